import PyProof.Rows.All
import Wide.All
import OpenK.AllK
import Wide.FinOn
import PyProof.ListRange
import HandS.ForMost
import HandS.RevTup
import HandS.Rev
import HandS.Wide
import HandS.Defaults
import HandS.Conv
import HandS.IsInst
import HandS.Style
import HandS.Steps
import HandS.TupAny
import HandS.TupMul
import HandS.Zip
import HandS.HeadEnd
import KE.GoesMore
import HandS.ExcInit
import HandS.ExcField
import HandS.ExcIs
import KE.KExcIs
import HandS.ExcOwn
import HandS.ClsMeth
import HandS.ForExc
import PyProof.TupleKey
import PyProof.DictRoadsH
import KE.KDictSum
import HandS.Nested
import HandS.Lambda
import HandS.EndTab
import KE.KIndexOf
import HandS.Deep
import HandS.More
import HandS.SortInts
import HandS.TupSets
import HandS.Head0
import HandS.Head1
import HandS.Head2
import HandS.HeadHook1
import HandS.HeadHook2
import HandS.HeadHook4
import HandS.SortKw
import HandS.TupLen
import KE.DataMinMax
import HandS.Iter
import HandS.SetFor
import PySem.Challenge.RW_wherefrom_k24_words_joined
set_option Elab.async false
set_option linter.all false
set_option maxRecDepth 100000
set_option maxHeartbeats 0
/-! list(reversed(xs)), xs a list -/
namespace Wf
open PySem PySem.Spec PyProof.Rows L2
section
variable {prog : Program} {w : World} {A : Around} {E : Value → Shared → Prop} {s : Shared}
theorem initRev {R : Result → Shared → Prop} {it l S : Addr} {its : Array Value} (hh : A.handled = none) (hi : s.heap.IsRevIter it l ((its.size : Int) - 1)) (hl : s.heap.IsList l its) (hne : l ≠ it) (hn : its.size ≤ sizeLine)
    (hS : s.heap.get? S = some { cls := .type "list", data := .seq #[] }) (hSi : S ≠ it) (hSl : S ≠ l)
    (hR : ∀ (h' : Heap) (tk : Nat) (acc : Array Value) (c : Nat), (∀ b o, b ≠ S → b ≠ it → s.heap.get? b = some o → h'.get? b = some o) → h'.get? S = some { cls := .type "list", dict := none, data := .seq acc c, slots := #[] } →
      ItemsOf (fun i v => its[its.size - 1 - i]? = some v) acc its.size → R (.ok (.ret .none)) { s with heap := h', toks := tk }) :
    wpAny (model prog w) A.in1 (Builtin.«list.__init__» ⟨[.ref S, .ref it], []⟩)
      (fun fin s' => match fin with | .done f => R (.ok f) s' | .again c' => c'.quiet = true ∧ codeAny (model prog w) A c' R s') (fun e s' => R (.error e) s') s := by
  have W := (Walks.listRev (prog := prog) (w := w) (A := A.in1) hh it l hne its).toS
  have hSf : S ∉ [it, l] := by simp only [List.mem_cons, List.not_mem_nil, or_false, not_or]; exact ⟨hSi, hSl⟩
  have e0 : ((its.size : Nat) : Int) - 1 - ((0 : Nat) : Int) = (its.size : Int) - 1 := by omega
  show wpAny _ A.in1 (Builtin.List.listItems (.ref S) >>= fun old => Builtin.List.listUpdate (.ref S) (fun _ => #[]) >>= fun _ => letGo old.toList.reverse >>= fun _ => Builtin.List.listExtendWith (.ref S) (.ref it) .none) _ _ s
  refine wpAny_bind ?_
  unfold Builtin.List.listItems
  refine wpAny_bind (wpAny_seqItems hS rfl (wpAny_pure ?_))
  show wpAny _ A.in1 (updateSeq S (fun _ => #[]) >>= fun _ => letGo (#[] : Array Value).toList.reverse >>= fun _ => Builtin.List.listExtendWith (.ref S) (.ref it) .none) _ _ s
  refine wpAny_bind (wpAny_updateSeq hS rfl ?_)
  have hS2 := Heap.get?_update_self (Obj.mapSeq (fun _ => (#[] : Array Value))) hS rfl
  have oth : ∀ b o, b ≠ S → s.heap.get? b = some o → (s.heap.update S (Obj.mapSeq (fun _ => (#[] : Array Value)))).get? b = some o := fun b o hb e => (Heap.get?_update_other _ _ (Ne.symm hb)).trans e
  refine wpAny_bind (wpAny_letGo ?_)
  have hi2 : (s.heap.update S (Obj.mapSeq (fun _ => (#[] : Array Value)))).IsRevIter it l ((its.size : Int) - 1) := hi.at fun o e => oth it o (Ne.symm hSi) e
  have hl2 : (s.heap.update S (Obj.mapSeq (fun _ => (#[] : Array Value)))).IsList l its := by
    obtain ⟨o, e, r⟩ := hl
    exact ⟨o, oth l o (Ne.symm hSl) e, r⟩
  have hT : ({ s with heap := s.heap.update S (Obj.mapSeq (fun _ => (#[] : Array Value))) } : Shared).TypeIs (.ref it) "list_reverseiterator" := Heap.IsRevIter.typeIs (s := { s with heap := s.heap.update S (Obj.mapSeq (fun _ => (#[] : Array Value))) }) hi2
  have h1 : Builtin.List.listSameRef (.ref S) (.ref it) = false := by simp [Builtin.List.listSameRef, hSi]
  unfold Builtin.List.listExtendWith
  refine wpAny_bind (wpAny_typeOf hT ?_)
  rw [if_neg (by rw [h1]; decide)]
  refine wpAny_bind (wpAny_pyIter_revIter (s := { s with heap := s.heap.update S (Obj.mapSeq (fun _ => (#[] : Array Value))) }) hi2 ?_)
  refine wpAny_bind (wpAny_holding ?_)
  unfold Builtin.List.listLengthHint
  refine wpAny_bind (wpAny_specialOf hT RT.nolen_lri ?_)
  show wpAny _ A.in1 (specialOf (Value.ref it) (Str.ofString "__length_hint__") >>= _) _ _ _
  refine wpAny_bind (wpAny_specialOf hT RT.hint_lri ?_)
  generalize hid : ("list_reverseiterator.__length_hint__" : String) = id0
  wp_delta
  rw [show splitId id0 = some ("list_reverseiterator", "__length_hint__") from by subst hid; decide +kernel]
  subst hid
  refine wpAny_bind (wpAny_isInstance (b := true) hT (by rw [isSubtype_type]; kernel_rfl) ?_)
  refine wpAny_pure ?_
  rw [if_neg (by decide)]
  refine wpAny_pure ⟨plainId_quiet F.plain_extend_loop _, codeAny_extend_loopS W hn _ hSf _ its.size 0 _ _ _ rfl (Nat.zero_le _) ⟨Nat.zero_le _, by rw [e0]; exact hi2, hl2⟩ hS2 (ItemsOf.nil _) fun s' acc' c' hm hS' hacc => ?_⟩
  rw [Moved.eq_with hm]
  refine hR s'.heap s'.toks acc' c' (fun b o hb hbi e => hm.heap b o (fun hmem => ?_) (oth b o hb e)) hS' hacc
  rcases List.mem_cons.mp hmem with e' | hmem
  · exact hb e'
  · exact hbi (List.mem_singleton.mp hmem)
theorem callRev {it l : Addr} {its : Array Value} {Q : Value → Shared → Prop} (hh : A.handled = none) (hi : s.heap.IsRevIter it l ((its.size : Int) - 1)) (hl : s.heap.IsList l its) (hne : l ≠ it) (hn : its.size ≤ sizeLine)
    (hQ : ∀ (h' : Heap) (tk : Nat) (acc : Array Value) (c : Nat), (∀ b o, b ≠ it → s.heap.get? b = some o → h'.get? b = some o) → h'.get? s.heap.objs.size = some { cls := .type "list", dict := none, data := .seq acc c, slots := #[] } →
      ItemsOf (fun i v => its[its.size - 1 - i]? = some v) acc its.size → Q (.ref s.heap.objs.size) { s with heap := h', toks := tk }) :
    wpAny (model prog w) A (call (.type "list") [.ref it]) Q E s := by
  refine callType_codes (Q₁ := fun obj s₁ => obj = .ref s.heap.objs.size ∧ s₁ = { s with heap := s.heap.push { cls := .type "list", data := .seq #[] } }) F.called_list (F.typeCall_list_1 _) F.entry_list_init (code_list_new _ ⟨rfl, rfl⟩) fun obj s₁ h₁ => ?_
  obtain ⟨rfl, rfl⟩ := h₁
  obtain ⟨oi, hoi, _⟩ := id hi
  obtain ⟨ol, hol, _⟩ := id hl
  have hS : (s.heap.push { cls := .type "list", data := .seq #[] }).get? s.heap.objs.size = some { cls := .type "list", data := .seq #[] } := Heap.get?_push_size _ rfl
  refine ⟨⟨_, hS, rfl⟩, F.args_list_init_2 _ _, initRev (s := { s with heap := s.heap.push { cls := .type "list", data := .seq #[] } }) (A := A.in1) hh (hi.at fun o e => Heap.get?_push_of_some _ e) (hl.push _) hne hn hS (Nat.ne_of_gt (Heap.lt_size hoi)) (Nat.ne_of_gt (Heap.lt_size hol)) fun h' tk acc c hk hS' hacc => ?_⟩
  exact ⟨rfl, hQ h' tk acc c (fun b o hb e => hk b o (Nat.ne_of_lt (Heap.lt_size e)) hb (Heap.get?_push_of_some _ e)) hS' hacc⟩
end
/-- list(reversed(x)), x a list: a new list -/
def tLstRev (K : PySem.W.Frag) (te : TE) : TE := fun σ H Q => te σ H fun v H1 => ∃ (a : Addr) (xs : List V), v = .ref a ∧ SqL K H1 a xs ∧ ∀ q, H1 q = none → Q (.ref q) (upd H1 q (.lst xs.reverse))
section
variable {X : Cx}
theorem pe_lstRev {e : Expr} {te : TE} {p p2 pos pos2 : Pos} (hc : X.calm = true) (hg : Gl X "list") (hm : X.mg "list" = none) (hg2 : Gl X "reversed") (hm2 : X.mg "reversed" = none) (he : PE X e te)
    (hs : starEach [e] X.env = (false, eval e X.env) :: starEach [] X.env := by rfl)
    (hs2 : starEach [.Call (.Name "reversed" p2) [e] [] pos2] X.env = (false, eval (.Call (.Name "reversed" p2) [e] [] pos2) X.env) :: starEach [] X.env := by rfl) :
    PE X (.Call (.Name "list" p) [.Call (.Name "reversed" p2) [e] [] pos2] [] pos) (tLstRev X.K te) := by
  refine ⟨fun pins s σ H Q I h => ?_⟩
  refine Call_ (ld_blt I hg hm boot_list (PyProof.Rows.callWith_type1 (args_cons (Call_ (ld_blt I hg2 hm2 PyProof.Rows.boot_reversed (PyProof.Rows.callWith_type1 (args_cons (thn (he.run pins s σ H _ I h) fun u s1 ⟨v, H1, I1, r1, q1⟩ => args_nil ?_) hs) hs rfl))) hs2) hs2 rfl))
  obtain ⟨a, xs, ev, hq, q⟩ := q1
  subst ev
  obtain rfl : u = Value.ref a := r1
  obtain ⟨its, rv, p', hz⟩ := I1.list hq
  refine call_reversed_list p'.isList (args_nil ?_)
  have k0 : ∀ b o, s1.heap.get? b = some o → (s1.heap.push (revObj a ((its.toArray.size : Int) - 1))).get? b = some o := fun b o e => Heap.get?_push_of_some _ e
  have I2 : Inv X pins σ H1 { s1 with heap := s1.heap.push (revObj a ((its.toArray.size : Int) - 1)) } := I1.kept (t' := s1.toks) k0
  obtain ⟨f0, f1, f2, f3, f4, f5⟩ := I1.fpOk (H' := H1) (b := s1.heap.objs.size) (Nat.le_refl _) (I1.hok.fresh (Nat.le_refl _))
  have hl := p'.isList
  obtain ⟨ol, hol, _⟩ := id hl
  have hne : a ≠ s1.heap.objs.size := Nat.ne_of_lt (Heap.lt_size hol)
  have hn : its.toArray.size ≤ sizeLine := by rw [List.size_toArray, ← rv.length]; exact hz
  refine callRev (s := { s1 with heap := s1.heap.push (revObj a ((its.toArray.size : Int) - 1)) }) (I1.ok.hd hc) ⟨_, Heap.get?_push_size _ rfl, rfl, rfl⟩ (hl.push _) hne hn fun h' tk acc c hk hS hi => ?_
  have old : ∀ b o, s1.heap.get? b = some o → h'.get? b = some o := fun b o e => hk b o (Nat.ne_of_lt (Heap.lt_size e)) (k0 b o e)
  have sz : s1.heap.objs.size ≤ (s1.heap.push (revObj a ((its.toArray.size : Int) - 1))).objs.size := by rw [Heap.size_push]; exact Nat.le_succ _
  refine ⟨.ref _, _, I1.laid (t' := tk) old sz (show ObjOk X.prog X.w _ _ _ (.lst xs.reverse) from ⟨by rw [List.length_reverse]; exact hz, acc.toList, c, RT.vals_rev rv hi, ?_⟩), rfl, q _ (I1.hok.fresh sz)⟩
  rw [Array.toArray_toList]
  exact hS
end
end Wf
namespace Wf
open PySem PySem.Spec L2
/-! ### short words for the operators' readings -/
abbrev qAdd : R2 := rI0 fun i j => .int (i + j)
abbrev qSub : R2 := rI0 fun i j => .int (i - j)
abbrev qMul : R2 := rI CMul fun i j => .int (i * j)
abbrev qFdiv : R2 := rI CDiv fun i j => .int (i / j)
abbrev qFdivW : R2 := rI CDivW fun i j => .int (i / j)
abbrev qMod : R2 := rI (fun _ j => 0 < j) fun i j => .int (i % j)
abbrev qPow : R2 := rI CPow fun i j => .int (i ^ j.toNat)
abbrev qNeg : V → Hp → VK → Prop := rU fun i => .int (-i)
abbrev qLt : R2 := rI0 fun i j => .bl (decide (i < j))
abbrev qLe : R2 := rI0 fun i j => .bl (decide (i ≤ j))
abbrev qGt : R2 := rI0 fun i j => .bl (decide (j < i))
abbrev qGe : R2 := rI0 fun i j => .bl (decide (j ≤ i))
abbrev qMax2 : List V → Hp → VK → Prop := fun xs H Q => ∃ i j, xs = [.int i, .int j] ∧ Q (.int (if j > i then j else i)) H
abbrev qMin2 : List V → Hp → VK → Prop := fun xs H Q => ∃ i j, xs = [.int i, .int j] ∧ Q (.int (if j < i then j else i)) H
abbrev qLen (K : PySem.W.Frag) : List V → Hp → VK → Prop := fun xs H Q => ∃ x n, xs = [x] ∧ LenV K x H n ∧ Q (.int n) H
abbrev qInt1 : List V → Hp → VK → Prop := fun xs H Q => (∃ i, xs = [.int i] ∧ Q (.int i) H) ∨ ∃ k, xs = [.bl k] ∧ Q (.int (if k then 1 else 0)) H
abbrev qListOf (K : PySem.W.Frag) : List V → Hp → VK → Prop := fun xs H Q => ∃ p ys, xs = [.ref p] ∧ (SqL K H p ys ∨ SqT K H p ys) ∧ ∀ l, H l = none → Q (.ref l) (upd H l (.lst ys))
abbrev qTupleOf (K : PySem.W.Frag) : List V → Hp → VK → Prop := fun xs H Q => ∃ p ys, xs = [.ref p] ∧ ((SqL K H p ys ∧ ∀ l, H l = none → Q (.ref l) (upd H l (.tup ys))) ∨ (SqT K H p ys ∧ Q (.ref p) H))
/-! ### a def of the module that is called by its name -/
structure Cal (P : Program) (w : World) (K : PySem.W.Frag) (mg : Str → Option Value) (base : Heap) (CX : CXT) (k : Nat) (x : Str) (ps : List Str) (sp : Sp) : Prop where
  ex : ∃ f fd, FnOk P w K mg base CX k f fd ps sp ∧ mg x = some (.ref f) ∧ PySem.W.keepIn K (.ref f) = true ∧ Binds K fd ps []
theorem pe_cal {X : Cx} {k j : Nat} {x : Str} {ps : List Str} {sp : Sp} {e : Expr} {es : List Expr} {t : TA} {p pos : Pos} (C : Cal X.prog X.w X.K X.mg X.base CX0 k x ps sp) (hr : Room j X.A) (hg : Gl X x) (ha : PA X (e :: es) t) (hk : k ≤ j := by decide)
    (hdb : (x == ("__debug__" : Str)) = false := by decide) (he : starEach (e :: es) X.env = (false, eval e X.env) :: starEach es X.env := by rfl) (hpl : (backTo pos (starEach es X.env)).any (·.1) = false := by rfl) :
    PE X (.Call (.Name x p) (e :: es) [] pos) (tCall sp [] E0 t) := by
  obtain ⟨f, fd, G, m, kp, b⟩ := C.ex
  exact pe_call G (hr.mono hk) hg m kp b .nil pass0 ha hdb he hpl
/-- the built-in names that the module leaves alone -/
structure Bl (mg : Str → Option Value) : Prop where
  b_len : mg "len" = none
  b_list : mg "list" = none
  b_tuple : mg "tuple" = none
  b_reversed : mg "reversed" = none
  b_range : mg "range" = none
  b_max : mg "max" = none
  b_min : mg "min" = none
  b_sum : mg "sum" = none
  b_all : mg "all" = none
  b_any : mg "any" = none
  b_zip : mg "zip" = none
  b_enumerate : mg "enumerate" = none
  b_isinstance : mg "isinstance" = none
  b_int : mg "int" = none
  b_bool : mg "bool" = none
  b_str : mg "str" = none
  b_repr : mg "repr" = none
  b_divmod : mg "divmod" = none
  b_abs : mg "abs" = none
  b_sorted : mg "sorted" = none
  b_set : mg "set" = none
  b_dict : mg "dict" = none
  b_pow : mg "pow" = none
  b_ValueError : mg "ValueError" = none
  b_IndexError : mg "IndexError" = none
/-! ### heaps: all but some addresses as before -/
def But (ds : List Addr) (H H' : Hp) : Prop := ∀ a o, a ∉ ds → H a = some o → H' a = some o
theorem But.refl (ds : List Addr) (H : Hp) : But ds H H := fun _ _ _ h => h
theorem But.trans {ds : List Addr} {H H1 H2 : Hp} (a : But ds H H1) (b : But ds H1 H2) : But ds H H2 := fun c o n h => b c o n (a c o n h)
/-! ### the deal: a dict of three numbers and a list of great ones -/
def dealK (s m n : Int) (l : Addr) : List (Key × V) := [(Sum.inr "seed", .int s), (Sum.inr "many", .int m), (Sum.inr "now", .int n), (Sum.inr "left", .ref l)]
structure Deal (H : Hp) (d l : Addr) : Prop where
  ex : ∃ (s m n : Int) (ns : List Int), H d = some (.dK (dealK s m n l)) ∧ H l = some (.lst (ns.map V.int)) ∧ 0 ≤ n ∧ ∀ x ∈ ns, 0 ≤ x
theorem key_ne {x y : Str} (h : (x == y) = false) : ¬ (Sum.inr x : Key) = Sum.inr y := fun e => by
  have := Sum.inr.inj e
  rw [this, beq_self_eq_true] at h
  cases h
theorem dk_seed {s m n : Int} {l : Addr} : valV (dealK s m n l) (Sum.inr "seed") = some (.int s) := valV_pos rfl
theorem dk_many {s m n : Int} {l : Addr} : valV (dealK s m n l) (Sum.inr "many") = some (.int m) := (valV_neg (key_ne (by decide +kernel))).trans (valV_pos rfl)
theorem dk_now {s m n : Int} {l : Addr} : valV (dealK s m n l) (Sum.inr "now") = some (.int n) :=
  (valV_neg (key_ne (by decide +kernel))).trans ((valV_neg (key_ne (by decide +kernel))).trans (valV_pos rfl))
theorem dk_left {s m n : Int} {l : Addr} : valV (dealK s m n l) (Sum.inr "left") = some (.ref l) :=
  (valV_neg (key_ne (by decide +kernel))).trans ((valV_neg (key_ne (by decide +kernel))).trans ((valV_neg (key_ne (by decide +kernel))).trans (valV_pos rfl)))
theorem dk_putNow {s m n k : Int} {l : Addr} : putK (dealK s m n l) (Sum.inr "now") (.int k) = dealK s m k l := by
  unfold putK
  rw [valV_any, dk_now, if_pos (show (some (V.int n)).isSome = true from rfl)]
  show [_, _, _, _] = _
  dsimp only
  rw [if_neg (key_ne (by decide +kernel)), if_neg (key_ne (by decide +kernel)), if_pos rfl, if_neg (key_ne (by decide +kernel))]
  rfl
theorem dk_putMany {s m n k : Int} {l : Addr} : putK (dealK s m n l) (Sum.inr "many") (.int k) = dealK s k n l := by
  unfold putK
  rw [valV_any, dk_many, if_pos (show (some (V.int m)).isSome = true from rfl)]
  show [_, _, _, _] = _
  dsimp only
  rw [if_neg (key_ne (by decide +kernel)), if_pos rfl, if_neg (key_ne (by decide +kernel)), if_neg (key_ne (by decide +kernel))]
  rfl
/-- d["x"], d in a slot -/
theorem rd_dk {σ : St} {H : Hp} {Q : VK} {i : Nat} {d : Addr} {kvs : List (Key × V)} {x : Str} {v : V} (h : H d = some (.dK kvs)) (hi : σ[i]? = some (some (.ref d))) (hv : valV kvs (Sum.inr x) = some v) (q : Q v H) : tDGet (tVar i) (tC (.str x)) σ H Q :=
  ⟨.ref d, hi, d, v, rfl, by rw [← hv]; exact DGet.k (k := Sum.inr x) h, q⟩
/-- d["x"] = e, the reading of e done before -/
theorem wr_dk {σ : St} {H : Hp} {D : Ends} {i : Nat} {d : Addr} {kvs kvs' : List (Key × V)} {x : Str} {v : V} (h : H d = some (.dK kvs)) (hi : σ[i]? = some (some (.ref d))) (hl : kvs.length < sizeLine) (hp : putK kvs (Sum.inr x) v = kvs') (q : D.nx σ (upd H d (.dK kvs'))) :
    tVar i σ H fun y H2 => tC (.str x) σ H2 fun z H3 => ∃ a H4, y = .ref a ∧ DPut H3 a z v H4 ∧ D.nx σ H4 :=
  ⟨.ref d, hi, d, upd H d (.dK kvs'), rfl, by rw [← hp]; exact DPut.k (k := Sum.inr x) h hl, q⟩
/-- the slots at the entry of a def of n names -/
def sN (n : Nat) (vs : List V) : St := vs.map some ++ List.replicate (n - vs.length) none
abbrev EndsQ (Q : VK) : Ends := { nx := fun _ H' => Q .non H', rt := Q }
abbrev FnP (K : PySem.W.Frag) (x : Str) (st : Stmt) (f : Addr) (fd : FuncData) : Prop := FunD K x x (defArgs st) (defBody st) (defScope st) [] [] f fd
/-! ### _law_draw -/
/-- a draw by n: some number from 0 on below n; the deal goes on, all else stands -/
def sp_draw : Sp := fun vs H Q _ => ∃ (d l : Addr) (n : Int), vs = [.ref d, .int n] ∧ 0 < n ∧ n < 2 ^ 200 ∧ Deal H d l ∧
  ∀ (k : Int) (H' : Hp), 0 ≤ k → k < n → But [d, l] H H' → Deal H' d l → Q (.int k) H'
def t_draw (K : PySem.W.Frag) : TS :=
  tSeq (tWhile (tAnd (tTest (tOp rEq (tDGet (tVar 0) (tC (.str "now"))) (tC (.int 0)))) (tTest (tOp qGt (tCB (qLen K) (tCons (tDGet (tVar 0) (tC (.str "left"))) (tNil))) (tC (.int 0))))) (sDPut (tVar 0) (tC (.str "now")) (tBM0 K "list" rPop (tDGet (tVar 0) (tC (.str "left"))))))
    (tSeq (tIfS (tTest (tOp qGt (tDGet (tVar 0) (tC (.str "now"))) (tC (.int 0)))) (tSeq (tAsg (tOp qMod (tDGet (tVar 0) (tC (.str "now"))) (tVar 1)) (gName 4))
    (tSeq (sDPut (tVar 0) (tC (.str "now")) (tOp qFdivW (tDGet (tVar 0) (tC (.str "now"))) (tVar 1)))
    (tRet (tVar 4)))) (tNext))
    (tSeq (sDPut (tVar 0) (tC (.str "many")) (tOp qAdd (tDGet (tVar 0) (tC (.str "many"))) (tC (.int 1))))
    (tSeq (tAsg (tOp qMod (tOp qMul (tOp qAdd (tDGet (tVar 0) (tC (.str "seed"))) (tOp qMul (tC (.int 40692)) (tDGet (tVar 0) (tC (.str "many"))))) (tC (.int 48271))) (tC (.int 2147483629))) (gName 2))
    (tSeq (tAsg (tOp qMod (tOp qAdd (tOp qAdd (tOp qMul (tVar 2) (tVar 2)) (tOp qMul (tC (.int 7919)) (tDGet (tVar 0) (tC (.str "many"))))) (tDGet (tVar 0) (tC (.str "seed")))) (tC (.int 2147483563))) (gName 3))
    (tRet (tOp qMod (tOp qFdiv (tOp qAdd (tOp qMul (tOp qMod (tOp qMul (tVar 3) (tVar 3)) (tC (.int 2147483647))) (tC (.int 30103))) (tVar 2)) (tC (.int 4096))) (tVar 1)))))))
theorem ifd {p A B : Prop} [Decidable p] (h1 : p → A) (h2 : ¬ p → B) : if decide p = true then A else B := by
  by_cases c : p
  · rw [if_pos (decide_eq_true c)]
    exact h1 c
  · rw [if_neg (by simpa using c)]
    exact h2 c
theorem mp {j : Int} (h : decide (0 < j) = true) : 0 < j := of_decide_eq_true h
theorem cm_mod {a b j : Int} (h : decide (0 < b) = true) (h2 : decide (b ≤ 2 ^ 64) = true) : CMul (a % b) j := by
  have h1 := of_decide_eq_true h
  have h2 := of_decide_eq_true h2
  have h3 := Int.emod_nonneg a (show b ≠ 0 by omega)
  have h4 := Int.emod_lt_of_pos a h1
  exact .inl ⟨by omega, by omega⟩
theorem len4 {s m n : Int} {l : Addr} : (dealK s m n l).length < sizeLine := by show 4 < sizeLine; decide
theorem mod_lt {a b : Int} (h : 0 < b) : 0 ≤ a % b ∧ a % b < b := ⟨Int.emod_nonneg _ (by omega), Int.emod_lt_of_pos _ h⟩
theorem pure_draw {K : PySem.W.Frag} (vs : List V) (H : Hp) (Q : VK) (E : XK) (h : sp_draw vs H Q E) : t_draw K (EndsQ Q) (sN 5 vs) H := by
  obtain ⟨d, l, n, rfl, hn, hn2, hD, k⟩ := h
  show t_draw K _ [some (.ref d), some (.int n), none, none, none] H
  -- the loop: the deal stands, all else too
  refine ⟨fun m σ H1 => σ = [some (.ref d), some (.int n), none, none, none] ∧ But [d, l] H H1 ∧ ∃ (s t n1 : Int) (ns : List Int), H1 d = some (.dK (dealK s t n1 l)) ∧ H1 l = some (.lst (ns.map V.int)) ∧ 0 ≤ n1 ∧ (∀ x ∈ ns, 0 ≤ x) ∧ m = ns.length, ?_, ?_⟩
  · obtain ⟨s, t, n1, ns, h1, h2, h3, h4⟩ := hD.ex
    exact ⟨_, rfl, .refl _ _, s, t, n1, ns, h1, h2, h3, h4, rfl⟩
  rintro m σ H1 ⟨rfl, hB, s, t, n1, ns, h1, h2, h3, h4, rfl⟩
  have hne : d ≠ l := ne_of h1 h2 (by intro z; cases z)
  refine rd_dk h1 rfl dk_now ⟨rfl, _, rfl, ?_⟩
  have after : ∀ ns : List Int, H1 l = some (.lst (ns.map V.int)) → (∀ x ∈ ns, 0 ≤ x) → tSeq (tIfS (tTest (tOp qGt (tDGet (tVar 0) (tC (.str "now"))) (tC (.int 0)))) (tSeq (tAsg (tOp qMod (tDGet (tVar 0) (tC (.str "now"))) (tVar 1)) (gName 4))
    (tSeq (sDPut (tVar 0) (tC (.str "now")) (tOp qFdivW (tDGet (tVar 0) (tC (.str "now"))) (tVar 1)))
    (tRet (tVar 4)))) (tNext))
    (tSeq (sDPut (tVar 0) (tC (.str "many")) (tOp qAdd (tDGet (tVar 0) (tC (.str "many"))) (tC (.int 1))))
    (tSeq (tAsg (tOp qMod (tOp qMul (tOp qAdd (tDGet (tVar 0) (tC (.str "seed"))) (tOp qMul (tC (.int 40692)) (tDGet (tVar 0) (tC (.str "many"))))) (tC (.int 48271))) (tC (.int 2147483629))) (gName 2))
    (tSeq (tAsg (tOp qMod (tOp qAdd (tOp qAdd (tOp qMul (tVar 2) (tVar 2)) (tOp qMul (tC (.int 7919)) (tDGet (tVar 0) (tC (.str "many"))))) (tDGet (tVar 0) (tC (.str "seed")))) (tC (.int 2147483563))) (gName 3))
    (tRet (tOp qMod (tOp qFdiv (tOp qAdd (tOp qMul (tOp qMod (tOp qMul (tVar 3) (tVar 3)) (tC (.int 2147483647))) (tC (.int 30103))) (tVar 2)) (tC (.int 4096))) (tVar 1))))))
      { nx := fun _ H' => Q .non H', rt := Q } [some (.ref d), some (.int n), none, none, none] H1 := by
    intro ns h2 h4
    refine rd_dk h1 rfl dk_now ⟨_, _, rfl, rfl, _, rfl, ?_⟩
    refine ifd (fun c => ?_) (fun c => ?_)
    · refine rd_dk h1 rfl dk_now ⟨_, rfl, _, _, rfl, rfl, hn, ?_⟩
      refine rd_dk h1 rfl dk_now ⟨_, rfl, _, _, rfl, rfl, wide_div hn (b := 200) (by omega) (by decide) (by decide), ?_⟩
      refine wr_dk h1 rfl len4 dk_putNow ⟨_, rfl, ?_⟩
      obtain ⟨m1, m2⟩ := mod_lt (a := n1) hn
      refine k _ _ m1 m2 (hB.trans fun a o ha e => ?_) ⟨s, t, n1 / n, ns, upd_same, ?_, Int.ediv_nonneg h3 (by omega), h4⟩
      · rw [upd_ne (by intro z; subst z; exact ha List.mem_cons_self)]
        exact e
      · rw [upd_ne (Ne.symm hne)]
        exact h2
    · refine rd_dk h1 rfl dk_many ⟨_, _, rfl, rfl, ?_⟩
      refine wr_dk h1 rfl len4 dk_putMany ?_
      refine rd_dk upd_same rfl dk_seed ?_
      refine rd_dk upd_same rfl dk_many ⟨_, _, rfl, rfl, .inl ⟨by decide, by decide⟩, _, _, rfl, rfl, _, _, rfl, rfl, .inr ⟨by decide, by decide⟩, _, _, rfl, rfl, mp rfl, ?_⟩
      refine ⟨_, rfl, _, rfl, _, _, rfl, rfl, cm_mod rfl rfl, ?_⟩
      refine rd_dk upd_same rfl dk_many ⟨_, _, rfl, rfl, .inl ⟨by decide, by decide⟩, _, _, rfl, rfl, ?_⟩
      refine rd_dk upd_same rfl dk_seed ⟨_, _, rfl, rfl, _, _, rfl, rfl, mp rfl, ?_⟩
      refine ⟨_, rfl, _, rfl, _, _, rfl, rfl, cm_mod rfl rfl, _, _, rfl, rfl, mp rfl, _, _, rfl, rfl, cm_mod rfl rfl, _, rfl, _, _, rfl, rfl, _, _, rfl, rfl, ⟨by decide, by decide⟩, _, rfl, _, _, rfl, rfl, hn, ?_⟩
      refine k _ _ (mod_lt hn).1 (mod_lt hn).2 (hB.trans fun a o ha e => ?_) ⟨s, t + 1, n1, ns, upd_same, ?_, h3, h4⟩
      · rw [upd_ne (by intro z; subst z; exact ha List.mem_cons_self)]
        exact e
      · rw [upd_ne (Ne.symm hne)]
        exact h2
  refine ifd (fun c => ?_) (fun c => ?_)
  · refine rd_dk h1 rfl dk_left ⟨_, (ns.map V.int).length, rfl, .inl ⟨_, SqL.of h2, rfl⟩, _, _, rfl, rfl, _, rfl, ?_⟩
    refine ifd (fun c2 => ?_) (fun c2 => ?_)
    · refine ⟨fun σ' H' => ∃ m', m' < ns.length ∧ _, fun _ _ h => h, ?_⟩
      have hpos : ns ≠ [] := by
        rintro rfl
        exact absurd c2 (by decide)
      refine rd_dk h1 rfl dk_left ⟨.inl ⟨rfl, _, SqL.of h2⟩, l, ns.map V.int, .int (ns.getLast hpos), rfl, rfl, h2, ?_, ?_⟩
      · rw [List.getElem?_map, List.length_map, ← List.getLast?_eq_getElem?, List.getLast?_eq_some_getLast hpos] <;> rfl
      · refine wr_dk (by rw [upd_ne hne]; exact h1) rfl len4 dk_putNow ⟨ns.length - 1, ?_, rfl, ?_, s, t, ns.getLast hpos, ns.dropLast, upd_same, ?_, h4 _ (List.getLast_mem hpos), fun x hx => h4 x ((List.dropLast_sublist ns).subset hx), by rw [List.length_dropLast]⟩
        · have := List.length_pos_iff.mpr hpos
          omega
        · intro a o ha e
          have h1' := hB a o ha e
          rw [upd_ne (by intro z; subst z; exact ha List.mem_cons_self), upd_ne (by intro z; subst z; exact ha (by simp))]
          exact h1'
        · rw [upd_ne (Ne.symm hne), upd_same, List.map_dropLast]
    · exact after ns h2 h4
  · exact after ns h2 h4
end Wf
/-! list(zip(t, u)), t and u tuples -/
namespace Wf
open PySem PySem.Spec
section
variable {prog : Program} {w : World} {A : Around} {E : Value → Shared → Prop} {s : Shared}
/-- a zip that has handed out a tuple which lives: field 0 tells where -/
abbrev zObj (x0 : Value) (b : Bool) (TI TO : Addr) : Obj := { cls := .type "zip", data := .fields #[x0, .bool b, .bool false, .ref TI, .ref TO] }
theorem alive {a : Addr} {Q : Option Obj → Shared → Prop} (h : Q (s.heap.get? a) s) : wpAny (model prog w) A (loadIfAlive a) Q E s := fun Γ p _ => by
  show Sem.wp _ _ (.loadIfAlive a .pure) _ _ _ _
  rw [Sem.wp_loadIfAlive]
  exact h
/-- the look at the owned tuple: it is not free -/
theorem notFree {z a TI TO : Addr} {b : Bool} {oa : Obj} {Q : Bool → Shared → Prop} (hz : s.heap.get? z = some (zObj (rawInt a) b TI TO)) (ha : s.heap.get? a = some oa)
    (h : ∀ h', h'.get? z = some (zObj (rawInt a) true TI TO) → Heap.SameBut z s.heap h' → Q false { s with heap := h' }) : wpAny (model prog w) A (Builtin.SmallTypes.ownedTupleIsFree (.ref z)) Q E s := by
  unfold Builtin.SmallTypes.ownedTupleIsFree
  refine wpAny_bind (wpAny_field hz rfl (x := rawInt a) rfl ?_)
  show wpAny _ _ (loadIfAlive ((a : Int).toNat) >>= _) _ _ _
  rw [Int.toNat_natCast]
  refine wpAny_bind (alive ?_)
  rw [ha]
  show wpAny _ _ (field (.ref z) 1 >>= _) _ _ _
  refine wpAny_bind (wpAny_field hz rfl (x := .bool b) rfl ?_)
  cases b with
  | true =>
    show wpAny _ _ (pure false) _ _ _
    exact wpAny_pure (h s.heap hz (Heap.SameBut.refl _ _))
  | false =>
    show wpAny _ _ (setField (.ref z) 1 (.bool true) >>= fun _ => pure false) _ _ _
    exact wpAny_bind (wpAny_setField_rec hz (by simp) fun h1 hz1 hs1 => wpAny_pure (h h1 hz1 hs1))
/-- the next pair of a zip whose tuple is out -/
theorem nextOut {z TI TO i1 i2 l1 l2 a : Addr} {k : Nat} {b : Bool} {oa : Obj} {xs ys : Array Value} {x y : Value} {Q : Option Value → Shared → Prop} (D : ZipApart z TI TO i1 i2 l1 l2)
    (hz : s.heap.get? z = some (zObj (rawInt a) b TI TO)) (ha : s.heap.get? a = some oa) (hTI : IsPair s.heap TI (.ref i1) (.ref i2))
    (h1 : s.heap.IsTupleIter i1 l1 k) (h2 : s.heap.IsTupleIter i2 l2 k) (hl1 : s.heap.IsTuple l1 xs) (hl2 : s.heap.IsTuple l2 ys) (hx : xs[k]? = some x) (hy : ys[k]? = some y)
    (hQ : ∀ h', h'.get? z = some (zObj (rawInt a) true TI TO) → h'.IsTupleIter i1 l1 (k + 1) → h'.IsTupleIter i2 l2 (k + 1) → IsPair h' s.heap.objs.size x y → h'.objs.size = s.heap.objs.size + 1 →
      (∀ c o, c ≠ z → c ≠ i1 → c ≠ i2 → s.heap.get? c = some o → h'.get? c = some o) → Q (some (.ref s.heap.objs.size)) { s with heap := h' }) : wpAny (model prog w) A (pyNext (.ref z)) Q E s := by
  have hT : s.TypeIs (.ref z) "zip" := ⟨_, hz, rfl⟩
  unfold pyNext
  refine wpAny_bind (wpAny_attempt (wpAny_callSpecial?_slot (name := Str.ofString "__next__") hT F.slot_zip_next (wpAny_call_entry F.slot_zip_next hT F.entry_zip_next ?_ (F.args_zip_next_1 _))))
  show wpAny _ _ (field (.ref z) 2 >>= _) _ _ _
  refine wpAny_bind (wpAny_field hz rfl (x := .bool false) rfl ?_)
  show wpAny _ _ (field (.ref z) 3 >>= _) _ _ _
  refine wpAny_bind (wpAny_field hz rfl (x := .ref TI) rfl ?_)
  refine wpAny_bind (wpAny_seqItems hTI rfl ?_)
  show wpAny _ _ (Builtin.SmallTypes.ownedTupleIsFree (.ref z) >>= _) _ _ _
  refine wpAny_bind (notFree hz ha fun g hg sg => ?_)
  simp only [Bool.false_eq_true, if_false]
  refine wpAny_bind ?_
  rw [← Array.forIn_toList]
  simp only [List.forIn_cons, List.forIn_nil]
  refine wpAny_bind (wpAny_bind (wpAny_holding ?_))
  show wpAny _ _ (Builtin.SmallTypes.nextOf (.ref i1) >>= _) _ _ _
  refine wpAny_bind (RZ.nextOf_tuple_item (h1.extBut sg.extBut D.i1z) (hl1.extBut sg.extBut D.l1z) hx fun g2 j1 sg2 => wpAny_pure ?_)
  refine wpAny_pure ?_
  refine wpAny_bind (wpAny_bind (wpAny_holding ?_))
  show wpAny _ _ (Builtin.SmallTypes.nextOf (.ref i2) >>= _) _ _ _
  refine wpAny_bind (RZ.nextOf_tuple_item ((h2.extBut sg.extBut D.i2z).extBut sg2.extBut D.i12.symm) ((hl2.extBut sg.extBut D.l2z).extBut sg2.extBut D.l2i1) hy fun g3 j2 sg3 => wpAny_pure ?_)
  refine wpAny_pure ?_
  refine wpAny_pure ?_
  show wpAny _ _ (newTuple [x, y] >>= fun v => ret v) _ _ _
  refine wpAny_bind (wpAny_newTuple ?_ (by show 2 ≤ sizeLine; decide))
  refine wpAny_pure ⟨_, rfl, wpAny_pure ?_⟩
  have z3 : g3.objs.size = s.heap.objs.size := by rw [sg3.1, sg2.1, sg.1]
  have up : ∀ c o, c ≠ z → c ≠ i1 → c ≠ i2 → s.heap.get? c = some o → g3.get? c = some o := fun c o n0 n1 n2 e => sg3.extBut _ _ n2 (sg2.extBut _ _ n1 (sg.extBut _ _ n0 e))
  show Q (some (.ref g3.objs.size)) { s with heap := g3.push { cls := .type "tuple", data := .seq #[x, y] } }
  have gg : IsPair (g3.push { cls := .type "tuple", data := .seq #[x, y] }) g3.objs.size x y := Heap.get?_push_size _ rfl
  rw [z3] at gg ⊢
  refine hQ _ (Heap.get?_push_of_some _ (sg3.extBut _ _ D.i2z.symm (sg2.extBut _ _ D.i1z.symm hg))) ((j1.extBut sg3.extBut D.i12).at fun o e => Heap.get?_push_of_some _ e) (j2.at fun o e => Heap.get?_push_of_some _ e) gg (by rw [Heap.size_push, z3]) fun c o n0 n1 n2 e => Heap.get?_push_of_some _ (up c o n0 n1 n2 e)
/-- such a zip at its end -/
theorem endOut {z TI TO i1 i2 l1 l2 a : Addr} {k : Nat} {b : Bool} {oa : Obj} {xs ys : Array Value} {Q : Option Value → Shared → Prop} (hh : A.handled = none) (D : ZipApart z TI TO i1 i2 l1 l2)
    (hz : s.heap.get? z = some (zObj (rawInt a) b TI TO)) (ha : s.heap.get? a = some oa) (hTI : IsPair s.heap TI (.ref i1) (.ref i2))
    (h1 : s.heap.IsTupleIter i1 l1 k) (h2 : s.heap.IsTupleIter i2 l2 k) (hl1 : s.heap.IsTuple l1 xs) (hl2 : s.heap.IsTuple l2 ys) (hx : xs[k]? = none)
    (hQ : ∀ h', (∀ c o, c ≠ z → c ≠ i1 → c ≠ i2 → s.heap.get? c = some o → h'.get? c = some o) → Q none { s with heap := h' }) : wpAny (model prog w) A (pyNext (.ref z)) Q E s := by
  have hT : s.TypeIs (.ref z) "zip" := ⟨_, hz, rfl⟩
  unfold pyNext
  refine wpAny_bind (wpAny_attempt (wpAny_callSpecial?_slot (name := Str.ofString "__next__") hT F.slot_zip_next (wpAny_call_entry F.slot_zip_next hT F.entry_zip_next ?_ (F.args_zip_next_1 _))))
  show wpAny _ _ (field (.ref z) 2 >>= _) _ _ _
  refine wpAny_bind (wpAny_field hz rfl (x := .bool false) rfl ?_)
  show wpAny _ _ (field (.ref z) 3 >>= _) _ _ _
  refine wpAny_bind (wpAny_field hz rfl (x := .ref TI) rfl ?_)
  refine wpAny_bind (wpAny_seqItems hTI rfl ?_)
  show wpAny _ _ (Builtin.SmallTypes.ownedTupleIsFree (.ref z) >>= _) _ _ _
  refine wpAny_bind (notFree hz ha fun g hg sg => ?_)
  simp only [Bool.false_eq_true, if_false]
  refine wpAny_bind ?_
  rw [← Array.forIn_toList]
  simp only [List.forIn_cons, List.forIn_nil]
  refine wpAny_bind (wpAny_bind (wpAny_holding ?_))
  show wpAny _ _ (Builtin.SmallTypes.nextOf (.ref i1) >>= _) _ _ _
  refine wpAny_bind (RZ.nextOf_tuple_end hh (h1.extBut sg.extBut D.i1z) (hl1.extBut sg.extBut D.l1z) hx fun g2 e sg2 he => ?_)
  obtain ⟨o, ho, hc⟩ := he
  refine wpAny_bind (wpAny_isInstance (T := "StopIteration") (b := true) ⟨o, ho, hc⟩ isSubtype_stop ?_)
  exact wpAny_pure (hQ g2 fun c o n0 n1 _ e => sg2 _ _ n1 (sg.extBut _ _ n0 e))
theorem nolen_zip : typeLookup (.type "zip") "__len__" = pure none := by rw [typeLookup_type, builtinLookup_eq_fast]; kernel_rfl
theorem nohint_zip : typeLookup (.type "zip") "__length_hint__" = pure none := by rw [typeLookup_type, builtinLookup_eq_fast]; kernel_rfl
/-- where the walk of a zip of two tuples stands -/
structure ZAt (h : Heap) (z TI TO i1 i2 l1 l2 S n0 : Addr) (xs ys : Array Value) (i : Nat) : Prop where
  own : (i = 0 ∧ IsZip h z TI TO .none ∧ ∃ a b, IsPair h TO a b) ∨ (0 < i ∧ ∃ b, h.get? z = some (zObj (rawInt n0) b TI TO))
  ti : IsPair h TI (.ref i1) (.ref i2)
  it1 : h.IsTupleIter i1 l1 i
  it2 : h.IsTupleIter i2 l2 i
  t1 : h.IsTuple l1 xs
  t2 : h.IsTuple l2 ys
  lst : ∃ acc c, h.get? S = some { cls := .type "list", dict := none, data := .seq acc c, slots := #[] } ∧ acc.toList = (List.range i).map fun j => Value.ref (n0 + j)
  sz : h.objs.size = n0 + i
  made : ∀ j, j < i → ∃ x y, xs[j]? = some x ∧ ys[j]? = some y ∧ IsPair h (n0 + j) x y
theorem loopZip {R : Result → Shared → Prop} {z TI TO i1 i2 l1 l2 S n0 : Addr} {xs ys : Array Value} {res : Value} (hh : A.handled = none) (D : ZipApart z TI TO i1 i2 l1 l2) (hn : xs.size = ys.size) (hl : xs.size ≤ sizeLine)
    (hS : S ≠ z ∧ S ≠ TO ∧ S ≠ i1 ∧ S ≠ i2 ∧ S ≠ TI ∧ S ≠ l1 ∧ S ≠ l2 ∧ S < n0) (hb : z < n0 ∧ TO < n0 ∧ i1 < n0 ∧ i2 < n0) :
    ∀ (k i : Nat) (s : Shared), xs.size - i = k → i ≤ xs.size → ZAt s.heap z TI TO i1 i2 l1 l2 S n0 xs ys i →
      (∀ h' tk, (∀ c o, c ≠ z → c ≠ TO → c ≠ i1 → c ≠ i2 → c ≠ S → s.heap.get? c = some o → h'.get? c = some o) →
        (∃ acc c, h'.get? S = some { cls := .type "list", dict := none, data := .seq acc c, slots := #[] } ∧ acc.toList = (List.range xs.size).map fun j => Value.ref (n0 + j)) →
        (∀ j, j < xs.size → ∃ x y, xs[j]? = some x ∧ ys[j]? = some y ∧ IsPair h' (n0 + j) x y) → R (.ok (.ret res)) { s with heap := h', toks := tk }) →
      codeAny (model prog w) A (.builtin "list.extend.loop" ⟨[.ref S, .ref z, res], []⟩) R s := by
  obtain ⟨s1, s2, s3, s4, s5, s6, s7, s8⟩ := hS
  obtain ⟨b1, b2, b3, b4⟩ := hb
  have far : ∀ {c : Addr} {j : Nat}, c < n0 → n0 + j ≠ c := fun h => Nat.ne_of_gt (Nat.lt_of_lt_of_le h (Nat.le_add_right _ _))
  intro k
  induction k with
  | zero =>
    intro i s hk hi Z hR
    have hin : i = xs.size := by omega
    refine codeAny_builtin F.entry_extend_loop ?_
    rw [Around.under_plainId F.plain_extend_loop _]
    show wpAny _ A.in1 (pyNext (.ref z) >>= _) _ _ s
    have hx : xs[i]? = none := by rw [hin]; simp
    have fin : ∀ h' : Heap, (∀ c o, c ≠ z → c ≠ TO → c ≠ i1 → c ≠ i2 → s.heap.get? c = some o → h'.get? c = some o) → R (.ok (.ret res)) { s with heap := h' } := fun h' kp => by
      obtain ⟨acc, c, e, ea⟩ := Z.lst
      rw [hin] at ea
      refine hR h' s.toks (fun c o c1 c2 c3 c4 _ e => kp c o c1 c2 c3 c4 e) ⟨acc, c, kp _ _ s1 s2 s3 s4 e, ea⟩ fun j hj => ?_
      obtain ⟨x, y, e1, e2, e3⟩ := Z.made j (by omega)
      exact ⟨x, y, e1, e2, kp _ _ (far b1) (far b2) (far b3) (far b4) e3⟩
    rcases Z.own with ⟨_, hz, a, b, hTO⟩ | ⟨h0, b, hz⟩
    · refine wpAny_bind (RZ.pyNext_zipT_end hh D hz Z.ti hTO Z.it1 Z.it2 Z.t1 Z.t2 (.inl hx) fun h' kp => wpAny_pure ?_)
      exact fin h' kp
    · obtain ⟨_, _, _, _, e3⟩ := Z.made 0 h0
      refine wpAny_bind (endOut hh D hz e3 Z.ti Z.it1 Z.it2 Z.t1 Z.t2 hx fun h' kp => wpAny_pure ?_)
      exact fin h' fun c o c1 _ c3 c4 e => kp c o c1 c3 c4 e
  | succ k ih =>
    intro i s hk hi Z hR
    have hlt : i < xs.size := by omega
    refine codeAny_builtin F.entry_extend_loop ?_
    rw [Around.under_plainId F.plain_extend_loop _]
    show wpAny _ A.in1 (pyNext (.ref z) >>= _) _ _ s
    have hx : xs[i]? = some xs[i] := by simp [hlt]
    have hy : ys[i]? = some (ys[i]'(by omega)) := by simp
    generalize ys[i]'(by omega) = y at hy
    generalize xs[i] = x at hx
    -- behind the next pair
    have step : ∀ h' : Heap, (∃ b, h'.get? z = some (zObj (rawInt n0) b TI TO)) → h'.IsTupleIter i1 l1 (i + 1) → h'.IsTupleIter i2 l2 (i + 1) → IsPair h' s.heap.objs.size x y → h'.objs.size = s.heap.objs.size + 1 →
        (∀ c o, c ≠ z → c ≠ TO → c ≠ i1 → c ≠ i2 → s.heap.get? c = some o → h'.get? c = some o) →
        wpAny (model prog w) A.in1 (updateSeq S (·.push (.ref s.heap.objs.size)) >>= fun _ => again (.builtin "list.extend.loop" ⟨[.ref S, .ref z, res], []⟩))
          (fun fin s' => match fin with | .done f => R (.ok f) s' | .again c' => c'.quiet = true ∧ codeAny (model prog w) A c' R s') (fun e s' => R (.error e) s') { s with heap := h' } := by
      intro h' hz j1 j2 hp sz kp
      obtain ⟨acc, c, e, ea⟩ := Z.lst
      have e' := kp _ _ s1 s2 s3 s4 e
      have la : acc.size = i := by rw [← Array.length_toList, ea, List.length_map, List.length_range]
      have oth : ∀ b o, b ≠ S → h'.get? b = some o → (h'.update S (Obj.mapSeq (·.push (.ref s.heap.objs.size)))).get? b = some o := fun b o hb e => (Heap.get?_update_other _ _ (Ne.symm hb)).trans e
      refine wpAny_bind ?_
      refine wpAny_updateSeq e' rfl (wpAny_pure ⟨plainId_quiet F.plain_extend_loop _, ih (i + 1) _ (by omega) hlt ?_ fun h'' tk kp2 q2 q3 => ?_⟩)
        (by rw [la]; omega) (by show (acc.push _).size ≤ sizeLine + 1; rw [Array.size_push, la]; omega)
      · refine ⟨.inr ⟨Nat.succ_pos _, ?_⟩, oth _ _ (Ne.symm s5) (kp _ _ D.TIz D.TITO D.TIi1 D.TIi2 Z.ti), j1.at fun o e => oth _ o (Ne.symm s3) e, j2.at fun o e => oth _ o (Ne.symm s4) e, ?_, ?_, ⟨_, _, Heap.get?_update_self _ e' rfl, ?_⟩, ?_, fun j hj => ?_⟩
        · obtain ⟨b, hz⟩ := hz
          exact ⟨b, oth _ _ (Ne.symm s1) hz⟩
        · obtain ⟨o, q, r⟩ := Z.t1
          exact ⟨o, oth _ _ (Ne.symm s6) (kp _ _ D.l1z D.l1TO D.l1i1 D.l1i2 q), r⟩
        · obtain ⟨o, q, r⟩ := Z.t2
          exact ⟨o, oth _ _ (Ne.symm s7) (kp _ _ D.l2z D.l2TO D.l2i1 D.l2i2 q), r⟩
        · rw [Array.toList_push, ea, List.range_succ, List.map_append, Z.sz]
          rfl
        · show (h'.update S _).objs.size = _
          rw [Heap.size_update, sz, Z.sz]
          rfl
        · by_cases hji : j < i
          · obtain ⟨x', y', e1, e2, e3⟩ := Z.made j hji
            exact ⟨x', y', e1, e2, oth _ _ (far s8) (kp _ _ (far b1) (far b2) (far b3) (far b4) e3)⟩
          · have hj : j = i := by omega
            subst hj
            refine ⟨x, y, hx, hy, oth _ _ (far s8) ?_⟩
            rw [← Z.sz]
            exact hp
      · exact hR h'' tk (fun c o c1 c2 c3 c4 c5 e => kp2 c o c1 c2 c3 c4 c5 (oth _ _ c5 (kp _ _ c1 c2 c3 c4 e))) q2 q3
    rcases Z.own with ⟨h0, hz, a, b, hTO⟩ | ⟨h0, b, hz⟩
    · refine wpAny_bind (RZ.pyNext_zipT_item D hz Z.ti hTO Z.it1 Z.it2 Z.t1 Z.t2 hx hy fun h' q1 q2 q3 q4 q5 q6 kp => ?_)
      refine step h' ⟨false, ?_⟩ q3 q4 q5 q6 kp
      have e0 : s.heap.objs.size = n0 := by rw [Z.sz, h0]; rfl
      rw [← e0]
      exact q1
    · obtain ⟨_, _, _, _, e3⟩ := Z.made 0 h0
      refine wpAny_bind (nextOut D hz e3 Z.ti Z.it1 Z.it2 Z.t1 Z.t2 hx hy fun h' q1 q3 q4 q5 q6 kp => ?_)
      exact step h' ⟨true, q1⟩ q3 q4 q5 q6 fun c o c1 _ c3 c4 e => kp c o c1 c3 c4 e
/-- list(z), z a zip just made -/
theorem callZip {z TI TO i1 i2 l1 l2 : Addr} {xs ys : Array Value} {Q : Value → Shared → Prop} (hh : A.handled = none) (D : ZipApart z TI TO i1 i2 l1 l2) (hn : xs.size = ys.size) (hl : xs.size ≤ sizeLine)
    (hz : IsZip s.heap z TI TO .none) (hTI : IsPair s.heap TI (.ref i1) (.ref i2)) (hTO : IsPair s.heap TO .none .none) (h1 : s.heap.IsTupleIter i1 l1 0) (h2 : s.heap.IsTupleIter i2 l2 0) (t1 : s.heap.IsTuple l1 xs) (t2 : s.heap.IsTuple l2 ys)
    (hQ : ∀ h' tk, (∀ c o, c ≠ z → c ≠ TO → c ≠ i1 → c ≠ i2 → s.heap.get? c = some o → h'.get? c = some o) →
        (∃ acc c, h'.get? s.heap.objs.size = some { cls := .type "list", dict := none, data := .seq acc c, slots := #[] } ∧ acc.toList = (List.range xs.size).map fun j => Value.ref (s.heap.objs.size + 1 + j)) →
        (∀ j, j < xs.size → ∃ x y, xs[j]? = some x ∧ ys[j]? = some y ∧ IsPair h' (s.heap.objs.size + 1 + j) x y) → Q (.ref s.heap.objs.size) { s with heap := h', toks := tk }) :
    wpAny (model prog w) A (call (.type "list") [.ref z]) Q E s := by
  refine callType_codes (Q₁ := fun obj s₁ => obj = .ref s.heap.objs.size ∧ s₁ = { s with heap := s.heap.push { cls := .type "list", data := .seq #[] } }) F.called_list (F.typeCall_list_1 _) F.entry_list_init (code_list_new _ ⟨rfl, rfl⟩) fun obj s₁ h₁ => ?_
  obtain ⟨rfl, rfl⟩ := h₁
  obtain ⟨o1, ho1, _⟩ := id h1
  obtain ⟨o2, ho2, _⟩ := id h2
  obtain ⟨p1, hp1, _⟩ := id t1
  obtain ⟨p2, hp2, _⟩ := id t2
  have hS : (s.heap.push { cls := .type "list", data := .seq #[] }).get? s.heap.objs.size = some { cls := .type "list", data := .seq #[] } := Heap.get?_push_size _ rfl
  have up : ∀ b o, s.heap.get? b = some o → (s.heap.push { cls := .type "list", data := .seq #[] }).get? b = some o := fun b o e => Heap.get?_push_of_some _ e
  have nS : ∀ {b o}, s.heap.get? b = some o → s.heap.objs.size ≠ b := fun e => Nat.ne_of_gt (Heap.lt_size e)
  refine ⟨⟨_, hS, rfl⟩, F.args_list_init_2 _ _, ?_⟩
  show wpAny _ A.in1.in1 (Builtin.List.listItems (.ref s.heap.objs.size) >>= fun old => Builtin.List.listUpdate (.ref s.heap.objs.size) (fun _ => #[]) >>= fun _ => letGo old.toList.reverse >>= fun _ => Builtin.List.listExtendWith (.ref s.heap.objs.size) (.ref z) .none) _ _ _
  refine wpAny_bind ?_
  unfold Builtin.List.listItems
  refine wpAny_bind (wpAny_seqItems hS rfl (wpAny_pure ?_))
  show wpAny _ A.in1.in1 (updateSeq s.heap.objs.size (fun _ => #[]) >>= fun _ => letGo (#[] : Array Value).toList.reverse >>= fun _ => Builtin.List.listExtendWith (.ref s.heap.objs.size) (.ref z) .none) _ _ _
  refine wpAny_bind (wpAny_updateSeq hS rfl ?_)
  have hS2 := Heap.get?_update_self (Obj.mapSeq (fun _ => (#[] : Array Value))) hS rfl
  generalize hg : (s.heap.push { cls := .type "list", data := .seq #[] }).update s.heap.objs.size (Obj.mapSeq (fun _ => (#[] : Array Value))) = g at hS2
  have up2 : ∀ b o, s.heap.get? b = some o → g.get? b = some o := fun b o e => by
    rw [← hg]
    exact (Heap.get?_update_other _ _ (nS e)).trans (up b o e)
  have sg : g.objs.size = s.heap.objs.size + 1 := by rw [← hg, Heap.size_update, Heap.size_push]
  refine wpAny_bind (wpAny_letGo ?_)
  have hT : ({ s with heap := g } : Shared).TypeIs (.ref z) "zip" := ⟨_, up2 _ _ hz, rfl⟩
  have hs1 : Builtin.List.listSameRef (.ref s.heap.objs.size) (.ref z) = false := by simp [Builtin.List.listSameRef, nS hz]
  show wpAny _ A.in1.in1 (Builtin.List.listExtendWith (.ref s.heap.objs.size) (.ref z) .none) _ _ { s with heap := g }
  unfold Builtin.List.listExtendWith
  refine wpAny_bind (wpAny_typeOf hT ?_)
  rw [if_neg (by rw [hs1]; decide)]
  refine wpAny_bind (wpAny_pyIter_zip (up2 _ _ hz) ?_)
  refine wpAny_bind (wpAny_holding ?_)
  unfold Builtin.List.listLengthHint
  refine wpAny_bind (wpAny_specialOf hT nolen_zip ?_)
  show wpAny _ _ (specialOf (Value.ref z) (Str.ofString "__length_hint__") >>= _) _ _ _
  refine wpAny_bind (wpAny_specialOf hT nohint_zip ?_)
  refine wpAny_pure ?_
  show wpAny _ _ (rule "list.extend.makes-room" >>= fun _ => Builtin.List.listTouch (.ref s.heap.objs.size) >>= fun _ => again (.builtin "list.extend.loop" ⟨[.ref s.heap.objs.size, .ref z, .none], []⟩)) _ _ _
  refine wpAny_bind (wpAny_rule ?_)
  refine wpAny_bind ?_
  show wpAny _ _ (updateSeq s.heap.objs.size (·.push .none) >>= fun _ => updateSeq s.heap.objs.size (·.pop)) _ _ _
  refine wpAny_bind (wpAny_updateSeq hS2 rfl ?_)
  have hS3 := Heap.get?_update_self (Obj.mapSeq (·.push Value.none)) hS2 rfl
  refine wpAny_updateSeq (hz := by seq_fits) hS3 rfl ?_
  have hS4 := Heap.get?_update_self (Obj.mapSeq (·.pop)) hS3 rfl
  generalize hg4 : ((g.update s.heap.objs.size (Obj.mapSeq (·.push Value.none))).update s.heap.objs.size (Obj.mapSeq (·.pop))) = g4 at hS4
  have up4 : ∀ b o, s.heap.get? b = some o → g4.get? b = some o := fun b o e => by
    rw [← hg4]
    exact (Heap.get?_update_other _ _ (nS e)).trans ((Heap.get?_update_other _ _ (nS e)).trans (up2 b o e))
  have sg4 : g4.objs.size = s.heap.objs.size + 1 := by rw [← hg4, Heap.size_update, Heap.size_update, sg]
  have lt1 : ∀ {b o}, s.heap.get? b = some o → b < s.heap.objs.size + 1 := fun e => Nat.lt_succ_of_lt (Heap.lt_size e)
  refine wpAny_pure ⟨plainId_quiet F.plain_extend_loop _, loopZip (n0 := s.heap.objs.size + 1) (S := s.heap.objs.size) (A := A.in1) hh D hn hl ⟨nS hz, nS hTO, nS ho1, nS ho2, nS hTI, nS hp1, nS hp2, Nat.lt_succ_self _⟩ ⟨lt1 hz, lt1 hTO, lt1 ho1, lt1 ho2⟩ xs.size 0 _ (by simp) (Nat.zero_le _)
    ⟨.inl ⟨rfl, up4 _ _ hz, _, _, up4 _ _ hTO⟩, up4 _ _ hTI, h1.at fun o e => up4 _ o e, h2.at fun o e => up4 _ o e, ⟨p1, up4 _ _ hp1, by assumption⟩, ⟨p2, up4 _ _ hp2, by assumption⟩, ⟨_, _, hS4, rfl⟩, sg4, fun j hj => absurd hj (Nat.not_lt_zero _)⟩ fun h' tk kp q2 q3 => ?_⟩
  exact ⟨rfl, hQ h' tk (fun c o c1 c2 c3 c4 e => kp c o c1 c2 c3 c4 (Ne.symm (nS e)) (up4 _ _ e)) q2 q3⟩
end
section
open L2
theorem vrefs (m : Addr) (n : Nat) : Vals (((List.range n).map fun j => m + 1 + j).map V.ref) ((List.range n).map fun j => Value.ref (m + 1 + j)) := by
  rw [List.map_map]
  generalize List.range n = l
  induction l with
  | nil => exact .nil
  | cons j l ih => exact .cons rfl ih
/-- list(zip(t, u)), t and u tuples of one length: a new list of new pairs -/
def rLstZip (K : PySem.W.Frag) : List V → Hp → VK → Prop := fun vs H Q => ∃ (a b : Addr) (xs ys : List V), vs = [.ref a, .ref b] ∧ SqT K H a xs ∧ SqT K H b ys ∧ xs.length = ys.length ∧
  ∀ (q : Addr) (ps : List Addr) (H3 : Hp), H q = none → (∀ p ∈ ps, H p = none) → Same H H3 → H3 q = some (.lst (ps.map V.ref)) → ps.length = xs.length →
    (∀ (i : Nat) (p : Addr), ps[i]? = some p → ∃ u v, xs[i]? = some u ∧ ys[i]? = some v ∧ H3 p = some (.tup [u, v])) → Q (.ref q) H3
variable {X : Cx}
theorem pe_lstZip {e1 e2 : Expr} {t : TA} {p p2 pos pos2 : Pos} (hc : X.calm = true) (hg : Gl X "list") (hm : X.mg "list" = none) (hg2 : Gl X "zip") (hm2 : X.mg "zip" = none) (ha : PA X [e1, e2] t)
    (hs : starEach [e1, e2] X.env = (false, eval e1 X.env) :: starEach [e2] X.env := by rfl)
    (hpl : (backTo pos2 (starEach [e2] X.env)).any (·.1) = false := by rfl)
    (hs2 : starEach [.Call (.Name "zip" p2) [e1, e2] [] pos2] X.env = (false, eval (.Call (.Name "zip" p2) [e1, e2] [] pos2) X.env) :: starEach [] X.env := by rfl) :
    PE X (.Call (.Name "list" p) [.Call (.Name "zip" p2) [e1, e2] [] pos2] [] pos) (tCB (rLstZip X.K) t) := by
  refine ⟨fun pins s σ H Q I h => ?_⟩
  refine PyProof.Rows.Call_ (ld_blt I hg hm PyProof.Rows.boot_list (PyProof.Rows.callWith_type1 (PyProof.Rows.args_cons (PyProof.Rows.Call_ (ld_blt I hg2 hm2 PyProof.Rows.boot_zip (PyProof.Rows.callWith_type1 (thn (ha.run pos2 pins s σ H _ I h) fun us s1 ⟨vs, H1, I1, r1, q1⟩ => ?_) hs hpl))) hs2) hs2 rfl))
  obtain ⟨a, b, xs, ys, ex, hqx, hqy, hlen, q⟩ := q1
  subst ex
  cases r1 with
  | cons r rr =>
    cases rr with
    | cons r' rr =>
      cases rr
      cases r
      cases r'
      obtain ⟨ix, rv1, p1, z1⟩ := I1.tuple hqx
      obtain ⟨iy, rv2, p2, _⟩ := I1.tuple hqy
      obtain ⟨o1, ho1, _⟩ := id p1
      obtain ⟨o2, ho2, _⟩ := id p2
      refine RZ.call_zipT (show s1.heap.IsTuple a ix.toArray from p1) (show s1.heap.IsTuple b iy.toArray from p2) fun h' hz hTI hTO h1 h2 hsz hk => ?_
      have nx : ix.toArray.size = xs.length := by rw [List.size_toArray, rv1.length]
      have ny : iy.toArray.size = ys.length := by rw [List.size_toArray, rv2.length]
      have w1 : h'.IsTuple a ix.toArray := by
        obtain ⟨o, e, r⟩ := p1
        exact ⟨o, hk _ _ e, r⟩
      have w2 : h'.IsTuple b iy.toArray := by
        obtain ⟨o, e, r⟩ := p2
        exact ⟨o, hk _ _ e, r⟩
      refine PyProof.Rows.args_nil ?_
      refine callZip (s := { s1 with heap := h' }) (I1.ok.hd hc) (PySem.W.ktu_apart s1.heap.objs.size a b (Heap.lt_size ho1) (Heap.lt_size ho2)) (by rw [nx, ny, hlen]) (by rw [nx]; exact z1) hz hTI hTO h1 h2 w1 w2 fun g tk kp ⟨acc, c, hS, ea⟩ made => ?_
      -- what is tracked then
      have base : ∀ {c o}, s1.heap.get? c = some o → g.get? c = some o := fun {c o} e => by
        have l : c < s1.heap.objs.size := Heap.lt_size e
        exact kp c o (Nat.ne_of_lt (Nat.lt_of_lt_of_le l (Nat.le_add_right _ _))) (Nat.ne_of_lt (Nat.lt_of_lt_of_le l (Nat.le_add_right _ _))) (Nat.ne_of_lt l) (Nat.ne_of_lt (Nat.lt_of_lt_of_le l (Nat.le_add_right _ _))) (hk c o e)
      have hsz' : h'.objs.size = s1.heap.objs.size + 5 := hsz
      generalize hm0 : h'.objs.size = m at hS made ea
      have lm : s1.heap.objs.size ≤ m := by rw [← hm0, hsz']; exact Nat.le_add_right _ _
      have old : ∀ {c o}, s1.heap.get? c = some o → c < m := fun e => Nat.lt_of_lt_of_le (Heap.lt_size e) lm
      have oldH : ∀ {c o}, H1 c = some o → c < m := fun e => Nat.lt_of_lt_of_le (I1.hok.lt e) lm
      have pick : ∀ j, j < xs.length → ∃ u v iu iv, xs[j]? = some u ∧ ys[j]? = some v ∧ ix[j]? = some iu ∧ iy[j]? = some iv ∧ RelV u iu ∧ RelV v iv ∧ IsPair g (m + 1 + j) iu iv := fun j hj => by
        obtain ⟨iu, iv, e1, e2, e3⟩ := made j (by rw [nx]; exact hj)
        have k1 : xs[j]? = some xs[j] := List.getElem?_eq_getElem hj
        have k2 : ys[j]? = some (ys[j]'(by omega)) := List.getElem?_eq_getElem (by omega)
        obtain ⟨u', f1, f2⟩ := rv1.get k1
        obtain ⟨v', f3, f4⟩ := rv2.get k2
        have e1' : ix[j]? = some iu := by simpa using e1
        have e2' : iy[j]? = some iv := by simpa using e2
        rw [e1'] at f1
        rw [e2'] at f3
        cases f1
        cases f3
        exact ⟨_, _, iu, iv, k1, k2, e1', e2', f2, f4, e3⟩
      let H3 : Hp := fun c => if c = m then some (.lst (((List.range xs.length).map fun j => m + 1 + j).map V.ref)) else if m < c ∧ c < m + 1 + xs.length then some (.tup [xs.getD (c - m - 1) .non, ys.getD (c - m - 1) .non]) else H1 c
      have hH0 : H3 m = some (.lst (((List.range xs.length).map fun j => m + 1 + j).map V.ref)) := if_pos rfl
      have hHt : ∀ j, j < xs.length → ∀ u v, xs[j]? = some u → ys[j]? = some v → H3 (m + 1 + j) = some (.tup [u, v]) := fun j hj u v e1 e2 => by
        have a1 : ¬ m + 1 + j = m := Nat.ne_of_gt (Nat.lt_of_lt_of_le (Nat.lt_succ_self m) (Nat.le_add_right _ _))
        have a2 : m < m + 1 + j ∧ m + 1 + j < m + 1 + xs.length := ⟨Nat.lt_of_lt_of_le (Nat.lt_succ_self m) (Nat.le_add_right _ _), Nat.add_lt_add_left hj _⟩
        have a3 : m + 1 + j - m - 1 = j := by rw [Nat.add_assoc, Nat.add_sub_cancel_left, Nat.add_sub_cancel_left]
        show (if m + 1 + j = m then _ else if m < m + 1 + j ∧ m + 1 + j < m + 1 + xs.length then _ else _) = _
        rw [if_neg a1, if_pos a2, a3]
        simp [List.getD, e1, e2]
      have hHo : ∀ c, c < m → H3 c = H1 c := fun c hc => by
        show (if c = m then _ else if m < c ∧ c < m + 1 + xs.length then _ else _) = _
        rw [if_neg (Nat.ne_of_lt hc), if_neg (fun z => absurd z.1 (Nat.not_lt_of_le (Nat.le_of_lt hc)))]
      have hHs : ∀ c o, H3 c = some o → c = m ∨ (∃ j, j < xs.length ∧ c = m + 1 + j) ∨ H1 c = some o := fun c o e => by
        by_cases c1 : c = m
        · exact .inl c1
        · by_cases c2 : m < c ∧ c < m + 1 + xs.length
          · refine .inr (.inl ⟨c - m - 1, ?_, ?_⟩)
            · have := c2.2
              have := c2.1
              simp only [Addr] at *
              omega
            · have := c2.1
              simp only [Addr] at *
              omega
          · have e' : (if c = m then some (HO.lst (((List.range xs.length).map fun j => m + 1 + j).map V.ref)) else if m < c ∧ c < m + 1 + xs.length then some (.tup [xs.getD (c - m - 1) .non, ys.getD (c - m - 1) .non]) else H1 c) = some o := e
            rw [if_neg c1, if_neg c2] at e'
            exact .inr (.inr e')
      have sH : Same H1 H3 := fun c o e => by rw [hHo c (oldH e)]; exact e
      refine I1.after ⟨.ref m, H3, rfl, I1.bare, ⟨fun c o e n _ _ => base e, fun c o e n _ _ => ⟨o.slots, base e⟩, fun c o e n _ => by rw [hHo c (old e)]; exact n, fun c o e _ => ⟨o, base e⟩, fun c zs e => sH _ _ e, fun c o u e => sH _ _ e, fun c ps e => ⟨#[], by rw [sH _ _ e]; simp⟩⟩, fun c o e => ?_, by rw [← hm0]; rfl, ?_⟩
      · rcases hHs c o e with rfl | ⟨j, hj, rfl⟩ | e1
        · rw [hH0] at e
          cases e
          refine ⟨by simp only [List.length_map, List.length_range]; exact z1, acc.toList, _, ?_, by rw [Array.toArray_toList]; exact hS⟩
          rw [ea, nx]
          exact vrefs _ _
        · obtain ⟨u, v, iu, iv, k1, k2, k3, k4, r1, r2, e3⟩ := pick j hj
          rw [hHt j hj u v k1 k2] at e
          cases e
          exact ⟨by show 2 ≤ sizeLine; decide, [iu, iv], .cons r1 (.cons r2 .nil), _, e3, rfl, _, rfl⟩
        · exact (I1.hok c o e1).stay (fun b u _ q => base q) (fun b q => sH _ _ q) fun b zs q => sH _ _ q
      · refine q m _ H3 (I1.hok.fresh lm) (fun c hc => ?_) sH hH0 (by simp) fun i c hc => ?_
        · obtain ⟨j, _, rfl⟩ := List.mem_map.mp hc
          exact I1.hok.fresh (Nat.le_trans lm (Nat.le_trans (Nat.le_succ m) (Nat.le_add_right _ _)))
        · rw [List.getElem?_map] at hc
          obtain ⟨j, e1, e2⟩ := Option.map_eq_some_iff.mp hc
          have hi : i < xs.length := by
            have := (List.getElem?_eq_some_iff.mp e1).1
            simpa using this
          have e1' : i = j := by
            rw [List.getElem?_range hi] at e1
            exact Option.some.inj e1
          subst e1'
          subst e2
          obtain ⟨u, v, _, _, k1, k2, _⟩ := pick i hi
          exact ⟨u, v, k1, k2, hHt i hi u v k1 k2⟩
end
end Wf
/-! Defs that are called where no repr is under way (guards are none): for the text that repr gives. -/
namespace Wf
open PySem PySem.Spec L2
section
variable {P : Program} {w : World} {K : PySem.W.Frag} {mg : Str → Option Value} {base : Heap} {CX : CXT} {k : Nat} {f : Addr} {fd : FuncData} {ps : List Str} {sp : Sp}
structure FnG (P : Program) (w : World) (K : PySem.W.Frag) (mg : Str → Option Value) (base : Heap) (CX : CXT) (k : Nat) (f : Addr) (fd : FuncData) (ps : List Str) (sp : Sp) : Prop where
  len : ∀ vs H Q E, sp vs H Q E → vs.length = ps.length
  run : ∀ (A : Around), A.guards = some [] → ∀ (outer : List Env) (s : Shared) (H : Hp) (args : Args) (us : List Value) (vs : List V) (Q : VK) (E : XK), Room k A → Env0 P w K mg base A outer s H →
    BindsTo s fd args (ps.zip us) → Vals vs us → sp vs H Q E → codeAny (model P w) A (.call (.ref f) args) (CR CX outer P w H s Q E) s
theorem FnG.of (F : FnOk P w K mg base CX k f fd ps sp) : FnG P w K mg base CX k f fd ps sp := ⟨F.len, fun A _ => F.run A⟩
end
/-! ### such a def called by its name -/
/-! ### repr of data -/
/-! ### the end of a law whose def wants that no guard is -/
end Wf
/-! Data that never changes (None, truths, whole numbers, texts, tuples), and _law_alike. -/
namespace Wf
open PySem PySem.Spec L2
/-! ### what stands in tuples stays -/
def Tp (K : PySem.W.Frag) (H H' : Hp) : Prop := ∀ a xs, SqT K H a xs → SqT K H' a xs
theorem Tp.refl (K : PySem.W.Frag) (H : Hp) : Tp K H H := fun _ _ h => h
theorem Tp.trans {K : PySem.W.Frag} {H H1 H2 : Hp} (a : Tp K H H1) (b : Tp K H1 H2) : Tp K H H2 := fun x xs h => b x xs (a x xs h)
theorem Same.tp {K : PySem.W.Frag} {H H' : Hp} (s : Same H H') : Tp K H H' := fun a xs h => by
  rcases h with (h | ⟨o, h⟩) | h
  · exact .inl (.inl (s _ _ h))
  · exact .inl (.inr ⟨o, s _ _ h⟩)
  · exact .inr h
theorem same_new {H : Hp} {p : Addr} {o : HO} (h : H p = none) : Same H (upd H p o) := fun a u e => by
  rw [upd_ne (ne_of_none e h)]
  exact e
def NoT (H : Hp) (d : Addr) : Prop := ∀ xs, ¬ Rd H d (.tup xs)
theorem not_lst {H : Hp} {d : Addr} {ys : List V} (h : H d = some (.lst ys)) : NoT H d := fun xs r => by
  rcases r with r | ⟨o, r⟩ <;> rw [h] at r <;> cases r
theorem But.tp {K : PySem.W.Frag} {ds : List Addr} {H H' : Hp} (b : But ds H H') (hd : ∀ d ∈ ds, NoT H d) : Tp K H H' := fun a xs h => by
  rcases h with h | h
  · have ha : a ∉ ds := fun z => hd a z xs h
    rcases h with h | ⟨o, h⟩
    · exact .inl (.inl (b _ _ ha h))
    · exact .inl (.inr ⟨o, b _ _ ha h⟩)
  · exact .inr h
theorem tp_upd {K : PySem.W.Frag} {H : Hp} {d : Addr} {o : HO} (h : NoT H d) : Tp K H (upd H d o) := But.tp (ds := [d]) (fun a u ha e => by
  rw [upd_ne (by intro z; subst z; exact ha List.mem_cons_self)]
  exact e) fun x hx => by
    rw [List.mem_singleton.mp hx]
    exact h
mutual
def noL : PyData → Bool
  | .none | .bool _ | .int _ => true
  | .str x => PyData.canLay0 (.str x)
  | .tuple ds => noLAll ds
  | .list _ | .dict _ => false
def noLAll : List PyData → Bool
  | [] => true
  | d :: ds => noL d && noLAll ds
end
mutual
def wt : PyData → Nat
  | .none | .bool _ | .int _ | .str _ | .dict _ => 1
  | .tuple ds => wtAll ds + 1
  | .list ds => wtAll ds + 1
def wtAll : List PyData → Nat
  | [] => 0
  | d :: ds => wt d + wtAll ds
end
section
variable {K : PySem.W.Frag} {H H' : Hp}
mutual
theorem Dp.tp (t : Tp K H H') : ∀ (d : PyData) (v : V), noL d = true → Dp K H v d → Dp K H' v d
  | .none, _, _, h => by cases h; exact .non
  | .bool b, _, _, h => by cases h; exact .bl b
  | .int i, _, _, h => by cases h; exact .int i
  | .str x, _, _, h => by cases h; exact .str x
  | .list _, _, n, _ => nomatch n
  | .dict _, _, _, h => by cases h
  | .tuple ds, _, n, h => by
    cases h with
    | tup hs ha => exact .tup (t _ _ hs) (DpAll.tp t ds _ n ha)
theorem DpAll.tp (t : Tp K H H') : ∀ (ds : List PyData) (vs : List V), noLAll ds = true → DpAll K H vs ds → DpAll K H' vs ds
  | [], _, _, h => by cases h; exact .nil
  | d :: ds, _, n, h => by
    have n2 : (noL d && noLAll ds) = true := n
    rw [Bool.and_eq_true] at n2
    cases h with
    | cons h1 h2 => exact .cons (Dp.tp t d _ n2.1 h1) (DpAll.tp t ds _ n2.2 h2)
end
theorem DpAll.len : ∀ {vs : List V} {ds : List PyData}, DpAll K H vs ds → vs.length = ds.length
  | _, _, .nil => rfl
  | _, _, .cons _ h => congrArg (· + 1) (DpAll.len h)
theorem DpAll.get : ∀ {vs : List V} {ds : List PyData} {i : Nat} {d : PyData}, DpAll K H vs ds → ds[i]? = some d → ∃ v, vs[i]? = some v ∧ Dp K H v d
  | _, _, _, _, .nil, e => by simp at e
  | _, _, 0, _, .cons h _, e => by simp at e; subst e; exact ⟨_, rfl, h⟩
  | _, _, i + 1, _, .cons _ h, e => by
    obtain ⟨v, e1, e2⟩ := DpAll.get (i := i) h (by simpa using e)
    exact ⟨v, by simpa using e1, e2⟩
theorem noLAll_get : ∀ {ds : List PyData} {i : Nat} {d : PyData}, noLAll ds = true → ds[i]? = some d → noL d = true
  | [], _, _, _, e => by simp at e
  | c :: ds, 0, d, n, e => by
    simp at e
    subst e
    exact (Bool.and_eq_true_iff.mp (show (noL c && noLAll ds) = true from n)).1
  | c :: ds, i + 1, d, n, e => noLAll_get (i := i) (Bool.and_eq_true_iff.mp (show (noL c && noLAll ds) = true from n)).2 (by simpa using e)
/-! ### isinstance of data -/
def tyN : PyData → String
  | .none => "NoneType" | .bool _ => "bool" | .int _ => "int" | .str _ => "str" | .tuple _ => "tuple" | .list _ => "list" | .dict _ => "dict"
theorem Dp.ty {d : PyData} {v : V} (n : noL d = true) (h : Dp K H v d) : TyX K H v (.type (tyN d)) := by
  cases h with
  | non => exact .base .non
  | bl b => exact .base (.bl b)
  | int i => exact .base (.int i)
  | str x => exact .base (.str x)
  | lst hs ha => exact nomatch n
  | tup hs ha =>
    rcases hs with (h | ⟨o, h⟩) | ⟨o, its, m, hk, hc, _⟩
    · exact .base (.tup h)
    · exact .fTuple h
    · exact .kTuple hk hc
theorem isi {d : PyData} {v : V} {T : String} {b : Bool} {Q : VK} (n : noL d = true) (h : Dp K H v d) (hb : kitB (tyN d) T = some b) (q : Q (.bl b) H) : rIsi K [v, .ty T] H Q :=
  ⟨v, .ty T, _, _, b, rfl, .ty T, Dp.ty n h, kit_ty hb, q⟩
theorem cb_isi {σ : St} {i : Nat} {d : PyData} {v : V} {T : String} {b : Bool} {Q : VK} (hv : σ[i]? = some (some v)) (n : noL d = true) (h : Dp K H v d) (hb : kitB (tyN d) T = some b) (q : Q (.bl b) H) :
    tCB (rIsi K) (tCons (tVar i) (tCons (tC (.ty T)) tNil)) σ H Q := ⟨v, hv, isi n h hb q⟩
/-- two looks of one kind at the same data: not unlike -/
theorem ne_isi {σ : St} {i j : Nat} {d : PyData} {v u : V} {T : String} {b : Bool} {Q : Bool → Hp → Prop} (hv : σ[i]? = some (some v)) (hu : σ[j]? = some (some u)) (n : noL d = true) (h1 : Dp K H v d) (h2 : Dp K H u d) (hb : kitB (tyN d) T = some b) (q : Q false H) :
    tTest (tOp rNe (tCB (rIsi K) (tCons (tVar i) (tCons (tC (.ty T)) tNil))) (tCB (rIsi K) (tCons (tVar j) (tCons (tC (.ty T)) tNil)))) σ H Q :=
  cb_isi hv n h1 hb (cb_isi hu n h2 hb ⟨rfl, false, by rw [decide_eq_true rfl]; rfl, q⟩)
end
/-! ### _law_alike: the same data twice -/
def t_alike (K : PySem.W.Frag) : TS :=
  tSeq (tAsg (tLst (tCons (tTup (tCons (tVar 0) (tCons (tVar 1) (tNil)))) (tNil))) (gName 2))
    (tSeq (tWhile (tTest (tOp qGt (tCB (qLen K) (tCons (tVar 2) (tNil))) (tC (.int 0)))) (tSeq (tAsg (tBM0 K "list" rPop (tVar 2)) (gTup K 2 (gCons (gName 3) (gCons (gName 4) (gNil)))))
    (tSeq (tIfS (tOr (tTest (tOp rNe (tCB (rIsi K) (tCons (tVar 3) (tCons (tC (.ty "bool")) (tNil)))) (tCB (rIsi K) (tCons (tVar 4) (tCons (tC (.ty "bool")) (tNil)))))) (tTest (tOp rNe (tCB (rIsi K) (tCons (tVar 3) (tCons (tC (.ty "tuple")) (tNil)))) (tCB (rIsi K) (tCons (tVar 4) (tCons (tC (.ty "tuple")) (tNil))))))) (tRet (tC (.bl false))) (tNext))
    (tSeq (tIfS (tOr (tTest (tOp rNe (tCB (rIsi K) (tCons (tVar 3) (tCons (tC (.ty "list")) (tNil)))) (tCB (rIsi K) (tCons (tVar 4) (tCons (tC (.ty "list")) (tNil)))))) (tTest (tOp rNe (tCB (rIsi K) (tCons (tVar 3) (tCons (tC (.ty "str")) (tNil)))) (tCB (rIsi K) (tCons (tVar 4) (tCons (tC (.ty "str")) (tNil))))))) (tRet (tC (.bl false))) (tNext))
    (tSeq (tIfS (tTest (tOp rNe (tCB (rIsi K) (tCons (tVar 3) (tCons (tC (.ty "int")) (tNil)))) (tCB (rIsi K) (tCons (tVar 4) (tCons (tC (.ty "int")) (tNil)))))) (tRet (tC (.bl false))) (tNext))
    (tIfS (tB (tCB (rIsiT K) (tCons (tVar 4) (tCons (tTup (tCons (tC (.ty "tuple")) (tCons (tC (.ty "list")) (tNil)))) (tNil))))) (tSeq (tIfS (tTest (tOp rNe (tCB (qLen K) (tCons (tVar 3) (tNil))) (tCB (qLen K) (tCons (tVar 4) (tNil))))) (tRet (tC (.bl false))) (tNext))
    (tDrop (tBM K "list" rExtend (tVar 2) (tCons (tCB (Wf.rLstZip K) (tCons (tVar 3) (tCons (tVar 4) (tNil)))) (tNil))))) (tIfS (tTest (tOp (rNeD K) (tVar 3) (tVar 4))) (tRet (tC (.bl false))) (tNext))))))))
    (tRet (tC (.bl true))))
def sp_alike (K : PySem.W.Frag) : Sp := fun vs H Q _ => ∃ (x y : V) (d : PyData), vs = [x, y] ∧ Dp K H x d ∧ Dp K H y d ∧ noL d = true ∧ wt d ≤ 1000000 ∧ ∀ H', Same H H' → Q (.bl true) H'
theorem kit5 {d : PyData} (n : noL d = true) : (∃ b, kitB (tyN d) "bool" = some b) ∧ (∃ b, kitB (tyN d) "tuple" = some b) ∧ (∃ b, kitB (tyN d) "list" = some b) ∧ (∃ b, kitB (tyN d) "str" = some b) ∧ (∃ b, kitB (tyN d) "int" = some b) := by
  cases d with
  | none => exact ⟨⟨false, by decide +kernel⟩, ⟨false, by decide +kernel⟩, ⟨false, by decide +kernel⟩, ⟨false, by decide +kernel⟩, ⟨false, by decide +kernel⟩⟩
  | bool b => exact ⟨⟨true, by show kitB "bool" _ = _; decide +kernel⟩, ⟨false, by show kitB "bool" _ = _; decide +kernel⟩, ⟨false, by show kitB "bool" _ = _; decide +kernel⟩, ⟨false, by show kitB "bool" _ = _; decide +kernel⟩, ⟨true, by show kitB "bool" _ = _; decide +kernel⟩⟩
  | int b => exact ⟨⟨false, by show kitB "int" _ = _; decide +kernel⟩, ⟨false, by show kitB "int" _ = _; decide +kernel⟩, ⟨false, by show kitB "int" _ = _; decide +kernel⟩, ⟨false, by show kitB "int" _ = _; decide +kernel⟩, ⟨true, by show kitB "int" _ = _; decide +kernel⟩⟩
  | str b => exact ⟨⟨false, by show kitB "str" _ = _; decide +kernel⟩, ⟨false, by show kitB "str" _ = _; decide +kernel⟩, ⟨false, by show kitB "str" _ = _; decide +kernel⟩, ⟨true, by show kitB "str" _ = _; decide +kernel⟩, ⟨false, by show kitB "str" _ = _; decide +kernel⟩⟩
  | tuple b => exact ⟨⟨false, by show kitB "tuple" _ = _; decide +kernel⟩, ⟨true, by show kitB "tuple" _ = _; decide +kernel⟩, ⟨false, by show kitB "tuple" _ = _; decide +kernel⟩, ⟨false, by show kitB "tuple" _ = _; decide +kernel⟩, ⟨false, by show kitB "tuple" _ = _; decide +kernel⟩⟩
  | list b => exact nomatch n
  | dict b => exact nomatch n
/-- a pair that waits: where it stands, both, and what both are -/
structure Wt (K : PySem.W.Frag) (H : Hp) (p : Addr) (a b : V) (d : PyData) : Prop where
  at_ : H p = some (.tup [a, b])
  one : Dp K H a d
  two : Dp K H b d
  no : noL d = true
theorem Wt.tp {K : PySem.W.Frag} {H H' : Hp} {p : Addr} {a b : V} {d : PyData} (w : Wt K H p a b d) (t : Tp K H H') (h : H' p = some (.tup [a, b])) : Wt K H' p a b d := ⟨h, Dp.tp t d a w.no w.one, Dp.tp t d b w.no w.two, w.no⟩
abbrev Ent : Type := Addr × V × V × PyData
def Waits (K : PySem.W.Frag) (H : Hp) (es : List Ent) : Prop := ∀ e ∈ es, Wt K H e.1 e.2.1 e.2.2.1 e.2.2.2
def wts (es : List Ent) : Nat := (es.map fun e => wt e.2.2.2).sum
def mkE : List Addr → List V → List V → List PyData → List Ent
  | p :: ps, x :: xs, y :: ys, d :: ds => (p, x, y, d) :: mkE ps xs ys ds
  | _, _, _, _ => []
theorem mkE_fst : ∀ {ps : List Addr} {xs ys : List V} {ds : List PyData}, ps.length = ds.length → xs.length = ds.length → ys.length = ds.length → (mkE ps xs ys ds).map (fun e => V.ref e.1) = ps.map V.ref
  | [], _, _, [], _, _, _ => by simp [mkE]
  | _ :: _, [], _, _ :: _, _, h, _ => by simp at h
  | _ :: _, _ :: _, [], _ :: _, _, _, h => by simp at h
  | p :: ps, x :: xs, y :: ys, d :: ds, h1, h2, h3 => by
    have ih := mkE_fst (ps := ps) (xs := xs) (ys := ys) (ds := ds) (by simpa using h1) (by simpa using h2) (by simpa using h3)
    simp only [mkE, List.map_cons, ih]
theorem mkE_wts : ∀ {ps : List Addr} {xs ys : List V} {ds : List PyData}, ps.length = ds.length → xs.length = ds.length → ys.length = ds.length → wts (mkE ps xs ys ds) = wtAll ds
  | [], _, _, [], _, _, _ => by simp [mkE, wts, wtAll]
  | _ :: _, [], _, _ :: _, _, h, _ => by simp at h
  | _ :: _, _ :: _, [], _ :: _, _, _, h => by simp at h
  | p :: ps, x :: xs, y :: ys, d :: ds, h1, h2, h3 => by
    have ih := mkE_wts (ps := ps) (xs := xs) (ys := ys) (ds := ds) (by simpa using h1) (by simpa using h2) (by simpa using h3)
    simp only [wts] at ih
    simp only [mkE, wts, wtAll, List.map_cons, List.sum_cons, ih]
theorem mkE_mem : ∀ {ps : List Addr} {xs ys : List V} {ds : List PyData} {e : Ent}, e ∈ mkE ps xs ys ds → ∃ i : Nat, ps[i]? = some e.1 ∧ xs[i]? = some e.2.1 ∧ ys[i]? = some e.2.2.1 ∧ ds[i]? = some e.2.2.2
  | [], _, _, _, _, h => by simp [mkE] at h
  | _ :: _, [], _, _, _, h => by simp [mkE] at h
  | _ :: _, _ :: _, [], _, _, h => by simp [mkE] at h
  | _ :: _, _ :: _, _ :: _, [], _, h => by simp [mkE] at h
  | p :: ps, x :: xs, y :: ys, d :: ds, e, h => by
    simp only [mkE, List.mem_cons] at h
    rcases h with rfl | h
    · exact ⟨0, rfl, rfl, rfl, rfl⟩
    · obtain ⟨i, h1, h2, h3, h4⟩ := mkE_mem h
      exact ⟨i + 1, by simpa using h1, by simpa using h2, by simpa using h3, by simpa using h4⟩
theorem wt_pos (d : PyData) : 1 ≤ wt d := by cases d <;> simp [wt]
theorem wts_len : ∀ es : List Ent, es.length ≤ wts es
  | [] => Nat.zero_le _
  | e :: es => by
    have ih := wts_len es
    have := wt_pos e.2.2.2
    simp only [wts] at ih
    simp only [wts, List.map_cons, List.sum_cons, List.length_cons]
    omega
theorem wtAll_len : ∀ ds : List PyData, ds.length ≤ wtAll ds
  | [] => Nat.zero_le _
  | d :: ds => by
    have ih := wtAll_len ds
    have := wt_pos d
    simp only [wtAll, List.length_cons]
    omega
theorem pure_alike {K : PySem.W.Frag} (vs : List V) (H : Hp) (Q : VK) (E : XK) (h : sp_alike K vs H Q E) : t_alike K (EndsQ Q) (sN 5 vs) H := by
  obtain ⟨x, y, d, rfl, hx, hy, hn, hw, k⟩ := h
  show t_alike K _ [some x, some y, none, none, none] H
  refine ⟨x, rfl, y, rfl, (by show 2 ≤ sizeLine; decide), fun p hp => ⟨(by show 1 ≤ sizeLine; decide), fun L hL => ?_⟩⟩
  have hpL : p ≠ L := ne_of_none upd_same hL
  have hLp : H L = none := by rw [upd_ne (Ne.symm hpL)] at hL; exact hL
  have s0 : Same H (upd (upd H p (.tup [x, y])) L (.lst [.ref p])) := Same.trans (same_new hp) (same_new hL)
  refine ⟨fun m σ H1 => ∃ (s3 s4 : Option V) (es : List Ent), σ = [some x, some y, some (.ref L), s3, s4] ∧ Same H H1 ∧ H1 L = some (.lst (es.map fun e => V.ref e.1)) ∧ Waits K H1 es ∧ m = wts es ∧ m ≤ 1000000, ⟨wt d, none, none, [(p, x, y, d)], rfl, s0, upd_same, ?_, by simp [wts], hw⟩, ?_⟩
  · intro e he
    rw [List.mem_singleton.mp he]
    exact ⟨by rw [upd_ne hpL]; exact upd_same, Dp.tp (Same.tp s0) d x hn hx, Dp.tp (Same.tp s0) d y hn hy, hn⟩
  rintro m σ H1 ⟨s3, s4, es, rfl, hS, hL1, hW, rfl, hm⟩
  refine ⟨_, rfl, _, (es.map fun e => V.ref e.1).length, rfl, .inl ⟨_, SqL.of hL1, rfl⟩, _, _, rfl, rfl, _, rfl, ?_⟩
  refine ifd (fun c => ?_) (fun c => ?_)
  · -- a turn
    have hpos : es ≠ [] := by
      rintro rfl
      exact absurd c (by decide)
    obtain ⟨es', e, rfl⟩ : ∃ es' e, es = es' ++ [e] := ⟨es.dropLast, es.getLast hpos, (List.dropLast_concat_getLast hpos).symm⟩
    obtain ⟨p, a, b, d⟩ := e
    have w := hW (p, a, b, d) (by simp)
    refine ⟨fun σ' H' => ∃ m', m' < wts (es' ++ [(p, a, b, d)]) ∧ _, fun _ _ h => h, ?_⟩
    refine ⟨_, rfl, .inl ⟨rfl, _, SqL.of hL1⟩, L, _, .ref p, rfl, rfl, hL1, ?_, ?_⟩
    · simp
    have e1 : ((es' ++ [(p, a, b, d)]).map fun e => V.ref e.1).dropLast = es'.map fun e => V.ref e.1 := by simp
    rw [e1]
    generalize hH2 : upd H1 L (.lst (es'.map fun e => V.ref e.1)) = H2
    have t12 : Tp K H1 H2 := by rw [← hH2]; exact tp_upd (not_lst hL1)
    have hS2 : Same H H2 := fun c o e => by
      rw [← hH2, upd_ne (ne_of_none e hLp)]
      exact hS c o e
    have hL2 : H2 L = some (.lst (es'.map fun e => V.ref e.1)) := by rw [← hH2]; exact upd_same
    have pn : ∀ {c zs}, H1 c = some (.tup zs) → H2 c = some (.tup zs) := fun {c zs} e => by
      rw [← hH2, upd_ne (ne_of e hL1 (by intro z; cases z))]
      exact e
    have w2 := w.tp t12 (pn w.at_)
    have hW2 : Waits K H2 es' := fun e he => (hW e (by simp [he])).tp t12 (pn (hW e (by simp [he])).at_)
    have hm2 : wts (es' ++ [(p, a, b, d)]) = wts es' + wt d := by simp [wts]
    refine ⟨p, [a, b], rfl, SqT.of w2.at_, rfl, a, _, rfl, b, _, rfl, rfl, ?_⟩
    obtain ⟨⟨b1, k1⟩, ⟨b2, k2⟩, ⟨b3, k3⟩, ⟨b4, k4⟩, ⟨b5, k5⟩⟩ := kit5 w2.no
    refine ne_isi rfl rfl w2.no w2.one w2.two k1 (iteF ?_)
    refine ne_isi rfl rfl w2.no w2.one w2.two k2 (iteF ?_)
    refine ne_isi rfl rfl w2.no w2.one w2.two k3 (iteF ?_)
    refine ne_isi rfl rfl w2.no w2.one w2.two k4 (iteF ?_)
    refine ne_isi rfl rfl w2.no w2.one w2.two k5 (iteF ?_)
    refine ⟨_, rfl, (by show 2 ≤ sizeLine; decide), fun tp htp => ?_⟩
    have t23 : Same H2 (upd H2 tp (.tup [.ty "tuple", .ty "list"])) := same_new htp
    generalize hH3 : upd H2 tp (.tup [.ty "tuple", .ty "list"]) = H3 at t23
    have htp3 : H3 tp = some (.tup [.ty "tuple", .ty "list"]) := by rw [← hH3]; exact upd_same
    have w3 := w2.tp (Same.tp t23) (t23 _ _ w2.at_)
    have hW3 : Waits K H3 es' := fun e he => (hW2 e he).tp (Same.tp t23) (t23 _ _ (hW2 e he).at_)
    have hS3 : Same H H3 := hS2.trans t23
    have hL3 := t23 _ _ hL2
    have nxt : ∀ (H5 : Hp) (s3 s4 : Option V) (es5 : List Ent), Same H H5 → H5 L = some (.lst (es5.map fun e => V.ref e.1)) → Waits K H5 es5 → wts es5 < wts (es' ++ [(p, a, b, d)]) →
        ∃ m', m' < wts (es' ++ [(p, a, b, d)]) ∧ ∃ (t3 t4 : Option V) (es : List Ent), [some x, some y, some (V.ref L), s3, s4] = [some x, some y, some (.ref L), t3, t4] ∧ Same H H5 ∧ H5 L = some (.lst (es.map fun e => V.ref e.1)) ∧ Waits K H5 es ∧ m' = wts es ∧ m' ≤ 1000000 :=
      fun H5 s3 s4 es5 q1 q2 q3 q4 => ⟨_, q4, s3, s4, es5, rfl, q1, q2, q3, rfl, by omega⟩
    have key : (∃ ds, d = .tuple ds) ∨ (SeqAt.shaped d = true ∧ PySem.W.kitAny K (.type (tyN d)) [.type "tuple", .type "list"] = some false) := by
      cases d with
      | list ds => exact nomatch w2.no
      | dict ds => exact nomatch w2.no
      | tuple ds => exact .inl ⟨ds, rfl⟩
      | none => exact .inr ⟨rfl, kitAny_cons (kit_ty (r := false) (by decide +kernel)) (fun _ => kitAny_cons (kit_ty (r := false) (by decide +kernel)) (fun _ => kitAny_nil) (fun z => nomatch z)) (fun z => nomatch z)⟩
      | bool b => exact .inr ⟨rfl, kitAny_cons (kit_ty (a := "bool") (r := false) (by decide +kernel)) (fun _ => kitAny_cons (kit_ty (a := "bool") (r := false) (by decide +kernel)) (fun _ => kitAny_nil) (fun z => nomatch z)) (fun z => nomatch z)⟩
      | int b => exact .inr ⟨rfl, kitAny_cons (kit_ty (a := "int") (r := false) (by decide +kernel)) (fun _ => kitAny_cons (kit_ty (a := "int") (r := false) (by decide +kernel)) (fun _ => kitAny_nil) (fun z => nomatch z)) (fun z => nomatch z)⟩
      | str b => exact .inr ⟨by have n := w2.no; simp only [noL] at n; simp [SeqAt.shaped, n, PyData.depth], kitAny_cons (kit_ty (a := "str") (r := false) (by decide +kernel)) (fun _ => kitAny_cons (kit_ty (a := "str") (r := false) (by decide +kernel)) (fun _ => kitAny_nil) (fun z => nomatch z)) (fun z => nomatch z)⟩
    rcases key with ⟨ds, rfl⟩ | ⟨hsh, hkit⟩
    rotate_left
    · refine ⟨b, tp, [.ty "tuple", .ty "list"], .type (tyN d), [.type "tuple", .type "list"], false, rfl, htp3, .cons (.ty _) (.cons (.ty _) .nil), Dp.ty w3.no w3.two, hkit, _, rfl, iteF ⟨_, rfl, _, rfl, d, d, w3.one, w3.two, hsh, hsh, _, rfl, ?_⟩⟩
      rw [SeqAt.eqv_refl d (SeqAt.canLay_of_shaped hsh)]
      exact iteF (nxt H3 _ _ es' hS3 hL3 hW3 (by rw [hm2]; have := wt_pos d; omega))
    · refine ⟨b, tp, [.ty "tuple", .ty "list"], .type "tuple", [.type "tuple", .type "list"], true, rfl, htp3, .cons (.ty _) (.cons (.ty _) .nil), Dp.ty w3.no w3.two, kitAny_cons (kit_ty (b := "tuple") (r := true) (by decide +kernel)) (fun z => nomatch z) (fun _ => rfl), _, rfl, iteT ?_⟩
      have c1 : Dp K H3 a (.tuple ds) := w3.one
      have c2 : Dp K H3 b (.tuple ds) := w3.two
      cases c1 with
      | tup hs1 ha1 =>
        cases c2 with
        | tup hs2 ha2 =>
          rename_i aa xs bb ys
          have l1 := DpAll.len ha1
          have l2 := DpAll.len ha2
          refine ⟨_, rfl, _, xs.length, rfl, .inr ⟨_, hs1, rfl⟩, _, rfl, _, ys.length, rfl, .inr ⟨_, hs2, rfl⟩, rfl, _, rfl, ?_⟩
          rw [l1, l2]
          refine iteNS rfl ?_
          refine ⟨_, rfl, .inl ⟨rfl, _, SqL.of hL3⟩, _, rfl, _, rfl, aa, bb, xs, ys, rfl, hs1, hs2, by rw [l1, l2], fun q ps H4 hq hps s34 hq4 hlen hget => ?_⟩
          have hL4 := s34 _ _ hL3
          have lp : ps.length = ds.length := by rw [hlen, l1]
          have hwd : wt (.tuple ds) = wtAll ds + 1 := by simp [wt]
          have hLq : L ≠ q := ne_of_none hL3 hq
          have big := wts_len es'
          have big2 : ps.length ≤ wtAll ds := by rw [lp]; exact wtAll_len ds
          refine ⟨L, q, _, _, rfl, rfl, hL4, hq4, ?_, ?_⟩
          · rw [List.length_map, List.length_map]
            exact Nat.le_trans (show es'.length + ps.length ≤ 1000000 by omega) (by decide)
          · have e5 : (es'.map fun e => V.ref e.1) ++ ps.map V.ref = (es' ++ mkE ps xs ys ds).map fun e => V.ref e.1 := by rw [List.map_append, mkE_fst lp l1 l2]
            rw [e5]
            have t45 : Tp K H4 (upd H4 L (.lst ((es' ++ mkE ps xs ys ds).map fun e => V.ref e.1))) := tp_upd (not_lst hL4)
            have t35 := (Same.tp s34).trans t45
            have pn5 : ∀ {c zs}, H4 c = some (.tup zs) → upd H4 L (.lst ((es' ++ mkE ps xs ys ds).map fun e => V.ref e.1)) c = some (.tup zs) := fun {c zs} e => by
              rw [upd_ne (ne_of e hL4 (by intro z; cases z))]
              exact e
            refine nxt _ _ _ (es' ++ mkE ps xs ys ds) (fun c o e => ?_) upd_same (fun e he => ?_) ?_
            · rw [upd_ne (ne_of_none e hLp)]
              exact s34 _ _ (hS3 _ _ e)
            · rcases List.mem_append.mp he with he | he
              · exact (hW3 e he).tp t35 (pn5 (s34 _ _ (hW3 e he).at_))
              · obtain ⟨i, i1, i2, i3, i4⟩ := mkE_mem he
                obtain ⟨u, v, g1, g2, g3⟩ := hget i _ i1
                rw [i2] at g1
                rw [i3] at g2
                cases g1
                cases g2
                have nd : noL e.2.2.2 = true := noLAll_get w3.no i4
                obtain ⟨u', f1, f2⟩ := DpAll.get ha1 i4
                obtain ⟨v', f3, f4⟩ := DpAll.get ha2 i4
                rw [i2] at f1
                rw [i3] at f3
                cases f1
                cases f3
                exact ⟨pn5 g3, Dp.tp t35 _ _ nd f2, Dp.tp t35 _ _ nd f4, nd⟩
            · rw [hm2, hwd]
              have : wts (es' ++ mkE ps xs ys ds) = wts es' + wtAll ds := by
                rw [← mkE_wts lp l1 l2]
                simp [wts]
              omega
  · exact k H1 hS
end Wf
/-! The books that the draws make. -/
namespace Wf
open PySem PySem.Spec L2
def dP (p : Int × Int) : PyData := .tuple [.int p.1, .int p.2]
theorem noL_dP (p : Int × Int) : noL (dP p) = true := rfl
/-! ### _law_pair -/
def pairF (f s : Int) (st : Int × Int) (a b : Int) : Int × Int :=
  if f = 0 then (b, a) else if f = 1 then (a, b) else if f = 2 then ((if b < a then b else a), (if b > a then b else a)) else if f = 3 then (b, (2 * b - a) % s) else ((b + st.2) % s, (a + st.1) % s)
/-! ### _law_paces -/
structure PacesOk (m : Int) (ps : List Int) : Prop where
  len : (ps.length : Int) = m
  rise : ps.Pairwise (· < ·)
  lo : ∀ p ∈ ps, -1000 ≤ p ∧ p ≤ 1000
def dI (ps : List Int) : PyData := .tuple (ps.map .int)
theorem dp_ints {K : PySem.W.Frag} {H : Hp} : ∀ ns : List Int, DpAll K H (ns.map V.int) (ns.map PyData.int)
  | [] => .nil
  | n :: ns => .cons (.int n) (dp_ints ns)
theorem Deal.ne {H : Hp} {d l p : Addr} (h : Deal H d l) (hp : H p = none) : p ≠ d ∧ p ≠ l := by
  obtain ⟨s, m, n, ns, h1, h2, _⟩ := h.ex
  exact ⟨fun e => (by rw [e, h1] at hp; cases hp), fun e => (by rw [e, h2] at hp; cases hp)⟩
theorem But.at {H H' : Hp} {d l p : Addr} {o : HO} (b : But [d, l] H H') (n : p ≠ d ∧ p ≠ l) (h : H p = some o) : H' p = some o := b p o (by simp [n.1, n.2]) h
theorem But.new {ds : List Addr} {H H' : Hp} {p : Addr} {o : HO} (b : But ds H H') (hp : H p = none) : But ds H (upd H' p o) := fun a u n e => by
  rw [upd_ne (ne_of_none e hp)]
  exact b a u n e
theorem Deal.upd {H : Hp} {d l p : Addr} {o : HO} (h : Deal H d l) (n : p ≠ d ∧ p ≠ l) : Deal (upd H p o) d l := by
  obtain ⟨s, m, k, ns, h1, h2, h3⟩ := h.ex
  exact ⟨s, m, k, ns, by rw [upd_ne (Ne.symm n.1)]; exact h1, by rw [upd_ne (Ne.symm n.2)]; exact h2, h3⟩
theorem erase_map {α β : Type} (f : α → β) : ∀ (l : List α) (k : Nat), (l.eraseIdx k).map f = (l.map f).eraseIdx k
  | [], _ => rfl
  | _ :: _, 0 => rfl
  | x :: l, k + 1 => by simp [erase_map f l k]
theorem erase_perm {α : Type} : ∀ {l : List α} {k : Nat} (h : k < l.length), (l[k] :: l.eraseIdx k).Perm l
  | [], _, h => absurd h (Nat.not_lt_zero _)
  | x :: l, 0, _ => .refl _
  | x :: l, k + 1, h => by
    have ih := erase_perm (l := l) (k := k) (by simpa using h)
    simp only [List.getElem_cons_succ, List.eraseIdx_cons_succ]
    exact (List.Perm.swap x _ _).trans (ih.cons x)
/-! ### _law_mixed -/
def iota (n : Int) : List Int := (List.range n.toNat).map fun (i : Nat) => (i : Int)
theorem rgV_iota (n : Int) : rgV 0 n = (iota n).map V.int := by
  unfold rgV iota
  rw [List.map_map, Int.sub_zero]
  apply List.map_congr_left
  intro a _
  show V.int (0 + (a : Int)) = V.int (a : Int)
  rw [Int.zero_add]
def sp_mixed : Sp := fun vs H Q _ => ∃ (d l : Addr) (n : Int), vs = [.ref d, .int n] ∧ 0 ≤ n ∧ n ≤ 1000 ∧ Deal H d l ∧
  ∀ (F : Addr) (ns : List Int) (H' : Hp), But [d, l] H H' → Deal H' d l → H F = none → H' F = some (.lst (ns.map V.int)) → ns.Perm (iota n) → Q (.ref F) H'
theorem But.none_of {H H' : Hp} {d l p : Addr} (b : But [d, l] H H') (n : p ≠ d ∧ p ≠ l) (h : H' p = none) : H p = none := by
  cases e : H p with
  | none => rfl
  | some o => rw [b.at n e] at h; cases h
theorem seqIx {k : Int} {n : Nat} (h0 : 0 ≤ k) (h1 : k < n) : seqIndex? k n = some k.toNat := by
  unfold seqIndex?
  have e : (if k < 0 then k + (n : Int) else k) = k := if_neg (by omega)
  simp only [e]
  rw [if_pos (by simp; omega)]
def t_mixed (K : PySem.W.Frag) (sp_draw : Sp) : TS :=
  tSeq (tPar 3 4 (tCons (tLstRg (tRg1 (tVar 1))) (tCons (tLst (tNil)) (tNil))))
    (tSeq (tFor (iRng1 (tCons (tVar 1) (tNil))) (gName 2) (tDrop (tBM K "list" rAppend (tVar 4) (tCons (tBM K "list" rPopAt (tVar 3) (tCons (tCall sp_draw [] E0 (tCons (tVar 0) (tCons (tCB (qLen K) (tCons (tVar 3) (tNil))) (tNil)))) (tNil))) (tNil)))))
    (tRet (tVar 4)))
theorem pure_mixed {K : PySem.W.Frag} (vs : List V) (H : Hp) (Q : VK) (E : XK) (h : sp_mixed vs H Q E) : t_mixed K sp_draw (EndsQ Q) (sN 5 vs) H := by
  obtain ⟨d, l, n, rfl, n0, n1, hD, k⟩ := h
  show t_mixed K sp_draw _ [some (.ref d), some (.int n), none, none, none] H
  refine ⟨_, rfl, n, rfl, ⟨by decide, by decide, by omega, by omega, by omega⟩, fun L hL => ?_⟩
  rw [rgV_iota]
  refine ⟨(by show 0 ≤ sizeLine; decide), fun F hF => ⟨_, _, rfl, ?_⟩⟩
  have nL := hD.ne hL
  have hLF : L ≠ F := ne_of_none upd_same hF
  have hF0 : H F = none := by rw [upd_ne (Ne.symm hLF)] at hF; exact hF
  have nF := hD.ne hF0
  have li : (iota n).length = n.toNat := by unfold iota; rw [List.length_map, List.length_range]
  refine ⟨_, rfl, n, rfl, by omega, by omega, for_range (lo := 0) (n := n.toNat) (fun i σ H1 => ∃ (s2 : Option V) (ls fs : List Int), σ = [some (.ref d), some (.int n), s2, some (.ref L), some (.ref F)] ∧ But [d, l] H H1 ∧ Deal H1 d l ∧ H1 L = some (.lst (ls.map V.int)) ∧ H1 F = some (.lst (fs.map V.int)) ∧ fs.length = i ∧ (fs ++ ls).Perm (iota n)) ?_ ?_ ?_⟩
  · exact ⟨none, iota n, [], rfl, ((But.refl _ _).new hL).new hF0, (hD.upd nL).upd nF, by rw [upd_ne hLF]; exact upd_same, upd_same, rfl, .refl _⟩
  · rintro i σ H1 hi ⟨s2, ls, fs, rfl, b1, d1, l1, f1, fl, hp⟩
    have hlen : fs.length + ls.length = n.toNat := by rw [← li, ← hp.length_eq, List.length_append]
    refine ⟨_, rfl, .inl ⟨rfl, _, SqL.of f1⟩, _, rfl, .inl ⟨rfl, _, SqL.of l1⟩, _, rfl, _, rfl, _, (ls.map V.int).length, rfl, .inl ⟨_, SqL.of l1, rfl⟩, d, l, _, rfl, by rw [List.length_map]; omega, by rw [List.length_map]; omega, d1, fun q H2 q0 q1 b2 d2 => ?_⟩
    have l2 := b2.at nL l1
    have f2 := b2.at nF f1
    rw [List.length_map] at q1
    have hq : q.toNat < ls.length := by omega
    refine ⟨L, _, q, q.toNat, .int ls[q.toNat], rfl, rfl, l2, by omega, by omega, by rw [List.length_map]; exact seqIx q0 q1, by rw [List.getElem?_map, List.getElem?_eq_getElem hq]; rfl, F, _, _, rfl, rfl, by rw [upd_ne (Ne.symm hLF)]; exact f2, ?_, ?_⟩
    · rw [List.length_map, fl]
      exact Nat.lt_of_le_of_lt (show i ≤ 1000 by omega) (by decide)
    · refine ⟨some (.int (0 + i)), ls.eraseIdx q.toNat, fs ++ [ls[q.toNat]], rfl, ((b1.trans b2).new hL).new hF0, (d2.upd nL).upd nF, ?_, ?_, by simp [fl], ?_⟩
      · rw [upd_ne hLF, upd_same, erase_map]
      · rw [upd_same, List.map_append]
        rfl
      · refine List.Perm.trans ?_ hp
        rw [List.append_assoc]
        exact List.Perm.append_left fs (erase_perm hq)
  · rintro σ H1 ⟨s2, ls, fs, rfl, b1, d1, l1, f1, fl, hp⟩
    have hlen : fs.length + ls.length = n.toNat := by rw [← li, ← hp.length_eq, List.length_append]
    have : ls = [] := List.length_eq_zero_iff.mp (by omega)
    subst this
    rw [List.append_nil] at hp
    exact ⟨_, rfl, k F fs H1 b1 d1 hF0 f1 hp⟩
end Wf
/-! Tables: lists of lists of pairs. -/
namespace Wf
open PySem PySem.Spec L2
abbrev Tab : Type := List (Int × Int)
def InP (s : Int) (p : Int × Int) : Prop := 0 ≤ p.1 ∧ p.1 < s ∧ 0 ≤ p.2 ∧ p.2 < s
structure TabOk (s : Int) (t : Tab) : Prop where
  len : (t.length : Int) = s * s
  inn : ∀ p ∈ t, InP s p
structure TabAt (K : PySem.W.Frag) (H : Hp) (l : Addr) (t : Tab) : Prop where
  ex : ∃ vs, H l = some (.lst vs) ∧ DpAll K H vs (t.map dP)
theorem noLAll_dP : ∀ t : Tab, noLAll (t.map dP) = true
  | [] => rfl
  | p :: t => by simp [noLAll, noL_dP, noLAll_dP t]
theorem TabAt.keep {K : PySem.W.Frag} {H H' : Hp} {l : Addr} {t : Tab} (h : TabAt K H l t) (hl : ∀ o, H l = some o → H' l = some o) (tp : Tp K H H') : TabAt K H' l t := by
  obtain ⟨vs, h1, h2⟩ := h.ex
  exact ⟨vs, hl _ h1, DpAll.tp tp _ _ (noLAll_dP t) h2⟩
theorem pr_mono {α β : Type} {F G : α → β → Prop} : ∀ {as : List α} {bs : List β}, Paired F as bs → (∀ a b, a ∈ as → F a b → G a b) → Paired G as bs
  | _, _, .nil, _ => .nil
  | _, _, .cons h t, k => .cons (k _ _ List.mem_cons_self h) (pr_mono t fun a b ha => k a b (List.mem_cons_of_mem _ ha))
theorem pr_app {α β : Type} {F : α → β → Prop} : ∀ {as cs : List α} {bs ds : List β}, Paired F as bs → Paired F cs ds → Paired F (as ++ cs) (bs ++ ds)
  | _, _, _, _, .nil, h => h
  | _, _, _, _, .cons h t, k => .cons h (pr_app t k)
theorem pr_len {α β : Type} {F : α → β → Prop} : ∀ {as : List α} {bs : List β}, Paired F as bs → as.length = bs.length
  | _, _, .nil => rfl
  | _, _, .cons _ t => congrArg (· + 1) (pr_len t)
/-- tables that were made since H: the list of them at F, they themselves at ls -/
structure Tabs (K : PySem.W.Frag) (H H1 : Hp) (F : Addr) (ls : List Addr) (ts : List Tab) : Prop where
  lst : H1 F = some (.lst (ls.map V.ref))
  tab : Paired (TabAt K H1) ls ts
  nd : (F :: ls).Nodup
  newF : H F = none
  newL : ∀ x ∈ ls, H x = none
section
variable {K : PySem.W.Frag} {H H1 H2 : Hp} {F d l : Addr} {ls : List Addr} {ts : List Tab}
theorem Tabs.keep (t : Tabs K H H1 F ls ts) (hk : ∀ x o, x ∈ F :: ls → H1 x = some o → H2 x = some o) (tp : Tp K H1 H2) : Tabs K H H2 F ls ts :=
  ⟨hk _ _ List.mem_cons_self t.lst, pr_mono t.tab fun a b ha h => h.keep (fun o e => hk a o (List.mem_cons_of_mem _ ha) e) tp, t.nd, t.newF, t.newL⟩
theorem Tabs.same (t : Tabs K H H1 F ls ts) (s : Same H1 H2) : Tabs K H H2 F ls ts := t.keep (fun x o _ e => s x o e) (Same.tp s)
theorem Tabs.len (t : Tabs K H H1 F ls ts) : ls.length = ts.length := pr_len t.tab
/-- one more table -/
theorem Tabs.push {D : Addr} {t : Tab} (ht : Tabs K H H1 F ls ts) (h : TabAt K H1 D t) (hD : D ∉ F :: ls) (hn : H D = none) : Tabs K H (upd H1 F (.lst (ls.map V.ref ++ [.ref D]))) F (ls ++ [D]) (ts ++ [t]) := by
  have tp : Tp K H1 (upd H1 F (.lst (ls.map V.ref ++ [.ref D]))) := tp_upd (not_lst ht.lst)
  have hF := (List.nodup_cons.mp ht.nd).1
  refine ⟨by rw [upd_same, List.map_append]; rfl, pr_app (pr_mono ht.tab fun a b ha k => k.keep (fun o e => ?_) tp) (.cons (h.keep (fun o e => ?_) tp) .nil), ?_, ht.newF, fun x hx => ?_⟩
  · rw [upd_ne (show a ≠ F from fun z => hF (z ▸ ha))]
    exact e
  · rw [upd_ne (show D ≠ F from fun z => hD (by rw [z]; exact List.mem_cons_self))]
    exact e
  · have e : (F :: (ls ++ [D])) = (F :: ls) ++ [D] := rfl
    rw [e, List.nodup_append]
    exact ⟨ht.nd, by simp, fun a ha b hb => by rw [List.mem_singleton.mp hb]; exact fun z => hD (z ▸ ha)⟩
  · rcases List.mem_append.mp hx with hx | hx
    · exact ht.newL x hx
    · rw [List.mem_singleton.mp hx]
      exact hn
def dTs (ts : List Tab) : PyData := .list (ts.map fun t => .list (t.map dP))
theorem Tabs.dp (ht : Tabs K H H1 F ls ts) : Dp K H1 (.ref F) (dTs ts) := by
  refine .lst (SqL.of ht.lst) ?_
  have := ht.tab
  clear ht
  induction this with
  | nil => exact .nil
  | cons h _ ih =>
    obtain ⟨vs, e1, e2⟩ := h.ex
    exact .cons (.lst (SqL.of e1) e2) ih
end
/-! ### [(draw(size), draw(size)) for n in range(size * size)] -/
/-! ### _law_any -/
def nT (m : Int) : Int := m * (m - 1) / 2
/-- tables are told, new ones, by what R says of them -/
def GiveT (K : PySem.W.Frag) (d l : Addr) (H : Hp) (Q : VK) (R : List Tab → Prop) : Prop := ∀ (F : Addr) (ls : List Addr) (ts : List Tab) (H' : Hp), But [d, l] H H' → Deal H' d l → Tabs K H H' F ls ts → R ts → Q (.ref F) H'
structure AllOk (m s : Int) (ts : List Tab) : Prop where
  len : (ts.length : Int) = nT m
  ok : ∀ t ∈ ts, TabOk s t
/-! ### _law_plain -/
def tabF (f s : Int) (st : Int × Int) : Tab := (iota (s * s)).map fun n => pairF f s st (n / s) (n % s)
/-- by plain rules: one form for all tables; or keeping ones, and one any -/
inductive PlainT (m s : Int) : List Tab → Prop
  | all (f : Int) (sts : List (Int × Int)) : 0 ≤ f → f ≤ 4 → (sts.length : Int) = nT m → (∀ x ∈ sts, InP s x) → PlainT m s (sts.map (tabF f s))
  | one (sts : List (Int × Int)) (i : Nat) (t : Tab) : (sts.length : Int) = nT m → i < sts.length → TabOk s t → PlainT m s ((sts.map (tabF 0 s)).set i t)
/-- data whose shape == may be asked of: lists and tuples of such, to a depth -/
theorem lay_map {α : Type} (f : α → PyData) (n : Nat) : ∀ l : List α, (∀ a ∈ l, (f a).canLay0 = true ∧ (f a).depth ≤ n) → PyData.canLayAll0 (l.map f) = true ∧ PyData.depthAll (l.map f) ≤ n
  | [], _ => ⟨rfl, Nat.zero_le _⟩
  | a :: l, h => by
    have h1 := h a List.mem_cons_self
    have h2 := lay_map f n l fun b hb => h b (List.mem_cons_of_mem _ hb)
    rw [List.map_cons]
    constructor
    · show ((f a).canLay0 && PyData.canLayAll0 (l.map f)) = true
      rw [h1.1, h2.1]
      rfl
    · show max (f a).depth (PyData.depthAll (l.map f)) ≤ n
      exact Nat.max_le.mpr ⟨h1.2, h2.2⟩
end Wf
/-! Tables side by side, tables with other names. -/
namespace Wf
open PySem PySem.Spec L2
/-- tables to be read -/
structure TL (K : PySem.W.Frag) (H : Hp) (A : Addr) (ls : List Addr) (ts : List Tab) : Prop where
  lst : H A = some (.lst (ls.map V.ref))
  tab : Paired (TabAt K H) ls ts
theorem TL.same {K : PySem.W.Frag} {H H1 : Hp} {A : Addr} {ls : List Addr} {ts : List Tab} (t : TL K H A ls ts) (s : Same H H1) : TL K H1 A ls ts := ⟨s _ _ t.lst, pr_mono t.tab fun a b _ h => h.keep (fun o e => s _ _ e) (Same.tp s)⟩
theorem ix_lt {x y w : Int} (x0 : 0 ≤ x) (x1 : x < w) (y0 : 0 ≤ y) (y1 : y < w) : 0 ≤ x * w + y ∧ x * w + y < w * w := by
  have h1 : 0 ≤ x * w := Int.mul_nonneg x0 (by omega)
  have h2 : (x + 1) * w ≤ w * w := Int.mul_le_mul_of_nonneg_right (by omega) (by omega)
  have h3 : (x + 1) * w = x * w + w := by rw [Int.add_mul, Int.one_mul]
  constructor <;> omega
def sideP (t1 t2 : Tab) (w r : Int) (n : Int) : Int × Int :=
  let c := t1.getD (n / (w * r) / r * w + n % (w * r) / r).toNat (0, 0)
  let g := t2.getD (n / (w * r) % r * r + n % (w * r) % r).toNat (0, 0)
  (c.1 * r + g.1, c.2 * r + g.2)
def sideT (w r : Int) (t1 t2 : Tab) : Tab := (iota (w * r * (w * r))).map (sideP t1 t2 w r)
end Wf
/-! Tables with other names, good tables, books. -/
namespace Wf
open PySem PySem.Spec L2
theorem DpAll.set {K : PySem.W.Frag} {H : Hp} {v : V} {d : PyData} (h : Dp K H v d) : ∀ {vs : List V} {ds : List PyData} (i : Nat), DpAll K H vs ds → DpAll K H (vs.set i v) (ds.set i d)
  | _, _, _, .nil => .nil
  | _, _, 0, .cons _ t => .cons h t
  | _, _, i + 1, .cons k t => .cons k (DpAll.set h i t)
/-! ### _law_names_put -/
def nmStep (ns : List Int) (s : Int) (t acc : Tab) (n : Nat) : Tab :=
  acc.set (ns.getD ((n : Int) / s).toNat 0 * s + ns.getD ((n : Int) % s).toNat 0).toNat (ns.getD (t.getD n (0, 0)).1.toNat 0, ns.getD (t.getD n (0, 0)).2.toNat 0)
def nmF (ns : List Int) (s : Int) (t : Tab) (k : Nat) : Tab := (List.range k).foldl (nmStep ns s t) (List.replicate (s * s).toNat (0, 0))
def nameT (s : Int) (ns : List Int) (t : Tab) : Tab := nmF ns s t t.length
theorem nmF_succ (ns : List Int) (s : Int) (t : Tab) (k : Nat) : nmF ns s t (k + 1) = nmStep ns s t (nmF ns s t k) k := by
  unfold nmF
  rw [List.range_succ, List.foldl_append]
  rfl
theorem nmF_len (ns : List Int) (s : Int) (t : Tab) : ∀ k, (nmF ns s t k).length = (s * s).toNat
  | 0 => by unfold nmF; rw [List.range_zero, List.foldl_nil, List.length_replicate]
  | k + 1 => by rw [nmF_succ, nmStep, List.length_set, nmF_len ns s t k]
theorem iota_mem {n x : Int} : x ∈ iota n ↔ 0 ≤ x ∧ x < n := by
  unfold iota
  rw [List.mem_map]
  constructor
  · rintro ⟨i, hi, rfl⟩
    rw [List.mem_range] at hi
    constructor <;> omega
  · rintro ⟨h1, h2⟩
    exact ⟨x.toNat, by rw [List.mem_range]; omega, by omega⟩
theorem perm_at {s : Int} {ns : List Int} (hp : ns.Perm (iota s)) {i : Int} (h0 : 0 ≤ i) (h1 : i < s) : atI (ns.map V.int) i = some (.int (ns.getD i.toNat 0)) ∧ 0 ≤ ns.getD i.toNat 0 ∧ ns.getD i.toNat 0 < s := by
  have hl : ns.length = s.toNat := by rw [hp.length_eq]; unfold iota; rw [List.length_map, List.length_range]
  have hi : i.toNat < ns.length := by omega
  have e : ns[i.toNat]? = some ns[i.toNat] := List.getElem?_eq_getElem hi
  have m : ns[i.toNat] ∈ iota s := hp.mem_iff.mp (List.getElem_mem hi)
  have g : ns.getD i.toNat 0 = ns[i.toNat] := by simp [List.getD, e]
  rw [g]
  refine ⟨?_, (iota_mem.mp m).1, (iota_mem.mp m).2⟩
  unfold atI ixN
  rw [if_pos h0, if_pos (by rw [List.length_map]; omega)]
  show (ns.map V.int)[i.toNat]? = _
  rw [List.getElem?_map, e]
  rfl
end Wf
/-! Good tables and books. -/
namespace Wf
open PySem PySem.Spec L2
theorem pairF_in {f s : Int} {st : Int × Int} {a b : Int} (hs : 1 ≤ s) (a0 : 0 ≤ a) (a1 : a < s) (b0 : 0 ≤ b) (b1 : b < s) : InP s (pairF f s st a b) := by
  unfold pairF InP
  have h1 := mod_lt (a := 2 * b - a) (b := s) (by omega)
  have h2 := mod_lt (a := b + st.2) (b := s) (by omega)
  have h3 := mod_lt (a := a + st.1) (b := s) (by omega)
  split
  · exact ⟨b0, b1, a0, a1⟩
  · split
    · exact ⟨a0, a1, b0, b1⟩
    · split
      · dsimp only
        split <;> split <;> exact ⟨by omega, by omega, by omega, by omega⟩
      · split
        · exact ⟨b0, b1, h1.1, h1.2⟩
        · exact ⟨h2.1, h2.2, h3.1, h3.2⟩
theorem iota_len (n : Int) : (iota n).length = n.toNat := by unfold iota; rw [List.length_map, List.length_range]
theorem div_in {s n : Int} (hs : 1 ≤ s) (h0 : 0 ≤ n) (h1 : n < s * s) : (0 ≤ n / s ∧ n / s < s) ∧ (0 ≤ n % s ∧ n % s < s) := ⟨⟨Int.ediv_nonneg h0 (by omega), Int.ediv_lt_of_lt_mul (by omega) h1⟩, mod_lt (by omega)⟩
theorem tabF_ok {f s : Int} {st : Int × Int} (hs : 1 ≤ s) : TabOk s (tabF f s st) := by
  have hss : 0 ≤ s * s := Int.mul_nonneg (by omega) (by omega)
  refine ⟨by unfold tabF; rw [List.length_map, iota_len]; omega, fun p hp => ?_⟩
  obtain ⟨n, hn, rfl⟩ := List.mem_map.mp hp
  obtain ⟨h0, h1⟩ := iota_mem.mp hn
  obtain ⟨⟨x1, x2⟩, x3, x4⟩ := div_in hs h0 h1
  exact pairF_in hs x1 x2 x3 x4
theorem PlainT.ok {m s : Int} {ts : List Tab} (hs : 1 ≤ s) (h : PlainT m s ts) : AllOk m s ts := by
  cases h with
  | all f sts f0 f4 hl hin =>
    refine ⟨by rw [List.length_map]; exact hl, fun t ht => ?_⟩
    obtain ⟨st, _, rfl⟩ := List.mem_map.mp ht
    exact tabF_ok hs
  | one sts i t hl hi ht =>
    refine ⟨by rw [List.length_set, List.length_map]; exact hl, fun x hx => ?_⟩
    rcases List.mem_or_eq_of_mem_set hx with hx | hx
    · obtain ⟨st, _, rfl⟩ := List.mem_map.mp hx
      exact tabF_ok hs
    · rw [hx]
      exact ht
theorem getD_in {s : Int} {t : Tab} (h : TabOk s t) {i : Int} (h0 : 0 ≤ i) (h1 : i < s * s) : InP s (t.getD i.toNat (0, 0)) := by
  have hl := h.len
  have hi : i.toNat < t.length := by omega
  have e : t.getD i.toNat (0, 0) = t[i.toNat] := by simp [List.getD, List.getElem?_eq_getElem hi]
  rw [e]
  exact h.inn _ (List.getElem_mem hi)
theorem sideT_ok {w r : Int} {t1 t2 : Tab} (w1 : 1 ≤ w) (r1 : 1 ≤ r) (h1 : TabOk w t1) (h2 : TabOk r t2) : TabOk (w * r) (sideT w r t1 t2) := by
  have wr1 : 1 ≤ w * r := by
    have := Int.mul_le_mul w1 r1 (by decide) (by omega)
    simpa using this
  have hss : 0 ≤ w * r * (w * r) := Int.mul_nonneg (by omega) (by omega)
  refine ⟨by unfold sideT; rw [List.length_map, iota_len]; omega, fun p hp => ?_⟩
  obtain ⟨n, hn, rfl⟩ := List.mem_map.mp hp
  obtain ⟨n0, n1⟩ := iota_mem.mp hn
  obtain ⟨⟨x1, x2⟩, x3, x4⟩ := div_in wr1 n0 n1
  have q3 : 0 ≤ n / (w * r) / r ∧ n / (w * r) / r < w := ⟨Int.ediv_nonneg x1 (by omega), Int.ediv_lt_of_lt_mul (by omega) x2⟩
  have q4 : 0 ≤ n % (w * r) / r ∧ n % (w * r) / r < w := ⟨Int.ediv_nonneg x3 (by omega), Int.ediv_lt_of_lt_mul (by omega) x4⟩
  have q5 := mod_lt (a := n / (w * r)) (b := r) (by omega)
  have q6 := mod_lt (a := n % (w * r)) (b := r) (by omega)
  have i1 := ix_lt q3.1 q3.2 q4.1 q4.2
  have i2 := ix_lt q5.1 q5.2 q6.1 q6.2
  have g1 := getD_in h1 i1.1 i1.2
  have g2 := getD_in h2 i2.1 i2.2
  unfold sideP
  dsimp only
  generalize t1.getD _ (0, 0) = c at g1
  generalize t2.getD _ (0, 0) = g at g2
  unfold InP at g1 g2 ⊢
  have e : ∀ x y : Int, 0 ≤ x → x < w → 0 ≤ y → y < r → 0 ≤ x * r + y ∧ x * r + y < w * r := fun x y a1 a2 b1 b2 => by
    have e1 : 0 ≤ x * r := Int.mul_nonneg a1 (by omega)
    have e2 : (x + 1) * r ≤ w * r := Int.mul_le_mul_of_nonneg_right (by omega) (by omega)
    have e3 : (x + 1) * r = x * r + r := by rw [Int.add_mul, Int.one_mul]
    constructor <;> omega
  have a := e c.1 g.1 g1.1 g1.2.1 g2.1 g2.2.1
  have b := e c.2 g.2 g1.2.2.1 g1.2.2.2 g2.2.2.1 g2.2.2.2
  exact ⟨a.1, a.2, b.1, b.2⟩
theorem nmF_ok {s : Int} {ns : List Int} {t : Tab} (hs : 1 ≤ s) (hp : ns.Perm (iota s)) (ht : TabOk s t) : ∀ k, k ≤ t.length → ∀ p ∈ nmF ns s t k, InP s p
  | 0, _ => fun p hp => by
    unfold nmF at hp
    rw [List.range_zero, List.foldl_nil] at hp
    rw [(List.mem_replicate.mp hp).2]
    exact ⟨by decide, by omega, by decide, by omega⟩
  | k + 1, hk => fun p hq => by
    rw [nmF_succ, nmStep] at hq
    rcases List.mem_or_eq_of_mem_set hq with hq | hq
    · exact nmF_ok hs hp ht k (by omega) p hq
    · have hkl : (k : Int) < s * s := by rw [← ht.len]; omega
      have g := getD_in ht (Int.natCast_nonneg k) hkl
      rw [Int.toNat_natCast] at g
      have g1 := perm_at hp g.1 g.2.1
      have g2 := perm_at hp g.2.2.1 g.2.2.2
      rw [hq]
      exact ⟨g1.2.1, g1.2.2, g2.2.1, g2.2.2⟩
theorem nameT_ok {s : Int} {ns : List Int} {t : Tab} (hs : 1 ≤ s) (hp : ns.Perm (iota s)) (ht : TabOk s t) : TabOk s (nameT s ns t) := by
  have hss : 0 ≤ s * s := Int.mul_nonneg (by omega) (by omega)
  exact ⟨by unfold nameT; rw [nmF_len]; omega, nmF_ok hs hp ht _ (Nat.le_refl _)⟩
/-- tables that are good by making -/
inductive GoodT (m s : Int) : List Tab → Prop
  | plain {ts : List Tab} : PlainT m s ts → GoodT m s ts
  | side {w r : Int} {ta tb : List Tab} : 1 ≤ w → 1 ≤ r → w * r = s → PlainT m w ta → PlainT m r tb → GoodT m s (List.zipWith (sideT w r) ta tb)
  | name {ts : List Tab} {ns : List Int} : GoodT m s ts → ns.Perm (iota s) → GoodT m s (ts.map (nameT s ns))
theorem GoodT.ok {m s : Int} {ts : List Tab} (hs : 1 ≤ s) (h : GoodT m s ts) : AllOk m s ts := by
  induction h with
  | plain h => exact h.ok hs
  | side w1 r1 e ha hb =>
    have oa := ha.ok w1
    have ob := hb.ok r1
    have la := oa.len
    have lb := ob.len
    refine ⟨by rw [List.length_zipWith]; omega, fun t ht => ?_⟩
    obtain ⟨i, hi⟩ := List.mem_iff_getElem?.mp ht
    rw [List.getElem?_zipWith] at hi
    revert hi
    split
    · rename_i x y hx hy
      intro hi
      cases hi
      rw [← e]
      exact sideT_ok w1 r1 (oa.ok _ (List.mem_of_getElem? hx)) (ob.ok _ (List.mem_of_getElem? hy))
    · intro hi
      cases hi
  | name h hp ih =>
    refine ⟨by rw [List.length_map]; exact ih.len, fun t ht => ?_⟩
    obtain ⟨u, hu, rfl⟩ := List.mem_map.mp ht
    exact nameT_ok hs hp (ih.ok u hu)
theorem GiveT.mono {K : PySem.W.Frag} {d l : Addr} {H H1 : Hp} {Q : VK} {R : List Tab → Prop} (k : GiveT K d l H Q R) (b : But [d, l] H H1) (hD : Deal H d l) (F : Addr) (ls : List Addr) (ts : List Tab) (H' : Hp) (b1 : But [d, l] H1 H') (d1 : Deal H' d l) (t : Tabs K H1 H' F ls ts) (r : R ts) (nd : ∀ x ∈ F :: ls, x ≠ d ∧ x ≠ l) : Q (.ref F) H' :=
  k F ls ts H' (b.trans b1) d1 ⟨t.lst, t.tab, t.nd, b.none_of (nd F List.mem_cons_self) t.newF, fun x hx => b.none_of (nd x (List.mem_cons_of_mem _ hx)) (t.newL x hx)⟩ r
theorem Same.deal {H H' : Hp} {d l : Addr} (s : Same H H') (h : Deal H d l) : Deal H' d l := by
  obtain ⟨z1, z2, z3, z4, z5, z6, z7⟩ := h.ex
  exact ⟨z1, z2, z3, z4, s _ _ z5, s _ _ z6, z7⟩
end Wf
/-! Books. -/
namespace Wf
open PySem PySem.Spec L2
structure Book where
  ps : List Int
  s : Int
  ts : List Tab
def dT (t : Tab) : PyData := .tuple (t.map dP)
theorem noL_dT (t : Tab) : noL (dT t) = true := noLAll_dP t
theorem noLAll_dT : ∀ ts : List Tab, noLAll (ts.map dT) = true
  | [] => rfl
  | t :: ts => by simp [noLAll, noL_dT, noLAll_dT ts]
structure BookOk (m : Int) (b : Book) : Prop where
  pac : PacesOk m b.ps
  m1 : 1 ≤ m
  m5 : m ≤ 5
  s1 : 1 ≤ b.s
  s6 : b.s ≤ 6
  tab : AllOk m b.s b.ts
end Wf
/-! The deal made. -/
namespace Wf
open PySem PySem.Spec L2
def sp_deal (K : PySem.W.Frag) : Sp := fun vs H Q _ => ∃ (a : Addr) (b : Int) (ns : List Int), vs = [.ref a, .int b] ∧ SqL K H a (ns.map V.int) ∧ 0 ≤ b ∧ b ≤ 63 ∧ ns.length ≤ 1000 ∧
  ∀ (d l : Addr) (H' : Hp), Same H H' → H d = none → H l = none → Deal H' d l → Q (.ref d) H'
theorem cut_ints (ns : List Int) (lo hi : Option Int) : ∃ ms : List Int, cutV (ns.map V.int) lo hi = ms.map V.int ∧ ms.length ≤ ns.length := by
  refine ⟨(ns.drop (HT.sIx (ns.map V.int).length 0 lo)).take (HT.sIx (ns.map V.int).length (ns.map V.int).length hi - HT.sIx (ns.map V.int).length 0 lo), ?_, ?_⟩
  · unfold cutV
    rw [List.map_take, List.map_drop]
  · rw [List.length_take, List.length_drop]
    omega
theorem putK_new {kvs : List (Key × V)} {k : Key} {v : V} (h : valV kvs k = none) : putK kvs k v = kvs ++ [(k, v)] := by
  unfold putK
  rw [valV_any, h]
  rfl
def four (s m n l : V) : List (Key × V) := [(Sum.inr "seed", s), (Sum.inr "many", m), (Sum.inr "now", n), (Sum.inr "left", l)]
theorem merge4 (s m n l : V) : mergeK [] (four s m n l) = four s m n l := by
  unfold four
  unfold mergeK
  simp only [List.foldl]
  rw [putK_new (kvs := []) valV_nil]
  simp only [List.nil_append]
  rw [putK_new (kvs := [(Sum.inr (Str.ofString "seed"), s)]) ((valV_neg (key_ne (by decide +kernel))).trans valV_nil)]
  simp only [List.cons_append, List.nil_append]
  rw [putK_new (kvs := [(Sum.inr (Str.ofString "seed"), s), (Sum.inr (Str.ofString "many"), m)]) ((valV_neg (key_ne (by decide +kernel))).trans ((valV_neg (key_ne (by decide +kernel))).trans valV_nil))]
  simp only [List.cons_append, List.nil_append]
  rw [putK_new (kvs := [(Sum.inr (Str.ofString "seed"), s), (Sum.inr (Str.ofString "many"), m), (Sum.inr (Str.ofString "now"), n)]) ((valV_neg (key_ne (by decide +kernel))).trans ((valV_neg (key_ne (by decide +kernel))).trans ((valV_neg (key_ne (by decide +kernel))).trans valV_nil)))]
  rfl
def t_deal (K : PySem.W.Frag) : TS :=
  tSeq (tAsg (tLc (iList K (tSl (rSlL K) (tVar 0) (tPart (tVar 1)) (tPart (tC (.int 63))))) (gName 4) (tYes) (tCB (qMax2) (tCons (tVar 4) (tCons (tOp qSub (tC (.int 0)) (tVar 4)) (tNil)))) [4]) (gName 2))
    (tSeq (tAsg (tOp qAdd (tC (.int 104729)) (tOp qMul (tC (.int 31)) (tVar 1))) (gName 3))
    (tSeq (tFor (iList K (tVar 2)) (gName 4) (tAsg (tOp qMod (tOp qAdd (tOp qAdd (tOp qMul (tVar 3) (tC (.int 69623))) (tOp qMod (tVar 4) (tC (.int 2147483629)))) (tC (.int 1))) (tC (.int 2147483647))) (gName 3)))
    (tRet (tDisp ((tC (.str "seed"), tOp qAdd (tVar 3) (tC (.int 1))) :: ((tC (.str "many"), tC (.int 0)) :: ((tC (.str "now"), tC (.int 0)) :: ((tC (.str "left"), Wf.tLstRev K (tLc (iList K (tVar 2)) (gName 4) (tTest (tOp qGe (tVar 4) (tOp qPow (tC (.int 10)) (tC (.int 18))))) (tVar 4) [4])) :: ([])))))))))
theorem pure_deal {K : PySem.W.Frag} (vs : List V) (H : Hp) (Q : VK) (E : XK) (h : sp_deal K vs H Q E) : t_deal K (EndsQ Q) (sN 5 vs) H := by
  obtain ⟨a, b, ns, rfl, hS, b0, b1, hns, k⟩ := h
  show t_deal K _ [some (.ref a), some (.int b), none, none, none] H
  refine ⟨_, rfl, _, rfl, _, rfl, 63, rfl, a, _, rfl, hS, fun p hp => ?_⟩
  obtain ⟨ms, e, hms⟩ := cut_ints ns (some b) (some 63)
  rw [e]
  have sp := same_new (o := .lst (ms.map V.int)) hp
  have hpp : upd H p (.lst (ms.map V.int)) p = some (.lst (ms.map V.int)) := upd_same
  generalize upd H p (.lst (ms.map V.int)) = H1 at sp hpp
  refine ⟨p, rfl, ⟨_, SqL.of hpp⟩, fun D hD => ?_⟩
  have hDp : p ≠ D := ne_of_none hpp hD
  have hD0 : H D = none := sp.free hD
  refine lc_list (K := K) (a := p) (xs := ms.map V.int) (fun i H2 => Same H1 H2 ∧ ∃ zs : List Int, H2 D = some (.lst (zs.map V.int)) ∧ zs.length = i ∧ ∀ z ∈ zs, 0 ≤ z) ?_ ?_ ?_ ?_
  · exact ⟨same_new hD, [], upd_same, rfl, fun z hz => (List.not_mem_nil hz).elim⟩
  · rintro i H2 _ ⟨s2, _⟩
    exact SqL.of (s2 _ _ hpp)
  · rintro i x H2 hx ⟨s2, zs, e1, hl, hz⟩
    rw [List.getElem?_map] at hx
    obtain ⟨y, hy, rfl⟩ := Option.map_eq_some_iff.mp hx
    refine ⟨rfl, ?_⟩
    simp only [tYes, ↓reduceIte]
    refine ⟨_, rfl, _, rfl, _, _, rfl, rfl, _, _, rfl, _, e1, ?_, ?_⟩
    · rw [List.length_map, hl]
      have := (List.getElem?_eq_some_iff.mp hy).1
      exact Nat.lt_of_le_of_lt (show i ≤ 1000 by omega) (by decide)
    · refine ⟨fun c o e => ?_, zs ++ [if 0 - y > y then 0 - y else y], ?_, by simp [hl], fun z hq => ?_⟩
      · rw [upd_ne (ne_of_none e hD)]
        exact s2 _ _ e
      · rw [upd_same, List.map_append]
        rfl
      · rcases List.mem_append.mp hq with hq | hq
        · exact hz z hq
        · rw [List.mem_singleton.mp hq]
          split <;> omega
  · rintro H2 ⟨s2, zs, e1, hl, hz⟩
    refine ⟨_, rfl, _, _, rfl, rfl, .inl ⟨by decide, by decide⟩, _, _, rfl, rfl, ?_⟩
    refine ⟨_, rfl, D, rfl, ⟨_, SqL.of e1⟩, for_list (K := K) (a := D) (xs := zs.map V.int) (fun i σ H3 => ∃ (w : Int) (c4 : Option V), σ = [some (.ref a), some (.int b), some (.ref D), some (.int w), c4] ∧ H3 = H2) ?_ ?_ ?_ ?_⟩
    · exact ⟨_, none, rfl, rfl⟩
    · rintro i σ H3 _ ⟨w, c4, rfl, rfl⟩
      exact SqL.of e1
    · rintro i x σ H3 hx ⟨w, c4, rfl, rfl⟩
      rw [List.getElem?_map] at hx
      obtain ⟨y, hy, rfl⟩ := Option.map_eq_some_iff.mp hx
      exact ⟨_, rfl, _, _, rfl, rfl, .inr ⟨by decide, by decide⟩, _, rfl, _, _, rfl, rfl, mp rfl, _, _, rfl, rfl, _, _, rfl, rfl, _, _, rfl, rfl, mp rfl, _, _, rfl, rfl⟩
    · rintro σ H3 ⟨w, c4, rfl, rfl⟩
      intro d hd
      refine ⟨_, rfl, _, _, rfl, rfl, ?_⟩
      have sd := same_new (o := .dK []) hd
      have hdd : upd H3 d (.dK []) d = some (.dK []) := upd_same
      generalize upd H3 d (.dK []) = H4 at sd hdd
      have e4 := sd _ _ e1
      refine ⟨_, rfl, D, rfl, ⟨_, SqL.of e4⟩, fun G hG => ?_⟩
      refine lc_list (K := K) (a := D) (xs := zs.map V.int) (fun i H5 => Same H4 H5 ∧ ∃ gs : List Int, H5 G = some (.lst (gs.map V.int)) ∧ gs.length ≤ i ∧ ∀ z ∈ gs, 0 ≤ z) ?_ ?_ ?_ ?_
      · exact ⟨same_new hG, [], upd_same, Nat.le_refl _, fun z hz => (List.not_mem_nil hz).elim⟩
      · rintro i H5 _ ⟨s5, _⟩
        exact SqL.of (s5 _ _ e4)
      · rintro i x H5 hx ⟨s5, gs, g1, gl, gz⟩
        rw [List.getElem?_map] at hx
        obtain ⟨y, hy, rfl⟩ := Option.map_eq_some_iff.mp hx
        refine ⟨rfl, _, rfl, _, _, rfl, rfl, ⟨by decide, by decide, by decide⟩, _, _, rfl, rfl, _, rfl, ?_⟩
        refine ifd (fun c => ?_) (fun c => ?_)
        · refine ⟨_, rfl, _, g1, ?_, ?_⟩
          · rw [List.length_map]
            have := (List.getElem?_eq_some_iff.mp hy).1
            rw [List.length_map] at hl
            exact Nat.lt_of_le_of_lt (show gs.length ≤ 1000 by omega) (by decide)
          · refine ⟨fun c o e => ?_, gs ++ [y], ?_, by simp; omega, fun z hq => ?_⟩
            · rw [upd_ne (ne_of_none e hG)]
              exact s5 _ _ e
            · rw [upd_same, List.map_append]
              rfl
            · rcases List.mem_append.mp hq with hq | hq
              · exact gz z hq
              · rw [List.mem_singleton.mp hq]
                exact hz y (List.mem_of_getElem? hy)
        · exact ⟨s5, gs, g1, by omega, gz⟩
      · rintro H5 ⟨s5, gs, g1, gl, gz⟩
        refine ⟨G, _, rfl, SqL.of g1, fun L hL => ?_⟩
        have sL := same_new (o := .lst (gs.map V.int).reverse) hL
        have hdL := s5 _ _ hdd
        have hLd : d ≠ L := ne_of_none hdL hL
        refine ⟨by rw [upd_ne hLd]; exact hdL, four (.int (w + 1)) (.int 0) (.int 0) (.ref L), rfl, (by show 4 ≤ 15; decide), ?_⟩
        rw [merge4]
        have hL0 : H L = none := (sp.trans (s2.trans (sd.trans s5))).free hL
        have hd0 : H d = none := (sp.trans s2).free hd
        refine k d L _ (fun c o e => ?_) hd0 hL0 ⟨w + 1, 0, 0, gs.reverse, upd_same, ?_, by decide, fun z hq => gz z (List.mem_reverse.mp hq)⟩
        · rw [upd_ne (ne_of_none e hd0), upd_ne (ne_of_none e hL0)]
          exact (sp.trans (s2.trans (sd.trans s5))) _ _ e
        · rw [upd_ne (Ne.symm hLd), upd_same, List.map_reverse]
end Wf
/-! Tuples as data: places, slices, sums; the program's pair_at and with_pair. -/
namespace Wf
open PySem PySem.Spec L2
section
variable {K : PySem.W.Frag} {H : Hp} {Q : VK} {t x y : V} {ds es : List PyData} {d : PyData}
theorem DpAll.drop : ∀ {vs : List V} {ds : List PyData} (n : Nat), DpAll K H vs ds → DpAll K H (vs.drop n) (ds.drop n)
  | _, _, 0, h => h
  | _, _, _ + 1, .nil => .nil
  | _, _, n + 1, .cons _ h => DpAll.drop n h
theorem DpAll.take : ∀ {vs : List V} {ds : List PyData} (n : Nat), DpAll K H vs ds → DpAll K H (vs.take n) (ds.take n)
  | _, _, 0, _ => .nil
  | _, _, _ + 1, .nil => .nil
  | _, _, n + 1, .cons h t => .cons h (DpAll.take n t)
def cutD (ds : List PyData) (lo hi : Option Int) : List PyData := (ds.drop (HT.sIx ds.length 0 lo)).take (HT.sIx ds.length ds.length hi - HT.sIx ds.length 0 lo)
end
/-! ### put_in -/
end Wf
/-! pair_at, with_pair; what the law says of them. -/
namespace Wf
open PySem PySem.Spec L2
def tnum (u v : Int) : Int := u * (u - 1) / 2 + v
/-- a place of a book -/
structure Pl (m s u v a b : Int) : Prop where
  u0 : 1 ≤ u
  u1 : u < m
  v0 : 0 ≤ v
  v1 : v < u
  a0 : 0 ≤ a
  a1 : a < s
  b0 : 0 ≤ b
  b1 : b < s
theorem tnum_lt {m u v : Int} (m5 : m ≤ 5) (u0 : 1 ≤ u) (u1 : u < m) (v0 : 0 ≤ v) (v1 : v < u) : 0 ≤ tnum u v ∧ tnum u v < nT m := by
  unfold tnum nT
  have hm : m = 2 ∨ m = 3 ∨ m = 4 ∨ m = 5 := by omega
  have hu : u = 1 ∨ u = 2 ∨ u = 3 ∨ u = 4 := by omega
  rcases hu with rfl | rfl | rfl | rfl <;> rcases hm with rfl | rfl | rfl | rfl <;> simp <;> omega
def Book.tab (B : Book) (u v : Int) : Tab := B.ts.getD (tnum u v).toNat []
def Book.at (B : Book) (u v a b : Int) : Int × Int := (B.tab u v).getD (a * B.s + b).toNat (0, 0)
section
variable {K : PySem.W.Frag} {H : Hp} {t : V} {B : Book} {m u v a b : Int}
theorem Book.row (ok : BookOk m B) (pl : Pl m B.s u v a b) : B.ts[(tnum u v).toNat]? = some (B.tab u v) ∧ TabOk B.s (B.tab u v) := by
  have h := tnum_lt ok.m5 pl.u0 pl.u1 pl.v0 pl.v1
  have hl := ok.tab.len
  have hi : (tnum u v).toNat < B.ts.length := by omega
  have e : B.ts[(tnum u v).toNat]? = some B.ts[(tnum u v).toNat] := List.getElem?_eq_getElem hi
  have g : B.tab u v = B.ts[(tnum u v).toNat] := by unfold Book.tab; simp [List.getD, e]
  rw [g]
  exact ⟨e, ok.tab.ok _ (List.getElem_mem hi)⟩
theorem Book.cell (ok : BookOk m B) (pl : Pl m B.s u v a b) : (B.tab u v)[(a * B.s + b).toNat]? = some (B.at u v a b) ∧ InP B.s (B.at u v a b) := by
  have ht := (Book.row ok pl).2
  have hl := ht.len
  have hx := ix_lt pl.a0 pl.a1 pl.b0 pl.b1
  have hi : (a * B.s + b).toNat < (B.tab u v).length := by omega
  have e : (B.tab u v)[(a * B.s + b).toNat]? = some (B.tab u v)[(a * B.s + b).toNat] := List.getElem?_eq_getElem hi
  have g : B.at u v a b = (B.tab u v)[(a * B.s + b).toNat] := by unfold Book.at; simp [List.getD, e]
  rw [g]
  exact ⟨e, ht.inn _ (List.getElem_mem hi)⟩
end
end Wf
/-! law k03: what is due, right, the law. -/
namespace Wf
open PySem PySem.Spec L2
structure Rows (K : PySem.W.Frag) (H : Hp) (F : Addr) (ts : List Tab) : Prop where
  ex : ∃ vs, H F = some (.lst vs) ∧ DpAll K H vs (ts.map dT)
theorem Rows.same {K : PySem.W.Frag} {H H' : Hp} {F : Addr} {ts : List Tab} (h : Rows K H F ts) (s : Same H H') : Rows K H' F ts := by
  obtain ⟨vs, e1, e2⟩ := h.ex
  exact ⟨vs, s _ _ e1, DpAll.tp (Same.tp s) _ _ (noLAll_dT _) e2⟩
end Wf
/-! Data of small numbers and tuples: shown, short, of small weight and depth. -/
namespace Wf
open PySem PySem.Spec L2
end Wf
/-! for k, x in enumerate(t), t a tuple -/
namespace Wf
open PySem PySem.Spec
open AutoSeq1 (wpAny_loadPart')
theorem meets_enumT (l : Addr) (ws : Array Value) (n : Nat) (dd : Option Addr) (sl : Array (Option Value)) :
    Meets (Builtin.«enumerate.__new__» ⟨[.type "enumerate", .ref l], []⟩) (fun _ R s => s.heap.get? l = some { cls := .type "tuple", dict := dd, data := .seq ws n, slots := sl } ∧
      R (.ok (.ret (.ref (s.heap.push { cls := .type "tuple_iterator", data := .fields #[.ref l, .int 0 0] }).objs.size)))
        { s with heap := (s.heap.push { cls := .type "tuple_iterator", data := .fields #[.ref l, .int 0 0] }).push { cls := .type "enumerate", data := .fields #[.none, .bool false, .ref s.heap.objs.size, rawInt 0, .none, .none] } }) :=
  .of_wp fun prog w A R s hq => by
    obtain ⟨hp, gn, dr, tk, os⟩ := s; obtain ⟨hl, hq⟩ := hq
    have hsubE := sub_enumerate
    have hL : Heap.IsTuple (Shared.heap ⟨hp, gn, dr, tk, os⟩) l ws := ⟨_, hl, rfl, n, rfl⟩
    wp_walk using wpAny_loadPart' hl
    refine wpAny_stack_any fun stk => wpAny_pure ?_
    split
    · rename_i cc _ _ _ _ _
      cases (cc == Value.type "enumerate") <;> (wp_walk using wpAny_loadPart' hl, wpAny_pyIter_tuple hL; exact ⟨_, rfl, hq⟩)
    · wp_walk using wpAny_loadPart' hl, wpAny_pyIter_tuple hL
      exact ⟨_, rfl, hq⟩
section
variable {prog : Program} {w : World} {A : Around} {E : Value → Shared → Prop} {s : Shared}
theorem call_enumT {l : Addr} {ws : Array Value} {Q : Value → Shared → Prop} (hL : s.heap.IsTuple l ws)
    (k : ∀ h', IsEnum h' (s.heap.objs.size + 1) s.heap.objs.size 0 .none → h'.IsTupleIter s.heap.objs.size l 0 → h'.objs.size = s.heap.objs.size + 2 →
      (∀ b o, s.heap.get? b = some o → h'.get? b = some o) → Q (.ref (s.heap.objs.size + 1)) { s with heap := h' }) :
    wpAny (model prog w) A (call (.type "enumerate") [.ref l]) Q E s := by
  obtain ⟨⟨c, dd, dt, sl⟩, hl, hc, n, hd⟩ := hL
  replace hc : c = .type "tuple" := hc
  replace hd : dt = .seq ws n := hd
  subst hc hd
  refine callType_new F.called_enumerate (by decide) (F.typeCall_enumerate_1 _) (F.newCall_enumerate_1 _) (fun ob => F.args_object_init_2 ob _) F.entry_enumerate_new
    (meets_enumT l ws n dd sl) ⟨hl, ?_⟩
  have z1 : (s.heap.push { cls := .type "tuple_iterator", data := .fields #[.ref l, .int 0 0] }).objs.size = s.heap.objs.size + 1 := Heap.size_push ..
  show _ ∧ _
  rw [z1]
  have en : IsEnum ((s.heap.push { cls := .type "tuple_iterator", data := .fields #[.ref l, .int 0 0] }).push
      { cls := .type "enumerate", data := .fields #[.none, .bool false, .ref s.heap.objs.size, rawInt 0, .none, .none] }) (s.heap.objs.size + 1) s.heap.objs.size 0 .none := by
    have g := Heap.get?_push_size (s.heap.push { cls := .type "tuple_iterator", data := .fields #[.ref l, .int 0 0] })
      (o := { cls := .type "enumerate", data := .fields #[.none, .bool false, .ref s.heap.objs.size, rawInt 0, .none, .none] }) rfl
    rw [z1] at g
    exact g
  exact ⟨⟨_, en, rfl⟩, k _ en ⟨_, Heap.get?_push_of_some _ (Heap.get?_push_size _ rfl), rfl, rfl⟩ (by rw [Heap.size_push, z1]) fun b o e => Heap.get?_push_of_some _ (Heap.get?_push_of_some _ e)⟩
theorem enumT_end {e it l : Addr} {i : Nat} {ws : Array Value} {c : Int} {old : Value} {Q : Option Value → Shared → Prop} (hh : A.handled = none)
    (en : IsEnum s.heap e it c old) (hit : s.heap.IsTupleIter it l i) (hl : s.heap.IsTuple l ws) (hx : ws[i]? = none)
    (k : ∀ h', Heap.ExtBut it s.heap h' → Q none { s with heap := h' }) : wpAny (model prog w) A (pyNext (.ref e)) Q E s := by
  have ty : s.TypeIs (.ref e) "enumerate" := ⟨_, en, rfl⟩
  unfold pyNext
  refine wpAny_bind (wpAny_attempt (wpAny_callSpecial?_slot (name := Str.ofString "__next__") ty F.slot_enumerate_next (wpAny_call_entry F.slot_enumerate_next ty F.entry_enumerate_next ?_ (F.args_enumerate_next_1 _))))
  show wpAny _ _ (field (.ref e) 2 >>= _) _ _ _
  refine wpAny_bind (wpAny_field en rfl (x := .ref it) rfl (wpAny_bind (wpAny_nextOf_tuple_end hh hit hl hx fun h' x eb hx' => ?_)))
  obtain ⟨o, ho, hc⟩ := hx'
  exact wpAny_bind (wpAny_isInstance (T := "StopIteration") (b := true) ⟨o, ho, hc⟩ isSubtype_stop (wpAny_pure (k _ eb)))
end
end Wf
namespace Wf
open PySem PySem.Spec PyProof.Rows L2
/-- what is walked: the tuple at a, each thing in a new pair with its number -/
def ItT (K : PySem.W.Frag) (a : Addr) : It :=
  ⟨fun i H => ∃ (xs : List V) (x : V), SqT K H a xs ∧ xs[i]? = some x, fun i H v H' => ∃ T x, v = .ref T ∧ H T = none ∧ H' = upd H T (.tup [.int (i : Nat), x]) ∧ ∀ xs, SqT K H a xs → xs[i]? = some x, fun i H => ∃ xs : List V, SqT K H a xs ∧ xs.length ≤ i⟩
theorem apart_cls {h : Heap} {a b : Addr} {o u : Obj} {m n : String} (ha : h.get? a = some o) (hb : h.get? b = some u) (ho : o.cls = .type m) (hu : u.cls = .type n) (d : m ≠ n) : a ≠ b := fun e => by
  subst e
  rw [ha] at hb
  cases hb
  rw [ho] at hu
  exact d (by injection hu)
theorem turn_enumT {P : Program} {w : World} {K : PySem.W.Frag} {elts : List Expr} {kk : Nat} {tpos : Pos} (a e it : Addr) :
    Turn P w K (.Tuple elts kk tpos) (ItT K a) [e, it] e (fun i h => (∃ old, IsEnum h e it ((i : Nat) : Int) old) ∧ h.IsTupleIter it a i ∧ e ≠ it) where
  mem := by simp
  obj := fun i h st b hb => by
    obtain ⟨⟨old, en⟩, ⟨o, ho, hc, hd⟩, _⟩ := st
    have eb : b = e ∨ b = it := by simpa using hb
    rcases eb with rfl | rfl
    · exact ⟨_, en, fun v q => nomatch q⟩
    · exact ⟨o, ho, fun v q => by rw [hd] at q; cases q⟩
  keep := fun i h h' st kp => let ⟨⟨old, en⟩, hi, ne⟩ := st; ⟨⟨old, kp e (by simp) _ en⟩, hi.at fun o q => kp it (by simp) o q, ne⟩
  item := by
    intro X hP hw hK hc i pins s σ H E I hf st hg
    subst hP hw hK
    obtain ⟨⟨old, en⟩, hit, ne⟩ := st
    obtain ⟨xs, x, hq, hx⟩ := hg
    obtain ⟨its, rv, p, hz⟩ := I.tuple hq
    have pT : s.heap.IsTuple a its.toArray := p
    obtain ⟨u, hu, ru⟩ := rv.get hx
    have lx : i < xs.length := (List.getElem?_eq_some_iff.mp hx).1
    have lr := rv.length
    have hel : e < s.heap.objs.size := Heap.lt_size en
    have hil : it < s.heap.objs.size := by obtain ⟨_, q, _⟩ := hit; exact Heap.lt_size q
    have ae : e ≠ a := by
      obtain ⟨o, ho, hoc, _⟩ := pT
      exact apart_cls en ho rfl hoc (by decide)
    have ai : a ≠ it := by
      obtain ⟨o, ho, hoc, _⟩ := pT
      obtain ⟨o2, ho2, hoc2, _⟩ := hit
      exact apart_cls ho ho2 hoc hoc2 (by decide)
    refine wpAny_pyNext_enum_itemD (Draws.tuple (show X.A.in1.handled = none from I.ok.hd hc) it a ai its.toArray) en ⟨hit, pT⟩ (by simp; omega) ne (by simp [ne, ae]) fun y h' tk hy ho hst hT hsz hk => ?_
    have yu : y = u := by
      have : its[i]? = some y := by simpa using hy
      rw [hu] at this
      exact (Option.some.inj this).symm
    subst yu
    refine ⟨_, rfl, wpAny_letOwnedTupleGo_enum (s := { s with heap := h', toks := tk + 1 }) ho fun h2 en2 sb => ?_⟩
    have hT2 : h2.get? s.heap.objs.size = some { cls := .type "tuple", data := .seq #[.int i tk, y] } := (sb.2 _ (Nat.ne_of_gt hel)).trans hT
    have ok2 : ObjOk X.prog X.w (upd H s.heap.objs.size (.tup [.int (i : Nat), x])) h2 s.heap.objs.size (.tup [.int (i : Nat), x]) :=
      ⟨by show 2 ≤ sizeLine; decide, [.int i tk, y], .cons ⟨_, rfl⟩ (.cons ru .nil), ⟨_, hT2, rfl, _, rfl⟩⟩
    have I2 : Inv X pins σ (upd H s.heap.objs.size (.tup [.int (i : Nat), x])) { s with heap := h2, toks := tk + 1 } :=
      I.turnedNew (ch := [e, it]) (fun b ob hb q => (sb.2 b (fun z => hb (by simp [z]))).trans (hk b ob (fun z => hb (by simp [z])) (fun z => hb (by simp [z])) q)) hf (Nat.le_refl _) ok2
    refine ⟨.ref s.heap.objs.size, _, I2, rfl, ⟨_, x, rfl, I.hok.fresh (Nat.le_refl _), rfl, fun ys hy2 => by rw [I.tuple_inj hy2 hq]; exact hx⟩, ⟨⟨y, ?_⟩, hst.1.at fun o q => (sb.2 it (Ne.symm ne)).trans q, ne⟩, fun b hb => ?_⟩
    · rw [show ((i + 1 : Nat) : Int) = (i : Int) + 1 by omega]
      exact en2
    · have lb : b < s.heap.objs.size := by
        have eb : b = e ∨ b = it := by simpa using hb
        rcases eb with rfl | rfl
        · exact hel
        · exact hil
      rw [upd_ne (Nat.ne_of_lt lb)]
      exact (hf b hb).1
  done := by
    intro X hP hw hK hc i pins s σ H E I hf st hg
    subst hP hw hK
    obtain ⟨⟨old, en⟩, hit, ne⟩ := st
    obtain ⟨xs, hq, hx⟩ := hg
    obtain ⟨its, rv, p, hz⟩ := I.tuple hq
    have pT : s.heap.IsTuple a its.toArray := p
    obtain ⟨f0, f1, f2, f3, f4, f5⟩ := hf it (by simp)
    have lr := rv.length
    have ai : a ≠ it := by
      obtain ⟨o, ho, hoc, _⟩ := pT
      obtain ⟨o2, ho2, hoc2, _⟩ := hit
      exact apart_cls ho ho2 hoc hoc2 (by decide)
    refine enumT_end (I.ok.hd hc) en hit pT (by simp; omega) fun h' eb => ⟨rfl, I.turned (t' := s.toks) (fun b o hb q => eb b o hb q) f0 f1 f3 f4 f5⟩
  self := fun A i s Q E st h => let ⟨⟨_, en⟩, _⟩ := st; wpAny_pyIter_enum en h
end Wf
/-! Own errors over an own base over ValueError: their __init__, raised, caught. -/
namespace Wf
open PySem PySem.Spec PyProof.Rows L2
/-- the base class x, at C0, whose __init__ is ValueError's -/
structure BaseC (K : PySem.W.Frag) (mg : Str → Option Value) (x : Str) (C0 : Addr) : Prop where
  g : mg x = some (.ref C0)
  rd : PySem.W.readsIn K C0 (.type "type") = true
  ga : PySem.W.specialIn K (.ref C0) "__getattribute__" = some (some (.builtin "type.__getattribute__"))
  at_ : PySem.W.findCls K (.ref C0) (.type "type") "__init__" = some (.val (.builtin "ValueError.__init__"))
section
variable {X : Cx} {e : Expr} {es : List Expr} {ta : TA} {p1 p2 pos : Pos} {x : Str} {C0 : Addr}
/-- x.__init__(self, ..) -/
theorem pe_binit {pl : Sem Bool} (T : BaseC X.K X.mg x C0) (hg : Gl X x) (ha : PA X (e :: es) ta) (hdb : (x == ("__debug__" : Str)) = false := by decide)
    (hc : eval (.Call (.Attribute (.Name x p1) "__init__" p2) (e :: es) [] pos) X.env = (do
      let ov ← eval (.Name x p1) X.env
      standAt p2.atName
      let (f, first) ← holding [ov] (getMethod ov "__init__" pl)
      callWith pos f first (backTo pos (starEach (e :: es) X.env)) (backToKw pos (keywordEach [] X.env))) := by rfl)
    (he : starEach (e :: es) X.env = (false, eval e X.env) :: starEach es X.env := by rfl) (hpl : (backTo pos (starEach es X.env)).any (·.1) = false := by rfl) :
    PE X (.Call (.Attribute (.Name x p1) "__init__" p2) (e :: es) [] pos) (tVeI X.K ta) := by
  refine ⟨fun pins s σ H Q I h => ?_⟩
  refine PySem.W.methodCall_KW (ld_glob I hg T.g ?_ hdb) hc
  refine PySem.W.method_cls I.kIn T.ga (PySem.W.cls_value I.kIn T.rd T.at_ (by decide +kernel) ?_)
  show wpAny _ _ (callWith pos (Value.builtin "ValueError.__init__") [] (backTo pos (starEach (e :: es) X.env)) []) _ _ _
  refine PyProof.Rows.callWith_method1 (thn (ha.run pos pins _ σ H _ (I.tok _) h) fun us s1 ⟨vs, H1, I1, r1, a, C, ws, ev, hl, O, ea, q⟩ => ?_) he hpl
  subst ev
  cases r1 with
  | @cons _ u0 _ ur ra rw' =>
    obtain rfl : u0 = Value.ref a := ra
    have hlen : ur.length ≤ sizeLine := by
      rw [← Paired.length rw', sizeLine_eq]
      omega
    exact oinit_ok O I1 ea hlen fun s' J => ⟨.non, H1, J, rfl, q⟩
end
/-! ### readings may be widened -/
def up (ta : TA) : TA := fun σ H Q => ∃ Q' : List V → Hp → Prop, ta σ H Q' ∧ ∀ vs H1, Q' vs H1 → Q vs H1
theorem pa_up {X : Cx} {es : List Expr} {ta : TA} (h : PA X es ta) : PA X es (up ta) := by
  refine ⟨fun pos pins s σ H Q I q => ?_⟩
  obtain ⟨Q', h1, h2⟩ := q
  exact thn (h.run pos pins s σ H Q' I h1) fun us s1 ⟨vs, H1, I1, r1, q1⟩ => ⟨vs, H1, I1, r1, h2 vs H1 q1⟩
/-! ### __init__(self, f1, f2): the base's, then both fields -/
/-! ### calls of defs that may raise -/
abbrev CalX (P : Program) (w : World) (K : PySem.W.Frag) (mg : Str → Option Value) (base : Heap) (k : Nat) (x : Str) (ps : List Str) (sp : Sp) : Prop := Cal P w K mg base (L2.CX P w) k x ps sp
theorem pe_calX {X : Cx} {k j : Nat} {x : Str} {ps : List Str} {sp : Sp} {W : WX} {E : XK} {e : Expr} {es : List Expr} {t : TA} {p pos : Pos} (C : CalX X.prog X.w X.K X.mg X.base k x ps sp) (hr : Room j X.A) (tk : Takes X W) (hW : ∀ cls d σ H, E cls d H → W cls d σ H) (hg : Gl X x) (ha : PA X (e :: es) t) (hk : k ≤ j := by decide)
    (hdb : (x == ("__debug__" : Str)) = false := by decide) (he : starEach (e :: es) X.env = (false, eval e X.env) :: starEach es X.env := by rfl) (hpl : (backTo pos (starEach es X.env)).any (·.1) = false := by rfl) :
    PE X (.Call (.Name x p) (e :: es) [] pos) (tCall sp [] E t) := by
  obtain ⟨f, fd, G, m, kp, b⟩ := C.ex
  exact pe_call G (hr.mono hk) hg m kp b .nil (passes_call tk hW) ha hdb he hpl
/-- .. in the body of a try -/
theorem pe_calT {X : Cx} {k j : Nat} {x : Str} {ps : List Str} {sp : Sp} {W : WX} {e : Expr} {es : List Expr} {t : TA} {p pos : Pos} (C : CalX X.prog X.w X.K X.mg X.base k x ps sp) (hr : Room j X.A) (tk : Takes X W) (hg : Gl X x) (ha : PA X (e :: es) t) (hk : k ≤ j := by decide)
    (hdb : (x == ("__debug__" : Str)) = false := by decide) (he : starEach (e :: es) X.env = (false, eval e X.env) :: starEach es X.env := by rfl) (hpl : (backTo pos (starEach es X.env)).any (·.1) = false := by rfl) :
    PE X (.Call (.Name x p) (e :: es) [] pos) (tCallS sp (WE W) t) := by
  obtain ⟨f, fd, G, m, kp, b⟩ := C.ex
  exact pe_callS G (hr.mono hk) hg m kp b (fun σ => passAt tk σ) ha hdb he hpl
/-! ### isinstance of the caught error, its fields told -/
structure IsC (K : PySem.W.Frag) (C : Addr) : Prop where
  cl : (PySem.W.clsIn K C).isSome = true
  ga : PySem.W.findIn K (.ref C) "__getattribute__" = some (some (.builtin "BaseException.__getattribute__"))
  gg : PySem.W.findIn K (.ref C) "__getattr__" = some none
  su : PySem.W.subIn K (.ref C) (.type "BaseException") = some true
  ha : PySem.W.findIn K (.ref C) "__class__" = some (some (.builtin "object.__class__"))
  hn : PySem.W.specialIn K (.builtin "object.__class__") "__get__" = some (some (.builtin "getset_descriptor.__get__"))
  ht : PySem.W.takesIn K (.builtin "object.__class__") = some true
  hm : PySem.W.mroIn K C (.type "object") = some true
def rIsX (K : PySem.W.Frag) (a : Addr) (cls : Value) (d : Option Addr) : List V → Hp → VK → Prop := fun xs H Q => ∃ (C dd : Addr) (fs : List (Str × V)) (c : V) (b : Bool), cls = .ref C ∧ IsC K C ∧ d = some dd ∧ H dd = some (.xd fs) ∧
  ((∃ u, xs = [.ref a, c] ∧ ClsV c u ∧ PySem.W.kitOne K (.ref C) u = some b) ∨ ∃ tp cs us, xs = [.ref a, .ref tp] ∧ H tp = some (.tup cs) ∧ Paired ClsV cs us ∧ PySem.W.kitAny K (.ref C) us = some b) ∧ Q (.bl b) H
theorem call_isX {X : Cx} {a : Addr} {cls : Value} {d : Option Addr} {oe : Obj} {pn : List (Addr × Obj)} (hz : Zc cls d oe) (hf : ∃ vs, oe.data = .fields vs) : CallR (X.suite a ((a, oe) :: pn)) (.builtin "isinstance") (rIsX X.K a cls d) := by
  intro pins s σ H xs us Q I r h
  obtain ⟨C, dd, fs, c, b, rfl, T, rfl, hdd, alt, q⟩ := h
  obtain ⟨ha, _⟩ := I.pin (a, oe) (List.mem_append_left _ List.mem_cons_self)
  obtain ⟨vs, hd⟩ := hf
  have hx : ObjOk X.prog X.w H s.heap dd (.xd fs) := I.hok dd _ hdd
  obtain ⟨mA, hns, hr⟩ := hx
  obtain ⟨od, ho, hl⟩ := lookIn_ns hns
  have J : PySem.W.InstAt s.heap a oe C (some od) := ⟨ha, hz.1, by unfold PySem.W.notCls; rw [hd] <;> rfl, by rw [hz.2]; exact ho⟩
  have Z := PySem.W.kitx_exc (x := a) (ox := oe) (od := some od) T.cl T.ga T.gg T.su T.ha T.hn T.ht T.hm
  rcases alt with ⟨u, rfl, kc, e⟩ | ⟨tp, cs, ws, rfl, hT, kc, e⟩
  · obtain ⟨u1, u2, rfl, r1, r2⟩ := vals2 r
    cases (show u1 = Value.ref a from r1)
    have e2 := kc.eq r2
    subst e2
    exact PySem.W.kia_one Z I.kIn J e (fun z => nomatch z) fun tk => ⟨.bl b, H, I.tok tk, rfl, q⟩
  · obtain ⟨u1, u2, rfl, r1, r2⟩ := vals2 r
    cases (show u1 = Value.ref a from r1)
    cases (show u2 = Value.ref tp from r2)
    obtain ⟨_, its, rv, o, h1, h2, n, h3⟩ := (show ObjOk X.prog X.w H s.heap tp (.tup cs) from I.hok tp _ hT)
    have e3 := ClsV.all kc rv
    subst e3
    obtain ⟨oc, odd, dt, sl⟩ := o
    simp only at h2 h3
    subst h2 h3
    exact PySem.W.kia_tup Z I.kIn J h1 e (fun z => nomatch z) fun tk => ⟨.bl b, H, I.tok tk, rfl, q⟩
end Wf
/-! Keys that are tuples of tuples of numbers; dicts told by their one object. -/
namespace Wf
open PySem PySem.Spec L2
section
variable (P : Program) (w : World)
inductive ItR (h : Heap) : List (List Int) → List Value → Prop
  | nil : ItR h [] []
  | cons {l : List Int} {b : Addr} {ks : List (List Int)} {vs : List Value} : IsTupleKey (intKind P w) h l b → ItR h ks vs → ItR h (l :: ks) (.ref b :: vs)
def IsRow (h : Heap) (ks : List (List Int)) (a : Addr) : Prop := ∃ o items n, h.get? a = some o ∧ o.cls = .type "tuple" ∧ o.data = .seq items n ∧ ItR P w h ks items.toList
end
def numHash (l : List Int) : Int := reduceHash (Builtin.Tuple.tupleHashOf (l.map hashInt))
def rowHash (ks : List (List Int)) : Int := reduceHash (Builtin.Tuple.tupleHashOf (ks.map numHash))
section
variable {P : Program} {w : World} {A : Around} {E : Value → Shared → Prop} {s : Shared}
theorem ItR.inj {h : Heap} {x y : List (List Int)} {vs : List Value} (hx : ItR P w h x vs) (hy : ItR P w h y vs) : x = y := by
  induction hx generalizing y with
  | nil => cases hy; rfl
  | cons h1 _ ih =>
    cases hy with
    | cons h2 t2 => rw [h1.inj h2, ih t2]
theorem IsRow.typeIs {ks : List (List Int)} {a : Addr} (x : IsRow P w s.heap ks a) : s.TypeIs (.ref a) "tuple" := let ⟨o, _, _, ho, hc, _⟩ := x; ⟨o, ho, hc⟩
theorem IsRow.inj {h : Heap} {a : Addr} {x y : List (List Int)} (hx : IsRow P w h x a) (hy : IsRow P w h y a) : x = y := by
  obtain ⟨o, items, n, ho, _, hd, hi⟩ := hx
  obtain ⟨o', items', n', ho', _, hd', hi'⟩ := hy
  obtain rfl : o = o' := Option.some.inj (ho.symm.trans ho')
  rw [hd] at hd'
  injection hd' with h1 _
  subst h1
  exact hi.inj hi'
theorem ItR.keeps {h h' : Heap} {d : Addr} {o : Obj} {es ep} (ho : h.get? d = some o) (hd : o.data = .dict es ep) (hs : Heap.SameBut d h h') {ks : List (List Int)} {vs : List Value} (x : ItR P w h ks vs) : ItR P w h' ks vs := by
  induction x with
  | nil => exact .nil
  | cons h1 _ ih => exact .cons (h1.keeps ho hd hs) ih
theorem IsRow.keeps {h h' : Heap} {ks : List (List Int)} {a d : Addr} {o : Obj} {es ep} (x : IsRow P w h ks a) (ho : h.get? d = some o) (hd : o.data = .dict es ep) (hs : Heap.SameBut d h h') : IsRow P w h' ks a := by
  obtain ⟨o', items, n, ho', hc, hd', hi⟩ := x
  have hne : a ≠ d := by
    rintro rfl
    obtain rfl : o' = o := Option.some.inj (ho'.symm.trans ho)
    rw [hd] at hd'; exact nomatch hd'
  exact ⟨o', items, n, (hs.2 a hne).trans ho', hc, hd', hi.keeps ho hd hs⟩
end
/-- the keys: tuples of numbers, rows -/
abbrev KyT : Bool → Type
  | false => List Int
  | true => List (List Int)
instance kyDec : (r : Bool) → DecidableEq (KyT r)
  | false => inferInstanceAs (DecidableEq (List Int))
  | true => inferInstanceAs (DecidableEq (List (List Int)))
def kyHash : (r : Bool) → KyT r → Int
  | false => numHash
  | true => rowHash
/-- the datum of a key -/
def kyD : (r : Bool) → KyT r → PyData
  | false, l => .tuple (l.map .int)
  | true, ks => .tuple (ks.map fun l => .tuple (l.map .int))
def entD (r : Bool) (x : KyT r × Addr × Value) : DictEntry := ⟨kyHash r x.1, .ref x.2.1, x.2.2⟩
/-- the object of a dict -/
def DctO (a : Addr) (r : Bool) (ks : List (KyT r)) (bs : List Addr) (us : List V) : HO := .ext fun h =>
  ∃ ws : List Value, Vals us ws ∧ ∃ o es ep, h.get? a = some o ∧ o.ExactDict ∧ o.data = .dict es ep ∧ es.toList = (ks.zip (bs.zip ws)).map (entD r)
/-- some heap has a dict there -/
def OwnD (φ : Heap → Prop) (a : Addr) : Prop := ∃ h : Heap, φ h ∧ ∃ o es ep, h.get? a = some o ∧ o.data = .dict es ep
end Wf
/-! By value: what a def does, told of data alone. Things that never change are data; a list of one's own is told by its items, by the slot that holds it. -/
namespace Pv
open PySem PySem.Spec L2 Wf
/-- what stands and stays below a def, and the tables of code -/
structure Bas where
  hp : Hp
  ht : Hp
  T : List NdefX.NTab
/-- tables of code grow -/
structure TbG (T : List NdefX.NTab) (H H' : Hp) : Prop where
  ts : NdefX.TabsN T H → NdefX.TabsN T H'
  st : ∀ a ps, H a = some (.tbl ps) → ∃ qs, H' a = some (.tbl qs)
theorem TbG.refl {T : List NdefX.NTab} {H : Hp} : TbG T H H := ⟨fun h => h, fun _ ps h => ⟨ps, h⟩⟩
theorem TbG.trans {T : List NdefX.NTab} {H H1 H2 : Hp} (a : TbG T H H1) (b : TbG T H1 H2) : TbG T H H2 := ⟨fun h => b.ts (a.ts h), fun x ps h => by
  obtain ⟨qs, h1⟩ := a.st x ps h
  exact b.st x qs h1⟩
theorem TbG.same {T : List NdefX.NTab} {H H' : Hp} (s : Same H H') : TbG T H H' := ⟨fun t => t.ext s, fun _ ps h => ⟨ps, s _ _ h⟩⟩
instance : CoeFun Bas fun _ => Hp := ⟨Bas.hp⟩
variable {B : Bas} {T : List NdefX.NTab}
/-! ### data: None, truths, numbers, texts, tuples, lists that change no more -/
mutual
inductive Dq (K : PySem.W.Frag) (G : Hp) : V → PyData → Prop
  | non : Dq K G .non .none
  | bl (b : Bool) : Dq K G (.bl b) (.bool b)
  | int (i : Int) : Dq K G (.int i) (.int i)
  | str (x : Str) : Dq K G (.str x) (.str x)
  | lst {a : Addr} {xs : List V} {ds : List PyData} : G a = some (.lst xs) → DqAll K G xs ds → Dq K G (.ref a) (.list ds)
  | tup {a : Addr} {xs : List V} {ds : List PyData} : SqT K G a xs → DqAll K G xs ds → Dq K G (.ref a) (.tuple ds)
inductive DqAll (K : PySem.W.Frag) (G : Hp) : List V → List PyData → Prop
  | nil : DqAll K G [] []
  | cons {v : V} {vs : List V} {d : PyData} {ds : List PyData} : Dq K G v d → DqAll K G vs ds → DqAll K G (v :: vs) (d :: ds)
end
/-- an error's fields -/
inductive Fl (K : PySem.W.Frag) (G : Hp) : List (Str × V) → List (Str × PyData) → Prop
  | nil : Fl K G [] []
  | cons {x : Str} {v : V} {d : PyData} {us : List (Str × V)} {fs : List (Str × PyData)} : Dq K G v d → Fl K G us fs → Fl K G ((x, v) :: us) ((x, d) :: fs)
/-- a lambda that holds nothing: its name, parameters, body, scope, where its code object stands -/
structure LF where
  qual : Str
  params : Arguments
  body : Expr
  scope : Scope
  c : Addr
def LamO (f : Addr) (F : LF) : HO := .ext fun h => ∃ pm ctv : Value, h.get? f = some (PySem.W.kla_obj "<lambda>" F.qual F.params F.body F.scope [] pm F.c ctv)
theorem lamO_ne {f : Addr} {F : LF} (ps : Array Value) : LamO f F ≠ .tbl ps := fun z => by
  unfold LamO at z
  cases z
/-- a thing of one's own: a list of data, the dict of draws, the script; a tuple whose object is known; a lambda; a dict by tuples of numbers -/
inductive O where
  | lst (ds : List PyData)
  | deal
  | scr (ns : List Int)
  | ptl (ds : List PyData)
  | lam (F : LF)
  | dic (ks : List (List Int)) (ds : List PyData)
  | dct (r : Bool) (ks : List (KyT r)) (ds : List PyData)
def dicK (ks : List (List Int)) (us : List V) : List (List Key × V) := (ks.map fun k => k.map Sum.inl).zip us
/-- what a slot holds: not known; data; a thing of one's own (pin: a parameter's, the slot is not stored to); a caught error -/
inductive Sl where
  | un
  | im (d : PyData)
  | ow (pin : Bool) (o : O)
  | ex (a dd C : Addr) (fs : List (Str × PyData))
/-- what an expression gives: data; a new thing of one's own; what slot i holds -/
inductive R where
  | im (d : PyData)
  | ow (o : O)
  | at (i : Nat)
mutual
/-- data; where it is a tuple its object is known, and so within -/
inductive Kn (K : PySem.W.Frag) (G : Hp) : V → PyData → Prop
  | any {v : V} {d : PyData} : Dq K G v d → (∀ es, d ≠ .tuple es) → Kn K G v d
  | tup {p : Addr} {o : Obj} {us : List V} {ds : List PyData} : G p = some (.frz o (.tup us)) → o.cls = .type "tuple" → o.dict = none → KnAll K G us ds → Kn K G (.ref p) (.tuple ds)
inductive KnAll (K : PySem.W.Frag) (G : Hp) : List V → List PyData → Prop
  | nil : KnAll K G [] []
  | cons {v : V} {d : PyData} {vs : List V} {ds : List PyData} : Kn K G v d → KnAll K G vs ds → KnAll K G (v :: vs) (d :: ds)
end
section
variable (K : PySem.W.Frag)
def RO (G H : Hp) (m : Addr → Prop) (v : V) : O → Prop
  | .lst ds => ∃ a us, v = .ref a ∧ m a ∧ H a = some (.lst us) ∧ DqAll K G us ds
  | .deal => ∃ d l, v = .ref d ∧ m d ∧ m l ∧ Deal H d l
  | .scr ns => ∃ a, v = .ref a ∧ ((∃ o, m a ∧ H a = some (.frz o (.lst (ns.map V.int)))) ∨ ∀ H1, SqL K H1 a (ns.map V.int))
  | .ptl ds => ∃ p o us, v = .ref p ∧ G p = some (.frz o (.tup us)) ∧ o.cls = .type "tuple" ∧ o.dict = none ∧ DqAll K G us ds ∧ KnAll K G us ds
  | .lam F => ∃ f, v = .ref f ∧ G f = some (LamO f F) ∧ G F.c = some (LamX.CodeO F.c F.qual)
  | .dic ks ds => ∃ a us, v = .ref a ∧ m a ∧ H a = some (.dT (dicK ks us)) ∧ us.length = ks.length ∧ DqAll K G us ds
  | .dct r ks ds => ∃ a bs us, v = .ref a ∧ m a ∧ H a = some (DctO a r ks bs us) ∧ ((a == sysModules) = false ∧ ks.length ≤ sizeLine ∧ ks.Nodup ∧ us.length = ks.length ∧ bs.length = ks.length) ∧ DqAll K G (bs.map V.ref) (ks.map (kyD r)) ∧ DqAll K G us ds
def SlR (G H : Hp) (m : Addr → Prop) (o : Option (Option V)) : Sl → Prop
  | .un => True
  | .im d => ∃ v, o = some (some v) ∧ Dq K G v d
  | .ow _ ob => ∃ v, o = some (some v) ∧ RO K G H m v ob
  | .ex a dd _ fs => o = some (some (.ref a)) ∧ ∃ us, G dd = some (.xd us) ∧ Fl K G us fs
def RR (G H : Hp) (σ : St) (m : Addr → Prop) (v : V) : R → Prop
  | .im d => Dq K G v d
  | .ow o => RO K G H m v o
  | .at i => σ[i]? = some (some v)
/-- no table of code -/
def NT (o : HO) : Prop := ∀ ps, o ≠ .tbl ps
/-- a thing that nobody owns: a tuple, a code object, a lambda -/
def RdX (H : Hp) (a : Addr) : Option (List V) → Prop
  | some xs => Rd H a (.tup xs)
  | none => ∃ φ, H a = some (.ext φ) ∧ ¬ OwnD φ a
def NoX (H : Hp) (a : Addr) : Prop := ∀ xs, ¬ RdX H a xs
theorem NoX.t {H : Hp} {a : Addr} (n : NoX H a) : NoT H a := fun xs => n (some xs)
theorem RdX.same {H H' : Hp} {a : Addr} {o : HO} (e : H a = some o) (e2 : H' a = some o) : ∀ {xs : Option (List V)}, RdX H' a xs → RdX H a xs
  | some xs, z => by
    rcases z with z | ⟨ob, z⟩
    · rw [e2] at z; cases z; exact .inl e
    · rw [e2] at z; cases z; exact .inr ⟨ob, e⟩
  | none, ⟨φ, z, n⟩ => ⟨φ, by rw [e2] at z; rw [e, z], n⟩
theorem NoX.same {H H' : Hp} {a : Addr} {o : HO} (e : H a = some o) (e2 : H' a = some o) (n : NoX H a) : NoX H' a := fun xs z => n xs (RdX.same e e2 z)
theorem NoX.of {H : Hp} {a : Addr} {o : HO} (e : H a = some o) (n1 : ∀ xs, o ≠ .tup xs) (n2 : ∀ ob xs, o ≠ .frz ob (.tup xs)) (n3 : ∀ φ, o ≠ .ext φ) : NoX H a
  | some xs, z => by
    rcases z with z | ⟨ob, z⟩
    · rw [e] at z; cases z; exact n1 _ rfl
    · rw [e] at z; cases z; exact n2 _ _ rfl
  | none, ⟨φ, z, _⟩ => by rw [e] at z; cases z; exact n3 _ rfl
theorem NoX.own {H : Hp} {a : Addr} {φ : Heap → Prop} (e : H a = some (.ext φ)) (n : OwnD φ a) : NoX H a
  | some xs, z => by
    rcases z with z | ⟨ob, z⟩ <;> · rw [e] at z; cases z
  | none, ⟨ψ, z, n2⟩ => by rw [e] at z; cases z; exact n2 n
theorem NoX.tbl {H : Hp} {a : Addr} {ps : Array Value} (e : H a = some (.tbl ps)) : NoX H a := NoX.of e (fun _ z => by cases z) (fun _ _ z => by cases z) fun _ z => by cases z
theorem NoX.lst {H : Hp} {a : Addr} {ps : List V} (e : H a = some (.lst ps)) : NoX H a := NoX.of e (fun _ z => by cases z) (fun _ _ z => by cases z) fun _ z => by cases z
theorem RdX.upd {H : Hp} {a p : Addr} {o : HO} (h : a ≠ p) : ∀ {xs : Option (List V)}, RdX (upd H p o) a xs → RdX H a xs
  | some xs, z => by
    rcases z with z | ⟨ob, z⟩
    · rw [upd_ne h] at z; exact .inl z
    · rw [upd_ne h] at z; exact .inr ⟨ob, z⟩
  | none, ⟨φ, z, n⟩ => ⟨φ, by rw [upd_ne h] at z; exact z, n⟩
theorem RdX.ne {H : Hp} {a : Addr} : ∀ {xs : Option (List V)}, RdX H a xs → H a ≠ none
  | some xs, z, e => by
    rcases z with z | ⟨ob, z⟩ <;> · rw [e] at z; cases z
  | none, ⟨φ, z, _⟩, e => by rw [e] at z; cases z
structure BsOk (B : Bas) (G H : Hp) (w : Addr → Option Nat) : Prop where
  to : ∀ a o, B a = some o → H a = some o ∧ w a = none ∧ NT o
  tt : TbG B.T B.ht H
  ta : NdefX.TabsN B.T B.ht
  gt : ∀ a ps, G a ≠ some (.tbl ps)
/-- G: what never changes any more; w: whose an address is (2 i: slot i's, 2 j + 1: value j's) -/
structure Rep (B : Bas) (G H : Hp) (σ : St) (δ : List Sl) (vs : List V) (rs : List R) (w : Addr → Option Nat) : Prop where
  sub : Same G H
  out : ∀ a i, w a = some i → G a = none ∧ H a ≠ none ∧ NoX H a
  len : σ.length = δ.length
  sl : ∀ i s, δ[i]? = some s → SlR K G H (fun a => w a = some (2 * i)) σ[i]? s
  tlen : vs.length = rs.length
  tm : ∀ j v r, vs[j]? = some v → rs[j]? = some r → RR K G H σ (fun a => w a = some (2 * j + 1)) v r
  bs : BsOk B G H w
end
def Pn (δ δ' : List Sl) : Prop := ∀ (i : Nat) (o : O), δ[i]? = some (Sl.ow true o) → ∃ o', δ'[i]? = some (Sl.ow true o')
/-- a step: what is public stays so, what is not ours stays as it is, but tables of code -/
structure Stp (T : List NdefX.NTab) (G H : Hp) (w : Addr → Option Nat) (δ : List Sl) (G' H' : Hp) (w' : Addr → Option Nat) (δ' : List Sl) : Prop where
  g : Same G G'
  b : ∀ a o, w a = none → H a = some o → H' a = some o ∨ ∃ ps qs, o = .tbl ps ∧ H' a = some (.tbl qs)
  n : ∀ a i, w' a = some i → w a ≠ none ∨ H a = none
  p : ∀ a o, G' a = some o → G a = some o ∨ H a = none ∨ w a ≠ none ∨ ∃ xs, RdX H a xs
  pn : Pn δ δ'
  t : TbG T H H'
  q : ∀ a ps, G' a = some (.tbl ps) → G a = some (.tbl ps)
/-- a step that leaves the tables as they are -/
structure StpO (G H : Hp) (w : Addr → Option Nat) (δ : List Sl) (G' H' : Hp) (w' : Addr → Option Nat) (δ' : List Sl) : Prop where
  g : Same G G'
  b : ∀ a o, w a = none → H a = some o → H' a = some o
  n : ∀ a i, w' a = some i → w a ≠ none ∨ H a = none
  p : ∀ a o, G' a = some o → G a = some o ∨ H a = none ∨ w a ≠ none ∨ ∃ xs, RdX H a xs
  pn : Pn δ δ'
theorem w_stay {H : Hp} {w w' : Addr → Option Nat} (n : ∀ a i, w' a = some i → w a ≠ none ∨ H a = none) {a : Addr} {o : HO} (h1 : w a = none) (h2 : H a = some o) : w' a = none := by
  cases e : w' a with
  | none => rfl
  | some i =>
    rcases n a i e with z | z
    · exact absurd h1 z
    · rw [h2] at z; cases z
theorem Stp.of {G H G' H' : Hp} {w w' : Addr → Option Nat} {δ δ' : List Sl} (s : StpO G H w δ G' H' w' δ') (t : TbG T H H' := by exact TbG.refl) (q : ∀ a ps, G' a = some (.tbl ps) → G a = some (.tbl ps) := by exact fun _ _ h => h) : Stp T G H w δ G' H' w' δ' :=
  ⟨s.g, fun a o h1 h2 => .inl (s.b a o h1 h2), s.n, s.p, s.pn, t, q⟩
theorem q_new {G : Hp} {p : Addr} {o : HO} (n : NT o) : ∀ a ps, upd G p o a = some (.tbl ps) → G a = some (.tbl ps) := fun a ps h => by
  by_cases e : a = p
  · subst e; rw [upd_same] at h; cases h; exact absurd rfl (n ps)
  · rwa [upd_ne e] at h
theorem tabs_new {H : Hp} {p : Addr} {o : HO} (h : H p = none) : TbG T H (upd H p o) := .same (same_new h)
theorem tabs_put {H : Hp} {D : Addr} {xs ys : List V} (h : H D = some (.lst xs)) : TbG T H (upd H D (.lst ys)) := ⟨fun t p hp => by
  obtain ⟨ps, h1, h2, h3⟩ := t p hp
  refine ⟨ps, by rw [upd_ne (fun z => by rw [z, h] at h1; cases h1)]; exact h1, h2, fun pos cv hc => ?_⟩
  obtain ⟨c, e1, e2⟩ := h3 pos cv hc
  exact ⟨c, e1, by rw [upd_ne (fun z => by rw [z, h] at e2; cases e2)]; exact e2⟩, fun a ps e => ⟨ps, by rw [upd_ne (fun z => by rw [z, h] at e; cases e)]; exact e⟩⟩
theorem Stp.bN {G H G' H' : Hp} {w w' : Addr → Option Nat} {δ δ' : List Sl} (s : Stp T G H w δ G' H' w' δ') (a : Addr) (o : HO) (hn : NT o) (hw : w a = none) (h : H a = some o) : H' a = some o := by
  rcases s.b a o hw h with z | ⟨ps, _, z, _⟩
  · exact z
  · exact absurd z (hn ps)
theorem Stp.nn {G H G' H' : Hp} {w w' : Addr → Option Nat} {δ δ' : List Sl} (s : Stp T G H w δ G' H' w' δ') (a : Addr) (hw : w a = none) (h : H a ≠ none) (t : NoX H a) : H' a ≠ none ∧ NoX H' a := by
  cases e : H a with
  | none => exact absurd e h
  | some o =>
    rcases s.b a o hw e with z | ⟨ps, qs, _, z⟩
    · exact ⟨by rw [z]; exact Option.some_ne_none _, t.same e z⟩
    · exact ⟨by rw [z]; exact Option.some_ne_none _, NoX.tbl z⟩
theorem Pn.refl (δ : List Sl) : Pn δ δ := fun _ o h => ⟨o, h⟩
theorem Pn.trans {a b c : List Sl} (x : Pn a b) (y : Pn b c) : Pn a c := fun i o h => by
  obtain ⟨o1, h1⟩ := x i o h
  exact y i o1 h1
theorem Stp.refl {G H : Hp} {w : Addr → Option Nat} {δ : List Sl} : Stp T G H w δ G H w δ :=
  .of ⟨fun _ _ h => h, fun _ _ _ h => h, fun a i h => .inl (by rw [h]; exact Option.some_ne_none _), fun _ _ h => .inl h, .refl _⟩
theorem Stp.bs {G H G' H' : Hp} {w w' : Addr → Option Nat} {δ δ' : List Sl} (s : Stp B.T G H w δ G' H' w' δ') (h : BsOk B G H w) : BsOk B G' H' w' :=
  ⟨fun a o hb => by
    obtain ⟨h1, h2, h3⟩ := h.to a o hb
    exact ⟨s.bN a o h3 h2 h1, w_stay s.n h2 h1, h3⟩, h.tt.trans s.t, h.ta, fun a ps e => h.gt a ps (s.q a ps e)⟩
theorem Stp.trans {G H G1 H1 G2 H2 : Hp} {w w1 w2 : Addr → Option Nat} {δ δ1 δ2 : List Sl} (a : Stp T G H w δ G1 H1 w1 δ1) (b : Stp T G1 H1 w1 δ1 G2 H2 w2 δ2) : Stp T G H w δ G2 H2 w2 δ2 := by
  have no : ∀ x o, w x = none → H x = some o → w1 x = none := fun x o h1 h2 => by
    cases e : w1 x with
    | none => rfl
    | some i =>
      rcases a.n x i e with z | z
      · exact absurd h1 z
      · rw [h2] at z; cases z
  have none1 : ∀ x, H1 x = none → w x ≠ none ∨ H x = none := fun x h => by
    cases e : w x with
    | some i => exact .inl (Option.some_ne_none _)
    | none =>
      cases e2 : H x with
      | none => exact .inr rfl
      | some o =>
        rcases a.b x o e e2 with z | ⟨_, _, _, z⟩ <;> · rw [z] at h; cases h
  have w1n : ∀ x, w1 x ≠ none → w x ≠ none ∨ H x = none := fun x h => by
    cases e : w1 x with
    | none => exact absurd e h
    | some i => exact a.n x i e
  refine ⟨fun x o h => b.g x o (a.g x o h), fun x o h1 h2 => ?_, fun x i h => ?_, fun x o h => ?_, a.pn.trans b.pn, a.t.trans b.t, fun x ps h => a.q x ps (b.q x ps h)⟩
  · rcases a.b x o h1 h2 with z | ⟨ps, qs, z1, z2⟩
    · exact b.b x o (no x o h1 h2) z
    · rcases b.b x _ (no x o h1 h2) z2 with y | ⟨_, rs, _, y⟩
      · exact .inr ⟨ps, qs, z1, y⟩
      · exact .inr ⟨ps, rs, z1, y⟩
  · rcases b.n x i h with z | z
    · exact w1n x z
    · exact none1 x z
  · rcases b.p x o h with z | z | z | ⟨xs, z⟩
    · exact a.p x o z
    · rcases none1 x z with q | q
      · exact .inr (.inr (.inl q))
      · exact .inr (.inl q)
    · rcases w1n x z with q | q
      · exact .inr (.inr (.inl q))
      · exact .inr (.inl q)
    · cases e : w x with
      | some i => exact .inr (.inr (.inl (Option.some_ne_none _)))
      | none =>
        cases e2 : H x with
        | none => exact .inr (.inl rfl)
        | some u =>
          refine .inr (.inr (.inr ⟨xs, ?_⟩))
          rcases a.b x u e e2 with e3 | ⟨_, _, _, e3⟩
          · exact RdX.same e2 e3 z
          · exact absurd z (NoX.tbl e3 xs)
/-! ### data stays -/
mutual
theorem dp_mono {K : PySem.W.Frag} {G G' : Hp} (s : Same G G') : ∀ (d : PyData) (v : V), Dq K G v d → Dq K G' v d
  | .none, _, h => by cases h; exact .non
  | .bool b, _, h => by cases h; exact .bl b
  | .int i, _, h => by cases h; exact .int i
  | .str x, _, h => by cases h; exact .str x
  | .dict _, _, h => by cases h
  | .list ds, _, h => by
    cases h with
    | lst hs ha =>
      exact .lst (s _ _ hs) (dpAll_mono s ds _ ha)
  | .tuple ds, _, h => by
    cases h with
    | tup hs ha => exact .tup (Same.tp s _ _ hs) (dpAll_mono s ds _ ha)
theorem dpAll_mono {K : PySem.W.Frag} {G G' : Hp} (s : Same G G') : ∀ (ds : List PyData) (vs : List V), DqAll K G vs ds → DqAll K G' vs ds
  | [], _, h => by cases h; exact .nil
  | d :: ds, _, h => by
    cases h with
    | cons h1 h2 => exact .cons (dp_mono s d _ h1) (dpAll_mono s ds _ h2)
end
mutual
theorem pl_mono {K : PySem.W.Frag} {G G' : Hp} (s : Same G G') : ∀ (v : V) (d : PyData), Kn K G v d → Kn K G' v d
  | _, _, .any h n => .any (dp_mono s _ _ h) n
  | _, _, .tup h1 h2 h3 h4 => .tup (s _ _ h1) h2 h3 (plAll_mono s _ _ h4)
theorem plAll_mono {K : PySem.W.Frag} {G G' : Hp} (s : Same G G') : ∀ (vs : List V) (ds : List PyData), KnAll K G vs ds → KnAll K G' vs ds
  | _, _, .nil => .nil
  | _, _, .cons h1 h2 => .cons (pl_mono s _ _ h1) (plAll_mono s _ _ h2)
end
theorem Fl.mono {K : PySem.W.Frag} {G G' : Hp} (s : Same G G') : ∀ {us : List (Str × V)} {fs : List (Str × PyData)}, Fl K G us fs → Fl K G' us fs
  | _, _, .nil => .nil
  | _, _, .cons h1 h2 => .cons (dp_mono s _ _ h1) (Fl.mono s h2)
theorem RO.monoN {K : PySem.W.Frag} {G G' H H' : Hp} {m m' : Addr → Prop} {v : V} {o : O} (s : Same G G') (hh : ∀ a u, NT u → m a → H a = some u → H' a = some u) (hm : ∀ a u, m a → H a = some u → m' a) (h : RO K G H m v o) : RO K G' H' m' v o := by
  cases o with
  | lst ds =>
    obtain ⟨a, us, e, ma, ha, hd⟩ := h
    exact ⟨a, us, e, hm a _ ma ha, hh a _ nofun ma ha, dpAll_mono s _ _ hd⟩
  | deal =>
    obtain ⟨d, l, e, md, ml, hd⟩ := h
    obtain ⟨z1, z2, z3, z4, h1, h2, h3⟩ := hd.ex
    exact ⟨d, l, e, hm d _ md h1, hm l _ ml h2, z1, z2, z3, z4, hh d _ nofun md h1, hh l _ nofun ml h2, h3⟩
  | scr ns =>
    obtain ⟨a, e, ⟨o, ma, h⟩ | h⟩ := h
    · exact ⟨a, e, .inl ⟨o, hm a _ ma h, hh a _ nofun ma h⟩⟩
    · exact ⟨a, e, .inr h⟩
  | ptl ds =>
    obtain ⟨p, o, us, e, hp, h1, h2, hd, hl⟩ := h
    exact ⟨p, o, us, e, s _ _ hp, h1, h2, dpAll_mono s _ _ hd, plAll_mono s _ _ hl⟩
  | lam F =>
    obtain ⟨f, e, h1, h2⟩ := h
    exact ⟨f, e, s _ _ h1, s _ _ h2⟩
  | dic ks ds =>
    obtain ⟨a, us, e, ma, ha, hl, hd⟩ := h
    exact ⟨a, us, e, hm a _ ma ha, hh a _ nofun ma ha, hl, dpAll_mono s _ _ hd⟩
  | dct r ks ds =>
    obtain ⟨a, bs, us, e, ma, ha, hl, hk, hd⟩ := h
    exact ⟨a, bs, us, e, hm a _ ma ha, hh a _ (fun ps z => by unfold DctO at z; cases z) ma ha, hl, dpAll_mono s _ _ hk, dpAll_mono s _ _ hd⟩
theorem RO.mono {K : PySem.W.Frag} {G G' H H' : Hp} {m m' : Addr → Prop} {v : V} {o : O} (s : Same G G') (hh : ∀ a u, m a → H a = some u → H' a = some u) (hm : ∀ a u, m a → H a = some u → m' a) (h : RO K G H m v o) : RO K G' H' m' v o := h.monoN s (fun a u _ => hh a u) hm
theorem SlR.mono {K : PySem.W.Frag} {G G' H H' : Hp} {m m' : Addr → Prop} {o : Option (Option V)} {s : Sl} (g : Same G G') (hh : ∀ a u, m a → H a = some u → H' a = some u) (hm : ∀ a u, m a → H a = some u → m' a) (h : SlR K G H m o s) : SlR K G' H' m' o s := by
  cases s with
  | un => trivial
  | im d =>
    obtain ⟨v, e, h⟩ := h
    exact ⟨v, e, dp_mono g d v h⟩
  | ow p ob =>
    obtain ⟨v, e, h⟩ := h
    exact ⟨v, e, h.mono g hh hm⟩
  | ex a dd C fs =>
    obtain ⟨e, us, h1, h2⟩ := h
    exact ⟨e, us, g _ _ h1, h2.mono g⟩
theorem RR.mono {K : PySem.W.Frag} {G G' H H' : Hp} {σ : St} {m m' : Addr → Prop} {v : V} {r : R} (g : Same G G') (hh : ∀ a u, m a → H a = some u → H' a = some u) (hm : ∀ a u, m a → H a = some u → m' a) (h : RR K G H σ m v r) : RR K G' H' σ m' v r := by
  cases r with
  | im d => exact dp_mono g d v h
  | ow ob => exact RO.mono g hh hm h
  | «at» i => exact h
theorem RR.monoN {K : PySem.W.Frag} {G G' H H' : Hp} {σ : St} {m m' : Addr → Prop} {v : V} {r : R} (g : Same G G') (hh : ∀ a u, NT u → m a → H a = some u → H' a = some u) (hm : ∀ a u, m a → H a = some u → m' a) (h : RR K G H σ m v r) : RR K G' H' σ m' v r := by
  cases r with
  | im d => exact dp_mono g d v h
  | ow ob => exact RO.monoN g hh hm h
  | «at» i => exact h
theorem SlR.monoN {K : PySem.W.Frag} {G G' H H' : Hp} {m m' : Addr → Prop} {o : Option (Option V)} {s : Sl} (g : Same G G') (hh : ∀ a u, NT u → m a → H a = some u → H' a = some u) (hm : ∀ a u, m a → H a = some u → m' a) (h : SlR K G H m o s) : SlR K G' H' m' o s := by
  cases s with
  | un => trivial
  | im d =>
    obtain ⟨v, e, h⟩ := h
    exact ⟨v, e, dp_mono g d v h⟩
  | ow p ob =>
    obtain ⟨v, e, h⟩ := h
    exact ⟨v, e, h.monoN g hh hm⟩
  | ex a dd C fs =>
    obtain ⟨e, us, h1, h2⟩ := h
    exact ⟨e, us, g _ _ h1, h2.mono g⟩
/-! ### the frame: values that wait -/
def evn : Option Nat → Option Nat
  | some n => if n % 2 = 0 then some n else none
  | none => none
theorem evn_some {o : Option Nat} {n : Nat} : evn o = some n ↔ o = some n ∧ n % 2 = 0 := by
  cases o with
  | none => simp [evn]
  | some m =>
    unfold evn
    dsimp only
    split
    · constructor
      · intro h; cases h; exact ⟨rfl, by assumption⟩
      · rintro ⟨h, _⟩; exact h
    · constructor
      · intro h; cases h
      · rintro ⟨h, h2⟩; cases h; exact absurd h2 (by assumption)
theorem evn_ne {o : Option Nat} (h : evn o ≠ none) : o ≠ none := by
  intro e; subst e; exact h rfl
theorem Stp.drop {G H : Hp} {w : Addr → Option Nat} {δ : List Sl} : Stp T G H w δ G H (fun a => evn (w a)) δ :=
  .of ⟨fun _ _ h => h, fun _ _ _ h => h, fun a i h => .inl (by rw [(evn_some.mp h).1]; exact Option.some_ne_none _), fun _ _ h => .inl h, .refl _⟩
theorem Rep.drop {K : PySem.W.Frag} {G H : Hp} {σ : St} {δ : List Sl} {vs : List V} {rs : List R} {w : Addr → Option Nat} (r : Rep K B G H σ δ vs rs w) : Rep K B G H σ δ [] [] fun a => evn (w a) where
  sub := r.sub
  out := fun a i h => r.out a i (evn_some.mp h).1
  len := r.len
  sl := fun i s h => (r.sl i s h).mono (fun _ _ h => h) (fun _ _ _ h => h) fun a u ma _ => evn_some.mpr ⟨ma, by omega⟩
  tlen := rfl
  tm := fun j v r h => by simp at h
  bs := (Stp.drop (T := B.T) (δ := δ)).bs (G := G) r.bs
def shf (k : Nat) : Option Nat → Option Nat
  | some n => if n % 2 = 0 then some n else some (n + 2 * k)
  | none => none
def both (k : Nat) (w w' : Addr → Option Nat) (a : Addr) : Option Nat := match w a with
  | some n => if n % 2 = 0 then shf k (w' a) else some n
  | none => shf k (w' a)
theorem both_odd {k : Nat} {w w' : Addr → Option Nat} {a : Addr} {n : Nat} (h : w a = some n) (ho : n % 2 = 1) : both k w w' a = some n := by
  unfold both; rw [h]; dsimp only; rw [if_neg (by omega)]
theorem both_evn {k : Nat} {w w' : Addr → Option Nat} {a : Addr} (h : ∀ n, w a = some n → n % 2 = 0) : both k w w' a = shf k (w' a) := by
  unfold both
  cases e : w a with
  | none => rfl
  | some n => dsimp only; rw [if_pos (h n e)]
theorem shf_some {k n : Nat} {o : Option Nat} (h : shf k o = some n) : ∃ m, o = some m ∧ n = if m % 2 = 0 then m else m + 2 * k := by
  cases o with
  | none => cases h
  | some m =>
    refine ⟨m, rfl, ?_⟩
    unfold shf at h
    dsimp only at h
    split at h <;> cases h <;> simp [*]
theorem Rep.frame {K : PySem.W.Frag} {G H G' H' : Hp} {σ : St} {δ δ' : List Sl} {vs vs1 : List V} {rs rs1 : List R} {w w' : Addr → Option Nat} (r : Rep K B G H σ δ vs rs w) (s : Stp B.T G H (fun a => evn (w a)) δ G' H' w' δ') (r' : Rep K B G' H' σ δ' vs1 rs1 w') :
    ∃ w2, Stp B.T G H w δ G' H' w2 δ' ∧ Rep K B G' H' σ δ' (vs ++ vs1) (rs ++ rs1) w2 := by
  have odd : ∀ a n, w a = some n → n % 2 = 1 → w' a = none ∧ G' a = none ∧ (H' a ≠ none ∧ NoX H' a) ∧ ∀ u, NT u → H a = some u → H' a = some u := fun a n h ho => by
    have e0 : evn (w a) = none := by
      cases e : evn (w a) with
      | none => rfl
      | some m =>
        have := evn_some.mp e
        rw [h] at this
        have z := this.1
        cases z
        omega
    obtain ⟨g0, h0, n0⟩ := r.out a n h
    refine ⟨?_, ?_, s.nn a e0 h0 n0, fun u hn hu => s.bN a u hn e0 hu⟩
    · cases e : w' a with
      | none => rfl
      | some i =>
        rcases s.n a i e with z | z
        · exact absurd e0 z
        · exact absurd z h0
    · cases e : G' a with
      | none => rfl
      | some o =>
        rcases s.p a o e with z | z | z | ⟨xs, z⟩
        · rw [g0] at z; cases z
        · exact absurd z h0
        · exact absurd e0 z
        · exact absurd z (n0 xs)
  have evw : ∀ a i, w' a = some i → ∀ n, w a = some n → n % 2 = 0 := fun a i h n hn => by
    by_cases ho : n % 2 = 1
    · rw [(odd a n hn ho).1] at h; cases h
    · omega
  have st : Stp B.T G H w δ G' H' (both rs.length w w') δ' := by
    refine ⟨s.g, fun a o hw ha => s.b a o (by show evn (w a) = none; rw [hw]; rfl) ha, fun a i h => ?_, fun a o h => ?_, s.pn, s.t, s.q⟩
    · cases e : w a with
      | some n => exact .inl (Option.some_ne_none _)
      | none =>
        have e1 : both rs.length w w' a = shf rs.length (w' a) := both_evn fun n hn => by rw [e] at hn; cases hn
        rw [e1] at h
        obtain ⟨m, hm, _⟩ := shf_some h
        rcases s.n a m hm with z | z
        · have z' := evn_ne z
          rw [e] at z'
          exact .inl z'
        · exact .inr z
    · rcases s.p a o h with z | z | z | z
      · exact .inl z
      · exact .inr (.inl z)
      · exact .inr (.inr (.inl (evn_ne z)))
      · exact .inr (.inr (.inr z))
  refine ⟨both rs.length w w', st, r'.sub, fun a i h => ?_, r'.len, fun i sl h => ?_, by rw [List.length_append, List.length_append, r.tlen, r'.tlen], fun j v q hv hr => ?_, st.bs r.bs⟩
  · by_cases ho : ∃ n, w a = some n ∧ n % 2 = 1
    · obtain ⟨n, hn, ho⟩ := ho
      obtain ⟨_, g, hh, _⟩ := odd a n hn ho
      exact ⟨g, hh⟩
    · have e1 : both rs.length w w' a = shf rs.length (w' a) := both_evn fun n hn => by
        by_cases z : n % 2 = 1
        · exact absurd ⟨n, hn, z⟩ ho
        · omega
      rw [e1] at h
      obtain ⟨m, hm, _⟩ := shf_some h
      exact r'.out a m hm
  · refine (r'.sl i sl h).mono (fun _ _ h => h) (fun _ _ _ h => h) fun a u ma _ => ?_
    rw [both_evn (evw a _ ma)]
    unfold shf
    rw [ma]
    dsimp only
    rw [if_pos (by omega)]
  · by_cases hj : j < vs.length
    · rw [List.getElem?_append_left hj] at hv
      rw [List.getElem?_append_left (by rw [← r.tlen]; exact hj)] at hr
      exact (r.tm j v q hv hr).monoN s.g (fun a u hn ma hu => (odd a _ ma (by omega)).2.2.2 u hn hu) fun a u ma _ => both_odd ma (by omega)
    · have hj : vs.length ≤ j := by omega
      rw [List.getElem?_append_right hj] at hv
      rw [List.getElem?_append_right (by rw [← r.tlen]; exact hj), ← r.tlen] at hr
      refine (r'.tm (j - vs.length) v q hv hr).mono (fun _ _ h => h) (fun _ _ _ h => h) fun a u ma _ => ?_
      rw [both_evn (evw a _ ma)]
      unfold shf
      rw [ma]
      dsimp only
      rw [if_neg (by omega), r.tlen.symm]
      congr 1
      omega
end Pv
namespace Pv
open PySem PySem.Spec L2 Wf
variable {B : Bas}
/-! ### judgements told of data -/
abbrev QE := R → List Sl → Prop
abbrev PX := List Sl → QE → Prop
abbrev PL := List Sl → (List R → List Sl → Prop) → Prop
abbrev PB := List Sl → (Bool → List Sl → Prop) → Prop
section
variable (K : PySem.W.Frag) (B : Bas)
def LE (p : PX) : TE := fun σ H Q => ∃ G w δ Qp, Rep K B G H σ δ [] [] w ∧ p δ Qp ∧ ∀ r δ' v H' G' w', Qp r δ' → Stp B.T G H w δ G' H' w' δ' → Rep K B G' H' σ δ' [v] [r] w' → Q v H'
def LA (n : Nat) (p : PL) : TA := fun σ H Q => ∃ G w δ Qp, Rep K B G H σ δ [] [] w ∧ p δ Qp ∧ ∀ rs δ' vs H' G' w', Qp rs δ' → rs.length = n → Stp B.T G H w δ G' H' w' δ' → Rep K B G' H' σ δ' vs rs w' → Q vs H'
def LB (p : PB) : TT := fun σ H Q => ∃ G w δ Qp, Rep K B G H σ δ [] [] w ∧ p δ Qp ∧ ∀ b δ' H' G' w', Qp b δ' → Stp B.T G H w δ G' H' w' δ' → Rep K B G' H' σ δ' [] [] w' → Q b H'
end
/-- an operation by values -/
def LC (K : PySem.W.Frag) (q : List R → PX) (r : List V → Hp → VK → Prop) : Prop := ∀ {B : Bas} (G H : Hp) (σ : St) (δ : List Sl) (vs : List V) (rs : List R) (w : Addr → Option Nat) (Qp : QE) (Q : VK), Rep K B G H σ δ vs rs w → q rs δ Qp →
  (∀ r δ' v H' G' w', Qp r δ' → Stp B.T G H w δ G' H' w' δ' → Rep K B G' H' σ δ' [v] [r] w' → Q v H') → r vs H Q
def JE (X : Cx) (B : Bas) (e : Expr) (p : PX) : Prop := PE X e (LE X.K B p)
def JA (X : Cx) (B : Bas) (es : List Expr) (p : PL) : Prop := PA X es (LA X.K B es.length p)
def JB (X : Cx) (B : Bas) (e : Expr) (p : PB) : Prop := PT X e (LB X.K B p)
section
variable {X : Cx}
theorem PE_wk {e : Expr} {t t' : TE} (h : PE X e t) (k : ∀ σ H Q, t' σ H Q → t σ H Q) : PE X e t' := ⟨fun pins s σ H Q I q => h.run pins s σ H Q I (k σ H Q q)⟩
theorem PT_wk {e : Expr} {t t' : TT} (h : PT X e t) (k : ∀ σ H Q, t' σ H Q → t σ H Q) : PT X e t' := ⟨fun pins s σ H Q I q => h.run pins s σ H Q I (k σ H Q q)⟩
theorem PW_wk {e : Expr} {t t' : TT} (h : PW X e t) (k : ∀ σ H Q, t' σ H Q → t σ H Q) : PW X e t' := ⟨fun wh pins s σ H Q I q => h.run wh pins s σ H Q I (k σ H Q q)⟩
theorem PA_wk {es : List Expr} {t t' : TA} (h : PA X es t) (k : ∀ σ H Q, t' σ H Q → t σ H Q) : PA X es t' := ⟨fun pos pins s σ H Q I q => h.run pos pins s σ H Q I (k σ H Q q)⟩
theorem PS_wk {st : Stmt} {t t' : TS} (h : PS X st t) (k : ∀ D σ H, t' D σ H → t D σ H) : PS X st t' := ⟨fun pins s σ H D I q => h.run pins s σ H D I (k D σ H q)⟩
theorem PSs_wk {st : List Stmt} {t t' : TS} (h : PSs X st t) (k : ∀ D σ H, t' D σ H → t D σ H) : PSs X st t' := ⟨fun pins s σ H D I q => h.run pins s σ H D I (k D σ H q)⟩
end
/-! ### results -/
theorem noT_upd {H : Hp} {a p : Addr} {o : HO} (h : a ≠ p) (n : NoX H a) : NoX (upd H p o) a := fun xs z => n xs (RdX.upd h z)
section
variable {K : PySem.W.Frag} {G H : Hp} {σ : St} {δ : List Sl} {vs : List V} {rs : List R} {w : Addr → Option Nat}
/-- data is given, nothing is changed -/
theorem Rep.ret (r : Rep K B G H σ δ vs rs w) {v : V} {d : PyData} (h : Dq K G v d) : Rep K B G H σ δ [v] [.im d] fun a => evn (w a) := by
  have r0 := r.drop
  refine ⟨r0.sub, r0.out, r0.len, r0.sl, rfl, fun j u q hu hq => ?_, r0.bs⟩
  match j with
  | 0 =>
    simp only [List.getElem?_cons_zero, Option.some.injEq] at hu hq
    subst hu hq
    exact h
  | j + 1 => simp at hu
theorem Rep.at_ (r : Rep K B G H σ δ vs rs w) {i : Nat} {v : V} (h : σ[i]? = some (some v)) : Rep K B G H σ δ [v] [.at i] fun a => evn (w a) := by
  have r0 := r.drop
  refine ⟨r0.sub, r0.out, r0.len, r0.sl, rfl, fun j u q hu hq => ?_, r0.bs⟩
  match j with
  | 0 =>
    simp only [List.getElem?_cons_zero, Option.some.injEq] at hu hq
    subst hu hq
    exact h
  | j + 1 => simp at hu
/-- a new thing that never changes -/
theorem Rep.retNew (r : Rep K B G H σ δ vs rs w) {p : Addr} {o : HO} {d : PyData} (hp : H p = none) (h : Dq K (upd G p o) (.ref p) d) (hn : NT o := by exact nofun) :
    Stp B.T G H w δ (upd G p o) (upd H p o) (fun a => evn (w a)) δ ∧ Rep K B (upd G p o) (upd H p o) σ δ [.ref p] [.im d] fun a => evn (w a) := by
  have gp : G p = none := by
    cases e : G p with
    | none => rfl
    | some u => rw [r.sub p u e] at hp; cases hp
  have np : ∀ a i, w a = some i → a ≠ p := fun a i hw z => (r.out a i hw).2.1 (by rw [z]; exact hp)
  have sg : Same G (upd G p o) := same_new gp
  have r0 := r.drop
  have st : Stp B.T G H w δ (upd G p o) (upd H p o) (fun a => evn (w a)) δ := by
    refine .of ⟨sg, fun a u _ ha => by rw [upd_ne (ne_of_none ha hp)]; exact ha, fun a i h => .inl (by rw [(evn_some.mp h).1]; exact Option.some_ne_none _), fun a u ha => ?_, .refl _⟩ (tabs_new hp) (q_new hn)
    by_cases e : a = p
    · subst e; exact .inr (.inl hp)
    · rw [upd_ne e] at ha; exact .inl ha
  refine ⟨st, fun a u ha => ?_, fun a i h => ?_, r0.len, fun i s h => ?_, rfl, fun j u q hu hq => ?_, st.bs r.bs⟩
  · by_cases e : a = p
    · subst e; rw [upd_same] at ha ⊢; exact ha
    · rw [upd_ne e] at ha ⊢; exact r.sub a u ha
  · have h' := (evn_some.mp h).1
    have hne := np a i h'
    have ho := r.out a i h'
    rw [upd_ne hne, upd_ne hne]
    exact ⟨ho.1, ho.2.1, noT_upd hne ho.2.2⟩
  · exact (r0.sl i s h).mono sg (fun a u ma hu => by rw [upd_ne (ne_of_none hu hp)]; exact hu) fun a u ma _ => ma
  · match j with
    | 0 =>
      simp only [List.getElem?_cons_zero, Option.some.injEq] at hu hq
      subst hu hq
      exact h
    | j + 1 => simp at hu
/-- a new list of one's own -/
theorem Rep.retLst (r : Rep K B G H σ δ vs rs w) {p : Addr} {us : List V} {ds : List PyData} (hp : H p = none) (h : DqAll K G us ds) :
    ∃ w', Stp B.T G H w δ G (upd H p (.lst us)) w' δ ∧ Rep K B G (upd H p (.lst us)) σ δ [.ref p] [.ow (.lst ds)] w' := by
  have gp : G p = none := by
    cases e : G p with
    | none => rfl
    | some u => rw [r.sub p u e] at hp; cases hp
  have r0 := r.drop
  have st : Stp B.T G H w δ G (upd H p (.lst us)) (fun a => if a = p then some 1 else evn (w a)) δ := by
    refine .of ⟨fun _ _ h => h, fun a u _ ha => by rw [upd_ne (ne_of_none ha hp)]; exact ha, fun a i h => ?_, fun a u ha => .inl ha, .refl _⟩ (tabs_new hp)
    by_cases e : a = p
    · subst e; exact .inr hp
    · simp only [e, if_false] at h
      exact .inl (by rw [(evn_some.mp h).1]; exact Option.some_ne_none _)
  refine ⟨_, st, fun a u ha => ?_, fun a i h => ?_, r0.len, fun i s h => ?_, rfl, fun j u q hu hq => ?_, st.bs r.bs⟩
  · by_cases e : a = p
    · subst e; rw [gp] at ha; cases ha
    · rw [upd_ne e]; exact r.sub a u ha
  · by_cases e : a = p
    · subst e; rw [upd_same]; exact ⟨gp, Option.some_ne_none _, NoX.lst upd_same⟩
    · simp only [e, if_false] at h
      have ho := r0.out a i h
      rw [upd_ne e]
      exact ⟨ho.1, ho.2.1, noT_upd e ho.2.2⟩
  · refine (r0.sl i s h).mono (fun _ _ h => h) (fun a u ma hu => by rw [upd_ne (ne_of_none hu hp)]; exact hu) fun a u ma hu => ?_
    rw [if_neg (ne_of_none hu hp)]
    exact ma
  · match j with
    | 0 =>
      simp only [List.getElem?_cons_zero, Option.some.injEq] at hu hq
      subst hu hq
      exact ⟨p, us, rfl, by simp, upd_same, h⟩
    | j + 1 => simp at hu
end
/-! ### what is read -/
def dat (δ : List Sl) : R → Option PyData
  | .im d => some d
  | .ow (.lst ds) => some (.list ds)
  | .ow (.ptl ds) => some (.tuple ds)
  | .ow _ => none
  | .at i => match δ[i]? with
    | some (.im d) => some d
    | some (.ow _ (.lst ds)) => some (.list ds)
    | some (.ow _ (.ptl ds)) => some (.tuple ds)
    | _ => none
section
variable {K : PySem.W.Frag} {G H : Hp} {σ : St} {δ : List Sl} {vs : List V} {rs : List R} {w : Addr → Option Nat}
mutual
theorem dq_dp (s : Same G H) : ∀ (d : PyData) (v : V), Dq K G v d → Dp K H v d
  | .none, _, h => by cases h; exact .non
  | .bool b, _, h => by cases h; exact .bl b
  | .int i, _, h => by cases h; exact .int i
  | .str x, _, h => by cases h; exact .str x
  | .dict _, _, h => by cases h
  | .list ds, _, h => by
    cases h with
    | lst hs ha => exact .lst (SqL.of (s _ _ hs)) (dqAll_dp s ds _ ha)
  | .tuple ds, _, h => by
    cases h with
    | tup hs ha => exact .tup (Same.tp s _ _ hs) (dqAll_dp s ds _ ha)
theorem dqAll_dp (s : Same G H) : ∀ (ds : List PyData) (vs : List V), DqAll K G vs ds → DpAll K H vs ds
  | [], _, h => by cases h; exact .nil
  | d :: ds, _, h => by
    cases h with
    | cons h1 h2 => exact .cons (dq_dp s d _ h1) (dqAll_dp s ds _ h2)
end
/-- what is to be read of a value -/
def Vw (K : PySem.W.Frag) (G H : Hp) (v : V) (d : PyData) : Prop := Dq K G v d ∨ ∃ a us ds, v = .ref a ∧ H a = some (.lst us) ∧ DqAll K G us ds ∧ d = .list ds
theorem ptl_dq {K : PySem.W.Frag} {G : Hp} {v : V} {ds : List PyData} (h : ∃ p o us, v = .ref p ∧ G p = some (.frz o (.tup us)) ∧ o.cls = .type "tuple" ∧ o.dict = none ∧ DqAll K G us ds ∧ KnAll K G us ds) : Dq K G v (.tuple ds) := by
  obtain ⟨p, o, us, rfl, hp, _, _, hd, _⟩ := h
  exact .tup (.inl (.inr ⟨o, hp⟩)) hd
/-- what a value is: data, public; or a list, its items public -/
theorem Rep.dat (r : Rep K B G H σ δ vs rs w) {j : Nat} {v : V} {q : R} {d : PyData} (hv : vs[j]? = some v) (hq : rs[j]? = some q) (hd : dat δ q = some d) :
    Dq K G v d ∨ ∃ a us ds, v = .ref a ∧ H a = some (.lst us) ∧ DqAll K G us ds ∧ d = .list ds := by
  have t := r.tm j v q hv hq
  cases q with
  | im d' => cases hd; exact .inl t
  | ow o =>
    cases o with
    | lst ds =>
      cases hd
      obtain ⟨a, us, e, _, ha, hds⟩ := t
      exact .inr ⟨a, us, ds, e, ha, hds, rfl⟩
    | deal => cases hd
    | scr ns => cases hd
    | ptl ds => cases hd; exact .inl (ptl_dq t)
    | lam F => cases hd
    | dic ks ds => cases hd
    | dct r ks ds => cases hd
  | «at» i =>
    have t' : σ[i]? = some (some v) := t
    simp only [Pv.dat] at hd
    revert hd
    split
    · rename_i d' e
      intro hd; cases hd
      obtain ⟨u, hu, hd'⟩ := r.sl i _ e
      rw [t'] at hu
      cases hu
      exact .inl hd'
    · rename_i b ds e
      intro hd; cases hd
      obtain ⟨u, hu, a, us, e1, _, ha, hds⟩ := r.sl i _ e
      rw [t'] at hu
      cases hu
      exact .inr ⟨a, us, ds, e1, ha, hds, rfl⟩
    · rename_i b ds e
      intro hd; cases hd
      obtain ⟨u, hu, t2⟩ := r.sl i _ e
      rw [t'] at hu
      cases hu
      exact .inl (ptl_dq t2)
    · intro hd; cases hd
theorem Vw.dp {v : V} {d : PyData} (s : Same G H) (h : Vw K G H v d) : Dp K H v d := by
  rcases h with h | ⟨a, us, ds, rfl, ha, hds, rfl⟩
  · exact dq_dp s _ _ h
  · exact .lst (SqL.of ha) (dqAll_dp s _ _ hds)
theorem Vw.seqL {v : V} {ds : List PyData} (s : Same G H) (h : Vw K G H v (.list ds)) : ∃ a us, v = .ref a ∧ H a = some (.lst us) ∧ DqAll K G us ds := by
  rcases h with h | ⟨a, us, ds', rfl, ha, hds, e⟩
  · cases h with
    | lst hs ha => exact ⟨_, _, rfl, s _ _ hs, ha⟩
  · cases e
    exact ⟨a, us, rfl, ha, hds⟩
theorem Vw.seqT {v : V} {ds : List PyData} (s : Same G H) (h : Vw K G H v (.tuple ds)) : ∃ a us, v = .ref a ∧ SqT K H a us ∧ DqAll K G us ds ∧ Dq K G v (.tuple ds) := by
  rcases h with h | ⟨a, us, ds', rfl, ha, hds, e⟩
  · cases h with
    | tup hs ha => exact ⟨_, _, rfl, Same.tp s _ _ hs, ha, .tup hs ha⟩
  · cases e
theorem Vw.int {v : V} {i : Int} (h : Vw K G H v (.int i)) : v = .int i := by
  rcases h with h | ⟨a, us, ds', rfl, ha, hds, e⟩
  · cases h; rfl
  · cases e
theorem Vw.bool {v : V} {i : Bool} (h : Vw K G H v (.bool i)) : v = .bl i := by
  rcases h with h | ⟨a, us, ds', rfl, ha, hds, e⟩
  · cases h; rfl
  · cases e
theorem Vw.str {v : V} {i : Str} (h : Vw K G H v (.str i)) : v = .str i := by
  rcases h with h | ⟨a, us, ds', rfl, ha, hds, e⟩
  · cases h; rfl
  · cases e
theorem Rep.dpH (r : Rep K B G H σ δ vs rs w) {j : Nat} {v : V} {q : R} {d : PyData} (hv : vs[j]? = some v) (hq : rs[j]? = some q) (hd : Pv.dat δ q = some d) : Dp K H v d := Vw.dp r.sub (r.dat hv hq hd)
end
/-! ### names, constants, arguments -/
def pVar (i : Nat) : PX := fun δ Q => match δ[i]? with
  | some (.im d) => Q (.im d) δ
  | some (.ow _ _) => Q (.at i) δ
  | _ => False
def pK (d : PyData) : PX := fun δ Q => Q (.im d) δ
def pNil : PL := fun δ Q => Q [] δ
def pCons (p : PX) (ps : PL) : PL := fun δ Q => p δ fun r δ1 => ps δ1 fun rs δ2 => Q (r :: rs) δ2
/-- an operation over values that are there -/
def pC (q : List R → PX) (ps : PL) : PX := fun δ Q => ps δ fun rs δ1 => q rs δ1 Q
section
variable {X : Cx}
theorem je_var {i : Nat} {x : Str} {pos : Pos} (hN : X.N[i]? = some x) (hv : Vis X.env.scope x) (hd : (x == ("__debug__" : Str)) = false := by decide) (hcd : (x == ("__classdict__" : Str)) = false := by decide) : JE X B (.Name x pos) (pVar i) := by
  refine PE_wk (pe_var (i := i) hN hv hd hcd) fun σ H Q ⟨G, w, δ, Qp, rep, h, k⟩ => ?_
  unfold pVar at h
  revert h
  split
  · rename_i d e
    intro h
    obtain ⟨v, hv, hd⟩ := rep.sl i _ e
    exact ⟨v, hv, k _ _ v H G _ h .drop (rep.ret hd)⟩
  · rename_i b o e
    intro h
    obtain ⟨v, hv, hd⟩ := rep.sl i _ e
    exact ⟨v, hv, k _ _ v H G _ h .drop (rep.at_ hv)⟩
  · intro h; exact h.elim
theorem je_c {e : Expr} {v : V} {d : PyData} (h : PE X e (tC v)) (hd : ∀ G, Dq X.K G v d) : JE X B e (pK d) :=
  PE_wk h fun σ H Q ⟨G, w, δ, Qp, rep, q, k⟩ => k _ _ v H G _ q .drop (rep.ret (hd G))
theorem je_int {i j pos} : JE X B (.Constant (.int i) j pos) (pK (.int i)) := je_c pe_int fun _ => .int i
theorem je_bl {b j pos} : JE X B (.Constant (.bool b) j pos) (pK (.bool b)) := je_c pe_bl fun _ => .bl b
theorem je_non {j pos} : JE X B (.Constant .none j pos) (pK .none) := je_c pe_non fun _ => .non
theorem je_str {x j pos} : JE X B (.Constant (.str x) j pos) (pK (.str x)) := je_c pe_str fun _ => .str x
theorem je_gi {x : Str} {n : Int} {pos : Pos} (h : ∃ t, X.mg x = some (.int n t)) (hg : Gl X x) (hd : (x == ("__debug__" : Str)) = false := by decide) : JE X B (.Name x pos) (pK (.int n)) := by
  obtain ⟨t, h⟩ := h
  exact je_c (pe_glob (v := .int n) hg h ⟨t, rfl⟩ hd) fun _ => .int n
theorem ja_nil : JA X B [] pNil := PA_wk pa_nil fun σ H Q ⟨G, w, δ, Qp, rep, q, k⟩ => k [] δ [] H G _ q rfl .drop rep.drop
theorem ja_cons {e : Expr} {es : List Expr} {p : PX} {ps : PL} (h : JE X B e p) (hs : JA X B es ps) (he : starEach (e :: es) X.env = (false, eval e X.env) :: starEach es X.env := by rfl) : JA X B (e :: es) (pCons p ps) := by
  refine PA_wk (pa_cons h hs he) fun σ H Q ⟨G, w, δ, Qp, rep, q, k⟩ => ?_
  refine ⟨G, w, δ, _, rep, q, fun r δ1 v H1 G1 w1 q1 s1 rep1 => ?_⟩
  refine ⟨G1, _, δ1, _, rep1.drop, q1, fun rs δ2 vs H2 G2 w2 q2 l2 s2 rep2 => ?_⟩
  obtain ⟨w3, s3, rep3⟩ := rep1.frame s2 rep2
  exact k _ δ2 _ H2 G2 w3 q2 (congrArg (· + 1) l2) (s1.trans s3) rep3
/-- a binary operator -/
def ap2 (r : R2) : List V → Hp → VK → Prop
  | [x, y], H, Q => r x y H Q
  | _, _, _ => False
def ap1 (r : V → Hp → VK → Prop) : List V → Hp → VK → Prop
  | [x], H, Q => r x H Q
  | _, _, _ => False
theorem lc_two {a b : PX} {q : List R → PX} {r : R2} {σ : St} {H : Hp} {Q : VK} (hl : LC X.K q (ap2 r)) (h : LE X.K B (pC q (pCons a (pCons b pNil))) σ H Q) : LE X.K B a σ H fun x H1 => LE X.K B b σ H1 fun y H2 => r x y H2 Q := by
  obtain ⟨G, w, δ, Qp, rep, q, k⟩ := h
  refine ⟨G, w, δ, _, rep, q, fun ra δ1 x H1 G1 w1 q1 s1 rep1 => ?_⟩
  refine ⟨G1, _, δ1, _, rep1.drop, q1, fun rb δ2 y H2 G2 w2 q2 s2 rep2 => ?_⟩
  obtain ⟨w3, s3, rep3⟩ := rep1.frame s2 rep2
  exact hl G2 H2 σ δ2 [x, y] [ra, rb] w3 Qp Q rep3 q2 fun r δ' v H' G' w' hq hs hr => k r δ' v H' G' w' hq ((s1.trans s3).trans hs) hr
theorem je_op {a b : Expr} {op : Operator} {pos : Pos} {pa pb : PX} {q : List R → PX} {r : R2} (ho : OpR X (binaryOp op) r) (hl : LC X.K q (ap2 r)) (ha : JE X B a pa) (hb : JE X B b pb) : JE X B (.BinOp a op b pos) (pC q (pCons pa (pCons pb pNil))) :=
  PE_wk (pe_op ho ha hb) fun σ H Q h => lc_two hl h
theorem je_cmp {a b : Expr} {op : CmpOp} {pos : Pos} {pa pb : PX} {q : List R → PX} {r : R2} (ho : OpR X (compareOp op) r) (hl : LC X.K q (ap2 r)) (ha : JE X B a pa) (hb : JE X B b pb) (hm : behindInMarks op b = false) : JE X B (.Compare a [op] [b] pos) (pC q (pCons pa (pCons pb pNil))) :=
  PE_wk (pe_cmpR ho ha hb hm) fun σ H Q h => lc_two hl h
theorem je_un {a : Expr} {op : UnaryOp} {pos : Pos} {pa : PX} {q : List R → PX} {r : V → Hp → VK → Prop} (ho : UnR X (unaryOp op) r) (hl : LC X.K q (ap1 r)) (ha : JE X B a pa) : JE X B (.UnaryOp op a pos) (pC q (pCons pa pNil)) :=
  PE_wk (pe_un ho ha) fun σ H Q ⟨G, w, δ, Qp, rep, q, k⟩ => ⟨G, w, δ, _, rep, q, fun ra δ1 x H1 G1 w1 q1 s1 rep1 =>
    hl G1 H1 σ δ1 [x] [ra] w1 Qp Q rep1 q1 fun r δ' v H' G' w' hq hs hr => k r δ' v H' G' w' hq (s1.trans hs) hr⟩
theorem lc_args {n : Nat} {ps : PL} {q : List R → PX} {r : List V → Hp → VK → Prop} {σ : St} {H : Hp} {Q : VK} (hl : LC X.K q r) (h : LE X.K B (pC q ps) σ H Q) : tCB r (LA X.K B n ps) σ H Q := by
  obtain ⟨G, w, δ, Qp, rep, q, k⟩ := h
  exact ⟨G, w, δ, _, rep, q, fun rs δ1 vs H1 G1 w1 q1 _ s1 rep1 => hl G1 H1 σ δ1 vs rs w1 Qp Q rep1 q1 fun r δ' v H' G' w' hq hs hr => k r δ' v H' G' w' hq (s1.trans hs) hr⟩
/-! ### tests -/
def pT (p : PX) : PB := fun δ Q => p δ fun r δ1 => ∃ b, dat δ1 r = some (.bool b) ∧ Q b δ1
theorem dp_bool {K : PySem.W.Frag} {H : Hp} {v : V} {b : Bool} (h : Dp K H v (.bool b)) : v = .bl b := by cases h; rfl
theorem jb_val {e : Expr} {p : PX} (h : JE X B e p) (he : ∀ whole, isTrue e X.env whole = (do let v ← whole; standAt e.pos; holding [v] (truthy v)) := by intro _; rfl) : JB X B e (pT p) := by
  refine PT_wk (pt_val h he) fun σ H Q ⟨G, w, δ, Qp, rep, q, k⟩ => ?_
  refine ⟨G, w, δ, _, rep, q, fun r δ1 v H1 G1 w1 q1 s1 rep1 => ?_⟩
  obtain ⟨b, hd, q1⟩ := q1
  exact ⟨b, dp_bool (rep1.dpH (j := 0) rfl rfl hd), k b δ1 H1 G1 _ q1 (s1.trans .drop) rep1.drop⟩
theorem jb_cmp {a b : Expr} {op : CmpOp} {pos : Pos} {pa pb : PX} {q : List R → PX} {r : R2} (ho : OpR X (compareOp op) r) (hl : LC X.K q (ap2 r)) (ha : JE X B a pa) (hb : JE X B b pb) (hm : behindInMarks op b = false) : JB X B (.Compare a [op] [b] pos) (pT (pC q (pCons pa (pCons pb pNil)))) := by
  refine PT_wk (pt_cmpR ho ha hb hm) fun σ H Q ⟨G, w, δ, Qp, rep, q, k⟩ => ?_
  refine lc_two hl ⟨G, w, δ, _, rep, q, fun r δ1 v H1 G1 w1 q1 s1 rep1 => ?_⟩
  obtain ⟨b, hd, q1⟩ := q1
  exact ⟨b, dp_bool (rep1.dpH (j := 0) rfl rfl hd), k b δ1 H1 G1 _ q1 (s1.trans .drop) rep1.drop⟩
def pAnd (p q : PB) : PB := fun δ Q => p δ fun b δ1 => if b = true then q δ1 Q else Q false δ1
def pOr (p q : PB) : PB := fun δ Q => p δ fun b δ1 => if b = true then Q true δ1 else q δ1 Q
def pNot (p : PB) : PB := fun δ Q => p δ fun b δ1 => Q (!b) δ1
def JW (X : Cx) (B : Bas) (e : Expr) (p : PB) : Prop := PW X e (LB X.K B p)
theorem jw_pt {e : Expr} {p : PB} (h : JW X B e p) : JB X B e p := PW.pt h
theorem jw_and1 {a : Expr} {pos : Pos} {p : PB} (h : JB X B a p) : JW X B (.BoolOp .And [a] pos) p := pw_and1 h
theorem jw_or1 {a : Expr} {pos : Pos} {p : PB} (h : JB X B a p) : JW X B (.BoolOp .Or [a] pos) p := pw_or1 h
theorem jw_and {a b : Expr} {rest : List Expr} {pos : Pos} {p q : PB} (ha : JB X B a p) (hb : JW X B (.BoolOp .And (b :: rest) pos) q) : JW X B (.BoolOp .And (a :: b :: rest) pos) (pAnd p q) := by
  refine PW_wk (pw_and ha hb) fun σ H Q ⟨G, w, δ, Qp, rep, h, k⟩ => ?_
  refine ⟨G, w, δ, _, rep, h, fun b δ1 H1 G1 w1 q1 s1 rep1 => ?_⟩
  cases b with
  | true => exact ⟨G1, w1, δ1, Qp, rep1, q1, fun b δ2 H2 G2 w2 q2 s2 rep2 => k b δ2 H2 G2 w2 q2 (s1.trans s2) rep2⟩
  | false => exact k false δ1 H1 G1 w1 q1 s1 rep1
theorem jw_or {a b : Expr} {rest : List Expr} {pos : Pos} {p q : PB} (ha : JB X B a p) (hb : JW X B (.BoolOp .Or (b :: rest) pos) q) : JW X B (.BoolOp .Or (a :: b :: rest) pos) (pOr p q) := by
  refine PW_wk (pw_or ha hb) fun σ H Q ⟨G, w, δ, Qp, rep, h, k⟩ => ?_
  refine ⟨G, w, δ, _, rep, h, fun b δ1 H1 G1 w1 q1 s1 rep1 => ?_⟩
  cases b with
  | false => exact ⟨G1, w1, δ1, Qp, rep1, q1, fun b δ2 H2 G2 w2 q2 s2 rep2 => k b δ2 H2 G2 w2 q2 (s1.trans s2) rep2⟩
  | true => exact k true δ1 H1 G1 w1 q1 s1 rep1
theorem jb_not {a : Expr} {pos : Pos} {p : PB} (h : JB X B a p) : JB X B (.UnaryOp .Not a pos) (pNot p) := by
  refine PT_wk (pt_not h) fun σ H Q ⟨G, w, δ, Qp, rep, h, k⟩ => ?_
  exact ⟨G, w, δ, _, rep, h, fun b δ1 H1 G1 w1 q1 s1 rep1 => k (!b) δ1 H1 G1 w1 q1 s1 rep1⟩
/-- and, or, not as values: truths -/
def pAndV (p q : PX) : PX := fun δ Q => p δ fun r δ1 => ∃ b, dat δ1 r = some (.bool b) ∧ if b = true then q δ1 Q else Q (.im (.bool false)) δ1
def pNotV (p : PX) : PX := fun δ Q => p δ fun r δ1 => ∃ b, dat δ1 r = some (.bool b) ∧ Q (.im (.bool (!b))) δ1
theorem LE.go {K : PySem.W.Frag} {q : PX} {σ : St} {G H G1 H1 : Hp} {w w1 : Addr → Option Nat} {δ δ1 : List Sl} {vs : List V} {rs : List R} {Qp : QE} {Q : VK} (s1 : Stp B.T G H w δ G1 H1 w1 δ1) (rep1 : Rep K B G1 H1 σ δ1 vs rs w1) (h : q δ1 Qp)
    (k : ∀ r δ' v H' G' w', Qp r δ' → Stp B.T G H w δ G' H' w' δ' → Rep K B G' H' σ δ' [v] [r] w' → Q v H') : LE K B q σ H1 Q :=
  ⟨G1, _, δ1, Qp, rep1.drop, h, fun r δ2 v H2 G2 w2 q2 s2 rep2 => k r δ2 v H2 G2 w2 q2 ((s1.trans .drop).trans s2) rep2⟩
theorem je_one {op} {a : Expr} {pos : Pos} {p : PX} (h : JE X B a p) : JE X B (.BoolOp op [a] pos) p := pe_one h
theorem je_and {a b : Expr} {rest : List Expr} {pos : Pos} {p q : PX} (ha : JE X B a p) (hb : JE X B (.BoolOp .And (b :: rest) pos) q) : JE X B (.BoolOp .And (a :: b :: rest) pos) (pAndV p q) := by
  refine PE_wk (pe_and ha hb) fun σ H Q ⟨G, w, δ, Qp, rep, h, k⟩ => ?_
  refine ⟨G, w, δ, _, rep, h, fun r δ1 v H1 G1 w1 q1 s1 rep1 => ?_⟩
  obtain ⟨b, hd, q1⟩ := q1
  refine ⟨b, dp_bool (rep1.dpH (j := 0) rfl rfl hd), ?_⟩
  cases b with
  | true => exact LE.go s1 rep1 q1 k
  | false => exact k _ δ1 _ H1 G1 _ q1 (s1.trans .drop) (rep1.ret (.bl false))
theorem je_not {a : Expr} {pos : Pos} {p : PX} (h : JE X B a p) : JE X B (.UnaryOp .Not a pos) (pNotV p) := by
  refine PE_wk (pe_not h) fun σ H Q ⟨G, w, δ, Qp, rep, h, k⟩ => ?_
  refine ⟨G, w, δ, _, rep, h, fun r δ1 v H1 G1 w1 q1 s1 rep1 => ?_⟩
  obtain ⟨b, hd, q1⟩ := q1
  exact ⟨b, dp_bool (rep1.dpH (j := 0) rfl rfl hd), k _ δ1 _ H1 G1 _ q1 (s1.trans .drop) (rep1.ret (.bl _))⟩
end
end Pv
/-! Books looked at: what is amiss, first of all. -/
namespace Wf
open PySem PySem.Spec L2
def isT : PyData → Bool
  | .tuple _ => true
  | _ => false
/-! ### what is asked -/
def isWh (lo hi : Int) : PyData → Bool
  | .int i => decide (lo ≤ i) && decide (i ≤ hi)
  | _ => false
def isTu (n : Int) : PyData → Bool
  | .tuple ds => decide ((ds.length : Int) = n)
  | _ => false
end Wf
/-! look_table, look_paces, look_book. -/
namespace Wf
open PySem PySem.Spec L2
/-- an error of the class at C with these fields leaves -/
def RzE (C : Addr) (H : Hp) (E : XK) (w : Str) (n : Int) : Prop := ∀ (dd : Addr) (H' : Hp), Same H H' → H dd = none → H' dd = some (.xd [("at", .int n), ("word", .str w)]) → E (.ref C) (some dd) H'
theorem RzE.go {C : Addr} {H H1 : Hp} {E : XK} {w : Str} {n : Int} (r : RzE C H E w n) (s : Same H H1) : ∀ dd, H1 dd = none → E (.ref C) (some dd) (upd H1 dd (.xd [("at", .int n), ("word", .str w)])) := fun dd hd =>
  r dd _ (s.trans (same_new hd)) (s.free hd) upd_same
theorem RzE.same {C : Addr} {H H1 : Hp} {E : XK} {w : Str} {n : Int} (r : RzE C H E w n) (s : Same H H1) : RzE C H1 E w n := fun dd H' s' hd he => r dd H' (s.trans s') (s.free hd) he
end Wf
/-! A def within a def that is handed on: its captured cells stand still while another def calls it. -/
namespace Wf
open PySem PySem.Spec PyProof.Rows L2 LamX NdefX
/-! ### a call of what a slot holds -/
/-! ### tuple.index of numbers -/
/-! ### heaps: all but tables of code -/
theorem ExtN.tp {K : PySem.W.Frag} {H H' : Hp} (e : ExtN H H') : Tp K H H' := fun a xs h => by
  rcases h with (h | ⟨o, h⟩) | h
  · exact .inl (.inl (e _ _ h fun ps z => nomatch z))
  · exact .inl (.inr ⟨o, e _ _ h fun ps z => nomatch z⟩)
  · exact .inr h
/-! ### made_table -/
/-! ### made_table(n, f), f a def made here -/
/-- the rule of a def whose code object is known -/
theorem okC {P : Program} {w : World} {K : PySem.W.Frag} {mg : Str → Option Value} {base : Heap} {CX : CXT} {k : Nat} {f c : Addr} {fd : FuncData} {ps N : List Str} {sp : Sp} {x qual : Str} {params : Arguments} {body : List Stmt} {scope : Scope} {dvs : List V} {kws : List (Str × V)}
    (F : FunD K x qual params body scope dvs kws f fd) (hc : fd.code = .ref c) (S : FnScope N ps scope) (len : ∀ vs H Q E, sp vs H Q E → vs.length = ps.length)
    (hb : ∀ (A : Around) (outer : List Env) (s : Shared) (H : Hp) (vs : List V) (Q : VK) (E : XK), Room k (A.deeper (envOfC qual scope s.heap.objs.size f (.ref c))) → sp vs H Q E →
      ∃ t, PSs (cxOf CX P w K mg base N qual scope f (.ref c) A outer s H E) body t ∧ t (EndsQ Q) (start N vs) H) : FnOk P w K mg base CX (k + 1) f fd ps sp := by
  obtain ⟨oc, od, dV, kV, doc, pm, an, cdv, ct, osl, rfl, lk, hcd, _, _⟩ := F.ex
  have ec : cdv = .ref c := hc
  subst ec
  exact fn_of lk hcd S len fun A outer s H vs Q E hr hsp => hb A outer s H vs Q E hr hsp
/-! ### tuples whose object is known -/
/-- x is a tuple of these numbers, its object known -/
structure NmT (H : Hp) (x : V) (ns : List Int) : Prop where
  ex : ∃ (p : Addr) (o : Obj), x = .ref p ∧ H p = some (.frz o (.tup (ns.map V.int))) ∧ o.cls = .type "tuple" ∧ o.dict = none
theorem NmT.ext {H H' : Hp} {x : V} {ns : List Int} (h : NmT H x ns) (e : ExtN H H') : NmT H' x ns := by
  obtain ⟨p, o, rfl, h1, h2, h3⟩ := h.ex
  exact ⟨p, o, rfl, e _ _ h1 (fun ps z => nomatch z), h2, h3⟩
theorem NmT.sq {K : PySem.W.Frag} {H : Hp} {x : V} {ns : List Int} (h : NmT H x ns) : ∃ p, x = .ref p ∧ SqT K H p (ns.map V.int) := by
  obtain ⟨p, o, rfl, h1, _, _⟩ := h.ex
  exact ⟨p, rfl, .inl (.inr ⟨o, h1⟩)⟩
theorem NmT.dp {K : PySem.W.Frag} {H : Hp} {x : V} {ns : List Int} (h : NmT H x ns) : Dp K H x (dI ns) := by
  obtain ⟨p, rfl, hs⟩ := h.sq (K := K)
  exact .tup hs (dp_ints ns)
end Wf
/-! t * n, t a tuple that is not empty, n from 0 on. -/
namespace Wf
open PySem PySem.Spec PyProof.Rows L2
theorem mul_one (l : Addr) (ws : Array Value) (n : Nat) (dd : Option Addr) (sl : Array (Option Value)) (u : Tok) :
    Meets (Builtin.«tuple.__mul__» ⟨[.ref l, .int 1 u], []⟩) (fun _ R s => s.heap.get? l = some { cls := .type "tuple", dict := dd, data := .seq ws n, slots := sl } ∧ R (.ok (.ret (Value.ref l))) s) :=
  .of_wp fun prog w A R s q => by
    obtain ⟨hp, gn, dr, tk, os⟩ := s
    obtain ⟨hl, q⟩ := q
    have ix := AutoSeq1.idx_int
    have c1 : (ws.isEmpty || (1 : Int) == 1) = true := by rw [Bool.or_comm]; rfl
    wp_walk using wpAny_loadPart' hl
    repeat (first
      | (refine wpAny_ite_true (decide_eq_true c1) ?_; wp_walk using wpAny_loadPart' hl)
      | (refine wpAny_ite_true c1 ?_; wp_walk using wpAny_loadPart' hl))
    exact ⟨_, rfl, q⟩
theorem mul_none (l : Addr) (ws : Array Value) (n : Nat) (dd : Option Addr) (sl : Array (Option Value)) (u : Tok) (he : ws.isEmpty = false) :
    Meets (Builtin.«tuple.__mul__» ⟨[.ref l, .int 0 u], []⟩) (fun _ R s => s.heap.get? l = some { cls := .type "tuple", dict := dd, data := .seq ws n, slots := sl } ∧
      R (.ok (.ret (Value.ref s.heap.objs.size))) { s with heap := s.heap.push { cls := Value.type "tuple", data := Data.seq #[] }, toks := s.toks }) :=
  .of_wp fun prog w A R s q => by
    obtain ⟨hp, gn, dr, tk, os⟩ := s
    obtain ⟨hl, q⟩ := q
    have ix := AutoSeq1.idx_int
    have c1 : (ws.isEmpty || (0 : Int) == 1) = false := by rw [he]; rfl
    wp_walk using wpAny_loadPart' hl
    repeat (first
      | (refine wpAny_ite_false (decide_eq_false (by rw [c1]; exact Bool.false_ne_true)) ?_; wp_walk using wpAny_loadPart' hl)
      | (refine wpAny_ite_true (decide_eq_true rfl) ?_; wp_walk using wpAny_loadPart' hl))
    exact ⟨_, rfl, q⟩
def rRepA (K : PySem.W.Frag) : R2 := fun x y H Q => ∃ l k xs, x = .ref l ∧ y = .int k ∧ SqT K H l xs ∧ xs ≠ [] ∧ 0 ≤ k ∧ k ≤ 1000 ∧ xs.length ≤ 1000 ∧ (k = 1 → Q (.ref l) H) ∧ (k ≠ 1 → ∀ p, H p = none → Q (.ref p) (upd H p (.tup (List.replicate k.toNat xs).flatten)))
theorem op_repA {X : Cx} : OpR X (binaryOp .Mult) (rRepA X.K) := by
  intro pins s σ H x y v u Q I rx ry q
  obtain ⟨l, k, xs, rfl, rfl, hT, hne, k0, k1, hz, q1, q2⟩ := q
  by_cases c2 : 2 ≤ k
  · exact op_repT pins s σ H _ _ v u Q I rx ry ⟨l, k, xs, rfl, rfl, hT, hne, c2, k1, hz, q2 (by omega)⟩
  · cases rx
    obtain ⟨t, rfl⟩ := ry
    obtain ⟨its, r, ⟨⟨cls, dd, dt, sl⟩, ho, hc, n, hd⟩, hs⟩ := I.tuple hT
    simp only at hc hd
    subst hc hd
    have hk : k = 0 ∨ k = 1 := by omega
    have hle : its.length = xs.length := r.length.symm
    rcases hk with rfl | rfl
    · have he : its.toArray.isEmpty = false := by
        cases its with
        | nil => exact absurd (List.eq_nil_of_length_eq_zero hle.symm) hne
        | cons a b => rfl
      refine wpAny_binaryOp_repeat_ref (T := "tuple") (U := "int") (by decide) ⟨_, ho, rfl⟩ (fun s' => typeIs_int s' 0 t) noFill_tuple_mul F.fills_int_mul F.slot_int_rmul repeat_tuple F.slot_int_index.lookup
        (call_meets F.slot_int_rmul (typeIs_int s 0 t) F.entry_int_rmul (F.args_int_rmul_2 _ _) (int_rmul_tuple 0 t l its.toArray n dd sl) ⟨ho, rfl, ⟨_, ho, rfl⟩, call_meets F.slot_tuple_mul ⟨_, ho, rfl⟩ F.entry_tuple_mul (F.args_tuple_mul_2 _ _) (mul_none l its.toArray n dd sl t he) ⟨ho, ?_⟩⟩)
      refine ⟨.ref s.heap.objs.size, _, I.laid (t' := s.toks) (o := .tup []) (fun b ob e => Heap.get?_push_of_some _ e) (Nat.le_refl _) ?_, rfl, q2 (by decide) _ (I.hok.fresh (Nat.le_refl _))⟩
      exact ⟨Nat.zero_le _, [], .nil, IsTup.new _ _⟩
    · refine wpAny_binaryOp_repeat_ref (T := "tuple") (U := "int") (by decide) ⟨_, ho, rfl⟩ (fun s' => typeIs_int s' 1 t) noFill_tuple_mul F.fills_int_mul F.slot_int_rmul repeat_tuple F.slot_int_index.lookup
        (call_meets F.slot_int_rmul (typeIs_int s 1 t) F.entry_int_rmul (F.args_int_rmul_2 _ _) (int_rmul_tuple 1 t l its.toArray n dd sl) ⟨ho, rfl, ⟨_, ho, rfl⟩, call_meets F.slot_tuple_mul ⟨_, ho, rfl⟩ F.entry_tuple_mul (F.args_tuple_mul_2 _ _) (mul_one l its.toArray n dd sl t) ⟨ho, ?_⟩⟩)
      exact ⟨.ref l, H, I, rfl, q1 rfl⟩
end Wf
namespace Pv
open PySem PySem.Spec L2 Wf
variable {B : Bas}
/-! ### operations that read data and give data -/
def dats (δ : List Sl) : List R → Option (List PyData)
  | [] => some []
  | r :: rs => match dat δ r with
    | none => none
    | some d => match dats δ rs with
      | none => none
      | some ds => some (d :: ds)
inductive Vws (K : PySem.W.Frag) (G H : Hp) : List V → List PyData → Prop
  | nil : Vws K G H [] []
  | cons {v : V} {vs : List V} {d : PyData} {ds : List PyData} : Vw K G H v d → Vws K G H vs ds → Vws K G H (v :: vs) (d :: ds)
section
variable {K : PySem.W.Frag} {G H : Hp} {σ : St} {δ : List Sl} {w : Addr → Option Nat}
theorem vws_of : ∀ (rs : List R) (vs : List V) (ds : List PyData), vs.length = rs.length → (∀ (j : Nat) v q d, vs[j]? = some v → rs[j]? = some q → Pv.dat δ q = some d → Vw K G H v d) → dats δ rs = some ds → Vws K G H vs ds
  | [], [], ds, _, _, h => by
    cases h; exact .nil
  | [], v :: vs, ds, hl, _, _ => by simp at hl
  | r :: rs, [], ds, hl, _, _ => by simp at hl
  | r :: rs, v :: vs, ds, hl, hv, h => by
    unfold dats at h
    revert h
    split
    · intro h; cases h
    · rename_i d e
      split
      · intro h; cases h
      · rename_i ds' e'
        intro h; cases h
        exact .cons (hv 0 v r d rfl rfl e) (vws_of rs vs ds' (by simpa using hl) (fun j v' q d' h1 h2 h3 => hv (j + 1) v' q d' (by simpa using h1) (by simpa using h2) h3) e')
theorem Rep.vws {vs : List V} {rs : List R} {ds : List PyData} (r : Rep K B G H σ δ vs rs w) (h : dats δ rs = some ds) : Vws K G H vs ds :=
  vws_of rs vs ds r.tlen (fun _ _ _ _ hv hq hd => r.dat hv hq hd) h
end
/-- the value v of the data d: one that is there, or a new tuple -/
def Res (K : PySem.W.Frag) (G H : Hp) (v : V) (H' : Hp) (d : PyData) : Prop := (H' = H ∧ Dq K G v d) ∨ ∃ p us l, v = .ref p ∧ H p = none ∧ H' = upd H p (.tup us) ∧ DqAll K G us l ∧ d = .tuple l
theorem Res.old {K : PySem.W.Frag} {G H : Hp} {v : V} {d : PyData} (h : Dq K G v d) : Res K G H v H d := .inl ⟨rfl, h⟩
theorem Res.int {K : PySem.W.Frag} {G H : Hp} {i : Int} : Res K G H (.int i) H (.int i) := .inl ⟨rfl, .int i⟩
theorem Res.bool {K : PySem.W.Frag} {G H : Hp} {i : Bool} : Res K G H (.bl i) H (.bool i) := .inl ⟨rfl, .bl i⟩
theorem Res.str {K : PySem.W.Frag} {G H : Hp} {i : Str} : Res K G H (.str i) H (.str i) := .inl ⟨rfl, .str i⟩
def qD (f : List PyData → (PyData → Prop) → Prop) : List R → PX := fun rs δ Q => match dats δ rs with
  | some ds => f ds fun d => Q (.im d) δ
  | none => False
def qL (f : List PyData → (List PyData → Prop) → Prop) : List R → PX := fun rs δ Q => match dats δ rs with
  | some ds => f ds fun l => Q (.ow (.lst l)) δ
  | none => False
theorem dq_newTup {K : PySem.W.Frag} {G H : Hp} {p : Addr} {us : List V} {l : List PyData} (s : Same G H) (hp : H p = none) (h : DqAll K G us l) : Dq K (upd G p (.tup us)) (.ref p) (.tuple l) := by
  have gp : G p = none := by
    cases e : G p with
    | none => rfl
    | some u => rw [s p u e] at hp; cases hp
  exact .tup (SqT.of upd_same) (dpAll_mono (same_new gp) _ _ h)
theorem lc_im {K : PySem.W.Frag} {f : List PyData → (PyData → Prop) → Prop} {r : List V → Hp → VK → Prop}
    (h : ∀ G H vs ds Q, Same G H → Vws K G H vs ds → f ds (fun d => ∀ v H', Res K G H v H' d → Q v H') → (∀ k k' : PyData → Prop, (∀ d, k d → k' d) → f ds k → f ds k') → r vs H Q) (mono : ∀ ds (k k' : PyData → Prop), (∀ d, k d → k' d) → f ds k → f ds k') : LC K (qD f) r := by
  intro B G H σ δ vs rs w Qp Q rep q k
  unfold qD at q
  revert q
  split
  · rename_i ds e
    intro q
    refine h G H vs ds Q rep.sub (rep.vws e) (mono ds _ _ (fun d hd v H' res => ?_) q) (mono ds)
    rcases res with ⟨rfl, hq⟩ | ⟨p, us, l, rfl, hp, rfl, hus, rfl⟩
    · exact k _ δ v _ G _ hd .drop (rep.ret hq)
    · obtain ⟨s1, r1⟩ := rep.retNew hp (dq_newTup rep.sub hp hus)
      exact k _ δ _ _ _ _ hd s1 r1
  · intro q; exact q.elim
theorem lc_own {K : PySem.W.Frag} {f : List PyData → (List PyData → Prop) → Prop} {r : List V → Hp → VK → Prop}
    (h : ∀ G H vs ds Q, Same G H → Vws K G H vs ds → f ds (fun l => ∀ us p, DqAll K G us l → H p = none → Q (.ref p) (upd H p (.lst us))) → r vs H Q) (mono : ∀ ds (k k' : List PyData → Prop), (∀ d, k d → k' d) → f ds k → f ds k') : LC K (qL f) r := by
  intro B G H σ δ vs rs w Qp Q rep q k
  unfold qL at q
  revert q
  split
  · rename_i ds e
    intro q
    refine h G H vs ds Q rep.sub (rep.vws e) (mono ds _ _ (fun l hd us p hus hp => ?_) q)
    obtain ⟨w', s1, r1⟩ := rep.retLst hp hus
    exact k _ δ _ _ _ _ hd s1 r1
  · intro q; exact q.elim
/-- one of two readings -/
def qOr (q q' : List R → PX) : List R → PX := fun rs δ Q => q rs δ Q ∨ q' rs δ Q
theorem lc_or {K : PySem.W.Frag} {q q' : List R → PX} {r r' : R2} (h : LC K q (ap2 r)) (h' : LC K q' (ap2 r')) : LC K (qOr q q') (ap2 fun x y H Q => r x y H Q ∨ r' x y H Q) := by
  intro B G H σ δ vs rs w Qp Q rep hq k
  match vs, hq with
  | [x, y], .inl hq => exact .inl (h G H σ δ [x, y] rs w Qp Q rep hq k)
  | [x, y], .inr hq => exact .inr (h' G H σ δ [x, y] rs w Qp Q rep hq k)
  | [], .inl hq => exact h G H σ δ [] rs w Qp Q rep hq k
  | [], .inr hq => exact h' G H σ δ [] rs w Qp Q rep hq k
  | [x], .inl hq => exact h G H σ δ [x] rs w Qp Q rep hq k
  | [x], .inr hq => exact h' G H σ δ [x] rs w Qp Q rep hq k
  | x :: y :: z :: vs, .inl hq => exact h G H σ δ (x :: y :: z :: vs) rs w Qp Q rep hq k
  | x :: y :: z :: vs, .inr hq => exact h' G H σ δ (x :: y :: z :: vs) rs w Qp Q rep hq k
theorem op_or {X : Cx} {f : Value → Value → Sem Value} {r r' : R2} (h : OpR X f r) (h' : OpR X f r') : OpR X f (fun x y H Q => r x y H Q ∨ r' x y H Q) := by
  intro pins s σ H x y v u Q I rx ry q
  rcases q with q | q
  · exact h pins s σ H x y v u Q I rx ry q
  · exact h' pins s σ H x y v u Q I rx ry q
/-! ### arithmetic -/
def fI2 (C : Int → Int → Prop) (g : Int → Int → PyData) : List PyData → (PyData → Prop) → Prop
  | [.int a, .int b], k => C a b ∧ k (g a b)
  | _, _ => False
theorem fI2_mono {C : Int → Int → Prop} {g : Int → Int → PyData} : ∀ ds (k k' : PyData → Prop), (∀ d, k d → k' d) → fI2 C g ds k → fI2 C g ds k' := by
  intro ds k k' h q
  unfold fI2 at q ⊢
  split at q
  · exact ⟨q.1, h _ q.2⟩
  · exact q.elim
theorem lc_I2 {K : PySem.W.Frag} {C : Int → Int → Prop} {g : Int → Int → PyData} {gv : Int → Int → V} (hg : ∀ a b G, Dq K G (gv a b) (g a b)) : LC K (qD (fI2 C g)) (ap2 (rI C gv)) := by
  refine lc_im (fun G H vs ds Q s hv q _ => ?_) fI2_mono
  unfold fI2 at q
  split at q
  · cases hv with
    | cons h1 hv =>
      cases hv with
      | cons h2 hv =>
        cases hv
        exact ⟨_, _, h1.int, h2.int, q.1, q.2 _ _ (.old (hg _ _ G))⟩
  · exact q.elim
def T2 (_ _ : Int) : Prop := True
theorem rI_0 {g : Int → Int → V} {x y : V} {H : Hp} {Q : VK} (h : rI T2 g x y H Q) : rI0 g x y H Q := by
  obtain ⟨i, j, h1, h2, _, q⟩ := h
  exact ⟨i, j, h1, h2, q⟩
theorem lc_wk {K : PySem.W.Frag} {q : List R → PX} {r r' : R2} (h : LC K q (ap2 r)) (k : ∀ x y H Q, r x y H Q → r' x y H Q) : LC K q (ap2 r') := by
  intro B G H σ δ vs rs w Qp Q rep hq kk
  match vs with
  | [x, y] => exact k x y H Q (h G H σ δ [x, y] rs w Qp Q rep hq kk)
  | [] => exact h G H σ δ [] rs w Qp Q rep hq kk
  | [x] => exact h G H σ δ [x] rs w Qp Q rep hq kk
  | x :: y :: z :: vs => exact h G H σ δ (x :: y :: z :: vs) rs w Qp Q rep hq kk
theorem lc_I0 {K : PySem.W.Frag} {g : Int → Int → PyData} {gv : Int → Int → V} (hg : ∀ a b G, Dq K G (gv a b) (g a b)) : LC K (qD (fI2 T2 g)) (ap2 (rI0 gv)) := lc_wk (lc_I2 hg) fun _ _ _ _ h => rI_0 h
/-- sums: numbers, tuples, texts, lists -/
def fCat : List PyData → (PyData → Prop) → Prop
  | [.tuple a, .tuple b], k => a.length + b.length ≤ sizeLine ∧ k (.tuple (a ++ b))
  | _, _ => False
def fCatL : List PyData → (List PyData → Prop) → Prop
  | [.list a, .list b], k => a.length + b.length ≤ sizeLine ∧ k (a ++ b)
  | _, _ => False
def fCatS : List PyData → (PyData → Prop) → Prop
  | [.str a, .str b], k => a.length + b.length ≤ sizeLine ∧ k (.str (a ++ b))
  | _, _ => False
theorem dqAll_len {K : PySem.W.Frag} {G : Hp} : ∀ {us : List V} {ds : List PyData}, DqAll K G us ds → us.length = ds.length
  | _, _, .nil => rfl
  | _, _, .cons _ h => congrArg (· + 1) (dqAll_len h)
theorem dqAll_append {K : PySem.W.Frag} {G : Hp} : ∀ {us us' : List V} {ds ds' : List PyData}, DqAll K G us ds → DqAll K G us' ds' → DqAll K G (us ++ us') (ds ++ ds')
  | _, _, _, _, .nil, h => h
  | _, _, _, _, .cons h1 h2, h => .cons h1 (dqAll_append h2 h)
theorem dqAll_nil {K : PySem.W.Frag} {G : Hp} {us : List V} (h : DqAll K G us []) : us = [] := by cases h; rfl
theorem dqAll_nil' {K : PySem.W.Frag} {G : Hp} {ds : List PyData} (h : DqAll K G [] ds) : ds = [] := by cases h; rfl
theorem lc_cat {K : PySem.W.Frag} : LC K (qD fCat) (ap2 (rCatA K)) := by
  refine lc_im (fun G H vs ds Q s hv q _ => ?_) (fun ds k k' h q => ?_)
  · unfold fCat at q
    split at q
    · cases hv with
      | cons h1 hv =>
        cases hv with
        | cons h2 hv =>
          cases hv
          obtain ⟨p1, u1, rfl, t1, d1, e1⟩ := h1.seqT s
          obtain ⟨p2, u2, rfl, t2, d2, e2⟩ := h2.seqT s
          have l1 := dqAll_len d1
          have l2 := dqAll_len d2
          refine ⟨p1, p2, u1, u2, rfl, rfl, t1, t2, by omega, fun z => ?_, fun z1 z2 => ?_, fun z1 z2 p hp => ?_⟩
          · subst z
            rw [dqAll_nil' d1, List.nil_append] at q
            exact q.2 _ _ (.old e2)
          · subst z2
            rw [dqAll_nil' d2, List.append_nil] at q
            exact q.2 _ _ (.old e1)
          · exact q.2 _ _ (.inr ⟨p, _, _, rfl, hp, rfl, dqAll_append d1 d2, rfl⟩)
    · exact q.elim
  · unfold fCat at q ⊢
    split at q
    · exact ⟨q.1, h _ q.2⟩
    · exact q.elim
theorem lc_catS {K : PySem.W.Frag} : LC K (qD fCatS) (ap2 fun x y H Q => ∃ i j, x = .str i ∧ y = .str j ∧ i.length + j.length ≤ sizeLine ∧ Q (.str (i ++ j)) H) := by
  refine lc_im (fun G H vs ds Q s hv q _ => ?_) (fun ds k k' h q => ?_)
  · unfold fCatS at q
    split at q
    · cases hv with
      | cons h1 hv =>
        cases hv with
        | cons h2 hv =>
          cases hv
          exact ⟨_, _, h1.str, h2.str, q.1, q.2 _ _ .str⟩
    · exact q.elim
  · unfold fCatS at q ⊢
    split at q
    · exact ⟨q.1, h _ q.2⟩
    · exact q.elim
theorem lc_catL {K : PySem.W.Frag} : LC K (qL fCatL) (ap2 rCat) := by
  refine lc_own (fun G H vs ds Q s hv q => ?_) (fun ds k k' h q => ?_)
  · unfold fCatL at q
    split at q
    · cases hv with
      | cons h1 hv =>
        cases hv with
        | cons h2 hv =>
          cases hv
          obtain ⟨p1, u1, rfl, t1, d1⟩ := h1.seqL s
          obtain ⟨p2, u2, rfl, t2, d2⟩ := h2.seqL s
          have l1 := dqAll_len d1
          have l2 := dqAll_len d2
          exact ⟨p1, p2, u1, u2, rfl, rfl, t1, t2, by omega, fun p hp => q.2 _ p (dqAll_append d1 d2) hp⟩
    · exact q.elim
  · unfold fCatL at q ⊢
    split at q
    · exact ⟨q.1, h _ q.2⟩
    · exact q.elim
/-- the plus of any two -/
def qAddU : List R → PX := fun rs δ Q => match dats δ rs with
  | some [.int a, .int b] => Q (.im (.int (a + b))) δ
  | some [.tuple a, .tuple b] => a.length + b.length ≤ sizeLine ∧ Q (.im (.tuple (a ++ b))) δ
  | some [.list a, .list b] => a.length + b.length ≤ sizeLine ∧ Q (.ow (.lst (a ++ b))) δ
  | some [.str a, .str b] => a.length + b.length ≤ sizeLine ∧ Q (.im (.str (a ++ b))) δ
  | _ => False
theorem LC.wq {K : PySem.W.Frag} {q q' : List R → PX} {r : List V → Hp → VK → Prop} (h : LC K q r) (k : ∀ rs δ Q, q' rs δ Q → q rs δ Q) : LC K q' r := fun {B} G H σ δ vs rs w Qp Q rep hq kk => h G H σ δ vs rs w Qp Q rep (k rs δ Qp hq) kk
def rAddU (K : PySem.W.Frag) : R2 := fun x y H Q => qAdd x y H Q ∨ (rCatA K x y H Q ∨ (rCat x y H Q ∨ ∃ i j, x = .str i ∧ y = .str j ∧ i.length + j.length ≤ sizeLine ∧ Q (.str (i ++ j)) H))
theorem op_addU {X : Cx} : OpR X (binaryOp .Add) (rAddU X.K) := op_or op_add (op_or op_catA (op_or op_cat op_add_str))
theorem lc_addU {K : PySem.W.Frag} : LC K qAddU (ap2 (rAddU K)) := by
  refine LC.wq (lc_or (lc_I0 (g := fun a b => .int (a + b)) fun a b G => .int _) (lc_or lc_cat (lc_or lc_catL lc_catS))) fun rs δ Q h => ?_
  unfold qAddU at h
  split at h
  · rename_i a b e
    exact .inl (by unfold qD; rw [e]; exact ⟨trivial, h⟩)
  · rename_i a b e
    exact .inr (.inl (by unfold qD; rw [e]; exact h))
  · rename_i a b e
    exact .inr (.inr (.inl (by unfold qL; rw [e]; exact h)))
  · rename_i a b e
    exact .inr (.inr (.inr (by unfold qD; rw [e]; exact h)))
  · exact h.elim
section
variable {X : Cx} {a b : Expr} {pos : Pos} {pa pb : PX}
def pAdd (pa pb : PX) : PX := pC qAddU (pCons pa (pCons pb pNil))
theorem je_add (ha : JE X B a pa) (hb : JE X B b pb) : JE X B (.BinOp a .Add b pos) (pAdd pa pb) := je_op op_addU lc_addU ha hb
def pSub (pa pb : PX) : PX := pC (qD (fI2 T2 fun a b => .int (a - b))) (pCons pa (pCons pb pNil))
theorem je_sub (ha : JE X B a pa) (hb : JE X B b pb) : JE X B (.BinOp a .Sub b pos) (pSub pa pb) := je_op op_sub (lc_I0 fun a b G => .int _) ha hb
/-- one factor below 2 ^ 64, or both together below a million bits -/
def CMu (i j : Int) : Prop := CMul i j ∨ CMulW i j
def fRepL : List PyData → (List PyData → Prop) → Prop
  | [.list a, .int n], k => -(2 ^ 63) ≤ n ∧ n < 2 ^ 63 ∧ a.length * n.toNat ≤ sizeLine ∧ k (List.replicate n.toNat a).flatten
  | _, _ => False
def fRepT : List PyData → (PyData → Prop) → Prop
  | [.tuple a, .int n], k => a ≠ [] ∧ 0 ≤ n ∧ n ≤ 1000 ∧ a.length ≤ 1000 ∧ k (.tuple (List.replicate n.toNat a).flatten)
  | _, _ => False
theorem dqAll_rep {K : PySem.W.Frag} {G : Hp} {us : List V} {ds : List PyData} (h : DqAll K G us ds) : ∀ n : Nat, DqAll K G (List.replicate n us).flatten (List.replicate n ds).flatten
  | 0 => .nil
  | n + 1 => by
    rw [List.replicate_succ, List.replicate_succ, List.flatten_cons, List.flatten_cons]
    exact dqAll_append h (dqAll_rep h n)
theorem lc_repL {K : PySem.W.Frag} : LC K (qL fRepL) (ap2 rRep) := by
  refine lc_own (fun G H vs ds Q s hv q => ?_) (fun ds k k' h q => ?_)
  · unfold fRepL at q
    split at q
    · cases hv with
      | cons h1 hv =>
        cases hv with
        | cons h2 hv =>
          cases hv
          obtain ⟨p1, u1, rfl, t1, d1⟩ := h1.seqL s
          have l1 := dqAll_len d1
          exact ⟨p1, _, u1, rfl, h2.int, t1, q.1, q.2.1, by rw [l1]; exact q.2.2.1, fun p hp => q.2.2.2 _ p (dqAll_rep d1 _) hp⟩
    · exact q.elim
  · unfold fRepL at q ⊢
    split at q
    · exact ⟨q.1, q.2.1, q.2.2.1, h _ q.2.2.2⟩
    · exact q.elim
theorem lc_repT {K : PySem.W.Frag} : LC K (qD fRepT) (ap2 (rRepA K)) := by
  refine lc_im (fun G H vs ds Q s hv q _ => ?_) (fun ds k k' h q => ?_)
  · unfold fRepT at q
    split at q
    · rename_i a n k
      cases hv with
      | cons h1 hv =>
        cases hv with
        | cons h2 hv =>
          cases hv
          obtain ⟨p1, u1, rfl, t1, d1, e1⟩ := h1.seqT s
          have l1 := dqAll_len d1
          obtain ⟨q1, q2, q3, q4, q5⟩ := q
          refine ⟨p1, _, u1, rfl, h2.int, t1, fun z => ?_, q2, q3, by omega, fun z => ?_, fun z p hp => ?_⟩
          · subst z; exact q1 (dqAll_nil' d1)
          · subst z
            refine q5 _ _ (.old ?_)
            show Dq K G _ (.tuple (List.replicate 1 a).flatten)
            rw [List.replicate_one, List.flatten_cons, List.flatten_nil, List.append_nil]
            exact e1
          · exact q5 _ _ (.inr ⟨p, _, _, rfl, hp, rfl, dqAll_rep d1 _, rfl⟩)
    · exact q.elim
  · unfold fRepT at q ⊢
    split at q
    · exact ⟨q.1, q.2.1, q.2.2.1, q.2.2.2.1, h _ q.2.2.2.2⟩
    · exact q.elim
def qMulU : List R → PX := fun rs δ Q => match dats δ rs with
  | some [.int a, .int b] => CMu a b ∧ Q (.im (.int (a * b))) δ
  | some [.list a, .int n] => -(2 ^ 63) ≤ n ∧ n < 2 ^ 63 ∧ a.length * n.toNat ≤ sizeLine ∧ Q (.ow (.lst (List.replicate n.toNat a).flatten)) δ
  | some [.tuple a, .int n] => a ≠ [] ∧ 0 ≤ n ∧ n ≤ 1000 ∧ a.length ≤ 1000 ∧ Q (.im (.tuple (List.replicate n.toNat a).flatten)) δ
  | _ => False
def rMulU (K : PySem.W.Frag) : R2 := fun x y H Q => (qMul x y H Q ∨ rI CMulW (fun i j => .int (i * j)) x y H Q) ∨ (rRep x y H Q ∨ rRepA K x y H Q)
theorem op_mulU : OpR X (binaryOp .Mult) (rMulU X.K) := op_or (op_or op_mul op_mulW) (op_or op_rep op_repA)
theorem lc_mulU {K : PySem.W.Frag} : LC K qMulU (ap2 (rMulU K)) := by
  refine LC.wq (lc_or (lc_or (lc_I2 (C := CMul) (g := fun a b => .int (a * b)) fun a b G => .int _) (lc_I2 (C := CMulW) (g := fun a b => .int (a * b)) fun a b G => .int _)) (lc_or lc_repL lc_repT)) fun rs δ Q h => ?_
  unfold qMulU at h
  split at h
  · rename_i a b e
    rcases h with ⟨h1 | h1, h⟩
    · exact .inl (.inl (by unfold qD; rw [e]; exact ⟨h1, h⟩))
    · exact .inl (.inr (by unfold qD; rw [e]; exact ⟨h1, h⟩))
  · rename_i a b e
    exact .inr (.inl (by unfold qL; rw [e]; exact h))
  · rename_i a b e
    exact .inr (.inr (by unfold qD; rw [e]; exact h))
  · exact h.elim
def pMul (pa pb : PX) : PX := pC qMulU (pCons pa (pCons pb pNil))
theorem je_mul (ha : JE X B a pa) (hb : JE X B b pb) : JE X B (.BinOp a .Mult b pos) (pMul pa pb) := je_op op_mulU lc_mulU ha hb
def pFdiv (pa pb : PX) : PX := pC (qD (fI2 CDivW fun a b => .int (a / b))) (pCons pa (pCons pb pNil))
theorem je_fdiv (ha : JE X B a pa) (hb : JE X B b pb) : JE X B (.BinOp a .FloorDiv b pos) (pFdiv pa pb) := je_op op_fdivW (lc_I2 fun a b G => .int _) ha hb
def CMod (_ j : Int) : Prop := 0 < j
def pMod (pa pb : PX) : PX := pC (qD (fI2 CMod fun a b => .int (a % b))) (pCons pa (pCons pb pNil))
theorem je_mod (ha : JE X B a pa) (hb : JE X B b pb) : JE X B (.BinOp a .Mod b pos) (pMod pa pb) := je_op op_mod (lc_I2 fun a b G => .int _) ha hb
def fNeg : List PyData → (PyData → Prop) → Prop
  | [.int a], k => k (.int (-a))
  | _, _ => False
theorem lc_neg {K : PySem.W.Frag} : LC K (qD fNeg) (ap1 qNeg) := by
  refine lc_im (fun G H vs ds Q s hv q _ => ?_) (fun ds k k' h q => ?_)
  · unfold fNeg at q
    split at q
    · cases hv with
      | cons h1 hv =>
        cases hv
        exact ⟨_, h1.int, q _ _ .int⟩
    · exact q.elim
  · unfold fNeg at q ⊢
    split at q
    · exact h _ q
    · exact q.elim
def pNeg (pa : PX) : PX := pC (qD fNeg) (pCons pa pNil)
theorem je_neg (ha : JE X B a pa) : JE X B (.UnaryOp .USub a pos) (pNeg pa) := je_un un_neg lc_neg ha
/-! ### comparisons -/
def pCmp (f : Int → Int → Bool) (pa pb : PX) : PX := pC (qD (fI2 T2 fun a b => .bool (f a b))) (pCons pa (pCons pb pNil))
abbrev pLt := pCmp fun a b => decide (a < b)
abbrev pLe := pCmp fun a b => decide (a ≤ b)
abbrev pGt := pCmp fun a b => decide (b < a)
abbrev pGe := pCmp fun a b => decide (b ≤ a)
theorem je_gt (ha : JE X B a pa) (hb : JE X B b pb) : JE X B (.Compare a [.Gt] [b] pos) (pGt pa pb) := je_cmp op_gt (lc_I0 fun a b G => .bl _) ha hb (nomark _)
theorem jb_lt (ha : JE X B a pa) (hb : JE X B b pb) : JB X B (.Compare a [.Lt] [b] pos) (pT (pLt pa pb)) := jb_cmp op_lt (lc_I0 fun a b G => .bl _) ha hb (nomark _)
theorem jb_le (ha : JE X B a pa) (hb : JE X B b pb) : JB X B (.Compare a [.LtE] [b] pos) (pT (pLe pa pb)) := jb_cmp op_le (lc_I0 fun a b G => .bl _) ha hb (nomark _)
theorem jb_gt (ha : JE X B a pa) (hb : JE X B b pb) : JB X B (.Compare a [.Gt] [b] pos) (pT (pGt pa pb)) := jb_cmp op_gt (lc_I0 fun a b G => .bl _) ha hb (nomark _)
theorem jb_ge (ha : JE X B a pa) (hb : JE X B b pb) : JB X B (.Compare a [.GtE] [b] pos) (pT (pGe pa pb)) := jb_cmp op_ge (lc_I0 fun a b G => .bl _) ha hb (nomark _)
/-- equal: of any data -/
def eqd (x y : PyData) : Bool := PyData.eqv x y
def fEq (neg : Bool) : List PyData → (PyData → Prop) → Prop
  | [.int a, .int b], k => k (.bool (if neg then !decide (a = b) else decide (a = b)))
  | [.str a, .str b], k => k (.bool (if neg then !decide (a = b) else decide (a = b)))
  | [a, b], k => SeqAt.shaped a = true ∧ SeqAt.shaped b = true ∧ k (.bool (if neg then !eqd a b else eqd a b))
  | _, _ => False
theorem fEq_mono {neg : Bool} : ∀ ds (k k' : PyData → Prop), (∀ d, k d → k' d) → fEq neg ds k → fEq neg ds k' := by
  intro ds k k' h q
  unfold fEq at q ⊢
  split at q
  · exact h _ q
  · exact h _ q
  · exact ⟨q.1, q.2.1, h _ q.2.2⟩
  · exact q.elim
def rEqU (K : PySem.W.Frag) : R2 := fun x y H Q => rEq x y H Q ∨ rEqD K x y H Q
def rNeU (K : PySem.W.Frag) : R2 := fun x y H Q => rNe x y H Q ∨ rNeD K x y H Q
theorem dec_int {a b : Int} : decide (V.int a = V.int b) = decide (a = b) := by
  by_cases h : a = b
  · subst h; simp
  · rw [decide_eq_false h, decide_eq_false fun z => h (V.int.inj z)]
theorem dec_str {a b : Str} : decide (V.str a = V.str b) = decide (a = b) := by
  by_cases h : a = b
  · subst h; simp
  · rw [decide_eq_false h, decide_eq_false fun z => h (V.str.inj z)]
theorem lc_eqU {K : PySem.W.Frag} : LC K (qD (fEq false)) (ap2 (rEqU K)) := by
  refine lc_im (fun G H vs ds Q s hv q _ => ?_) fEq_mono
  unfold fEq at q
  split at q
  · cases hv with
    | cons h1 hv =>
      cases hv with
      | cons h2 hv =>
        cases hv
        refine .inl ⟨by rw [h1.int, h2.int]; rfl, ?_⟩
        rw [h1.int, h2.int, dec_int]
        exact q _ _ .bool
  · cases hv with
    | cons h1 hv =>
      cases hv with
      | cons h2 hv =>
        cases hv
        refine .inl ⟨by rw [h1.str, h2.str]; rfl, ?_⟩
        rw [h1.str, h2.str, dec_str]
        exact q _ _ .bool
  · cases hv with
    | cons h1 hv =>
      cases hv with
      | cons h2 hv =>
        cases hv
        exact .inr ⟨_, _, h1.dp s, h2.dp s, q.1, q.2.1, q.2.2 _ _ .bool⟩
  · exact q.elim
theorem lc_neU {K : PySem.W.Frag} : LC K (qD (fEq true)) (ap2 (rNeU K)) := by
  refine lc_im (fun G H vs ds Q s hv q _ => ?_) fEq_mono
  unfold fEq at q
  split at q
  · cases hv with
    | cons h1 hv =>
      cases hv with
      | cons h2 hv =>
        cases hv
        refine .inl ⟨by rw [h1.int, h2.int]; rfl, ?_⟩
        rw [h1.int, h2.int, dec_int]
        exact q _ _ .bool
  · cases hv with
    | cons h1 hv =>
      cases hv with
      | cons h2 hv =>
        cases hv
        refine .inl ⟨by rw [h1.str, h2.str]; rfl, ?_⟩
        rw [h1.str, h2.str, dec_str]
        exact q _ _ .bool
  · cases hv with
    | cons h1 hv =>
      cases hv with
      | cons h2 hv =>
        cases hv
        exact .inr ⟨_, _, h1.dp s, h2.dp s, q.1, q.2.1, q.2.2 _ _ .bool⟩
  · exact q.elim
theorem op_eqU (hu : X.A.units + 64 < cLine) : OpR X (compareOp .Eq) (rEqU X.K) := op_or op_eq (op_eqD hu)
theorem op_neU (hu : X.A.units + 64 < cLine) : OpR X (compareOp .NotEq) (rNeU X.K) := op_or op_ne (op_neD hu)
def pEq (neg : Bool) (pa pb : PX) : PX := pC (qD (fEq neg)) (pCons pa (pCons pb pNil))
theorem je_eq {j : Nat} (hr : Room j X.A) (ha : JE X B a pa) (hb : JE X B b pb) : JE X B (.Compare a [.Eq] [b] pos) (pEq false pa pb) := je_cmp (op_eqU hr.units) lc_eqU ha hb (nomark _)
theorem jb_eq {j : Nat} (hr : Room j X.A) (ha : JE X B a pa) (hb : JE X B b pb) : JB X B (.Compare a [.Eq] [b] pos) (pT (pEq false pa pb)) := jb_cmp (op_eqU hr.units) lc_eqU ha hb (nomark _)
theorem jb_ne {j : Nat} (hr : Room j X.A) (ha : JE X B a pa) (hb : JE X B b pb) : JB X B (.Compare a [.NotEq] [b] pos) (pT (pEq true pa pb)) := jb_cmp (op_neU hr.units) lc_neU ha hb (nomark _)
/-! ### items -/
def fIx : List PyData → (PyData → Prop) → Prop
  | [.list ds, .int i], k => ∃ d, atI ds i = some d ∧ k d
  | [.tuple ds, .int i], k => ∃ d, atI ds i = some d ∧ k d
  | _, _ => False
theorem dqAll_get {K : PySem.W.Frag} {G : Hp} : ∀ {us : List V} {ds : List PyData} {i : Nat} {d : PyData}, DqAll K G us ds → ds[i]? = some d → ∃ v, us[i]? = some v ∧ Dq K G v d
  | _, _, _, _, .nil, e => by simp at e
  | _, _, 0, _, .cons h _, e => by simp at e; subst e; exact ⟨_, rfl, h⟩
  | _, _, i + 1, _, .cons _ h, e => by
    obtain ⟨v, e1, e2⟩ := dqAll_get (i := i) h (by simpa using e)
    exact ⟨v, by simpa using e1, e2⟩
theorem dqAll_at {K : PySem.W.Frag} {G : Hp} {us : List V} {ds : List PyData} {i : Int} {d : PyData} (h : DqAll K G us ds) (e : atI ds i = some d) : ∃ v, atI us i = some v ∧ Dq K G v d := by
  unfold atI at e ⊢
  rw [dqAll_len h]
  cases q : ixN ds.length i with
  | none => rw [q] at e; cases e
  | some j =>
    rw [q] at e
    exact dqAll_get h e
theorem lc_ix {K : PySem.W.Frag} : LC K (qD fIx) (ap2 (rIx K)) := by
  refine lc_im (fun G H vs ds Q s hv q _ => ?_) (fun ds k k' h q => ?_)
  · unfold fIx at q
    split at q
    · cases hv with
      | cons h1 hv =>
        cases hv with
        | cons h2 hv =>
          cases hv
          obtain ⟨d, e, q⟩ := q
          obtain ⟨p1, u1, rfl, t1, d1⟩ := h1.seqL s
          obtain ⟨v, e2, hd⟩ := dqAll_at d1 e
          exact .inl ⟨p1, u1, _, v, rfl, h2.int, SqL.of t1, e2, q _ _ (.old hd)⟩
    · cases hv with
      | cons h1 hv =>
        cases hv with
        | cons h2 hv =>
          cases hv
          obtain ⟨d, e, q⟩ := q
          obtain ⟨p1, u1, rfl, t1, d1, _⟩ := h1.seqT s
          obtain ⟨v, e2, hd⟩ := dqAll_at d1 e
          exact .inr (.inl ⟨p1, u1, _, v, rfl, h2.int, t1, e2, q _ _ (.old hd)⟩)
    · exact q.elim
  · unfold fIx at q ⊢
    split at q
    · obtain ⟨d, e, q⟩ := q; exact ⟨d, e, h _ q⟩
    · obtain ⟨d, e, q⟩ := q; exact ⟨d, e, h _ q⟩
    · exact q.elim
def pIx (pa pb : PX) : PX := pC (qD fIx) (pCons pa (pCons pb pNil))
theorem je_ix (ha : JE X B a pa) (hb : JE X B b pb) (hs : PlainIx b) : JE X B (.Subscript a b pos) (pIx pa pb) := PE_wk (pe_ix ix_seq ha hb hs) fun σ H Q h => lc_two lc_ix h
end
/-! ### is -/
end Pv
namespace Pv
open PySem PySem.Spec L2 Wf
variable {B : Bas}
/-! ### a list of one's own that changes no more -/
def fz (δ : List Sl) : R → Option (PyData × List Sl)
  | .im d => some (d, δ)
  | .ow (.lst ds) => some (.list ds, δ)
  | .ow (.ptl ds) => some (.tuple ds, δ)
  | .ow _ => none
  | .at i => match δ[i]? with
    | some (.im d) => some (d, δ)
    | some (.ow false (.lst ds)) => some (.list ds, δ.set i (.im (.list ds)))
    | some (.ow _ (.ptl ds)) => some (.tuple ds, δ)
    | _ => none
def fzAll : List Sl → List R → Option (List PyData × List Sl)
  | δ, [] => some ([], δ)
  | δ, r :: rs => match fz δ r with
    | none => none
    | some (d, δ1) => match fzAll δ1 rs with
      | none => none
      | some (ds, δ2) => some (d :: ds, δ2)
section
variable {K : PySem.W.Frag} {G H : Hp} {σ : St} {δ : List Sl} {vs : List V} {rs : List R} {w : Addr → Option Nat}
/-- what was n's, now nobody's, its list public -/
def freed (w : Addr → Option Nat) (n : Nat) (a : Addr) : Option Nat := if w a = some n then none else w a
theorem freed_ne {w : Addr → Option Nat} {n m : Nat} {a : Addr} (h : w a = some m) (hn : m ≠ n) : freed w n a = some m := by
  unfold freed
  rw [if_neg (by rw [h]; intro z; cases z; exact hn rfl)]
  exact h
theorem of_freed {w : Addr → Option Nat} {n m : Nat} {a : Addr} (h : freed w n a = some m) : w a = some m ∧ m ≠ n := by
  unfold freed at h
  split at h
  · cases h
  · rename_i z
    exact ⟨h, fun e => z (by rw [h, e])⟩
theorem Rep.frees (r : Rep K B G H σ δ vs rs w) {n : Nat} {a : Addr} {us : List V} {δ' : List Sl} (ha : H a = some (.lst us)) (hw : w a = some n) (pn : Pn δ δ') :
    Same G (upd G a (.lst us)) ∧ Stp B.T G H w δ (upd G a (.lst us)) H (freed w n) δ' ∧ Same (upd G a (.lst us)) H ∧ (∀ x i, freed w n x = some i → upd G a (.lst us) x = none ∧ H x ≠ none ∧ NoX H x) := by
  have g0 := (r.out a n hw).1
  have sg : Same G (upd G a (.lst us)) := same_new g0
  refine ⟨sg, .of ⟨sg, fun _ _ _ h => h, fun x i h => .inl (by rw [(of_freed h).1]; exact Option.some_ne_none _), fun x o h => ?_, pn⟩ .refl (q_new nofun), fun x o h => ?_, fun x i h => ?_⟩
  · by_cases e : x = a
    · subst e; exact .inr (.inr (.inl (by rw [hw]; exact Option.some_ne_none _)))
    · rw [upd_ne e] at h; exact .inl h
  · by_cases e : x = a
    · subst e; rw [upd_same] at h; cases h; exact ha
    · rw [upd_ne e] at h; exact r.sub x o h
  · obtain ⟨h1, h2⟩ := of_freed h
    have e : x ≠ a := fun z => by subst z; rw [hw] at h1; cases h1; exact h2 rfl
    rw [upd_ne e]
    exact r.out x i h1
theorem pn_set {δ : List Sl} {i : Nat} {s : Sl} (h : ∀ o, δ[i]? ≠ some (.ow true o)) : Pn δ (δ.set i s) := fun j o hj => by
  by_cases e : i = j
  · subst e; exact absurd hj (h o)
  · exact ⟨o, by rw [List.getElem?_set_ne e]; exact hj⟩
theorem Rep.fz1 (r : Rep K B G H σ δ vs rs w) {j : Nat} {v : V} {q : R} {d : PyData} {δ' : List Sl} (hv : vs[j]? = some v) (hq : rs[j]? = some q) (h : fz δ q = some (d, δ')) :
    ∃ G' w', Stp B.T G H w δ G' H w' δ' ∧ Rep K B G' H σ δ' vs (rs.set j (.im d)) w' := by
  have hj : j < rs.length := (List.getElem?_eq_some_iff.mp hq).1
  have t := r.tm j v q hv hq
  have others : ∀ {G' : Hp} {w' : Addr → Option Nat}, Same G G' → (∀ a k, w a = some k → k ≠ 2 * j + 1 → k % 2 = 1 → w' a = some k) → Dq K G' v d → ∀ (k : Nat) u p, vs[k]? = some u → (rs.set j (.im d))[k]? = some p → RR K G' H σ (fun a => w' a = some (2 * k + 1)) u p := by
    intro G' w' sg hw' hd k u p hu hp
    by_cases e : j = k
    · subst e
      rw [List.getElem?_set_self hj] at hp
      cases hp
      rw [hv] at hu
      cases hu
      exact hd
    · rw [List.getElem?_set_ne e] at hp
      exact (r.tm k u p hu hp).mono sg (fun _ _ _ h => h) fun a o ma _ => hw' a _ ma (by omega) (by omega)
  cases q with
  | im d' =>
    cases h
    exact ⟨G, w, .refl, r.sub, r.out, r.len, r.sl, by rw [List.length_set]; exact r.tlen, others (fun _ _ h => h) (fun a k h _ _ => h) t, r.bs⟩
  | ow o =>
    cases o with
    | lst ds =>
      cases h
      obtain ⟨a, us, rfl, ma, ha, hds⟩ := t
      obtain ⟨sg, st, sh, ho⟩ := r.frees (δ' := δ) ha ma (.refl _)
      refine ⟨_, _, st, sh, ho, r.len, fun i s hs => ?_, by rw [List.length_set]; exact r.tlen, others sg (fun a k h1 h2 _ => freed_ne h1 h2) (.lst upd_same (dpAll_mono sg _ _ hds)), st.bs r.bs⟩
      exact (r.sl i s hs).mono sg (fun _ _ _ h => h) fun a o mb _ => freed_ne mb (by omega)
    | deal => cases h
    | scr ns => cases h
    | lam F => cases h
    | dic ks ds => cases h
    | dct r ks ds => cases h
    | ptl ds =>
      cases h
      exact ⟨G, w, .refl, r.sub, r.out, r.len, r.sl, by rw [List.length_set]; exact r.tlen, others (fun _ _ h => h) (fun a k h _ _ => h) (ptl_dq t), r.bs⟩
  | «at» i =>
    have t' : σ[i]? = some (some v) := t
    simp only [fz] at h
    revert h
    split
    · rename_i d' e
      intro h
      cases h
      obtain ⟨u, hu, hd⟩ := r.sl i _ e
      rw [t'] at hu
      cases hu
      exact ⟨G, w, .refl, r.sub, r.out, r.len, r.sl, by rw [List.length_set]; exact r.tlen, others (fun _ _ h => h) (fun a k h _ _ => h) hd, r.bs⟩
    · rename_i ds e
      intro h
      cases h
      obtain ⟨u, hu, a, us, rfl, ma, ha, hds⟩ := r.sl i _ e
      rw [t'] at hu
      cases hu
      obtain ⟨sg, st, sh, ho⟩ := r.frees (δ' := δ.set i (.im (.list ds))) ha ma (pn_set fun o z => by rw [e] at z; cases z)
      have hd : Dq K (upd G a (.lst us)) (.ref a) (.list ds) := .lst upd_same (dpAll_mono sg _ _ hds)
      refine ⟨_, _, st, sh, ho, by rw [List.length_set]; exact r.len, fun k s hs => ?_, by rw [List.length_set]; exact r.tlen, others sg (fun a k h1 h2 h3 => freed_ne h1 (by omega)) hd, st.bs r.bs⟩
      by_cases ek : i = k
      · subst ek
        rw [List.getElem?_set_self (List.getElem?_eq_some_iff.mp e).1] at hs
        cases hs
        exact ⟨_, t', hd⟩
      · rw [List.getElem?_set_ne ek] at hs
        exact (r.sl k s hs).mono sg (fun _ _ _ h => h) fun a o mb _ => freed_ne mb (by omega)
    · rename_i b ds e
      intro h
      cases h
      obtain ⟨u, hu, hd⟩ := r.sl i _ e
      rw [t'] at hu
      cases hu
      exact ⟨G, w, .refl, r.sub, r.out, r.len, r.sl, by rw [List.length_set]; exact r.tlen, others (fun _ _ h => h) (fun a k h _ _ => h) (ptl_dq hd), r.bs⟩
    · intro h; cases h
theorem Rep.fzGo : ∀ (rs2 : List R) (rs1 : List R) {G : Hp} {δ δ' : List Sl} {w : Addr → Option Nat} {ds : List PyData}, Rep K B G H σ δ vs (rs1 ++ rs2) w → fzAll δ rs2 = some (ds, δ') → ∃ G' w', Stp B.T G H w δ G' H w' δ' ∧ Rep K B G' H σ δ' vs (rs1 ++ ds.map .im) w'
  | [], rs1, G, δ, δ', w, ds, r, h => by
    cases h
    exact ⟨G, w, .refl, r⟩
  | q :: rs2, rs1, G, δ, δ', w, ds, r, h => by
    unfold fzAll at h
    revert h
    split
    · intro h; cases h
    · rename_i d δ1 e
      split
      · intro h; cases h
      · rename_i ds' δ2 e2
        intro h
        cases h
        have hq : (rs1 ++ q :: rs2)[rs1.length]? = some q := by simp
        have hl : rs1.length < vs.length := by rw [r.tlen, List.length_append, List.length_cons]; omega
        obtain ⟨G1, w1, s1, r1⟩ := r.fz1 (v := vs[rs1.length]) (List.getElem?_eq_getElem hl) hq e
        have e3 : (rs1 ++ q :: rs2).set rs1.length (.im d) = (rs1 ++ [.im d]) ++ rs2 := by
          rw [List.set_append_right _ _ (Nat.le_refl _), Nat.sub_self, List.set_cons_zero, List.append_assoc]
          rfl
        rw [e3] at r1
        obtain ⟨G2, w2, s2, r2⟩ := Rep.fzGo rs2 (rs1 ++ [.im d]) r1 e2
        refine ⟨G2, w2, s1.trans s2, ?_⟩
        rw [List.append_assoc] at r2
        exact r2
theorem Rep.fzs (r : Rep K B G H σ δ vs rs w) {ds : List PyData} {δ' : List Sl} (h : fzAll δ rs = some (ds, δ')) : ∃ G' w', Stp B.T G H w δ G' H w' δ' ∧ Rep K B G' H σ δ' vs (ds.map .im) w' := by
  have := Rep.fzGo rs [] (by simpa using r) h
  simpa using this
theorem Rep.ims {ds : List PyData} (r : Rep K B G H σ δ vs (ds.map .im) w) : DqAll K G vs ds := by
  have hl : vs.length = ds.length := by have := r.tlen; rwa [List.length_map] at this
  have go : ∀ (vs : List V) (ds : List PyData), vs.length = ds.length → (∀ (j : Nat) v d, vs[j]? = some v → ds[j]? = some d → Dq K G v d) → DqAll K G vs ds := by
    intro vs
    induction vs with
    | nil =>
      intro ds hl _
      cases ds with
      | nil => exact .nil
      | cons => simp at hl
    | cons v vs ih =>
      intro ds hl h
      cases ds with
      | nil => simp at hl
      | cons d ds => exact .cons (h 0 v d rfl rfl) (ih ds (by simpa using hl) fun j v' d' h1 h2 => h (j + 1) v' d' (by simpa using h1) (by simpa using h2))
  refine go vs ds hl fun j v d hv hd => ?_
  exact r.tm j v (.im d) hv (by rw [List.getElem?_map, hd]; rfl)
end
/-! ### displays -/
def qTup : List R → PX := fun rs δ Q => match fzAll δ rs with
  | some (ds, δ') => Q (.im (.tuple ds)) δ'
  | none => False
def qLst : List R → PX := fun rs δ Q => match fzAll δ rs with
  | some (ds, δ') => Q (.ow (.lst ds)) δ'
  | none => False
section
variable {X : Cx}
def pTup (ps : PL) : PX := pC qTup ps
def pLst (ps : PL) : PX := pC qLst ps
theorem je_tup {es : List Expr} {ps : PL} {x1} {pos : Pos} (h : JA X B es ps) (hl : es.length ≤ sizeLine := by decide) : JE X B (.Tuple es x1 pos) (pTup ps) := by
  refine PE_wk (pe_tup h) fun σ H Q ⟨G, w, δ, Qp, rep, q, k⟩ => ?_
  refine ⟨G, w, δ, _, rep, q, fun rs δ1 vs H1 G1 w1 q1 l1 s1 rep1 => ?_⟩
  unfold qTup at q1
  revert q1
  split
  · rename_i ds δ2 e
    intro q1
    obtain ⟨G2, w2, s2, r2⟩ := rep1.fzs e
    refine ⟨by rw [rep1.tlen, l1]; exact hl, fun p hp => ?_⟩
    obtain ⟨s3, r3⟩ := r2.retNew hp (dq_newTup r2.sub hp r2.ims)
    exact k _ _ _ _ _ _ q1 ((s1.trans s2).trans s3) r3
  · intro q1; exact q1.elim
theorem je_lst {es : List Expr} {ps : PL} {pos : Pos} (h : JA X B es ps) (hl : es.length ≤ sizeLine := by decide) : JE X B (.List es pos) (pLst ps) := by
  refine PE_wk (pe_lst h) fun σ H Q ⟨G, w, δ, Qp, rep, q, k⟩ => ?_
  refine ⟨G, w, δ, _, rep, q, fun rs δ1 vs H1 G1 w1 q1 l1 s1 rep1 => ?_⟩
  unfold qLst at q1
  revert q1
  split
  · rename_i ds δ2 e
    intro q1
    obtain ⟨G2, w2, s2, r2⟩ := rep1.fzs e
    refine ⟨by rw [rep1.tlen, l1]; exact hl, fun p hp => ?_⟩
    obtain ⟨w3, s3, r3⟩ := r2.retLst hp r2.ims
    exact k _ _ _ _ _ _ q1 ((s1.trans s2).trans s3) r3
  · intro q1; exact q1.elim
/-! ### built-ins -/
theorem lc_im1 {K : PySem.W.Frag} {f : PyData → (PyData → Prop) → Prop} {r : List V → Hp → VK → Prop} (h : ∀ G H v d Q, Same G H → Vw K G H v d → f d (fun e => ∀ u H', Res K G H u H' e → Q u H') → r [v] H Q) (mono : ∀ d (k k' : PyData → Prop), (∀ e, k e → k' e) → f d k → f d k') :
    LC K (qD fun ds k => match ds with | [d] => f d k | _ => False) r := by
  refine lc_im (fun G H vs ds Q s hv q _ => ?_) (fun ds k k' hk q => ?_)
  · match ds, hv, q with
    | [d], .cons h1 .nil, q => exact h G H _ d Q s h1 q
    | [], _, q => exact q.elim
    | _ :: _ :: _, _, q => exact q.elim
  · match ds, q with
    | [d], q => exact mono d k k' hk q
    | [], q => exact q.elim
    | _ :: _ :: _, q => exact q.elim
theorem lc_im2 {K : PySem.W.Frag} {f : PyData → PyData → (PyData → Prop) → Prop} {r : List V → Hp → VK → Prop} (h : ∀ G H v u d e Q, Same G H → Vw K G H v d → Vw K G H u e → f d e (fun e => ∀ u H', Res K G H u H' e → Q u H') → r [v, u] H Q) (mono : ∀ d e (k k' : PyData → Prop), (∀ e, k e → k' e) → f d e k → f d e k') :
    LC K (qD fun ds k => match ds with | [d, e] => f d e k | _ => False) r := by
  refine lc_im (fun G H vs ds Q s hv q _ => ?_) (fun ds k k' hk q => ?_)
  · match ds, hv, q with
    | [d, e], .cons h1 (.cons h2 .nil), q => exact h G H _ _ d e Q s h1 h2 q
    | [], _, q => exact q.elim
    | [_], _, q => exact q.elim
    | _ :: _ :: _ :: _, _, q => exact q.elim
  · match ds, q with
    | [d, e], q => exact mono d e k k' hk q
    | [], q => exact q.elim
    | [_], q => exact q.elim
    | _ :: _ :: _ :: _, q => exact q.elim
theorem lc_own1 {K : PySem.W.Frag} {f : PyData → (List PyData → Prop) → Prop} {r : List V → Hp → VK → Prop} (h : ∀ G H v d Q, Same G H → Vw K G H v d → f d (fun l => ∀ us p, DqAll K G us l → H p = none → Q (.ref p) (upd H p (.lst us))) → r [v] H Q) (mono : ∀ d (k k' : List PyData → Prop), (∀ e, k e → k' e) → f d k → f d k') :
    LC K (qL fun ds k => match ds with | [d] => f d k | _ => False) r := by
  refine lc_own (fun G H vs ds Q s hv q => ?_) (fun ds k k' hk q => ?_)
  · match ds, hv, q with
    | [d], .cons h1 .nil, q => exact h G H _ d Q s h1 q
    | [], _, q => exact q.elim
    | _ :: _ :: _, _, q => exact q.elim
  · match ds, q with
    | [d], q => exact mono d k k' hk q
    | [], q => exact q.elim
    | _ :: _ :: _, q => exact q.elim
abbrev q1 (f : PyData → (PyData → Prop) → Prop) : List R → PX := qD fun ds k => match ds with | [d] => f d k | _ => False
abbrev q2 (f : PyData → PyData → (PyData → Prop) → Prop) : List R → PX := qD fun ds k => match ds with | [d, e] => f d e k | _ => False
abbrev q1L (f : PyData → (List PyData → Prop) → Prop) : List R → PX := qL fun ds k => match ds with | [d] => f d k | _ => False
def fLen : PyData → (PyData → Prop) → Prop
  | .list ds, k => k (.int ds.length)
  | .tuple ds, k => k (.int ds.length)
  | .str x, k => x.length ≤ sizeLine ∧ k (.int x.length)
  | _, _ => False
theorem lc_len {K : PySem.W.Frag} : LC K (q1 fLen) (qLen K) := by
  refine lc_im1 (fun G H v d Q s hv q => ?_) (fun d k k' hk q => ?_)
  · cases d with
    | list ds =>
      obtain ⟨a, us, rfl, ha, hds⟩ := hv.seqL s
      exact ⟨_, ds.length, rfl, .inl ⟨us, SqL.of ha, (dqAll_len hds).symm⟩, q _ _ .int⟩
    | tuple ds =>
      obtain ⟨a, us, rfl, ha, hds, _⟩ := hv.seqT s
      exact ⟨_, ds.length, rfl, .inr ⟨us, ha, (dqAll_len hds).symm⟩, q _ _ .int⟩
    | str x => exact ⟨v, x.length, rfl, by rw [hv.str]; exact ⟨q.1, rfl⟩, q.2 _ _ .int⟩
    | none => exact q.elim
    | bool b => exact q.elim
    | int i => exact q.elim
    | dict kvs => exact q.elim
  · cases d with
    | list ds => exact hk _ q
    | tuple ds => exact hk _ q
    | str x => exact ⟨q.1, hk _ q.2⟩
    | none => exact q.elim
    | bool b => exact q.elim
    | int i => exact q.elim
    | dict kvs => exact q.elim
variable {e : Expr} {es : List Expr} {p pos : Pos}
/-- a built-in by its name -/
theorem je_cb {x : Str} {id : String} {ps : PL} {q : List R → PX} {r : List V → Hp → VK → Prop} (hc : CallR X (.builtin id) r) (hl : LC X.K q r) (hg : Gl X x) (hm : X.mg x = none) (hv : bootBuiltins x = some (.builtin id)) (ha : JA X B (e :: es) ps) (hn : x ≠ "__name__" := by decide) (hdb : (x == ("__debug__" : Str)) = false := by decide)
    (he : starEach (e :: es) X.env = (false, eval e X.env) :: starEach es X.env := by rfl) (hpl : (backTo pos (starEach es X.env)).any (·.1) = false := by rfl) : JE X B (.Call (.Name x p) (e :: es) [] pos) (pC q ps) :=
  PE_wk (pe_callB hc hg hm hv ha hn hdb he hpl) fun σ H Q h => lc_args hl h
theorem je_ct {x : Str} {T : String} {ps : PL} {q : List R → PX} {r : List V → Hp → VK → Prop} (hc : CallR X (.type T) r) (hl : LC X.K q r) (hg : Gl X x) (hm : X.mg x = none) (hv : bootBuiltins x = some (.type T)) (ha : JA X B (e :: es) ps) (hn : x ≠ "__name__" := by decide) (hdb : (x == ("__debug__" : Str)) = false := by decide)
    (he : starEach (e :: es) X.env = (false, eval e X.env) :: starEach es X.env := by rfl) (hpl : (backTo pos (starEach es X.env)).any (·.1) = false := by rfl) : JE X B (.Call (.Name x p) (e :: es) [] pos) (pC q ps) :=
  PE_wk (pe_callTy hc hg hm hv ha hn hdb he hpl) fun σ H Q h => lc_args hl h
def fMax2 : PyData → PyData → (PyData → Prop) → Prop
  | .int i, .int j, k => k (.int (if j > i then j else i))
  | _, _, _ => False
def fMin2 : PyData → PyData → (PyData → Prop) → Prop
  | .int i, .int j, k => k (.int (if j < i then j else i))
  | _, _, _ => False
theorem lc_max2 {K : PySem.W.Frag} : LC K (q2 fMax2) qMax2 := by
  refine lc_im2 (fun G H v u d e Q s hv hu q => ?_) (fun d e k k' hk q => ?_)
  · unfold fMax2 at q
    split at q
    · exact ⟨_, _, by rw [hv.int, hu.int], q _ _ .int⟩
    · exact q.elim
  · unfold fMax2 at q ⊢
    split at q
    · exact hk _ q
    · exact q.elim
theorem lc_min2 {K : PySem.W.Frag} : LC K (q2 fMin2) qMin2 := by
  refine lc_im2 (fun G H v u d e Q s hv hu q => ?_) (fun d e k k' hk q => ?_)
  · unfold fMin2 at q
    split at q
    · exact ⟨_, _, by rw [hv.int, hu.int], q _ _ .int⟩
    · exact q.elim
  · unfold fMin2 at q ⊢
    split at q
    · exact hk _ q
    · exact q.elim
def fInt1 : PyData → (PyData → Prop) → Prop
  | .int i, k => k (.int i)
  | .bool b, k => k (.int (if b then 1 else 0))
  | _, _ => False
theorem lc_int1 {K : PySem.W.Frag} : LC K (q1 fInt1) qInt1 := by
  refine lc_im1 (fun G H v d Q s hv q => ?_) (fun d k k' hk q => ?_)
  · unfold fInt1 at q
    split at q
    · exact .inl ⟨_, by rw [hv.int], q _ _ .int⟩
    · exact .inr ⟨_, by rw [hv.bool], q _ _ .int⟩
    · exact q.elim
  · unfold fInt1 at q ⊢
    split at q
    · exact hk _ q
    · exact hk _ q
    · exact q.elim
def fListOf : PyData → (List PyData → Prop) → Prop
  | .list ds, k => k ds
  | .tuple ds, k => k ds
  | _, _ => False
theorem lc_listOf {K : PySem.W.Frag} : LC K (q1L fListOf) (qListOf K) := by
  refine lc_own1 (fun G H v d Q s hv q => ?_) (fun d k k' hk q => ?_)
  · unfold fListOf at q
    split at q
    · obtain ⟨a, us, rfl, ha, hds⟩ := hv.seqL s
      exact ⟨a, us, rfl, .inl (SqL.of ha), fun l hl => q us l hds hl⟩
    · obtain ⟨a, us, rfl, ha, hds, _⟩ := hv.seqT s
      exact ⟨a, us, rfl, .inr ha, fun l hl => q us l hds hl⟩
    · exact q.elim
  · unfold fListOf at q ⊢
    split at q
    · exact hk _ q
    · exact hk _ q
    · exact q.elim
def fTupleOf : PyData → (PyData → Prop) → Prop
  | .list ds, k => k (.tuple ds)
  | .tuple ds, k => k (.tuple ds)
  | _, _ => False
theorem lc_tupleOf {K : PySem.W.Frag} : LC K (q1 fTupleOf) (qTupleOf K) := by
  refine lc_im1 (fun G H v d Q s hv q => ?_) (fun d k k' hk q => ?_)
  · unfold fTupleOf at q
    split at q
    · obtain ⟨a, us, rfl, ha, hds⟩ := hv.seqL s
      exact ⟨a, us, rfl, .inl ⟨SqL.of ha, fun l hl => q _ _ (.inr ⟨l, us, _, rfl, hl, rfl, hds, rfl⟩)⟩⟩
    · obtain ⟨a, us, rfl, ha, hds, e1⟩ := hv.seqT s
      exact ⟨a, us, rfl, .inr ⟨ha, q _ _ (.old e1)⟩⟩
    · exact q.elim
  · unfold fTupleOf at q ⊢
    split at q
    · exact hk _ q
    · exact hk _ q
    · exact q.elim
theorem dqAll_ints {K : PySem.W.Frag} {G : Hp} : ∀ {us : List V} {ns : List Int}, DqAll K G us (ns.map .int) → us = ns.map V.int
  | _, [], h => by cases h; rfl
  | _, n :: ns, h => by
    cases h with
    | cons h1 h2 =>
      cases h1
      rw [dqAll_ints h2]
      rfl
/-! ### isinstance(e, T) -/
def tyD : PyData → String
  | .none => "NoneType" | .bool _ => "bool" | .int _ => "int" | .str _ => "str" | .tuple _ => "tuple" | .list _ => "list" | .dict _ => "dict"
def isT (a T : String) : Bool := a == T || (a == "bool" && T == "int")
def isD (T : String) (d : PyData) : Bool := isT (tyD d) T
theorem dp_ty {K : PySem.W.Frag} {H : Hp} {d : PyData} {v : V} (h : Dp K H v d) (hl : ∀ ds, d = .list ds → ∃ a us, v = .ref a ∧ H a = some (.lst us)) : TyX K H v (.type (tyD d)) := by
  cases h with
  | non => exact .base .non
  | bl b => exact .base (.bl b)
  | int i => exact .base (.int i)
  | str x => exact .base (.str x)
  | lst hs ha =>
    obtain ⟨a, us, e, h⟩ := hl _ rfl
    cases e
    exact .base (.lst h)
  | tup hs ha =>
    rcases hs with (h | ⟨o, h⟩) | ⟨o, its, m, hk, hc, _⟩
    · exact .base (.tup h)
    · exact .fTuple h
    · exact .kTuple hk hc
def TyOk (T : String) : Prop := T = "bool" ∨ T = "int" ∨ T = "str" ∨ T = "tuple" ∨ T = "list"
theorem kit_is {T : String} (hT : TyOk T) (d : PyData) (hd : ∀ kvs, d ≠ .dict kvs) : kitB (tyD d) T = some (isD T d) := by
  cases d with
  | none => rcases hT with rfl | rfl | rfl | rfl | rfl <;> (show kitB "NoneType" _ = some (isT "NoneType" _)) <;> decide +kernel
  | bool b => rcases hT with rfl | rfl | rfl | rfl | rfl <;> (show kitB "bool" _ = some (isT "bool" _)) <;> decide +kernel
  | int b => rcases hT with rfl | rfl | rfl | rfl | rfl <;> (show kitB "int" _ = some (isT "int" _)) <;> decide +kernel
  | str b => rcases hT with rfl | rfl | rfl | rfl | rfl <;> (show kitB "str" _ = some (isT "str" _)) <;> decide +kernel
  | tuple b => rcases hT with rfl | rfl | rfl | rfl | rfl <;> (show kitB "tuple" _ = some (isT "tuple" _)) <;> decide +kernel
  | list b => rcases hT with rfl | rfl | rfl | rfl | rfl <;> (show kitB "list" _ = some (isT "list" _)) <;> decide +kernel
  | dict b => exact absurd rfl (hd b)
end
end Pv
namespace Pv
open PySem PySem.Spec L2 Wf
variable {B : Bas}
/-- a new thing beside, that never changes -/
theorem Rep.lay {K : PySem.W.Frag} {G H : Hp} {σ : St} {δ : List Sl} {vs : List V} {rs : List R} {w : Addr → Option Nat} (r : Rep K B G H σ δ vs rs w) {p : Addr} {o : HO} (hp : H p = none) (hn : NT o := by exact nofun) :
    Stp B.T G H w δ (upd G p o) (upd H p o) w δ ∧ Rep K B (upd G p o) (upd H p o) σ δ vs rs w := by
  have gp : G p = none := by
    cases e : G p with
    | none => rfl
    | some u => rw [r.sub p u e] at hp; cases hp
  have sg : Same G (upd G p o) := same_new gp
  have kp : ∀ a u, H a = some u → upd H p o a = some u := fun a u ha => by rw [upd_ne (ne_of_none ha hp)]; exact ha
  have st : Stp B.T G H w δ (upd G p o) (upd H p o) w δ := by
    refine .of ⟨sg, fun a u _ ha => kp a u ha, fun a i h => .inl (by rw [h]; exact Option.some_ne_none _), fun a u ha => ?_, .refl _⟩ (tabs_new hp) (q_new hn)
    by_cases e : a = p
    · subst e; exact .inr (.inl hp)
    · rw [upd_ne e] at ha; exact .inl ha
  refine ⟨st, fun a u ha => ?_, fun a i h => ?_, r.len, fun i s h => ?_, r.tlen, fun j v q hv hq => ?_, st.bs r.bs⟩
  · by_cases e : a = p
    · subst e; rw [upd_same] at ha ⊢; exact ha
    · rw [upd_ne e] at ha ⊢; exact r.sub a u ha
  · have ho := r.out a i h
    have hne : a ≠ p := fun z => ho.2.1 (by rw [z]; exact hp)
    rw [upd_ne hne, upd_ne hne]
    exact ⟨ho.1, ho.2.1, noT_upd hne ho.2.2⟩
  · exact (r.sl i s h).mono sg (fun a u _ hu => kp a u hu) fun a u ma _ => ma
  · exact (r.tm j v q hv hq).mono sg (fun a u _ hu => kp a u hu) fun a u ma _ => ma
section
variable {X : Cx} {a b e : Expr} {es : List Expr} {p pos p2 : Pos} {pa pb : PX}
/-! ### isinstance -/
def pIsi (T : String) (p : PX) : PX := fun δ Q => p δ fun r δ1 => ∃ d, dat δ1 r = some d ∧ Q (.im (.bool (isD T d))) δ1
theorem dq_nodict {K : PySem.W.Frag} {G H : Hp} {v : V} {d : PyData} (h : Vw K G H v d) : ∀ kvs, d ≠ .dict kvs := by
  intro kvs z
  subst z
  rcases h with h | ⟨_, _, _, _, _, _, z⟩
  · cases h
  · cases z
theorem vw_ty {K : PySem.W.Frag} {G H : Hp} {v : V} {d : PyData} (s : Same G H) (h : Vw K G H v d) : TyX K H v (.type (tyD d)) :=
  dp_ty (h.dp s) fun ds z => by
    subst z
    obtain ⟨a, us, e, ha, _⟩ := h.seqL s
    exact ⟨a, us, e, ha⟩
theorem je_isi {T : String} {x : Str} {pt : Pos} (hT : TyOk T) (hg : Gl X "isinstance") (hm : X.mg "isinstance" = none) (ht : PE X (.Name x pt) (tC (.ty T))) (ha : JE X B e pa) (he : starEach [e, .Name x pt] X.env = (false, eval e X.env) :: starEach [.Name x pt] X.env := by rfl) (he2 : starEach [.Name x pt] X.env = (false, eval (.Name x pt) X.env) :: starEach [] X.env := by rfl) (hpl : (backTo pos (starEach [.Name x pt] X.env)).any (·.1) = false := by rfl) :
    JE X B (.Call (.Name "isinstance" p) [e, .Name x pt] [] pos) (pIsi T pa) := by
  refine PE_wk (pe_callB call_isi hg hm (by decide +kernel) (pa_cons ha (pa_cons ht pa_nil he2) he) (by decide) (by decide) he hpl) fun σ H Q ⟨G, w, δ, Qp, rep, q, k⟩ => ?_
  refine ⟨G, w, δ, _, rep, q, fun r δ1 v H1 G1 w1 q1 s1 rep1 => ?_⟩
  obtain ⟨d, hd, q1⟩ := q1
  have hv := rep1.dat (j := 0) rfl rfl hd
  exact ⟨v, .ty T, _, _, _, rfl, .ty T, vw_ty rep1.sub hv, kit_ty (kit_is hT d (dq_nodict hv)), k _ δ1 _ H1 G1 _ q1 (s1.trans .drop) (rep1.ret (.bl _))⟩
/-! ### is -/
theorem is_bool_gen {M : Model} {A : Around} {Q : Value → Shared → Prop} {E : Value → Shared → Prop} {s : Shared} {v : Value} {t : Bool} (hb : ∀ id, v ≠ .builtin id) (h : Q (.bool (v == .bool t)) s) : wpAny M A (compareOp .Is v (.bool t)) Q E s := by
  cases v <;> first | exact absurd rfl (hb _) | exact wpAny_pure h
theorem isnot_bool_gen {M : Model} {A : Around} {Q : Value → Shared → Prop} {E : Value → Shared → Prop} {s : Shared} {v : Value} {t : Bool} (hb : ∀ id, v ≠ .builtin id) (h : Q (.bool (!(v == .bool t))) s) : wpAny M A (compareOp .IsNot v (.bool t)) Q E s := by
  cases v <;> first | exact absurd rfl (hb _) | exact wpAny_pure h
theorem rel_nob {x : V} {v : Value} (r : RelV x v) : ∀ id, v ≠ .builtin id := by
  intro id
  cases x with
  | bl c => cases r; exact fun z => nomatch z
  | non => cases r; exact fun z => nomatch z
  | int _ => obtain ⟨t, rfl⟩ := r; exact fun z => nomatch z
  | str _ => obtain ⟨t, rfl⟩ := r; exact fun z => nomatch z
  | byt _ => obtain ⟨t, rfl⟩ := r; exact fun z => nomatch z
  | flt _ => obtain ⟨t, rfl⟩ := r; exact fun z => nomatch z
  | ref _ => cases r; exact fun z => nomatch z
  | ty _ => cases r; exact fun z => nomatch z
theorem rel_bool {x : V} {v : Value} {t : Bool} (r : RelV x v) : (v == Value.bool t) = decide (x = .bl t) := by
  cases x with
  | bl c => cases r; cases c <;> cases t <;> rfl
  | non => cases r; rfl
  | int _ => obtain ⟨t, rfl⟩ := r; rfl
  | str _ => obtain ⟨t, rfl⟩ := r; rfl
  | byt _ => obtain ⟨t, rfl⟩ := r; rfl
  | flt _ => obtain ⟨t, rfl⟩ := r; rfl
  | ref _ => cases r; rfl
  | ty _ => cases r; rfl
def rIsC : R2 := fun x y H Q => (y = .non ∧ Q (.bl (decide (x = .non))) H) ∨ ∃ t, y = .bl t ∧ Q (.bl (decide (x = .bl t))) H
def rNotC : R2 := fun x y H Q => (y = .non ∧ Q (.bl (!decide (x = .non))) H) ∨ ∃ t, y = .bl t ∧ Q (.bl (!decide (x = .bl t))) H
theorem op_isC : OpR X (compareOp .Is) rIsC := by
  refine op_or op_isN1 ?_
  intro pins s σ H x y v u Q I rx ry h
  obtain ⟨t, rfl, q⟩ := h
  cases (show u = Value.bool t from ry)
  exact is_bool_gen (rel_nob rx) ⟨.bl _, H, I, by rw [rel_bool rx]; rfl, q⟩
theorem op_notC : OpR X (compareOp .IsNot) rNotC := by
  refine op_or op_notN1 ?_
  intro pins s σ H x y v u Q I rx ry h
  obtain ⟨t, rfl, q⟩ := h
  cases (show u = Value.bool t from ry)
  exact isnot_bool_gen (rel_nob rx) ⟨.bl _, H, I, by rw [rel_bool rx]; rfl, q⟩
def isC : PyData → PyData → Bool
  | .none, .none => true
  | .bool a, .bool b => a == b
  | _, _ => false
def fIs (neg : Bool) : PyData → PyData → (PyData → Prop) → Prop
  | d, .none, k => k (.bool (if neg then !isC d .none else isC d .none))
  | d, .bool t, k => k (.bool (if neg then !isC d (.bool t) else isC d (.bool t)))
  | _, _, _ => False
theorem vw_non {K : PySem.W.Frag} {G H : Hp} {v : V} {d : PyData} (h : Vw K G H v d) : decide (v = .non) = isC d .none := by
  rcases h with h | ⟨a, us, ds, rfl, _, _, rfl⟩
  · cases h <;> rfl
  · rfl
theorem vw_bl {K : PySem.W.Frag} {G H : Hp} {v : V} {d : PyData} {t : Bool} (h : Vw K G H v d) : decide (v = .bl t) = isC d (.bool t) := by
  rcases h with h | ⟨a, us, ds, rfl, _, _, rfl⟩
  · cases h with
    | bl b => cases b <;> cases t <;> rfl
    | _ => rfl
  · rfl
theorem fIs_mono {neg : Bool} : ∀ d e (k k' : PyData → Prop), (∀ e, k e → k' e) → fIs neg d e k → fIs neg d e k' := by
  intro d e k k' hk q
  unfold fIs at q ⊢
  split at q
  · exact hk _ q
  · exact hk _ q
  · exact q.elim
theorem vw_none {K : PySem.W.Frag} {G H : Hp} {v : V} (h : Vw K G H v .none) : v = .non := by
  rcases h with h | ⟨a, us, ds, rfl, _, _, z⟩
  · cases h; rfl
  · cases z
theorem lc_is {K : PySem.W.Frag} : LC K (q2 (fIs false)) (ap2 rIsC) := by
  refine lc_im2 (fun G H v u d e Q s hv hu q => ?_) fIs_mono
  unfold fIs at q
  split at q
  · exact .inl ⟨vw_none hu, by rw [vw_non hv]; exact q _ _ .bool⟩
  · exact .inr ⟨_, hu.bool, by rw [vw_bl hv]; exact q _ _ .bool⟩
  · exact q.elim
theorem lc_isnot {K : PySem.W.Frag} : LC K (q2 (fIs true)) (ap2 rNotC) := by
  refine lc_im2 (fun G H v u d e Q s hv hu q => ?_) fIs_mono
  unfold fIs at q
  split at q
  · exact .inl ⟨vw_none hu, by rw [vw_non hv]; exact q _ _ .bool⟩
  · exact .inr ⟨_, hu.bool, by rw [vw_bl hv]; exact q _ _ .bool⟩
  · exact q.elim
def pIs (neg : Bool) (pa pb : PX) : PX := pC (q2 (fIs neg)) (pCons pa (pCons pb pNil))
theorem jb_is (ha : JE X B a pa) (hb : JE X B b pb) : JB X B (.Compare a [.Is] [b] pos) (pT (pIs false pa pb)) := jb_cmp op_isC lc_is ha hb (nomark _)
theorem jb_isnot (ha : JE X B a pa) (hb : JE X B b pb) : JB X B (.Compare a [.IsNot] [b] pos) (pT (pIs true pa pb)) := jb_cmp op_notC lc_isnot ha hb (nomark _)
/-! ### a < b < c -/
def pChain (q q' : List R → PX) (pa pb pc : PX) : PX := fun δ Q => pa δ fun ra δ1 => pb δ1 fun rb δ2 => ∃ y, rb = .im y ∧ q [ra, .im y] δ2 fun r δ3 => ∃ t, dat δ3 r = some (.bool t) ∧
  if t = true then pc δ3 fun rc δ4 => q' [.im y, rc] δ4 Q else Q (.im (.bool false)) δ3
theorem je_chain {c : Expr} {op op' : CmpOp} {pc : PX} {q q' : List R → PX} {r r' : R2} (ho : OpR X (compareOp op) r) (ho' : OpR X (compareOp op') r') (hl : LC X.K q (ap2 r)) (hl' : LC X.K q' (ap2 r')) (ha : JE X B a pa) (hb : JE X B b pb) (hc : JE X B c pc) (hm : lastMarks [op, op'] [b, c] = false := by rfl) :
    JE X B (.Compare a [op, op'] [b, c] pos) (pChain q q' pa pb pc) := by
  refine PE_wk (pe_chain ho ho' ha hb hc hm) fun σ H Q ⟨G, w, δ, Qp, rep, h, k⟩ => ?_
  refine ⟨G, w, δ, _, rep, h, fun ra δ1 x H1 G1 w1 q1 s1 rep1 => ?_⟩
  refine ⟨G1, _, δ1, _, rep1.drop, q1, fun rb δ2 y H2 G2 w2 q2 s2 rep2 => ?_⟩
  obtain ⟨w3, s3, rep3⟩ := rep1.frame s2 rep2
  obtain ⟨dy, rfl, q2⟩ := q2
  have hy : Dq X.K G2 y dy := rep2.tm 0 y (.im dy) rfl rfl
  refine hl G2 H2 σ δ2 [x, y] [ra, .im dy] w3 _ _ rep3 q2 fun r δ3 z H3 G3 w4 q3 s4 rep4 => ?_
  obtain ⟨t, ht, q3⟩ := q3
  refine ⟨t, dp_bool (rep4.dpH (j := 0) rfl rfl ht), ?_⟩
  have s5 := (s1.trans s3).trans s4
  cases t with
  | false => exact k _ δ3 _ H3 G3 _ q3 (s5.trans .drop) (rep4.ret (.bl false))
  | true =>
    have r5 := rep4.ret (dp_mono s4.g _ _ hy)
    refine ⟨G3, _, δ3, _, r5.drop, q3, fun rc δ4 v H4 G4 w5 q4 s6 rep6 => ?_⟩
    obtain ⟨w6, s7, rep7⟩ := r5.frame s6 rep6
    exact hl' G4 H4 σ δ4 [y, v] [.im dy, rc] w6 Qp Q rep7 q4 fun r δ' u H' G' w' hq hs hr => k r δ' u H' G' w' hq (((s5.trans .drop).trans s7).trans hs) hr
theorem jb_chain {c : Expr} {op op' : CmpOp} {pc : PX} {q q' : List R → PX} {r r' : R2} (ho : OpR X (compareOp op) r) (ho' : OpR X (compareOp op') r') (hl : LC X.K q (ap2 r)) (hl' : LC X.K q' (ap2 r')) (ha : JE X B a pa) (hb : JE X B b pb) (hc : JE X B c pc) (hm : lastMarks [op, op'] [b, c] = false := by rfl) :
    JB X B (.Compare a [op, op'] [b, c] pos) (pT (pChain q q' pa pb pc)) := by
  refine PT_wk (pt_chain ho ho' ha hb hc hm) fun σ H Q ⟨G, w, δ, Qp, rep, h, k⟩ => ?_
  refine ⟨G, w, δ, _, rep, h, fun ra δ1 x H1 G1 w1 q1 s1 rep1 => ?_⟩
  refine ⟨G1, _, δ1, _, rep1.drop, q1, fun rb δ2 y H2 G2 w2 q2 s2 rep2 => ?_⟩
  obtain ⟨w3, s3, rep3⟩ := rep1.frame s2 rep2
  obtain ⟨dy, rfl, q2⟩ := q2
  have hy : Dq X.K G2 y dy := rep2.tm 0 y (.im dy) rfl rfl
  refine hl G2 H2 σ δ2 [x, y] [ra, .im dy] w3 _ _ rep3 q2 fun r δ3 z H3 G3 w4 q3 s4 rep4 => ?_
  obtain ⟨t, ht, q3⟩ := q3
  refine ⟨t, dp_bool (rep4.dpH (j := 0) rfl rfl ht), ?_⟩
  have s5 := (s1.trans s3).trans s4
  cases t with
  | false =>
    obtain ⟨b, hb, q3⟩ := q3
    exact ⟨b, by cases hb; rfl, k b δ3 H3 G3 _ q3 (s5.trans .drop) rep4.drop⟩
  | true =>
    have r5 := rep4.ret (dp_mono s4.g _ _ hy)
    refine ⟨G3, _, δ3, _, r5.drop, q3, fun rc δ4 v H4 G4 w5 q4 s6 rep6 => ?_⟩
    obtain ⟨w6, s7, rep7⟩ := r5.frame s6 rep6
    refine hl' G4 H4 σ δ4 [y, v] [.im dy, rc] w6 _ _ rep7 q4 fun r δ' u H' G' w' hq hs hr => ?_
    obtain ⟨b, hb, hq⟩ := hq
    exact ⟨b, dp_bool (hr.dpH (j := 0) rfl rfl hb), k b δ' H' G' _ hq ((((s5.trans .drop).trans s7).trans hs).trans .drop) hr.drop⟩
abbrev qLtD := qD (fI2 T2 fun a b => .bool (decide (a < b)))
abbrev qLeD := qD (fI2 T2 fun a b => .bool (decide (a ≤ b)))
theorem lc_lt {K : PySem.W.Frag} : LC K qLtD (ap2 qLt) := lc_I0 fun a b G => .bl _
theorem lc_le {K : PySem.W.Frag} : LC K qLeD (ap2 qLe) := lc_I0 fun a b G => .bl _
/-! ### slices -/
def POx := List Sl → (Option Int → List Sl → Prop) → Prop
def oNone : POx := fun δ Q => Q none δ
def oSome (p : PX) : POx := fun δ Q => p δ fun r δ1 => ∃ i, dat δ1 r = some (.int i) ∧ Q (some i) δ1
def LO (K : PySem.W.Frag) (B : Bas) (p : POx) : TO := fun σ H Q => ∃ G w δ Qp, Rep K B G H σ δ [] [] w ∧ p δ Qp ∧ ∀ b δ' H' G' w', Qp b δ' → Stp B.T G H w δ G' H' w' δ' → Rep K B G' H' σ δ' [] [] w' → Q b H'
def JO (X : Cx) (B : Bas) (e : Option Expr) (p : POx) : Prop := PO X e (LO X.K B p)
theorem PO_wk {e : Option Expr} {t t' : TO} (h : PO X e t) (k : ∀ σ H Q, t' σ H Q → t σ H Q) : PO X e t' := ⟨fun pins s σ H Q I q => h.run pins s σ H Q I (k σ H Q q)⟩
theorem jo_none : JO X B none oNone := PO_wk po_none fun σ H Q ⟨G, w, δ, Qp, rep, q, k⟩ => k none δ H G w q .refl rep
theorem dp_int {K : PySem.W.Frag} {H : Hp} {v : V} {i : Int} (h : Dp K H v (.int i)) : v = .int i := by cases h; rfl
theorem jo_some (ha : JE X B a pa) : JO X B (some a) (oSome pa) := PO_wk (po_some ha) fun σ H Q ⟨G, w, δ, Qp, rep, q, k⟩ => ⟨G, w, δ, _, rep, q, fun r δ1 v H1 G1 w1 q1 s1 rep1 => by
  obtain ⟨i, hi, q1⟩ := q1
  exact ⟨i, dp_int (rep1.dpH (j := 0) rfl rfl hi), k _ δ1 H1 G1 _ q1 (s1.trans .drop) rep1.drop⟩⟩
def cutD {α : Type} (xs : List α) (lo hi : Option Int) : List α := (xs.drop (HT.sIx xs.length 0 lo)).take (HT.sIx xs.length xs.length hi - HT.sIx xs.length 0 lo)
theorem dqAll_drop {K : PySem.W.Frag} {G : Hp} : ∀ (n : Nat) {us : List V} {ds : List PyData}, DqAll K G us ds → DqAll K G (us.drop n) (ds.drop n)
  | 0, _, _, h => h
  | _ + 1, _, _, .nil => .nil
  | n + 1, _, _, .cons _ h => dqAll_drop n h
theorem dqAll_take {K : PySem.W.Frag} {G : Hp} : ∀ (n : Nat) {us : List V} {ds : List PyData}, DqAll K G us ds → DqAll K G (us.take n) (ds.take n)
  | 0, _, _, _ => .nil
  | _ + 1, _, _, .nil => .nil
  | n + 1, _, _, .cons h1 h => .cons h1 (dqAll_take n h)
theorem dqAll_cut {K : PySem.W.Frag} {G : Hp} {us : List V} {ds : List PyData} {lo hi : Option Int} (h : DqAll K G us ds) : DqAll K G (cutV us lo hi) (cutD ds lo hi) := by
  unfold cutV cutD
  rw [dqAll_len h]
  exact dqAll_take _ (dqAll_drop _ h)
def pSlice (pa : PX) (lo hi : POx) : PX := fun δ Q => pa δ fun ra δ1 => lo δ1 fun l δ2 => hi δ2 fun u δ3 => match dat δ3 ra with
  | some (.tuple ds) => Q (.im (.tuple (cutD ds l u))) δ3
  | some (.list ds) => Q (.ow (.lst (cutD ds l u))) δ3
  | _ => False
def rSlU (K : PySem.W.Frag) : V → Option Int → Option Int → Hp → VK → Prop := fun x lo hi H Q => rSlA K x lo hi H Q ∨ rSlL K x lo hi H Q
theorem sl_u : L2.SlR X (rSlU X.K) := by
  intro pins s σ H x v vl vu lo hi sl Q I rx hs pl pu h
  rcases h with h | h
  · exact sl_tupA pins s σ H x v vl vu lo hi sl Q I rx hs pl pu h
  · exact sl_list pins s σ H x v vl vu lo hi sl Q I rx hs pl pu h
theorem cut_whole {α : Type} {xs : List α} {lo hi : Option Int} (h : HT.sIx xs.length 0 lo = 0 ∧ HT.sIx xs.length xs.length hi = xs.length) : cutD xs lo hi = xs := by
  unfold cutD
  rw [h.1, h.2, Nat.sub_zero, List.drop_zero, List.take_length]
theorem je_slice {lo hi : Option Expr} {pl ph : POx} (ha : JE X B a pa) (hl : JO X B lo pl) (hh : JO X B hi ph) : JE X B (.Subscript a (.Slice lo hi none p2) pos) (pSlice pa pl ph) := by
  refine PE_wk (pe_slice sl_u ha hl hh) fun σ H Q ⟨G, w, δ, Qp, rep, h, k⟩ => ?_
  refine ⟨G, w, δ, _, rep, h, fun ra δ1 x H1 G1 w1 q1 s1 rep1 => ?_⟩
  refine ⟨G1, _, δ1, _, rep1.drop, q1, fun l δ2 H2 G2 w2 q2 s2 rep2 => ?_⟩
  obtain ⟨w3, s3, rep3⟩ := rep1.frame s2 rep2
  refine ⟨G2, _, δ2, _, rep3.drop, q2, fun u δ3 H3 G3 w4 q3 s4 rep4 => ?_⟩
  obtain ⟨w5, s5, rep5⟩ := rep3.frame s4 rep4
  have s6 := (s1.trans s3).trans s5
  revert q3
  split
  · rename_i ds e
    intro q3
    obtain ⟨p1, u1, rfl, t1, d1, e1⟩ := Vw.seqT rep5.sub (rep5.dat (j := 0) rfl rfl e)
    refine .inl ⟨p1, u1, rfl, t1, fun hw => ?_, fun hw p hp => ?_⟩
    · rw [dqAll_len d1] at hw
      rw [cut_whole hw] at q3
      exact k _ δ3 _ H3 G3 _ q3 (s6.trans .drop) (rep5.ret e1)
    · obtain ⟨s7, r7⟩ := rep5.retNew hp (dq_newTup rep5.sub hp (dqAll_cut (lo := l) (hi := u) d1))
      exact k _ δ3 _ _ _ _ q3 (s6.trans s7) r7
  · rename_i ds e
    intro q3
    obtain ⟨p1, u1, rfl, t1, d1⟩ := Vw.seqL rep5.sub (rep5.dat (j := 0) rfl rfl e)
    refine .inr ⟨p1, u1, rfl, SqL.of t1, fun p hp => ?_⟩
    obtain ⟨w7, s7, r7⟩ := rep5.retLst hp (dqAll_cut (lo := l) (hi := u) d1)
    exact k _ δ3 _ _ _ _ q3 (s6.trans s7) r7
  · intro q3; exact q3.elim
/-! ### in, not in: lists of data -/
/-! ### list(range(..)), tuple(range(..)) -/
def rgD (a b : Int) : List PyData := (List.range (b - a).toNat).map fun (i : Nat) => PyData.int (a + (i : Nat))
theorem dq_rg {K : PySem.W.Frag} {G : Hp} (a b : Int) : DqAll K G (rgV a b) (rgD a b) := by
  unfold rgV rgD
  induction (List.range (b - a).toNat) with
  | nil => exact .nil
  | cons n ns ih => exact .cons (.int _) ih
def PRx := List Sl → (Int → Int → List Sl → Prop) → Prop
def pRg1 (p : PX) : PRx := fun δ Q => p δ fun r δ1 => ∃ n, dat δ1 r = some (.int n) ∧ Q 0 n δ1
def pLstRg (p : PRx) : PX := fun δ Q => p δ fun a b δ1 => RgOk a b ∧ Q (.ow (.lst (rgD a b))) δ1
def pTupRg (p : PRx) : PX := fun δ Q => p δ fun a b δ1 => RgOk a b ∧ Q (.im (.tuple (rgD a b))) δ1
def LR (K : PySem.W.Frag) (B : Bas) (p : PRx) : St → Hp → (Int → Int → Hp → Prop) → Prop := fun σ H Q => ∃ G w δ Qp, Rep K B G H σ δ [] [] w ∧ p δ Qp ∧ ∀ a b δ' H' G' w', Qp a b δ' → Stp B.T G H w δ G' H' w' δ' → Rep K B G' H' σ δ' [] [] w' → Q a b H'
def JR (X : Cx) (B : Bas) (e : Expr) (p : PRx) : Prop := PRg X e (LR X.K B p)
theorem PRg_wk {e : Expr} {t t' : St → Hp → (Int → Int → Hp → Prop) → Prop} (h : PRg X e t) (k : ∀ σ H Q, t' σ H Q → t σ H Q) : PRg X e t' := fun pins s σ H Q I q => h pins s σ H Q I (k σ H Q q)
theorem jr_1 (hg : Gl X "range") (hm : X.mg "range" = none) (ha : JE X B a pa) (na : starEach [a] X.env = (false, eval a X.env) :: starEach [] X.env := by rfl) : JR X B (.Call (.Name "range" p) [a] [] pos) (pRg1 pa) :=
  PRg_wk (prg_1 hg hm ha na) fun σ H Q ⟨G, w, δ, Qp, rep, q, k⟩ => ⟨G, w, δ, _, rep, q, fun r δ1 v H1 G1 w1 q1 s1 rep1 => by
    obtain ⟨i, hi, q1⟩ := q1
    exact ⟨i, dp_int (rep1.dpH (j := 0) rfl rfl hi), k _ _ δ1 H1 G1 _ q1 (s1.trans .drop) rep1.drop⟩⟩
theorem je_lstRg {pr : PRx} (hc : X.calm = true) (hg : Gl X "list") (hm : X.mg "list" = none) (he : JR X B e pr) (na : starEach [e] X.env = (false, eval e X.env) :: starEach [] X.env := by rfl) : JE X B (.Call (.Name "list" p) [e] [] pos) (pLstRg pr) :=
  PE_wk (pe_listRg hc hg hm he na) fun σ H Q ⟨G, w, δ, Qp, rep, q, k⟩ => ⟨G, w, δ, _, rep, q, fun i j δ1 H1 G1 w1 q1 s1 rep1 => ⟨q1.1, fun p hp => by
    obtain ⟨w7, s7, r7⟩ := rep1.retLst hp (dq_rg i j)
    exact k _ δ1 _ _ _ _ q1.2 (s1.trans s7) r7⟩⟩
theorem je_tupRg {pr : PRx} (hc : X.calm = true) (hg : Gl X "tuple") (hm : X.mg "tuple" = none) (he : JR X B e pr) (na : starEach [e] X.env = (false, eval e X.env) :: starEach [] X.env := by rfl) : JE X B (.Call (.Name "tuple" p) [e] [] pos) (pTupRg pr) :=
  PE_wk (pe_tupRg hc hg hm he na) fun σ H Q ⟨G, w, δ, Qp, rep, q, k⟩ => ⟨G, w, δ, _, rep, q, fun i j δ1 H1 G1 w1 q1 s1 rep1 => ⟨q1.1, fun p hp => by
    obtain ⟨s7, r7⟩ := rep1.retNew hp (dq_newTup rep1.sub hp (dq_rg i j))
    exact k _ δ1 _ _ _ _ q1.2 (s1.trans s7) r7⟩⟩
end
end Pv
namespace Pv
open PySem PySem.Spec L2 Wf
variable {B : Bas}
/-! ### storing -/
def slOf : R → Sl
  | .im d => .im d
  | .ow o => .ow false o
  | .at _ => .un
def isAt : R → Bool
  | .at _ => true
  | _ => false
/-- what a slot holds, as data for good -/
def rz (δ : List Sl) : R → Option (R × List Sl)
  | .at i => match δ[i]? with
    | some (.im d) => some (.im d, δ)
    | some (.ow false (.lst ds)) => some (.im (.list ds), δ.set i (.im (.list ds)))
    | some (.ow _ (.ptl ds)) => some (.ow (.ptl ds), δ)
    | _ => none
  | r => some (r, δ)
def rzAll : List Sl → List R → Option (List R × List Sl)
  | δ, [] => some ([], δ)
  | δ, r :: rs => match rz δ r with
    | none => none
    | some (q, δ1) => match rzAll δ1 rs with
      | none => none
      | some (qs, δ2) => some (q :: qs, δ2)
/-- slot i gets r -/
def setS (i : Nat) (r : R) (δ : List Sl) (Q : List Sl → Prop) : Prop := match δ[i]? with
  | none => False
  | some (.ow true _) => False
  | some _ => Q (δ.set i (slOf r))
def setAll : List Nat → List R → List Sl → (List Sl → Prop) → Prop
  | [], [], δ, Q => Q δ
  | i :: is, r :: rs, δ, Q => setS i r δ fun δ' => setAll is rs δ' Q
  | _, _, _, _ => False
def Pin (σ : St) (δ : List Sl) (σ' : St) : Prop := ∀ (i : Nat) (o : O), δ[i]? = some (Sl.ow true o) → σ'[i]? = σ[i]?
theorem Pin.refl {σ : St} {δ : List Sl} : Pin σ δ σ := fun _ _ _ => rfl
theorem Pin.trans {σ σ1 σ2 : St} {δ δ1 : List Sl} (a : Pin σ δ σ1) (n : Pn δ δ1) (b : Pin σ1 δ1 σ2) : Pin σ δ σ2 := fun i o h => by
  obtain ⟨o', h'⟩ := n i o h
  exact (b i o' h').trans (a i o h)
section
variable {K : PySem.W.Frag} {G H : Hp} {σ : St} {δ : List Sl} {vs : List V} {rs : List R} {w : Addr → Option Nat}
theorem Rep.rz1 (r : Rep K B G H σ δ vs rs w) {j : Nat} {q q' : R} {δ' : List Sl} (hq : rs[j]? = some q) (h : rz δ q = some (q', δ')) :
    ∃ G' w', Stp B.T G H w δ G' H w' δ' ∧ Rep K B G' H σ δ' vs (rs.set j q') w' := by
  have hj : j < rs.length := (List.getElem?_eq_some_iff.mp hq).1
  have hjv : j < vs.length := by rw [r.tlen]; exact hj
  have same : rs.set j q = rs := by
    apply List.ext_getElem?
    intro k
    by_cases e : j = k
    · subst e; rw [List.getElem?_set_self hj]; exact hq.symm
    · rw [List.getElem?_set_ne e]
  cases q with
  | im d => cases h; exact ⟨G, w, .refl, by rw [same]; exact r⟩
  | ow o => cases h; exact ⟨G, w, .refl, by rw [same]; exact r⟩
  | «at» i =>
    simp only [rz] at h
    revert h
    split
    · rename_i d e
      intro h
      cases h
      exact r.fz1 (List.getElem?_eq_getElem hjv) hq (by simp only [fz, e])
    · rename_i ds e
      intro h
      cases h
      exact r.fz1 (List.getElem?_eq_getElem hjv) hq (by simp only [fz, e])
    · rename_i b ds e
      intro h
      cases h
      obtain ⟨u, hu, hd⟩ := r.sl i _ e
      have t' : σ[i]? = some (some vs[j]) := r.tm j _ _ (List.getElem?_eq_getElem hjv) hq
      rw [t'] at hu
      cases hu
      refine ⟨G, w, .refl, r.sub, r.out, r.len, r.sl, by rw [List.length_set]; exact r.tlen, fun k x p hx hp => ?_, r.bs⟩
      by_cases ek : j = k
      · subst ek
        rw [List.getElem?_set_self hj] at hp
        cases hp
        rw [List.getElem?_eq_getElem hjv] at hx
        cases hx
        exact hd
      · rw [List.getElem?_set_ne ek] at hp
        exact r.tm k x p hx hp
    · intro h; cases h
theorem Rep.rzGo : ∀ (rs2 : List R) (rs1 : List R) {G : Hp} {δ δ' : List Sl} {w : Addr → Option Nat} {qs : List R}, Rep K B G H σ δ vs (rs1 ++ rs2) w → rzAll δ rs2 = some (qs, δ') → ∃ G' w', Stp B.T G H w δ G' H w' δ' ∧ Rep K B G' H σ δ' vs (rs1 ++ qs) w'
  | [], rs1, G, δ, δ', w, qs, r, h => by
    cases h
    exact ⟨G, w, .refl, r⟩
  | q :: rs2, rs1, G, δ, δ', w, qs, r, h => by
    unfold rzAll at h
    revert h
    split
    · intro h; cases h
    · rename_i q' δ1 e
      split
      · intro h; cases h
      · rename_i qs' δ2 e2
        intro h
        cases h
        have hq : (rs1 ++ q :: rs2)[rs1.length]? = some q := by simp
        obtain ⟨G1, w1, s1, r1⟩ := r.rz1 hq e
        have e3 : (rs1 ++ q :: rs2).set rs1.length q' = (rs1 ++ [q']) ++ rs2 := by
          rw [List.set_append_right _ _ (Nat.le_refl _), Nat.sub_self, List.set_cons_zero, List.append_assoc]
          rfl
        rw [e3] at r1
        obtain ⟨G2, w2, s2, r2⟩ := Rep.rzGo rs2 (rs1 ++ [q']) r1 e2
        refine ⟨G2, w2, s1.trans s2, ?_⟩
        rw [List.append_assoc] at r2
        exact r2
theorem rz_noAt {δ δ' : List Sl} {q q' : R} (h : rz δ q = some (q', δ')) : isAt q' = false := by
  cases q with
  | im d => cases h; rfl
  | ow o => cases h; rfl
  | «at» i =>
    simp only [rz] at h
    revert h
    split
    · intro h; cases h; rfl
    · intro h; cases h; rfl
    · intro h; cases h; rfl
    · intro h; cases h
theorem rzAll_noAt : ∀ {rs qs : List R} {δ δ' : List Sl}, rzAll δ rs = some (qs, δ') → ∀ q ∈ qs, isAt q = false
  | [], _, _, _, h => by cases h; intro q hq; cases hq
  | r :: rs, qs, δ, δ', h => by
    unfold rzAll at h
    revert h
    split
    · intro h; cases h
    · rename_i q' δ1 e
      split
      · intro h; cases h
      · rename_i qs' δ2 e2
        intro h
        cases h
        intro q hq
        rcases List.mem_cons.mp hq with rfl | hq
        · exact rz_noAt e
        · exact rzAll_noAt e2 q hq
theorem Rep.rzs (r : Rep K B G H σ δ vs rs w) {qs : List R} {δ' : List Sl} (h : rzAll δ rs = some (qs, δ')) : ∃ G' w', Stp B.T G H w δ G' H w' δ' ∧ Rep K B G' H σ δ' vs qs w' := by
  have := Rep.rzGo rs [] (by simpa using r) h
  simpa using this
def moved (i : Nat) (w : Addr → Option Nat) (a : Addr) : Option Nat := match w a with
  | none => none
  | some n => if n = 1 then some (2 * i) else if n % 2 = 1 then some (n - 2) else if n = 2 * i then none else some n
theorem of_moved {i : Nat} {w : Addr → Option Nat} {a : Addr} {m : Nat} (h : moved i w a = some m) : ∃ n, w a = some n := by
  unfold moved at h
  cases e : w a with
  | none => rw [e] at h; cases h
  | some n => exact ⟨n, rfl⟩
/-- the first value goes to slot i -/
theorem Rep.sto {v : V} {q : R} (r : Rep K B G H σ δ (v :: vs) (q :: rs) w) {i : Nat} {Q : List Sl → Prop} (h : setS i q δ Q) (hq : isAt q = false) (hrs : ∀ p ∈ rs, isAt p = false) :
    ∃ w', Q (δ.set i (slOf q)) ∧ Stp B.T G H w δ G H w' (δ.set i (slOf q)) ∧ Rep K B G H (σ.set i (some v)) (δ.set i (slOf q)) vs rs w' ∧ Pin σ δ (σ.set i (some v)) := by
  have hd : ∃ s, δ[i]? = some s ∧ (∀ o, s ≠ .ow true o) ∧ Q (δ.set i (slOf q)) := by
    unfold setS at h
    revert h
    split
    · intro h; exact h.elim
    · intro h; exact h.elim
    · rename_i s hn e
      intro h
      exact ⟨s, e, fun o z => hn o z, h⟩
  obtain ⟨s, hs, hp, hQ⟩ := hd
  have hi : i < δ.length := (List.getElem?_eq_some_iff.mp hs).1
  have hiσ : i < σ.length := by rw [r.len]; exact hi
  have np : ∀ o, δ[i]? ≠ some (.ow true o) := fun o z => by rw [hs] at z; cases z; exact hp o rfl
  have st : Stp B.T G H w δ G H (moved i w) (δ.set i (slOf q)) := .of ⟨fun _ _ h => h, fun _ _ _ h => h, fun a m h => by
    obtain ⟨n, hn⟩ := of_moved h
    exact .inl (by rw [hn]; exact Option.some_ne_none _), fun a o h => .inl h, pn_set np⟩
  refine ⟨moved i w, hQ, st, ⟨r.sub, fun a m h => ?_, by rw [List.length_set, List.length_set]; exact r.len, fun k s' hk => ?_, by have := r.tlen; simpa using this, fun j u p hu hp' => ?_, st.bs r.bs⟩, fun k o hk => ?_⟩
  · obtain ⟨n, hn⟩ := of_moved h
    exact r.out a n hn
  · by_cases e : i = k
    · subst e
      rw [List.getElem?_set_self hi] at hk
      cases hk
      have t := r.tm 0 v q rfl rfl
      cases q with
      | im d => exact ⟨v, List.getElem?_set_self hiσ, t⟩
      | ow o =>
        refine ⟨v, List.getElem?_set_self hiσ, RO.mono (fun _ _ h => h) (fun _ _ _ h => h) (fun a u ma _ => ?_) t⟩
        show moved i w a = _
        unfold moved
        rw [ma]
        rfl
      | «at» _ => cases hq
    · rw [List.getElem?_set_ne e] at hk
      rw [List.getElem?_set_ne e]
      refine (r.sl k s' hk).mono (fun _ _ h => h) (fun _ _ _ h => h) fun a u ma _ => ?_
      show moved i w a = _
      unfold moved
      rw [ma]
      dsimp only
      rw [if_neg (by omega), if_neg (by omega), if_neg (by omega)]
  · have t := r.tm (j + 1) u p (by simpa using hu) (by simpa using hp')
    have hno : isAt p = false := hrs p (List.mem_of_getElem? hp')
    cases p with
    | im d => exact t
    | ow o =>
      refine RO.mono (fun _ _ h => h) (fun _ _ _ h => h) (fun a u ma _ => ?_) t
      show moved i w a = _
      unfold moved
      rw [ma]
      dsimp only
      rw [if_neg (by omega), if_pos (by omega)]
      congr 1
    | «at» _ => cases hno
  · by_cases e : i = k
    · subst e; exact absurd hk (np o)
    · rw [List.getElem?_set_ne e]
/-- several slots get several values -/
theorem Rep.stos : ∀ (is : List Nat) {σ : St} {δ : List Sl} {vs : List V} {qs : List R} {w : Addr → Option Nat} {Q : List Sl → Prop}, Rep K B G H σ δ vs qs w → setAll is qs δ Q → (∀ q ∈ qs, isAt q = false) →
    ∃ δ' w', Q δ' ∧ Stp B.T G H w δ G H w' δ' ∧ Rep K B G H ((is.zip vs).foldl (fun σ p => σ.set p.1 (some p.2)) σ) δ' [] [] w' ∧ Pin σ δ ((is.zip vs).foldl (fun σ p => σ.set p.1 (some p.2)) σ) ∧ is.length = vs.length
  | [], σ, δ, vs, qs, w, Q, r, h, hq => by
    cases qs with
    | nil =>
      have hv : vs = [] := List.eq_nil_of_length_eq_zero (by have := r.tlen; simpa using this)
      subst hv
      exact ⟨δ, w, h, .refl, r, .refl, rfl⟩
    | cons => exact h.elim
  | i :: is, σ, δ, vs, qs, w, Q, r, h, hq => by
    cases qs with
    | nil => exact h.elim
    | cons q qs =>
      cases vs with
      | nil => have := r.tlen; simp at this
      | cons v vs =>
        obtain ⟨w1, h1, s1, r1, p1⟩ := r.sto (show setS i q δ _ from h) (hq q List.mem_cons_self) fun p hp => hq p (List.mem_cons_of_mem _ hp)
        obtain ⟨δ2, w2, h2, s2, r2, p2, hl⟩ := Rep.stos is r1 h1 fun p hp => hq p (List.mem_cons_of_mem _ hp)
        exact ⟨δ2, w2, h2, s1.trans s2, r2, p1.trans s1.pn p2, congrArg (· + 1) hl⟩
/-- what slot i holds is handed on -/
def taken (i : Nat) (w : Addr → Option Nat) (a : Addr) : Option Nat := match w a with
  | none => none
  | some n => if n = 2 * i then some 1 else if n % 2 = 1 then none else some n
def mv (δ : List Sl) : R → Option (R × List Sl)
  | .at i => match δ[i]? with
    | some (.im d) => some (.im d, δ)
    | some (.ow false o) => some (.ow o, δ.set i .un)
    | _ => none
  | r => some (r, δ)
theorem Rep.mv1 {v : V} {q q' : R} {δ' : List Sl} (r : Rep K B G H σ δ [v] [q] w) (h : mv δ q = some (q', δ')) : ∃ w', Stp B.T G H w δ G H w' δ' ∧ Rep K B G H σ δ' [v] [q'] w' ∧ isAt q' = false := by
  cases q with
  | im d => cases h; exact ⟨w, .refl, r, rfl⟩
  | ow o => cases h; exact ⟨w, .refl, r, rfl⟩
  | «at» i =>
    have t : σ[i]? = some (some v) := r.tm 0 v (.at i) rfl rfl
    simp only [mv] at h
    revert h
    split
    · rename_i d e
      intro h
      cases h
      obtain ⟨u, hu, hd⟩ := r.sl i _ e
      rw [t] at hu
      cases hu
      exact ⟨_, .drop, r.ret hd, rfl⟩
    · rename_i o e
      intro h
      cases h
      obtain ⟨u, hu, hd⟩ := r.sl i _ e
      rw [t] at hu
      cases hu
      have ot : ∀ a m, taken i w a = some m → ∃ n, w a = some n := fun a m h => by
        unfold taken at h
        cases e : w a with
        | none => rw [e] at h; cases h
        | some n => exact ⟨n, rfl⟩
      have st : Stp B.T G H w δ G H (taken i w) (δ.set i .un) := .of ⟨fun _ _ h => h, fun _ _ _ h => h, fun a m h => by
        obtain ⟨n, hn⟩ := ot a m h
        exact .inl (by rw [hn]; exact Option.some_ne_none _), fun a o h => .inl h, pn_set fun o z => by rw [e] at z; cases z⟩
      refine ⟨taken i w, st, ⟨r.sub, fun a m h => ?_, by rw [List.length_set]; exact r.len, fun k s' hk => ?_, rfl, fun j u p hu hp' => ?_, st.bs r.bs⟩, rfl⟩
      · obtain ⟨n, hn⟩ := ot a m h
        exact r.out a n hn
      · by_cases ek : i = k
        · subst ek
          rw [List.getElem?_set_self (List.getElem?_eq_some_iff.mp e).1] at hk
          cases hk
          trivial
        · rw [List.getElem?_set_ne ek] at hk
          refine (r.sl k s' hk).mono (fun _ _ h => h) (fun _ _ _ h => h) fun a u ma _ => ?_
          show taken i w a = _
          unfold taken
          rw [ma]
          dsimp only
          rw [if_neg (by omega), if_neg (by omega)]
      · match j with
        | 0 =>
          simp only [List.getElem?_cons_zero, Option.some.injEq] at hu hp'
          subst hu hp'
          refine RO.mono (fun _ _ h => h) (fun _ _ _ h => h) (fun a u ma _ => ?_) hd
          show taken i w a = _
          unfold taken
          rw [ma]
          dsimp only
          rw [if_pos rfl]
        | j + 1 => simp at hu
    · intro h; cases h
end
/-! ### statements -/
structure PEn where
  nx : List Sl → Prop
  rt : R → List Sl → Prop
  bk : List Sl → Prop := fun _ => False
  ct : List Sl → Prop := fun _ => False
abbrev PSx := PEn → List Sl → Prop
structure EOk (K : PySem.W.Frag) (B : Bas) (G H : Hp) (w : Addr → Option Nat) (σ : St) (δ : List Sl) (E : PEn) (D : Ends) : Prop where
  nx : ∀ δ' σ' H' G' w', E.nx δ' → Stp B.T G H w δ G' H' w' δ' → Rep K B G' H' σ' δ' [] [] w' → Pin σ δ σ' → D.nx σ' H'
  rt : ∀ r δ' v σ' H' G' w', E.rt r δ' → isAt r = false → Stp B.T G H w δ G' H' w' δ' → Rep K B G' H' σ' δ' [v] [r] w' → Pin σ δ σ' → D.rt v H'
  bk : ∀ δ' σ' H' G' w', E.bk δ' → Stp B.T G H w δ G' H' w' δ' → Rep K B G' H' σ' δ' [] [] w' → Pin σ δ σ' → D.bk σ' H'
  ct : ∀ δ' σ' H' G' w', E.ct δ' → Stp B.T G H w δ G' H' w' δ' → Rep K B G' H' σ' δ' [] [] w' → Pin σ δ σ' → D.ct σ' H'
theorem EOk.later {K : PySem.W.Frag} {G H G1 H1 : Hp} {w w1 : Addr → Option Nat} {σ σ1 : St} {δ δ1 : List Sl} {E : PEn} {D : Ends} (e : EOk K B G H w σ δ E D) (s : Stp B.T G H w δ G1 H1 w1 δ1) (p : Pin σ δ σ1) : EOk K B G1 H1 w1 σ1 δ1 E D :=
  ⟨fun δ' σ' H' G' w' h s' r p' => e.nx δ' σ' H' G' w' h (s.trans s') r (p.trans s.pn p'), fun q δ' v σ' H' G' w' h ha s' r p' => e.rt q δ' v σ' H' G' w' h ha (s.trans s') r (p.trans s.pn p'),
    fun δ' σ' H' G' w' h s' r p' => e.bk δ' σ' H' G' w' h (s.trans s') r (p.trans s.pn p'), fun δ' σ' H' G' w' h s' r p' => e.ct δ' σ' H' G' w' h (s.trans s') r (p.trans s.pn p')⟩
def LS (K : PySem.W.Frag) (B : Bas) (p : PSx) : TS := fun D σ H => ∃ G w δ E, Rep K B G H σ δ [] [] w ∧ p E δ ∧ EOk K B G H w σ δ E D
def JS (X : Cx) (B : Bas) (st : Stmt) (p : PSx) : Prop := PS X st (LS X.K B p)
def JSs (X : Cx) (B : Bas) (st : List Stmt) (p : PSx) : Prop := PSs X st (LS X.K B p)
def pNext : PSx := fun E δ => E.nx δ
def pSeq (a b : PSx) : PSx := fun E δ => a { E with nx := fun δ' => b E δ' } δ
def pExpr (p : PX) : PSx := fun E δ => p δ fun _ δ1 => E.nx δ1
def pRet (p : PX) : PSx := fun E δ => p δ fun r δ1 => ∃ q δ2, mv δ1 r = some (q, δ2) ∧ E.rt q δ2
def pIf (c : PB) (a b : PSx) : PSx := fun E δ => c δ fun t δ1 => if t = true then a E δ1 else b E δ1
def pSet (i : Nat) (p : PX) : PSx := fun E δ => p δ fun r δ1 => ∃ q δ2, rz δ1 r = some (q, δ2) ∧ setS i q δ2 E.nx
def pPar (is : List Nat) (ps : PL) : PSx := fun E δ => ps δ fun rs δ1 => ∃ qs δ2, rzAll δ1 rs = some (qs, δ2) ∧ setAll is qs δ2 E.nx
section
variable {X : Cx} {st : Stmt} {sts : List Stmt} {a b : PSx} {e : Expr} {pa : PX} {pos : Pos}
theorem jss_nil : JSs X B [] pNext := PSs_wk pss_nil fun D σ H ⟨G, w, δ, E, rep, h, ek⟩ => ek.nx δ σ H G w h .refl rep .refl
theorem jss_cons (h1 : JS X B st a) (h2 : JSs X B sts b) : JSs X B (st :: sts) (pSeq a b) := PSs_wk (pss_cons h1 h2) fun D σ H ⟨G, w, δ, E, rep, h, ek⟩ =>
  ⟨G, w, δ, _, rep, h, ⟨fun δ' σ' H' G' w' hb s r p => ⟨G', w', δ', E, r, hb, ek.later s p⟩, ek.rt, ek.bk, ek.ct⟩⟩
theorem jss_one (h1 : JS X B st a) : JSs X B [st] a := pss_one h1
theorem js_expr (he : JE X B e pa) (hs : swapsWith e none pos.line X.env = pure false := by rfl) : JS X B (.Expr e pos) (pExpr pa) := PS_wk (ps_expr he hs) fun D σ H ⟨G, w, δ, E, rep, h, ek⟩ =>
  ⟨G, w, δ, _, rep, h, fun r δ1 v H1 G1 w1 q1 s1 rep1 => ek.nx δ1 σ H1 G1 _ q1 (s1.trans .drop) rep1.drop .refl⟩
theorem js_ret (he : JE X B e pa) : JS X B (.Return (some e) pos) (pRet pa) := PS_wk (ps_ret he) fun D σ H ⟨G, w, δ, E, rep, h, ek⟩ =>
  ⟨G, w, δ, _, rep, h, fun r δ1 v H1 G1 w1 q1 s1 rep1 => by
    obtain ⟨q, δ2, hm, q1⟩ := q1
    obtain ⟨w2, s2, r2, ha⟩ := rep1.mv1 hm
    exact ek.rt q δ2 v σ H1 G1 w2 q1 ha (s1.trans s2) r2 .refl⟩
theorem js_if {c : Expr} {x y : List Stmt} {pc : PB} (hc : JB X B c pc) (ha : JSs X B x a) (hb : JSs X B y b) : JS X B (.If c x y pos) (pIf pc a b) := PS_wk (ps_if hc ha hb) fun D σ H ⟨G, w, δ, E, rep, h, ek⟩ =>
  ⟨G, w, δ, _, rep, h, fun t δ1 H1 G1 w1 q1 s1 rep1 => by
    cases t with
    | true => exact ⟨G1, w1, δ1, E, rep1, q1, ek.later s1 .refl⟩
    | false => exact ⟨G1, w1, δ1, E, rep1, q1, ek.later s1 .refl⟩⟩
theorem set_lift {i : Nat} {p : PX} {D : Ends} {σ : St} {H : Hp} (h : LS X.K B (pSet i p) D σ H) : tAsg (LE X.K B p) (gName i) D σ H := by
  obtain ⟨G, w, δ, E, rep, h, ek⟩ := h
  refine ⟨G, w, δ, _, rep, h, fun r δ1 v H1 G1 w1 q1 s1 rep1 => ?_⟩
  obtain ⟨q, δ2, hz, q1⟩ := q1
  obtain ⟨G2, w2, s2, r2⟩ := rep1.rz1 (j := 0) rfl hz
  obtain ⟨w3, q3, s3, r3, p3⟩ := r2.sto q1 (rz_noAt hz) (fun p hp => by cases hp)
  exact ek.nx _ _ H1 G2 w3 q3 ((s1.trans s2).trans s3) r3 ((Pin.refl (σ := σ)).trans (s1.trans s2).pn p3)
theorem js_set {i : Nat} {x : Str} {pos' : Pos} (hN : X.N.Nodup) (hi : X.N[i]? = some x) (hx : Loc X.env.scope x) (he : JE X B e pa) (hs : swapsWith e (some (.Name x pos')) pos.line X.env = pure false := by rfl) (hf : X.fn x = true ∨ X.env.scope.names.lookup x = some .local := by first | exact .inl rfl | exact .inr rfl | assumption) :
    JS X B (.Assign [.Name x pos'] e pos) (pSet i pa) := PS_wk (ps_set hN hi hx he hs hf) fun D σ H ⟨G, w, δ, E, rep, h, ek⟩ =>
  ⟨G, w, δ, _, rep, h, fun r δ1 v H1 G1 w1 q1 s1 rep1 => by
    obtain ⟨q, δ2, hz, q1⟩ := q1
    obtain ⟨G2, w2, s2, r2⟩ := rep1.rz1 (j := 0) rfl hz
    obtain ⟨w3, q3, s3, r3, p3⟩ := r2.sto q1 (rz_noAt hz) (fun p hp => by cases hp)
    exact ek.nx _ _ H1 G2 w3 q3 ((s1.trans s2).trans s3) r3 ((Pin.refl (σ := σ)).trans (s1.trans s2).pn p3)⟩
theorem js_par2 {i j : Nat} {x y : Str} {e1 e2 : Expr} {ps : PL} {px py pt : Pos} {kt k2 pt2} (hc : X.calm = true) (hN : X.N.Nodup) (hi : X.N[i]? = some x) (hj : X.N[j]? = some y) (hij : i ≠ j)
    (hx : X.env.scope.names.lookup x = some .local) (hy : X.env.scope.names.lookup y = some .local) (ha : JA X B [e1, e2] ps)
    (hw : swappedStores [.Tuple [.Name x px, .Name y py] kt pt] (.Tuple [e1, e2] k2 pt2) X.env = pure (some [x, y]))
    (hs : swapsWithSole [.Tuple [.Name x px, .Name y py] kt pt] (.Tuple [e1, e2] k2 pt2) pos.line X.env = pure false := by rfl) :
    JS X B (.Assign [.Tuple [.Name x px, .Name y py] kt pt] (.Tuple [e1, e2] k2 pt2) pos) (pPar [i, j] ps) := PS_wk (ps_par hc hN hi hj hij hx hy ha hw hs) fun D σ H ⟨G, w, δ, E, rep, h, ek⟩ =>
  ⟨G, w, δ, _, rep, h, fun rs δ1 vs H1 G1 w1 q1 l1 s1 rep1 => by
    obtain ⟨qs, δ2, hz, q1⟩ := q1
    obtain ⟨G2, w2, s2, r2⟩ := rep1.rzs hz
    obtain ⟨δ3, w3, q3, s3, r3, p3, hl⟩ := Rep.stos [i, j] r2 q1 (rzAll_noAt hz)
    match vs, hl with
    | [v, u], _ => exact ⟨v, u, rfl, ek.nx _ _ H1 G2 w3 q3 ((s1.trans s2).trans s3) r3 ((Pin.refl (σ := σ)).trans (s1.trans s2).pn p3)⟩⟩
end
/-! ### targets of data -/
abbrev PGx := PyData → List Sl → (List Sl → Prop) → Prop
abbrev PGxs := List PyData → List Sl → (List Sl → Prop) → Prop
def gN (i : Nat) : PGx := fun d δ Q => setS i (.im d) δ Q
def gsN : PGxs := fun ds δ Q => ds = [] ∧ Q δ
def gsC (g : PGx) (gs : PGxs) : PGxs := fun ds δ Q => match ds with
  | d :: ds => g d δ fun δ' => gs ds δ' Q
  | [] => False
def gT (n : Nat) (gs : PGxs) : PGx := fun d δ Q => match d with
  | .tuple ds => ds.length = n ∧ gs ds δ Q
  | _ => False
/-- only the slots ts are stored to -/
def Tch (ts : List Nat) (σ σ' : St) : Prop := σ'.length = σ.length ∧ ∀ k, k ∉ ts → σ'[k]? = σ[k]?
theorem Tch.refl {ts : List Nat} {σ : St} : Tch ts σ σ := ⟨rfl, fun _ _ => rfl⟩
theorem Tch.trans {ts us : List Nat} {σ σ1 σ2 : St} (a : Tch ts σ σ1) (b : Tch us σ1 σ2) : Tch (ts ++ us) σ σ2 := ⟨b.1.trans a.1, fun k hk => (b.2 k fun z => hk (List.mem_append_right _ z)).trans (a.2 k fun z => hk (List.mem_append_left _ z))⟩
def LG (K : PySem.W.Frag) (B : Bas) (ts : List Nat) (g : PGx) : TG := fun v σ H Q => ∃ G w δ d Qp, Rep K B G H σ δ [] [] w ∧ Dq K G v d ∧ g d δ Qp ∧ ∀ δ' σ' H' G' w', Qp δ' → Stp B.T G H w δ G' H' w' δ' → Rep K B G' H' σ' δ' [] [] w' → Pin σ δ σ' → Tch ts σ σ' → Q σ' H'
def LGs (K : PySem.W.Frag) (B : Bas) (ts : List Nat) (g : PGxs) : TGs := fun vs σ H Q => ∃ G w δ ds Qp, Rep K B G H σ δ [] [] w ∧ DqAll K G vs ds ∧ g ds δ Qp ∧ ∀ δ' σ' H' G' w', Qp δ' → Stp B.T G H w δ G' H' w' δ' → Rep K B G' H' σ' δ' [] [] w' → Pin σ δ σ' → Tch ts σ σ' → Q σ' H'
section
variable {X : Cx} {pos : Pos}
theorem PG_wk {e : Expr} {t t' : TG} (h : PG X e t) (k : ∀ v σ H Q, t' v σ H Q → t v σ H Q) : PG X e t' := ⟨fun pins s σ H v u Q I r q => h.run pins s σ H v u Q I r (k v σ H Q q)⟩
theorem PGs_wk {es : List Expr} {t t' : TGs} (h : PGs X es t) (k : ∀ v σ H Q, t' v σ H Q → t v σ H Q) : PGs X es t' := ⟨fun pins s σ H v u Q I r q => h.run pins s σ H v u Q I r (k v σ H Q q)⟩
def JG (X : Cx) (B : Bas) (e : Expr) (ts : List Nat) (g : PGx) : Prop := PG X e (LG X.K B ts g)
def JGs (X : Cx) (B : Bas) (es : List Expr) (ts : List Nat) (g : PGxs) : Prop := PGs X es (LGs X.K B ts g)
theorem jg_name {i : Nat} {x : Str} (hN : X.N.Nodup) (hi : X.N[i]? = some x) (hx : Loc X.env.scope x) (hf : X.fn x = true ∨ X.env.scope.names.lookup x = some .local := by first | exact .inl rfl | exact .inr rfl | assumption) : JG X B (.Name x pos) [i] (gN i) :=
  PG_wk (pg_name hN hi hx hf) fun v σ H Q ⟨G, w, δ, d, Qp, rep, hd, h, k⟩ => by
    obtain ⟨w3, q3, s3, r3, p3⟩ := (rep.ret hd).sto (show setS i (.im d) δ Qp from h) rfl (fun p hp => by cases hp)
    exact k _ _ H G w3 q3 (Stp.drop.trans s3) r3 p3 ⟨List.length_set, fun k hk => List.getElem?_set_ne fun z => hk (by rw [z]; exact List.mem_singleton.mpr rfl)⟩
theorem jgs_nil : JGs X B [] [] gsN := PGs_wk pgs_nil fun vs σ H Q ⟨G, w, δ, ds, Qp, rep, hd, h, k⟩ => by
  obtain ⟨rfl, h⟩ := h
  exact ⟨dqAll_nil hd, k δ σ H G w h .refl rep .refl .refl⟩
theorem jgs_cons {e : Expr} {es : List Expr} {ts us : List Nat} {g : PGx} {gs : PGxs} (h1 : JG X B e ts g) (h2 : JGs X B es us gs)
    (hs : (assignEach (e :: es) X.env).map (·.2) = assign e X.env :: (assignEach es X.env).map (·.2) := by rfl) : JGs X B (e :: es) (ts ++ us) (gsC g gs) := PGs_wk (pgs_cons h1 h2 hs) fun vs σ H Q ⟨G, w, δ, ds, Qp, rep, hd, h, k⟩ => by
  cases hd with
  | nil => exact h.elim
  | cons h1 h2 =>
    exact ⟨_, _, rfl, G, w, δ, _, _, rep, h1, h, fun δ' σ' H' G' w' hq s r p t => ⟨G', w', δ', _, Qp, r, dpAll_mono s.g _ _ h2, hq, fun δ2 σ2 H2 G2 w2 hq2 s2 r2 p2 t2 => k δ2 σ2 H2 G2 w2 hq2 (s.trans s2) r2 (p.trans s.pn p2) (t.trans t2)⟩⟩
theorem jg_tup {es : List Expr} {k : Nat} {ts : List Nat} {g : PGxs} {n : Nat} (hc : X.calm = true) (h : JGs X B es ts g)
    (hn : (assignEach es X.env).length = n := by rfl) (hst : (assignEach es X.env).findIdx? (·.1) = none := by rfl) : JG X B (.Tuple es k pos) ts (gT n g) := PG_wk (pg_tup hc h hn hst) fun v σ H Q ⟨G, w, δ, d, Qp, rep, hd, h, k⟩ => by
  unfold gT at h
  revert h
  split
  · intro h
    cases hd with
    | tup hs ha => exact ⟨_, _, rfl, Same.tp rep.sub _ _ hs, (dqAll_len ha).trans h.1, G, w, δ, _, Qp, rep, ha, h.2, k⟩
  · intro h; exact h.elim
/-- target = data -/
def pAsg (p : PX) (g : PGx) : PSx := fun E δ => p δ fun r δ1 => ∃ d δ2, fz δ1 r = some (d, δ2) ∧ g d δ2 E.nx
theorem js_asg {tg e : Expr} {p : PX} {ts : List Nat} {g : PGx} (he : JE X B e p) (hg : JG X B tg ts g) (hs : swapsWithSole [tg] e pos.line X.env = pure false := by rfl) (hw : swappedStores [tg] e X.env = pure none := by rfl)
    (h1 : (assignEach [tg] X.env).map (·.2) = [assign tg X.env] := by rfl) : JS X B (.Assign [tg] e pos) (pAsg p g) := PS_wk (ps_asg he hg hs hw h1) fun D σ H ⟨G, w, δ, E, rep, h, ek⟩ =>
  ⟨G, w, δ, _, rep, h, fun r δ1 v H1 G1 w1 q1 s1 rep1 => by
    obtain ⟨d, δ2, hz, q1⟩ := q1
    obtain ⟨G2, w2, s2, r2⟩ := rep1.fz1 (j := 0) rfl rfl hz
    have hd : Dq X.K G2 v d := r2.tm 0 v (.im d) rfl rfl
    exact ⟨G2, _, δ2, d, _, r2.drop, hd, q1, fun δ' σ' H' G' w' hq s r p _ => ek.nx δ' σ' H' G' w' hq (((s1.trans s2).trans .drop).trans s) r ((Pin.refl (σ := σ)).trans ((s1.trans s2).trans .drop).pn p)⟩⟩
/-- a, b, .. = x, y, .. by a tuple -/
theorem js_parT {is : List Nat} {xs : List Str} {tgs es : List Expr} {ps : PL} {pt : Pos} {kt k2 pt2} {gs : TGs} (ha : JA X B es ps) (hg : PG X (.Tuple tgs kt pt) (gTup X.K is.length gs)) (hgs : ∀ vs σ H Q, is.length = vs.length → Q ((is.zip vs).foldl (fun σ p => σ.set p.1 (some p.2)) σ) H → gs vs σ H Q) (hl : es.length ≤ sizeLine := by decide)
    (hs : swapsWithSole [.Tuple tgs kt pt] (.Tuple es k2 pt2) pos.line X.env = pure false := by rfl) (hw : swappedStores [.Tuple tgs kt pt] (.Tuple es k2 pt2) X.env = pure none := by rfl) (h1 : (assignEach [.Tuple tgs kt pt] X.env).map (·.2) = [assign (.Tuple tgs kt pt) X.env] := by rfl) :
    JS X B (.Assign [.Tuple tgs kt pt] (.Tuple es k2 pt2) pos) (pPar is ps) := PS_wk (ps_asg (pe_tup ha) hg hs hw h1) fun D σ H ⟨G, w, δ, E, rep, h, ek⟩ =>
  ⟨G, w, δ, _, rep, h, fun rs δ1 vs H1 G1 w1 q1 l1 s1 rep1 => ⟨by rw [rep1.tlen, l1]; exact hl, fun p hp => by
    obtain ⟨qs, δ2, hz, q1⟩ := q1
    obtain ⟨G2, w2, s2, r2⟩ := rep1.rzs hz
    obtain ⟨s3, r3⟩ := r2.lay (o := .tup vs) hp
    obtain ⟨δ4, w4, q4, s4, r4, p4, hl⟩ := Rep.stos is r3 q1 (rzAll_noAt hz)
    refine ⟨p, vs, rfl, SqT.of upd_same, hl.symm, hgs vs σ _ _ hl ?_⟩
    exact ek.nx _ _ _ _ w4 q4 (((s1.trans s2).trans s3).trans s4) r4 ((Pin.refl (σ := σ)).trans ((s1.trans s2).trans s3).pn p4)⟩⟩
end
end Pv
namespace Pv
open PySem PySem.Spec L2 Wf
variable {B : Bas}
/-! ### a list of one's own is changed -/
section
variable {K : PySem.W.Frag} {G H : Hp} {σ : St} {δ : List Sl} {vs : List V} {rs : List R} {w : Addr → Option Nat}
theorem Rep.own (r : Rep K B G H σ δ vs rs w) {i : Nat} {b : Bool} {ds : List PyData} (h : δ[i]? = some (.ow b (.lst ds))) : ∃ a us, σ[i]? = some (some (.ref a)) ∧ w a = some (2 * i) ∧ H a = some (.lst us) ∧ DqAll K G us ds := by
  obtain ⟨v, hv, a, us, rfl, ma, ha, hd⟩ := r.sl i _ h
  exact ⟨a, us, hv, ma, ha, hd⟩
theorem Rep.wr (r : Rep K B G H σ δ vs rs w) {i : Nat} {b : Bool} {ds ds' : List PyData} {a : Addr} {us us' : List V} (h : δ[i]? = some (.ow b (.lst ds))) (hσ : σ[i]? = some (some (.ref a))) (hw : w a = some (2 * i)) (ha : H a = some (.lst us)) (hd : DqAll K G us' ds') :
    Stp B.T G H w δ G (upd H a (.lst us')) w (δ.set i (.ow b (.lst ds'))) ∧ Rep K B G (upd H a (.lst us')) σ (δ.set i (.ow b (.lst ds'))) vs rs w := by
  have hi : i < δ.length := (List.getElem?_eq_some_iff.mp h).1
  have ne : ∀ x n, w x = some n → n ≠ 2 * i → x ≠ a := fun x n hx hn z => by subst z; rw [hw] at hx; cases hx; exact hn rfl
  have g0 := (r.out a _ hw).1
  have st : Stp B.T G H w δ G (upd H a (.lst us')) w (δ.set i (.ow b (.lst ds'))) := by
    refine .of ⟨fun _ _ h => h, fun x o hx ho => ?_, fun x n hx => .inl (by rw [hx]; exact Option.some_ne_none _), fun _ _ h => .inl h, fun k o hk => ?_⟩ (tabs_put ha)
    · rw [upd_ne (fun z => by subst z; rw [hw] at hx; cases hx)]
      exact ho
    · by_cases e : i = k
      · subst e
        rw [h] at hk
        cases hk
        exact ⟨_, List.getElem?_set_self hi⟩
      · exact ⟨o, by rw [List.getElem?_set_ne e]; exact hk⟩
  refine ⟨st, fun x o hx => ?_, fun x n hx => ?_, by rw [List.length_set]; exact r.len, fun k s hk => ?_, r.tlen, fun j v q hv hq => ?_, st.bs r.bs⟩
  · have : x ≠ a := fun z => by subst z; rw [g0] at hx; cases hx
    rw [upd_ne this]
    exact r.sub x o hx
  · obtain ⟨h1, h2, h3⟩ := r.out x n hx
    by_cases e : x = a
    · subst e
      rw [upd_same]
      exact ⟨h1, Option.some_ne_none _, NoX.lst upd_same⟩
    · rw [upd_ne e]
      exact ⟨h1, h2, noT_upd e h3⟩
  · by_cases e : i = k
    · subst e
      rw [List.getElem?_set_self hi] at hk
      cases hk
      exact ⟨_, hσ, a, us', rfl, hw, upd_same, hd⟩
    · rw [List.getElem?_set_ne e] at hk
      refine (r.sl k s hk).mono (fun _ _ h => h) (fun x u mx hu => ?_) fun x u mx _ => mx
      rw [upd_ne (ne x _ mx (by omega))]
      exact hu
  · refine (r.tm j v q hv hq).mono (fun _ _ h => h) (fun x u mx hu => ?_) fun x u mx _ => mx
    rw [upd_ne (ne x _ mx (by omega))]
    exact hu
end
/-- a method of one's own list: its items, the arguments; what is told, the items then -/
def pMt (f : List PyData → List PyData → (PyData → List PyData → Prop) → Prop) (po : PX) (ps : PL) : PX := fun δ Q => po δ fun ro δ1 => ∃ i b0 ds0, ro = .at i ∧ δ1[i]? = some (.ow b0 (.lst ds0)) ∧ ps δ1 fun rs δ2 => ∃ as δ3 b ds, fzAll δ2 rs = some (as, δ3) ∧ δ3[i]? = some (.ow b (.lst ds)) ∧
  f ds as fun d ds' => Q (.im d) (δ3.set i (.ow b (.lst ds')))
def MtV (K : PySem.W.Frag) (f : List PyData → List PyData → (PyData → List PyData → Prop) → Prop) (r : V → List V → Hp → VK → Prop) : Prop :=
  ∀ (G H : Hp) (a : Addr) (us vs : List V) (ds as : List PyData) (Qp : PyData → List PyData → Prop) (Q : VK), H a = some (.lst us) → DqAll K G us ds → DqAll K G vs as → f ds as Qp → (∀ d ds' v us', Qp d ds' → Dq K G v d → DqAll K G us' ds' → Q v (upd H a (.lst us'))) → r (.ref a) vs H Q
section
variable {X : Cx} {o e : Expr} {es : List Expr} {po : PX} {ps : PL} {name : Str} {apos cpos pos : Pos} {id : String} {r : V → List V → Hp → VK → Prop} {f : List PyData → List PyData → (PyData → List PyData → Prop) → Prop}
theorem mt_go {Q : VK} {σ : St} {G H G1 H1 : Hp} {w w1 : Addr → Option Nat} {δ δ1 : List Sl} {Qp : QE} {x : V} {i : Nat} (hm : MtV X.K f r)
    (k : ∀ r δ' v H' G' w', Qp r δ' → Stp B.T G H w δ G' H' w' δ' → Rep X.K B G' H' σ δ' [v] [r] w' → Q v H') (s1 : Stp B.T G H w δ G1 H1 w1 δ1) {vs : List V} {rs : List R} (rep1 : Rep X.K B G1 H1 σ δ1 vs rs w1) (hx : σ[i]? = some (some x))
    {as : List PyData} {δ3 : List Sl} {b : Bool} {ds : List PyData} (e1 : fzAll δ1 rs = some (as, δ3)) (e2 : δ3[i]? = some (.ow b (.lst ds))) (q : f ds as fun d ds' => Qp (.im d) (δ3.set i (.ow b (.lst ds')))) : r x vs H1 Q := by
  obtain ⟨G2, w2, s2, r2⟩ := rep1.fzs e1
  obtain ⟨a, us, hσ, hw, ha, hd⟩ := r2.own e2
  rw [hx] at hσ
  cases hσ
  refine hm G2 H1 a us vs ds as _ Q ha hd r2.ims q fun d ds' v us' hq hv hu => ?_
  obtain ⟨s3, r3⟩ := r2.wr e2 hx hw ha hu
  exact k _ _ v _ G2 _ hq (((s1.trans s2).trans s3).trans .drop) (r3.ret hv)
theorem je_mt (pa : PlainAttrs "list") (slot : Slot "list" name id) (hty : typeOf (.builtin id) = pure (.type "method_descriptor")) (hm : MtR X id r) (hv : MtV X.K f r) (ho : JE X B o po) (ha : JA X B (e :: es) ps)
    (hbase : attributeBase o name X.env (eval o X.env) = eval o X.env := by rfl)
    (hfew : ((backTo cpos (starEach (e :: es) X.env)).all (fun x => !x.1) && (backToKw cpos (keywordEach [] X.env)).all (fun x => x.1.isSome)
      && decide ((e :: es).length + ([] : List Keyword).length + (if ([] : List Keyword).isEmpty then 0 else 1) < 30)) = true := by rfl)
    (hline : (apos.endLine == cpos.line) = true := by rfl) (hs : starEach (e :: es) X.env = (false, eval e X.env) :: starEach es X.env := by rfl) (hplain : (backTo cpos (starEach es X.env)).any (·.1) = false := by rfl) :
    JE X B (.Call (.Attribute o name apos) (e :: es) [] cpos) (pMt f po ps) := by
  refine PE_wk (pe_bm pa slot hty hm ho ha hbase hfew hline hs hplain) fun σ H Q ⟨G, w, δ, Qp, rep, q, k⟩ => ?_
  refine ⟨G, w, δ, _, rep, q, fun ro δ1 x H1 G1 w1 q1 s1 rep1 => ?_⟩
  obtain ⟨i, b0, ds0, rfl, e0, q1⟩ := q1
  have hx : σ[i]? = some (some x) := rep1.tm 0 x (.at i) rfl rfl
  obtain ⟨a0, us0, hσ0, _, ha0, _⟩ := rep1.own e0
  rw [hx] at hσ0
  cases hσ0
  refine ⟨.inl ⟨rfl, us0, SqL.of ha0⟩, G1, _, δ1, _, rep1.drop, q1, fun rs δ2 vs H2 G2 w2 q2 _ s2 rep2 => ?_⟩
  obtain ⟨as, δ3, b, ds, e1, e2, q2⟩ := q2
  exact mt_go hv k ((s1.trans .drop).trans s2) rep2 hx e1 e2 q2
def mAppend : List PyData → List PyData → (PyData → List PyData → Prop) → Prop
  | ds, [d], k => ds.length < sizeLine ∧ k .none (ds ++ [d])
  | _, _, _ => False
theorem mv_append {K : PySem.W.Frag} : MtV K mAppend rAppend := by
  intro G H a us vs ds as Qp Q ha hu hv q k
  match as, hv, q with
  | [d], .cons h1 .nil, q => exact ⟨a, us, _, rfl, rfl, ha, by rw [dqAll_len hu]; exact q.1, k _ _ _ _ q.2 .non (dqAll_append hu (.cons h1 .nil))⟩
  | [], _, q => exact q.elim
  | _ :: _ :: _, _, q => exact q.elim
/-! ### x[i] = .. -/
def gSx (po pi : PX) : PGx := fun d δ Q => po δ fun ro δ1 => pi δ1 fun ri δ2 => ∃ i n b ds j, ro = .at i ∧ dat δ2 ri = some (.int n) ∧ δ2[i]? = some (.ow b (.lst ds)) ∧ ixN ds.length n = some j ∧ Q (δ2.set i (.ow b (.lst (ds.set j d))))
theorem dqAll_set {K : PySem.W.Frag} {G : Hp} {v : V} {d : PyData} (h : Dq K G v d) : ∀ (n : Nat) {us : List V} {ds : List PyData}, DqAll K G us ds → DqAll K G (us.set n v) (ds.set n d)
  | _, _, _, .nil => .nil
  | 0, _, _, .cons _ h2 => .cons h h2
  | n + 1, _, _, .cons h1 h2 => .cons h1 (dqAll_set h n h2)
theorem jg_sub {i : Expr} {pi : PX} (ho : JE X B o po) (hi : JE X B i pi)
    (ha : ∀ v, assign (.Subscript o i pos) X.env v = (do
      let ov ← holding [v] (eval o X.env)
      let iv ← holding [v, ov] (eval i X.env)
      standAt pos
      holding [v, ov, iv] (setItem ov iv v)
      release [v, ov, iv] []) := by intro _; rfl) : JG X B (.Subscript o i pos) [] (gSx po pi) := by
  refine PG_wk (pg_sub ho hi set_list ha) fun v σ H Q ⟨G, w, δ, d, Qp, rep, hd, h, k⟩ => ?_
  refine ⟨G, w, δ, _, rep, h, fun ro δ1 x H1 G1 w1 q1 s1 rep1 => ?_⟩
  refine ⟨G1, _, δ1, _, rep1.drop, q1, fun ri δ2 y H2 G2 w2 q2 s2 rep2 => ?_⟩
  obtain ⟨i, n, b, ds, j, rfl, hn, e2, hj, q2⟩ := q2
  have hx : σ[i]? = some (some x) := rep1.tm 0 x (.at i) rfl rfl
  obtain ⟨a, us, hσ, hw, ha, hds⟩ := rep2.own e2
  rw [hx] at hσ
  cases hσ
  have hv := dp_mono (s1.g) _ _ hd
  have hv2 := dp_mono s2.g _ _ hv
  refine ⟨a, us, n, j, rfl, dp_int (rep2.dpH (j := 0) rfl rfl hn), ha, by rw [dqAll_len hds]; exact hj, ?_⟩
  obtain ⟨s4, r4⟩ := rep2.wr e2 hx hw ha (dqAll_set hv2 j hds)
  exact k _ σ _ G2 _ q2 ((((s1.trans .drop).trans s2).trans s4).trans .drop) r4.drop .refl .refl
end
/-! ### what is walked -/
structure ItD (K : PySem.W.Frag) (G : Hp) (J : It) (ds : List PyData) : Prop where
  go : ∀ G' H' (i : Nat), Same G G' → Same G' H' → i < ds.length → J.go i H'
  yld : ∀ G' H' (i : Nat) x H2, Same G G' → Same G' H' → i < ds.length → J.yld i H' x H2 → ∃ d, ds[i]? = some d ∧ Res K G' H' x H2 d
  stop : ∀ G' H', Same G G' → Same G' H' → J.stop ds.length H'
abbrev PIx := List Sl → (List PyData → List Sl → Prop) → Prop
def LI (K : PySem.W.Frag) (B : Bas) (p : PIx) : TI := fun σ H R => ∃ G w δ Qp, Rep K B G H σ δ [] [] w ∧ p δ Qp ∧ ∀ ds δ' J H' G' w', Qp ds δ' → Stp B.T G H w δ G' H' w' δ' → Rep K B G' H' σ δ' [] [] w' → ItD K G' J ds → R J H'
def JI (X : Cx) (B : Bas) (tg iter : Expr) (p : PIx) : Prop := PI X tg iter (LI X.K B p)
theorem PI_wk {X : Cx} {tg iter : Expr} {t t' : TI} (h : PI X tg iter t) (k : ∀ σ H R, t' σ H R → t σ H R) : PI X tg iter t' := ⟨fun pins s σ H R I q => h.run pins s σ H R I (k σ H R q)⟩
theorem itd_list {K : PySem.W.Frag} {G : Hp} {a : Addr} {us : List V} {ds : List PyData} (ha : G a = some (.lst us)) (hd : DqAll K G us ds) : ItD K G (Itl K a) ds where
  go := fun G' H' i sg sh hi => by
    have hl := dqAll_len hd
    exact ⟨us, us[i]'(by omega), SqL.of (sh _ _ (sg _ _ ha)), by simp⟩
  yld := fun G' H' i x H2 sg sh hi y => by
    obtain ⟨rfl, y⟩ := y
    obtain ⟨v, hv, hq⟩ := dqAll_get hd (List.getElem?_eq_getElem hi)
    have e := y us (SqL.of (sh _ _ (sg _ _ ha)))
    rw [hv] at e
    cases e
    exact ⟨_, List.getElem?_eq_getElem hi, .old (dp_mono sg _ _ hq)⟩
  stop := fun G' H' sg sh => ⟨us, SqL.of (sh _ _ (sg _ _ ha)), by rw [dqAll_len hd]; exact Nat.le_refl _⟩
theorem itd_tup {K : PySem.W.Frag} {G : Hp} {a : Addr} {us : List V} {ds : List PyData} (ha : SqT K G a us) (hd : DqAll K G us ds) : ItD K G (Itt K a) ds where
  go := fun G' H' i sg sh hi => by
    have hl := dqAll_len hd
    exact ⟨us, us[i]'(by omega), Same.tp sh _ _ (Same.tp sg _ _ ha), by simp⟩
  yld := fun G' H' i x H2 sg sh hi y => by
    obtain ⟨rfl, y⟩ := y
    obtain ⟨v, hv, hq⟩ := dqAll_get hd (List.getElem?_eq_getElem hi)
    have e := y us (Same.tp sh _ _ (Same.tp sg _ _ ha))
    rw [hv] at e
    cases e
    exact ⟨_, List.getElem?_eq_getElem hi, .old (dp_mono sg _ _ hq)⟩
  stop := fun G' H' sg sh => ⟨us, Same.tp sh _ _ (Same.tp sg _ _ ha), by rw [dqAll_len hd]; exact Nat.le_refl _⟩
theorem itd_rng {K : PySem.W.Frag} {G : Hp} {a b : Int} : ItD K G (Itr a (b - a).toNat) (rgD a b) where
  go := fun G' H' i _ _ hi => by
    unfold rgD at hi
    rw [List.length_map, List.length_range] at hi
    exact hi
  yld := fun G' H' i x H2 _ _ hi y => by
    obtain ⟨rfl, rfl⟩ := y
    unfold rgD at hi ⊢
    rw [List.length_map, List.length_range] at hi
    exact ⟨.int (a + (i : Nat)), by rw [List.getElem?_map, List.getElem?_range hi]; rfl, .int⟩
  stop := fun G' H' _ _ => by
    unfold rgD
    rw [List.length_map, List.length_range]
    exact Nat.le_refl _
section
variable {X : Cx} {tg l a b : Expr} {pl pa pb : PX} {p pos : Pos}
/-- a list or a tuple -/
def iSeqU (K : PySem.W.Frag) (tl : TE) : TI := fun σ H R => tl σ H fun x H1 => ∃ a, x = .ref a ∧ (((∃ xs, SqL K H1 a xs) ∧ R (Itl K a) H1) ∨ ((∃ xs, SqT K H1 a xs) ∧ R (Itt K a) H1))
theorem pi_seqU {tl : TE} (hl : PE X l tl) : PI X tg l (iSeqU X.K tl) := by
  refine ⟨fun pins s σ H R I h => ?_⟩
  refine thn (hl.run pins s σ H _ I h) fun v s1 ⟨x, H1, I1, r1, q1⟩ => ?_
  obtain ⟨a, e, ⟨⟨xs, hq⟩, q⟩ | ⟨⟨xs, hq⟩, q⟩⟩ := q1
  · subst e
    cases r1
    obtain ⟨its, rv, p, hz⟩ := I1.list hq
    refine wpAny_pyIter_list p.isList ?_
    refine ⟨s1.heap.objs.size, [s1.heap.objs.size], _, _, H1, rfl, I1.kept (t' := s1.toks) fun b o e => Heap.get?_push_of_some _ e, turn_list a _, ⟨_, Heap.get?_push_size _ rfl, rfl, rfl⟩, fun b hb => ?_, q⟩
    have e : b = s1.heap.objs.size := by simpa using hb
    subst e
    exact I1.fpOk (Nat.le_refl _) (I1.hok.fresh (Nat.le_refl _))
  · subst e
    cases r1
    obtain ⟨its, rv, p, hz⟩ := I1.tuple hq
    refine wpAny_pyIter_tuple (show s1.heap.IsTuple a its.toArray from p) ?_
    refine ⟨s1.heap.objs.size, [s1.heap.objs.size], _, _, H1, rfl, I1.kept (t' := s1.toks) fun b o e => Heap.get?_push_of_some _ e, turn_tuple a _, ⟨_, Heap.get?_push_size _ rfl, rfl, rfl⟩, fun b hb => ?_, q⟩
    have e : b = s1.heap.objs.size := by simpa using hb
    subst e
    exact I1.fpOk (Nat.le_refl _) (I1.hok.fresh (Nat.le_refl _))
def seqD : PyData → Option (List PyData)
  | .list ds => some ds
  | .tuple ds => some ds
  | _ => none
def iSeq (p : PX) : PIx := fun δ Q => p δ fun r δ1 => ∃ d δ2 ds, fz δ1 r = some (d, δ2) ∧ seqD d = some ds ∧ Q ds δ2
theorem ji_seq (hl : JE X B l pl) : JI X B tg l (iSeq pl) := PI_wk (pi_seqU hl) fun σ H R ⟨G, w, δ, Qp, rep, q, k⟩ =>
  ⟨G, w, δ, _, rep, q, fun r δ1 v H1 G1 w1 q1 s1 rep1 => by
    obtain ⟨d, δ2, ds, hz, hs, q1⟩ := q1
    obtain ⟨G2, w2, s2, r2⟩ := rep1.fz1 (j := 0) rfl rfl hz
    have hd : Dq X.K G2 v d := r2.tm 0 v (.im d) rfl rfl
    cases d with
    | list es =>
      cases hs
      cases hd with
      | lst ha hds => exact ⟨_, rfl, .inl ⟨⟨_, SqL.of (r2.sub _ _ ha)⟩, k ds δ2 _ H1 G2 _ q1 ((s1.trans s2).trans .drop) r2.drop (itd_list ha hds)⟩⟩
    | tuple es =>
      cases hs
      cases hd with
      | tup ha hds => exact ⟨_, rfl, .inr ⟨⟨_, Same.tp r2.sub _ _ ha⟩, k ds δ2 _ H1 G2 _ q1 ((s1.trans s2).trans .drop) r2.drop (itd_tup ha hds)⟩⟩
    | none => cases hs
    | bool _ => cases hs
    | int _ => cases hs
    | str _ => cases hs
    | dict _ => cases hs⟩
def iRg (ps : PL) : PIx := fun δ Q => ps δ fun rs δ1 => match dats δ1 rs with
  | some [.int n] => -(2 ^ 62) ≤ n ∧ n < 2 ^ 62 ∧ Q (rgD 0 n) δ1
  | some [.int i, .int j] => (-(2 ^ 62) ≤ i ∧ i < 2 ^ 62 ∧ -(2 ^ 62) ≤ j ∧ j < 2 ^ 62) ∧ Q (rgD i j) δ1
  | _ => False
theorem vws1 {K : PySem.W.Frag} {G H : Hp} {vs : List V} {i : Int} (h : Vws K G H vs [.int i]) : vs = [.int i] := by
  cases h with
  | cons h1 h => cases h; rw [h1.int]
theorem vws2 {K : PySem.W.Frag} {G H : Hp} {vs : List V} {i j : Int} (h : Vws K G H vs [.int i, .int j]) : vs = [.int i, .int j] := by
  cases h with
  | cons h1 h =>
    cases h with
    | cons h2 h => cases h; rw [h1.int, h2.int]
theorem vws_len {K : PySem.W.Frag} {G H : Hp} : ∀ {vs : List V} {ds : List PyData}, Vws K G H vs ds → vs.length = ds.length
  | _, _, .nil => rfl
  | _, _, .cons _ h => congrArg (· + 1) (vws_len h)
theorem ji_rng1 {ps : PL} (hg : Gl X "range") (hm : X.mg "range" = none) (ha : JA X B [a] ps) (hs : starEach [a] X.env = [(false, eval a X.env)] := by rfl) : JI X B tg (.Call (.Name "range" p) [a] [] pos) (iRg ps) := by
  refine PI_wk (pi_range1 hg hm ha hs) fun σ H R ⟨G, w, δ, Qp, rep, q, k⟩ => ?_
  refine ⟨G, w, δ, _, rep, q, fun rs δ1 vs H1 G1 w1 q1 l1 s1 rep1 => ?_⟩
  revert q1
  split
  · rename_i n e
    rintro ⟨b1, b2, q1⟩
    refine ⟨n, vws1 (rep1.vws e), b1, b2, k _ δ1 _ H1 G1 _ q1 (s1.trans .drop) rep1.drop ?_⟩
    have := itd_rng (K := X.K) (G := G1) (a := 0) (b := n)
    rwa [Int.sub_zero] at this
  · rename_i i j e
    intro q1
    have := vws_len (rep1.vws e)
    rw [rep1.tlen, l1] at this
    simp at this
  · intro q1; exact q1.elim
/-! ### for, while -/
/-- the slots ts are forgotten -/
def wp1 : Bool → Sl → Sl
  | true, .ow true o => .ow true o
  | true, _ => .un
  | false, s => s
def wpG (ts : List Nat) : Nat → List Sl → List Sl
  | _, [] => []
  | n, s :: δ => wp1 (ts.elem n) s :: wpG ts (n + 1) δ
def wipeT (δ : List Sl) (ts : List Nat) : List Sl := wpG ts 0 δ
theorem wpG_get (ts : List Nat) : ∀ (δ : List Sl) (n i : Nat), (wpG ts n δ)[i]? = (δ[i]?).map fun s => wp1 (ts.elem (n + i)) s
  | [], n, i => by simp [wpG]
  | s :: δ, n, 0 => by simp [wpG]
  | s :: δ, n, i + 1 => by
    simp only [wpG, List.getElem?_cons_succ, wpG_get ts δ (n + 1) i]
    have : n + 1 + i = n + (i + 1) := by omega
    rw [this]
theorem wpG_len (ts : List Nat) : ∀ (δ : List Sl) (n : Nat), (wpG ts n δ).length = δ.length
  | [], _ => rfl
  | s :: δ, n => by simp only [wpG, List.length_cons, wpG_len ts δ (n + 1)]
theorem wipeT_len (δ : List Sl) (ts : List Nat) : (wipeT δ ts).length = δ.length := wpG_len ts δ 0
theorem wipeT_get {δ : List Sl} {i : Nat} {s : Sl} {ts : List Nat} (h : (wipeT δ ts)[i]? = some s) : s = .un ∨ δ[i]? = some s := by
  unfold wipeT at h
  rw [wpG_get] at h
  obtain ⟨s', h1, rfl⟩ := Option.map_eq_some_iff.mp h
  cases hb : ts.elem (0 + i) with
  | false => exact .inr h1
  | true =>
    cases s' with
    | un => exact .inl rfl
    | im d => exact .inl rfl
    | ex a dd C fs => exact .inl rfl
    | ow b o =>
      cases b with
      | true => exact .inr h1
      | false => exact .inl rfl
theorem wipeT_pin {δ : List Sl} {i : Nat} {o : O} (h : δ[i]? = some (Sl.ow true o)) (ts : List Nat) : (wipeT δ ts)[i]? = some (Sl.ow true o) := by
  unfold wipeT
  rw [wpG_get, h]
  cases hb : ts.elem (0 + i) with
  | false => rfl
  | true => rfl
theorem Rep.wipe {K : PySem.W.Frag} {G H : Hp} {σ : St} {δ : List Sl} {w : Addr → Option Nat} (r : Rep K B G H σ δ [] [] w) (ts : List Nat) : Rep K B G H σ (wipeT δ ts) [] [] w := ⟨r.sub, r.out, by rw [wipeT_len]; exact r.len, fun i s h => by
  rcases wipeT_get h with rfl | h
  · trivial
  · exact r.sl i s h, rfl, fun j v q hv => by simp at hv, r.bs⟩
theorem Stp.wipe {G H G' H' : Hp} {w w' : Addr → Option Nat} {δ δ' : List Sl} (s : Stp B.T G H w δ G' H' w' δ') (ts : List Nat) : Stp B.T G H w δ G' H' w' (wipeT δ' ts) := ⟨s.g, s.b, s.n, s.p, fun i o h => by
  obtain ⟨o', h'⟩ := s.pn i o h
  exact ⟨o', wipeT_pin h' ts⟩, s.t, s.q⟩
/-- turn by turn, by a word I; ts: the slots that no later turn reads -/
def loopI (step : PyData → PSx) (ts : List Nat) (E : PEn) (ds : List PyData) (δ : List Sl) : Prop := ∃ I : Nat → List Sl → Prop, I 0 δ ∧
  (∀ (i : Nat) d δ, ds[i]? = some d → I i δ → step d ⟨fun δ' => I (i + 1) (wipeT δ' ts), E.rt, fun δ' => E.nx (wipeT δ' ts), fun δ' => I (i + 1) (wipeT δ' ts)⟩ δ) ∧ ∀ δ, I ds.length δ → E.nx δ
def pFor (ts : List Nat) (it : PIx) (g : PGx) (body : PSx) : PSx := fun E δ => it δ fun ds δ1 => loopI (fun d E δ => g d δ fun δ' => body E δ') ts E ds (wipeT δ1 ts)
theorem Rep.res {K : PySem.W.Frag} {G H H2 : Hp} {σ : St} {δ : List Sl} {vs : List V} {rs : List R} {w : Addr → Option Nat} {x : V} {d : PyData} (r : Rep K B G H σ δ vs rs w) (h : Res K G H x H2 d) : ∃ G2, Stp B.T G H w δ G2 H2 w δ ∧ Rep K B G2 H2 σ δ vs rs w ∧ Dq K G2 x d := by
  rcases h with ⟨rfl, h⟩ | ⟨p, us, l, rfl, hp, rfl, hd, rfl⟩
  · exact ⟨G, .refl, r, h⟩
  · obtain ⟨s1, r1⟩ := r.lay (o := .tup us) hp
    exact ⟨_, s1, r1, dq_newTup r.sub hp hd⟩
theorem js_for {iter : Expr} {body : List Stmt} {pi : PIx} {ts ts' : List Nat} {g : PGx} {pb : PSx} (hp : PassesOwn (model X.prog X.w) X.A X.env X.xe) (hc : X.calm = true) (hi : JI X B tg iter pi) (hg : JG X B tg ts' g) (hb : JSs X B body pb)
    (hs : ∀ x, foldedSetIterable iter X.env x = pure x := by intro _; rfl) : JS X B (.For tg iter body [] pos) (pFor ts pi g pb) := by
  refine PS_wk (ps_for hp hc hi hg hb (by assumption)) fun D σ H ⟨G, w, δ, E, rep, h, ek⟩ => ?_
  refine ⟨G, w, δ, _, rep, h, fun ds δ1 J H1 G1 w1 q1 s1 rep1 itd => ?_⟩
  obtain ⟨I, i0, is, ie⟩ := q1
  refine ⟨fun i m σ' H' => m = ds.length - i ∧ i ≤ ds.length ∧ ∃ G' w' δ', Stp B.T G H w δ G' H' w' δ' ∧ Same G1 G' ∧ Rep X.K B G' H' σ' δ' [] [] w' ∧ Pin σ δ σ' ∧ I i δ', ⟨ds.length, rfl, Nat.zero_le _, G1, w1, _, s1.wipe ts, fun _ _ h => h, rep1.wipe ts, .refl, i0⟩, ?_⟩
  rintro i m σ' H' ⟨rfl, hi, G', w', δ', st, sg, rp, pn, q⟩
  by_cases hlt : i < ds.length
  · have q := is i _ δ' (List.getElem?_eq_getElem hlt) q
    refine .inr ⟨itd.go G' H' i sg rp.sub hlt, fun σ2 H2 => i + 1 ≤ ds.length ∧ ∃ G' w' δ', Stp B.T G H w δ G' H2 w' δ' ∧ Same G1 G' ∧ Rep X.K B G' H2 σ2 δ' [] [] w' ∧ Pin σ δ σ2 ∧ I (i + 1) δ', fun σ2 H2 z => ⟨ds.length - (i + 1), by omega, rfl, z⟩, fun x H2 y => ?_⟩
    obtain ⟨d, hd, res⟩ := itd.yld G' H' i x H2 sg rp.sub hlt y
    rw [List.getElem?_eq_getElem hlt] at hd
    cases hd
    obtain ⟨G2, s2, r2, hq⟩ := rp.res res
    refine ⟨G2, w', δ', _, _, r2, hq, q, fun δ3 σ3 H3 G3 w3 q3 s3 r3 p3 _ => ⟨G3, w3, δ3, _, r3, q3, ?_⟩⟩
    have st3 := (st.trans s2).trans s3
    have pn3 : Pin σ δ σ3 := pn.trans (st.trans s2).pn p3
    have nx : ∀ δ4 σ4 H4 G4 w4, I (i + 1) (wipeT δ4 ts) → Stp B.T G3 H3 w3 δ3 G4 H4 w4 δ4 → Rep X.K B G4 H4 σ4 δ4 [] [] w4 → Pin σ3 δ3 σ4 → i + 1 ≤ ds.length ∧ ∃ G' w' δ', Stp B.T G H w δ G' H4 w' δ' ∧ Same G1 G' ∧ Rep X.K B G' H4 σ4 δ' [] [] w' ∧ Pin σ δ σ4 ∧ I (i + 1) δ' :=
      fun δ4 σ4 H4 G4 w4 hl s4 r4 p4 => ⟨hlt, G4, w4, _, (st3.trans s4).wipe ts, fun a o ha => s4.g a o (s3.g a o (s2.g a o (sg a o ha))), r4.wipe ts, pn3.trans st3.pn p4, hl⟩
    exact ⟨nx, (ek.later st3 pn3).rt, fun δ4 σ4 H4 G4 w4 hl s4 r4 p4 => ek.nx _ σ4 H4 G4 w4 hl ((st3.trans s4).wipe ts) (r4.wipe ts) (pn3.trans st3.pn p4), nx⟩
  · have ei : i = ds.length := by omega
    subst ei
    exact .inl ⟨itd.stop G' H' sg rp.sub, ek.nx δ' σ' H' G' w' (ie δ' q) st rp pn⟩
/-- while: by a word and a number that falls -/
def pWhile (ts : List Nat) (c : PB) (body : PSx) : PSx := fun E δ => ∃ I : Nat → List Sl → Prop, (∃ m, I m (wipeT δ ts)) ∧ ∀ m δ, I m δ → c δ fun t δ1 => if t = true then body ⟨fun δ' => ∃ m', m' < m ∧ I m' (wipeT δ' ts), E.rt, fun δ' => E.nx (wipeT δ' ts), fun δ' => ∃ m', m' < m ∧ I m' (wipeT δ' ts)⟩ δ1 else E.nx δ1
theorem js_while {c : Expr} {body : List Stmt} {ts : List Nat} {pc : PB} {pb : PSx} (hp : PassesOwn (model X.prog X.w) X.A X.env X.xe) (hc : JB X B c pc) (hb : JSs X B body pb) : JS X B (.While c body [] pos) (pWhile ts pc pb) := by
  refine PS_wk (ps_while hp hc hb) fun D σ H ⟨G, w, δ, E, rep, ⟨I, ⟨n, h⟩, is⟩, ek⟩ => ?_
  refine ⟨fun m σ' H' => ∃ G' w' δ', Stp B.T G H w δ G' H' w' δ' ∧ Rep X.K B G' H' σ' δ' [] [] w' ∧ Pin σ δ σ' ∧ I m δ', ⟨n, G, w, _, (Stp.refl (δ := δ)).wipe ts, rep.wipe ts, .refl, h⟩, ?_⟩
  rintro m σ' H' ⟨G', w', δ', st, rp, pn, q⟩
  refine ⟨G', w', δ', _, rp, is m δ' q, fun t δ1 H1 G1 w1 q1 s1 rep1 => ?_⟩
  cases t with
  | false => exact ek.nx δ1 σ' H1 G1 w1 q1 (st.trans s1) rep1 pn
  | true =>
    refine ⟨fun σ2 H2 => ∃ m', m' < m ∧ ∃ G' w' δ', Stp B.T G H w δ G' H2 w' δ' ∧ Rep X.K B G' H2 σ2 δ' [] [] w' ∧ Pin σ δ σ2 ∧ I m' δ', fun σ2 H2 z => z, G1, w1, δ1, _, rep1, q1, ?_⟩
    have st3 := st.trans s1
    have nx : ∀ δ4 σ4 H4 G4 w4, (∃ m', m' < m ∧ I m' (wipeT δ4 ts)) → Stp B.T G1 H1 w1 δ1 G4 H4 w4 δ4 → Rep X.K B G4 H4 σ4 δ4 [] [] w4 → Pin σ' δ1 σ4 → ∃ m', m' < m ∧ ∃ G' w' δ', Stp B.T G H w δ G' H4 w' δ' ∧ Rep X.K B G' H4 σ4 δ' [] [] w' ∧ Pin σ δ σ4 ∧ I m' δ' :=
      fun δ4 σ4 H4 G4 w4 ⟨m', hm, hl⟩ s4 r4 p4 => ⟨m', hm, G4, w4, _, (st3.trans s4).wipe ts, r4.wipe ts, pn.trans st3.pn p4, hl⟩
    exact ⟨nx, (ek.later st3 pn).rt, fun δ4 σ4 H4 G4 w4 hl s4 r4 p4 => ek.nx _ σ4 H4 G4 w4 hl ((st3.trans s4).wipe ts) (r4.wipe ts) (pn.trans st3.pn p4), nx⟩
end
end Pv
namespace Pv
open PySem PySem.Spec L2 Wf
variable {B : Bas}
theorem RR.noAt {K : PySem.W.Frag} {G H : Hp} {σ σ' : St} {m : Addr → Prop} {v : V} {r : R} (h : RR K G H σ m v r) (n : isAt r = false) : RR K G H σ' m v r := by
  cases r with
  | im d => exact h
  | ow o => exact h
  | «at» i => cases n
theorem Rep.reσ {K : PySem.W.Frag} {G H : Hp} {σ σ' : St} {δ δ' : List Sl} {vs : List V} {rs : List R} {w : Addr → Option Nat} (r : Rep K B G H σ δ vs rs w) (hl : σ'.length = δ'.length) (hs : ∀ (i : Nat) s, δ'[i]? = some s → s = .un ∨ (δ[i]? = some s ∧ σ'[i]? = σ[i]?)) (hn : ∀ q ∈ rs, isAt q = false) : Rep K B G H σ' δ' vs rs w where
  sub := r.sub
  out := r.out
  len := hl
  sl := fun i s h => by
    rcases hs i s h with rfl | ⟨h1, h2⟩
    · trivial
    · rw [h2]; exact r.sl i s h1
  tlen := r.tlen
  tm := fun j v q hv hq => (r.tm j v q hv hq).noAt (hn q (List.mem_of_getElem? hq))
  bs := r.bs
/-- the frame where slots were stored to -/
theorem Rep.frameS {K : PySem.W.Frag} {G H G' H' : Hp} {σ σ' : St} {δ δ' : List Sl} {vs vs1 : List V} {rs rs1 : List R} {w w' : Addr → Option Nat} (r : Rep K B G H σ δ vs rs w) (hn : ∀ q ∈ rs, isAt q = false) (s : Stp B.T G H (fun a => evn (w a)) δ G' H' w' δ') (r' : Rep K B G' H' σ' δ' vs1 rs1 w') :
    ∃ w2, Stp B.T G H w δ G' H' w2 δ' ∧ Rep K B G' H' σ' δ' (vs ++ vs1) (rs ++ rs1) w2 := by
  -- the same addresses
  have odd : ∀ a n, w a = some n → n % 2 = 1 → w' a = none := fun a n h ho => by
    have e0 : evn (w a) = none := by
      cases e : evn (w a) with
      | none => rfl
      | some m =>
        have := evn_some.mp e
        rw [h] at this
        have z := this.1
        cases z
        omega
    obtain ⟨g0, h0, n0⟩ := r.out a n h
    cases e : w' a with
    | none => rfl
    | some i =>
      rcases s.n a i e with z | z
      · exact absurd e0 z
      · exact absurd z h0
  have evw : ∀ a i, w' a = some i → ∀ n, w a = some n → n % 2 = 0 := fun a i h n hn => by
    by_cases ho : n % 2 = 1
    · rw [odd a n hn ho] at h; cases h
    · omega
  have st : Stp B.T G H w δ G' H' (both rs.length w w') δ' := by
    refine ⟨s.g, fun a o hw ha => s.b a o (by show evn (w a) = none; rw [hw]; rfl) ha, fun a i h => ?_, fun a o h => ?_, s.pn, s.t, s.q⟩
    · cases e : w a with
      | some n => exact .inl (Option.some_ne_none _)
      | none =>
        have e1 : both rs.length w w' a = shf rs.length (w' a) := both_evn fun n hn => by rw [e] at hn; cases hn
        rw [e1] at h
        obtain ⟨m, hm, _⟩ := shf_some h
        rcases s.n a m hm with z | z
        · have z' := evn_ne z
          rw [e] at z'
          exact .inl z'
        · exact .inr z
    · rcases s.p a o h with z | z | z | z
      · exact .inl z
      · exact .inr (.inl z)
      · exact .inr (.inr (.inl (evn_ne z)))
      · exact .inr (.inr (.inr z))
  refine ⟨both rs.length w w', st, r'.sub, fun a i h => ?_, r'.len, fun i sl h => ?_, by rw [List.length_append, List.length_append, r.tlen, r'.tlen], fun j v q hv hr => ?_, st.bs r.bs⟩
  · by_cases ho : ∃ n, w a = some n ∧ n % 2 = 1
    · obtain ⟨n, hn', ho⟩ := ho
      have e0 : evn (w a) = none := by
        rw [hn']
        unfold evn
        dsimp only
        rw [if_neg (by omega)]
      obtain ⟨g0, h0, n0⟩ := r.out a n hn'
      refine ⟨?_, s.nn a e0 h0 n0⟩
      cases e3 : G' a with
      | none => rfl
      | some o =>
        rcases s.p a o e3 with z | z | z | ⟨xs, z⟩
        · rw [g0] at z; cases z
        · exact absurd z h0
        · exact absurd e0 z
        · exact absurd z (n0 xs)
    · have e1 : both rs.length w w' a = shf rs.length (w' a) := both_evn fun n hn => by
        by_cases z : n % 2 = 1
        · exact absurd ⟨n, hn, z⟩ ho
        · omega
      rw [e1] at h
      obtain ⟨m, hm, _⟩ := shf_some h
      exact r'.out a m hm
  · refine (r'.sl i sl h).mono (fun _ _ h => h) (fun _ _ _ h => h) fun a u ma _ => ?_
    rw [both_evn (evw a _ ma)]
    unfold shf
    rw [ma]
    dsimp only
    rw [if_pos (by omega)]
  · by_cases hj : j < vs.length
    · rw [List.getElem?_append_left hj] at hv
      rw [List.getElem?_append_left (by rw [← r.tlen]; exact hj)] at hr
      refine ((r.tm j v q hv hr).noAt (σ' := σ') (hn q (List.mem_of_getElem? hr))).monoN s.g (fun a u hnt ma hu => ?_) fun a u ma _ => both_odd ma (by omega)
      refine s.bN a u hnt ?_ hu
      show evn (w a) = none
      rw [ma]
      unfold evn
      dsimp only
      rw [if_neg (by omega)]
    · have hj : vs.length ≤ j := by omega
      rw [List.getElem?_append_right hj] at hv
      rw [List.getElem?_append_right (by rw [← r.tlen]; exact hj), ← r.tlen] at hr
      refine (r'.tm (j - vs.length) v q hv hr).mono (fun _ _ h => h) (fun _ _ _ h => h) fun a u ma _ => ?_
      rw [both_evn (evw a _ ma)]
      unfold shf
      rw [ma]
      dsimp only
      rw [if_neg (by omega), r.tlen.symm]
      congr 1
      omega
/-! ### comprehensions -/
def wipeS (δ : List Sl) : List Nat → List Sl
  | [] => δ
  | v :: vs => (wipeS δ vs).set v .un
def noPin (δ : List Sl) (vs : List Nat) : Prop := ∀ v ∈ vs, ∀ o, δ[v]? ≠ some (.ow true o)
def restS (δ0 δ : List Sl) : List Nat → List Sl
  | [] => δ
  | v :: vs => match δ0[v]? with
    | some (.im d) => (restS δ0 δ vs).set v (.im d)
    | _ => (restS δ0 δ vs).set v .un
theorem wipeS_len (δ : List Sl) : ∀ vs, (wipeS δ vs).length = δ.length
  | [] => rfl
  | v :: vs => by unfold wipeS; rw [List.length_set, wipeS_len δ vs]
theorem wipeS_get {δ : List Sl} {i : Nat} {s : Sl} : ∀ {vs : List Nat}, (wipeS δ vs)[i]? = some s → s = .un ∨ (δ[i]? = some s ∧ i ∉ vs)
  | [], h => .inr ⟨h, by simp⟩
  | v :: vs, h => by
    unfold wipeS at h
    by_cases hi : v = i
    · subst hi
      by_cases hv : v < (wipeS δ vs).length
      · rw [List.getElem?_set_self hv] at h; cases h; exact .inl rfl
      · rw [List.getElem?_eq_none (by simpa using hv)] at h; cases h
    · rw [List.getElem?_set_ne hi] at h
      rcases wipeS_get h with e | ⟨h1, h2⟩
      · exact .inl e
      · exact .inr ⟨h1, by simp only [List.mem_cons, not_or]; exact ⟨fun e => hi e.symm, h2⟩⟩
theorem wipeS_ne {δ : List Sl} {i : Nat} : ∀ {vs : List Nat}, i ∉ vs → (wipeS δ vs)[i]? = δ[i]?
  | [], _ => rfl
  | v :: vs, h => by
    simp only [List.mem_cons, not_or] at h
    unfold wipeS
    rw [List.getElem?_set_ne (Ne.symm h.1)]
    exact wipeS_ne h.2
theorem wipe_ne {σ : St} {i : Nat} : ∀ {vs : List Nat}, i ∉ vs → (wipe σ vs)[i]? = σ[i]?
  | [], _ => rfl
  | v :: vs, h => by
    simp only [List.mem_cons, not_or] at h
    unfold wipe
    rw [List.getElem?_set_ne (Ne.symm h.1)]
    exact wipe_ne h.2
theorem wipe_in {σ : St} {i : Nat} : ∀ {vs : List Nat}, i ∈ vs → i < σ.length → (wipe σ vs)[i]? = some none
  | [], h, _ => by cases h
  | v :: vs, h, hl => by
    unfold wipe
    by_cases e : v = i
    · subst e
      rw [List.getElem?_set_self (by rw [wipe_length]; exact hl)]
    · rw [List.getElem?_set_ne e]
      rcases List.mem_cons.mp h with z | z
      · exact absurd z.symm e
      · exact wipe_in z hl
theorem wipe_eq {σ σ' : St} {vs ts : List Nat} (t : Tch ts (wipe σ vs) σ') (h : ∀ i ∈ ts, i ∈ vs) : wipe σ' vs = wipe σ vs := by
  have hl : σ'.length = σ.length := by rw [t.1, wipe_length]
  apply List.ext_getElem?
  intro i
  by_cases hi : i ∈ vs
  · by_cases hb : i < σ.length
    · rw [wipe_in hi hb, wipe_in hi (by omega)]
    · rw [List.getElem?_eq_none (by rw [wipe_length]; omega), List.getElem?_eq_none (by rw [wipe_length]; omega)]
  · rw [wipe_ne hi, wipe_ne hi, t.2 i fun z => hi (h i z), wipe_ne hi]
theorem restS_ne {δ0 δ : List Sl} {i : Nat} : ∀ {vs : List Nat}, i ∉ vs → (restS δ0 δ vs)[i]? = δ[i]?
  | [], _ => rfl
  | v :: vs, h => by
    simp only [List.mem_cons, not_or] at h
    unfold restS
    split
    · rw [List.getElem?_set_ne (Ne.symm h.1)]; exact restS_ne h.2
    · rw [List.getElem?_set_ne (Ne.symm h.1)]; exact restS_ne h.2
theorem restS_len {δ0 δ : List Sl} : ∀ vs, (restS δ0 δ vs).length = δ.length
  | [] => rfl
  | v :: vs => by
    unfold restS
    split
    · rw [List.length_set, restS_len vs]
    · rw [List.length_set, restS_len vs]
theorem restS_in {δ0 δ : List Sl} {i : Nat} {s : Sl} : ∀ {vs : List Nat}, i ∈ vs → (restS δ0 δ vs)[i]? = some s → s = .un ∨ ∃ d, s = .im d ∧ δ0[i]? = some (.im d)
  | [], h, _ => by cases h
  | v :: vs, h, hs => by
    unfold restS at hs
    by_cases e : v = i
    · subst e
      revert hs
      split
      · rename_i d e0
        intro hs
        by_cases hb : v < (restS δ0 δ vs).length
        · rw [List.getElem?_set_self hb] at hs; cases hs; exact .inr ⟨d, rfl, e0⟩
        · rw [List.getElem?_eq_none (by simpa using hb)] at hs; cases hs
      · intro hs
        by_cases hb : v < (restS δ0 δ vs).length
        · rw [List.getElem?_set_self hb] at hs; cases hs; exact .inl rfl
        · rw [List.getElem?_eq_none (by simpa using hb)] at hs; cases hs
    · have hm : i ∈ vs := by
        rcases List.mem_cons.mp h with z | z
        · exact absurd z.symm e
        · exact z
      revert hs
      split
      · intro hs; rw [List.getElem?_set_ne e] at hs; exact restS_in hm hs
      · intro hs; rw [List.getElem?_set_ne e] at hs; exact restS_in hm hs
/-- turn by turn, by a word I over what is made so far -/
def compI (g : PGx) (tt : PB) (elt : PX) (vs : List Nat) (Kk : List PyData → List Sl → Prop) (ds : List PyData) (δ : List Sl) : Prop := ∃ I : Nat → List PyData → List Sl → Prop, I 0 [] δ ∧
  (∀ (i : Nat) d acc δ, ds[i]? = some d → I i acc δ → g d δ fun δ2 => tt δ2 fun b δ3 => if b = true then elt δ3 fun r δ4 => ∃ e δ5, fz δ4 r = some (e, δ5) ∧ acc.length < sizeLine ∧ I (i + 1) (acc ++ [e]) (wipeS δ5 vs) else I (i + 1) acc (wipeS δ3 vs)) ∧ ∀ acc δ, I ds.length acc δ → Kk acc δ
def pComp (it : PIx) (g : PGx) (tt : PB) (elt : PX) (vs : List Nat) : PX := fun δ Q => it δ fun ds δ1 => noPin δ1 vs ∧ compI g tt elt vs (fun acc δ2 => Q (.ow (.lst acc)) (restS δ1 δ2 vs)) ds (wipeS δ1 vs)
def pYes : PB := fun δ Q => Q true δ
theorem Stp.reδ {G H G' H' : Hp} {w w' : Addr → Option Nat} {δ δ' δ2 : List Sl} (s : Stp B.T G H w δ G' H' w' δ') (p : Pn δ δ2) : Stp B.T G H w δ G' H' w' δ2 := ⟨s.g, s.b, s.n, s.p, p, s.t, s.q⟩
section
variable {K : PySem.W.Frag} {G H : Hp} {σ : St} {δ : List Sl} {vs : List V} {rs : List R} {w : Addr → Option Nat}
theorem Rep.wrT {D : Addr} {ds ds' : List PyData} {us' : List V} (r : Rep K B G H σ δ (.ref D :: vs) (.ow (.lst ds) :: rs) w) (hd : DqAll K G us' ds') :
    ∃ us, H D = some (.lst us) ∧ DqAll K G us ds ∧ Stp B.T G H w δ G (upd H D (.lst us')) w δ ∧ Rep K B G (upd H D (.lst us')) σ δ (.ref D :: vs) (.ow (.lst ds') :: rs) w := by
  obtain ⟨a, us, e, ma, ha, hus⟩ := r.tm 0 _ _ rfl rfl
  cases e
  have hw : w D = some 1 := ma
  have ne : ∀ x n, w x = some n → n ≠ 1 → x ≠ D := fun x n hx hn z => by subst z; rw [hw] at hx; cases hx; exact hn rfl
  have g0 := (r.out D _ hw).1
  have st : Stp B.T G H w δ G (upd H D (.lst us')) w δ := by
    refine .of ⟨fun _ _ h => h, fun x o hx ho => ?_, fun x n hx => .inl (by rw [hx]; exact Option.some_ne_none _), fun _ _ h => .inl h, .refl _⟩ (tabs_put ha)
    rw [upd_ne (fun z => by subst z; rw [hw] at hx; cases hx)]
    exact ho
  refine ⟨us, ha, hus, st, fun x o hx => ?_, fun x n hx => ?_, r.len, fun k s hk => ?_, r.tlen, fun j v q hv hq => ?_, st.bs r.bs⟩
  · have : x ≠ D := fun z => by subst z; rw [g0] at hx; cases hx
    rw [upd_ne this]
    exact r.sub x o hx
  · obtain ⟨h1, h2, h3⟩ := r.out x n hx
    by_cases e : x = D
    · subst e
      rw [upd_same]
      exact ⟨h1, Option.some_ne_none _, NoX.lst upd_same⟩
    · rw [upd_ne e]
      exact ⟨h1, h2, noT_upd e h3⟩
  · refine (r.sl k s hk).mono (fun _ _ h => h) (fun x u mx hu => ?_) fun x u mx _ => mx
    rw [upd_ne (ne x _ mx (by omega))]
    exact hu
  · match j with
    | 0 =>
      simp only [List.getElem?_cons_zero, Option.some.injEq] at hv hq
      subst hv hq
      exact ⟨D, us', rfl, hw, upd_same, hd⟩
    | j + 1 =>
      refine (r.tm (j + 1) v q (by simpa using hv) (by simpa using hq)).mono (fun _ _ h => h) (fun x u mx hu => ?_) fun x u mx _ => mx
      rw [upd_ne (ne x _ mx (by omega))]
      exact hu
theorem Rep.first {v : V} {q : R} (r : Rep K B G H σ δ (v :: vs) (q :: rs) w) : Rep K B G H σ δ [v] [q] w := ⟨r.sub, r.out, r.len, r.sl, rfl, fun j u p hu hp => by
  match j with
  | 0 => exact r.tm 0 u p (by simpa using hu) (by simpa using hp)
  | j + 1 => simp at hu, r.bs⟩
end
def JTs (X : Cx) (B : Bas) (ifs : List Expr) (p : PB) : Prop := PTs X ifs (LB X.K B p)
theorem PTs_wk {X : Cx} {ifs : List Expr} {t t' : TT} (h : PTs X ifs t) (k : ∀ σ H Q, t' σ H Q → t σ H Q) : PTs X ifs t' := ⟨fun pins s σ H Q I q => h.run pins s σ H Q I (k σ H Q q)⟩
theorem jts_nil {X : Cx} : JTs X B [] pYes := PTs_wk pts_nil fun σ H Q ⟨G, w, δ, Qp, rep, q, k⟩ => k true δ H G w q .refl rep
theorem jts_one {X : Cx} {c : Expr} {p : PB} (h : JB X B c p) : JTs X B [c] p := pts_one h
theorem lc_lift {K : PySem.W.Frag} {pi : PIx} {ts vs : List Nat} {g : PGx} {tt : PB} {elt : PX} {σ : St} {H : Hp} {Q : VK} (hts : ∀ i ∈ ts, i ∈ vs) (h : LE K B (pComp pi g tt elt vs) σ H Q) : tLc (LI K B pi) (LG K B ts g) (LB K B tt) (LE K B elt) vs σ H Q := by
  obtain ⟨G, w, δ, Qp, rep, q, k⟩ := h
  refine ⟨G, w, δ, _, rep, q, fun ds δ1 J H1 G1 w1 q1 s1 rep1 itd D hD => ?_⟩
  obtain ⟨np, I, i0, is, ie⟩ := q1
  obtain ⟨w2, s2, r2⟩ := rep1.retLst (us := []) (ds := []) hD .nil
  have noA : ∀ acc : List PyData, ∀ p ∈ [R.ow (.lst acc)], isAt p = false := fun acc p hp => by rw [List.mem_singleton.mp hp]; rfl
  have ni : ∀ (i : Nat) o, δ[i]? = some (Sl.ow true o) → i ∉ vs := fun i o hi => by
    obtain ⟨o1, h1⟩ := s1.pn i o hi
    exact fun z => np i z o1 h1
  have pnw : ∀ {G' H' : Hp} {w' : Addr → Option Nat} {δ' : List Sl}, Stp B.T G H w δ G' H' w' δ' → Stp B.T G H w δ G' H' w' (wipeS δ' vs) := fun s => s.reδ fun i o hi => by
    obtain ⟨o1, h1⟩ := s.pn i o hi
    exact ⟨o1, by rw [wipeS_ne (ni i o hi)]; exact h1⟩
  refine ⟨fun i m H' => m = ds.length - i ∧ i ≤ ds.length ∧ ∃ G' w' δ' acc, Stp B.T G H w δ G' H' w' δ' ∧ Same G1 G' ∧ Rep K B G' H' (wipe σ vs) δ' [.ref D] [.ow (.lst acc)] w' ∧ I i acc δ', ⟨ds.length, rfl, Nat.zero_le _, G1, w2, wipeS δ1 vs, [], pnw (s1.trans s2), fun _ _ h => h, r2.reσ (by rw [wipe_length, wipeS_len]; exact r2.len) (fun i s hi => ?_) (noA _), i0⟩, ?_⟩
  · rcases wipeS_get hi with e | ⟨e1, e2⟩
    · exact .inl e
    · exact .inr ⟨e1, wipe_ne e2⟩
  rintro i m H' ⟨rfl, hi, G', w', δ', acc, st, sg, rp, q⟩
  by_cases hlt : i < ds.length
  · have q := is i _ acc δ' (List.getElem?_eq_getElem hlt) q
    refine .inr ⟨itd.go G' H' i sg rp.sub hlt, fun H2 => i + 1 ≤ ds.length ∧ ∃ G' w' δ' acc, Stp B.T G H w δ G' H2 w' δ' ∧ Same G1 G' ∧ Rep K B G' H2 (wipe σ vs) δ' [.ref D] [.ow (.lst acc)] w' ∧ I (i + 1) acc δ', fun H2 z => ⟨ds.length - (i + 1), by omega, rfl, z⟩, fun x H2 y => ?_⟩
    obtain ⟨d, hd, res⟩ := itd.yld G' H' i x H2 sg rp.sub hlt y
    rw [List.getElem?_eq_getElem hlt] at hd
    cases hd
    obtain ⟨G2, s2, r2, hq⟩ := rp.res res
    refine ⟨G2, _, δ', _, _, r2.drop, hq, q, fun δ3 σ3 H3 G3 w3 q3 s3 r3 p3 t3 => ⟨wipe_eq t3 hts, ?_⟩⟩
    obtain ⟨w4, s4, r4⟩ := r2.frameS (noA _) s3 r3
    have back : ∀ {G9 H9 : Hp} {w9 : Addr → Option Nat} {δ9 : List Sl} {acc9 : List PyData}, Rep K B G9 H9 σ3 δ9 [.ref D] [.ow (.lst acc9)] w9 → Rep K B G9 H9 (wipe σ vs) (wipeS δ9 vs) [.ref D] [.ow (.lst acc9)] w9 := fun {G9 H9 w9 δ9 acc9} r9 => by
      refine r9.reσ ?_ (fun k s hk => ?_) (noA _)
      · rw [wipe_length, wipeS_len, ← r9.len, t3.1, wipe_length]
      · rcases wipeS_get hk with e | ⟨e1, e2⟩
        · exact .inl e
        · exact .inr ⟨e1, (t3.2 k fun z => e2 (hts k z)).symm⟩
    refine ⟨G3, _, δ3, _, r4.drop, q3, fun b δ5 H5 G5 w5 q5 s5 r5 => ?_⟩
    obtain ⟨w6, s6, r6⟩ := r4.frame s5 r5
    have st6 := ((st.trans s2).trans s4).trans s6
    have sg6 : Same G1 G5 := fun a o ha => s6.g a o (s4.g a o (s2.g a o (sg a o ha)))
    cases b with
    | false => exact ⟨hlt, G5, w6, _, acc, pnw st6, sg6, back r6, q5⟩
    | true =>
      refine ⟨G5, _, δ5, _, r6.drop, q5, fun r δ7 y H7 G7 w7 q7 s7 r7 => ?_⟩
      obtain ⟨w8, s8, r8⟩ := r6.frame s7 r7
      obtain ⟨e, δ9, hz, hl, q7⟩ := q7
      obtain ⟨G9, w9, s9, r9⟩ := r8.fz1 (j := 1) rfl rfl hz
      have r9' : Rep K B G9 H7 σ3 δ9 [.ref D, y] [.ow (.lst acc), .im e] w9 := r9
      have hy : Dq K G9 y e := r9'.tm 1 y (.im e) rfl rfl
      obtain ⟨a, us, ea, ma, ha, hus⟩ := r9'.tm 0 (.ref D) (.ow (.lst acc)) rfl rfl
      cases ea
      obtain ⟨us2, h2, h3, s10, r10⟩ := r9'.wrT (dqAll_append hus (.cons hy .nil))
      refine ⟨us, ha, by rw [dqAll_len hus]; exact hl, hlt, G9, w9, _, acc ++ [e], pnw (((st6.trans s8).trans s9).trans s10), fun a o h => s9.g a o (s8.g a o (sg6 a o h)), back r10.first, q7⟩
  · have ei : i = ds.length := by omega
    subst ei
    refine .inl ⟨itd.stop G' H' sg rp.sub, k _ _ _ H' G' w' (ie acc δ' q) (st.reδ fun j o hj => ?_) ⟨rp.sub, rp.out, by rw [restS_len, ← rp.len, wipe_length], fun j s hj => ?_, rp.tlen, fun j v p hv hp => (rp.tm j v p hv hp).noAt (noA _ p (List.mem_of_getElem? hp)), rp.bs⟩⟩
    · obtain ⟨o1, h1⟩ := st.pn j o hj
      exact ⟨o1, by rw [restS_ne (ni j o hj)]; exact h1⟩
    · by_cases hm : j ∈ vs
      · rcases restS_in hm hj with rfl | ⟨d, rfl, e0⟩
        · trivial
        · obtain ⟨v, hv, hd⟩ := rep1.sl j _ e0
          exact ⟨v, hv, dp_mono sg _ _ hd⟩
      · rw [restS_ne hm] at hj
        have := rp.sl j s hj
        rwa [wipe_ne hm] at this
section
variable {X : Cx}
theorem je_lc {elt tg iter : Expr} {ifs : List Expr} {scope : Scope} {own : List (Str × Nat)} {pos : Pos} {pi : PIx} {ts : List Nat} {g : PGx} {tt : PB} {pe : PX} (hc : X.calm = true) (hN : X.N.Nodup) (hi : JI X B tg iter pi) (ok : BlkOk X.N X.env.scope scope own)
    (hg : ∀ (s : Shared) (H : Hp) (C : Addr) (cl : List (Str × Addr)) (fp : List Addr), JG (X.blk s H scope (compEnvC scope cl C X.env) fp) B tg ts g) (ht : ∀ (s : Shared) (H : Hp) (C : Addr) (cl : List (Str × Addr)) (fp : List Addr), JTs (X.blk s H scope (compEnvC scope cl C X.env) fp) B ifs tt)
    (he : ∀ (s : Shared) (H : Hp) (C : Addr) (cl : List (Str × Addr)) (fp : List Addr), JE (X.blk s H scope (compEnvC scope cl C X.env) fp) B elt pe) (hts : ∀ i ∈ ts, i ∈ own.map (·.2) := by decide) (hs : ∀ x, foldedSetIterable iter X.env x = pure x := by intro _; rfl) :
    JE X B (.ListComp elt [⟨tg, iter, ifs, 0⟩] scope pos) (pComp pi g tt pe (own.map (·.2))) := PE_wk (pe_lc (g := LG X.K B ts g) (tt := LB X.K B tt) (te := LE X.K B pe) hc hN hi ok hg ht he hs) fun σ H Q h => lc_lift hts h
theorem js_setLc {i : Nat} {y : Str} {py : Pos} {elt tg iter : Expr} {ifs : List Expr} {scope : Scope} {own : List (Str × Nat)} {pos spos : Pos} {pi : PIx} {ts : List Nat} {g : PGx} {tt : PB} {pe : PX} (hc : X.calm = true) (hN : X.N.Nodup) (hy : X.N[i]? = some y) (hyl : X.env.scope.names.lookup y = some .local)
    (hsw : swapsWith (.ListComp elt [⟨tg, iter, ifs, 0⟩] scope pos) (some (.Name y py)) spos.line X.env = pure true) (hi : JI X B tg iter pi) (ok : BlkOk X.N X.env.scope scope own)
    (hg : ∀ (s : Shared) (H : Hp) (C : Addr) (cl : List (Str × Addr)) (fp : List Addr), JG (X.blk s H scope (compEnvC scope cl C X.env) fp) B tg ts g) (ht : ∀ (s : Shared) (H : Hp) (C : Addr) (cl : List (Str × Addr)) (fp : List Addr), JTs (X.blk s H scope (compEnvC scope cl C X.env) fp) B ifs tt)
    (he : ∀ (s : Shared) (H : Hp) (C : Addr) (cl : List (Str × Addr)) (fp : List Addr), JE (X.blk s H scope (compEnvC scope cl C X.env) fp) B elt pe) (hts : ∀ i ∈ ts, i ∈ own.map (·.2) := by decide) (hs : ∀ x, foldedSetIterable iter X.env x = pure x := by intro _; rfl) :
    JS X B (.Assign [.Name y py] (.ListComp elt [⟨tg, iter, ifs, 0⟩] scope pos) spos) (pSet i (pComp pi g tt pe (own.map (·.2)))) := PS_wk (ps_setLc (g := LG X.K B ts g) (tt := LB X.K B tt) (te := LE X.K B pe) hc hN hy hyl hsw hi ok hg ht he hs) fun D σ H h => lc_lift hts (set_lift h)
end
end Pv
namespace Pv
open PySem PySem.Spec L2 Wf
variable {B : Bas}
/-! ### defs -/
abbrev EX := Addr → List (Str × PyData) → Prop
/-- what a def does: its arguments (data, or a thing of the caller's), what is told and how these things stand then; what is raised -/
abbrev PSp := List Sl → QE → EX → Prop
/-- no tables -/
def nTb : Option HO → Option HO
  | some (.tbl _) => none
  | o => o
theorem nTb_some {x : Option HO} {o : HO} (h : nTb x = some o) : x = some o ∧ NT o := by
  cases x with
  | none => cases h
  | some u => cases u <;> first | (cases h; done) | exact ⟨h, fun ps z => by subst z; cases h⟩
theorem nTb_of {x : Option HO} {o : HO} (h : x = some o) (n : NT o) : nTb x = some o := by
  subst h
  cases o <;> first | rfl | exact absurd rfl (n _)
def B0h (H : Hp) (w : Addr → Option Nat) : Hp := fun a => match w a with
  | none => nTb (H a)
  | some _ => none
def B0 (T : List NdefX.NTab) (H : Hp) (w : Addr → Option Nat) : Bas := ⟨B0h H w, H, T⟩
theorem B0_some {T : List NdefX.NTab} {H : Hp} {w : Addr → Option Nat} {a : Addr} {o : HO} (h : B0 T H w a = some o) : H a = some o ∧ w a = none ∧ NT o := by
  have h : B0h H w a = some o := h
  unfold B0h at h
  split at h
  · rename_i e
    obtain ⟨h1, h2⟩ := nTb_some h
    exact ⟨h1, e, h2⟩
  · cases h
/-- an error's fields, as they stand -/
inductive FlP (K : PySem.W.Frag) (H : Hp) : List (Str × V) → List (Str × PyData) → Prop
  | nil : FlP K H [] []
  | cons {x : Str} {v : V} {d : PyData} {us : List (Str × V)} {fs : List (Str × PyData)} : Dp K H v d → noL d = true → FlP K H us fs → FlP K H ((x, v) :: us) ((x, d) :: fs)
/-- what is wanted of an error that leaves -/
def XOk (K : PySem.W.Frag) (B : Bas) (Ep : EX) (E : XK) : Prop := ∀ C fs us d H', Ep C fs → Same B.hp H' → TbG B.T B.ht H' → B d = none → H' d = some (.xd us) → FlP K H' us fs → E (.ref C) (some d) H'
def LSp (K : PySem.W.Frag) (T : List NdefX.NTab) (ps : PSp) : Sp := fun vs H Q E => ∃ G w as Qp Ep, Rep K (B0 T H w) G H (vs.map some) as [] [] w ∧ (∀ s ∈ as, s = .un ∨ (∃ d, s = .im d) ∨ ∃ o, s = .ow true o) ∧ ps as Qp Ep ∧
  (∀ r δ' v H' G' w', Qp r δ' → isAt r = false → Stp T G H w as G' H' w' δ' → Rep K (B0 T H w) G' H' (vs.map some) δ' [v] [r] w' → Q v H') ∧ XOk K (B0 T H w) Ep E
def outs : List Sl → List Sl → List Sl
  | [], _ => []
  | .ow true _ :: as, d :: ds => d :: outs as ds
  | _ :: as, _ :: ds => .un :: outs as ds
  | _ :: as, [] => .un :: outs as []
theorem outs_len : ∀ (as ds : List Sl), (outs as ds).length = as.length
  | [], _ => rfl
  | .ow true _ :: as, d :: ds => by simp only [outs, List.length_cons, outs_len as ds]
  | .ow false _ :: as, d :: ds => by simp only [outs, List.length_cons, outs_len as ds]
  | .un :: as, d :: ds => by simp only [outs, List.length_cons, outs_len as ds]
  | .im _ :: as, d :: ds => by simp only [outs, List.length_cons, outs_len as ds]
  | .ex _ _ _ _ :: as, d :: ds => by simp only [outs, List.length_cons, outs_len as ds]
  | a :: as, [] => by
    have e : outs (a :: as) [] = .un :: outs as [] := by
      cases a with
      | un => rfl
      | im d => rfl
      | ex _ _ _ _ => rfl
      | ow b o => cases b <;> rfl
    rw [e, List.length_cons, List.length_cons, outs_len as []]
theorem outs_get : ∀ (as ds : List Sl) (i : Nat) {s : Sl}, (outs as ds)[i]? = some s → s = .un ∨ ((∃ o, as[i]? = some (.ow true o)) ∧ ds[i]? = some s)
  | [], _, _, s, h => by simp [outs] at h
  | .ow true o :: as, d :: ds, 0, s, h => by
    simp only [outs, List.getElem?_cons_zero, Option.some.injEq] at h
    exact .inr ⟨⟨o, rfl⟩, by simp [h]⟩
  | .ow true o :: as, d :: ds, i + 1, s, h => by
    rcases outs_get as ds i (by simpa [outs] using h) with e | ⟨⟨o', e1⟩, e2⟩
    · exact .inl e
    · exact .inr ⟨⟨o', by simpa using e1⟩, by simpa using e2⟩
  | .ow false o :: as, d :: ds, 0, s, h => by simp only [outs, List.getElem?_cons_zero, Option.some.injEq] at h; exact .inl h.symm
  | .un :: as, d :: ds, 0, s, h => by simp only [outs, List.getElem?_cons_zero, Option.some.injEq] at h; exact .inl h.symm
  | .im _ :: as, d :: ds, 0, s, h => by simp only [outs, List.getElem?_cons_zero, Option.some.injEq] at h; exact .inl h.symm
  | .ex _ _ _ _ :: as, d :: ds, 0, s, h => by simp only [outs, List.getElem?_cons_zero, Option.some.injEq] at h; exact .inl h.symm
  | .ow false o :: as, d :: ds, i + 1, s, h => by
    rcases outs_get as ds i (by simpa [outs] using h) with e | ⟨⟨o', e1⟩, e2⟩
    · exact .inl e
    · exact .inr ⟨⟨o', by simpa using e1⟩, by simpa using e2⟩
  | .un :: as, d :: ds, i + 1, s, h => by
    rcases outs_get as ds i (by simpa [outs] using h) with e | ⟨⟨o', e1⟩, e2⟩
    · exact .inl e
    · exact .inr ⟨⟨o', by simpa using e1⟩, by simpa using e2⟩
  | .im _ :: as, d :: ds, i + 1, s, h => by
    rcases outs_get as ds i (by simpa [outs] using h) with e | ⟨⟨o', e1⟩, e2⟩
    · exact .inl e
    · exact .inr ⟨⟨o', by simpa using e1⟩, by simpa using e2⟩
  | .ex _ _ _ _ :: as, d :: ds, i + 1, s, h => by
    rcases outs_get as ds i (by simpa [outs] using h) with e | ⟨⟨o', e1⟩, e2⟩
    · exact .inl e
    · exact .inr ⟨⟨o', by simpa using e1⟩, by simpa using e2⟩
  | a :: as, [], i, s, h => by
    have e : outs (a :: as) [] = .un :: outs as [] := by
      cases a with
      | un => rfl
      | im d => rfl
      | ex _ _ _ _ => rfl
      | ow b o => cases b <;> rfl
    rw [e] at h
    match i with
    | 0 => simp only [List.getElem?_cons_zero, Option.some.injEq] at h; exact .inl h.symm
    | i + 1 =>
      rcases outs_get as [] i (by simpa using h) with e | ⟨_, e2⟩
      · exact .inl e
      · simp at e2
theorem outs_own : ∀ (as ds : List Sl) (i : Nat) {o : O} {s : Sl}, as[i]? = some (.ow true o) → ds[i]? = some s → (outs as ds)[i]? = some s
  | [], _, _, _, _, h, _ => by simp at h
  | _ :: _, [], _, _, _, _, h => by simp at h
  | a :: as, d :: ds, 0, o, s, h, h2 => by
    simp only [List.getElem?_cons_zero, Option.some.injEq] at h h2
    subst h h2
    rfl
  | a :: as, d :: ds, i + 1, o, s, h, h2 => by
    have ih := outs_own as ds i (o := o) (s := s) (by simpa using h) (by simpa using h2)
    cases a with
    | un => simpa [outs] using ih
    | im d => simpa [outs] using ih
    | ex _ _ _ _ => simpa [outs] using ih
    | ow b o => cases b <;> simpa [outs] using ih
def endsP (as : List Sl) (Qp : QE) : PEn := { nx := fun δ => Qp (.im .none) (outs as δ), rt := fun r δ => Qp r (outs as δ) }
/-- a def's body keeps its promise -/
theorem fn_lift {K : PySem.W.Frag} {N : List Str} {ps : PSp} {p : EX → PSx} {vs : List V} {H : Hp} {Q : VK} {E : XK} {m : Nat} (hN : N.length = m) (hp : ∀ as Qp Ep, ps as Qp Ep → p Ep (endsP as Qp) (as ++ List.replicate (m - as.length) .un)) {T : List NdefX.NTab} (h : LSp K T ps vs H Q E) (hl : vs.length ≤ m) :
    ∃ (Bh Bt : Hp) (Ep : EX), XOk K ⟨Bh, Bt, T⟩ Ep E ∧ LS K ⟨Bh, Bt, T⟩ (p Ep) { nx := fun _ H' => Q .non H', rt := Q } (L2.start N vs) H := by
  obtain ⟨G, w, as, Qp, Ep, rep, hk, hps, k, x⟩ := h
  have la : vs.length = as.length := by have := rep.len; rwa [List.length_map] at this
  refine ⟨B0h H w, H, Ep, x, G, w, as ++ List.replicate (m - as.length) .un, endsP as Qp, ?_, hp as Qp Ep hps, ?_⟩
  · refine ⟨rep.sub, rep.out, ?_, fun i s hi => ?_, rfl, fun j v r hv => by simp at hv, rep.bs⟩
    · unfold L2.start
      rw [List.length_append, List.length_append, List.length_map, List.length_replicate, List.length_replicate, la, hN]
    · by_cases hi2 : i < as.length
      · rw [List.getElem?_append_left hi2] at hi
        have := rep.sl i s hi
        unfold L2.start
        rw [List.getElem?_append_left (by rw [List.length_map, la]; exact hi2)]
        exact this
      · rw [List.getElem?_append_right (by omega)] at hi
        have e : s = .un := by
          have := List.getElem?_eq_some_iff.mp hi
          obtain ⟨h1, h2⟩ := this
          simpa using h2.symm
        subst e
        trivial
  · have fin : ∀ (r : R) δ' v σ' H' G' w', isAt r = false → Stp T G H w (as ++ List.replicate (m - as.length) .un) G' H' w' δ' → Rep K (B0 T H w) G' H' σ' δ' [v] [r] w' → Pin (L2.start N vs) (as ++ List.replicate (m - as.length) .un) σ' →
        Stp T G H w as G' H' w' (outs as δ') ∧ Rep K (B0 T H w) G' H' (vs.map some) (outs as δ') [v] [r] w' := by
      intro r δ' v σ' H' G' w' hr st rp pn
      have inA : ∀ (i : Nat) o, as[i]? = some (Sl.ow true o) → (as ++ List.replicate (m - as.length) .un)[i]? = some (Sl.ow true o) := fun i o h => by
        rw [List.getElem?_append_left (List.getElem?_eq_some_iff.mp h).1]
        exact h
      refine ⟨⟨st.g, st.b, st.n, st.p, fun i o hi => ?_, st.t, st.q⟩, rp.sub, rp.out, by rw [outs_len, List.length_map, la], fun i s hi => ?_, rfl, fun j u q hu hq => ?_, rp.bs⟩
      · obtain ⟨o', ho'⟩ := st.pn i o (inA i o hi)
        exact ⟨o', outs_own as δ' i hi ho'⟩
      · rcases outs_get as δ' i hi with rfl | ⟨⟨o, e1⟩, e2⟩
        · trivial
        · have e3 := rp.sl i s e2
          have e4 := pn i o (inA i o e1)
          have hi2 : i < as.length := (List.getElem?_eq_some_iff.mp e1).1
          unfold L2.start at e4
          rw [List.getElem?_append_left (by rw [List.length_map, la]; exact hi2)] at e4
          rwa [e4] at e3
      · exact (rp.tm j u q hu hq).noAt (by
          match j with
          | 0 => simp only [List.getElem?_cons_zero, Option.some.injEq] at hq; rw [← hq]; exact hr
          | j + 1 => simp at hq)
    refine ⟨fun δ' σ' H' G' w' h st rp pn => ?_, fun r δ' v σ' H' G' w' h hr st rp pn => ?_, fun δ' σ' H' G' w' h => h.elim, fun δ' σ' H' G' w' h => h.elim⟩
    · obtain ⟨s1, r1⟩ := fin (.im .none) δ' .non σ' H' G' _ rfl (st.trans .drop) (rp.ret .non) pn
      exact k _ _ _ H' G' _ h rfl s1 r1
    · obtain ⟨s1, r1⟩ := fin r δ' v σ' H' G' w' hr st rp pn
      exact k _ _ _ H' G' w' h hr s1 r1
/-! ### calls -/
def argOf (δ : List Sl) : R → Option Sl
  | .im d => some (.im d)
  | .ow o => some (.ow true o)
  | .at i => match δ[i]? with
    | some (.im d) => some (.im d)
    | some (.ow _ o) => some (.ow true o)
    | _ => none
def argsOf (δ : List Sl) : List R → Option (List Sl)
  | [] => some []
  | r :: rs => match argOf δ r with
    | none => none
    | some a => match argsOf δ rs with
      | none => none
      | some as => some (a :: as)
/-- which slots are handed on -/
def atIx (δ : List Sl) : List R → List Nat
  | [] => []
  | .at i :: rs => match δ[i]? with
    | some (.ow _ _) => i :: atIx δ rs
    | _ => atIx δ rs
  | _ :: rs => atIx δ rs
def put1 (δ : List Sl) : R → Sl → List Sl
  | .at i, .ow true o => match δ[i]? with
    | some (.ow b _) => δ.set i (.ow b o)
    | _ => δ
  | _, _ => δ
def putB (δ : List Sl) : List R → List Sl → List Sl
  | [], _ => δ
  | _ :: _, [] => δ
  | r :: rs, s :: ss => putB (put1 δ r s) rs ss
def pCall (ps : PSp) (pa : PL) (Ep : EX) : PX := fun δ Q => pa δ fun rs δ1 => ∃ as, argsOf δ1 rs = some as ∧ (atIx δ1 rs).Nodup ∧ ps as (fun r os => Q r (putB δ1 rs os)) Ep
theorem argsOf_len : ∀ {δ : List Sl} {rs : List R} {as : List Sl}, argsOf δ rs = some as → as.length = rs.length
  | _, [], _, h => by cases h; rfl
  | δ, r :: rs, as, h => by
    unfold argsOf at h
    revert h
    split
    · intro h; cases h
    · split
      · intro h; cases h
      · rename_i as' e'
        intro h
        cases h
        rw [List.length_cons, List.length_cons, argsOf_len e']
theorem argsOf_get : ∀ {δ : List Sl} {rs : List R} {as : List Sl} {j : Nat} {s : Sl}, argsOf δ rs = some as → as[j]? = some s → ∃ r, rs[j]? = some r ∧ argOf δ r = some s
  | _, [], _, _, _, h, hs => by cases h; simp at hs
  | δ, r :: rs, as, j, s, h, hs => by
    unfold argsOf at h
    revert h
    split
    · intro h; cases h
    · rename_i a e
      split
      · intro h; cases h
      · rename_i as' e'
        intro h
        cases h
        match j with
        | 0 => simp only [List.getElem?_cons_zero, Option.some.injEq] at hs; subst hs; exact ⟨r, rfl, e⟩
        | j + 1 =>
          obtain ⟨r', h1, h2⟩ := argsOf_get (j := j) e' (by simpa using hs)
          exact ⟨r', by simpa using h1, h2⟩
def isOw (δ : List Sl) (i : Nat) : Prop := ∃ b o, δ[i]? = some (.ow b o)
theorem put1_len (δ : List Sl) (r : R) (s : Sl) : (put1 δ r s).length = δ.length := by
  unfold put1
  split
  · split
    · rw [List.length_set]
    · rfl
  · rfl
theorem put1_at {δ : List Sl} {i : Nat} {b : Bool} {o o' : O} (h : δ[i]? = some (.ow b o)) : put1 δ (.at i) (.ow true o') = δ.set i (.ow b o') := by
  unfold put1
  dsimp only
  rw [h]
theorem put1_ow {δ : List Sl} {r : R} {s : Sl} {i : Nat} {b : Bool} {o : O} (h : δ[i]? = some (.ow b o)) : ∃ o', (put1 δ r s)[i]? = some (.ow b o') := by
  unfold put1
  split
  · rename_i k o'
    split
    · rename_i b' o'' e
      by_cases ei : k = i
      · subst ei
        rw [h] at e
        cases e
        exact ⟨o', List.getElem?_set_self (List.getElem?_eq_some_iff.mp h).1⟩
      · exact ⟨o, by rw [List.getElem?_set_ne ei]; exact h⟩
    · exact ⟨o, h⟩
  · exact ⟨o, h⟩
theorem put1_ne {δ : List Sl} {r : R} {s : Sl} {i : Nat} (h : r ≠ .at i) : (put1 δ r s)[i]? = δ[i]? := by
  unfold put1
  split
  · rename_i k o'
    split
    · exact List.getElem?_set_ne fun z => h (by rw [z])
    · rfl
  · rfl
theorem put1_nw {δ : List Sl} {r : R} {s : Sl} {i : Nat} (h : ¬ isOw δ i) : (put1 δ r s)[i]? = δ[i]? := by
  unfold put1
  split
  · rename_i k o'
    split
    · rename_i b o e
      exact List.getElem?_set_ne fun z => h ⟨b, o, by rw [← z]; exact e⟩
    · rfl
  · rfl
theorem isOw_put {δ : List Sl} {r : R} {s : Sl} {i : Nat} : isOw (put1 δ r s) i ↔ isOw δ i := by
  constructor
  · intro h
    by_cases hw : isOw δ i
    · exact hw
    · obtain ⟨b, o, e⟩ := h
      rw [put1_nw hw] at e
      exact ⟨b, o, e⟩
  · rintro ⟨b, o, e⟩
    obtain ⟨o', e'⟩ := put1_ow (r := r) (s := s) e
    exact ⟨b, o', e'⟩
theorem mem_atIx : ∀ {δ : List Sl} {rs : List R} {i : Nat}, i ∈ atIx δ rs ↔ isOw δ i ∧ R.at i ∈ rs
  | δ, [], i => by simp [atIx]
  | δ, .im d :: rs, i => by simp [atIx, mem_atIx (δ := δ) (rs := rs) (i := i)]
  | δ, .ow o :: rs, i => by simp [atIx, mem_atIx (δ := δ) (rs := rs) (i := i)]
  | δ, .at k :: rs, i => by
    unfold atIx
    split
    · rename_i b o e
      rw [List.mem_cons, mem_atIx (δ := δ) (rs := rs) (i := i), List.mem_cons]
      constructor
      · rintro (rfl | ⟨h1, h2⟩)
        · exact ⟨⟨b, o, e⟩, .inl rfl⟩
        · exact ⟨h1, .inr h2⟩
      · rintro ⟨h1, h2 | h2⟩
        · cases h2; exact .inl rfl
        · exact .inr ⟨h1, h2⟩
    · rename_i hn
      rw [mem_atIx (δ := δ) (rs := rs) (i := i), List.mem_cons]
      constructor
      · rintro ⟨h1, h2⟩; exact ⟨h1, .inr h2⟩
      · rintro ⟨h1, h2 | h2⟩
        · cases h2
          obtain ⟨b, o, e⟩ := h1
          exact absurd e (hn b o)
        · exact ⟨h1, h2⟩
theorem putB_len : ∀ {rs : List R} {δ : List Sl} {ss : List Sl}, (putB δ rs ss).length = δ.length
  | [], _, _ => by simp [putB]
  | _ :: _, _, [] => by simp [putB]
  | r :: rs, δ, s :: ss => by
    show (putB (put1 δ r s) rs ss).length = _
    rw [putB_len, put1_len]
theorem putB_ne : ∀ {rs : List R} {δ ss : List Sl} {k : Nat}, (¬ isOw δ k ∨ R.at k ∉ rs) → (putB δ rs ss)[k]? = δ[k]?
  | [], _, _, _, _ => by simp [putB]
  | _ :: _, _, [], _, _ => by simp [putB]
  | r :: rs, δ, s :: ss, k, h => by
    show (putB (put1 δ r s) rs ss)[k]? = _
    rcases h with h | h
    · rw [putB_ne (.inl fun z => h (isOw_put.mp z)), put1_nw h]
    · simp only [List.mem_cons, not_or] at h
      rw [putB_ne (.inr h.2), put1_ne (Ne.symm h.1)]
theorem putB_at : ∀ {rs : List R} {δ ss : List Sl} {j k : Nat} {b : Bool} {o o' : O}, (∀ (i j : Nat) k, isOw δ k → rs[i]? = some (.at k) → rs[j]? = some (.at k) → i = j) → rs[j]? = some (.at k) → δ[k]? = some (.ow b o) → ss[j]? = some (.ow true o') → (putB δ rs ss)[k]? = some (.ow b o')
  | [], _, _, _, _, _, _, _, _, h, _, _ => by simp at h
  | _ :: _, _, [], _, _, _, _, _, _, _, _, h => by simp at h
  | r :: rs, δ, s :: ss, 0, k, b, o, o', hu, h, hk, hs => by
    simp only [List.getElem?_cons_zero, Option.some.injEq] at h hs
    subst h hs
    show (putB (put1 δ (.at k) (.ow true o')) rs ss)[k]? = _
    have hn : R.at k ∉ rs := fun z => by
      obtain ⟨j, hj⟩ := List.mem_iff_getElem?.mp z
      have := hu 0 (j + 1) k ⟨b, o, hk⟩ rfl (by simpa using hj)
      omega
    rw [putB_ne (.inr hn), put1_at hk, List.getElem?_set_self (List.getElem?_eq_some_iff.mp hk).1]
  | r :: rs, δ, s :: ss, j + 1, k, b, o, o', hu, h, hk, hs => by
    show (putB (put1 δ r s) rs ss)[k]? = _
    have hr : r ≠ .at k := fun z => by
      have := hu 0 (j + 1) k ⟨b, o, hk⟩ (by simp [z]) h
      omega
    exact putB_at (j := j) (fun i j' k' hw h1 h2 => by
      have := hu (i + 1) (j' + 1) k' (isOw_put.mp hw) (by simpa using h1) (by simpa using h2)
      omega) (by simpa using h) (by rw [put1_ne hr]; exact hk) (by simpa using hs)
theorem uniq_of_nodup : ∀ {δ : List Sl} {rs : List R}, (atIx δ rs).Nodup → ∀ (i j : Nat) k, isOw δ k → rs[i]? = some (.at k) → rs[j]? = some (.at k) → i = j
  | δ, [], _, i, j, k, _, h, _ => by simp at h
  | δ, r :: rs, hn, i, j, k, hw, h1, h2 => by
    have tail : (atIx δ rs).Nodup := by
      cases r with
      | im d => exact hn
      | ow o => exact hn
      | «at» m =>
        unfold atIx at hn
        revert hn
        split
        · intro hn; exact (List.nodup_cons.mp hn).2
        · intro hn; exact hn
    have noHead : r = .at k → R.at k ∉ rs := fun e z => by
      subst e
      obtain ⟨b, o, e⟩ := hw
      have e2 : atIx δ (.at k :: rs) = k :: atIx δ rs := by simp only [atIx, e]
      rw [e2] at hn
      exact (List.nodup_cons.mp hn).1 (mem_atIx.mpr ⟨⟨b, o, e⟩, z⟩)
    match i, j with
    | 0, 0 => rfl
    | 0, j + 1 => exact absurd (List.mem_of_getElem? (show rs[j]? = some (.at k) by simpa using h2)) (noHead (by simpa using h1))
    | i + 1, 0 => exact absurd (List.mem_of_getElem? (show rs[i]? = some (.at k) by simpa using h1)) (noHead (by simpa using h2))
    | i + 1, j + 1 => rw [uniq_of_nodup tail i j k hw (by simpa using h1) (by simpa using h2)]
/-- where slot i is handed on -/
def idxAt (i : Nat) : List R → Option Nat
  | [] => none
  | .at k :: rs => if k = i then some 0 else (idxAt i rs).map (· + 1)
  | _ :: rs => (idxAt i rs).map (· + 1)
theorem idxAt_some : ∀ {rs : List R} {i j : Nat}, idxAt i rs = some j → rs[j]? = some (.at i)
  | [], _, _, h => by cases h
  | .at k :: rs, i, j, h => by
    unfold idxAt at h
    split at h
    · rename_i e; cases h; subst e; rfl
    · obtain ⟨m, h1, rfl⟩ := Option.map_eq_some_iff.mp h
      simpa using idxAt_some h1
  | .im d :: rs, i, j, h => by
    obtain ⟨m, h1, rfl⟩ := Option.map_eq_some_iff.mp (show (idxAt i rs).map (· + 1) = some j from h)
    simpa using idxAt_some h1
  | .ow o :: rs, i, j, h => by
    obtain ⟨m, h1, rfl⟩ := Option.map_eq_some_iff.mp (show (idxAt i rs).map (· + 1) = some j from h)
    simpa using idxAt_some h1
theorem idxAt_mem : ∀ {rs : List R} {i : Nat}, R.at i ∈ rs → ∃ j, idxAt i rs = some j
  | [], _, h => by cases h
  | .at k :: rs, i, h => by
    unfold idxAt
    split
    · exact ⟨0, rfl⟩
    · rename_i hk
      have : R.at i ∈ rs := by
        rcases List.mem_cons.mp h with z | z
        · cases z; exact absurd rfl hk
        · exact z
      obtain ⟨j, e⟩ := idxAt_mem this
      exact ⟨j + 1, by rw [e]; rfl⟩
  | .im d :: rs, i, h => by
    have : R.at i ∈ rs := by
      rcases List.mem_cons.mp h with z | z
      · cases z
      · exact z
    obtain ⟨j, e⟩ := idxAt_mem this
    exact ⟨j + 1, by show (idxAt i rs).map (· + 1) = _; rw [e]; rfl⟩
  | .ow o :: rs, i, h => by
    have : R.at i ∈ rs := by
      rcases List.mem_cons.mp h with z | z
      · cases z
      · exact z
    obtain ⟨j, e⟩ := idxAt_mem this
    exact ⟨j + 1, by show (idxAt i rs).map (· + 1) = _; rw [e]; rfl⟩
def wcOf (rs : List R) (w : Addr → Option Nat) (a : Addr) : Option Nat := match w a with
  | none => none
  | some n => if n % 2 = 1 then some (n - 1) else (idxAt (n / 2) rs).map (2 * ·)
def wbOf (rs : List R) (w w' : Addr → Option Nat) (a : Addr) : Option Nat := match w' a with
  | some m => if m % 2 = 1 then some m else match rs[m / 2]? with
    | some (.at i) => some (2 * i)
    | _ => none
  | none => match wcOf rs w a with
    | none => evn (w a)
    | some _ => none
theorem call_lift {K : PySem.W.Frag} {ps : PSp} {pa : PL} {Ep : EX} {E : XK} {n : Nat} {σ : St} {H : Hp} {Q : VK} (hx : XOk K B Ep E) (h : LE K B (pCall ps pa Ep) σ H Q) : tCall (LSp K B.T ps) [] E (LA K B n pa) σ H Q := by
  obtain ⟨G, w, δ, Qp, rep, q, k⟩ := h
  refine ⟨G, w, δ, _, rep, q, fun rs δ1 vs H1 G1 w1 q1 _ s1 rep1 => ?_⟩
  obtain ⟨as, ha, hnd, q1⟩ := q1
  have uq := uniq_of_nodup hnd
  have la : vs.length = as.length := rep1.tlen.trans (argsOf_len ha).symm
  have wc_some : ∀ a m, wcOf rs w1 a = some m → ∃ n, w1 a = some n := fun a m hm => by
    unfold wcOf at hm
    cases e : w1 a with
    | none => rw [e] at hm; cases hm
    | some n => exact ⟨n, rfl⟩
  have wc_odd : ∀ a (j : Nat), w1 a = some (2 * j + 1) → wcOf rs w1 a = some (2 * j) := fun a j h => by
    unfold wcOf
    rw [h]
    dsimp only
    rw [if_pos (by omega)]
    congr 1
  have wc_at : ∀ a (i j : Nat), isOw δ1 i → rs[j]? = some (.at i) → w1 a = some (2 * i) → wcOf rs w1 a = some (2 * j) := fun a i j hw hj h => by
    obtain ⟨j', e⟩ := idxAt_mem (List.mem_of_getElem? hj)
    have := uq j j' i hw hj (idxAt_some e)
    subst this
    unfold wcOf
    rw [h]
    dsimp only
    rw [if_neg (by omega), show 2 * i / 2 = i by omega, e]
    rfl
  have toB : ∀ a o, B a = some o → B0 B.T H1 (wcOf rs w1) a = some o := fun a o ho => by
    have := rep1.bs.to a o ho
    show B0h H1 (wcOf rs w1) a = some o
    unfold B0h
    have e : wcOf rs w1 a = none := by unfold wcOf; rw [this.2.1]
    rw [e]
    exact nTb_of this.1 this.2.2
  have noB : ∀ d, B0 B.T H1 (wcOf rs w1) d = none → B d = none := fun d h => by
    cases e : B d with
    | none => rfl
    | some o => rw [toB d o e] at h; cases h
  rw [List.append_nil]
  refine ⟨G1, wcOf rs w1, as, _, Ep, ⟨rep1.sub, fun a m hm => ?_, by rw [List.length_map]; exact la, fun j s hs => ?_, rfl, fun j v r hv => by simp at hv, ⟨fun a o ho => B0_some ho, .refl, rep1.bs.tt.ts rep1.bs.ta, rep1.bs.gt⟩⟩, fun s hs => ?_, q1, fun r os v H2 G2 w2 hq hr st rp => ?_, fun C fs us d H2 he hs htb hbd hd hf => hx C fs us d H2 he (fun a o ho => hs a o (toB a o ho)) (rep1.bs.tt.trans htb) (noB d hbd) hd hf⟩
  · obtain ⟨n, hn⟩ := wc_some a m hm
    exact rep1.out a n hn
  · obtain ⟨r, hr, he⟩ := argsOf_get ha hs
    have hj : j < vs.length := by rw [la]; exact (List.getElem?_eq_some_iff.mp hs).1
    have hv : vs[j]? = some vs[j] := List.getElem?_eq_getElem hj
    have hm : (vs.map some)[j]? = some (some vs[j]) := by rw [List.getElem?_map, hv]; rfl
    have t := rep1.tm j _ r hv hr
    cases r with
    | im d => cases he; exact ⟨_, hm, t⟩
    | ow o => cases he; exact ⟨_, hm, RO.mono (fun _ _ h => h) (fun _ _ _ h => h) (fun a u ma _ => wc_odd a j ma) t⟩
    | «at» i =>
      have t' : σ[i]? = some (some vs[j]) := t
      simp only [argOf] at he
      revert he
      split
      · rename_i d e
        intro he
        cases he
        obtain ⟨v, hv', hd⟩ := rep1.sl i _ e
        rw [t'] at hv'
        cases hv'
        exact ⟨_, hm, hd⟩
      · rename_i b o e
        intro he
        cases he
        obtain ⟨v, hv', hd⟩ := rep1.sl i _ e
        rw [t'] at hv'
        cases hv'
        exact ⟨_, hm, RO.mono (fun _ _ h => h) (fun _ _ _ h => h) (fun a u ma _ => wc_at a i j ⟨b, o, e⟩ hr ma) hd⟩
      · intro he; cases he
  · obtain ⟨j, hj⟩ := List.mem_iff_getElem?.mp hs
    obtain ⟨r, hr, he⟩ := argsOf_get ha hj
    cases r with
    | im d => cases he; exact .inr (.inl ⟨d, rfl⟩)
    | ow o => cases he; exact .inr (.inr ⟨o, rfl⟩)
    | «at» i =>
      simp only [argOf] at he
      revert he
      split
      · intro he; cases he; exact .inr (.inl ⟨_, rfl⟩)
      · intro he; cases he; exact .inr (.inr ⟨_, rfl⟩)
      · intro he; cases he
  · -- behind the call
    have nw : ∀ a m n, w2 a = some m → wcOf rs w1 a = none → w1 a = some n → False := fun a m n h1 h2 h3 => by
      rcases st.n a m h1 with z | z
      · exact z h2
      · exact (rep1.out a n h3).2.1 z
    have st' : Stp B.T G1 H1 w1 δ1 G2 H2 (wbOf rs w1 w2) (putB δ1 rs os) := by
      refine ⟨st.g, fun a o hw ho => st.b a o (by unfold wcOf; rw [hw]) ho, fun a m hm => ?_, fun a o ho => ?_, fun i o hi => ?_, st.t, st.q⟩
      · cases e : w1 a with
        | some n => exact .inl (Option.some_ne_none _)
        | none =>
          cases e2 : w2 a with
          | none =>
            unfold wbOf at hm
            have e3 : wcOf rs w1 a = none := by unfold wcOf; rw [e]
            rw [e2, e3, e] at hm
            cases hm
          | some m2 =>
            rcases st.n a m2 e2 with z | z
            · exact absurd (by unfold wcOf; rw [e]) z
            · exact .inr z
      · rcases st.p a o ho with z | z | z | z
        · exact .inl z
        · exact .inr (.inl z)
        · refine .inr (.inr (.inl fun e => z ?_))
          unfold wcOf
          rw [e]
        · exact .inr (.inr (.inr z))
      · by_cases hm : R.at i ∈ rs
        · obtain ⟨j, hj⟩ := List.mem_iff_getElem?.mp hm
          have hja : j < as.length := by rw [argsOf_len ha]; exact (List.getElem?_eq_some_iff.mp hj).1
          obtain ⟨r, hr', he⟩ := argsOf_get ha (List.getElem?_eq_getElem hja)
          rw [hj] at hr'
          cases hr'
          simp only [argOf, hi, Option.some.injEq] at he
          obtain ⟨o', ho'⟩ := st.pn j o (by rw [List.getElem?_eq_getElem hja, he])
          exact ⟨o', putB_at uq hj hi ho'⟩
        · exact ⟨o, by rw [putB_ne (.inr hm)]; exact hi⟩
    refine k r _ v H2 G2 _ hq (s1.trans st') ⟨rp.sub, fun a m hm => ?_, by rw [putB_len]; exact rep1.len, fun i s hs => ?_, rfl, fun j u p hu hp => ?_, st'.bs rep1.bs⟩
    · cases e2 : w2 a with
      | some m2 => exact rp.out a m2 e2
      | none =>
        unfold wbOf at hm
        rw [e2] at hm
        dsimp only at hm
        revert hm
        split
        · rename_i e3
          intro hm
          have hn := (evn_some.mp hm).1
          obtain ⟨g0, h0, n0⟩ := rep1.out a m hn
          refine ⟨?_, st.nn a e3 h0 n0⟩
          cases e6 : G2 a with
          | none => rfl
          | some o =>
            rcases st.p a o e6 with z | z | z | ⟨xs, z⟩
            · rw [g0] at z; cases z
            · exact absurd z h0
            · exact absurd e3 z
            · exact absurd z (n0 xs)
        · intro hm; cases hm
    · by_cases hm : isOw δ1 i ∧ R.at i ∈ rs
      · obtain ⟨⟨b, o, e⟩, hm⟩ := hm
        obtain ⟨j, hj⟩ := List.mem_iff_getElem?.mp hm
        have hja : j < as.length := by rw [argsOf_len ha]; exact (List.getElem?_eq_some_iff.mp hj).1
        obtain ⟨r', hr', he⟩ := argsOf_get ha (List.getElem?_eq_getElem hja)
        rw [hj] at hr'
        cases hr'
        simp only [argOf, e, Option.some.injEq] at he
        obtain ⟨o', ho'⟩ := st.pn j o (by rw [List.getElem?_eq_getElem hja, he])
        rw [putB_at uq hj e ho'] at hs
        cases hs
        obtain ⟨v', hv', hd⟩ := rp.sl j _ ho'
        have hjv : j < vs.length := by rw [la]; exact hja
        rw [List.getElem?_map, List.getElem?_eq_getElem hjv] at hv'
        cases hv'
        have t : σ[i]? = some (some vs[j]) := rep1.tm j _ (.at i) (List.getElem?_eq_getElem hjv) hj
        refine ⟨_, t, RO.mono (fun _ _ h => h) (fun _ _ _ h => h) (fun a u ma _ => ?_) hd⟩
        show wbOf rs w1 w2 a = _
        unfold wbOf
        rw [ma]
        dsimp only
        rw [if_neg (by omega), show 2 * j / 2 = j by omega, hj]
      · have hne : ¬ isOw δ1 i ∨ R.at i ∉ rs := by
          by_cases z : isOw δ1 i
          · exact .inr fun z2 => hm ⟨z, z2⟩
          · exact .inl z
        rw [putB_ne hne] at hs
        have sl := rep1.sl i s hs
        cases s with
        | un => trivial
        | im d =>
          obtain ⟨v', hv', hd⟩ := sl
          exact ⟨v', hv', dp_mono st.g _ _ hd⟩
        | ex a dd C fs =>
          obtain ⟨h1, us, h2, h3⟩ := sl
          exact ⟨h1, us, st.g _ _ h2, h3.mono st.g⟩
        | ow b o =>
          have hni : R.at i ∉ rs := hne.elim (fun z => absurd ⟨b, o, hs⟩ z) id
          have wcn : ∀ a, w1 a = some (2 * i) → wcOf rs w1 a = none := fun a h => by
            unfold wcOf
            rw [h]
            dsimp only
            rw [if_neg (by omega), show 2 * i / 2 = i by omega]
            cases e : idxAt i rs with
            | none => rfl
            | some j => exact absurd (List.mem_of_getElem? (idxAt_some e)) hni
          obtain ⟨v', hv', hd⟩ := sl
          refine ⟨v', hv', RO.monoN st.g (fun a u hnt ma hu => st.bN a u hnt (wcn a ma) hu) (fun a u ma hu => ?_) hd⟩
          show wbOf rs w1 w2 a = _
          unfold wbOf
          cases e2 : w2 a with
          | some m => exact (nw a m _ e2 (wcn a ma) ma).elim
          | none =>
            dsimp only
            rw [wcn a ma]
            exact evn_some.mpr ⟨ma, by omega⟩
    · match j with
      | 0 =>
        simp only [List.getElem?_cons_zero, Option.some.injEq] at hu hp
        subst hu hp
        have t := rp.tm 0 v r rfl rfl
        cases r with
        | im d => exact t
        | ow o =>
          refine RO.mono (fun _ _ h => h) (fun _ _ _ h => h) (fun a u ma _ => ?_) t
          show wbOf rs w1 w2 a = _
          unfold wbOf
          rw [ma]
          rfl
        | «at» i => cases hr
      | j + 1 => simp at hu
end Pv
namespace Pv
open PySem PySem.Spec L2 Wf
variable {B : Bas}
section
variable {X : Cx} {tg l a b e e2 : Expr} {es : List Expr} {pl pa pb : PX} {p pos : Pos}
/-! ### words -/
theorem jv (i : Nat) {x : Str} {pos : Pos} (hN : X.N[i]? = some x := by rfl) (hv : Vis X.env.scope x := by first | exact Or.inl rfl | exact Or.inr (Or.inl rfl) | exact Or.inr (Or.inr rfl)) (hd : (x == ("__debug__" : Str)) = false := by decide)
    (hcd : (x == ("__classdict__" : Str)) = false := by decide) : JE X B (.Name x pos) (pVar i) := je_var hN hv hd hcd
/-- as data for good -/
def pFz (p : PX) : PX := fun δ Q => p δ fun r δ1 => ∃ d δ2, fz δ1 r = some (d, δ2) ∧ Q (.im d) δ2
theorem je_fz (h : JE X B e pa) : JE X B e (pFz pa) := PE_wk h fun σ H Q ⟨G, w, δ, Qp, rep, q, k⟩ => ⟨G, w, δ, _, rep, q, fun r δ1 v H1 G1 w1 q1 s1 rep1 => by
  obtain ⟨d, δ2, hz, q1⟩ := q1
  obtain ⟨G2, w2, s2, r2⟩ := rep1.fz1 (j := 0) rfl rfl hz
  exact k _ _ v H1 G2 w2 q1 (s1.trans s2) r2⟩
/-! ### enumerate -/
def enD (n : Nat) : List PyData → List PyData
  | [] => []
  | d :: ds => .tuple [.int (n : Int), d] :: enD (n + 1) ds
theorem enD_len : ∀ (n : Nat) (ds : List PyData), (enD n ds).length = ds.length
  | _, [] => rfl
  | n, d :: ds => by simp only [enD, List.length_cons, enD_len (n + 1) ds]
theorem enD_get : ∀ (n : Nat) (ds : List PyData) (i : Nat), (enD n ds)[i]? = (ds[i]?).map fun d => .tuple [.int ((n + i : Nat) : Int), d]
  | n, [], i => by simp [enD]
  | n, d :: ds, 0 => by simp [enD]
  | n, d :: ds, i + 1 => by
    simp only [enD, List.getElem?_cons_succ, enD_get (n + 1) ds i]
    have : n + 1 + i = n + (i + 1) := by omega
    rw [this]
theorem itd_enumL {K : PySem.W.Frag} {G : Hp} {a : Addr} {us : List V} {ds : List PyData} (ha : G a = some (.lst us)) (hd : DqAll K G us ds) : ItD K G (Ite K a) (enD 0 ds) where
  go := fun G' H' i sg sh hi => by
    rw [enD_len] at hi
    have hl := dqAll_len hd
    exact ⟨us, us[i]'(by omega), SqL.of (sh _ _ (sg _ _ ha)), by simp⟩
  yld := fun G' H' i x H2 sg sh hi y => by
    rw [enD_len] at hi
    obtain ⟨T, z, rfl, hT, rfl, y⟩ := y
    obtain ⟨v, hv, hq⟩ := dqAll_get hd (List.getElem?_eq_getElem hi)
    have e := y us (SqL.of (sh _ _ (sg _ _ ha)))
    rw [hv] at e
    cases e
    refine ⟨_, by rw [enD_get, List.getElem?_eq_getElem hi]; rfl, .inr ⟨T, _, _, rfl, hT, rfl, .cons ?_ (.cons (dp_mono sg _ _ hq) .nil), rfl⟩⟩
    rw [Nat.zero_add]
    exact .int _
  stop := fun G' H' sg sh => ⟨us, SqL.of (sh _ _ (sg _ _ ha)), by rw [enD_len, dqAll_len hd]; exact Nat.le_refl _⟩
theorem itd_enumT {K : PySem.W.Frag} {G : Hp} {a : Addr} {us : List V} {ds : List PyData} (ha : SqT K G a us) (hd : DqAll K G us ds) : ItD K G (ItT K a) (enD 0 ds) where
  go := fun G' H' i sg sh hi => by
    rw [enD_len] at hi
    have hl := dqAll_len hd
    exact ⟨us, us[i]'(by omega), Same.tp sh _ _ (Same.tp sg _ _ ha), by simp⟩
  yld := fun G' H' i x H2 sg sh hi y => by
    rw [enD_len] at hi
    obtain ⟨T, z, rfl, hT, rfl, y⟩ := y
    obtain ⟨v, hv, hq⟩ := dqAll_get hd (List.getElem?_eq_getElem hi)
    have e := y us (Same.tp sh _ _ (Same.tp sg _ _ ha))
    rw [hv] at e
    cases e
    refine ⟨_, by rw [enD_get, List.getElem?_eq_getElem hi]; rfl, .inr ⟨T, _, _, rfl, hT, rfl, .cons ?_ (.cons (dp_mono sg _ _ hq) .nil), rfl⟩⟩
    rw [Nat.zero_add]
    exact .int _
  stop := fun G' H' sg sh => ⟨us, Same.tp sh _ _ (Same.tp sg _ _ ha), by rw [enD_len, dqAll_len hd]; exact Nat.le_refl _⟩
def iEnumU (K : PySem.W.Frag) (ta : TA) : TI := fun σ H R => ta σ H fun vs H1 => ∃ a xs, vs = [.ref a] ∧ ((SqL K H1 a xs ∧ R (Ite K a) H1) ∨ (SqT K H1 a xs ∧ R (ItT K a) H1))
open PyProof.Rows in
theorem pi_enumU {ta : TA} {tpos : Pos} {elts : List Expr} {kk : Nat} (hg : Gl X "enumerate") (hm : X.mg "enumerate" = none) (ha : PA X [e] ta) (hs : starEach [e] X.env = [(false, eval e X.env)] := by rfl) :
    PI X (.Tuple elts kk tpos) (.Call (.Name "enumerate" p) [e] [] pos) (iEnumU X.K ta) := by
  refine ⟨fun pins s σ H R I h => ?_⟩
  refine Call_ (ld_blt I hg hm boot_enumerate (PyProof.Rows.callWith_type1 (thn (ha.run pos pins s σ H _ I h) fun us s1 ⟨vs, H1, I1, r1, q1⟩ => ?_) hs rfl))
  obtain ⟨a, xs, ex, ⟨hq, q⟩ | ⟨hq, q⟩⟩ := q1
  · subst ex
    cases r1 with
    | cons r rr =>
      cases rr
      cases r
      obtain ⟨its, rv, p', hz⟩ := I1.list hq
      refine call_enumerate_list p'.isList fun h' he hit hsz hk => wpAny_pyIter_enum he ?_
      have I2 : Inv X pins σ H1 { s1 with heap := h' } := I1.kept (t' := s1.toks) hk
      refine ⟨s1.heap.objs.size + 1, [s1.heap.objs.size + 1, s1.heap.objs.size], _, _, H1, rfl, I2, turn_enum a (s1.heap.objs.size + 1) s1.heap.objs.size, ⟨⟨.none, he⟩, hit, Nat.succ_ne_self _⟩, fun b hb => ?_, q⟩
      have e' : b = s1.heap.objs.size + 1 ∨ b = s1.heap.objs.size := by simpa using hb
      have hle : s1.heap.objs.size ≤ b := by
        rcases e' with z | z
        · rw [z]; exact Nat.le_add_right _ _
        · rw [z]; exact Nat.le_refl _
      exact I1.fpOk hle (I1.hok.fresh hle)
  · subst ex
    cases r1 with
    | cons r rr =>
      cases rr
      cases r
      obtain ⟨its, rv, pt, hz⟩ := I1.tuple hq
      refine call_enumT (show s1.heap.IsTuple a its.toArray from pt) fun h' en hit hsz hk => wpAny_pyIter_enum en ?_
      have I2 : Inv X pins σ H1 { s1 with heap := h' } := I1.kept (t' := s1.toks) hk
      refine ⟨s1.heap.objs.size + 1, [s1.heap.objs.size + 1, s1.heap.objs.size], _, _, H1, rfl, I2, turn_enumT a (s1.heap.objs.size + 1) s1.heap.objs.size, ⟨⟨.none, en⟩, hit, Nat.succ_ne_self _⟩, fun b hb => ?_, q⟩
      have le : s1.heap.objs.size ≤ b := by
        have eb : b = s1.heap.objs.size + 1 ∨ b = s1.heap.objs.size := by simpa using hb
        rcases eb with rfl | rfl
        · exact Nat.le_add_right _ _
        · exact Nat.le_refl _
      exact I1.fpOk le (I1.hok.fresh le)
def iEn (ps : PL) : PIx := fun δ Q => ps δ fun rs δ1 => ∃ d δ2 ds, fzAll δ1 rs = some ([d], δ2) ∧ seqD d = some ds ∧ Q (enD 0 ds) δ2
theorem vals1 {K : PySem.W.Frag} {G : Hp} {vs : List V} {d : PyData} (h : DqAll K G vs [d]) : ∃ v, vs = [v] ∧ Dq K G v d := by
  cases h with
  | cons h1 h2 => cases h2; exact ⟨_, rfl, h1⟩
theorem ji_enum {ps : PL} {tpos : Pos} {elts : List Expr} {kk : Nat} (hg : Gl X "enumerate") (hm : X.mg "enumerate" = none) (ha : JA X B [e] ps) (hs : starEach [e] X.env = [(false, eval e X.env)] := by rfl) :
    JI X B (.Tuple elts kk tpos) (.Call (.Name "enumerate" p) [e] [] pos) (iEn ps) := PI_wk (pi_enumU hg hm ha hs) fun σ H R ⟨G, w, δ, Qp, rep, q, k⟩ =>
  ⟨G, w, δ, _, rep, q, fun rs δ1 vs H1 G1 w1 q1 _ s1 rep1 => by
    obtain ⟨d, δ2, ds, hz, hs, q1⟩ := q1
    obtain ⟨G2, w2, s2, r2⟩ := rep1.fzs hz
    obtain ⟨v, rfl, hd⟩ := vals1 (r2.ims)
    cases d with
    | list es =>
      cases hs
      cases hd with
      | lst ha hds => exact ⟨_, _, rfl, .inl ⟨SqL.of (r2.sub _ _ ha), k _ δ2 _ H1 G2 _ q1 ((s1.trans s2).trans .drop) r2.drop (itd_enumL ha hds)⟩⟩
    | tuple es =>
      cases hs
      cases hd with
      | tup ha hds => exact ⟨_, _, rfl, .inr ⟨Same.tp r2.sub _ _ ha, k _ δ2 _ H1 G2 _ q1 ((s1.trans s2).trans .drop) r2.drop (itd_enumT ha hds)⟩⟩
    | none => cases hs
    | bool _ => cases hs
    | int _ => cases hs
    | str _ => cases hs
    | dict _ => cases hs⟩
/-! ### zip -/
/-! ### defs of the module -/
def noX : EX := fun _ _ => False
theorem xok_no {K : PySem.W.Frag} {E : XK} : XOk K B noX E := fun _ _ _ _ _ h => h.elim
theorem je_cal {k j : Nat} {x : Str} {pn : List Str} {psp : PSp} {ps : PL} (C : Cal X.prog X.w X.K X.mg X.base CX0 k x pn (LSp X.K B.T psp)) (hr : Room j X.A) (hg : Gl X x) (ha : JA X B (e :: es) ps) (hk : k ≤ j := by decide)
    (hdb : (x == ("__debug__" : Str)) = false := by decide) (he : starEach (e :: es) X.env = (false, eval e X.env) :: starEach es X.env := by rfl) (hpl : (backTo pos (starEach es X.env)).any (·.1) = false := by rfl) :
    JE X B (.Call (.Name x p) (e :: es) [] pos) (pCall psp ps noX) := PE_wk (pe_cal C hr hg ha hk hdb he hpl) fun σ H Q h => call_lift xok_no h
/-- .. that may raise; the error leaves this def too -/
theorem je_calX {k j : Nat} {x : Str} {pn : List Str} {psp : PSp} {ps : PL} {W : WX} {E : XK} {Ep : EX} (C : CalX X.prog X.w X.K X.mg X.base k x pn (LSp X.K B.T psp)) (hr : Room j X.A) (tk : Takes X W) (hW : ∀ cls d σ H, E cls d H → W cls d σ H) (hx : XOk X.K B Ep E) (hg : Gl X x) (ha : JA X B (e :: es) ps) (hk : k ≤ j := by decide)
    (hdb : (x == ("__debug__" : Str)) = false := by decide) (he : starEach (e :: es) X.env = (false, eval e X.env) :: starEach es X.env := by rfl) (hpl : (backTo pos (starEach es X.env)).any (·.1) = false := by rfl) :
    JE X B (.Call (.Name x p) (e :: es) [] pos) (pCall psp ps Ep) := PE_wk (pe_calX C hr tk hW hg ha hk hdb he hpl) fun σ H Q h => call_lift hx h
/-! ### repr -/
end
/-! ### a def keeps its promise -/
theorem fn_ok {T : List NdefX.NTab} {P : Program} {w : World} {K : PySem.W.Frag} {mg : Str → Option Value} {base : Heap} {CX : CXT} {k : Nat} {f : Addr} {fd : FuncData} {x qual : Str} {params : Arguments} {body : List Stmt} {scope : Scope} {dvs : List V} {kws : List (Str × V)} {N prm : List Str} {psp : PSp} {p : EX → PSx} {m n : Nat}
    (F : FunD K x qual params body scope dvs kws f fd) (S : FnScope N prm scope) (hN : N.length = m) (hn : prm.length = n) (hnm : n ≤ m) (hlen : ∀ as Qp Ep, psp as Qp Ep → as.length = n)
    (hb : ∀ (cdv : Value) (A : Around) (outer : List Env) (s : Shared) (H : Hp) (E : XK) (Bh Bt : Hp) (Ep : EX), Room k (A.deeper (PyProof.Rows.envOfC qual scope s.heap.objs.size f cdv)) → XOk K ⟨Bh, Bt, T⟩ Ep E → JSs (cxOf CX P w K mg base N qual scope f cdv A outer s H E) ⟨Bh, Bt, T⟩ body (p Ep))
    (hp : ∀ as Qp Ep, psp as Qp Ep → p Ep (endsP as Qp) (as ++ List.replicate (m - n) .un)) : FnOk P w K mg base CX (k + 1) f fd prm (LSp K T psp) := by
  have ln : ∀ vs H Q E, LSp K T psp vs H Q E → vs.length = n := fun vs H Q E ⟨G, w, as, Qp, Ep, rep, _, h, _⟩ => by
    have := rep.len
    rw [List.length_map, hlen as Qp Ep h] at this
    exact this
  refine F.ok S (fun vs H Q E h => by rw [hn]; exact ln vs H Q E h) fun cdv A outer s H vs Q E hr h => ?_
  obtain ⟨Bh, Bt, Ep, hx, hl⟩ := fn_lift (N := N) (p := p) hN (fun as Qp Ep h => by rw [hlen as Qp Ep h]; exact hp as Qp Ep h) h (by rw [ln vs H Q E h]; exact hnm)
  exact ⟨_, hb cdv A outer s H E Bh Bt Ep hr hx, hl⟩
theorem JSs.nox {X : Cx} {st : List Stmt} {p : PSx} (h : JSs X.nox B st p) : JSs X B st p := PSs.nox h
end Pv
/-! errors of one field -/
namespace Wf
open PySem PySem.Spec PyProof.Rows L2
def sp_init1 (K : PySem.W.Frag) (C : Addr) (f1 : Str) : Sp := fun vs H Q _ => ∃ (a : Addr) (w : V), vs = [.ref a, w] ∧ H a = some (exo a C none) ∧
  ∀ dx, H dx = none → dx ≠ a → Q .non (upd (upd H dx (exd dx [(f1, w)])) a (exo a C (some dx)))
def t_init1 (K : PySem.W.Frag) (f1 txt : Str) : TS := tSeq (tDrop (tVeI K (tCons (tVar 0) (tCons (tC (.str txt)) tNil)))) (tOst K f1 (tVar 0) (tVar 1))
theorem pure_init1 {K : PySem.W.Frag} {C : Addr} {f1 txt : Str} (O : OexC K C) (n1 : PySem.W.findIn K (.ref C) f1 = some none) (vs : List V) (H : Hp) (Q : VK) (E : XK) (h : sp_init1 K C f1 vs H Q E) :
    t_init1 K f1 txt (EndsQ Q) (sN 2 vs) H := by
  obtain ⟨a, w, rfl, ha, k⟩ := h
  show t_init1 K f1 txt _ [some (.ref a), some w] H
  refine ⟨_, rfl, a, C, [.str txt], rfl, (by show 1 ≤ 1000; decide), O, ha, ?_⟩
  exact ⟨_, rfl, _, rfl, a, C, rfl, O, n1, .inl ⟨ha, fun dx hd ne => k dx hd ne⟩⟩
structure Err1 (P : Program) (w : World) (K : PySem.W.Frag) (mg : Str → Option Value) (base : Heap) (x f1 : Str) (C : Addr) : Prop where
  g : mg x = some (.ref C)
  o : OexC K C
  ini : ∃ fI fd, PySem.W.findIn K (.ref C) "__init__" = some (some (.ref fI)) ∧ PySem.W.typeIn K (.ref fI) = some (.type "function") ∧ FnOk P w K mg base CX0 1 fI fd ["self", f1] (sp_init1 K C f1) ∧ Binds K fd ["self", f1] []
def tRz1 (C : Addr) (f1 : Str) (W : WX) (ta : TA) : TS := fun _ σ H => ta σ H fun vs H1 => ∃ w, vs = [w] ∧ ∀ d, H1 d = none → W (.ref C) (some d) σ (upd H1 d (.xd [(f1, w)]))
theorem ps_rz1 {X : Cx} {x f1 : Str} {C : Addr} {W : WX} {e1 : Expr} {ta : TA} {p pos pos2 : Pos} {j : Nat} (T : Err1 X.prog X.w X.K X.mg X.base x f1 C) (hr : Room j X.A) (hc : X.calm = true) (tk : Takes X W) (hg : Gl X x) (ha : PA X [e1] ta) (hk : 2 ≤ j := by decide)
    (hdb : (x == ("__debug__" : Str)) = false := by decide) (he : starEach (e1 :: []) X.env = (false, eval e1 X.env) :: starEach [] X.env := by rfl) (hpl : (backTo pos (starEach [] X.env)).any (·.1) = false := by rfl) :
    PS X (.Raise (some (.Call (.Name x p) [e1] [] pos)) none pos2) (tRz1 C f1 W ta) := by
  obtain ⟨fI, fd, iC, tI, F, hb⟩ := T.ini
  have R := ps_raise (pos := pos2) hc tk (pmk_oex (p := p) (pos := pos) T.o iC tI F (hr.mono hk) hb .nil pass0 hg T.g (pa_up ha) hdb he hpl)
  refine ⟨fun pins s σ H D I h => R.run pins s σ H D I ⟨_, h, fun vs H1 q => ?_⟩⟩
  obtain ⟨w, rfl, q⟩ := q
  refine ⟨by show 1 ≤ 1000; decide, fun a ha1 => ⟨a, w, rfl, upd_same, fun dx hd ne => ⟨rfl, dx, [(f1, w)], upd_same, ?_, ?_, ?_⟩⟩⟩
  · rw [upd_ne ne, upd_same]
  · rw [upd_ne ne] at hd
    exact hd
  · have hd1 : H1 dx = none := by
      rw [upd_ne ne] at hd
      exact hd
    have ef : upd (del (upd (upd (upd H1 a (exo a C none)) dx (exd dx [(f1, w)])) a (exo a C (some dx))) a) dx (.xd [(f1, w)]) = upd H1 dx (.xd [(f1, w)]) := by
      funext b
      by_cases h1 : b = dx
      · rw [h1, upd_same, upd_same]
      · rw [upd_ne h1, upd_ne h1]
        by_cases h2 : b = a
        · rw [h2, del_same, ha1]
        · rw [del_ne h2, upd_ne h2, upd_ne h1, upd_ne h2]
    rw [ef]
    exact q dx hd1
end Wf
namespace Pv
open PySem PySem.Spec L2 Wf
variable {B : Bas}
/-! ### raise -/
def pRaise (C : Addr) (fs : List Str) (ps : PL) (Ep : EX) : PSx := fun _ δ => ps δ fun rs δ1 => ∃ ds δ2, fzAll δ1 rs = some (ds, δ2) ∧ noLAll ds = true ∧ Ep C ((fs.zip ds).reverse)
theorem raise_ok {K : PySem.W.Frag} {G H : Hp} {σ : St} {δ : List Sl} {vs : List V} {rs : List R} {w : Addr → Option Nat} {C : Addr} {Ep : EX} {E : XK} {d : Addr} {us : List (Str × V)} {fs : List (Str × PyData)} (hx : XOk K B Ep E) (rep : Rep K B G H σ δ vs rs w) (he : Ep C fs) (hd : H d = none) (hf : FlP K (upd H d (.xd us)) us fs) : E (.ref C) (some d) (upd H d (.xd us)) :=
  hx C fs us d _ he (fun a o ha => by
    have := (rep.bs.to a o ha).1
    rw [upd_ne (ne_of_none this hd)]
    exact this) (rep.bs.tt.trans (tabs_new hd)) (by
    cases e : B d with
    | none => rfl
    | some o => rw [(rep.bs.to d o e).1] at hd; cases hd) upd_same hf
theorem dq_upd {K : PySem.W.Frag} {G H : Hp} {d : Addr} {o : HO} {v : V} {x : PyData} (s : Same G H) (hd : H d = none) (h : Dq K G v x) : Dp K (upd H d o) v x :=
  dq_dp (fun a u ha => by rw [upd_ne (ne_of_none (s a u ha) hd)]; exact s a u ha) _ _ h
theorem noLAll_1 {d : PyData} (h : noLAll [d] = true) : noL d = true := by
  have : (noL d && true) = true := h
  simpa using this
section
variable {X : Cx} {p pos pos2 : Pos}
theorem js_rz1 {x f1 : Str} {C : Addr} {E : XK} {Ep : EX} {e1 : Expr} {ps : PL} {j : Nat} (T : Err1 X.prog X.w X.K X.mg X.base x f1 C) (hr : Room j X.A) (hc : X.calm = true) (tk : Takes X fun cls d _ H => E cls d H) (hx : XOk X.K B Ep E) (hg : Gl X x) (ha : JA X B [e1] ps) (hk : 2 ≤ j := by decide)
    (hdb : (x == ("__debug__" : Str)) = false := by decide) (he : starEach (e1 :: []) X.env = (false, eval e1 X.env) :: starEach [] X.env := by rfl) (hpl : (backTo pos (starEach [] X.env)).any (·.1) = false := by rfl) :
    JS X B (.Raise (some (.Call (.Name x p) [e1] [] pos)) none pos2) (pRaise C [f1] ps Ep) := PS_wk (ps_rz1 T hr hc tk hg ha hk hdb he hpl) fun D σ H ⟨G, w, δ, E', rep, h, ek⟩ =>
  ⟨G, w, δ, _, rep, h, fun rs δ1 vs H1 G1 w1 q1 l1 s1 rep1 => by
    obtain ⟨ds, δ2, hz, hn, q1⟩ := q1
    obtain ⟨G2, w2, s2, r2⟩ := rep1.fzs hz
    have hd := r2.ims
    have hl : vs.length = 1 := rep1.tlen.trans l1
    match vs, ds, hd, hl, hn, q1 with
    | [v], [d], .cons h1 .nil, _, hn, q1 => exact ⟨v, rfl, fun dd hdd => raise_ok hx r2 q1 hdd (.cons (dq_upd r2.sub hdd h1) (noLAll_1 hn) .nil)⟩⟩
end
/-! ### all tuples are public -/
open Classical in
noncomputable def pubT (G H : Hp) (x : Option (Addr × HO)) : Hp := fun a => match x with
  | some (d, o) => if a = d then some o else match G a with
    | some u => some u
    | none => if ∃ xs, RdX H a xs then H a else none
  | none => match G a with
    | some u => some u
    | none => if ∃ xs, RdX H a xs then H a else none
open Classical in
theorem pubT_some {G H : Hp} {x : Option (Addr × HO)} {a : Addr} {o : HO} (h : pubT G H x a = some o) : (∃ u, x = some (a, u) ∧ o = u) ∨ G a = some o ∨ (H a = some o ∧ ∃ xs, RdX H a xs) := by
  unfold pubT at h
  have go : (match G a with
    | some u => some u
    | none => if ∃ xs, RdX H a xs then H a else none) = some o → G a = some o ∨ (H a = some o ∧ ∃ xs, RdX H a xs) := fun h => by
    cases e : G a with
    | some u => rw [e] at h; exact .inl h
    | none =>
      rw [e] at h
      dsimp only at h
      split at h
      · rename_i z; exact .inr ⟨h, z⟩
      · cases h
  cases x with
  | none => exact .inr (go h)
  | some p =>
    obtain ⟨d, u⟩ := p
    dsimp only at h
    split at h
    · rename_i e; subst e; cases h; exact .inl ⟨_, rfl, rfl⟩
    · exact .inr (go h)
open Classical in
theorem pubT_g {G H : Hp} {x : Option (Addr × HO)} (hx : ∀ d u, x = some (d, u) → G d = none) : Same G (pubT G H x) := fun a o h => by
  unfold pubT
  cases x with
  | none => rw [h]
  | some p =>
    obtain ⟨d, u⟩ := p
    dsimp only
    rw [if_neg (fun e => by subst e; rw [hx a u rfl] at h; cases h), h]
open Classical in
theorem pubT_tup {K : PySem.W.Frag} {G H : Hp} {x : Option (Addr × HO)} (s : Same G H) (hx : ∀ d u, x = some (d, u) → NoT H d) {a : Addr} {xs : List V} (h : SqT K H a xs) : SqT K (pubT G H x) a xs := by
  rcases h with h | h
  · refine .inl ?_
    have e : pubT G H x a = H a := by
      have body : (match G a with
        | some u => some u
        | none => if ∃ xs, RdX H a xs then H a else none) = H a := by
        cases e : G a with
        | some u => exact (s a u e).symm
        | none => dsimp only; rw [if_pos ⟨some xs, h⟩]
      unfold pubT
      cases x with
      | none => exact body
      | some p =>
        obtain ⟨d, u⟩ := p
        dsimp only
        rw [if_neg (fun e => by subst e; exact hx a u rfl xs h)]
        exact body
    rcases h with h | ⟨o, h⟩
    · exact .inl (by rw [e]; exact h)
    · exact .inr ⟨o, by rw [e]; exact h⟩
  · exact .inr h
mutual
theorem dp_pub {K : PySem.W.Frag} {G H : Hp} {x : Option (Addr × HO)} (s : Same G H) (hx : ∀ d u, x = some (d, u) → NoT H d) : ∀ (d : PyData) (v : V), noL d = true → Dp K H v d → Dq K (pubT G H x) v d
  | .none, _, _, h => by cases h; exact .non
  | .bool b, _, _, h => by cases h; exact .bl b
  | .int i, _, _, h => by cases h; exact .int i
  | .str x, _, _, h => by cases h; exact .str x
  | .list _, _, n, _ => nomatch n
  | .dict _, _, _, h => by cases h
  | .tuple ds, _, n, h => by
    cases h with
    | tup hs ha => exact .tup (pubT_tup s hx hs) (dpAll_pub s hx ds _ n ha)
theorem dpAll_pub {K : PySem.W.Frag} {G H : Hp} {x : Option (Addr × HO)} (s : Same G H) (hx : ∀ d u, x = some (d, u) → NoT H d) : ∀ (ds : List PyData) (vs : List V), noLAll ds = true → DpAll K H vs ds → DqAll K (pubT G H x) vs ds
  | [], _, _, h => by cases h; exact .nil
  | d :: ds, _, n, h => by
    have n2 : (noL d && noLAll ds) = true := n
    rw [Bool.and_eq_true] at n2
    cases h with
    | cons h1 h2 => exact .cons (dp_pub s hx d _ n2.1 h1) (dpAll_pub s hx ds _ n2.2 h2)
end
/-- all that stood stands; new things beside, the tuples public now -/
theorem Rep.pub {K : PySem.W.Frag} {G H H2 : Hp} {σ : St} {δ : List Sl} {w : Addr → Option Nat} (r : Rep K B G H σ δ [] [] w) {x : Option (Addr × HO)} (s : ∀ a o, NT o → H a = some o → H2 a = some o) (tg : TbG B.T H H2) (hx : ∀ d u, x = some (d, u) → H d = none ∧ H2 d = some u ∧ NT u) :
    Stp B.T G H w δ (pubT G H2 x) H2 w δ ∧ Rep K B (pubT G H2 x) H2 σ δ [] [] w := by
  have gx : ∀ d u, x = some (d, u) → G d = none := fun d u e => by
    cases e2 : G d with
    | none => rfl
    | some o => have := r.sub d o e2; rw [(hx d u e).1] at this; cases this
  have sg := pubT_g (H := H2) gx
  have both : ∀ a o, H a = some o → H2 a = some o ∨ ∃ ps qs, o = .tbl ps ∧ H2 a = some (.tbl qs) := fun a o h => by
    by_cases hn : NT o
    · exact .inl (s a o hn h)
    · have : ∃ ps, o = .tbl ps := Classical.byContradiction fun z => hn fun ps e => z ⟨ps, e⟩
      obtain ⟨ps, rfl⟩ := this
      obtain ⟨qs, h2⟩ := tg.st a ps h
      exact .inr ⟨ps, qs, rfl, h2⟩
  have ngt : ∀ {a : Addr} {o : HO}, G a = some o → NT o := fun {a o} h ps e => r.bs.gt a ps (by rw [h, e])
  have st : Stp B.T G H w δ (pubT G H2 x) H2 w δ := by
    refine ⟨sg, fun a o _ h => both a o h, fun a i h => .inl (by rw [h]; exact Option.some_ne_none _), fun a o h => ?_, .refl _, tg, fun a ps h => ?_⟩
    rotate_left
    · rcases pubT_some h with ⟨u, e, z⟩ | h | ⟨h, xs, hr⟩
      · exact absurd z.symm ((hx a u e).2.2 ps)
      · exact h
      · exact absurd hr (NoX.tbl h xs)
    rcases pubT_some h with ⟨u, e, _⟩ | h | ⟨h, xs, hr⟩
    · exact .inr (.inl (hx a u e).1)
    · exact .inl h
    · cases e : H a with
      | none => exact .inr (.inl rfl)
      | some u =>
        refine .inr (.inr (.inr ⟨xs, ?_⟩))
        rcases both a u e with e2 | ⟨_, _, _, e2⟩
        · exact RdX.same e e2 hr
        · exact absurd hr (NoX.tbl e2 xs)
  refine ⟨st, fun a o h => ?_, fun a i h => ?_, r.len, fun i sl h => ((r.sl i sl h).monoN sg (fun a u hn _ hu => s a u hn hu) fun a u ma _ => ma), rfl, fun j v q hv => by simp at hv, st.bs r.bs⟩
  · rcases pubT_some h with ⟨u, e, rfl⟩ | h | ⟨h, _⟩
    · exact (hx a _ e).2.1
    · exact s a o (ngt h) (r.sub a o h)
    · exact h
  · obtain ⟨g0, h0, n0⟩ := r.out a i h
    cases e : H a with
    | none => exact absurd e h0
    | some u =>
      have n2 : H2 a ≠ none ∧ NoX H2 a := by
        rcases both a u e with e2 | ⟨_, _, _, e2⟩
        · exact ⟨by rw [e2]; exact Option.some_ne_none _, n0.same e e2⟩
        · exact ⟨by rw [e2]; exact Option.some_ne_none _, NoX.tbl e2⟩
      refine ⟨?_, n2⟩
      cases e3 : pubT G H2 x a with
      | none => rfl
      | some o =>
        rcases pubT_some e3 with ⟨u', e', _⟩ | h' | ⟨_, xs, hr⟩
        · have := (hx a u' e').1; rw [e] at this; cases this
        · rw [g0] at h'; cases h'
        · exact absurd hr (n2.2 xs)
theorem flp_fl {K : PySem.W.Frag} {G H : Hp} {x : Option (Addr × HO)} (s : Same G H) (hx : ∀ d u, x = some (d, u) → NoT H d) : ∀ {us : List (Str × V)} {fs : List (Str × PyData)}, FlP K H us fs → Fl K (pubT G H x) us fs
  | _, _, .nil => .nil
  | _, _, .cons h1 h2 h3 => .cons (dp_pub s hx _ _ h2 h1) (flp_fl s hx h3)
/-! ### try: name = an expression with one call that may raise -/
abbrev HX := Addr → List (Str × PyData) → List Sl → Prop
abbrev PXx := List Sl → QE → HX → Prop
def LEx (K : PySem.W.Frag) (B : Bas) (W : WX) (p : PXx) : TE := fun σ H Q => ∃ G w δ Qp Hd, Rep K B G H σ δ [] [] w ∧ p δ Qp Hd ∧ (∀ r δ' v H' G' w', Qp r δ' → Stp B.T G H w δ G' H' w' δ' → Rep K B G' H' σ δ' [v] [r] w' → Q v H') ∧
  ∀ C fs us d δ' H' G' w', Hd C fs δ' → Stp B.T G H w δ G' H' w' δ' → Rep K B G' H' σ δ' [] [] w' → G' d = some (.xd us) → Fl K G' us fs → W (.ref C) (some d) σ H'
def JX (X : Cx) (B : Bas) (W : WX) (e : Expr) (p : PXx) : Prop := PE X e (LEx X.K B W p)
/-- all arguments are data -/
def imsOf : List R → Option (List PyData)
  | [] => some []
  | .im d :: rs => (imsOf rs).map (d :: ·)
  | _ :: _ => none
theorem imsOf_eq : ∀ {rs : List R} {ds : List PyData}, imsOf rs = some ds → rs = ds.map .im
  | [], _, h => by cases h; rfl
  | .im d :: rs, ds, h => by
    obtain ⟨es, h1, rfl⟩ := Option.map_eq_some_iff.mp (show (imsOf rs).map (d :: ·) = some ds from h)
    rw [imsOf_eq h1]
    rfl
  | .ow o :: rs, _, h => by cases h
  | .at i :: rs, _, h => by cases h
def xCall (ps : PSp) (pa : PL) : PXx := fun δ Q Hd => pa δ fun rs δ1 => ∃ ds, imsOf rs = some ds ∧ ps (ds.map .im) (fun r _ => Q r δ1) fun C fs => Hd C fs δ1
theorem xcall_lift {K : PySem.W.Frag} {W : WX} {ps : PSp} {pa : PL} {n : Nat} {σ : St} {H : Hp} {Q : VK} (h : LEx K B W (xCall ps pa) σ H Q) : tCallS (LSp K B.T ps) (WE W) (LA K B n pa) σ H Q := by
  obtain ⟨G, w, δ, Qp, Hd, rep, q, k, x⟩ := h
  refine ⟨G, w, δ, _, rep, q, fun rs δ1 vs H1 G1 w1 q1 _ s1 rep1 => ?_⟩
  obtain ⟨ds, hi, q1⟩ := q1
  have er := imsOf_eq hi
  subst er
  have hd := rep1.ims
  have hl := dqAll_len hd
  have bs0 : BsOk (B0 B.T H1 (fun _ => none)) G1 H1 (fun _ => none) := ⟨fun a o h => B0_some h, .refl, rep1.bs.tt.ts rep1.bs.ta, rep1.bs.gt⟩
  refine ⟨G1, fun _ => none, ds.map .im, _, _, ⟨rep1.sub, fun a i h => (nomatch h), by rw [List.length_map, List.length_map]; exact hl, fun j s hs => ?_, rfl, fun j v r hv => by simp at hv, bs0⟩, fun s hs => ?_, q1, fun r os v H2 G2 w2 hq hr st rp => ?_, fun C fs us d H2 he hs htb hbd hdd hf => ?_⟩
  · rw [List.getElem?_map] at hs
    obtain ⟨d, h1, rfl⟩ := Option.map_eq_some_iff.mp hs
    obtain ⟨v, hv, hq⟩ := dqAll_get hd h1
    exact ⟨v, by rw [List.getElem?_map, hv]; rfl, hq⟩
  · obtain ⟨d, _, rfl⟩ := List.mem_map.mp hs
    exact .inr (.inl ⟨d, rfl⟩)
  · -- nothing of ours was handed on: frame
    have same : ∀ a o, NT o → H1 a = some o → H2 a = some o := fun a o hn ha => st.bN a o hn rfl ha
    have rd := rep1.drop
    have w2n : ∀ a i, evn (w1 a) = some i → w2 a = none := fun a i h => by
      cases e : w2 a with
      | none => rfl
      | some m =>
        rcases st.n a m e with z | z
        · exact absurd rfl z
        · exact absurd z (rd.out a i h).2.1
    have out2 : ∀ a i, evn (w1 a) = some i → G2 a = none ∧ H2 a ≠ none ∧ NoX H2 a := fun a i h => by
      obtain ⟨g0, h0, n0⟩ := rd.out a i h
      refine ⟨?_, st.nn a rfl h0 n0⟩
      cases e6 : G2 a with
      | none => rfl
      | some o =>
        rcases st.p a o e6 with z | z | z | ⟨xs, z⟩
        · rw [g0] at z; cases z
        · exact absurd z h0
        · exact absurd rfl z
        · exact absurd z (n0 xs)
    let wf : Addr → Option Nat := fun a => match w2 a with
      | some m => if m % 2 = 1 then some m else none
      | none => evn (w1 a)
    have st' : Stp B.T G1 H1 w1 δ1 G2 H2 wf δ1 := by
      refine ⟨st.g, fun a o _ ho => st.b a o rfl ho, fun a m hm => ?_, fun a o ho => ?_, .refl _, st.t, st.q⟩
      · cases e2 : w2 a with
        | some m2 =>
          rcases st.n a m2 e2 with z | z
          · exact absurd rfl z
          · exact .inr z
        | none =>
          have hm' : evn (w1 a) = some m := by
            have : wf a = evn (w1 a) := by show (match w2 a with | some m => if m % 2 = 1 then some m else none | none => evn (w1 a)) = _; rw [e2]
            rw [← this]; exact hm
          exact .inl (by rw [(evn_some.mp hm').1]; exact Option.some_ne_none _)
      · rcases st.p a o ho with z | z | z | z
        · exact .inl z
        · exact .inr (.inl z)
        · exact absurd rfl z
        · exact .inr (.inr (.inr z))
    refine k r δ1 v H2 G2 wf hq (s1.trans st') ⟨rp.sub, fun a m hm => ?_, rep1.len, fun i s hs => ?_, rfl, fun j u p hu hp => ?_, st'.bs rep1.bs⟩
    · cases e2 : w2 a with
      | some m2 => exact rp.out a m2 e2
      | none =>
        have hm' : evn (w1 a) = some m := by
          have : wf a = evn (w1 a) := by show (match w2 a with | some m => if m % 2 = 1 then some m else none | none => evn (w1 a)) = _; rw [e2]
          rw [← this]; exact hm
        exact out2 a m hm'
    · refine (rd.sl i s hs).monoN st.g (fun a u hn ma hu => same a u hn hu) fun a u ma hu => ?_
      have ma' : evn (w1 a) = some (2 * i) := ma
      show (match w2 a with | some m => if m % 2 = 1 then some m else none | none => evn (w1 a)) = _
      rw [w2n a _ ma']
      exact ma'
    · match j with
      | 0 =>
        simp only [List.getElem?_cons_zero, Option.some.injEq] at hu hp
        subst hu hp
        have t := rp.tm 0 v r rfl rfl
        cases r with
        | im d => exact t
        | ow o =>
          refine RO.mono (fun _ _ h => h) (fun _ _ _ h => h) (fun a u ma _ => ?_) t
          show (match w2 a with | some m => if m % 2 = 1 then some m else none | none => evn (w1 a)) = _
          rw [ma]
          rfl
        | «at» i => cases hr
      | j + 1 => simp at hu
  · -- an error: all stands
    have same : ∀ a o, NT o → H1 a = some o → H2 a = some o := fun a o hn ha => hs a o (nTb_of ha hn)
    have hd1 : H1 d = none := by
      have hb : nTb (H1 d) = none := hbd
      cases e : H1 d with
      | none => rfl
      | some o =>
        by_cases hn : NT o
        · rw [nTb_of e hn] at hb; cases hb
        · have : ∃ ps, o = .tbl ps := Classical.byContradiction fun z => hn fun ps e => z ⟨ps, e⟩
          obtain ⟨ps, rfl⟩ := this
          obtain ⟨qs, h2⟩ := htb.st d ps e
          rw [hdd] at h2
          cases h2
    have rd := rep1.drop
    have hx : ∀ d' u, some (d, HO.xd us) = some (d', u) → H1 d' = none ∧ H2 d' = some u ∧ NT u := fun d' u e => by cases e; exact ⟨hd1, hdd, nofun⟩
    obtain ⟨s2, r2⟩ := rd.pub (x := some (d, .xd us)) same htb hx
    have nt : ∀ d' u, some (d, HO.xd us) = some (d', u) → NoT H2 d' := fun d' u e => by
      cases e
      intro xs z
      rcases z with z | ⟨ob, z⟩ <;> rw [hdd] at z <;> cases z
    refine x C fs us d δ1 H2 _ _ he ((s1.trans .drop).trans s2) r2 ?_ (flp_fl (fun a o h => same a o (fun ps e => rep1.bs.gt a ps (by rw [h, e])) (rep1.sub a o h)) nt hf)
    unfold pubT
    dsimp only
    rw [if_pos rfl]
end Pv
namespace Pv
open PySem PySem.Spec L2 Wf
variable {B : Bas}
section
variable {X : Cx} {W : WX} {e e1 e2 a b c : Expr} {es : List Expr} {p pos : Pos}
theorem jx_call {k j : Nat} {x : Str} {pn : List Str} {psp : PSp} {ps : PL} (C : CalX X.prog X.w X.K X.mg X.base k x pn (LSp X.K B.T psp)) (hr : Room j X.A) (tk : Takes X W) (hg : Gl X x) (ha : JA X B (e :: es) ps) (hk : k ≤ j := by decide)
    (hdb : (x == ("__debug__" : Str)) = false := by decide) (he : starEach (e :: es) X.env = (false, eval e X.env) :: starEach es X.env := by rfl) (hpl : (backTo pos (starEach es X.env)).any (·.1) = false := by rfl) :
    JX X B W (.Call (.Name x p) (e :: es) [] pos) (xCall psp ps) := PE_wk (pe_calT C hr tk hg ha hk hdb he hpl) fun σ H Q h => xcall_lift h
/-- (a, f(..)) -/
def xTup2 (p1 : PX) (p2 : PXx) : PXx := fun δ Q Hd => p1 δ fun r1 δ1 => p2 δ1 (fun r2 δ2 => ∃ ds δ3, fzAll δ2 [r1, r2] = some (ds, δ3) ∧ Q (.im (.tuple ds)) δ3) Hd
theorem jx_tup2 {p1 : PX} {p2 : PXx} {x1} (h1 : JE X B e1 p1) (h2 : JX X B W e2 p2) (hs : starEach [e1, e2] X.env = (false, eval e1 X.env) :: starEach [e2] X.env := by rfl) (hs2 : starEach [e2] X.env = (false, eval e2 X.env) :: starEach [] X.env := by rfl) :
    JX X B W (.Tuple [e1, e2] x1 pos) (xTup2 p1 p2) := by
  refine PE_wk (pe_tup (pa_cons h1 (pa_cons h2 pa_nil hs2) hs)) fun σ H Q ⟨G, w, δ, Qp, Hd, rep, q, k, x⟩ => ?_
  refine ⟨G, w, δ, _, rep, q, fun r1 δ1 v1 H1 G1 w1 q1 s1 rep1 => ?_⟩
  refine ⟨G1, _, δ1, _, _, rep1.drop, q1, fun r2 δ2 v2 H2 G2 w2 q2 s2 rep2 => ?_, fun C fs us d δ' H' G' w' hd st rp hg hf => x C fs us d δ' H' G' w' hd ((s1.trans .drop).trans st) rp hg hf⟩
  obtain ⟨w3, s3, rep3⟩ := rep1.frame s2 rep2
  obtain ⟨ds, δ3, hz, q2⟩ := q2
  obtain ⟨G4, w4, s4, r4⟩ := rep3.fzs hz
  refine ⟨by show 2 ≤ sizeLine; decide, fun p hp => ?_⟩
  obtain ⟨s5, r5⟩ := r4.retNew hp (dq_newTup r4.sub hp r4.ims)
  exact k _ _ _ _ _ _ q2 (((s1.trans s3).trans s4).trans s5) r5
end
/-- try: slot j = p; except .. as slot i: su -/
def pTry (i j : Nat) (cat : Addr → Prop) (p : PXx) (su : Addr → Value → Option Addr → PSx) : PSx := fun E δ => p δ (fun r δ1 => ∃ q δ2, rz δ1 r = some (q, δ2) ∧ setS j q δ2 E.nx) fun C fs δ' => cat C ∧ match δ'[i]? with
  | none => False
  | some (.ow true _) => False
  | some _ => ∀ a dd, su a (.ref C) (some dd) ⟨fun δ2 => E.nx (δ2.set i .un), E.rt, fun δ2 => E.bk (δ2.set i .un), fun δ2 => E.ct (δ2.set i .un)⟩ (δ'.set i (.ex a dd C fs))
theorem js_try {X : Cx} {i j : Nat} {x n y : Str} {cat : Addr → Prop} {c : Value} {p : PXx} {su : Addr → Value → Option Addr → PSx} {e : Expr} {b₀ : Stmt} {suite : List Stmt} {np py pos pos' pos2 : Pos} (hs : X.stack = X.env :: X.outer) (hf : X.env.frame = some X.env.locals) (hN : X.N.Nodup) (hi : X.N[i]? = some n) (hln : X.env.kindOf n = some .local) (hc : Names X x c)
    (hj : X.N[j]? = some y) (hy : Loc X.env.scope y) (hcat : ∀ C, cat C → PySem.W.exmOne X.K (.ref C) c = some true)
    (he : ∀ (W : WX) (pn : List (Addr × Obj)) (xe : Value → Shared → Prop), Takes (X.tr pn xe) W → JX (X.tr pn xe) B W e p)
    (hsu : ∀ (a : Addr) (oe : Obj) (cls : Value) (d : Option Addr) (pn : List (Addr × Obj)), Zc cls d oe → (∃ vs, oe.data = .fields vs) → JSs (X.suite a ((a, oe) :: pn)) B (b₀ :: suite) (su a cls d))
    (hsw : swapsWith e (some (.Name y py)) pos2.line X.env = pure false := by rfl) (hfn : X.fn y = true ∨ X.env.scope.names.lookup y = some .local := by first | exact .inl rfl | exact .inr rfl | assumption) :
    JS X B (.Try [.Assign [.Name y py] e pos2] [.ExceptHandler (some (.Name x np)) (some n) (b₀ :: suite) pos'] [] [] pos) (pTry i j cat p su) := by
  refine PS_wk (ps_try_as (i := i) (tb := fun W => tAsg (LEx X.K B W p) (gName j)) (ts := fun a cls d => LS X.K B (su a cls d)) (Wout := fun _ _ _ _ => False) hs hf hN hi hln hc L2.takes0 (fun W pn xe tk _ => pss_one (ps_set (i := j) hN hj hy (he W pn xe tk) hsw hfn)) hsu) fun D σ H ⟨G, w, δ, E, rep, h, ek⟩ => ?_
  refine ⟨G, w, δ, _, _, rep, h, fun r δ1 v H1 G1 w1 q1 s1 rep1 => ?_, fun C fs us d δ' H' G' w' hd st rp hg hfl => ?_⟩
  · obtain ⟨q, δ2, hz, q1⟩ := q1
    obtain ⟨G2, w2, s2, r2⟩ := rep1.rz1 (j := 0) rfl hz
    obtain ⟨w3, q3, s3, r3, p3⟩ := r2.sto q1 (rz_noAt hz) (fun p hp => by cases hp)
    exact ek.nx _ _ H1 G2 w3 q3 ((s1.trans s2).trans s3) r3 ((Pin.refl (σ := σ)).trans (s1.trans s2).pn p3)
  · obtain ⟨hc1, hd⟩ := hd
    refine ⟨true, hcat C hc1, fun _ a ha => ?_, fun z => nomatch z⟩
    have hdi : ∃ s, δ'[i]? = some s ∧ (∀ o, s ≠ .ow true o) ∧ ∀ a dd, su a (.ref C) (some dd) ⟨fun δ2 => E.nx (δ2.set i .un), E.rt, fun δ2 => E.bk (δ2.set i .un), fun δ2 => E.ct (δ2.set i .un)⟩ (δ'.set i (.ex a dd C fs)) := by
      revert hd
      split
      · intro h; exact h.elim
      · intro h; exact h.elim
      · rename_i s hn e
        intro h
        exact ⟨s, e, fun o z => hn o z, h⟩
    obtain ⟨s, e1, e2, hsu'⟩ := hdi
    have hil : i < δ'.length := (List.getElem?_eq_some_iff.mp e1).1
    have hiσ : i < σ.length := by rw [rp.len]; exact hil
    have np' : ∀ o, δ'[i]? ≠ some (.ow true o) := fun o z => by rw [e1] at z; cases z; exact e2 o rfl
    have np0 : ∀ (k : Nat) o, δ[k]? = some (Sl.ow true o) → i ≠ k := fun k o hk z => by
      subst z
      obtain ⟨o', h'⟩ := st.pn i o hk
      exact np' o' h'
    have stx : Stp B.T G H w δ G' H' w' (δ'.set i (.ex a d C fs)) := st.reδ (st.pn.trans (pn_set np'))
    have rx : Rep X.K B G' H' (σ.set i (some (.ref a))) (δ'.set i (.ex a d C fs)) [] [] w' := ⟨rp.sub, rp.out, by rw [List.length_set, List.length_set]; exact rp.len, fun k s' hk => by
      by_cases ek' : i = k
      · subst ek'
        rw [List.getElem?_set_self hil] at hk
        cases hk
        exact ⟨List.getElem?_set_self hiσ, us, hg, hfl⟩
      · rw [List.getElem?_set_ne ek'] at hk
        rw [List.getElem?_set_ne ek']
        exact rp.sl k s' hk, rfl, fun j v q hv => by simp at hv, rp.bs⟩
    have pinx : Pin σ δ (σ.set i (some (.ref a))) := fun k o hk => List.getElem?_set_ne (np0 k o hk)
    have fin : ∀ {G2 H2 : Hp} {w2 : Addr → Option Nat} {δ2 : List Sl} {σ2 : St}, Stp B.T G' H' w' (δ'.set i (.ex a d C fs)) G2 H2 w2 δ2 → Rep X.K B G2 H2 σ2 δ2 [] [] w2 → Pin (σ.set i (some (.ref a))) (δ'.set i (.ex a d C fs)) σ2 → Stp B.T G H w δ G2 H2 w2 (δ2.set i .un) ∧ Rep X.K B G2 H2 (σ2.set i none) (δ2.set i .un) [] [] w2 ∧ Pin σ δ (σ2.set i none) := fun {G2 H2 w2 δ2 σ2} s2 r2 p2 => by
      have sa := stx.trans s2
      refine ⟨sa.reδ fun k o hk => ?_, ⟨r2.sub, r2.out, by rw [List.length_set, List.length_set]; exact r2.len, fun k s' hk => ?_, rfl, fun j v q hv => by simp at hv, r2.bs⟩, fun k o hk => ?_⟩
      · obtain ⟨o', h'⟩ := sa.pn k o hk
        exact ⟨o', by rw [List.getElem?_set_ne (np0 k o hk)]; exact h'⟩
      · by_cases ek' : i = k
        · subst ek'
          by_cases hb : i < δ2.length
          · rw [List.getElem?_set_self hb] at hk
            cases hk
            trivial
          · rw [List.getElem?_eq_none (by rw [List.length_set]; omega)] at hk; cases hk
        · rw [List.getElem?_set_ne ek'] at hk
          rw [List.getElem?_set_ne ek']
          exact r2.sl k s' hk
      · rw [List.getElem?_set_ne (np0 k o hk)]
        exact (pinx.trans stx.pn p2) k o hk
    refine ⟨G', w', _, _, rx, hsu' a d, ⟨fun δ2 σ2 H2 G2 w2 h2 s2 r2 p2 => ?_, fun r δ2 v σ2 H2 G2 w2 h2 ha2 s2 r2 p2 => ?_, fun δ2 σ2 H2 G2 w2 h2 s2 r2 p2 => ?_, fun δ2 σ2 H2 G2 w2 h2 s2 r2 p2 => ?_⟩⟩
    · obtain ⟨f1, f2, f3⟩ := fin s2 r2 p2
      exact ek.nx _ _ H2 G2 w2 h2 f1 f2 f3
    · exact ek.rt r δ2 v σ2 H2 G2 w2 h2 ha2 (stx.trans s2) r2 (pinx.trans stx.pn p2)
    · obtain ⟨f1, f2, f3⟩ := fin s2 r2 p2
      exact ek.bk _ _ H2 G2 w2 h2 f1 f2 f3
    · obtain ⟨f1, f2, f3⟩ := fin s2 r2 p2
      exact ek.ct _ _ H2 G2 w2 h2 f1 f2 f3
/-! ### what is asked of the caught error -/
section
variable {X : Cx} {a : Addr} {oe : Obj} {cls : Value} {d : Option Addr} {pn : List (Addr × Obj)} {e : Expr} {p pos pt : Pos}
/-- isinstance(n, one class) -/
def pIsX (sb : Addr → Option Bool) (a : Addr) (cls : Value) (d : Option Addr) (i : Nat) : PX := fun δ Q => ∃ dd C fs b, δ[i]? = some (.ex a dd C fs) ∧ cls = .ref C ∧ d = some dd ∧ sb C = some b ∧ Q (.im (.bool b)) δ
theorem rep_ex {K : PySem.W.Frag} {G H : Hp} {σ : St} {δ : List Sl} {vs : List V} {rs : List R} {w : Addr → Option Nat} (r : Rep K B G H σ δ vs rs w) {i : Nat} {a dd C : Addr} {fs : List (Str × PyData)} (h : δ[i]? = some (.ex a dd C fs)) : σ[i]? = some (some (.ref a)) ∧ ∃ us, H dd = some (.xd us) ∧ Fl K G us fs := by
  obtain ⟨h1, us, h2, h3⟩ := r.sl i _ h
  exact ⟨h1, us, r.sub _ _ h2, h3⟩
theorem je_isX {i : Nat} {n x2 : Str} {C2 : Addr} {sb : Addr → Option Bool} {pn2 : Pos} (hz : Zc cls d oe) (hf : ∃ vs, oe.data = .fields vs) (hsb : ∀ C b, sb C = some b → IsC X.K C ∧ PySem.W.kitOne X.K (.ref C) (.ref C2) = some b) (hcv : ClsV (.ref C2) (.ref C2)) (hg : Gl X "isinstance") (hm : X.mg "isinstance" = none)
    (hn : PE (X.suite a ((a, oe) :: pn)) (.Name n pn2) (tVar i)) (ht : PE (X.suite a ((a, oe) :: pn)) (.Name x2 pt) (tC (.ref C2))) (he : starEach [.Name n pn2, .Name x2 pt] X.env = (false, eval (.Name n pn2) X.env) :: starEach [.Name x2 pt] X.env := by rfl) (he2 : starEach [.Name x2 pt] X.env = (false, eval (.Name x2 pt) X.env) :: starEach [] X.env := by rfl) (hpl : (backTo pos (starEach [.Name x2 pt] X.env)).any (·.1) = false := by rfl) :
    JE (X.suite a ((a, oe) :: pn)) B (.Call (.Name "isinstance" p) [.Name n pn2, .Name x2 pt] [] pos) (pIsX sb a cls d i) := by
  refine PE_wk (pe_callB (call_isX hz hf) hg hm (by decide +kernel) (pa_cons hn (pa_cons ht pa_nil he2) he) (by decide) (by decide) he hpl) fun σ H Q ⟨G, w, δ, Qp, rep, q, k⟩ => ?_
  obtain ⟨dd, C, fs, b, h1, h2, h3, h4, q⟩ := q
  obtain ⟨e1, us, e2, e3⟩ := rep_ex rep h1
  obtain ⟨f1, f2⟩ := hsb C b h4
  exact ⟨_, e1, C, dd, us, .ref C2, b, h2, f1, h3, e2, .inl ⟨_, rfl, hcv, f2⟩, k _ δ _ H G _ q .drop (rep.ret (.bl b))⟩
/-- isinstance(n, several classes) -/
theorem je_isXT {i : Nat} {n : Str} {Cs : List Addr} {tp : Expr} {sb : Addr → Option Bool} {pn2 : Pos} (hz : Zc cls d oe) (hf : ∃ vs, oe.data = .fields vs) (hsb : ∀ C b, sb C = some b → IsC X.K C ∧ PySem.W.kitAny X.K (.ref C) (Cs.map .ref) = some b) (hcv : ∀ C ∈ Cs, ClsV (.ref C) (.ref C)) (hg : Gl X "isinstance") (hm : X.mg "isinstance" = none)
    (hn : PE (X.suite a ((a, oe) :: pn)) (.Name n pn2) (tVar i)) (ht : PE (X.suite a ((a, oe) :: pn)) tp (tTup (fun _ H Q => Q (Cs.map V.ref) H))) (hzz : Cs.length ≤ sizeLine) (he : starEach [.Name n pn2, tp] X.env = (false, eval (.Name n pn2) X.env) :: starEach [tp] X.env := by rfl) (he2 : starEach [tp] X.env = (false, eval tp X.env) :: starEach [] X.env := by rfl) (hpl : (backTo pos (starEach [tp] X.env)).any (·.1) = false := by rfl) :
    JE (X.suite a ((a, oe) :: pn)) B (.Call (.Name "isinstance" p) [.Name n pn2, tp] [] pos) (pIsX sb a cls d i) := by
  refine PE_wk (pe_callB (call_isX hz hf) hg hm (by decide +kernel) (pa_cons hn (pa_cons ht pa_nil he2) he) (by decide) (by decide) he hpl) fun σ H Q ⟨G, w, δ, Qp, rep, q, k⟩ => ?_
  obtain ⟨dd, C, fs, b, h1, h2, h3, h4, q⟩ := q
  obtain ⟨e1, us, e2, e3⟩ := rep_ex rep h1
  obtain ⟨f1, f2⟩ := hsb C b h4
  refine ⟨_, e1, by rw [List.length_map]; exact hzz, fun t ht' => ?_⟩
  obtain ⟨s2, r2⟩ := rep.lay (o := .tup (Cs.map V.ref)) ht'
  have pr : ∀ Cs : List Addr, (∀ C ∈ Cs, ClsV (.ref C) (.ref C)) → Paired ClsV (Cs.map V.ref) (Cs.map Value.ref) := fun Cs => by
    induction Cs with
    | nil => intro _; exact .nil
    | cons C Cs ih => intro h; exact .cons (h C List.mem_cons_self) (ih fun C' h' => h C' (List.mem_cons_of_mem _ h'))
  exact ⟨C, dd, us, .ref t, b, h2, f1, h3, by rw [upd_ne (ne_of_none e2 ht')]; exact e2, .inr ⟨t, Cs.map V.ref, Cs.map Value.ref, rfl, upd_same, pr Cs hcv, f2⟩, k _ δ _ _ _ _ q (s2.trans .drop) (r2.ret (.bl b))⟩
/-- n.f -/
def pXf (C : Addr) (a : Addr) (cls : Value) (d : Option Addr) (i : Nat) (f : Str) : PX := fun δ Q => ∃ dd fs v, δ[i]? = some (.ex a dd C fs) ∧ cls = .ref C ∧ d = some dd ∧ fs.lookup f = some v ∧ Q (.im v) δ
theorem fl_lookup {K : PySem.W.Frag} {G : Hp} {f : Str} : ∀ {us : List (Str × V)} {fs : List (Str × PyData)} {x : PyData}, Fl K G us fs → fs.lookup f = some x → ∃ v, us.lookup f = some v ∧ Dq K G v x
  | _, _, _, .nil, h => by cases h
  | _, _, x, .cons (x := y) h1 h2, h => by
    simp only [List.lookup_cons] at h ⊢
    split at h
    · cases h; exact ⟨_, rfl, h1⟩
    · exact fl_lookup h2 h
theorem je_xf {i : Nat} {n f : Str} {C : Addr} {pn2 : Pos} (T : XfC X.K C) (hno : PySem.W.findIn X.K (.ref C) f = some none) (hz : Zc cls d oe) (hf : ∃ vs, oe.data = .fields vs) (hn : PE (X.suite a ((a, oe) :: pn)) (.Name n pn2) (tVar i)) (hb : attributeBase (.Name n pn2) f X.env (eval (.Name n pn2) X.env) = eval (.Name n pn2) X.env := by rfl) :
    JE (X.suite a ((a, oe) :: pn)) B (.Attribute (.Name n pn2) f pos) (pXf C a cls d i f) := by
  refine PE_wk (pe_xf T hno hz hf hn hb) fun σ H Q ⟨G, w, δ, Qp, rep, q, k⟩ => ?_
  obtain ⟨dd, fs, v, h1, h2, h3, h4, q⟩ := q
  obtain ⟨e1, us, e2, e3⟩ := rep_ex rep h1
  obtain ⟨u, f1, f2⟩ := fl_lookup e3 h4
  exact ⟨_, e1, rfl, h2, dd, us, u, h3, e2, f1, k _ δ _ H G _ q .drop (rep.ret f2)⟩
end
end Pv
namespace Pv
open PySem PySem.Spec L2 Wf
variable {B : Bas}
theorem _root_.Wf.Cal.imp {P : Program} {w : World} {K : PySem.W.Frag} {mg : Str → Option Value} {base : Heap} {CX : CXT} {k : Nat} {x : Str} {ps : List Str} {sp sp' : Sp} (C : Wf.Cal P w K mg base CX k x ps sp) (h : ∀ vs H Q E, sp' vs H Q E → sp vs H Q E) : Wf.Cal P w K mg base CX k x ps sp' := by
  obtain ⟨f, fd, F, r⟩ := C.ex
  exact ⟨f, fd, F.imp h, r⟩
section
variable {K : PySem.W.Frag} {G H H' : Hp} {σ : St} {δ : List Sl} {vs : List V} {rs : List R} {w : Addr → Option Nat}
theorem noT_same {H H' : Hp} {a : Addr} {u : HO} (e : H a = some u) (e2 : H' a = some u) (n : NoX H a) : NoX H' a := n.same e e2
theorem noT_deal {H : Hp} {d l : Addr} (h : Deal H d l) : NoX H d ∧ NoX H l ∧ H d ≠ none ∧ H l ≠ none := by
  obtain ⟨s, m, n, ns, h1, h2, _⟩ := h.ex
  exact ⟨NoX.of h1 (fun _ z => by cases z) (fun _ _ z => by cases z) (fun _ z => by cases z), NoX.lst h2, by rw [h1]; exact Option.some_ne_none _, by rw [h2]; exact Option.some_ne_none _⟩
theorem tabs_deal {T : List NdefX.NTab} {H H' : Hp} {d l : Addr} (but : But [d, l] H H') (dl : Deal H d l) : TbG T H H' := by
  obtain ⟨s, m, n, ns, h1, h2, _⟩ := dl.ex
  have ne : ∀ x o, (∀ xs, o ≠ .lst xs) → (∀ xs, o ≠ .dK xs) → H x = some o → H' x = some o := fun x o n1 n2 hx => but x o (fun z => by
    simp only [List.mem_cons, List.not_mem_nil, or_false] at z
    rcases z with rfl | rfl
    · rw [h1] at hx; cases hx; exact n2 _ rfl
    · rw [h2] at hx; cases hx; exact n1 _ rfl) hx
  refine ⟨fun t p hp => ?_, fun a ps h => ⟨ps, ne _ _ nofun nofun h⟩⟩
  obtain ⟨ps, e1, e2, e3⟩ := t p hp
  refine ⟨ps, ne _ _ nofun nofun e1, e2, fun pos cv hc => ?_⟩
  obtain ⟨c, f1, f2⟩ := e3 pos cv hc
  exact ⟨c, f1, ne _ _ (fun xs z => by unfold LamX.CodeO at z; cases z) (fun xs z => by unfold LamX.CodeO at z; cases z) f2⟩
/-- the deal goes on -/
theorem Rep.deal (r : Rep K B G H σ δ vs rs w) {i : Nat} {b : Bool} {d l : Addr} (h : δ[i]? = some (.ow b .deal)) (hσ : σ[i]? = some (some (.ref d))) (wd : w d = some (2 * i)) (wl : w l = some (2 * i)) (dl0 : Deal H d l) (but : But [d, l] H H') (dl : Deal H' d l) :
    Stp B.T G H w δ G H' w δ ∧ Rep K B G H' σ δ vs rs w := by
  have nin : ∀ x, w x ≠ some (2 * i) → x ∉ [d, l] := fun x hx z => by
    simp only [List.mem_cons, List.not_mem_nil, or_false] at z
    rcases z with rfl | rfl
    · exact hx wd
    · exact hx wl
  obtain ⟨nd, nl, ed, el⟩ := noT_deal dl
  have st : Stp B.T G H w δ G H' w δ := .of ⟨fun _ _ h => h, fun x o hx ho => but x o (nin x (by rw [hx]; exact nofun)) ho, fun x n hx => .inl (by rw [hx]; exact Option.some_ne_none _), fun _ _ h => .inl h, .refl _⟩ (tabs_deal but dl0)
  refine ⟨st, fun x o hx => ?_, fun x n hx => ?_, r.len, fun k s hk => ?_, r.tlen, fun j v q hv hq => ?_, st.bs r.bs⟩
  · refine but x o (nin x fun z => ?_) (r.sub x o hx)
    rw [(r.out x _ z).1] at hx
    cases hx
  · obtain ⟨h1, h2, h3⟩ := r.out x n hx
    by_cases e : x ∈ [d, l]
    · simp only [List.mem_cons, List.not_mem_nil, or_false] at e
      rcases e with rfl | rfl
      · exact ⟨h1, ed, nd⟩
      · exact ⟨h1, el, nl⟩
    · cases e2 : H x with
      | none => exact absurd e2 h2
      | some u => exact ⟨h1, by rw [but x u e e2]; exact Option.some_ne_none _, noT_same e2 (but x u e e2) h3⟩
  · by_cases e : i = k
    · subst e
      rw [h] at hk
      cases hk
      exact ⟨_, hσ, d, l, rfl, wd, wl, dl⟩
    · refine (r.sl k s hk).mono (fun _ _ h => h) (fun x u mx hu => but x u (nin x ?_) hu) fun x u mx _ => mx
      rw [mx]
      exact fun z => e (by have := Option.some.inj z; omega)
  · refine (r.tm j v q hv hq).mono (fun _ _ h => h) (fun x u mx hu => but x u (nin x ?_) hu) fun x u mx _ => mx
    rw [mx]
    exact fun z => by have := Option.some.inj z; omega
/-- a new deal is told -/
theorem Rep.newDeal (r : Rep K B G H σ δ [] [] w) {d l : Addr} (s : Same H H') (hd : H d = none) (hl : H l = none) (dl : Deal H' d l) :
    ∃ w', Stp B.T G H w δ G H' w' δ ∧ Rep K B G H' σ δ [.ref d] [.ow .deal] w' := by
  obtain ⟨nd, nl, ed, el⟩ := noT_deal dl
  have g0 : ∀ x, H x = none → G x = none := fun x hx => by
    cases e : G x with
    | none => rfl
    | some o => have := r.sub x o e; rw [hx] at this; cases this
  have st : Stp B.T G H w δ G H' (fun a => if a = d ∨ a = l then some 1 else w a) δ := by
    refine .of ⟨fun _ _ h => h, fun x o hx ho => s x o ho, fun x n hx => ?_, fun _ _ h => .inl h, .refl _⟩ (.same s)
    split at hx
    · rename_i e
      rcases e with rfl | rfl
      · exact .inr hd
      · exact .inr hl
    · exact .inl (by rw [hx]; exact Option.some_ne_none _)
  have wn : ∀ x n, w x = some n → ¬ (x = d ∨ x = l) := fun x n hx z => by
    rcases z with rfl | rfl
    · exact (r.out _ n hx).2.1 hd
    · exact (r.out _ n hx).2.1 hl
  refine ⟨_, st, fun x o hx => s x o (r.sub x o hx), fun x n hx => ?_, r.len, fun k sl hk => ?_, rfl, fun j v q hv hq => ?_, st.bs r.bs⟩
  · split at hx
    · rename_i e
      rcases e with rfl | rfl
      · exact ⟨g0 _ hd, ed, nd⟩
      · exact ⟨g0 _ hl, el, nl⟩
    · obtain ⟨h1, h2, h3⟩ := r.out x n hx
      cases e2 : H x with
      | none => exact absurd e2 h2
      | some u => exact ⟨h1, by rw [s x u e2]; exact Option.some_ne_none _, noT_same e2 (s x u e2) h3⟩
  · refine (r.sl k sl hk).mono (fun _ _ h => h) (fun x u mx hu => s x u hu) fun x u mx _ => ?_
    show (if x = d ∨ x = l then some 1 else w x) = _
    rw [if_neg (wn x _ mx)]
    exact mx
  · cases j with
    | succ j => simp at hv
    | zero =>
      cases hv
      cases hq
      exact ⟨d, l, rfl, if_pos (.inl rfl), if_pos (.inr rfl), dl⟩
end
/-! ### what a draw does, by value -/
def psp_draw : PSp := fun as Q _ => ∃ n : Int, as = [.ow true .deal, .im (.int n)] ∧ 0 < n ∧ n < 2 ^ 200 ∧ ∀ k : Nat, (k : Int) < n → Q (.im (.int k)) as
theorem two_of {vs : List V} {as : List Sl} {a b : Sl} (hl : (vs.map some).length = as.length) (ha : as = [a, b]) : ∃ x y, vs = [x, y] := by
  subst ha
  match vs, hl with
  | [x, y], _ => exact ⟨x, y, rfl⟩
theorem conv_draw {K : PySem.W.Frag} {T : List NdefX.NTab} (vs : List V) (H : Hp) (Q : VK) (E : XK) (h : LSp K T psp_draw vs H Q E) : sp_draw vs H Q E := by
  obtain ⟨G, w, as, Qp, Ep, rep, _, ⟨n, rfl, h0, h1, hq⟩, k, _⟩ := h
  obtain ⟨x, y, rfl⟩ := two_of rep.len rfl
  obtain ⟨v, hv, d, l, rfl, wd, wl, dl⟩ := rep.sl 0 _ rfl
  obtain ⟨u, hu, dq⟩ := rep.sl 1 _ rfl
  cases hv
  cases hu
  cases dq
  refine ⟨d, l, n, rfl, h0, h1, dl, fun j H' j0 j1 but dl' => ?_⟩
  obtain ⟨st, r2⟩ := rep.deal (i := 0) rfl rfl wd wl dl but dl'
  obtain ⟨m, rfl⟩ := Int.eq_ofNat_of_zero_le j0
  exact k _ _ _ _ _ _ (hq m j1) rfl (st.trans .drop) (r2.ret (.int _))
def psp_deal : PSp := fun as Q _ => ∃ (b : Int) (ns : List Int), as = [.ow true (.scr ns), .im (.int b)] ∧ 0 ≤ b ∧ b ≤ 63 ∧ ns.length ≤ 1000 ∧ Q (.ow .deal) as
theorem conv_deal {K : PySem.W.Frag} {T : List NdefX.NTab} (vs : List V) (H : Hp) (Q : VK) (E : XK) (h : LSp K T psp_deal vs H Q E) : sp_deal K vs H Q E := by
  obtain ⟨G, w, as, Qp, Ep, rep, _, ⟨b, ns, rfl, h0, h1, hn, hq⟩, k, _⟩ := h
  obtain ⟨x, y, rfl⟩ := two_of rep.len rfl
  obtain ⟨v, hv, a, rfl, hs⟩ := rep.sl 0 _ rfl
  obtain ⟨u, hu, dq⟩ := rep.sl 1 _ rfl
  cases hv
  cases hu
  cases dq
  have sq : SqL K H a (ns.map V.int) := by
    rcases hs with ⟨o, _, ho⟩ | hs
    · exact .inl (.inr ⟨o, ho⟩)
    · exact hs H
  refine ⟨a, b, ns, rfl, sq, h0, h1, hn, fun d l H' s hd hl dl => ?_⟩
  obtain ⟨w', st, r2⟩ := rep.newDeal s hd hl dl
  exact k _ _ _ _ _ _ hq rfl st r2
/-- alike: of one data it is told True -/
def psp_alike : PSp := fun as Q _ => ∃ d, as = [.im d, .im d] ∧ noL d = true ∧ wt d ≤ 1000000 ∧ Q (.im (.bool true)) as
theorem conv_alike {K : PySem.W.Frag} {T : List NdefX.NTab} (vs : List V) (H : Hp) (Q : VK) (E : XK) (h : LSp K T psp_alike vs H Q E) : sp_alike K vs H Q E := by
  obtain ⟨G, w, as, Qp, Ep, rep, _, ⟨d, rfl, h0, h1, hq⟩, k, _⟩ := h
  obtain ⟨x, y, rfl⟩ := two_of rep.len rfl
  obtain ⟨v, hv, dv⟩ := rep.sl 0 _ rfl
  obtain ⟨u, hu, du⟩ := rep.sl 1 _ rfl
  cases hv
  cases hu
  refine ⟨_, _, d, rfl, dq_dp rep.sub _ _ dv, dq_dp rep.sub _ _ du, h0, h1, fun H' s => ?_⟩
  obtain ⟨st, r2⟩ := rep.pub (x := none) (fun a o _ h => s a o h) (.same s) nofun
  exact k _ _ _ _ _ _ hq rfl (st.trans .drop) (r2.ret (.bl true))
/-! ### loops over range(n) -/
theorem rgD_get {a b : Int} {i : Nat} {d : PyData} (h : (rgD a b)[i]? = some d) : d = .int (a + (i : Nat)) ∧ i < (b - a).toNat := by
  unfold rgD at h
  rw [List.getElem?_map] at h
  obtain ⟨j, h1, h2⟩ := Option.map_eq_some_iff.mp h
  obtain ⟨h3, h4⟩ := List.getElem?_eq_some_iff.mp h1
  rw [List.getElem_range] at h4
  rw [List.length_range] at h3
  subst h4
  exact ⟨h2.symm, h3⟩
theorem rgD_len (a b : Int) : (rgD a b).length = (b - a).toNat := by unfold rgD; rw [List.length_map, List.length_range]
/-- for i in range(a, n): I at each turn -/
theorem for_rg2 {step : PyData → PSx} {ts : List Nat} {E : PEn} {n : Int} (a m : Nat) {δ : List Sl} (hn : n = m) (ham : a ≤ m) (I : Nat → List Sl → Prop) (h0 : I a δ) (hs : ∀ (i : Nat) δ, a ≤ i → i < m → I i δ → step (.int (i : Int)) ⟨fun δ' => I (i + 1) (wipeT δ' ts), E.rt, fun δ' => E.nx (wipeT δ' ts), fun δ' => I (i + 1) (wipeT δ' ts)⟩ δ) (he : ∀ δ, I m δ → E.nx δ) : loopI step ts E (rgD a n) δ := by
  subst hn
  refine ⟨fun i δ => I (a + i) δ, h0, fun i d δ hd hi => ?_, fun δ h => he δ ?_⟩
  · obtain ⟨rfl, hl⟩ := rgD_get hd
    have := hs (a + i) δ (by omega) (by omega) hi
    rw [Int.natCast_add] at this
    exact this
  · rw [rgD_len] at h
    have e : a + ((m : Int) - a).toNat = m := by omega
    rw [e] at h
    exact h
theorem for_rg {step : PyData → PSx} {ts : List Nat} {E : PEn} {n : Int} (m : Nat) {δ : List Sl} (hn : n = m) (I : Nat → List Sl → Prop) (h0 : I 0 δ) (hs : ∀ (i : Nat) δ, i < m → I i δ → step (.int (i : Int)) ⟨fun δ' => I (i + 1) (wipeT δ' ts), E.rt, fun δ' => E.nx (wipeT δ' ts), fun δ' => I (i + 1) (wipeT δ' ts)⟩ δ) (he : ∀ δ, I m δ → E.nx δ) : loopI step ts E (rgD 0 n) δ :=
  for_rg2 0 m hn (Nat.zero_le m) I h0 (fun i δ _ => hs i δ) he
theorem atI_of {α : Type} {xs : List α} {i : Int} {j : Nat} {v : α} (hi : i = (j : Int)) (h : xs[j]? = some v) : atI xs i = some v := by rw [hi]; exact atI_nat h
end Pv
namespace Pv
open PySem PySem.Spec L2 Wf
variable {B : Bas}
/-! ### plain tuples: tuple(list) whose object is known; .index of them -/
theorem dqAll_ints2 {K : PySem.W.Frag} {G : Hp} : ∀ {ns : List Int} {us : List V}, DqAll K G us (ns.map PyData.int) → us = ns.map V.int
  | [], _, h => by cases h; rfl
  | n :: ns, _, h => by
    cases h with
    | cons h1 h2 =>
      cases h1
      rw [dqAll_ints2 h2]
      rfl
/-! ### list.index of numbers -/
def mIndex : List PyData → List PyData → (PyData → List PyData → Prop) → Prop := fun ds as k => ∃ (ns : List Int) (n : Int), ds = ns.map .int ∧ as = [.int n] ∧ n ∈ ns ∧ k (.int (ns.idxOf n : Nat)) ds
theorem idxOf_le : ∀ {ns : List Int} {m : Nat} {x : Int}, ns[m]? = some x → ns.idxOf x ≤ m
  | [], m, x, h => by simp at h
  | n :: ns, m, x, h => by
    rw [List.idxOf_cons]
    by_cases e : n = x
    · subst e; simp
    · match m, h with
      | 0, h => simp at h; exact absurd h e
      | m + 1, h =>
        have := idxOf_le (ns := ns) (m := m) (x := x) (by simpa using h)
        rw [beq_false_of_ne e]
        simp only [cond_false]
        omega
theorem mv_index {K : PySem.W.Frag} : MtV K mIndex (rIndex K) := by
  intro G H a us vs ds as Qp Q ha hu hv q k
  obtain ⟨ns, n, rfl, rfl, hn, q⟩ := q
  cases dqAll_ints2 hu
  obtain ⟨v, rfl, hd⟩ := vals1 hv
  cases hd
  have hlt : ns.idxOf n < ns.length := List.idxOf_lt_length_iff.mpr hn
  have hget : ns[ns.idxOf n]? = some n := by rw [List.getElem?_eq_getElem hlt, List.getElem_idxOf]
  have := k _ _ _ _ q (.int _) hu
  have es : upd H a (.lst (ns.map V.int)) = H := by
    funext b
    unfold upd
    split
    · rename_i z; rw [z, ha]
    · rfl
  rw [es] at this
  refine ⟨a, ns.map V.int, _, ns.idxOf n, .int n, rfl, rfl, SqL.of ha, rfl, ?_, by rw [List.getElem?_map, hget]; rfl, ?_, fun m z hm hz => ?_, this⟩
  · rw [List.all_map]; exact List.all_eq_true.mpr fun _ _ => rfl
  · simp [eqV]
  · rw [List.getElem?_map] at hz
    obtain ⟨x, hx, rfl⟩ := Option.map_eq_some_iff.mp hz
    obtain ⟨h1, h2⟩ := List.getElem?_eq_some_iff.mp hx
    have : x ≠ n := fun z => by
      subst z
      exact absurd (idxOf_le hx) (by omega)
    simp [eqV, this]
end Pv
namespace Pv
open PySem PySem.Spec L2 Wf
/-- whole numbers from 0 on, as data -/
abbrev nD (k : Nat) : PyData := .int (k : Int)
abbrev dN (ns : List Nat) : List PyData := ns.map nD
theorem dN_len (ns : List Nat) : (dN ns).length = ns.length := List.length_map _
theorem dN_get {ns : List Nat} {i k : Nat} (h : ns[i]? = some k) : (dN ns)[i]? = some (nD k) := by rw [dN, List.getElem?_map, h]; rfl
theorem rgD_dN (n : Nat) : rgD 0 (n : Int) = dN (List.range n) := by
  unfold rgD dN
  have : ((n : Int) - 0).toNat = n := by omega
  rw [this]
  refine List.map_congr_left fun i _ => ?_
  show PyData.int (0 + (i : Int)) = .int (i : Int)
  rw [Int.zero_add]
theorem dN_app (a b : List Nat) : dN (a ++ b) = dN a ++ dN b := List.map_append
theorem dN_set (a : List Nat) (i k : Nat) : (dN a).set i (nD k) = dN (a.set i k) := by
  unfold dN
  rw [List.map_set]
theorem shaped_dN (a : List Nat) : SeqAt.shaped (.list (dN a)) = true := by
  have h := lay_map nD 0 a fun k _ => ⟨rfl, Nat.le_refl 0⟩
  have h2 : (PyData.list (dN a)).depth ≤ 1 := Nat.succ_le_succ h.2
  unfold SeqAt.shaped
  rw [show (PyData.list (dN a)).canLay0 = true from h.1]
  simp
  omega
theorem szN {n m : Nat} (h : n ≤ m) (hm : m < sizeLine) : n < sizeLine := Nat.lt_of_le_of_lt h hm
theorem nd1 (i : Nat) : [i].Nodup := by simp
/-! ### _law_mixed -/
def psp_mixed : PSp := fun as Q _ => ∃ n : Nat, as = [.ow true .deal, .im (.int n)] ∧ n ≤ 1000 ∧ ∀ ns : List Nat, ns.Perm (List.range n) → Q (.ow (.lst (dN ns))) [.ow true .deal, .un]
theorem ixN_nat {n i : Nat} (h : i < n) : ixN n (i : Int) = some i := by
  unfold ixN
  rw [if_pos (by omega), if_pos (by omega)]
  rfl
/-- for k in a row of numbers -/
theorem for_dN {step : PyData → PSx} {ts : List Nat} {E : PEn} {δ : List Sl} (ws : List Nat) (I : Nat → List Sl → Prop) (h0 : I 0 δ) (hs : ∀ (i k : Nat) δ, ws[i]? = some k → I i δ → step (nD k) ⟨fun δ' => I (i + 1) (wipeT δ' ts), E.rt, fun δ' => E.nx (wipeT δ' ts), fun δ' => I (i + 1) (wipeT δ' ts)⟩ δ) (he : ∀ δ, I ws.length δ → E.nx δ) : loopI step ts E (dN ws) δ := by
  refine ⟨I, h0, fun i d δ hd hi => ?_, fun δ h => he δ (by rw [dN_len] at h; exact h)⟩
  rw [dN, List.getElem?_map] at hd
  obtain ⟨k, hk, rfl⟩ := Option.map_eq_some_iff.mp hd
  exact hs i k δ hk hi
/-! ### _law_order -/
def swp (xs : List Nat) (k : Nat) : List Nat := (xs.set k (xs.getD (k + 1) 0)).set (k + 1) (xs.getD k 0)
theorem swp_len (xs : List Nat) (k : Nat) : (swp xs k).length = xs.length := by simp [swp]
def goW (xs : List Nat) (ws : List Nat) : List Nat := ws.foldl swp xs
theorem goW_len (xs ws : List Nat) : (goW xs ws).length = xs.length := by
  induction ws generalizing xs with
  | nil => rfl
  | cons w ws ih => show (goW (swp xs w) ws).length = _; rw [ih, swp_len]
theorem goW_snoc (xs ws : List Nat) (k : Nat) : goW xs (ws ++ [k]) = swp (goW xs ws) k := by unfold goW; rw [List.foldl_append]; rfl
def pb_lorder_1 : PSx :=
    pAsg (pTup (pCons (pIx (pVar 2) (pAdd (pVar 3) (pK (.int 1)))) (pCons (pIx (pVar 2) (pVar 3)) (pNil)))) (gT 2 (gsC (gSx (pVar 2) (pVar 3)) (gsC (gSx (pVar 2) (pAdd (pVar 3) (pK (.int 1)))) (gsN))))
def p_lorder : PSx :=
    pSeq (pSet 2 (pLstRg (pRg1 (pVar 0))))
    (pSeq (pFor [3] (iSeq (pVar 1)) (gN 3) (pb_lorder_1))
    (pRet (pVar 2)))
def psp_lorder : PSp := fun as Q _ => ∃ (n : Nat) (ws : List Nat), as = [.im (.int n), .im (.tuple (dN ws))] ∧ n ≤ 1000 ∧ (∀ w ∈ ws, w + 1 < n) ∧ Q (.ow (.lst (dN (goW (List.range n) ws)))) [.un, .un]
theorem getD_of {xs : List Nat} {i : Nat} (h : i < xs.length) : xs[i]? = some (xs.getD i 0) := by
  rw [List.getD_eq_getElem?_getD, List.getElem?_eq_getElem h]
  rfl
theorem hp_lorder (as : List Sl) (Qp : QE) (Ep : EX) (h : psp_lorder as Qp Ep) : p_lorder (endsP as Qp) (as ++ List.replicate 2 .un) := by
  obtain ⟨n, ws, rfl, hn, hw, q⟩ := h
  refine ⟨_, rfl, ⟨by omega, by omega, by have : (1000 : Nat) ≤ sizeLine := by decide
                                          omega⟩, _, _, rfl, _, _, _, rfl, rfl, ?_⟩
  refine for_dN ws (fun i δ => δ = [.im (.int n), .im (.tuple (dN ws)), .ow false (.lst (dN (goW (List.range n) (ws.take i)))), .un]) (by rw [rgD_dN]; rfl) ?_ ?_
  · rintro i k δ hk rfl
    have h1 : k + 1 < (goW (List.range n) (ws.take i)).length := by
      rw [goW_len, List.length_range]
      exact hw k (List.mem_of_getElem? hk)
    have e1 : ((k : Int) + 1) = ((k + 1 : Nat) : Int) := rfl
    refine ⟨_, atI_of e1 (dN_get (getD_of h1)), _, atI_of rfl (dN_get (getD_of (i := k) (by omega))), _, _, rfl, rfl, 2, (k : Int), false, _, k, rfl, rfl, rfl, by rw [dN_len]; exact ixN_nat (by omega), 2, ((k + 1 : Nat) : Int), false, _, k + 1, rfl, rfl, rfl, by rw [List.length_set, dN_len]; exact ixN_nat h1, rfl, ?_⟩
    show [_, _, _, _] = _
    have hs : ws.take (i + 1) = ws.take i ++ [k] := by rw [List.take_add_one, hk]; rfl
    rw [hs, goW_snoc, dN_set, dN_set]
    rfl
  · rintro δ rfl
    rw [List.take_length]
    exact ⟨_, _, rfl, q⟩
end Pv
namespace Pv
open PySem PySem.Spec L2 Wf
/-! ### _law_pairs -/
/-- those j from i + 1 on, below m, that stand before i -/
def passI (os : List Nat) (i m : Nat) : List (Nat × Nat) := ((List.range m).filter fun j => decide (i < j) && decide (os.idxOf j < os.idxOf i)).map fun j => (i, j)
def passD (os : List Nat) (n : Nat) : List (Nat × Nat) := (List.range n).flatMap fun i => passI os i os.length
def passP (os : List Nat) : List (Nat × Nat) := passD os os.length
end Pv
namespace Pv
open PySem PySem.Spec L2 Wf
/-! ### _law_last -/
theorem noPin1 {δ : List Sl} {v : Nat} (h : ∀ o, δ[v]? ≠ some (.ow true o)) : noPin δ [v] := fun u hu o => by
  rw [List.mem_singleton] at hu
  subst hu
  exact h o
/-- range(n - 1) and such: none where the number is below 0 -/
theorem loop_rgS {step : PyData → PSx} {ts : List Nat} {E : PEn} {n : Int} (m : Nat) {δ : List Sl} (hn : n.toNat = m) (I : Nat → List Sl → Prop) (h0 : I 0 δ) (hs : ∀ (i : Nat) δ, i < m → I i δ → step (.int (i : Int)) ⟨fun δ' => I (i + 1) (wipeT δ' ts), E.rt, fun δ' => E.nx (wipeT δ' ts), fun δ' => I (i + 1) (wipeT δ' ts)⟩ δ) (he : ∀ δ, I m δ → E.nx δ) : loopI step ts E (rgD 0 n) δ := by
  subst hn
  refine ⟨I, h0, fun i d δ hd hi => ?_, fun δ h => he δ ?_⟩
  · obtain ⟨rfl, hl⟩ := rgD_get hd
    rw [Int.zero_add]
    exact hs i δ (by omega) hi
  · rw [rgD_len] at h
    have e : (n - 0).toNat = n.toNat := by omega
    rw [e] at h
    exact h
/-! ### _law_word -/
def pb_lword_1 : PSx :=
    pIf (pOr (pT (pGt (pIx (pVar 5) (pVar 8)) (pIx (pVar 5) (pAdd (pVar 8) (pK (.int 1)))))) (pAnd (pT (pVar 3)) (pT (pEq true (pIx (pVar 5) (pVar 8)) (pIx (pVar 5) (pAdd (pVar 8) (pK (.int 1)))))))) (pExpr (pMt mAppend (pVar 7) (pCons (pVar 8) (pNil)))) (pNext)
def pb_lword_2 : PSx :=
    pSeq (pSet 7 (pLst (pNil)))
    (pSeq (pFor [8] (iRg (pCons (pSub (pC (q1 fLen) (pCons (pVar 5) (pNil))) (pK (.int 1))) (pNil))) (gN 8) (pb_lword_1))
    (pIf (pT (pEq true (pVar 7) (pLst (pNil)))) (pSeq (pSet 8 (pIx (pVar 7) (pCall psp_draw (pCons (pVar 0) (pCons (pFz (pC (q1 fLen) (pCons (pVar 7) (pNil)))) (pNil))) noX)))
    (pSeq (pAsg (pTup (pCons (pIx (pVar 5) (pAdd (pVar 8) (pK (.int 1)))) (pCons (pIx (pVar 5) (pVar 8)) (pNil)))) (gT 2 (gsC (gSx (pVar 5) (pVar 8)) (gsC (gSx (pVar 5) (pAdd (pVar 8) (pK (.int 1)))) (gsN)))))
    (pExpr (pMt mAppend (pVar 6) (pCons (pVar 8) (pNil)))))) (pNext)))
def p_lword : PSx :=
    pSeq (pPar [5, 6] (pCons (pC (q1L fListOf) (pCons (pVar 1) (pNil))) (pCons (pLst (pNil)) (pNil))))
    (pSeq (pFor [4, 7, 8] (iRg (pCons (pVar 2) (pNil))) (gN 4) (pb_lword_2))
    (pRet (pC (q1 fTupleOf) (pCons (pVar 6) (pNil)))))
/-- the letter k may be done: the two are unlike, the one behind of the greater kind, or any (free) -/
def letOk (f : Bool) (st : List Nat) (k : Nat) : Prop := k + 1 < st.length ∧ (st.getD (k + 1) 0 < st.getD k 0 ∨ f = true ∧ st.getD k 0 ≠ st.getD (k + 1) 0)
def wordOk (f : Bool) : List Nat → List Nat → Prop
  | _, [] => True
  | st, k :: ws => letOk f st k ∧ wordOk f (swp st k) ws
theorem wordOk_snoc {f : Bool} : ∀ {ws st : List Nat} {k : Nat}, wordOk f st ws → letOk f (goW st ws) k → wordOk f st (ws ++ [k])
  | [], st, k, _, h => ⟨h, trivial⟩
  | w :: ws, st, k, h1, h => ⟨h1.1, wordOk_snoc h1.2 h⟩
theorem wordOk_lt {f : Bool} : ∀ {ws st : List Nat}, wordOk f st ws → ∀ w ∈ ws, w + 1 < st.length
  | [], _, _, w, hw => by cases hw
  | k :: ws, st, h, w, hw => by
    cases hw with
    | head => exact h.1.1
    | tail _ hw => have := wordOk_lt h.2 w hw; rw [swp_len] at this; exact this
def psp_lword : PSp := fun as Q _ => ∃ (ks : List Nat) (m : Nat) (f : Bool) (d : PyData), as = [.ow true .deal, .im d, .im (.int m), .im (.bool f)] ∧ seqD d = some (dN ks) ∧ ks.length ≤ 1000 ∧ m ≤ 1000 ∧ ∀ ws : List Nat, wordOk f ks ws → ws.length ≤ m → Q (.im (.tuple (dN ws))) [.ow true .deal, .un, .un, .un]
theorem eqd_nil (ps : List Nat) : (!eqd (.list (dN ps)) (.list [])) = decide (0 < ps.length) := by
  cases ps with
  | nil => rfl
  | cons p ps => simp [eqd, PyData.eqv, PyData.eqvAll]
def pr_lword : PSx :=
    pSeq (pFor [4, 7, 8] (iRg (pCons (pVar 2) (pNil))) (gN 4) (pb_lword_2))
    (pRet (pC (q1 fTupleOf) (pCons (pVar 6) (pNil))))
theorem hp_rlword {ks : List Nat} {m : Nat} {f : Bool} {d : PyData} {Qp : QE} (hn : ks.length ≤ 1000) (hm : m ≤ 1000) (q : ∀ ws : List Nat, wordOk f ks ws → ws.length ≤ m → Qp (.im (.tuple (dN ws))) [.ow true .deal, .un, .un, .un]) :
    pr_lword (endsP [.ow true .deal, .im d, .im (.int m), .im (.bool f)] Qp) [.ow true .deal, .im d, .im (.int m), .im (.bool f), .un, .ow false (.lst (dN ks)), .ow false (.lst []), .un, .un] := by
  refine ⟨by omega, by omega, ?_⟩
  refine for_rg m rfl (fun i δ => ∃ ws, wordOk f ks ws ∧ ws.length ≤ i ∧ δ = [.ow true .deal, .im d, .im (.int m), .im (.bool f), .un, .ow false (.lst (dN (goW ks ws))), .ow false (.lst (dN ws)), .un, .un]) ⟨[], trivial, Nat.le_refl _, rfl⟩ ?_ ?_
  · rintro i δ hi ⟨ws, ok, hw, rfl⟩
    have hg := goW_len ks ws
    refine ⟨_, _, rfl, trivial, by rw [dN_len, hg]; omega, by rw [dN_len, hg]; omega, ?_⟩
    refine loop_rgS (ks.length - 1) (by rw [dN_len, hg]; omega) (fun j δ => ∃ ps : List Nat, (∀ p ∈ ps, letOk f (goW ks ws) p) ∧ ps.length ≤ j ∧ δ = [.ow true .deal, .im d, .im (.int m), .im (.bool f), .im (nD i), .ow false (.lst (dN (goW ks ws))), .ow false (.lst (dN ws)), .ow false (.lst (dN ps)), .un]) ⟨[], nofun, Nat.le_refl _, rfl⟩ ?_ ?_
    · rintro j δ hj ⟨ps, hp, hpl, rfl⟩
      have h1 : j + 1 < (goW ks ws).length := by rw [hg]; omega
      have g1 := dN_get (getD_of h1)
      have g0 := dN_get (getD_of (xs := goW ks ws) (i := j) (by omega))
      have e1 : ((j : Int) + 1) = ((j + 1 : Nat) : Int) := rfl
      have put : ∀ E : PEn, letOk f (goW ks ws) j → (∀ ps' : List Nat, (∀ p ∈ ps', letOk f (goW ks ws) p) → ps'.length ≤ j + 1 → E.nx [.ow true .deal, .im d, .im (.int m), .im (.bool f), .im (nD i), .ow false (.lst (dN (goW ks ws))), .ow false (.lst (dN ws)), .ow false (.lst (dN ps')), .im (nD j)]) →
          pExpr (pMt mAppend (pVar 7) (pCons (pVar 8) (pNil))) E [.ow true .deal, .im d, .im (.int m), .im (.bool f), .im (nD i), .ow false (.lst (dN (goW ks ws))), .ow false (.lst (dN ws)), .ow false (.lst (dN ps)), .im (nD j)] := fun E hl k => by
        refine ⟨_, _, _, rfl, rfl, _, _, _, _, rfl, rfl, ?_, ?_⟩
        · show (dN ps).length < _
          rw [dN_len]
          exact szN (m := 1000) (by omega) (by decide)
        · have := k (ps ++ [j]) (fun p hp' => by
            rcases List.mem_append.mp hp' with z | z
            · exact hp p z
            · rw [List.mem_singleton] at z; subst z; exact hl) (by simp; omega)
          rw [dN_app] at this
          exact this
      refine ⟨_, atI_of rfl g0, _, atI_of e1 g1, trivial, _, rfl, ?_⟩
      show if decide (((goW ks ws).getD (j + 1) 0 : Int) < ((goW ks ws).getD j 0 : Int)) = true then _ else _
      split
      · rename_i c
        have c := of_decide_eq_true c
        exact put _ ⟨h1, .inl (by omega)⟩ fun ps' h2 h3 => ⟨ps', h2, h3, rfl⟩
      · rename_i c
        have c : ¬ ((goW ks ws).getD (j + 1) 0 : Int) < ((goW ks ws).getD j 0 : Int) := fun z => c (decide_eq_true z)
        refine ⟨f, rfl, ?_⟩
        show if f = true then _ else _
        split
        · rename_i hf
          refine ⟨_, atI_of rfl g0, _, atI_of e1 g1, _, rfl, ?_⟩
          show if (!decide (((goW ks ws).getD j 0 : Int) = ((goW ks ws).getD (j + 1) 0 : Int))) = true then _ else _
          split
          · rename_i c2
            refine put _ ⟨h1, .inr ⟨hf, fun z => ?_⟩⟩ fun ps' h2 h3 => ⟨ps', h2, h3, rfl⟩
            rw [z] at c2
            simp at c2
          · exact ⟨ps, hp, by omega, rfl⟩
        · exact ⟨ps, hp, by omega, rfl⟩
    · rintro δ ⟨ps, hp, hpl, rfl⟩
      refine ⟨shaped_dN ps, rfl, _, rfl, ?_⟩
      show if (!eqd (.list (dN ps)) (.list [])) = true then _ else _
      rw [eqd_nil]
      split
      · rename_i c
        have c : 0 < ps.length := of_decide_eq_true c
        refine ⟨_, _, rfl, _, rfl, nd1 0, _, rfl, by rw [dN_len]; omega, by rw [dN_len]; omega, fun k hk => ?_⟩
        rw [dN_len] at hk
        have hk : k < ps.length := by omega
        refine ⟨_, atI_of rfl (dN_get (List.getElem?_eq_getElem hk)), _, _, rfl, ?_⟩
        have lk := hp _ (List.getElem_mem hk)
        have h1 := lk.1
        have g1 := dN_get (getD_of h1)
        have g0 := dN_get (getD_of (xs := goW ks ws) (i := ps[k]) (by omega))
        have e1 : ((ps[k] : Int) + 1) = ((ps[k] + 1 : Nat) : Int) := rfl
        refine ⟨_, atI_of e1 g1, _, atI_of rfl g0, _, _, rfl, rfl, 5, (ps[k] : Int), false, _, ps[k], rfl, rfl, rfl, by rw [dN_len]; exact ixN_nat (by omega), 5, ((ps[k] + 1 : Nat) : Int), false, _, ps[k] + 1, rfl, rfl, rfl, by rw [List.length_set, dN_len]; exact ixN_nat h1, rfl, ?_⟩
        refine ⟨_, _, _, rfl, rfl, _, _, _, _, rfl, rfl, ?_, ws ++ [ps[k]], wordOk_snoc ok lk, by simp; omega, ?_⟩
        · show (dN ws).length < _
          rw [dN_len]
          exact szN (m := 1000) (by omega) (by decide)
        · show [_, _, _, _, _, _, _, _, _] = _
          rw [goW_snoc, dN_set, dN_set, dN_app]
          rfl
      · exact ⟨ws, ok, by omega, rfl⟩
  · rintro δ ⟨ws, ok, hw, rfl⟩
    exact ⟨_, _, rfl, q ws ok hw⟩
theorem hp_lword (as : List Sl) (Qp : QE) (Ep : EX) (h : psp_lword as Qp Ep) : p_lword (endsP as Qp) (as ++ List.replicate 5 .un) := by
  obtain ⟨ks, m, f, d, rfl, hd, hn, hm, q⟩ := h
  have main : pr_lword (endsP [.ow true .deal, .im d, .im (.int m), .im (.bool f)] Qp) [.ow true .deal, .im d, .im (.int m), .im (.bool f), .un, .ow false (.lst (dN ks)), .ow false (.lst []), .un, .un] := hp_rlword hn hm q
  cases d with
  | list ds => cases hd; exact ⟨_, _, rfl, main⟩
  | tuple ds => cases hd; exact ⟨_, _, rfl, main⟩
  | none => cases hd
  | bool b => cases hd
  | int b => cases hd
  | str b => cases hd
  | dict b => cases hd
end Pv
namespace Pv
open PySem PySem.Spec L2 Wf
/-! ### orders -/
theorem swp_perm {xs : List Nat} {k : Nat} (h : k + 1 < xs.length) : (swp xs k).Perm xs := by
  unfold swp
  have e1 : xs.getD (k + 1) 0 = xs[k + 1] := by rw [List.getD_eq_getElem?_getD, List.getElem?_eq_getElem h]; rfl
  have e2 : xs.getD k 0 = xs[k] := by rw [List.getD_eq_getElem?_getD, List.getElem?_eq_getElem (show k < xs.length by omega)]; rfl
  rw [e1, e2]
  exact List.set_set_perm (by omega) h
theorem goW_perm : ∀ {ws xs : List Nat}, (∀ w ∈ ws, w + 1 < xs.length) → (goW xs ws).Perm xs
  | [], xs, _ => .refl _
  | w :: ws, xs, h => by
    have h1 := swp_perm (h w (List.mem_cons_self))
    exact (goW_perm (ws := ws) (xs := swp xs w) fun v hv => by rw [swp_len]; exact h v (List.mem_cons_of_mem _ hv)).trans h1
theorem mem_passP {os : List Nat} {p : Nat × Nat} (h : p ∈ passP os) : p.1 < p.2 ∧ p.2 < os.length ∧ os.idxOf p.2 < os.idxOf p.1 := by
  unfold passP passD at h
  obtain ⟨i, hi, h⟩ := List.mem_flatMap.mp h
  unfold passI at h
  obtain ⟨j, hj, rfl⟩ := List.mem_map.mp h
  rw [List.mem_filter, List.mem_range, Bool.and_eq_true] at hj
  exact ⟨of_decide_eq_true hj.2.1, hj.1, of_decide_eq_true hj.2.2⟩
/-- forward: whoever has passed one is of a greater kind -/
def fwdB (ks os : List Nat) : Bool := (passP os).all fun p => decide (ks.getD p.2 0 < ks.getD p.1 0)
theorem mem_of_perm {os : List Nat} {n k : Nat} (h : os.Perm (List.range n)) : k ∈ os ↔ k < n := by rw [h.mem_iff, List.mem_range]
theorem perm_len {os : List Nat} {n : Nat} (h : os.Perm (List.range n)) : os.length = n := by rw [h.length_eq, List.length_range]
/-! ### sizes -/
theorem shaped_map {α : Type} (f : α → PyData) (n : Nat) (hn : n < 64) (l : List α) (h : ∀ x, (f x).canLay0 = true ∧ (f x).depth ≤ n) : SeqAt.shaped (.list (l.map f)) = true := by
  have h := lay_map f n l fun x _ => h x
  have h2 : (PyData.list (l.map f)).depth ≤ n + 1 := Nat.succ_le_succ h.2
  unfold SeqAt.shaped
  rw [show (PyData.list (l.map f)).canLay0 = true from h.1]
  simp
  omega
theorem eqd_nilM {α : Type} (f : α → PyData) (l : List α) : eqd (.list (l.map f)) (.list []) = l.isEmpty := by
  cases l with
  | nil => rfl
  | cons p ps => simp [eqd, PyData.eqv, PyData.eqvAll]
end Pv
namespace Pv
open PySem PySem.Spec L2 Wf
/-! ### a law, by value: of each script it tells True -/
def psp_law : PSp := fun as Q _ => ∃ ns : List Int, as = [.ow true (.scr ns)] ∧ ns.length ≤ 1000 ∧ Q (.im (.bool true)) [.ow true (.scr ns)]
/-! ### a, b = e, f with names that comprehensions read -/
theorem par_go0 : ∀ (vs : List V) (σ : St) (H : Hp) (Q : St → Hp → Prop), ([] : List Nat).length = vs.length → Q ((([] : List Nat).zip vs).foldl (fun σ p => σ.set p.1 (some p.2)) σ) H → gNil vs σ H Q
  | [], _, _, _, _, q => ⟨rfl, q⟩
theorem par_goS {i : Nat} {is : List Nat} {gs : TGs} (h : ∀ (vs : List V) (σ : St) (H : Hp) (Q : St → Hp → Prop), is.length = vs.length → Q ((is.zip vs).foldl (fun σ p => σ.set p.1 (some p.2)) σ) H → gs vs σ H Q) :
    ∀ (vs : List V) (σ : St) (H : Hp) (Q : St → Hp → Prop), (i :: is).length = vs.length → Q (((i :: is).zip vs).foldl (fun σ p => σ.set p.1 (some p.2)) σ) H → gCons (gName i) gs vs σ H Q
  | v :: vs, σ, H, Q, hl, q => ⟨v, vs, rfl, h vs _ H Q (by simpa using hl) q⟩
end Pv
namespace Pv
open PySem PySem.Spec L2 Wf
/-! ### what the program's three defs are to do -/
end Pv
namespace Pv
open PySem PySem.Spec L2 Wf
/-! ### what is caught: errors of one class C, by the name of C0; they are none of os -/
structure ToldG (K : PySem.W.Frag) (C C0 : Addr) (os : List Addr) : Prop where
  ex : PySem.W.exmOne K (.ref C) (.ref C0) = some true
  is_ : IsC K C
  one : PySem.W.kitOne K (.ref C) (.ref C) = some true
  two : PySem.W.kitAny K (.ref C) (os.map .ref) = some false
def sbAt (C0 : Addr) (b : Bool) : Addr → Option Bool := fun C => if C = C0 then some b else none
theorem sb_eq {C0 C : Addr} {b b' : Bool} (h : sbAt C0 b C = some b') : C = C0 ∧ b' = b := by
  unfold sbAt at h
  split at h
  · rename_i e; cases h; exact ⟨e, rfl⟩
  · cases h
theorem sb_self (C : Addr) (b : Bool) : sbAt C b C = some b := if_pos rfl
theorem sb_one {K : PySem.W.Frag} {C C0 : Addr} {os : List Addr} (T : ToldG K C C0 os) : ∀ C' b, sbAt C true C' = some b → IsC K C' ∧ PySem.W.kitOne K (.ref C') (.ref C) = some b := fun C' b h => by
  obtain ⟨rfl, rfl⟩ := sb_eq h
  exact ⟨T.is_, T.one⟩
theorem sb_two {K : PySem.W.Frag} {C C0 : Addr} {os : List Addr} (T : ToldG K C C0 os) : ∀ C' b, sbAt C false C' = some b → IsC K C' ∧ PySem.W.kitAny K (.ref C') (os.map .ref) = some b := fun C' b h => by
  obtain ⟨rfl, rfl⟩ := sb_eq h
  exact ⟨T.is_, T.two⟩
theorem cat_ok {K : PySem.W.Frag} {C C0 : Addr} {os : List Addr} (T : ToldG K C C0 os) : ∀ C', C' = C → PySem.W.exmOne K (.ref C') (.ref C0) = some true := fun C' h => by subst h; exact T.ex
theorem clsV_all (os : List Addr) : ∀ C ∈ os, ClsV (.ref C) (.ref C) := fun C _ => .own C
theorem _root_.L2.Room.units1 {k : Nat} {A : Around} (r : Room k A) : A.units + 65 < cLine := by have := r.un; omega
end Pv
namespace Pv
open PySem PySem.Spec L2 Wf
variable {B : Bas}
/-! ### abs, all, any, sorted -/
def fAbs : PyData → (PyData → Prop) → Prop
  | .int i, k => k (.int (if i < 0 then -i else i))
  | _, _ => False
theorem lc_abs {K : PySem.W.Frag} : LC K (q1 fAbs) (fun xs H Q => ∃ i, xs = [.int i] ∧ Q (.int (if i < 0 then -i else i)) H) := by
  refine lc_im1 (fun G H v d Q s hv q => ?_) (fun d k k' hk q => ?_)
  · unfold fAbs at q
    split at q
    · exact ⟨_, by rw [hv.int], q _ _ .int⟩
    · exact q.elim
  · unfold fAbs at q ⊢
    split at q
    · exact hk _ q
    · exact q.elim
theorem dqAll_bools {K : PySem.W.Frag} {G : Hp} : ∀ {bs : List Bool} {us : List V}, DqAll K G us (bs.map PyData.bool) → us = bs.map V.bl
  | [], _, h => by cases h; rfl
  | b :: bs, _, h => by
    cases h with
    | cons h1 h2 =>
      cases h1
      rw [dqAll_bools h2]
      rfl
def fAll : PyData → (PyData → Prop) → Prop := fun d k => ∃ bs : List Bool, d = .list (bs.map .bool) ∧ k (.bool (bs.all id))
theorem lc_all {K : PySem.W.Frag} : LC K (q1 fAll) (rAll K) := by
  refine lc_im1 (fun G H v d Q s hv q => ?_) (fun d k k' hk q => ?_)
  · obtain ⟨bs, rfl, q⟩ := q
    obtain ⟨a, us, rfl, ha, hds⟩ := hv.seqL s
    cases dqAll_bools hds
    exact ⟨a, bs, rfl, SqL.of ha, q _ _ (.old (.bl _))⟩
  · obtain ⟨bs, rfl, q⟩ := q
    exact ⟨bs, rfl, hk _ q⟩
theorem dqAll_ofInts {K : PySem.W.Frag} {G : Hp} : ∀ ns : List Int, DqAll K G (ns.map V.int) (ns.map PyData.int)
  | [] => .nil
  | n :: ns => .cons (.int n) (dqAll_ofInts ns)
end Pv
/-! Good books are let by. -/
namespace Wf
open PySem PySem.Spec L2
end Wf
/-! Books by value; rows; is_whole, table_number, pair_at. -/
namespace Pv
open PySem PySem.Spec L2 Wf
variable {B : Bas}
/-! ### books -/
/-- a new list of one's own, beside what the deal did -/
theorem Rep.newLst {K : PySem.W.Frag} {G H : Hp} {σ : St} {δ : List Sl} {w : Addr → Option Nat} (r : Rep K B G H σ δ [] [] w) {p : Addr} {us : List V} {ds : List PyData} (hp : G p = none) (hw : w p = none) (hb : B p = none) (hh : H p = some (.lst us)) (h : DqAll K G us ds) :
    ∃ w', (∀ a i, w' a = some i → w a ≠ none ∨ a = p) ∧ Rep K B G H σ δ [.ref p] [.ow (.lst ds)] w' := by
  refine ⟨fun a => if a = p then some 1 else w a, fun a i ha => ?_, r.sub, fun a i ha => ?_, r.len, fun i s hs => ?_, rfl, fun j u q hu hq => ?_, ⟨fun a o ho => ?_, r.bs.tt, r.bs.ta, r.bs.gt⟩⟩
  · by_cases e : a = p
    · exact .inr e
    · simp only [e, if_false] at ha
      exact .inl (by rw [ha]; exact Option.some_ne_none _)
  · by_cases e : a = p
    · subst e
      exact ⟨hp, by rw [hh]; exact Option.some_ne_none _, NoX.lst hh⟩
    · simp only [e, if_false] at ha
      exact r.out a i ha
  · refine (r.sl i s hs).mono (fun _ _ h => h) (fun _ _ _ h => h) fun a u ma _ => ?_
    by_cases e : a = p
    · subst e; rw [hw] at ma; cases ma
    · simp only [e, if_false]; exact ma
  · match j with
    | 0 =>
      simp only [List.getElem?_cons_zero, Option.some.injEq] at hu hq
      subst hu hq
      exact ⟨p, us, rfl, if_pos rfl, hh, h⟩
    | j + 1 => simp at hu
  · have := r.bs.to a o ho
    refine ⟨this.1, ?_, this.2.2⟩
    by_cases e : a = p
    · subst e; rw [hb] at ho; cases ho
    · simp only [e, if_false]; exact this.2.1
theorem nat_of_perm {n : Nat} {ns : List Int} (h : ns.Perm (iota (n : Int))) : ∃ ks : List Nat, ns = ks.map (fun k : Nat => (k : Int)) ∧ ks.Perm (List.range n) := by
  refine ⟨ns.map Int.toNat, ?_, ?_⟩
  · rw [List.map_map]
    have : ∀ x ∈ ns, ((fun k : Nat => (k : Int)) ∘ Int.toNat) x = x := fun x hx => by
      have := h.mem_iff.mp hx
      unfold iota at this
      obtain ⟨j, _, rfl⟩ := List.mem_map.mp this
      simp
    rw [List.map_congr_left this]
    simp
  · have := h.map Int.toNat
    unfold iota at this
    rw [List.map_map] at this
    have e : (Int.toNat ∘ fun i : Nat => (i : Int)) = id := by funext i; simp
    rw [e, List.map_id] at this
    simpa using this
theorem conv_mixed {K : PySem.W.Frag} {T : List NdefX.NTab} (vs : List V) (H : Hp) (Q : VK) (E : XK) (h : LSp K T psp_mixed vs H Q E) : sp_mixed vs H Q E := by
  obtain ⟨G, w, as, Qp, Ep, rep, _, ⟨n, rfl, n1, hq⟩, k, _⟩ := h
  obtain ⟨x, y, rfl⟩ := two_of rep.len rfl
  obtain ⟨v, hv, d, l, rfl, wd, wl, dl⟩ := rep.sl 0 _ rfl
  obtain ⟨u, hu, dq⟩ := rep.sl 1 _ rfl
  cases hv
  cases hu
  cases dq
  refine ⟨d, l, n, rfl, by omega, by omega, dl, fun F ns H' but dl' hF hF' pm => ?_⟩
  obtain ⟨st, r2⟩ := rep.deal (i := 0) rfl rfl wd wl dl but dl'
  obtain ⟨ks, rfl, pk⟩ := nat_of_perm pm
  have gF : G F = none := by
    cases e : G F with
    | none => rfl
    | some o => rw [rep.sub F o e] at hF; cases hF
  have wF : w F = none := by
    cases e : w F with
    | none => rfl
    | some i => exact absurd hF (rep.out F i e).2.1
  have bF : B0 T H w F = none := by
    cases e : B0 T H w F with
    | none => rfl
    | some o => rw [(B0_some e).1] at hF; cases hF
  have hd : DqAll K G ((ks.map fun k : Nat => (k : Int)).map V.int) (dN ks) := by
    have := dqAll_ofInts (K := K) (G := G) (ks.map fun k : Nat => (k : Int))
    rw [show dN ks = (ks.map fun k : Nat => (k : Int)).map PyData.int by rw [List.map_map]; rfl]
    exact this
  obtain ⟨w', hn, r3⟩ := r2.newLst gF wF bF hF' hd
  have st2 : Stp T G H w [.ow true .deal, .im (.int (n : Int))] G H' w' [.ow true .deal, .im (.int (n : Int))] := ⟨st.g, st.b, fun a i ha => by
    rcases hn a i ha with z | rfl
    · exact .inl z
    · exact .inr hF, st.p, .refl _, st.t, st.q⟩
  have r4 : Rep K (B0 T H w) G H' ([V.ref d, V.int (n : Int)].map some) [.ow true .deal, .un] [.ref F] [.ow (.lst (dN ks))] w' := ⟨r3.sub, r3.out, rfl, fun i s hs => by
    match i, hs with
    | 0, hs => exact r3.sl 0 s hs
    | 1, hs => cases hs; trivial
    | i + 2, hs => simp at hs, r3.tlen, r3.tm, r3.bs⟩
  exact k _ _ _ _ _ _ (hq ks pk) rfl ⟨st2.g, st2.b, st2.n, st2.p, fun i o hi => by
    match i, hi with
    | 0, hi => cases hi; exact ⟨_, rfl⟩
    | 1, hi => cases hi
    | i + 2, hi => simp at hi, st2.t, st2.q⟩ r4
end Pv
namespace Pv
open PySem PySem.Spec L2 Wf
/-! ### is_whole, is_letter -/
def isNumD : PyData → Bool
  | .int _ => true
  | _ => false
def p_is_number : PSx :=
    pRet (pAndV (pIsi "int" (pVar 0)) (pNotV (pIsi "bool" (pVar 0))))
def psp_is_number : PSp := fun as Q _ => ∃ d : PyData, as = [.im d] ∧ Q (.im (.bool (isNumD d))) [.un]
theorem hp_is_number (as : List Sl) (Qp : QE) (Ep : EX) (h : psp_is_number as Qp Ep) : p_is_number (endsP as Qp) (as ++ List.replicate 0 .un) := by
  obtain ⟨d, rfl, q⟩ := h
  cases d with
  | int i => exact ⟨_, rfl, _, rfl, _, rfl, _, rfl, _, _, rfl, q⟩
  | none => exact ⟨_, rfl, _, rfl, _, _, rfl, q⟩
  | bool b => exact ⟨_, rfl, _, rfl, _, rfl, _, rfl, _, _, rfl, q⟩
  | str b => exact ⟨_, rfl, _, rfl, _, _, rfl, q⟩
  | tuple b => exact ⟨_, rfl, _, rfl, _, _, rfl, q⟩
  | list b => exact ⟨_, rfl, _, rfl, _, _, rfl, q⟩
  | dict b => exact ⟨_, rfl, _, rfl, _, _, rfl, q⟩
def p_is_whole : PSx :=
    pRet (pAndV (pCall psp_is_number (pCons (pFz (pVar 0)) (pNil)) noX) (pChain qLeD qLeD (pVar 1) (pVar 0) (pVar 2)))
def psp_is_whole : PSp := fun as Q _ => ∃ (d : PyData) (lo hi : Int), as = [.im d, .im (.int lo), .im (.int hi)] ∧ Q (.im (.bool (isWh lo hi d))) [.un, .un, .un]
theorem hp_is_whole (as : List Sl) (Qp : QE) (Ep : EX) (h : psp_is_whole as Qp Ep) : p_is_whole (endsP as Qp) (as ++ List.replicate 0 .un) := by
  obtain ⟨d, lo, hi, rfl, q⟩ := h
  cases d with
  | int i =>
    refine ⟨_, _, rfl, _, rfl, List.nodup_nil, _, rfl, _, rfl, ?_⟩
    refine ⟨_, rfl, trivial, _, rfl, ?_⟩
    show if decide (lo ≤ i) = true then _ else _
    by_cases c : lo ≤ i
    · rw [if_pos (decide_eq_true c)]
      refine ⟨trivial, _, _, rfl, ?_⟩
      rw [show isWh lo hi (.int i) = decide (i ≤ hi) by simp [isWh, c]] at q
      exact q
    · rw [if_neg (by simp [c])]
      refine ⟨_, _, rfl, ?_⟩
      rw [show isWh lo hi (.int i) = false by simp [isWh, c]] at q
      exact q
  | none => exact ⟨_, _, rfl, _, rfl, List.nodup_nil, _, rfl, _, rfl, _, _, rfl, q⟩
  | bool b => exact ⟨_, _, rfl, _, rfl, List.nodup_nil, _, rfl, _, rfl, _, _, rfl, q⟩
  | str b => exact ⟨_, _, rfl, _, rfl, List.nodup_nil, _, rfl, _, rfl, _, _, rfl, q⟩
  | tuple b => exact ⟨_, _, rfl, _, rfl, List.nodup_nil, _, rfl, _, rfl, _, _, rfl, q⟩
  | list b => exact ⟨_, _, rfl, _, rfl, List.nodup_nil, _, rfl, _, rfl, _, _, rfl, q⟩
  | dict b => exact ⟨_, _, rfl, _, rfl, List.nodup_nil, _, rfl, _, rfl, _, _, rfl, q⟩
def p_is_letter : PSx :=
    pRet (pCall psp_is_whole (pCons (pFz (pVar 0)) (pCons (pFz (pK (.int 0))) (pCons (pFz (pSub (pVar 1) (pK (.int 2)))) (pNil)))) noX)
def psp_is_letter : PSp := fun as Q _ => ∃ k n : Int, as = [.im (.int k), .im (.int n)] ∧ Q (.im (.bool (decide (0 ≤ k) && decide (k ≤ n - 2)))) [.un, .un]
theorem hp_is_letter (as : List Sl) (Qp : QE) (Ep : EX) (h : psp_is_letter as Qp Ep) : p_is_letter (endsP as Qp) (as ++ List.replicate 0 .un) := by
  obtain ⟨k, n, rfl, q⟩ := h
  exact ⟨_, _, rfl, _, _, rfl, trivial, _, _, rfl, _, rfl, List.nodup_nil, _, _, _, rfl, _, _, rfl, q⟩
/-! ### table_number, pair_at -/
/-! ### rows -/
abbrev Wk := Int × Int
def RowOk (m s : Int) (r : List Wk) : Prop := ∀ p ∈ r, 0 ≤ p.1 ∧ p.1 < m ∧ 0 ≤ p.2 ∧ p.2 < s
def wk (r : List Wk) (k : Nat) : Wk := r.getD k (0, 0)
def passR (B : Book) (r : List Wk) (k : Nat) : List Wk :=
  (r.set k ((wk r (k + 1)).1, (B.at (wk r k).1 (wk r (k + 1)).1 (wk r k).2 (wk r (k + 1)).2).1)).set (k + 1) ((wk r k).1, (B.at (wk r k).1 (wk r (k + 1)).1 (wk r k).2 (wk r (k + 1)).2).2)
def dK (ks : List Int) : PyData := .tuple (ks.map .int)
end Pv
/-! x += list; sorted(list of tuples of numbers). -/
namespace Pv
open PySem PySem.Spec L2 Wf
variable {B : Bas}
theorem set_selfE {α : Type} {l : List α} {i : Nat} {x : α} (h : l[i]? = some x) : l.set i x = l := by
  obtain ⟨hi, e⟩ := List.getElem?_eq_some_iff.mp h
  rw [← e]
  exact List.set_getElem_self hi
def pAug (i : Nat) (pa : PX) : PSx := fun E δ => ∃ b0 ds0, δ[i]? = some (.ow b0 (.lst ds0)) ∧ pa δ fun r δ1 => ∃ as δ2 b ds es, fzAll δ1 [r] = some (as, δ2) ∧ δ2[i]? = some (.ow b (.lst ds)) ∧ as = [.list es] ∧ ds.length + es.length ≤ sizeLine ∧ E.nx (δ2.set i (.ow b (.lst (ds ++ es))))
theorem js_aug {X : Cx} {i : Nat} {x : Str} {e : Expr} {pa : PX} {pos pos' : Pos} (hN : X.N.Nodup) (hi : X.N[i]? = some x) (hx : Loc X.env.scope x) (he : JE X B e pa) (hf : X.fn x = true ∨ X.env.scope.names.lookup x = some .local := by first | exact .inl rfl | exact .inr rfl | assumption) :
    JS X B (.AugAssign (.Name x pos') .Add e pos) (pAug i pa) := PS_wk (ps_aug hN hi hx he iop_ext hf) fun D σ H ⟨G, w, δ, E, rep, ⟨b0, ds0, e0, q⟩, ek⟩ => by
  obtain ⟨a0, us0, hσ0, _, ha0, _⟩ := rep.own e0
  refine ⟨.ref a0, hσ0, G, w, δ, _, rep, q, fun r δ1 y H1 G1 w1 q1 s1 rep1 => ?_⟩
  obtain ⟨as, δ2, b, ds, es, e1, e2, rfl, hl, q1⟩ := q1
  obtain ⟨G3, w3, s3, r3⟩ := rep1.fzs e1
  obtain ⟨a, us, hσ, hw, ha, hd⟩ := r3.own e2
  rw [hσ0] at hσ
  cases hσ
  have hy : DqAll _ G3 [y] [.list es] := r3.ims
  cases hy with
  | cons h1 hn =>
    cases h1 with
    | lst hs h2 =>
      obtain ⟨s4, r4⟩ := r3.wr e2 hσ0 hw ha (dqAll_append hd h2)
      refine ⟨_, _, us, _, rfl, rfl, ha, r3.sub _ _ hs, by rw [dqAll_len hd, dqAll_len h2]; exact hl, ?_⟩
      show D.nx (σ.set i (some (.ref _))) _
      rw [set_selfE hσ0]
      exact ek.nx _ _ _ G3 _ q1 (((s1.trans s3).trans s4).trans .drop) r4.drop .refl
/-! ### sorted(list of tuples of d numbers in [0, B)) -/
end Pv
/-! Comprehensions with two fors, by value. -/
namespace Pv
open PySem PySem.Spec L2 Wf
end Pv
/-! A def within a def, told with how the tables of code grow. -/
namespace Pv
open PySem PySem.Spec PyProof.Rows L2 LamX NdefX Wf
/-- one code object more in the table at P -/
theorem tabs_grow {T : List NTab} {H : Hp} {P d : Addr} {nm : Nat → Nat → Str} {ps : Array Value} {pos : Pos} (mem : (P, nm) ∈ T) (un : ∀ p ∈ T, p.1 = P → p.2 = nm) (hP : H P = some (.tbl ps)) (hd : H d = none) :
    TbG T H (upd (upd H P (.tbl (ps ++ #[rawInt pos.line, rawInt pos.col, .ref d]))) d (CodeO d (nm pos.line pos.col))) := by
  have keep : ∀ b o, H b = some o → NT o → upd (upd H P (.tbl (ps ++ #[rawInt pos.line, rawInt pos.col, .ref d]))) d (CodeO d (nm pos.line pos.col)) b = some o := fun b o e n => by
    have z1 : b ≠ d := ne_of_none e hd
    have z2 : b ≠ P := fun z => n ps (by rw [z, hP] at e; exact (Option.some.inj e).symm)
    rw [upd_ne z1, upd_ne z2]
    exact e
  have pd : P ≠ d := ne_of_none hP hd
  refine ⟨fun t p hp => ?_, fun a qs e => ?_⟩
  · obtain ⟨rs, r1, r2, r3⟩ := t p hp
    by_cases hb : p.1 = P
    · have ez := un p hp hb
      rw [hb] at r1
      rw [hP] at r1
      cases r1
      have el : (ps ++ #[rawInt pos.line, rawInt pos.col, .ref d]).toList = ps.toList ++ [rawInt pos.line, rawInt pos.col, .ref d] := by simp
      refine ⟨ps ++ #[rawInt pos.line, rawInt pos.col, .ref d], by rw [hb, upd_ne pd, upd_same], by rw [el]; exact PySem.TriplesOk_snoc _ _ _ _ r2, fun q cv hq => ?_⟩
      rw [el] at hq
      rcases among_app2 _ r2 hq with z | ⟨z, z1, z2⟩
      · obtain ⟨x, x1, x2⟩ := r3 q cv z
        exact ⟨x, x1, keep _ _ x2 codeO_ne⟩
      · exact ⟨d, z, by rw [← z1, ← z2, ez]; exact upd_same⟩
    · have : p.1 ≠ d := ne_of_none r1 hd
      refine ⟨rs, by rw [upd_ne this, upd_ne hb]; exact r1, r2, fun q cv hq => ?_⟩
      obtain ⟨x, x1, x2⟩ := r3 q cv hq
      exact ⟨x, x1, keep _ _ x2 codeO_ne⟩
  · have : a ≠ d := ne_of_none e hd
    rw [upd_ne this]
    by_cases hb : a = P
    · rw [hb, upd_same]; exact ⟨_, rfl⟩
    · rw [upd_ne hb]; exact ⟨qs, e⟩
theorem ext_grow {H : Hp} {P d : Addr} {ps qs : Array Value} {q : Str} (hP : H P = some (.tbl ps)) (hd : H d = none) : ExtN H (upd (upd H P (.tbl qs)) d (CodeO d q)) := fun b o e n => by
  have z1 : b ≠ d := ne_of_none e hd
  have z2 : b ≠ P := fun z => n ps (by rw [z, hP] at e; exact (Option.some.inj e).symm)
  rw [upd_ne z1, upd_ne z2]
  exact e
end Pv
/-! What the head tells of error classes; whole numbers by their names. -/
namespace Wf
open PySem PySem.Spec PyProof.Rows L2
/-! ### classes of errors -/
def oexB (K : PySem.W.Frag) (C : Addr) : Bool := match K.lookup C with
  | some ⟨.type "type", _, .cls cd, sl⟩ => (match cd.mro, sl.toList with
    | .ref C' :: bm, [_, _, _, _, some (.builtin n), _] => C' == C && n == "ValueError.__new__" && !cd.hasDel && cd.hasDict && PySem.HandSPX.refsVE bm
    | _, _ => false)
  | _ => false
theorem oexB_ok {K : PySem.W.Frag} {C : Addr} (q : oexB K C = true) : ∃ nm qn N bs bm sn sub ab col dd k0 k1 k2 k3 k5, K.lookup C = some (excClassObj nm qn C N bs bm true sn sub ab col dd k0 k1 k2 k3 k5 "ValueError.__new__") ∧ PySem.HandSPX.refsVE bm = true := by
  unfold oexB at q
  split at q
  · rename_i dd cd sl ho
    split at q
    · rename_i C' bm k0 k1 k2 k3 n k5 hm hs
      simp only [Bool.and_eq_true, beq_iff_eq, Bool.not_eq_true'] at q
      obtain ⟨⟨⟨⟨rfl, rfl⟩, hdel⟩, hdc⟩, hbm⟩ := q
      obtain ⟨nm, bs, mro, ns, qn, hd, sn, sub, ab, col, del⟩ := cd
      dsimp only at hm hdel hdc
      subst hm hdel hdc
      have hsl : sl = #[k0, k1, k2, k3, some (.builtin "ValueError.__new__"), k5] := by
        obtain ⟨z⟩ := sl
        simp only at hs
        rw [hs]
      subst hsl
      exact ⟨nm, qn, ns, bs, bm, sn, sub, ab, col, dd, k0, k1, k2, k3, k5, ho, hbm⟩
    · cases q
  · cases q
/-- the error class named x, its fields fs -/
def errB (K : PySem.W.Frag) (x : Str) (fs : List Str) : Bool :=
  oexB K (He.ga K x) && (decide (PySem.W.findIn K (.ref (He.ga K x)) "__setattr__" = some (some (.builtin "object.__setattr__"))) && (decide (PySem.W.subIn K (.ref (He.ga K x)) (.type "BaseException") = some true) && (decide (PySem.W.typeIn K (.ref (He.ga K x)) = some (.type "type")) && (PySem.W.keepIn K (.ref (He.ga K x)) &&
  (decide (PySem.W.findIn K (.ref (He.ga K x)) "__init__" = some (some (.ref (He.ma K (He.ga K x) "__init__")))) && (decide (PySem.W.typeIn K (.ref (He.ma K (He.ga K x) "__init__")) = some (.type "function")) && ((fs.all fun f => decide (PySem.W.findIn K (.ref (He.ga K x)) f = some none)) && (xfB K (He.ga K x) &&
  ((PySem.W.clsIn K (He.ga K x)).isSome && (decide (PySem.W.findIn K (.ref (He.ga K x)) "__class__" = some (some (.builtin "object.__class__"))) && (decide (PySem.W.specialIn K (.builtin "object.__class__") "__get__" = some (some (.builtin "getset_descriptor.__get__"))) &&
  (decide (PySem.W.takesIn K (.builtin "object.__class__") = some true) && decide (PySem.W.mroIn K (He.ga K x) (.type "object") = some true)))))))))))))
structure ErrF (K : PySem.W.Frag) (C fI : Addr) (fs : List Str) : Prop where
  o : OexC K C
  i : PySem.W.findIn K (.ref C) "__init__" = some (some (.ref fI))
  ti : PySem.W.typeIn K (.ref fI) = some (.type "function")
  no : ∀ f ∈ fs, PySem.W.findIn K (.ref C) f = some none
  xf : XfC K C
  is_ : IsC K C
theorem errB_ok {K : PySem.W.Frag} {x : Str} {fs : List Str} (h : errB K x fs = true) : ErrF K (He.ga K x) (He.ma K (He.ga K x) "__init__") fs := by
  unfold errB at h
  simp only [Bool.and_eq_true, decide_eq_true_eq, List.all_eq_true] at h
  obtain ⟨h1, h2, h3, h4, h5, h6, h7, h8, h9, h10, h11, h12, h13, h14⟩ := h
  have X := xfB_ok h9
  exact ⟨⟨oexB_ok h1, h2, h3, h4, h5⟩, h6, h7, h8, X, ⟨h10, X.ga, X.gg, X.exC, h11, h12, h13, h14⟩⟩
def baseB (K : PySem.W.Frag) (x : Str) : Bool := PySem.W.readsIn K (He.ga K x) (.type "type") && (decide (PySem.W.specialIn K (.ref (He.ga K x)) "__getattribute__" = some (some (.builtin "type.__getattribute__"))) && (match PySem.W.findCls K (.ref (He.ga K x)) (.type "type") "__init__" with
  | some (.val (.builtin z)) => z == "ValueError.__init__"
  | _ => false))
theorem baseB_ok {K : PySem.W.Frag} {mg : Str → Option Value} {x : Str} (h : baseB K x = true) (g : mg x = some (.ref (He.ga K x))) : BaseC K mg x (He.ga K x) := by
  unfold baseB at h
  simp only [Bool.and_eq_true, decide_eq_true_eq] at h
  obtain ⟨h1, h2, h3⟩ := h
  refine ⟨g, h1, h2, ?_⟩
  split at h3
  · rename_i z e
    rw [e, beq_iff_eq.mp h3]
  · cases h3
/-! ### a hook: what the module's names reach, and the runtime's own names -/
def frW (n : Nat) (g : Addr → Option Obj) : PySem.W.Frag := He.frT g (cStatics :: He.asD g n)
end Wf
/-! The end of a law whose defs make defs: tables of code objects, no guard. -/
namespace Wf
open PySem PySem.Spec PyProof.Rows L2 LamX
abbrev tab0 : Obj := { cls := .none, data := .fields #[] }
/-- nothing stands but the tables and the script -/
def OnlyT (cs : List (Addr × Addr)) (a : Addr) (H : Hp) : Prop := ∀ b u, H b = some u → (∃ p ∈ cs, p.2 = b) ∨ (b = a ∧ ∃ ob xs, u = HO.frz ob (.lst xs))
theorem lawT {P : Program} {w : World} {K : PySem.W.Frag} {mg mb : Str → Option Value} {k : Nat} {fa a : Addr} {cs : List (Addr × Addr)} {fd : FuncData} {x : Str} {sp : Sp} {s : Shared} {us : List Value} {ns : List Int}
    (KX : K.In s.heap) (hmg : s.heap.Ns mainGlobals mg) (hb : s.heap.Ns builtinsNs mb) (hbb : ∀ x : Str, x ≠ "__name__" → mb x = bootBuiltins x) (hlim : s.heap.NoLimit) (hg : s.gens = #[])
    (hT : ∀ p ∈ cs, s.heap.get? p.2 = some tab0) (nT : ∀ p ∈ cs, K.lookup p.2 = none) (CH : ∀ p ∈ cs, PySem.W.CodeHd s.heap p.1 p.2)
    (hbm : ∃ (bm : Addr) (ob : Obj), mg "__builtins__" = some (.ref bm) ∧ bm ≠ builtinsNs ∧ s.heap.get? bm = some ob ∧ ob.cls = .type "module" ∧ ob.dict = some builtinsNs ∧ ob.data = .plain)
    (ha : s.heap.get? a = some { cls := .type "list", data := .seq us.toArray }) (hi : IntsAre us ns) (hl : ns.length ≤ sizeLine) (hr : Room k callerA)
    (F : ∀ base : Heap, K.In base → base.Ns mainGlobals mg → (∀ p ∈ cs, TabB base mg p.1 p.2) → FnG P w K mg base CX0 k fa fd [x] sp) (hbind : ∀ (s : Shared) (u : Value), BindsTo s fd ⟨[u], []⟩ [(x, u)])
    (hsp : ∀ H : Hp, (∀ p ∈ cs, H p.2 = some (.tbl #[])) → OnlyT cs a H → SqL K H a (ns.map V.int) → sp [.ref a] H (fun v _ => v = .bl true) fun _ _ _ => False) :
    codeAny (model P w) callerA (.call (.ref fa) ⟨[.ref a], []⟩) (fun r s' => r = .ok (.ret (.bool true)) ∧ PySem.OldK s.heap s'.heap ∧ s'.os = s.os ∧ AllBare s'.gens) s := by
  classical
  have rv := vals_ints hi
  let isT : Addr → Prop := fun b => ∃ p ∈ cs, p.2 = b
  have tabAt : ∀ b, isT b → s.heap.get? b = some tab0 := fun b ⟨p, hp, e⟩ => e ▸ hT p hp
  have aT : ¬ isT a := fun z => by
    have e := tabAt a z
    rw [ha] at e
    have := congrArg Obj.data (Option.some.inj e)
    cases this
  have go : ∀ H : Hp, (∀ p ∈ cs, H p.2 = some (.tbl #[])) → (∀ b u, H b = some u → isT b ∨ (b = a ∧ ∃ ob xs, u = .frz ob (.lst xs))) → SqL K H a (ns.map V.int) → HOk P w H s.heap → (H a ≠ none → K.lookup a = none) →
      codeAny (model P w) callerA (.call (.ref fa) ⟨[.ref a], []⟩) (fun r s' => r = .ok (.ret (.bool true)) ∧ PySem.OldK s.heap s'.heap ∧ s'.os = s.os ∧ AllBare s'.gens) s := by
    intro H hH hA hS hok hK
    -- what is neither the script nor a table is not told of
    have clear_ : ∀ {b : Addr} {o : Obj}, s.heap.get? b = some o → o.data ≠ .fields #[] → (∀ vs m, o.data ≠ .seq vs m) → H b = none := fun {b o} e h1 h2 => by
      cases q : H b with
      | none => rfl
      | some u =>
        rcases hA b u q with z | ⟨rfl, _⟩
        · rw [tabAt b z] at e
          cases e
          exact absurd rfl h1
        · rw [ha] at e
          cases e
          exact absurd rfl (h2 _ _)
    have clearD : ∀ {b : Addr} {o : Obj} {es : Array DictEntry} {ep : Nat}, s.heap.get? b = some o → o.data = .dict es ep → H b = none := fun {b o es ep} e d => clear_ e (fun z => by rw [d] at z; cases z) fun vs m z => by rw [d] at z; cases z
    have nsIn_ : ∀ {b : Addr} {m : Str → Option Value}, s.heap.Ns b m → (hidT s.heap H).Ns b m := fun {b m} q => by
      obtain ⟨o, es, ep, e, d, r⟩ := q
      exact ⟨o, es, ep, hidT_get e (clearD e d), d, r⟩
    have hKb : K.In (hidT s.heap H) := fun b o e => by
      refine hidT_get (KX b o e) ?_
      cases q : H b with
      | none => rfl
      | some u =>
        rcases hA b u q with ⟨p, hp, ep⟩ | ⟨rfl, _⟩
        · rw [← ep, nT p hp] at e
          cases e
        · rw [hK (by rw [q]; exact fun z => nomatch z)] at e
          cases e
    have TB : ∀ p ∈ cs, TabB (hidT s.heap H) mg p.1 p.2 := fun p hp => by
      refine ⟨?_, ?_, fun z => ?_⟩
      · obtain ⟨o, vs, file, tf, flags, tg, inF, text, tt, e1, r1, r2, r3, rest⟩ := CH p hp
        refine ⟨o, vs, file, tf, flags, tg, inF, text, tt, hidT_get e1 (clear_ e1 (fun z => ?_) fun vs m z => ?_), r1, r2, r3, rest⟩
        · rw [r2] at z
          cases z
          simp at r3
        · rw [r2] at z
          cases z
      · obtain ⟨bm, ob, b1, b2, b3, b4, b5, b6⟩ := hbm
        refine ⟨bm, ob, b1, b2, fun z => ?_, fun z => ?_, hidT_get b3 (clear_ b3 (fun z => ?_) fun vs m z => ?_), b4, b5, b6⟩
        · obtain ⟨o, es, ep, e, d, _⟩ := hmg
          rw [z, e] at b3
          cases b3
          rw [d] at b6
          cases b6
        · rw [z, hT p hp] at b3
          cases b3
          cases b6
        · rw [b6] at z
          cases z
        · rw [b6] at z
          cases z
      · obtain ⟨o, es, ep, e, d, _⟩ := hmg
        rw [z, hT p hp] at e
        cases e
        cases d
    obtain ⟨mc, l1, l2⟩ := hlim
    have e0 : Env0 P w K mg (hidT s.heap H) callerA [] s H :=
      ⟨rfl, ⟨hKb, nsIn_ hmg, ⟨mb, nsIn_ hb, hbb⟩, ⟨mc, nsIn_ l1, l2⟩⟩, fun b o e => of_hidT e, Nat.le_of_eq (hidT_size _ _), trivial, fun b z => (List.not_mem_nil z).elim, hok, .of_eq hg⟩
    refine codeAny_mono ((F _ hKb (nsIn_ hmg) TB).run callerA rfl [] s H ⟨[.ref a], []⟩ [.ref a] [.ref a] _ _ hr e0 (hbind s (.ref a)) (.cons rfl .nil) (hsp H hH hA hS)) fun r s' q => ?_
    cases r with
    | error e => exact False.elim q
    | ok fl =>
      cases fl with
      | next => exact False.elim q
      | brk => exact False.elim q
      | cont => exact False.elim q
      | ret u =>
        obtain ⟨v, H', os, bare, un, hok', r', ev⟩ := q
        cases (show v = .bl true from ev)
        cases (show u = Value.bool true from r')
        have kept : ∀ b o, ¬ isT b → s.heap.get? b = some o → s'.heap.get? b = some o := fun b o nb e => by
          cases q : H b with
          | none => exact un.keep b o e q (fun y => (List.not_mem_nil y).elim) (fun y => (List.not_mem_nil y).elim)
          | some u =>
            rcases hA b u q with z | ⟨rfl, ob, xs, rfl⟩
            · exact absurd z nb
            · have e1 := (hok b _ q).1
              rw [e] at e1
              cases e1
              exact (hok' b _ (un.frzs b _ _ q)).1
        have grew : ∀ p ∈ cs, ∃ more : Array Value, s'.heap.get? p.2 = some { cls := .none, data := .fields more } := fun p hp => by
          obtain ⟨more, z⟩ := un.tbls p.2 #[] (hH p hp)
          exact ⟨_, hok' p.2 _ z⟩
        refine ⟨rfl, ⟨fun b o e => ?_, fun b o e => ?_⟩, os, bare⟩
        · by_cases z : isT b
          · obtain ⟨p, hp, rfl⟩ := z
            obtain ⟨more, hm⟩ := grew p hp
            rw [hT p hp] at e
            cases e
            exact .inr (.inl ⟨((CH p hp).tab (hT p hp)).isCodeTable, rfl, #[], more, rfl, by rw [Array.empty_append]; exact hm⟩)
          · exact .inl (kept b o z e)
        · by_cases z : isT b
          · obtain ⟨p, hp, rfl⟩ := z
            obtain ⟨more, hm⟩ := grew p hp
            exact ⟨_, hm⟩
          · exact ⟨o, kept b o z e⟩
  cases hk : K.lookup a with
  | some o =>
    have e := KX a o hk
    rw [ha] at e
    cases e
    let H0 : Hp := fun b => if isT b then some (.tbl #[]) else none
    have h1 : ∀ b, isT b → H0 b = some (.tbl #[]) := fun b z => if_pos z
    have h2 : ∀ b, ¬ isT b → H0 b = none := fun b z => if_neg z
    have only : ∀ b u, H0 b = some u → isT b ∧ u = .tbl #[] := fun b u e => by
      by_cases z : isT b
      · rw [h1 b z] at e
        exact ⟨z, (Option.some.inj e).symm⟩
      · rw [h2 b z] at e
        cases e
    refine go H0 (fun p hp => h1 _ ⟨p, hp, rfl⟩) (fun b u e => .inl (only b u e).1) (.inr ⟨_, us.toArray, _, hk, rfl, rfl, rfl, ?_, ?_⟩) (fun b u e => ?_) fun z => absurd (h2 a aT) z
    · rw [List.size_toArray, hi.length]
      exact hl
    · simpa using rv
    · obtain ⟨z, rfl⟩ := only b u e
      exact tabAt b z
  | none =>
    let fr : HO := .frz { cls := .type "list", data := .seq us.toArray } (.lst (ns.map V.int))
    let H0 : Hp := fun b => if b = a then some fr else if isT b then some (.tbl #[]) else none
    have h0 : H0 a = some fr := if_pos rfl
    have h1 : ∀ b, isT b → H0 b = some (.tbl #[]) := fun b z => (if_neg (show ¬ b = a from fun e => aT (by rw [← e]; exact z))).trans (if_pos z)
    have h2 : ∀ b, b ≠ a → ¬ isT b → H0 b = none := fun b n z => (if_neg n).trans (if_neg z)
    have only : ∀ b u, H0 b = some u → (isT b ∧ u = .tbl #[]) ∨ (b = a ∧ u = fr) := fun b u e => by
      by_cases q : b = a
      · subst q
        rw [h0] at e
        exact .inr ⟨rfl, (Option.some.inj e).symm⟩
      · by_cases z : isT b
        · rw [h1 b z] at e
          exact .inl ⟨z, (Option.some.inj e).symm⟩
        · rw [h2 b q z] at e
          cases e
    refine go H0 (fun p hp => h1 _ ⟨p, hp, rfl⟩) (fun b u e => ?_) (.inl (.inr ⟨_, h0⟩)) (fun b u e => ?_) fun _ => hk
    · rcases only b u e with ⟨z, _⟩ | ⟨z, rfl⟩
      · exact .inl z
      · exact .inr ⟨z, _, _, rfl⟩
    · rcases only b u e with ⟨z, rfl⟩ | ⟨rfl, rfl⟩
      · exact tabAt b z
      · exact ⟨ha, by rw [List.length_map]; exact hl, us, _, rv, ha⟩
theorem walkT2 {l : PySem.W.OpenLaw} {n k : Nat} {q : Program} {loose : List Str} {XP : (Str → Option Value) → Heap → Prop} {YP : World → Heap → Prop} {d : DefRec} {x : Str}
    (hn : l.most = some n) (hn2 : n ≤ sizeLine) (hdf : d.params.defaults = []) (hr : Room k callerA)
    (F : ∀ (w : World) (mg : Str → Option Value) (fa : Addr) (h : Heap), YP w h → h.Ns mainGlobals mg → mg d.name = some (.ref fa) →
      ∃ (K : PySem.W.Frag) (fd : FuncData) (cs : List (Addr × Addr)) (sp : Sp), K.In h ∧ (∀ p ∈ cs, h.get? p.2 = some tab0) ∧ (∀ p ∈ cs, K.lookup p.2 = none) ∧ (∀ p ∈ cs, PySem.W.CodeHd h p.1 p.2) ∧ (∀ (s : Shared) (u : Value), BindsTo s fd ⟨[u], []⟩ [(x, u)]) ∧
        (∀ (H : Hp) (a : Addr) (ns : List Int), ns.length ≤ n → (∀ p ∈ cs, H p.2 = some (.tbl #[])) → OnlyT cs a H → SqL K H a (ns.map V.int) → sp [.ref a] H (fun v _ => v = .bl true) fun _ _ _ => False) ∧
        ∀ base : Heap, K.In base → base.Ns mainGlobals mg → (∀ p ∈ cs, TabB base mg p.1 p.2) → FnG l.prog w K mg base CX0 k fa fd [x] sp) :
    PySem.W.WalkO q loose XP YP l.row.toRowW d [] (fun f vs => PySem.call f vs) := by
  refine Att.attach_call hn hdf fun w s0 s1 mg mb fa o pm cd doc a vs ns G Y ho hd hcd hmg hobj hints hlen hg => ?_
  obtain ⟨K, fd, cs, sp, KX, hT, nT, CH, hb, hsp, hF⟩ := F w mg fa _ Y G.T.g hmg
  exact lawT KX G.T.g G.T.b G.T.builtins G.T.nolimit hg hT nT CH G.T.bmain hobj hints (Nat.le_trans hlen hn2) hr hF hb fun H hH hA hS => hsp H a ns hlen hH hA hS
/-! ### a hook that tells of tables -/
structure SaysV (fa : List He.Fa) (fn : List He.DefD) (tf : List He.Defn) (ex : PySem.W.Frag → Bool) (h : Heap) (K : PySem.W.Frag) : Prop where
  d : He.SaysD fa fn K
  more : ex K = true
  hd : ∀ p ∈ tf, PySem.W.codeHdIn K (He.cT K p).1 (He.cT K p).2 = true
  out : ∀ p ∈ tf, K.lookup (He.cT K p).2 = none
  empty : ∀ p ∈ tf, h.get? (He.cT K p).2 = some tab0
def obsV (n : Nat) (fa : List He.Fa) (fn : List He.DefD) (tf : List He.Defn) (ex : PySem.W.Frag → Bool) (g : Addr → Option Obj) : He.AlD × Bool := (He.obsD fa fn (frW n g), ex (frW n g) && He.tabsB g tf (frW n g))
theorem saysV_of {n : Nat} {fa : List He.Fa} {fn : List He.DefD} {tf : List He.Defn} {ex : PySem.W.Frag → Bool} {h : Heap} (e : obsV n fa fn tf ex h.get? = (He.valD fn, true)) : SaysV fa fn tf ex h (frW n h.get?) := by
  have e1 := congrArg (fun z : He.AlD × Bool => z.1) e
  have e2 : (ex (frW n h.get?) && He.tabsB h.get? tf (frW n h.get?)) = true := congrArg (fun z : He.AlD × Bool => z.2) e
  obtain ⟨m1, m2⟩ := Bool.and_eq_true_iff.mp e2
  have at_ : ∀ p ∈ tf, PySem.W.codeHdIn (frW n h.get?) (He.cT (frW n h.get?) p).1 (He.cT (frW n h.get?) p).2 = true ∧ ∃ o, h.get? (He.cT (frW n h.get?) p).2 = some o ∧ He.emptyTab o = true := fun p hp => by
    obtain ⟨z1, z2⟩ := Bool.and_eq_true_iff.mp (List.all_eq_true.mp m2 p hp)
    refine ⟨z1, ?_⟩
    cases q : h.get? (He.cT (frW n h.get?) p).2 with
    | none => rw [q] at z2; cases z2
    | some o => rw [q] at z2; exact ⟨o, rfl, z2⟩
  refine ⟨e1, m1, fun p hp => (at_ p hp).1, fun p hp => ?_, fun p hp => ?_⟩
  · obtain ⟨_, o, q, z⟩ := at_ p hp
    exact He.frT_none q z
  · obtain ⟨_, o, q, z⟩ := at_ p hp
    rw [q, He.emptyTab_eq z]
def hookV (n : Nat) (fa : List He.Fa) (fn : List He.DefD) (tf : List He.Defn) (ex : PySem.W.Frag → Bool) : PySem.W.Hook where
  α := He.AlD × Bool
  obs := fun s => obsV n fa fn tf ex s.heap.get?
  val := fun _ => (He.valD fn, true)
  says := fun _ h => ∃ K : PySem.W.Frag, K.In h ∧ SaysV fa fn tf ex h K
  of := fun _ _ e => ⟨_, He.frT_in, saysV_of e⟩
  keeps := fun _ _ _ ⟨K, hK, c⟩ k => ⟨K, PySem.W.Frag.In.keeps hK k, ⟨c.d, c.more, c.hd, c.out, fun p hp => k _ _ (c.empty p hp)⟩⟩
theorem obsV_eq {n : Nat} {fa : List He.Fa} {fn : List He.DefD} {tf : List He.Defn} {ex : PySem.W.Frag → Bool} {g : Addr → Option Obj} {s : Shared} (h : ∀ a, g a = s.heap.get? a) : obsV n fa fn tf ex g = (hookV n fa fn tf ex).obs s := by
  have e : g = s.heap.get? := funext h
  rw [e] <;> rfl
/-- the code object of a def that the head tells -/
theorem code_of {K : PySem.W.Frag} {p : He.Defn} {qual : Str} {params : Arguments} {body : List Stmt} {scope : Scope} {dvs : List V} {kws : List (Str × V)} {x : Str} {fd : FuncData} (F : FunD K x qual params body scope dvs kws (He.fAd K p) fd) : fd.code = .ref (He.cT K p).1 := by
  obtain ⟨oc, od, dV, kV, doc, pm, an, cdv, ct, osl, rfl, lk, hcd, _, _⟩ := F.ex
  obtain ⟨c, hc⟩ := He.codeIn_ref hcd
  have e := He.codeOf_eq lk (c := c) hc
  show cdv = _
  rw [hc]
  show Value.ref c = .ref (He.codeOf K p)
  rw [e]
end Wf
/-! A law whose program makes defs: its beginning, by value; old contracts that let tables grow, by value. -/
namespace Pv
open PySem PySem.Spec L2 LamX NdefX Wf
theorem end_lawT {K : PySem.W.Frag} {T : List NTab} {cs : List (Addr × Addr)} {H : Hp} {a : Addr} {ns : List Int} (hl : ns.length ≤ 1000) (tn : TabsN T H) (hT : ∀ p ∈ cs, H p.2 = some (.tbl #[])) (hO : OnlyT cs a H) (hS : SqL K H a (ns.map V.int)) : LSp K T psp_law [.ref a] H (fun v _ => v = .bl true) fun _ _ _ => False := by
  have fin : ∀ (G : Hp) (w : Addr → Option Nat), Rep K (B0 T H w) G H [some (.ref a)] [.ow true (.scr ns)] [] [] w → LSp K T psp_law [.ref a] H (fun v _ => v = .bl true) fun _ _ _ => False := fun G w r => by
    refine ⟨G, w, [.ow true (.scr ns)], fun r _ => r = .im (.bool true), noX, r, fun s hs => ?_, ⟨ns, rfl, hl, rfl⟩, fun r δ' v H' G' w' hr _ _ rep => ?_, xok_no⟩
    · rw [List.mem_singleton] at hs
      exact .inr (.inr ⟨_, hs⟩)
    · subst hr
      have : Dq K G' v (.bool true) := rep.tm 0 v _ rfl rfl
      cases this
      rfl
  rcases hS with h | h
  · have ho : ∃ o, H a = some (.frz o (.lst (ns.map V.int))) := by
      rcases h with h | ⟨o, h⟩
      · rcases hO a _ h with ⟨p, hp, e⟩ | ⟨_, o, xs, z⟩
        · have := hT p hp
          rw [e, h] at this
          cases this
        · cases z
      · exact ⟨o, h⟩
    obtain ⟨o, ho⟩ := ho
    refine fin (fun _ => none) (fun b => if b = a then some 0 else none) ⟨(fun _ _ z => by cases z), fun b i hb => ?_, rfl, fun i s hs => ?_, rfl, fun j v q hv => by simp at hv, ⟨fun b u hb => B0_some hb, .refl, tn, nofun⟩⟩
    · split at hb
      · rename_i e
        subst e
        exact ⟨rfl, by rw [ho]; exact Option.some_ne_none _, NoX.of ho (fun _ z => by cases z) (fun _ _ z => by cases z) (fun _ z => by cases z)⟩
      · cases hb
    · match i, hs with
      | 0, hs =>
        cases hs
        exact ⟨.ref a, rfl, a, rfl, .inl ⟨o, if_pos rfl, ho⟩⟩
      | i + 1, hs => simp at hs
  · refine fin (fun _ => none) (fun _ => none) ⟨(fun _ _ z => by cases z), (fun _ _ z => by cases z), rfl, fun i s hs => ?_, rfl, fun j v q hv => by simp at hv, ⟨fun b u hb => B0_some hb, .refl, tn, nofun⟩⟩
    match i, hs with
    | 0, hs =>
      cases hs
      exact ⟨.ref a, rfl, a, rfl, .inr fun H1 => .inr h⟩
    | i + 1, hs => simp at hs
end Pv
/-! Lambdas that hold nothing: made, handed on, called; by value. -/
namespace Pv
open PySem PySem.Spec PyProof.Rows L2 LamX NdefX Wf
theorem clo_nil {cells : List (Str × Addr)} : ∀ {names : List (Str × NameKind)} {acc : List (Str × Addr)}, (∀ y ∈ names, y.2 ≠ .free) → cloFrom cells names acc = acc
  | [], acc, _ => rfl
  | (n, k) :: r, acc, h => by
    have hk : (k == NameKind.free) = false := by
      have := h (n, k) List.mem_cons_self
      cases k <;> first | rfl | exact absurd rfl this
    unfold cloFrom
    rw [hk]
    exact clo_nil fun y hy => h y (List.mem_cons_of_mem _ hy)
section
variable {X : Cx} {pins : List (Addr × Obj)} {σ : L2.St} {H : Hp} {s : Shared}
theorem inv_lam {F : LF} {o : Obj} {t' : Nat} {pm ctv : Value} (I : Inv X pins σ H s) (ho : o = PySem.W.kla_obj "<lambda>" F.qual F.params F.body F.scope [] pm F.c ctv) :
    Inv X pins σ (upd H s.heap.objs.size (LamO s.heap.objs.size F)) { s with heap := s.heap.push o, toks := t' } := by
  subst ho
  refine I.laid (a := s.heap.objs.size) (fun b u e => Heap.get?_push_of_some _ e) (Nat.le_refl _) ?_
  have e : (s.heap.push (PySem.W.kla_obj "<lambda>" F.qual F.params F.body F.scope [] pm F.c ctv)).get? s.heap.objs.size = some (PySem.W.kla_obj "<lambda>" F.qual F.params F.body F.scope [] pm F.c ctv) := Heap.get?_push_size _ rfl
  exact ⟨⟨pm, ctv, e⟩, ⟨_, e⟩, fun h1 h2 ⟨p, t, z⟩ st => ⟨p, t, st _ z⟩⟩
theorem lam_grow {T : List NTab} {nm : Nat → Nat → Str} {c P : Addr} {prm : Arguments} {bd : Expr} {sc : Scope} {pos : Pos} {E : Value → Shared → Prop} {Q : Value → Shared → Prop} (J : Inv X pins σ H s) (tb : TabB X.base X.mg c P) (ec : X.env.code = .ref c)
    (mem : (P, nm) ∈ T) (en : nm pos.line pos.col = X.env.qual ++ "<lambda>") (un : ∀ p ∈ T, p.1 = P → p.2 = nm) (tn : TabsN T H) (hdef : defaultsOf prm X.env = ([], [])) (fr : ∀ y ∈ sc.names, y.2 ≠ .free)
    (go : ∀ (f d : Addr) (H1 : Hp) (s' : Shared), Inv X pins σ H1 s' → ExtN H H1 → TbG T H H1 → H f = none → H1 f = some (LamO f ⟨X.env.qual ++ "<lambda>", prm, bd, sc, d⟩) → H1 d = some (CodeO d (X.env.qual ++ "<lambda>")) → d ≠ f → Q (.ref f) s') :
    wpAny (model X.prog X.w) X.A (eval (.Lambda prm bd sc pos) X.env) Q E s := by
  obtain ⟨ps, hP, tr, all⟩ := (show TabN H P nm from tn _ mem)
  have here : s.heap.get? P = some { cls := .none, data := .fields ps } := J.hok P _ hP
  have cl0 : cloFrom X.env.cells sc.names [] = [] := clo_nil fr
  have hcl : closureFor sc X.env = pure [] := by
    have := closure_ok (env := X.env) (scope := sc) fun y hy e => absurd e (fr y hy)
    rw [cl0] at this
    exact this
  refine PySem.W.kla_eval hdef ?_
  cases hc : codeAmong pos ps.toList with
  | none =>
    refine PySem.W.kla_makeFunction (mg := X.mg) (c := c) (P := P) (ps := ps) hcl J.ok.glob (J.mod.glob.keeps J.bk) ec (tb.code.keeps J.bk) here tr hc tb.gP (tb.bm.keeps J.bk) fun d ctv h' tk hx hge hlt hrec htb => ?_
    obtain ⟨d2, oc, us, t, e2, hoc, hdt, hus⟩ := hrec
    cases e2
    have nd : H d = none := J.hok.fresh hge
    have J1 := inv_table (t' := tk) (more := #[rawInt pos.line, rawInt pos.col, .ref d]) (h' := h') J hP (fun b o hb e => hx b o hb e) htb hge ⟨oc, us, t, hoc, hdt, hus⟩
    have g := tabs_grow (pos := pos) mem un hP nd
    rw [en] at g
    have nf := J1.hok.fresh (Nat.le_refl _)
    have J2 := inv_lam (F := ⟨X.env.qual ++ "<lambda>", prm, bd, sc, d⟩) (t' := tk) (pm := (X.mg "__name__").getD .none) (ctv := ctv) J1 rfl
    refine go h'.objs.size d _ _ J2 ((ext_grow hP nd).trans (.of (same_new nf))) (g.trans (.same (same_new nf))) (J.hok.fresh (Nat.le_trans hge (Nat.le_of_lt hlt))) upd_same ?_ (Nat.ne_of_lt hlt)
    exact (upd_ne (Nat.ne_of_lt hlt)).trans upd_same
  | some cv =>
    obtain ⟨d, e, hco⟩ := all pos cv hc
    subst e
    rw [en] at hco
    refine PySem.W.kla_makeFunctionHit (mg := X.mg) (c := c) (P := P) (ps := ps) hcl J.ok.glob (J.mod.glob.keeps J.bk) ec (tb.code.keeps J.bk) here tr hc (tb.bm.keeps J.bk) fun ctv h' tk hx hsz => ?_
    have J1 : Inv X pins σ H { s with heap := h', toks := tk } := J.kept hx
    have nf : H h'.objs.size = none := J1.hok.fresh (Nat.le_refl _)
    have J2 := inv_lam (F := ⟨X.env.qual ++ "<lambda>", prm, bd, sc, d⟩) (t' := tk) (pm := (X.mg "__name__").getD .none) (ctv := ctv) J1 rfl
    exact go h'.objs.size d _ _ J2 (.of (same_new nf)) (.same (same_new nf)) nf upd_same ((upd_ne (ne_of_none hco nf)).trans hco) (ne_of_none hco nf)
end
/-- a new lambda -/
def pLam (qual : Str) (prm : Arguments) (bd : Expr) (sc : Scope) : PX := fun δ Q => ∀ c, Q (.ow (.lam ⟨qual, prm, bd, sc, c⟩)) δ
theorem Rep.retLam {K : PySem.W.Frag} {B : Bas} {G H : Hp} {σ : L2.St} {δ : List Sl} {vs : List V} {rs : List R} {w : Addr → Option Nat} (r : Rep K B G H σ δ vs rs w) {f : Addr} {F : LF} (h1 : G f = some (LamO f F)) (h2 : G F.c = some (CodeO F.c F.qual)) : Rep K B G H σ δ [.ref f] [.ow (.lam F)] fun a => evn (w a) := by
  have r0 := r.drop
  refine ⟨r0.sub, r0.out, r0.len, r0.sl, rfl, fun j u q hu hq => ?_, r0.bs⟩
  match j with
  | 0 =>
    simp only [List.getElem?_cons_zero, Option.some.injEq] at hu hq
    subst hu hq
    exact ⟨f, rfl, h1, h2⟩
  | j + 1 => simp at hu
theorem je_lam {X : Cx} {B : Bas} {nm : Nat → Nat → Str} {c P : Addr} {prm : Arguments} {bd : Expr} {sc : Scope} {pos : Pos} (tb : TabB X.base X.mg c P) (ec : X.env.code = .ref c) (mem : (P, nm) ∈ B.T) (en : nm pos.line pos.col = X.env.qual ++ "<lambda>") (un : ∀ p ∈ B.T, p.1 = P → p.2 = nm)
    (fr : ∀ y ∈ sc.names, y.2 ≠ .free) (hdef : defaultsOf prm X.env = ([], [])) : JE X B (.Lambda prm bd sc pos) (pLam (X.env.qual ++ "<lambda>") prm bd sc) := by
  refine ⟨fun pins s σ H Q I ⟨G, w, δ, Qp, rep, q, k⟩ => ?_⟩
  refine lam_grow I tb ec mem en un (rep.bs.tt.ts rep.bs.ta) hdef fr fun f d H1 s' I1 e1 g1 f0 ff cc fd => ?_
  have hx : ∀ d' u, some (f, LamO f ⟨X.env.qual ++ "<lambda>", prm, bd, sc, d⟩) = some (d', u) → H d' = none ∧ H1 d' = some u ∧ NT u := fun d' u e => by
    cases e
    exact ⟨f0, ff, lamO_ne⟩
  obtain ⟨st, r2⟩ := rep.pub (x := some (f, LamO f ⟨X.env.qual ++ "<lambda>", prm, bd, sc, d⟩)) (fun a o n h => e1 a o h n) g1 hx
  have p1 : pubT G H1 (some (f, LamO f ⟨X.env.qual ++ "<lambda>", prm, bd, sc, d⟩)) f = some (LamO f ⟨X.env.qual ++ "<lambda>", prm, bd, sc, d⟩) := by
    unfold pubT
    dsimp only
    rw [if_pos rfl]
  have p2 : pubT G H1 (some (f, LamO f ⟨X.env.qual ++ "<lambda>", prm, bd, sc, d⟩)) d = some (CodeO d (X.env.qual ++ "<lambda>")) := by
    unfold pubT
    dsimp only
    rw [if_neg fd]
    cases e : G d with
    | some u =>
      have h1 := rep.sub d u e
      have h2 := e1 d u h1 fun ps z => rep.bs.gt d ps (by rw [e, z])
      rw [cc] at h2
      exact h2.symm
    | none =>
      dsimp only
      rw [if_pos ⟨none, _, cc, fun ⟨_, ⟨_, _, _, e1, e2, _⟩, _, _, _, e3, e4⟩ => by rw [e1] at e3; cases e3; rw [e2] at e4; cases e4⟩]
      exact cc
  exact ⟨.ref f, H1, I1, rfl, k _ δ _ H1 _ _ (q d) (st.trans .drop) (r2.retLam p1 p2)⟩
end Pv
/-! Lambdas called. -/
namespace Pv
open PySem PySem.Spec PyProof.Rows L2 LamX NdefX Wf
theorem run_lam {CX : CXT} {P : Program} {w : World} {K : PySem.W.Frag} {mg : Str → Option Value} {base : Heap} {k : Nat} {f : Addr} {F : LF} {N ps : List Str} (S : FnScope N ps F.scope)
    {A : Around} {outer : List Env} {s : Shared} {H : Hp} {us : List Value} {vs : List V} {Q : VK} {E : XK} (hr : Room (k + 1) A) (e0 : Env0 P w K mg base A outer s H) (hf : H f = some (LamO f F)) (hc : H F.c = some (CodeO F.c F.qual))
    (hb : ∀ pm ctv : Value, bindArgs (PySem.W.kla_fn "<lambda>" F.qual F.params F.body F.scope [] pm (.ref F.c) ctv) ⟨us, []⟩ = pure (ps.zip us)) (r : Vals vs us) (hl : vs.length = ps.length)
    (hbody : Room k (A.deeper (envOfC F.qual F.scope s.heap.objs.size f (.ref F.c))) → ∃ t, PE (cxOf CX P w K mg base N F.qual F.scope f (.ref F.c) A outer s H E) F.body t ∧ t (L2.start N vs) H Q) :
    codeAny (model P w) A (.call (.ref f) ⟨us, []⟩) (CR CX outer P w H s Q E) s := by
  have lim : s.heap.NoLimit := e0.mod.nolimit.keeps fun b o e => (e0.bs b o e).1
  obtain ⟨⟨pm, ctv, of1⟩, _, _⟩ := e0.hok f _ hf
  have hkind : ∀ y ∈ ps.zip us, F.scope.names.lookup y.1 = some .local ∨ (F.scope.names.lookup y.1 = some .cell ∧ ((cellsFrom (s.heap.objs.size + 1) F.scope.names []).lookup y.1).isSome = true) := fun ⟨n, v⟩ hy => by
    rcases S.par n (List.of_mem_zip hy).1 with q | q
    · exact .inl q
    · exact .inr ⟨q, PySem.W.cellsFrom_some _ _ _ (.inl q)⟩
  refine PySem.W.kla_callFunE hr.depth of1 rfl S.co S.gen rfl (codeO_at e0.hok hc) ?_
  rw [hb]
  refine wpAny_pure (wpAny_newFunctionEnv_cells S.kind hkind fun env he s1 x => ?_)
  subst he
  refine ⟨lim.keeps x.toInCall.keep, ?_⟩
  obtain ⟨t, ht, hq⟩ := hbody (hr.deeper _)
  have I : Inv (cxOf CX P w K mg base N F.qual F.scope f (.ref F.c) A outer s H E) [] (L2.start N vs) H s1 := inv_start S hr.hd e0 hl r x
  refine PySem.W.kla_codeExpr (wpAny_mono (ht.run [] s1 (L2.start N vs) H Q I hq) (fun v s' hs => ?_) fun e s' hs => hs)
  obtain ⟨u, H', J, rv, q⟩ := hs
  exact ⟨u, H', J.os, J.bare, J.base, J.hok, rv, q⟩
/-- a lambda of two numbers that tells a truth -/
def LamOk (P : Program) (w : World) (K : PySem.W.Frag) (mg : Str → Option Value) (F : LF) (g : Int → Int → Bool) : Prop := ∀ (base : Heap) (A : Around) (outer : List Env) (s : Shared) (H : Hp) (f : Addr) (x y : Int) (us : List Value) (Q : VK), Room 1 A → Env0 P w K mg base A outer s H → H f = some (LamO f F) → H F.c = some (CodeO F.c F.qual) → Vals [.int x, .int y] us → Q (.bl (g x y)) H →
  codeAny (model P w) A (.call (.ref f) ⟨us, []⟩) (CR CX0 outer P w H s Q E0) s
def pCallL (i : Nat) (L : LF → (Int → Int → Bool) → Prop) (ps : PL) : PX := fun δ Q => ∃ b F g, δ[i]? = some (.ow b (.lam F)) ∧ L F g ∧ ps δ fun rs δ1 => ∃ b1 x y, δ1[i]? = some (.ow b1 (.lam F)) ∧ dats δ1 rs = some [.int x, .int y] ∧ Q (.im (.bool (g x y))) δ1
theorem lam_at {X : Cx} {pins : List (Addr × Obj)} {σ : L2.St} {H : Hp} {s : Shared} {f : Addr} {F : LF} (I : Inv X pins σ H s) (h : H f = some (LamO f F)) : ∃ pm ctv : Value, s.heap.get? f = some (PySem.W.kla_obj "<lambda>" F.qual F.params F.body F.scope [] pm F.c ctv) := (I.hok f _ h).1
theorem je_callL {X : Cx} {B : Bas} {j i : Nat} {L : LF → (Int → Int → Bool) → Prop} {x : Str} {e1 e2 : Expr} {ps : PL} {p pos : Pos} (hL : ∀ F g, L F g → LamOk X.prog X.w X.K X.mg F g) (hr : Room j X.A) (hN : X.N[i]? = some x) (hv : Vis X.env.scope x) (ha : JA X B [e1, e2] ps) (hk : 1 ≤ j := by decide)
    (hd : (x == ("__debug__" : Str)) = false := by decide) (hcd : (x == ("__classdict__" : Str)) = false := by decide)
    (he : starEach [e1, e2] X.env = (false, eval e1 X.env) :: starEach [e2] X.env := by rfl) (hpl : (backTo pos (starEach [e2] X.env)).any (·.1) = false := by rfl) :
    JE X B (.Call (.Name x p) [e1, e2] [] pos) (pCallL i L ps) := by
  refine ⟨fun pins s σ H Q I ⟨G, w, δ, Qp, rep, q, kk⟩ => ?_⟩
  obtain ⟨b, F, g, h0, hLg, q⟩ := q
  obtain ⟨v0, hσ, f, rfl, g1, g2⟩ := rep.sl i _ h0
  refine wpAny_Call_Name_kw (thn ((pe_var (pos := p) hN hv hd hcd).run pins s σ H (fun v H1 => v = .ref f ∧ H1 = H) I ⟨.ref f, hσ, rfl, rfl⟩) fun u s1 ⟨v, H1, I1, r1, ev, eH⟩ => ?_)
  subst ev
  rw [eH] at I1
  obtain rfl : u = Value.ref f := r1
  have fa : ∀ {H2 : Hp} {s2 : Shared}, Inv X pins σ H2 s2 → H2 f = some (LamO f F) → PySem.W.FnAt f s2.heap := fun I2 h => by
    obtain ⟨pm, ctv, ho⟩ := lam_at I2 h
    exact ⟨_, _, _, _, ho⟩
  refine PySem.W.callWith_F (first := []) (fa I1 (rep.sub f _ g1)) (thn (ha.run pos pins s1 σ H (fun vs H2 => ∃ rs δ1 G2 w2 x y, dats δ1 rs = some [.int x, .int y] ∧ Qp (.im (.bool (g x y))) δ1 ∧ Stp B.T G H w δ G2 H2 w2 δ1 ∧ Rep X.K B G2 H2 σ δ1 vs rs w2) I1 ⟨G, w, δ, _, rep, q, fun rs δ1 vs H2 G2 w2 q2 l2 st rep2 => ?_⟩) fun us s2 ⟨vs, H2, I2, r, rs, δ1, G2, w2, x1, y1, hdt, q2, st, rep2⟩ => ?_) he hpl
  · obtain ⟨b1, x1, y1, _, hdt, q3⟩ := q2
    exact ⟨rs, δ1, G2, w2, x1, y1, hdt, q3, st, rep2⟩
  · have ev := vws2 (rep2.vws hdt)
    subst ev
    have f1 : H2 f = some (LamO f F) := rep2.sub f _ (st.g f _ g1)
    have f2 : H2 F.c = some (CodeO F.c F.qual) := rep2.sub _ _ (st.g _ _ g2)
    refine ⟨fa I2 f1, wpAny_call (codeAny_mono (hL F g hLg X.base X.A X.stack s2 H2 f x1 y1 us Q (hr.mono hk) I2.env0 f1 f2 r (kk _ δ1 _ H2 G2 _ q2 (st.trans .drop) (rep2.ret (.bl _)))) fun rr s' hq => ?_)⟩
    cases rr with
    | error er => exact False.elim hq
    | ok fl =>
      cases fl with
      | ret u => exact I2.after hq
      | next => exact False.elim hq
      | brk => exact False.elim hq
      | cont => exact False.elim hq
end Pv
/-! sorted(range(n), key=a lambda that holds a name). -/
namespace Pv
open PySem PySem.Spec PyProof.Rows L2 LamX NdefX Wf SrtO Srt
/-! ### a lambda that holds names, called -/
/-! ### list.sort(key=f) -/
section
variable {X : Cx} {A : Around} {pins : List (Addr × Obj)} {σ : L2.St} {H : Hp} {s : Shared} {a kS f : Addr} {e e1 : Nat} {P : PySem.Fin → Shared → Prop} {E : Value → Shared → Prop}
def KeysAt (H : Hp) (kf : Int → Int × Int) (us : List Value) (ns : List Int) : Prop := ∃ ps : List Addr, us = ps.map Value.ref ∧ ps.length = ns.length ∧ ∀ (j : Nat) p n, ps[j]? = some p → ns[j]? = some n → H p = some (.tup [.int (kf n).1, .int (kf n).2])
theorem KeysAt.mono {H H' : Hp} {kf : Int → Int × Int} {us : List Value} {ns : List Int} (k : KeysAt H kf us ns) (h : ∀ b xs, H b = some (.tup xs) → H' b = some (.tup xs)) : KeysAt H' kf us ns := by
  obtain ⟨ps, e, hl, hk⟩ := k
  exact ⟨ps, e, hl, fun j q m hq hm => h _ _ (hk j q m hq hm)⟩
end
section
variable {X : Cx} {pins : List (Addr × Obj)} {σ : L2.St} {H : Hp} {s : Shared} {f r : Addr} {E : Value → Shared → Prop} {Q : Value → Shared → Prop}
theorem vals_ints : ∀ {ns : List Int} {us : List Value}, IntsAre us ns → Vals (ns.map V.int) us
  | _, _, .nil => .nil
  | _, _, .cons n t h => .cons ⟨t, rfl⟩ (vals_ints h)
end
end Pv
/-! A def whose code object is known, by value; the lambda of a def. -/
namespace Pv
open PySem PySem.Spec PyProof.Rows L2 LamX NdefX Wf
def lamIn (st : Stmt) : Expr := match C8.fnBody st with
  | [.Return (some (.Call _ [_, _, l] _ _)) _] => l
  | _ => .Constant (.int 0) 0 ⟨0, 0, 0, 0⟩
def lamB : Expr → Expr
  | .Lambda _ b _ _ => b
  | e => e
def lamA : Expr → Arguments
  | .Lambda p _ _ _ => p
  | _ => C8.fnArgs (.Pass ⟨0, 0, 0, 0⟩)
def lamS : Expr → Scope
  | .Lambda _ _ s _ => s
  | _ => C8.fnScope (.Pass ⟨0, 0, 0, 0⟩)
theorem fn_okC {T : List NdefX.NTab} {P : Program} {w : World} {K : PySem.W.Frag} {mg : Str → Option Value} {base : Heap} {CX : CXT} {k : Nat} {f c : Addr} {fd : FuncData} {x qual : Str} {params : Arguments} {body : List Stmt} {scope : Scope} {dvs : List V} {kws : List (Str × V)} {N prm : List Str} {psp : PSp} {p : EX → PSx} {m n : Nat}
    (F : FunD K x qual params body scope dvs kws f fd) (hc : fd.code = .ref c) (S : FnScope N prm scope) (hN : N.length = m) (hn : prm.length = n) (hnm : n ≤ m) (hlen : ∀ as Qp Ep, psp as Qp Ep → as.length = n)
    (hb : ∀ (A : Around) (outer : List Env) (s : Shared) (H : Hp) (E : XK) (Bh Bt : Hp) (Ep : EX), Room k (A.deeper (PyProof.Rows.envOfC qual scope s.heap.objs.size f (.ref c))) → XOk K ⟨Bh, Bt, T⟩ Ep E → JSs (cxOf CX P w K mg base N qual scope f (.ref c) A outer s H E) ⟨Bh, Bt, T⟩ body (p Ep))
    (hp : ∀ as Qp Ep, psp as Qp Ep → p Ep (endsP as Qp) (as ++ List.replicate (m - n) .un)) : FnOk P w K mg base CX (k + 1) f fd prm (LSp K T psp) := by
  have ln : ∀ vs H Q E, LSp K T psp vs H Q E → vs.length = n := fun vs H Q E ⟨G, w, as, Qp, Ep, rep, _, h, _⟩ => by
    have := rep.len
    rw [List.length_map, hlen as Qp Ep h] at this
    exact this
  refine okC F hc S (fun vs H Q E h => by rw [hn]; exact ln vs H Q E h) fun A outer s H vs Q E hr h => ?_
  obtain ⟨Bh, Bt, Ep, hx, hl⟩ := fn_lift (N := N) (p := p) hN (fun as Qp Ep h => by rw [hlen as Qp Ep h]; exact hp as Qp Ep h) h (by rw [ln vs H Q E h]; exact hnm)
  exact ⟨_, hb A outer s H E Bh Bt Ep hr hx, hl⟩
end Pv
/-! sorted(range(n), key=lambda i: (x[i], i)), by value. -/
namespace Pv
open PySem PySem.Spec PyProof.Rows L2 LamX NdefX Wf SrtO Srt
end Pv
namespace Pv
open PySem PySem.Spec L2 Wf
/-! ### _law_row, _law_led -/
def ledN (B : Book) (r : List Wk) (ks : List Nat) : List Wk := ks.foldl (passR B) r
def fwdW (B : Book) : List Wk → List Nat → Prop
  | _, [] => True
  | r, k :: ks => (k + 1 < r.length ∧ (wk r (k + 1)).1 < (wk r k).1) ∧ fwdW B (passR B r k) ks
/-! ### data of rows, for repr and alike -/
theorem noL_s {x : Str} (h : PyData.canLay0 (.str x) = true) : noL (.str x) = true := h
theorem noL_none : noL (.str ("none" : Str)) = true := noL_s (by decide +kernel)
end Pv
/-! Calls that draw: what stands in the slots stays, as it is written. -/
namespace Pv
open PySem PySem.Spec L2 Wf
/-- the deal in slot 1, or 0, stays -/
theorem pk1 {s0 s : Sl} {b : Bool} {d : PyData} {δ : List Sl} : putB (s0 :: .ow b .deal :: δ) [.at 1, .im d] [.ow true .deal, s] = s0 :: .ow b .deal :: δ := rfl
theorem pk0 {s : Sl} {b : Bool} {d : PyData} {δ : List Sl} : putB (.ow b .deal :: δ) [.at 0, .im d] [.ow true .deal, s] = .ow b .deal :: δ := rfl
end Pv
namespace Pv
open PySem PySem.Spec L2 Wf
/-! ### slices, equal data -/
theorem cut_take {α : Type} (xs : List α) (k : Nat) : cutD xs none (some (k : Int)) = xs.take k := by
  unfold cutD
  rw [HT.sIx_none, HT.sIx_nat, List.drop_zero, Nat.sub_zero]
  by_cases h : k ≤ xs.length
  · rw [Nat.min_eq_left h]
  · rw [Nat.min_eq_right (by omega), List.take_length, List.take_of_length_le (by omega)]
theorem cut_drop {α : Type} (xs : List α) (k : Nat) : cutD xs (some (k : Int)) none = xs.drop k := by
  unfold cutD
  rw [HT.sIx_none, HT.sIx_nat]
  by_cases h : k ≤ xs.length
  · rw [Nat.min_eq_left h, List.take_of_length_le (by rw [List.length_drop]; omega)]
  · rw [Nat.min_eq_right (by omega), List.drop_length, List.drop_of_length_le (by omega)]
    simp
theorem cut_mid {α : Type} (xs : List α) (i j : Nat) : cutD xs (some (i : Int)) (some (j : Int)) = (xs.drop i).take (j - i) := by
  unfold cutD
  rw [HT.sIx_nat, HT.sIx_nat]
  by_cases h : i ≤ xs.length
  · rw [Nat.min_eq_left h]
    by_cases h2 : j ≤ xs.length
    · rw [Nat.min_eq_left h2]
    · rw [Nat.min_eq_right (by omega), List.take_of_length_le (by rw [List.length_drop]; omega), List.take_of_length_le (by rw [List.length_drop]; omega)]
  · rw [List.drop_of_length_le (show xs.length ≤ min i xs.length by omega), List.drop_of_length_le (show xs.length ≤ i by omega)]
    simp
theorem cut_map {α β : Type} (f : α → β) (xs : List α) (lo hi : Option Int) : cutD (xs.map f) lo hi = (cutD xs lo hi).map f := by
  unfold cutD
  rw [List.length_map, List.map_take, List.map_drop]
theorem shapedT_map {α : Type} (f : α → PyData) (n : Nat) (hn : n < 64) (l : List α) (h : ∀ x ∈ l, (f x).canLay0 = true ∧ (f x).depth ≤ n) : SeqAt.shaped (.tuple (l.map f)) = true := by
  have h := lay_map f n l h
  have h2 : (PyData.tuple (l.map f)).depth ≤ n + 1 := Nat.succ_le_succ h.2
  unfold SeqAt.shaped
  rw [show (PyData.tuple (l.map f)).canLay0 = true from h.1]
  simp
  omega
theorem eqd_self {d : PyData} (h : SeqAt.shaped d = true) : eqd d d = true := SeqAt.eqv_refl d (SeqAt.canLay_of_shaped h)
/-! ### kinds of rows, forward words -/
def iW (ws : List Nat) : List Int := ws.map fun k : Nat => (k : Int)
theorem dN_iW (ws : List Nat) : dN ws = (iW ws).map PyData.int := by unfold iW; rw [List.map_map]; rfl
theorem iW_len (ws : List Nat) : (iW ws).length = ws.length := List.length_map _
theorem dK_iW (ws : List Nat) : dK (iW ws) = .tuple (dN ws) := by rw [dN_iW]; rfl
end Pv
namespace Pv
open PySem PySem.Spec L2 Wf
variable {B : Bas}
/-! ### in, not in: texts or numbers in a tuple or list of such -/
def fInT (neg : Bool) : PyData → PyData → (PyData → Prop) → Prop := fun x y k => ∃ ds, seqD y = some ds ∧
  ((∃ (s : Str) (ss : List Str), x = .str s ∧ ds = ss.map .str ∧ k (.bool (if neg then !decide (s ∈ ss) else decide (s ∈ ss)))) ∨
   (∃ (i : Int) (is : List Int), x = .int i ∧ ds = is.map .int ∧ k (.bool (if neg then !decide (i ∈ is) else decide (i ∈ is)))))
theorem fInT_mono {neg : Bool} : ∀ d e (k k' : PyData → Prop), (∀ e, k e → k' e) → fInT neg d e k → fInT neg d e k' := by
  rintro d e k k' hk ⟨ds, h, q⟩
  refine ⟨ds, h, ?_⟩
  rcases q with ⟨s, ss, h1, h2, q⟩ | ⟨s, ss, h1, h2, q⟩
  · exact .inl ⟨s, ss, h1, h2, hk _ q⟩
  · exact .inr ⟨s, ss, h1, h2, hk _ q⟩
theorem dqAll_strs {K : PySem.W.Frag} {G : Hp} : ∀ {ss : List Str} {us : List V}, DqAll K G us (ss.map PyData.str) → us = ss.map V.str
  | [], _, h => by cases h; rfl
  | n :: ns, _, h => by
    cases h with
    | cons h1 h2 =>
      cases h1
      rw [dqAll_strs h2]
      rfl
theorem inV_str (s : Str) (ss : List Str) : inV (.str s) (ss.map V.str) = decide (s ∈ ss) := by
  unfold inV
  induction ss with
  | nil => rfl
  | cons t ss ih =>
    rw [List.map_cons, List.any_cons, ih]
    have : eqV (.str t) (.str s) = decide (s = t) := by
      by_cases e : s = t
      · subst e; simp [eqV]
      · have e' : ¬ t = s := fun z => e z.symm
        simp [eqV, e, e']
    rw [this]
    by_cases e : s = t <;> simp [e]
theorem inV_int (s : Int) (ss : List Int) : inV (.int s) (ss.map V.int) = decide (s ∈ ss) := by
  unfold inV
  induction ss with
  | nil => rfl
  | cons t ss ih =>
    rw [List.map_cons, List.any_cons, ih]
    have : eqV (.int t) (.int s) = decide (s = t) := by
      by_cases e : s = t
      · subst e; simp [eqV]
      · have e' : ¬ t = s := fun z => e z.symm
        simp [eqV, e, e']
    rw [this]
    by_cases e : s = t <;> simp [e]
theorem flat_strs (ss : List Str) : (ss.map V.str).all flatV = true := by simp [flatV]
theorem flat_ints (ss : List Int) : (ss.map V.int).all flatV = true := by simp [flatV]
theorem vw_seq {K : PySem.W.Frag} {G H : Hp} {v : V} {d : PyData} {ds : List PyData} (s : Same G H) (h : Vw K G H v d) (e : seqD d = some ds) : ∃ a us, v = .ref a ∧ (SqL K H a us ∨ SqT K H a us) ∧ DqAll K G us ds := by
  cases d with
  | list l =>
    cases e
    obtain ⟨a, us, rfl, ha, hd⟩ := h.seqL s
    exact ⟨a, us, rfl, .inl (SqL.of ha), hd⟩
  | tuple l =>
    cases e
    obtain ⟨a, us, rfl, ha, hd, _⟩ := h.seqT s
    exact ⟨a, us, rfl, .inr ha, hd⟩
  | none => cases e
  | bool _ => cases e
  | int _ => cases e
  | str _ => cases e
  | dict _ => cases e
theorem lc_inT {K : PySem.W.Frag} {neg : Bool} : LC K (q2 (fInT neg)) (ap2 (rIn K neg)) := by
  refine lc_im2 (fun G H v u d e Q s hv hu q => ?_) fInT_mono
  obtain ⟨ds, hs, q⟩ := q
  obtain ⟨a, us, rfl, hq, hd⟩ := vw_seq s hu hs
  rcases q with ⟨x, ss, rfl, rfl, q⟩ | ⟨x, ss, rfl, rfl, q⟩
  · have e := hv.str
    subst e
    have e2 := dqAll_strs hd
    subst e2
    refine ⟨a, _, rfl, hq, rfl, flat_strs ss, ?_⟩
    rw [inV_str]
    exact q _ _ .bool
  · have e := hv.int
    subst e
    have e2 := dqAll_ints hd
    subst e2
    refine ⟨a, _, rfl, hq, rfl, flat_ints ss, ?_⟩
    rw [inV_int]
    exact q _ _ .bool
def pInT (neg : Bool) (pa pb : PX) : PX := pC (q2 (fInT neg)) (pCons pa (pCons pb pNil))
/-! ### repr of a list -/
end Pv
/-! tuple(zip(t, u)), t and u tuples of one length -/
namespace Wf
open PySem PySem.Spec PyProof.Rows
end Wf
namespace Pv
open PySem PySem.Spec L2 Wf
variable {B : Bas}
/-! ### tuple(zip(t, u)) -/
section
variable {X : Cx}
/-! ### xs[::-1] of a list -/
def pRevL (p : PX) : PX := fun δ Q => p δ fun r δ1 => ∃ ds, dat δ1 r = some (.list ds) ∧ Q (.ow (.lst ds.reverse)) δ1
theorem dqAll_rev {K : PySem.W.Frag} {G : Hp} : ∀ {us : List V} {ds : List PyData}, DqAll K G us ds → DqAll K G us.reverse ds.reverse
  | _, _, .nil => .nil
  | _, _, .cons h1 h2 => by
    rw [List.reverse_cons, List.reverse_cons]
    exact dqAll_append (dqAll_rev h2) (.cons h1 .nil)
theorem je_revL {e : Expr} {pe : PX} {k : Nat} {p1 p2 p3 pos : Pos} (he : JE X B e pe) : JE X B (.Subscript e (.Slice none none (some (.UnaryOp .USub (.Constant (.int 1) k p1) p2)) p3) pos) (pRevL pe) := by
  refine PE_wk (pe_revL he) fun σ H Q ⟨G, w, δ, Qp, rep, q, kk⟩ => ?_
  refine ⟨G, w, δ, _, rep, q, fun r δ1 v H1 G1 w1 q1 s1 rep1 => ?_⟩
  obtain ⟨ds, hd, q1⟩ := q1
  obtain ⟨a, us, rfl, ha, hds⟩ := Vw.seqL rep1.sub (rep1.dat (j := 0) rfl rfl hd)
  refine ⟨a, us, rfl, SqL.of ha, fun p hp => ?_⟩
  obtain ⟨w', st, r2⟩ := rep1.retLst hp (dqAll_rev hds)
  exact kk _ _ _ _ _ _ q1 (s1.trans st) r2
end
end Pv
namespace Pv
open PySem PySem.Spec L2 Wf
/-! ### burdens_of -/
/-! ### both_ways -/
structure Tri (m : Int) (s u v w a b c : Int) : Prop where
  w0 : 0 ≤ w
  wv : w < v
  vu : v < u
  um : u < m
  a0 : 0 ≤ a
  a1 : a < s
  b0 : 0 ≤ b
  b1 : b < s
  c0 : 0 ≤ c
  c1 : c < s
abbrev tri (u v w a b c : Int) : List Wk := [(u, a), (v, b), (w, c)]
theorem Tri.ok {m s u v w a b c : Int} (h : Tri m s u v w a b c) : RowOk m s (tri u v w a b c) := fun p hp => by
  have := h.w0; have := h.wv; have := h.vu; have := h.um
  have := h.a0; have := h.a1; have := h.b0; have := h.b1; have := h.c0; have := h.c1
  simp only [List.mem_cons, List.not_mem_nil, or_false] at hp
  rcases hp with rfl | rfl | rfl
  · exact ⟨by show 0 ≤ u; omega, by show u < m; omega, by show 0 ≤ a; omega, by show a < s; omega⟩
  · exact ⟨by show 0 ≤ v; omega, by show v < m; omega, by show 0 ≤ b; omega, by show b < s; omega⟩
  · exact ⟨by show 0 ≤ w; omega, by show w < m; omega, by show 0 ≤ c; omega, by show c < s; omega⟩
end Pv
namespace Pv
open PySem PySem.Spec L2 Wf
/-! ### pairs_passed, is_forward, last_order -/
theorem passP_iff {os : List Nat} {p : Nat × Nat} : p ∈ passP os ↔ p.1 < p.2 ∧ p.2 < os.length ∧ os.idxOf p.2 < os.idxOf p.1 := by
  refine ⟨mem_passP, fun ⟨h1, h2, h3⟩ => ?_⟩
  unfold passP passD passI
  refine List.mem_flatMap.mpr ⟨p.1, List.mem_range.mpr (by omega), List.mem_map.mpr ⟨p.2, ?_, rfl⟩⟩
  rw [List.mem_filter, List.mem_range, Bool.and_eq_true]
  exact ⟨h2, decide_eq_true h1, decide_eq_true h3⟩
end Pv
/-! Normal words: they lead to their order, forward where the order is. -/
namespace Pv
open PySem PySem.Spec L2 Wf
def runW (m c : Nat) : List Nat := (List.range c).map fun s => m - 1 - s
theorem runW_succ (m c : Nat) : runW (m + 1) (c + 1) = m :: runW m c := by
  unfold runW
  rw [List.range_succ_eq_map, List.map_cons, List.map_map]
  congr 1
  refine List.map_congr_left fun s _ => ?_
  show m + 1 - 1 - (s + 1) = m - 1 - s
  omega
theorem runW_len (m c : Nat) : (runW m c).length = c := by unfold runW; rw [List.length_map, List.length_range]
def lessN (os : List Nat) (m : Nat) : Nat := ((os.drop (os.idxOf m + 1)).filter fun i => decide (i < m)).length
def preN (os : List Nat) (m : Nat) : List Nat := (List.range m).flatMap fun j => runW j (lessN os j)
def normW (os : List Nat) : List Nat := preN os os.length
theorem preN_succ (os : List Nat) (m : Nat) : preN os (m + 1) = preN os m ++ runW m (lessN os m) := by
  unfold preN
  rw [List.range_succ, List.flatMap_append, List.flatMap_singleton]
theorem goW_app (xs a b : List Nat) : goW xs (a ++ b) = goW (goW xs a) b := by unfold goW; rw [List.foldl_append]
theorem getD_app (A rest : List Nat) (b : Nat) : (A ++ b :: rest).getD A.length 0 = b := by
  rw [List.getD, List.getElem?_append_right (Nat.le_refl _), Nat.sub_self]; rfl
theorem getD_app1 (A rest : List Nat) (b m : Nat) : (A ++ b :: m :: rest).getD (A.length + 1) 0 = m := by
  rw [List.getD, List.getElem?_append_right (by omega), show A.length + 1 - A.length = 1 by omega]; rfl
theorem swp_mid (A rest : List Nat) (b m : Nat) : swp (A ++ b :: m :: rest) A.length = A ++ m :: b :: rest := by
  unfold swp
  rw [getD_app, getD_app1, List.set_append_right _ _ (Nat.le_refl _), Nat.sub_self, List.set_append_right _ _ (by omega), show A.length + 1 - A.length = 1 by omega]
  rfl
theorem snoc_of {α : Type} {B : List α} {n : Nat} (h : B.length = n + 1) : ∃ B' b, B = B' ++ [b] ∧ B'.length = n := by
  rcases List.eq_nil_or_concat B with rfl | ⟨B', b, rfl⟩
  · simp at h
  · exact ⟨B', b, List.concat_eq_append .., by simpa using h⟩
theorem moveL : ∀ (n : Nat) (B A rest : List Nat) (m : Nat), B.length = n → goW (A ++ (B ++ m :: rest)) (runW (A.length + B.length) B.length) = A ++ m :: (B ++ rest)
  | 0, B, A, rest, m, h => by
    have := List.length_eq_zero_iff.mp h
    subst this
    rfl
  | n + 1, B, A, rest, m, h => by
    obtain ⟨B', b, rfl, hl⟩ := snoc_of h
    rw [List.length_append, List.length_singleton, ← Nat.add_assoc, runW_succ]
    show goW (swp (A ++ (B' ++ [b] ++ m :: rest)) (A.length + B'.length)) _ = _
    have e : A ++ (B' ++ [b] ++ m :: rest) = (A ++ B') ++ b :: m :: rest := by simp
    have e2 : A.length + B'.length = (A ++ B').length := by simp
    rw [e, e2, swp_mid, ← e2, List.append_assoc, moveL n B' A (b :: rest) m hl]
    simp
theorem wordOk_app {f : Bool} : ∀ {a b st : List Nat}, wordOk f st a → wordOk f (goW st a) b → wordOk f st (a ++ b)
  | [], b, st, _, h => h
  | k :: a, b, st, h1, h => ⟨h1.1, wordOk_app (a := a) h1.2 h⟩
theorem moveOk (kf : Nat → Nat) : ∀ (n : Nat) (B A rest : List Nat) (m : Nat), B.length = n → (∀ b ∈ B, kf m < kf b) → wordOk false ((A ++ (B ++ m :: rest)).map kf) (runW (A.length + B.length) B.length)
  | 0, B, A, rest, m, h, _ => by
    have := List.length_eq_zero_iff.mp h
    subst this
    exact trivial
  | n + 1, B, A, rest, m, h, hk => by
    obtain ⟨B', b, rfl, hl⟩ := snoc_of h
    rw [List.length_append, List.length_singleton, ← Nat.add_assoc, runW_succ]
    have e : (A ++ (B' ++ [b] ++ m :: rest)).map kf = ((A ++ B').map kf) ++ kf b :: kf m :: rest.map kf := by simp
    have e2 : A.length + B'.length = ((A ++ B').map kf).length := by simp
    have hb := hk b (by simp)
    refine ⟨⟨?_, .inl ?_⟩, ?_⟩
    · rw [e, e2, List.length_append]; simp
    · rw [e, e2, getD_app, getD_app1]; exact hb
    · have := moveOk kf n B' A (b :: rest) m hl fun x hx => hk x (by simp [hx])
      rw [e, e2, swp_mid, ← e2]
      have e3 : (A ++ B').map kf ++ kf m :: kf b :: rest.map kf = (A ++ (B' ++ m :: b :: rest)).map kf := by simp
      rw [e3]
      exact this
theorem swp_map (kf : Nat → Nat) {xs : List Nat} {k : Nat} (h : k + 1 < xs.length) : swp (xs.map kf) k = (swp xs k).map kf := by
  have g : ∀ j, j < xs.length → (xs.map kf).getD j 0 = kf (xs.getD j 0) := fun j hj => by
    rw [List.getD, List.getD, List.getElem?_map, List.getElem?_eq_getElem hj]; rfl
  unfold swp
  rw [g _ h, g k (by omega), List.map_set, List.map_set]
theorem goW_map (kf : Nat → Nat) : ∀ {ws xs : List Nat}, (∀ w ∈ ws, w + 1 < xs.length) → goW (xs.map kf) ws = (goW xs ws).map kf
  | [], xs, _ => rfl
  | w :: ws, xs, h => by
    show goW (swp (xs.map kf) w) ws = (goW (swp xs w) ws).map kf
    rw [swp_map kf (h w List.mem_cons_self)]
    exact goW_map kf fun v hv => by rw [swp_len]; exact h v (List.mem_cons_of_mem _ hv)
/-! ### an order, walker by walker -/
def resN (os : List Nat) (m : Nat) : List Nat := os.filter fun i => decide (i < m)
structure Spl (os : List Nat) (m : Nat) (X Y : List Nat) : Prop where
  eq : os = X ++ m :: Y
  nX : m ∉ X
  nY : m ∉ Y
  ix : os.idxOf m = X.length
  af : ∀ i, i ≠ m → i ∈ os → (i ∈ Y ↔ X.length < os.idxOf i)
theorem split_os {os : List Nat} (nd : os.Nodup) {m : Nat} (hm : m ∈ os) : ∃ X Y, Spl os m X Y := by
  obtain ⟨X, Y, e⟩ := List.append_of_mem hm
  have nd' := nd
  rw [e, List.nodup_append] at nd'
  obtain ⟨n1, n2, n3⟩ := nd'
  have nX : m ∉ X := fun h => n3 m h m List.mem_cons_self rfl
  have nY := (List.nodup_cons.mp n2).1
  refine ⟨X, Y, e, nX, nY, ?_, fun i hi ho => ?_⟩
  · rw [e, List.idxOf_append, if_neg nX]
    simp
  · rw [e, List.idxOf_append]
    by_cases hX : i ∈ X
    · rw [if_pos hX]
      have := List.idxOf_lt_length_iff.mpr hX
      constructor
      · intro hY
        exact absurd rfl (n3 i hX i (List.mem_cons_of_mem _ hY))
      · intro z; omega
    · rw [if_neg hX, List.idxOf_cons, beq_false_of_ne (Ne.symm hi)]
      have : i ∈ Y := by
        rw [e] at ho
        rcases List.mem_append.mp ho with h | h
        · exact absurd h hX
        · rcases List.mem_cons.mp h with h | h
          · exact absurd h hi
          · exact h
      simp only [this, cond_false, true_iff]
      omega
theorem Spl.less {os X Y : List Nat} {m : Nat} (s : Spl os m X Y) : lessN os m = (Y.filter fun i => decide (i < m)).length := by
  unfold lessN
  rw [s.ix]
  have : os.drop (X.length + 1) = Y := by
    have e : os = (X ++ [m]) ++ Y := by rw [s.eq]; simp
    rw [e]
    exact List.drop_left' (by simp)
  rw [this]
theorem Spl.res {os X Y : List Nat} {m : Nat} (s : Spl os m X Y) : resN os m = X.filter (fun i => decide (i < m)) ++ Y.filter fun i => decide (i < m) := by
  unfold resN
  rw [s.eq, List.filter_append, List.filter_cons, if_neg (by simp)]
theorem fil_succ {X : List Nat} {m : Nat} (h : m ∉ X) : X.filter (fun i => decide (i < m + 1)) = X.filter fun i => decide (i < m) := by
  refine List.filter_congr fun x hx => ?_
  have : x ≠ m := fun e => h (by rw [← e]; exact hx)
  rw [decide_eq_decide]
  omega
theorem Spl.res1 {os X Y : List Nat} {m : Nat} (s : Spl os m X Y) : resN os (m + 1) = X.filter (fun i => decide (i < m)) ++ m :: Y.filter fun i => decide (i < m) := by
  unfold resN
  rw [s.eq, List.filter_append, List.filter_cons, if_pos (by simp), fil_succ s.nX, fil_succ s.nY]
theorem res_len {os : List Nat} {n m : Nat} (hp : os.Perm (List.range n)) (hm : m ≤ n) : (resN os m).length = m := by
  unfold resN
  rw [(hp.filter _).length_eq]
  have : ∀ n, m ≤ n → ((List.range n).filter fun i => decide (i < m)).length = m := fun n => by
    induction n with
    | zero => intro h; have : m = 0 := by omega
              subst this; rfl
    | succ n ih =>
      intro h
      rw [List.range_succ, List.filter_append, List.length_append]
      by_cases e : m = n + 1
      · subst e
        have h1 : (List.range n).filter (fun i => decide (i < n + 1)) = List.range n := List.filter_eq_self.mpr fun x hx => by have := List.mem_range.mp hx; simp; omega
        rw [h1, List.length_range]
        simp
      · rw [ih (by omega)]
        have : ¬ n < m := by omega
        simp [this]
  exact this n hm
theorem run_lt {m c n : Nat} (hc : c ≤ m) (hm : m < n) : ∀ w ∈ runW m c, w + 1 < n := fun w hw => by
  unfold runW at hw
  obtain ⟨s, hs, rfl⟩ := List.mem_map.mp hw
  have := List.mem_range.mp hs
  omega
section
variable {os : List Nat} {n : Nat}
theorem rng_cons {m : Nat} (hm : m < n) : List.range' m (n - m) = m :: List.range' (m + 1) (n - (m + 1)) := by
  have : n - m = (n - (m + 1)) + 1 := by omega
  rw [this, List.range'_succ]
theorem less_le (hp : os.Perm (List.range n)) {m : Nat} (hm : m < n) : lessN os m ≤ m := by
  have nd : os.Nodup := hp.nodup_iff.mpr List.nodup_range
  obtain ⟨X, Y, s⟩ := split_os nd ((mem_of_perm hp).mpr hm)
  have h1 := res_len hp (Nat.le_of_lt hm)
  rw [s.res, List.length_append] at h1
  rw [s.less]
  omega
theorem pre_go (hp : os.Perm (List.range n)) : ∀ m, m ≤ n → goW (List.range n) (preN os m) = resN os m ++ List.range' m (n - m)
  | 0, _ => by
    have : resN os 0 = [] := List.filter_eq_nil_iff.mpr fun x _ => by simp
    rw [this, Nat.sub_zero, ← List.range_eq_range']
    rfl
  | m + 1, hm => by
    have nd : os.Nodup := hp.nodup_iff.mpr List.nodup_range
    obtain ⟨X, Y, s⟩ := split_os nd ((mem_of_perm hp).mpr (show m < n by omega))
    have h1 := res_len hp (show m ≤ n by omega)
    rw [s.res, List.length_append] at h1
    rw [preN_succ, goW_app, pre_go hp m (by omega), rng_cons (show m < n by omega), s.res, s.less, List.append_assoc]
    have := moveL _ (Y.filter fun i => decide (i < m)) (X.filter fun i => decide (i < m)) (List.range' (m + 1) (n - (m + 1))) m rfl
    rw [h1] at this
    rw [this, s.res1, List.append_assoc, List.cons_append]
theorem norm_go (hp : os.Perm (List.range n)) : goW (List.range n) (normW os) = os := by
  have hl : os.length = n := perm_len hp
  have := pre_go hp n (Nat.le_refl _)
  unfold normW
  rw [hl, this, Nat.sub_self]
  have : resN os n = os := List.filter_eq_self.mpr fun x hx => by have := (mem_of_perm hp).mp hx; simpa using this
  rw [this]
  simp
/-- forward by the kinds -/
def FwdO (kf : Nat → Nat) (os : List Nat) : Prop := ∀ i j, i < j → j < os.length → os.idxOf j < os.idxOf i → kf j < kf i
theorem pre_lt (hp : os.Perm (List.range n)) : ∀ m, m ≤ n → ∀ w ∈ preN os m, w + 1 < n := fun m hm w hw => by
  unfold preN at hw
  obtain ⟨j, hj, hw⟩ := List.mem_flatMap.mp hw
  have := List.mem_range.mp hj
  exact run_lt (less_le hp (by omega)) (by omega) w hw
theorem pre_ok {kf : Nat → Nat} (hp : os.Perm (List.range n)) (fw : FwdO kf os) : ∀ m, m ≤ n → wordOk false ((List.range n).map kf) (preN os m)
  | 0, _ => trivial
  | m + 1, hm => by
    have nd : os.Nodup := hp.nodup_iff.mpr List.nodup_range
    have hl : os.length = n := perm_len hp
    have hmo : m ∈ os := (mem_of_perm hp).mpr (show m < n by omega)
    obtain ⟨X, Y, s⟩ := split_os nd hmo
    have h1 := res_len hp (show m ≤ n by omega)
    rw [s.res, List.length_append] at h1
    rw [preN_succ]
    refine wordOk_app (pre_ok hp fw m (by omega)) ?_
    rw [goW_map kf (by rw [List.length_range]; exact pre_lt hp m (by omega)), pre_go hp m (by omega), rng_cons (show m < n by omega), s.res, s.less, List.append_assoc]
    have := moveOk kf _ (Y.filter fun i => decide (i < m)) (X.filter fun i => decide (i < m)) (List.range' (m + 1) (n - (m + 1))) m rfl fun b hb => by
      have hb := List.mem_filter.mp hb
      have hbm : b < m := of_decide_eq_true hb.2
      have hbo : b ∈ os := by rw [s.eq]; exact List.mem_append_right _ (List.mem_cons_of_mem _ hb.1)
      have := (s.af b (by omega) hbo).mp hb.1
      exact fw b m hbm (by omega) (by rw [s.ix]; exact this)
    rw [h1] at this
    exact this
theorem norm_ok {kf : Nat → Nat} (hp : os.Perm (List.range n)) (fw : FwdO kf os) : wordOk false ((List.range n).map kf) (normW os) := by
  have hl : os.length = n := perm_len hp
  unfold normW
  rw [hl]
  exact pre_ok hp fw n (Nat.le_refl _)
end
/-! ### kinds -/
theorem kf_range (ks : List Nat) : (List.range ks.length).map (fun i => ks.getD i 0) = ks := by
  refine List.ext_getElem (by simp) fun i h1 h2 => ?_
  rw [List.getElem_map, List.getElem_range, List.getD, List.getElem?_eq_getElem h2]
  rfl
theorem fwdO_of {ks os : List Nat} (h : fwdB ks os = true) : FwdO (fun i => ks.getD i 0) os := fun i j h1 h2 h3 => by
  unfold fwdB at h
  rw [List.all_eq_true] at h
  exact of_decide_eq_true (h (i, j) (passP_iff.mpr ⟨h1, h2, h3⟩))
theorem norm_word {ks os : List Nat} (hp : os.Perm (List.range ks.length)) (fw : fwdB ks os = true) : wordOk false ks (normW os) := by
  have := norm_ok hp (fwdO_of fw)
  rwa [kf_range] at this
end Pv
namespace Pv
open PySem PySem.Spec L2 Wf
end Pv
namespace Pv
open PySem PySem.Spec L2 LamX NdefX Wf
/-! ### orders led -/
abbrev neB (x y : Int) : Bool := !decide (x = y)
/-- the letter k of an order, if it may be -/
def letS (g : Int → Int → Bool) (ks o : List Nat) (k : Int) : Option Nat :=
  if 0 ≤ k ∧ k.toNat + 1 < o.length ∧ g (ks.getD (o.getD k.toNat 0) 0 : Nat) (ks.getD (o.getD (k.toNat + 1) 0) 0 : Nat) = true then some k.toNat else none
def ordG (g : Int → Int → Bool) (ks : List Nat) : Nat → List Nat → List Int → Nat ⊕ List Nat
  | _, o, [] => .inr o
  | n, o, k :: ws => match letS g ks o k with
    | some j => ordG g ks (n + 1) (swp o j) ws
    | none => .inl n
structure OkO (n : Nat) (o : List Nat) : Prop where
  len : o.length = n
  lt : ∀ x ∈ o, x < n
theorem OkO.rng (n : Nat) : OkO n (List.range n) := ⟨List.length_range, fun x hx => List.mem_range.mp hx⟩
theorem OkO.swp {n j : Nat} {o : List Nat} (h : OkO n o) (hj : j + 1 < o.length) : OkO n (swp o j) := ⟨by rw [swp_len]; exact h.len, fun x hx => h.lt x ((swp_perm hj).mem_iff.mp hx)⟩
theorem OkO.get {n j : Nat} {o : List Nat} (h : OkO n o) (hj : j < o.length) : o.getD j 0 < n := by
  rw [List.getD_eq_getElem?_getD, List.getElem?_eq_getElem hj]
  exact h.lt _ (List.getElem_mem hj)
def ordQ (C : Addr) (Q : QE) (Ep : EX) (ss : List Sl) : Nat ⊕ List Nat → Prop
  | .inr o => Q (.im (.tuple (dN o))) ss
  | .inl n => Ep C [("at", nD n)]
def psp_order_led (cNoPassing : Addr) (LL : LF → (Int → Int → Bool) → Prop) : PSp := fun as Q Ep => ∃ (ks : List Nat) (ws : List Int) (F : LF) (g : Int → Int → Bool), as = [.im (.tuple (dN ks)), .im (dK ws), .ow true (.lam F)] ∧ LL F g ∧ ks.length ≤ 1000 ∧ ordQ cNoPassing Q Ep [.un, .un, .ow true (.lam F)] (ordG g ks 0 (List.range ks.length) ws)
def pb_order_led_1 (cNoPassing : Addr) (LL : LF → (Int → Int → Bool) → Prop) (Ep : EX) : PSx :=
    pSeq (pIf (pOr (pNot (pT (pCall psp_is_letter (pCons (pFz (pVar 5)) (pCons (pFz (pC (q1 fLen) (pCons (pVar 3) (pNil)))) (pNil))) noX))) (pNot (pT (pCallL 2 LL (pCons (pIx (pVar 0) (pIx (pVar 3) (pVar 5))) (pCons (pIx (pVar 0) (pIx (pVar 3) (pAdd (pVar 5) (pK (.int 1))))) (pNil))))))) (pRaise cNoPassing ["at"] (pCons (pFz (pVar 4)) (pNil)) Ep) (pNext))
    (pAsg (pTup (pCons (pIx (pVar 3) (pAdd (pVar 5) (pK (.int 1)))) (pCons (pIx (pVar 3) (pVar 5)) (pNil)))) (gT 2 (gsC (gSx (pVar 3) (pVar 5)) (gsC (gSx (pVar 3) (pAdd (pVar 5) (pK (.int 1)))) (gsN)))))
def pr_order_led_1 : PSx :=
    pRet (pC (q1 fTupleOf) (pCons (pVar 3) (pNil)))
def pr_order_led_2 (cNoPassing : Addr) (LL : LF → (Int → Int → Bool) → Prop) (Ep : EX) : PSx :=
    pSeq (pFor [4, 5] (iEn (pCons (pVar 1) (pNil))) (gT 2 (gsC (gN 4) (gsC (gN 5) (gsN)))) (pb_order_led_1 cNoPassing LL Ep))
    (pr_order_led_1)
def p_order_led (cNoPassing : Addr) (LL : LF → (Int → Int → Bool) → Prop) (Ep : EX) : PSx :=
    pSeq (pSet 3 (pLstRg (pRg1 (pC (q1 fLen) (pCons (pVar 0) (pNil))))))
    (pr_order_led_2 cNoPassing LL Ep)
theorem hp_order_led (LL : LF → (Int → Int → Bool) → Prop) (cNoPassing : Addr) (as : List Sl) (Qp : QE) (Ep : EX) (h : psp_order_led cNoPassing LL as Qp Ep) : p_order_led cNoPassing LL Ep (endsP as Qp) (as ++ List.replicate 3 .un) := by
  obtain ⟨ks, ws, F, g, rfl, hL, hn, q⟩ := h
  have z24 : (10000 : Nat) < sizeLine := by decide
  have el : (((dN ks).length : Nat) : Int) = (ks.length : Int) := by rw [dN_len]
  refine ⟨_, rfl, ⟨by omega, by omega, by omega⟩, _, _, rfl, ?_⟩
  rw [el, rgD_dN]
  show pr_order_led_2 _ _ _ _ [.im (.tuple (dN ks)), .im (dK ws), .ow true (.lam F), .ow false (.lst (dN (List.range ks.length))), .un, .un]
  refine ⟨_, _, _, rfl, rfl, ?_⟩
  refine ⟨fun i δ => ∃ o, OkO ks.length o ∧ ordG g ks 0 (List.range ks.length) ws = ordG g ks i o (ws.drop i) ∧ δ = [.im (.tuple (dN ks)), .im (dK ws), .ow true (.lam F), .ow false (.lst (dN o)), .un, .un], ⟨_, .rng _, rfl, rfl⟩, ?_, ?_⟩
  · rintro i d δ hd ⟨o, ok, he, rfl⟩
    rw [enD_get, List.getElem?_map] at hd
    obtain ⟨d0, h0, rfl⟩ := Option.map_eq_some_iff.mp hd
    obtain ⟨k, hk, rfl⟩ := Option.map_eq_some_iff.mp h0
    have hi := (List.getElem?_eq_some_iff.mp hk).1
    have ed : ws.drop i = k :: ws.drop (i + 1) := by
      rw [List.drop_eq_getElem_cons hi, (List.getElem?_eq_some_iff.mp hk).2]
    rw [ed] at he
    refine ⟨rfl, rfl, ?_⟩
    have e0 : (.int ((0 + i : Nat) : Int) : PyData) = nD i := by rw [Nat.zero_add]
    show pb_order_led_1 _ _ _ _ [.im (.tuple (dN ks)), .im (dK ws), .ow true (.lam F), .ow false (.lst (dN o)), .im (.int ((0 + i : Nat) : Int)), .im (.int k)]
    rw [e0]
    have bad : letS g ks o k = none → pRaise cNoPassing ["at"] (pCons (pFz (pVar 4)) (pNil)) Ep (endsP [] Qp) [.im (.tuple (dN ks)), .im (dK ws), .ow true (.lam F), .ow false (.lst (dN o)), .im (nD i), .im (.int k)] := fun c => by
      rw [he] at q
      simp only [ordG, c] at q
      exact ⟨_, _, rfl, _, _, rfl, rfl, q⟩
    have eo : (((dN o).length : Nat) : Int) = (o.length : Int) := by rw [dN_len]
    refine ⟨_, _, rfl, _, _, rfl, _, rfl, List.nodup_nil, _, _, rfl, _, rfl, ?_⟩
    show if (!(decide (0 ≤ k) && decide (k ≤ (((dN o).length : Nat) : Int) - 2))) = true then _ else _
    rw [eo]
    by_cases c : 0 ≤ k ∧ k ≤ (o.length : Int) - 2
    · rw [if_neg (by simp [c.1, c.2])]
      obtain ⟨j, rfl⟩ := Int.eq_ofNat_of_zero_le c.1
      have ej : ((j : Int)).toNat = j := by simp
      have hj : j + 1 < o.length := by omega
      have e1 : ((j : Int) + 1) = ((j + 1 : Nat) : Int) := rfl
      have g1 : o.getD j 0 < ks.length := ok.get (by omega)
      have g2 : o.getD (j + 1) 0 < ks.length := ok.get hj
      refine ⟨true, F, g, rfl, hL, _, atI_of rfl (dN_get (getD_of (i := j) (by omega))), _, atI_of rfl (dN_get (getD_of g1)), _, atI_of e1 (dN_get (getD_of hj)), _, atI_of rfl (dN_get (getD_of g2)), true, _, _, rfl, rfl, _, rfl, ?_⟩
      show if (!g ((ks.getD (o.getD j 0) 0 : Nat) : Int) ((ks.getD (o.getD (j + 1) 0) 0 : Nat) : Int)) = true then _ else _
      cases cg : g ((ks.getD (o.getD j 0) 0 : Nat) : Int) ((ks.getD (o.getD (j + 1) 0) 0 : Nat) : Int) with
      | false => exact bad (by unfold letS; rw [ej, if_neg (by rw [cg]; simp)])
      | true =>
        have hl : letS g ks o (j : Int) = some j := by unfold letS; rw [ej, if_pos ⟨c.1, hj, cg⟩]
        refine ⟨_, atI_of e1 (dN_get (getD_of hj)), _, atI_of rfl (dN_get (getD_of (i := j) (by omega))), _, _, rfl, rfl, 3, (j : Int), false, _, j, rfl, rfl, rfl, by rw [dN_len]; exact ixN_nat (by omega), 3, ((j + 1 : Nat) : Int), false, _, j + 1, rfl, rfl, rfl, by rw [List.length_set, dN_len]; exact ixN_nat hj, rfl, swp o j, ok.swp hj, ?_, ?_⟩
        · rw [he]
          simp only [ordG, hl]
        · show [_, _, _, _, _, _] = _
          rw [dN_set, dN_set]
          rfl
    · rw [if_pos (by simp; omega)]
      exact bad (by unfold letS; rw [if_neg (by omega)])
  · rintro δ ⟨o, ok, he, rfl⟩
    rw [enD_len, List.length_map, List.drop_length] at he
    rw [he] at q
    exact ⟨_, _, rfl, q⟩
def psp_free_order (cNoPassing : Addr) : PSp := fun as Q Ep => ∃ (ks : List Nat) (ws : List Int), as = [.im (.tuple (dN ks)), .im (dK ws)] ∧ ks.length ≤ 1000 ∧ ordQ cNoPassing Q Ep [.un, .un] (ordG neB ks 0 (List.range ks.length) ws)
def p_lamled (LL : LF → (Int → Int → Bool) → Prop) (q : Str) (prm : Arguments) (bd : Expr) (sc : Scope) (cNoPassing : Addr) (Ep : EX) : PSx :=
    pRet (pCall (psp_order_led cNoPassing LL) (pCons (pFz (pVar 0)) (pCons (pFz (pVar 1)) (pCons (pLam q prm bd sc) (pNil)))) Ep)
theorem hp_lamled {LL : LF → (Int → Int → Bool) → Prop} {q : Str} {prm : Arguments} {bd : Expr} {sc : Scope} {g : Int → Int → Bool} {cNoPassing : Addr} {ks : List Nat} {ws : List Int} {Qp : QE} {Ep : EX} (hL : ∀ c, LL ⟨q, prm, bd, sc, c⟩ g) (hn : ks.length ≤ 1000) (h : ordQ cNoPassing Qp Ep [.un, .un] (ordG g ks 0 (List.range ks.length) ws)) :
    p_lamled LL q prm bd sc cNoPassing Ep (endsP [.im (.tuple (dN ks)), .im (dK ws)] Qp) [.im (.tuple (dN ks)), .im (dK ws)] := by
  refine ⟨_, _, rfl, _, _, rfl, fun c => ⟨_, rfl, List.nodup_nil, ks, ws, _, g, rfl, hL c, hn, ?_⟩⟩
  revert h
  cases ordG g ks 0 (List.range ks.length) ws with
  | inr o => exact fun h => ⟨_, _, rfl, h⟩
  | inl n => exact fun h => h
theorem hp_free_order {LL : LF → (Int → Int → Bool) → Prop} {q : Str} {prm : Arguments} {bd : Expr} {sc : Scope} (hL : ∀ c, LL ⟨q, prm, bd, sc, c⟩ neB) (cNoPassing : Addr) (as : List Sl) (Qp : QE) (Ep : EX) (h : psp_free_order cNoPassing as Qp Ep) : p_lamled LL q prm bd sc cNoPassing Ep (endsP as Qp) (as ++ List.replicate 0 .un) := by
  obtain ⟨ks, ws, rfl, hn, h⟩ := h
  exact hp_lamled hL hn h
end Pv
/-! Words of runs. -/
namespace Pv
open PySem PySem.Spec L2 Wf
def runsW (c : Nat → Nat) (n : Nat) : List Nat := (List.range n).flatMap fun m => runW m (c m)
theorem runsW_succ (c : Nat → Nat) (n : Nat) : runsW c (n + 1) = runsW c n ++ runW n (c n) := by
  unfold runsW
  rw [List.range_succ, List.flatMap_append, List.flatMap_singleton]
def ordC (c : Nat → Nat) : Nat → List Nat
  | 0 => []
  | m + 1 => (ordC c m).take (m - c m) ++ m :: (ordC c m).drop (m - c m)
theorem ordC_len (c : Nat → Nat) : ∀ m, (ordC c m).length = m
  | 0 => rfl
  | m + 1 => by
    have := ordC_len c m
    show ((ordC c m).take (m - c m) ++ m :: (ordC c m).drop (m - c m)).length = m + 1
    rw [List.length_append, List.length_cons, List.length_take, List.length_drop]
    omega
theorem ordC_perm (c : Nat → Nat) : ∀ m, (ordC c m).Perm (List.range m)
  | 0 => .refl _
  | m + 1 => by
    show ((ordC c m).take (m - c m) ++ m :: (ordC c m).drop (m - c m)).Perm _
    refine List.perm_middle.trans ?_
    rw [List.take_append_drop, List.range_succ]
    exact ((ordC_perm c m).cons m).trans (List.perm_append_singleton m _).symm
theorem runs_go {c : Nat → Nat} {n : Nat} (hc : ∀ m, m < n → c m ≤ m) : ∀ m, m ≤ n → goW (List.range n) (runsW c m) = ordC c m ++ List.range' m (n - m)
  | 0, _ => by
    rw [Nat.sub_zero, ← List.range_eq_range']
    rfl
  | m + 1, hm => by
    have hl := ordC_len c m
    have hcm := hc m (by omega)
    rw [runsW_succ, goW_app, runs_go hc m (by omega), rng_cons (show m < n by omega)]
    have := moveL _ ((ordC c m).drop (m - c m)) ((ordC c m).take (m - c m)) (List.range' (m + 1) (n - (m + 1))) m rfl
    rw [List.length_take, List.length_drop, hl, Nat.min_eq_left (by omega), show m - c m + (m - (m - c m)) = m by omega, show m - (m - c m) = c m by omega, ← List.append_assoc, List.take_append_drop] at this
    rw [this]
    show _ = ((ordC c m).take (m - c m) ++ m :: (ordC c m).drop (m - c m)) ++ _
    simp
theorem ordC_res (c : Nat → Nat) {m : Nat} : ∀ n, m ≤ n → resN (ordC c n) m = ordC c m
  | 0, h => by
    have : m = 0 := by omega
    subst this
    rfl
  | n + 1, h => by
    by_cases e : m = n + 1
    · subst e
      exact List.filter_eq_self.mpr fun x hx => by have := (mem_of_perm (ordC_perm c (n + 1))).mp hx; simpa using this
    · have ih := ordC_res c (m := m) n (by omega)
      show ((ordC c n).take (n - c n) ++ n :: (ordC c n).drop (n - c n)).filter _ = _
      rw [List.filter_append, List.filter_cons, if_neg (by simp; omega), ← List.filter_append, List.take_append_drop]
      exact ih
theorem less_ordC {c : Nat → Nat} {n m : Nat} (hc : ∀ m, m < n → c m ≤ m) (hm : m < n) : lessN (ordC c n) m = c m := by
  have hp := ordC_perm c n
  have nd : (ordC c n).Nodup := hp.nodup_iff.mpr List.nodup_range
  obtain ⟨X, Y, s⟩ := split_os nd ((mem_of_perm hp).mpr hm)
  have e1 := s.res1
  rw [ordC_res c n (by omega)] at e1
  have e2 : ordC c (m + 1) = (ordC c m).take (m - c m) ++ m :: (ordC c m).drop (m - c m) := rfl
  have nm : m ∉ ordC c m := fun z => by have := (mem_of_perm (ordC_perm c m)).mp z; omega
  have i1 : (ordC c (m + 1)).idxOf m = (X.filter fun i => decide (i < m)).length := by
    rw [e1, List.idxOf_append, if_neg (fun z => s.nX (List.mem_filter.mp z).1)]
    simp
  have i2 : (ordC c (m + 1)).idxOf m = m - c m := by
    rw [e2, List.idxOf_append, if_neg (fun z => nm (List.mem_of_mem_take z))]
    simp [ordC_len]
  have hl := congrArg List.length e1
  rw [ordC_len, List.length_append, List.length_cons] at hl
  have := hc m hm
  rw [s.less]
  omega
theorem norm_runs {c : Nat → Nat} {n : Nat} (hc : ∀ m, m < n → c m ≤ m) : normW (ordC c n) = runsW c n := by
  unfold normW preN runsW
  rw [ordC_len]
  have : ∀ l : List Nat, (∀ m ∈ l, m < n) → (l.flatMap fun j => runW j (lessN (ordC c n) j)) = l.flatMap fun m => runW m (c m) := fun l => by
    induction l with
    | nil => intro _; rfl
    | cons x l ih =>
      intro h
      rw [List.flatMap_cons, List.flatMap_cons, ih fun m hm => h m (List.mem_cons_of_mem _ hm), less_ordC hc (h x List.mem_cons_self)]
  exact this _ fun m hm => List.mem_range.mp hm
theorem go_runs {c : Nat → Nat} {n : Nat} (hc : ∀ m, m < n → c m ≤ m) : goW (List.range n) (runsW c n) = ordC c n := by
  rw [runs_go hc n (Nat.le_refl _), Nat.sub_self]
  simp
/-! ### as many letters as pairs -/
/-! ### falling kinds -/
def fallK (n : Nat) : List Nat := (List.range n).map fun k => n - 1 - k
theorem fallK_len (n : Nat) : (fallK n).length = n := by unfold fallK; rw [List.length_map, List.length_range]
theorem fallK_get {n k : Nat} (h : k < n) : (fallK n).getD k 0 = n - 1 - k := by
  unfold fallK
  rw [List.getD, List.getElem?_map, List.getElem?_range h]
  rfl
theorem fall_fwd {os : List Nat} {n : Nat} (hp : os.Perm (List.range n)) : fwdB (fallK n) os = true := by
  unfold fwdB
  rw [List.all_eq_true]
  intro p hq
  obtain ⟨h1, h2, _⟩ := mem_passP hq
  have hl : os.length = n := perm_len hp
  rw [decide_eq_true_iff, fallK_get (by omega), fallK_get (by omega)]
  omega
end Pv
/-! law k02: what is due, by the law's own going through. -/
namespace Wf
open PySem PySem.Spec L2
section
variable {K : PySem.W.Frag} {C : Addr}
def GiveWN (K : PySem.W.Frag) (H : Hp) (Q : VK) (w : Str) (n : Int) : Prop := ∀ (q : Addr) (H' : Hp), Same H H' → H' q = some (.tup [.str w, .int n]) → Q (.ref q) H'
theorem GiveWN.go {H H1 : Hp} {Q : VK} {w : Str} {n : Int} (g : GiveWN K H Q w n) (s : Same H H1) : ∀ q, H1 q = none → Q (.ref q) (upd H1 q (.tup [.str w, .int n])) := fun q hq => g q _ (s.trans (same_new hq)) upd_same
end
end Wf
/-! law k02: due, told. -/
namespace Wf
open PySem PySem.Spec L2
end Wf
/-! law k02: things made otherwise. -/
namespace Wf
open PySem PySem.Spec L2
mutual
/-- data of None, truths, numbers, texts and tuples of at most n things -/
def fit (n : Nat) : PyData → Bool
  | .none | .bool _ | .int _ => true
  | .str x => PyData.canLay0 (.str x)
  | .tuple ds => decide (ds.length ≤ n) && fitAll n ds
  | .list _ | .dict _ => false
def fitAll (n : Nat) : List PyData → Bool
  | [] => true
  | d :: ds => fit n d && fitAll n ds
end
mutual
theorem fit_le {n m : Nat} (hm : n ≤ m) : ∀ d : PyData, fit n d = true → fit m d = true
  | .none, _ => rfl
  | .bool _, _ => rfl
  | .int _, _ => rfl
  | .str _, h => h
  | .tuple ds, h => by
    have h' := Bool.and_eq_true_iff.mp (show (decide (ds.length ≤ n) && fitAll n ds) = true from h)
    show (decide (ds.length ≤ m) && fitAll m ds) = true
    rw [decide_eq_true (Nat.le_trans (of_decide_eq_true h'.1) hm), fitAll_le hm ds h'.2]
    rfl
  | .list _, h => nomatch h
  | .dict _, h => nomatch h
theorem fitAll_le {n m : Nat} (hm : n ≤ m) : ∀ ds : List PyData, fitAll n ds = true → fitAll m ds = true
  | [], _ => rfl
  | d :: ds, h => by
    have h' := Bool.and_eq_true_iff.mp (show (fit n d && fitAll n ds) = true from h)
    show (fit m d && fitAll m ds) = true
    rw [fit_le hm d h'.1, fitAll_le hm ds h'.2]
    rfl
end
theorem fitAll_all {n : Nat} : ∀ {ds : List PyData}, fitAll n ds = true ↔ ∀ d ∈ ds, fit n d = true
  | [] => ⟨fun _ d h => (List.not_mem_nil h).elim, fun _ => rfl⟩
  | d :: ds => by
    show (fit n d && fitAll n ds) = true ↔ _
    rw [Bool.and_eq_true, fitAll_all (ds := ds)]
    simp
theorem fit_tup {n : Nat} {ds : List PyData} (h : fit n (.tuple ds) = true) : ds.length ≤ n ∧ ∀ d ∈ ds, fit n d = true := by
  have h' := Bool.and_eq_true_iff.mp (show (decide (ds.length ≤ n) && fitAll n ds) = true from h)
  exact ⟨of_decide_eq_true h'.1, fitAll_all.mp h'.2⟩
end Wf
namespace Wf
open PySem PySem.Spec L2 Pv
end Wf
namespace Pv
open PySem PySem.Spec L2 Wf
/-! ### things of any form -/
/-! ### is_tuple_of -/
def p_is_tuple_of : PSx :=
    pRet (pAndV (pIsi "tuple" (pVar 0)) (pEq false (pC (q1 fLen) (pCons (pVar 0) (pNil))) (pVar 1)))
def psp_is_tuple_of : PSp := fun as Q _ => ∃ (d : PyData) (n : Int), as = [.im d, .im (.int n)] ∧ Q (.im (.bool (isTu n d))) [.un, .un]
theorem hp_is_tuple_of (as : List Sl) (Qp : QE) (Ep : EX) (h : psp_is_tuple_of as Qp Ep) : p_is_tuple_of (endsP as Qp) (as ++ List.replicate 0 .un) := by
  obtain ⟨d, n, rfl, q⟩ := h
  cases d with
  | tuple ds => exact ⟨_, rfl, _, rfl, _, _, rfl, q⟩
  | int i => exact ⟨_, rfl, _, rfl, _, _, rfl, q⟩
  | none => exact ⟨_, rfl, _, rfl, _, _, rfl, q⟩
  | bool b => exact ⟨_, rfl, _, rfl, _, _, rfl, q⟩
  | str b => exact ⟨_, rfl, _, rfl, _, _, rfl, q⟩
  | list b => exact ⟨_, rfl, _, rfl, _, _, rfl, q⟩
  | dict b => exact ⟨_, rfl, _, rfl, _, _, rfl, q⟩
end Pv
namespace Pv
open PySem PySem.Spec L2 Wf
/-! ### words and moves -/
def ltr (w : List Int) (i : Nat) : Int := w.getD i 0
def ab (x : Int) : Int := if x < 0 then -x else x
def optD : Option (List Int) → PyData
  | none => .none
  | some w => dK w
theorem ltr_get {w : List Int} {i : Nat} (h : i < w.length) : w[i]? = some (ltr w i) := by
  unfold ltr
  simp [List.getD, List.getElem?_eq_getElem h]
theorem atK {w : List Int} {i : Nat} {j : Int} (hj : j = (i : Int)) (h : i < w.length) : atI (w.map PyData.int) j = some (.int (ltr w i)) := by
  subst hj
  exact atI_nat (by rw [List.getElem?_map, ltr_get h]; rfl)
theorem cutK1 (w : List Int) (i : Nat) : cutD (w.map PyData.int) none (some (i : Int)) = (w.take i).map PyData.int := by rw [cut_map, cut_take]
theorem cutK2 {w : List Int} {i : Nat} {j : Int} (hj : j = (i : Int)) : cutD (w.map PyData.int) (some j) none = (w.drop i).map PyData.int := by rw [hj, cut_map, cut_drop]
def farW (w : List Int) (i : Nat) : Option (List Int) := if ab (ltr w i - ltr w (i + 1)) ≤ 1 then none else some (w.take i ++ [ltr w (i + 1), ltr w i] ++ w.drop (i + 2))
def turnW (w : List Int) (i : Nat) : Option (List Int) := if w.length ≤ i + 2 then none else if ltr w i ≠ ltr w (i + 2) ∨ ab (ltr w i - ltr w (i + 1)) ≠ 1 then none else some (w.take i ++ [ltr w (i + 1), ltr w i, ltr w (i + 1)] ++ w.drop (i + 3))
def goneW (w : List Int) (i : Nat) : Option (List Int) := if ltr w i ≠ ltr w (i + 1) then none else some (w.take i ++ w.drop (i + 2))
def ixOf : PyData → Nat
  | .int i => i.toNat
  | _ => 0
def inOf : PyData → Int
  | .int i => i
  | _ => 0
def comeW (w : List Int) (x y : PyData) : Option (List Int) := if isWh 0 (w.length : Int) x = true then if isWh 0 8 y = true then some (w.take (ixOf x) ++ [inOf y, inOf y] ++ w.drop (ixOf x)) else none else none
theorem z24 : (10000 : Nat) < sizeLine := by decide
theorem take_le {α : Type} (w : List α) (i : Nat) : (w.take i).length ≤ w.length := by rw [List.length_take]; omega
theorem drop_le {α : Type} (w : List α) (i : Nat) : (w.drop i).length ≤ w.length := by rw [List.length_drop]; omega
def psp_w_far : PSp := fun as Q _ => ∃ (w : List Int) (i : Nat), as = [.im (dK w), .im (nD i)] ∧ w.length ≤ 1000 ∧ i + 1 < w.length ∧ Q (.im (optD (farW w i))) [.un, .un]
def p_w_far : PSx :=
    pSeq (pIf (pT (pLe (pC (q1 fAbs) (pCons (pSub (pIx (pVar 0) (pVar 1)) (pIx (pVar 0) (pAdd (pVar 1) (pK (.int 1))))) (pNil))) (pK (.int 1)))) (pRet (pK .none)) (pNext))
    (pRet (pAdd (pAdd (pSlice (pVar 0) (oNone) (oSome (pVar 1))) (pTup (pCons (pIx (pVar 0) (pAdd (pVar 1) (pK (.int 1)))) (pCons (pIx (pVar 0) (pVar 1)) (pNil))))) (pSlice (pVar 0) (oSome (pAdd (pVar 1) (pK (.int 2)))) (oNone))))
theorem hp_w_far (as : List Sl) (Qp : QE) (Ep : EX) (h : psp_w_far as Qp Ep) : p_w_far (endsP as Qp) (as ++ List.replicate 0 .un) := by
  obtain ⟨w, i, rfl, hl, hi, q⟩ := h
  have z := z24
  have t1 := take_le w i
  have t2 := drop_le w (i + 2)
  refine ⟨_, atK rfl (show i < w.length by omega), _, atK (i := i + 1) (by omega) hi, trivial, trivial, _, rfl, ?_⟩
  show if decide (ab (ltr w i - ltr w (i + 1)) ≤ 1) = true then _ else _
  by_cases c : ab (ltr w i - ltr w (i + 1)) ≤ 1
  · rw [if_pos (decide_eq_true c)]
    simp only [farW, if_pos c] at q
    exact ⟨_, _, rfl, q⟩
  · rw [if_neg (by simp [c])]
    simp only [farW, if_neg c] at q
    refine ⟨_, rfl, _, atK (i := i + 1) (by omega) hi, _, atK rfl (show i < w.length by omega), ?_, _, rfl, ?_, _, _, rfl, ?_⟩
    · rw [cutK1, List.length_map]
      show _ + 2 ≤ _
      omega
    · rw [List.length_append, cutK1, cutK2 (i := i + 2) (by omega), List.length_map, List.length_map]
      show _ + 2 + _ ≤ _
      omega
    · rw [cutK1, cutK2 (i := i + 2) (by omega), show [PyData.int (ltr w (i + 1)), .int (ltr w i)] = [ltr w (i + 1), ltr w i].map PyData.int from rfl, ← List.map_append, ← List.map_append]
      exact q
def psp_w_turn : PSp := fun as Q _ => ∃ (w : List Int) (i : Nat), as = [.im (dK w), .im (nD i)] ∧ w.length ≤ 1000 ∧ Q (.im (optD (turnW w i))) [.un, .un]
def pr_w_turn_1 : PSx :=
    pRet (pAdd (pAdd (pSlice (pVar 0) (oNone) (oSome (pVar 1))) (pTup (pCons (pVar 3) (pCons (pVar 2) (pCons (pVar 3) (pNil)))))) (pSlice (pVar 0) (oSome (pAdd (pVar 1) (pK (.int 3)))) (oNone)))
def pr_w_turn_2 : PSx :=
    pSeq (pIf (pOr (pT (pEq true (pVar 2) (pVar 4))) (pT (pEq true (pC (q1 fAbs) (pCons (pSub (pVar 2) (pVar 3)) (pNil))) (pK (.int 1))))) (pRet (pK .none)) (pNext))
    (pr_w_turn_1)
def pr_w_turn_3 : PSx :=
    pSeq (pAsg (pSlice (pVar 0) (oSome (pVar 1)) (oSome (pAdd (pVar 1) (pK (.int 3))))) (gT 3 (gsC (gN 2) (gsC (gN 3) (gsC (gN 4) (gsN))))))
    (pr_w_turn_2)
def p_w_turn : PSx :=
    pSeq (pIf (pT (pGe (pAdd (pVar 1) (pK (.int 2))) (pC (q1 fLen) (pCons (pVar 0) (pNil))))) (pRet (pK .none)) (pNext))
    (pr_w_turn_3)
theorem drop3 {w : List Int} {i : Nat} (h : i + 2 < w.length) : (w.drop i).take 3 = [ltr w i, ltr w (i + 1), ltr w (i + 2)] := by
  apply List.ext_getElem?
  intro k
  rw [List.getElem?_take]
  by_cases hk : k < 3
  · rw [if_pos hk, List.getElem?_drop]
    have : k = 0 ∨ k = 1 ∨ k = 2 := by omega
    rcases this with rfl | rfl | rfl
    · rw [ltr_get (by omega)]; rfl
    · rw [ltr_get (by omega)]; rfl
    · rw [ltr_get (by omega)]; rfl
  · rw [if_neg hk, List.getElem?_eq_none]
    show 3 ≤ k
    omega
theorem hp_w_turn (as : List Sl) (Qp : QE) (Ep : EX) (h : psp_w_turn as Qp Ep) : p_w_turn (endsP as Qp) (as ++ List.replicate 3 .un) := by
  obtain ⟨w, i, rfl, hl, q⟩ := h
  have z := z24
  have t1 := take_le w i
  have t2 := drop_le w (i + 3)
  refine ⟨trivial, _, rfl, ?_⟩
  show if decide (((w.map PyData.int).length : Int) ≤ (i : Int) + 2) = true then _ else _
  rw [List.length_map]
  by_cases c : w.length ≤ i + 2
  · rw [if_pos (decide_eq_true (by omega))]
    simp only [turnW, if_pos c] at q
    exact ⟨_, _, rfl, q⟩
  rw [if_neg (by simp only [decide_eq_true_eq]; omega)]
  simp only [turnW, if_neg c] at q
  have e3 : cutD (w.map PyData.int) (some (i : Int)) (some ((i : Int) + 3)) = [.int (ltr w i), .int (ltr w (i + 1)), .int (ltr w (i + 2))] := by
    rw [show (i : Int) + 3 = ((i + 3 : Nat) : Int) by omega, cut_map, cut_mid, show i + 3 - i = 3 by omega, drop3 (by omega)]
    rfl
  refine ⟨_, rfl, _, rfl, .tuple [.int (ltr w i), .int (ltr w (i + 1)), .int (ltr w (i + 2))], _, congrArg (fun z => some (PyData.tuple z, _)) e3, rfl, rfl, ?_⟩
  show pr_w_turn_2 _ [.im (dK w), .im (nD i), .im (.int (ltr w i)), .im (.int (ltr w (i + 1))), .im (.int (ltr w (i + 2)))]
  refine ⟨_, rfl, ?_⟩
  show if (!decide (ltr w i = ltr w (i + 2))) = true then _ else _
  by_cases c1 : ltr w i = ltr w (i + 2)
  · rw [if_neg (by simp [c1])]
    refine ⟨trivial, _, rfl, ?_⟩
    show if (!decide (ab (ltr w i - ltr w (i + 1)) = 1)) = true then _ else _
    by_cases c2 : ab (ltr w i - ltr w (i + 1)) = 1
    · rw [if_neg (by simp [c2])]
      rw [if_neg (by rintro (z | z); exact z c1; exact z c2)] at q
      show pr_w_turn_1 _ [.im (dK w), .im (nD i), .im (.int (ltr w i)), .im (.int (ltr w (i + 1))), .im (.int (ltr w (i + 2)))]
      refine ⟨_, rfl, ?_, _, rfl, ?_, _, _, rfl, ?_⟩
      · rw [cutK1, List.length_map]
        show _ + 3 ≤ _
        omega
      · rw [List.length_append, cutK1, cutK2 (i := i + 3) (by omega), List.length_map, List.length_map]
        show _ + 3 + _ ≤ _
        omega
      · rw [cutK1, cutK2 (i := i + 3) (by omega), show [PyData.int (ltr w (i + 1)), .int (ltr w i), .int (ltr w (i + 1))] = [ltr w (i + 1), ltr w i, ltr w (i + 1)].map PyData.int from rfl, ← List.map_append, ← List.map_append]
        exact q
    · rw [if_pos (by simp [c2])]
      rw [if_pos (.inr c2)] at q
      exact ⟨_, _, rfl, q⟩
  · rw [if_pos (by simp [c1])]
    rw [if_pos (.inl c1)] at q
    exact ⟨_, _, rfl, q⟩
def psp_w_gone : PSp := fun as Q _ => ∃ (w : List Int) (i : Nat), as = [.im (dK w), .im (nD i)] ∧ w.length ≤ 1000 ∧ i + 1 < w.length ∧ Q (.im (optD (goneW w i))) [.un, .un]
def p_w_gone : PSx :=
    pSeq (pIf (pT (pEq true (pIx (pVar 0) (pVar 1)) (pIx (pVar 0) (pAdd (pVar 1) (pK (.int 1)))))) (pRet (pK .none)) (pNext))
    (pRet (pAdd (pSlice (pVar 0) (oNone) (oSome (pVar 1))) (pSlice (pVar 0) (oSome (pAdd (pVar 1) (pK (.int 2)))) (oNone))))
theorem hp_w_gone (as : List Sl) (Qp : QE) (Ep : EX) (h : psp_w_gone as Qp Ep) : p_w_gone (endsP as Qp) (as ++ List.replicate 0 .un) := by
  obtain ⟨w, i, rfl, hl, hi, q⟩ := h
  have z := z24
  have t1 := take_le w i
  have t2 := drop_le w (i + 2)
  refine ⟨_, atK rfl (show i < w.length by omega), _, atK (i := i + 1) (by omega) hi, _, rfl, ?_⟩
  show if (!decide (ltr w i = ltr w (i + 1))) = true then _ else _
  by_cases c : ltr w i = ltr w (i + 1)
  · rw [if_neg (by simp [c])]
    simp only [goneW, c, ne_eq, not_true_eq_false, if_false] at q
    refine ⟨_, rfl, _, rfl, ?_, _, _, rfl, ?_⟩
    · rw [cutK1, cutK2 (i := i + 2) (by omega), List.length_map, List.length_map]
      omega
    · rw [cutK1, cutK2 (i := i + 2) (by omega), ← List.map_append]
      exact q
  · rw [if_pos (by simp [c])]
    simp only [goneW, ne_eq, c, not_false_eq_true, if_true] at q
    exact ⟨_, _, rfl, q⟩
def psp_w_come : PSp := fun as Q _ => ∃ (w : List Int) (x y : PyData), as = [.im (dK w), .im x, .im y] ∧ w.length ≤ 1000 ∧ Q (.im (optD (comeW w x y))) [.un, .un, .un]
def p_w_come : PSx :=
    pSeq (pIf (pOr (pNot (pT (pCall psp_is_whole (pCons (pFz (pVar 1)) (pCons (pFz (pK (.int 0))) (pCons (pFz (pC (q1 fLen) (pCons (pVar 0) (pNil)))) (pNil)))) noX))) (pNot (pT (pCall psp_is_whole (pCons (pFz (pVar 2)) (pCons (pFz (pK (.int 0))) (pCons (pFz (pK (.int 8))) (pNil)))) noX)))) (pRet (pK .none)) (pNext))
    (pRet (pAdd (pAdd (pSlice (pVar 0) (oNone) (oSome (pVar 1))) (pTup (pCons (pVar 2) (pCons (pVar 2) (pNil))))) (pSlice (pVar 0) (oSome (pVar 1)) (oNone))))
theorem isWh_int {lo hi : Int} {x : PyData} (h : isWh lo hi x = true) : ∃ i, x = .int i ∧ lo ≤ i ∧ i ≤ hi := by
  unfold isWh at h
  split at h
  · rename_i i
    simp only [Bool.and_eq_true, decide_eq_true_eq] at h
    exact ⟨i, rfl, h⟩
  · cases h
theorem hp_w_come (as : List Sl) (Qp : QE) (Ep : EX) (h : psp_w_come as Qp Ep) : p_w_come (endsP as Qp) (as ++ List.replicate 0 .un) := by
  obtain ⟨w, x, y, rfl, hl, q⟩ := h
  have z := z24
  refine ⟨_, _, rfl, _, _, rfl, _, _, rfl, _, rfl, List.nodup_nil, x, 0, _, rfl, _, rfl, ?_⟩
  rw [List.length_map]
  show if (!isWh 0 (w.length : Int) x) = true then _ else _
  cases c1 : isWh 0 (w.length : Int) x with
  | false =>
    simp only [comeW, c1] at q
    exact ⟨_, _, rfl, q⟩
  | true =>
    refine ⟨_, _, rfl, _, _, rfl, _, _, rfl, _, rfl, List.nodup_nil, y, 0, _, rfl, _, rfl, ?_⟩
    show if (!isWh 0 8 y) = true then _ else _
    cases c2 : isWh 0 8 y with
    | false =>
      simp only [comeW, c1, c2] at q
      exact ⟨_, _, rfl, q⟩
    | true =>
      obtain ⟨i, rfl, h1, h2⟩ := isWh_int c1
      obtain ⟨k, rfl, h3, h4⟩ := isWh_int c2
      obtain ⟨i, rfl⟩ := Int.eq_ofNat_of_zero_le h1
      simp only [comeW, c1, c2, if_true, ixOf, inOf] at q
      have ei : ((i : Int)).toNat = i := by simp
      rw [ei] at q
      have t1 := take_le w i
      have t2 := drop_le w i
      refine ⟨_, rfl, ?_, _, rfl, ?_, _, _, rfl, ?_⟩
      · rw [cutK1, List.length_map]
        show _ + 2 ≤ _
        omega
      · rw [List.length_append, cutK1, cutK2 rfl, List.length_map, List.length_map]
        show _ + 2 + _ ≤ _
        omega
      · rw [cutK1, cutK2 rfl, show [PyData.int k, .int k] = [k, k].map PyData.int from rfl, ← List.map_append, ← List.map_append]
        exact q
/-! ### one move -/
def isS (w : Str) : PyData → Bool
  | .str s => decide (s = w)
  | _ => false
def moveW (w : List Int) : PyData → Option (List Int)
  | .tuple [a, x, y] => if isS "come" a = true then comeW w x y else none
  | .tuple [a, x] => if isWh 0 ((w.length : Int) - 2) x = true then
      if isS "far" a = true then farW w (ixOf x) else if isS "turn" a = true then turnW w (ixOf x) else if isS "gone" a = true then goneW w (ixOf x) else none
    else none
  | _ => none
/-- things of a move: shaped ones -/
def okM (mv : PyData) : Prop := ∀ ds, mv = .tuple ds → ∀ a ∈ ds, SeqAt.shaped a = true
theorem eqS {a : PyData} {w : Str} {k : PyData → Prop} (ha : SeqAt.shaped a = true) (hw : SeqAt.shaped (.str w) = true) (q : k (.bool (isS w a))) : fEq false [a, .str w] k := by
  cases a with
  | str s => exact q
  | int i => exact ⟨ha, hw, q⟩
  | none => exact ⟨ha, hw, q⟩
  | bool b => exact ⟨ha, hw, q⟩
  | tuple b => exact ⟨ha, hw, q⟩
  | list b => exact ⟨ha, hw, q⟩
  | dict b => exact ⟨ha, hw, q⟩
theorem sh_come : SeqAt.shaped (.str ("come" : Str)) = true := by decide +kernel
theorem sh_far : SeqAt.shaped (.str ("far" : Str)) = true := by decide +kernel
theorem sh_turn : SeqAt.shaped (.str ("turn" : Str)) = true := by decide +kernel
theorem sh_gone : SeqAt.shaped (.str ("gone" : Str)) = true := by decide +kernel
theorem isTu3 {x : PyData} (h : isTu 3 x = true) : ∃ a b c, x = .tuple [a, b, c] := by
  unfold isTu at h
  split at h
  · rename_i ds
    have h := of_decide_eq_true h
    match ds, h with
    | [a, b, c], _ => exact ⟨a, b, c, rfl⟩
    | [], h => simp at h
    | [a], h => simp at h
    | [a, b], h => simp at h
    | a :: b :: c :: e :: ds, h => simp at h; omega
  · cases h
theorem isTu2' {x : PyData} (h : isTu 2 x = true) : ∃ a b, x = .tuple [a, b] := by
  unfold isTu at h
  split at h
  · rename_i ds
    have h := of_decide_eq_true h
    match ds, h with
    | [a, b], _ => exact ⟨a, b, rfl⟩
    | [], h => simp at h
    | [a], h => simp at h
    | a :: b :: c :: ds, h => simp at h; omega
  · cases h
theorem moveW_no {w : List Int} {x : PyData} (h3 : isTu 3 x = false) (h2 : isTu 2 x = false) : moveW w x = none := by
  unfold moveW
  split
  · cases h3
  · cases h2
  · rfl
def psp_once_moved : PSp := fun as Q _ => ∃ (w : List Int) (mv : PyData), as = [.im (dK w), .im mv] ∧ w.length ≤ 1000 ∧ okM mv ∧ Q (.im (optD (moveW w mv))) [.un, .un]
def pr_once_moved_1 : PSx :=
    pRet (pK .none)
def pr_once_moved_2 : PSx :=
    pSeq (pIf (pT (pEq false (pVar 2) (pK (.str "gone")))) (pRet (pCall psp_w_gone (pCons (pFz (pVar 0)) (pCons (pFz (pVar 3)) (pNil))) noX)) (pNext))
    (pr_once_moved_1)
def pr_once_moved_3 : PSx :=
    pSeq (pIf (pT (pEq false (pVar 2) (pK (.str "turn")))) (pRet (pCall psp_w_turn (pCons (pFz (pVar 0)) (pCons (pFz (pVar 3)) (pNil))) noX)) (pNext))
    (pr_once_moved_2)
def pr_once_moved_4 : PSx :=
    pSeq (pIf (pT (pEq false (pVar 2) (pK (.str "far")))) (pRet (pCall psp_w_far (pCons (pFz (pVar 0)) (pCons (pFz (pVar 3)) (pNil))) noX)) (pNext))
    (pr_once_moved_3)
def pr_once_moved_5 : PSx :=
    pSeq (pAsg (pVar 1) (gT 2 (gsC (gN 2) (gsC (gN 3) (gsN)))))
    (pr_once_moved_4)
def pr_once_moved_6 : PSx :=
    pSeq (pIf (pOr (pNot (pT (pCall psp_is_tuple_of (pCons (pFz (pVar 1)) (pCons (pFz (pK (.int 2))) (pNil))) noX))) (pNot (pT (pCall psp_is_whole (pCons (pFz (pIx (pVar 1) (pK (.int 1)))) (pCons (pFz (pK (.int 0))) (pCons (pFz (pSub (pC (q1 fLen) (pCons (pVar 0) (pNil))) (pK (.int 2)))) (pNil)))) noX)))) (pRet (pK .none)) (pNext))
    (pr_once_moved_5)
def p_once_moved : PSx :=
    pSeq (pIf (pAnd (pT (pCall psp_is_tuple_of (pCons (pFz (pVar 1)) (pCons (pFz (pK (.int 3))) (pNil))) noX)) (pT (pEq false (pIx (pVar 1) (pK (.int 0))) (pK (.str "come"))))) (pRet (pCall psp_w_come (pCons (pFz (pVar 0)) (pCons (pFz (pIx (pVar 1) (pK (.int 1)))) (pCons (pFz (pIx (pVar 1) (pK (.int 2)))) (pNil)))) noX)) (pNext))
    (pr_once_moved_6)
theorem hp_once_moved (as : List Sl) (Qp : QE) (Ep : EX) (h : psp_once_moved as Qp Ep) : p_once_moved (endsP as Qp) (as ++ List.replicate 2 .un) := by
  obtain ⟨w, mv, rfl, hl, okm, q⟩ := h
  have rest : (isTu 2 mv = false → Qp (.im (optD none)) [.un, .un]) → (∀ a x, mv = .tuple [a, x] → Qp (.im (optD (moveW w mv))) [.un, .un]) → pr_once_moved_6 (endsP [.im (dK w), .im mv] Qp) [.im (dK w), .im mv, .un, .un] := fun q0 q1 => by
    refine ⟨_, _, rfl, _, _, rfl, _, rfl, List.nodup_nil, mv, 2, rfl, _, rfl, ?_⟩
    show if (!isTu 2 mv) = true then _ else _
    cases c : isTu 2 mv with
    | false => exact ⟨_, _, rfl, q0 c⟩
    | true =>
      obtain ⟨a, x, rfl⟩ := isTu2' c
      have q := q1 a x rfl
      have sa := okm _ rfl a List.mem_cons_self
      refine ⟨_, rfl, _, _, rfl, _, _, rfl, trivial, _, _, rfl, _, rfl, List.nodup_nil, x, 0, _, rfl, _, rfl, ?_⟩
      rw [List.length_map]
      show if (!isWh 0 ((w.length : Int) - 2) x) = true then _ else _
      cases c1 : isWh 0 ((w.length : Int) - 2) x with
      | false =>
        simp only [moveW, c1] at q
        exact ⟨_, _, rfl, q⟩
      | true =>
        obtain ⟨i, rfl, h1, h2⟩ := isWh_int c1
        obtain ⟨i, rfl⟩ := Int.eq_ofNat_of_zero_le h1
        have ei : ((i : Int)).toNat = i := by simp
        simp only [moveW, c1, if_true, ixOf, ei] at q
        refine ⟨_, _, rfl, rfl, rfl, ?_⟩
        show pr_once_moved_4 _ [.im (dK w), .im (.tuple [a, nD i]), .im a, .im (nD i)]
        show fEq false [a, .str "far"] _
        refine eqS sa sh_far ⟨_, rfl, ?_⟩
        show if isS "far" a = true then _ else _
        by_cases cf : isS "far" a = true
        · rw [if_pos cf]
          rw [if_pos cf] at q
          exact ⟨_, _, rfl, _, _, rfl, _, rfl, List.nodup_nil, w, i, rfl, hl, by omega, _, _, rfl, q⟩
        rw [if_neg cf]
        rw [if_neg cf] at q
        show fEq false [a, .str "turn"] _
        refine eqS sa sh_turn ⟨_, rfl, ?_⟩
        show if isS "turn" a = true then _ else _
        by_cases ct : isS "turn" a = true
        · rw [if_pos ct]
          rw [if_pos ct] at q
          exact ⟨_, _, rfl, _, _, rfl, _, rfl, List.nodup_nil, w, i, rfl, hl, _, _, rfl, q⟩
        rw [if_neg ct]
        rw [if_neg ct] at q
        show fEq false [a, .str "gone"] _
        refine eqS sa sh_gone ⟨_, rfl, ?_⟩
        show if isS "gone" a = true then _ else _
        by_cases cg : isS "gone" a = true
        · rw [if_pos cg]
          rw [if_pos cg] at q
          exact ⟨_, _, rfl, _, _, rfl, _, rfl, List.nodup_nil, w, i, rfl, hl, by omega, _, _, rfl, q⟩
        rw [if_neg cg]
        rw [if_neg cg] at q
        exact ⟨_, _, rfl, q⟩
  refine ⟨_, _, rfl, _, _, rfl, _, rfl, List.nodup_nil, mv, 3, rfl, _, rfl, ?_⟩
  show if isTu 3 mv = true then _ else _
  cases c : isTu 3 mv with
  | false =>
    refine rest (fun c2 => ?_) fun a x _ => q
    rw [moveW_no c c2] at q
    exact q
  | true =>
    obtain ⟨a, x, y, rfl⟩ := isTu3 c
    have sa := okm _ rfl a List.mem_cons_self
    refine ⟨_, rfl, ?_⟩
    show fEq false [a, .str "come"] _
    refine eqS sa sh_come ⟨_, rfl, ?_⟩
    show if isS "come" a = true then _ else _
    by_cases cc : isS "come" a = true
    · rw [if_pos cc]
      simp only [moveW, cc, if_true] at q
      exact ⟨_, _, rfl, _, rfl, _, _, rfl, _, rfl, _, _, rfl, _, rfl, List.nodup_nil, w, x, y, rfl, hl, _, _, rfl, q⟩
    · rw [if_neg cc]
      refine rest (fun _ => ?_) fun a x e => by cases e
      simp only [moveW, if_neg cc] at q
      exact q
/-! ### moves one behind the other -/
def movG : Nat → List Int → List PyData → Nat ⊕ List Int
  | _, w, [] => .inr w
  | n, w, m :: ms => match moveW w m with
    | none => .inl n
    | some w' => movG (n + 1) w' ms
theorem moveW_len {w w' : List Int} {m : PyData} (h : moveW w m = some w') : w'.length ≤ w.length + 2 := by
  unfold moveW at h
  split at h
  · split at h
    · unfold comeW at h
      split at h
      · split at h
        · rename_i c1 c2
          obtain ⟨i, rfl, h1, h2⟩ := isWh_int c1
          cases h
          simp only [List.length_append, List.length_take, List.length_drop, ixOf, List.length_cons, List.length_nil]
          omega
        · cases h
      · cases h
    · cases h
  · split at h
    · rename_i c1
      obtain ⟨i, rfl, h1, h2⟩ := isWh_int c1
      simp only [ixOf] at h
      split at h
      · unfold farW at h
        split at h
        · cases h
        · cases h
          simp only [List.length_append, List.length_take, List.length_drop, List.length_cons, List.length_nil]
          omega
      · split at h
        · unfold turnW at h
          split at h
          · cases h
          · split at h
            · cases h
            · cases h
              simp only [List.length_append, List.length_take, List.length_drop, List.length_cons, List.length_nil]
              omega
        · split at h
          · unfold goneW at h
            split at h
            · cases h
            · cases h
              simp only [List.length_append, List.length_take, List.length_drop]
              omega
          · cases h
    · cases h
  · cases h
def movQ (C : Addr) (Q : QE) (Ep : EX) : Nat ⊕ List Int → Prop
  | .inl n => Ep C [("at", nD n)]
  | .inr w => Q (.im (dK w)) [.un, .un]
def pb_word_moved_1 (cNoMove : Addr) (Ep : EX) : PSx :=
    pSeq (pSet 0 (pCall psp_once_moved (pCons (pFz (pVar 0)) (pCons (pFz (pVar 3)) (pNil))) noX))
    (pIf (pT (pIs false (pVar 0) (pK .none))) (pRaise cNoMove ["at"] (pCons (pFz (pVar 2)) (pNil)) Ep) (pNext))
def p_word_moved (cNoMove : Addr) (Ep : EX) : PSx :=
    pSeq (pFor [2, 3] (iEn (pCons (pVar 1) (pNil))) (gT 2 (gsC (gN 2) (gsC (gN 3) (gsN)))) (pb_word_moved_1 cNoMove Ep))
    (pRet (pVar 0))
end Pv
namespace Pv
open PySem PySem.Spec L2 Wf
/-! ### _law_behind_move -/
inductive FormM : PyData → Prop
  | come (a k : Int) : FormM (.tuple [.str "come", .int a, .int k])
  | far (a : Int) : FormM (.tuple [.str "far", .int a])
  | turn (a : Int) : FormM (.tuple [.str "turn", .int a])
  | gone (a : Int) : FormM (.tuple [.str "gone", .int a])
def psp_lbehind : PSp := fun as Q _ => ∃ (w : List Int) (mv : PyData), as = [.im (dK w), .im mv] ∧ w.length ≤ 1000 ∧ FormM mv ∧ Q (.im (optD (moveW w mv))) [.un, .un]
def pr_lbehind_1 : PSx :=
    pRet (pK .none)
def pr_lbehind_2 : PSx :=
    pSeq (pIf (pAnd (pT (pChain qLeD qLeD (pK (.int 0)) (pVar 5) (pC (q1 fLen) (pCons (pVar 0) (pNil))))) (pT (pChain qLeD qLtD (pK (.int 0)) (pVar 6) (pK (.int 9))))) (pRet (pAdd (pAdd (pSlice (pVar 0) (oNone) (oSome (pVar 5))) (pTup (pCons (pVar 6) (pCons (pVar 6) (pNil))))) (pSlice (pVar 0) (oSome (pVar 5)) (oNone)))) (pNext))
    (pr_lbehind_1)
def pr_lbehind_3 : PSx :=
    pRet (pK .none)
def pr_lbehind_4 : PSx :=
    pSeq (pIf (pAnd (pT (pEq false (pVar 4) (pK (.str "turn")))) (pAnd (pT (pEq false (pVar 3) (pK (.int 1)))) (pT (pEq false (pIx (pVar 2) (pK (.int 0))) (pIx (pVar 2) (pK (.int 2))))))) (pRet (pAdd (pAdd (pSlice (pVar 0) (oNone) (oSome (pVar 5))) (pTup (pCons (pIx (pVar 2) (pK (.int 1))) (pCons (pIx (pVar 2) (pK (.int 0))) (pCons (pIx (pVar 2) (pK (.int 1))) (pNil)))))) (pSlice (pVar 0) (oSome (pAdd (pVar 5) (pK (.int 3)))) (oNone)))) (pNext))
    (pr_lbehind_3)
def pr_lbehind_5 : PSx :=
    pSeq (pIf (pAnd (pT (pEq false (pVar 4) (pK (.str "gone")))) (pT (pEq false (pVar 3) (pK (.int 0))))) (pRet (pAdd (pSlice (pVar 0) (oNone) (oSome (pVar 5))) (pSlice (pVar 0) (oSome (pAdd (pVar 5) (pK (.int 2)))) (oNone)))) (pNext))
    (pr_lbehind_4)
def pr_lbehind_6 : PSx :=
    pSeq (pIf (pAnd (pT (pEq false (pVar 4) (pK (.str "far")))) (pT (pGt (pVar 3) (pK (.int 1))))) (pRet (pAdd (pAdd (pSlice (pVar 0) (oNone) (oSome (pVar 5))) (pTup (pCons (pIx (pVar 2) (pK (.int 1))) (pCons (pIx (pVar 2) (pK (.int 0))) (pNil))))) (pSlice (pVar 0) (oSome (pAdd (pVar 5) (pK (.int 2)))) (oNone)))) (pNext))
    (pr_lbehind_5)
def pr_lbehind_7 : PSx :=
    pSeq (pSet 3 (pC (q1 fAbs) (pCons (pSub (pIx (pVar 2) (pK (.int 0))) (pIx (pVar 2) (pK (.int 1)))) (pNil))))
    (pr_lbehind_6)
def pr_lbehind_8 : PSx :=
    pSeq (pIf (pOr (pT (pLt (pVar 5) (pK (.int 0)))) (pT (pLt (pC (q1 fLen) (pCons (pVar 2) (pNil))) (pAdd (pK (.int 2)) (pC (q1 fInt1) (pCons (pEq false (pVar 4) (pK (.str "turn"))) (pNil))))))) (pRet (pK .none)) (pNext))
    (pr_lbehind_7)
def pr_lbehind_9 : PSx :=
    pSeq (pSet 2 (pSlice (pVar 0) (oSome (pVar 5)) (oSome (pAdd (pAdd (pVar 5) (pK (.int 2))) (pC (q1 fInt1) (pCons (pEq false (pVar 4) (pK (.str "turn"))) (pNil)))))))
    (pr_lbehind_8)
def pr_lbehind_10 : PSx :=
    pSeq (pAsg (pVar 1) (gT 2 (gsC (gN 4) (gsC (gN 5) (gsN)))))
    (pr_lbehind_9)
def p_lbehind : PSx :=
    pSeq (pIf (pT (pEq false (pIx (pVar 1) (pK (.int 0))) (pK (.str "come")))) (pSeq (pAsg (pVar 1) (gT 3 (gsC (gN 4) (gsC (gN 5) (gsC (gN 6) (gsN))))))
    (pr_lbehind_2)) (pNext))
    (pr_lbehind_10)
theorem n_tc : decide (("turn" : Str) = "come") = false := by decide +kernel
theorem n_fc : decide (("far" : Str) = "come") = false := by decide +kernel
theorem n_gc : decide (("gone" : Str) = "come") = false := by decide +kernel
theorem n_ft : decide (("far" : Str) = "turn") = false := by decide +kernel
theorem n_fg : decide (("far" : Str) = "gone") = false := by decide +kernel
theorem n_tf : decide (("turn" : Str) = "far") = false := by decide +kernel
theorem n_tg : decide (("turn" : Str) = "gone") = false := by decide +kernel
theorem n_gf : decide (("gone" : Str) = "far") = false := by decide +kernel
theorem n_gt : decide (("gone" : Str) = "turn") = false := by decide +kernel
theorem n_ss (s : Str) : decide (s = s) = true := decide_eq_true rfl
theorem isS_self (s : Str) : isS s (.str s) = true := n_ss s
theorem drop2 {w : List Int} {i : Nat} (h : i + 1 < w.length) : (w.drop i).take 2 = [ltr w i, ltr w (i + 1)] := by
  apply List.ext_getElem?
  intro k
  rw [List.getElem?_take]
  by_cases hk : k < 2
  · rw [if_pos hk, List.getElem?_drop]
    have : k = 0 ∨ k = 1 := by omega
    rcases this with rfl | rfl
    · rw [ltr_get (by omega)]; rfl
    · rw [ltr_get (by omega)]; rfl
  · rw [if_neg hk, List.getElem?_eq_none]
    show 2 ≤ k
    omega
theorem hp_lb_pre {w : List Int} {s : Str} {at_ : Int} {t : Nat} {Qp : QE} (ht : (if decide (s = "turn") = true then (1 : Int) else 0) = (t : Int)) (hl : w.length ≤ 1000)
    (q0 : (at_ < 0 ∨ (w.length : Int) < at_ + 2 + t) → Qp (.im .none) [.un, .un])
    (q1 : ∀ i : Nat, at_ = (i : Int) → i + 2 + t ≤ w.length → pr_lbehind_7 (endsP [.im (dK w), .im (.tuple [.str s, .int at_])] Qp) [.im (dK w), .im (.tuple [.str s, .int at_]), .im (.tuple (((w.drop i).take (2 + t)).map .int)), .un, .im (.str s), .im (nD i), .un]) :
    pr_lbehind_10 (endsP [.im (dK w), .im (.tuple [.str s, .int at_])] Qp) [.im (dK w), .im (.tuple [.str s, .int at_]), .un, .un, .un, .un, .un] := by
  refine ⟨_, _, rfl, rfl, rfl, ?_⟩
  show pr_lbehind_9 _ [.im (dK w), .im (.tuple [.str s, .int at_]), .un, .un, .im (.str s), .im (.int at_), .un]
  refine ⟨_, rfl, _, rfl, _, _, rfl, ?_⟩
  show pr_lbehind_8 _ [.im (dK w), .im (.tuple [.str s, .int at_]), .im (.tuple (cutD (w.map .int) (some at_) (some (at_ + 2 + (if decide (s = "turn") = true then (1 : Int) else 0))))), .un, .im (.str s), .im (.int at_), .un]
  rw [ht]
  refine ⟨trivial, _, rfl, ?_⟩
  show if decide (at_ < 0) = true then _ else _
  by_cases c0 : at_ < 0
  · rw [if_pos (decide_eq_true c0)]
    exact ⟨_, _, rfl, q0 (.inl c0)⟩
  rw [if_neg (by simp [c0])]
  obtain ⟨i, rfl⟩ := Int.eq_ofNat_of_zero_le (show 0 ≤ at_ by omega)
  have ec : cutD (w.map PyData.int) (some (i : Int)) (some ((i : Int) + 2 + (t : Int))) = ((w.drop i).take (2 + t)).map .int := by
    rw [show (i : Int) + 2 + (t : Int) = ((i + 2 + t : Nat) : Int) by omega, cut_map, cut_mid, show i + 2 + t - i = 2 + t by omega]
  rw [ec]
  refine ⟨trivial, _, rfl, ?_⟩
  show if decide (((((w.drop i).take (2 + t)).map PyData.int).length : Int) < 2 + (if decide (s = "turn") = true then (1 : Int) else 0)) = true then _ else _
  rw [ht, List.length_map, List.length_take, List.length_drop]
  by_cases c1 : i + 2 + t ≤ w.length
  · rw [if_neg (by simp only [decide_eq_true_eq]; omega)]
    exact q1 i rfl c1
  · rw [if_pos (by simp only [decide_eq_true_eq]; omega)]
    exact ⟨_, _, rfl, q0 (.inr (by omega))⟩
theorem isWh_no {lo hi i : Int} (h : i < lo ∨ hi < i) : isWh lo hi (.int i) = false := by
  simp only [isWh, Bool.and_eq_false_iff, decide_eq_false_iff_not]
  omega
theorem isWh_yes {lo hi i : Int} (h : lo ≤ i) (h2 : i ≤ hi) : isWh lo hi (.int i) = true := by
  simp only [isWh, Bool.and_eq_true, decide_eq_true_eq]
  omega
theorem hp_lbehind (as : List Sl) (Qp : QE) (Ep : EX) (h : psp_lbehind as Qp Ep) : p_lbehind (endsP as Qp) (as ++ List.replicate 5 .un) := by
  obtain ⟨w, mv, rfl, hl, fm, q⟩ := h
  have z := z24
  cases fm with
  | come a k =>
    refine ⟨_, rfl, _, rfl, ?_⟩
    show if decide (("come" : Str) = "come") = true then _ else _
    rw [n_ss, if_pos rfl]
    refine ⟨_, _, rfl, rfl, rfl, ?_⟩
    show pr_lbehind_2 _ [.im (dK w), .im (.tuple [.str "come", .int a, .int k]), .un, .un, .im (.str "come"), .im (.int a), .im (.int k)]
    have q : Qp (.im (optD (if isWh 0 (w.length : Int) (.int a) = true then if isWh 0 8 (.int k) = true then some (w.take a.toNat ++ [k, k] ++ w.drop a.toNat) else none else none))) [.un, .un] := q
    refine ⟨_, rfl, trivial, _, rfl, ?_⟩
    show if decide ((0 : Int) ≤ a) = true then _ else _
    by_cases c0 : 0 ≤ a
    · rw [if_pos (decide_eq_true c0)]
      refine ⟨trivial, _, rfl, ?_⟩
      show if decide (a ≤ ((w.map PyData.int).length : Int)) = true then _ else _
      rw [List.length_map]
      by_cases c1 : a ≤ (w.length : Int)
      · rw [if_pos (decide_eq_true c1)]
        rw [isWh_yes c0 c1, if_pos rfl] at q
        refine ⟨_, rfl, trivial, _, rfl, ?_⟩
        show if decide ((0 : Int) ≤ k) = true then _ else _
        by_cases c2 : 0 ≤ k
        · rw [if_pos (decide_eq_true c2)]
          refine ⟨trivial, _, rfl, ?_⟩
          show if decide (k < 9) = true then _ else _
          by_cases c3 : k < 9
          · rw [if_pos (decide_eq_true c3)]
            rw [isWh_yes c2 (by omega), if_pos rfl] at q
            obtain ⟨i, rfl⟩ := Int.eq_ofNat_of_zero_le c0
            have ei : ((i : Int)).toNat = i := by simp
            rw [ei] at q
            have t1 := take_le w i
            have t2 := drop_le w i
            refine ⟨_, rfl, ?_, _, rfl, ?_, _, _, rfl, ?_⟩
            · rw [cutK1, List.length_map]
              show _ + 2 ≤ _
              omega
            · rw [List.length_append, cutK1, cutK2 rfl, List.length_map, List.length_map]
              show _ + 2 + _ ≤ _
              omega
            · rw [cutK1, cutK2 rfl, show [PyData.int k, .int k] = [k, k].map PyData.int from rfl, ← List.map_append, ← List.map_append]
              exact q
          · rw [if_neg (by simp [c3])]
            rw [isWh_no (.inr (by omega))] at q
            exact ⟨_, _, rfl, q⟩
        · rw [if_neg (by simp [c2])]
          rw [isWh_no (.inl (by omega))] at q
          exact ⟨_, rfl, _, _, rfl, q⟩
      · rw [if_neg (by simp [c1])]
        rw [isWh_no (.inr (by omega))] at q
        exact ⟨_, _, rfl, q⟩
    · rw [if_neg (by simp [c0])]
      rw [isWh_no (.inl (by omega))] at q
      exact ⟨_, rfl, _, _, rfl, q⟩
  | far a =>
    refine ⟨_, rfl, _, rfl, ?_⟩
    show if decide (("far" : Str) = "come") = true then _ else _
    rw [n_fc, if_neg (by decide)]
    have q : Qp (.im (optD (if isWh 0 ((w.length : Int) - 2) (.int a) = true then (if isS "far" (.str "far") = true then farW w a.toNat else if isS "turn" (.str "far") = true then turnW w a.toNat else if isS "gone" (.str "far") = true then goneW w a.toNat else none) else none))) [.un, .un] := q
    refine hp_lb_pre (t := 0) (by rw [n_ft]; rfl) hl (fun c => ?_) fun i e hi => ?_
    · rw [isWh_no (by omega)] at q
      exact q
    subst e
    rw [isWh_yes (by omega) (by omega), if_pos rfl, show isS "far" (.str "far") = true from isS_self _, if_pos rfl, show ((i : Int)).toNat = i by simp, farW] at q
    rw [drop2 (by omega)]
    refine ⟨_, rfl, _, rfl, trivial, _, _, rfl, ?_⟩
    show pr_lbehind_6 _ [.im (dK w), .im (.tuple [.str "far", nD i]), .im (.tuple [.int (ltr w i), .int (ltr w (i + 1))]), .im (.int (ab (ltr w i - ltr w (i + 1)))), .im (.str "far"), .im (nD i), .un]
    refine ⟨_, rfl, ?_⟩
    show if decide (("far" : Str) = "far") = true then _ else _
    rw [n_ss, if_pos rfl]
    refine ⟨trivial, _, rfl, ?_⟩
    show if decide ((1 : Int) < ab (ltr w i - ltr w (i + 1))) = true then _ else _
    by_cases c : ab (ltr w i - ltr w (i + 1)) ≤ 1
    · rw [if_neg (by simp only [decide_eq_true_eq]; omega)]
      rw [if_pos c] at q
      refine ⟨_, rfl, ?_⟩
      show if decide (("far" : Str) = "gone") = true then _ else _
      rw [n_fg, if_neg (by decide)]
      refine ⟨_, rfl, ?_⟩
      show if decide (("far" : Str) = "turn") = true then _ else _
      rw [n_ft, if_neg (by decide)]
      exact ⟨_, _, rfl, q⟩
    · rw [if_pos (decide_eq_true (by omega))]
      rw [if_neg c] at q
      have t1 := take_le w i
      have t2 := drop_le w (i + 2)
      refine ⟨_, rfl, _, rfl, _, rfl, ?_, _, rfl, ?_, _, _, rfl, ?_⟩
      · rw [cutK1, List.length_map]
        show _ + 2 ≤ _
        omega
      · rw [List.length_append, cutK1, cutK2 (i := i + 2) (by omega), List.length_map, List.length_map]
        show _ + 2 + _ ≤ _
        omega
      · rw [cutK1, cutK2 (i := i + 2) (by omega), show [PyData.int (ltr w (i + 1)), .int (ltr w i)] = [ltr w (i + 1), ltr w i].map PyData.int from rfl, ← List.map_append, ← List.map_append]
        exact q
  | gone a =>
    refine ⟨_, rfl, _, rfl, ?_⟩
    show if decide (("gone" : Str) = "come") = true then _ else _
    rw [n_gc, if_neg (by decide)]
    have q : Qp (.im (optD (if isWh 0 ((w.length : Int) - 2) (.int a) = true then (if isS "far" (.str "gone") = true then farW w a.toNat else if isS "turn" (.str "gone") = true then turnW w a.toNat else if isS "gone" (.str "gone") = true then goneW w a.toNat else none) else none))) [.un, .un] := q
    refine hp_lb_pre (t := 0) (by rw [n_gt]; rfl) hl (fun c => ?_) fun i e hi => ?_
    · rw [isWh_no (by omega)] at q
      exact q
    subst e
    rw [isWh_yes (by omega) (by omega), if_pos rfl, show isS "far" (.str "gone") = false from n_gf, show isS "turn" (.str "gone") = false from n_gt, show isS "gone" (.str "gone") = true from isS_self _, if_neg (by decide), if_neg (by decide), if_pos rfl, show ((i : Int)).toNat = i by simp, goneW] at q
    rw [drop2 (by omega)]
    refine ⟨_, rfl, _, rfl, trivial, _, _, rfl, ?_⟩
    show pr_lbehind_6 _ [.im (dK w), .im (.tuple [.str "gone", nD i]), .im (.tuple [.int (ltr w i), .int (ltr w (i + 1))]), .im (.int (ab (ltr w i - ltr w (i + 1)))), .im (.str "gone"), .im (nD i), .un]
    refine ⟨_, rfl, ?_⟩
    show if decide (("gone" : Str) = "far") = true then _ else _
    rw [n_gf, if_neg (by decide)]
    refine ⟨_, rfl, ?_⟩
    show if decide (("gone" : Str) = "gone") = true then _ else _
    rw [n_ss, if_pos rfl]
    refine ⟨_, rfl, ?_⟩
    show if decide (ab (ltr w i - ltr w (i + 1)) = 0) = true then _ else _
    by_cases c : ltr w i = ltr w (i + 1)
    · rw [if_pos (decide_eq_true (by unfold ab; split <;> omega))]
      rw [if_neg (fun z => z c)] at q
      have t1 := take_le w i
      have t2 := drop_le w (i + 2)
      refine ⟨_, rfl, _, rfl, ?_, _, _, rfl, ?_⟩
      · rw [cutK1, cutK2 (i := i + 2) (by omega), List.length_map, List.length_map]
        omega
      · rw [cutK1, cutK2 (i := i + 2) (by omega), ← List.map_append]
        exact q
    · rw [if_neg (by simp only [decide_eq_true_eq]; unfold ab; split <;> omega)]
      rw [if_pos c] at q
      refine ⟨_, rfl, ?_⟩
      show if decide (("gone" : Str) = "turn") = true then _ else _
      rw [n_gt, if_neg (by decide)]
      exact ⟨_, _, rfl, q⟩
  | turn a =>
    refine ⟨_, rfl, _, rfl, ?_⟩
    show if decide (("turn" : Str) = "come") = true then _ else _
    rw [n_tc, if_neg (by decide)]
    have q : Qp (.im (optD (if isWh 0 ((w.length : Int) - 2) (.int a) = true then (if isS "far" (.str "turn") = true then farW w a.toNat else if isS "turn" (.str "turn") = true then turnW w a.toNat else if isS "gone" (.str "turn") = true then goneW w a.toNat else none) else none))) [.un, .un] := q
    rw [show isS "far" (.str "turn") = false from n_tf, show isS "turn" (.str "turn") = true from isS_self _, if_neg (show ¬ (false = true) by decide), if_pos (show true = true from rfl)] at q
    refine hp_lb_pre (t := 1) (by rw [n_ss]; rfl) hl (fun c => ?_) fun i e hi => ?_
    · by_cases c2 : 0 ≤ a ∧ a ≤ (w.length : Int) - 2
      · rw [isWh_yes c2.1 c2.2, if_pos rfl, turnW, if_pos (by omega)] at q
        exact q
      · rw [isWh_no (by omega)] at q
        exact q
    subst e
    rw [isWh_yes (by omega) (by omega), if_pos rfl, show ((i : Int)).toNat = i by simp, turnW, if_neg (by omega)] at q
    rw [show 2 + 1 = 3 from rfl, drop3 (by omega)]
    refine ⟨_, rfl, _, rfl, trivial, _, _, rfl, ?_⟩
    show pr_lbehind_6 _ [.im (dK w), .im (.tuple [.str "turn", nD i]), .im (.tuple [.int (ltr w i), .int (ltr w (i + 1)), .int (ltr w (i + 2))]), .im (.int (ab (ltr w i - ltr w (i + 1)))), .im (.str "turn"), .im (nD i), .un]
    refine ⟨_, rfl, ?_⟩
    show if decide (("turn" : Str) = "far") = true then _ else _
    rw [n_tf, if_neg (by decide)]
    refine ⟨_, rfl, ?_⟩
    show if decide (("turn" : Str) = "gone") = true then _ else _
    rw [n_tg, if_neg (by decide)]
    refine ⟨_, rfl, ?_⟩
    show if decide (("turn" : Str) = "turn") = true then _ else _
    rw [n_ss, if_pos rfl]
    refine ⟨_, rfl, ?_⟩
    show if decide (ab (ltr w i - ltr w (i + 1)) = 1) = true then _ else _
    by_cases c2 : ab (ltr w i - ltr w (i + 1)) = 1
    · rw [if_pos (decide_eq_true c2)]
      refine ⟨_, rfl, _, rfl, _, rfl, ?_⟩
      show if decide (ltr w i = ltr w (i + 2)) = true then _ else _
      by_cases c1 : ltr w i = ltr w (i + 2)
      · rw [if_pos (decide_eq_true c1)]
        rw [if_neg (by rintro (z | z); exact z c1; exact z c2)] at q
        have t1 := take_le w i
        have t2 := drop_le w (i + 3)
        refine ⟨_, rfl, _, rfl, _, rfl, _, rfl, ?_, _, rfl, ?_, _, _, rfl, ?_⟩
        · rw [cutK1, List.length_map]
          show _ + 3 ≤ _
          omega
        · rw [List.length_append, cutK1, cutK2 (i := i + 3) (by omega), List.length_map, List.length_map]
          show _ + 3 + _ ≤ _
          omega
        · rw [cutK1, cutK2 (i := i + 3) (by omega), show [PyData.int (ltr w (i + 1)), .int (ltr w i), .int (ltr w (i + 1))] = [ltr w (i + 1), ltr w i, ltr w (i + 1)].map PyData.int from rfl, ← List.map_append, ← List.map_append]
          exact q
      · rw [if_neg (by simp [c1])]
        rw [if_pos (.inl c1)] at q
        exact ⟨_, _, rfl, q⟩
    · rw [if_neg (by simp [c2])]
      rw [if_pos (.inr c2)] at q
      exact ⟨_, _, rfl, q⟩
end Pv
/-! Words worn down: moves, one by one. -/
namespace Pv
open PySem PySem.Spec L2 Wf
inductive Mv where
  | far (i : Nat)
  | turn (i : Nat)
  | gone (i : Nat)
  | come (i k : Nat)
/-- one move -/
inductive StW : List Nat → Mv → List Nat → Prop
  | far {A D : List Nat} {x y : Nat} (h : x + 2 ≤ y ∨ y + 2 ≤ x) : StW (A ++ x :: y :: D) (.far A.length) (A ++ y :: x :: D)
  | turn {A D : List Nat} {x y : Nat} (h : x = y + 1 ∨ y = x + 1) : StW (A ++ x :: y :: x :: D) (.turn A.length) (A ++ y :: x :: y :: D)
  | gone {A D : List Nat} {x : Nat} : StW (A ++ x :: x :: D) (.gone A.length) (A ++ D)
  | come {A D : List Nat} {x : Nat} : StW (A ++ D) (.come A.length x) (A ++ x :: x :: D)
inductive Sts : List Nat → List Mv → List Nat → Prop
  | nil {w : List Nat} : Sts w [] w
  | cons {w v u : List Nat} {m : Mv} {ms : List Mv} : StW w m v → Sts v ms u → Sts w (m :: ms) u
theorem Sts.app {w v u : List Nat} {a b : List Mv} (h1 : Sts w a v) (h2 : Sts v b u) : Sts w (a ++ b) u := by
  induction h1 with
  | nil => exact h2
  | cons s _ ih => exact .cons s (ih h2)
/-- far moves at e - 1 down to s -/
def farsD (e s : Nat) : List Mv := (List.range (e - s)).map fun t => .far (e - 1 - t)
theorem farsD_len (e s : Nat) : (farsD e s).length = e - s := by unfold farsD; rw [List.length_map, List.length_range]
theorem farsD_self (s : Nat) : farsD s s = [] := by unfold farsD; rw [Nat.sub_self]; rfl
theorem farsD_succ {e s : Nat} (h : s ≤ e) : farsD (e + 1) s = .far e :: farsD e s := by
  unfold farsD
  rw [show e + 1 - s = (e - s) + 1 by omega, List.range_succ_eq_map, List.map_cons, List.map_map]
  congr 1
  refine List.map_congr_left fun t _ => ?_
  show Mv.far (e + 1 - 1 - (t + 1)) = Mv.far (e - 1 - t)
  congr 1
  omega
theorem far_all : ∀ (n : Nat) (R A T : List Nat) (L : Nat), R.length = n → (∀ x ∈ R, x + 2 ≤ L ∨ L + 2 ≤ x) → Sts (A ++ (R ++ L :: T)) (farsD (A.length + n) A.length) (A ++ L :: (R ++ T))
  | 0, R, A, T, L, h, _ => by
    have := List.length_eq_zero_iff.mp h
    subst this
    rw [Nat.add_zero, farsD_self]
    exact .nil
  | n + 1, R, A, T, L, h, hx => by
    obtain ⟨R', b, rfl, hl⟩ := snoc_of h
    rw [← Nat.add_assoc, farsD_succ (by omega)]
    have e : A ++ (R' ++ [b] ++ L :: T) = (A ++ R') ++ b :: L :: T := by simp
    have e2 : A.length + n = (A ++ R').length := by simp [hl]
    rw [e]
    refine .cons (v := (A ++ R') ++ L :: b :: T) ?_ ?_
    · rw [e2]
      exact .far (hx b (by simp))
    · have := far_all n R' A (b :: T) L hl fun x hx' => hx x (by simp [hx'])
      simpa using this
/-- the letter goes past a run that holds it and the one below -/
def thruD (s e like : Nat) : List Mv := farsD e (like + 2) ++ [.turn like] ++ farsD like s
theorem thru {A R1 R2 T : List Nat} {L : Nat} (h1 : ∀ x ∈ R1, L + 2 ≤ x + 1) (h2 : ∀ x ∈ R2, x + 2 ≤ L) (hL : 1 ≤ L) :
    Sts (A ++ (R1 ++ L :: (L - 1) :: R2) ++ L :: T) (thruD A.length (A.length + (R1.length + 2 + R2.length)) (A.length + R1.length)) (A ++ (L - 1) :: (R1 ++ L :: (L - 1) :: R2) ++ T) := by
  have s1 := far_all R2.length R2 (A ++ R1 ++ [L, L - 1]) T L rfl fun x hx => .inl (h2 x hx)
  have s2 : StW ((A ++ R1) ++ L :: (L - 1) :: L :: (R2 ++ T)) (.turn (A ++ R1).length) ((A ++ R1) ++ (L - 1) :: L :: (L - 1) :: (R2 ++ T)) := .turn (by omega)
  have s3 := far_all R1.length R1 A (L :: (L - 1) :: (R2 ++ T)) (L - 1) rfl fun x hx => .inr (by have := h1 x hx; omega)
  unfold thruD
  have l1 : (A ++ R1 ++ [L, L - 1]).length = A.length + R1.length + 2 := by simp; omega
  rw [l1] at s1
  rw [show A.length + (R1.length + 2 + R2.length) = A.length + R1.length + 2 + R2.length by omega]
  have l2 : (A ++ R1).length = A.length + R1.length := by simp
  rw [l2] at s2
  have s1' : Sts (A ++ (R1 ++ L :: (L - 1) :: R2) ++ L :: T) (farsD (A.length + R1.length + 2 + R2.length) (A.length + R1.length + 2)) ((A ++ R1) ++ L :: (L - 1) :: L :: (R2 ++ T)) := by simpa using s1
  have s3' : Sts ((A ++ R1) ++ (L - 1) :: L :: (L - 1) :: (R2 ++ T)) (farsD (A.length + R1.length) A.length) (A ++ (L - 1) :: (R1 ++ L :: (L - 1) :: R2) ++ T) := by simpa using s3
  exact (s1'.app (.cons s2 .nil)).app s3'
/-! ### runs -/
theorem runW_snoc (m c : Nat) : runW m (c + 1) = runW m c ++ [m - 1 - c] := by
  unfold runW
  rw [List.range_succ, List.map_append]
  rfl
theorem runW_mem {m c x : Nat} (h : x ∈ runW m c) (hc : c ≤ m) : m - c ≤ x ∧ x + 1 ≤ m := by
  obtain ⟨s, hs, rfl⟩ := List.mem_map.mp h
  have := List.mem_range.mp hs
  omega
/-- a run cut where the letter stands -/
theorem runW_cut {m c L : Nat} (hc : c ≤ m) (h1 : m - c < L) (h2 : L < m) : ∃ R1 R2, runW m c = R1 ++ L :: (L - 1) :: R2 ∧ R1.length = m - 1 - L ∧ R1.length + 2 + R2.length = c ∧ (∀ x ∈ R1, L + 2 ≤ x + 1) ∧ ∀ x ∈ R2, x + 2 ≤ L := by
  refine ⟨(runW m c).take (m - 1 - L), (runW m c).drop (m - 1 - L + 2), ?_, ?_, ?_, fun x hx => ?_, fun x hx => ?_⟩
  · have hl : (runW m c).length = c := runW_len m c
    have g1 : (runW m c)[m - 1 - L]? = some L := by
      unfold runW
      rw [List.getElem?_map, List.getElem?_range (by omega)]
      show some (m - 1 - (m - 1 - L)) = some L
      congr 1
      omega
    have g2 : (runW m c)[m - 1 - L + 1]? = some (L - 1) := by
      unfold runW
      rw [List.getElem?_map, List.getElem?_range (by omega)]
      show some (m - 1 - (m - 1 - L + 1)) = some (L - 1)
      congr 1
      omega
    obtain ⟨b1, b2⟩ := List.getElem?_eq_some_iff.mp g1
    obtain ⟨b3, b4⟩ := List.getElem?_eq_some_iff.mp g2
    have e1 : (runW m c).drop (m - 1 - L) = L :: (L - 1) :: (runW m c).drop (m - 1 - L + 2) := by
      rw [List.drop_eq_getElem_cons b1, b2, List.drop_eq_getElem_cons b3, b4]
    rw [← e1, List.take_append_drop]
  · rw [List.length_take, runW_len]; omega
  · rw [List.length_take, List.length_drop, runW_len]; omega
  · obtain ⟨i, hi⟩ := List.getElem?_of_mem hx
    rw [List.getElem?_take] at hi
    split at hi
    · rename_i hlt
      have hm := List.mem_of_getElem? hi
      unfold runW at hi
      rw [List.getElem?_map] at hi
      obtain ⟨s, h3, h4⟩ := Option.map_eq_some_iff.mp hi
      obtain ⟨h5, h6⟩ := List.getElem?_eq_some_iff.mp h3
      rw [List.getElem_range] at h6
      omega
    · cases hi
  · obtain ⟨i, hi⟩ := List.getElem?_of_mem hx
    rw [List.getElem?_drop] at hi
    unfold runW at hi
    rw [List.getElem?_map] at hi
    obtain ⟨s, h3, h4⟩ := Option.map_eq_some_iff.mp hi
    obtain ⟨h5, h6⟩ := List.getElem?_eq_some_iff.mp h3
    rw [List.getElem_range] at h6
    rw [List.length_range] at h5
    omega
abbrev posW (c : Nat → Nat) (m : Nat) : Nat := (runsW c m).length
theorem pos_succ (c : Nat → Nat) (m : Nat) : posW c (m + 1) = posW c m + c m := by
  unfold posW
  rw [runsW_succ, List.length_append, runW_len]
/-! ### a letter put in -/
def updC (c : Nat → Nat) (m v : Nat) : Nat → Nat := fun j => if j = m then v else c j
def insM (c : Nat → Nat) : Nat → Nat → List Mv
  | 0, _ => []
  | m + 1, L => if c m = 0 then insM c m L
    else if m ≤ L then []
    else if L + 1 = m - c m then []
    else if L = m - c m then [.gone (posW c (m + 1) - 1)]
    else if L < m - c m then farsD (posW c (m + 1)) (posW c m) ++ insM c m L
    else thruD (posW c m) (posW c (m + 1)) (posW c m + (m - 1 - L)) ++ insM c m (L - 1)
def resW (c : Nat → Nat) : Nat → Nat → List Nat
  | 0, L => [L]
  | m + 1, L => if c m = 0 then resW c m L
    else if m ≤ L then runsW c (m + 1) ++ [L]
    else if L + 1 = m - c m then runsW c (m + 1) ++ [L]
    else if L = m - c m then runsW c m ++ runW m (c m - 1)
    else if L < m - c m then resW c m L ++ runW m (c m)
    else resW c m (L - 1) ++ runW m (c m)
def insC (c : Nat → Nat) : Nat → Nat → Nat → Nat
  | 0, L => updC c (L + 1) 1
  | m + 1, L => if c m = 0 then insC c m L
    else if m ≤ L then updC c (L + 1) 1
    else if L + 1 = m - c m then updC c m (c m + 1)
    else if L = m - c m then updC c m (c m - 1)
    else if L < m - c m then insC c m L
    else insC c m (L - 1)
theorem runsW_zero {c : Nat → Nat} {m : Nat} (h : c m = 0) : runsW c (m + 1) = runsW c m := by
  rw [runsW_succ, h]
  show _ ++ [] = _
  rw [List.append_nil]
theorem ins_sts {c : Nat → Nat} (hc : ∀ j, c j ≤ j) : ∀ (m L : Nat) (T : List Nat), Sts (runsW c m ++ L :: T) (insM c m L) (resW c m L ++ T)
  | 0, L, T => .nil
  | m + 1, L, T => by
    unfold insM resW
    have hm := hc m
    by_cases h0 : c m = 0
    · rw [if_pos h0, if_pos h0, runsW_zero h0]
      exact ins_sts hc m L T
    rw [if_neg h0, if_neg h0]
    by_cases h1 : m ≤ L
    · rw [if_pos h1, if_pos h1]
      simpa using (Sts.nil (w := runsW c (m + 1) ++ L :: T))
    rw [if_neg h1, if_neg h1]
    by_cases h2 : L + 1 = m - c m
    · rw [if_pos h2, if_pos h2]
      simpa using (Sts.nil (w := runsW c (m + 1) ++ L :: T))
    rw [if_neg h2, if_neg h2]
    by_cases h3 : L = m - c m
    · rw [if_pos h3, if_pos h3]
      obtain ⟨k, hk⟩ : ∃ k, c m = k + 1 := ⟨c m - 1, by omega⟩
      have e1 : runsW c (m + 1) = runsW c m ++ (runW m k ++ [L]) := by
        rw [runsW_succ, hk, runW_snoc]
        congr 3
        omega
      have e2 : posW c (m + 1) - 1 = (runsW c m ++ runW m k).length := by
        rw [pos_succ, List.length_append, runW_len, hk]
        show (runsW c m).length + (k + 1) - 1 = _
        omega
      rw [e1, e2, hk, show k + 1 - 1 = k by omega]
      have s := StW.gone (A := runsW c m ++ runW m k) (D := T) (x := L)
      exact .cons (by simpa using s) .nil
    rw [if_neg h3, if_neg h3]
    by_cases h4 : L < m - c m
    · rw [if_pos h4, if_pos h4, runsW_succ]
      have s := far_all (c m) (runW m (c m)) (runsW c m) T L (runW_len m (c m)) fun x hx => by
        have := runW_mem hx hm
        omega
      have s2 := ins_sts hc m L (runW m (c m) ++ T)
      rw [pos_succ]
      have s3 := s.app s2
      simpa using s3
    · rw [if_neg h4, if_neg h4, runsW_succ]
      obtain ⟨R1, R2, e, l1, l2, b1, b2⟩ := runW_cut hm (L := L) (by omega) (by omega)
      have s := thru (A := runsW c m) (T := T) b1 b2 (by omega)
      have s2 := ins_sts hc m (L - 1) (runW m (c m) ++ T)
      rw [← e, l2, l1] at s
      rw [pos_succ]
      have s3 := s.app (by simpa using s2)
      simpa using s3
theorem insM_len {c : Nat → Nat} : ∀ (m L : Nat), (insM c m L).length ≤ posW c m
  | 0, L => Nat.le_refl 0
  | m + 1, L => by
    unfold insM
    have p := pos_succ c m
    split
    · have := insM_len (c := c) m L; omega
    split
    · simp
    split
    · simp
    split
    · simp only [List.length_cons, List.length_nil]; omega
    split
    · have := insM_len (c := c) m L
      rw [List.length_append, farsD_len]; omega
    · have := insM_len (c := c) m (L - 1)
      unfold thruD
      simp only [List.length_append, farsD_len, List.length_cons, List.length_nil]
      omega
theorem ins_far {c : Nat → Nat} : ∀ (m L j : Nat), m ≤ j → j ≠ L + 1 → insC c m L j = c j
  | 0, L, j, _, h => by unfold insC updC; rw [if_neg h]
  | m + 1, L, j, hm, h => by
    unfold insC updC
    split
    · exact ins_far m L j (by omega) h
    split
    · exact if_neg h
    split
    · exact if_neg (by omega)
    split
    · exact if_neg (by omega)
    split
    · exact ins_far m L j (by omega) h
    · exact ins_far m (L - 1) j (by omega) (by omega)
theorem ins_le {c : Nat → Nat} (hc : ∀ j, c j ≤ j) : ∀ (m L j : Nat), insC c m L j ≤ j
  | 0, L, j => by
    unfold insC updC
    have := hc j
    split <;> omega
  | m + 1, L, j => by
    unfold insC updC
    have := hc j
    have := hc m
    split
    · exact ins_le hc m L j
    split
    · show (if j = L + 1 then 1 else c j) ≤ j
      split <;> omega
    split
    · show (if j = m then c m + 1 else c j) ≤ j
      split <;> omega
    split
    · show (if j = m then c m - 1 else c j) ≤ j
      split <;> omega
    split
    · exact ins_le hc m L j
    · exact ins_le hc m (L - 1) j
theorem runs_congr {c d : Nat → Nat} : ∀ {M : Nat}, (∀ j, j < M → c j = d j) → runsW c M = runsW d M
  | 0, _ => rfl
  | M + 1, h => by rw [runsW_succ, runsW_succ, runs_congr fun j hj => h j (by omega), h M (by omega)]
theorem runs_tail {c : Nat → Nat} {k : Nat} : ∀ {M : Nat}, k ≤ M → (∀ j, k ≤ j → j < M → c j = 0) → runsW c M = runsW c k
  | 0, h, _ => by rw [show k = 0 by omega]
  | M + 1, h, hz => by
    by_cases e : k = M + 1
    · rw [e]
    · rw [runsW_zero (hz M (by omega) (by omega))]
      exact runs_tail (by omega) fun j h1 h2 => hz j h1 (by omega)
theorem upd_self (c : Nat → Nat) (m v : Nat) : updC c m v m = v := by unfold updC; rw [if_pos rfl]
theorem upd_ne {c : Nat → Nat} {m v j : Nat} (h : j ≠ m) : updC c m v j = c j := by unfold updC; rw [if_neg h]
/-- a run changed, none behind it -/
theorem runs_upd {c : Nat → Nat} {m v M : Nat} (hm : m < M) (hz : ∀ j, m < j → j < M → c j = 0) : runsW (updC c m v) M = runsW c m ++ runW m v := by
  rw [runs_tail (k := m + 1) (by omega) (fun j h1 h2 => by rw [upd_ne (by omega)]; exact hz j (by omega) h2), runsW_succ, upd_self,
    runs_congr (c := updC c m v) (d := c) (fun j hj => upd_ne (by omega))]
theorem res_runs {c : Nat → Nat} (hc : ∀ j, c j ≤ j) : ∀ (m L M : Nat), m ≤ M → L + 2 ≤ M → (∀ j, m ≤ j → j < M → c j = 0) → resW c m L = runsW (insC c m L) M
  | 0, L, M, _, hL, hz => by
    unfold resW insC
    rw [runs_upd (by omega) fun j h1 h2 => hz j (by omega) h2, runs_tail (c := c) (k := 0) (by omega) fun j h1 h2 => hz j h1 (by omega)]
    rfl
  | m + 1, L, M, hm, hL, hz => by
    have hcm := hc m
    unfold resW insC
    by_cases h0 : c m = 0
    · rw [if_pos h0, if_pos h0]
      refine res_runs hc m L M (by omega) hL fun j h1 h2 => ?_
      by_cases e : j = m
      · rw [e]; exact h0
      · exact hz j (by omega) h2
    rw [if_neg h0, if_neg h0]
    by_cases h1 : m ≤ L
    · rw [if_pos h1, if_pos h1, runs_upd (by omega) fun j h1 h2 => hz j (by omega) h2, runs_tail (c := c) (k := m + 1) (M := L + 1) (by omega) fun j h1 h2 => hz j h1 (by omega)]
      rfl
    rw [if_neg h1, if_neg h1]
    by_cases h2 : L + 1 = m - c m
    · rw [if_pos h2, if_pos h2, runs_upd (by omega) fun j h1 h2 => hz j (by omega) h2, runW_snoc, runsW_succ, List.append_assoc, show m - 1 - c m = L by omega]
    rw [if_neg h2, if_neg h2]
    by_cases h3 : L = m - c m
    · rw [if_pos h3, if_pos h3, runs_upd (by omega) fun j h1 h2 => hz j (by omega) h2]
    rw [if_neg h3, if_neg h3]
    by_cases h4 : L < m - c m
    · rw [if_pos h4, if_pos h4, runs_tail (c := insC c m L) (k := m + 1) hm (fun j a1 a2 => by rw [ins_far m L j (by omega) (by omega)]; exact hz j a1 a2), runsW_succ,
        res_runs hc m L m (Nat.le_refl _) (by omega) (fun j a1 a2 => absurd a1 (by omega)), ins_far m L m (Nat.le_refl _) (by omega)]
    · rw [if_neg h4, if_neg h4, runs_tail (c := insC c m (L - 1)) (k := m + 1) hm (fun j a1 a2 => by rw [ins_far m (L - 1) j (by omega) (by omega)]; exact hz j a1 a2), runsW_succ,
        res_runs hc m (L - 1) m (Nat.le_refl _) (by omega) (fun j a1 a2 => absurd a1 (by omega)), ins_far m (L - 1) m (Nat.le_refl _) (by omega)]
/-! ### a word worn down -/
def wearC (N : Nat) (c : Nat → Nat) (w : List Nat) : Nat → Nat := w.foldl (fun c L => insC c N L) c
def wearM (N : Nat) : (Nat → Nat) → List Nat → List Mv
  | _, [] => []
  | c, L :: w => insM c N L ++ wearM N (insC c N L) w
theorem wear_le {N : Nat} : ∀ {w : List Nat} {c : Nat → Nat}, (∀ j, c j ≤ j) → ∀ j, wearC N c w j ≤ j
  | [], c, h, j => h j
  | L :: w, c, h, j => wear_le (w := w) (ins_le h N L) j
theorem wear_sts {N : Nat} : ∀ {w : List Nat} {c : Nat → Nat}, (∀ j, c j ≤ j) → (∀ L ∈ w, L + 2 ≤ N) → Sts (runsW c N ++ w) (wearM N c w) (runsW (wearC N c w) N)
  | [], c, _, _ => by
    rw [List.append_nil]
    exact .nil
  | L :: w, c, h, hw => by
    have s1 := ins_sts h N L w
    rw [res_runs h N L N (Nat.le_refl _) (hw L List.mem_cons_self) fun j h1 h2 => absurd h1 (by omega)] at s1
    exact s1.app (wear_sts (ins_le h N L) fun x hx => hw x (List.mem_cons_of_mem _ hx))
def c0 : Nat → Nat := fun _ => 0
theorem runs0 : ∀ N : Nat, runsW c0 N = []
  | 0 => rfl
  | N + 1 => by rw [runsW_zero rfl]; exact runs0 N
end Pv
/-! Calls with keywords, and defs with a default for a keyword. -/
namespace Wf
open PySem PySem.Spec L2
end Wf
namespace Pv
open PySem PySem.Spec L2 Wf
end Pv
/-! t[::-1] of a tuple, in the model. -/
namespace Wf
open PySem PySem.Spec PyProof.Rows
end Wf
namespace Pv
open PySem PySem.Spec L2 Wf
/-! ### isinstance(caught error, a built-in class) -/
/-! ### t[::-1] of a tuple -/
end Pv
/-! tuple(d), d a dict whose keys are tuples -/
namespace Wf
open PySem PySem.Spec PyProof.Rows
end Wf
/-! Dicts by tuples of numbers, by value. -/
namespace Pv
open PySem PySem.Spec L2 Wf
variable {B : Bas}
theorem NoX.dT {H : Hp} {a : Addr} {kvs : List (List Key × V)} (e : H a = some (.dT kvs)) : NoX H a := NoX.of e (fun _ z => by cases z) (fun _ _ z => by cases z) fun _ z => by cases z
end Pv
/-! dicts whose keys are tuples of numbers or rows, whatever the keys' objects are: asked, written, listed -/
namespace Wf
open PySem PySem.Spec L2 PyProof.Rows
/-- v is an object that is this key -/
def KeyV (K : PySem.W.Frag) (H : Hp) : (r : Bool) → KyT r → V → Prop
  | false, l, v => ∃ b, v = .ref b ∧ SqT K H b (l.map V.int)
  | true, ks, v => ∃ b cs, v = .ref b ∧ SqT K H b (cs.map V.ref) ∧ Paired (fun (l : List Int) c => SqT K H c (l.map V.int)) ks cs
section
variable {X : Cx} {pins : List (Addr × Obj)} {σ : L2.St} {H : Hp} {s : Shared}
theorem KeyV.ref : ∀ {K : PySem.W.Frag} {r : Bool} {k : KyT r} {v : V}, KeyV K H r k v → ∃ b, v = .ref b
  | _, false, _, _, ⟨b, e, _⟩ => ⟨b, e⟩
  | _, true, _, _, ⟨b, _, e, _⟩ => ⟨b, e⟩
variable {A : Around} {E : Value → Shared → Prop}
end
/-- a dict's object may be a dict's in some heap -/
theorem heap_at (o : Obj) (ho : o.isFreed = false) : ∀ n : Nat, ∃ h : Heap, h.objs.size = n ∧ ∀ i < n, h.get? i = some o
  | 0 => ⟨{}, rfl, fun i h => absurd h (Nat.not_lt_zero i)⟩
  | n + 1 => by
    obtain ⟨h, hs, hh⟩ := heap_at o ho n
    refine ⟨h.push o, by rw [Heap.size_push, hs], fun i hi => ?_⟩
    by_cases e : i = n
    · subst e
      rw [← hs]
      exact Heap.get?_push_size _ ho
    · exact Heap.get?_push_of_some _ (hh i (by omega))
theorem valEx : ∀ v : V, ∃ u : Value, RelV v u
  | .non => ⟨_, rfl⟩
  | .bl _ => ⟨_, rfl⟩
  | .int i => ⟨.int i default, default, rfl⟩
  | .str x => ⟨.str x default, default, rfl⟩
  | .byt x => ⟨.bytes x default, default, rfl⟩
  | .flt x => ⟨.float x default, default, rfl⟩
  | .ref _ => ⟨_, rfl⟩
  | .ty _ => ⟨_, rfl⟩
theorem valsEx : ∀ us : List V, ∃ ws, Vals us ws
  | [] => ⟨[], .nil⟩
  | v :: us => by
    obtain ⟨u, h⟩ := valEx v
    obtain ⟨ws, hs⟩ := valsEx us
    exact ⟨u :: ws, .cons h hs⟩
theorem dct_own {a : Addr} {r : Bool} {ks : List (KyT r)} {bs : List Addr} {us : List V} {φ : Heap → Prop} (e : DctO a r ks bs us = .ext φ) : OwnD φ a := by
  unfold DctO at e
  cases e
  obtain ⟨ws, rv⟩ := valsEx us
  obtain ⟨h, hs, hh⟩ := heap_at { cls := .type "dict", data := .dict ((ks.zip (bs.zip ws)).map (entD r)).toArray } rfl (a + 1)
  exact ⟨h, ⟨ws, rv, _, _, _, hh a (Nat.lt_succ_self a), ⟨rfl, rfl, rfl⟩, rfl, by simp⟩, _, _, _, hh a (Nat.lt_succ_self a), rfl⟩
end Wf
/-! Dicts by tuples of numbers or by rows, by value, whatever objects the keys are. -/
namespace Pv
open PySem PySem.Spec L2 Wf
variable {B : Bas}
theorem NoX.dct {H : Hp} {a : Addr} {r : Bool} {ks : List (KyT r)} {bs : List Addr} {us : List V} (e : H a = some (DctO a r ks bs us)) : NoX H a := NoX.own (φ := _) e (dct_own rfl)
end Pv
/-! list.index of data. By value. -/
namespace Pv
open PySem PySem.Spec L2 Wf
end Pv
/-! sorted(xs, reverse=True), list(zip(t, u)) by value. -/
namespace Pv
open PySem PySem.Spec L2 Wf
end Pv
/-! x -= number; range(a, b, -1); list.count of a text; max(tuple, default=number). -/
namespace Pv
open PySem PySem.Spec L2 Wf
variable {B : Bas}
section
variable {X : Cx}
def pAugS (i : Nat) (pa : PX) : PSx := fun E δ => ∃ a0 : Int, δ[i]? = some (.im (.int a0)) ∧ pa δ fun r δ1 => ∃ b : Int, dat δ1 r = some (.int b) ∧ setS i (.im (.int (a0 - b))) δ1 E.nx
theorem js_augS {i : Nat} {x : Str} {e : Expr} {pa : PX} {pos pos' : Pos} (hN : X.N.Nodup) (hi : X.N[i]? = some x) (hx : Loc X.env.scope x) (he : JE X B e pa) (hf : X.fn x = true ∨ X.env.scope.names.lookup x = some .local := by first | exact .inl rfl | exact .inr rfl | assumption) :
    JS X B (.AugAssign (.Name x pos') .Sub e pos) (pAugS i pa) := PS_wk (ps_aug hN hi hx he ip_sub hf) fun D σ H ⟨G, w, δ, E, rep, ⟨a0, e0, q⟩, ek⟩ => by
  obtain ⟨v, hv, dq⟩ := rep.sl i _ e0
  cases dq
  refine ⟨_, hv, G, w, δ, _, rep, q, fun r δ1 y H1 G1 w1 q1 s1 rep1 => ?_⟩
  obtain ⟨b, hb, q1⟩ := q1
  have hy := rep1.dpH (j := 0) rfl rfl hb
  cases hy
  refine ⟨a0, b, rfl, rfl, ?_⟩
  have r2 := rep1.ret (v := .int (a0 - b)) (d := .int (a0 - b)) (.int _)
  obtain ⟨w3, q3, s3, r3, p3⟩ := r2.sto q1 rfl (fun p hp => by cases hp)
  exact ek.nx _ _ H1 G1 w3 q3 ((s1.trans .drop).trans s3) r3 ((Pin.refl (σ := σ)).trans (s1.trans .drop).pn p3)
/-! ### range(a, b, -1) -/
def rgDn (a b : Int) : List PyData := (List.range (a - b).toNat).map fun (i : Nat) => PyData.int (a + (i : Nat) * -1)
theorem itd_rgn {K : PySem.W.Frag} {G : Hp} {a b : Int} : ItD K G (Itc a (-1) (a - b).toNat) (rgDn a b) where
  go := fun G' H' i _ _ hi => by
    unfold rgDn at hi
    rw [List.length_map, List.length_range] at hi
    exact hi
  yld := fun G' H' i x H2 _ _ hi y => by
    obtain ⟨rfl, rfl⟩ := y
    unfold rgDn at hi ⊢
    rw [List.length_map, List.length_range] at hi
    exact ⟨.int (a + (i : Nat) * -1), by rw [List.getElem?_map, List.getElem?_range hi]; rfl, .int⟩
  stop := fun G' H' _ _ => by
    unfold rgDn
    rw [List.length_map, List.length_range]
    exact Nat.le_refl _
def iRgN (ps : PL) : PIx := fun δ Q => ps δ fun rs δ1 => ∃ i j : Int, dats δ1 rs = some [.int i, .int j, .int (-1)] ∧ (-(2 ^ 62) ≤ i ∧ i < 2 ^ 62 ∧ -(2 ^ 62) ≤ j ∧ j < 2 ^ 62) ∧ Q (rgDn i j) δ1
variable {tg a b c : Expr} {p pos : Pos}
theorem ji_rngN {ps : PL} (hg : Gl X "range") (hm : X.mg "range" = none) (ha : JA X B [a, b, c] ps)
    (hs : starEach [a, b, c] X.env = (false, eval a X.env) :: starEach [b, c] X.env := by rfl) (hpl : (backTo pos (starEach [b, c] X.env)).any (·.1) = false := by rfl) : JI X B tg (.Call (.Name "range" p) [a, b, c] [] pos) (iRgN ps) := by
  refine PI_wk (pi_range3 hg hm ha hs hpl) fun σ H R ⟨G, w, δ, Qp, rep, q, k⟩ => ?_
  refine ⟨G, w, δ, _, rep, q, fun rs δ1 vs H1 G1 w1 q1 l1 s1 rep1 => ?_⟩
  obtain ⟨i, j, e, ⟨b1, b2, b3, b4⟩, q1⟩ := q1
  have hv := rep1.vws e
  have ev : vs = [.int i, .int j, .int (-1)] := by
    cases hv with
    | cons h1 h =>
      cases h with
      | cons h2 h =>
        cases h with
        | cons h3 h => cases h; rw [h1.int, h2.int, h3.int]
  exact ⟨i, j, -1, _, ev, RgC.neg b1 b2 b3 b4, k _ δ1 _ H1 G1 _ q1 (s1.trans .drop) rep1.drop itd_rgn⟩
end
/-! ### list.count of data -/
end Pv
namespace L2
open PySem PySem.Spec PyProof.Rows
section
variable {X : Cx}
/-! ### max(tuple of numbers, default=number) -/
def maxI (k : Int) : List Int → Int
  | [] => k
  | n :: ns => ns.foldl max n
def rMaxTD (K : PySem.W.Frag) : List V → List V → Hp → VK → Prop := fun vs zs H Q => ∃ (a : Addr) (ns : List Int) (k : Int), vs = [.ref a] ∧ zs = [.int k] ∧ SqT K H a (ns.map V.int) ∧ Q (.int (maxI k ns)) H
theorem depth_ints : ∀ ns : List Int, PyData.depthAll (ns.map PyData.int) = 0
  | [] => rfl
  | n :: ns => by
    show max 0 (PyData.depthAll (ns.map PyData.int)) = 0
    rw [depth_ints ns]
    rfl
theorem dpAll_intsX {K : PySem.W.Frag} {H : Hp} : ∀ ns : List Int, DpAll K H (ns.map V.int) (ns.map PyData.int)
  | [] => .nil
  | n :: ns => .cons (.int n) (dpAll_intsX ns)
theorem cr_maxTD (hcalm : X.calm = true) (hu : X.A.units + 3 < cLine) : CallRK X (.builtin "max") [Str.ofString "default"] (rMaxTD X.K) := by
  intro pins s σ H xs zs us ws Q I r rz h
  obtain ⟨a, ns, k, rfl, rfl, hs, q⟩ := h
  rw [Vals.ref1 r]
  obtain ⟨w0, rfl, rw0⟩ := rz.one
  obtain ⟨t0, rfl⟩ := rw0
  obtain ⟨its, rv, hl, hz⟩ := I.tuple hs
  obtain ⟨as, h4⟩ := Dp.readsAll I _ _ its (dpAll_intsX ns) rv
  have al : PySem.W.AlikeAll (ns.map PyData.int) := ⟨fun x hx y hy => by
    obtain ⟨i, _, rfl⟩ := List.mem_map.mp hx
    obtain ⟨j, _, rfl⟩ := List.mem_map.mp hy
    simp only [PySem.W.alike], fun x hx z => by
    obtain ⟨i, _, rfl⟩ := List.mem_map.mp hx
    cases z⟩
  refine PySem.W.max_tuple_default (xs := ns.map PyData.int) (I.ok.hd hcalm) hl h4 al (by rw [depth_ints]; omega) (fun e h' tk kp => ?_) fun y ys i v h' tk bs e hv rd kp => ?_
  · cases ns with
    | cons n ns => simp at e
    | nil => exact ⟨.int k, H, I.kept kp, ⟨t0, rfl⟩, q⟩
  · cases ns with
    | nil => simp at e
    | cons n ns =>
      rw [List.map_cons, List.cons.injEq] at e
      obtain ⟨e1, e2⟩ := e
      subst e1 e2
      rw [PySem.W.maxD_ints] at rd
      cases rd
      exact ⟨.int _, H, I.kept kp, ⟨_, rfl⟩, q⟩
end
end L2
namespace Pv
open PySem PySem.Spec L2 Wf
variable {B : Bas}
def pMaxTD (p pk : PX) : PX := fun δ Q => p δ fun r δ1 => pk δ1 fun rk δ2 => ∃ (ns : List Int) (k : Int), dat δ2 r = some (.tuple (ns.map .int)) ∧ dat δ2 rk = some (.int k) ∧ Q (.im (.int (maxI k ns))) δ2
theorem je_maxTD {X : Cx} {e e2 : Expr} {pe pk : PX} {p kp pos : Pos} (hc : X.calm = true) (hu : X.A.units + 3 < cLine) (hg : Gl X "max") (hm : X.mg "max" = none) (hv : bootBuiltins "max" = some (.builtin "max")) (he : JE X B e pe) (hk : JE X B e2 pk)
    (h0 : starEach [e] X.env = (false, eval e X.env) :: starEach [] X.env := by rfl) (h1 : backTo pos (starEach [e] X.env) = (false, eval e X.env) :: backTo pos (starEach [] X.env) := by rfl) (hpl : (backTo pos (starEach [e] X.env)).any (·.1) = false := by rfl)
    (hall : (backToKw pos (keywordEach [⟨some "default", e2, kp⟩] X.env)).all (·.1.isSome) = true := by rfl) (hnone : (backToKw pos (keywordEach [⟨some "default", e2, kp⟩] X.env)).any (·.1.isNone) = false := by rfl) (hks : (backToKw pos (keywordEach [⟨some "default", e2, kp⟩] X.env)).filterMap (·.1) = [Str.ofString "default"] := by rfl) :
    JE X B (.Call (.Name "max" p) [e] [⟨some "default", e2, kp⟩] pos) (pMaxTD pe pk) := by
  refine PE_wk (pe_callBK (cr_maxTD hc hu) hg hm hv (pa_cons he pa_nil h0) (pk_cons hk pk_nil) (he := h1) (hpl := hpl) (hall := hall) (hnone := hnone) (hks := hks)) fun σ H Q ⟨G, w, δ, Qp, rep, q, kk⟩ => ?_
  refine ⟨G, w, δ, _, rep, q, fun r δ1 v H1 G1 w1 q1 s1 rep1 => ?_⟩
  refine ⟨G1, _, δ1, _, rep1.drop, q1, fun rk δ2 z H2 G2 w2 q2 s2 rep2 => ?_⟩
  obtain ⟨w4, s4, rep4⟩ := rep1.frame s2 rep2
  obtain ⟨ns, k, hd, hk, q3⟩ := q2
  obtain ⟨a, us, rfl, ha, hds, _⟩ := Vw.seqT rep4.sub (rep4.dat (j := 0) rfl rfl hd)
  cases dqAll_ints2 hds
  have ez := Vw.int (rep4.dat (j := 1) rfl rfl hk)
  subst ez
  exact ⟨a, ns, k, rfl, rfl, ha, kk _ δ2 _ _ _ _ q3 ((s1.trans s4).trans .drop) (rep4.ret (.int _))⟩
end Pv
namespace Pv
open PySem PySem.Spec L2 Wf
/-- max(xs), xs a list of numbers -/
def fMaxL : PyData → (PyData → Prop) → Prop := fun d k => ∃ ns : List Int, d = .list (ns.map .int) ∧ 0 < ns.length ∧ ∀ m, m ∈ ns → (∀ y, y ∈ ns → y ≤ m) → k (.int m)
theorem lc_maxL {K : PySem.W.Frag} : LC K (q1 fMaxL) (rMax K) := by
  refine lc_im1 (fun G H v d Q s hv q => ?_) (fun d k k' hk q => ?_)
  · obtain ⟨ns, rfl, hl, q⟩ := q
    obtain ⟨a, us, rfl, ha, hds⟩ := hv.seqL s
    cases dqAll_ints2 hds
    exact ⟨a, ns, rfl, SqL.of ha, hl, fun m h1 h2 => q m h1 h2 _ _ .int⟩
  · obtain ⟨ns, e, hl, q⟩ := q
    exact ⟨ns, e, hl, fun m h1 h2 => hk _ (q m h1 h2)⟩
end Pv
namespace Pv
open PySem PySem.Spec L2 Wf
/-! wear_down: its defs. -/
/-! ### start_of_run -/
-- DEF start_of_run N ['normal', 'end', 'start'] calls [] takes []
def pb_startrun_1 : PSx :=
    pAugS 2 (pK (.int 1))
def pr_startrun_1 : PSx :=
    pRet (pVar 2)
def pr_startrun_2 : PSx :=
    pSeq (pWhile [] (pAnd (pT (pGt (pVar 2) (pK (.int 0)))) (pT (pGt (pIx (pVar 0) (pSub (pVar 2) (pK (.int 1)))) (pIx (pVar 0) (pVar 2))))) (pb_startrun_1))
    (pr_startrun_1)
def p_startrun : PSx :=
    pSeq (pSet 2 (pSub (pVar 1) (pK (.int 1))))
    (pr_startrun_2)
/-- where the run before e starts -/
structure RunAt (ns : List Nat) (s e : Nat) : Prop where
  lt : s < e
  le : e ≤ ns.length
  down : ∀ i, s < i → i < e → ns.getD i 0 < ns.getD (i - 1) 0
  stop : s = 0 ∨ ns.getD (s - 1) 0 ≤ ns.getD s 0
def psp_startrun : PSp := fun as Q _ => ∃ (ns : List Nat) (s e : Nat), as = [.im (.tuple (dN ns)), .im (nD e)] ∧ RunAt ns s e ∧ Q (.im (nD s)) [.un, .un]
theorem hp_startrun (as : List Sl) (Qp : QE) (Ep : EX) (h : psp_startrun as Qp Ep) : p_startrun (endsP as Qp) (as ++ List.replicate 1 .un) := by
  obtain ⟨ns, s, e, rfl, ra, q⟩ := h
  have h1 := ra.lt
  have h2 := ra.le
  have ee : (e : Int) - 1 = ((e - 1 : Nat) : Int) := by omega
  refine ⟨trivial, _, _, rfl, ?_⟩
  show pr_startrun_2 _ [.im (.tuple (dN ns)), .im (nD e), .im (.int ((e : Int) - 1))]
  rw [ee]
  refine ⟨fun m δ => ∃ t, s ≤ t ∧ t < e ∧ m = t ∧ δ = [.im (.tuple (dN ns)), .im (nD e), .im (nD t)], ⟨e - 1, e - 1, by omega, by omega, rfl, rfl⟩, ?_⟩
  rintro t δ ⟨_, t1, t2, rfl, rfl⟩
  refine ⟨trivial, _, rfl, ?_⟩
  have fin : t = s → pr_startrun_1 (endsP [.im (.tuple (dN ns)), .im (nD e)] Qp) [.im (.tuple (dN ns)), .im (nD e), .im (nD t)] := fun z => by
    subst z
    exact ⟨_, _, rfl, q⟩
  show if decide ((0 : Int) < (t : Int)) = true then _ else _
  by_cases c : t = 0
  · rw [if_neg (by simp only [decide_eq_true_eq]; omega)]
    exact fin (by omega)
  · rw [if_pos (decide_eq_true (by omega))]
    have e1 : (t : Int) - 1 = ((t - 1 : Nat) : Int) := by omega
    refine ⟨trivial, _, atI_of e1 (dN_get (getD_of (i := t - 1) (by omega))), _, atI_of rfl (dN_get (getD_of (i := t) (by omega))), trivial, _, rfl, ?_⟩
    show if decide (((ns.getD t 0 : Nat) : Int) < ((ns.getD (t - 1) 0 : Nat) : Int)) = true then _ else _
    by_cases d : t = s
    · have := ra.stop
      rw [if_neg (by simp only [decide_eq_true_eq]; subst d; omega)]
      exact fin d
    · have := ra.down t (by omega) t2
      rw [if_pos (decide_eq_true (by omega))]
      refine ⟨_, rfl, _, rfl, t - 1, by omega, t - 1, by omega, by omega, rfl, ?_⟩
      show [Sl.im (.tuple (dN ns)), .im (nD e), .im (.int ((t : Int) - 1))] = _
      rw [e1]
/-! ### moves_past -/
-- DEF moves_past N ['normal', 'start', 'end', 'letter', 'like', 'behind', 'ahead', 'i'] calls [] takes []
def pe_mpast_1 : PX :=
    pTup (pCons (pK (.str "far")) (pCons (pVar 7) (pNil)))
def pe_mpast_2 : PX :=
    pTup (pCons (pK (.str "far")) (pCons (pVar 7) (pNil)))
def pe_mpast_3 : PX :=
    pTup (pCons (pK (.str "far")) (pCons (pVar 7) (pNil)))
def pr_mpast_1 : PSx :=
    pRet (pAdd (pAdd (pVar 5) (pLst (pCons (pTup (pCons (pK (.str "turn")) (pCons (pVar 4) (pNil)))) (pNil)))) (pVar 6))
def pr_mpast_2 : PSx :=
    pSeq (pSet 6 (pComp (iRgN (pCons (pSub (pVar 4) (pK (.int 1))) (pCons (pSub (pVar 1) (pK (.int 1))) (pCons (pNeg (pK (.int 1))) (pNil))))) (gN 7) (pYes) (pe_mpast_3) [7]))
    (pr_mpast_1)
def pr_mpast_3 : PSx :=
    pSeq (pSet 5 (pComp (iRgN (pCons (pSub (pVar 2) (pK (.int 1))) (pCons (pAdd (pVar 4) (pK (.int 1))) (pCons (pNeg (pK (.int 1))) (pNil))))) (gN 7) (pYes) (pe_mpast_2) [7]))
    (pr_mpast_2)
def pr_mpast_4 : PSx :=
    pSeq (pSet 4 (pSub (pAdd (pVar 1) (pIx (pVar 0) (pVar 1))) (pVar 3)))
    (pr_mpast_3)
def p_mpast : PSx :=
    pSeq (pIf (pT (pLt (pVar 3) (pIx (pVar 0) (pSub (pVar 2) (pK (.int 1)))))) (pRet (pComp (iRgN (pCons (pSub (pVar 2) (pK (.int 1))) (pCons (pSub (pVar 1) (pK (.int 1))) (pCons (pNeg (pK (.int 1))) (pNil))))) (gN 7) (pYes) (pe_mpast_1) [7])) (pNext))
    (pr_mpast_4)
def mvD : Mv → PyData
  | .far i => .tuple [.str "far", nD i]
  | .turn i => .tuple [.str "turn", nD i]
  | .gone i => .tuple [.str "gone", nD i]
  | .come i k => .tuple [.str "come", nD i, nD k]
abbrev msD (ms : List Mv) : List PyData := ms.map mvD
def psp_mpast : PSp := fun as Q _ => ∃ (ns : List Nat) (s e L : Nat), as = [.im (.tuple (dN ns)), .im (nD s), .im (nD e), .im (nD L)] ∧ s < e ∧ e ≤ ns.length ∧ ns.length ≤ 1000 ∧
  ((L < ns.getD (e - 1) 0 ∧ Q (.ow (.lst (msD (farsD e s)))) [.un, .un, .un, .un]) ∨ (ns.getD (e - 1) 0 ≤ L ∧ L ≤ ns.getD s 0 ∧ s + (ns.getD s 0 - L) + 1 < e ∧ Q (.ow (.lst (msD (thruD s e (s + (ns.getD s 0 - L)))))) [.un, .un, .un, .un]))
theorem fars_get (e s j : Nat) (h : j < e - s) : (farsD e s)[j]? = some (.far (e - 1 - j)) := by
  unfold farsD
  rw [List.getElem?_map, List.getElem?_range h]
  rfl
theorem rgDn_get {a b : Int} {i : Nat} {d : PyData} (h : (rgDn a b)[i]? = some d) : i < (a - b).toNat ∧ d = .int (a - (i : Nat)) := by
  unfold rgDn at h
  rw [List.getElem?_map] at h
  obtain ⟨j, h1, rfl⟩ := Option.map_eq_some_iff.mp h
  obtain ⟨h3, h4⟩ := List.getElem?_eq_some_iff.mp h1
  rw [List.getElem_range] at h4
  rw [List.length_range] at h3
  subst h4
  exact ⟨h3, by congr 1; omega⟩
theorem rgDn_len (a b : Int) : (rgDn a b).length = (a - b).toNat := by unfold rgDn; rw [List.length_map, List.length_range]
theorem far_step {e s j : Nat} (hj : j < e - s) {a : Int} (ha : a = (e : Int) - 1) : msD ((farsD e s).take j) ++ [PyData.tuple [.str "far", .int (a - (j : Nat))]] = msD ((farsD e s).take (j + 1)) := by
  have e1 : a - ((j : Nat) : Int) = ((e - 1 - j : Nat) : Int) := by omega
  unfold msD
  rw [List.take_add_one, fars_get e s j hj, Option.toList_some, List.map_append, e1]
  rfl
theorem hp_mpast (as : List Sl) (Qp : QE) (Ep : EX) (h : psp_mpast as Qp Ep) : p_mpast (endsP as Qp) (as ++ List.replicate 4 .un) := by
  obtain ⟨ns, s, e, L, rfl, h1, h2, h3, q⟩ := h
  have e1 : (e : Int) - 1 = ((e - 1 : Nat) : Int) := by omega
  refine ⟨trivial, _, atI_of e1 (dN_get (getD_of (i := e - 1) (by omega))), trivial, _, rfl, ?_⟩
  show if decide ((L : Int) < ((ns.getD (e - 1) 0 : Nat) : Int)) = true then _ else _
  rcases q with ⟨c, q⟩ | ⟨c1, c2, c3, q⟩
  · rw [if_pos (decide_eq_true (by omega))]
    refine ⟨trivial, trivial, _, _, rfl, ⟨by omega, by omega, by omega, by omega⟩, noPin1 (fun o => nofun), fun j acc δ => acc = msD ((farsD e s).take j) ∧ δ = [.im (.tuple (dN ns)), .im (nD s), .im (nD e), .im (nD L), .un, .un, .un, .un], ⟨rfl, rfl⟩, ?_, ?_⟩
    · rintro j d acc δ hd ⟨rfl, rfl⟩
      obtain ⟨hj, rfl⟩ := rgDn_get hd
      have st := far_step (e := e) (s := s) (j := j) (by omega) (a := (e : Int) - 1) rfl
      refine ⟨_, _, rfl, ?_, st, rfl⟩
      unfold msD
      rw [List.length_map, List.length_take, farsD_len]
      exact szN (m := 1000) (by omega) (by decide)
    · rintro acc δ ⟨rfl, rfl⟩
      rw [rgDn_len, List.take_of_length_le (by rw [farsD_len]; omega)]
      exact ⟨_, _, rfl, q⟩
  · rw [if_neg (by simp only [decide_eq_true_eq]; omega)]
    generalize hk : s + (ns.getD s 0 - L) = like at *
    refine ⟨_, atI_of rfl (dN_get (getD_of (i := s) (by omega))), trivial, _, _, rfl, ?_⟩
    have el : (s : Int) + ((ns.getD s 0 : Nat) : Int) - (L : Int) = (like : Int) := by omega
    show pr_mpast_3 _ [.im (.tuple (dN ns)), .im (nD s), .im (nD e), .im (nD L), .im (.int ((s : Int) + ((ns.getD s 0 : Nat) : Int) - (L : Int))), .un, .un, .un]
    rw [el]
    refine ⟨trivial, _, _, rfl, ⟨by omega, by omega, by omega, by omega⟩, noPin1 (fun o => nofun), fun j acc δ => acc = msD ((farsD e (like + 2)).take j) ∧ δ = [.im (.tuple (dN ns)), .im (nD s), .im (nD e), .im (nD L), .im (nD like), .un, .un, .un], ⟨rfl, rfl⟩, ?_, ?_⟩
    · rintro j d acc δ hd ⟨rfl, rfl⟩
      obtain ⟨hj, rfl⟩ := rgDn_get hd
      have st := far_step (e := e) (s := like + 2) (j := j) (by omega) (a := (e : Int) - 1) rfl
      refine ⟨_, _, rfl, ?_, st, rfl⟩
      unfold msD
      rw [List.length_map, List.length_take, farsD_len]
      exact szN (m := 1000) (by omega) (by decide)
    rintro acc δ ⟨rfl, rfl⟩
    rw [rgDn_len, List.take_of_length_le (by rw [farsD_len]; omega)]
    refine ⟨_, _, rfl, ?_⟩
    show pr_mpast_2 _ [.im (.tuple (dN ns)), .im (nD s), .im (nD e), .im (nD L), .im (nD like), .ow false (.lst (msD (farsD e (like + 2)))), .un, .un]
    refine ⟨trivial, trivial, _, _, rfl, ⟨by omega, by omega, by omega, by omega⟩, noPin1 (fun o => nofun), fun j acc δ => acc = msD ((farsD like s).take j) ∧ δ = [.im (.tuple (dN ns)), .im (nD s), .im (nD e), .im (nD L), .im (nD like), .ow false (.lst (msD (farsD e (like + 2)))), .un, .un], ⟨rfl, rfl⟩, ?_, ?_⟩
    · rintro j d acc δ hd ⟨rfl, rfl⟩
      obtain ⟨hj, rfl⟩ := rgDn_get hd
      have st := far_step (e := like) (s := s) (j := j) (by omega) (a := (like : Int) - 1) rfl
      refine ⟨_, _, rfl, ?_, st, rfl⟩
      unfold msD
      rw [List.length_map, List.length_take, farsD_len]
      exact szN (m := 1000) (by omega) (by decide)
    rintro acc δ ⟨rfl, rfl⟩
    rw [rgDn_len, List.take_of_length_le (by rw [farsD_len]; omega)]
    refine ⟨_, _, rfl, ?_⟩
    show pr_mpast_1 _ [.im (.tuple (dN ns)), .im (nD s), .im (nD e), .im (nD L), .im (nD like), .ow false (.lst (msD (farsD e (like + 2)))), .ow false (.lst (msD (farsD like s))), .un]
    have l1 : (msD (farsD e (like + 2))).length = e - (like + 2) := by unfold msD; rw [List.length_map, farsD_len]
    have l2 : (msD (farsD like s)).length = like - s := by unfold msD; rw [List.length_map, farsD_len]
    have z24 : (10000 : Nat) < sizeLine := by decide
    refine ⟨?_, ?_, _, _, rfl, ?_⟩
    · show (msD (farsD e (like + 2))).length + 1 ≤ sizeLine
      omega
    · show (msD (farsD e (like + 2)) ++ [PyData.tuple [.str "turn", nD like]]).length + (msD (farsD like s)).length ≤ sizeLine
      rw [List.length_append, l1, l2]
      simp only [List.length_cons, List.length_nil]
      omega
    · have e5 : msD (thruD s e like) = msD (farsD e (like + 2)) ++ [PyData.tuple [.str "turn", nD like]] ++ msD (farsD like s) := by
        unfold thruD msD
        rw [List.map_append, List.map_append]
        rfl
      rw [e5] at q
      exact q
/-! ### moves_into -/
-- DEF moves_into N ['normal', 'letter', 'moves', 'end', 'start', 'least'] calls ['start_of_run', 'moves_past'] takes []
def pr_minto_1 : PSx :=
    pSet 3 (pVar 4)
def pr_minto_2 : PSx :=
    pSeq (pIf (pT (pGt (pVar 1) (pVar 5))) (pAugS 1 (pK (.int 1))) (pNext))
    (pr_minto_1)
def pr_minto_3 : PSx :=
    pSeq (pAug 2 (pCall psp_mpast (pCons (pFz (pVar 0)) (pCons (pFz (pVar 4)) (pCons (pFz (pVar 3)) (pCons (pFz (pVar 1)) (pNil))))) noX))
    (pr_minto_2)
def pr_minto_4 : PSx :=
    pSeq (pIf (pT (pEq false (pVar 1) (pVar 5))) (pRet (pAdd (pVar 2) (pLst (pCons (pTup (pCons (pK (.str "gone")) (pCons (pSub (pVar 3) (pK (.int 1))) (pNil)))) (pNil))))) (pNext))
    (pr_minto_3)
def pr_minto_5 : PSx :=
    pSeq (pIf (pOr (pT (pGt (pVar 1) (pIx (pVar 0) (pVar 4)))) (pT (pEq false (pVar 1) (pSub (pVar 5) (pK (.int 1)))))) (pRet (pVar 2)) (pNext))
    (pr_minto_4)
def pr_minto_6 : PSx :=
    pSeq (pSet 5 (pIx (pVar 0) (pSub (pVar 3) (pK (.int 1)))))
    (pr_minto_5)
def pb_minto_7 : PSx :=
    pSeq (pSet 4 (pCall psp_startrun (pCons (pFz (pVar 0)) (pCons (pFz (pVar 3)) (pNil))) noX))
    (pr_minto_6)
def pr_minto_7 : PSx :=
    pRet (pVar 2)
def pr_minto_8 : PSx :=
    pSeq (pWhile [4, 5] (pT (pGt (pVar 3) (pK (.int 0)))) (pb_minto_7))
    (pr_minto_7)
def pr_minto_9 : PSx :=
    pSeq (pSet 3 (pC (q1 fLen) (pCons (pVar 0) (pNil))))
    (pr_minto_8)
def p_minto : PSx :=
    pSeq (pSet 2 (pLst (pNil)))
    (pr_minto_9)
def psp_minto : PSp := fun as Q _ => ∃ (c : Nat → Nat) (N L : Nat), as = [.im (.tuple (dN (runsW c N))), .im (nD L)] ∧ (∀ j, c j ≤ j) ∧ N ≤ 20 ∧ Q (.ow (.lst (msD (insM c N L)))) [.un, .un]
theorem pos_le {c : Nat → Nat} (hc : ∀ j, c j ≤ j) : ∀ N : Nat, N ≤ 20 → posW c N ≤ 20 * N
  | 0, _ => Nat.zero_le _
  | N + 1, h => by
    have := pos_le hc N (by omega)
    have := hc N
    rw [pos_succ]
    omega
/-- behind empty runs nothing changes -/
theorem skip_run {c : Nat → Nat} : ∀ {m : Nat}, 0 < posW c m → ∃ k, k < m ∧ c k ≠ 0 ∧ posW c m = posW c (k + 1) ∧ runsW c m = runsW c (k + 1) ∧ ∀ L, insM c m L = insM c (k + 1) L
  | 0, h => absurd h (Nat.lt_irrefl 0)
  | m + 1, h => by
    by_cases h0 : c m = 0
    · have e := runsW_zero h0
      have ep : posW c (m + 1) = posW c m := congrArg List.length e
      rw [ep] at h
      obtain ⟨k, h1, h2, h3, h4, h5⟩ := skip_run (c := c) (m := m) h
      refine ⟨k, by omega, h2, by rw [ep, h3], by rw [e, h4], fun L => ?_⟩
      rw [← h5 L]
      show (if c m = 0 then _ else _) = _
      rw [if_pos h0]
    · exact ⟨m, by omega, h0, rfl, rfl, fun _ => rfl⟩
/-- all runs: what stands where -/
theorem runs_get {c : Nat → Nat} {N k i : Nat} (hk : k < N) (hi : i < c k) : (runsW c N).getD (posW c k + i) 0 = k - 1 - i := by
  induction N with
  | zero => exact absurd hk (Nat.not_lt_zero _)
  | succ N ih =>
    rw [runsW_succ, List.getD_eq_getElem?_getD]
    by_cases e : k = N
    · subst e
      rw [List.getElem?_append_right (by show (runsW c k).length ≤ posW c k + i; exact Nat.le_add_right _ _), show posW c k + i - (runsW c k).length = i by show posW c k + i - posW c k = i; omega]
      unfold runW
      rw [List.getElem?_map, List.getElem?_range hi]
      rfl
    · have le : ∀ {a b : Nat}, a ≤ b → posW c a ≤ posW c b := fun {a b} h => by
        induction b with
        | zero => rw [show a = 0 by omega]; exact Nat.le_refl _
        | succ b ihb =>
          by_cases e2 : a = b + 1
          · rw [e2]; exact Nat.le_refl _
          · have := ihb (by omega)
            rw [pos_succ]; omega
      have h2 := le (show k + 1 ≤ N by omega)
      rw [pos_succ] at h2
      rw [List.getElem?_append_left (by show posW c k + i < posW c N; omega), ← List.getD_eq_getElem?_getD]
      exact ih (by omega)
theorem pos_mono {c : Nat → Nat} {a b : Nat} (h : a ≤ b) : posW c a ≤ posW c b := by
  induction b with
  | zero => rw [show a = 0 by omega]; exact Nat.le_refl _
  | succ b ihb =>
    by_cases e2 : a = b + 1
    · rw [e2]; exact Nat.le_refl _
    · have := ihb (by omega)
      rw [pos_succ]; omega
theorem run_at {c : Nat → Nat} (hc : ∀ j, c j ≤ j) {N k : Nat} (hk : k < N) (h0 : c k ≠ 0) : RunAt (runsW c N) (posW c k) (posW c (k + 1)) := by
  have p := pos_succ c k
  refine ⟨by omega, pos_mono (show k + 1 ≤ N by omega), fun i h1 h2 => ?_, ?_⟩
  · obtain ⟨t, rfl⟩ : ∃ t, i = posW c k + t := ⟨i - posW c k, by omega⟩
    have g1 := runs_get (c := c) hk (i := t) (by omega)
    have g2 := runs_get (c := c) hk (i := t - 1) (by omega)
    have := hc k
    rw [g1, show posW c k + t - 1 = posW c k + (t - 1) by omega, g2]
    omega
  · rcases Nat.eq_zero_or_pos (posW c k) with z | z
    · exact .inl z
    · right
      obtain ⟨j, h1, h2, h3, _, _⟩ := skip_run z
      have pj := pos_succ c j
      have g1 := runs_get (c := c) (N := N) (k := j) (by omega) (i := c j - 1) (by omega)
      have g2 := runs_get (c := c) (N := N) (k := k) hk (i := 0) (by omega)
      have := hc j
      rw [h3, pj, show posW c j + c j - 1 = posW c j + (c j - 1) by omega, g1, ← pj, ← h3, ← Nat.add_zero (posW c k), g2]
      omega
abbrev stMi (c : Nat → Nat) (N L : Nat) (ms : List Mv) (e : Nat) (s4 s5 : Sl) : List Sl := [.im (.tuple (dN (runsW c N))), .im (nD L), .ow false (.lst (msD ms)), .im (nD e), s4, s5]
theorem insM_succ (c : Nat → Nat) (m L : Nat) : insM c (m + 1) L = if c m = 0 then insM c m L
    else if m ≤ L then []
    else if L + 1 = m - c m then []
    else if L = m - c m then [.gone (posW c (m + 1) - 1)]
    else if L < m - c m then farsD (posW c (m + 1)) (posW c m) ++ insM c m L
    else thruD (posW c m) (posW c (m + 1)) (posW c m + (m - 1 - L)) ++ insM c m (L - 1) := rfl
theorem hp_minto (as : List Sl) (Qp : QE) (Ep : EX) (h : psp_minto as Qp Ep) : p_minto (endsP as Qp) (as ++ List.replicate 4 .un) := by
  obtain ⟨c, N, L, rfl, hc, hN, q⟩ := h
  have z24 : (10000 : Nat) < sizeLine := by decide
  have pN := pos_le hc N hN
  have il := insM_len (c := c) N L
  refine ⟨_, _, rfl, ?_⟩
  show pr_minto_9 _ [.im (.tuple (dN (runsW c N))), .im (nD L), .ow false (.lst []), .un, .un, .un]
  refine ⟨_, _, rfl, ?_⟩
  show pr_minto_8 _ [.im (.tuple (dN (runsW c N))), .im (nD L), .ow false (.lst []), .im (.int ((dN (runsW c N)).length : Int)), .un, .un]
  rw [dN_len]
  refine ⟨fun mm δ => ∃ (m l : Nat) (ms : List Mv), m ≤ N ∧ mm = posW c m ∧ ms ++ insM c m l = insM c N L ∧ δ = stMi c N l ms (posW c m) .un .un, ⟨posW c N, N, L, [], Nat.le_refl _, rfl, rfl, rfl⟩, ?_⟩
  rintro _ δ ⟨m, l, ms, hm, rfl, hi, rfl⟩
  refine ⟨trivial, _, rfl, ?_⟩
  show if decide ((0 : Int) < ((posW c m : Nat) : Int)) = true then _ else _
  by_cases h0 : posW c m = 0
  · rw [if_neg (by simp only [decide_eq_true_eq]; omega)]
    have en : insM c m l = [] := List.length_eq_zero_iff.mp (by have := insM_len (c := c) m l; omega)
    rw [en, List.append_nil] at hi
    subst hi
    exact ⟨_, _, rfl, q⟩
  · rw [if_pos (decide_eq_true (by omega))]
    obtain ⟨k, k1, k2, k3, k4, k5⟩ := skip_run (c := c) (m := m) (by omega)
    have ra := run_at hc (N := N) (k := k) (by omega) k2
    have p := pos_succ c k
    have hck := hc k
    have pk := pos_mono (c := c) (show k + 1 ≤ N by omega)
    rw [k5] at hi
    rw [k3]
    have gs := runs_get (c := c) (N := N) (k := k) (by omega) (i := 0) (by omega)
    have ge := runs_get (c := c) (N := N) (k := k) (by omega) (i := c k - 1) (by omega)
    rw [Nat.add_zero] at gs
    rw [show posW c k + (c k - 1) = posW c (k + 1) - 1 by omega] at ge
    refine ⟨_, _, rfl, _, _, rfl, _, rfl, List.nodup_nil, runsW c N, posW c k, posW c (k + 1), rfl, ra, _, _, rfl, ?_⟩
    have ee : ((posW c (k + 1) : Nat) : Int) - 1 = ((posW c (k + 1) - 1 : Nat) : Int) := by omega
    have lN : posW c (k + 1) - 1 < (runsW c N).length := by show _ < posW c N; omega
    show pr_minto_6 _ (stMi c N l ms (posW c (k + 1)) (.im (nD (posW c k))) .un)
    refine ⟨trivial, _, atI_of ee (dN_get (getD_of lN)), _, _, rfl, ?_⟩
    rw [ge]
    show pr_minto_5 _ (stMi c N l ms (posW c (k + 1)) (.im (nD (posW c k))) (.im (nD (k - 1 - (c k - 1)))))
    rw [show k - 1 - (c k - 1) = k - c k by omega]
    have ls : posW c k < (runsW c N).length := by show _ < posW c N; omega
    have mlen : ms.length ≤ 400 := by
      have := congrArg List.length hi
      rw [List.length_append] at this
      omega
    have ml : (msD ms).length ≤ 400 := by unfold msD; rw [List.length_map]; exact mlen
    rw [insM_succ, if_neg k2] at hi
    refine ⟨_, atI_of rfl (dN_get (getD_of ls)), trivial, _, rfl, ?_⟩
    rw [gs]
    show if decide (((k - 1 - 0 : Nat) : Int) < (l : Int)) = true then _ else _
    by_cases c1 : k ≤ l
    · rw [if_pos (decide_eq_true (by omega))]
      rw [if_pos c1, List.append_nil] at hi
      rw [← hi] at q
      exact ⟨_, _, rfl, q⟩
    rw [if_neg (by simp only [decide_eq_true_eq]; omega)]
    rw [if_neg c1] at hi
    refine ⟨trivial, _, rfl, ?_⟩
    show if decide ((l : Int) = ((k - c k : Nat) : Int) - 1) = true then _ else _
    by_cases c2 : l + 1 = k - c k
    · rw [if_pos (decide_eq_true (by omega))]
      rw [if_pos c2, List.append_nil] at hi
      rw [← hi] at q
      exact ⟨_, _, rfl, q⟩
    rw [if_neg (by simp only [decide_eq_true_eq]; omega)]
    rw [if_neg c2] at hi
    show pr_minto_4 _ (stMi c N l ms (posW c (k + 1)) (.im (nD (posW c k))) (.im (nD (k - c k))))
    refine ⟨_, rfl, ?_⟩
    show if decide ((l : Int) = ((k - c k : Nat) : Int)) = true then _ else _
    by_cases c3 : l = k - c k
    · rw [if_pos (decide_eq_true (by omega))]
      rw [if_pos c3] at hi
      refine ⟨trivial, ?_, _, _, rfl, ?_⟩
      · show (msD ms).length + 1 ≤ sizeLine
        omega
      · show Qp (.ow (.lst (msD ms ++ [PyData.tuple [.str "gone", .int (((posW c (k + 1) : Nat) : Int) - 1)]]))) [.un, .un]
        rw [ee]
        rw [← hi] at q
        unfold msD at q
        rw [List.map_append] at q
        exact q
    rw [if_neg (by simp only [decide_eq_true_eq]; omega)]
    rw [if_neg c3] at hi
    show pr_minto_3 _ (stMi c N l ms (posW c (k + 1)) (.im (nD (posW c k))) (.im (nD (k - c k))))
    refine ⟨_, _, rfl, _, _, rfl, _, _, rfl, _, _, rfl, _, _, rfl, _, rfl, List.nodup_nil, runsW c N, posW c k, posW c (k + 1), l, rfl, by omega, by omega, by show posW c N ≤ 1000; omega, ?_⟩
    rw [gs, ge, show k - 1 - (c k - 1) = k - c k by omega]
    have up : ∀ xs : List Mv, xs.length ≤ 400 → (msD ms).length + (msD xs).length ≤ sizeLine := fun xs hx => by
      have : (msD xs).length = xs.length := by unfold msD; rw [List.length_map]
      omega
    have cat : ∀ xs : List Mv, msD ms ++ msD xs = msD (ms ++ xs) := fun xs => by unfold msD; rw [List.map_append]
    have hp20 : posW c (k + 1) ≤ 400 := by omega
    by_cases c4 : l < k - c k
    · rw [if_pos c4] at hi
      refine .inl ⟨c4, _, _, _, _, _, rfl, rfl, rfl, up _ (by rw [farsD_len]; omega), ?_⟩
      rw [cat]
      show pr_minto_2 _ (stMi c N l (ms ++ farsD (posW c (k + 1)) (posW c k)) (posW c (k + 1)) (.im (nD (posW c k))) (.im (nD (k - c k))))
      refine ⟨trivial, _, rfl, ?_⟩
      show if decide (((k - c k : Nat) : Int) < (l : Int)) = true then _ else _
      rw [if_neg (by simp only [decide_eq_true_eq]; omega)]
      refine ⟨_, _, rfl, posW c k, by omega, k, l, ms ++ farsD (posW c (k + 1)) (posW c k), by omega, rfl, ?_, rfl⟩
      rw [List.append_assoc]
      exact hi
    · rw [if_neg c4] at hi
      have e7 : posW c k + (k - 1 - 0 - l) = posW c k + (k - 1 - l) := by omega
      refine .inr ⟨by omega, by omega, by omega, ?_⟩
      rw [e7]
      refine ⟨_, _, _, _, _, rfl, rfl, rfl, up _ ?_, ?_⟩
      · unfold thruD
        simp only [List.length_append, farsD_len, List.length_cons, List.length_nil]
        omega
      rw [cat]
      show pr_minto_2 _ (stMi c N l (ms ++ thruD (posW c k) (posW c (k + 1)) (posW c k + (k - 1 - l))) (posW c (k + 1)) (.im (nD (posW c k))) (.im (nD (k - c k))))
      refine ⟨trivial, _, rfl, ?_⟩
      show if decide (((k - c k : Nat) : Int) < (l : Int)) = true then _ else _
      rw [if_pos (decide_eq_true (by omega))]
      have el : (l : Int) - 1 = ((l - 1 : Nat) : Int) := by omega
      refine ⟨_, rfl, _, rfl, ?_⟩
      show pr_minto_1 _ [.im (.tuple (dN (runsW c N))), .im (.int ((l : Int) - 1)), .ow false (.lst (msD (ms ++ thruD (posW c k) (posW c (k + 1)) (posW c k + (k - 1 - l))))), .im (nD (posW c (k + 1))), .im (nD (posW c k)), .im (nD (k - c k))]
      rw [el]
      refine ⟨_, _, rfl, posW c k, by omega, k, l - 1, ms ++ thruD (posW c k) (posW c (k + 1)) (posW c k + (k - 1 - l)), by omega, rfl, ?_, rfl⟩
      rw [List.append_assoc]
      exact hi
/-! ### moves by the code's own -/
theorem ltr_mid (A D : List Nat) (x : Nat) : ltr (iW (A ++ x :: D)) A.length = (x : Int) := by
  unfold ltr iW
  rw [List.getD_eq_getElem?_getD, List.getElem?_map, List.getElem?_append_right (Nat.le_refl _), Nat.sub_self]
  rfl
theorem iW_appW (a b : List Nat) : iW (a ++ b) = iW a ++ iW b := List.map_append
theorem iW_takeW (a : List Nat) (n : Nat) : (iW a).take n = iW (a.take n) := List.map_take.symm
theorem iW_dropW (a : List Nat) (n : Nat) : (iW a).drop n = iW (a.drop n) := List.map_drop.symm
theorem drop_mid2 (A D : List Nat) (x y : Nat) : (A ++ x :: y :: D).drop (A.length + 2) = D := by
  rw [List.drop_append, List.drop_eq_nil_of_le (by omega), show A.length + 2 - A.length = 2 by omega]
  rfl
theorem drop_mid3 (A D : List Nat) (x y z : Nat) : (A ++ x :: y :: z :: D).drop (A.length + 3) = D := by
  rw [List.drop_append, List.drop_eq_nil_of_le (by omega), show A.length + 3 - A.length = 3 by omega]
  rfl
theorem ltr_mid1 (A D : List Nat) (x y : Nat) : ltr (iW (A ++ x :: y :: D)) (A.length + 1) = (y : Int) := by
  have := ltr_mid (A ++ [x]) D y
  rw [List.length_append, List.append_assoc] at this
  exact this
theorem ltr_mid2 (A D : List Nat) (x y z : Nat) : ltr (iW (A ++ x :: y :: z :: D)) (A.length + 2) = (z : Int) := by
  have := ltr_mid (A ++ [x, y]) D z
  rw [List.length_append, List.append_assoc] at this
  exact this
theorem n_sf : isS "far" (.str ("far" : Str)) = true := isS_self _
theorem n_tf' : isS "far" (.str ("turn" : Str)) = false := by decide +kernel
theorem n_tt : isS "turn" (.str ("turn" : Str)) = true := isS_self _
theorem n_gf' : isS "far" (.str ("gone" : Str)) = false := by decide +kernel
theorem n_gt' : isS "turn" (.str ("gone" : Str)) = false := by decide +kernel
theorem n_gg : isS "gone" (.str ("gone" : Str)) = true := isS_self _
theorem n_cc : isS "come" (.str ("come" : Str)) = true := isS_self _
theorem isWh_nat {hi : Int} {i : Nat} (h : (i : Int) ≤ hi) : isWh 0 hi (nD i) = true := isWh_yes (by omega) h
theorem st_move {w v : List Nat} {m : Mv} (h : StW w m v) (h8 : ∀ i k, m = .come i k → k ≤ 8) : moveW (iW w) (mvD m) = some (iW v) := by
  cases h with
  | @far A D x y h =>
    show (if isWh 0 (((iW (A ++ x :: y :: D)).length : Int) - 2) (nD A.length) = true then _ else _) = _
    rw [if_pos (isWh_nat (by unfold iW; rw [List.length_map, List.length_append]; simp only [List.length_cons]; omega)), if_pos n_sf]
    show farW _ A.length = _
    unfold farW
    rw [ltr_mid, ltr_mid1, if_neg (by unfold ab; split <;> omega), iW_takeW, iW_dropW, drop_mid2, List.take_left, iW_appW]
    simp [iW]
  | @turn A D x y h =>
    show (if isWh 0 (((iW (A ++ x :: y :: x :: D)).length : Int) - 2) (nD A.length) = true then _ else _) = _
    rw [if_pos (isWh_nat (by unfold iW; rw [List.length_map, List.length_append]; simp only [List.length_cons]; omega)), if_neg (by rw [n_tf']; decide), if_pos n_tt]
    show turnW _ A.length = _
    unfold turnW
    rw [if_neg (by unfold iW; rw [List.length_map, List.length_append]; simp only [List.length_cons]; omega), ltr_mid, ltr_mid1, ltr_mid2, if_neg (by unfold ab; split <;> omega), iW_takeW, iW_dropW, drop_mid3, List.take_left, iW_appW]
    simp [iW]
  | @gone A D x =>
    show (if isWh 0 (((iW (A ++ x :: x :: D)).length : Int) - 2) (nD A.length) = true then _ else _) = _
    rw [if_pos (isWh_nat (by unfold iW; rw [List.length_map, List.length_append]; simp only [List.length_cons]; omega)), if_neg (by rw [n_gf']; decide), if_neg (by rw [n_gt']; decide), if_pos n_gg]
    show goneW _ A.length = _
    unfold goneW
    rw [ltr_mid, ltr_mid1, if_neg (by simp), iW_takeW, iW_dropW, drop_mid2, List.take_left, iW_appW]
  | @come A D x =>
    have := h8 _ _ rfl
    show (if isS "come" (.str ("come" : Str)) = true then comeW (iW (A ++ D)) (nD A.length) (nD x) else none) = _
    rw [if_pos n_cc]
    unfold comeW
    rw [if_pos (isWh_nat (by unfold iW; rw [List.length_map, List.length_append]; omega)), if_pos (isWh_nat (by omega))]
    show some ((iW (A ++ D)).take ((A.length : Int).toNat) ++ _ ++ (iW (A ++ D)).drop ((A.length : Int).toNat)) = _
    rw [Int.toNat_natCast, iW_takeW, iW_dropW, List.take_left, List.drop_left, iW_appW]
    simp [iW, inOf]
theorem sts_mov {w v : List Nat} {ms : List Mv} (h : Sts w ms v) (h8 : ∀ i k, Mv.come i k ∈ ms → k ≤ 8) : ∀ n, movG n (iW w) (msD ms) = .inr (iW v) := by
  induction h with
  | nil => intro n; rfl
  | @cons w v u m ms s _ ih =>
    intro n
    show movG n (iW w) (mvD m :: msD ms) = _
    unfold movG
    rw [st_move s fun i k e => h8 i k (by rw [e]; exact List.mem_cons_self)]
    exact ih (fun i k hm => h8 i k (List.mem_cons_of_mem _ hm)) (n + 1)
theorem mv_shaped (m : Mv) : ∃ ds, mvD m = .tuple ds ∧ ∀ a ∈ ds, SeqAt.shaped a = true := by
  cases m with
  | far i => exact ⟨_, rfl, fun a ha => by simp only [List.mem_cons, List.not_mem_nil, or_false] at ha; rcases ha with rfl | rfl; exact sh_far; rfl⟩
  | turn i => exact ⟨_, rfl, fun a ha => by simp only [List.mem_cons, List.not_mem_nil, or_false] at ha; rcases ha with rfl | rfl; exact sh_turn; rfl⟩
  | gone i => exact ⟨_, rfl, fun a ha => by simp only [List.mem_cons, List.not_mem_nil, or_false] at ha; rcases ha with rfl | rfl; exact sh_gone; rfl⟩
  | come i k => exact ⟨_, rfl, fun a ha => by simp only [List.mem_cons, List.not_mem_nil, or_false] at ha; rcases ha with rfl | rfl | rfl; exact sh_come; rfl; rfl⟩
theorem mv_ok (m : Mv) : okM (mvD m) := fun ds e a ha => by
  obtain ⟨es, h1, h2⟩ := mv_shaped m
  rw [h1] at e
  cases e
  exact h2 a ha
def NoCome (ms : List Mv) : Prop := ∀ m ∈ ms, ∀ i k, m ≠ .come i k
theorem ins_nocome {c : Nat → Nat} : ∀ (m L : Nat), NoCome (insM c m L)
  | 0, L => nofun
  | m + 1, L => by
    have far : ∀ e s, NoCome (farsD e s) := fun e s x hx i k z => by
      obtain ⟨t, _, rfl⟩ := List.mem_map.mp hx
      cases z
    have thr : ∀ s e l, NoCome (thruD s e l) := fun s e l x hx i k z => by
      unfold thruD at hx
      rcases List.mem_append.mp hx with hx | hx
      · rcases List.mem_append.mp hx with hx | hx
        · exact far _ _ x hx i k z
        · rw [List.mem_singleton.mp hx] at z; cases z
      · exact far _ _ x hx i k z
    rw [insM_succ]
    split
    · exact ins_nocome m L
    split
    · exact nofun
    split
    · exact nofun
    split
    · intro x hx i k z
      rw [List.mem_singleton.mp hx] at z
      cases z
    split
    · intro x hx
      rcases List.mem_append.mp hx with hx | hx
      · exact far _ _ x hx
      · exact ins_nocome m L x hx
    · intro x hx
      rcases List.mem_append.mp hx with hx | hx
      · exact thr _ _ _ x hx
      · exact ins_nocome m (L - 1) x hx
theorem wear_nocome {N : Nat} : ∀ (w : List Nat) (c : Nat → Nat), NoCome (wearM N c w)
  | [], _ => nofun
  | L :: w, c => fun x hx => by
    rcases List.mem_append.mp hx with hx | hx
    · exact ins_nocome N L x hx
    · exact wear_nocome w _ x hx
theorem pos_half {c : Nat → Nat} (hc : ∀ j, c j ≤ j) : ∀ N : Nat, 2 * posW c N ≤ N * (N - 1)
  | 0 => Nat.le_refl 0
  | N + 1 => by
    have h1 := pos_half hc N
    have h2 := hc N
    rw [pos_succ, show N + 1 - 1 = N by omega]
    cases N with
    | zero => omega
    | succ N =>
      rw [show N + 1 - 1 = N by omega] at h1
      have e : (N + 1 + 1) * (N + 1) = (N + 1) * N + 2 * (N + 1) := by rw [Nat.mul_comm, show N + 1 + 1 = N + 2 from rfl, Nat.mul_add]; omega
      omega
theorem pos190 {c : Nat → Nat} (hc : ∀ j, c j ≤ j) {N : Nat} (hN : N ≤ 20) : posW c N ≤ 190 := by
  have h := pos_half hc N
  have : N * (N - 1) ≤ 20 * 19 := Nat.mul_le_mul hN (by omega)
  omega
/-! ### wear_down -/
-- DEF wear_down N ['word', 'normal', 'moves', 'letter', 'taken'] calls ['moves_into', 'word_moved'] takes ['cNoMove']
def psp_wear : PSp := fun as Q _ => ∃ (w : List Nat) (N : Nat), as = [.im (.tuple (dN w))] ∧ N ≤ 20 ∧ w.length ≤ 200 ∧ (∀ L ∈ w, L + 2 ≤ N) ∧ Q (.im (.tuple [.tuple (dN (runsW (wearC N c0 w) N)), .tuple (msD (wearM N c0 w))])) [.un]
abbrev stWd (w : List Nat) (n : List Nat) (ms : List Mv) (s3 s4 : Sl) : List Sl := [.im (.tuple (dN w)), .im (.tuple (dN n)), .ow false (.lst (msD ms)), s3, s4]
theorem wearM_len {N : Nat} (hN : N ≤ 20) : ∀ (w : List Nat) {c : Nat → Nat}, (∀ j, c j ≤ j) → (wearM N c w).length ≤ 190 * w.length
  | [], _, _ => Nat.zero_le _
  | L :: w, c, hc => by
    have h1 := wearM_len hN w (c := insC c N L) (ins_le hc N L)
    have h2 := insM_len (c := c) N L
    have h3 := pos190 hc hN
    show (insM c N L ++ wearM N (insC c N L) w).length ≤ _
    rw [List.length_append, List.length_cons]
    omega
theorem wearC_snoc (N : Nat) (c : Nat → Nat) (w : List Nat) (L : Nat) : wearC N c (w ++ [L]) = insC (wearC N c w) N L := by unfold wearC; rw [List.foldl_append]; rfl
theorem wearM_snoc (N : Nat) : ∀ (w : List Nat) (c : Nat → Nat) (L : Nat), wearM N c (w ++ [L]) = wearM N c w ++ insM (wearC N c w) N L
  | [], c, L => by show insM c N L ++ [] = _; rw [List.append_nil]; rfl
  | x :: w, c, L => by
    show insM c N x ++ wearM N (insC c N x) (w ++ [L]) = _
    rw [wearM_snoc N w]
    show _ = (insM c N x ++ wearM N (insC c N x) w) ++ _
    rw [List.append_assoc]
    rfl
end Pv
namespace Pv
open PySem PySem.Spec L2 Wf SrtO
/-! ### last_order -/
end Pv
namespace Pv
open PySem PySem.Spec L2 Wf
/-! ### kinds_of -/
/-! ### look_order -/
/-! ### normal_word -/
theorem idx_iW (os : List Nat) (m : Nat) : (iW os).idxOf (m : Int) = os.idxOf m := by
  unfold iW
  induction os with
  | nil => rfl
  | cons x xs ih =>
    rw [List.map_cons, List.idxOf_cons, List.idxOf_cons, ih]
    by_cases e : x = m
    · subst e; simp
    · have e2 : ¬ ((x : Int) = (m : Int)) := by omega
      rw [beq_false_of_ne e, beq_false_of_ne e2]
end Pv
namespace Pv
open PySem PySem.Spec L2 Wf
/-! ### look_forward, of a forward order -/
/-! ### borne_in, last_row -/
end Pv
namespace Pv
open PySem PySem.Spec L2 Wf
/-! ### the last row -/
-- DEF _law_due N ['_law_book_here', '_law_row_here', '_law_word', '_law_m', '_law_passers', '_law_walker', '_law_step'] calls ['_law_led'] takes []
-- DEF law N ['_law_script', '_law_deal_here', '_law_book_here', '_law_turn', '_law_row_here', '_law_found', '_law_falls', '_law_kept', '_law_due_here', '_law_k'] calls ['_law_deal', '_law_book', '_law_draw', '_law_row', '_law_due', 'last_row', '_law_alike'] takes []
/-! ### kinds of the last row -/
end Pv
/-! Comprehensions with any number of fors: a clause's turn over a body. -/
namespace Wf
open PySem PySem.Spec L2 PyProof.Rows
end Wf
/-! A clause over a body is a body. -/
namespace Wf
open PySem PySem.Spec L2 PyProof.Rows
abbrev TB := L2.St → Hp → (Hp → Prop) → Prop
end Wf
/-! The first for of a comprehension over any body. -/
namespace Wf
open PySem PySem.Spec L2 PyProof.Rows
end Wf
/-! Comprehensions with three fors. -/
namespace Wf
open PySem PySem.Spec L2 PyProof.Rows
end Wf
/-! Comprehensions with any number of fors, by value: bodies. -/
namespace Pv
open PySem PySem.Spec L2 Wf
end Pv
/-! len(set(t)), t a tuple of tuples of numbers. -/
namespace Wf
open PySem PySem.Spec PyProof.Rows L2
end Wf
/-! len(set(t)), t a tuple of tuples of numbers, by value. -/
namespace Wf
open PySem PySem.Spec L2 PyProof.Rows
end Wf
namespace Pv
open PySem PySem.Spec L2 Wf
end Pv
/-! zip(l, t), l a list and t a tuple. One turn of a zip whose two parts are any iterators that can be told of. -/
namespace Wf
open PySem PySem.Spec L2 RZ
section
variable {P : Program} {w : World} {A : Around} {E : Value → Shared → Prop} {s : Shared} {z p q ia ib la lb : Addr}
def Ends (P : Program) (w : World) (s : Shared) (ia : Addr) (no : List Addr) : Prop :=
  ∀ (A' : Around) (E' Q' : Value → Shared → Prop) (g : Heap), A'.handled = none → (∀ c o, c ∉ no → s.heap.get? c = some o → g.get? c = some o) →
    (∀ g' e, Heap.ExtBut ia g g' → (∃ o, g'.get? e = some o ∧ o.cls = .type "StopIteration") → E' (.ref e) { s with heap := g' }) →
    wpAny (model P w) A' (Builtin.SmallTypes.nextOf (.ref ia)) Q' E' { s with heap := g }
/-! ### a list and a tuple -/
end
end Wf
/-! zip(l, t): how it is made, and for over it. -/
namespace Wf
open PySem PySem.Spec L2 RZ
end Wf
/-! for over zip(a list, a tuple); divmod. By value. -/
namespace Pv
open PySem PySem.Spec L2 Wf
end Pv
namespace Pv
open PySem PySem.Spec L2 Wf
end Pv
namespace Pv
open PySem PySem.Spec L2 Wf
/-! ### two_kinds, look_back -/
theorem tab_mem {m : Int} {B : Book} (bk : BookOk m B) {t : Tab} (h : t ∈ B.ts) : TabOk B.s t := bk.tab.ok t h
end Pv
namespace Pv
open PySem PySem.Spec L2 Wf
/-! ### burdens before: the places of a pair in a table -/
def idxT (t : Tab) (p : Wk) (j : Nat) : List Nat := (List.range j).filter fun n => decide (t.getD n (0, 0) = p)
def fstT (t : Tab) (p : Wk) : Nat := (idxT t p t.length).headD 0
theorem mem_idxT {t : Tab} {p : Wk} {n : Nat} : n ∈ idxT t p t.length ↔ n < t.length ∧ t.getD n (0, 0) = p := by
  unfold idxT
  rw [List.mem_filter, List.mem_range]
  simp
theorem fstT_of {t : Tab} {p : Wk} (h : p ∈ t) : ∃ rest, idxT t p t.length = fstT t p :: rest := by
  obtain ⟨n, hn, e⟩ := List.getElem_of_mem h
  have hm : n ∈ idxT t p t.length := mem_idxT.mpr ⟨hn, by simp [List.getD, List.getElem?_eq_getElem hn, e]⟩
  unfold fstT
  cases ei : idxT t p t.length with
  | nil => rw [ei] at hm; cases hm
  | cons a rest => exact ⟨rest, rfl⟩
theorem fstT_ok {t : Tab} {p : Wk} (h : p ∈ t) : fstT t p < t.length ∧ t.getD (fstT t p) (0, 0) = p := by
  obtain ⟨rest, e⟩ := fstT_of h
  exact mem_idxT.mp (by rw [e]; exact List.mem_cons_self)
theorem hd0 {α : Type} (x : α) (xs : List α) : atI (x :: xs) 0 = some x := atI_nat (j := 0) rfl
def undo (B : Book) (u v : Int) (p : Wk) : Wk := (((fstT (B.tab u v) p : Nat) : Int) / B.s, ((fstT (B.tab u v) p : Nat) : Int) % B.s)
theorem tab_in {B : Book} {m u v a b : Int} (bk : BookOk m B) (pl : Pl m B.s u v a b) : B.tab u v ∈ B.ts := List.mem_of_getElem? (Book.row bk pl).1
/-! ### a passing, freely -/
def pairF (B : Book) (x y : Wk) : Wk := if x.1 > y.1 then B.at x.1 y.1 x.2 y.2 else undo B y.1 x.1 (x.2, y.2)
structure One (m : Int) (B : Book) : Prop where
  bk : BookOk m B
  nd : ∀ t ∈ B.ts, t.Nodup
  on : ∀ t ∈ B.ts, ∀ p, InP B.s p → p ∈ t
def WkOk (m s : Int) (p : Wk) : Prop := 0 ≤ p.1 ∧ p.1 < m ∧ 0 ≤ p.2 ∧ p.2 < s
theorem plW {m s : Int} {x y : Wk} (hx : WkOk m s x) (hy : WkOk m s y) (h : y.1 < x.1) {a b : Int} (ha : 0 ≤ a ∧ a < s) (hb : 0 ≤ b ∧ b < s) : Pl m s x.1 y.1 a b := by
  obtain ⟨x1, x2, x3, x4⟩ := hx
  obtain ⟨y1, y2, y3, y4⟩ := hy
  exact ⟨by omega, x2, y1, h, ha.1, ha.2, hb.1, hb.2⟩
end Pv
namespace Pv
open PySem PySem.Spec L2 Wf
/-! ### rows led freely -/
theorem tab_sq {m : Int} {B : Book} (bk : BookOk m B) {t : Tab} (h : t ∈ B.ts) : ∃ s : Nat, B.s = (s : Int) ∧ t.length = s * s ∧ 1 ≤ s := by
  have h1 := (tab_mem bk h).len
  have := bk.s1
  obtain ⟨s, hs⟩ := Int.eq_ofNat_of_zero_le (show 0 ≤ B.s by omega)
  refine ⟨s, hs, ?_, by omega⟩
  rw [hs] at h1
  exact_mod_cast h1
theorem undo_in {m u v : Int} {B : Book} (on : One m B) (pl : Pl m B.s u v 0 0) {p : Wk} (hp : InP B.s p) : InP B.s (undo B u v p) := by
  have ht := tab_in on.bk pl
  obtain ⟨s, hs, hl, h1⟩ := tab_sq on.bk ht
  have h2 := (fstT_ok (on.on _ ht p hp)).1
  rw [hl] at h2
  unfold undo
  generalize fstT (B.tab u v) p = n at h2
  rw [hs]
  have a1 : n / s < s := Nat.div_lt_of_lt_mul h2
  have a2 : n % s < s := Nat.mod_lt _ (by omega)
  refine ⟨?_, ?_, ?_, ?_⟩
  · show (0 : Int) ≤ (n : Int) / (s : Int)
    rw [← Int.natCast_ediv]; exact Int.natCast_nonneg _
  · show (n : Int) / (s : Int) < (s : Int)
    rw [← Int.natCast_ediv]; omega
  · show (0 : Int) ≤ (n : Int) % (s : Int)
    rw [← Int.natCast_emod]; omega
  · show (n : Int) % (s : Int) < (s : Int)
    rw [← Int.natCast_emod]; omega
theorem pl00 {m s u v a b : Int} (pl : Pl m s u v a b) : Pl m s u v 0 0 := ⟨pl.u0, pl.u1, pl.v0, pl.v1, by omega, by have := pl.a0; have := pl.a1; omega, by omega, by have := pl.a0; have := pl.a1; omega⟩
theorem cell_ix {m u v a b : Int} {B : Book} (bk : BookOk m B) (pl : Pl m B.s u v a b) : ∃ n : Nat, a * B.s + b = (n : Int) ∧ n < (B.tab u v).length ∧ (n : Int) / B.s = a ∧ (n : Int) % B.s = b := by
  obtain ⟨s, hs, hl, h1⟩ := tab_sq bk (tab_in bk pl)
  have a0 := pl.a0; have a1 := pl.a1; have b0 := pl.b0; have b1 := pl.b1
  rw [hs] at a1 b1 ⊢
  obtain ⟨x, rfl⟩ := Int.eq_ofNat_of_zero_le a0
  obtain ⟨y, rfl⟩ := Int.eq_ofNat_of_zero_le b0
  have hx : x < s := by omega
  have hy : y < s := by omega
  refine ⟨x * s + y, by rw [Int.natCast_add, Int.natCast_mul], ?_, ?_, ?_⟩
  · rw [hl]
    have : (x + 1) * s ≤ s * s := Nat.mul_le_mul_right s hx
    rw [Nat.add_mul, Nat.one_mul] at this
    omega
  · rw [← Int.natCast_ediv]
    have : (x * s + y) / s = x := by rw [Nat.add_comm, Nat.add_mul_div_right _ _ (by omega), Nat.div_eq_of_lt hy]; omega
    rw [this]
  · rw [← Int.natCast_emod]
    have : (x * s + y) % s = y := by rw [Nat.add_comm, Nat.add_mul_mod_self_right, Nat.mod_eq_of_lt hy]
    rw [this]
theorem at_in {m u v a b : Int} {B : Book} (bk : BookOk m B) (pl : Pl m B.s u v a b) : InP B.s (B.at u v a b) := by
  obtain ⟨n, e, hn, _, _⟩ := cell_ix bk pl
  unfold Book.at
  rw [e]
  refine (tab_mem bk (tab_in bk pl)).inn _ ?_
  have : ((n : Int)).toNat = n := by simp
  rw [this, List.getD_eq_getElem?_getD, List.getElem?_eq_getElem hn]
  exact List.getElem_mem hn
theorem pairF_in {m : Int} {B : Book} (on : One m B) {x y : Wk} (hx : WkOk m B.s x) (hy : WkOk m B.s y) (ne : x.1 ≠ y.1) : InP B.s (pairF B x y) := by
  unfold pairF
  split
  · rename_i c
    exact at_in on.bk (plW hx hy c ⟨hx.2.2.1, hx.2.2.2⟩ ⟨hy.2.2.1, hy.2.2.2⟩)
  · rename_i c
    exact undo_in on (pl00 (plW hy hx (by omega) ⟨hy.2.2.1, hy.2.2.2⟩ ⟨hx.2.2.1, hx.2.2.2⟩)) ⟨hx.2.2.1, hx.2.2.2, hy.2.2.1, hy.2.2.2⟩
end Pv
namespace Pv
open PySem PySem.Spec L2 Wf
/-! ### led_freely -/
end Pv
namespace Pv
open PySem PySem.Spec L2 Wf
/-! ### _law_paces, by value -/
/-! ### tables one to one -/
end Pv
namespace Pv
open PySem PySem.Spec L2 Wf
/-! ### threes -/
abbrev N3 := Nat × Nat × Nat
end Pv
namespace Pv
open PySem PySem.Spec L2 Wf
/-! ### judge_book -/
-- DEF judge_book N ['book', 'kind_threes', 'threes', 'kinds', 'paces', 'sorts', 'tables', 'burdens', 'rear_first', 'fore_first'] calls ['falling_threes', 'burden_threes', 'both_ways'] takes []
end Pv
namespace Pv
open PySem PySem.Spec L2 Wf
/-! ### _law_first_bad: its turn -/
def bN (s n : Nat) : N3 := (n / s / s, n / s % s, n % s)
-- DEF _law_first_bad N ['_law_book_here', '_law_u', '_law_sorts', '_law_many', '_law_v', '_law_w', '_law_n', '_law_walkers', '_law_behind', '_law_borne'] calls ['_law_led'] takes []
end Pv
namespace Pv
open PySem PySem.Spec L2 Wf
/-! ### _law_first_bad -/
end Pv
/-! Good tables: both ways alike. -/
namespace Wf
open PySem PySem.Spec L2
abbrev PF := Int → Int → Int × Int
/-- both ways of three, with f for the first two, g for the outer two, h for the last two -/
def YB (f g h : PF) (a b c : Int) : Prop :=
  (h (f a b).1 (g (f a b).2 c).1).1 = (g a (h b c).1).1 ∧ (h (f a b).1 (g (f a b).2 c).1).2 = (f (g a (h b c).1).2 (h b c).2).1 ∧ (g (f a b).2 c).2 = (f (g a (h b c).1).2 (h b c).2).2
def InR (s : Int) (f : PF) : Prop := ∀ a b, 0 ≤ a → a < s → 0 ≤ b → b < s → InP s (f a b)
def EqR (s : Int) (f g : PF) : Prop := ∀ a b, 0 ≤ a → a < s → 0 ≤ b → b < s → f a b = g a b
theorem YB.congr {s : Int} {f g h f' g' h' : PF} {a b c : Int} (ef : EqR s f f') (eg : EqR s g g') (eh : EqR s h h') (rf : InR s f') (rg : InR s g') (rh : InR s h') (a0 : 0 ≤ a) (a1 : a < s) (b0 : 0 ≤ b) (b1 : b < s) (c0 : 0 ≤ c) (c1 : c < s) (y : YB f' g' h' a b c) : YB f g h a b c := by
  have p := rf a b a0 a1 b0 b1
  have q := rg _ c p.2.2.1 p.2.2.2 c0 c1
  have x := rh b c b0 b1 c0 c1
  have z := rg a _ a0 a1 x.1 x.2.1
  unfold YB at y ⊢
  rw [ef a b a0 a1 b0 b1, eh b c b0 b1 c0 c1, eg _ _ p.2.2.1 p.2.2.2 c0 c1, eg _ _ a0 a1 x.1 x.2.1, eh _ _ p.1 p.2.1 q.1 q.2.1, ef _ _ z.2.2.1 z.2.2.2 x.2.2.1 x.2.2.2]
  exact y
theorem YB.same (f s : Int) (s1 s2 s3 : Int × Int) (a b c : Int) (f0 : 0 ≤ f) (f4 : f ≤ 4) : YB (pairF f s s1) (pairF f s s2) (pairF f s s3) a b c := by
  have : f = 0 ∨ f = 1 ∨ f = 2 ∨ f = 3 ∨ f = 4 := by omega
  rcases this with rfl | rfl | rfl | rfl | rfl
  · exact ⟨rfl, rfl, rfl⟩
  · exact ⟨rfl, rfl, rfl⟩
  · simp only [YB, pairF, show ¬ ((2 : Int) = 0) by decide, show ¬ ((2 : Int) = 1) by decide, if_false, if_true]
    refine ⟨?_, ?_, ?_⟩ <;> (repeat' split) <;> omega
  · simp only [YB, pairF, show ¬ ((3 : Int) = 0) by decide, show ¬ ((3 : Int) = 1) by decide, show ¬ ((3 : Int) = 2) by decide, if_false, if_true]
    refine ⟨trivial, trivial, ?_⟩
    have e1 : (2 * c - (2 * b - a) % s) % s = (2 * c - (2 * b - a)) % s := by rw [Int.sub_emod, Int.emod_emod, ← Int.sub_emod]
    have e2 : (2 * ((2 * c - b) % s) - (2 * c - a) % s) % s = (2 * (2 * c - b) - (2 * c - a)) % s := by rw [Int.sub_emod, Int.emod_emod, Int.mul_emod, Int.emod_emod, ← Int.mul_emod, ← Int.sub_emod]
    rw [e1, e2]
    congr 1
    omega
  · simp only [YB, pairF, show ¬ ((4 : Int) = 0) by decide, show ¬ ((4 : Int) = 1) by decide, show ¬ ((4 : Int) = 2) by decide, show ¬ ((4 : Int) = 3) by decide, if_false, if_true]
    have e : ∀ x y z : Int, ((x + y) % s + z) % s = ((x + z) % s + y) % s := fun x y z => by rw [Int.emod_add_emod, Int.emod_add_emod]; congr 1; omega
    exact ⟨e _ _ _, e _ _ _, e _ _ _⟩
theorem YB.one {s : Int} {k : PF} {s1 s2 s3 : Int × Int} (a b c : Int) : YB k (pairF 0 s s2) (pairF 0 s s3) a b c ∧ YB (pairF 0 s s1) k (pairF 0 s s3) a b c ∧ YB (pairF 0 s s1) (pairF 0 s s2) k a b c := ⟨⟨rfl, rfl, rfl⟩, ⟨rfl, rfl, rfl⟩, ⟨rfl, rfl, rfl⟩⟩
/-- other names -/
theorem YB.name {n : Int → Int} {f g h f' g' h' : PF} {s a b c : Int} (rf : InR s f) (rg : InR s g) (rh : InR s h) (ef : ∀ a b, 0 ≤ a → a < s → 0 ≤ b → b < s → f' (n a) (n b) = (n (f a b).1, n (f a b).2)) (eg : ∀ a b, 0 ≤ a → a < s → 0 ≤ b → b < s → g' (n a) (n b) = (n (g a b).1, n (g a b).2)) (eh : ∀ a b, 0 ≤ a → a < s → 0 ≤ b → b < s → h' (n a) (n b) = (n (h a b).1, n (h a b).2))
    (a0 : 0 ≤ a) (a1 : a < s) (b0 : 0 ≤ b) (b1 : b < s) (c0 : 0 ≤ c) (c1 : c < s) (y : YB f g h a b c) : YB f' g' h' (n a) (n b) (n c) := by
  have p := rf a b a0 a1 b0 b1
  have q := rg _ c p.2.2.1 p.2.2.2 c0 c1
  have x := rh b c b0 b1 c0 c1
  have z := rg a _ a0 a1 x.1 x.2.1
  unfold YB at y ⊢
  rw [ef a b a0 a1 b0 b1, eh b c b0 b1 c0 c1]
  dsimp only
  rw [eg _ _ p.2.2.1 p.2.2.2 c0 c1, eg _ _ a0 a1 x.1 x.2.1]
  dsimp only
  rw [eh _ _ p.1 p.2.1 q.1 q.2.1, ef _ _ z.2.2.1 z.2.2.2 x.2.2.1 x.2.2.2]
  dsimp only
  rw [y.1, y.2.1, y.2.2]
  exact ⟨rfl, rfl, rfl⟩
end Wf
namespace Pv
open PySem PySem.Spec L2 Wf
/-! ### k18 -/
-- DEF law N ['_law_script', '_law_turn', '_law_deal_here', '_law_some', '_law_book_here', '_law_form', '_law_due', '_law_many', '_law_most'] calls ['_law_deal', '_law_draw', '_law_book', '_law_first_bad', '_law_alike', 'judge_book'] takes []
end Pv
/-! Good books: all passings lead to one last row. -/
namespace Pv
open PySem PySem.Spec L2 Wf
/-! ### a measure -/
/-! ### no passing more -/
def NoDesc (r : List Wk) : Prop := ∀ k, k + 1 < r.length → ¬ (wk r (k + 1)).1 < (wk r k).1
structure Max (B : Book) (r : List Wk) (ws : List Nat) : Prop where
  fw : fwdW B r ws
  nd : NoDesc (ledN B r ws)
theorem Max.cons {B : Book} {r : List Wk} {k : Nat} {ws : List Nat} (h1 : k + 1 < r.length) (h2 : (wk r (k + 1)).1 < (wk r k).1) (h : Max B (passR B r k) ws) : Max B r (k :: ws) := ⟨⟨⟨h1, h2⟩, h.fw⟩, h.nd⟩
end Pv
namespace Pv
/-! Roads: which passing is sooner, and that each is of neighbours. Numbers alone. -/
abbrev Ev := Nat × Nat
def gp (p : Nat → Int) (e : Ev) : Int := p e.1 - p e.2
end Pv
/-! Tuples whose objects are known, also within: written ones, parts, sums; loops over them. -/
namespace Pv
open PySem PySem.Spec L2 Wf
variable {B : Bas}
/-- what an item is -/
def itemR : PyData → R
  | .tuple es => .ow (.ptl es)
  | d => .im d
/-! ### targets -/
def gP (i : Nat) : PGx := fun d δ Q => setS i (itemR d) δ Q
/-! ### a written tuple of known things -/
end Pv
/-! Parts and sums of known tuples are known tuples. -/
namespace Pv
open PySem PySem.Spec L2 Wf
/-! ### a call that may raise, in a try, handed known tuples too -/
end Pv
namespace Pv
open PySem PySem.Spec L2 Wf
/-! ### k13: _law_due, _law_told, law -/
-- def law N ['_law_script', '_law_deal_here', '_law_book_here', '_law_row_here', '_law_some', '_law_k', '_law_kept', '_law_far', '_law_due_here', '_law_wanted'] calls ['_law_deal', '_law_book', '_law_draw', '_law_row', '_law_due', '_law_alike', '_law_told'] takes []
end Pv
namespace Pv
open PySem PySem.Spec L2 Wf
/-! ### numbers that are an order -/
/-! ### _law_due -/
/-! ### _law_told -/
/-! ### _law_changed -/
/-! ### k11 -/
end Pv
/-! [a, b, ..][i] of known things. -/
namespace Pv
open PySem PySem.Spec L2 Wf
end Pv
namespace Pv
open PySem PySem.Spec L2 Wf
/-! ### the order behind a forward word is forward -/
/-! ### the first place of one who has passed wrongly -/
/-! ### look_forward -/
end Pv
namespace Pv
/-! Roads: each passing is of neighbours; the word, and the order behind it. -/
/-- o: an order of n walkers in which j stands behind i, i < j, just where D i j -/
structure InvO (n : Nat) (o : List Nat) (D : Nat → Nat → Prop) : Prop where
  pm : o.Perm (List.range n)
  iv : ∀ a b, a < b → b < n → (o.idxOf b < o.idxOf a ↔ D a b)
theorem InvO.nd {n : Nat} {o : List Nat} {D : Nat → Nat → Prop} (h : InvO n o D) : o.Nodup := h.pm.nodup_iff.mpr List.nodup_range
theorem split2 {o : List Nat} {k : Nat} (h : k + 1 < o.length) : ∃ A x y C, o = A ++ x :: y :: C ∧ A.length = k ∧ o.getD k 0 = x ∧ o.getD (k + 1) 0 = y := by
  refine ⟨o.take k, o[k]'(by omega), o[k + 1]'h, o.drop (k + 2), ?_, by rw [List.length_take]; omega, ?_, ?_⟩
  · rw [← List.drop_eq_getElem_cons, ← List.drop_eq_getElem_cons, List.take_append_drop]
  · rw [List.getD, List.getElem?_eq_getElem (by omega)]; rfl
  · rw [List.getD, List.getElem?_eq_getElem h]; rfl
/-! ### letters of passings -/
/-! ### one list alone -/
end Pv
namespace Pv
open PySem PySem.Spec L2 Wf
/-! Books whose threes all go both ways alike: all passings lead to one last row. Words as long as may be. -/
/-! ### inversions -/
def invC : List Nat → Nat
  | [] => 0
  | x :: l => (l.filter fun y => decide (y < x)).length + invC l
theorem inv_swap {x y : Nat} (h : y < x) (C : List Nat) : ∀ A : List Nat, invC (A ++ x :: y :: C) = invC (A ++ y :: x :: C) + 1
  | [] => by
    show ((y :: C).filter fun z => decide (z < x)).length + ((C.filter fun z => decide (z < y)).length + invC C) = ((x :: C).filter fun z => decide (z < y)).length + ((C.filter fun z => decide (z < x)).length + invC C) + 1
    rw [List.filter_cons_of_pos (by simp [h]), List.filter_cons_of_neg (by simp; omega), List.length_cons]
    omega
  | a :: A => by
    show ((A ++ x :: y :: C).filter fun z => decide (z < a)).length + invC (A ++ x :: y :: C) = ((A ++ y :: x :: C).filter fun z => decide (z < a)).length + invC (A ++ y :: x :: C) + 1
    have p : (A ++ x :: y :: C).Perm (A ++ y :: x :: C) := (List.Perm.swap y x C).append_left A
    rw [(p.filter _).length_eq, inv_swap h C A]
    omega
theorem inv_let {st : List Nat} {k : Nat} (h : letOk false st k) : invC st = invC (swp st k) + 1 := by
  have h1 := h.1
  obtain ⟨A, x, y, C, e, eA, gx, gy⟩ := split2 h1
  have lt : y < x := by
    rcases h.2 with z | z
    · rw [gx, gy] at z; exact z
    · exact absurd z.1 (by decide)
  have es : swp st k = A ++ y :: x :: C := by
    rw [← eA]
    conv => lhs; rw [e]
    exact swp_mid A C x y
  rw [es, e]
  exact inv_swap lt C A
theorem inv_word : ∀ {ws st : List Nat}, wordOk false st ws → invC st = invC (goW st ws) + ws.length
  | [], st, _ => rfl
  | k :: ws, st, h => by
    rw [inv_let h.1, inv_word h.2]
    show invC (goW (swp st k) ws) + ws.length + 1 = _ + (ws.length + 1)
    rfl
theorem inv_le : ∀ l : List Nat, 2 * invC l + l.length ≤ l.length * l.length
  | [] => Nat.le_refl _
  | x :: l => by
    have h1 := inv_le l
    have h2 : (l.filter fun y => decide (y < x)).length ≤ l.length := List.length_filter_le _ _
    show 2 * ((l.filter fun y => decide (y < x)).length + invC l) + (l.length + 1) ≤ (l.length + 1) * (l.length + 1)
    have e : (l.length + 1) * (l.length + 1) = l.length * l.length + 2 * l.length + 1 := by
      rw [Nat.add_mul, Nat.mul_add, Nat.one_mul, Nat.mul_one]
      omega
    omega
/-! ### _law_word: as long as may be -/
end Pv
/-! Moves keep the order; words that pass each pair once. -/
namespace Pv
open PySem PySem.Spec L2 Wf
theorem swp_get {xs : List Nat} {k : Nat} (h : k + 1 < xs.length) (i : Nat) : (swp xs k).getD i 0 = if i = k then xs.getD (k + 1) 0 else if i = k + 1 then xs.getD k 0 else xs.getD i 0 := by
  unfold swp
  simp only [List.getD_eq_getElem?_getD, List.getElem?_set, List.length_set]
  by_cases h1 : i = k
  · subst h1
    rw [if_neg (by omega), if_pos rfl, if_pos rfl, if_pos (by omega)]
    rfl
  · by_cases h2 : i = k + 1
    · subst h2
      rw [if_pos rfl, if_neg h1, if_pos rfl, if_pos (by omega)]
      rfl
    · rw [if_neg (by omega), if_neg (by omega), if_neg h1, if_neg h2]
theorem ext_getD {a b : List Nat} (hl : a.length = b.length) (h : ∀ i, i < a.length → a.getD i 0 = b.getD i 0) : a = b := by
  refine List.ext_getElem? fun i => ?_
  by_cases hi : i < a.length
  · rw [getD_of hi, getD_of (show i < b.length by omega), h i hi]
  · rw [List.getElem?_eq_none (by omega), List.getElem?_eq_none (by omega)]
theorem swp_swp {xs : List Nat} {k : Nat} (h : k + 1 < xs.length) : swp (swp xs k) k = xs := by
  refine ext_getD (by rw [swp_len, swp_len]) fun i hi => ?_
  have h2 : k + 1 < (swp xs k).length := by rw [swp_len]; exact h
  rw [swp_get h2, swp_get h, swp_get h, swp_get h]
  by_cases a : i = k
  · subst a; simp
  · by_cases b : i = k + 1
    · subst b; simp
    · simp [a, b]
theorem swp_comm {xs : List Nat} {j k : Nat} (h1 : j + 1 < xs.length) (h2 : k + 1 < xs.length) (d : j + 2 ≤ k ∨ k + 2 ≤ j) : swp (swp xs j) k = swp (swp xs k) j := by
  refine ext_getD (by simp only [swp_len]) fun i hi => ?_
  have h1' : j + 1 < (swp xs k).length := by rw [swp_len]; exact h1
  have h2' : k + 1 < (swp xs j).length := by rw [swp_len]; exact h2
  rw [swp_get h2', swp_get h1']
  simp only [swp_get h1, swp_get h2]
  repeat' split
  all_goals (first | rfl | omega)
theorem swp_braid {xs : List Nat} {k : Nat} (h : k + 2 < xs.length) : swp (swp (swp xs k) (k + 1)) k = swp (swp (swp xs (k + 1)) k) (k + 1) := by
  refine ext_getD (by simp only [swp_len]) fun i hi => ?_
  have a1 : k + 1 < xs.length := by omega
  have a2 : k + 1 + 1 < xs.length := by omega
  have b1 : k + 1 + 1 < (swp xs k).length := by rw [swp_len]; exact a2
  have b2 : k + 1 < (swp xs (k + 1)).length := by rw [swp_len]; exact a1
  have c1 : k + 1 < (swp (swp xs k) (k + 1)).length := by rw [swp_len, swp_len]; exact a1
  have c2 : k + 1 + 1 < (swp (swp xs (k + 1)) k).length := by rw [swp_len, swp_len]; exact a2
  have k1 : ¬ k + 1 = k := by omega
  have k2 : ¬ k + 1 + 1 = k := by omega
  have k3 : ¬ k + 1 + 1 = k + 1 := by omega
  have k4 : ¬ k = k + 1 := by omega
  have k5 : ¬ k = k + 1 + 1 := by omega
  have k6 : ¬ k + 1 = k + 1 + 1 := by omega
  rcases (show i = k ∨ i = k + 1 ∨ i = k + 1 + 1 ∨ (i ≠ k ∧ i ≠ k + 1 ∧ i ≠ k + 1 + 1) by omega) with e | e | e | ⟨e1, e2, e3⟩
  · subst e
    simp only [swp_get c1, swp_get c2, swp_get b1, swp_get b2, swp_get a1, swp_get a2, if_true, if_neg k1, if_neg k2, if_neg k3, if_neg k4, if_neg k5, if_neg k6]
  · subst e
    simp only [swp_get c1, swp_get c2, swp_get b1, swp_get b2, swp_get a1, swp_get a2, if_true, if_neg k1, if_neg k2, if_neg k3, if_neg k4, if_neg k5, if_neg k6]
  · subst e
    simp only [swp_get c1, swp_get c2, swp_get b1, swp_get b2, swp_get a1, swp_get a2, if_true, if_neg k1, if_neg k2, if_neg k3, if_neg k4, if_neg k5, if_neg k6]
  · simp only [swp_get c1, swp_get c2, swp_get b1, swp_get b2, swp_get a1, swp_get a2, if_neg e1, if_neg e2, if_neg e3]
theorem st_go {w v : List Nat} {m : Mv} (h : StW w m v) {xs : List Nat} (hw : ∀ x ∈ w, x + 1 < xs.length) (hv : ∀ x ∈ v, x + 1 < xs.length) : goW xs v = goW xs w := by
  cases h with
  | @far A D x y h =>
    have hx := hw x (by simp)
    have hy := hw y (by simp)
    rw [goW_app, goW_app]
    show goW (swp (swp (goW xs A) y) x) D = goW (swp (swp (goW xs A) x) y) D
    rw [swp_comm (by rw [goW_len]; exact hy) (by rw [goW_len]; exact hx) (by omega)]
  | @turn A D x y h =>
    have hx := hw x (by simp)
    have hy := hw y (by simp)
    rw [goW_app, goW_app]
    show goW (swp (swp (swp (goW xs A) y) x) y) D = goW (swp (swp (swp (goW xs A) x) y) x) D
    rcases h with rfl | rfl
    · rw [swp_braid (by rw [goW_len]; omega)]
    · rw [← swp_braid (by rw [goW_len]; omega)]
  | @gone A D x =>
    have hx := hw x (by simp)
    rw [goW_app, goW_app]
    show goW (goW xs A) D = goW (swp (swp (goW xs A) x) x) D
    rw [swp_swp (by rw [goW_len]; exact hx)]
  | @come A D x =>
    have hx := hv x (by simp)
    rw [goW_app, goW_app]
    show goW (swp (swp (goW xs A) x) x) D = goW (goW xs A) D
    rw [swp_swp (by rw [goW_len]; exact hx)]
/-- letters stay among those that were, and those that came -/
theorem st_mem {w v : List Nat} {m : Mv} (h : StW w m v) {P : Nat → Prop} (hw : ∀ x ∈ w, P x) (hc : ∀ i k, m = .come i k → P k) : ∀ x ∈ v, P x := by
  cases h with
  | far h =>
    intro x hx
    simp only [List.mem_append, List.mem_cons] at hx
    rcases hx with h | h | h | h <;> exact hw x (by simp [h])
  | turn h =>
    intro x hx
    simp only [List.mem_append, List.mem_cons] at hx
    rcases hx with h | h | h | h | h <;> exact hw x (by simp [h])
  | gone =>
    intro x hx
    simp only [List.mem_append] at hx
    rcases hx with h | h <;> exact hw x (by simp [h])
  | come =>
    intro x hx
    simp only [List.mem_append, List.mem_cons] at hx
    rcases hx with h | h | h | h
    · exact hw x (by simp [h])
    · subst h; exact hc _ _ rfl
    · subst h; exact hc _ _ rfl
    · exact hw x (by simp [h])
theorem sts_go {w v : List Nat} {ms : List Mv} (h : Sts w ms v) {xs : List Nat} : (∀ x ∈ w, x + 1 < xs.length) → (∀ i k, Mv.come i k ∈ ms → k + 1 < xs.length) → goW xs v = goW xs w := by
  induction h with
  | nil => exact fun _ _ => rfl
  | @cons w v u m ms s _ ih =>
    intro hw hc
    have hv := st_mem s (P := fun x => x + 1 < xs.length) hw fun i k e => hc i k (by rw [e]; exact List.mem_cons_self)
    rw [ih hv fun i k hm => hc i k (List.mem_cons_of_mem _ hm), st_go s hw hv]
def isGone : Mv → Bool
  | .gone _ => true
  | _ => false
theorem sts_len {w v : List Nat} {ms : List Mv} (h : Sts w ms v) (nc : NoCome ms) : w.length = v.length + 2 * ms.countP isGone := by
  induction h with
  | nil => simp
  | @cons w v u m ms s _ ih =>
    have i1 := ih fun x hx => nc x (List.mem_cons_of_mem _ hx)
    have n1 := nc m List.mem_cons_self
    cases s with
    | far h => simp [List.countP_cons, isGone] at i1 ⊢; omega
    | turn h => simp [List.countP_cons, isGone] at i1 ⊢; omega
    | gone => simp [List.countP_cons, isGone] at i1 ⊢; omega
    | come => exact absurd rfl (n1 _ _)
/-! ### a word worn down leads to the same order, and is its normal word -/
theorem wear_all {N : Nat} {w : List Nat} (hw : ∀ L ∈ w, L + 2 ≤ N) : Sts w (wearM N c0 w) (runsW (wearC N c0 w) N) := by
  have := wear_sts (N := N) (w := w) (c := c0) (fun j => Nat.zero_le j) hw
  rw [runs0] at this
  exact this
theorem wear_go {N : Nat} {w : List Nat} (hw : ∀ L ∈ w, L + 2 ≤ N) : goW (List.range N) w = ordC (wearC N c0 w) N := by
  have h := sts_go (wear_all hw) (xs := List.range N) (fun x hx => by rw [List.length_range]; have := hw x hx; omega) fun i k hm => absurd rfl (wear_nocome w c0 _ hm i k)
  rw [← h, go_runs (c := wearC N c0 w) fun m _ => wear_le (c := c0) (fun j => Nat.zero_le j) m]
theorem wear_norm {N : Nat} {w : List Nat} (hw : ∀ L ∈ w, L + 2 ≤ N) : normW (goW (List.range N) w) = runsW (wearC N c0 w) N := by
  rw [wear_go hw, norm_runs (c := wearC N c0 w) fun m _ => wear_le (c := c0) (fun j => Nat.zero_le j) m]
/-! ### words that pass no pair twice -/
def sgl : List Nat → List Nat → Bool
  | _, [] => true
  | o, k :: w => if o.getD (k + 1) 0 < o.getD k 0 then false else sgl (swp o k) w
theorem sgl_word {n : Nat} : ∀ {w o : List Nat}, o.Perm (List.range n) → (∀ x ∈ w, x + 1 < n) → sgl o w = true → wordOk false (o.map fun i => n - 1 - i) w
  | [], _, _, _, _ => trivial
  | k :: w, o, hp, hw, h => by
    have hk := hw k List.mem_cons_self
    have hl := perm_len hp
    unfold sgl at h
    split at h
    · cases h
    · rename_i c
      have nd : o.Nodup := hp.nodup_iff.mpr List.nodup_range
      have ne : o.getD k 0 ≠ o.getD (k + 1) 0 := fun z => by
        have e1 := getD_of (xs := o) (i := k) (by omega)
        have e2 := getD_of (xs := o) (i := k + 1) (by omega)
        have := (List.pairwise_iff_getElem.mp nd) k (k + 1) (by omega) (by omega) (by omega)
        rw [List.getElem?_eq_getElem (by omega)] at e1 e2
        exact this ((Option.some.inj e1).trans (z.trans (Option.some.inj e2).symm))
      have b : o.getD (k + 1) 0 < n := (mem_of_perm hp).mp (by rw [List.getD_eq_getElem?_getD, List.getElem?_eq_getElem (show k + 1 < o.length by omega)]; exact List.getElem_mem _)
      have gm : ∀ j, j < o.length → (o.map fun i => n - 1 - i).getD j 0 = n - 1 - o.getD j 0 := fun j hj => by
        rw [List.getD_eq_getElem?_getD, List.getElem?_map, List.getElem?_eq_getElem hj, List.getD_eq_getElem?_getD, List.getElem?_eq_getElem hj]
        rfl
      refine ⟨⟨by rw [List.length_map]; omega, .inl ?_⟩, ?_⟩
      · rw [gm _ (by omega), gm _ (by omega)]
        omega
      · rw [swp_map _ (by omega)]
        exact sgl_word ((swp_perm (by omega)).trans hp) (fun x hx => hw x (List.mem_cons_of_mem _ hx)) h
/-- as long as the normal word of its order -/
theorem sgl_len {N : Nat} {w : List Nat} (hw : ∀ L ∈ w, L + 2 ≤ N) (h : sgl (List.range N) w = true) : w.length = (runsW (wearC N c0 w) N).length := by
  have hw' : ∀ x ∈ w, x + 1 < N := fun x hx => by have := hw x hx; omega
  have w1 := sgl_word (.refl _) hw' h
  have hp : (goW (List.range N) w).Perm (List.range N) := goW_perm fun x hx => by rw [List.length_range]; exact hw' x hx
  have w2 := norm_word (ks := fallK N) (os := goW (List.range N) w) (by rw [fallK_len]; exact hp) (fall_fwd hp)
  have ek : (List.range N).map (fun i => N - 1 - i) = fallK N := rfl
  rw [ek] at w1
  have i1 := inv_word w1
  have i2 := inv_word w2
  have e1 : goW (fallK N) w = (goW (List.range N) w).map fun i => N - 1 - i := by
    rw [← ek, goW_map _ fun x hx => by rw [List.length_range]; exact hw' x hx]
  have e2 : goW (fallK N) (normW (goW (List.range N) w)) = (goW (List.range N) w).map fun i => N - 1 - i := by
    rw [← ek, goW_map _ fun x hx => ?_, norm_go hp]
    have := pre_lt hp (goW (List.range N) w).length (by rw [perm_len hp]; exact Nat.le_refl _) x hx
    rw [List.length_range]; exact this
  rw [e1] at i1
  rw [e2] at i2
  rw [← wear_norm hw]
  omega
theorem sgl_nogone {N : Nat} {w : List Nat} (hw : ∀ L ∈ w, L + 2 ≤ N) (h : sgl (List.range N) w = true) : (wearM N c0 w).countP isGone = 0 := by
  have l1 := sts_len (wear_all hw) (wear_nocome w c0)
  have l2 := sgl_len hw h
  omega
end Pv
namespace Pv
open PySem PySem.Spec L2 Wf
/-! ### _law_letters -/
def pr_lletters_1 : PSx :=
    pExpr (pMt mAppend (pVar 3) (pCons (pVar 5) (pNil)))
def pr_lletters_2 : PSx :=
    pSeq (pIf (pAnd (pT (pEq true (pVar 3) (pLst (pNil)))) (pT (pGt (pCall psp_draw (pCons (pVar 0) (pCons (pFz (pK (.int 3))) (pNil))) noX) (pK (.int 0))))) (pSet 5 (pC (q2 fMax2) (pCons (pK (.int 0)) (pCons (pC (q2 fMin2) (pCons (pSub (pVar 2) (pK (.int 1))) (pCons (pSub (pAdd (pIx (pVar 3) (pNeg (pK (.int 1)))) (pCall psp_draw (pCons (pVar 0) (pCons (pFz (pK (.int 3))) (pNil))) noX)) (pK (.int 1))) (pNil)))) (pNil))))) (pNext))
    (pr_lletters_1)
def pb_lletters_3 : PSx :=
    pSeq (pSet 5 (pCall psp_draw (pCons (pVar 0) (pCons (pFz (pVar 2)) (pNil))) noX))
    (pr_lletters_2)
def pr_lletters_3 : PSx :=
    pRet (pC (q1 fTupleOf) (pCons (pVar 3) (pNil)))
def pr_lletters_4 : PSx :=
    pSeq (pFor [4, 5] (iRg (pCons (pVar 1) (pNil))) (gN 4) (pb_lletters_3))
    (pr_lletters_3)
def p_lletters : PSx :=
    pSeq (pSet 3 (pLst (pNil)))
    (pr_lletters_4)
theorem atLast {xs : List PyData} {x : PyData} (h : xs[xs.length - 1]? = some x) (h0 : 0 < xs.length) : atI xs (-1) = some x := by
  unfold atI ixN
  rw [if_neg (by decide), if_pos (by omega)]
  show xs[((xs.length : Int) + -1).toNat]? = some x
  rw [show ((xs.length : Int) + -1).toNat = xs.length - 1 by omega]
  exact h
theorem shaped_ints (w : List Int) : SeqAt.shaped (.list (w.map PyData.int)) = true := shaped_map PyData.int 0 (by decide) w fun x => ⟨rfl, Nat.le_refl 0⟩
/-! ### _law_whole, _law_is_form -/
end Pv
namespace Pv
open PySem PySem.Spec L2 Wf
/-! Of the laws on moves: letters drawn, single words, how many walkers a word needs. -/
def psp_llettersN : PSp := fun as Q _ => ∃ n wide : Nat, as = [.ow true .deal, .im (nD n), .im (nD wide)] ∧ n ≤ 1000 ∧ 1 ≤ wide ∧ wide ≤ 1000 ∧ ∀ w : List Nat, w.length = n → (∀ x ∈ w, x < wide) → Q (.im (.tuple (dN w))) [.ow true .deal, .un, .un]
theorem hp_llettersN (as : List Sl) (Qp : QE) (Ep : EX) (h : psp_llettersN as Qp Ep) : p_lletters (endsP as Qp) (as ++ List.replicate 3 .un) := by
  obtain ⟨n, wide, rfl, hn, h1, hw, q⟩ := h
  refine ⟨_, _, rfl, ?_⟩
  show pr_lletters_4 _ [.ow true .deal, .im (nD n), .im (nD wide), .ow false (.lst []), .un, .un]
  refine ⟨by omega, by omega, ?_⟩
  refine for_rg n rfl (fun i δ => ∃ w : List Int, w.length = i ∧ (∀ x ∈ w, 0 ≤ x ∧ x < wide) ∧ δ = [.ow true .deal, .im (nD n), .im (nD wide), .ow false (.lst (w.map PyData.int)), .un, .un]) ⟨[], rfl, nofun, rfl⟩ ?_ ?_
  · rintro i δ hi ⟨w, hwl, hwb, rfl⟩
    refine ⟨_, _, rfl, _, rfl, nd1 0, _, rfl, by omega, by omega, fun k hk => ⟨_, _, rfl, ?_⟩⟩
    show pr_lletters_2 _ [.ow true .deal, .im (nD n), .im (nD wide), .ow false (.lst (w.map PyData.int)), .im (nD i), .im (nD k)]
    have put : ∀ (E : PEn) (k : Int), (0 ≤ k ∧ k < wide) → (∀ w' : List Int, w'.length = i + 1 → (∀ x ∈ w', 0 ≤ x ∧ x < wide) → E.nx [.ow true .deal, .im (nD n), .im (nD wide), .ow false (.lst (w'.map PyData.int)), .im (nD i), .im (.int k)]) → pr_lletters_1 E [.ow true .deal, .im (nD n), .im (nD wide), .ow false (.lst (w.map PyData.int)), .im (nD i), .im (.int k)] := fun E k hkb hE => by
      refine ⟨_, _, _, rfl, rfl, _, _, _, _, rfl, rfl, ?_, ?_⟩
      · rw [List.length_map]
        exact szN (m := 1000) (by omega) (by decide)
      · have := hE (w ++ [k]) (by simp; omega) (fun x hx => by
          rcases List.mem_append.mp hx with h | h
          · exact hwb x h
          · rw [List.mem_singleton.mp h]; exact hkb)
        rw [List.map_append] at this
        exact this
    refine ⟨shaped_ints w, rfl, _, rfl, ?_⟩
    show if (!eqd (.list (w.map PyData.int)) (.list [])) = true then _ else _
    rw [eqd_nilM]
    cases he : w.isEmpty with
    | true =>
      rw [if_neg (by decide)]
      exact put _ _ (by first | omega | (constructor <;> split <;> (try split) <;> omega)) fun w' h' h2 => ⟨w', h', h2, rfl⟩
    | false =>
      rw [if_pos (by decide)]
      have h0 : 0 < w.length := by
        cases w with
        | nil => cases he
        | cons a w => simp
      refine ⟨_, _, rfl, _, rfl, nd1 0, _, rfl, by decide, by decide, fun b hb => ?_⟩
      simp only [pk0]
      refine ⟨trivial, _, rfl, ?_⟩
      show if decide ((0 : Int) < (b : Int)) = true then _ else _
      split
      · refine ⟨trivial, _, atLast (x := .int (ltr w (w.length - 1))) ?_ (by rw [List.length_map]; exact h0), ?_⟩
        · rw [List.length_map, List.getElem?_map, ltr_get (by omega)]; rfl
        refine ⟨_, _, rfl, _, rfl, nd1 0, _, rfl, by decide, by decide, fun c hc => ?_⟩
        simp only [pk0]
        refine ⟨trivial, _, _, rfl, ?_⟩
        exact put _ _ (by first | omega | (constructor <;> split <;> (try split) <;> omega)) fun w' h' h2 => ⟨w', h', h2, rfl⟩
      · exact put _ _ (by first | omega | (constructor <;> split <;> (try split) <;> omega)) fun w' h' h2 => ⟨w', h', h2, rfl⟩
  · rintro δ ⟨w, hwl, hwb, rfl⟩
    have ew : w = (w.map Int.toNat).map fun k : Nat => (k : Int) := by
      rw [List.map_map]
      refine (List.map_id' w).symm.trans (List.map_congr_left fun x hx => ?_)
      have := hwb x hx
      show x = ((x.toNat : Nat) : Int)
      omega
    have q := q (w.map Int.toNat) (by rw [List.length_map]; exact hwl) fun x hx => by
      obtain ⟨y, hy, rfl⟩ := List.mem_map.mp hx
      have := hwb y hy
      omega
    refine ⟨_, _, rfl, ?_⟩
    have e2 : w.map PyData.int = dN (w.map Int.toNat) := by
      rw [dN_iW]
      unfold iW
      rw [← ew]
    show Qp (.im (.tuple (w.map PyData.int))) _
    rw [e2]
    exact q
/-! ### _law_need -/
def needN (w : List Nat) : Nat := w.foldl (fun a L => max a (L + 2)) 0
theorem need_go : ∀ (w : List Nat) (a : Nat), a ≤ w.foldl (fun a L => max a (L + 2)) a ∧ (∀ L ∈ w, L + 2 ≤ w.foldl (fun a L => max a (L + 2)) a) ∧ (w.foldl (fun a L => max a (L + 2)) a = a ∨ ∃ L ∈ w, w.foldl (fun a L => max a (L + 2)) a = L + 2)
  | [], a => ⟨Nat.le_refl _, nofun, .inl rfl⟩
  | L :: w, a => by
    obtain ⟨h1, h2, h3⟩ := need_go w (max a (L + 2))
    refine ⟨by show a ≤ w.foldl _ (max a (L + 2)); omega, fun x hx => ?_, ?_⟩
    · rcases List.mem_cons.mp hx with rfl | hx
      · show x + 2 ≤ w.foldl _ (max a (x + 2)); omega
      · exact h2 x hx
    · show w.foldl _ (max a (L + 2)) = a ∨ _
      rcases h3 with h3 | ⟨x, hx, h3⟩
      · by_cases c : a ≤ L + 2
        · exact .inr ⟨L, List.mem_cons_self, by show w.foldl _ (max a (L + 2)) = _; rw [h3]; omega⟩
        · exact .inl (by rw [h3]; omega)
      · exact .inr ⟨x, List.mem_cons_of_mem _ hx, h3⟩
theorem need_le {w : List Nat} : ∀ L ∈ w, L + 2 ≤ needN w := (need_go w 0).2.1
theorem need_lt {w : List Nat} {N : Nat} (h : ∀ L ∈ w, L + 2 ≤ N) : needN w ≤ N := by
  rcases (need_go w 0).2.2 with e | ⟨L, hL, e⟩
  · show w.foldl _ 0 ≤ N; omega
  · have := h L hL; show w.foldl _ 0 ≤ N; omega
-- DEF _law_need N ['_law_word', '_law_k'] calls [] takes []
def pe_lneed_1 : PX :=
    pAdd (pVar 1) (pK (.int 2))
def p_lneed : PSx :=
    pRet (pC (q1 fMaxL) (pCons (pAdd (pComp (iSeq (pVar 0)) (gN 1) (pYes) (pe_lneed_1) [1]) (pLst (pCons (pK (.int 0)) (pNil)))) (pNil)))
/-- letters and two more, as numbers -/
def twoI (w : List Nat) : List Int := w.map fun L : Nat => (L : Int) + 2
theorem max_need {w : List Nat} {m : Int} (h1 : m ∈ twoI w ++ [0]) (h2 : ∀ y ∈ twoI w ++ [0], y ≤ m) : m = ((needN w : Nat) : Int) := by
  have h0 := h2 0 (by simp)
  have hL : ∀ L ∈ w, (L : Int) + 2 ≤ m := fun L hL => h2 _ (List.mem_append_left _ (List.mem_map.mpr ⟨L, hL, rfl⟩))
  rcases List.mem_append.mp h1 with h | h
  · obtain ⟨L, hl, rfl⟩ := List.mem_map.mp h
    have a1 := need_le L hl
    have a2 := need_lt (w := w) (N := L + 2) fun x hx => by have := hL x hx; omega
    omega
  · rw [List.mem_singleton.mp h] at hL ⊢
    have a2 := need_lt (w := w) (N := 0) fun x hx => by have := hL x hx; omega
    omega
def psp_lneed : PSp := fun as Q _ => ∃ w : List Nat, as = [.im (.tuple (dN w))] ∧ w.length ≤ 1000 ∧ Q (.im (nD (needN w))) [.un]
theorem hp_lneed (as : List Sl) (Qp : QE) (Ep : EX) (h : psp_lneed as Qp Ep) : p_lneed (endsP as Qp) (as ++ List.replicate 1 .un) := by
  obtain ⟨w, rfl, wl, q⟩ := h
  have z24 : (10000 : Nat) < sizeLine := by decide
  refine ⟨_, _, _, rfl, rfl, noPin1 (fun o => nofun), fun j acc δ => acc = (twoI (w.take j)).map PyData.int ∧ δ = [.im (.tuple (dN w)), .un], ⟨rfl, rfl⟩, ?_, ?_⟩
  · rintro j d acc δ hd ⟨rfl, rfl⟩
    rw [List.getElem?_map] at hd
    obtain ⟨k, hk, rfl⟩ := Option.map_eq_some_iff.mp hd
    refine ⟨_, _, rfl, ?_, ?_, rfl⟩
    · unfold twoI
      rw [List.length_map, List.length_map, List.length_take]
      exact szN (m := 1000) (by omega) (by decide)
    · unfold twoI
      rw [List.take_add_one, hk, Option.toList_some, List.map_append, List.map_append]
      rfl
  · rintro acc δ ⟨rfl, rfl⟩
    rw [dN_len, List.take_length]
    refine ⟨?_, twoI w ++ [0], ?_, by simp, fun m h1 h2 => ?_⟩
    · show ((twoI w).map PyData.int).length + 1 ≤ sizeLine
      unfold twoI
      rw [List.length_map, List.length_map]
      omega
    · rw [List.map_append]
      rfl
    · rw [max_need h1 h2]
      exact ⟨_, _, rfl, q⟩
/-! ### _law_is_single -/
-- DEF _law_is_single N ['_law_word', '_law_order_here', '_law_k'] calls [] takes []
def pe_lissingle_1 : PX :=
    pAdd (pVar 2) (pK (.int 2))
def pr_lissingle_1 : PSx :=
    pAsg (pTup (pCons (pIx (pVar 1) (pAdd (pVar 2) (pK (.int 1)))) (pCons (pIx (pVar 1) (pVar 2)) (pNil)))) (gT 2 (gsC (gSx (pVar 1) (pVar 2)) (gsC (gSx (pVar 1) (pAdd (pVar 2) (pK (.int 1)))) (gsN))))
def pb_lissingle_3 : PSx :=
    pSeq (pIf (pT (pGt (pIx (pVar 1) (pVar 2)) (pIx (pVar 1) (pAdd (pVar 2) (pK (.int 1)))))) (pRet (pK (.bool false))) (pNext))
    (pr_lissingle_1)
def pr_lissingle_2 : PSx :=
    pRet (pK (.bool true))
def pr_lissingle_3 : PSx :=
    pSeq (pFor [2] (iSeq (pVar 0)) (gN 2) (pb_lissingle_3))
    (pr_lissingle_2)
def p_lissingle : PSx :=
    pSeq (pSet 1 (pLstRg (pRg1 (pC (q1 fMaxL) (pCons (pAdd (pComp (iSeq (pVar 0)) (gN 2) (pYes) (pe_lissingle_1) [2]) (pLst (pCons (pK (.int 0)) (pNil)))) (pNil))))))
    (pr_lissingle_3)
def psp_lissingle : PSp := fun as Q _ => ∃ w : List Nat, as = [.im (.tuple (dN w))] ∧ w.length ≤ 1000 ∧ needN w ≤ 1000 ∧ Q (.im (.bool (sgl (List.range (needN w)) w))) [.un]
theorem hp_lissingle (as : List Sl) (Qp : QE) (Ep : EX) (h : psp_lissingle as Qp Ep) : p_lissingle (endsP as Qp) (as ++ List.replicate 2 .un) := by
  obtain ⟨w, rfl, wl, n1, q⟩ := h
  have z24 : (10000 : Nat) < sizeLine := by decide
  refine ⟨_, _, _, rfl, rfl, noPin1 (fun o => nofun), fun j acc δ => acc = (twoI (w.take j)).map PyData.int ∧ δ = [.im (.tuple (dN w)), .un, .un], ⟨rfl, rfl⟩, ?_, ?_⟩
  · rintro j d acc δ hd ⟨rfl, rfl⟩
    rw [List.getElem?_map] at hd
    obtain ⟨k, hk, rfl⟩ := Option.map_eq_some_iff.mp hd
    refine ⟨_, _, rfl, ?_, ?_, rfl⟩
    · unfold twoI
      rw [List.length_map, List.length_map, List.length_take]
      exact szN (m := 1000) (by omega) (by decide)
    · unfold twoI
      rw [List.take_add_one, hk, Option.toList_some, List.map_append, List.map_append]
      rfl
  · rintro acc δ ⟨rfl, rfl⟩
    rw [dN_len, List.take_length]
    refine ⟨?_, twoI w ++ [0], ?_, by simp, fun m h1 h2 => ?_⟩
    · show ((twoI w).map PyData.int).length + 1 ≤ sizeLine
      unfold twoI
      rw [List.length_map, List.length_map]
      omega
    · rw [List.map_append]
      rfl
    · rw [max_need h1 h2]
      have nl := need_le (w := w)
      generalize needN w = N at *
      refine ⟨_, rfl, ⟨by omega, by omega, by omega⟩, _, _, rfl, ?_⟩
      rw [rgD_dN]
      show pr_lissingle_3 _ [.im (.tuple (dN w)), .ow false (.lst (dN (List.range N))), .un]
      refine ⟨_, _, _, rfl, rfl, ?_⟩
      refine for_dN w (fun i δ => ∃ o, o.length = N ∧ sgl (List.range N) w = sgl o (w.drop i) ∧ δ = [.im (.tuple (dN w)), .ow false (.lst (dN o)), .un]) ⟨List.range N, List.length_range, rfl, rfl⟩ ?_ ?_
      · rintro i k δ hk ⟨o, ol, eo, rfl⟩
        have hi := (List.getElem?_eq_some_iff.mp hk).1
        have kn := nl k (List.mem_of_getElem? hk)
        rw [List.drop_eq_getElem_cons hi, (List.getElem?_eq_some_iff.mp hk).2] at eo
        have ek : ((k : Int) + 1) = ((k + 1 : Nat) : Int) := rfl
        refine ⟨_, atI_of rfl (dN_get (getD_of (i := k) (by omega))), _, atI_of ek (dN_get (getD_of (i := k + 1) (by omega))), trivial, _, rfl, ?_⟩
        show if decide (((o.getD (k + 1) 0 : Nat) : Int) < ((o.getD k 0 : Nat) : Int)) = true then _ else _
        by_cases c : o.getD (k + 1) 0 < o.getD k 0
        · rw [if_pos (decide_eq_true (by omega))]
          have e1 : sgl (List.range N) w = false := by rw [eo]; unfold sgl; rw [if_pos c]
          rw [e1] at q
          exact ⟨_, _, rfl, q⟩
        · rw [if_neg (by simp only [decide_eq_true_eq]; omega)]
          show pr_lissingle_1 _ [.im (.tuple (dN w)), .ow false (.lst (dN o)), .im (nD k)]
          refine ⟨_, atI_of ek (dN_get (getD_of (i := k + 1) (by omega))), _, atI_of rfl (dN_get (getD_of (i := k) (by omega))), _, _, rfl, rfl, 1, (k : Int), false, _, k, rfl, rfl, rfl, by rw [dN_len]; exact ixN_nat (by omega), 1, ((k + 1 : Nat) : Int), false, _, k + 1, rfl, rfl, rfl, by rw [List.length_set, dN_len]; exact ixN_nat (by omega), rfl, swp o k, by rw [swp_len]; exact ol, ?_, ?_⟩
          · rw [eo]
            show (if _ then _ else _) = _
            rw [if_neg c]
          · show [_, _, _] = _
            rw [dN_set, dN_set]
            rfl
      · rintro δ ⟨o, ol, eo, rfl⟩
        rw [List.drop_length] at eo
        have e1 : sgl (List.range N) w = true := eo
        rw [e1] at q
        exact ⟨_, _, rfl, q⟩
/-! ### _law_single -/
theorem sgl_snoc : ∀ (w o : List Nat) (k : Nat), sgl o w = true → ¬ (goW o w).getD (k + 1) 0 < (goW o w).getD k 0 → sgl o (w ++ [k]) = true
  | [], o, k, _, h => by
    have h : ¬ o.getD (k + 1) 0 < o.getD k 0 := h
    show (if _ then _ else _) = _
    rw [if_neg h]
    rfl
  | x :: w, o, k, hs, h => by
    unfold sgl at hs
    show (if _ then _ else _) = _
    split at hs
    · cases hs
    · rename_i c
      rw [if_neg c]
      exact sgl_snoc w (swp o x) k hs h
theorem inv_zero : ∀ {l : List Nat}, invC l = 0 → l.Pairwise (· ≤ ·)
  | [], _ => .nil
  | x :: l, h => by
    have h : (l.filter fun y => decide (y < x)).length + invC l = 0 := h
    refine List.pairwise_cons.mpr ⟨fun y hy => ?_, inv_zero (by omega)⟩
    rcases Nat.lt_or_ge y x with c | c
    · have : y ∈ l.filter fun y => decide (y < x) := List.mem_filter.mpr ⟨hy, decide_eq_true c⟩
      have := List.length_pos_of_mem this
      omega
    · exact c
theorem zero_inv : ∀ {l : List Nat}, l.Pairwise (· ≤ ·) → invC l = 0
  | [], _ => rfl
  | x :: l, h => by
    have h := List.pairwise_cons.mp h
    show (l.filter fun y => decide (y < x)).length + invC l = 0
    rw [zero_inv h.2, List.filter_eq_nil_iff.mpr fun y hy => by have := h.1 y hy; simp; omega]
    rfl
theorem up_pair : ∀ {l : List Nat}, (∀ k, k + 1 < l.length → l.getD k 0 ≤ l.getD (k + 1) 0) → l.Pairwise (· ≤ ·)
  | [], _ => .nil
  | [x], _ => List.pairwise_singleton _ _
  | x :: y :: l, h => by
    have ih := up_pair (l := y :: l) fun k hk => h (k + 1) (by simpa using hk)
    refine List.pairwise_cons.mpr ⟨fun z hz => ?_, ih⟩
    have h0 : x ≤ y := h 0 (by simp)
    rcases List.mem_cons.mp hz with rfl | hz
    · exact h0
    · exact Nat.le_trans h0 ((List.pairwise_cons.mp ih).1 z hz)
abbrev plO (os : List Nat) : Nat → Nat := fun i => os.idxOf i
structure Sgl (os : List Nat) (o w : List Nat) : Prop where
  lt : ∀ x ∈ w, x + 1 < os.length
  go : goW (List.range os.length) w = o
  sg : sgl (List.range os.length) w = true
  need : o.Pairwise fun a b => b < a → os.idxOf a < os.idxOf b
def candB (os o : List Nat) (k : Nat) : Bool := decide (o.getD k 0 < o.getD (k + 1) 0) && decide (os.idxOf (o.getD (k + 1) 0) < os.idxOf (o.getD k 0))
theorem Sgl.perm {os o w : List Nat} (h : Sgl os o w) : o.Perm (List.range os.length) := by
  rw [← h.go]
  exact goW_perm fun x hx => by rw [List.length_range]; exact h.lt x hx
theorem pl_get {os o : List Nat} {j : Nat} (hj : j < o.length) : (o.map (plO os)).getD j 0 = os.idxOf (o.getD j 0) := by
  rw [List.getD_eq_getElem?_getD, List.getElem?_map, List.getElem?_eq_getElem hj, List.getD_eq_getElem?_getD, List.getElem?_eq_getElem hj]
  rfl
theorem Sgl.step {os o w : List Nat} (h : Sgl os o w) {k : Nat} (hk : k + 1 < os.length) (c : candB os o k = true) : Sgl os (swp o k) (w ++ [k]) ∧ invC (o.map (plO os)) = invC ((swp o k).map (plO os)) + 1 := by
  have hl := perm_len h.perm
  unfold candB at c
  simp only [Bool.and_eq_true, decide_eq_true_eq] at c
  refine ⟨⟨fun x hx => ?_, by rw [goW_snoc, h.go], ?_, ?_⟩, ?_⟩
  · rcases List.mem_append.mp hx with hx | hx
    · exact h.lt x hx
    · rw [List.mem_singleton.mp hx]; exact hk
  · refine sgl_snoc _ _ _ h.sg ?_
    rw [h.go]
    omega
  · obtain ⟨A, x, y, D, e, eA, gx, gy⟩ := split2 (show k + 1 < o.length by omega)
    rw [gx, gy] at c
    have nd := h.need
    rw [e] at nd
    have es : swp o k = A ++ y :: x :: D := by rw [e, ← eA, swp_mid]
    rw [es]
    have p1 := List.pairwise_append.mp nd
    have p2 := List.pairwise_cons.mp p1.2.1
    have p3 := List.pairwise_cons.mp p2.2
    refine List.pairwise_append.mpr ⟨p1.1, List.pairwise_cons.mpr ⟨fun b hb => ?_, List.pairwise_cons.mpr ⟨fun b hb => p2.1 b (List.mem_cons_of_mem _ hb), p3.2⟩⟩, fun a ha b hb => p1.2.2 a ha b ?_⟩
    · rcases List.mem_cons.mp hb with rfl | hb
      · exact fun _ => c.2
      · exact p3.1 b hb
    · simp only [List.mem_cons] at hb ⊢
      rcases hb with h | h | h
      · exact .inr (.inl h)
      · exact .inl h
      · exact .inr (.inr h)
  · have := inv_let (st := o.map (plO os)) (k := k) ⟨by rw [List.length_map]; omega, .inl (by rw [pl_get (by omega), pl_get (by omega)]; exact c.2)⟩
    rw [this, swp_map _ (by omega)]
theorem Sgl.stop {os o w : List Nat} (h : Sgl os o w) (hn : ∀ k, k + 1 < os.length → candB os o k = false) : invC (o.map (plO os)) = 0 := by
  have hl := perm_len h.perm
  refine zero_inv (up_pair fun k hk => ?_)
  rw [List.length_map] at hk
  rw [pl_get (by omega), pl_get (by omega)]
  have c := hn k (by omega)
  unfold candB at c
  simp only [Bool.and_eq_false_iff, decide_eq_false_iff_not] at c
  have nd := List.pairwise_iff_getElem.mp h.need k (k + 1) (by omega) (by omega) (by omega)
  have e1 : o[k]'(by omega) = o.getD k 0 := Option.some.inj ((List.getElem?_eq_getElem (by omega)).symm.trans (getD_of (by omega)))
  have e2 : o[k + 1]'(by omega) = o.getD (k + 1) 0 := Option.some.inj ((List.getElem?_eq_getElem (by omega)).symm.trans (getD_of (by omega)))
  rw [e1, e2] at nd
  rcases Nat.lt_trichotomy (o.getD k 0) (o.getD (k + 1) 0) with z | z | z
  · rcases c with c | c
    · exact absurd z c
    · omega
  · rw [z]; exact Nat.le_refl _
  · exact Nat.le_of_lt (nd z)
theorem Sgl.fin {os o w : List Nat} (h : Sgl os o w) (hp : os.Perm (List.range os.length)) (z : invC (o.map (plO os)) = 0) : o = os := by
  have p1 := inv_zero z
  rw [List.pairwise_map] at p1
  have nd : os.Nodup := hp.nodup_iff.mpr List.nodup_range
  have p2 : os.Pairwise fun a b => os.idxOf a ≤ os.idxOf b := List.pairwise_iff_getElem.mpr fun i j hi hj hij => by
    rw [nd.idxOf_getElem, nd.idxOf_getElem]
    omega
  refine List.Perm.eq_of_pairwise (fun a b ha hb h1 h2 => ?_) p1 p2 (h.perm.trans hp.symm)
  have hb' : b ∈ os := hb
  have ha' : a ∈ os := (h.perm.trans hp.symm).mem_iff.mp ha
  have e := Nat.le_antisymm h1 h2
  have g1 := List.getElem_idxOf (List.idxOf_lt_length_of_mem ha')
  have g2 := List.getElem_idxOf (List.idxOf_lt_length_of_mem hb')
  rw [← g1, ← g2]
  congr 1
-- DEF _law_single N ['_law_deal_here', '_law_order_here', '_law_many', '_law_place', '_law_turn', '_law_standing', '_law_word', '_law_some', '_law_k', '_law_walker', '_law_i', '_law_j'] calls ['_law_draw'] takes []
def pe_lsingle_1 : PX :=
    pMt mIndex (pVar 1) (pCons (pVar 9) (pNil))
def pr_lsingle_1 : PSx :=
    pIf (pAnd (pT (pLt (pVar 10) (pVar 11))) (pT (pGt (pIx (pVar 3) (pVar 10)) (pIx (pVar 3) (pVar 11))))) (pExpr (pMt mAppend (pVar 7) (pCons (pVar 8) (pNil)))) (pNext)
def pb_lsingle_3 : PSx :=
    pSeq (pPar [10, 11] (pCons (pIx (pVar 5) (pVar 8)) (pCons (pIx (pVar 5) (pAdd (pVar 8) (pK (.int 1)))) (pNil))))
    (pr_lsingle_1)
def pr_lsingle_2 : PSx :=
    pExpr (pMt mAppend (pVar 6) (pCons (pVar 8) (pNil)))
def pr_lsingle_3 : PSx :=
    pSeq (pAsg (pTup (pCons (pIx (pVar 5) (pAdd (pVar 8) (pK (.int 1)))) (pCons (pIx (pVar 5) (pVar 8)) (pNil)))) (gT 2 (gsC (gSx (pVar 5) (pVar 8)) (gsC (gSx (pVar 5) (pAdd (pVar 8) (pK (.int 1)))) (gsN)))))
    (pr_lsingle_2)
def pr_lsingle_4 : PSx :=
    pIf (pT (pEq true (pVar 7) (pLst (pNil)))) (pSeq (pSet 8 (pIx (pVar 7) (pCall psp_draw (pCons (pVar 0) (pCons (pFz (pC (q1 fLen) (pCons (pVar 7) (pNil)))) (pNil))) noX)))
    (pr_lsingle_3)) (pNext)
def pr_lsingle_5 : PSx :=
    pSeq (pFor [8, 10, 11] (iRg (pCons (pSub (pVar 2) (pK (.int 1))) (pNil))) (gN 8) (pb_lsingle_3))
    (pr_lsingle_4)
def pb_lsingle_8 : PSx :=
    pSeq (pSet 7 (pLst (pNil)))
    (pr_lsingle_5)
def pr_lsingle_6 : PSx :=
    pRet (pC (q1 fTupleOf) (pCons (pVar 6) (pNil)))
def pr_lsingle_7 : PSx :=
    pSeq (pFor [4, 7, 8, 10, 11] (iRg (pCons (pFdiv (pMul (pVar 2) (pSub (pVar 2) (pK (.int 1)))) (pK (.int 2))) (pNil))) (gN 4) (pb_lsingle_8))
    (pr_lsingle_6)
def pr_lsingle_8 : PSx :=
    pSeq (pSet 3 (pComp (iRg (pCons (pVar 2) (pNil))) (gN 9) (pYes) (pe_lsingle_1) [9]))
    (pr_lsingle_7)
def pr_lsingle_9 : PSx :=
    pSeq (pPar [5, 6] (pCons (pLstRg (pRg1 (pVar 2))) (pCons (pLst (pNil)) (pNil))))
    (pr_lsingle_8)
def p_lsingle : PSx :=
    pSeq (pSet 2 (pC (q1 fLen) (pCons (pVar 1) (pNil))))
    (pr_lsingle_9)
def psp_lsingle : PSp := fun as Q _ => ∃ os : List Nat, as = [.ow true .deal, .ow true (.lst (dN os))] ∧ os.Perm (List.range os.length) ∧ os.length ≤ 12 ∧
  ∀ w : List Nat, w.length ≤ 100 → (∀ x ∈ w, x + 1 < os.length) → sgl (List.range os.length) w = true → goW (List.range os.length) w = os → Q (.im (.tuple (dN w))) [.ow true .deal, .ow true (.lst (dN os))]
abbrev stLs (os : List Nat) (o w : List Nat) (s4 s7 s8 s10 s11 : Sl) : List Sl := [.ow true .deal, .ow true (.lst (dN os)), .im (nD os.length), .ow false (.lst (dN ((List.range os.length).map (plO os)))), s4, .ow false (.lst (dN o)), .ow false (.lst (dN w)), s7, s8, .un, s10, s11]
theorem half_mul (n : Nat) : (n : Int) * ((n : Int) - 1) / 2 = ((n * (n - 1) / 2 : Nat) : Int) := by
  rcases Nat.eq_zero_or_pos n with z | z
  · subst z; rfl
  · rw [Int.natCast_ediv, Int.natCast_mul, Int.natCast_sub z]
    rfl
theorem hp_lsingle (as : List Sl) (Qp : QE) (Ep : EX) (h : psp_lsingle as Qp Ep) : p_lsingle (endsP as Qp) (as ++ List.replicate 10 .un) := by
  obtain ⟨os, rfl, hp, n12, q⟩ := h
  have z24 : (10000 : Nat) < sizeLine := by decide
  refine ⟨_, _, rfl, ?_⟩
  show pr_lsingle_9 _ [.ow true .deal, .ow true (.lst (dN os)), .im (.int ((dN os).length : Int)), .un, .un, .un, .un, .un, .un, .un, .un, .un]
  rw [dN_len]
  refine ⟨_, rfl, ⟨by omega, by omega, by omega⟩, _, _, rfl, ?_⟩
  rw [rgD_dN]
  show pr_lsingle_8 _ [.ow true .deal, .ow true (.lst (dN os)), .im (nD os.length), .un, .un, .ow false (.lst (dN (List.range os.length))), .ow false (.lst []), .un, .un, .un, .un, .un]
  refine ⟨by omega, by omega, noPin1 (fun o => nofun), fun j acc δ => acc = dN ((List.range j).map (plO os)) ∧ δ = [.ow true .deal, .ow true (.lst (dN os)), .im (nD os.length), .un, .un, .ow false (.lst (dN (List.range os.length))), .ow false (.lst []), .un, .un, .un, .un, .un], ⟨rfl, rfl⟩, ?_, ?_⟩
  · rintro j d acc δ hd ⟨rfl, rfl⟩
    obtain ⟨rfl, hj⟩ := rgD_get hd
    have hj : j < os.length := by omega
    have mem : j ∈ os := (mem_of_perm hp).mpr hj
    refine ⟨_, _, _, rfl, rfl, _, _, _, _, rfl, rfl, iW os, (j : Int), ?_, ?_, ?_, ?_⟩
    · rw [← dN_iW]
    · show [PyData.int (0 + (j : Int))] = _
      rw [Int.zero_add]
    · exact List.mem_map.mpr ⟨j, mem, rfl⟩
    · rw [idx_iW]
      refine ⟨_, _, rfl, ?_, ?_, rfl⟩
      · rw [dN_len, List.length_map, List.length_range]
        exact szN (m := 1000) (by omega) (by decide)
      · rw [List.range_succ, List.map_append, dN_app]
        rfl
  rintro acc δ ⟨rfl, rfl⟩
  have el : (rgD 0 (os.length : Int)).length = os.length := by rw [rgD_dN, dN_len, List.length_range]
  rw [el]
  refine ⟨_, _, rfl, ?_⟩
  show pr_lsingle_7 _ (stLs os (List.range os.length) [] .un .un .un .un .un)
  have en := half_mul os.length
  have small : os.length * (os.length - 1) / 2 ≤ 66 := by
    have : os.length * (os.length - 1) ≤ 12 * 11 := Nat.mul_le_mul n12 (by omega)
    omega
  refine ⟨trivial, .inl (.inl ⟨by omega, by omega⟩), ?_, ?_, ?_, ?_⟩
  · exact ⟨by decide, by decide⟩
  · show -2 ^ 62 ≤ (os.length : Int) * ((os.length : Int) - 1) / 2
    rw [en]; omega
  · show (os.length : Int) * ((os.length : Int) - 1) / 2 < 2 ^ 62
    rw [en]; omega
  have ib : invC ((List.range os.length).map (plO os)) ≤ os.length * (os.length - 1) / 2 := by
    have h := inv_le ((List.range os.length).map (plO os))
    rw [List.length_map, List.length_range] at h
    have e : os.length * os.length = os.length * (os.length - 1) + os.length := by
      cases os.length with
      | zero => rfl
      | succ m => rw [show m + 1 - 1 = m by omega, Nat.mul_add_one]
    omega
  refine for_rg (os.length * (os.length - 1) / 2) en (fun t δ => ∃ o w, Sgl os o w ∧ invC (o.map (plO os)) ≤ os.length * (os.length - 1) / 2 - t ∧ w.length ≤ t ∧ δ = stLs os o w .un .un .un .un .un) ⟨List.range os.length, [], ⟨nofun, rfl, rfl, ?_⟩, ib, Nat.le_refl _, rfl⟩ ?_ ?_
  · exact List.pairwise_lt_range.imp fun h h2 => absurd h2 (by omega)
  · rintro t δ ht ⟨o, w, sg, iv, wl, rfl⟩
    have ol := perm_len sg.perm
    refine ⟨_, _, rfl, ?_⟩
    show pr_lsingle_5 _ (stLs os o w (.im (nD t)) (.ow false (.lst [])) .un .un .un)
    have n1 : rgD 0 ((os.length : Int) - 1) = rgD 0 ((os.length - 1 : Nat) : Int) := by
      unfold rgD
      rw [show ((os.length : Int) - 1 - 0).toNat = (((os.length - 1 : Nat) : Int) - 0).toNat by omega]
    refine ⟨trivial, by show -2 ^ 62 ≤ (os.length : Int) - 1; omega, by show (os.length : Int) - 1 < 2 ^ 62; omega, ?_⟩
    show loopI _ _ _ (rgD 0 ((os.length : Int) - 1)) _
    rw [n1]
    refine for_rg (os.length - 1) rfl (fun k δ => δ = stLs os o w (.im (nD t)) (.ow false (.lst (dN ((List.range k).filter (candB os o))))) .un .un .un) rfl ?_ ?_
    · rintro k δ hk rfl
      have ek : (k : Int) + 1 = ((k + 1 : Nat) : Int) := rfl
      refine ⟨_, atI_of rfl (dN_get (getD_of (i := k) (by omega))), _, atI_of ek (dN_get (getD_of (i := k + 1) (by omega))), _, _, rfl, ?_⟩
      show pr_lsingle_1 _ (stLs os o w (.im (nD t)) (.ow false (.lst (dN ((List.range k).filter (candB os o))))) (.im (nD k)) (.im (nD (o.getD k 0))) (.im (nD (o.getD (k + 1) 0))))
      have lo : ∀ i, i < os.length → o.getD i 0 < os.length := fun i hi => (mem_of_perm sg.perm).mp (by rw [List.getD_eq_getElem?_getD, List.getElem?_eq_getElem (show i < o.length by omega)]; exact List.getElem_mem _)
      have fs : (List.range (k + 1)).filter (candB os o) = (List.range k).filter (candB os o) ++ (if candB os o k then [k] else []) := by
        rw [List.range_succ, List.filter_append]
        congr 1
        by_cases c : candB os o k = true
        · simp [c]
        · simp [c]
      have b1 := lo k (by omega)
      have b2 := lo (k + 1) (by omega)
      generalize hi : o.getD k 0 = i at *
      generalize hj : o.getD (k + 1) 0 = j at *
      have cc : candB os o k = (decide (i < j) && decide (os.idxOf j < os.idxOf i)) := by unfold candB; rw [hi, hj]
      have gp : ∀ x, x < os.length → (dN ((List.range os.length).map (plO os)))[x]? = some (nD (os.idxOf x)) := fun x hx => dN_get (by rw [List.getElem?_map, List.getElem?_range hx]; rfl)
      refine ⟨trivial, _, rfl, ?_⟩
      show if decide ((i : Int) < (j : Int)) = true then _ else _
      by_cases c1 : i < j
      · rw [if_pos (decide_eq_true (by omega))]
        refine ⟨_, atI_of rfl (gp i b1), _, atI_of rfl (gp j b2), trivial, _, rfl, ?_⟩
        show if decide (((os.idxOf j : Nat) : Int) < ((os.idxOf i : Nat) : Int)) = true then _ else _
        by_cases c2 : os.idxOf j < os.idxOf i
        · rw [if_pos (decide_eq_true (by omega))]
          refine ⟨_, _, _, rfl, rfl, _, _, _, _, rfl, rfl, ?_, ?_⟩
          · rw [dN_len]
            have := List.length_filter_le (candB os o) (List.range k)
            rw [List.length_range] at this
            exact szN (m := 1000) (by omega) (by decide)
          · rw [fs, cc, decide_eq_true c1, decide_eq_true c2]
            show stLs os o w (.im (nD t)) (.ow false (.lst (dN ((List.range k).filter (candB os o)) ++ [nD k]))) .un .un .un = _
            rw [show (if (true && true) = true then [k] else []) = [k] from rfl, dN_app]
            rfl
        · rw [if_neg (by simp only [decide_eq_true_eq]; omega)]
          rw [fs, cc, decide_eq_false c2, Bool.and_false]
          show _ = stLs os o w (.im (nD t)) (.ow false (.lst (dN ((List.range k).filter (candB os o) ++ [])))) .un .un .un
          rw [List.append_nil]
          rfl
      · rw [if_neg (by simp only [decide_eq_true_eq]; omega)]
        rw [fs, cc, decide_eq_false c1, Bool.false_and]
        show _ = stLs os o w (.im (nD t)) (.ow false (.lst (dN ((List.range k).filter (candB os o) ++ [])))) .un .un .un
        rw [List.append_nil]
        rfl
    · rintro δ rfl
      generalize hC : (List.range (os.length - 1)).filter (candB os o) = C
      have inC : ∀ k, k ∈ C ↔ k + 1 < os.length ∧ candB os o k = true := fun k => by
        rw [← hC, List.mem_filter, List.mem_range]
        constructor
        · rintro ⟨h1, h2⟩; exact ⟨by omega, h2⟩
        · rintro ⟨h1, h2⟩; exact ⟨by omega, h2⟩
      have Cl : C.length ≤ os.length := by
        rw [← hC]
        have := List.length_filter_le (candB os o) (List.range (os.length - 1))
        rw [List.length_range] at this
        omega
      show pr_lsingle_4 _ (stLs os o w (.im (nD t)) (.ow false (.lst (dN C))) .un .un .un)
      refine ⟨shaped_dN C, rfl, _, rfl, ?_⟩
      show if (!eqd (.list (C.map nD)) (.list [])) = true then _ else _
      rw [eqd_nilM]
      cases hc : C with
      | nil =>
        rw [if_neg (by simp)]
        have z := sg.stop fun k hk => by
          cases e : candB os o k with
          | false => rfl
          | true => have := (inC k).mpr ⟨hk, e⟩; rw [hc] at this; exact absurd this (by simp)
        exact ⟨o, w, sg, by omega, by omega, rfl⟩
      | cons c0' C' =>
        rw [if_pos (by simp)]
        rw [← hc]
        have cl0 : 0 < C.length := by rw [hc]; simp
        refine ⟨_, _, rfl, _, rfl, nd1 0, _, rfl, ?_, ?_, fun a ha => ?_⟩
        · show (0 : Int) < ((dN C).length : Int)
          rw [dN_len]; omega
        · show ((dN C).length : Int) < 2 ^ 200
          rw [dN_len]
          exact Int.lt_of_le_of_lt (show (C.length : Int) ≤ 12 by omega) (by decide)
        simp only [pk0]
        have ha : (a : Int) < ((dN C).length : Int) := ha
        rw [dN_len] at ha
        have ha : a < C.length := by omega
        obtain ⟨k, hk⟩ : ∃ k, C[a]? = some k := ⟨C[a], List.getElem?_eq_getElem ha⟩
        obtain ⟨k1, k2⟩ := (inC k).mp (List.mem_of_getElem? hk)
        refine ⟨_, atI_of rfl (dN_get hk), _, _, rfl, ?_⟩
        show pr_lsingle_3 _ (stLs os o w (.im (nD t)) (.ow false (.lst (dN C))) (.im (nD k)) .un .un)
        have ek : (k : Int) + 1 = ((k + 1 : Nat) : Int) := rfl
        obtain ⟨sg2, i2⟩ := sg.step k1 k2
        refine ⟨_, atI_of ek (dN_get (getD_of (i := k + 1) (by omega))), _, atI_of rfl (dN_get (getD_of (i := k) (by omega))), _, _, rfl, rfl, 5, (k : Int), false, _, k, rfl, rfl, rfl, by rw [dN_len]; exact ixN_nat (by omega), 5, ((k + 1 : Nat) : Int), false, _, k + 1, rfl, rfl, rfl, by rw [List.length_set, dN_len]; exact ixN_nat (by omega), rfl, ?_⟩
        show pr_lsingle_2 _ [.ow true .deal, .ow true (.lst (dN os)), .im (nD os.length), .ow false (.lst (dN ((List.range os.length).map (plO os)))), .im (nD t), .ow false (.lst (((dN o).set k (nD (o.getD (k + 1) 0))).set (k + 1) (nD (o.getD k 0)))), .ow false (.lst (dN w)), .ow false (.lst (dN C)), .im (nD k), .un, .un, .un]
        rw [dN_set, dN_set]
        refine ⟨_, _, _, rfl, rfl, _, _, _, _, rfl, rfl, ?_, swp o k, w ++ [k], sg2, by omega, by simp; omega, ?_⟩
        · rw [dN_len]
          exact szN (m := 1000) (by omega) (by decide)
        · have ea : dN (w ++ [k]) = dN w ++ [nD k] := dN_app w [k]
          show _ = [Sl.ow true .deal, .ow true (.lst (dN os)), .im (nD os.length), .ow false (.lst (dN ((List.range os.length).map (plO os)))), .un, .ow false (.lst (dN (swp o k))), .ow false (.lst (dN (w ++ [k]))), .un, .un, .un, .un, .un]
          rw [ea]
          rfl
  · rintro δ ⟨o, w, sg, iv, wl, rfl⟩
    rw [Nat.sub_self] at iv
    have eo := sg.fin hp (by omega)
    have go := sg.go
    rw [eo] at go
    exact ⟨_, _, rfl, q w (by omega) sg.lt sg.sg go⟩
end Pv
namespace Pv
open PySem PySem.Spec L2 Wf
/-! ### _law_normal -/
-- DEF _law_normal N ['_law_order_here', '_law_word', '_law_m', '_law_passers', '_law_walker', '_law_step'] calls [] takes []
/-! ### _law_names_of -/
-- DEF _law_names_of N ['_law_word', '_law_moves', '_law_move'] calls ['_law_behind_move'] takes []
theorem mv_form (m : Mv) : FormM (mvD m) := by
  cases m with
  | far i => exact .far _
  | turn i => exact .turn _
  | gone i => exact .gone _
  | come i k => exact .come _ _
theorem st_len {w v : List Nat} {m : Mv} (h : StW w m v) (nc : ∀ i k, m ≠ .come i k) : v.length ≤ w.length := by
  cases h with
  | far h => simp
  | turn h => simp
  | gone => simp; omega
  | come => exact absurd rfl (nc _ _)
def nmS : Mv → Str
  | .far _ => "far"
  | .turn _ => "turn"
  | .gone _ => "gone"
  | .come _ _ => "come"
/-! ### _law_right -/
-- DEF _law_right N ['_law_word', '_law_found', '_law_due', '_law_names', '_law_move'] calls ['wear_down', '_law_normal', '_law_order', '_law_need', '_law_alike', '_law_names_of', '_law_is_single'] takes []
/-! ### the law -/
-- DEF law N ['_law_script', '_law_deal_here', '_law_many', '_law_some', '_law_walkers', '_law_lone', '_law_word'] calls ['_law_deal', '_law_draw', '_law_letters', '_law_single', '_law_mixed', '_law_is_single', '_law_right'] takes []
theorem swp_app {o T : List Nat} {k : Nat} (h : k + 1 < o.length) : swp (o ++ T) k = swp o k ++ T := by
  refine ext_getD (by rw [swp_len, List.length_append, List.length_append, swp_len]) fun i hi => ?_
  have h2 : k + 1 < (o ++ T).length := by rw [List.length_append]; omega
  have gl : ∀ j, j < o.length → (o ++ T).getD j 0 = o.getD j 0 := fun j hj => by
    rw [List.getD_eq_getElem?_getD, List.getElem?_append_left hj, List.getD_eq_getElem?_getD]
  rw [swp_get h2]
  by_cases hi2 : i < o.length
  · have g2 : (swp o k ++ T).getD i 0 = (swp o k).getD i 0 := by
      rw [List.getD_eq_getElem?_getD, List.getElem?_append_left (by rw [swp_len]; exact hi2), List.getD_eq_getElem?_getD]
    rw [g2, swp_get h, gl _ h, gl k (by omega), gl i hi2]
  · rw [if_neg (by omega), if_neg (by omega), List.getD_eq_getElem?_getD, List.getD_eq_getElem?_getD, List.getElem?_append_right (by omega), List.getElem?_append_right (by rw [swp_len]; omega), swp_len]
theorem sgl_app : ∀ {w o : List Nat} (T : List Nat), (∀ x ∈ w, x + 1 < o.length) → sgl (o ++ T) w = sgl o w
  | [], _, _, _ => rfl
  | k :: w, o, T, h => by
    have hk := h k List.mem_cons_self
    unfold sgl
    rw [swp_app hk, sgl_app T fun x hx => by rw [swp_len]; exact h x (List.mem_cons_of_mem _ hx)]
    have gl : ∀ j, j < o.length → (o ++ T).getD j 0 = o.getD j 0 := fun j hj => by
      rw [List.getD_eq_getElem?_getD, List.getElem?_append_left hj, List.getD_eq_getElem?_getD]
    rw [gl _ hk, gl k (by omega)]
theorem range_more {N M : Nat} (h : N ≤ M) : List.range M = List.range N ++ List.range' N (M - N) := by
  rw [List.range_eq_range', List.range_eq_range']
  have := List.range'_append (s := 0) (m := N) (n := M - N) (step := 1)
  rw [Nat.one_mul, Nat.zero_add] at this
  rw [this]
  congr 1
  omega
theorem sgl_more {w : List Nat} {N M : Nat} (hw : ∀ L ∈ w, L + 2 ≤ N) (h : N ≤ M) : sgl (List.range M) w = sgl (List.range N) w := by
  rw [range_more h]
  exact sgl_app _ fun x hx => by rw [List.length_range]; have := hw x hx; omega
end Pv
namespace Pv
open PySem PySem.Spec L2 Wf
/-! ### things of bounded depth -/
mutual
theorem fit_lay {n : Nat} : ∀ d : PyData, fit n d = true → d.canLay0 = true
  | .none, _ => rfl
  | .bool _, _ => rfl
  | .int _, _ => rfl
  | .str _, h => by unfold fit at h; exact h
  | .tuple ds, h => fitAll_lay ds (Bool.and_eq_true_iff.mp (show (decide (ds.length ≤ n) && fitAll n ds) = true by unfold fit at h; exact h)).2
  | .list _, h => by unfold fit at h; cases h
  | .dict _, h => by unfold fit at h; cases h
theorem fitAll_lay {n : Nat} : ∀ ds : List PyData, fitAll n ds = true → PyData.canLayAll0 ds = true
  | [], _ => rfl
  | d :: ds, h => by
    have h' := Bool.and_eq_true_iff.mp (show (fit n d && fitAll n ds) = true by unfold fitAll at h; exact h)
    show (d.canLay0 && PyData.canLayAll0 ds) = true
    rw [fit_lay d h'.1, fitAll_lay ds h'.2]
    rfl
end
theorem depth_mem : ∀ {ds : List PyData} {d : PyData}, d ∈ ds → d.depth ≤ PyData.depthAll ds
  | x :: ds, d, h => by
    show d.depth ≤ max x.depth (PyData.depthAll ds)
    rcases List.mem_cons.mp h with rfl | h
    · exact Nat.le_max_left _ _
    · exact Nat.le_trans (depth_mem h) (Nat.le_max_right _ _)
structure OkX (n D : Nat) (x : PyData) : Prop where
  fit : fit n x = true
  dep : x.depth ≤ D
theorem OkX.shaped {n D : Nat} {x : PyData} (h : OkX n D x) (hD : D ≤ 60) : SeqAt.shaped x = true := by
  unfold SeqAt.shaped
  rw [fit_lay x h.fit]
  have := h.dep
  simp
  omega
theorem OkX.tup {n D : Nat} {ds : List PyData} (h : OkX n D (.tuple ds)) : ds.length ≤ n ∧ 1 ≤ D ∧ ∀ d ∈ ds, OkX n (D - 1) d := by
  obtain ⟨h1, h2⟩ := fit_tup h.fit
  have hd : PyData.depthAll ds + 1 ≤ D := h.dep
  refine ⟨h1, by omega, fun d hd2 => ⟨h2 d hd2, ?_⟩⟩
  have := depth_mem hd2
  omega
theorem OkX.le {n D n' D' : Nat} {x : PyData} (h : OkX n D x) (hn : n ≤ n') (hD : D ≤ D') : OkX n' D' x := ⟨fit_le hn x h.fit, Nat.le_trans h.dep hD⟩
end Pv
namespace Pv
open PySem PySem.Spec L2 Wf
/-! ### moves that are shown -/
end Pv
namespace Pv
open PySem PySem.Spec L2 Wf
/-! ### moves_hold -/
theorem shaped_dK (w : List Int) : SeqAt.shaped (dK w) = true := shapedT_map PyData.int 0 (by decide) w fun x _ => ⟨rfl, Nat.le_refl 0⟩
/-! ### the law's due -/
end Pv
namespace Pv
open PySem PySem.Spec L2 Wf
/-! Words joined. -/
/-! ### a move back -/
def backW (w : List Nat) : Mv → Mv
  | .gone i => .come i (w.getD i 0)
  | m => m
theorem back_st {w v : List Nat} {m : Mv} (h : StW w m v) (nc : ∀ i k, m ≠ .come i k) : StW v (backW w m) w := by
  cases h with
  | far h => exact .far (by omega)
  | turn h => exact .turn (by omega)
  | @gone A D x =>
    show StW (A ++ D) (.come A.length ((A ++ x :: x :: D).getD A.length 0)) _
    have e : (A ++ x :: x :: D).getD A.length 0 = x := by
      rw [List.getD_eq_getElem?_getD, List.getElem?_append_right (Nat.le_refl _), Nat.sub_self]
      rfl
    rw [e]
    exact .come
  | come => exact absurd rfl (nc _ _)
-- DEF move_back N ['word', 'move', 'name', 'i'] calls [] takes []
def pr_mback_1 : PSx :=
    pRet (pVar 1)
def pr_mback_2 : PSx :=
    pSeq (pIf (pT (pEq false (pVar 2) (pK (.str "gone")))) (pRet (pTup (pCons (pK (.str "come")) (pCons (pVar 3) (pCons (pIx (pVar 0) (pVar 3)) (pNil)))))) (pNext))
    (pr_mback_1)
def p_mback : PSx :=
    pSeq (pAsg (pVar 1) (gT 2 (gsC (gN 2) (gsC (gN 3) (gsN)))))
    (pr_mback_2)
def psp_mback : PSp := fun as Q _ => ∃ (w v : List Nat) (m : Mv), as = [.im (.tuple (dN w)), .im (mvD m)] ∧ StW w m v ∧ (∀ i k, m ≠ .come i k) ∧ Q (.im (mvD (backW w m))) [.un, .un]
theorem hp_mback (as : List Sl) (Qp : QE) (Ep : EX) (h : psp_mback as Qp Ep) : p_mback (endsP as Qp) (as ++ List.replicate 2 .un) := by
  obtain ⟨w, v, m, rfl, st, nc, q⟩ := h
  cases st with
  | @far A D x y h =>
    refine ⟨_, _, rfl, rfl, rfl, ?_⟩
    show pr_mback_2 _ [.im (.tuple (dN (A ++ x :: y :: D))), .im (.tuple [.str "far", nD A.length]), .im (.str "far"), .im (nD A.length)]
    refine ⟨_, rfl, ?_⟩
    show if decide (("far" : Str) = "gone") = true then _ else _
    rw [n_fg]
    exact ⟨_, _, rfl, q⟩
  | @turn A D x y h =>
    refine ⟨_, _, rfl, rfl, rfl, ?_⟩
    show pr_mback_2 _ [.im (.tuple (dN (A ++ x :: y :: x :: D))), .im (.tuple [.str "turn", nD A.length]), .im (.str "turn"), .im (nD A.length)]
    refine ⟨_, rfl, ?_⟩
    show if decide (("turn" : Str) = "gone") = true then _ else _
    rw [n_tg]
    exact ⟨_, _, rfl, q⟩
  | @gone A D x =>
    refine ⟨_, _, rfl, rfl, rfl, ?_⟩
    show pr_mback_2 _ [.im (.tuple (dN (A ++ x :: x :: D))), .im (.tuple [.str "gone", nD A.length]), .im (.str "gone"), .im (nD A.length)]
    refine ⟨_, rfl, ?_⟩
    show if decide (("gone" : Str) = "gone") = true then _ else _
    rw [decide_eq_true rfl]
    exact ⟨_, atI_of rfl (dN_get (getD_of (i := A.length) (by simp))), _, _, rfl, q⟩
  | come => exact absurd rfl (nc _ _)
/-! ### moves_up -/
-- DEF moves_up N ['word', 'up', 'move', 'normal', 'down'] calls ['wear_down', 'move_back', 'once_moved'] takes []
def pr_mups_1 : PSx :=
    pSet 0 (pCall psp_once_moved (pCons (pFz (pVar 0)) (pCons (pFz (pVar 2)) (pNil))) noX)
def pb_mups_2 : PSx :=
    pSeq (pExpr (pMt mAppend (pVar 1) (pCons (pCall psp_mback (pCons (pFz (pVar 0)) (pCons (pFz (pVar 2)) (pNil))) noX) (pNil))))
    (pr_mups_1)
def pr_mups_2 : PSx :=
    pRet (pC (q1 fTupleOf) (pCons (pRevL (pVar 1)) (pNil)))
def pr_mups_3 : PSx :=
    pSeq (pFor [2] (iSeq (pVar 4)) (gN 2) (pb_mups_2))
    (pr_mups_2)
def pr_mups_4 : PSx :=
    pSeq (pSet 1 (pLst (pNil)))
    (pr_mups_3)
def p_mups : PSx :=
    pSeq (pAsg (pCall psp_wear (pCons (pFz (pVar 0)) (pNil)) noX) (gT 2 (gsC (gN 3) (gsC (gN 4) (gsN)))))
    (pr_mups_4)
/-- P is kept by moves that let no letters come -/
def ClP (P : List Nat → Prop) : Prop := ∀ x m y, StW x m y → (∀ i k, m ≠ .come i k) → P x → P y
/-- all words on the way have P -/
inductive StsP (P : List Nat → Prop) : List Nat → List Mv → List Nat → Prop
  | nil {w : List Nat} : P w → StsP P w [] w
  | cons {w v u : List Nat} {m : Mv} {ms : List Mv} : P w → StW w m v → StsP P v ms u → StsP P w (m :: ms) u
theorem StsP.app {P : List Nat → Prop} {w v u : List Nat} {a b : List Mv} (h1 : StsP P w a v) (h2 : StsP P v b u) : StsP P w (a ++ b) u := by
  induction h1 with
  | nil => exact h2
  | cons p s _ ih => exact .cons p s (ih h2)
theorem stsP_down {P : List Nat → Prop} (cl : ClP P) {w v : List Nat} {ms : List Mv} (h : Sts w ms v) : (∀ m ∈ ms, ∀ i k, m ≠ .come i k) → P w → StsP P w ms v := by
  induction h with
  | nil => exact fun _ p => .nil p
  | @cons w v u m ms s _ ih => exact fun nc p => .cons p s (ih (fun x hx => nc x (List.mem_cons_of_mem _ hx)) (cl _ _ _ s (nc _ List.mem_cons_self) p))
/-- moves that lead back up to a word -/
structure UpOk (w v : List Nat) (ms us : List Mv) : Prop where
  sts : Sts v us w
  len : us.length = ms.length
  nog : ∀ m ∈ us, ∀ i, m ≠ .gone i
  come : ∀ i k, Mv.come i k ∈ us → k ∈ w
  plain : ms.countP isGone = 0 → NoCome us
  via : ∀ P, ClP P → P w → StsP P v us w
def psp_mups : PSp := fun as Q _ => ∃ (w : List Nat) (N : Nat), as = [.im (.tuple (dN w))] ∧ N ≤ 20 ∧ w.length ≤ 200 ∧ (∀ L ∈ w, L + 2 ≤ N) ∧ ∀ us, UpOk w (runsW (wearC N c0 w) N) (wearM N c0 w) us → Q (.im (.tuple (msD us))) [.un]
theorem hp_mups (as : List Sl) (Qp : QE) (Ep : EX) (h : psp_mups as Qp Ep) : p_mups (endsP as Qp) (as ++ List.replicate 4 .un) := by
  obtain ⟨w, N, rfl, hN, wl, hw, q⟩ := h
  have z24 : (100000 : Nat) < sizeLine := by decide
  have sts := wear_all hw
  have nc := wear_nocome (N := N) w c0
  have mc := wearM_len hN w (c := c0) (fun j => Nat.zero_le j)
  refine ⟨_, _, rfl, _, rfl, List.nodup_nil, w, N, rfl, hN, wl, hw, ?_⟩
  refine ⟨_, _, rfl, rfl, rfl, ?_⟩
  generalize runsW (wearC N c0 w) N = v at *
  generalize wearM N c0 w = ms at *
  show pr_mups_4 _ [.im (.tuple (dN w)), .un, .un, .im (.tuple (dN v)), .im (.tuple (msD ms))]
  refine ⟨_, _, rfl, ?_⟩
  show pr_mups_3 _ [.im (.tuple (dN w)), .ow false (.lst []), .un, .im (.tuple (dN v)), .im (.tuple (msD ms))]
  refine ⟨_, _, _, rfl, rfl, ?_⟩
  refine ⟨fun i δ => ∃ u ups, Sts u (ms.drop i) v ∧ Sts u ups.reverse w ∧ ups.length = i ∧ u.length ≤ 200 ∧ (∀ x ∈ u, x ∈ w) ∧ (∀ m ∈ ups, ∀ i, m ≠ .gone i) ∧ (∀ i k, Mv.come i k ∈ ups → k ∈ w) ∧ ((ms.take i).countP isGone = 0 → NoCome ups) ∧ (∀ P, ClP P → P w → P u ∧ StsP P u ups.reverse w) ∧ δ = [.im (.tuple (dN u)), .ow false (.lst (msD ups)), .un, .im (.tuple (dN v)), .im (.tuple (msD ms))], ⟨w, [], sts, .nil, rfl, wl, fun x hx => hx, nofun, nofun, fun _ => nofun, fun P _ p => ⟨p, .nil p⟩, rfl⟩, ?_, ?_⟩
  · rintro i d δ hd ⟨u, ups, s1, s2, l1, l2, m1, m2, m3, m4, m5, rfl⟩
    rw [List.getElem?_map] at hd
    obtain ⟨m, hm, rfl⟩ := Option.map_eq_some_iff.mp hd
    have hi := (List.getElem?_eq_some_iff.mp hm).1
    have ncm := nc m (List.mem_of_getElem? hm)
    have et : ms.take (i + 1) = ms.take i ++ [m] := by rw [List.take_add_one, hm]; rfl
    rw [List.drop_eq_getElem_cons hi, (List.getElem?_eq_some_iff.mp hm).2] at s1
    cases s1 with
    | @cons _ u' _ _ _ t1 t2 =>
      have bk := back_st t1 ncm
      have mw := st_move t1 fun i k e => absurd e (ncm i k)
      have ul := st_len t1 ncm
      have mem := st_mem t1 (P := fun x => x ∈ w) m1 fun i k e => absurd e (ncm i k)
      have bn : ∀ i, backW u m ≠ .gone i := fun i z => by cases m <;> cases z
      have bc : ∀ i k, backW u m = .come i k → k ∈ w := fun i k z => by
        cases t1 with
        | far => cases z
        | turn => cases z
        | @gone A D x =>
          have z : Mv.come A.length ((A ++ x :: x :: D).getD A.length 0) = .come i k := z
          cases z
          rw [List.getD_eq_getElem?_getD, List.getElem?_append_right (Nat.le_refl _), Nat.sub_self]
          exact m1 x (by simp)
        | come => exact absurd rfl (ncm _ _)
      have bp : isGone m = false → ∀ i k, backW u m ≠ .come i k := fun e i k z => by
        cases m with
        | far => cases z
        | turn => cases z
        | gone => cases e
        | come => exact absurd rfl (ncm _ _)
      refine ⟨_, _, _, rfl, rfl, _, _, rfl, _, _, rfl, _, rfl, List.nodup_nil, u, u', m, rfl, t1, ncm, _, _, _, _, rfl, rfl, ?_, ?_⟩
      · unfold msD
        rw [List.length_map]
        exact szN (m := 100000) (by omega) z24
      show pr_mups_1 _ [.im (.tuple (dN u)), .ow false (.lst (msD ups ++ [mvD (backW u m)])), .im (mvD m), .im (.tuple (dN v)), .im (.tuple (msD ms))]
      refine ⟨_, _, rfl, _, _, rfl, _, rfl, List.nodup_nil, iW u, mvD m, ?_, by rw [iW_len]; omega, mv_ok m, ?_⟩
      · rw [dK_iW]
      rw [mw]
      refine ⟨_, _, rfl, u', ups ++ [backW u m], t2, ?_, by simp [l1], by omega, mem, ?_, ?_, ?_, ?_, ?_⟩
      · rw [List.reverse_append]
        exact .cons bk s2
      · intro x hx i
        rcases List.mem_append.mp hx with hx | hx
        · exact m2 x hx i
        · rw [List.mem_singleton.mp hx]; exact bn i
      · intro i k hx
        rcases List.mem_append.mp hx with hx | hx
        · exact m3 i k hx
        · exact bc i k (List.mem_singleton.mp hx).symm
      · intro e x hx i k
        rw [et, List.countP_append] at e
        rcases List.mem_append.mp hx with hx | hx
        · exact m4 (by omega) x hx i k
        · rw [List.mem_singleton.mp hx]
          refine bp ?_ i k
          cases e2 : isGone m with
          | false => rfl
          | true => simp [e2] at e
      · intro P cl p
        obtain ⟨pu, sp⟩ := m5 P cl p
        have pv := cl _ _ _ t1 ncm pu
        rw [List.reverse_append]
        exact ⟨pv, .cons pv bk sp⟩
      · show [Sl.im (dK (iW u')), .ow false (.lst (msD ups ++ [mvD (backW u m)])), .un, .im (.tuple (dN v)), .im (.tuple (msD ms))] = _
        rw [dK_iW]
        unfold msD
        rw [List.map_append]
        rfl
  · rintro δ ⟨u, ups, s1, s2, l1, l2, m1, m2, m3, m4, m5, rfl⟩
    have el : (msD ms).length = ms.length := List.length_map _
    rw [el, List.drop_length] at s1
    rw [el, List.take_length] at m4
    cases s1
    have q := q ups.reverse ⟨s2, by rw [List.length_reverse, l1, el], fun m hm => m2 m (List.mem_reverse.mp hm), fun i k hk => m3 i k (List.mem_reverse.mp hk), fun e x hx => m4 e x (List.mem_reverse.mp hx), fun P cl p => (m5 P cl p).2⟩
    have e : msD ups.reverse = (msD ups).reverse := List.map_reverse
    rw [e] at q
    exact ⟨_, rfl, _, _, rfl, q⟩
/-! ### look_same_orders -/
-- DEF look_same_orders N ['one', 'other', 'many', 'kinds', 'order', 'other_order', 'at'] calls ['free_order'] takes ['cNoPassing', 'cNoOrder', 'Ep']
def pb_lksame_1 (cNoOrder : Addr) (Ep : EX) : PSx :=
    pIf (pT (pEq true (pIx (pVar 4) (pVar 6)) (pIx (pVar 5) (pVar 6)))) (pRaise cNoOrder ["at"] (pCons (pFz (pVar 6)) (pNil)) Ep) (pNext)
def pr_lksame_1 (cNoOrder : Addr) (Ep : EX) : PSx :=
    pFor [6] (iRg (pCons (pVar 2) (pNil))) (gN 6) (pb_lksame_1 cNoOrder Ep)
def pr_lksame_2 (cNoPassing : Addr) (cNoOrder : Addr) (Ep : EX) : PSx :=
    pSeq (pSet 5 (pCall (psp_free_order cNoPassing) (pCons (pFz (pVar 3)) (pCons (pFz (pVar 1)) (pNil))) Ep))
    (pr_lksame_1 cNoOrder Ep)
def pr_lksame_3 (cNoPassing : Addr) (cNoOrder : Addr) (Ep : EX) : PSx :=
    pSeq (pSet 4 (pCall (psp_free_order cNoPassing) (pCons (pFz (pVar 3)) (pCons (pFz (pVar 0)) (pNil))) Ep))
    (pr_lksame_2 cNoPassing cNoOrder Ep)
def pr_lksame_4 (cNoPassing : Addr) (cNoOrder : Addr) (Ep : EX) : PSx :=
    pSeq (pSet 3 (pTupRg (pRg1 (pVar 2))))
    (pr_lksame_3 cNoPassing cNoOrder Ep)
def p_lksame (cNoPassing : Addr) (cNoOrder : Addr) (Ep : EX) : PSx :=
    pSeq (pSet 2 (pAdd (pMaxTD (pAdd (pVar 0) (pVar 1)) (pNeg (pK (.int 2)))) (pK (.int 2))))
    (pr_lksame_4 cNoPassing cNoOrder Ep)
/-- the first place where orders differ -/
def fdiff (a b : List Nat) : Option Nat := (List.range a.length).find? fun i => decide (a.getD i 0 ≠ b.getD i 0)
def ordN (w u : List Nat) (x : List Nat) : List Nat := goW (List.range (needN (w ++ u))) x
def lkQ (C : Addr) (Q : QE) (Ep : EX) : Option Nat → Prop
  | none => Q (.im .none) [.un, .un]
  | some j => Ep C [("at", nD j)]
def psp_lksame (cNoOrder : Addr) : PSp := fun as Q Ep => ∃ w u : List Nat, as = [.im (.tuple (dN w)), .im (.tuple (dN u))] ∧ w.length ≤ 200 ∧ u.length ≤ 200 ∧ (∀ L ∈ w ++ u, L + 2 ≤ 20) ∧ lkQ cNoOrder Q Ep (fdiff (ordN w u w) (ordN w u u))
theorem foldl_max (l : List Int) (a : Int) : a ≤ l.foldl max a ∧ (∀ x ∈ l, x ≤ l.foldl max a) ∧ (l.foldl max a = a ∨ l.foldl max a ∈ l) := by
  induction l generalizing a with
  | nil => exact ⟨Int.le_refl _, nofun, .inl rfl⟩
  | cons y l ih =>
    obtain ⟨h1, h2, h3⟩ := ih (max a y)
    refine ⟨by show a ≤ l.foldl max (max a y); omega, fun x hx => ?_, ?_⟩
    · rcases List.mem_cons.mp hx with rfl | hx
      · show x ≤ l.foldl max (max a x); omega
      · exact h2 x hx
    · show l.foldl max (max a y) = a ∨ l.foldl max (max a y) ∈ _
      rcases h3 with h3 | h3
      · by_cases c : a ≤ y
        · right; rw [h3, show max a y = y by omega]; exact List.mem_cons_self
        · left; rw [h3]; omega
      · right; exact List.mem_cons_of_mem _ h3
theorem max_needI (l : List Nat) : maxI (-2) (iW l) + 2 = ((needN l : Nat) : Int) := by
  cases l with
  | nil => rfl
  | cons x l =>
    show (iW l).foldl max (x : Int) + 2 = _
    obtain ⟨h1, h2, h3⟩ := foldl_max (iW l) (x : Int)
    generalize (iW l).foldl max (x : Int) = m at *
    have a1 : ∀ L ∈ x :: l, (L : Int) ≤ m := fun L hL => by
      rcases List.mem_cons.mp hL with rfl | hL
      · exact h1
      · exact h2 _ (List.mem_map.mpr ⟨L, hL, rfl⟩)
    obtain ⟨L, hL, e⟩ : ∃ L ∈ x :: l, m = (L : Int) := by
      rcases h3 with h3 | h3
      · exact ⟨x, List.mem_cons_self, h3⟩
      · obtain ⟨L, hL, e⟩ := List.mem_map.mp h3
        exact ⟨L, List.mem_cons_of_mem _ hL, e.symm⟩
    have b1 := need_le L hL
    have b2 := need_lt (w := x :: l) (N := L + 2) fun y hy => by have := a1 y hy; omega
    omega
theorem ordG_free {n : Nat} : ∀ {ws o : List Nat} {k : Nat}, o.Perm (List.range n) → (∀ x ∈ ws, x + 1 < n) → ordG neB (List.range n) k o (iW ws) = .inr (goW o ws)
  | [], _, _, _, _ => rfl
  | x :: ws, o, k, hp, hw => by
    have hx := hw x List.mem_cons_self
    have hl := perm_len hp
    have nd : o.Nodup := hp.nodup_iff.mpr List.nodup_range
    have lt : ∀ j, j < n → o.getD j 0 < n := fun j hj => (mem_of_perm hp).mp (by rw [List.getD_eq_getElem?_getD, List.getElem?_eq_getElem (show j < o.length by omega)]; exact List.getElem_mem _)
    have ne : o.getD x 0 ≠ o.getD (x + 1) 0 := fun z => by
      have e1 := getD_of (xs := o) (i := x) (by omega)
      have e2 := getD_of (xs := o) (i := x + 1) (by omega)
      have := (List.pairwise_iff_getElem.mp nd) x (x + 1) (by omega) (by omega) (by omega)
      rw [List.getElem?_eq_getElem (by omega)] at e1 e2
      exact this ((Option.some.inj e1).trans (z.trans (Option.some.inj e2).symm))
    have rg : ∀ j, j < n → (List.range n).getD j 0 = j := fun j hj => by rw [List.getD_eq_getElem?_getD, List.getElem?_range hj]; rfl
    have hs : letS neB (List.range n) o (x : Int) = some x := by
      have hg : neB (((List.range n).getD (o.getD x 0) 0 : Nat) : Int) (((List.range n).getD (o.getD (x + 1) 0) 0 : Nat) : Int) = true := by
        rw [rg _ (lt x (by omega)), rg _ (lt (x + 1) hx)]
        show (!decide (((o.getD x 0 : Nat) : Int) = ((o.getD (x + 1) 0 : Nat) : Int))) = true
        rw [decide_eq_false (by omega)]
        rfl
      unfold letS
      rw [Int.toNat_natCast, if_pos ⟨by omega, by omega, hg⟩]
    show ordG neB (List.range n) k o ((x : Int) :: iW ws) = _
    simp only [ordG, hs]
    exact ordG_free ((swp_perm (by omega)).trans hp) fun y hy => hw y (List.mem_cons_of_mem _ hy)
theorem hp_lksame (cNoPassing cNoOrder : Addr) (as : List Sl) (Qp : QE) (Ep : EX) (h : psp_lksame cNoOrder as Qp Ep) : p_lksame cNoPassing cNoOrder Ep (endsP as Qp) (as ++ List.replicate 5 .un) := by
  obtain ⟨w, u, rfl, wl, ul, h20, q⟩ := h
  have z24 : (10000 : Nat) < sizeLine := by decide
  have nl := need_le (w := w ++ u)
  have n20 : needN (w ++ u) ≤ 20 := need_lt h20
  have mx := max_needI (w ++ u)
  refine ⟨?_, iW (w ++ u), -2, ?_, rfl, _, _, rfl, ?_⟩
  · show (dN w).length + (dN u).length ≤ sizeLine
    rw [dN_len, dN_len]; omega
  · show some (PyData.tuple (dN w ++ dN u)) = _
    rw [← dN_app, dN_iW]
  show pr_lksame_4 cNoPassing cNoOrder Ep _ [.im (.tuple (dN w)), .im (.tuple (dN u)), .im (.int (maxI (-2) (iW (w ++ u)) + 2)), .un, .un, .un, .un]
  rw [mx]
  unfold ordN at q
  generalize needN (w ++ u) = n at *
  refine ⟨_, rfl, ⟨by omega, by omega, by omega⟩, _, _, rfl, ?_⟩
  rw [rgD_dN]
  show pr_lksame_3 cNoPassing cNoOrder Ep _ [.im (.tuple (dN w)), .im (.tuple (dN u)), .im (nD n), .im (.tuple (dN (List.range n))), .un, .un, .un]
  refine ⟨_, _, rfl, _, _, rfl, _, rfl, List.nodup_nil, List.range n, iW w, ?_, by rw [List.length_range]; omega, ?_⟩
  · rw [dK_iW]
  rw [List.length_range, ordG_free (.refl _) fun x hx => by have := nl x (List.mem_append_left _ hx); omega]
  refine ⟨_, _, rfl, ?_⟩
  show pr_lksame_2 cNoPassing cNoOrder Ep _ [.im (.tuple (dN w)), .im (.tuple (dN u)), .im (nD n), .im (.tuple (dN (List.range n))), .im (.tuple (dN (goW (List.range n) w))), .un, .un]
  refine ⟨_, _, rfl, _, _, rfl, _, rfl, List.nodup_nil, List.range n, iW u, ?_, by rw [List.length_range]; omega, ?_⟩
  · rw [dK_iW]
  rw [List.length_range, ordG_free (.refl _) fun x hx => by have := nl x (List.mem_append_right _ hx); omega]
  refine ⟨_, _, rfl, ?_⟩
  show pr_lksame_1 cNoOrder Ep _ [.im (.tuple (dN w)), .im (.tuple (dN u)), .im (nD n), .im (.tuple (dN (List.range n))), .im (.tuple (dN (goW (List.range n) w))), .im (.tuple (dN (goW (List.range n) u))), .un]
  have la : (goW (List.range n) w).length = n := by rw [goW_len, List.length_range]
  have lb : (goW (List.range n) u).length = n := by rw [goW_len, List.length_range]
  generalize goW (List.range n) w = a at *
  generalize goW (List.range n) u = b at *
  refine ⟨by omega, by omega, ?_⟩
  refine for_rg n rfl (fun i δ => (∀ j, j < i → a.getD j 0 = b.getD j 0) ∧ δ = [.im (.tuple (dN w)), .im (.tuple (dN u)), .im (nD n), .im (.tuple (dN (List.range n))), .im (.tuple (dN a)), .im (.tuple (dN b)), .un]) ⟨nofun, rfl⟩ ?_ ?_
  · rintro i δ hi ⟨he, rfl⟩
    refine ⟨_, atI_of rfl (dN_get (getD_of (i := i) (by omega))), _, atI_of rfl (dN_get (getD_of (i := i) (by omega))), _, rfl, ?_⟩
    show if (!decide (((a.getD i 0 : Nat) : Int) = ((b.getD i 0 : Nat) : Int))) = true then _ else _
    by_cases c : a.getD i 0 = b.getD i 0
    · rw [decide_eq_true (by omega)]
      exact ⟨fun j hj => by
        by_cases e : j = i
        · rw [e]; exact c
        · exact he j (by omega), rfl⟩
    · rw [decide_eq_false (by omega)]
      have e : fdiff a b = some i := by
        unfold fdiff
        rw [List.find?_eq_some_iff_getElem]
        refine ⟨by simpa using c, i, by rw [List.length_range]; omega, by rw [List.getElem_range], fun j hj => ?_⟩
        rw [List.getElem_range]
        simpa using he j hj
      rw [e] at q
      exact ⟨_, _, rfl, _, _, rfl, rfl, q⟩
  · rintro δ ⟨he, rfl⟩
    have e : fdiff a b = none := by
      unfold fdiff
      rw [List.find?_eq_none]
      intro j hj
      have := List.mem_range.mp hj
      simpa using he j (by omega)
    rw [e] at q
    exact q
/-! ### join_words -/
-- DEF join_words N ['one', 'other', 'normal', 'down'] calls ['look_same_orders', 'wear_down', 'moves_up'] takes ['cNoOrder', 'Ep']
def pr_joinw_1 : PSx :=
    pRet (pAdd (pVar 3) (pCall psp_mups (pCons (pFz (pVar 1)) (pNil)) noX))
def pr_joinw_2 : PSx :=
    pSeq (pAsg (pCall psp_wear (pCons (pFz (pVar 0)) (pNil)) noX) (gT 2 (gsC (gN 2) (gsC (gN 3) (gsN)))))
    (pr_joinw_1)
def p_joinw (cNoOrder : Addr) (Ep : EX) : PSx :=
    pSeq (pExpr (pCall (psp_lksame cNoOrder) (pCons (pFz (pVar 0)) (pCons (pFz (pVar 1)) (pNil))) Ep))
    (pr_joinw_2)
/-- moves that lead from one word to the other -/
structure JoinOk (w u : List Nat) (js : List Mv) : Prop where
  sts : Sts w js u
  len : js.length ≤ 190 * w.length + 190 * u.length
  come : ∀ i k, Mv.come i k ∈ js → k ∈ u
  plain : sgl (List.range (needN (w ++ u))) w = true → sgl (List.range (needN (w ++ u))) u = true → ∀ m ∈ js, isGone m = false ∧ ∀ i k, m ≠ .come i k
  via : ∀ P, ClP P → P w → P u → StsP P w js u
def jnQ (C : Addr) (w u : List Nat) (Q : QE) (Ep : EX) : Option Nat → Prop
  | none => ∀ js, JoinOk w u js → Q (.im (.tuple (msD js))) [.un, .un]
  | some j => Ep C [("at", nD j)]
def psp_joinw (cNoOrder : Addr) : PSp := fun as Q Ep => ∃ w u : List Nat, as = [.im (.tuple (dN w)), .im (.tuple (dN u))] ∧ w.length ≤ 200 ∧ u.length ≤ 200 ∧ (∀ L ∈ w ++ u, L + 2 ≤ 20) ∧ jnQ cNoOrder w u Q Ep (fdiff (ordN w u w) (ordN w u u))
theorem fdiff_none {a b : List Nat} (hl : a.length = b.length) (h : fdiff a b = none) : a = b := by
  unfold fdiff at h
  rw [List.find?_eq_none] at h
  refine ext_getD hl fun i hi => ?_
  have := h i (List.mem_range.mpr hi)
  simpa using this
theorem hp_joinw (cNoOrder : Addr) (as : List Sl) (Qp : QE) (Ep : EX) (h : psp_joinw cNoOrder as Qp Ep) : p_joinw cNoOrder Ep (endsP as Qp) (as ++ List.replicate 2 .un) := by
  obtain ⟨w, u, rfl, wl, ul, h20, q⟩ := h
  have z24 : (100000 : Nat) < sizeLine := by decide
  have nl := need_le (w := w ++ u)
  have n20 : needN (w ++ u) ≤ 20 := need_lt h20
  have nw : ∀ L ∈ w, L + 2 ≤ needN (w ++ u) := fun L hL => nl L (List.mem_append_left _ hL)
  have nu : ∀ L ∈ u, L + 2 ≤ needN (w ++ u) := fun L hL => nl L (List.mem_append_right _ hL)
  refine ⟨_, _, rfl, _, _, rfl, _, rfl, List.nodup_nil, w, u, rfl, wl, ul, h20, ?_⟩
  cases hf : fdiff (ordN w u w) (ordN w u u) with
  | some j =>
    rw [hf] at q
    exact q
  | none =>
    rw [hf] at q
    have eo := fdiff_none (by unfold ordN; rw [goW_len, goW_len]) hf
    unfold ordN at eo
    have s1 := wear_all nw
    have s2 := wear_all nu
    have m1 := wear_nocome (N := needN (w ++ u)) w c0
    have l1 := wearM_len n20 w (c := c0) (fun j => Nat.zero_le j)
    have l2 := wearM_len n20 u (c := c0) (fun j => Nat.zero_le j)
    have ev : runsW (wearC (needN (w ++ u)) c0 w) (needN (w ++ u)) = runsW (wearC (needN (w ++ u)) c0 u) (needN (w ++ u)) := by
      rw [← wear_norm nw, ← wear_norm nu, eo]
    have g1 := fun h => sgl_nogone nw h
    have g2 := fun h => sgl_nogone nu h
    show pr_joinw_2 _ [.im (.tuple (dN w)), .im (.tuple (dN u)), .un, .un]
    refine ⟨_, _, rfl, _, rfl, List.nodup_nil, w, needN (w ++ u), rfl, n20, wl, nw, ?_⟩
    refine ⟨_, _, rfl, rfl, rfl, ?_⟩
    rw [ev] at s1
    generalize hv : runsW (wearC (needN (w ++ u)) c0 w) (needN (w ++ u)) = v0
    show pr_joinw_1 _ [.im (.tuple (dN w)), .im (.tuple (dN u)), .im (.tuple (dN v0)), .im (.tuple (msD (wearM (needN (w ++ u)) c0 w)))]
    refine ⟨_, _, rfl, _, rfl, List.nodup_nil, u, needN (w ++ u), rfl, n20, ul, nu, fun us uk => ?_⟩
    have e : msD (wearM (needN (w ++ u)) c0 w) ++ msD us = msD (wearM (needN (w ++ u)) c0 w ++ us) := by unfold msD; rw [List.map_append]
    refine ⟨?_, ?_⟩
    · have a1 : (msD (wearM (needN (w ++ u)) c0 w)).length = (wearM (needN (w ++ u)) c0 w).length := List.length_map _
      have a2 : (msD us).length = us.length := List.length_map _
      have := uk.len
      omega
    · rw [e]
      refine ⟨_, _, rfl, q _ ⟨s1.app uk.sts, ?_, fun i k hk => ?_, fun h1 h2 m hm => ?_, fun P cl p1 p2 => (stsP_down cl s1 m1 p1).app (uk.via P cl p2)⟩⟩
      · rw [List.length_append, uk.len]; omega
      · rcases List.mem_append.mp hk with hk | hk
        · exact absurd rfl (m1 _ hk i k)
        · exact uk.come i k hk
      · rcases List.mem_append.mp hm with hm | hm
        · refine ⟨?_, m1 m hm⟩
          have := g1 h1
          rw [List.countP_eq_zero] at this
          simpa using this m hm
        · refine ⟨?_, uk.plain (g2 h2) m hm⟩
          cases e2 : m with
          | gone i => exact absurd e2 (uk.nog m hm i)
          | _ => rfl
end Pv
namespace Pv
open PySem PySem.Spec L2 Wf
/-! Many moves on words that stay short (made from L22a and L25a). -/
def smallW : List Int → List PyData → Prop
  | w, [] => w.length ≤ 1000
  | w, m :: ms => w.length ≤ 1000 ∧ ∀ w', moveW w m = some w' → smallW w' ms
def psp_word_movedS (cNoMove : Addr) : PSp := fun as Q Ep => ∃ (w : List Int) (ms : List PyData) (d : PyData), as = [.im (dK w), .im d] ∧ seqD d = some ms ∧ smallW w ms ∧ (∀ m ∈ ms, okM m) ∧ movQ cNoMove Q Ep (movG 0 w ms)
theorem hp_word_movedS (cNoMove : Addr) (as : List Sl) (Qp : QE) (Ep : EX) (h : psp_word_movedS cNoMove as Qp Ep) : p_word_moved cNoMove Ep (endsP as Qp) (as ++ List.replicate 2 .un) := by
  obtain ⟨w, ms, d, rfl, hd, hl, okm, q⟩ := h
  refine ⟨_, _, _, rfl, hd, ?_⟩
  refine ⟨fun i δ => ∃ w', smallW w' (ms.drop i) ∧ movG 0 w ms = movG i w' (ms.drop i) ∧ δ = [.im (dK w'), .im d, .un, .un], ⟨w, hl, rfl, rfl⟩, ?_, ?_⟩
  · rintro i x δ hx ⟨w', hl', he, rfl⟩
    rw [enD_get] at hx
    obtain ⟨m, hm, rfl⟩ := Option.map_eq_some_iff.mp hx
    have hi := (List.getElem?_eq_some_iff.mp hm).1
    have ed : ms.drop i = m :: ms.drop (i + 1) := by
      rw [List.drop_eq_getElem_cons hi, (List.getElem?_eq_some_iff.mp hm).2]
    rw [ed] at he hl'
    refine ⟨rfl, rfl, ?_⟩
    have e0 : (.int ((0 + i : Nat) : Int) : PyData) = nD i := by rw [Nat.zero_add]
    show pb_word_moved_1 _ _ _ [.im (dK w'), .im d, .im (.int ((0 + i : Nat) : Int)), .im m]
    rw [e0]
    refine ⟨_, _, rfl, _, _, rfl, _, rfl, List.nodup_nil, w', m, rfl, hl'.1, okm m (List.mem_of_getElem? hm), ?_⟩
    cases cm : moveW w' m with
    | none =>
      rw [he] at q
      simp only [movG, cm] at q
      exact ⟨_, _, rfl, _, rfl, _, _, rfl, _, _, rfl, rfl, q⟩
    | some w2 =>
      refine ⟨_, _, rfl, _, rfl, w2, hl'.2 w2 cm, ?_, rfl⟩
      rw [he]
      simp only [movG, cm]
  · rintro δ ⟨w', hl', he, rfl⟩
    rw [enD_len, List.drop_length] at he
    rw [he] at q
    exact ⟨_, _, rfl, q⟩
end Pv
namespace Pv
open PySem PySem.Spec L2 Wf
theorem small_len : ∀ (ms : List PyData) (w : List Int), w.length + 2 * ms.length ≤ 1000 → smallW w ms
  | [], w, h => by show w.length ≤ 1000; simp at h; omega
  | m :: ms, w, h => ⟨by simp at h; omega, fun w' e => by
    have := moveW_len e
    simp at h
    exact small_len ms w' (by omega)⟩
/-! ### wear_down, word_moved asked for short words -/
-- DEF wear_down N ['word', 'normal', 'moves', 'letter', 'taken'] calls ['moves_into', 'word_moved'] takes ['cNoMove']
def pr_wearS_1 : PSx :=
    pAug 2 (pVar 4)
def pr_wearS_2 (cNoMove : Addr) : PSx :=
    pSeq (pSet 1 (pCall (psp_word_movedS cNoMove) (pCons (pFz (pAdd (pVar 1) (pTup (pCons (pVar 3) (pNil))))) (pCons (pFz (pVar 4)) (pNil))) noX))
    (pr_wearS_1)
def pb_wearS_3 (cNoMove : Addr) : PSx :=
    pSeq (pSet 4 (pCall psp_minto (pCons (pFz (pVar 1)) (pCons (pFz (pVar 3)) (pNil))) noX))
    (pr_wearS_2 cNoMove)
def pr_wearS_3 : PSx :=
    pRet (pTup (pCons (pVar 1) (pCons (pC (q1 fTupleOf) (pCons (pVar 2) (pNil))) (pNil))))
def pr_wearS_4 (cNoMove : Addr) : PSx :=
    pSeq (pFor [3, 4] (iSeq (pVar 0)) (gN 3) (pb_wearS_3 cNoMove))
    (pr_wearS_3)
def pr_wearS_5 (cNoMove : Addr) : PSx :=
    pSeq (pSet 2 (pLst (pNil)))
    (pr_wearS_4 cNoMove)
def p_wearS (cNoMove : Addr) : PSx :=
    pSeq (pSet 1 (pTup (pNil)))
    (pr_wearS_5 cNoMove)
theorem hp_wearS (cNoMove : Addr) (as : List Sl) (Qp : QE) (Ep : EX) (h : psp_wear as Qp Ep) : p_wearS cNoMove (endsP as Qp) (as ++ List.replicate 4 .un) := by
  obtain ⟨w, N, rfl, hN, hw, hL, q⟩ := h
  have z24 : (100000 : Nat) < sizeLine := by decide
  refine ⟨_, _, rfl, _, _, rfl, ?_⟩
  show pr_wearS_4 cNoMove _ (stWd w [] [] .un .un)
  have e0 : stWd w [] [] .un .un = stWd w (runsW (wearC N c0 (w.take 0)) N) (wearM N c0 (w.take 0)) .un .un := by
    show stWd w [] [] .un .un = stWd w (runsW c0 N) [] .un .un
    rw [runs0]
  rw [e0]
  refine ⟨_, _, _, rfl, rfl, ?_⟩
  refine for_dN w (fun i δ => δ = stWd w (runsW (wearC N c0 (w.take i)) N) (wearM N c0 (w.take i)) .un .un) rfl ?_ ?_
  · rintro i L δ hi rfl
    have hLw := List.mem_of_getElem? hi
    have et : w.take (i + 1) = w.take i ++ [L] := by rw [List.take_add_one, hi]; rfl
    have hc := wear_le (N := N) (w := w.take i) (c := c0) (fun j => Nat.zero_le j)
    have mc := wearM_len hN (w.take i) (c := c0) (fun j => Nat.zero_le j)
    have tl : (w.take i).length ≤ 200 := by rw [List.length_take]; omega
    have wc := wear_nocome (N := N) (w.take i) c0
    rw [et, wearC_snoc, wearM_snoc]
    generalize wearC N c0 (w.take i) = c at *
    generalize wearM N c0 (w.take i) = ms at *
    have p := pos190 hc hN
    have il := insM_len (c := c) N L
    have rl : (runsW c N).length ≤ 190 := p
    refine ⟨_, _, rfl, _, _, rfl, _, rfl, List.nodup_nil, c, N, L, rfl, hc, hN, ?_⟩
    refine ⟨_, _, rfl, ?_⟩
    show pr_wearS_2 cNoMove _ (stWd w (runsW c N) ms (.im (nD L)) (.ow false (.lst (msD (insM c N L)))))
    have es : dN (runsW c N) ++ [nD L] = (iW (runsW c N ++ [L])).map PyData.int := by
      rw [← dN_iW, dN_app]
      rfl
    have mv := sts_mov (ins_sts hc N L []) (fun i k hm => absurd rfl (ins_nocome N L _ hm i k)) 0
    rw [List.append_nil, res_runs hc N L N (Nat.le_refl _) (hL L hLw) fun j h1 h2 => absurd h1 (by omega)] at mv
    refine ⟨?_, _, _, rfl, _, _, rfl, _, rfl, List.nodup_nil, iW (runsW c N ++ [L]), msD (insM c N L), .list (msD (insM c N L)), ?_, rfl, small_len _ _ ?_, ?_, ?_⟩
    · show (dN (runsW c N)).length + 1 ≤ sizeLine
      rw [dN_len]; omega
    · show [Sl.im (.tuple (dN (runsW c N) ++ [nD L])), _] = _
      rw [es]
      rfl
    · have : (msD (insM c N L)).length = (insM c N L).length := by unfold msD; rw [List.length_map]
      rw [this]
      unfold iW
      rw [List.length_map, List.length_append, List.length_singleton]
      omega
    · intro m hm
      obtain ⟨x, _, rfl⟩ := List.mem_map.mp hm
      exact mv_ok x
    · rw [mv]
      refine ⟨_, _, rfl, ?_⟩
      show pr_wearS_1 _ [.im (.tuple (dN w)), .im (dK (iW (runsW (insC c N L) N))), .ow false (.lst (msD ms)), .im (nD L), .im (.list (msD (insM c N L)))]
      rw [dK_iW]
      refine ⟨_, _, rfl, _, _, _, _, _, rfl, rfl, rfl, ?_, ?_⟩
      · have l1 : (msD ms).length = ms.length := by unfold msD; rw [List.length_map]
        have l2 : (msD (insM c N L)).length = (insM c N L).length := by unfold msD; rw [List.length_map]
        omega
      · show [Sl.im (.tuple (dN w)), .im (.tuple (dN (runsW (insC c N L) N))), .ow false (.lst (msD ms ++ msD (insM c N L))), .un, .un] = _
        unfold msD
        rw [← List.map_append]
  · rintro δ rfl
    rw [List.take_length]
    exact ⟨_, _, rfl, q⟩
end Pv
namespace Pv
open PySem PySem.Spec L2 Wf
/-! ### _law_led_on -/
-- DEF _law_led_on N ['_law_word', '_law_moves', '_law_move'] calls ['_law_behind_move'] takes []
def plainM : Mv → Bool
  | .far _ => true
  | .turn _ => true
  | _ => false
theorem mv_name (m : Mv) : ∃ xs, mvD m = .tuple (.str (nmS m) :: xs) := by
  cases m <;> exact ⟨_, rfl⟩
/-! ### the law -/
-- DEF law N ['_law_script', '_law_deal_here', '_law_many', '_law_order', '_law_moves', '_law_back', '_law_at', '_law_less', '_law_one', '_law_other'] calls ['_law_deal', '_law_draw', '_law_mixed', '_law_single', 'join_words', '_law_led_on', 'moves_hold', 'word_moved', '_law_alike'] takes ['cNoOrder', 'cNoMove']
end Pv
namespace Pv
open PySem PySem.Spec L2 Wf
inductive Nm : Str → Prop
  | far : Nm "far"
  | turn : Nm "turn"
  | gone : Nm "gone"
theorem Nm.form {s : Str} (h : Nm s) (a : Int) : FormM (.tuple [.str s, .int a]) := by
  cases h with
  | far => exact .far a
  | turn => exact .turn a
  | gone => exact .gone a
/-! ### the law -/
end Pv
namespace Pv
open PySem PySem.Spec L2 Wf
/-! ### free words -/
def fre : List Nat → List Nat → Bool
  | _, [] => true
  | st, k :: w => if st.length ≤ k + 1 ∨ st.getD k 0 = st.getD (k + 1) 0 then false else fre (swp st k) w
theorem fre_iff : ∀ {w st : List Nat}, fre st w = true ↔ wordOk true st w
  | [], _ => ⟨fun _ => trivial, fun _ => rfl⟩
  | k :: w, st => by
    unfold fre
    by_cases c : st.length ≤ k + 1 ∨ st.getD k 0 = st.getD (k + 1) 0
    · rw [if_pos c]
      refine ⟨fun z => (by cases z), fun h => ?_⟩
      obtain ⟨⟨h1, h2⟩, _⟩ := h
      rcases c with c | c
      · omega
      · rcases h2 with h2 | h2
        · omega
        · exact absurd c h2.2
    · rw [if_neg c, fre_iff]
      have c1 : ¬ st.length ≤ k + 1 := fun z => c (.inl z)
      have c2 : ¬ st.getD k 0 = st.getD (k + 1) 0 := fun z => c (.inr z)
      exact ⟨fun h => ⟨⟨by omega, .inr ⟨rfl, c2⟩⟩, h⟩, fun h => h.2⟩
theorem wok_app {f : Bool} : ∀ {a b st : List Nat}, wordOk f st (a ++ b) ↔ wordOk f st a ∧ wordOk f (goW st a) b
  | [], _, _ => ⟨fun h => ⟨trivial, h⟩, fun h => h.2⟩
  | k :: a, b, st => by
    show letOk f st k ∧ wordOk f (swp st k) (a ++ b) ↔ (letOk f st k ∧ wordOk f (swp st k) a) ∧ wordOk f (goW (swp st k) a) b
    rw [wok_app, and_assoc]
theorem free_far {st : List Nat} {x y : Nat} {D : List Nat} (h : x + 2 ≤ y ∨ y + 2 ≤ x) (hw : wordOk true st (x :: y :: D)) : wordOk true st (y :: x :: D) := by
  obtain ⟨⟨a1, a2⟩, ⟨b1, b2⟩, c⟩ := hw
  have b1' := b1
  rw [swp_len] at b1'
  rw [swp_get a1, swp_get a1, if_neg (by omega), if_neg (by omega), if_neg (by omega), if_neg (by omega)] at b2
  rw [swp_comm a1 b1' h] at c
  refine ⟨⟨b1', b2⟩, ⟨by rw [swp_len]; exact a1, ?_⟩, c⟩
  rw [swp_get b1', swp_get b1', if_neg (by omega), if_neg (by omega), if_neg (by omega), if_neg (by omega)]
  exact a2
theorem ne_of_or {a b : Nat} (h : b < a ∨ true = true ∧ a ≠ b) : a ≠ b := by
  rcases h with h | h
  · omega
  · exact h.2
theorem free_turnU {st : List Nat} {k : Nat} {D : List Nat} (hw : wordOk true st (k :: (k + 1) :: k :: D)) : wordOk true st ((k + 1) :: k :: (k + 1) :: D) := by
  obtain ⟨⟨a1, a2⟩, ⟨b1, b2⟩, ⟨c1, c2⟩, d⟩ := hw
  have q1 : ¬ k = k + 1 := by omega
  have q2 : ¬ k + 1 = k := by omega
  have q3 : ¬ k = k + 1 + 1 := by omega
  have q4 : ¬ k + 1 + 1 = k := by omega
  have q5 : ¬ k + 1 = k + 1 + 1 := by omega
  have q6 : ¬ k + 1 + 1 = k + 1 := by omega
  have a2 := ne_of_or a2
  have b2 := ne_of_or b2
  have c2 := ne_of_or c2
  rw [swp_len] at b1
  have h2 : k + 1 + 1 < st.length := b1
  have l1 : k + 1 + 1 < (swp st k).length := by rw [swp_len]; exact h2
  have l2 : k + 1 < (swp st (k + 1)).length := by rw [swp_len]; exact a1
  have e1 : ∀ i, (swp (swp st k) (k + 1)).getD i 0 = _ := fun i => swp_get l1 i
  simp only [swp_get a1] at b2
  simp only [e1, swp_get a1] at c2
  rw [swp_braid b1] at d
  refine ⟨⟨h2, .inr ⟨rfl, ?_⟩⟩, ⟨l2, .inr ⟨rfl, ?_⟩⟩, ⟨by rw [swp_len, swp_len]; exact h2, .inr ⟨rfl, ?_⟩⟩, d⟩
  · simpa [q1, q2, q3, q4, q5, q6] using c2
  · simp only [swp_get h2]
    simpa [q1, q2, q3, q4, q5, q6] using b2
  · have l3 : k + 1 < (swp st (k + 1)).length := l2
    simp only [swp_get l3, swp_get h2]
    simpa [q1, q2, q3, q4, q5, q6] using a2
theorem free_turnD {st : List Nat} {k : Nat} {D : List Nat} (hw : wordOk true st ((k + 1) :: k :: (k + 1) :: D)) : wordOk true st (k :: (k + 1) :: k :: D) := by
  obtain ⟨⟨a1, a2⟩, ⟨b1, b2⟩, ⟨c1, c2⟩, d⟩ := hw
  have q1 : ¬ k = k + 1 := by omega
  have q2 : ¬ k + 1 = k := by omega
  have q3 : ¬ k = k + 1 + 1 := by omega
  have q4 : ¬ k + 1 + 1 = k := by omega
  have q5 : ¬ k + 1 = k + 1 + 1 := by omega
  have q6 : ¬ k + 1 + 1 = k + 1 := by omega
  have a2 := ne_of_or a2
  have b2 := ne_of_or b2
  have c2 := ne_of_or c2
  rw [swp_len] at b1
  have h2 : k + 1 + 1 < st.length := a1
  have l1 : k + 1 < (swp st (k + 1)).length := by rw [swp_len]; exact b1
  have l2 : k + 1 + 1 < (swp st k).length := by rw [swp_len]; exact h2
  have e1 : ∀ i, (swp (swp st (k + 1)) k).getD i 0 = _ := fun i => swp_get l1 i
  simp only [swp_get h2] at b2
  simp only [e1, swp_get h2] at c2
  rw [← swp_braid h2] at d
  refine ⟨⟨b1, .inr ⟨rfl, ?_⟩⟩, ⟨l2, .inr ⟨rfl, ?_⟩⟩, ⟨by rw [swp_len, swp_len]; exact b1, .inr ⟨rfl, ?_⟩⟩, d⟩
  · simpa [q1, q2, q3, q4, q5, q6] using c2
  · simp only [swp_get b1]
    simpa [q1, q2, q3, q4, q5, q6] using b2
  · simp only [swp_get l2, swp_get b1]
    simpa [q1, q2, q3, q4, q5, q6] using a2
theorem cl_free (ks : List Nat) : ClP fun x => wordOk true ks x := fun x m y s nc p => by
  cases s with
  | far h =>
    rw [wok_app] at p ⊢
    exact ⟨p.1, free_far h p.2⟩
  | @turn A D x y h =>
    rw [wok_app] at p ⊢
    rcases h with rfl | rfl
    · exact ⟨p.1, free_turnD p.2⟩
    · exact ⟨p.1, free_turnU p.2⟩
  | @gone A D x =>
    rw [wok_app] at p ⊢
    obtain ⟨p1, ⟨a1, _⟩, _, d⟩ := p
    rw [swp_swp a1] at d
    exact ⟨p1, d⟩
  | come => exact absurd rfl (nc _ _)
theorem cl_len (n : Nat) : ClP fun x => x.length ≤ n := fun x m y s nc p => Nat.le_trans (st_len s nc) p
theorem need_app (w u : List Nat) : needN (w ++ u) = max (needN w) (needN u) := by
  have a1 := need_le (w := w)
  have a2 := need_le (w := u)
  have a3 := need_le (w := w ++ u)
  have b1 := need_lt (w := w ++ u) (N := max (needN w) (needN u)) fun L hL => by
    rcases List.mem_append.mp hL with h | h
    · have := a1 L h; omega
    · have := a2 L h; omega
  have b2 := need_lt (w := w) (N := needN (w ++ u)) fun L hL => a3 L (List.mem_append_left _ hL)
  have b3 := need_lt (w := u) (N := needN (w ++ u)) fun L hL => a3 L (List.mem_append_right _ hL)
  omega
/-! ### _law_is_free -/
-- DEF _law_is_free N ['_law_kinds', '_law_word_here', '_law_order_here', '_law_k'] calls [] takes []
def pr_lisfree_1 : PSx :=
    pAsg (pTup (pCons (pIx (pVar 2) (pAdd (pVar 3) (pK (.int 1)))) (pCons (pIx (pVar 2) (pVar 3)) (pNil)))) (gT 2 (gsC (gSx (pVar 2) (pVar 3)) (gsC (gSx (pVar 2) (pAdd (pVar 3) (pK (.int 1)))) (gsN))))
def pb_lisfree_2 : PSx :=
    pSeq (pIf (pOr (pT (pGe (pAdd (pVar 3) (pK (.int 1))) (pC (q1 fLen) (pCons (pVar 2) (pNil))))) (pT (pEq false (pIx (pVar 0) (pIx (pVar 2) (pVar 3))) (pIx (pVar 0) (pIx (pVar 2) (pAdd (pVar 3) (pK (.int 1)))))))) (pRet (pK (.bool false))) (pNext))
    (pr_lisfree_1)
def pr_lisfree_2 : PSx :=
    pRet (pK (.bool true))
def pr_lisfree_3 : PSx :=
    pSeq (pFor [3] (iSeq (pVar 1)) (gN 3) (pb_lisfree_2))
    (pr_lisfree_2)
def p_lisfree : PSx :=
    pSeq (pSet 2 (pLstRg (pRg1 (pC (q1 fLen) (pCons (pVar 0) (pNil))))))
    (pr_lisfree_3)
def psp_lisfree : PSp := fun as Q _ => ∃ ks w : List Nat, as = [.im (.list (dN ks)), .im (.tuple (dN w))] ∧ ks.length ≤ 1000 ∧ Q (.im (.bool (fre ks w))) [.un, .un]
theorem hp_lisfree (as : List Sl) (Qp : QE) (Ep : EX) (h : psp_lisfree as Qp Ep) : p_lisfree (endsP as Qp) (as ++ List.replicate 2 .un) := by
  obtain ⟨ks, w, rfl, n1, q⟩ := h
  have z24 : (10000 : Nat) < sizeLine := by decide
  have el : (dN ks).length = ks.length := dN_len ks
  refine ⟨_, rfl, ⟨by omega, by omega, by omega⟩, _, _, rfl, ?_⟩
  rw [el, rgD_dN]
  show pr_lisfree_3 _ [.im (.list (dN ks)), .im (.tuple (dN w)), .ow false (.lst (dN (List.range ks.length))), .un]
  refine ⟨_, _, _, rfl, rfl, ?_⟩
  refine for_dN w (fun i δ => ∃ o : List Nat, o.Perm (List.range ks.length) ∧ fre ks w = fre (o.map fun i => ks.getD i 0) (w.drop i) ∧ δ = [.im (.list (dN ks)), .im (.tuple (dN w)), .ow false (.lst (dN o)), .un]) ⟨List.range ks.length, .refl _, by rw [kf_range]; rfl, rfl⟩ ?_ ?_
  · rintro i k δ hk ⟨o, op, eo, rfl⟩
    have hi := (List.getElem?_eq_some_iff.mp hk).1
    have ol := perm_len op
    rw [List.drop_eq_getElem_cons hi, (List.getElem?_eq_some_iff.mp hk).2] at eo
    have ek : ((k : Int) + 1) = ((k + 1 : Nat) : Int) := rfl
    have e2 : fre (o.map fun i => ks.getD i 0) (k :: w.drop (i + 1)) = if (o.map fun i => ks.getD i 0).length ≤ k + 1 ∨ (o.map fun i => ks.getD i 0).getD k 0 = (o.map fun i => ks.getD i 0).getD (k + 1) 0 then false else fre (swp (o.map fun i => ks.getD i 0) k) (w.drop (i + 1)) := rfl
    rw [e2, List.length_map] at eo
    refine ⟨trivial, _, rfl, ?_⟩
    show if decide (((dN o).length : Int) ≤ (k : Int) + 1) = true then _ else _
    rw [dN_len]
    by_cases c : o.length ≤ k + 1
    · rw [if_pos (decide_eq_true (by omega))]
      rw [if_pos (.inl c)] at eo
      rw [eo] at q
      exact ⟨_, _, rfl, q⟩
    · rw [if_neg (by simp only [decide_eq_true_eq]; omega)]
      have gm : ∀ j, j < o.length → (o.map fun i => ks.getD i 0).getD j 0 = ks.getD (o.getD j 0) 0 := fun j hj => by
        rw [List.getD_eq_getElem?_getD, List.getElem?_map, List.getElem?_eq_getElem hj, List.getD_eq_getElem?_getD (l := o), List.getElem?_eq_getElem hj]
        rfl
      have ob : ∀ j, j < o.length → o.getD j 0 < ks.length := fun j hj => (mem_of_perm op).mp (List.mem_of_getElem? (getD_of hj))
      refine ⟨_, atI_of rfl (dN_get (getD_of (i := k) (by omega))), _, atI_of rfl (dN_get (getD_of (ob k (by omega)))), _, atI_of ek (dN_get (getD_of (i := k + 1) (by omega))), _, atI_of rfl (dN_get (getD_of (ob (k + 1) (by omega)))), _, rfl, ?_⟩
      show if decide (((ks.getD (o.getD k 0) 0 : Nat) : Int) = ((ks.getD (o.getD (k + 1) 0) 0 : Nat) : Int)) = true then _ else _
      rw [gm k (by omega), gm (k + 1) (by omega)] at eo
      by_cases c2 : ks.getD (o.getD k 0) 0 = ks.getD (o.getD (k + 1) 0) 0
      · rw [if_pos (decide_eq_true (by omega))]
        rw [if_pos (.inr c2)] at eo
        rw [eo] at q
        exact ⟨_, _, rfl, q⟩
      · rw [if_neg (by simp only [decide_eq_true_eq]; omega)]
        rw [if_neg (by rintro (z | z); exact c z; exact c2 z)] at eo
        show pr_lisfree_1 _ [.im (.list (dN ks)), .im (.tuple (dN w)), .ow false (.lst (dN o)), .im (nD k)]
        refine ⟨_, atI_of ek (dN_get (getD_of (i := k + 1) (by omega))), _, atI_of rfl (dN_get (getD_of (i := k) (by omega))), _, _, rfl, rfl, 2, (k : Int), false, _, k, rfl, rfl, rfl, by rw [dN_len]; exact ixN_nat (by omega), 2, ((k + 1 : Nat) : Int), false, _, k + 1, rfl, rfl, rfl, by rw [List.length_set, dN_len]; exact ixN_nat (by omega), rfl, swp o k, (swp_perm (by omega)).trans op, ?_, ?_⟩
        · rw [eo, swp_map _ (by omega)]
        · show [_, _, _, _] = _
          rw [dN_set, dN_set]
          rfl
  · rintro δ ⟨o, op, eo, rfl⟩
    rw [List.drop_length] at eo
    have e1 : fre ks w = true := eo
    rw [e1] at q
    exact ⟨_, _, rfl, q⟩
/-! ### _law_is_move -/
-- DEF _law_is_move N ['_law_move', '_law_one'] calls [] takes []
def pe_lismove_1 : PX :=
    pAndV (pIsi "int" (pVar 1)) (pNotV (pIsi "bool" (pVar 1)))
def pr_lismove_1 : PSx :=
    pRet (pC (q1 fAll) (pCons (pComp (iSeq (pSlice (pVar 0) (oSome (pK (.int 1))) (oNone))) (gN 1) (pYes) (pe_lismove_1) [1]) (pNil)))
def pr_lismove_2 : PSx :=
    pSeq (pIf (pT (pInT true (pIx (pVar 0) (pK (.int 0))) (pTup (pCons (pK (.str "far")) (pCons (pK (.str "turn")) (pCons (pK (.str "gone")) (pCons (pK (.str "come")) (pNil)))))))) (pRet (pK (.bool false))) (pNext))
    (pr_lismove_1)
def p_lismove : PSx :=
    pSeq (pIf (pOr (pNot (pT (pIsi "tuple" (pVar 0)))) (pOr (pT (pInT true (pC (q1 fLen) (pCons (pVar 0) (pNil))) (pTup (pCons (pK (.int 2)) (pCons (pK (.int 3)) (pNil)))))) (pT (pEq true (pEq false (pC (q1 fLen) (pCons (pVar 0) (pNil))) (pK (.int 3))) (pEq false (pIx (pVar 0) (pK (.int 0))) (pK (.str "come"))))))) (pRet (pK (.bool false))) (pNext))
    (pr_lismove_2)
def psp_lismove : PSp := fun as Q _ => ∃ m : Mv, as = [.im (mvD m)] ∧ Q (.im (.bool true)) [.un]
theorem hp_lismove (as : List Sl) (Qp : QE) (Ep : EX) (h : psp_lismove as Qp Ep) : p_lismove (endsP as Qp) (as ++ List.replicate 1 .un) := by
  obtain ⟨m, rfl, q⟩ := h
  have go : ∀ (s : Str) (is : List Int), s ∈ ([("far" : Str), "turn", "gone", "come"] : List Str) → is.length ≤ 4 → pr_lismove_2 (endsP [.im (.tuple (.str s :: is.map .int))] Qp) [.im (.tuple (.str s :: is.map .int)), .un] := fun s is hs hl => by
    refine ⟨_, atI_of (j := 0) rfl rfl, [.str "far", .str "turn", .str "gone", .str "come"], rfl, .inl ⟨s, [("far" : Str), "turn", "gone", "come"], rfl, rfl, _, rfl, ?_⟩⟩
    show if (!decide (s ∈ ([("far" : Str), "turn", "gone", "come"] : List Str))) = true then _ else _
    rw [decide_eq_true hs, if_neg (by decide)]
    show pr_lismove_1 _ [.im (.tuple (.str s :: is.map .int)), .un]
    have ec : cutD (.str s :: is.map PyData.int) (some 1) none = is.map PyData.int := by
      rw [show (1 : Int) = ((1 : Nat) : Int) from rfl, cut_drop]
      rfl
    refine ⟨_, rfl, _, _, _, rfl, rfl, noPin1 (fun o => nofun), fun j acc δ => acc = List.replicate j (.bool true) ∧ δ = [.im (.tuple (.str s :: is.map .int)), .un], ⟨rfl, rfl⟩, ?_, ?_⟩
    · rintro j d acc δ hd ⟨rfl, rfl⟩
      rw [ec, List.getElem?_map] at hd
      obtain ⟨i, hi, rfl⟩ := Option.map_eq_some_iff.mp hd
      have := (List.getElem?_eq_some_iff.mp hi).1
      refine ⟨_, rfl, _, rfl, _, rfl, _, rfl, _, _, rfl, ?_, ?_, rfl⟩
      · rw [List.length_replicate]
        exact szN (m := 100) (by omega) (by decide)
      · show List.replicate j (PyData.bool true) ++ List.replicate 1 (PyData.bool true) = List.replicate (j + 1) (PyData.bool true)
        rw [List.replicate_append_replicate]
    · rintro acc δ ⟨rfl, rfl⟩
      refine ⟨List.replicate _ true, congrArg PyData.list List.map_replicate.symm, ?_⟩
      rw [show (List.replicate (cutD (.str s :: is.map PyData.int) (some 1) none).length true).all id = true from List.all_eq_true.mpr fun x hx => (List.mem_replicate.mp hx).2]
      exact ⟨_, _, rfl, q⟩
  have two : ∀ (s : Str) (i : Nat), s ∈ ([("far" : Str), "turn", "gone", "come"] : List Str) → decide (s = "come") = false → p_lismove (endsP [.im (.tuple [.str s, nD i])] Qp) [.im (.tuple [.str s, nD i]), .un] := fun s i h1 h2 => by
    refine ⟨_, rfl, _, rfl, [.int 2, .int 3], rfl, .inr ⟨(2 : Int), [2, 3], rfl, rfl, _, rfl, ?_⟩⟩
    show if (!decide ((2 : Int) ∈ ([2, 3] : List Int))) = true then _ else _
    rw [if_neg (by decide)]
    refine ⟨_, atI_of (j := 0) rfl rfl, rfl, rfl, _, rfl, ?_⟩
    show if (!eqd (.bool (decide ((2 : Int) = 3))) (.bool (decide (s = "come")))) = true then _ else _
    rw [h2, show decide ((2 : Int) = 3) = false from rfl, eqd_self (d := .bool false) rfl]
    exact go s [(i : Int)] h1 (by simp)
  cases m with
  | far i => exact two "far" i (by simp) n_fc
  | turn i => exact two "turn" i (by simp) n_tc
  | gone i => exact two "gone" i (by simp) n_gc
  | come i k =>
    refine ⟨_, rfl, _, rfl, [.int 2, .int 3], rfl, .inr ⟨(3 : Int), [2, 3], rfl, rfl, _, rfl, ?_⟩⟩
    show if (!decide ((3 : Int) ∈ ([2, 3] : List Int))) = true then _ else _
    rw [if_neg (by decide)]
    refine ⟨_, atI_of (j := 0) rfl rfl, rfl, rfl, _, rfl, ?_⟩
    show if (!eqd (.bool (decide ((3 : Int) = 3))) (.bool (decide (("come" : Str) = "come")))) = true then _ else _
    rw [decide_eq_true (rfl : ("come" : Str) = "come"), show decide ((3 : Int) = 3) = true from rfl, eqd_self (d := .bool true) rfl]
    exact go "come" [(i : Int), (k : Int)] (by simp) (by simp)
/-! ### _law_told -/
-- DEF _law_told N ['_law_one', '_law_other', '_law_found', 'e'] calls ['join_words'] takes ['cNoOrder']
def pr_ltold24_1 : PSx :=
    pRet (pVar 2)
def pr_ltold24_2 (cNoOrder : Addr) : PSx :=
    pSeq (pTry 3 2 (fun C => C = cNoOrder) (xTup2 (pK (.str "told")) (xCall (psp_joinw cNoOrder) (pCons (pFz (pVar 0)) (pCons (pFz (pVar 1)) (pNil))))) (fun a cls d => pSeq (pSet 2 (pTup (pCons (pK (.str "other")) (pCons (pK (.int 0)) (pNil)))))
    (pIf (pAnd (pT (pIsX (sbAt cNoOrder true) a cls d 3)) (pNot (pT (pIsX (sbAt cNoOrder false) a cls d 3)))) (pSet 2 (pTup (pCons (pK (.str "none")) (pCons (pXf cNoOrder a cls d 3 "at") (pNil))))) (pNext))))
    (pr_ltold24_1)
def p_ltold24 (cNoOrder : Addr) : PSx :=
    pSeq (pSet 2 (pK .none))
    (pr_ltold24_2 cNoOrder)
def tlQ (w u : List Nat) (Q : QE) : Option Nat → Prop
  | none => ∀ js, JoinOk w u js → Q (.im (.tuple [.str "told", .tuple (msD js)])) [.un, .un]
  | some j => Q (.im (.tuple [.str "none", nD j])) [.un, .un]
def psp_ltold24 : PSp := fun as Q _ => ∃ w u : List Nat, as = [.im (.tuple (dN w)), .im (.tuple (dN u))] ∧ w.length ≤ 200 ∧ u.length ≤ 200 ∧ (∀ L ∈ w ++ u, L + 2 ≤ 20) ∧ tlQ w u Q (fdiff (ordN w u w) (ordN w u u))
theorem hp_ltold24 (cNoOrder : Addr) (as : List Sl) (Qp : QE) (Ep : EX) (h : psp_ltold24 as Qp Ep) : p_ltold24 cNoOrder (endsP as Qp) (as ++ List.replicate 2 .un) := by
  obtain ⟨w, u, rfl, wl, ul, h20, q⟩ := h
  refine ⟨_, _, rfl, _, _, rfl, _, _, rfl, _, rfl, w, u, rfl, wl, ul, h20, ?_⟩
  revert q
  cases fdiff (ordN w u w) (ordN w u u) with
  | none => exact fun q js jk => ⟨_, _, rfl, _, _, rfl, _, _, rfl, q js jk⟩
  | some n =>
    intro q
    refine ⟨rfl, fun a dd => ?_⟩
    refine ⟨_, _, rfl, ?_⟩
    refine ⟨_, _, _, _, rfl, rfl, rfl, sb_self _ _, _, rfl, ?_⟩
    refine ⟨_, _, _, _, rfl, rfl, rfl, sb_self _ _, _, rfl, ?_⟩
    refine ⟨_, _, _, rfl, rfl, rfl, rfl, _, _, rfl, _, _, rfl, q⟩
/-! ### _law_right -/
-- DEF _law_right N ['_law_one', '_law_other', '_law_kinds', '_law_need_here', '_law_found', '_law_unlike', '_law_step', '_law_first', '_law_second', '_law_word_here', '_law_plain', '_law_at', '_law_move'] calls ['_law_need', '_law_order', '_law_told', '_law_alike', '_law_is_single', '_law_is_move', '_law_behind_move', '_law_is_free'] takes []
def pe_lright24_1 : PX :=
    pVar 11
def pr_lright24_1 : PSx :=
    pIf (pOr (pT (pIs false (pVar 9) (pK .none))) (pAnd (pT (pIs true (pVar 2) (pK .none))) (pAnd (pT (pEq false (pMod (pVar 11) (pVar 6)) (pK (.int 0)))) (pNot (pT (pCall psp_lisfree (pCons (pFz (pVar 2)) (pCons (pFz (pVar 9)) (pNil))) noX)))))) (pRet (pK (.bool false))) (pNext)
def pr_lright24_2 : PSx :=
    pSeq (pSet 9 (pCall psp_lbehind (pCons (pFz (pVar 9)) (pCons (pFz (pVar 12)) (pNil))) noX))
    (pr_lright24_1)
def pb_lright24_4 : PSx :=
    pSeq (pIf (pOr (pNot (pT (pCall psp_lismove (pCons (pFz (pVar 12)) (pNil)) noX))) (pAnd (pT (pVar 10)) (pT (pInT false (pIx (pVar 12) (pK (.int 0))) (pTup (pCons (pK (.str "gone")) (pCons (pK (.str "come")) (pNil)))))))) (pRet (pK (.bool false))) (pNext))
    (pr_lright24_2)
def pr_lright24_3 : PSx :=
    pRet (pEq false (pVar 9) (pVar 1))
def pr_lright24_4 : PSx :=
    pSeq (pFor [11, 12] (iEn (pCons (pIx (pVar 4) (pK (.int 1))) (pNil))) (gT 2 (gsC (gN 11) (gsC (gN 12) (gsN)))) (pb_lright24_4))
    (pr_lright24_3)
def pr_lright24_5 : PSx :=
    pSeq (pSet 6 (pAdd (pK (.int 1)) (pMul (pK (.int 16)) (pC (q1 fInt1) (pCons (pGt (pC (q1 fLen) (pCons (pIx (pVar 4) (pK (.int 1))) (pNil))) (pK (.int 60))) (pNil))))))
    (pr_lright24_4)
def pr_lright24_6 : PSx :=
    pSeq (pPar [9, 10] (pCons (pVar 0) (pCons (pAndV (pCall psp_lissingle (pCons (pFz (pVar 0)) (pNil)) noX) (pCall psp_lissingle (pCons (pFz (pVar 1)) (pNil)) noX)) (pNil))))
    (pr_lright24_5)
def pr_lright24_7 : PSx :=
    pSeq (pIf (pOr (pT (pEq true (pIx (pVar 4) (pK (.int 0))) (pK (.str "told")))) (pNot (pT (pIsi "tuple" (pIx (pVar 4) (pK (.int 1))))))) (pRet (pK (.bool false))) (pNext))
    (pr_lright24_6)
def pr_lright24_8 : PSx :=
    pSeq (pIf (pT (pEq true (pVar 5) (pLst (pNil)))) (pRet (pCall psp_alike (pCons (pFz (pVar 4)) (pCons (pFz (pTup (pCons (pK (.str "none")) (pCons (pIx (pVar 5) (pK (.int 0))) (pNil))))) (pNil))) noX)) (pNext))
    (pr_lright24_7)
def pr_lright24_9 : PSx :=
    pSeq (pSet 5 (pComp (iRg (pCons (pVar 3) (pNil))) (gN 11) (pT (pEq true (pIx (pVar 7) (pVar 11)) (pIx (pVar 8) (pVar 11)))) (pe_lright24_1) [11]))
    (pr_lright24_8)
def pr_lright24_10 : PSx :=
    pSeq (pSet 4 (pCall psp_ltold24 (pCons (pFz (pVar 0)) (pCons (pFz (pVar 1)) (pNil))) noX))
    (pr_lright24_9)
def pr_lright24_11 : PSx :=
    pSeq (pPar [7, 8] (pCons (pCall psp_lorder (pCons (pFz (pVar 3)) (pCons (pFz (pVar 0)) (pNil))) noX) (pCons (pCall psp_lorder (pCons (pFz (pVar 3)) (pCons (pFz (pVar 1)) (pNil))) noX) (pNil))))
    (pr_lright24_10)
def p_lright24 : PSx :=
    pSeq (pSet 3 (pC (q2 fMax2) (pCons (pCall psp_lneed (pCons (pFz (pVar 0)) (pNil)) noX) (pCons (pCall psp_lneed (pCons (pFz (pVar 1)) (pNil)) noX) (pNil)))))
    (pr_lright24_11)
def kkD : Option (List Nat) → PyData
  | none => .none
  | some ks => .list (dN ks)
def psp_lright24 : PSp := fun as Q _ => ∃ (w u : List Nat) (kk : Option (List Nat)), as = [.im (.tuple (dN w)), .im (.tuple (dN u)), .im (kkD kk)] ∧ w.length ≤ 100 ∧ u.length ≤ 100 ∧ (∀ L ∈ w ++ u, L + 2 ≤ 10) ∧ (∀ ks, kk = some ks → ks.length ≤ 1000 ∧ wordOk true ks w ∧ wordOk true ks u) ∧ Q (.im (.bool true)) [.un, .un, .un]
abbrev st24r (w u : List Nat) (kk : Option (List Nat)) (s3 s4 s5 s6 s7 s8 s9 s10 : Sl) : List Sl := [.im (.tuple (dN w)), .im (.tuple (dN u)), .im (kkD kk), s3, s4, s5, s6, s7, s8, s9, s10, .un, .un]
theorem StsP.head {P : List Nat → Prop} {w v : List Nat} {ms : List Mv} (h : StsP P w ms v) : P w := by
  cases h with
  | nil h => exact h
  | cons h _ _ => exact h
/-- the words on the way -/
def WayP (kk : Option (List Nat)) (x : List Nat) : Prop := x.length ≤ 100 ∧ ∀ ks, kk = some ks → wordOk true ks x
theorem cl_way (kk : Option (List Nat)) : ClP (WayP kk) := fun x m y s nc p => ⟨cl_len 100 x m y s nc p.1, fun ks e => cl_free ks x m y s nc (p.2 ks e)⟩
theorem gone_plain (m : Mv) : decide (nmS m ∈ ([("gone" : Str), "come"] : List Str)) = !plainM m := by
  cases m with
  | far i => show decide (("far" : Str) ∈ ([("gone" : Str), "come"] : List Str)) = false; decide +kernel
  | turn i => show decide (("turn" : Str) ∈ ([("gone" : Str), "come"] : List Str)) = false; decide +kernel
  | gone i => show decide (("gone" : Str) ∈ ([("gone" : Str), "come"] : List Str)) = true; decide +kernel
  | come i k => show decide (("come" : Str) ∈ ([("gone" : Str), "come"] : List Str)) = true; decide +kernel
theorem hp_way24 {Qp : QE} {w u : List Nat} {kk : Option (List Nat)} {s3 s5 s7 s8 : Sl} {js : List Mv} {pb : Bool} (wl : w.length ≤ 100) (ul : u.length ≤ 100) (h10 : ∀ L ∈ w ++ u, L + 2 ≤ 10) (hk : ∀ ks, kk = some ks → ks.length ≤ 1000 ∧ wordOk true ks w ∧ wordOk true ks u) (jk : JoinOk w u js)
    (hp : pb = true → ∀ m ∈ js, plainM m = true) (q : Qp (.im (.bool true)) [.un, .un, .un]) :
    pr_lright24_5 (endsP [.im (.tuple (dN w)), .im (.tuple (dN u)), .im (kkD kk)] Qp) (st24r w u kk s3 (.im (.tuple [.str "told", .tuple (msD js)])) s5 .un s7 s8 (.im (.tuple (dN w))) (.im (.bool pb))) := by
  have c8 : ∀ i k, Mv.come i k ∈ js → k ≤ 8 := fun i k h => by have := h10 k (List.mem_append_right _ (jk.come i k h)); omega
  have via := jk.via (WayP kk) (cl_way kk) ⟨wl, fun ks e => (hk ks e).2.1⟩ ⟨ul, fun ks e => (hk ks e).2.2⟩
  refine ⟨_, atI_of (j := 1) rfl rfl, trivial, .inl (.inl ⟨by decide, by decide⟩), _, _, rfl, ?_⟩
  generalize hS : (1 + 16 * (if decide (((msD js).length : Int) > 60) = true then (1 : Int) else 0) : Int) = S
  have S0 : 0 < S := by rw [← hS]; split <;> decide
  show pr_lright24_4 _ (st24r w u kk s3 (.im (.tuple [.str "told", .tuple (msD js)])) s5 (.im (.int S)) s7 s8 (.im (.tuple (dN w))) (.im (.bool pb)))
  refine ⟨_, atI_of (j := 1) rfl rfl, _, _, msD js, rfl, rfl, ?_⟩
  refine ⟨fun i δ => ∃ x : List Nat, StsP (WayP kk) x (js.drop i) u ∧ δ = st24r w u kk s3 (.im (.tuple [.str "told", .tuple (msD js)])) s5 (.im (.int S)) s7 s8 (.im (.tuple (dN x))) (.im (.bool pb)), ⟨w, via, rfl⟩, ?_, ?_⟩
  · rintro i d δ hd ⟨x, sx, rfl⟩
    rw [enD_get, List.getElem?_map] at hd
    obtain ⟨d2, hd2, rfl⟩ := Option.map_eq_some_iff.mp hd
    obtain ⟨mv, hm, rfl⟩ := Option.map_eq_some_iff.mp hd2
    have hi := (List.getElem?_eq_some_iff.mp hm).1
    have mem := List.mem_of_getElem? hm
    rw [List.drop_eq_getElem_cons hi, (List.getElem?_eq_some_iff.mp hm).2] at sx
    cases sx with
    | @cons _ v _ _ _ px s1 s2 =>
    have pv : WayP kk v := s2.head
    have xl := px.1
    have mvw : moveW (iW x) (mvD mv) = some (iW v) := st_move s1 fun i k e => c8 i k (by rw [← e]; exact mem)
    obtain ⟨xs, ex⟩ := mv_name mv
    have gp := gone_plain mv
    refine ⟨rfl, rfl, ?_⟩
    show pb_lright24_4 _ [.im (.tuple (dN w)), .im (.tuple (dN u)), .im (kkD kk), s3, .im (.tuple [.str "told", .tuple (msD js)]), s5, .im (.int S), s7, s8, .im (.tuple (dN x)), .im (.bool pb), .im (.int ((0 + i : Nat) : Int)), .im (mvD mv)]
    generalize ((0 + i : Nat) : Int) = ii
    have rest : pr_lright24_2 ⟨fun δ' => ∃ x : List Nat, StsP (WayP kk) x (js.drop (i + 1)) u ∧ wipeT δ' [11, 12] = st24r w u kk s3 (.im (.tuple [.str "told", .tuple (msD js)])) s5 (.im (.int S)) s7 s8 (.im (.tuple (dN x))) (.im (.bool pb)), (endsP [.im (.tuple (dN w)), .im (.tuple (dN u)), .im (kkD kk)] Qp).rt, fun δ' => pr_lright24_3 (endsP [.im (.tuple (dN w)), .im (.tuple (dN u)), .im (kkD kk)] Qp) (wipeT δ' [11, 12]), fun δ' => ∃ x : List Nat, StsP (WayP kk) x (js.drop (i + 1)) u ∧ wipeT δ' [11, 12] = st24r w u kk s3 (.im (.tuple [.str "told", .tuple (msD js)])) s5 (.im (.int S)) s7 s8 (.im (.tuple (dN x))) (.im (.bool pb))⟩ [.im (.tuple (dN w)), .im (.tuple (dN u)), .im (kkD kk), s3, .im (.tuple [.str "told", .tuple (msD js)]), s5, .im (.int S), s7, s8, .im (.tuple (dN x)), .im (.bool pb), .im (.int ii), .im (mvD mv)] := by
      refine ⟨_, _, rfl, _, _, rfl, _, rfl, List.nodup_nil, iW x, mvD mv, by rw [dK_iW], by rw [iW_len]; omega, mv_form mv, ?_⟩
      rw [mvw]
      refine ⟨_, _, rfl, ?_⟩
      have e1 : optD (some (iW v)) = .tuple (dN v) := by show dK (iW v) = _; rw [dK_iW]
      rw [e1]
      show pr_lright24_1 _ [.im (.tuple (dN w)), .im (.tuple (dN u)), .im (kkD kk), s3, .im (.tuple [.str "told", .tuple (msD js)]), s5, .im (.int S), s7, s8, .im (.tuple (dN v)), .im (.bool pb), .im (.int ii), .im (mvD mv)]
      refine ⟨_, rfl, ?_⟩
      show if false = true then _ else _
      rw [if_neg (by decide)]
      cases kk with
      | none =>
        refine ⟨_, rfl, ?_⟩
        exact ⟨v, s2, rfl⟩
      | some ks =>
        refine ⟨_, rfl, ?_⟩
        show if true = true then _ else _
        rw [if_pos rfl]
        refine ⟨S0, _, rfl, ?_⟩
        show if decide (ii % S = 0) = true then _ else _
        by_cases c : ii % S = 0
        · rw [if_pos (decide_eq_true c)]
          refine ⟨_, _, rfl, _, _, rfl, _, rfl, List.nodup_nil, ks, v, rfl, (hk ks rfl).1, ?_⟩
          rw [fre_iff.mpr (pv.2 ks rfl)]
          refine ⟨_, rfl, ?_⟩
          exact ⟨v, s2, rfl⟩
        · rw [if_neg (by simp [c])]
          exact ⟨v, s2, rfl⟩
    refine ⟨_, _, rfl, _, rfl, List.nodup_nil, mv, rfl, _, rfl, ?_⟩
    cases pb with
    | false =>
      refine ⟨_, rfl, ?_⟩
      exact rest
    | true =>
      refine ⟨_, rfl, ?_⟩
      show if true = true then _ else _
      rw [if_pos rfl]
      rw [hp rfl mv mem] at gp
      rw [ex] at rest ⊢
      refine ⟨_, atI_of (j := 0) rfl rfl, [.str "gone", .str "come"], rfl, .inl ⟨nmS mv, [("gone" : Str), "come"], rfl, rfl, _, rfl, ?_⟩⟩
      show if decide (nmS mv ∈ ([("gone" : Str), "come"] : List Str)) = true then _ else _
      rw [gp]
      exact rest
  · rintro δ ⟨x, sx, rfl⟩
    rw [enD_len, show (msD js).length = js.length from List.length_map _, List.drop_length] at sx
    cases sx
    have sh : SeqAt.shaped (.tuple (dN u)) = true := by rw [← dK_iW]; exact shaped_dK _
    refine ⟨sh, sh, _, _, rfl, ?_⟩
    show Qp (.im (.bool (eqd (.tuple (dN u)) (.tuple (dN u))))) _
    rw [eqd_self sh]
    exact q
theorem hp_lright24 (as : List Sl) (Qp : QE) (Ep : EX) (h : psp_lright24 as Qp Ep) : p_lright24 (endsP as Qp) (as ++ List.replicate 10 .un) := by
  obtain ⟨w, u, kk, rfl, wl, ul, h10, hk, q⟩ := h
  have h20 : ∀ L ∈ w ++ u, L + 2 ≤ 20 := fun L hL => by have := h10 L hL; omega
  have z24 : (10000 : Nat) < sizeLine := by decide
  have nl := need_le (w := w ++ u)
  have n20 : needN (w ++ u) ≤ 20 := need_lt h20
  have nw : ∀ L ∈ w, L + 2 ≤ needN (w ++ u) := fun L hL => nl L (List.mem_append_left _ hL)
  have nu : ∀ L ∈ u, L + 2 ≤ needN (w ++ u) := fun L hL => nl L (List.mem_append_right _ hL)
  have n1 : needN w ≤ needN (w ++ u) := need_lt nw
  have n2 : needN u ≤ needN (w ++ u) := need_lt nu
  refine ⟨_, _, rfl, _, rfl, List.nodup_nil, w, rfl, by omega, _, _, rfl, _, rfl, List.nodup_nil, u, rfl, by omega, ?_⟩
  have em : (if ((needN u : Nat) : Int) > ((needN w : Nat) : Int) then ((needN u : Nat) : Int) else ((needN w : Nat) : Int)) = ((needN (w ++ u) : Nat) : Int) := by
    rw [need_app]
    split <;> omega
  refine ⟨_, _, rfl, ?_⟩
  show pr_lright24_11 _ (st24r w u kk (.im (.int (if ((needN u : Nat) : Int) > ((needN w : Nat) : Int) then ((needN u : Nat) : Int) else ((needN w : Nat) : Int)))) .un .un .un .un .un .un .un)
  rw [em]
  refine ⟨_, _, rfl, _, _, rfl, _, rfl, List.nodup_nil, needN (w ++ u), w, rfl, by omega, fun x hx => by have := nw x hx; omega, _, _, rfl, _, _, rfl, _, rfl, List.nodup_nil, needN (w ++ u), u, rfl, by omega, fun x hx => by have := nu x hx; omega, ?_⟩
  refine ⟨_, _, rfl, ?_⟩
  show pr_lright24_10 _ (st24r w u kk (.im (nD (needN (w ++ u)))) .un .un .un (.ow false (.lst (dN (ordN w u w)))) (.ow false (.lst (dN (ordN w u u)))) .un .un)
  have la : (ordN w u w).length = needN (w ++ u) := by unfold ordN; rw [goW_len, List.length_range]
  have lb : (ordN w u u).length = needN (w ++ u) := by unfold ordN; rw [goW_len, List.length_range]
  refine ⟨_, _, rfl, _, _, rfl, _, rfl, List.nodup_nil, w, u, rfl, by omega, by omega, h20, ?_⟩
  have nine : ∀ F : PyData, (∀ U : List Nat, U = (List.range (needN (w ++ u))).filter (fun i => decide ((ordN w u w).getD i 0 ≠ (ordN w u u).getD i 0)) → pr_lright24_8 (endsP [.im (.tuple (dN w)), .im (.tuple (dN u)), .im (kkD kk)] Qp) (st24r w u kk (.im (nD (needN (w ++ u)))) (.im F) (.ow false (.lst (dN U))) .un (.ow false (.lst (dN (ordN w u w)))) (.ow false (.lst (dN (ordN w u u)))) .un .un)) →
      pr_lright24_9 (endsP [.im (.tuple (dN w)), .im (.tuple (dN u)), .im (kkD kk)] Qp) (st24r w u kk (.im (nD (needN (w ++ u)))) (.im F) .un .un (.ow false (.lst (dN (ordN w u w)))) (.ow false (.lst (dN (ordN w u u)))) .un .un) := fun F k => by
    generalize needN (w ++ u) = N at *
    generalize ordN w u w = a at *
    generalize ordN w u u = b at *
    refine ⟨by show -(2 ^ 62) ≤ (N : Int); omega, by show (N : Int) < 2 ^ 62; omega, noPin1 (fun o => nofun), fun j acc δ => acc = dN (((List.range N).take j).filter fun i => decide (a.getD i 0 ≠ b.getD i 0)) ∧ δ = st24r w u kk (.im (nD N)) (.im F) .un .un (.ow false (.lst (dN a))) (.ow false (.lst (dN b))) .un .un, ⟨rfl, rfl⟩, ?_, ?_⟩
    · rintro j d acc δ hd ⟨rfl, rfl⟩
      obtain ⟨rfl, hj⟩ := rgD_get hd
      rw [Int.zero_add]
      have hj : j < N := by omega
      have er : (List.range N).take (j + 1) = (List.range N).take j ++ [j] := by
        rw [List.take_add_one, List.getElem?_eq_getElem (by rw [List.length_range]; exact hj), List.getElem_range]
        rfl
      refine ⟨_, atI_of rfl (dN_get (getD_of (i := j) (by omega))), _, atI_of rfl (dN_get (getD_of (i := j) (by omega))), _, rfl, ?_⟩
      show if (!decide (((a.getD j 0 : Nat) : Int) = ((b.getD j 0 : Nat) : Int))) = true then _ else _
      by_cases c : a.getD j 0 = b.getD j 0
      · rw [decide_eq_true (show ((a.getD j 0 : Nat) : Int) = ((b.getD j 0 : Nat) : Int) by omega), if_neg (by decide)]
        refine ⟨?_, rfl⟩
        rw [er, List.filter_append, show [j].filter (fun i => decide (a.getD i 0 ≠ b.getD i 0)) = [] from List.filter_eq_nil_iff.mpr fun i hi => by rw [List.mem_singleton.mp hi]; simpa using c, List.append_nil]
      · rw [decide_eq_false (show ¬ ((a.getD j 0 : Nat) : Int) = ((b.getD j 0 : Nat) : Int) by omega), if_pos (by decide)]
        refine ⟨_, _, rfl, ?_, ?_, rfl⟩
        · rw [dN_len]
          have := List.length_filter_le (fun i => decide (a.getD i 0 ≠ b.getD i 0)) ((List.range N).take j)
          rw [List.length_take, List.length_range] at this
          exact szN (m := 100) (by omega) (by decide)
        · rw [er, List.filter_append, show [j].filter (fun i => decide (a.getD i 0 ≠ b.getD i 0)) = [j] from List.filter_eq_self.mpr fun i hi => by rw [List.mem_singleton.mp hi]; simpa using c, dN_app]
          rfl
    · rintro acc δ ⟨rfl, rfl⟩
      refine ⟨_, _, rfl, ?_⟩
      refine k _ ?_
      rw [rgD_len]
      rw [List.take_of_length_le (by rw [List.length_range]; omega)]
  cases hf : fdiff (ordN w u w) (ordN w u u) with
  | some j =>
    refine ⟨_, _, rfl, ?_⟩
    refine nine _ fun U hU => ?_
    have hh : U.head? = some j := by
      rw [hU, List.head?_filter]
      unfold fdiff at hf
      rwa [la] at hf
    obtain ⟨U', rfl⟩ : ∃ U', U = j :: U' := by
      cases U with
      | nil => cases hh
      | cons x U' => cases hh; exact ⟨U', rfl⟩
    have shU : SeqAt.shaped (.list (dN (j :: U'))) = true := shaped_map nD 0 (by decide) _ fun x => ⟨rfl, Nat.le_refl _⟩
    refine ⟨shU, rfl, _, rfl, ?_⟩
    show if (!eqd (.list ((j :: U').map nD)) (.list [])) = true then _ else _
    rw [eqd_nilM]
    refine ⟨_, _, rfl, _, atI_of (j := 0) rfl rfl, _, _, rfl, _, rfl, List.nodup_nil, .tuple [.str "none", nD j], rfl, ?_, ?_, _, _, rfl, q⟩
    · show noLAll [PyData.str ("none" : Str), nD j] = true
      show (noL (.str ("none" : Str)) && (true && true)) = true
      rw [noL_none]; rfl
    · show 1 + (1 + 0) + 1 ≤ 1000000
      decide
  | none =>
    intro js jk
    refine ⟨_, _, rfl, ?_⟩
    refine nine _ fun U hU => ?_
    have hU0 : U = [] := by
      rw [hU, List.filter_eq_nil_iff]
      unfold fdiff at hf
      rw [la, List.find?_eq_none] at hf
      exact fun i hi => hf i hi
    subst hU0
    refine ⟨rfl, rfl, _, rfl, ?_⟩
    show if (!eqd (.list (([] : List Nat).map nD)) (.list [])) = true then _ else _
    rw [eqd_nilM, if_neg (by decide)]
    refine ⟨_, atI_of (j := 0) rfl rfl, _, rfl, ?_⟩
    show if (!decide (("told" : Str) = "told")) = true then _ else _
    rw [decide_eq_true (rfl : ("told" : Str) = "told")]
    refine ⟨_, atI_of (j := 1) rfl rfl, _, rfl, _, rfl, ?_⟩
    rw [show isD "tuple" (PyData.tuple (msD js)) = true from rfl]
    refine ⟨_, _, rfl, _, rfl, List.nodup_nil, w, rfl, by omega, by omega, _, rfl, ?_⟩
    cases c1 : sgl (List.range (needN w)) w with
    | false =>
      refine ⟨_, _, rfl, ?_⟩
      exact hp_way24 wl ul h10 hk jk (fun z => by cases z) q
    | true =>
      refine ⟨_, _, rfl, _, rfl, List.nodup_nil, u, rfl, by omega, by omega, ?_⟩
      refine ⟨_, _, rfl, ?_⟩
      refine hp_way24 wl ul h10 hk jk (fun c2 => ?_) q
      have c1' : sgl (List.range (needN (w ++ u))) w = true := by
        rw [sgl_more (fun L hL => need_le L hL) n1]; exact c1
      have c2' : sgl (List.range (needN (w ++ u))) u = true := by
        rw [sgl_more (fun L hL => need_le L hL) n2]; exact c2
      intro m hm
      obtain ⟨h1, h2⟩ := jk.plain c1' c2' m hm
      cases m with
      | far => rfl
      | turn => rfl
      | gone => cases h1
      | come i k => exact absurd rfl (h2 i k)
theorem ltr_nn {w : List Int} (h : ∀ z ∈ w, 0 ≤ z) (i : Nat) : 0 ≤ ltr w i := by
  unfold ltr
  rw [List.getD_eq_getElem?_getD]
  cases e : w[i]? with
  | none => exact Int.le_refl _
  | some z => exact h z (List.mem_of_getElem? e)
theorem moveW_nn {w w' : List Int} {m : PyData} (hw : ∀ z ∈ w, 0 ≤ z) (h : moveW w m = some w') : ∀ z ∈ w', 0 ≤ z := by
  have ct : ∀ (i j : Nat) (M : List Int), (∀ z ∈ M, 0 ≤ z) → ∀ z ∈ w.take i ++ M ++ w.drop j, 0 ≤ z := fun i j M hM z hz => by
    rcases List.mem_append.mp hz with hz | hz
    · rcases List.mem_append.mp hz with hz | hz
      · exact hw z (List.mem_of_mem_take hz)
      · exact hM z hz
    · exact hw z (List.mem_of_mem_drop hz)
  have l := ltr_nn hw
  unfold moveW at h
  split at h
  · split at h
    · unfold comeW at h
      split at h
      · split at h
        · rename_i c1 c2
          obtain ⟨i, rfl, h1, h2⟩ := isWh_int c2
          cases h
          refine ct _ _ _ fun z hz => ?_
          simp only [List.mem_cons, List.not_mem_nil, or_false] at hz
          rcases hz with rfl | rfl <;> exact h1
        · cases h
      · cases h
    · cases h
  · split at h
    · split at h
      · unfold farW at h
        split at h
        · cases h
        · cases h
          refine ct _ _ _ fun z hz => ?_
          simp only [List.mem_cons, List.not_mem_nil, or_false] at hz
          rcases hz with rfl | rfl <;> exact l _
      · split at h
        · unfold turnW at h
          split at h
          · cases h
          · split at h
            · cases h
            · cases h
              refine ct _ _ _ fun z hz => ?_
              simp only [List.mem_cons, List.not_mem_nil, or_false] at hz
              rcases hz with rfl | rfl | rfl <;> exact l _
        · split at h
          · unfold goneW at h
            split at h
            · cases h
            · cases h
              intro z hz
              rcases List.mem_append.mp hz with hz | hz
              · exact hw z (List.mem_of_mem_take hz)
              · exact hw z (List.mem_of_mem_drop hz)
          · cases h
    · cases h
  · cases h
theorem nn_iW {w : List Int} (h : ∀ z ∈ w, 0 ≤ z) : w = iW (w.map Int.toNat) := by
  unfold iW
  rw [List.map_map]
  refine (List.map_id' w).symm.trans (List.map_congr_left fun x hx => ?_)
  have := h x hx
  show x = ((x.toNat : Nat) : Int)
  omega
theorem iW_nn (w : List Nat) : ∀ z ∈ iW w, 0 ≤ z := fun z hz => by
  obtain ⟨x, _, rfl⟩ := List.mem_map.mp hz
  exact Int.natCast_nonneg x
/-! ### _law_moved_on -/
-- DEF _law_moved_on N ['_law_deal_here', '_law_kinds', '_law_word_here', '_law_turn', '_law_move', '_law_behind', '_law_at', '_law_name'] calls ['_law_draw', '_law_behind_move', '_law_is_free'] takes []
def pr_lmoved24_1 : PSx :=
    pIf (pAnd (pT (pIs true (pVar 5) (pK .none))) (pT (pCall psp_lisfree (pCons (pFz (pVar 1)) (pCons (pFz (pVar 5)) (pNil))) noX))) (pSet 2 (pVar 5)) (pNext)
def pr_lmoved24_2 : PSx :=
    pSeq (pSet 5 (pCall psp_lbehind (pCons (pFz (pVar 2)) (pCons (pFz (pVar 4)) (pNil))) noX))
    (pr_lmoved24_1)
def pr_lmoved24_3 : PSx :=
    pSeq (pIf (pT (pEq false (pCall psp_draw (pCons (pVar 0) (pCons (pFz (pK (.int 2))) (pNil))) noX) (pK (.int 0)))) (pSet 4 (pTup (pCons (pK (.str "come")) (pCons (pVar 6) (pCons (pCall psp_draw (pCons (pVar 0) (pCons (pFz (pC (q2 fMax2) (pCons (pK (.int 1)) (pCons (pSub (pC (q1 fLen) (pCons (pVar 1) (pNil))) (pK (.int 1))) (pNil))))) (pNil))) noX) (pNil)))))) (pNext))
    (pr_lmoved24_2)
def pr_lmoved24_4 : PSx :=
    pSeq (pSet 4 (pTup (pCons (pVar 7) (pCons (pVar 6) (pNil)))))
    (pr_lmoved24_3)
def pb_lmoved24_5 : PSx :=
    pSeq (pPar [6, 7] (pCons (pCall psp_draw (pCons (pVar 0) (pCons (pFz (pAdd (pC (q1 fLen) (pCons (pVar 2) (pNil))) (pK (.int 1)))) (pNil))) noX) (pCons (pIx (pLst (pCons (pK (.str "far")) (pCons (pK (.str "turn")) (pCons (pK (.str "gone")) (pNil))))) (pCall psp_draw (pCons (pVar 0) (pCons (pFz (pK (.int 3))) (pNil))) noX)) (pNil))))
    (pr_lmoved24_4)
def pr_lmoved24_5 : PSx :=
    pRet (pVar 2)
def p_lmoved24 : PSx :=
    pSeq (pFor [3, 4, 5, 6, 7] (iRg (pCons (pCall psp_draw (pCons (pVar 0) (pCons (pFz (pK (.int 7))) (pNil))) noX) (pNil))) (gN 3) (pb_lmoved24_5))
    (pr_lmoved24_5)
def psp_lmoved24 : PSp := fun as Q _ => ∃ ks w : List Nat, as = [.ow true .deal, .im (.list (dN ks)), .im (.tuple (dN w))] ∧ 2 ≤ ks.length ∧ ks.length ≤ 10 ∧ wordOk true ks w ∧ w.length ≤ 48 ∧ ∀ v, wordOk true ks v → v.length ≤ w.length + 12 → Q (.im (.tuple (dN v))) [.ow true .deal, .un, .un]
abbrev st24m (ks x : List Nat) (s3 s4 s5 s6 s7 : Sl) : List Sl := [.ow true .deal, .im (.list (dN ks)), .im (.tuple (dN x)), s3, s4, s5, s6, s7]
theorem hp_lmoved24 (as : List Sl) (Qp : QE) (Ep : EX) (h : psp_lmoved24 as Qp Ep) : p_lmoved24 (endsP as Qp) (as ++ List.replicate 5 .un) := by
  obtain ⟨ks, w, rfl, k2, k10, wo, wl, q⟩ := h
  have z24 : (10000 : Nat) < sizeLine := by decide
  refine ⟨_, _, rfl, _, rfl, nd1 0, _, rfl, by decide, by decide, fun a ha => ?_⟩
  simp only [pk0]
  refine ⟨by omega, by omega, ?_⟩
  refine for_rg a rfl (fun i δ => ∃ x : List Nat, wordOk true ks x ∧ x.length ≤ w.length + 2 * i ∧ δ = st24m ks x .un .un .un .un .un) ⟨w, wo, by omega, rfl⟩ ?_ ?_
  · rintro i δ hi ⟨x, xo, xl, rfl⟩
    have el : (dN x).length = x.length := dN_len x
    have kl : (dN ks).length = ks.length := dN_len ks
    have x60 : x.length ≤ 60 := by omega
    have nxt : ∀ mv : PyData, FormM mv → ∀ (x6 x7 : PyData), pr_lmoved24_2 ⟨fun δ' => ∃ x : List Nat, wordOk true ks x ∧ x.length ≤ w.length + 2 * (i + 1) ∧ wipeT δ' [3, 4, 5, 6, 7] = st24m ks x .un .un .un .un .un, (endsP [.ow true .deal, .im (.list (dN ks)), .im (.tuple (dN w))] Qp).rt, fun δ' => pr_lmoved24_5 (endsP [.ow true .deal, .im (.list (dN ks)), .im (.tuple (dN w))] Qp) (wipeT δ' [3, 4, 5, 6, 7]), fun δ' => ∃ x : List Nat, wordOk true ks x ∧ x.length ≤ w.length + 2 * (i + 1) ∧ wipeT δ' [3, 4, 5, 6, 7] = st24m ks x .un .un .un .un .un⟩ (st24m ks x (.im (nD i)) (.im mv) .un (.im x6) (.im x7)) := fun mv fm x6 x7 => by
      refine ⟨_, _, rfl, _, _, rfl, _, rfl, List.nodup_nil, iW x, mv, by rw [dK_iW], by rw [iW_len]; omega, fm, ?_⟩
      cases cm : moveW (iW x) mv with
      | none => exact ⟨_, _, rfl, _, rfl, x, xo, by omega, rfl⟩
      | some w' =>
        have nn := nn_iW (moveW_nn (iW_nn x) cm)
        have ml := moveW_len cm
        rw [iW_len] at ml
        generalize w'.map Int.toNat = y at nn
        subst nn
        rw [iW_len] at ml
        have e1 : optD (some (iW y)) = .tuple (dN y) := by show dK (iW y) = _; rw [dK_iW]
        rw [e1]
        refine ⟨_, _, rfl, _, rfl, ?_⟩
        refine ⟨_, _, rfl, _, _, rfl, _, rfl, List.nodup_nil, ks, y, rfl, by omega, _, rfl, ?_⟩
        cases cf : fre ks y with
        | false => exact ⟨x, xo, by omega, rfl⟩
        | true => exact ⟨_, _, rfl, y, fre_iff.mp cf, by omega, rfl⟩
    refine ⟨_, _, rfl, _, rfl, nd1 0, _, rfl, ?_, ?_, fun b hb => ?_⟩
    · show (0 : Int) < ((dN x).length : Int) + 1
      omega
    · show ((dN x).length : Int) + 1 < 2 ^ 200
      exact Int.lt_of_le_of_lt (show ((dN x).length : Int) + 1 ≤ 100 by omega) (by decide)
    simp only [pk0]
    refine ⟨_, _, rfl, _, rfl, nd1 0, _, rfl, by decide, by decide, fun c hc => ?_⟩
    simp only [pk0]
    obtain ⟨s, hs, es⟩ : ∃ s, Nm s ∧ atI [PyData.str "far", .str "turn", .str "gone"] (c : Int) = some (.str s) := by
      match c, (show c < 3 by omega) with
      | 0, _ => exact ⟨_, .far, rfl⟩
      | 1, _ => exact ⟨_, .turn, rfl⟩
      | 2, _ => exact ⟨_, .gone, rfl⟩
    refine ⟨_, es, _, _, rfl, ?_⟩
    show pr_lmoved24_4 _ (st24m ks x (.im (nD i)) .un .un (.im (nD b)) (.im (.str s)))
    refine ⟨_, _, rfl, ?_⟩
    show pr_lmoved24_3 _ (st24m ks x (.im (nD i)) (.im (.tuple [.str s, nD b])) .un (.im (nD b)) (.im (.str s)))
    refine ⟨_, _, rfl, _, rfl, nd1 0, _, rfl, by decide, by decide, fun e he => ?_⟩
    simp only [pk0]
    refine ⟨_, rfl, ?_⟩
    show if decide ((e : Int) = 0) = true then _ else _
    by_cases c0 : (e : Int) = 0
    · rw [if_pos (decide_eq_true c0)]
      refine ⟨trivial, _, _, rfl, _, rfl, nd1 0, _, rfl, ?_, ?_, fun f hf => ?_⟩
      · show (0 : Int) < if ((dN ks).length : Int) - 1 > 1 then ((dN ks).length : Int) - 1 else 1
        split <;> omega
      · show (if ((dN ks).length : Int) - 1 > 1 then ((dN ks).length : Int) - 1 else 1) < 2 ^ 200
        refine Int.lt_of_le_of_lt (b := 100) ?_ (by decide)
        split <;> omega
      simp only [pk0]
      refine ⟨_, _, rfl, ?_⟩
      exact nxt _ (.come b f) _ _
    · rw [if_neg fun z => c0 (of_decide_eq_true z)]
      exact nxt _ (hs.form b) _ _
  · rintro δ ⟨x, xo, xl, rfl⟩
    exact ⟨_, _, rfl, q x xo (by omega)⟩
/-! ### law -/
-- DEF law N ['_law_script', '_law_deal_here', '_law_order_here', '_law_large', '_law_kinds', '_law_free', '_law_more', '_law_wide', '_law_some', '_law_one', '_law_other', '_law_first', '_law_second', '_law_by', '_law_k', '_law_turn'] calls ['_law_deal', '_law_mixed', '_law_draw', '_law_single', '_law_word', '_law_moved_on', '_law_letters', '_law_right', 'join_words'] takes ['cNoOrder']
def pe_law24_1 : PX :=
    pCall psp_draw (pCons (pVar 1) (pCons (pFz (pK (.int 5))) (pNil))) noX
def pe_law24_2 : PX :=
    pCall psp_llettersN (pCons (pVar 1) (pCons (pFz (pCall psp_draw (pCons (pVar 1) (pCons (pFz (pK (.int 9))) (pNil))) noX)) (pCons (pFz (pVar 7)) (pNil)))) noX
def pb_law24_3 : PSx :=
    pIf (pNot (pT (pCall psp_lright24 (pCons (pFz (pVar 11)) (pCons (pFz (pVar 12)) (pCons (pFz (pVar 13)) (pNil)))) noX))) (pRet (pK (.bool false))) (pNext)
def pr_law24_1 (cNoOrder : Addr) : PSx :=
    pRet (pAndV (pCall psp_lright24 (pCons (pFz (pVar 10)) (pCons (pFz (pVar 9)) (pCons (pFz (pK .none)) (pNil)))) noX) (pAndV (pCall psp_lright24 (pCons (pFz (pVar 5)) (pCons (pFz (pVar 6)) (pCons (pFz (pVar 4)) (pNil)))) noX) (pEq false (pCall (psp_joinw cNoOrder) (pCons (pFz (pTup (pNil))) (pCons (pFz (pTup (pNil))) (pNil))) noX) (pTup (pNil)))))
def pr_law24_2 (cNoOrder : Addr) : PSx :=
    pSeq (pFor [11, 12, 13] (iSeq (pTup (pCons (pTup (pCons (pVar 9) (pCons (pVar 10) (pCons (pK .none) (pNil))))) (pCons (pTup (pCons (pVar 5) (pCons (pVar 6) (pCons (pVar 4) (pNil))))) (pCons (pTup (pCons (pVar 6) (pCons (pVar 5) (pCons (pVar 4) (pNil))))) (pCons (pTup (pCons (pIx (pVar 8) (pK (.int 0))) (pCons (pIx (pVar 8) (pK (.int 1))) (pCons (pK .none) (pNil))))) (pNil))))))) (gT 3 (gsC (gN 11) (gsC (gN 12) (gsC (gN 13) (gsN))))) (pb_law24_3))
    (pr_law24_1 cNoOrder)
def pr_law24_3 (cNoOrder : Addr) : PSx :=
    pSeq (pSet 8 (pComp (iRg (pCons (pK (.int 2)) (pNil))) (gN 15) (pYes) (pe_law24_2) [15]))
    (pr_law24_2 cNoOrder)
def pr_law24_4 (cNoOrder : Addr) : PSx :=
    pSeq (pSet 7 (pAdd (pK (.int 1)) (pCall psp_draw (pCons (pVar 1) (pCons (pFz (pIx (pLst (pCons (pK (.int 5)) (pCons (pK (.int 9)) (pNil)))) (pCall psp_draw (pCons (pVar 1) (pCons (pFz (pK (.int 2))) (pNil))) noX))) (pNil))) noX)))
    (pr_law24_3 cNoOrder)
def pr_law24_5 (cNoOrder : Addr) : PSx :=
    pSeq (pSet 6 (pCall psp_lmoved24 (pCons (pVar 1) (pCons (pFz (pVar 4)) (pCons (pFz (pVar 5)) (pNil)))) noX))
    (pr_law24_4 cNoOrder)
def pr_law24_6 (cNoOrder : Addr) : PSx :=
    pSeq (pSet 5 (pCall psp_lword (pCons (pVar 1) (pCons (pFz (pVar 4)) (pCons (pFz (pCall psp_draw (pCons (pVar 1) (pCons (pFz (pIx (pLst (pCons (pK (.int 13)) (pCons (pK (.int 49)) (pNil)))) (pVar 3))) (pNil))) noX)) (pCons (pFz (pK (.bool true))) (pNil))))) noX))
    (pr_law24_5 cNoOrder)
def pr_law24_7 (cNoOrder : Addr) : PSx :=
    pSeq (pSet 4 (pComp (iRg (pCons (pAdd (pK (.int 2)) (pCall psp_draw (pCons (pVar 1) (pCons (pFz (pIx (pLst (pCons (pK (.int 5)) (pCons (pK (.int 9)) (pNil)))) (pVar 3))) (pNil))) noX)) (pNil))) (gN 14) (pYes) (pe_law24_1) [14]))
    (pr_law24_6 cNoOrder)
def pr_law24_8 (cNoOrder : Addr) : PSx :=
    pSeq (pSet 3 (pC (q1 fInt1) (pCons (pEq false (pCall psp_draw (pCons (pVar 1) (pCons (pFz (pK (.int 5))) (pNil))) noX) (pK (.int 0))) (pNil))))
    (pr_law24_7 cNoOrder)
def pr_law24_9 (cNoOrder : Addr) : PSx :=
    pSeq (pPar [9, 10] (pCons (pCall psp_lsingle (pCons (pVar 1) (pCons (pVar 2) (pNil))) noX) (pCons (pCall psp_lsingle (pCons (pVar 1) (pCons (pVar 2) (pNil))) noX) (pNil))))
    (pr_law24_8 cNoOrder)
def pr_law24_10 (cNoOrder : Addr) : PSx :=
    pSeq (pSet 2 (pCall psp_mixed (pCons (pVar 1) (pCons (pFz (pAdd (pK (.int 2)) (pCall psp_draw (pCons (pVar 1) (pCons (pFz (pK (.int 5))) (pNil))) noX))) (pNil))) noX))
    (pr_law24_9 cNoOrder)
def p_law24 (cNoOrder : Addr) : PSx :=
    pSeq (pSet 1 (pCall psp_deal (pCons (pVar 0) (pCons (pFz (pK (.int 0))) (pNil))) noX))
    (pr_law24_10 cNoOrder)
theorem nd12 : ([1, 2] : List Nat).Nodup := by decide
abbrev st24 (ns : List Int) (s2 s3 s4 s5 s6 s7 s8 s9 s10 : Sl) : List Sl := [.ow true (.scr ns), .ow false .deal, s2, s3, s4, s5, s6, s7, s8, s9, s10, .un, .un, .un, .un, .un]
/-- what is asked to be joined -/
def Ask24 (d : PyData) : Prop := ∃ (w u : List Nat) (kk : Option (List Nat)), d = .tuple [.tuple (dN w), .tuple (dN u), kkD kk] ∧ w.length ≤ 100 ∧ u.length ≤ 100 ∧ (∀ L ∈ w ++ u, L + 2 ≤ 10) ∧ (∀ ks, kk = some ks → ks.length ≤ 1000 ∧ wordOk true ks w ∧ wordOk true ks u)
theorem hp_end24 {cNoOrder : Addr} {Qp : QE} {ns : List Int} {s2 s3 s7 : Sl} {ks w u f v a b : List Nat} (k10 : ks.length ≤ 10) (wl : w.length ≤ 100) (ul : u.length ≤ 100) (fl : f.length ≤ 100) (vl : v.length ≤ 100) (al : a.length ≤ 100) (bl : b.length ≤ 100)
    (hw : ∀ L ∈ w, L + 2 ≤ 10) (hu : ∀ L ∈ u, L + 2 ≤ 10) (ha : ∀ L ∈ a, L + 2 ≤ 10) (hb : ∀ L ∈ b, L + 2 ≤ 10) (fo : wordOk true ks f) (vo : wordOk true ks v) (q : Qp (.im (.bool true)) [.ow true (.scr ns)]) :
    pr_law24_2 cNoOrder (endsP [.ow true (.scr ns)] Qp) (st24 ns s2 s3 (.im (.list (dN ks))) (.im (.tuple (dN f))) (.im (.tuple (dN v))) s7 (.ow false (.lst [.tuple (dN a), .tuple (dN b)])) (.im (.tuple (dN w))) (.im (.tuple (dN u)))) := by
  have hf : ∀ L ∈ f, L + 2 ≤ 10 := fun L hL => by have := wordOk_lt fo L hL; omega
  have hv : ∀ L ∈ v, L + 2 ≤ 10 := fun L hL => by have := wordOk_lt vo L hL; omega
  have jn : ∀ {x y : List Nat}, (∀ L ∈ x, L + 2 ≤ 10) → (∀ L ∈ y, L + 2 ≤ 10) → ∀ L ∈ x ++ y, L + 2 ≤ 10 := fun h1 h2 L hL => by
    rcases List.mem_append.mp hL with h | h
    · exact h1 L h
    · exact h2 L h
  have kn : ∀ {x y : List Nat}, ∀ ks', (none : Option (List Nat)) = some ks' → ks'.length ≤ 1000 ∧ wordOk true ks' x ∧ wordOk true ks' y := fun ks' e => by cases e
  have ky : ∀ {x y : List Nat}, wordOk true ks x → wordOk true ks y → ∀ ks', some ks = some ks' → ks'.length ≤ 1000 ∧ wordOk true ks' x ∧ wordOk true ks' y := fun h1 h2 ks' e => by
    cases e
    exact ⟨by omega, h1, h2⟩
  have hL : ∀ d ∈ [PyData.tuple [.tuple (dN w), .tuple (dN u), .none], .tuple [.tuple (dN f), .tuple (dN v), .list (dN ks)], .tuple [.tuple (dN v), .tuple (dN f), .list (dN ks)], .tuple [.tuple (dN a), .tuple (dN b), .none]], Ask24 d := fun d hd => by
    simp only [List.mem_cons, List.not_mem_nil, or_false] at hd
    rcases hd with rfl | rfl | rfl | rfl
    · exact ⟨w, u, none, rfl, wl, ul, jn hw hu, kn⟩
    · exact ⟨f, v, some ks, rfl, fl, vl, jn hf hv, ky fo vo⟩
    · exact ⟨v, f, some ks, rfl, vl, fl, jn hv hf, ky vo fo⟩
    · exact ⟨a, b, none, rfl, al, bl, jn ha hb, kn⟩
  refine ⟨_, atI_of (j := 0) rfl rfl, _, atI_of (j := 1) rfl rfl, _, _, _, rfl, rfl, ?_⟩
  refine ⟨fun i δ => δ = st24 ns s2 s3 (.im (.list (dN ks))) (.im (.tuple (dN f))) (.im (.tuple (dN v))) s7 (.ow false (.lst [.tuple (dN a), .tuple (dN b)])) (.im (.tuple (dN w))) (.im (.tuple (dN u))), rfl, ?_, ?_⟩
  · rintro i d δ hd rfl
    obtain ⟨x, y, kk, rfl, h1, h2, h3, h4⟩ := hL d (List.mem_of_getElem? hd)
    refine ⟨rfl, rfl, ?_⟩
    refine ⟨_, _, rfl, _, _, rfl, _, _, rfl, _, rfl, List.nodup_nil, x, y, kk, rfl, h1, h2, h3, h4, _, rfl, ?_⟩
    exact rfl
  · rintro δ rfl
    refine ⟨_, _, rfl, _, _, rfl, _, _, rfl, _, rfl, List.nodup_nil, u, w, none, rfl, ul, wl, jn hu hw, kn, _, rfl, ?_⟩
    refine ⟨_, _, rfl, _, _, rfl, _, _, rfl, _, rfl, List.nodup_nil, f, v, some ks, rfl, fl, vl, jn hf hv, ky fo vo, _, rfl, ?_⟩
    refine ⟨_, _, rfl, _, _, rfl, _, rfl, List.nodup_nil, [], [], rfl, by decide, by decide, nofun, ?_⟩
    show jnQ _ [] [] _ _ none
    intro js jk
    have j0 := jk.len
    have je : js = [] := List.length_eq_zero_iff.mp (by simpa using j0)
    subst je
    refine ⟨rfl, rfl, _, _, rfl, ?_⟩
    show Qp (.im (.bool (eqd (.tuple []) (.tuple [])))) _
    rw [eqd_self (d := .tuple []) rfl]
    exact q
theorem hp_law24 (cNoOrder : Addr) (as : List Sl) (Qp : QE) (Ep : EX) (h : psp_law as Qp Ep) : p_law24 cNoOrder (endsP as Qp) (as ++ List.replicate 15 .un) := by
  obtain ⟨ns, rfl, hn, q⟩ := h
  refine ⟨_, _, rfl, _, rfl, nd1 0, 0, ns, rfl, by omega, by omega, hn, _, _, rfl, ?_⟩
  show pr_law24_10 cNoOrder _ (st24 ns .un .un .un .un .un .un .un .un .un)
  refine ⟨_, _, rfl, _, rfl, nd1 1, _, rfl, by decide, by decide, fun a ha => ?_⟩
  simp only [pk1]
  refine ⟨_, _, rfl, _, rfl, nd1 1, 2 + a, congrArg (fun z => [Sl.ow true .deal, .im (.int z)]) (show (2 : Int) + (a : Int) = ((2 + a : Nat) : Int) by omega), by omega, fun os hp => ?_⟩
  have ol := perm_len hp
  refine ⟨_, _, rfl, ?_⟩
  show pr_law24_9 cNoOrder _ (st24 ns (.ow false (.lst (dN os))) .un .un .un .un .un .un .un .un)
  refine ⟨_, rfl, nd12, os, rfl, by rw [ol]; exact hp, by omega, fun w wl hw sw gw => ?_⟩
  refine ⟨_, rfl, nd12, os, rfl, by rw [ol]; exact hp, by omega, fun u ul hu su gu => ?_⟩
  refine ⟨_, _, rfl, ?_⟩
  show pr_law24_8 cNoOrder _ (st24 ns (.ow false (.lst (dN os))) .un .un .un .un .un .un (.im (.tuple (dN w))) (.im (.tuple (dN u))))
  refine ⟨_, _, rfl, _, rfl, nd1 1, _, rfl, by decide, by decide, fun b hb => ⟨_, _, rfl, ?_⟩⟩
  simp only [pk1]
  obtain ⟨lg, elg, hlg⟩ : ∃ lg : Nat, (if decide ((b : Int) = 0) = true then (1 : Int) else 0) = (lg : Int) ∧ lg < 2 := by
    split
    · exact ⟨1, rfl, by omega⟩
    · exact ⟨0, rfl, by omega⟩
  show pr_law24_7 cNoOrder _ (st24 ns (.ow false (.lst (dN os))) (.im (.int (if decide ((b : Int) = 0) = true then (1 : Int) else 0))) .un .un .un .un .un (.im (.tuple (dN w))) (.im (.tuple (dN u))))
  rw [elg]
  have s5 : ∀ k : Nat, k < 2 → ∃ n : Int, atI [PyData.int 5, .int 9] (k : Int) = some (.int n) ∧ 5 ≤ n ∧ n ≤ 9 := fun k hk => by
    match k, hk with
    | 0, _ => exact ⟨5, rfl, by omega, by omega⟩
    | 1, _ => exact ⟨9, rfl, by omega, by omega⟩
  have s13 : ∀ k : Nat, k < 2 → ∃ n : Int, atI [PyData.int 13, .int 49] (k : Int) = some (.int n) ∧ 13 ≤ n ∧ n ≤ 49 := fun k hk => by
    match k, hk with
    | 0, _ => exact ⟨13, rfl, by omega, by omega⟩
    | 1, _ => exact ⟨49, rfl, by omega, by omega⟩
  obtain ⟨n5, e5, h5, h9⟩ := s5 lg hlg
  refine ⟨_, e5, _, _, rfl, _, rfl, nd1 1, _, rfl, by omega, Int.lt_of_le_of_lt h9 (by decide), fun c hc => ?_⟩
  simp only [pk1]
  refine ⟨by omega, by omega, noPin1 (fun o => nofun), fun j acc δ => ∃ ks : List Nat, acc = dN ks ∧ ks.length = j ∧ δ = st24 ns (.ow false (.lst (dN os))) (.im (.int (lg : Int))) .un .un .un .un .un (.im (.tuple (dN w))) (.im (.tuple (dN u))), ⟨[], rfl, rfl, rfl⟩, ?_, ?_⟩
  · rintro j d acc δ hd ⟨ks, rfl, kl, rfl⟩
    obtain ⟨rfl, hj⟩ := rgD_get hd
    refine ⟨_, _, rfl, _, rfl, nd1 1, _, rfl, by decide, by decide, fun x hx => ?_⟩
    simp only [pk1]
    refine ⟨_, _, rfl, ?_, ks ++ [x], by rw [dN_app]; rfl, by simp [kl], rfl⟩
    rw [dN_len]
    exact szN (m := 100) (by omega) (by decide)
  rintro acc δ ⟨ks, rfl, kl, rfl⟩
  rw [rgD_len] at kl
  refine ⟨_, _, rfl, ?_⟩
  show pr_law24_6 cNoOrder _ (st24 ns (.ow false (.lst (dN os))) (.im (.int (lg : Int))) (.ow false (.lst (dN ks))) .un .un .un .un (.im (.tuple (dN w))) (.im (.tuple (dN u))))
  obtain ⟨n13, e13, h13, h49⟩ := s13 lg hlg
  refine ⟨_, _, rfl, _, e13, _, _, rfl, _, rfl, nd1 1, _, rfl, by omega, Int.lt_of_le_of_lt h49 (by decide), fun d hd => ?_⟩
  simp only [pk1]
  refine ⟨_, _, rfl, _, _, rfl, _, rfl, nd1 1, ks, d, true, _, rfl, rfl, by omega, by omega, fun f fo fl => ?_⟩
  refine ⟨_, _, rfl, ?_⟩
  show pr_law24_5 cNoOrder _ (st24 ns (.ow false (.lst (dN os))) (.im (.int (lg : Int))) (.im (.list (dN ks))) (.im (.tuple (dN f))) .un .un .un (.im (.tuple (dN w))) (.im (.tuple (dN u))))
  refine ⟨_, _, rfl, _, _, rfl, _, rfl, nd1 1, ks, f, rfl, by omega, by omega, fo, by omega, fun v vo vl => ⟨_, _, rfl, ?_⟩⟩
  show pr_law24_4 cNoOrder _ (st24 ns (.ow false (.lst (dN os))) (.im (.int (lg : Int))) (.im (.list (dN ks))) (.im (.tuple (dN f))) (.im (.tuple (dN v))) .un .un (.im (.tuple (dN w))) (.im (.tuple (dN u))))
  refine ⟨_, _, rfl, _, rfl, nd1 1, _, rfl, by decide, by decide, fun e he => ?_⟩
  simp only [pk1]
  obtain ⟨n9, e9, g5, g9⟩ := s5 e (by omega)
  refine ⟨_, e9, _, _, rfl, _, rfl, nd1 1, _, rfl, by omega, Int.lt_of_le_of_lt g9 (by decide), fun g hg => ?_⟩
  simp only [pk1]
  refine ⟨_, _, rfl, ?_⟩
  show pr_law24_3 cNoOrder _ (st24 ns (.ow false (.lst (dN os))) (.im (.int (lg : Int))) (.im (.list (dN ks))) (.im (.tuple (dN f))) (.im (.tuple (dN v))) (.im (.int (1 + (g : Int)))) .un (.im (.tuple (dN w))) (.im (.tuple (dN u))))
  refine ⟨by decide, by decide, noPin1 (fun o => nofun), fun j acc δ => ∃ ws : List (List Nat), acc = ws.map (fun w => PyData.tuple (dN w)) ∧ ws.length = j ∧ (∀ x ∈ ws, x.length ≤ 100 ∧ ∀ L ∈ x, L + 2 ≤ 10) ∧ δ = st24 ns (.ow false (.lst (dN os))) (.im (.int (lg : Int))) (.im (.list (dN ks))) (.im (.tuple (dN f))) (.im (.tuple (dN v))) (.im (.int (1 + (g : Int)))) .un (.im (.tuple (dN w))) (.im (.tuple (dN u))), ⟨[], rfl, rfl, nofun, rfl⟩, ?_, ?_⟩
  · rintro j d acc δ hd ⟨ws, rfl, kl, hx, rfl⟩
    obtain ⟨rfl, hj⟩ := rgD_get hd
    have hj : j < 2 := hj
    refine ⟨_, _, rfl, _, rfl, nd1 1, _, rfl, by decide, by decide, fun x hx9 => ?_⟩
    simp only [pk1]
    refine ⟨_, _, rfl, _, _, rfl, _, rfl, nd1 1, x, 1 + g, congrArg (fun z => [Sl.ow true .deal, .im (nD x), .im (.int z)]) (show (1 : Int) + (g : Int) = ((1 + g : Nat) : Int) by omega), by omega, by omega, by omega, fun y yl yb => ?_⟩
    refine ⟨_, _, rfl, ?_, ws ++ [y], by rw [List.map_append]; rfl, by simp [kl], ?_, rfl⟩
    · rw [List.length_map]
      exact szN (m := 100) (by omega) (by decide)
    · intro z hz
      rcases List.mem_append.mp hz with h1 | h1
      · exact hx z h1
      · rw [List.mem_singleton.mp h1]
        exact ⟨by omega, fun L hL => by have := yb L hL; omega⟩
  rintro acc δ ⟨ws, rfl, kl, hx, rfl⟩
  have kl : ws.length = 2 := kl
  obtain ⟨x, y, rfl⟩ : ∃ x y, ws = [x, y] := by
    match ws, kl with
    | [x, y], _ => exact ⟨x, y, rfl⟩
  refine ⟨_, _, rfl, ?_⟩
  have h1 := hx x (by simp)
  have h2 := hx y (by simp)
  exact hp_end24 (by omega) (by omega) (by omega) (by omega) (by omega) h1.1 h2.1 (fun L hL => by have := hw L hL; omega) (fun L hL => by have := hu L hL; omega) h1.2 h2.2 fo vo q
end Pv
namespace Wf
open PySem PySem.Spec L2 Pv LamX NdefX
/-- the rows of the linked text -/
def topS (i : Nat) : Stmt := PySem.Challenge.pw_wherefrom_k24_words_joined.main.body.getD i (.Pass ⟨0, 0, 0, 0⟩)
def clsS (i : Nat) : Stmt := match topS i with
  | .ClassDef _ _ _ body _ _ _ _ _ _ _ => body.getD 0 (.Pass ⟨0, 0, 0, 0⟩)
  | x => x
section
variable {P : Program} {w : World} {K : PySem.W.Frag} {mg : Str → Option Value} {base : Heap} {f : Addr} {fd : FuncData} {cNoOrder cNoMove cNoPassing cRoadError : Addr} {T : List NTab}
abbrev s_init_NoMove : Stmt := clsS 4
theorem sc_init_NoMove : FnScope ["self", "at"] ["self", "at"] (defScope s_init_NoMove) := ⟨rfl, rfl, rfl, by decide +kernel, rfl, by decide +kernel, by decide +kernel⟩
theorem ok_init_NoMove (F : FunD K "__init__" "NoMove.__init__" (defArgs s_init_NoMove) (defBody s_init_NoMove) (defScope s_init_NoMove) [] [] f fd) (BC : BaseC K mg "RoadError" cRoadError) (O : OexC K cNoMove) (n0 : PySem.W.findIn K (.ref cNoMove) "at" = some none) : FnOk P w K mg base CX0 1 f fd ["self", "at"] (sp_init1 K cNoMove "at") := by
  refine F.ok sc_init_NoMove (fun vs H Q E h => ?_) (fun cdv A outer s H vs Q E hr h => ⟨_, PSs.nox ?_, pure_init1 (txt := "no such move") O n0 vs H Q E h⟩)
  · obtain ⟨_, _, rfl, _⟩ := h
    rfl
  · exact pss_cons (ps_expr (pe_binit (pl := _) BC (by rfl) (pa_cons (pv 0) (pa_cons (pe_str) (pa_nil))))) (pss_one (ps_ost (pv 0) (pv 1)))
abbrev s_init_NoPassing : Stmt := clsS 2
theorem sc_init_NoPassing : FnScope ["self", "at"] ["self", "at"] (defScope s_init_NoPassing) := ⟨rfl, rfl, rfl, by decide +kernel, rfl, by decide +kernel, by decide +kernel⟩
theorem ok_init_NoPassing (F : FunD K "__init__" "NoPassing.__init__" (defArgs s_init_NoPassing) (defBody s_init_NoPassing) (defScope s_init_NoPassing) [] [] f fd) (BC : BaseC K mg "RoadError" cRoadError) (O : OexC K cNoPassing) (n0 : PySem.W.findIn K (.ref cNoPassing) "at" = some none) : FnOk P w K mg base CX0 1 f fd ["self", "at"] (sp_init1 K cNoPassing "at") := by
  refine F.ok sc_init_NoPassing (fun vs H Q E h => ?_) (fun cdv A outer s H vs Q E hr h => ⟨_, PSs.nox ?_, pure_init1 (txt := "no passing there") O n0 vs H Q E h⟩)
  · obtain ⟨_, _, rfl, _⟩ := h
    rfl
  · exact pss_cons (ps_expr (pe_binit (pl := _) BC (by rfl) (pa_cons (pv 0) (pa_cons (pe_str) (pa_nil))))) (pss_one (ps_ost (pv 0) (pv 1)))
abbrev s_init_NoOrder : Stmt := clsS 3
theorem sc_init_NoOrder : FnScope ["self", "at"] ["self", "at"] (defScope s_init_NoOrder) := ⟨rfl, rfl, rfl, by decide +kernel, rfl, by decide +kernel, by decide +kernel⟩
theorem ok_init_NoOrder (F : FunD K "__init__" "NoOrder.__init__" (defArgs s_init_NoOrder) (defBody s_init_NoOrder) (defScope s_init_NoOrder) [] [] f fd) (BC : BaseC K mg "RoadError" cRoadError) (O : OexC K cNoOrder) (n0 : PySem.W.findIn K (.ref cNoOrder) "at" = some none) : FnOk P w K mg base CX0 1 f fd ["self", "at"] (sp_init1 K cNoOrder "at") := by
  refine F.ok sc_init_NoOrder (fun vs H Q E h => ?_) (fun cdv A outer s H vs Q E hr h => ⟨_, PSs.nox ?_, pure_init1 (txt := "no such order") O n0 vs H Q E h⟩)
  · obtain ⟨_, _, rfl, _⟩ := h
    rfl
  · exact pss_cons (ps_expr (pe_binit (pl := _) BC (by rfl) (pa_cons (pv 0) (pa_cons (pe_str) (pa_nil))))) (pss_one (ps_ost (pv 0) (pv 1)))
abbrev s_draw : Stmt := topS 31
abbrev N_draw : List Str := ["_law_deal_here", "_law_many", "_law_one", "_law_other", "_law_digit"]
theorem sc_draw : FnScope N_draw ["_law_deal_here", "_law_many"] (defScope s_draw) := ⟨rfl, rfl, rfl, by decide +kernel, rfl, by decide +kernel, by decide +kernel⟩
theorem ok_draw (F : FnP K "_law_draw" s_draw f fd) (B : Bl mg)  : FnOk P w K mg base CX0 1 f fd ["_law_deal_here", "_law_many"] sp_draw := by
  refine F.ok sc_draw (fun vs H Q E h => ?_) (fun cdv A outer s H vs Q E hr h => ⟨_, PSs.nox ?_, pure_draw (K := K) vs H Q E h⟩)
  · obtain ⟨_, _, _, rfl, _⟩ := h
    rfl
  · exact pss_cons (ps_while PassesOwn.never (PW.pt (pw_and (pt_cmpR op_eq (pe_dget (hu_of hr) (pv 0) (pe_str) (fun _ _ => rfl)) (pe_int) (nomark _)) (pw_and1 (pt_cmpR op_gt (pe_callB call_len (by rfl) B.b_len (by decide +kernel) (pa_cons (pe_dget (hu_of hr) (pv 0) (pe_str) (fun _ _ => rfl)) (pa_nil))) (pe_int) (nomark _))))) (pss_one (ps_dput (hu_of hr) (pv 0) (pe_str) (pe_bm0 PySem.F.plainAttrs_list PySem.F.slot_list_pop PySem.F.type_list_pop mt_pop (pe_dget (hu_of hr) (pv 0) (pe_str) (fun _ _ => rfl))) rfl)))
          (pss_cons (ps_if (pt_cmpR op_gt (pe_dget (hu_of hr) (pv 0) (pe_str) (fun _ _ => rfl)) (pe_int) (nomark _)) (pss_cons (ps_set (i := 4) sc_draw.nd rfl (by first | exact Or.inl rfl | exact Or.inr rfl) (pe_op op_mod (pe_dget (hu_of hr) (pv 0) (pe_str) (fun _ _ => rfl)) (pv 1)))
          (pss_cons (ps_dput (hu_of hr) (pv 0) (pe_str) (pe_op op_fdivW (pe_dget (hu_of hr) (pv 0) (pe_str) (fun _ _ => rfl)) (pv 1)) rfl)
          (pss_one (ps_ret (pv 4))))) (pss_nil))
          (pss_cons (ps_dput (hu_of hr) (pv 0) (pe_str) (pe_op op_add (pe_dget (hu_of hr) (pv 0) (pe_str) (fun _ _ => rfl)) (pe_int)) rfl)
          (pss_cons (ps_set (i := 2) sc_draw.nd rfl (by first | exact Or.inl rfl | exact Or.inr rfl) (pe_op op_mod (pe_op op_mul (pe_op op_add (pe_dget (hu_of hr) (pv 0) (pe_str) (fun _ _ => rfl)) (pe_op op_mul (pe_int) (pe_dget (hu_of hr) (pv 0) (pe_str) (fun _ _ => rfl)))) (pe_int)) (pe_int)))
          (pss_cons (ps_set (i := 3) sc_draw.nd rfl (by first | exact Or.inl rfl | exact Or.inr rfl) (pe_op op_mod (pe_op op_add (pe_op op_add (pe_op op_mul (pv 2) (pv 2)) (pe_op op_mul (pe_int) (pe_dget (hu_of hr) (pv 0) (pe_str) (fun _ _ => rfl)))) (pe_dget (hu_of hr) (pv 0) (pe_str) (fun _ _ => rfl))) (pe_int)))
          (pss_one (ps_ret (pe_op op_mod (pe_op op_fdiv (pe_op op_add (pe_op op_mul (pe_op op_mod (pe_op op_mul (pv 3) (pv 3)) (pe_int)) (pe_int)) (pv 2)) (pe_int)) (pv 1))))))))
abbrev s_deal : Stmt := topS 30
abbrev N_deal : List Str := ["_law_script", "_law_base", "_law_some", "_law_seed", "_law_one"]
theorem sc_deal : FnScope N_deal ["_law_script", "_law_base"] (defScope s_deal) := ⟨rfl, rfl, rfl, by decide +kernel, rfl, by decide +kernel, by decide +kernel⟩
theorem ok_deal (F : FnP K "_law_deal" s_deal f fd) (B : Bl mg)  : FnOk P w K mg base CX0 1 f fd ["_law_script", "_law_base"] (sp_deal K) := by
  refine F.ok sc_deal (fun vs H Q E h => ?_) (fun cdv A outer s H vs Q E hr h => ⟨_, PSs.nox ?_, pure_deal (K := K) vs H Q E h⟩)
  · obtain ⟨_, _, _, rfl, _⟩ := h
    rfl
  · exact pss_cons (ps_setLc (i := 2) (own := [("_law_one", 4)]) rfl sc_deal.nd rfl rfl (sw_true rfl rfl rfl (by decide +kernel)) (pi_list (pe_slice sl_list (pv 0) (po_some (pv 1)) (po_some (pe_int)))) (blkOk_by (N := N_deal) (sc := defScope s_deal) (by decide +kernel)) (fun _ _ _ _ _ => pg_name (i := 4) sc_deal.nd rfl (by first | exact Or.inl rfl | exact Or.inr rfl)) (fun _ _ _ _ _ => pts_nil) (fun _ _ _ _ _ => pe_callB (call_max2 rfl) (by rfl) B.b_max (by decide +kernel) (pa_cons (pv 4) (pa_cons (pe_op op_sub (pe_int) (pv 4)) (pa_nil)))))
          (pss_cons (ps_set (i := 3) sc_deal.nd rfl (by first | exact Or.inl rfl | exact Or.inr rfl) (pe_op op_add (pe_int) (pe_op op_mul (pe_int) (pv 1))))
          (pss_cons (ps_for PassesOwn.never rfl (pi_list (pv 2)) (pg_name (i := 4) sc_deal.nd rfl (by first | exact Or.inl rfl | exact Or.inr rfl)) (pss_one (ps_set (i := 3) sc_deal.nd rfl (by first | exact Or.inl rfl | exact Or.inr rfl) (pe_op op_mod (pe_op op_add (pe_op op_add (pe_op op_mul (pv 3) (pe_int)) (pe_op op_mod (pv 4) (pe_int))) (pe_int)) (pe_int)))))
          (pss_one (ps_ret (pe_disp (pps_cons (pe_str) (pe_op op_add (pv 3) (pe_int)) (pps_cons (pe_str) (pe_int) (pps_cons (pe_str) (pe_int) (pps_cons (pe_str) (Wf.pe_lstRev rfl (by rfl) B.b_list (by rfl) B.b_reversed (pe_lc (own := [("_law_one", 4)]) rfl sc_deal.nd (pi_list (pv 2)) (blkOk_by (N := N_deal) (sc := defScope s_deal) (by decide +kernel)) (fun _ _ _ _ _ => pg_name (i := 4) sc_deal.nd rfl (by first | exact Or.inl rfl | exact Or.inr rfl)) (fun _ _ _ _ _ => pts_one (pt_cmpR op_ge (pv 4) (pe_op op_pow (pe_int) (pe_int)) (nomark _))) (fun _ _ _ _ _ => pv 4))) (pps_nil))))) (by rfl) (by rfl) (fun z => by cases z) (by decide))))))
abbrev s_alike : Stmt := topS 32
abbrev N_alike : List Str := ["_law_found", "_law_due", "_law_left", "_law_one", "_law_other"]
theorem sc_alike : FnScope N_alike ["_law_found", "_law_due"] (defScope s_alike) := ⟨rfl, rfl, rfl, by decide +kernel, rfl, by decide +kernel, by decide +kernel⟩
theorem ok_alike (F : FnP K "_law_alike" s_alike f fd) (B : Bl mg)  : FnOk P w K mg base CX0 1 f fd ["_law_found", "_law_due"] (sp_alike K) := by
  refine F.ok sc_alike (fun vs H Q E h => ?_) (fun cdv A outer s H vs Q E hr h => ⟨_, PSs.nox ?_, pure_alike (K := K) vs H Q E h⟩)
  · obtain ⟨_, _, _, rfl, _⟩ := h
    rfl
  · exact pss_cons (ps_set (i := 2) sc_alike.nd rfl (by first | exact Or.inl rfl | exact Or.inr rfl) (pe_lst (pa_cons (pe_tup (pa_cons (pv 0) (pa_cons (pv 1) (pa_nil)))) (pa_nil))))
          (pss_cons (ps_while PassesOwn.never (pt_cmpR op_gt (pe_callB call_len (by rfl) B.b_len (by decide +kernel) (pa_cons (pv 2) (pa_nil))) (pe_int) (nomark _)) (pss_cons (ps_asg (pe_bm0 PySem.F.plainAttrs_list PySem.F.slot_list_pop PySem.F.type_list_pop mt_pop (pv 2)) (pg_tup rfl (pgs_cons (pg_name (i := 3) sc_alike.nd rfl (by first | exact Or.inl rfl | exact Or.inr rfl)) (pgs_cons (pg_name (i := 4) sc_alike.nd rfl (by first | exact Or.inl rfl | exact Or.inr rfl)) (pgs_nil)))))
          (pss_cons (ps_if (PW.pt (pw_or (pt_cmpR op_ne (pe_callB call_isi (by rfl) B.b_isinstance (by decide +kernel) (pa_cons (pv 3) (pa_cons (pe_bltn (v := .ty "bool") (by rfl) B.b_bool (by decide +kernel) rfl) (pa_nil)))) (pe_callB call_isi (by rfl) B.b_isinstance (by decide +kernel) (pa_cons (pv 4) (pa_cons (pe_bltn (v := .ty "bool") (by rfl) B.b_bool (by decide +kernel) rfl) (pa_nil)))) (nomark _)) (pw_or1 (pt_cmpR op_ne (pe_callB call_isi (by rfl) B.b_isinstance (by decide +kernel) (pa_cons (pv 3) (pa_cons (pe_bltn (v := .ty "tuple") (by rfl) B.b_tuple (by decide +kernel) rfl) (pa_nil)))) (pe_callB call_isi (by rfl) B.b_isinstance (by decide +kernel) (pa_cons (pv 4) (pa_cons (pe_bltn (v := .ty "tuple") (by rfl) B.b_tuple (by decide +kernel) rfl) (pa_nil)))) (nomark _))))) (pss_one (ps_ret (pe_bl))) (pss_nil))
          (pss_cons (ps_if (PW.pt (pw_or (pt_cmpR op_ne (pe_callB call_isi (by rfl) B.b_isinstance (by decide +kernel) (pa_cons (pv 3) (pa_cons (pe_bltn (v := .ty "list") (by rfl) B.b_list (by decide +kernel) rfl) (pa_nil)))) (pe_callB call_isi (by rfl) B.b_isinstance (by decide +kernel) (pa_cons (pv 4) (pa_cons (pe_bltn (v := .ty "list") (by rfl) B.b_list (by decide +kernel) rfl) (pa_nil)))) (nomark _)) (pw_or1 (pt_cmpR op_ne (pe_callB call_isi (by rfl) B.b_isinstance (by decide +kernel) (pa_cons (pv 3) (pa_cons (pe_bltn (v := .ty "str") (by rfl) B.b_str (by decide +kernel) rfl) (pa_nil)))) (pe_callB call_isi (by rfl) B.b_isinstance (by decide +kernel) (pa_cons (pv 4) (pa_cons (pe_bltn (v := .ty "str") (by rfl) B.b_str (by decide +kernel) rfl) (pa_nil)))) (nomark _))))) (pss_one (ps_ret (pe_bl))) (pss_nil))
          (pss_cons (ps_if (pt_cmpR op_ne (pe_callB call_isi (by rfl) B.b_isinstance (by decide +kernel) (pa_cons (pv 3) (pa_cons (pe_bltn (v := .ty "int") (by rfl) B.b_int (by decide +kernel) rfl) (pa_nil)))) (pe_callB call_isi (by rfl) B.b_isinstance (by decide +kernel) (pa_cons (pv 4) (pa_cons (pe_bltn (v := .ty "int") (by rfl) B.b_int (by decide +kernel) rfl) (pa_nil)))) (nomark _)) (pss_one (ps_ret (pe_bl))) (pss_nil))
          (pss_one (ps_if (pt_val (pe_callB call_isiT (by rfl) B.b_isinstance (by decide +kernel) (pa_cons (pv 4) (pa_cons (pe_tup (pa_cons (pe_bltn (v := .ty "tuple") (by rfl) B.b_tuple (by decide +kernel) rfl) (pa_cons (pe_bltn (v := .ty "list") (by rfl) B.b_list (by decide +kernel) rfl) (pa_nil)))) (pa_nil))))) (pss_cons (ps_if (pt_cmpR op_ne (pe_callB call_len (by rfl) B.b_len (by decide +kernel) (pa_cons (pv 3) (pa_nil))) (pe_callB call_len (by rfl) B.b_len (by decide +kernel) (pa_cons (pv 4) (pa_nil))) (nomark _)) (pss_one (ps_ret (pe_bl))) (pss_nil))
          (pss_one (ps_expr (pe_bm PySem.F.plainAttrs_list PySem.F.slot_list_extend PySem.F.type_list_extend mt_extend (pv 2) (pa_cons (Wf.pe_lstZip rfl (by rfl) B.b_list (by rfl) B.b_zip (pa_cons (pv 3) (pa_cons (pv 4) (pa_nil)))) (pa_nil)))))) (pss_one (ps_if (pt_cmpR (op_neD hr.units) (pv 3) (pv 4) (nomark _)) (pss_one (ps_ret (pe_bl))) (pss_nil))))))))))
          (pss_one (ps_ret (pe_bl))))
abbrev s_mixed : Stmt := topS 33
abbrev N_mixed : List Str := ["_law_deal_here", "_law_many", "_law_turn", "_law_left", "_law_found"]
theorem sc_mixed : FnScope N_mixed ["_law_deal_here", "_law_many"] (defScope s_mixed) := ⟨rfl, rfl, rfl, by decide +kernel, rfl, by decide +kernel, by decide +kernel⟩
theorem ok_mixed (F : FnP K "_law_mixed" s_mixed f fd) (B : Bl mg) (C_draw : Cal P w K mg base CX0 1 "_law_draw" ["_law_deal_here", "_law_many"] sp_draw) : FnOk P w K mg base CX0 2 f fd ["_law_deal_here", "_law_many"] sp_mixed := by
  refine F.ok sc_mixed (fun vs H Q E h => ?_) (fun cdv A outer s H vs Q E hr h => ⟨_, PSs.nox ?_, pure_mixed (K := K) vs H Q E h⟩)
  · obtain ⟨_, _, _, rfl, _⟩ := h
    rfl
  · exact pss_cons (ps_par rfl sc_mixed.nd rfl rfl (by decide) rfl rfl (pa_cons (pe_listRg rfl (by rfl) B.b_list (prg_1 (by rfl) B.b_range (pv 1))) (pa_cons (pe_lst (pa_nil)) (pa_nil))) (by rfl))
          (pss_cons (ps_for PassesOwn.never rfl (pi_range1 (by rfl) B.b_range (pa_cons (pv 1) (pa_nil))) (pg_name (i := 2) sc_mixed.nd rfl (by first | exact Or.inl rfl | exact Or.inr rfl)) (pss_one (ps_expr (pe_bm PySem.F.plainAttrs_list PySem.F.slot_list_append PySem.F.type_list_append mt_append (pv 4) (pa_cons (pe_bm PySem.F.plainAttrs_list PySem.F.slot_list_pop PySem.F.type_list_pop mt_popAt (pv 3) (pa_cons (Wf.pe_cal C_draw hr (by rfl) (pa_cons (pv 0) (pa_cons (pe_callB call_len (by rfl) B.b_len (by decide +kernel) (pa_cons (pv 3) (pa_nil))) (pa_nil)))) (pa_nil))) (pa_nil))))))
          (pss_one (ps_ret (pv 4))))
abbrev s_is_number : Stmt := topS 6
abbrev N_is_number : List Str := ["thing"]
theorem sc_is_number : FnScope N_is_number ["thing"] (defScope s_is_number) := ⟨rfl, rfl, rfl, by decide +kernel, rfl, by decide +kernel, by decide +kernel⟩
theorem ok_is_number (F : FnP K "is_number" s_is_number f fd) (B : Bl mg)  : FnOk P w K mg base CX0 1 f fd ["thing"] (LSp K T psp_is_number) := by
  refine fn_ok (p := fun _ => p_is_number) F sc_is_number rfl rfl (by decide) (fun as Qp Ep h => by obtain ⟨_, rfl, _⟩ := h; rfl) (fun cdv A outer s H E Bh Bt Ep hr hx => JSs.nox ?_) hp_is_number
  exact jss_one (js_ret (je_and (je_isi (by unfold TyOk; decide) (by rfl) B.b_isinstance (pe_bltn (v := .ty "int") (by rfl) B.b_int (by decide +kernel) rfl) (jv 0)) (je_one (je_not (je_isi (by unfold TyOk; decide) (by rfl) B.b_isinstance (pe_bltn (v := .ty "bool") (by rfl) B.b_bool (by decide +kernel) rfl) (jv 0))))))
abbrev s_is_whole : Stmt := topS 7
abbrev N_is_whole : List Str := ["thing", "least", "most"]
theorem sc_is_whole : FnScope N_is_whole ["thing", "least", "most"] (defScope s_is_whole) := ⟨rfl, rfl, rfl, by decide +kernel, rfl, by decide +kernel, by decide +kernel⟩
theorem ok_is_whole (F : FnP K "is_whole" s_is_whole f fd) (B : Bl mg) (C_is_number : Cal P w K mg base CX0 1 "is_number" ["thing"] (LSp K T psp_is_number)) : FnOk P w K mg base CX0 2 f fd ["thing", "least", "most"] (LSp K T psp_is_whole) := by
  refine fn_ok (p := fun _ => p_is_whole) F sc_is_whole rfl rfl (by decide) (fun as Qp Ep h => by obtain ⟨_, _, _, rfl, _⟩ := h; rfl) (fun cdv A outer s H E Bh Bt Ep hr hx => JSs.nox ?_) hp_is_whole
  exact jss_one (js_ret (je_and (je_cal C_is_number hr (by rfl) (ja_cons (je_fz (jv 0)) (ja_nil))) (je_one (je_chain op_le op_le lc_le lc_le (jv 1) (jv 0) (jv 2)))))
abbrev s_is_tuple_of : Stmt := topS 8
abbrev N_is_tuple_of : List Str := ["thing", "many"]
theorem sc_is_tuple_of : FnScope N_is_tuple_of ["thing", "many"] (defScope s_is_tuple_of) := ⟨rfl, rfl, rfl, by decide +kernel, rfl, by decide +kernel, by decide +kernel⟩
theorem ok_is_tuple_of (F : FnP K "is_tuple_of" s_is_tuple_of f fd) (B : Bl mg)  : FnOk P w K mg base CX0 1 f fd ["thing", "many"] (LSp K T psp_is_tuple_of) := by
  refine fn_ok (p := fun _ => p_is_tuple_of) F sc_is_tuple_of rfl rfl (by decide) (fun as Qp Ep h => by obtain ⟨_, _, rfl, _⟩ := h; rfl) (fun cdv A outer s H E Bh Bt Ep hr hx => JSs.nox ?_) hp_is_tuple_of
  exact jss_one (js_ret (je_and (je_isi (by unfold TyOk; decide) (by rfl) B.b_isinstance (pe_bltn (v := .ty "tuple") (by rfl) B.b_tuple (by decide +kernel) rfl) (jv 0)) (je_one (je_eq hr (je_cb call_len lc_len (by rfl) B.b_len (by decide +kernel) (ja_cons (jv 0) (ja_nil))) (jv 1)))))
abbrev s_w_far : Stmt := topS 17
abbrev N_w_far : List Str := ["word", "i"]
theorem sc_w_far : FnScope N_w_far ["word", "i"] (defScope s_w_far) := ⟨rfl, rfl, rfl, by decide +kernel, rfl, by decide +kernel, by decide +kernel⟩
theorem ok_w_far (F : FnP K "with_two_exchanged" s_w_far f fd) (B : Bl mg)  : FnOk P w K mg base CX0 1 f fd ["word", "i"] (LSp K T psp_w_far) := by
  refine fn_ok (p := fun _ => p_w_far) F sc_w_far rfl rfl (by decide) (fun as Qp Ep h => by obtain ⟨_, _, rfl, _⟩ := h; rfl) (fun cdv A outer s H E Bh Bt Ep hr hx => JSs.nox ?_) hp_w_far
  exact jss_cons (js_if (jb_le (je_cb call_abs lc_abs (by rfl) B.b_abs (by decide +kernel) (ja_cons (je_sub (je_ix (jv 0) (jv 1) (fun _ _ => rfl)) (je_ix (jv 0) (je_add (jv 1) (je_int)) (fun _ _ => rfl))) (ja_nil))) (je_int)) (jss_one (js_ret (je_non))) (jss_nil))
    (jss_one (js_ret (je_add (je_add (je_slice (jv 0) (jo_none) (jo_some (jv 1))) (je_tup (ja_cons (je_ix (jv 0) (je_add (jv 1) (je_int)) (fun _ _ => rfl)) (ja_cons (je_ix (jv 0) (jv 1) (fun _ _ => rfl)) (ja_nil))))) (je_slice (jv 0) (jo_some (je_add (jv 1) (je_int))) (jo_none)))))
abbrev s_w_turn : Stmt := topS 18
abbrev N_w_turn : List Str := ["word", "i", "k", "other", "again"]
theorem sc_w_turn : FnScope N_w_turn ["word", "i"] (defScope s_w_turn) := ⟨rfl, rfl, rfl, by decide +kernel, rfl, by decide +kernel, by decide +kernel⟩
theorem ok_w_turn (F : FnP K "with_three_turned" s_w_turn f fd) (B : Bl mg)  : FnOk P w K mg base CX0 1 f fd ["word", "i"] (LSp K T psp_w_turn) := by
  refine fn_ok (p := fun _ => p_w_turn) F sc_w_turn rfl rfl (by decide) (fun as Qp Ep h => by obtain ⟨_, _, rfl, _⟩ := h; rfl) (fun cdv A outer s H E Bh Bt Ep hr hx => JSs.nox ?_) hp_w_turn
  exact jss_cons (js_if (jb_ge (je_add (jv 1) (je_int)) (je_cb call_len lc_len (by rfl) B.b_len (by decide +kernel) (ja_cons (jv 0) (ja_nil)))) (jss_one (js_ret (je_non))) (jss_nil))
    (jss_cons (js_asg (je_slice (jv 0) (jo_some (jv 1)) (jo_some (je_add (jv 1) (je_int)))) (jg_tup rfl (jgs_cons (jg_name (i := 2) sc_w_turn.nd rfl (by first | exact Or.inl rfl | exact Or.inr rfl)) (jgs_cons (jg_name (i := 3) sc_w_turn.nd rfl (by first | exact Or.inl rfl | exact Or.inr rfl)) (jgs_cons (jg_name (i := 4) sc_w_turn.nd rfl (by first | exact Or.inl rfl | exact Or.inr rfl)) (jgs_nil))))))
    (jss_cons (js_if (jw_pt (jw_or (jb_ne hr (jv 2) (jv 4)) (jw_or1 (jb_ne hr (je_cb call_abs lc_abs (by rfl) B.b_abs (by decide +kernel) (ja_cons (je_sub (jv 2) (jv 3)) (ja_nil))) (je_int))))) (jss_one (js_ret (je_non))) (jss_nil))
    (jss_one (js_ret (je_add (je_add (je_slice (jv 0) (jo_none) (jo_some (jv 1))) (je_tup (ja_cons (jv 3) (ja_cons (jv 2) (ja_cons (jv 3) (ja_nil)))))) (je_slice (jv 0) (jo_some (je_add (jv 1) (je_int))) (jo_none)))))))
abbrev s_w_gone : Stmt := topS 19
abbrev N_w_gone : List Str := ["word", "i"]
theorem sc_w_gone : FnScope N_w_gone ["word", "i"] (defScope s_w_gone) := ⟨rfl, rfl, rfl, by decide +kernel, rfl, by decide +kernel, by decide +kernel⟩
theorem ok_w_gone (F : FnP K "with_two_fewer" s_w_gone f fd) (B : Bl mg)  : FnOk P w K mg base CX0 1 f fd ["word", "i"] (LSp K T psp_w_gone) := by
  refine fn_ok (p := fun _ => p_w_gone) F sc_w_gone rfl rfl (by decide) (fun as Qp Ep h => by obtain ⟨_, _, rfl, _⟩ := h; rfl) (fun cdv A outer s H E Bh Bt Ep hr hx => JSs.nox ?_) hp_w_gone
  exact jss_cons (js_if (jb_ne hr (je_ix (jv 0) (jv 1) (fun _ _ => rfl)) (je_ix (jv 0) (je_add (jv 1) (je_int)) (fun _ _ => rfl))) (jss_one (js_ret (je_non))) (jss_nil))
    (jss_one (js_ret (je_add (je_slice (jv 0) (jo_none) (jo_some (jv 1))) (je_slice (jv 0) (jo_some (je_add (jv 1) (je_int))) (jo_none)))))
abbrev s_w_come : Stmt := topS 20
abbrev N_w_come : List Str := ["word", "i", "k"]
theorem sc_w_come : FnScope N_w_come ["word", "i", "k"] (defScope s_w_come) := ⟨rfl, rfl, rfl, by decide +kernel, rfl, by decide +kernel, by decide +kernel⟩
theorem ok_w_come (F : FnP K "with_two_more" s_w_come f fd) (B : Bl mg) (C_is_whole : Cal P w K mg base CX0 2 "is_whole" ["thing", "least", "most"] (LSp K T psp_is_whole)) (G_MOST_LETTER : ∃ t, mg "MOST_LETTER" = some (.int 8 t)) : FnOk P w K mg base CX0 3 f fd ["word", "i", "k"] (LSp K T psp_w_come) := by
  refine fn_ok (p := fun _ => p_w_come) F sc_w_come rfl rfl (by decide) (fun as Qp Ep h => by obtain ⟨_, _, _, rfl, _⟩ := h; rfl) (fun cdv A outer s H E Bh Bt Ep hr hx => JSs.nox ?_) hp_w_come
  exact jss_cons (js_if (jw_pt (jw_or (jb_not (jb_val (je_cal C_is_whole hr (by rfl) (ja_cons (je_fz (jv 1)) (ja_cons (je_fz (je_int)) (ja_cons (je_fz (je_cb call_len lc_len (by rfl) B.b_len (by decide +kernel) (ja_cons (jv 0) (ja_nil)))) (ja_nil))))))) (jw_or1 (jb_not (jb_val (je_cal C_is_whole hr (by rfl) (ja_cons (je_fz (jv 2)) (ja_cons (je_fz (je_int)) (ja_cons (je_fz (je_gi G_MOST_LETTER (by rfl))) (ja_nil)))))))))) (jss_one (js_ret (je_non))) (jss_nil))
    (jss_one (js_ret (je_add (je_add (je_slice (jv 0) (jo_none) (jo_some (jv 1))) (je_tup (ja_cons (jv 2) (ja_cons (jv 2) (ja_nil))))) (je_slice (jv 0) (jo_some (jv 1)) (jo_none)))))
abbrev s_once_moved : Stmt := topS 16
abbrev N_once_moved : List Str := ["word", "move", "name", "i"]
theorem sc_once_moved : FnScope N_once_moved ["word", "move"] (defScope s_once_moved) := ⟨rfl, rfl, rfl, by decide +kernel, rfl, by decide +kernel, by decide +kernel⟩
theorem ok_once_moved (F : FnP K "once_moved" s_once_moved f fd) (B : Bl mg) (C_is_tuple_of : Cal P w K mg base CX0 1 "is_tuple_of" ["thing", "many"] (LSp K T psp_is_tuple_of)) (C_w_come : Cal P w K mg base CX0 3 "with_two_more" ["word", "i", "k"] (LSp K T psp_w_come)) (C_is_whole : Cal P w K mg base CX0 2 "is_whole" ["thing", "least", "most"] (LSp K T psp_is_whole)) (C_w_far : Cal P w K mg base CX0 1 "with_two_exchanged" ["word", "i"] (LSp K T psp_w_far)) (C_w_turn : Cal P w K mg base CX0 1 "with_three_turned" ["word", "i"] (LSp K T psp_w_turn)) (C_w_gone : Cal P w K mg base CX0 1 "with_two_fewer" ["word", "i"] (LSp K T psp_w_gone)) : FnOk P w K mg base CX0 4 f fd ["word", "move"] (LSp K T psp_once_moved) := by
  refine fn_ok (p := fun _ => p_once_moved) F sc_once_moved rfl rfl (by decide) (fun as Qp Ep h => by obtain ⟨_, _, rfl, _⟩ := h; rfl) (fun cdv A outer s H E Bh Bt Ep hr hx => JSs.nox ?_) hp_once_moved
  exact jss_cons (js_if (jw_pt (jw_and (jb_val (je_cal C_is_tuple_of hr (by rfl) (ja_cons (je_fz (jv 1)) (ja_cons (je_fz (je_int)) (ja_nil))))) (jw_and1 (jb_eq hr (je_ix (jv 1) (je_int) (fun _ _ => rfl)) (je_str))))) (jss_one (js_ret (je_cal C_w_come hr (by rfl) (ja_cons (je_fz (jv 0)) (ja_cons (je_fz (je_ix (jv 1) (je_int) (fun _ _ => rfl))) (ja_cons (je_fz (je_ix (jv 1) (je_int) (fun _ _ => rfl))) (ja_nil))))))) (jss_nil))
    (jss_cons (js_if (jw_pt (jw_or (jb_not (jb_val (je_cal C_is_tuple_of hr (by rfl) (ja_cons (je_fz (jv 1)) (ja_cons (je_fz (je_int)) (ja_nil)))))) (jw_or1 (jb_not (jb_val (je_cal C_is_whole hr (by rfl) (ja_cons (je_fz (je_ix (jv 1) (je_int) (fun _ _ => rfl))) (ja_cons (je_fz (je_int)) (ja_cons (je_fz (je_sub (je_cb call_len lc_len (by rfl) B.b_len (by decide +kernel) (ja_cons (jv 0) (ja_nil))) (je_int))) (ja_nil)))))))))) (jss_one (js_ret (je_non))) (jss_nil))
    (jss_cons (js_asg (jv 1) (jg_tup rfl (jgs_cons (jg_name (i := 2) sc_once_moved.nd rfl (by first | exact Or.inl rfl | exact Or.inr rfl)) (jgs_cons (jg_name (i := 3) sc_once_moved.nd rfl (by first | exact Or.inl rfl | exact Or.inr rfl)) (jgs_nil)))))
    (jss_cons (js_if (jb_eq hr (jv 2) (je_str)) (jss_one (js_ret (je_cal C_w_far hr (by rfl) (ja_cons (je_fz (jv 0)) (ja_cons (je_fz (jv 3)) (ja_nil)))))) (jss_nil))
    (jss_cons (js_if (jb_eq hr (jv 2) (je_str)) (jss_one (js_ret (je_cal C_w_turn hr (by rfl) (ja_cons (je_fz (jv 0)) (ja_cons (je_fz (jv 3)) (ja_nil)))))) (jss_nil))
    (jss_cons (js_if (jb_eq hr (jv 2) (je_str)) (jss_one (js_ret (je_cal C_w_gone hr (by rfl) (ja_cons (je_fz (jv 0)) (ja_cons (je_fz (jv 3)) (ja_nil)))))) (jss_nil))
    (jss_one (js_ret (je_non))))))))
abbrev s_word_moved : Stmt := topS 15
abbrev N_word_moved : List Str := ["word", "moves", "at", "move"]
theorem sc_word_moved : FnScope N_word_moved ["word", "moves"] (defScope s_word_moved) := ⟨rfl, rfl, rfl, by decide +kernel, rfl, by decide +kernel, by decide +kernel⟩
theorem ok_word_moved (F : FnP K "word_moved" s_word_moved f fd) (B : Bl mg) (C_once_moved : Cal P w K mg base CX0 4 "once_moved" ["word", "move"] (LSp K T psp_once_moved)) (T_NoMove : Err1 P w K mg base "NoMove" "at" cNoMove) : FnOk P w K mg base (L2.CX P w) 5 f fd ["word", "moves"] (LSp K T (psp_word_movedS cNoMove)) := by
  refine fn_ok (p := fun Ep => p_word_moved cNoMove Ep) F sc_word_moved rfl rfl (by decide) (fun as Qp Ep h => by obtain ⟨_, _, _, rfl, _⟩ := h; rfl) (fun cdv A outer s H E Bh Bt Ep hr hx => ?_) (hp_word_movedS cNoMove)
  exact jss_cons (js_for (passes_of rfl) rfl (ji_enum (by rfl) B.b_enumerate (ja_cons (jv 1) (ja_nil))) (jg_tup rfl (jgs_cons (jg_name (i := 2) sc_word_moved.nd rfl (by first | exact Or.inl rfl | exact Or.inr rfl)) (jgs_cons (jg_name (i := 3) sc_word_moved.nd rfl (by first | exact Or.inl rfl | exact Or.inr rfl)) (jgs_nil)))) (jss_cons (js_set (i := 0) sc_word_moved.nd rfl (by first | exact Or.inl rfl | exact Or.inr rfl) (je_cal C_once_moved hr (by rfl) (ja_cons (je_fz (jv 0)) (ja_cons (je_fz (jv 3)) (ja_nil)))))
    (jss_one (js_if (jb_is (jv 0) (je_non)) (jss_one (js_rz1 T_NoMove hr rfl (takes_of rfl rfl rfl rfl) hx (by rfl) (ja_cons (je_fz (jv 2)) (ja_nil)))) (jss_nil)))))
    (jss_one (js_ret (jv 0)))
abbrev s_is_letter : Stmt := topS 10
abbrev N_is_letter : List Str := ["k", "many"]
theorem sc_is_letter : FnScope N_is_letter ["k", "many"] (defScope s_is_letter) := ⟨rfl, rfl, rfl, by decide +kernel, rfl, by decide +kernel, by decide +kernel⟩
theorem ok_is_letter (F : FnP K "is_letter" s_is_letter f fd) (B : Bl mg) (C_is_whole : Cal P w K mg base CX0 2 "is_whole" ["thing", "least", "most"] (LSp K T psp_is_whole)) : FnOk P w K mg base CX0 3 f fd ["k", "many"] (LSp K T psp_is_letter) := by
  refine fn_ok (p := fun _ => p_is_letter) F sc_is_letter rfl rfl (by decide) (fun as Qp Ep h => by obtain ⟨_, _, rfl, _⟩ := h; rfl) (fun cdv A outer s H E Bh Bt Ep hr hx => JSs.nox ?_) hp_is_letter
  exact jss_one (js_ret (je_cal C_is_whole hr (by rfl) (ja_cons (je_fz (jv 0)) (ja_cons (je_fz (je_int)) (ja_cons (je_fz (je_sub (jv 1) (je_int))) (ja_nil))))))
abbrev s_order_led : Stmt := topS 12
abbrev N_order_led : List Str := ["kinds", "word", "may_pass", "order", "at", "k"]
theorem sc_order_led : FnScope N_order_led ["kinds", "word", "may_pass"] (defScope s_order_led) := ⟨rfl, rfl, rfl, by decide +kernel, rfl, by decide +kernel, by decide +kernel⟩
theorem ok_order_led (F : FnP K "order_led" s_order_led f fd) (B : Bl mg) (C_is_letter : Cal P w K mg base CX0 3 "is_letter" ["k", "many"] (LSp K T psp_is_letter)) (T_NoPassing : Err1 P w K mg base "NoPassing" "at" cNoPassing) : FnOk P w K mg base (L2.CX P w) 4 f fd ["kinds", "word", "may_pass"] (LSp K T (psp_order_led cNoPassing (LamOk P w K mg))) := by
  refine fn_ok (p := fun Ep => p_order_led cNoPassing (LamOk P w K mg) Ep) F sc_order_led rfl rfl (by decide) (fun as Qp Ep h => by obtain ⟨_, _, _, _, rfl, _⟩ := h; rfl) (fun cdv A outer s H E Bh Bt Ep hr hx => ?_) (hp_order_led (LamOk P w K mg) cNoPassing)
  exact jss_cons (js_set (i := 3) sc_order_led.nd rfl (by first | exact Or.inl rfl | exact Or.inr rfl) (je_lstRg rfl (by rfl) B.b_list (jr_1 (by rfl) B.b_range (je_cb call_len lc_len (by rfl) B.b_len (by decide +kernel) (ja_cons (jv 0) (ja_nil))))))
    (jss_cons (js_for (passes_of rfl) rfl (ji_enum (by rfl) B.b_enumerate (ja_cons (jv 1) (ja_nil))) (jg_tup rfl (jgs_cons (jg_name (i := 4) sc_order_led.nd rfl (by first | exact Or.inl rfl | exact Or.inr rfl)) (jgs_cons (jg_name (i := 5) sc_order_led.nd rfl (by first | exact Or.inl rfl | exact Or.inr rfl)) (jgs_nil)))) (jss_cons (js_if (jw_pt (jw_or (jb_not (jb_val (je_cal C_is_letter hr (by rfl) (ja_cons (je_fz (jv 5)) (ja_cons (je_fz (je_cb call_len lc_len (by rfl) B.b_len (by decide +kernel) (ja_cons (jv 3) (ja_nil)))) (ja_nil)))))) (jw_or1 (jb_not (jb_val (je_callL (fun _ _ h => h) hr rfl (by first | exact Or.inl rfl | exact Or.inr (Or.inl rfl) | exact Or.inr (Or.inr rfl)) (ja_cons (je_ix (jv 0) (je_ix (jv 3) (jv 5) (fun _ _ => rfl)) (fun _ _ => rfl)) (ja_cons (je_ix (jv 0) (je_ix (jv 3) (je_add (jv 5) (je_int)) (fun _ _ => rfl)) (fun _ _ => rfl)) (ja_nil))))))))) (jss_one (js_rz1 T_NoPassing hr rfl (takes_of rfl rfl rfl rfl) hx (by rfl) (ja_cons (je_fz (jv 4)) (ja_nil)))) (jss_nil))
    (jss_one (js_asg (je_tup (ja_cons (je_ix (jv 3) (je_add (jv 5) (je_int)) (fun _ _ => rfl)) (ja_cons (je_ix (jv 3) (jv 5) (fun _ _ => rfl)) (ja_nil)))) (jg_tup rfl (jgs_cons (jg_sub (jv 3) (jv 5)) (jgs_cons (jg_sub (jv 3) (je_add (jv 5) (je_int))) (jgs_nil))))))))
    (jss_one (js_ret (je_ct call_tuple_of lc_tupleOf (by rfl) B.b_tuple (by decide +kernel) (ja_cons (jv 3) (ja_nil))))))
def nmL : Nat → Nat → Str := fun l _ => "free_order.<locals>.<lambda>"
def tabT (K : PySem.W.Frag) : List NTab := [((He.cT K ("free_order", none)).2, nmL)]
theorem un_tabT (K : PySem.W.Frag) (P : Addr) : ∀ p ∈ tabT K, p.1 = P → p.2 = nmL := fun p hp _ => by
  simp only [tabT, List.mem_cons, List.not_mem_nil, or_false] at hp
  rcases hp with rfl <;> rfl
theorem tabs0 {K : PySem.W.Frag} {H : Hp} (h : ∀ p ∈ [(("free_order" : Str), (none : Option Str))].map (He.cT K), H p.2 = some (.tbl #[])) : TabsN (tabT K) H := fun p hp => by
  simp only [tabT, List.mem_cons, List.not_mem_nil, or_false] at hp
  rcases hp with rfl
  · exact TabN.nil (h _ (by first | exact List.mem_cons_self | exact List.mem_cons_of_mem _ List.mem_cons_self))
abbrev s_free_order : Stmt := topS 11
abbrev N_free_order : List Str := ["kinds", "word"]
theorem sc_free_order : FnScope N_free_order ["kinds", "word"] (defScope s_free_order) := ⟨rfl, rfl, rfl, by decide +kernel, rfl, by decide +kernel, by decide +kernel⟩
abbrev lam_free_order : Expr := lamIn s_free_order
theorem scl_free_order : FnScope ["rear", "fore"] ["rear", "fore"] (lamS lam_free_order) := ⟨rfl, rfl, rfl, by decide +kernel, rfl, by decide +kernel, by decide +kernel⟩
theorem lok_free_order (c : Addr) : LamOk P w K mg ⟨"free_order.<locals>.<lambda>", lamA lam_free_order, lamB lam_free_order, lamS lam_free_order, c⟩ neB := by
  intro base A outer s H f x y us Q hr e0 hf hc r q
  refine run_lam (k := 0) (N := ["rear", "fore"]) (ps := ["rear", "fore"]) scl_free_order hr e0 hf hc (fun pm ctv => ?_) r rfl fun _ => ⟨_, pe_cmpR op_ne (pv 0) (pv 1) (nomark _), ?_⟩
  · cases r with
    | cons r1 r2 =>
      cases r2 with
      | cons r2 r3 => cases r3; rfl
  · refine ⟨_, rfl, _, rfl, rfl, ?_⟩
    rw [Pv.dec_int]
    exact q
theorem ok_free_order {c Pt : Addr} (F : FnP K "free_order" s_free_order f fd) (hc : fd.code = .ref c) (TB : TabB base mg c Pt) (mem : (Pt, nmL) ∈ T) (un : ∀ p ∈ T, p.1 = Pt → p.2 = nmL) (C_ol : Cal P w K mg base (L2.CX P w) 4 "order_led" ["kinds", "word", "may_pass"] (LSp K T (psp_order_led cNoPassing (LamOk P w K mg)))) : FnOk P w K mg base (L2.CX P w) 5 f fd ["kinds", "word"] (LSp K T (psp_free_order cNoPassing)) := by
  refine fn_okC (p := fun Ep => p_lamled (LamOk P w K mg) "free_order.<locals>.<lambda>" (lamA lam_free_order) (lamB lam_free_order) (lamS lam_free_order) cNoPassing Ep) F hc sc_free_order rfl rfl (by decide) (fun as Qp Ep h => by obtain ⟨_, _, rfl, _⟩ := h; rfl) (fun A outer s H E Bh Bt Ep hr hx => ?_) (hp_free_order lok_free_order cNoPassing)
  exact jss_one (js_ret (je_calX C_ol hr (takes_of rfl rfl rfl rfl) (fun _ _ _ _ z => z) hx (by rfl) (ja_cons (je_fz (jv 0)) (ja_cons (je_fz (jv 1)) (ja_cons (je_lam TB rfl mem (by rfl) un (by decide +kernel) rfl) (ja_nil))))))
abbrev s_startrun : Stmt := topS 23
abbrev N_startrun : List Str := ["normal", "end", "start"]
theorem sc_startrun : FnScope N_startrun ["normal", "end"] (defScope s_startrun) := ⟨rfl, rfl, rfl, by decide +kernel, rfl, by decide +kernel, by decide +kernel⟩
theorem ok_startrun (F : FnP K "start_of_run" s_startrun f fd) (B : Bl mg)  : FnOk P w K mg base CX0 1 f fd ["normal", "end"] (LSp K T psp_startrun) := by
  refine fn_ok (p := fun _ => p_startrun) F sc_startrun rfl rfl (by decide) (fun as Qp Ep h => by obtain ⟨_, _, _, rfl, _⟩ := h; rfl) (fun cdv A outer s H E Bh Bt Ep hr hx => JSs.nox ?_) hp_startrun
  exact jss_cons (js_set (i := 2) sc_startrun.nd rfl (by first | exact Or.inl rfl | exact Or.inr rfl) (je_sub (jv 1) (je_int)))
    (jss_cons (js_while PassesOwn.never (jw_pt (jw_and (jb_gt (jv 2) (je_int)) (jw_and1 (jb_gt (je_ix (jv 0) (je_sub (jv 2) (je_int)) (fun _ _ => rfl)) (je_ix (jv 0) (jv 2) (fun _ _ => rfl)))))) (jss_one (js_augS (i := 2) sc_startrun.nd rfl (by first | exact Or.inl rfl | exact Or.inr rfl) (je_int))))
    (jss_one (js_ret (jv 2))))
abbrev s_mpast : Stmt := topS 24
abbrev N_mpast : List Str := ["normal", "start", "end", "letter", "like", "behind", "ahead", "i"]
theorem sc_mpast : FnScope N_mpast ["normal", "start", "end", "letter"] (defScope s_mpast) := ⟨rfl, rfl, rfl, by decide +kernel, rfl, by decide +kernel, by decide +kernel⟩
theorem ok_mpast (F : FnP K "moves_past" s_mpast f fd) (B : Bl mg)  : FnOk P w K mg base CX0 1 f fd ["normal", "start", "end", "letter"] (LSp K T psp_mpast) := by
  refine fn_ok (p := fun _ => p_mpast) F sc_mpast rfl rfl (by decide) (fun as Qp Ep h => by obtain ⟨_, _, _, _, rfl, _⟩ := h; rfl) (fun cdv A outer s H E Bh Bt Ep hr hx => JSs.nox ?_) hp_mpast
  exact jss_cons (js_if (jb_lt (jv 3) (je_ix (jv 0) (je_sub (jv 2) (je_int)) (fun _ _ => rfl))) (jss_one (js_ret (je_lc (own := [("i", 7)]) rfl sc_mpast.nd (ji_rngN (by rfl) B.b_range (ja_cons (je_sub (jv 2) (je_int)) (ja_cons (je_sub (jv 1) (je_int)) (ja_cons (je_neg (je_int)) (ja_nil))))) (blkOk_by (N := N_mpast) (sc := defScope s_mpast) (by decide +kernel)) (fun _ _ _ _ _ => jg_name (i := 7) sc_mpast.nd rfl (by first | exact Or.inl rfl | exact Or.inr rfl)) (fun _ _ _ _ _ => jts_nil) (fun _ _ _ _ _ => je_tup (ja_cons (je_str) (ja_cons (jv 7) (ja_nil))))))) (jss_nil))
    (jss_cons (js_set (i := 4) sc_mpast.nd rfl (by first | exact Or.inl rfl | exact Or.inr rfl) (je_sub (je_add (jv 1) (je_ix (jv 0) (jv 1) (fun _ _ => rfl))) (jv 3)))
    (jss_cons (js_setLc (i := 5) (own := [("i", 7)]) rfl sc_mpast.nd rfl rfl (sw_true rfl rfl rfl (by decide +kernel)) (ji_rngN (by rfl) B.b_range (ja_cons (je_sub (jv 2) (je_int)) (ja_cons (je_add (jv 4) (je_int)) (ja_cons (je_neg (je_int)) (ja_nil))))) (blkOk_by (N := N_mpast) (sc := defScope s_mpast) (by decide +kernel)) (fun _ _ _ _ _ => jg_name (i := 7) sc_mpast.nd rfl (by first | exact Or.inl rfl | exact Or.inr rfl)) (fun _ _ _ _ _ => jts_nil) (fun _ _ _ _ _ => je_tup (ja_cons (je_str) (ja_cons (jv 7) (ja_nil)))))
    (jss_cons (js_setLc (i := 6) (own := [("i", 7)]) rfl sc_mpast.nd rfl rfl (sw_true rfl rfl rfl (by decide +kernel)) (ji_rngN (by rfl) B.b_range (ja_cons (je_sub (jv 4) (je_int)) (ja_cons (je_sub (jv 1) (je_int)) (ja_cons (je_neg (je_int)) (ja_nil))))) (blkOk_by (N := N_mpast) (sc := defScope s_mpast) (by decide +kernel)) (fun _ _ _ _ _ => jg_name (i := 7) sc_mpast.nd rfl (by first | exact Or.inl rfl | exact Or.inr rfl)) (fun _ _ _ _ _ => jts_nil) (fun _ _ _ _ _ => je_tup (ja_cons (je_str) (ja_cons (jv 7) (ja_nil)))))
    (jss_one (js_ret (je_add (je_add (jv 5) (je_lst (ja_cons (je_tup (ja_cons (je_str) (ja_cons (jv 4) (ja_nil)))) (ja_nil)))) (jv 6)))))))
abbrev s_minto : Stmt := topS 22
abbrev N_minto : List Str := ["normal", "letter", "moves", "end", "start", "least"]
theorem sc_minto : FnScope N_minto ["normal", "letter"] (defScope s_minto) := ⟨rfl, rfl, rfl, by decide +kernel, rfl, by decide +kernel, by decide +kernel⟩
theorem ok_minto (F : FnP K "moves_into" s_minto f fd) (B : Bl mg) (C_startrun : Cal P w K mg base CX0 1 "start_of_run" ["normal", "end"] (LSp K T psp_startrun)) (C_mpast : Cal P w K mg base CX0 1 "moves_past" ["normal", "start", "end", "letter"] (LSp K T psp_mpast)) : FnOk P w K mg base CX0 2 f fd ["normal", "letter"] (LSp K T psp_minto) := by
  refine fn_ok (p := fun _ => p_minto) F sc_minto rfl rfl (by decide) (fun as Qp Ep h => by obtain ⟨_, _, _, rfl, _⟩ := h; rfl) (fun cdv A outer s H E Bh Bt Ep hr hx => JSs.nox ?_) hp_minto
  exact jss_cons (js_set (i := 2) sc_minto.nd rfl (by first | exact Or.inl rfl | exact Or.inr rfl) (je_lst (ja_nil)))
    (jss_cons (js_set (i := 3) sc_minto.nd rfl (by first | exact Or.inl rfl | exact Or.inr rfl) (je_cb call_len lc_len (by rfl) B.b_len (by decide +kernel) (ja_cons (jv 0) (ja_nil))))
    (jss_cons (js_while PassesOwn.never (jb_gt (jv 3) (je_int)) (jss_cons (js_set (i := 4) sc_minto.nd rfl (by first | exact Or.inl rfl | exact Or.inr rfl) (je_cal C_startrun hr (by rfl) (ja_cons (je_fz (jv 0)) (ja_cons (je_fz (jv 3)) (ja_nil)))))
    (jss_cons (js_set (i := 5) sc_minto.nd rfl (by first | exact Or.inl rfl | exact Or.inr rfl) (je_ix (jv 0) (je_sub (jv 3) (je_int)) (fun _ _ => rfl)))
    (jss_cons (js_if (jw_pt (jw_or (jb_gt (jv 1) (je_ix (jv 0) (jv 4) (fun _ _ => rfl))) (jw_or1 (jb_eq hr (jv 1) (je_sub (jv 5) (je_int)))))) (jss_one (js_ret (jv 2))) (jss_nil))
    (jss_cons (js_if (jb_eq hr (jv 1) (jv 5)) (jss_one (js_ret (je_add (jv 2) (je_lst (ja_cons (je_tup (ja_cons (je_str) (ja_cons (je_sub (jv 3) (je_int)) (ja_nil)))) (ja_nil)))))) (jss_nil))
    (jss_cons (js_aug (i := 2) sc_minto.nd rfl (by first | exact Or.inl rfl | exact Or.inr rfl) (je_cal C_mpast hr (by rfl) (ja_cons (je_fz (jv 0)) (ja_cons (je_fz (jv 4)) (ja_cons (je_fz (jv 3)) (ja_cons (je_fz (jv 1)) (ja_nil)))))))
    (jss_cons (js_if (jb_gt (jv 1) (jv 5)) (jss_one (js_augS (i := 1) sc_minto.nd rfl (by first | exact Or.inl rfl | exact Or.inr rfl) (je_int))) (jss_nil))
    (jss_one (js_set (i := 3) sc_minto.nd rfl (by first | exact Or.inl rfl | exact Or.inr rfl) (jv 4))))))))))
    (jss_one (js_ret (jv 2)))))
abbrev s_wearS : Stmt := topS 21
abbrev N_wearS : List Str := ["word", "normal", "moves", "letter", "taken"]
theorem sc_wearS : FnScope N_wearS ["word"] (defScope s_wearS) := ⟨rfl, rfl, rfl, by decide +kernel, rfl, by decide +kernel, by decide +kernel⟩
theorem ok_wearS (F : FnP K "wear_down" s_wearS f fd) (B : Bl mg) (C_minto : Cal P w K mg base CX0 2 "moves_into" ["normal", "letter"] (LSp K T psp_minto)) (C_word_moved : Cal P w K mg base (L2.CX P w) 5 "word_moved" ["word", "moves"] (LSp K T (psp_word_movedS cNoMove))) : FnOk P w K mg base CX0 6 f fd ["word"] (LSp K T psp_wear) := by
  refine fn_ok (p := fun _ => p_wearS cNoMove) F sc_wearS rfl rfl (by decide) (fun as Qp Ep h => by obtain ⟨_, _, rfl, _⟩ := h; rfl) (fun cdv A outer s H E Bh Bt Ep hr hx => JSs.nox ?_) (hp_wearS cNoMove)
  exact jss_cons (js_set (i := 1) sc_wearS.nd rfl (by first | exact Or.inl rfl | exact Or.inr rfl) (je_tup (ja_nil)))
    (jss_cons (js_set (i := 2) sc_wearS.nd rfl (by first | exact Or.inl rfl | exact Or.inr rfl) (je_lst (ja_nil)))
    (jss_cons (js_for PassesOwn.never rfl (ji_seq (jv 0)) (jg_name (i := 3) sc_wearS.nd rfl (by first | exact Or.inl rfl | exact Or.inr rfl)) (jss_cons (js_set (i := 4) sc_wearS.nd rfl (by first | exact Or.inl rfl | exact Or.inr rfl) (je_cal C_minto hr (by rfl) (ja_cons (je_fz (jv 1)) (ja_cons (je_fz (jv 3)) (ja_nil)))))
    (jss_cons (js_set (i := 1) sc_wearS.nd rfl (by first | exact Or.inl rfl | exact Or.inr rfl) (je_calX (Ep := noX) (E := E0) C_word_moved hr L2.takes0 (fun _ _ _ _ z => z) xok_no (by rfl) (ja_cons (je_fz (je_add (jv 1) (je_tup (ja_cons (jv 3) (ja_nil))))) (ja_cons (je_fz (jv 4)) (ja_nil)))))
    (jss_one (js_aug (i := 2) sc_wearS.nd rfl (by first | exact Or.inl rfl | exact Or.inr rfl) (jv 4))))))
    (jss_one (js_ret (je_tup (ja_cons (jv 1) (ja_cons (je_ct call_tuple_of lc_tupleOf (by rfl) B.b_tuple (by decide +kernel) (ja_cons (jv 2) (ja_nil))) (ja_nil))))))))
abbrev s_mback : Stmt := topS 28
abbrev N_mback : List Str := ["word", "move", "name", "i"]
theorem sc_mback : FnScope N_mback ["word", "move"] (defScope s_mback) := ⟨rfl, rfl, rfl, by decide +kernel, rfl, by decide +kernel, by decide +kernel⟩
theorem ok_mback (F : FnP K "move_back" s_mback f fd) (B : Bl mg)  : FnOk P w K mg base CX0 1 f fd ["word", "move"] (LSp K T psp_mback) := by
  refine fn_ok (p := fun _ => p_mback) F sc_mback rfl rfl (by decide) (fun as Qp Ep h => by obtain ⟨_, _, _, rfl, _⟩ := h; rfl) (fun cdv A outer s H E Bh Bt Ep hr hx => JSs.nox ?_) hp_mback
  exact jss_cons (js_asg (jv 1) (jg_tup rfl (jgs_cons (jg_name (i := 2) sc_mback.nd rfl (by first | exact Or.inl rfl | exact Or.inr rfl)) (jgs_cons (jg_name (i := 3) sc_mback.nd rfl (by first | exact Or.inl rfl | exact Or.inr rfl)) (jgs_nil)))))
    (jss_cons (js_if (jb_eq hr (jv 2) (je_str)) (jss_one (js_ret (je_tup (ja_cons (je_str) (ja_cons (jv 3) (ja_cons (je_ix (jv 0) (jv 3) (fun _ _ => rfl)) (ja_nil))))))) (jss_nil))
    (jss_one (js_ret (jv 1))))
abbrev s_mups : Stmt := topS 27
abbrev N_mups : List Str := ["word", "up", "move", "normal", "down"]
theorem sc_mups : FnScope N_mups ["word"] (defScope s_mups) := ⟨rfl, rfl, rfl, by decide +kernel, rfl, by decide +kernel, by decide +kernel⟩
theorem ok_mups (F : FnP K "moves_up" s_mups f fd) (B : Bl mg) (C_wearS : Cal P w K mg base CX0 6 "wear_down" ["word"] (LSp K T psp_wear)) (C_mback : Cal P w K mg base CX0 1 "move_back" ["word", "move"] (LSp K T psp_mback)) (C_once_moved : Cal P w K mg base CX0 4 "once_moved" ["word", "move"] (LSp K T psp_once_moved)) : FnOk P w K mg base CX0 7 f fd ["word"] (LSp K T psp_mups) := by
  refine fn_ok (p := fun _ => p_mups) F sc_mups rfl rfl (by decide) (fun as Qp Ep h => by obtain ⟨_, _, rfl, _⟩ := h; rfl) (fun cdv A outer s H E Bh Bt Ep hr hx => JSs.nox ?_) hp_mups
  exact jss_cons (js_asg (je_cal C_wearS hr (by rfl) (ja_cons (je_fz (jv 0)) (ja_nil))) (jg_tup rfl (jgs_cons (jg_name (i := 3) sc_mups.nd rfl (by first | exact Or.inl rfl | exact Or.inr rfl)) (jgs_cons (jg_name (i := 4) sc_mups.nd rfl (by first | exact Or.inl rfl | exact Or.inr rfl)) (jgs_nil)))))
    (jss_cons (js_set (i := 1) sc_mups.nd rfl (by first | exact Or.inl rfl | exact Or.inr rfl) (je_lst (ja_nil)))
    (jss_cons (js_for PassesOwn.never rfl (ji_seq (jv 4)) (jg_name (i := 2) sc_mups.nd rfl (by first | exact Or.inl rfl | exact Or.inr rfl)) (jss_cons (js_expr (je_mt PySem.F.plainAttrs_list PySem.F.slot_list_append PySem.F.type_list_append mt_append mv_append (jv 1) (ja_cons (je_cal C_mback hr (by rfl) (ja_cons (je_fz (jv 0)) (ja_cons (je_fz (jv 2)) (ja_nil)))) (ja_nil))))
    (jss_one (js_set (i := 0) sc_mups.nd rfl (by first | exact Or.inl rfl | exact Or.inr rfl) (je_cal C_once_moved hr (by rfl) (ja_cons (je_fz (jv 0)) (ja_cons (je_fz (jv 2)) (ja_nil))))))))
    (jss_one (js_ret (je_ct call_tuple_of lc_tupleOf (by rfl) B.b_tuple (by decide +kernel) (ja_cons (je_revL (jv 1)) (ja_nil)))))))
abbrev s_lksame : Stmt := topS 26
abbrev N_lksame : List Str := ["one", "other", "many", "kinds", "order", "other_order", "at"]
theorem sc_lksame : FnScope N_lksame ["one", "other"] (defScope s_lksame) := ⟨rfl, rfl, rfl, by decide +kernel, rfl, by decide +kernel, by decide +kernel⟩
theorem ok_lksame (F : FnP K "look_same_orders" s_lksame f fd) (B : Bl mg) (C_free_order : Cal P w K mg base (L2.CX P w) 5 "free_order" ["kinds", "word"] (LSp K T (psp_free_order cNoPassing))) (T_NoOrder : Err1 P w K mg base "NoOrder" "at" cNoOrder) : FnOk P w K mg base (L2.CX P w) 6 f fd ["one", "other"] (LSp K T (psp_lksame cNoOrder)) := by
  refine fn_ok (p := fun Ep => p_lksame cNoPassing cNoOrder Ep) F sc_lksame rfl rfl (by decide) (fun as Qp Ep h => by obtain ⟨_, _, rfl, _⟩ := h; rfl) (fun cdv A outer s H E Bh Bt Ep hr hx => ?_) (hp_lksame cNoPassing cNoOrder)
  exact jss_cons (js_set (i := 2) sc_lksame.nd rfl (by first | exact Or.inl rfl | exact Or.inr rfl) (je_add (je_maxTD rfl (Nat.lt_of_le_of_lt (Nat.add_le_add_left (show 3 ≤ 65 by decide) _) hr.units1) (by rfl) B.b_max (by decide +kernel) (je_add (jv 0) (jv 1)) (je_neg (je_int))) (je_int)))
    (jss_cons (js_set (i := 3) sc_lksame.nd rfl (by first | exact Or.inl rfl | exact Or.inr rfl) (je_tupRg rfl (by rfl) B.b_tuple (jr_1 (by rfl) B.b_range (jv 2))))
    (jss_cons (js_set (i := 4) sc_lksame.nd rfl (by first | exact Or.inl rfl | exact Or.inr rfl) (je_calX C_free_order hr (takes_of rfl rfl rfl rfl) (fun _ _ _ _ z => z) hx (by rfl) (ja_cons (je_fz (jv 3)) (ja_cons (je_fz (jv 0)) (ja_nil)))))
    (jss_cons (js_set (i := 5) sc_lksame.nd rfl (by first | exact Or.inl rfl | exact Or.inr rfl) (je_calX C_free_order hr (takes_of rfl rfl rfl rfl) (fun _ _ _ _ z => z) hx (by rfl) (ja_cons (je_fz (jv 3)) (ja_cons (je_fz (jv 1)) (ja_nil)))))
    (jss_one (js_for (passes_of rfl) rfl (ji_rng1 (by rfl) B.b_range (ja_cons (jv 2) (ja_nil))) (jg_name (i := 6) sc_lksame.nd rfl (by first | exact Or.inl rfl | exact Or.inr rfl)) (jss_one (js_if (jb_ne hr (je_ix (jv 4) (jv 6) (fun _ _ => rfl)) (je_ix (jv 5) (jv 6) (fun _ _ => rfl))) (jss_one (js_rz1 T_NoOrder hr rfl (takes_of rfl rfl rfl rfl) hx (by rfl) (ja_cons (je_fz (jv 6)) (ja_nil)))) (jss_nil))))))))
abbrev s_joinw : Stmt := topS 25
abbrev N_joinw : List Str := ["one", "other", "normal", "down"]
theorem sc_joinw : FnScope N_joinw ["one", "other"] (defScope s_joinw) := ⟨rfl, rfl, rfl, by decide +kernel, rfl, by decide +kernel, by decide +kernel⟩
theorem ok_joinw (F : FnP K "join_words" s_joinw f fd) (B : Bl mg) (C_lksame : Cal P w K mg base (L2.CX P w) 6 "look_same_orders" ["one", "other"] (LSp K T (psp_lksame cNoOrder))) (C_wearS : Cal P w K mg base CX0 6 "wear_down" ["word"] (LSp K T psp_wear)) (C_mups : Cal P w K mg base CX0 7 "moves_up" ["word"] (LSp K T psp_mups)) : FnOk P w K mg base (L2.CX P w) 8 f fd ["one", "other"] (LSp K T (psp_joinw cNoOrder)) := by
  refine fn_ok (p := fun Ep => p_joinw cNoOrder Ep) F sc_joinw rfl rfl (by decide) (fun as Qp Ep h => by obtain ⟨_, _, rfl, _⟩ := h; rfl) (fun cdv A outer s H E Bh Bt Ep hr hx => ?_) (hp_joinw cNoOrder)
  exact jss_cons (js_expr (je_calX C_lksame hr (takes_of rfl rfl rfl rfl) (fun _ _ _ _ z => z) hx (by rfl) (ja_cons (je_fz (jv 0)) (ja_cons (je_fz (jv 1)) (ja_nil)))))
    (jss_cons (js_asg (je_cal C_wearS hr (by rfl) (ja_cons (je_fz (jv 0)) (ja_nil))) (jg_tup rfl (jgs_cons (jg_name (i := 2) sc_joinw.nd rfl (by first | exact Or.inl rfl | exact Or.inr rfl)) (jgs_cons (jg_name (i := 3) sc_joinw.nd rfl (by first | exact Or.inl rfl | exact Or.inr rfl)) (jgs_nil)))))
    (jss_one (js_ret (je_add (jv 3) (je_cal C_mups hr (by rfl) (ja_cons (je_fz (jv 1)) (ja_nil)))))))
abbrev s_lword : Stmt := topS 34
abbrev N_lword : List Str := ["_law_deal_here", "_law_kinds", "_law_most", "_law_is_free_here", "_law_turn", "_law_standing", "_law_word_here", "_law_places", "_law_k"]
theorem sc_lword : FnScope N_lword ["_law_deal_here", "_law_kinds", "_law_most", "_law_is_free_here"] (defScope s_lword) := ⟨rfl, rfl, rfl, by decide +kernel, rfl, by decide +kernel, by decide +kernel⟩
theorem ok_lword (F : FnP K "_law_word" s_lword f fd) (B : Bl mg) (C_draw : Cal P w K mg base CX0 1 "_law_draw" ["_law_deal_here", "_law_many"] (LSp K T psp_draw)) : FnOk P w K mg base CX0 2 f fd ["_law_deal_here", "_law_kinds", "_law_most", "_law_is_free_here"] (LSp K T psp_lword) := by
  refine fn_ok (p := fun _ => p_lword) F sc_lword rfl rfl (by decide) (fun as Qp Ep h => by obtain ⟨_, _, _, _, rfl, _⟩ := h; rfl) (fun cdv A outer s H E Bh Bt Ep hr hx => JSs.nox ?_) hp_lword
  exact jss_cons (js_par2 rfl sc_lword.nd rfl rfl (by decide) rfl rfl (ja_cons (je_ct call_list_of lc_listOf (by rfl) B.b_list (by decide +kernel) (ja_cons (jv 1) (ja_nil))) (ja_cons (je_lst (ja_nil)) (ja_nil))) (by rfl))
    (jss_cons (js_for PassesOwn.never rfl (ji_rng1 (by rfl) B.b_range (ja_cons (jv 2) (ja_nil))) (jg_name (i := 4) sc_lword.nd rfl (by first | exact Or.inl rfl | exact Or.inr rfl)) (jss_cons (js_set (i := 7) sc_lword.nd rfl (by first | exact Or.inl rfl | exact Or.inr rfl) (je_lst (ja_nil)))
    (jss_cons (js_for PassesOwn.never rfl (ji_rng1 (by rfl) B.b_range (ja_cons (je_sub (je_cb call_len lc_len (by rfl) B.b_len (by decide +kernel) (ja_cons (jv 5) (ja_nil))) (je_int)) (ja_nil))) (jg_name (i := 8) sc_lword.nd rfl (by first | exact Or.inl rfl | exact Or.inr rfl)) (jss_one (js_if (jw_pt (jw_or (jb_gt (je_ix (jv 5) (jv 8) (fun _ _ => rfl)) (je_ix (jv 5) (je_add (jv 8) (je_int)) (fun _ _ => rfl))) (jw_or1 (jw_pt (jw_and (jb_val (jv 3)) (jw_and1 (jb_ne hr (je_ix (jv 5) (jv 8) (fun _ _ => rfl)) (je_ix (jv 5) (je_add (jv 8) (je_int)) (fun _ _ => rfl))))))))) (jss_one (js_expr (je_mt PySem.F.plainAttrs_list PySem.F.slot_list_append PySem.F.type_list_append mt_append mv_append (jv 7) (ja_cons (jv 8) (ja_nil))))) (jss_nil))))
    (jss_one (js_if (jb_ne hr (jv 7) (je_lst (ja_nil))) (jss_cons (js_set (i := 8) sc_lword.nd rfl (by first | exact Or.inl rfl | exact Or.inr rfl) (je_ix (jv 7) (je_cal C_draw hr (by rfl) (ja_cons (jv 0) (ja_cons (je_fz (je_cb call_len lc_len (by rfl) B.b_len (by decide +kernel) (ja_cons (jv 7) (ja_nil)))) (ja_nil)))) (fun _ _ => rfl)))
    (jss_cons (js_asg (je_tup (ja_cons (je_ix (jv 5) (je_add (jv 8) (je_int)) (fun _ _ => rfl)) (ja_cons (je_ix (jv 5) (jv 8) (fun _ _ => rfl)) (ja_nil)))) (jg_tup rfl (jgs_cons (jg_sub (jv 5) (jv 8)) (jgs_cons (jg_sub (jv 5) (je_add (jv 8) (je_int))) (jgs_nil)))))
    (jss_one (js_expr (je_mt PySem.F.plainAttrs_list PySem.F.slot_list_append PySem.F.type_list_append mt_append mv_append (jv 6) (ja_cons (jv 8) (ja_nil))))))) (jss_nil))))))
    (jss_one (js_ret (je_ct call_tuple_of lc_tupleOf (by rfl) B.b_tuple (by decide +kernel) (ja_cons (jv 6) (ja_nil))))))
abbrev s_lorder : Stmt := topS 35
abbrev N_lorder : List Str := ["_law_many", "_law_word_here", "_law_order_here", "_law_k"]
theorem sc_lorder : FnScope N_lorder ["_law_many", "_law_word_here"] (defScope s_lorder) := ⟨rfl, rfl, rfl, by decide +kernel, rfl, by decide +kernel, by decide +kernel⟩
theorem ok_lorder (F : FnP K "_law_order" s_lorder f fd) (B : Bl mg)  : FnOk P w K mg base CX0 1 f fd ["_law_many", "_law_word_here"] (LSp K T psp_lorder) := by
  refine fn_ok (p := fun _ => p_lorder) F sc_lorder rfl rfl (by decide) (fun as Qp Ep h => by obtain ⟨_, _, rfl, _⟩ := h; rfl) (fun cdv A outer s H E Bh Bt Ep hr hx => JSs.nox ?_) hp_lorder
  exact jss_cons (js_set (i := 2) sc_lorder.nd rfl (by first | exact Or.inl rfl | exact Or.inr rfl) (je_lstRg rfl (by rfl) B.b_list (jr_1 (by rfl) B.b_range (jv 0))))
    (jss_cons (js_for PassesOwn.never rfl (ji_seq (jv 1)) (jg_name (i := 3) sc_lorder.nd rfl (by first | exact Or.inl rfl | exact Or.inr rfl)) (jss_one (js_asg (je_tup (ja_cons (je_ix (jv 2) (je_add (jv 3) (je_int)) (fun _ _ => rfl)) (ja_cons (je_ix (jv 2) (jv 3) (fun _ _ => rfl)) (ja_nil)))) (jg_tup rfl (jgs_cons (jg_sub (jv 2) (jv 3)) (jgs_cons (jg_sub (jv 2) (je_add (jv 3) (je_int))) (jgs_nil)))))))
    (jss_one (js_ret (jv 2))))
abbrev s_lbehind : Stmt := topS 36
abbrev N_lbehind : List Str := ["_law_word_here", "_law_move", "_law_some", "_law_near", "_law_name", "_law_at", "_law_k"]
theorem sc_lbehind : FnScope N_lbehind ["_law_word_here", "_law_move"] (defScope s_lbehind) := ⟨rfl, rfl, rfl, by decide +kernel, rfl, by decide +kernel, by decide +kernel⟩
theorem ok_lbehind (F : FnP K "_law_behind_move" s_lbehind f fd) (B : Bl mg)  : FnOk P w K mg base CX0 1 f fd ["_law_word_here", "_law_move"] (LSp K T psp_lbehind) := by
  refine fn_ok (p := fun _ => p_lbehind) F sc_lbehind rfl rfl (by decide) (fun as Qp Ep h => by obtain ⟨_, _, rfl, _⟩ := h; rfl) (fun cdv A outer s H E Bh Bt Ep hr hx => JSs.nox ?_) hp_lbehind
  exact jss_cons (js_if (jb_eq hr (je_ix (jv 1) (je_int) (fun _ _ => rfl)) (je_str)) (jss_cons (js_asg (jv 1) (jg_tup rfl (jgs_cons (jg_name (i := 4) sc_lbehind.nd rfl (by first | exact Or.inl rfl | exact Or.inr rfl)) (jgs_cons (jg_name (i := 5) sc_lbehind.nd rfl (by first | exact Or.inl rfl | exact Or.inr rfl)) (jgs_cons (jg_name (i := 6) sc_lbehind.nd rfl (by first | exact Or.inl rfl | exact Or.inr rfl)) (jgs_nil))))))
    (jss_cons (js_if (jw_pt (jw_and (jb_chain op_le op_le lc_le lc_le (je_int) (jv 5) (je_cb call_len lc_len (by rfl) B.b_len (by decide +kernel) (ja_cons (jv 0) (ja_nil)))) (jw_and1 (jb_chain op_le op_lt lc_le lc_lt (je_int) (jv 6) (je_int))))) (jss_one (js_ret (je_add (je_add (je_slice (jv 0) (jo_none) (jo_some (jv 5))) (je_tup (ja_cons (jv 6) (ja_cons (jv 6) (ja_nil))))) (je_slice (jv 0) (jo_some (jv 5)) (jo_none))))) (jss_nil))
    (jss_one (js_ret (je_non))))) (jss_nil))
    (jss_cons (js_asg (jv 1) (jg_tup rfl (jgs_cons (jg_name (i := 4) sc_lbehind.nd rfl (by first | exact Or.inl rfl | exact Or.inr rfl)) (jgs_cons (jg_name (i := 5) sc_lbehind.nd rfl (by first | exact Or.inl rfl | exact Or.inr rfl)) (jgs_nil)))))
    (jss_cons (js_set (i := 2) sc_lbehind.nd rfl (by first | exact Or.inl rfl | exact Or.inr rfl) (je_slice (jv 0) (jo_some (jv 5)) (jo_some (je_add (je_add (jv 5) (je_int)) (je_ct call_int1 lc_int1 (by rfl) B.b_int (by decide +kernel) (ja_cons (je_eq hr (jv 4) (je_str)) (ja_nil)))))))
    (jss_cons (js_if (jw_pt (jw_or (jb_lt (jv 5) (je_int)) (jw_or1 (jb_lt (je_cb call_len lc_len (by rfl) B.b_len (by decide +kernel) (ja_cons (jv 2) (ja_nil))) (je_add (je_int) (je_ct call_int1 lc_int1 (by rfl) B.b_int (by decide +kernel) (ja_cons (je_eq hr (jv 4) (je_str)) (ja_nil)))))))) (jss_one (js_ret (je_non))) (jss_nil))
    (jss_cons (js_set (i := 3) sc_lbehind.nd rfl (by first | exact Or.inl rfl | exact Or.inr rfl) (je_cb call_abs lc_abs (by rfl) B.b_abs (by decide +kernel) (ja_cons (je_sub (je_ix (jv 2) (je_int) (fun _ _ => rfl)) (je_ix (jv 2) (je_int) (fun _ _ => rfl))) (ja_nil))))
    (jss_cons (js_if (jw_pt (jw_and (jb_eq hr (jv 4) (je_str)) (jw_and1 (jb_gt (jv 3) (je_int))))) (jss_one (js_ret (je_add (je_add (je_slice (jv 0) (jo_none) (jo_some (jv 5))) (je_tup (ja_cons (je_ix (jv 2) (je_int) (fun _ _ => rfl)) (ja_cons (je_ix (jv 2) (je_int) (fun _ _ => rfl)) (ja_nil))))) (je_slice (jv 0) (jo_some (je_add (jv 5) (je_int))) (jo_none))))) (jss_nil))
    (jss_cons (js_if (jw_pt (jw_and (jb_eq hr (jv 4) (je_str)) (jw_and1 (jb_eq hr (jv 3) (je_int))))) (jss_one (js_ret (je_add (je_slice (jv 0) (jo_none) (jo_some (jv 5))) (je_slice (jv 0) (jo_some (je_add (jv 5) (je_int))) (jo_none))))) (jss_nil))
    (jss_cons (js_if (jw_pt (jw_and (jb_eq hr (jv 4) (je_str)) (jw_and (jb_eq hr (jv 3) (je_int)) (jw_and1 (jb_eq hr (je_ix (jv 2) (je_int) (fun _ _ => rfl)) (je_ix (jv 2) (je_int) (fun _ _ => rfl))))))) (jss_one (js_ret (je_add (je_add (je_slice (jv 0) (jo_none) (jo_some (jv 5))) (je_tup (ja_cons (je_ix (jv 2) (je_int) (fun _ _ => rfl)) (ja_cons (je_ix (jv 2) (je_int) (fun _ _ => rfl)) (ja_cons (je_ix (jv 2) (je_int) (fun _ _ => rfl)) (ja_nil)))))) (je_slice (jv 0) (jo_some (je_add (jv 5) (je_int))) (jo_none))))) (jss_nil))
    (jss_one (js_ret (je_non))))))))))
abbrev s_lletters : Stmt := topS 37
abbrev N_lletters : List Str := ["_law_deal_here", "_law_many", "_law_wide", "_law_word_here", "_law_turn", "_law_k"]
theorem sc_lletters : FnScope N_lletters ["_law_deal_here", "_law_many", "_law_wide"] (defScope s_lletters) := ⟨rfl, rfl, rfl, by decide +kernel, rfl, by decide +kernel, by decide +kernel⟩
theorem ok_lletters (F : FnP K "_law_letters" s_lletters f fd) (B : Bl mg) (C_draw : Cal P w K mg base CX0 1 "_law_draw" ["_law_deal_here", "_law_many"] (LSp K T psp_draw)) : FnOk P w K mg base CX0 2 f fd ["_law_deal_here", "_law_many", "_law_wide"] (LSp K T psp_llettersN) := by
  refine fn_ok (p := fun _ => p_lletters) F sc_lletters rfl rfl (by decide) (fun as Qp Ep h => by obtain ⟨_, _, rfl, _⟩ := h; rfl) (fun cdv A outer s H E Bh Bt Ep hr hx => JSs.nox ?_) hp_llettersN
  exact jss_cons (js_set (i := 3) sc_lletters.nd rfl (by first | exact Or.inl rfl | exact Or.inr rfl) (je_lst (ja_nil)))
    (jss_cons (js_for PassesOwn.never rfl (ji_rng1 (by rfl) B.b_range (ja_cons (jv 1) (ja_nil))) (jg_name (i := 4) sc_lletters.nd rfl (by first | exact Or.inl rfl | exact Or.inr rfl)) (jss_cons (js_set (i := 5) sc_lletters.nd rfl (by first | exact Or.inl rfl | exact Or.inr rfl) (je_cal C_draw hr (by rfl) (ja_cons (jv 0) (ja_cons (je_fz (jv 2)) (ja_nil)))))
    (jss_cons (js_if (jw_pt (jw_and (jb_ne hr (jv 3) (je_lst (ja_nil))) (jw_and1 (jb_gt (je_cal C_draw hr (by rfl) (ja_cons (jv 0) (ja_cons (je_fz (je_int)) (ja_nil)))) (je_int))))) (jss_one (js_set (i := 5) sc_lletters.nd rfl (by first | exact Or.inl rfl | exact Or.inr rfl) (je_cb (call_max2 rfl) lc_max2 (by rfl) B.b_max (by decide +kernel) (ja_cons (je_int) (ja_cons (je_cb (call_min2 rfl) lc_min2 (by rfl) B.b_min (by decide +kernel) (ja_cons (je_sub (jv 2) (je_int)) (ja_cons (je_sub (je_add (je_ix (jv 3) (je_neg (je_int)) (fun _ _ => rfl)) (je_cal C_draw hr (by rfl) (ja_cons (jv 0) (ja_cons (je_fz (je_int)) (ja_nil))))) (je_int)) (ja_nil)))) (ja_nil)))))) (jss_nil))
    (jss_one (js_expr (je_mt PySem.F.plainAttrs_list PySem.F.slot_list_append PySem.F.type_list_append mt_append mv_append (jv 3) (ja_cons (jv 5) (ja_nil))))))))
    (jss_one (js_ret (je_ct call_tuple_of lc_tupleOf (by rfl) B.b_tuple (by decide +kernel) (ja_cons (jv 3) (ja_nil))))))
abbrev s_lsingle : Stmt := topS 38
abbrev N_lsingle : List Str := ["_law_deal_here", "_law_order_here", "_law_many", "_law_place", "_law_turn", "_law_standing", "_law_word_here", "_law_some", "_law_k", "_law_walker", "_law_i", "_law_j"]
theorem sc_lsingle : FnScope N_lsingle ["_law_deal_here", "_law_order_here"] (defScope s_lsingle) := ⟨rfl, rfl, rfl, by decide +kernel, rfl, by decide +kernel, by decide +kernel⟩
theorem ok_lsingle (F : FnP K "_law_single" s_lsingle f fd) (B : Bl mg) (C_draw : Cal P w K mg base CX0 1 "_law_draw" ["_law_deal_here", "_law_many"] (LSp K T psp_draw)) : FnOk P w K mg base CX0 2 f fd ["_law_deal_here", "_law_order_here"] (LSp K T psp_lsingle) := by
  refine fn_ok (p := fun _ => p_lsingle) F sc_lsingle rfl rfl (by decide) (fun as Qp Ep h => by obtain ⟨_, rfl, _⟩ := h; rfl) (fun cdv A outer s H E Bh Bt Ep hr hx => JSs.nox ?_) hp_lsingle
  exact jss_cons (js_set (i := 2) sc_lsingle.nd rfl (by first | exact Or.inl rfl | exact Or.inr rfl) (je_cb call_len lc_len (by rfl) B.b_len (by decide +kernel) (ja_cons (jv 1) (ja_nil))))
    (jss_cons (js_par2 rfl sc_lsingle.nd rfl rfl (by decide) rfl rfl (ja_cons (je_lstRg rfl (by rfl) B.b_list (jr_1 (by rfl) B.b_range (jv 2))) (ja_cons (je_lst (ja_nil)) (ja_nil))) (by rfl))
    (jss_cons (js_setLc (i := 3) (own := [("_law_walker", 9)]) rfl sc_lsingle.nd rfl rfl (sw_true rfl rfl rfl (by decide +kernel)) (ji_rng1 (by rfl) B.b_range (ja_cons (jv 2) (ja_nil))) (blkOk_by (N := N_lsingle) (sc := defScope s_lsingle) (by decide +kernel)) (fun _ _ _ _ _ => jg_name (i := 9) sc_lsingle.nd rfl (by first | exact Or.inl rfl | exact Or.inr rfl)) (fun _ _ _ _ _ => jts_nil) (fun _ _ _ _ _ => je_mt PySem.F.plainAttrs_list PySem.F.slot_list_index PySem.F.type_list_index mt_index mv_index (jv 1) (ja_cons (jv 9) (ja_nil))))
    (jss_cons (js_for PassesOwn.never rfl (ji_rng1 (by rfl) B.b_range (ja_cons (je_fdiv (je_mul (jv 2) (je_sub (jv 2) (je_int))) (je_int)) (ja_nil))) (jg_name (i := 4) sc_lsingle.nd rfl (by first | exact Or.inl rfl | exact Or.inr rfl)) (jss_cons (js_set (i := 7) sc_lsingle.nd rfl (by first | exact Or.inl rfl | exact Or.inr rfl) (je_lst (ja_nil)))
    (jss_cons (js_for PassesOwn.never rfl (ji_rng1 (by rfl) B.b_range (ja_cons (je_sub (jv 2) (je_int)) (ja_nil))) (jg_name (i := 8) sc_lsingle.nd rfl (by first | exact Or.inl rfl | exact Or.inr rfl)) (jss_cons (js_par2 rfl sc_lsingle.nd rfl rfl (by decide) rfl rfl (ja_cons (je_ix (jv 5) (jv 8) (fun _ _ => rfl)) (ja_cons (je_ix (jv 5) (je_add (jv 8) (je_int)) (fun _ _ => rfl)) (ja_nil))) (by rfl))
    (jss_one (js_if (jw_pt (jw_and (jb_lt (jv 10) (jv 11)) (jw_and1 (jb_gt (je_ix (jv 3) (jv 10) (fun _ _ => rfl)) (je_ix (jv 3) (jv 11) (fun _ _ => rfl)))))) (jss_one (js_expr (je_mt PySem.F.plainAttrs_list PySem.F.slot_list_append PySem.F.type_list_append mt_append mv_append (jv 7) (ja_cons (jv 8) (ja_nil))))) (jss_nil)))))
    (jss_one (js_if (jb_ne hr (jv 7) (je_lst (ja_nil))) (jss_cons (js_set (i := 8) sc_lsingle.nd rfl (by first | exact Or.inl rfl | exact Or.inr rfl) (je_ix (jv 7) (je_cal C_draw hr (by rfl) (ja_cons (jv 0) (ja_cons (je_fz (je_cb call_len lc_len (by rfl) B.b_len (by decide +kernel) (ja_cons (jv 7) (ja_nil)))) (ja_nil)))) (fun _ _ => rfl)))
    (jss_cons (js_asg (je_tup (ja_cons (je_ix (jv 5) (je_add (jv 8) (je_int)) (fun _ _ => rfl)) (ja_cons (je_ix (jv 5) (jv 8) (fun _ _ => rfl)) (ja_nil)))) (jg_tup rfl (jgs_cons (jg_sub (jv 5) (jv 8)) (jgs_cons (jg_sub (jv 5) (je_add (jv 8) (je_int))) (jgs_nil)))))
    (jss_one (js_expr (je_mt PySem.F.plainAttrs_list PySem.F.slot_list_append PySem.F.type_list_append mt_append mv_append (jv 6) (ja_cons (jv 8) (ja_nil))))))) (jss_nil))))))
    (jss_one (js_ret (je_ct call_tuple_of lc_tupleOf (by rfl) B.b_tuple (by decide +kernel) (ja_cons (jv 6) (ja_nil))))))))
abbrev s_lissingle : Stmt := topS 39
abbrev N_lissingle : List Str := ["_law_word_here", "_law_order_here", "_law_k"]
theorem sc_lissingle : FnScope N_lissingle ["_law_word_here"] (defScope s_lissingle) := ⟨rfl, rfl, rfl, by decide +kernel, rfl, by decide +kernel, by decide +kernel⟩
theorem ok_lissingle (F : FnP K "_law_is_single" s_lissingle f fd) (B : Bl mg)  : FnOk P w K mg base CX0 1 f fd ["_law_word_here"] (LSp K T psp_lissingle) := by
  refine fn_ok (p := fun _ => p_lissingle) F sc_lissingle rfl rfl (by decide) (fun as Qp Ep h => by obtain ⟨_, rfl, _⟩ := h; rfl) (fun cdv A outer s H E Bh Bt Ep hr hx => JSs.nox ?_) hp_lissingle
  exact jss_cons (js_set (i := 1) sc_lissingle.nd rfl (by first | exact Or.inl rfl | exact Or.inr rfl) (je_lstRg rfl (by rfl) B.b_list (jr_1 (by rfl) B.b_range (je_cb (cr_max rfl) lc_maxL (by rfl) B.b_max (by decide +kernel) (ja_cons (je_add (je_lc (own := [("_law_k", 2)]) rfl sc_lissingle.nd (ji_seq (jv 0)) (blkOk_by (N := N_lissingle) (sc := defScope s_lissingle) (by decide +kernel)) (fun _ _ _ _ _ => jg_name (i := 2) sc_lissingle.nd rfl (by first | exact Or.inl rfl | exact Or.inr rfl)) (fun _ _ _ _ _ => jts_nil) (fun _ _ _ _ _ => je_add (jv 2) (je_int))) (je_lst (ja_cons (je_int) (ja_nil)))) (ja_nil))))))
    (jss_cons (js_for PassesOwn.never rfl (ji_seq (jv 0)) (jg_name (i := 2) sc_lissingle.nd rfl (by first | exact Or.inl rfl | exact Or.inr rfl)) (jss_cons (js_if (jb_gt (je_ix (jv 1) (jv 2) (fun _ _ => rfl)) (je_ix (jv 1) (je_add (jv 2) (je_int)) (fun _ _ => rfl))) (jss_one (js_ret (je_bl))) (jss_nil))
    (jss_one (js_asg (je_tup (ja_cons (je_ix (jv 1) (je_add (jv 2) (je_int)) (fun _ _ => rfl)) (ja_cons (je_ix (jv 1) (jv 2) (fun _ _ => rfl)) (ja_nil)))) (jg_tup rfl (jgs_cons (jg_sub (jv 1) (jv 2)) (jgs_cons (jg_sub (jv 1) (je_add (jv 2) (je_int))) (jgs_nil))))))))
    (jss_one (js_ret (je_bl))))
abbrev s_lneed : Stmt := topS 40
abbrev N_lneed : List Str := ["_law_word_here", "_law_k"]
theorem sc_lneed : FnScope N_lneed ["_law_word_here"] (defScope s_lneed) := ⟨rfl, rfl, rfl, by decide +kernel, rfl, by decide +kernel, by decide +kernel⟩
theorem ok_lneed (F : FnP K "_law_need" s_lneed f fd) (B : Bl mg)  : FnOk P w K mg base CX0 1 f fd ["_law_word_here"] (LSp K T psp_lneed) := by
  refine fn_ok (p := fun _ => p_lneed) F sc_lneed rfl rfl (by decide) (fun as Qp Ep h => by obtain ⟨_, rfl, _⟩ := h; rfl) (fun cdv A outer s H E Bh Bt Ep hr hx => JSs.nox ?_) hp_lneed
  exact jss_one (js_ret (je_cb (cr_max rfl) lc_maxL (by rfl) B.b_max (by decide +kernel) (ja_cons (je_add (je_lc (own := [("_law_k", 1)]) rfl sc_lneed.nd (ji_seq (jv 0)) (blkOk_by (N := N_lneed) (sc := defScope s_lneed) (by decide +kernel)) (fun _ _ _ _ _ => jg_name (i := 1) sc_lneed.nd rfl (by first | exact Or.inl rfl | exact Or.inr rfl)) (fun _ _ _ _ _ => jts_nil) (fun _ _ _ _ _ => je_add (jv 1) (je_int))) (je_lst (ja_cons (je_int) (ja_nil)))) (ja_nil))))
abbrev s_ltold24 : Stmt := topS 41
abbrev N_ltold24 : List Str := ["_law_one", "_law_other", "_law_found", "e"]
theorem sc_ltold24 : FnScope N_ltold24 ["_law_one", "_law_other"] (defScope s_ltold24) := ⟨rfl, rfl, rfl, by decide +kernel, rfl, by decide +kernel, by decide +kernel⟩
theorem ok_ltold24 (F : FnP K "_law_told" s_ltold24 f fd) (B : Bl mg) (C_joinw : Cal P w K mg base (L2.CX P w) 8 "join_words" ["one", "other"] (LSp K T (psp_joinw cNoOrder))) (K_NoOrder : mg "NoOrder" = some (.ref cNoOrder)) (K_RoadError : mg "RoadError" = some (.ref cRoadError)) (K_NoMove : mg "NoMove" = some (.ref cNoMove)) (K_NoPassing : mg "NoPassing" = some (.ref cNoPassing)) (TF : ToldG K cNoOrder cRoadError [cNoMove, cNoPassing]) (XF : XfC K cNoOrder) (NO_at : PySem.W.findIn K (.ref cNoOrder) "at" = some none) : FnOk P w K mg base CX0 9 f fd ["_law_one", "_law_other"] (LSp K T psp_ltold24) := by
  refine fn_ok (p := fun _ => p_ltold24 cNoOrder) F sc_ltold24 rfl rfl (by decide) (fun as Qp Ep h => by obtain ⟨_, _, rfl, _⟩ := h; rfl) (fun cdv A outer s H E Bh Bt Ep hr hx => ?_) (hp_ltold24 cNoOrder)
  exact jss_cons (js_set (i := 2) sc_ltold24.nd rfl (by first | exact Or.inl rfl | exact Or.inr rfl) (je_non))
    (jss_cons (js_try (i := 3) (j := 2) rfl rfl sc_ltold24.nd rfl rfl ⟨rfl, by decide, Or.inl K_RoadError⟩ rfl (by first | exact Or.inl rfl | exact Or.inr rfl) (cat_ok TF) (fun W pn xe tk => jx_tup2 (je_str) (jx_call C_joinw hr tk (by rfl) (ja_cons (je_fz (jv 0)) (ja_cons (je_fz (jv 1)) (ja_nil))))) (fun a oe cls d pn hz hf => jss_cons (js_set (i := 2) sc_ltold24.nd rfl (by first | exact Or.inl rfl | exact Or.inr rfl) (je_tup (ja_cons (je_str) (ja_cons (je_int) (ja_nil)))))
    (jss_one (js_if (jw_pt (jw_and (jb_val (je_isX hz hf (sb_one TF) (.own _) (by rfl) B.b_isinstance (pv 3) (pe_glob (v := .ref cNoOrder) (by rfl) K_NoOrder rfl))) (jw_and1 (jb_not (jb_val (je_isXT hz hf (sb_two TF) (clsV_all _) (by rfl) B.b_isinstance (pv 3) (pe_tup (pa_cons (pe_glob (v := .ref cNoMove) (by rfl) K_NoMove rfl) (pa_cons (pe_glob (v := .ref cNoPassing) (by rfl) K_NoPassing rfl) (pa_nil)))) (by show 2 ≤ sizeLine; decide))))))) (jss_one (js_set (i := 2) sc_ltold24.nd rfl (by first | exact Or.inl rfl | exact Or.inr rfl) (je_tup (ja_cons (je_str) (ja_cons (je_xf XF NO_at hz hf (pv 3)) (ja_nil)))))) (jss_nil)))))
    (jss_one (js_ret (jv 2))))
abbrev s_lisfree : Stmt := topS 42
abbrev N_lisfree : List Str := ["_law_kinds", "_law_word_here", "_law_order_here", "_law_k"]
theorem sc_lisfree : FnScope N_lisfree ["_law_kinds", "_law_word_here"] (defScope s_lisfree) := ⟨rfl, rfl, rfl, by decide +kernel, rfl, by decide +kernel, by decide +kernel⟩
theorem ok_lisfree (F : FnP K "_law_is_free" s_lisfree f fd) (B : Bl mg)  : FnOk P w K mg base CX0 1 f fd ["_law_kinds", "_law_word_here"] (LSp K T psp_lisfree) := by
  refine fn_ok (p := fun _ => p_lisfree) F sc_lisfree rfl rfl (by decide) (fun as Qp Ep h => by obtain ⟨_, _, rfl, _⟩ := h; rfl) (fun cdv A outer s H E Bh Bt Ep hr hx => JSs.nox ?_) hp_lisfree
  exact jss_cons (js_set (i := 2) sc_lisfree.nd rfl (by first | exact Or.inl rfl | exact Or.inr rfl) (je_lstRg rfl (by rfl) B.b_list (jr_1 (by rfl) B.b_range (je_cb call_len lc_len (by rfl) B.b_len (by decide +kernel) (ja_cons (jv 0) (ja_nil))))))
    (jss_cons (js_for PassesOwn.never rfl (ji_seq (jv 1)) (jg_name (i := 3) sc_lisfree.nd rfl (by first | exact Or.inl rfl | exact Or.inr rfl)) (jss_cons (js_if (jw_pt (jw_or (jb_ge (je_add (jv 3) (je_int)) (je_cb call_len lc_len (by rfl) B.b_len (by decide +kernel) (ja_cons (jv 2) (ja_nil)))) (jw_or1 (jb_eq hr (je_ix (jv 0) (je_ix (jv 2) (jv 3) (fun _ _ => rfl)) (fun _ _ => rfl)) (je_ix (jv 0) (je_ix (jv 2) (je_add (jv 3) (je_int)) (fun _ _ => rfl)) (fun _ _ => rfl)))))) (jss_one (js_ret (je_bl))) (jss_nil))
    (jss_one (js_asg (je_tup (ja_cons (je_ix (jv 2) (je_add (jv 3) (je_int)) (fun _ _ => rfl)) (ja_cons (je_ix (jv 2) (jv 3) (fun _ _ => rfl)) (ja_nil)))) (jg_tup rfl (jgs_cons (jg_sub (jv 2) (jv 3)) (jgs_cons (jg_sub (jv 2) (je_add (jv 3) (je_int))) (jgs_nil))))))))
    (jss_one (js_ret (je_bl))))
abbrev s_lismove : Stmt := topS 43
abbrev N_lismove : List Str := ["_law_move", "_law_one"]
theorem sc_lismove : FnScope N_lismove ["_law_move"] (defScope s_lismove) := ⟨rfl, rfl, rfl, by decide +kernel, rfl, by decide +kernel, by decide +kernel⟩
theorem ok_lismove (F : FnP K "_law_is_move" s_lismove f fd) (B : Bl mg)  : FnOk P w K mg base CX0 1 f fd ["_law_move"] (LSp K T psp_lismove) := by
  refine fn_ok (p := fun _ => p_lismove) F sc_lismove rfl rfl (by decide) (fun as Qp Ep h => by obtain ⟨_, rfl, _⟩ := h; rfl) (fun cdv A outer s H E Bh Bt Ep hr hx => JSs.nox ?_) hp_lismove
  exact jss_cons (js_if (jw_pt (jw_or (jb_not (jb_val (je_isi (by unfold TyOk; decide) (by rfl) B.b_isinstance (pe_bltn (v := .ty "tuple") (by rfl) B.b_tuple (by decide +kernel) rfl) (jv 0)))) (jw_or (jb_cmp op_notIn_seq lc_inT (je_cb call_len lc_len (by rfl) B.b_len (by decide +kernel) (ja_cons (jv 0) (ja_nil))) (je_tup (ja_cons (je_int) (ja_cons (je_int) (ja_nil)))) (by rfl)) (jw_or1 (jb_ne hr (je_eq hr (je_cb call_len lc_len (by rfl) B.b_len (by decide +kernel) (ja_cons (jv 0) (ja_nil))) (je_int)) (je_eq hr (je_ix (jv 0) (je_int) (fun _ _ => rfl)) (je_str))))))) (jss_one (js_ret (je_bl))) (jss_nil))
    (jss_cons (js_if (jb_cmp op_notIn_seq lc_inT (je_ix (jv 0) (je_int) (fun _ _ => rfl)) (je_tup (ja_cons (je_str) (ja_cons (je_str) (ja_cons (je_str) (ja_cons (je_str) (ja_nil)))))) (by rfl)) (jss_one (js_ret (je_bl))) (jss_nil))
    (jss_one (js_ret (je_cb (cr_all rfl) lc_all (by rfl) B.b_all (by decide +kernel) (ja_cons (je_lc (own := [("_law_one", 1)]) rfl sc_lismove.nd (ji_seq (je_slice (jv 0) (jo_some (je_int)) (jo_none))) (blkOk_by (N := N_lismove) (sc := defScope s_lismove) (by decide +kernel)) (fun _ _ _ _ _ => jg_name (i := 1) sc_lismove.nd rfl (by first | exact Or.inl rfl | exact Or.inr rfl)) (fun _ _ _ _ _ => jts_nil) (fun _ _ _ _ _ => je_and (je_isi (by unfold TyOk; decide) (by rfl) B.b_isinstance (pe_bltn (v := .ty "int") (by rfl) B.b_int (by decide +kernel) rfl) (jv 1)) (je_one (je_not (je_isi (by unfold TyOk; decide) (by rfl) B.b_isinstance (pe_bltn (v := .ty "bool") (by rfl) B.b_bool (by decide +kernel) rfl) (jv 1)))))) (ja_nil))))))
abbrev s_lright24 : Stmt := topS 44
abbrev N_lright24 : List Str := ["_law_one", "_law_other", "_law_kinds", "_law_need_here", "_law_found", "_law_unlike", "_law_step", "_law_first", "_law_second", "_law_word_here", "_law_plain", "_law_at", "_law_move"]
theorem sc_lright24 : FnScope N_lright24 ["_law_one", "_law_other", "_law_kinds"] (defScope s_lright24) := ⟨rfl, rfl, rfl, by decide +kernel, rfl, by decide +kernel, by decide +kernel⟩
theorem ok_lright24 (F : FnP K "_law_right" s_lright24 f fd) (B : Bl mg) (C_lneed : Cal P w K mg base CX0 1 "_law_need" ["_law_word_here"] (LSp K T psp_lneed)) (C_lorder : Cal P w K mg base CX0 1 "_law_order" ["_law_many", "_law_word_here"] (LSp K T psp_lorder)) (C_ltold24 : Cal P w K mg base CX0 9 "_law_told" ["_law_one", "_law_other"] (LSp K T psp_ltold24)) (C_alike : Cal P w K mg base CX0 1 "_law_alike" ["_law_found", "_law_due"] (LSp K T psp_alike)) (C_lissingle : Cal P w K mg base CX0 1 "_law_is_single" ["_law_word_here"] (LSp K T psp_lissingle)) (C_lismove : Cal P w K mg base CX0 1 "_law_is_move" ["_law_move"] (LSp K T psp_lismove)) (C_lbehind : Cal P w K mg base CX0 1 "_law_behind_move" ["_law_word_here", "_law_move"] (LSp K T psp_lbehind)) (C_lisfree : Cal P w K mg base CX0 1 "_law_is_free" ["_law_kinds", "_law_word_here"] (LSp K T psp_lisfree)) : FnOk P w K mg base CX0 10 f fd ["_law_one", "_law_other", "_law_kinds"] (LSp K T psp_lright24) := by
  refine fn_ok (p := fun _ => p_lright24) F sc_lright24 rfl rfl (by decide) (fun as Qp Ep h => by obtain ⟨_, _, _, rfl, _⟩ := h; rfl) (fun cdv A outer s H E Bh Bt Ep hr hx => JSs.nox ?_) hp_lright24
  exact jss_cons (js_set (i := 3) sc_lright24.nd rfl (by first | exact Or.inl rfl | exact Or.inr rfl) (je_cb (call_max2 rfl) lc_max2 (by rfl) B.b_max (by decide +kernel) (ja_cons (je_cal C_lneed hr (by rfl) (ja_cons (je_fz (jv 0)) (ja_nil))) (ja_cons (je_cal C_lneed hr (by rfl) (ja_cons (je_fz (jv 1)) (ja_nil))) (ja_nil)))))
    (jss_cons (js_parT (xs := []) (is := [7, 8]) (ja_cons (je_cal C_lorder hr (by rfl) (ja_cons (je_fz (jv 3)) (ja_cons (je_fz (jv 0)) (ja_nil)))) (ja_cons (je_cal C_lorder hr (by rfl) (ja_cons (je_fz (jv 3)) (ja_cons (je_fz (jv 1)) (ja_nil)))) (ja_nil))) (pg_tup rfl (pgs_cons (pg_name (i := 7) sc_lright24.nd rfl (by first | exact Or.inl rfl | exact Or.inr rfl)) (pgs_cons (pg_name (i := 8) sc_lright24.nd rfl (by first | exact Or.inl rfl | exact Or.inr rfl)) (pgs_nil)))) (par_goS (par_goS (par_go0))))
    (jss_cons (js_set (i := 4) sc_lright24.nd rfl (by first | exact Or.inl rfl | exact Or.inr rfl) (je_cal C_ltold24 hr (by rfl) (ja_cons (je_fz (jv 0)) (ja_cons (je_fz (jv 1)) (ja_nil)))))
    (jss_cons (js_setLc (i := 5) (own := [("_law_at", 11)]) rfl sc_lright24.nd rfl rfl (sw_true rfl rfl rfl (by decide +kernel)) (ji_rng1 (by rfl) B.b_range (ja_cons (jv 3) (ja_nil))) (blkOk_by (N := N_lright24) (sc := defScope s_lright24) (by decide +kernel)) (fun _ _ _ _ _ => jg_name (i := 11) sc_lright24.nd rfl (by first | exact Or.inl rfl | exact Or.inr rfl)) (fun _ _ _ _ _ => jts_one (jb_ne hr (je_ix (jv 7) (jv 11) (fun _ _ => rfl)) (je_ix (jv 8) (jv 11) (fun _ _ => rfl)))) (fun _ _ _ _ _ => jv 11))
    (jss_cons (js_if (jb_ne hr (jv 5) (je_lst (ja_nil))) (jss_one (js_ret (je_cal C_alike hr (by rfl) (ja_cons (je_fz (jv 4)) (ja_cons (je_fz (je_tup (ja_cons (je_str) (ja_cons (je_ix (jv 5) (je_int) (fun _ _ => rfl)) (ja_nil))))) (ja_nil)))))) (jss_nil))
    (jss_cons (js_if (jw_pt (jw_or (jb_ne hr (je_ix (jv 4) (je_int) (fun _ _ => rfl)) (je_str)) (jw_or1 (jb_not (jb_val (je_isi (by unfold TyOk; decide) (by rfl) B.b_isinstance (pe_bltn (v := .ty "tuple") (by rfl) B.b_tuple (by decide +kernel) rfl) (je_ix (jv 4) (je_int) (fun _ _ => rfl)))))))) (jss_one (js_ret (je_bl))) (jss_nil))
    (jss_cons (js_par2 rfl sc_lright24.nd rfl rfl (by decide) rfl rfl (ja_cons (jv 0) (ja_cons (je_and (je_cal C_lissingle hr (by rfl) (ja_cons (je_fz (jv 0)) (ja_nil))) (je_one (je_cal C_lissingle hr (by rfl) (ja_cons (je_fz (jv 1)) (ja_nil))))) (ja_nil))) (by rfl))
    (jss_cons (js_set (i := 6) sc_lright24.nd rfl (by first | exact Or.inl rfl | exact Or.inr rfl) (je_add (je_int) (je_mul (je_int) (je_ct call_int1 lc_int1 (by rfl) B.b_int (by decide +kernel) (ja_cons (je_gt (je_cb call_len lc_len (by rfl) B.b_len (by decide +kernel) (ja_cons (je_ix (jv 4) (je_int) (fun _ _ => rfl)) (ja_nil))) (je_int)) (ja_nil))))))
    (jss_cons (js_for PassesOwn.never rfl (ji_enum (by rfl) B.b_enumerate (ja_cons (je_ix (jv 4) (je_int) (fun _ _ => rfl)) (ja_nil))) (jg_tup rfl (jgs_cons (jg_name (i := 11) sc_lright24.nd rfl (by first | exact Or.inl rfl | exact Or.inr rfl)) (jgs_cons (jg_name (i := 12) sc_lright24.nd rfl (by first | exact Or.inl rfl | exact Or.inr rfl)) (jgs_nil)))) (jss_cons (js_if (jw_pt (jw_or (jb_not (jb_val (je_cal C_lismove hr (by rfl) (ja_cons (je_fz (jv 12)) (ja_nil))))) (jw_or1 (jw_pt (jw_and (jb_val (jv 10)) (jw_and1 (jb_cmp op_in_seq lc_inT (je_ix (jv 12) (je_int) (fun _ _ => rfl)) (je_tup (ja_cons (je_str) (ja_cons (je_str) (ja_nil)))) (by rfl)))))))) (jss_one (js_ret (je_bl))) (jss_nil))
    (jss_cons (js_set (i := 9) sc_lright24.nd rfl (by first | exact Or.inl rfl | exact Or.inr rfl) (je_cal C_lbehind hr (by rfl) (ja_cons (je_fz (jv 9)) (ja_cons (je_fz (jv 12)) (ja_nil)))))
    (jss_one (js_if (jw_pt (jw_or (jb_is (jv 9) (je_non)) (jw_or1 (jw_pt (jw_and (jb_isnot (jv 2) (je_non)) (jw_and (jb_eq hr (je_mod (jv 11) (jv 6)) (je_int)) (jw_and1 (jb_not (jb_val (je_cal C_lisfree hr (by rfl) (ja_cons (je_fz (jv 2)) (ja_cons (je_fz (jv 9)) (ja_nil))))))))))))) (jss_one (js_ret (je_bl))) (jss_nil))))))
    (jss_one (js_ret (je_eq hr (jv 9) (jv 1))))))))))))
abbrev s_lmoved24 : Stmt := topS 45
abbrev N_lmoved24 : List Str := ["_law_deal_here", "_law_kinds", "_law_word_here", "_law_turn", "_law_move", "_law_behind", "_law_at", "_law_name"]
theorem sc_lmoved24 : FnScope N_lmoved24 ["_law_deal_here", "_law_kinds", "_law_word_here"] (defScope s_lmoved24) := ⟨rfl, rfl, rfl, by decide +kernel, rfl, by decide +kernel, by decide +kernel⟩
theorem ok_lmoved24 (F : FnP K "_law_moved_on" s_lmoved24 f fd) (B : Bl mg) (C_draw : Cal P w K mg base CX0 1 "_law_draw" ["_law_deal_here", "_law_many"] (LSp K T psp_draw)) (C_lbehind : Cal P w K mg base CX0 1 "_law_behind_move" ["_law_word_here", "_law_move"] (LSp K T psp_lbehind)) (C_lisfree : Cal P w K mg base CX0 1 "_law_is_free" ["_law_kinds", "_law_word_here"] (LSp K T psp_lisfree)) : FnOk P w K mg base CX0 2 f fd ["_law_deal_here", "_law_kinds", "_law_word_here"] (LSp K T psp_lmoved24) := by
  refine fn_ok (p := fun _ => p_lmoved24) F sc_lmoved24 rfl rfl (by decide) (fun as Qp Ep h => by obtain ⟨_, _, rfl, _⟩ := h; rfl) (fun cdv A outer s H E Bh Bt Ep hr hx => JSs.nox ?_) hp_lmoved24
  exact jss_cons (js_for PassesOwn.never rfl (ji_rng1 (by rfl) B.b_range (ja_cons (je_cal C_draw hr (by rfl) (ja_cons (jv 0) (ja_cons (je_fz (je_int)) (ja_nil)))) (ja_nil))) (jg_name (i := 3) sc_lmoved24.nd rfl (by first | exact Or.inl rfl | exact Or.inr rfl)) (jss_cons (js_par2 rfl sc_lmoved24.nd rfl rfl (by decide) rfl rfl (ja_cons (je_cal C_draw hr (by rfl) (ja_cons (jv 0) (ja_cons (je_fz (je_add (je_cb call_len lc_len (by rfl) B.b_len (by decide +kernel) (ja_cons (jv 2) (ja_nil))) (je_int))) (ja_nil)))) (ja_cons (je_ix (je_lst (ja_cons (je_str) (ja_cons (je_str) (ja_cons (je_str) (ja_nil))))) (je_cal C_draw hr (by rfl) (ja_cons (jv 0) (ja_cons (je_fz (je_int)) (ja_nil)))) (fun _ _ => rfl)) (ja_nil))) (by rfl))
    (jss_cons (js_set (i := 4) sc_lmoved24.nd rfl (by first | exact Or.inl rfl | exact Or.inr rfl) (je_tup (ja_cons (jv 7) (ja_cons (jv 6) (ja_nil)))))
    (jss_cons (js_if (jb_eq hr (je_cal C_draw hr (by rfl) (ja_cons (jv 0) (ja_cons (je_fz (je_int)) (ja_nil)))) (je_int)) (jss_one (js_set (i := 4) sc_lmoved24.nd rfl (by first | exact Or.inl rfl | exact Or.inr rfl) (je_tup (ja_cons (je_str) (ja_cons (jv 6) (ja_cons (je_cal C_draw hr (by rfl) (ja_cons (jv 0) (ja_cons (je_fz (je_cb (call_max2 rfl) lc_max2 (by rfl) B.b_max (by decide +kernel) (ja_cons (je_int) (ja_cons (je_sub (je_cb call_len lc_len (by rfl) B.b_len (by decide +kernel) (ja_cons (jv 1) (ja_nil))) (je_int)) (ja_nil))))) (ja_nil)))) (ja_nil))))))) (jss_nil))
    (jss_cons (js_set (i := 5) sc_lmoved24.nd rfl (by first | exact Or.inl rfl | exact Or.inr rfl) (je_cal C_lbehind hr (by rfl) (ja_cons (je_fz (jv 2)) (ja_cons (je_fz (jv 4)) (ja_nil)))))
    (jss_one (js_if (jw_pt (jw_and (jb_isnot (jv 5) (je_non)) (jw_and1 (jb_val (je_cal C_lisfree hr (by rfl) (ja_cons (je_fz (jv 1)) (ja_cons (je_fz (jv 5)) (ja_nil)))))))) (jss_one (js_set (i := 2) sc_lmoved24.nd rfl (by first | exact Or.inl rfl | exact Or.inr rfl) (jv 5))) (jss_nil))))))))
    (jss_one (js_ret (jv 2)))
abbrev s_law24 : Stmt := topS 46
abbrev N_law24 : List Str := ["_law_script", "_law_deal_here", "_law_order_here", "_law_large", "_law_kinds", "_law_free", "_law_more", "_law_wide", "_law_some", "_law_one", "_law_other", "_law_first", "_law_second", "_law_by", "_law_k", "_law_turn"]
theorem sc_law24 : FnScope N_law24 ["_law_script"] (defScope s_law24) := ⟨rfl, rfl, rfl, by decide +kernel, rfl, by decide +kernel, by decide +kernel⟩
theorem ok_law24 (F : FnP K "law" s_law24 f fd) (B : Bl mg) (C_deal : Cal P w K mg base CX0 1 "_law_deal" ["_law_script", "_law_base"] (LSp K T psp_deal)) (C_mixed : Cal P w K mg base CX0 2 "_law_mixed" ["_law_deal_here", "_law_many"] (LSp K T psp_mixed)) (C_draw : Cal P w K mg base CX0 1 "_law_draw" ["_law_deal_here", "_law_many"] (LSp K T psp_draw)) (C_lsingle : Cal P w K mg base CX0 2 "_law_single" ["_law_deal_here", "_law_order_here"] (LSp K T psp_lsingle)) (C_lword : Cal P w K mg base CX0 2 "_law_word" ["_law_deal_here", "_law_kinds", "_law_most", "_law_is_free_here"] (LSp K T psp_lword)) (C_lmoved24 : Cal P w K mg base CX0 2 "_law_moved_on" ["_law_deal_here", "_law_kinds", "_law_word_here"] (LSp K T psp_lmoved24)) (C_lletters : Cal P w K mg base CX0 2 "_law_letters" ["_law_deal_here", "_law_many", "_law_wide"] (LSp K T psp_llettersN)) (C_lright24 : Cal P w K mg base CX0 10 "_law_right" ["_law_one", "_law_other", "_law_kinds"] (LSp K T psp_lright24)) (C_joinw : Cal P w K mg base (L2.CX P w) 8 "join_words" ["one", "other"] (LSp K T (psp_joinw cNoOrder))) : FnOk P w K mg base CX0 11 f fd ["_law_script"] (LSp K T psp_law) := by
  refine fn_ok (p := fun _ => p_law24 cNoOrder) F sc_law24 rfl rfl (by decide) (fun as Qp Ep h => by obtain ⟨_, rfl, _⟩ := h; rfl) (fun cdv A outer s H E Bh Bt Ep hr hx => JSs.nox ?_) (hp_law24 cNoOrder)
  exact jss_cons (js_set (i := 1) sc_law24.nd rfl (by first | exact Or.inl rfl | exact Or.inr rfl) (je_cal C_deal hr (by rfl) (ja_cons (jv 0) (ja_cons (je_fz (je_int)) (ja_nil)))))
    (jss_cons (js_set (i := 2) sc_law24.nd rfl (by first | exact Or.inl rfl | exact Or.inr rfl) (je_cal C_mixed hr (by rfl) (ja_cons (jv 1) (ja_cons (je_fz (je_add (je_int) (je_cal C_draw hr (by rfl) (ja_cons (jv 1) (ja_cons (je_fz (je_int)) (ja_nil)))))) (ja_nil)))))
    (jss_cons (js_par2 rfl sc_law24.nd rfl rfl (by decide) rfl rfl (ja_cons (je_cal C_lsingle hr (by rfl) (ja_cons (jv 1) (ja_cons (jv 2) (ja_nil)))) (ja_cons (je_cal C_lsingle hr (by rfl) (ja_cons (jv 1) (ja_cons (jv 2) (ja_nil)))) (ja_nil))) (by rfl))
    (jss_cons (js_set (i := 3) sc_law24.nd rfl (by first | exact Or.inl rfl | exact Or.inr rfl) (je_ct call_int1 lc_int1 (by rfl) B.b_int (by decide +kernel) (ja_cons (je_eq hr (je_cal C_draw hr (by rfl) (ja_cons (jv 1) (ja_cons (je_fz (je_int)) (ja_nil)))) (je_int)) (ja_nil))))
    (jss_cons (js_setLc (i := 4) (own := [("_law_k", 14)]) rfl sc_law24.nd rfl rfl (sw_true rfl rfl rfl (by decide +kernel)) (ji_rng1 (by rfl) B.b_range (ja_cons (je_add (je_int) (je_cal C_draw hr (by rfl) (ja_cons (jv 1) (ja_cons (je_fz (je_ix (je_lst (ja_cons (je_int) (ja_cons (je_int) (ja_nil)))) (jv 3) (fun _ _ => rfl))) (ja_nil))))) (ja_nil))) (blkOk_by (N := N_law24) (sc := defScope s_law24) (by decide +kernel)) (fun _ _ _ _ _ => jg_name (i := 14) sc_law24.nd rfl (by first | exact Or.inl rfl | exact Or.inr rfl)) (fun _ _ _ _ _ => jts_nil) (fun _ _ _ _ _ => je_cal C_draw hr (by rfl) (ja_cons (jv 1) (ja_cons (je_fz (je_int)) (ja_nil)))))
    (jss_cons (js_set (i := 5) sc_law24.nd rfl (by first | exact Or.inl rfl | exact Or.inr rfl) (je_cal C_lword hr (by rfl) (ja_cons (jv 1) (ja_cons (je_fz (jv 4)) (ja_cons (je_fz (je_cal C_draw hr (by rfl) (ja_cons (jv 1) (ja_cons (je_fz (je_ix (je_lst (ja_cons (je_int) (ja_cons (je_int) (ja_nil)))) (jv 3) (fun _ _ => rfl))) (ja_nil))))) (ja_cons (je_fz (je_bl)) (ja_nil)))))))
    (jss_cons (js_set (i := 6) sc_law24.nd rfl (by first | exact Or.inl rfl | exact Or.inr rfl) (je_cal C_lmoved24 hr (by rfl) (ja_cons (jv 1) (ja_cons (je_fz (jv 4)) (ja_cons (je_fz (jv 5)) (ja_nil))))))
    (jss_cons (js_set (i := 7) sc_law24.nd rfl (by first | exact Or.inl rfl | exact Or.inr rfl) (je_add (je_int) (je_cal C_draw hr (by rfl) (ja_cons (jv 1) (ja_cons (je_fz (je_ix (je_lst (ja_cons (je_int) (ja_cons (je_int) (ja_nil)))) (je_cal C_draw hr (by rfl) (ja_cons (jv 1) (ja_cons (je_fz (je_int)) (ja_nil)))) (fun _ _ => rfl))) (ja_nil))))))
    (jss_cons (js_setLc (i := 8) (own := [("_law_turn", 15)]) rfl sc_law24.nd rfl rfl (sw_true rfl rfl rfl (by decide +kernel)) (ji_rng1 (by rfl) B.b_range (ja_cons (je_int) (ja_nil))) (blkOk_by (N := N_law24) (sc := defScope s_law24) (by decide +kernel)) (fun _ _ _ _ _ => jg_name (i := 15) sc_law24.nd rfl (by first | exact Or.inl rfl | exact Or.inr rfl)) (fun _ _ _ _ _ => jts_nil) (fun _ _ _ _ _ => je_cal C_lletters hr (by rfl) (ja_cons (jv 1) (ja_cons (je_fz (je_cal C_draw hr (by rfl) (ja_cons (jv 1) (ja_cons (je_fz (je_int)) (ja_nil))))) (ja_cons (je_fz (jv 7)) (ja_nil))))))
    (jss_cons (js_for PassesOwn.never rfl (ji_seq (je_tup (ja_cons (je_tup (ja_cons (jv 9) (ja_cons (jv 10) (ja_cons (je_non) (ja_nil))))) (ja_cons (je_tup (ja_cons (jv 5) (ja_cons (jv 6) (ja_cons (jv 4) (ja_nil))))) (ja_cons (je_tup (ja_cons (jv 6) (ja_cons (jv 5) (ja_cons (jv 4) (ja_nil))))) (ja_cons (je_tup (ja_cons (je_ix (jv 8) (je_int) (fun _ _ => rfl)) (ja_cons (je_ix (jv 8) (je_int) (fun _ _ => rfl)) (ja_cons (je_non) (ja_nil))))) (ja_nil))))))) (jg_tup rfl (jgs_cons (jg_name (i := 11) sc_law24.nd rfl (by first | exact Or.inl rfl | exact Or.inr rfl)) (jgs_cons (jg_name (i := 12) sc_law24.nd rfl (by first | exact Or.inl rfl | exact Or.inr rfl)) (jgs_cons (jg_name (i := 13) sc_law24.nd rfl (by first | exact Or.inl rfl | exact Or.inr rfl)) (jgs_nil))))) (jss_one (js_if (jb_not (jb_val (je_cal C_lright24 hr (by rfl) (ja_cons (je_fz (jv 11)) (ja_cons (je_fz (jv 12)) (ja_cons (je_fz (jv 13)) (ja_nil))))))) (jss_one (js_ret (je_bl))) (jss_nil))))
    (jss_one (js_ret (je_and (je_cal C_lright24 hr (by rfl) (ja_cons (je_fz (jv 10)) (ja_cons (je_fz (jv 9)) (ja_cons (je_fz (je_non)) (ja_nil))))) (je_and (je_cal C_lright24 hr (by rfl) (ja_cons (je_fz (jv 5)) (ja_cons (je_fz (jv 6)) (ja_cons (je_fz (jv 4)) (ja_nil))))) (je_one (je_eq hr (je_calX (Ep := noX) (E := E0) C_joinw hr L2.takes0 (fun _ _ _ _ z => z) xok_no (by rfl) (ja_cons (je_fz (je_tup (ja_nil))) (ja_cons (je_fz (je_tup (ja_nil))) (ja_nil)))) (je_tup (ja_nil)))))))))))))))))
end
def dd_init_NoMove : He.DefD := ⟨("NoMove", some "__init__"), "__init__", "NoMove.__init__", defArgs s_init_NoMove, defBody s_init_NoMove, defScope s_init_NoMove, [], []⟩
def dd_init_NoPassing : He.DefD := ⟨("NoPassing", some "__init__"), "__init__", "NoPassing.__init__", defArgs s_init_NoPassing, defBody s_init_NoPassing, defScope s_init_NoPassing, [], []⟩
def dd_init_NoOrder : He.DefD := ⟨("NoOrder", some "__init__"), "__init__", "NoOrder.__init__", defArgs s_init_NoOrder, defBody s_init_NoOrder, defScope s_init_NoOrder, [], []⟩
def dd_draw : He.DefD := ⟨("_law_draw", none), "_law_draw", "_law_draw", defArgs s_draw, defBody s_draw, defScope s_draw, [], []⟩
def dd_deal : He.DefD := ⟨("_law_deal", none), "_law_deal", "_law_deal", defArgs s_deal, defBody s_deal, defScope s_deal, [], []⟩
def dd_alike : He.DefD := ⟨("_law_alike", none), "_law_alike", "_law_alike", defArgs s_alike, defBody s_alike, defScope s_alike, [], []⟩
def dd_mixed : He.DefD := ⟨("_law_mixed", none), "_law_mixed", "_law_mixed", defArgs s_mixed, defBody s_mixed, defScope s_mixed, [], []⟩
def dd_is_number : He.DefD := ⟨("is_number", none), "is_number", "is_number", defArgs s_is_number, defBody s_is_number, defScope s_is_number, [], []⟩
def dd_is_whole : He.DefD := ⟨("is_whole", none), "is_whole", "is_whole", defArgs s_is_whole, defBody s_is_whole, defScope s_is_whole, [], []⟩
def dd_is_tuple_of : He.DefD := ⟨("is_tuple_of", none), "is_tuple_of", "is_tuple_of", defArgs s_is_tuple_of, defBody s_is_tuple_of, defScope s_is_tuple_of, [], []⟩
def dd_w_far : He.DefD := ⟨("with_two_exchanged", none), "with_two_exchanged", "with_two_exchanged", defArgs s_w_far, defBody s_w_far, defScope s_w_far, [], []⟩
def dd_w_turn : He.DefD := ⟨("with_three_turned", none), "with_three_turned", "with_three_turned", defArgs s_w_turn, defBody s_w_turn, defScope s_w_turn, [], []⟩
def dd_w_gone : He.DefD := ⟨("with_two_fewer", none), "with_two_fewer", "with_two_fewer", defArgs s_w_gone, defBody s_w_gone, defScope s_w_gone, [], []⟩
def dd_w_come : He.DefD := ⟨("with_two_more", none), "with_two_more", "with_two_more", defArgs s_w_come, defBody s_w_come, defScope s_w_come, [], []⟩
def dd_once_moved : He.DefD := ⟨("once_moved", none), "once_moved", "once_moved", defArgs s_once_moved, defBody s_once_moved, defScope s_once_moved, [], []⟩
def dd_word_moved : He.DefD := ⟨("word_moved", none), "word_moved", "word_moved", defArgs s_word_moved, defBody s_word_moved, defScope s_word_moved, [], []⟩
def dd_is_letter : He.DefD := ⟨("is_letter", none), "is_letter", "is_letter", defArgs s_is_letter, defBody s_is_letter, defScope s_is_letter, [], []⟩
def dd_order_led : He.DefD := ⟨("order_led", none), "order_led", "order_led", defArgs s_order_led, defBody s_order_led, defScope s_order_led, [], []⟩
def dd_free_order : He.DefD := ⟨("free_order", none), "free_order", "free_order", defArgs s_free_order, defBody s_free_order, defScope s_free_order, [], []⟩
def dd_startrun : He.DefD := ⟨("start_of_run", none), "start_of_run", "start_of_run", defArgs s_startrun, defBody s_startrun, defScope s_startrun, [], []⟩
def dd_mpast : He.DefD := ⟨("moves_past", none), "moves_past", "moves_past", defArgs s_mpast, defBody s_mpast, defScope s_mpast, [], []⟩
def dd_minto : He.DefD := ⟨("moves_into", none), "moves_into", "moves_into", defArgs s_minto, defBody s_minto, defScope s_minto, [], []⟩
def dd_wearS : He.DefD := ⟨("wear_down", none), "wear_down", "wear_down", defArgs s_wearS, defBody s_wearS, defScope s_wearS, [], []⟩
def dd_mback : He.DefD := ⟨("move_back", none), "move_back", "move_back", defArgs s_mback, defBody s_mback, defScope s_mback, [], []⟩
def dd_mups : He.DefD := ⟨("moves_up", none), "moves_up", "moves_up", defArgs s_mups, defBody s_mups, defScope s_mups, [], []⟩
def dd_lksame : He.DefD := ⟨("look_same_orders", none), "look_same_orders", "look_same_orders", defArgs s_lksame, defBody s_lksame, defScope s_lksame, [], []⟩
def dd_joinw : He.DefD := ⟨("join_words", none), "join_words", "join_words", defArgs s_joinw, defBody s_joinw, defScope s_joinw, [], []⟩
def dd_lword : He.DefD := ⟨("_law_word", none), "_law_word", "_law_word", defArgs s_lword, defBody s_lword, defScope s_lword, [], []⟩
def dd_lorder : He.DefD := ⟨("_law_order", none), "_law_order", "_law_order", defArgs s_lorder, defBody s_lorder, defScope s_lorder, [], []⟩
def dd_lbehind : He.DefD := ⟨("_law_behind_move", none), "_law_behind_move", "_law_behind_move", defArgs s_lbehind, defBody s_lbehind, defScope s_lbehind, [], []⟩
def dd_lletters : He.DefD := ⟨("_law_letters", none), "_law_letters", "_law_letters", defArgs s_lletters, defBody s_lletters, defScope s_lletters, [], []⟩
def dd_lsingle : He.DefD := ⟨("_law_single", none), "_law_single", "_law_single", defArgs s_lsingle, defBody s_lsingle, defScope s_lsingle, [], []⟩
def dd_lissingle : He.DefD := ⟨("_law_is_single", none), "_law_is_single", "_law_is_single", defArgs s_lissingle, defBody s_lissingle, defScope s_lissingle, [], []⟩
def dd_lneed : He.DefD := ⟨("_law_need", none), "_law_need", "_law_need", defArgs s_lneed, defBody s_lneed, defScope s_lneed, [], []⟩
def dd_ltold24 : He.DefD := ⟨("_law_told", none), "_law_told", "_law_told", defArgs s_ltold24, defBody s_ltold24, defScope s_ltold24, [], []⟩
def dd_lisfree : He.DefD := ⟨("_law_is_free", none), "_law_is_free", "_law_is_free", defArgs s_lisfree, defBody s_lisfree, defScope s_lisfree, [], []⟩
def dd_lismove : He.DefD := ⟨("_law_is_move", none), "_law_is_move", "_law_is_move", defArgs s_lismove, defBody s_lismove, defScope s_lismove, [], []⟩
def dd_lright24 : He.DefD := ⟨("_law_right", none), "_law_right", "_law_right", defArgs s_lright24, defBody s_lright24, defScope s_lright24, [], []⟩
def dd_lmoved24 : He.DefD := ⟨("_law_moved_on", none), "_law_moved_on", "_law_moved_on", defArgs s_lmoved24, defBody s_lmoved24, defScope s_lmoved24, [], []⟩
def dd_law24 : He.DefD := ⟨("law", none), "law", "law", defArgs s_law24, defBody s_law24, defScope s_law24, [], []⟩
def fns : List He.DefD := [dd_init_NoMove, dd_init_NoPassing, dd_init_NoOrder, dd_draw, dd_deal, dd_alike, dd_mixed, dd_is_number, dd_is_whole, dd_is_tuple_of, dd_w_far, dd_w_turn, dd_w_gone, dd_w_come, dd_once_moved, dd_word_moved, dd_is_letter, dd_order_led, dd_free_order, dd_startrun, dd_mpast, dd_minto, dd_wearS, dd_mback, dd_mups, dd_lksame, dd_joinw, dd_lword, dd_lorder, dd_lbehind, dd_lletters, dd_lsingle, dd_lissingle, dd_lneed, dd_ltold24, dd_lisfree, dd_lismove, dd_lright24, dd_lmoved24, dd_law24]
def facs : List He.Fa := [.glo "_law_draw", .glo "_law_deal", .glo "_law_alike", .glo "_law_mixed", .glo "is_number", .glo "is_whole", .glo "is_tuple_of", .glo "with_two_exchanged", .glo "with_three_turned", .glo "with_two_fewer", .glo "with_two_more", .glo "once_moved", .glo "word_moved", .glo "is_letter", .glo "order_led", .glo "free_order", .glo "start_of_run", .glo "moves_past", .glo "moves_into", .glo "wear_down", .glo "move_back", .glo "moves_up", .glo "look_same_orders", .glo "join_words", .glo "_law_word", .glo "_law_order", .glo "_law_behind_move", .glo "_law_letters", .glo "_law_single", .glo "_law_is_single", .glo "_law_need", .glo "_law_told", .glo "_law_is_free", .glo "_law_is_move", .glo "_law_right", .glo "_law_moved_on", .glo "law", .free "len", .free "list", .free "tuple", .free "reversed", .free "range", .free "max", .free "min", .free "sum", .free "all", .free "any", .free "zip", .free "enumerate", .free "isinstance", .free "int", .free "bool", .free "str", .free "repr", .free "divmod", .free "abs", .free "sorted", .free "set", .free "dict", .free "pow", .free "ValueError", .free "IndexError", .glo "RoadError", .glo "NoPassing", .glo "NoOrder", .glo "NoMove", .int "MOST_LETTER" 8]
def exB (K : PySem.W.Frag) : Bool := errB K "NoPassing" ["at"] && (errB K "NoMove" ["at"] && (errB K "NoOrder" ["at"] && (baseB K "RoadError" && (decide (PySem.W.exmOne K (.ref (He.ga K "NoOrder")) (.ref (He.ga K "RoadError")) = some true) && (decide (PySem.W.kitOne K (.ref (He.ga K "NoOrder")) (.ref (He.ga K "NoOrder")) = some true) && decide (PySem.W.kitAny K (.ref (He.ga K "NoOrder")) [(.ref (He.ga K "NoMove")), (.ref (He.ga K "NoPassing"))] = some false))))))
abbrev rowR : PySem.W.OpenRow := PySem.W.OpenLaw.row PySem.Challenge.rw_wherefrom_k24_words_joined
def tfs : List He.Defn := [("free_order", none)]
abbrev hk : PySem.W.Hook := Wf.hookV 6 facs fns tfs exB
def obA (s : PySem.W.SharedT) : He.AlD × Bool := Wf.obsV 6 facs fns tfs exB (HandSHeadRun.getT s)
theorem ob_eq (s : PySem.W.SharedT) : obA s = hk.obs s.abs := Wf.obsV_eq (HandSHeadRun.getT_eq s)
abbrev loose0 : List Str := ["RoadError", "NoPassing", "NoOrder", "NoMove", "is_number", "is_whole", "is_tuple_of", "is_letter", "free_order", "order_led", "MOST_LETTER", "word_moved", "once_moved", "with_two_exchanged", "with_three_turned", "with_two_fewer", "with_two_more", "wear_down", "moves_into", "start_of_run", "moves_past", "join_words", "look_same_orders", "moves_up"]
abbrev loose1 : List Str := ["move_back", "_law_deal", "_law_draw", "_law_alike", "_law_mixed", "_law_word", "_law_order", "_law_behind_move", "_law_letters", "_law_single", "_law_is_single", "_law_need", "_law_told", "_law_is_free", "_law_is_move", "_law_right", "_law_moved_on"]
abbrev looseL : List Str := loose0 ++ loose1
theorem run_eq (w : World) : HandSHeadRun.RunEq rowR (PySem.W.view rowR.prog [46]) hk obA 4800 looseL w := by
  intro os
  kernel_rfl
theorem facts {P : Program} {w : World} {K : PySem.W.Frag} {h : Heap} {mg : Str → Option Value} {f : Addr} (X : K.In h) (G : h.Ns mainGlobals mg) (hfa : mg ("law" : Str) = some (.ref f)) (c : SaysV facs fns tfs exB h K) :
    ∃ fd : FuncData, (∀ (s : Shared) (v : Value), BindsTo s fd ⟨[v], []⟩ [("_law_script", v)]) ∧ ∀ base : Heap, K.In base → base.Ns mainGlobals mg → (∀ p ∈ tfs.map (He.cT K), TabB base mg p.1 p.2) → FnG P w K mg base CX0 11 f fd ["_law_script"] (LSp K (tabT K) psp_law) := by
  have cd := c.d
  have cm := c.more
  obtain ⟨fd_init_NoMove, F_init_NoMove⟩ := cd.def_ 0 (d := dd_init_NoMove) rfl
  obtain ⟨fd_init_NoPassing, F_init_NoPassing⟩ := cd.def_ 1 (d := dd_init_NoPassing) rfl
  obtain ⟨fd_init_NoOrder, F_init_NoOrder⟩ := cd.def_ 2 (d := dd_init_NoOrder) rfl
  obtain ⟨fd_draw, F_draw⟩ := cd.def_ 3 (d := dd_draw) rfl
  have g_draw := He.glo_ok X G (cd.fact 0 (f := .glo "_law_draw") rfl)
  obtain ⟨fd_deal, F_deal⟩ := cd.def_ 4 (d := dd_deal) rfl
  have g_deal := He.glo_ok X G (cd.fact 1 (f := .glo "_law_deal") rfl)
  obtain ⟨fd_alike, F_alike⟩ := cd.def_ 5 (d := dd_alike) rfl
  have g_alike := He.glo_ok X G (cd.fact 2 (f := .glo "_law_alike") rfl)
  obtain ⟨fd_mixed, F_mixed⟩ := cd.def_ 6 (d := dd_mixed) rfl
  have g_mixed := He.glo_ok X G (cd.fact 3 (f := .glo "_law_mixed") rfl)
  obtain ⟨fd_is_number, F_is_number⟩ := cd.def_ 7 (d := dd_is_number) rfl
  have g_is_number := He.glo_ok X G (cd.fact 4 (f := .glo "is_number") rfl)
  obtain ⟨fd_is_whole, F_is_whole⟩ := cd.def_ 8 (d := dd_is_whole) rfl
  have g_is_whole := He.glo_ok X G (cd.fact 5 (f := .glo "is_whole") rfl)
  obtain ⟨fd_is_tuple_of, F_is_tuple_of⟩ := cd.def_ 9 (d := dd_is_tuple_of) rfl
  have g_is_tuple_of := He.glo_ok X G (cd.fact 6 (f := .glo "is_tuple_of") rfl)
  obtain ⟨fd_w_far, F_w_far⟩ := cd.def_ 10 (d := dd_w_far) rfl
  have g_w_far := He.glo_ok X G (cd.fact 7 (f := .glo "with_two_exchanged") rfl)
  obtain ⟨fd_w_turn, F_w_turn⟩ := cd.def_ 11 (d := dd_w_turn) rfl
  have g_w_turn := He.glo_ok X G (cd.fact 8 (f := .glo "with_three_turned") rfl)
  obtain ⟨fd_w_gone, F_w_gone⟩ := cd.def_ 12 (d := dd_w_gone) rfl
  have g_w_gone := He.glo_ok X G (cd.fact 9 (f := .glo "with_two_fewer") rfl)
  obtain ⟨fd_w_come, F_w_come⟩ := cd.def_ 13 (d := dd_w_come) rfl
  have g_w_come := He.glo_ok X G (cd.fact 10 (f := .glo "with_two_more") rfl)
  obtain ⟨fd_once_moved, F_once_moved⟩ := cd.def_ 14 (d := dd_once_moved) rfl
  have g_once_moved := He.glo_ok X G (cd.fact 11 (f := .glo "once_moved") rfl)
  obtain ⟨fd_word_moved, F_word_moved⟩ := cd.def_ 15 (d := dd_word_moved) rfl
  have g_word_moved := He.glo_ok X G (cd.fact 12 (f := .glo "word_moved") rfl)
  obtain ⟨fd_is_letter, F_is_letter⟩ := cd.def_ 16 (d := dd_is_letter) rfl
  have g_is_letter := He.glo_ok X G (cd.fact 13 (f := .glo "is_letter") rfl)
  obtain ⟨fd_order_led, F_order_led⟩ := cd.def_ 17 (d := dd_order_led) rfl
  have g_order_led := He.glo_ok X G (cd.fact 14 (f := .glo "order_led") rfl)
  obtain ⟨fd_free_order, F_free_order⟩ := cd.def_ 18 (d := dd_free_order) rfl
  have g_free_order := He.glo_ok X G (cd.fact 15 (f := .glo "free_order") rfl)
  obtain ⟨fd_startrun, F_startrun⟩ := cd.def_ 19 (d := dd_startrun) rfl
  have g_startrun := He.glo_ok X G (cd.fact 16 (f := .glo "start_of_run") rfl)
  obtain ⟨fd_mpast, F_mpast⟩ := cd.def_ 20 (d := dd_mpast) rfl
  have g_mpast := He.glo_ok X G (cd.fact 17 (f := .glo "moves_past") rfl)
  obtain ⟨fd_minto, F_minto⟩ := cd.def_ 21 (d := dd_minto) rfl
  have g_minto := He.glo_ok X G (cd.fact 18 (f := .glo "moves_into") rfl)
  obtain ⟨fd_wearS, F_wearS⟩ := cd.def_ 22 (d := dd_wearS) rfl
  have g_wearS := He.glo_ok X G (cd.fact 19 (f := .glo "wear_down") rfl)
  obtain ⟨fd_mback, F_mback⟩ := cd.def_ 23 (d := dd_mback) rfl
  have g_mback := He.glo_ok X G (cd.fact 20 (f := .glo "move_back") rfl)
  obtain ⟨fd_mups, F_mups⟩ := cd.def_ 24 (d := dd_mups) rfl
  have g_mups := He.glo_ok X G (cd.fact 21 (f := .glo "moves_up") rfl)
  obtain ⟨fd_lksame, F_lksame⟩ := cd.def_ 25 (d := dd_lksame) rfl
  have g_lksame := He.glo_ok X G (cd.fact 22 (f := .glo "look_same_orders") rfl)
  obtain ⟨fd_joinw, F_joinw⟩ := cd.def_ 26 (d := dd_joinw) rfl
  have g_joinw := He.glo_ok X G (cd.fact 23 (f := .glo "join_words") rfl)
  obtain ⟨fd_lword, F_lword⟩ := cd.def_ 27 (d := dd_lword) rfl
  have g_lword := He.glo_ok X G (cd.fact 24 (f := .glo "_law_word") rfl)
  obtain ⟨fd_lorder, F_lorder⟩ := cd.def_ 28 (d := dd_lorder) rfl
  have g_lorder := He.glo_ok X G (cd.fact 25 (f := .glo "_law_order") rfl)
  obtain ⟨fd_lbehind, F_lbehind⟩ := cd.def_ 29 (d := dd_lbehind) rfl
  have g_lbehind := He.glo_ok X G (cd.fact 26 (f := .glo "_law_behind_move") rfl)
  obtain ⟨fd_lletters, F_lletters⟩ := cd.def_ 30 (d := dd_lletters) rfl
  have g_lletters := He.glo_ok X G (cd.fact 27 (f := .glo "_law_letters") rfl)
  obtain ⟨fd_lsingle, F_lsingle⟩ := cd.def_ 31 (d := dd_lsingle) rfl
  have g_lsingle := He.glo_ok X G (cd.fact 28 (f := .glo "_law_single") rfl)
  obtain ⟨fd_lissingle, F_lissingle⟩ := cd.def_ 32 (d := dd_lissingle) rfl
  have g_lissingle := He.glo_ok X G (cd.fact 29 (f := .glo "_law_is_single") rfl)
  obtain ⟨fd_lneed, F_lneed⟩ := cd.def_ 33 (d := dd_lneed) rfl
  have g_lneed := He.glo_ok X G (cd.fact 30 (f := .glo "_law_need") rfl)
  obtain ⟨fd_ltold24, F_ltold24⟩ := cd.def_ 34 (d := dd_ltold24) rfl
  have g_ltold24 := He.glo_ok X G (cd.fact 31 (f := .glo "_law_told") rfl)
  obtain ⟨fd_lisfree, F_lisfree⟩ := cd.def_ 35 (d := dd_lisfree) rfl
  have g_lisfree := He.glo_ok X G (cd.fact 32 (f := .glo "_law_is_free") rfl)
  obtain ⟨fd_lismove, F_lismove⟩ := cd.def_ 36 (d := dd_lismove) rfl
  have g_lismove := He.glo_ok X G (cd.fact 33 (f := .glo "_law_is_move") rfl)
  obtain ⟨fd_lright24, F_lright24⟩ := cd.def_ 37 (d := dd_lright24) rfl
  have g_lright24 := He.glo_ok X G (cd.fact 34 (f := .glo "_law_right") rfl)
  obtain ⟨fd_lmoved24, F_lmoved24⟩ := cd.def_ 38 (d := dd_lmoved24) rfl
  have g_lmoved24 := He.glo_ok X G (cd.fact 35 (f := .glo "_law_moved_on") rfl)
  obtain ⟨fd_law24, F_law24⟩ := cd.def_ 39 (d := dd_law24) rfl
  have eq := hfa.symm.trans (He.glo_ok X G (cd.fact 36 (f := .glo "law") rfl))
  cases eq
  have B : Bl mg := ⟨He.free_ok X G (cd.fact 37 (f := .free "len") rfl), He.free_ok X G (cd.fact 38 (f := .free "list") rfl), He.free_ok X G (cd.fact 39 (f := .free "tuple") rfl), He.free_ok X G (cd.fact 40 (f := .free "reversed") rfl), He.free_ok X G (cd.fact 41 (f := .free "range") rfl), He.free_ok X G (cd.fact 42 (f := .free "max") rfl), He.free_ok X G (cd.fact 43 (f := .free "min") rfl), He.free_ok X G (cd.fact 44 (f := .free "sum") rfl), He.free_ok X G (cd.fact 45 (f := .free "all") rfl), He.free_ok X G (cd.fact 46 (f := .free "any") rfl), He.free_ok X G (cd.fact 47 (f := .free "zip") rfl), He.free_ok X G (cd.fact 48 (f := .free "enumerate") rfl), He.free_ok X G (cd.fact 49 (f := .free "isinstance") rfl), He.free_ok X G (cd.fact 50 (f := .free "int") rfl), He.free_ok X G (cd.fact 51 (f := .free "bool") rfl), He.free_ok X G (cd.fact 52 (f := .free "str") rfl), He.free_ok X G (cd.fact 53 (f := .free "repr") rfl), He.free_ok X G (cd.fact 54 (f := .free "divmod") rfl), He.free_ok X G (cd.fact 55 (f := .free "abs") rfl), He.free_ok X G (cd.fact 56 (f := .free "sorted") rfl), He.free_ok X G (cd.fact 57 (f := .free "set") rfl), He.free_ok X G (cd.fact 58 (f := .free "dict") rfl), He.free_ok X G (cd.fact 59 (f := .free "pow") rfl), He.free_ok X G (cd.fact 60 (f := .free "ValueError") rfl), He.free_ok X G (cd.fact 61 (f := .free "IndexError") rfl)⟩
  have K_RoadError := He.glo_ok X G (cd.fact 62 (f := .glo "RoadError") rfl)
  have K_NoPassing := He.glo_ok X G (cd.fact 63 (f := .glo "NoPassing") rfl)
  have K_NoOrder := He.glo_ok X G (cd.fact 64 (f := .glo "NoOrder") rfl)
  have K_NoMove := He.glo_ok X G (cd.fact 65 (f := .glo "NoMove") rfl)
  have G_MOST_LETTER := He.int_ok X G (cd.fact 66 (f := .int "MOST_LETTER" 8) rfl)
  unfold exB at cm
  simp only [Bool.and_eq_true, decide_eq_true_eq] at cm
  obtain ⟨me_NoPassing, me_NoMove, m1, m2, m3, m4, m5⟩ := cm
  have EF_NoOrder := errB_ok m1
  have BC := baseB_ok m2 K_RoadError
  have TF : ToldG K (He.ga K "NoOrder") (He.ga K "RoadError") [He.ga K "NoMove", He.ga K "NoPassing"] := ⟨m3, EF_NoOrder.is_, m4, m5⟩
  have EF_NoMove := errB_ok me_NoMove
  have EF_NoPassing := errB_ok me_NoPassing
  have b := FunD.bindsA (ps := ["_law_script"]) F_law24 fun _ _ _ _ _ _ us hl => match us, hl with | [_], _ => rfl
  refine ⟨fd_law24, fun s v => b s [v] rfl, fun base _ _ TB => ?_⟩
  have T_NoMove : Err1 P w K mg base "NoMove" "at" (He.ga K "NoMove") := ⟨K_NoMove, EF_NoMove.o, _, fd_init_NoMove, EF_NoMove.i, EF_NoMove.ti, ok_init_NoMove F_init_NoMove BC EF_NoMove.o (EF_NoMove.no "at" (by decide)), F_init_NoMove.bindsN fun _ _ _ _ _ _ us hl => match us, hl with | [_, _], _ => rfl⟩
  have T_NoPassing : Err1 P w K mg base "NoPassing" "at" (He.ga K "NoPassing") := ⟨K_NoPassing, EF_NoPassing.o, _, fd_init_NoPassing, EF_NoPassing.i, EF_NoPassing.ti, ok_init_NoPassing F_init_NoPassing BC EF_NoPassing.o (EF_NoPassing.no "at" (by decide)), F_init_NoPassing.bindsN fun _ _ _ _ _ _ us hl => match us, hl with | [_, _], _ => rfl⟩
  have T_NoOrder : Err1 P w K mg base "NoOrder" "at" (He.ga K "NoOrder") := ⟨K_NoOrder, EF_NoOrder.o, _, fd_init_NoOrder, EF_NoOrder.i, EF_NoOrder.ti, ok_init_NoOrder F_init_NoOrder BC EF_NoOrder.o (EF_NoOrder.no "at" (by decide)), F_init_NoOrder.bindsN fun _ _ _ _ _ _ us hl => match us, hl with | [_, _], _ => rfl⟩
  have C_draw : Cal P w K mg base CX0 1 "_law_draw" ["_law_deal_here", "_law_many"] sp_draw := ⟨_, fd_draw, ok_draw F_draw B , g_draw, F_draw.kp, F_draw.bindsN fun _ _ _ _ _ _ us hl => match us, hl with | [_, _], _ => rfl⟩
  have C_deal : Cal P w K mg base CX0 1 "_law_deal" ["_law_script", "_law_base"] (sp_deal K) := ⟨_, fd_deal, ok_deal F_deal B , g_deal, F_deal.kp, F_deal.bindsN fun _ _ _ _ _ _ us hl => match us, hl with | [_, _], _ => rfl⟩
  have C_alike : Cal P w K mg base CX0 1 "_law_alike" ["_law_found", "_law_due"] (sp_alike K) := ⟨_, fd_alike, ok_alike F_alike B , g_alike, F_alike.kp, F_alike.bindsN fun _ _ _ _ _ _ us hl => match us, hl with | [_, _], _ => rfl⟩
  have C_mixed : Cal P w K mg base CX0 2 "_law_mixed" ["_law_deal_here", "_law_many"] sp_mixed := ⟨_, fd_mixed, ok_mixed F_mixed B C_draw, g_mixed, F_mixed.kp, F_mixed.bindsN fun _ _ _ _ _ _ us hl => match us, hl with | [_, _], _ => rfl⟩
  have C_is_number : Cal P w K mg base CX0 1 "is_number" ["thing"] (LSp K (tabT K) psp_is_number) := ⟨_, fd_is_number, ok_is_number F_is_number B , g_is_number, F_is_number.kp, F_is_number.bindsN fun _ _ _ _ _ _ us hl => match us, hl with | [_], _ => rfl⟩
  have C_is_whole : Cal P w K mg base CX0 2 "is_whole" ["thing", "least", "most"] (LSp K (tabT K) psp_is_whole) := ⟨_, fd_is_whole, ok_is_whole F_is_whole B C_is_number, g_is_whole, F_is_whole.kp, F_is_whole.bindsN fun _ _ _ _ _ _ us hl => match us, hl with | [_, _, _], _ => rfl⟩
  have C_is_tuple_of : Cal P w K mg base CX0 1 "is_tuple_of" ["thing", "many"] (LSp K (tabT K) psp_is_tuple_of) := ⟨_, fd_is_tuple_of, ok_is_tuple_of F_is_tuple_of B , g_is_tuple_of, F_is_tuple_of.kp, F_is_tuple_of.bindsN fun _ _ _ _ _ _ us hl => match us, hl with | [_, _], _ => rfl⟩
  have C_w_far : Cal P w K mg base CX0 1 "with_two_exchanged" ["word", "i"] (LSp K (tabT K) psp_w_far) := ⟨_, fd_w_far, ok_w_far F_w_far B , g_w_far, F_w_far.kp, F_w_far.bindsN fun _ _ _ _ _ _ us hl => match us, hl with | [_, _], _ => rfl⟩
  have C_w_turn : Cal P w K mg base CX0 1 "with_three_turned" ["word", "i"] (LSp K (tabT K) psp_w_turn) := ⟨_, fd_w_turn, ok_w_turn F_w_turn B , g_w_turn, F_w_turn.kp, F_w_turn.bindsN fun _ _ _ _ _ _ us hl => match us, hl with | [_, _], _ => rfl⟩
  have C_w_gone : Cal P w K mg base CX0 1 "with_two_fewer" ["word", "i"] (LSp K (tabT K) psp_w_gone) := ⟨_, fd_w_gone, ok_w_gone F_w_gone B , g_w_gone, F_w_gone.kp, F_w_gone.bindsN fun _ _ _ _ _ _ us hl => match us, hl with | [_, _], _ => rfl⟩
  have C_w_come : Cal P w K mg base CX0 3 "with_two_more" ["word", "i", "k"] (LSp K (tabT K) psp_w_come) := ⟨_, fd_w_come, ok_w_come F_w_come B C_is_whole G_MOST_LETTER, g_w_come, F_w_come.kp, F_w_come.bindsN fun _ _ _ _ _ _ us hl => match us, hl with | [_, _, _], _ => rfl⟩
  have C_once_moved : Cal P w K mg base CX0 4 "once_moved" ["word", "move"] (LSp K (tabT K) psp_once_moved) := ⟨_, fd_once_moved, ok_once_moved F_once_moved B C_is_tuple_of C_w_come C_is_whole C_w_far C_w_turn C_w_gone, g_once_moved, F_once_moved.kp, F_once_moved.bindsN fun _ _ _ _ _ _ us hl => match us, hl with | [_, _], _ => rfl⟩
  have C_word_moved : Cal P w K mg base (L2.CX P w) 5 "word_moved" ["word", "moves"] (LSp K (tabT K) (psp_word_movedS (He.ga K "NoMove"))) := ⟨_, fd_word_moved, ok_word_moved F_word_moved B C_once_moved T_NoMove, g_word_moved, F_word_moved.kp, F_word_moved.bindsN fun _ _ _ _ _ _ us hl => match us, hl with | [_, _], _ => rfl⟩
  have C_is_letter : Cal P w K mg base CX0 3 "is_letter" ["k", "many"] (LSp K (tabT K) psp_is_letter) := ⟨_, fd_is_letter, ok_is_letter F_is_letter B C_is_whole, g_is_letter, F_is_letter.kp, F_is_letter.bindsN fun _ _ _ _ _ _ us hl => match us, hl with | [_, _], _ => rfl⟩
  have C_order_led : Cal P w K mg base (L2.CX P w) 4 "order_led" ["kinds", "word", "may_pass"] (LSp K (tabT K) (psp_order_led (He.ga K "NoPassing") (LamOk P w K mg))) := ⟨_, fd_order_led, ok_order_led F_order_led B C_is_letter T_NoPassing, g_order_led, F_order_led.kp, F_order_led.bindsN fun _ _ _ _ _ _ us hl => match us, hl with | [_, _, _], _ => rfl⟩
  have C_free_order : Cal P w K mg base (L2.CX P w) 5 "free_order" ["kinds", "word"] (LSp K (tabT K) (psp_free_order (He.ga K "NoPassing"))) := ⟨_, fd_free_order, ok_free_order F_free_order (code_of (p := ("free_order", none)) F_free_order) (TB _ (by first | exact List.mem_cons_self | exact List.mem_cons_of_mem _ List.mem_cons_self)) (by first | exact List.mem_cons_self | exact List.mem_cons_of_mem _ List.mem_cons_self) (un_tabT K _) C_order_led, g_free_order, F_free_order.kp, F_free_order.bindsN fun _ _ _ _ _ _ us hl => match us, hl with | [_, _], _ => rfl⟩
  have C_startrun : Cal P w K mg base CX0 1 "start_of_run" ["normal", "end"] (LSp K (tabT K) psp_startrun) := ⟨_, fd_startrun, ok_startrun F_startrun B , g_startrun, F_startrun.kp, F_startrun.bindsN fun _ _ _ _ _ _ us hl => match us, hl with | [_, _], _ => rfl⟩
  have C_mpast : Cal P w K mg base CX0 1 "moves_past" ["normal", "start", "end", "letter"] (LSp K (tabT K) psp_mpast) := ⟨_, fd_mpast, ok_mpast F_mpast B , g_mpast, F_mpast.kp, F_mpast.bindsN fun _ _ _ _ _ _ us hl => match us, hl with | [_, _, _, _], _ => rfl⟩
  have C_minto : Cal P w K mg base CX0 2 "moves_into" ["normal", "letter"] (LSp K (tabT K) psp_minto) := ⟨_, fd_minto, ok_minto F_minto B C_startrun C_mpast, g_minto, F_minto.kp, F_minto.bindsN fun _ _ _ _ _ _ us hl => match us, hl with | [_, _], _ => rfl⟩
  have C_wearS : Cal P w K mg base CX0 6 "wear_down" ["word"] (LSp K (tabT K) psp_wear) := ⟨_, fd_wearS, ok_wearS F_wearS B C_minto C_word_moved, g_wearS, F_wearS.kp, F_wearS.bindsN fun _ _ _ _ _ _ us hl => match us, hl with | [_], _ => rfl⟩
  have C_mback : Cal P w K mg base CX0 1 "move_back" ["word", "move"] (LSp K (tabT K) psp_mback) := ⟨_, fd_mback, ok_mback F_mback B , g_mback, F_mback.kp, F_mback.bindsN fun _ _ _ _ _ _ us hl => match us, hl with | [_, _], _ => rfl⟩
  have C_mups : Cal P w K mg base CX0 7 "moves_up" ["word"] (LSp K (tabT K) psp_mups) := ⟨_, fd_mups, ok_mups F_mups B C_wearS C_mback C_once_moved, g_mups, F_mups.kp, F_mups.bindsN fun _ _ _ _ _ _ us hl => match us, hl with | [_], _ => rfl⟩
  have C_lksame : Cal P w K mg base (L2.CX P w) 6 "look_same_orders" ["one", "other"] (LSp K (tabT K) (psp_lksame (He.ga K "NoOrder"))) := ⟨_, fd_lksame, ok_lksame F_lksame B (C_free_order.imp (fun _ _ _ _ h => h)) T_NoOrder, g_lksame, F_lksame.kp, F_lksame.bindsN fun _ _ _ _ _ _ us hl => match us, hl with | [_, _], _ => rfl⟩
  have C_joinw : Cal P w K mg base (L2.CX P w) 8 "join_words" ["one", "other"] (LSp K (tabT K) (psp_joinw (He.ga K "NoOrder"))) := ⟨_, fd_joinw, ok_joinw F_joinw B C_lksame C_wearS C_mups, g_joinw, F_joinw.kp, F_joinw.bindsN fun _ _ _ _ _ _ us hl => match us, hl with | [_, _], _ => rfl⟩
  have C_lword : Cal P w K mg base CX0 2 "_law_word" ["_law_deal_here", "_law_kinds", "_law_most", "_law_is_free_here"] (LSp K (tabT K) psp_lword) := ⟨_, fd_lword, ok_lword F_lword B (C_draw.imp conv_draw), g_lword, F_lword.kp, F_lword.bindsN fun _ _ _ _ _ _ us hl => match us, hl with | [_, _, _, _], _ => rfl⟩
  have C_lorder : Cal P w K mg base CX0 1 "_law_order" ["_law_many", "_law_word_here"] (LSp K (tabT K) psp_lorder) := ⟨_, fd_lorder, ok_lorder F_lorder B , g_lorder, F_lorder.kp, F_lorder.bindsN fun _ _ _ _ _ _ us hl => match us, hl with | [_, _], _ => rfl⟩
  have C_lbehind : Cal P w K mg base CX0 1 "_law_behind_move" ["_law_word_here", "_law_move"] (LSp K (tabT K) psp_lbehind) := ⟨_, fd_lbehind, ok_lbehind F_lbehind B , g_lbehind, F_lbehind.kp, F_lbehind.bindsN fun _ _ _ _ _ _ us hl => match us, hl with | [_, _], _ => rfl⟩
  have C_lletters : Cal P w K mg base CX0 2 "_law_letters" ["_law_deal_here", "_law_many", "_law_wide"] (LSp K (tabT K) psp_llettersN) := ⟨_, fd_lletters, ok_lletters F_lletters B (C_draw.imp conv_draw), g_lletters, F_lletters.kp, F_lletters.bindsN fun _ _ _ _ _ _ us hl => match us, hl with | [_, _, _], _ => rfl⟩
  have C_lsingle : Cal P w K mg base CX0 2 "_law_single" ["_law_deal_here", "_law_order_here"] (LSp K (tabT K) psp_lsingle) := ⟨_, fd_lsingle, ok_lsingle F_lsingle B (C_draw.imp conv_draw), g_lsingle, F_lsingle.kp, F_lsingle.bindsN fun _ _ _ _ _ _ us hl => match us, hl with | [_, _], _ => rfl⟩
  have C_lissingle : Cal P w K mg base CX0 1 "_law_is_single" ["_law_word_here"] (LSp K (tabT K) psp_lissingle) := ⟨_, fd_lissingle, ok_lissingle F_lissingle B , g_lissingle, F_lissingle.kp, F_lissingle.bindsN fun _ _ _ _ _ _ us hl => match us, hl with | [_], _ => rfl⟩
  have C_lneed : Cal P w K mg base CX0 1 "_law_need" ["_law_word_here"] (LSp K (tabT K) psp_lneed) := ⟨_, fd_lneed, ok_lneed F_lneed B , g_lneed, F_lneed.kp, F_lneed.bindsN fun _ _ _ _ _ _ us hl => match us, hl with | [_], _ => rfl⟩
  have C_ltold24 : Cal P w K mg base CX0 9 "_law_told" ["_law_one", "_law_other"] (LSp K (tabT K) psp_ltold24) := ⟨_, fd_ltold24, ok_ltold24 F_ltold24 B C_joinw K_NoOrder K_RoadError K_NoMove K_NoPassing TF EF_NoOrder.xf (EF_NoOrder.no "at" (by decide)), g_ltold24, F_ltold24.kp, F_ltold24.bindsN fun _ _ _ _ _ _ us hl => match us, hl with | [_, _], _ => rfl⟩
  have C_lisfree : Cal P w K mg base CX0 1 "_law_is_free" ["_law_kinds", "_law_word_here"] (LSp K (tabT K) psp_lisfree) := ⟨_, fd_lisfree, ok_lisfree F_lisfree B , g_lisfree, F_lisfree.kp, F_lisfree.bindsN fun _ _ _ _ _ _ us hl => match us, hl with | [_, _], _ => rfl⟩
  have C_lismove : Cal P w K mg base CX0 1 "_law_is_move" ["_law_move"] (LSp K (tabT K) psp_lismove) := ⟨_, fd_lismove, ok_lismove F_lismove B , g_lismove, F_lismove.kp, F_lismove.bindsN fun _ _ _ _ _ _ us hl => match us, hl with | [_], _ => rfl⟩
  have C_lright24 : Cal P w K mg base CX0 10 "_law_right" ["_law_one", "_law_other", "_law_kinds"] (LSp K (tabT K) psp_lright24) := ⟨_, fd_lright24, ok_lright24 F_lright24 B C_lneed C_lorder C_ltold24 (C_alike.imp conv_alike) C_lissingle C_lismove C_lbehind C_lisfree, g_lright24, F_lright24.kp, F_lright24.bindsN fun _ _ _ _ _ _ us hl => match us, hl with | [_, _, _], _ => rfl⟩
  have C_lmoved24 : Cal P w K mg base CX0 2 "_law_moved_on" ["_law_deal_here", "_law_kinds", "_law_word_here"] (LSp K (tabT K) psp_lmoved24) := ⟨_, fd_lmoved24, ok_lmoved24 F_lmoved24 B (C_draw.imp conv_draw) C_lbehind C_lisfree, g_lmoved24, F_lmoved24.kp, F_lmoved24.bindsN fun _ _ _ _ _ _ us hl => match us, hl with | [_, _, _], _ => rfl⟩
  exact FnG.of (ok_law24 F_law24 B (C_deal.imp conv_deal) (C_mixed.imp conv_mixed) (C_draw.imp conv_draw) C_lsingle C_lword C_lmoved24 C_lletters C_lright24 C_joinw)
end Wf
open PySem PySem.W PySem.Calls PyProof.Rows
theorem PySem.Challenge.cw_wherefrom_k24_words_joined_holds : PySem.Challenge.rw_wherefrom_k24_words_joined.Holds := by
  w_on; o_law
  refine HandSHeadRun.head_any (r := OpenLaw.row PySem.Challenge.rw_wherefrom_k24_words_joined) (q := view (OpenLaw.row PySem.Challenge.rw_wherefrom_k24_words_joined).prog [46]) (H := Wf.hk) (ob := Wf.obA) (M := 4800) (loose := Wf.looseL) (d := HandSHeadRun.topDef (OpenLaw.row PySem.Challenge.rw_wherefrom_k24_words_joined).prog 46) (kwd := []) Wf.ob_eq
    (by kernel_rfl) (fun s => by kernel_rfl) Wf.run_eq (by kernel_rfl) (by kernel_rfl) (by kernel_rfl) (by rfl) (by first | assumption | decide +kernel) (by decide +kernel) ⟨rfl, rfl, rfl, rfl, rfl, by decide +kernel⟩ ?hw ?hc
  case hw => w_witness2
  case hc =>
    refine Wf.walkT2 (l := PySem.Challenge.rw_wherefrom_k24_words_joined) (n := 63) (k := 11) (x := "_law_script") rfl (by decide) (by kernel_rfl) ⟨rfl, by decide, by decide⟩ ?F
    intro w mg fa h Y G hmg0
    obtain ⟨K, KX, c⟩ := Y
    have hmg : mg ("law" : PySem.Str) = some (.ref fa) := by
      have e : (HandSHeadRun.topDef (OpenLaw.row PySem.Challenge.rw_wherefrom_k24_words_joined).prog 46).name = ("law" : PySem.Str) := by kernel_rfl
      rw [← e]
      exact hmg0
    obtain ⟨fd, hb, hF⟩ := Wf.facts (P := (PySem.Challenge.rw_wherefrom_k24_words_joined).prog) (w := w) KX G hmg c
    exact ⟨K, fd, Wf.tfs.map (He.cT K), Pv.LSp K (Wf.tabT K) Pv.psp_law, KX, fun p hp => by obtain ⟨q, hq, rfl⟩ := List.mem_map.mp hp; exact c.empty q hq, fun p hp => by obtain ⟨q, hq, rfl⟩ := List.mem_map.mp hp; exact c.out q hq, fun p hp => by obtain ⟨q, hq, rfl⟩ := List.mem_map.mp hp; exact PySem.W.codeHd_of_K KX (c.hd q hq), hb, fun H a ns hl hT hO hS => Pv.end_lawT (by omega) (Wf.tabs0 hT) hT hO hS, hF⟩
