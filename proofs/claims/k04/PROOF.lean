import PyProof.Rows.All
import Wide.All
import OpenK.AllK
import Wide.FinOn
import PyProof.ListRange
import HandS.ForMost
import HandS.RevTup
import HandS.Rev
import HandS.Wide
import HandS.Defaults
import HandS.Conv
import HandS.IsInst
import HandS.Style
import HandS.Steps
import HandS.TupAny
import HandS.TupMul
import HandS.Zip
import HandS.HeadEnd
import KE.GoesMore
import HandS.ExcInit
import HandS.ExcField
import HandS.ExcIs
import KE.KExcIs
import HandS.ExcOwn
import HandS.ClsMeth
import HandS.ForExc
import PyProof.TupleKey
import PyProof.DictRoadsH
import KE.KDictSum
import HandS.Nested
import HandS.Lambda
import HandS.EndTab
import KE.KIndexOf
import HandS.Deep
import HandS.More
import HandS.Head0
import HandS.Head1
import HandS.Head2
import HandS.HeadHook1
import HandS.HeadHook2
import HandS.HeadHook4
import HandS.SortKw
import HandS.SortInts
import PySem.Challenge.RW_wherefrom_k04_books_made
set_option Elab.async false
set_option linter.all false
set_option maxRecDepth 100000
set_option maxHeartbeats 0
/-! list(reversed(xs)), xs a list -/
namespace Wf
open PySem PySem.Spec PyProof.Rows L2
section
variable {prog : Program} {w : World} {A : Around} {E : Value → Shared → Prop} {s : Shared}
theorem initRev {R : Result → Shared → Prop} {it l S : Addr} {its : Array Value} (hh : A.handled = none) (hi : s.heap.IsRevIter it l ((its.size : Int) - 1)) (hl : s.heap.IsList l its) (hne : l ≠ it) (hn : its.size ≤ sizeLine)
    (hS : s.heap.get? S = some { cls := .type "list", data := .seq #[] }) (hSi : S ≠ it) (hSl : S ≠ l)
    (hR : ∀ (h' : Heap) (tk : Nat) (acc : Array Value) (c : Nat), (∀ b o, b ≠ S → b ≠ it → s.heap.get? b = some o → h'.get? b = some o) → h'.get? S = some { cls := .type "list", dict := none, data := .seq acc c, slots := #[] } →
      ItemsOf (fun i v => its[its.size - 1 - i]? = some v) acc its.size → R (.ok (.ret .none)) { s with heap := h', toks := tk }) :
    wpAny (model prog w) A.in1 (Builtin.«list.__init__» ⟨[.ref S, .ref it], []⟩)
      (fun fin s' => match fin with | .done f => R (.ok f) s' | .again c' => c'.quiet = true ∧ codeAny (model prog w) A c' R s') (fun e s' => R (.error e) s') s := by
  have W := (Walks.listRev (prog := prog) (w := w) (A := A.in1) hh it l hne its).toS
  have hSf : S ∉ [it, l] := by simp only [List.mem_cons, List.not_mem_nil, or_false, not_or]; exact ⟨hSi, hSl⟩
  have e0 : ((its.size : Nat) : Int) - 1 - ((0 : Nat) : Int) = (its.size : Int) - 1 := by omega
  show wpAny _ A.in1 (Builtin.List.listItems (.ref S) >>= fun old => Builtin.List.listUpdate (.ref S) (fun _ => #[]) >>= fun _ => letGo old.toList.reverse >>= fun _ => Builtin.List.listExtendWith (.ref S) (.ref it) .none) _ _ s
  refine wpAny_bind ?_
  unfold Builtin.List.listItems
  refine wpAny_bind (wpAny_seqItems hS rfl (wpAny_pure ?_))
  show wpAny _ A.in1 (updateSeq S (fun _ => #[]) >>= fun _ => letGo (#[] : Array Value).toList.reverse >>= fun _ => Builtin.List.listExtendWith (.ref S) (.ref it) .none) _ _ s
  refine wpAny_bind (wpAny_updateSeq hS rfl ?_)
  have hS2 := Heap.get?_update_self (Obj.mapSeq (fun _ => (#[] : Array Value))) hS rfl
  have oth : ∀ b o, b ≠ S → s.heap.get? b = some o → (s.heap.update S (Obj.mapSeq (fun _ => (#[] : Array Value)))).get? b = some o := fun b o hb e => (Heap.get?_update_other _ _ (Ne.symm hb)).trans e
  refine wpAny_bind (wpAny_letGo ?_)
  have hi2 : (s.heap.update S (Obj.mapSeq (fun _ => (#[] : Array Value)))).IsRevIter it l ((its.size : Int) - 1) := hi.at fun o e => oth it o (Ne.symm hSi) e
  have hl2 : (s.heap.update S (Obj.mapSeq (fun _ => (#[] : Array Value)))).IsList l its := by
    obtain ⟨o, e, r⟩ := hl
    exact ⟨o, oth l o (Ne.symm hSl) e, r⟩
  have hT : ({ s with heap := s.heap.update S (Obj.mapSeq (fun _ => (#[] : Array Value))) } : Shared).TypeIs (.ref it) "list_reverseiterator" := Heap.IsRevIter.typeIs (s := { s with heap := s.heap.update S (Obj.mapSeq (fun _ => (#[] : Array Value))) }) hi2
  have h1 : Builtin.List.listSameRef (.ref S) (.ref it) = false := by simp [Builtin.List.listSameRef, hSi]
  unfold Builtin.List.listExtendWith
  refine wpAny_bind (wpAny_typeOf hT ?_)
  rw [if_neg (by rw [h1]; decide)]
  refine wpAny_bind (wpAny_pyIter_revIter (s := { s with heap := s.heap.update S (Obj.mapSeq (fun _ => (#[] : Array Value))) }) hi2 ?_)
  refine wpAny_bind (wpAny_holding ?_)
  unfold Builtin.List.listLengthHint
  refine wpAny_bind (wpAny_specialOf hT RT.nolen_lri ?_)
  show wpAny _ A.in1 (specialOf (Value.ref it) (Str.ofString "__length_hint__") >>= _) _ _ _
  refine wpAny_bind (wpAny_specialOf hT RT.hint_lri ?_)
  generalize hid : ("list_reverseiterator.__length_hint__" : String) = id0
  wp_delta
  rw [show splitId id0 = some ("list_reverseiterator", "__length_hint__") from by subst hid; decide +kernel]
  subst hid
  refine wpAny_bind (wpAny_isInstance (b := true) hT (by rw [isSubtype_type]; kernel_rfl) ?_)
  refine wpAny_pure ?_
  rw [if_neg (by decide)]
  refine wpAny_pure ⟨plainId_quiet F.plain_extend_loop _, codeAny_extend_loopS W hn _ hSf _ its.size 0 _ _ _ rfl (Nat.zero_le _) ⟨Nat.zero_le _, by rw [e0]; exact hi2, hl2⟩ hS2 (ItemsOf.nil _) fun s' acc' c' hm hS' hacc => ?_⟩
  rw [Moved.eq_with hm]
  refine hR s'.heap s'.toks acc' c' (fun b o hb hbi e => hm.heap b o (fun hmem => ?_) (oth b o hb e)) hS' hacc
  rcases List.mem_cons.mp hmem with e' | hmem
  · exact hb e'
  · exact hbi (List.mem_singleton.mp hmem)
theorem callRev {it l : Addr} {its : Array Value} {Q : Value → Shared → Prop} (hh : A.handled = none) (hi : s.heap.IsRevIter it l ((its.size : Int) - 1)) (hl : s.heap.IsList l its) (hne : l ≠ it) (hn : its.size ≤ sizeLine)
    (hQ : ∀ (h' : Heap) (tk : Nat) (acc : Array Value) (c : Nat), (∀ b o, b ≠ it → s.heap.get? b = some o → h'.get? b = some o) → h'.get? s.heap.objs.size = some { cls := .type "list", dict := none, data := .seq acc c, slots := #[] } →
      ItemsOf (fun i v => its[its.size - 1 - i]? = some v) acc its.size → Q (.ref s.heap.objs.size) { s with heap := h', toks := tk }) :
    wpAny (model prog w) A (call (.type "list") [.ref it]) Q E s := by
  refine callType_codes (Q₁ := fun obj s₁ => obj = .ref s.heap.objs.size ∧ s₁ = { s with heap := s.heap.push { cls := .type "list", data := .seq #[] } }) F.called_list (F.typeCall_list_1 _) F.entry_list_init (code_list_new _ ⟨rfl, rfl⟩) fun obj s₁ h₁ => ?_
  obtain ⟨rfl, rfl⟩ := h₁
  obtain ⟨oi, hoi, _⟩ := id hi
  obtain ⟨ol, hol, _⟩ := id hl
  have hS : (s.heap.push { cls := .type "list", data := .seq #[] }).get? s.heap.objs.size = some { cls := .type "list", data := .seq #[] } := Heap.get?_push_size _ rfl
  refine ⟨⟨_, hS, rfl⟩, F.args_list_init_2 _ _, initRev (s := { s with heap := s.heap.push { cls := .type "list", data := .seq #[] } }) (A := A.in1) hh (hi.at fun o e => Heap.get?_push_of_some _ e) (hl.push _) hne hn hS (Nat.ne_of_gt (Heap.lt_size hoi)) (Nat.ne_of_gt (Heap.lt_size hol)) fun h' tk acc c hk hS' hacc => ?_⟩
  exact ⟨rfl, hQ h' tk acc c (fun b o hb e => hk b o (Nat.ne_of_lt (Heap.lt_size e)) hb (Heap.get?_push_of_some _ e)) hS' hacc⟩
end
/-- list(reversed(x)), x a list: a new list -/
def tLstRev (K : PySem.W.Frag) (te : TE) : TE := fun σ H Q => te σ H fun v H1 => ∃ (a : Addr) (xs : List V), v = .ref a ∧ SqL K H1 a xs ∧ ∀ q, H1 q = none → Q (.ref q) (upd H1 q (.lst xs.reverse))
section
variable {X : Cx}
theorem pe_lstRev {e : Expr} {te : TE} {p p2 pos pos2 : Pos} (hc : X.calm = true) (hg : Gl X "list") (hm : X.mg "list" = none) (hg2 : Gl X "reversed") (hm2 : X.mg "reversed" = none) (he : PE X e te)
    (hs : starEach [e] X.env = (false, eval e X.env) :: starEach [] X.env := by rfl)
    (hs2 : starEach [.Call (.Name "reversed" p2) [e] [] pos2] X.env = (false, eval (.Call (.Name "reversed" p2) [e] [] pos2) X.env) :: starEach [] X.env := by rfl) :
    PE X (.Call (.Name "list" p) [.Call (.Name "reversed" p2) [e] [] pos2] [] pos) (tLstRev X.K te) := by
  refine ⟨fun pins s σ H Q I h => ?_⟩
  refine Call_ (ld_blt I hg hm boot_list (PyProof.Rows.callWith_type1 (args_cons (Call_ (ld_blt I hg2 hm2 PyProof.Rows.boot_reversed (PyProof.Rows.callWith_type1 (args_cons (thn (he.run pins s σ H _ I h) fun u s1 ⟨v, H1, I1, r1, q1⟩ => args_nil ?_) hs) hs rfl))) hs2) hs2 rfl))
  obtain ⟨a, xs, ev, hq, q⟩ := q1
  subst ev
  obtain rfl : u = Value.ref a := r1
  obtain ⟨its, rv, p', hz⟩ := I1.list hq
  refine call_reversed_list p'.isList (args_nil ?_)
  have k0 : ∀ b o, s1.heap.get? b = some o → (s1.heap.push (revObj a ((its.toArray.size : Int) - 1))).get? b = some o := fun b o e => Heap.get?_push_of_some _ e
  have I2 : Inv X pins σ H1 { s1 with heap := s1.heap.push (revObj a ((its.toArray.size : Int) - 1)) } := I1.kept (t' := s1.toks) k0
  obtain ⟨f0, f1, f2, f3, f4, f5⟩ := I1.fpOk (H' := H1) (b := s1.heap.objs.size) (Nat.le_refl _) (I1.hok.fresh (Nat.le_refl _))
  have hl := p'.isList
  obtain ⟨ol, hol, _⟩ := id hl
  have hne : a ≠ s1.heap.objs.size := Nat.ne_of_lt (Heap.lt_size hol)
  have hn : its.toArray.size ≤ sizeLine := by rw [List.size_toArray, ← rv.length]; exact hz
  refine callRev (s := { s1 with heap := s1.heap.push (revObj a ((its.toArray.size : Int) - 1)) }) (I1.ok.hd hc) ⟨_, Heap.get?_push_size _ rfl, rfl, rfl⟩ (hl.push _) hne hn fun h' tk acc c hk hS hi => ?_
  have old : ∀ b o, s1.heap.get? b = some o → h'.get? b = some o := fun b o e => hk b o (Nat.ne_of_lt (Heap.lt_size e)) (k0 b o e)
  have sz : s1.heap.objs.size ≤ (s1.heap.push (revObj a ((its.toArray.size : Int) - 1))).objs.size := by rw [Heap.size_push]; exact Nat.le_succ _
  refine ⟨.ref _, _, I1.laid (t' := tk) old sz (show ObjOk X.prog X.w _ _ _ (.lst xs.reverse) from ⟨by rw [List.length_reverse]; exact hz, acc.toList, c, RT.vals_rev rv hi, ?_⟩), rfl, q _ (I1.hok.fresh sz)⟩
  rw [Array.toArray_toList]
  exact hS
end
end Wf
namespace Wf
open PySem PySem.Spec L2
/-! ### short words for the operators' readings -/
abbrev qAdd : R2 := rI0 fun i j => .int (i + j)
abbrev qSub : R2 := rI0 fun i j => .int (i - j)
abbrev qMul : R2 := rI CMul fun i j => .int (i * j)
abbrev qFdiv : R2 := rI CDiv fun i j => .int (i / j)
abbrev qFdivW : R2 := rI CDivW fun i j => .int (i / j)
abbrev qMod : R2 := rI (fun _ j => 0 < j) fun i j => .int (i % j)
abbrev qPow : R2 := rI CPow fun i j => .int (i ^ j.toNat)
abbrev qNeg : V → Hp → VK → Prop := rU fun i => .int (-i)
abbrev qLe : R2 := rI0 fun i j => .bl (decide (i ≤ j))
abbrev qGt : R2 := rI0 fun i j => .bl (decide (j < i))
abbrev qGe : R2 := rI0 fun i j => .bl (decide (j ≤ i))
abbrev qMax2 : List V → Hp → VK → Prop := fun xs H Q => ∃ i j, xs = [.int i, .int j] ∧ Q (.int (if j > i then j else i)) H
abbrev qMin2 : List V → Hp → VK → Prop := fun xs H Q => ∃ i j, xs = [.int i, .int j] ∧ Q (.int (if j < i then j else i)) H
abbrev qLen (K : PySem.W.Frag) : List V → Hp → VK → Prop := fun xs H Q => ∃ x n, xs = [x] ∧ LenV K x H n ∧ Q (.int n) H
abbrev qTupleOf (K : PySem.W.Frag) : List V → Hp → VK → Prop := fun xs H Q => ∃ p ys, xs = [.ref p] ∧ ((SqL K H p ys ∧ ∀ l, H l = none → Q (.ref l) (upd H l (.tup ys))) ∨ (SqT K H p ys ∧ Q (.ref p) H))
/-! ### a def of the module that is called by its name -/
structure Cal (P : Program) (w : World) (K : PySem.W.Frag) (mg : Str → Option Value) (base : Heap) (CX : CXT) (k : Nat) (x : Str) (ps : List Str) (sp : Sp) : Prop where
  ex : ∃ f fd, FnOk P w K mg base CX k f fd ps sp ∧ mg x = some (.ref f) ∧ PySem.W.keepIn K (.ref f) = true ∧ Binds K fd ps []
theorem pe_cal {X : Cx} {k j : Nat} {x : Str} {ps : List Str} {sp : Sp} {e : Expr} {es : List Expr} {t : TA} {p pos : Pos} (C : Cal X.prog X.w X.K X.mg X.base CX0 k x ps sp) (hr : Room j X.A) (hg : Gl X x) (ha : PA X (e :: es) t) (hk : k ≤ j := by decide)
    (hdb : (x == ("__debug__" : Str)) = false := by decide) (he : starEach (e :: es) X.env = (false, eval e X.env) :: starEach es X.env := by rfl) (hpl : (backTo pos (starEach es X.env)).any (·.1) = false := by rfl) :
    PE X (.Call (.Name x p) (e :: es) [] pos) (tCall sp [] E0 t) := by
  obtain ⟨f, fd, G, m, kp, b⟩ := C.ex
  exact pe_call G (hr.mono hk) hg m kp b .nil pass0 ha hdb he hpl
/-- the built-in names that the module leaves alone -/
structure Bl (mg : Str → Option Value) : Prop where
  b_len : mg "len" = none
  b_list : mg "list" = none
  b_tuple : mg "tuple" = none
  b_reversed : mg "reversed" = none
  b_range : mg "range" = none
  b_max : mg "max" = none
  b_min : mg "min" = none
  b_sum : mg "sum" = none
  b_all : mg "all" = none
  b_any : mg "any" = none
  b_zip : mg "zip" = none
  b_enumerate : mg "enumerate" = none
  b_isinstance : mg "isinstance" = none
  b_int : mg "int" = none
  b_bool : mg "bool" = none
  b_str : mg "str" = none
  b_repr : mg "repr" = none
  b_divmod : mg "divmod" = none
  b_abs : mg "abs" = none
  b_sorted : mg "sorted" = none
  b_set : mg "set" = none
  b_dict : mg "dict" = none
  b_pow : mg "pow" = none
  b_ValueError : mg "ValueError" = none
  b_IndexError : mg "IndexError" = none
/-! ### heaps: all but some addresses as before -/
def But (ds : List Addr) (H H' : Hp) : Prop := ∀ a o, a ∉ ds → H a = some o → H' a = some o
theorem But.refl (ds : List Addr) (H : Hp) : But ds H H := fun _ _ _ h => h
theorem But.trans {ds : List Addr} {H H1 H2 : Hp} (a : But ds H H1) (b : But ds H1 H2) : But ds H H2 := fun c o n h => b c o n (a c o n h)
/-! ### the deal: a dict of three numbers and a list of great ones -/
def dealK (s m n : Int) (l : Addr) : List (Key × V) := [(Sum.inr "seed", .int s), (Sum.inr "many", .int m), (Sum.inr "now", .int n), (Sum.inr "left", .ref l)]
structure Deal (H : Hp) (d l : Addr) : Prop where
  ex : ∃ (s m n : Int) (ns : List Int), H d = some (.dK (dealK s m n l)) ∧ H l = some (.lst (ns.map V.int)) ∧ 0 ≤ n ∧ ∀ x ∈ ns, 0 ≤ x
theorem key_ne {x y : Str} (h : (x == y) = false) : ¬ (Sum.inr x : Key) = Sum.inr y := fun e => by
  have := Sum.inr.inj e
  rw [this, beq_self_eq_true] at h
  cases h
theorem dk_seed {s m n : Int} {l : Addr} : valV (dealK s m n l) (Sum.inr "seed") = some (.int s) := valV_pos rfl
theorem dk_many {s m n : Int} {l : Addr} : valV (dealK s m n l) (Sum.inr "many") = some (.int m) := (valV_neg (key_ne (by decide +kernel))).trans (valV_pos rfl)
theorem dk_now {s m n : Int} {l : Addr} : valV (dealK s m n l) (Sum.inr "now") = some (.int n) :=
  (valV_neg (key_ne (by decide +kernel))).trans ((valV_neg (key_ne (by decide +kernel))).trans (valV_pos rfl))
theorem dk_left {s m n : Int} {l : Addr} : valV (dealK s m n l) (Sum.inr "left") = some (.ref l) :=
  (valV_neg (key_ne (by decide +kernel))).trans ((valV_neg (key_ne (by decide +kernel))).trans ((valV_neg (key_ne (by decide +kernel))).trans (valV_pos rfl)))
theorem dk_putNow {s m n k : Int} {l : Addr} : putK (dealK s m n l) (Sum.inr "now") (.int k) = dealK s m k l := by
  unfold putK
  rw [valV_any, dk_now, if_pos (show (some (V.int n)).isSome = true from rfl)]
  show [_, _, _, _] = _
  dsimp only
  rw [if_neg (key_ne (by decide +kernel)), if_neg (key_ne (by decide +kernel)), if_pos rfl, if_neg (key_ne (by decide +kernel))]
  rfl
theorem dk_putMany {s m n k : Int} {l : Addr} : putK (dealK s m n l) (Sum.inr "many") (.int k) = dealK s k n l := by
  unfold putK
  rw [valV_any, dk_many, if_pos (show (some (V.int m)).isSome = true from rfl)]
  show [_, _, _, _] = _
  dsimp only
  rw [if_neg (key_ne (by decide +kernel)), if_pos rfl, if_neg (key_ne (by decide +kernel)), if_neg (key_ne (by decide +kernel))]
  rfl
/-- d["x"], d in a slot -/
theorem rd_dk {σ : St} {H : Hp} {Q : VK} {i : Nat} {d : Addr} {kvs : List (Key × V)} {x : Str} {v : V} (h : H d = some (.dK kvs)) (hi : σ[i]? = some (some (.ref d))) (hv : valV kvs (Sum.inr x) = some v) (q : Q v H) : tDGet (tVar i) (tC (.str x)) σ H Q :=
  ⟨.ref d, hi, d, v, rfl, by rw [← hv]; exact DGet.k (k := Sum.inr x) h, q⟩
/-- d["x"] = e, the reading of e done before -/
theorem wr_dk {σ : St} {H : Hp} {D : Ends} {i : Nat} {d : Addr} {kvs kvs' : List (Key × V)} {x : Str} {v : V} (h : H d = some (.dK kvs)) (hi : σ[i]? = some (some (.ref d))) (hl : kvs.length < sizeLine) (hp : putK kvs (Sum.inr x) v = kvs') (q : D.nx σ (upd H d (.dK kvs'))) :
    tVar i σ H fun y H2 => tC (.str x) σ H2 fun z H3 => ∃ a H4, y = .ref a ∧ DPut H3 a z v H4 ∧ D.nx σ H4 :=
  ⟨.ref d, hi, d, upd H d (.dK kvs'), rfl, by rw [← hp]; exact DPut.k (k := Sum.inr x) h hl, q⟩
/-- the slots at the entry of a def of n names -/
def sN (n : Nat) (vs : List V) : St := vs.map some ++ List.replicate (n - vs.length) none
abbrev EndsQ (Q : VK) : Ends := { nx := fun _ H' => Q .non H', rt := Q }
abbrev FnP (K : PySem.W.Frag) (x : Str) (st : Stmt) (f : Addr) (fd : FuncData) : Prop := FunD K x x (defArgs st) (defBody st) (defScope st) [] [] f fd
/-! ### _law_draw -/
/-- a draw by n: some number from 0 on below n; the deal goes on, all else stands -/
def sp_draw : Sp := fun vs H Q _ => ∃ (d l : Addr) (n : Int), vs = [.ref d, .int n] ∧ 0 < n ∧ n < 2 ^ 200 ∧ Deal H d l ∧
  ∀ (k : Int) (H' : Hp), 0 ≤ k → k < n → But [d, l] H H' → Deal H' d l → Q (.int k) H'
def t_draw (K : PySem.W.Frag) : TS :=
  tSeq (tWhile (tAnd (tTest (tOp rEq (tDGet (tVar 0) (tC (.str "now"))) (tC (.int 0)))) (tTest (tOp qGt (tCB (qLen K) (tCons (tDGet (tVar 0) (tC (.str "left"))) (tNil))) (tC (.int 0))))) (sDPut (tVar 0) (tC (.str "now")) (tBM0 K "list" rPop (tDGet (tVar 0) (tC (.str "left"))))))
    (tSeq (tIfS (tTest (tOp qGt (tDGet (tVar 0) (tC (.str "now"))) (tC (.int 0)))) (tSeq (tAsg (tOp qMod (tDGet (tVar 0) (tC (.str "now"))) (tVar 1)) (gName 4))
    (tSeq (sDPut (tVar 0) (tC (.str "now")) (tOp qFdivW (tDGet (tVar 0) (tC (.str "now"))) (tVar 1)))
    (tRet (tVar 4)))) (tNext))
    (tSeq (sDPut (tVar 0) (tC (.str "many")) (tOp qAdd (tDGet (tVar 0) (tC (.str "many"))) (tC (.int 1))))
    (tSeq (tAsg (tOp qMod (tOp qMul (tOp qAdd (tDGet (tVar 0) (tC (.str "seed"))) (tOp qMul (tC (.int 40692)) (tDGet (tVar 0) (tC (.str "many"))))) (tC (.int 48271))) (tC (.int 2147483629))) (gName 2))
    (tSeq (tAsg (tOp qMod (tOp qAdd (tOp qAdd (tOp qMul (tVar 2) (tVar 2)) (tOp qMul (tC (.int 7919)) (tDGet (tVar 0) (tC (.str "many"))))) (tDGet (tVar 0) (tC (.str "seed")))) (tC (.int 2147483563))) (gName 3))
    (tRet (tOp qMod (tOp qFdiv (tOp qAdd (tOp qMul (tOp qMod (tOp qMul (tVar 3) (tVar 3)) (tC (.int 2147483647))) (tC (.int 30103))) (tVar 2)) (tC (.int 4096))) (tVar 1)))))))
theorem ifd {p A B : Prop} [Decidable p] (h1 : p → A) (h2 : ¬ p → B) : if decide p = true then A else B := by
  by_cases c : p
  · rw [if_pos (decide_eq_true c)]
    exact h1 c
  · rw [if_neg (by simpa using c)]
    exact h2 c
theorem mp {j : Int} (h : decide (0 < j) = true) : 0 < j := of_decide_eq_true h
theorem cm_mod {a b j : Int} (h : decide (0 < b) = true) (h2 : decide (b ≤ 2 ^ 64) = true) : CMul (a % b) j := by
  have h1 := of_decide_eq_true h
  have h2 := of_decide_eq_true h2
  have h3 := Int.emod_nonneg a (show b ≠ 0 by omega)
  have h4 := Int.emod_lt_of_pos a h1
  exact .inl ⟨by omega, by omega⟩
theorem len4 {s m n : Int} {l : Addr} : (dealK s m n l).length < sizeLine := by show 4 < sizeLine; decide
theorem mod_lt {a b : Int} (h : 0 < b) : 0 ≤ a % b ∧ a % b < b := ⟨Int.emod_nonneg _ (by omega), Int.emod_lt_of_pos _ h⟩
theorem pure_draw {K : PySem.W.Frag} (vs : List V) (H : Hp) (Q : VK) (E : XK) (h : sp_draw vs H Q E) : t_draw K (EndsQ Q) (sN 5 vs) H := by
  obtain ⟨d, l, n, rfl, hn, hn2, hD, k⟩ := h
  show t_draw K _ [some (.ref d), some (.int n), none, none, none] H
  -- the loop: the deal stands, all else too
  refine ⟨fun m σ H1 => σ = [some (.ref d), some (.int n), none, none, none] ∧ But [d, l] H H1 ∧ ∃ (s t n1 : Int) (ns : List Int), H1 d = some (.dK (dealK s t n1 l)) ∧ H1 l = some (.lst (ns.map V.int)) ∧ 0 ≤ n1 ∧ (∀ x ∈ ns, 0 ≤ x) ∧ m = ns.length, ?_, ?_⟩
  · obtain ⟨s, t, n1, ns, h1, h2, h3, h4⟩ := hD.ex
    exact ⟨_, rfl, .refl _ _, s, t, n1, ns, h1, h2, h3, h4, rfl⟩
  rintro m σ H1 ⟨rfl, hB, s, t, n1, ns, h1, h2, h3, h4, rfl⟩
  have hne : d ≠ l := ne_of h1 h2 (by intro z; cases z)
  refine rd_dk h1 rfl dk_now ⟨rfl, _, rfl, ?_⟩
  have after : ∀ ns : List Int, H1 l = some (.lst (ns.map V.int)) → (∀ x ∈ ns, 0 ≤ x) → tSeq (tIfS (tTest (tOp qGt (tDGet (tVar 0) (tC (.str "now"))) (tC (.int 0)))) (tSeq (tAsg (tOp qMod (tDGet (tVar 0) (tC (.str "now"))) (tVar 1)) (gName 4))
    (tSeq (sDPut (tVar 0) (tC (.str "now")) (tOp qFdivW (tDGet (tVar 0) (tC (.str "now"))) (tVar 1)))
    (tRet (tVar 4)))) (tNext))
    (tSeq (sDPut (tVar 0) (tC (.str "many")) (tOp qAdd (tDGet (tVar 0) (tC (.str "many"))) (tC (.int 1))))
    (tSeq (tAsg (tOp qMod (tOp qMul (tOp qAdd (tDGet (tVar 0) (tC (.str "seed"))) (tOp qMul (tC (.int 40692)) (tDGet (tVar 0) (tC (.str "many"))))) (tC (.int 48271))) (tC (.int 2147483629))) (gName 2))
    (tSeq (tAsg (tOp qMod (tOp qAdd (tOp qAdd (tOp qMul (tVar 2) (tVar 2)) (tOp qMul (tC (.int 7919)) (tDGet (tVar 0) (tC (.str "many"))))) (tDGet (tVar 0) (tC (.str "seed")))) (tC (.int 2147483563))) (gName 3))
    (tRet (tOp qMod (tOp qFdiv (tOp qAdd (tOp qMul (tOp qMod (tOp qMul (tVar 3) (tVar 3)) (tC (.int 2147483647))) (tC (.int 30103))) (tVar 2)) (tC (.int 4096))) (tVar 1))))))
      { nx := fun _ H' => Q .non H', rt := Q } [some (.ref d), some (.int n), none, none, none] H1 := by
    intro ns h2 h4
    refine rd_dk h1 rfl dk_now ⟨_, _, rfl, rfl, _, rfl, ?_⟩
    refine ifd (fun c => ?_) (fun c => ?_)
    · refine rd_dk h1 rfl dk_now ⟨_, rfl, _, _, rfl, rfl, hn, ?_⟩
      refine rd_dk h1 rfl dk_now ⟨_, rfl, _, _, rfl, rfl, wide_div hn (b := 200) (by omega) (by decide) (by decide), ?_⟩
      refine wr_dk h1 rfl len4 dk_putNow ⟨_, rfl, ?_⟩
      obtain ⟨m1, m2⟩ := mod_lt (a := n1) hn
      refine k _ _ m1 m2 (hB.trans fun a o ha e => ?_) ⟨s, t, n1 / n, ns, upd_same, ?_, Int.ediv_nonneg h3 (by omega), h4⟩
      · rw [upd_ne (by intro z; subst z; exact ha List.mem_cons_self)]
        exact e
      · rw [upd_ne (Ne.symm hne)]
        exact h2
    · refine rd_dk h1 rfl dk_many ⟨_, _, rfl, rfl, ?_⟩
      refine wr_dk h1 rfl len4 dk_putMany ?_
      refine rd_dk upd_same rfl dk_seed ?_
      refine rd_dk upd_same rfl dk_many ⟨_, _, rfl, rfl, .inl ⟨by decide, by decide⟩, _, _, rfl, rfl, _, _, rfl, rfl, .inr ⟨by decide, by decide⟩, _, _, rfl, rfl, mp rfl, ?_⟩
      refine ⟨_, rfl, _, rfl, _, _, rfl, rfl, cm_mod rfl rfl, ?_⟩
      refine rd_dk upd_same rfl dk_many ⟨_, _, rfl, rfl, .inl ⟨by decide, by decide⟩, _, _, rfl, rfl, ?_⟩
      refine rd_dk upd_same rfl dk_seed ⟨_, _, rfl, rfl, _, _, rfl, rfl, mp rfl, ?_⟩
      refine ⟨_, rfl, _, rfl, _, _, rfl, rfl, cm_mod rfl rfl, _, _, rfl, rfl, mp rfl, _, _, rfl, rfl, cm_mod rfl rfl, _, rfl, _, _, rfl, rfl, _, _, rfl, rfl, ⟨by decide, by decide⟩, _, rfl, _, _, rfl, rfl, hn, ?_⟩
      refine k _ _ (mod_lt hn).1 (mod_lt hn).2 (hB.trans fun a o ha e => ?_) ⟨s, t + 1, n1, ns, upd_same, ?_, h3, h4⟩
      · rw [upd_ne (by intro z; subst z; exact ha List.mem_cons_self)]
        exact e
      · rw [upd_ne (Ne.symm hne)]
        exact h2
  refine ifd (fun c => ?_) (fun c => ?_)
  · refine rd_dk h1 rfl dk_left ⟨_, (ns.map V.int).length, rfl, .inl ⟨_, SqL.of h2, rfl⟩, _, _, rfl, rfl, _, rfl, ?_⟩
    refine ifd (fun c2 => ?_) (fun c2 => ?_)
    · refine ⟨fun σ' H' => ∃ m', m' < ns.length ∧ _, fun _ _ h => h, ?_⟩
      have hpos : ns ≠ [] := by
        rintro rfl
        exact absurd c2 (by decide)
      refine rd_dk h1 rfl dk_left ⟨.inl ⟨rfl, _, SqL.of h2⟩, l, ns.map V.int, .int (ns.getLast hpos), rfl, rfl, h2, ?_, ?_⟩
      · rw [List.getElem?_map, List.length_map, ← List.getLast?_eq_getElem?, List.getLast?_eq_some_getLast hpos] <;> rfl
      · refine wr_dk (by rw [upd_ne hne]; exact h1) rfl len4 dk_putNow ⟨ns.length - 1, ?_, rfl, ?_, s, t, ns.getLast hpos, ns.dropLast, upd_same, ?_, h4 _ (List.getLast_mem hpos), fun x hx => h4 x ((List.dropLast_sublist ns).subset hx), by rw [List.length_dropLast]⟩
        · have := List.length_pos_iff.mpr hpos
          omega
        · intro a o ha e
          have h1' := hB a o ha e
          rw [upd_ne (by intro z; subst z; exact ha List.mem_cons_self), upd_ne (by intro z; subst z; exact ha (by simp))]
          exact h1'
        · rw [upd_ne (Ne.symm hne), upd_same, List.map_dropLast]
    · exact after ns h2 h4
  · exact after ns h2 h4
end Wf
/-! list(zip(t, u)), t and u tuples -/
namespace Wf
open PySem PySem.Spec
section
variable {prog : Program} {w : World} {A : Around} {E : Value → Shared → Prop} {s : Shared}
/-- a zip that has handed out a tuple which lives: field 0 tells where -/
abbrev zObj (x0 : Value) (b : Bool) (TI TO : Addr) : Obj := { cls := .type "zip", data := .fields #[x0, .bool b, .bool false, .ref TI, .ref TO] }
theorem alive {a : Addr} {Q : Option Obj → Shared → Prop} (h : Q (s.heap.get? a) s) : wpAny (model prog w) A (loadIfAlive a) Q E s := fun Γ p _ => by
  show Sem.wp _ _ (.loadIfAlive a .pure) _ _ _ _
  rw [Sem.wp_loadIfAlive]
  exact h
/-- the look at the owned tuple: it is not free -/
theorem notFree {z a TI TO : Addr} {b : Bool} {oa : Obj} {Q : Bool → Shared → Prop} (hz : s.heap.get? z = some (zObj (rawInt a) b TI TO)) (ha : s.heap.get? a = some oa)
    (h : ∀ h', h'.get? z = some (zObj (rawInt a) true TI TO) → Heap.SameBut z s.heap h' → Q false { s with heap := h' }) : wpAny (model prog w) A (Builtin.SmallTypes.ownedTupleIsFree (.ref z)) Q E s := by
  unfold Builtin.SmallTypes.ownedTupleIsFree
  refine wpAny_bind (wpAny_field hz rfl (x := rawInt a) rfl ?_)
  show wpAny _ _ (loadIfAlive ((a : Int).toNat) >>= _) _ _ _
  rw [Int.toNat_natCast]
  refine wpAny_bind (alive ?_)
  rw [ha]
  show wpAny _ _ (field (.ref z) 1 >>= _) _ _ _
  refine wpAny_bind (wpAny_field hz rfl (x := .bool b) rfl ?_)
  cases b with
  | true =>
    show wpAny _ _ (pure false) _ _ _
    exact wpAny_pure (h s.heap hz (Heap.SameBut.refl _ _))
  | false =>
    show wpAny _ _ (setField (.ref z) 1 (.bool true) >>= fun _ => pure false) _ _ _
    exact wpAny_bind (wpAny_setField_rec hz (by simp) fun h1 hz1 hs1 => wpAny_pure (h h1 hz1 hs1))
/-- the next pair of a zip whose tuple is out -/
theorem nextOut {z TI TO i1 i2 l1 l2 a : Addr} {k : Nat} {b : Bool} {oa : Obj} {xs ys : Array Value} {x y : Value} {Q : Option Value → Shared → Prop} (D : ZipApart z TI TO i1 i2 l1 l2)
    (hz : s.heap.get? z = some (zObj (rawInt a) b TI TO)) (ha : s.heap.get? a = some oa) (hTI : IsPair s.heap TI (.ref i1) (.ref i2))
    (h1 : s.heap.IsTupleIter i1 l1 k) (h2 : s.heap.IsTupleIter i2 l2 k) (hl1 : s.heap.IsTuple l1 xs) (hl2 : s.heap.IsTuple l2 ys) (hx : xs[k]? = some x) (hy : ys[k]? = some y)
    (hQ : ∀ h', h'.get? z = some (zObj (rawInt a) true TI TO) → h'.IsTupleIter i1 l1 (k + 1) → h'.IsTupleIter i2 l2 (k + 1) → IsPair h' s.heap.objs.size x y → h'.objs.size = s.heap.objs.size + 1 →
      (∀ c o, c ≠ z → c ≠ i1 → c ≠ i2 → s.heap.get? c = some o → h'.get? c = some o) → Q (some (.ref s.heap.objs.size)) { s with heap := h' }) : wpAny (model prog w) A (pyNext (.ref z)) Q E s := by
  have hT : s.TypeIs (.ref z) "zip" := ⟨_, hz, rfl⟩
  unfold pyNext
  refine wpAny_bind (wpAny_attempt (wpAny_callSpecial?_slot (name := Str.ofString "__next__") hT F.slot_zip_next (wpAny_call_entry F.slot_zip_next hT F.entry_zip_next ?_ (F.args_zip_next_1 _))))
  show wpAny _ _ (field (.ref z) 2 >>= _) _ _ _
  refine wpAny_bind (wpAny_field hz rfl (x := .bool false) rfl ?_)
  show wpAny _ _ (field (.ref z) 3 >>= _) _ _ _
  refine wpAny_bind (wpAny_field hz rfl (x := .ref TI) rfl ?_)
  refine wpAny_bind (wpAny_seqItems hTI rfl ?_)
  show wpAny _ _ (Builtin.SmallTypes.ownedTupleIsFree (.ref z) >>= _) _ _ _
  refine wpAny_bind (notFree hz ha fun g hg sg => ?_)
  simp only [Bool.false_eq_true, if_false]
  refine wpAny_bind ?_
  rw [← Array.forIn_toList]
  simp only [List.forIn_cons, List.forIn_nil]
  refine wpAny_bind (wpAny_bind (wpAny_holding ?_))
  show wpAny _ _ (Builtin.SmallTypes.nextOf (.ref i1) >>= _) _ _ _
  refine wpAny_bind (RZ.nextOf_tuple_item (h1.extBut sg.extBut D.i1z) (hl1.extBut sg.extBut D.l1z) hx fun g2 j1 sg2 => wpAny_pure ?_)
  refine wpAny_pure ?_
  refine wpAny_bind (wpAny_bind (wpAny_holding ?_))
  show wpAny _ _ (Builtin.SmallTypes.nextOf (.ref i2) >>= _) _ _ _
  refine wpAny_bind (RZ.nextOf_tuple_item ((h2.extBut sg.extBut D.i2z).extBut sg2.extBut D.i12.symm) ((hl2.extBut sg.extBut D.l2z).extBut sg2.extBut D.l2i1) hy fun g3 j2 sg3 => wpAny_pure ?_)
  refine wpAny_pure ?_
  refine wpAny_pure ?_
  show wpAny _ _ (newTuple [x, y] >>= fun v => ret v) _ _ _
  refine wpAny_bind (wpAny_newTuple ?_ (by show 2 ≤ sizeLine; decide))
  refine wpAny_pure ⟨_, rfl, wpAny_pure ?_⟩
  have z3 : g3.objs.size = s.heap.objs.size := by rw [sg3.1, sg2.1, sg.1]
  have up : ∀ c o, c ≠ z → c ≠ i1 → c ≠ i2 → s.heap.get? c = some o → g3.get? c = some o := fun c o n0 n1 n2 e => sg3.extBut _ _ n2 (sg2.extBut _ _ n1 (sg.extBut _ _ n0 e))
  show Q (some (.ref g3.objs.size)) { s with heap := g3.push { cls := .type "tuple", data := .seq #[x, y] } }
  have gg : IsPair (g3.push { cls := .type "tuple", data := .seq #[x, y] }) g3.objs.size x y := Heap.get?_push_size _ rfl
  rw [z3] at gg ⊢
  refine hQ _ (Heap.get?_push_of_some _ (sg3.extBut _ _ D.i2z.symm (sg2.extBut _ _ D.i1z.symm hg))) ((j1.extBut sg3.extBut D.i12).at fun o e => Heap.get?_push_of_some _ e) (j2.at fun o e => Heap.get?_push_of_some _ e) gg (by rw [Heap.size_push, z3]) fun c o n0 n1 n2 e => Heap.get?_push_of_some _ (up c o n0 n1 n2 e)
/-- such a zip at its end -/
theorem endOut {z TI TO i1 i2 l1 l2 a : Addr} {k : Nat} {b : Bool} {oa : Obj} {xs ys : Array Value} {Q : Option Value → Shared → Prop} (hh : A.handled = none) (D : ZipApart z TI TO i1 i2 l1 l2)
    (hz : s.heap.get? z = some (zObj (rawInt a) b TI TO)) (ha : s.heap.get? a = some oa) (hTI : IsPair s.heap TI (.ref i1) (.ref i2))
    (h1 : s.heap.IsTupleIter i1 l1 k) (h2 : s.heap.IsTupleIter i2 l2 k) (hl1 : s.heap.IsTuple l1 xs) (hl2 : s.heap.IsTuple l2 ys) (hx : xs[k]? = none)
    (hQ : ∀ h', (∀ c o, c ≠ z → c ≠ i1 → c ≠ i2 → s.heap.get? c = some o → h'.get? c = some o) → Q none { s with heap := h' }) : wpAny (model prog w) A (pyNext (.ref z)) Q E s := by
  have hT : s.TypeIs (.ref z) "zip" := ⟨_, hz, rfl⟩
  unfold pyNext
  refine wpAny_bind (wpAny_attempt (wpAny_callSpecial?_slot (name := Str.ofString "__next__") hT F.slot_zip_next (wpAny_call_entry F.slot_zip_next hT F.entry_zip_next ?_ (F.args_zip_next_1 _))))
  show wpAny _ _ (field (.ref z) 2 >>= _) _ _ _
  refine wpAny_bind (wpAny_field hz rfl (x := .bool false) rfl ?_)
  show wpAny _ _ (field (.ref z) 3 >>= _) _ _ _
  refine wpAny_bind (wpAny_field hz rfl (x := .ref TI) rfl ?_)
  refine wpAny_bind (wpAny_seqItems hTI rfl ?_)
  show wpAny _ _ (Builtin.SmallTypes.ownedTupleIsFree (.ref z) >>= _) _ _ _
  refine wpAny_bind (notFree hz ha fun g hg sg => ?_)
  simp only [Bool.false_eq_true, if_false]
  refine wpAny_bind ?_
  rw [← Array.forIn_toList]
  simp only [List.forIn_cons, List.forIn_nil]
  refine wpAny_bind (wpAny_bind (wpAny_holding ?_))
  show wpAny _ _ (Builtin.SmallTypes.nextOf (.ref i1) >>= _) _ _ _
  refine wpAny_bind (RZ.nextOf_tuple_end hh (h1.extBut sg.extBut D.i1z) (hl1.extBut sg.extBut D.l1z) hx fun g2 e sg2 he => ?_)
  obtain ⟨o, ho, hc⟩ := he
  refine wpAny_bind (wpAny_isInstance (T := "StopIteration") (b := true) ⟨o, ho, hc⟩ isSubtype_stop ?_)
  exact wpAny_pure (hQ g2 fun c o n0 n1 _ e => sg2 _ _ n1 (sg.extBut _ _ n0 e))
theorem nolen_zip : typeLookup (.type "zip") "__len__" = pure none := by rw [typeLookup_type, builtinLookup_eq_fast]; kernel_rfl
theorem nohint_zip : typeLookup (.type "zip") "__length_hint__" = pure none := by rw [typeLookup_type, builtinLookup_eq_fast]; kernel_rfl
/-- where the walk of a zip of two tuples stands -/
structure ZAt (h : Heap) (z TI TO i1 i2 l1 l2 S n0 : Addr) (xs ys : Array Value) (i : Nat) : Prop where
  own : (i = 0 ∧ IsZip h z TI TO .none ∧ ∃ a b, IsPair h TO a b) ∨ (0 < i ∧ ∃ b, h.get? z = some (zObj (rawInt n0) b TI TO))
  ti : IsPair h TI (.ref i1) (.ref i2)
  it1 : h.IsTupleIter i1 l1 i
  it2 : h.IsTupleIter i2 l2 i
  t1 : h.IsTuple l1 xs
  t2 : h.IsTuple l2 ys
  lst : ∃ acc c, h.get? S = some { cls := .type "list", dict := none, data := .seq acc c, slots := #[] } ∧ acc.toList = (List.range i).map fun j => Value.ref (n0 + j)
  sz : h.objs.size = n0 + i
  made : ∀ j, j < i → ∃ x y, xs[j]? = some x ∧ ys[j]? = some y ∧ IsPair h (n0 + j) x y
theorem loopZip {R : Result → Shared → Prop} {z TI TO i1 i2 l1 l2 S n0 : Addr} {xs ys : Array Value} {res : Value} (hh : A.handled = none) (D : ZipApart z TI TO i1 i2 l1 l2) (hn : xs.size = ys.size) (hl : xs.size ≤ sizeLine)
    (hS : S ≠ z ∧ S ≠ TO ∧ S ≠ i1 ∧ S ≠ i2 ∧ S ≠ TI ∧ S ≠ l1 ∧ S ≠ l2 ∧ S < n0) (hb : z < n0 ∧ TO < n0 ∧ i1 < n0 ∧ i2 < n0) :
    ∀ (k i : Nat) (s : Shared), xs.size - i = k → i ≤ xs.size → ZAt s.heap z TI TO i1 i2 l1 l2 S n0 xs ys i →
      (∀ h' tk, (∀ c o, c ≠ z → c ≠ TO → c ≠ i1 → c ≠ i2 → c ≠ S → s.heap.get? c = some o → h'.get? c = some o) →
        (∃ acc c, h'.get? S = some { cls := .type "list", dict := none, data := .seq acc c, slots := #[] } ∧ acc.toList = (List.range xs.size).map fun j => Value.ref (n0 + j)) →
        (∀ j, j < xs.size → ∃ x y, xs[j]? = some x ∧ ys[j]? = some y ∧ IsPair h' (n0 + j) x y) → R (.ok (.ret res)) { s with heap := h', toks := tk }) →
      codeAny (model prog w) A (.builtin "list.extend.loop" ⟨[.ref S, .ref z, res], []⟩) R s := by
  obtain ⟨s1, s2, s3, s4, s5, s6, s7, s8⟩ := hS
  obtain ⟨b1, b2, b3, b4⟩ := hb
  have far : ∀ {c : Addr} {j : Nat}, c < n0 → n0 + j ≠ c := fun h => Nat.ne_of_gt (Nat.lt_of_lt_of_le h (Nat.le_add_right _ _))
  intro k
  induction k with
  | zero =>
    intro i s hk hi Z hR
    have hin : i = xs.size := by omega
    refine codeAny_builtin F.entry_extend_loop ?_
    rw [Around.under_plainId F.plain_extend_loop _]
    show wpAny _ A.in1 (pyNext (.ref z) >>= _) _ _ s
    have hx : xs[i]? = none := by rw [hin]; simp
    have fin : ∀ h' : Heap, (∀ c o, c ≠ z → c ≠ TO → c ≠ i1 → c ≠ i2 → s.heap.get? c = some o → h'.get? c = some o) → R (.ok (.ret res)) { s with heap := h' } := fun h' kp => by
      obtain ⟨acc, c, e, ea⟩ := Z.lst
      rw [hin] at ea
      refine hR h' s.toks (fun c o c1 c2 c3 c4 _ e => kp c o c1 c2 c3 c4 e) ⟨acc, c, kp _ _ s1 s2 s3 s4 e, ea⟩ fun j hj => ?_
      obtain ⟨x, y, e1, e2, e3⟩ := Z.made j (by omega)
      exact ⟨x, y, e1, e2, kp _ _ (far b1) (far b2) (far b3) (far b4) e3⟩
    rcases Z.own with ⟨_, hz, a, b, hTO⟩ | ⟨h0, b, hz⟩
    · refine wpAny_bind (RZ.pyNext_zipT_end hh D hz Z.ti hTO Z.it1 Z.it2 Z.t1 Z.t2 (.inl hx) fun h' kp => wpAny_pure ?_)
      exact fin h' kp
    · obtain ⟨_, _, _, _, e3⟩ := Z.made 0 h0
      refine wpAny_bind (endOut hh D hz e3 Z.ti Z.it1 Z.it2 Z.t1 Z.t2 hx fun h' kp => wpAny_pure ?_)
      exact fin h' fun c o c1 _ c3 c4 e => kp c o c1 c3 c4 e
  | succ k ih =>
    intro i s hk hi Z hR
    have hlt : i < xs.size := by omega
    refine codeAny_builtin F.entry_extend_loop ?_
    rw [Around.under_plainId F.plain_extend_loop _]
    show wpAny _ A.in1 (pyNext (.ref z) >>= _) _ _ s
    have hx : xs[i]? = some xs[i] := by simp [hlt]
    have hy : ys[i]? = some (ys[i]'(by omega)) := by simp
    generalize ys[i]'(by omega) = y at hy
    generalize xs[i] = x at hx
    -- behind the next pair
    have step : ∀ h' : Heap, (∃ b, h'.get? z = some (zObj (rawInt n0) b TI TO)) → h'.IsTupleIter i1 l1 (i + 1) → h'.IsTupleIter i2 l2 (i + 1) → IsPair h' s.heap.objs.size x y → h'.objs.size = s.heap.objs.size + 1 →
        (∀ c o, c ≠ z → c ≠ TO → c ≠ i1 → c ≠ i2 → s.heap.get? c = some o → h'.get? c = some o) →
        wpAny (model prog w) A.in1 (updateSeq S (·.push (.ref s.heap.objs.size)) >>= fun _ => again (.builtin "list.extend.loop" ⟨[.ref S, .ref z, res], []⟩))
          (fun fin s' => match fin with | .done f => R (.ok f) s' | .again c' => c'.quiet = true ∧ codeAny (model prog w) A c' R s') (fun e s' => R (.error e) s') { s with heap := h' } := by
      intro h' hz j1 j2 hp sz kp
      obtain ⟨acc, c, e, ea⟩ := Z.lst
      have e' := kp _ _ s1 s2 s3 s4 e
      have la : acc.size = i := by rw [← Array.length_toList, ea, List.length_map, List.length_range]
      have oth : ∀ b o, b ≠ S → h'.get? b = some o → (h'.update S (Obj.mapSeq (·.push (.ref s.heap.objs.size)))).get? b = some o := fun b o hb e => (Heap.get?_update_other _ _ (Ne.symm hb)).trans e
      refine wpAny_bind ?_
      refine wpAny_updateSeq e' rfl (wpAny_pure ⟨plainId_quiet F.plain_extend_loop _, ih (i + 1) _ (by omega) hlt ?_ fun h'' tk kp2 q2 q3 => ?_⟩)
        (by rw [la]; omega) (by show (acc.push _).size ≤ sizeLine + 1; rw [Array.size_push, la]; omega)
      · refine ⟨.inr ⟨Nat.succ_pos _, ?_⟩, oth _ _ (Ne.symm s5) (kp _ _ D.TIz D.TITO D.TIi1 D.TIi2 Z.ti), j1.at fun o e => oth _ o (Ne.symm s3) e, j2.at fun o e => oth _ o (Ne.symm s4) e, ?_, ?_, ⟨_, _, Heap.get?_update_self _ e' rfl, ?_⟩, ?_, fun j hj => ?_⟩
        · obtain ⟨b, hz⟩ := hz
          exact ⟨b, oth _ _ (Ne.symm s1) hz⟩
        · obtain ⟨o, q, r⟩ := Z.t1
          exact ⟨o, oth _ _ (Ne.symm s6) (kp _ _ D.l1z D.l1TO D.l1i1 D.l1i2 q), r⟩
        · obtain ⟨o, q, r⟩ := Z.t2
          exact ⟨o, oth _ _ (Ne.symm s7) (kp _ _ D.l2z D.l2TO D.l2i1 D.l2i2 q), r⟩
        · rw [Array.toList_push, ea, List.range_succ, List.map_append, Z.sz]
          rfl
        · show (h'.update S _).objs.size = _
          rw [Heap.size_update, sz, Z.sz]
          rfl
        · by_cases hji : j < i
          · obtain ⟨x', y', e1, e2, e3⟩ := Z.made j hji
            exact ⟨x', y', e1, e2, oth _ _ (far s8) (kp _ _ (far b1) (far b2) (far b3) (far b4) e3)⟩
          · have hj : j = i := by omega
            subst hj
            refine ⟨x, y, hx, hy, oth _ _ (far s8) ?_⟩
            rw [← Z.sz]
            exact hp
      · exact hR h'' tk (fun c o c1 c2 c3 c4 c5 e => kp2 c o c1 c2 c3 c4 c5 (oth _ _ c5 (kp _ _ c1 c2 c3 c4 e))) q2 q3
    rcases Z.own with ⟨h0, hz, a, b, hTO⟩ | ⟨h0, b, hz⟩
    · refine wpAny_bind (RZ.pyNext_zipT_item D hz Z.ti hTO Z.it1 Z.it2 Z.t1 Z.t2 hx hy fun h' q1 q2 q3 q4 q5 q6 kp => ?_)
      refine step h' ⟨false, ?_⟩ q3 q4 q5 q6 kp
      have e0 : s.heap.objs.size = n0 := by rw [Z.sz, h0]; rfl
      rw [← e0]
      exact q1
    · obtain ⟨_, _, _, _, e3⟩ := Z.made 0 h0
      refine wpAny_bind (nextOut D hz e3 Z.ti Z.it1 Z.it2 Z.t1 Z.t2 hx hy fun h' q1 q3 q4 q5 q6 kp => ?_)
      exact step h' ⟨true, q1⟩ q3 q4 q5 q6 fun c o c1 _ c3 c4 e => kp c o c1 c3 c4 e
/-- list(z), z a zip just made -/
theorem callZip {z TI TO i1 i2 l1 l2 : Addr} {xs ys : Array Value} {Q : Value → Shared → Prop} (hh : A.handled = none) (D : ZipApart z TI TO i1 i2 l1 l2) (hn : xs.size = ys.size) (hl : xs.size ≤ sizeLine)
    (hz : IsZip s.heap z TI TO .none) (hTI : IsPair s.heap TI (.ref i1) (.ref i2)) (hTO : IsPair s.heap TO .none .none) (h1 : s.heap.IsTupleIter i1 l1 0) (h2 : s.heap.IsTupleIter i2 l2 0) (t1 : s.heap.IsTuple l1 xs) (t2 : s.heap.IsTuple l2 ys)
    (hQ : ∀ h' tk, (∀ c o, c ≠ z → c ≠ TO → c ≠ i1 → c ≠ i2 → s.heap.get? c = some o → h'.get? c = some o) →
        (∃ acc c, h'.get? s.heap.objs.size = some { cls := .type "list", dict := none, data := .seq acc c, slots := #[] } ∧ acc.toList = (List.range xs.size).map fun j => Value.ref (s.heap.objs.size + 1 + j)) →
        (∀ j, j < xs.size → ∃ x y, xs[j]? = some x ∧ ys[j]? = some y ∧ IsPair h' (s.heap.objs.size + 1 + j) x y) → Q (.ref s.heap.objs.size) { s with heap := h', toks := tk }) :
    wpAny (model prog w) A (call (.type "list") [.ref z]) Q E s := by
  refine callType_codes (Q₁ := fun obj s₁ => obj = .ref s.heap.objs.size ∧ s₁ = { s with heap := s.heap.push { cls := .type "list", data := .seq #[] } }) F.called_list (F.typeCall_list_1 _) F.entry_list_init (code_list_new _ ⟨rfl, rfl⟩) fun obj s₁ h₁ => ?_
  obtain ⟨rfl, rfl⟩ := h₁
  obtain ⟨o1, ho1, _⟩ := id h1
  obtain ⟨o2, ho2, _⟩ := id h2
  obtain ⟨p1, hp1, _⟩ := id t1
  obtain ⟨p2, hp2, _⟩ := id t2
  have hS : (s.heap.push { cls := .type "list", data := .seq #[] }).get? s.heap.objs.size = some { cls := .type "list", data := .seq #[] } := Heap.get?_push_size _ rfl
  have up : ∀ b o, s.heap.get? b = some o → (s.heap.push { cls := .type "list", data := .seq #[] }).get? b = some o := fun b o e => Heap.get?_push_of_some _ e
  have nS : ∀ {b o}, s.heap.get? b = some o → s.heap.objs.size ≠ b := fun e => Nat.ne_of_gt (Heap.lt_size e)
  refine ⟨⟨_, hS, rfl⟩, F.args_list_init_2 _ _, ?_⟩
  show wpAny _ A.in1.in1 (Builtin.List.listItems (.ref s.heap.objs.size) >>= fun old => Builtin.List.listUpdate (.ref s.heap.objs.size) (fun _ => #[]) >>= fun _ => letGo old.toList.reverse >>= fun _ => Builtin.List.listExtendWith (.ref s.heap.objs.size) (.ref z) .none) _ _ _
  refine wpAny_bind ?_
  unfold Builtin.List.listItems
  refine wpAny_bind (wpAny_seqItems hS rfl (wpAny_pure ?_))
  show wpAny _ A.in1.in1 (updateSeq s.heap.objs.size (fun _ => #[]) >>= fun _ => letGo (#[] : Array Value).toList.reverse >>= fun _ => Builtin.List.listExtendWith (.ref s.heap.objs.size) (.ref z) .none) _ _ _
  refine wpAny_bind (wpAny_updateSeq hS rfl ?_)
  have hS2 := Heap.get?_update_self (Obj.mapSeq (fun _ => (#[] : Array Value))) hS rfl
  generalize hg : (s.heap.push { cls := .type "list", data := .seq #[] }).update s.heap.objs.size (Obj.mapSeq (fun _ => (#[] : Array Value))) = g at hS2
  have up2 : ∀ b o, s.heap.get? b = some o → g.get? b = some o := fun b o e => by
    rw [← hg]
    exact (Heap.get?_update_other _ _ (nS e)).trans (up b o e)
  have sg : g.objs.size = s.heap.objs.size + 1 := by rw [← hg, Heap.size_update, Heap.size_push]
  refine wpAny_bind (wpAny_letGo ?_)
  have hT : ({ s with heap := g } : Shared).TypeIs (.ref z) "zip" := ⟨_, up2 _ _ hz, rfl⟩
  have hs1 : Builtin.List.listSameRef (.ref s.heap.objs.size) (.ref z) = false := by simp [Builtin.List.listSameRef, nS hz]
  show wpAny _ A.in1.in1 (Builtin.List.listExtendWith (.ref s.heap.objs.size) (.ref z) .none) _ _ { s with heap := g }
  unfold Builtin.List.listExtendWith
  refine wpAny_bind (wpAny_typeOf hT ?_)
  rw [if_neg (by rw [hs1]; decide)]
  refine wpAny_bind (wpAny_pyIter_zip (up2 _ _ hz) ?_)
  refine wpAny_bind (wpAny_holding ?_)
  unfold Builtin.List.listLengthHint
  refine wpAny_bind (wpAny_specialOf hT nolen_zip ?_)
  show wpAny _ _ (specialOf (Value.ref z) (Str.ofString "__length_hint__") >>= _) _ _ _
  refine wpAny_bind (wpAny_specialOf hT nohint_zip ?_)
  refine wpAny_pure ?_
  show wpAny _ _ (rule "list.extend.makes-room" >>= fun _ => Builtin.List.listTouch (.ref s.heap.objs.size) >>= fun _ => again (.builtin "list.extend.loop" ⟨[.ref s.heap.objs.size, .ref z, .none], []⟩)) _ _ _
  refine wpAny_bind (wpAny_rule ?_)
  refine wpAny_bind ?_
  show wpAny _ _ (updateSeq s.heap.objs.size (·.push .none) >>= fun _ => updateSeq s.heap.objs.size (·.pop)) _ _ _
  refine wpAny_bind (wpAny_updateSeq hS2 rfl ?_)
  have hS3 := Heap.get?_update_self (Obj.mapSeq (·.push Value.none)) hS2 rfl
  refine wpAny_updateSeq (hz := by seq_fits) hS3 rfl ?_
  have hS4 := Heap.get?_update_self (Obj.mapSeq (·.pop)) hS3 rfl
  generalize hg4 : ((g.update s.heap.objs.size (Obj.mapSeq (·.push Value.none))).update s.heap.objs.size (Obj.mapSeq (·.pop))) = g4 at hS4
  have up4 : ∀ b o, s.heap.get? b = some o → g4.get? b = some o := fun b o e => by
    rw [← hg4]
    exact (Heap.get?_update_other _ _ (nS e)).trans ((Heap.get?_update_other _ _ (nS e)).trans (up2 b o e))
  have sg4 : g4.objs.size = s.heap.objs.size + 1 := by rw [← hg4, Heap.size_update, Heap.size_update, sg]
  have lt1 : ∀ {b o}, s.heap.get? b = some o → b < s.heap.objs.size + 1 := fun e => Nat.lt_succ_of_lt (Heap.lt_size e)
  refine wpAny_pure ⟨plainId_quiet F.plain_extend_loop _, loopZip (n0 := s.heap.objs.size + 1) (S := s.heap.objs.size) (A := A.in1) hh D hn hl ⟨nS hz, nS hTO, nS ho1, nS ho2, nS hTI, nS hp1, nS hp2, Nat.lt_succ_self _⟩ ⟨lt1 hz, lt1 hTO, lt1 ho1, lt1 ho2⟩ xs.size 0 _ (by simp) (Nat.zero_le _)
    ⟨.inl ⟨rfl, up4 _ _ hz, _, _, up4 _ _ hTO⟩, up4 _ _ hTI, h1.at fun o e => up4 _ o e, h2.at fun o e => up4 _ o e, ⟨p1, up4 _ _ hp1, by assumption⟩, ⟨p2, up4 _ _ hp2, by assumption⟩, ⟨_, _, hS4, rfl⟩, sg4, fun j hj => absurd hj (Nat.not_lt_zero _)⟩ fun h' tk kp q2 q3 => ?_⟩
  exact ⟨rfl, hQ h' tk (fun c o c1 c2 c3 c4 e => kp c o c1 c2 c3 c4 (Ne.symm (nS e)) (up4 _ _ e)) q2 q3⟩
end
section
open L2
theorem vrefs (m : Addr) (n : Nat) : Vals (((List.range n).map fun j => m + 1 + j).map V.ref) ((List.range n).map fun j => Value.ref (m + 1 + j)) := by
  rw [List.map_map]
  generalize List.range n = l
  induction l with
  | nil => exact .nil
  | cons j l ih => exact .cons rfl ih
/-- list(zip(t, u)), t and u tuples of one length: a new list of new pairs -/
def rLstZip (K : PySem.W.Frag) : List V → Hp → VK → Prop := fun vs H Q => ∃ (a b : Addr) (xs ys : List V), vs = [.ref a, .ref b] ∧ SqT K H a xs ∧ SqT K H b ys ∧ xs.length = ys.length ∧
  ∀ (q : Addr) (ps : List Addr) (H3 : Hp), H q = none → (∀ p ∈ ps, H p = none) → Same H H3 → H3 q = some (.lst (ps.map V.ref)) → ps.length = xs.length →
    (∀ (i : Nat) (p : Addr), ps[i]? = some p → ∃ u v, xs[i]? = some u ∧ ys[i]? = some v ∧ H3 p = some (.tup [u, v])) → Q (.ref q) H3
variable {X : Cx}
theorem pe_lstZip {e1 e2 : Expr} {t : TA} {p p2 pos pos2 : Pos} (hc : X.calm = true) (hg : Gl X "list") (hm : X.mg "list" = none) (hg2 : Gl X "zip") (hm2 : X.mg "zip" = none) (ha : PA X [e1, e2] t)
    (hs : starEach [e1, e2] X.env = (false, eval e1 X.env) :: starEach [e2] X.env := by rfl)
    (hpl : (backTo pos2 (starEach [e2] X.env)).any (·.1) = false := by rfl)
    (hs2 : starEach [.Call (.Name "zip" p2) [e1, e2] [] pos2] X.env = (false, eval (.Call (.Name "zip" p2) [e1, e2] [] pos2) X.env) :: starEach [] X.env := by rfl) :
    PE X (.Call (.Name "list" p) [.Call (.Name "zip" p2) [e1, e2] [] pos2] [] pos) (tCB (rLstZip X.K) t) := by
  refine ⟨fun pins s σ H Q I h => ?_⟩
  refine PyProof.Rows.Call_ (ld_blt I hg hm PyProof.Rows.boot_list (PyProof.Rows.callWith_type1 (PyProof.Rows.args_cons (PyProof.Rows.Call_ (ld_blt I hg2 hm2 PyProof.Rows.boot_zip (PyProof.Rows.callWith_type1 (thn (ha.run pos2 pins s σ H _ I h) fun us s1 ⟨vs, H1, I1, r1, q1⟩ => ?_) hs hpl))) hs2) hs2 rfl))
  obtain ⟨a, b, xs, ys, ex, hqx, hqy, hlen, q⟩ := q1
  subst ex
  cases r1 with
  | cons r rr =>
    cases rr with
    | cons r' rr =>
      cases rr
      cases r
      cases r'
      obtain ⟨ix, rv1, p1, z1⟩ := I1.tuple hqx
      obtain ⟨iy, rv2, p2, _⟩ := I1.tuple hqy
      obtain ⟨o1, ho1, _⟩ := id p1
      obtain ⟨o2, ho2, _⟩ := id p2
      refine RZ.call_zipT (show s1.heap.IsTuple a ix.toArray from p1) (show s1.heap.IsTuple b iy.toArray from p2) fun h' hz hTI hTO h1 h2 hsz hk => ?_
      have nx : ix.toArray.size = xs.length := by rw [List.size_toArray, rv1.length]
      have ny : iy.toArray.size = ys.length := by rw [List.size_toArray, rv2.length]
      have w1 : h'.IsTuple a ix.toArray := by
        obtain ⟨o, e, r⟩ := p1
        exact ⟨o, hk _ _ e, r⟩
      have w2 : h'.IsTuple b iy.toArray := by
        obtain ⟨o, e, r⟩ := p2
        exact ⟨o, hk _ _ e, r⟩
      refine PyProof.Rows.args_nil ?_
      refine callZip (s := { s1 with heap := h' }) (I1.ok.hd hc) (PySem.W.ktu_apart s1.heap.objs.size a b (Heap.lt_size ho1) (Heap.lt_size ho2)) (by rw [nx, ny, hlen]) (by rw [nx]; exact z1) hz hTI hTO h1 h2 w1 w2 fun g tk kp ⟨acc, c, hS, ea⟩ made => ?_
      -- what is tracked then
      have base : ∀ {c o}, s1.heap.get? c = some o → g.get? c = some o := fun {c o} e => by
        have l : c < s1.heap.objs.size := Heap.lt_size e
        exact kp c o (Nat.ne_of_lt (Nat.lt_of_lt_of_le l (Nat.le_add_right _ _))) (Nat.ne_of_lt (Nat.lt_of_lt_of_le l (Nat.le_add_right _ _))) (Nat.ne_of_lt l) (Nat.ne_of_lt (Nat.lt_of_lt_of_le l (Nat.le_add_right _ _))) (hk c o e)
      have hsz' : h'.objs.size = s1.heap.objs.size + 5 := hsz
      generalize hm0 : h'.objs.size = m at hS made ea
      have lm : s1.heap.objs.size ≤ m := by rw [← hm0, hsz']; exact Nat.le_add_right _ _
      have old : ∀ {c o}, s1.heap.get? c = some o → c < m := fun e => Nat.lt_of_lt_of_le (Heap.lt_size e) lm
      have oldH : ∀ {c o}, H1 c = some o → c < m := fun e => Nat.lt_of_lt_of_le (I1.hok.lt e) lm
      have pick : ∀ j, j < xs.length → ∃ u v iu iv, xs[j]? = some u ∧ ys[j]? = some v ∧ ix[j]? = some iu ∧ iy[j]? = some iv ∧ RelV u iu ∧ RelV v iv ∧ IsPair g (m + 1 + j) iu iv := fun j hj => by
        obtain ⟨iu, iv, e1, e2, e3⟩ := made j (by rw [nx]; exact hj)
        have k1 : xs[j]? = some xs[j] := List.getElem?_eq_getElem hj
        have k2 : ys[j]? = some (ys[j]'(by omega)) := List.getElem?_eq_getElem (by omega)
        obtain ⟨u', f1, f2⟩ := rv1.get k1
        obtain ⟨v', f3, f4⟩ := rv2.get k2
        have e1' : ix[j]? = some iu := by simpa using e1
        have e2' : iy[j]? = some iv := by simpa using e2
        rw [e1'] at f1
        rw [e2'] at f3
        cases f1
        cases f3
        exact ⟨_, _, iu, iv, k1, k2, e1', e2', f2, f4, e3⟩
      let H3 : Hp := fun c => if c = m then some (.lst (((List.range xs.length).map fun j => m + 1 + j).map V.ref)) else if m < c ∧ c < m + 1 + xs.length then some (.tup [xs.getD (c - m - 1) .non, ys.getD (c - m - 1) .non]) else H1 c
      have hH0 : H3 m = some (.lst (((List.range xs.length).map fun j => m + 1 + j).map V.ref)) := if_pos rfl
      have hHt : ∀ j, j < xs.length → ∀ u v, xs[j]? = some u → ys[j]? = some v → H3 (m + 1 + j) = some (.tup [u, v]) := fun j hj u v e1 e2 => by
        have a1 : ¬ m + 1 + j = m := Nat.ne_of_gt (Nat.lt_of_lt_of_le (Nat.lt_succ_self m) (Nat.le_add_right _ _))
        have a2 : m < m + 1 + j ∧ m + 1 + j < m + 1 + xs.length := ⟨Nat.lt_of_lt_of_le (Nat.lt_succ_self m) (Nat.le_add_right _ _), Nat.add_lt_add_left hj _⟩
        have a3 : m + 1 + j - m - 1 = j := by rw [Nat.add_assoc, Nat.add_sub_cancel_left, Nat.add_sub_cancel_left]
        show (if m + 1 + j = m then _ else if m < m + 1 + j ∧ m + 1 + j < m + 1 + xs.length then _ else _) = _
        rw [if_neg a1, if_pos a2, a3]
        simp [List.getD, e1, e2]
      have hHo : ∀ c, c < m → H3 c = H1 c := fun c hc => by
        show (if c = m then _ else if m < c ∧ c < m + 1 + xs.length then _ else _) = _
        rw [if_neg (Nat.ne_of_lt hc), if_neg (fun z => absurd z.1 (Nat.not_lt_of_le (Nat.le_of_lt hc)))]
      have hHs : ∀ c o, H3 c = some o → c = m ∨ (∃ j, j < xs.length ∧ c = m + 1 + j) ∨ H1 c = some o := fun c o e => by
        by_cases c1 : c = m
        · exact .inl c1
        · by_cases c2 : m < c ∧ c < m + 1 + xs.length
          · refine .inr (.inl ⟨c - m - 1, ?_, ?_⟩)
            · have := c2.2
              have := c2.1
              simp only [Addr] at *
              omega
            · have := c2.1
              simp only [Addr] at *
              omega
          · have e' : (if c = m then some (HO.lst (((List.range xs.length).map fun j => m + 1 + j).map V.ref)) else if m < c ∧ c < m + 1 + xs.length then some (.tup [xs.getD (c - m - 1) .non, ys.getD (c - m - 1) .non]) else H1 c) = some o := e
            rw [if_neg c1, if_neg c2] at e'
            exact .inr (.inr e')
      have sH : Same H1 H3 := fun c o e => by rw [hHo c (oldH e)]; exact e
      refine I1.after ⟨.ref m, H3, rfl, I1.bare, ⟨fun c o e n _ _ => base e, fun c o e n _ _ => ⟨o.slots, base e⟩, fun c o e n _ => by rw [hHo c (old e)]; exact n, fun c o e _ => ⟨o, base e⟩, fun c zs e => sH _ _ e, fun c o u e => sH _ _ e, fun c ps e => ⟨#[], by rw [sH _ _ e]; simp⟩⟩, fun c o e => ?_, by rw [← hm0]; rfl, ?_⟩
      · rcases hHs c o e with rfl | ⟨j, hj, rfl⟩ | e1
        · rw [hH0] at e
          cases e
          refine ⟨by simp only [List.length_map, List.length_range]; exact z1, acc.toList, _, ?_, by rw [Array.toArray_toList]; exact hS⟩
          rw [ea, nx]
          exact vrefs _ _
        · obtain ⟨u, v, iu, iv, k1, k2, k3, k4, r1, r2, e3⟩ := pick j hj
          rw [hHt j hj u v k1 k2] at e
          cases e
          exact ⟨by show 2 ≤ sizeLine; decide, [iu, iv], .cons r1 (.cons r2 .nil), _, e3, rfl, _, rfl⟩
        · exact (I1.hok c o e1).stay (fun b u _ q => base q) (fun b q => sH _ _ q) fun b zs q => sH _ _ q
      · refine q m _ H3 (I1.hok.fresh lm) (fun c hc => ?_) sH hH0 (by simp) fun i c hc => ?_
        · obtain ⟨j, _, rfl⟩ := List.mem_map.mp hc
          exact I1.hok.fresh (Nat.le_trans lm (Nat.le_trans (Nat.le_succ m) (Nat.le_add_right _ _)))
        · rw [List.getElem?_map] at hc
          obtain ⟨j, e1, e2⟩ := Option.map_eq_some_iff.mp hc
          have hi : i < xs.length := by
            have := (List.getElem?_eq_some_iff.mp e1).1
            simpa using this
          have e1' : i = j := by
            rw [List.getElem?_range hi] at e1
            exact Option.some.inj e1
          subst e1'
          subst e2
          obtain ⟨u, v, _, _, k1, k2, _⟩ := pick i hi
          exact ⟨u, v, k1, k2, hHt i hi u v k1 k2⟩
end
end Wf
/-! Defs that are called where no repr is under way (guards are none): for the text that repr gives. -/
namespace Wf
open PySem PySem.Spec L2
section
variable {P : Program} {w : World} {K : PySem.W.Frag} {mg : Str → Option Value} {base : Heap} {CX : CXT} {k : Nat} {f : Addr} {fd : FuncData} {ps : List Str} {sp : Sp}
structure FnG (P : Program) (w : World) (K : PySem.W.Frag) (mg : Str → Option Value) (base : Heap) (CX : CXT) (k : Nat) (f : Addr) (fd : FuncData) (ps : List Str) (sp : Sp) : Prop where
  len : ∀ vs H Q E, sp vs H Q E → vs.length = ps.length
  run : ∀ (A : Around), A.guards = some [] → ∀ (outer : List Env) (s : Shared) (H : Hp) (args : Args) (us : List Value) (vs : List V) (Q : VK) (E : XK), Room k A → Env0 P w K mg base A outer s H →
    BindsTo s fd args (ps.zip us) → Vals vs us → sp vs H Q E → codeAny (model P w) A (.call (.ref f) args) (CR CX outer P w H s Q E) s
theorem FnG.of (F : FnOk P w K mg base CX k f fd ps sp) : FnG P w K mg base CX k f fd ps sp := ⟨F.len, fun A _ => F.run A⟩
end
/-! ### such a def called by its name -/
/-! ### repr of data -/
/-! ### the end of a law whose def wants that no guard is -/
end Wf
/-! Data that never changes (None, truths, whole numbers, texts, tuples), and _law_alike. -/
namespace Wf
open PySem PySem.Spec L2
/-! ### what stands in tuples stays -/
def Tp (K : PySem.W.Frag) (H H' : Hp) : Prop := ∀ a xs, SqT K H a xs → SqT K H' a xs
theorem Tp.refl (K : PySem.W.Frag) (H : Hp) : Tp K H H := fun _ _ h => h
theorem Tp.trans {K : PySem.W.Frag} {H H1 H2 : Hp} (a : Tp K H H1) (b : Tp K H1 H2) : Tp K H H2 := fun x xs h => b x xs (a x xs h)
theorem Same.tp {K : PySem.W.Frag} {H H' : Hp} (s : Same H H') : Tp K H H' := fun a xs h => by
  rcases h with (h | ⟨o, h⟩) | h
  · exact .inl (.inl (s _ _ h))
  · exact .inl (.inr ⟨o, s _ _ h⟩)
  · exact .inr h
theorem same_new {H : Hp} {p : Addr} {o : HO} (h : H p = none) : Same H (upd H p o) := fun a u e => by
  rw [upd_ne (ne_of_none e h)]
  exact e
def NoT (H : Hp) (d : Addr) : Prop := ∀ xs, ¬ Rd H d (.tup xs)
theorem not_lst {H : Hp} {d : Addr} {ys : List V} (h : H d = some (.lst ys)) : NoT H d := fun xs r => by
  rcases r with r | ⟨o, r⟩ <;> rw [h] at r <;> cases r
theorem But.tp {K : PySem.W.Frag} {ds : List Addr} {H H' : Hp} (b : But ds H H') (hd : ∀ d ∈ ds, NoT H d) : Tp K H H' := fun a xs h => by
  rcases h with h | h
  · have ha : a ∉ ds := fun z => hd a z xs h
    rcases h with h | ⟨o, h⟩
    · exact .inl (.inl (b _ _ ha h))
    · exact .inl (.inr ⟨o, b _ _ ha h⟩)
  · exact .inr h
theorem tp_upd {K : PySem.W.Frag} {H : Hp} {d : Addr} {o : HO} (h : NoT H d) : Tp K H (upd H d o) := But.tp (ds := [d]) (fun a u ha e => by
  rw [upd_ne (by intro z; subst z; exact ha List.mem_cons_self)]
  exact e) fun x hx => by
    rw [List.mem_singleton.mp hx]
    exact h
mutual
def noL : PyData → Bool
  | .none | .bool _ | .int _ => true
  | .str x => PyData.canLay0 (.str x)
  | .tuple ds => noLAll ds
  | .list _ | .dict _ => false
def noLAll : List PyData → Bool
  | [] => true
  | d :: ds => noL d && noLAll ds
end
mutual
def wt : PyData → Nat
  | .none | .bool _ | .int _ | .str _ | .dict _ => 1
  | .tuple ds => wtAll ds + 1
  | .list ds => wtAll ds + 1
def wtAll : List PyData → Nat
  | [] => 0
  | d :: ds => wt d + wtAll ds
end
section
variable {K : PySem.W.Frag} {H H' : Hp}
mutual
theorem Dp.tp (t : Tp K H H') : ∀ (d : PyData) (v : V), noL d = true → Dp K H v d → Dp K H' v d
  | .none, _, _, h => by cases h; exact .non
  | .bool b, _, _, h => by cases h; exact .bl b
  | .int i, _, _, h => by cases h; exact .int i
  | .str x, _, _, h => by cases h; exact .str x
  | .list _, _, n, _ => nomatch n
  | .dict _, _, _, h => by cases h
  | .tuple ds, _, n, h => by
    cases h with
    | tup hs ha => exact .tup (t _ _ hs) (DpAll.tp t ds _ n ha)
theorem DpAll.tp (t : Tp K H H') : ∀ (ds : List PyData) (vs : List V), noLAll ds = true → DpAll K H vs ds → DpAll K H' vs ds
  | [], _, _, h => by cases h; exact .nil
  | d :: ds, _, n, h => by
    have n2 : (noL d && noLAll ds) = true := n
    rw [Bool.and_eq_true] at n2
    cases h with
    | cons h1 h2 => exact .cons (Dp.tp t d _ n2.1 h1) (DpAll.tp t ds _ n2.2 h2)
end
theorem DpAll.len : ∀ {vs : List V} {ds : List PyData}, DpAll K H vs ds → vs.length = ds.length
  | _, _, .nil => rfl
  | _, _, .cons _ h => congrArg (· + 1) (DpAll.len h)
theorem DpAll.get : ∀ {vs : List V} {ds : List PyData} {i : Nat} {d : PyData}, DpAll K H vs ds → ds[i]? = some d → ∃ v, vs[i]? = some v ∧ Dp K H v d
  | _, _, _, _, .nil, e => by simp at e
  | _, _, 0, _, .cons h _, e => by simp at e; subst e; exact ⟨_, rfl, h⟩
  | _, _, i + 1, _, .cons _ h, e => by
    obtain ⟨v, e1, e2⟩ := DpAll.get (i := i) h (by simpa using e)
    exact ⟨v, by simpa using e1, e2⟩
theorem DpAll.getV : ∀ {vs : List V} {ds : List PyData} {i : Nat} {v : V}, DpAll K H vs ds → vs[i]? = some v → ∃ d, ds[i]? = some d ∧ Dp K H v d
  | _, _, _, _, .nil, e => by simp at e
  | _, _, 0, _, .cons h _, e => by simp at e; subst e; exact ⟨_, rfl, h⟩
  | _, _, i + 1, _, .cons _ h, e => by
    obtain ⟨d, e1, e2⟩ := DpAll.getV (i := i) h (by simpa using e)
    exact ⟨d, by simpa using e1, e2⟩
theorem DpAll.append : ∀ {vs ws : List V} {ds es : List PyData}, DpAll K H vs ds → DpAll K H ws es → DpAll K H (vs ++ ws) (ds ++ es)
  | _, _, _, _, .nil, h => h
  | _, _, _, _, .cons h1 h2, h => .cons h1 (DpAll.append h2 h)
theorem noLAll_get : ∀ {ds : List PyData} {i : Nat} {d : PyData}, noLAll ds = true → ds[i]? = some d → noL d = true
  | [], _, _, _, e => by simp at e
  | c :: ds, 0, d, n, e => by
    simp at e
    subst e
    exact (Bool.and_eq_true_iff.mp (show (noL c && noLAll ds) = true from n)).1
  | c :: ds, i + 1, d, n, e => noLAll_get (i := i) (Bool.and_eq_true_iff.mp (show (noL c && noLAll ds) = true from n)).2 (by simpa using e)
/-! ### isinstance of data -/
def tyN : PyData → String
  | .none => "NoneType" | .bool _ => "bool" | .int _ => "int" | .str _ => "str" | .tuple _ => "tuple" | .list _ => "list" | .dict _ => "dict"
theorem Dp.ty {d : PyData} {v : V} (n : noL d = true) (h : Dp K H v d) : TyX K H v (.type (tyN d)) := by
  cases h with
  | non => exact .base .non
  | bl b => exact .base (.bl b)
  | int i => exact .base (.int i)
  | str x => exact .base (.str x)
  | lst hs ha => exact nomatch n
  | tup hs ha =>
    rcases hs with (h | ⟨o, h⟩) | ⟨o, its, m, hk, hc, _⟩
    · exact .base (.tup h)
    · exact .fTuple h
    · exact .kTuple hk hc
theorem isi {d : PyData} {v : V} {T : String} {b : Bool} {Q : VK} (n : noL d = true) (h : Dp K H v d) (hb : kitB (tyN d) T = some b) (q : Q (.bl b) H) : rIsi K [v, .ty T] H Q :=
  ⟨v, .ty T, _, _, b, rfl, .ty T, Dp.ty n h, kit_ty hb, q⟩
theorem cb_isi {σ : St} {i : Nat} {d : PyData} {v : V} {T : String} {b : Bool} {Q : VK} (hv : σ[i]? = some (some v)) (n : noL d = true) (h : Dp K H v d) (hb : kitB (tyN d) T = some b) (q : Q (.bl b) H) :
    tCB (rIsi K) (tCons (tVar i) (tCons (tC (.ty T)) tNil)) σ H Q := ⟨v, hv, isi n h hb q⟩
/-- two looks of one kind at the same data: not unlike -/
theorem ne_isi {σ : St} {i j : Nat} {d : PyData} {v u : V} {T : String} {b : Bool} {Q : Bool → Hp → Prop} (hv : σ[i]? = some (some v)) (hu : σ[j]? = some (some u)) (n : noL d = true) (h1 : Dp K H v d) (h2 : Dp K H u d) (hb : kitB (tyN d) T = some b) (q : Q false H) :
    tTest (tOp rNe (tCB (rIsi K) (tCons (tVar i) (tCons (tC (.ty T)) tNil))) (tCB (rIsi K) (tCons (tVar j) (tCons (tC (.ty T)) tNil)))) σ H Q :=
  cb_isi hv n h1 hb (cb_isi hu n h2 hb ⟨rfl, false, by rw [decide_eq_true rfl]; rfl, q⟩)
end
/-! ### _law_alike: the same data twice -/
def t_alike (K : PySem.W.Frag) : TS :=
  tSeq (tAsg (tLst (tCons (tTup (tCons (tVar 0) (tCons (tVar 1) (tNil)))) (tNil))) (gName 2))
    (tSeq (tWhile (tTest (tOp qGt (tCB (qLen K) (tCons (tVar 2) (tNil))) (tC (.int 0)))) (tSeq (tAsg (tBM0 K "list" rPop (tVar 2)) (gTup K 2 (gCons (gName 3) (gCons (gName 4) (gNil)))))
    (tSeq (tIfS (tOr (tTest (tOp rNe (tCB (rIsi K) (tCons (tVar 3) (tCons (tC (.ty "bool")) (tNil)))) (tCB (rIsi K) (tCons (tVar 4) (tCons (tC (.ty "bool")) (tNil)))))) (tTest (tOp rNe (tCB (rIsi K) (tCons (tVar 3) (tCons (tC (.ty "tuple")) (tNil)))) (tCB (rIsi K) (tCons (tVar 4) (tCons (tC (.ty "tuple")) (tNil))))))) (tRet (tC (.bl false))) (tNext))
    (tSeq (tIfS (tOr (tTest (tOp rNe (tCB (rIsi K) (tCons (tVar 3) (tCons (tC (.ty "list")) (tNil)))) (tCB (rIsi K) (tCons (tVar 4) (tCons (tC (.ty "list")) (tNil)))))) (tTest (tOp rNe (tCB (rIsi K) (tCons (tVar 3) (tCons (tC (.ty "str")) (tNil)))) (tCB (rIsi K) (tCons (tVar 4) (tCons (tC (.ty "str")) (tNil))))))) (tRet (tC (.bl false))) (tNext))
    (tSeq (tIfS (tTest (tOp rNe (tCB (rIsi K) (tCons (tVar 3) (tCons (tC (.ty "int")) (tNil)))) (tCB (rIsi K) (tCons (tVar 4) (tCons (tC (.ty "int")) (tNil)))))) (tRet (tC (.bl false))) (tNext))
    (tIfS (tB (tCB (rIsiT K) (tCons (tVar 4) (tCons (tTup (tCons (tC (.ty "tuple")) (tCons (tC (.ty "list")) (tNil)))) (tNil))))) (tSeq (tIfS (tTest (tOp rNe (tCB (qLen K) (tCons (tVar 3) (tNil))) (tCB (qLen K) (tCons (tVar 4) (tNil))))) (tRet (tC (.bl false))) (tNext))
    (tDrop (tBM K "list" rExtend (tVar 2) (tCons (tCB (Wf.rLstZip K) (tCons (tVar 3) (tCons (tVar 4) (tNil)))) (tNil))))) (tIfS (tTest (tOp (rNeD K) (tVar 3) (tVar 4))) (tRet (tC (.bl false))) (tNext))))))))
    (tRet (tC (.bl true))))
def sp_alike (K : PySem.W.Frag) : Sp := fun vs H Q _ => ∃ (x y : V) (d : PyData), vs = [x, y] ∧ Dp K H x d ∧ Dp K H y d ∧ noL d = true ∧ wt d ≤ 1000000 ∧ ∀ H', Same H H' → Q (.bl true) H'
theorem kit5 {d : PyData} (n : noL d = true) : (∃ b, kitB (tyN d) "bool" = some b) ∧ (∃ b, kitB (tyN d) "tuple" = some b) ∧ (∃ b, kitB (tyN d) "list" = some b) ∧ (∃ b, kitB (tyN d) "str" = some b) ∧ (∃ b, kitB (tyN d) "int" = some b) := by
  cases d with
  | none => exact ⟨⟨false, by decide +kernel⟩, ⟨false, by decide +kernel⟩, ⟨false, by decide +kernel⟩, ⟨false, by decide +kernel⟩, ⟨false, by decide +kernel⟩⟩
  | bool b => exact ⟨⟨true, by show kitB "bool" _ = _; decide +kernel⟩, ⟨false, by show kitB "bool" _ = _; decide +kernel⟩, ⟨false, by show kitB "bool" _ = _; decide +kernel⟩, ⟨false, by show kitB "bool" _ = _; decide +kernel⟩, ⟨true, by show kitB "bool" _ = _; decide +kernel⟩⟩
  | int b => exact ⟨⟨false, by show kitB "int" _ = _; decide +kernel⟩, ⟨false, by show kitB "int" _ = _; decide +kernel⟩, ⟨false, by show kitB "int" _ = _; decide +kernel⟩, ⟨false, by show kitB "int" _ = _; decide +kernel⟩, ⟨true, by show kitB "int" _ = _; decide +kernel⟩⟩
  | str b => exact ⟨⟨false, by show kitB "str" _ = _; decide +kernel⟩, ⟨false, by show kitB "str" _ = _; decide +kernel⟩, ⟨false, by show kitB "str" _ = _; decide +kernel⟩, ⟨true, by show kitB "str" _ = _; decide +kernel⟩, ⟨false, by show kitB "str" _ = _; decide +kernel⟩⟩
  | tuple b => exact ⟨⟨false, by show kitB "tuple" _ = _; decide +kernel⟩, ⟨true, by show kitB "tuple" _ = _; decide +kernel⟩, ⟨false, by show kitB "tuple" _ = _; decide +kernel⟩, ⟨false, by show kitB "tuple" _ = _; decide +kernel⟩, ⟨false, by show kitB "tuple" _ = _; decide +kernel⟩⟩
  | list b => exact nomatch n
  | dict b => exact nomatch n
/-- a pair that waits: where it stands, both, and what both are -/
structure Wt (K : PySem.W.Frag) (H : Hp) (p : Addr) (a b : V) (d : PyData) : Prop where
  at_ : H p = some (.tup [a, b])
  one : Dp K H a d
  two : Dp K H b d
  no : noL d = true
theorem Wt.tp {K : PySem.W.Frag} {H H' : Hp} {p : Addr} {a b : V} {d : PyData} (w : Wt K H p a b d) (t : Tp K H H') (h : H' p = some (.tup [a, b])) : Wt K H' p a b d := ⟨h, Dp.tp t d a w.no w.one, Dp.tp t d b w.no w.two, w.no⟩
abbrev Ent : Type := Addr × V × V × PyData
def Waits (K : PySem.W.Frag) (H : Hp) (es : List Ent) : Prop := ∀ e ∈ es, Wt K H e.1 e.2.1 e.2.2.1 e.2.2.2
def wts (es : List Ent) : Nat := (es.map fun e => wt e.2.2.2).sum
def mkE : List Addr → List V → List V → List PyData → List Ent
  | p :: ps, x :: xs, y :: ys, d :: ds => (p, x, y, d) :: mkE ps xs ys ds
  | _, _, _, _ => []
theorem mkE_fst : ∀ {ps : List Addr} {xs ys : List V} {ds : List PyData}, ps.length = ds.length → xs.length = ds.length → ys.length = ds.length → (mkE ps xs ys ds).map (fun e => V.ref e.1) = ps.map V.ref
  | [], _, _, [], _, _, _ => by simp [mkE]
  | _ :: _, [], _, _ :: _, _, h, _ => by simp at h
  | _ :: _, _ :: _, [], _ :: _, _, _, h => by simp at h
  | p :: ps, x :: xs, y :: ys, d :: ds, h1, h2, h3 => by
    have ih := mkE_fst (ps := ps) (xs := xs) (ys := ys) (ds := ds) (by simpa using h1) (by simpa using h2) (by simpa using h3)
    simp only [mkE, List.map_cons, ih]
theorem mkE_wts : ∀ {ps : List Addr} {xs ys : List V} {ds : List PyData}, ps.length = ds.length → xs.length = ds.length → ys.length = ds.length → wts (mkE ps xs ys ds) = wtAll ds
  | [], _, _, [], _, _, _ => by simp [mkE, wts, wtAll]
  | _ :: _, [], _, _ :: _, _, h, _ => by simp at h
  | _ :: _, _ :: _, [], _ :: _, _, _, h => by simp at h
  | p :: ps, x :: xs, y :: ys, d :: ds, h1, h2, h3 => by
    have ih := mkE_wts (ps := ps) (xs := xs) (ys := ys) (ds := ds) (by simpa using h1) (by simpa using h2) (by simpa using h3)
    simp only [wts] at ih
    simp only [mkE, wts, wtAll, List.map_cons, List.sum_cons, ih]
theorem mkE_mem : ∀ {ps : List Addr} {xs ys : List V} {ds : List PyData} {e : Ent}, e ∈ mkE ps xs ys ds → ∃ i : Nat, ps[i]? = some e.1 ∧ xs[i]? = some e.2.1 ∧ ys[i]? = some e.2.2.1 ∧ ds[i]? = some e.2.2.2
  | [], _, _, _, _, h => by simp [mkE] at h
  | _ :: _, [], _, _, _, h => by simp [mkE] at h
  | _ :: _, _ :: _, [], _, _, h => by simp [mkE] at h
  | _ :: _, _ :: _, _ :: _, [], _, h => by simp [mkE] at h
  | p :: ps, x :: xs, y :: ys, d :: ds, e, h => by
    simp only [mkE, List.mem_cons] at h
    rcases h with rfl | h
    · exact ⟨0, rfl, rfl, rfl, rfl⟩
    · obtain ⟨i, h1, h2, h3, h4⟩ := mkE_mem h
      exact ⟨i + 1, by simpa using h1, by simpa using h2, by simpa using h3, by simpa using h4⟩
theorem wt_pos (d : PyData) : 1 ≤ wt d := by cases d <;> simp [wt]
theorem wts_len : ∀ es : List Ent, es.length ≤ wts es
  | [] => Nat.zero_le _
  | e :: es => by
    have ih := wts_len es
    have := wt_pos e.2.2.2
    simp only [wts] at ih
    simp only [wts, List.map_cons, List.sum_cons, List.length_cons]
    omega
theorem wtAll_len : ∀ ds : List PyData, ds.length ≤ wtAll ds
  | [] => Nat.zero_le _
  | d :: ds => by
    have ih := wtAll_len ds
    have := wt_pos d
    simp only [wtAll, List.length_cons]
    omega
theorem pure_alike {K : PySem.W.Frag} (vs : List V) (H : Hp) (Q : VK) (E : XK) (h : sp_alike K vs H Q E) : t_alike K (EndsQ Q) (sN 5 vs) H := by
  obtain ⟨x, y, d, rfl, hx, hy, hn, hw, k⟩ := h
  show t_alike K _ [some x, some y, none, none, none] H
  refine ⟨x, rfl, y, rfl, (by show 2 ≤ sizeLine; decide), fun p hp => ⟨(by show 1 ≤ sizeLine; decide), fun L hL => ?_⟩⟩
  have hpL : p ≠ L := ne_of_none upd_same hL
  have hLp : H L = none := by rw [upd_ne (Ne.symm hpL)] at hL; exact hL
  have s0 : Same H (upd (upd H p (.tup [x, y])) L (.lst [.ref p])) := Same.trans (same_new hp) (same_new hL)
  refine ⟨fun m σ H1 => ∃ (s3 s4 : Option V) (es : List Ent), σ = [some x, some y, some (.ref L), s3, s4] ∧ Same H H1 ∧ H1 L = some (.lst (es.map fun e => V.ref e.1)) ∧ Waits K H1 es ∧ m = wts es ∧ m ≤ 1000000, ⟨wt d, none, none, [(p, x, y, d)], rfl, s0, upd_same, ?_, by simp [wts], hw⟩, ?_⟩
  · intro e he
    rw [List.mem_singleton.mp he]
    exact ⟨by rw [upd_ne hpL]; exact upd_same, Dp.tp (Same.tp s0) d x hn hx, Dp.tp (Same.tp s0) d y hn hy, hn⟩
  rintro m σ H1 ⟨s3, s4, es, rfl, hS, hL1, hW, rfl, hm⟩
  refine ⟨_, rfl, _, (es.map fun e => V.ref e.1).length, rfl, .inl ⟨_, SqL.of hL1, rfl⟩, _, _, rfl, rfl, _, rfl, ?_⟩
  refine ifd (fun c => ?_) (fun c => ?_)
  · -- a turn
    have hpos : es ≠ [] := by
      rintro rfl
      exact absurd c (by decide)
    obtain ⟨es', e, rfl⟩ : ∃ es' e, es = es' ++ [e] := ⟨es.dropLast, es.getLast hpos, (List.dropLast_concat_getLast hpos).symm⟩
    obtain ⟨p, a, b, d⟩ := e
    have w := hW (p, a, b, d) (by simp)
    refine ⟨fun σ' H' => ∃ m', m' < wts (es' ++ [(p, a, b, d)]) ∧ _, fun _ _ h => h, ?_⟩
    refine ⟨_, rfl, .inl ⟨rfl, _, SqL.of hL1⟩, L, _, .ref p, rfl, rfl, hL1, ?_, ?_⟩
    · simp
    have e1 : ((es' ++ [(p, a, b, d)]).map fun e => V.ref e.1).dropLast = es'.map fun e => V.ref e.1 := by simp
    rw [e1]
    generalize hH2 : upd H1 L (.lst (es'.map fun e => V.ref e.1)) = H2
    have t12 : Tp K H1 H2 := by rw [← hH2]; exact tp_upd (not_lst hL1)
    have hS2 : Same H H2 := fun c o e => by
      rw [← hH2, upd_ne (ne_of_none e hLp)]
      exact hS c o e
    have hL2 : H2 L = some (.lst (es'.map fun e => V.ref e.1)) := by rw [← hH2]; exact upd_same
    have pn : ∀ {c zs}, H1 c = some (.tup zs) → H2 c = some (.tup zs) := fun {c zs} e => by
      rw [← hH2, upd_ne (ne_of e hL1 (by intro z; cases z))]
      exact e
    have w2 := w.tp t12 (pn w.at_)
    have hW2 : Waits K H2 es' := fun e he => (hW e (by simp [he])).tp t12 (pn (hW e (by simp [he])).at_)
    have hm2 : wts (es' ++ [(p, a, b, d)]) = wts es' + wt d := by simp [wts]
    refine ⟨p, [a, b], rfl, SqT.of w2.at_, rfl, a, _, rfl, b, _, rfl, rfl, ?_⟩
    obtain ⟨⟨b1, k1⟩, ⟨b2, k2⟩, ⟨b3, k3⟩, ⟨b4, k4⟩, ⟨b5, k5⟩⟩ := kit5 w2.no
    refine ne_isi rfl rfl w2.no w2.one w2.two k1 (iteF ?_)
    refine ne_isi rfl rfl w2.no w2.one w2.two k2 (iteF ?_)
    refine ne_isi rfl rfl w2.no w2.one w2.two k3 (iteF ?_)
    refine ne_isi rfl rfl w2.no w2.one w2.two k4 (iteF ?_)
    refine ne_isi rfl rfl w2.no w2.one w2.two k5 (iteF ?_)
    refine ⟨_, rfl, (by show 2 ≤ sizeLine; decide), fun tp htp => ?_⟩
    have t23 : Same H2 (upd H2 tp (.tup [.ty "tuple", .ty "list"])) := same_new htp
    generalize hH3 : upd H2 tp (.tup [.ty "tuple", .ty "list"]) = H3 at t23
    have htp3 : H3 tp = some (.tup [.ty "tuple", .ty "list"]) := by rw [← hH3]; exact upd_same
    have w3 := w2.tp (Same.tp t23) (t23 _ _ w2.at_)
    have hW3 : Waits K H3 es' := fun e he => (hW2 e he).tp (Same.tp t23) (t23 _ _ (hW2 e he).at_)
    have hS3 : Same H H3 := hS2.trans t23
    have hL3 := t23 _ _ hL2
    have nxt : ∀ (H5 : Hp) (s3 s4 : Option V) (es5 : List Ent), Same H H5 → H5 L = some (.lst (es5.map fun e => V.ref e.1)) → Waits K H5 es5 → wts es5 < wts (es' ++ [(p, a, b, d)]) →
        ∃ m', m' < wts (es' ++ [(p, a, b, d)]) ∧ ∃ (t3 t4 : Option V) (es : List Ent), [some x, some y, some (V.ref L), s3, s4] = [some x, some y, some (.ref L), t3, t4] ∧ Same H H5 ∧ H5 L = some (.lst (es.map fun e => V.ref e.1)) ∧ Waits K H5 es ∧ m' = wts es ∧ m' ≤ 1000000 :=
      fun H5 s3 s4 es5 q1 q2 q3 q4 => ⟨_, q4, s3, s4, es5, rfl, q1, q2, q3, rfl, by omega⟩
    have key : (∃ ds, d = .tuple ds) ∨ (SeqAt.shaped d = true ∧ PySem.W.kitAny K (.type (tyN d)) [.type "tuple", .type "list"] = some false) := by
      cases d with
      | list ds => exact nomatch w2.no
      | dict ds => exact nomatch w2.no
      | tuple ds => exact .inl ⟨ds, rfl⟩
      | none => exact .inr ⟨rfl, kitAny_cons (kit_ty (r := false) (by decide +kernel)) (fun _ => kitAny_cons (kit_ty (r := false) (by decide +kernel)) (fun _ => kitAny_nil) (fun z => nomatch z)) (fun z => nomatch z)⟩
      | bool b => exact .inr ⟨rfl, kitAny_cons (kit_ty (a := "bool") (r := false) (by decide +kernel)) (fun _ => kitAny_cons (kit_ty (a := "bool") (r := false) (by decide +kernel)) (fun _ => kitAny_nil) (fun z => nomatch z)) (fun z => nomatch z)⟩
      | int b => exact .inr ⟨rfl, kitAny_cons (kit_ty (a := "int") (r := false) (by decide +kernel)) (fun _ => kitAny_cons (kit_ty (a := "int") (r := false) (by decide +kernel)) (fun _ => kitAny_nil) (fun z => nomatch z)) (fun z => nomatch z)⟩
      | str b => exact .inr ⟨by have n := w2.no; simp only [noL] at n; simp [SeqAt.shaped, n, PyData.depth], kitAny_cons (kit_ty (a := "str") (r := false) (by decide +kernel)) (fun _ => kitAny_cons (kit_ty (a := "str") (r := false) (by decide +kernel)) (fun _ => kitAny_nil) (fun z => nomatch z)) (fun z => nomatch z)⟩
    rcases key with ⟨ds, rfl⟩ | ⟨hsh, hkit⟩
    rotate_left
    · refine ⟨b, tp, [.ty "tuple", .ty "list"], .type (tyN d), [.type "tuple", .type "list"], false, rfl, htp3, .cons (.ty _) (.cons (.ty _) .nil), Dp.ty w3.no w3.two, hkit, _, rfl, iteF ⟨_, rfl, _, rfl, d, d, w3.one, w3.two, hsh, hsh, _, rfl, ?_⟩⟩
      rw [SeqAt.eqv_refl d (SeqAt.canLay_of_shaped hsh)]
      exact iteF (nxt H3 _ _ es' hS3 hL3 hW3 (by rw [hm2]; have := wt_pos d; omega))
    · refine ⟨b, tp, [.ty "tuple", .ty "list"], .type "tuple", [.type "tuple", .type "list"], true, rfl, htp3, .cons (.ty _) (.cons (.ty _) .nil), Dp.ty w3.no w3.two, kitAny_cons (kit_ty (b := "tuple") (r := true) (by decide +kernel)) (fun z => nomatch z) (fun _ => rfl), _, rfl, iteT ?_⟩
      have c1 : Dp K H3 a (.tuple ds) := w3.one
      have c2 : Dp K H3 b (.tuple ds) := w3.two
      cases c1 with
      | tup hs1 ha1 =>
        cases c2 with
        | tup hs2 ha2 =>
          rename_i aa xs bb ys
          have l1 := DpAll.len ha1
          have l2 := DpAll.len ha2
          refine ⟨_, rfl, _, xs.length, rfl, .inr ⟨_, hs1, rfl⟩, _, rfl, _, ys.length, rfl, .inr ⟨_, hs2, rfl⟩, rfl, _, rfl, ?_⟩
          rw [l1, l2]
          refine iteNS rfl ?_
          refine ⟨_, rfl, .inl ⟨rfl, _, SqL.of hL3⟩, _, rfl, _, rfl, aa, bb, xs, ys, rfl, hs1, hs2, by rw [l1, l2], fun q ps H4 hq hps s34 hq4 hlen hget => ?_⟩
          have hL4 := s34 _ _ hL3
          have lp : ps.length = ds.length := by rw [hlen, l1]
          have hwd : wt (.tuple ds) = wtAll ds + 1 := by simp [wt]
          have hLq : L ≠ q := ne_of_none hL3 hq
          have big := wts_len es'
          have big2 : ps.length ≤ wtAll ds := by rw [lp]; exact wtAll_len ds
          refine ⟨L, q, _, _, rfl, rfl, hL4, hq4, ?_, ?_⟩
          · rw [List.length_map, List.length_map]
            exact Nat.le_trans (show es'.length + ps.length ≤ 1000000 by omega) (by decide)
          · have e5 : (es'.map fun e => V.ref e.1) ++ ps.map V.ref = (es' ++ mkE ps xs ys ds).map fun e => V.ref e.1 := by rw [List.map_append, mkE_fst lp l1 l2]
            rw [e5]
            have t45 : Tp K H4 (upd H4 L (.lst ((es' ++ mkE ps xs ys ds).map fun e => V.ref e.1))) := tp_upd (not_lst hL4)
            have t35 := (Same.tp s34).trans t45
            have pn5 : ∀ {c zs}, H4 c = some (.tup zs) → upd H4 L (.lst ((es' ++ mkE ps xs ys ds).map fun e => V.ref e.1)) c = some (.tup zs) := fun {c zs} e => by
              rw [upd_ne (ne_of e hL4 (by intro z; cases z))]
              exact e
            refine nxt _ _ _ (es' ++ mkE ps xs ys ds) (fun c o e => ?_) upd_same (fun e he => ?_) ?_
            · rw [upd_ne (ne_of_none e hLp)]
              exact s34 _ _ (hS3 _ _ e)
            · rcases List.mem_append.mp he with he | he
              · exact (hW3 e he).tp t35 (pn5 (s34 _ _ (hW3 e he).at_))
              · obtain ⟨i, i1, i2, i3, i4⟩ := mkE_mem he
                obtain ⟨u, v, g1, g2, g3⟩ := hget i _ i1
                rw [i2] at g1
                rw [i3] at g2
                cases g1
                cases g2
                have nd : noL e.2.2.2 = true := noLAll_get w3.no i4
                obtain ⟨u', f1, f2⟩ := DpAll.get ha1 i4
                obtain ⟨v', f3, f4⟩ := DpAll.get ha2 i4
                rw [i2] at f1
                rw [i3] at f3
                cases f1
                cases f3
                exact ⟨pn5 g3, Dp.tp t35 _ _ nd f2, Dp.tp t35 _ _ nd f4, nd⟩
            · rw [hm2, hwd]
              have : wts (es' ++ mkE ps xs ys ds) = wts es' + wtAll ds := by
                rw [← mkE_wts lp l1 l2]
                simp [wts]
              omega
  · exact k H1 hS
end Wf
/-! The books that the draws make. -/
namespace Wf
open PySem PySem.Spec L2
def dP (p : Int × Int) : PyData := .tuple [.int p.1, .int p.2]
theorem noL_dP (p : Int × Int) : noL (dP p) = true := rfl
theorem dP_new {K : PySem.W.Frag} {H : Hp} {p : Addr} {x y : Int} (h : H p = some (.tup [.int x, .int y])) : Dp K H (.ref p) (dP (x, y)) := .tup (SqT.of h) (.cons (.int x) (.cons (.int y) .nil))
/-! ### _law_pair -/
def pairF (f s : Int) (st : Int × Int) (a b : Int) : Int × Int :=
  if f = 0 then (b, a) else if f = 1 then (a, b) else if f = 2 then ((if b < a then b else a), (if b > a then b else a)) else if f = 3 then (b, (2 * b - a) % s) else ((b + st.2) % s, (a + st.1) % s)
theorem atI_neg1 {α : Type} {xs : List α} (h : 0 < xs.length) : atI xs (-1) = xs[xs.length - 1]? := by
  have e : ixN xs.length (-1) = some (xs.length - 1) := by
    unfold ixN
    rw [if_neg (by decide), if_pos (by omega)]
    congr 1
    omega
  unfold atI
  rw [e]
  rfl
/-! ### _law_paces -/
def scan (f : Int) : List Int → List Int
  | [] => [f]
  | n :: ns => f :: scan (f + n) ns
theorem scan_len : ∀ (f : Int) (ns : List Int), (scan f ns).length = ns.length + 1
  | _, [] => rfl
  | f, n :: ns => by simp [scan, scan_len (f + n) ns]
theorem scan_app : ∀ (f : Int) (ns : List Int) (n : Int), scan f (ns ++ [n]) = scan f ns ++ [f + ns.sum + n]
  | f, [], n => by simp [scan]
  | f, m :: ns, n => by
    rw [List.cons_append, scan, scan_app (f + m) ns n, scan, List.cons_append, List.sum_cons]
    congr 3
    omega
theorem scan_last : ∀ (f : Int) (ns : List Int), (scan f ns)[ns.length]? = some (f + ns.sum)
  | f, [] => by simp [scan]
  | f, m :: ns => by
    rw [scan, List.length_cons, List.getElem?_cons_succ, scan_last (f + m) ns, List.sum_cons]
    congr 1
    omega
theorem sum_bounds : ∀ {ns : List Int} {B : Int}, (∀ x ∈ ns, 1 ≤ x ∧ x ≤ B) → (ns.length : Int) ≤ ns.sum ∧ ns.sum ≤ ns.length * B
  | [], _, _ => by simp
  | n :: ns, B, h => by
    have h1 := h n List.mem_cons_self
    have h2 := sum_bounds (fun x hx => h x (List.mem_cons_of_mem _ hx))
    rw [List.sum_cons, List.length_cons]
    have e : ((ns.length + 1 : Nat) : Int) * B = ns.length * B + B := by rw [Int.natCast_add, Int.add_mul]; simp
    rw [e]
    constructor <;> omega
theorem scan_mem : ∀ {ns : List Int} {f x : Int}, (∀ y ∈ ns, 1 ≤ y) → x ∈ scan f ns → f ≤ x ∧ x ≤ f + ns.sum
  | [], f, x, _, h => by
    simp [scan] at h
    simp
    omega
  | n :: ns, f, x, hn, h => by
    have h1 := hn n List.mem_cons_self
    have hn' : ∀ y ∈ ns, 1 ≤ y := fun y hy => hn y (List.mem_cons_of_mem _ hy)
    have hs : 0 ≤ ns.sum := by
      clear h hn
      induction ns with
      | nil => simp
      | cons m ms ih =>
        have := hn' m List.mem_cons_self
        have := ih fun y hy => hn' y (List.mem_cons_of_mem _ hy)
        rw [List.sum_cons]
        omega
    rw [List.sum_cons]
    rcases List.mem_cons.mp h with rfl | h
    · constructor <;> omega
    · have := scan_mem hn' h
      constructor <;> omega
theorem scan_rise : ∀ {ns : List Int} {f : Int}, (∀ y ∈ ns, 1 ≤ y) → (scan f ns).Pairwise (· < ·)
  | [], f, _ => by simp [scan]
  | n :: ns, f, hn => by
    have h1 := hn n List.mem_cons_self
    have hn' : ∀ y ∈ ns, 1 ≤ y := fun y hy => hn y (List.mem_cons_of_mem _ hy)
    rw [scan, List.pairwise_cons]
    refine ⟨fun x hx => ?_, scan_rise hn'⟩
    have := scan_mem hn' hx
    omega
structure PacesOk (m : Int) (ps : List Int) : Prop where
  len : (ps.length : Int) = m
  rise : ps.Pairwise (· < ·)
  lo : ∀ p ∈ ps, -1000 ≤ p ∧ p ≤ 1000
def dI (ps : List Int) : PyData := .tuple (ps.map .int)
theorem dp_ints {K : PySem.W.Frag} {H : Hp} : ∀ ns : List Int, DpAll K H (ns.map V.int) (ns.map PyData.int)
  | [] => .nil
  | n :: ns => .cons (.int n) (dp_ints ns)
theorem noLAll_ints : ∀ ns : List Int, noLAll (ns.map PyData.int) = true
  | [] => rfl
  | n :: ns => by simp [noLAll, noL, noLAll_ints ns]
def sp_paces (K : PySem.W.Frag) : Sp := fun vs H Q _ => ∃ (d l : Addr) (m : Int), vs = [.ref d, .int m] ∧ 1 ≤ m ∧ m ≤ 5 ∧ Deal H d l ∧
  ∀ (v : V) (ps : List Int) (H' : Hp), But [d, l] H H' → Deal H' d l → Dp K H' v (dI ps) → PacesOk m ps → Q v H'
theorem Deal.ne {H : Hp} {d l p : Addr} (h : Deal H d l) (hp : H p = none) : p ≠ d ∧ p ≠ l := by
  obtain ⟨s, m, n, ns, h1, h2, _⟩ := h.ex
  exact ⟨fun e => (by rw [e, h1] at hp; cases hp), fun e => (by rw [e, h2] at hp; cases hp)⟩
theorem But.at {H H' : Hp} {d l p : Addr} {o : HO} (b : But [d, l] H H') (n : p ≠ d ∧ p ≠ l) (h : H p = some o) : H' p = some o := b p o (by simp [n.1, n.2]) h
theorem But.new {ds : List Addr} {H H' : Hp} {p : Addr} {o : HO} (b : But ds H H') (hp : H p = none) : But ds H (upd H' p o) := fun a u n e => by
  rw [upd_ne (ne_of_none e hp)]
  exact b a u n e
theorem Deal.upd {H : Hp} {d l p : Addr} {o : HO} (h : Deal H d l) (n : p ≠ d ∧ p ≠ l) : Deal (upd H p o) d l := by
  obtain ⟨s, m, k, ns, h1, h2, h3⟩ := h.ex
  exact ⟨s, m, k, ns, by rw [upd_ne (Ne.symm n.1)]; exact h1, by rw [upd_ne (Ne.symm n.2)]; exact h2, h3⟩
def t_paces (K : PySem.W.Frag) (sp_draw : Sp) : TS :=
  tSeq (tAsg (tLst (tCons (tC (.int 2)) (tCons (tC (.int 9)) (tCons (tC (.int 400)) (tCons (tOp qFdiv (tC (.int 2000)) (tCB (qMax2) (tCons (tC (.int 1)) (tCons (tOp qSub (tVar 1) (tC (.int 1))) (tNil))))) (tNil)))))) (gName 2))
    (tSeq (tAsg (tLc (iRng1 (tCons (tOp qSub (tVar 1) (tC (.int 1))) (tNil))) (gName 6) (tYes) (tOp qAdd (tC (.int 1)) (tCall sp_draw [] E0 (tCons (tVar 0) (tCons (tOp (rIxL K) (tVar 2) (tCall sp_draw [] E0 (tCons (tVar 0) (tCons (tC (.int 4)) (tNil))))) (tNil))))) [6]) (gName 3))
    (tSeq (tAsg (tLst (tCons (tOp qSub (tCall sp_draw [] E0 (tCons (tVar 0) (tCons (tOp qSub (tC (.int 2001)) (tCB (rSum K) (tCons (tVar 3) (tNil)))) (tNil)))) (tC (.int 1000))) (tNil))) (gName 4))
    (tSeq (tFor (iList K (tVar 3)) (gName 5) (tDrop (tBM K "list" rAppend (tVar 4) (tCons (tOp qAdd (tOp (rIxL K) (tVar 4) (tUn qNeg (tC (.int 1)))) (tVar 5)) (tNil)))))
    (tRet (tCB (qTupleOf K) (tCons (tVar 4) (tNil)))))))
theorem pure_paces {K : PySem.W.Frag} (vs : List V) (H : Hp) (Q : VK) (E : XK) (h : sp_paces K vs H Q E) : t_paces K sp_draw (EndsQ Q) (sN 7 vs) H := by
  obtain ⟨d, l, m, rfl, m1, m5, hD, k⟩ := h
  show t_paces K sp_draw _ [some (.ref d), some (.int m), none, none, none, none, none] H
  have hM : 1 ≤ (if m - 1 > 1 then m - 1 else 1) ∧ (if m - 1 > 1 then m - 1 else 1) ≤ 4 := by split <;> omega
  generalize hMe : (if m - 1 > 1 then m - 1 else 1) = M at hM
  refine ⟨_, rfl, _, _, rfl, rfl, _, _, rfl, ?_⟩
  rw [hMe]
  refine ⟨_, _, rfl, rfl, ⟨by omega, by omega⟩, (by show 4 ≤ sizeLine; decide), fun W hW => ?_⟩
  have nW := hD.ne hW
  refine ⟨_, rfl, _, _, rfl, rfl, m - 1, rfl, by omega, by omega, fun D hDn => ?_⟩
  have hDW : W ≠ D := ne_of_none upd_same hDn
  have hD0 : H D = none := by rw [upd_ne (Ne.symm hDW)] at hDn; exact hDn
  have nD := hD.ne hD0
  have hB : 500 ≤ 2000 / M ∧ (m - 1) * (2000 / M) ≤ 2000 ∧ 2000 / M ≤ 2000 := by
    have hm : m = 1 ∨ m = 2 ∨ m = 3 ∨ m = 4 ∨ m = 5 := by omega
    rcases hm with rfl | rfl | rfl | rfl | rfl <;> (simp at hMe; subst hMe; decide)
  obtain ⟨B, hBe⟩ : ∃ B, B = 2000 / M := ⟨_, rfl⟩
  rw [← hBe] at hB
  refine lc_range (lo := 0) (n := (m - 1).toNat) (fun i H1 => But [d, l] H H1 ∧ Deal H1 d l ∧ H1 W = some (.lst [.int 2, .int 9, .int 400, .int B]) ∧ ∃ ns : List Int, H1 D = some (.lst (ns.map V.int)) ∧ ns.length = i ∧ ∀ x ∈ ns, 1 ≤ x ∧ x ≤ B) ?_ ?_ ?_
  · exact ⟨((But.refl _ _).new hW).new hD0, (hD.upd nW).upd nD, by rw [upd_ne hDW, hBe]; exact upd_same, [], upd_same, rfl, fun x hx => (List.not_mem_nil hx).elim⟩
  · rintro i H1 hi ⟨b1, d1, w1, ns, l1, ln, hns⟩
    refine ⟨rfl, ?_⟩
    simp only [tYes, ↓reduceIte]
    refine ⟨_, rfl, _, rfl, _, rfl, d, l, 4, rfl, by decide, by decide, d1, fun q H2 q0 q4 b2 d2 => ?_⟩
    have w2 := b2.at nW w1
    have l2 := b2.at nD l1
    have hq : ∃ z, atI [V.int 2, .int 9, .int 400, .int B] q = some (.int z) ∧ 1 ≤ z ∧ z ≤ B := by
      have hq : q = 0 ∨ q = 1 ∨ q = 2 ∨ q = 3 := by omega
      rcases hq with rfl | rfl | rfl | rfl
      · exact ⟨2, rfl, by omega, by omega⟩
      · exact ⟨9, rfl, by omega, by omega⟩
      · exact ⟨400, rfl, by omega, by omega⟩
      · exact ⟨B, rfl, by omega, by omega⟩
    obtain ⟨z, hz, z1, zB⟩ := hq
    refine ⟨W, _, q, .int z, rfl, rfl, SqL.of w2, hz, d, l, z, rfl, by omega, ?_, d2, fun r H3 r0 r1 b3 d3 => ?_⟩
    · omega
    have w3 := b3.at nW w2
    have l3 := b3.at nD l2
    refine ⟨_, _, rfl, rfl, _, l3, ?_, ?_⟩
    · rw [List.length_map, ln]
      exact Nat.lt_of_le_of_lt (show i ≤ 4 by omega) (by decide)
    · refine ⟨((b1.trans b2).trans b3).new hD0, d3.upd nD, by rw [upd_ne hDW]; exact w3, ns ++ [1 + r], ?_, by simp [ln], fun x hx => ?_⟩
      · rw [upd_same, List.map_append]
        rfl
      · rcases List.mem_append.mp hx with hx | hx
        · exact hns x hx
        · rw [List.mem_singleton.mp hx]
          omega
  · rintro H1 ⟨b1, d1, w1, ns, l1, ln, hns⟩
    have hsum := sum_bounds hns
    have hln : (ns.length : Int) = m - 1 := by omega
    rw [hln] at hsum
    refine ⟨_, rfl, _, rfl, D, ns, rfl, SqL.of l1, _, _, rfl, rfl, d, l, _, rfl, by omega, by omega, d1, fun r H2 r0 r1 b2 d2 => ?_⟩
    refine ⟨_, _, rfl, rfl, (by show 1 ≤ sizeLine; decide), fun F hF => ?_⟩
    have l2 := b2.at nD l1
    have hFD : F ≠ D := fun z => by rw [z, l2] at hF; cases hF
    have nF := d2.ne hF
    have hF0 : H F = none := by
      cases e : H F with
      | none => rfl
      | some o => rw [b2.at nF (b1.at nF e)] at hF; cases hF
    have hne1 : ∀ x ∈ ns, 1 ≤ x := fun x hx => (hns x hx).1
    refine ⟨_, rfl, D, rfl, ⟨_, SqL.of (by rw [upd_ne (Ne.symm hFD)]; exact l2)⟩, for_list (K := K) (a := D) (xs := ns.map V.int) (fun i σ H3 => ∃ s5 : Option V, σ = [some (.ref d), some (.int m), some (.ref W), some (.ref D), some (.ref F), s5, none] ∧ But [d, l] H H3 ∧ Deal H3 d l ∧ H3 D = some (.lst (ns.map V.int)) ∧ H3 F = some (.lst ((scan (r - 1000) (ns.take i)).map V.int))) ?_ ?_ ?_ ?_⟩
    · exact ⟨_, rfl, (b1.trans b2).new hF0, d2.upd nF, by rw [upd_ne (Ne.symm hFD)]; exact l2, upd_same⟩
    · rintro i σ H3 _ ⟨_, _, _, _, h3, _⟩
      exact SqL.of h3
    · rintro i x σ H3 hx ⟨s5, rfl, b3, d3, l3, f3⟩
      rw [List.getElem?_map] at hx
      obtain ⟨z, hz, rfl⟩ := Option.map_eq_some_iff.mp hx
      have hlt : i < ns.length := (List.getElem?_eq_some_iff.mp hz).1
      have etk : ns.take (i + 1) = ns.take i ++ [z] := by rw [List.take_add_one, hz]; rfl
      have elen : (ns.take i).length = i := by rw [List.length_take]; omega
      have eat : atI ((scan (r - 1000) (ns.take i)).map V.int) (-1) = some (.int (r - 1000 + (ns.take i).sum)) := by
        rw [atI_neg1 (by rw [List.length_map, scan_len]; exact Nat.succ_pos _), List.getElem?_map, List.length_map, scan_len, Nat.add_sub_cancel, scan_last]
        rfl
      refine ⟨_, rfl, .inl ⟨rfl, _, SqL.of f3⟩, _, rfl, _, rfl, F, _, -1, _, rfl, rfl, SqL.of f3, eat, _, rfl, _, _, rfl, rfl, F, _, _, rfl, rfl, f3, ?_, ?_⟩
      · rw [List.length_map, scan_len, elen]
        exact Nat.lt_of_le_of_lt (show i + 1 ≤ 5 by omega) (by decide)
      · refine ⟨some (.int z), rfl, b3.new hF0, d3.upd nF, by rw [upd_ne (Ne.symm hFD)]; exact l3, ?_⟩
        rw [upd_same, etk, scan_app, List.map_append]
        rfl
    · rintro σ H3 ⟨s5, rfl, b3, d3, l3, f3⟩
      rw [List.length_map, List.take_length] at f3
      refine ⟨_, rfl, F, _, rfl, .inl ⟨SqL.of f3, fun T hT => ?_⟩⟩
      have nT := d3.ne hT
      have hT0 : H T = none := by
        cases e : H T with
        | none => rfl
        | some o => rw [b3.at nT e] at hT; cases hT
      refine k _ (scan (r - 1000) ns) _ (b3.new hT0) (d3.upd nT) (.tup (SqT.of upd_same) (dp_ints _)) ⟨by rw [scan_len]; omega, scan_rise hne1, fun p hp => ?_⟩
      have := scan_mem hne1 hp
      omega
/-! ### _law_mixed -/
def iota (n : Int) : List Int := (List.range n.toNat).map fun (i : Nat) => (i : Int)
theorem But.none_of {H H' : Hp} {d l p : Addr} (b : But [d, l] H H') (n : p ≠ d ∧ p ≠ l) (h : H' p = none) : H p = none := by
  cases e : H p with
  | none => rfl
  | some o => rw [b.at n e] at h; cases h
end Wf
/-! Tables: lists of lists of pairs. -/
namespace Wf
open PySem PySem.Spec L2
abbrev Tab : Type := List (Int × Int)
def InP (s : Int) (p : Int × Int) : Prop := 0 ≤ p.1 ∧ p.1 < s ∧ 0 ≤ p.2 ∧ p.2 < s
structure TabOk (s : Int) (t : Tab) : Prop where
  len : (t.length : Int) = s * s
  inn : ∀ p ∈ t, InP s p
structure TabAt (K : PySem.W.Frag) (H : Hp) (l : Addr) (t : Tab) : Prop where
  ex : ∃ vs, H l = some (.lst vs) ∧ DpAll K H vs (t.map dP)
theorem noLAll_dP : ∀ t : Tab, noLAll (t.map dP) = true
  | [] => rfl
  | p :: t => by simp [noLAll, noL_dP, noLAll_dP t]
theorem TabAt.keep {K : PySem.W.Frag} {H H' : Hp} {l : Addr} {t : Tab} (h : TabAt K H l t) (hl : ∀ o, H l = some o → H' l = some o) (tp : Tp K H H') : TabAt K H' l t := by
  obtain ⟨vs, h1, h2⟩ := h.ex
  exact ⟨vs, hl _ h1, DpAll.tp tp _ _ (noLAll_dP t) h2⟩
theorem pr_mono {α β : Type} {F G : α → β → Prop} : ∀ {as : List α} {bs : List β}, Paired F as bs → (∀ a b, a ∈ as → F a b → G a b) → Paired G as bs
  | _, _, .nil, _ => .nil
  | _, _, .cons h t, k => .cons (k _ _ List.mem_cons_self h) (pr_mono t fun a b ha => k a b (List.mem_cons_of_mem _ ha))
theorem pr_app {α β : Type} {F : α → β → Prop} : ∀ {as cs : List α} {bs ds : List β}, Paired F as bs → Paired F cs ds → Paired F (as ++ cs) (bs ++ ds)
  | _, _, _, _, .nil, h => h
  | _, _, _, _, .cons h t, k => .cons h (pr_app t k)
theorem pr_len {α β : Type} {F : α → β → Prop} : ∀ {as : List α} {bs : List β}, Paired F as bs → as.length = bs.length
  | _, _, .nil => rfl
  | _, _, .cons _ t => congrArg (· + 1) (pr_len t)
/-- tables that were made since H: the list of them at F, they themselves at ls -/
structure Tabs (K : PySem.W.Frag) (H H1 : Hp) (F : Addr) (ls : List Addr) (ts : List Tab) : Prop where
  lst : H1 F = some (.lst (ls.map V.ref))
  tab : Paired (TabAt K H1) ls ts
  nd : (F :: ls).Nodup
  newF : H F = none
  newL : ∀ x ∈ ls, H x = none
section
variable {K : PySem.W.Frag} {H H1 H2 : Hp} {F d l : Addr} {ls : List Addr} {ts : List Tab}
theorem Tabs.keep (t : Tabs K H H1 F ls ts) (hk : ∀ x o, x ∈ F :: ls → H1 x = some o → H2 x = some o) (tp : Tp K H1 H2) : Tabs K H H2 F ls ts :=
  ⟨hk _ _ List.mem_cons_self t.lst, pr_mono t.tab fun a b ha h => h.keep (fun o e => hk a o (List.mem_cons_of_mem _ ha) e) tp, t.nd, t.newF, t.newL⟩
theorem Tabs.same (t : Tabs K H H1 F ls ts) (s : Same H1 H2) : Tabs K H H2 F ls ts := t.keep (fun x o _ e => s x o e) (Same.tp s)
theorem Tabs.len (t : Tabs K H H1 F ls ts) : ls.length = ts.length := pr_len t.tab
/-- one more table -/
theorem Tabs.push {D : Addr} {t : Tab} (ht : Tabs K H H1 F ls ts) (h : TabAt K H1 D t) (hD : D ∉ F :: ls) (hn : H D = none) : Tabs K H (upd H1 F (.lst (ls.map V.ref ++ [.ref D]))) F (ls ++ [D]) (ts ++ [t]) := by
  have tp : Tp K H1 (upd H1 F (.lst (ls.map V.ref ++ [.ref D]))) := tp_upd (not_lst ht.lst)
  have hF := (List.nodup_cons.mp ht.nd).1
  refine ⟨by rw [upd_same, List.map_append]; rfl, pr_app (pr_mono ht.tab fun a b ha k => k.keep (fun o e => ?_) tp) (.cons (h.keep (fun o e => ?_) tp) .nil), ?_, ht.newF, fun x hx => ?_⟩
  · rw [upd_ne (show a ≠ F from fun z => hF (z ▸ ha))]
    exact e
  · rw [upd_ne (show D ≠ F from fun z => hD (by rw [z]; exact List.mem_cons_self))]
    exact e
  · have e : (F :: (ls ++ [D])) = (F :: ls) ++ [D] := rfl
    rw [e, List.nodup_append]
    exact ⟨ht.nd, by simp, fun a ha b hb => by rw [List.mem_singleton.mp hb]; exact fun z => hD (z ▸ ha)⟩
  · rcases List.mem_append.mp hx with hx | hx
    · exact ht.newL x hx
    · rw [List.mem_singleton.mp hx]
      exact hn
def dTs (ts : List Tab) : PyData := .list (ts.map fun t => .list (t.map dP))
theorem Tabs.dp (ht : Tabs K H H1 F ls ts) : Dp K H1 (.ref F) (dTs ts) := by
  refine .lst (SqL.of ht.lst) ?_
  have := ht.tab
  clear ht
  induction this with
  | nil => exact .nil
  | cons h _ ih =>
    obtain ⟨vs, e1, e2⟩ := h.ex
    exact .cons (.lst (SqL.of e1) e2) ih
end
/-! ### [(draw(size), draw(size)) for n in range(size * size)] -/
/-! ### _law_any -/
def nT (m : Int) : Int := m * (m - 1) / 2
/-- tables are told, new ones, by what R says of them -/
def GiveT (K : PySem.W.Frag) (d l : Addr) (H : Hp) (Q : VK) (R : List Tab → Prop) : Prop := ∀ (F : Addr) (ls : List Addr) (ts : List Tab) (H' : Hp), But [d, l] H H' → Deal H' d l → Tabs K H H' F ls ts → R ts → Q (.ref F) H'
structure AllOk (m s : Int) (ts : List Tab) : Prop where
  len : (ts.length : Int) = nT m
  ok : ∀ t ∈ ts, TabOk s t
theorem nT_le {m : Int} (h1 : 1 ≤ m) (h5 : m ≤ 5) : 0 ≤ nT m ∧ nT m ≤ 10 := by
  have : m = 1 ∨ m = 2 ∨ m = 3 ∨ m = 4 ∨ m = 5 := by omega
  rcases this with rfl | rfl | rfl | rfl | rfl <;> decide
/-! ### _law_plain -/
def tabF (f s : Int) (st : Int × Int) : Tab := (iota (s * s)).map fun n => pairF f s st (n / s) (n % s)
/-- by plain rules: one form for all tables; or keeping ones, and one any -/
inductive PlainT (m s : Int) : List Tab → Prop
  | all (f : Int) (sts : List (Int × Int)) : 0 ≤ f → f ≤ 4 → (sts.length : Int) = nT m → (∀ x ∈ sts, InP s x) → PlainT m s (sts.map (tabF f s))
  | one (sts : List (Int × Int)) (i : Nat) (t : Tab) : (sts.length : Int) = nT m → i < sts.length → TabOk s t → PlainT m s ((sts.map (tabF 0 s)).set i t)
theorem ss_le {s : Int} (s1 : 1 ≤ s) (s6 : s ≤ 6) : 1 ≤ s * s ∧ s * s ≤ 36 := by
  have : s = 1 ∨ s = 2 ∨ s = 3 ∨ s = 4 ∨ s = 5 ∨ s = 6 := by omega
  rcases this with rfl | rfl | rfl | rfl | rfl | rfl <;> decide
/-- data whose shape == may be asked of: lists and tuples of such, to a depth -/
theorem lay_map {α : Type} (f : α → PyData) (n : Nat) : ∀ l : List α, (∀ a ∈ l, (f a).canLay0 = true ∧ (f a).depth ≤ n) → PyData.canLayAll0 (l.map f) = true ∧ PyData.depthAll (l.map f) ≤ n
  | [], _ => ⟨rfl, Nat.zero_le _⟩
  | a :: l, h => by
    have h1 := h a List.mem_cons_self
    have h2 := lay_map f n l fun b hb => h b (List.mem_cons_of_mem _ hb)
    rw [List.map_cons]
    constructor
    · show ((f a).canLay0 && PyData.canLayAll0 (l.map f)) = true
      rw [h1.1, h2.1]
      rfl
    · show max (f a).depth (PyData.depthAll (l.map f)) ≤ n
      exact Nat.max_le.mpr ⟨h1.2, h2.2⟩
theorem lay_dP (p : Int × Int) : (dP p).canLay0 = true ∧ (dP p).depth ≤ 1 := ⟨rfl, by show max 0 (max 0 0) + 1 ≤ 1; decide⟩
end Wf
/-! Tables side by side, tables with other names. -/
namespace Wf
open PySem PySem.Spec L2
/-- tables to be read -/
structure TL (K : PySem.W.Frag) (H : Hp) (A : Addr) (ls : List Addr) (ts : List Tab) : Prop where
  lst : H A = some (.lst (ls.map V.ref))
  tab : Paired (TabAt K H) ls ts
theorem TL.same {K : PySem.W.Frag} {H H1 : Hp} {A : Addr} {ls : List Addr} {ts : List Tab} (t : TL K H A ls ts) (s : Same H H1) : TL K H1 A ls ts := ⟨s _ _ t.lst, pr_mono t.tab fun a b _ h => h.keep (fun o e => s _ _ e) (Same.tp s)⟩
theorem ix_lt {x y w : Int} (x0 : 0 ≤ x) (x1 : x < w) (y0 : 0 ≤ y) (y1 : y < w) : 0 ≤ x * w + y ∧ x * w + y < w * w := by
  have h1 : 0 ≤ x * w := Int.mul_nonneg x0 (by omega)
  have h2 : (x + 1) * w ≤ w * w := Int.mul_le_mul_of_nonneg_right (by omega) (by omega)
  have h3 : (x + 1) * w = x * w + w := by rw [Int.add_mul, Int.one_mul]
  constructor <;> omega
def sideP (t1 t2 : Tab) (w r : Int) (n : Int) : Int × Int :=
  let c := t1.getD (n / (w * r) / r * w + n % (w * r) / r).toNat (0, 0)
  let g := t2.getD (n / (w * r) % r * r + n % (w * r) % r).toNat (0, 0)
  (c.1 * r + g.1, c.2 * r + g.2)
def sideT (w r : Int) (t1 t2 : Tab) : Tab := (iota (w * r * (w * r))).map (sideP t1 t2 w r)
end Wf
/-! Tables with other names, good tables, books. -/
namespace Wf
open PySem PySem.Spec L2
theorem DpAll.set {K : PySem.W.Frag} {H : Hp} {v : V} {d : PyData} (h : Dp K H v d) : ∀ {vs : List V} {ds : List PyData} (i : Nat), DpAll K H vs ds → DpAll K H (vs.set i v) (ds.set i d)
  | _, _, _, .nil => .nil
  | _, _, 0, .cons _ t => .cons h t
  | _, _, i + 1, .cons k t => .cons k (DpAll.set h i t)
/-! ### _law_names_put -/
def nmStep (ns : List Int) (s : Int) (t acc : Tab) (n : Nat) : Tab :=
  acc.set (ns.getD ((n : Int) / s).toNat 0 * s + ns.getD ((n : Int) % s).toNat 0).toNat (ns.getD (t.getD n (0, 0)).1.toNat 0, ns.getD (t.getD n (0, 0)).2.toNat 0)
def nmF (ns : List Int) (s : Int) (t : Tab) (k : Nat) : Tab := (List.range k).foldl (nmStep ns s t) (List.replicate (s * s).toNat (0, 0))
def nameT (s : Int) (ns : List Int) (t : Tab) : Tab := nmF ns s t t.length
theorem nmF_succ (ns : List Int) (s : Int) (t : Tab) (k : Nat) : nmF ns s t (k + 1) = nmStep ns s t (nmF ns s t k) k := by
  unfold nmF
  rw [List.range_succ, List.foldl_append]
  rfl
theorem nmF_len (ns : List Int) (s : Int) (t : Tab) : ∀ k, (nmF ns s t k).length = (s * s).toNat
  | 0 => by unfold nmF; rw [List.range_zero, List.foldl_nil, List.length_replicate]
  | k + 1 => by rw [nmF_succ, nmStep, List.length_set, nmF_len ns s t k]
theorem iota_mem {n x : Int} : x ∈ iota n ↔ 0 ≤ x ∧ x < n := by
  unfold iota
  rw [List.mem_map]
  constructor
  · rintro ⟨i, hi, rfl⟩
    rw [List.mem_range] at hi
    constructor <;> omega
  · rintro ⟨h1, h2⟩
    exact ⟨x.toNat, by rw [List.mem_range]; omega, by omega⟩
theorem perm_at {s : Int} {ns : List Int} (hp : ns.Perm (iota s)) {i : Int} (h0 : 0 ≤ i) (h1 : i < s) : atI (ns.map V.int) i = some (.int (ns.getD i.toNat 0)) ∧ 0 ≤ ns.getD i.toNat 0 ∧ ns.getD i.toNat 0 < s := by
  have hl : ns.length = s.toNat := by rw [hp.length_eq]; unfold iota; rw [List.length_map, List.length_range]
  have hi : i.toNat < ns.length := by omega
  have e : ns[i.toNat]? = some ns[i.toNat] := List.getElem?_eq_getElem hi
  have m : ns[i.toNat] ∈ iota s := hp.mem_iff.mp (List.getElem_mem hi)
  have g : ns.getD i.toNat 0 = ns[i.toNat] := by simp [List.getD, e]
  rw [g]
  refine ⟨?_, (iota_mem.mp m).1, (iota_mem.mp m).2⟩
  unfold atI ixN
  rw [if_pos h0, if_pos (by rw [List.length_map]; omega)]
  show (ns.map V.int)[i.toNat]? = _
  rw [List.getElem?_map, e]
  rfl
end Wf
/-! Good tables and books. -/
namespace Wf
open PySem PySem.Spec L2
theorem pairF_in {f s : Int} {st : Int × Int} {a b : Int} (hs : 1 ≤ s) (a0 : 0 ≤ a) (a1 : a < s) (b0 : 0 ≤ b) (b1 : b < s) : InP s (pairF f s st a b) := by
  unfold pairF InP
  have h1 := mod_lt (a := 2 * b - a) (b := s) (by omega)
  have h2 := mod_lt (a := b + st.2) (b := s) (by omega)
  have h3 := mod_lt (a := a + st.1) (b := s) (by omega)
  split
  · exact ⟨b0, b1, a0, a1⟩
  · split
    · exact ⟨a0, a1, b0, b1⟩
    · split
      · dsimp only
        split <;> split <;> exact ⟨by omega, by omega, by omega, by omega⟩
      · split
        · exact ⟨b0, b1, h1.1, h1.2⟩
        · exact ⟨h2.1, h2.2, h3.1, h3.2⟩
theorem iota_len (n : Int) : (iota n).length = n.toNat := by unfold iota; rw [List.length_map, List.length_range]
theorem div_in {s n : Int} (hs : 1 ≤ s) (h0 : 0 ≤ n) (h1 : n < s * s) : (0 ≤ n / s ∧ n / s < s) ∧ (0 ≤ n % s ∧ n % s < s) := ⟨⟨Int.ediv_nonneg h0 (by omega), Int.ediv_lt_of_lt_mul (by omega) h1⟩, mod_lt (by omega)⟩
theorem tabF_ok {f s : Int} {st : Int × Int} (hs : 1 ≤ s) : TabOk s (tabF f s st) := by
  have hss : 0 ≤ s * s := Int.mul_nonneg (by omega) (by omega)
  refine ⟨by unfold tabF; rw [List.length_map, iota_len]; omega, fun p hp => ?_⟩
  obtain ⟨n, hn, rfl⟩ := List.mem_map.mp hp
  obtain ⟨h0, h1⟩ := iota_mem.mp hn
  obtain ⟨⟨x1, x2⟩, x3, x4⟩ := div_in hs h0 h1
  exact pairF_in hs x1 x2 x3 x4
theorem PlainT.ok {m s : Int} {ts : List Tab} (hs : 1 ≤ s) (h : PlainT m s ts) : AllOk m s ts := by
  cases h with
  | all f sts f0 f4 hl hin =>
    refine ⟨by rw [List.length_map]; exact hl, fun t ht => ?_⟩
    obtain ⟨st, _, rfl⟩ := List.mem_map.mp ht
    exact tabF_ok hs
  | one sts i t hl hi ht =>
    refine ⟨by rw [List.length_set, List.length_map]; exact hl, fun x hx => ?_⟩
    rcases List.mem_or_eq_of_mem_set hx with hx | hx
    · obtain ⟨st, _, rfl⟩ := List.mem_map.mp hx
      exact tabF_ok hs
    · rw [hx]
      exact ht
theorem getD_in {s : Int} {t : Tab} (h : TabOk s t) {i : Int} (h0 : 0 ≤ i) (h1 : i < s * s) : InP s (t.getD i.toNat (0, 0)) := by
  have hl := h.len
  have hi : i.toNat < t.length := by omega
  have e : t.getD i.toNat (0, 0) = t[i.toNat] := by simp [List.getD, List.getElem?_eq_getElem hi]
  rw [e]
  exact h.inn _ (List.getElem_mem hi)
theorem sideT_ok {w r : Int} {t1 t2 : Tab} (w1 : 1 ≤ w) (r1 : 1 ≤ r) (h1 : TabOk w t1) (h2 : TabOk r t2) : TabOk (w * r) (sideT w r t1 t2) := by
  have wr1 : 1 ≤ w * r := by
    have := Int.mul_le_mul w1 r1 (by decide) (by omega)
    simpa using this
  have hss : 0 ≤ w * r * (w * r) := Int.mul_nonneg (by omega) (by omega)
  refine ⟨by unfold sideT; rw [List.length_map, iota_len]; omega, fun p hp => ?_⟩
  obtain ⟨n, hn, rfl⟩ := List.mem_map.mp hp
  obtain ⟨n0, n1⟩ := iota_mem.mp hn
  obtain ⟨⟨x1, x2⟩, x3, x4⟩ := div_in wr1 n0 n1
  have q3 : 0 ≤ n / (w * r) / r ∧ n / (w * r) / r < w := ⟨Int.ediv_nonneg x1 (by omega), Int.ediv_lt_of_lt_mul (by omega) x2⟩
  have q4 : 0 ≤ n % (w * r) / r ∧ n % (w * r) / r < w := ⟨Int.ediv_nonneg x3 (by omega), Int.ediv_lt_of_lt_mul (by omega) x4⟩
  have q5 := mod_lt (a := n / (w * r)) (b := r) (by omega)
  have q6 := mod_lt (a := n % (w * r)) (b := r) (by omega)
  have i1 := ix_lt q3.1 q3.2 q4.1 q4.2
  have i2 := ix_lt q5.1 q5.2 q6.1 q6.2
  have g1 := getD_in h1 i1.1 i1.2
  have g2 := getD_in h2 i2.1 i2.2
  unfold sideP
  dsimp only
  generalize t1.getD _ (0, 0) = c at g1
  generalize t2.getD _ (0, 0) = g at g2
  unfold InP at g1 g2 ⊢
  have e : ∀ x y : Int, 0 ≤ x → x < w → 0 ≤ y → y < r → 0 ≤ x * r + y ∧ x * r + y < w * r := fun x y a1 a2 b1 b2 => by
    have e1 : 0 ≤ x * r := Int.mul_nonneg a1 (by omega)
    have e2 : (x + 1) * r ≤ w * r := Int.mul_le_mul_of_nonneg_right (by omega) (by omega)
    have e3 : (x + 1) * r = x * r + r := by rw [Int.add_mul, Int.one_mul]
    constructor <;> omega
  have a := e c.1 g.1 g1.1 g1.2.1 g2.1 g2.2.1
  have b := e c.2 g.2 g1.2.2.1 g1.2.2.2 g2.2.2.1 g2.2.2.2
  exact ⟨a.1, a.2, b.1, b.2⟩
theorem nmF_ok {s : Int} {ns : List Int} {t : Tab} (hs : 1 ≤ s) (hp : ns.Perm (iota s)) (ht : TabOk s t) : ∀ k, k ≤ t.length → ∀ p ∈ nmF ns s t k, InP s p
  | 0, _ => fun p hp => by
    unfold nmF at hp
    rw [List.range_zero, List.foldl_nil] at hp
    rw [(List.mem_replicate.mp hp).2]
    exact ⟨by decide, by omega, by decide, by omega⟩
  | k + 1, hk => fun p hq => by
    rw [nmF_succ, nmStep] at hq
    rcases List.mem_or_eq_of_mem_set hq with hq | hq
    · exact nmF_ok hs hp ht k (by omega) p hq
    · have hkl : (k : Int) < s * s := by rw [← ht.len]; omega
      have g := getD_in ht (Int.natCast_nonneg k) hkl
      rw [Int.toNat_natCast] at g
      have g1 := perm_at hp g.1 g.2.1
      have g2 := perm_at hp g.2.2.1 g.2.2.2
      rw [hq]
      exact ⟨g1.2.1, g1.2.2, g2.2.1, g2.2.2⟩
theorem nameT_ok {s : Int} {ns : List Int} {t : Tab} (hs : 1 ≤ s) (hp : ns.Perm (iota s)) (ht : TabOk s t) : TabOk s (nameT s ns t) := by
  have hss : 0 ≤ s * s := Int.mul_nonneg (by omega) (by omega)
  exact ⟨by unfold nameT; rw [nmF_len]; omega, nmF_ok hs hp ht _ (Nat.le_refl _)⟩
/-- tables that are good by making -/
inductive GoodT (m s : Int) : List Tab → Prop
  | plain {ts : List Tab} : PlainT m s ts → GoodT m s ts
  | side {w r : Int} {ta tb : List Tab} : 1 ≤ w → 1 ≤ r → w * r = s → PlainT m w ta → PlainT m r tb → GoodT m s (List.zipWith (sideT w r) ta tb)
  | name {ts : List Tab} {ns : List Int} : GoodT m s ts → ns.Perm (iota s) → GoodT m s (ts.map (nameT s ns))
theorem GoodT.ok {m s : Int} {ts : List Tab} (hs : 1 ≤ s) (h : GoodT m s ts) : AllOk m s ts := by
  induction h with
  | plain h => exact h.ok hs
  | side w1 r1 e ha hb =>
    have oa := ha.ok w1
    have ob := hb.ok r1
    have la := oa.len
    have lb := ob.len
    refine ⟨by rw [List.length_zipWith]; omega, fun t ht => ?_⟩
    obtain ⟨i, hi⟩ := List.mem_iff_getElem?.mp ht
    rw [List.getElem?_zipWith] at hi
    revert hi
    split
    · rename_i x y hx hy
      intro hi
      cases hi
      rw [← e]
      exact sideT_ok w1 r1 (oa.ok _ (List.mem_of_getElem? hx)) (ob.ok _ (List.mem_of_getElem? hy))
    · intro hi
      cases hi
  | name h hp ih =>
    refine ⟨by rw [List.length_map]; exact ih.len, fun t ht => ?_⟩
    obtain ⟨u, hu, rfl⟩ := List.mem_map.mp ht
    exact nameT_ok hs hp (ih.ok u hu)
theorem GiveT.mono {K : PySem.W.Frag} {d l : Addr} {H H1 : Hp} {Q : VK} {R : List Tab → Prop} (k : GiveT K d l H Q R) (b : But [d, l] H H1) (hD : Deal H d l) (F : Addr) (ls : List Addr) (ts : List Tab) (H' : Hp) (b1 : But [d, l] H1 H') (d1 : Deal H' d l) (t : Tabs K H1 H' F ls ts) (r : R ts) (nd : ∀ x ∈ F :: ls, x ≠ d ∧ x ≠ l) : Q (.ref F) H' :=
  k F ls ts H' (b.trans b1) d1 ⟨t.lst, t.tab, t.nd, b.none_of (nd F List.mem_cons_self) t.newF, fun x hx => b.none_of (nd x (List.mem_cons_of_mem _ hx)) (t.newL x hx)⟩ r
theorem Same.deal {H H' : Hp} {d l : Addr} (s : Same H H') (h : Deal H d l) : Deal H' d l := by
  obtain ⟨z1, z2, z3, z4, z5, z6, z7⟩ := h.ex
  exact ⟨z1, z2, z3, z4, s _ _ z5, s _ _ z6, z7⟩
end Wf
/-! Books. -/
namespace Wf
open PySem PySem.Spec L2
structure Book where
  ps : List Int
  s : Int
  ts : List Tab
def dT (t : Tab) : PyData := .tuple (t.map dP)
def dB (b : Book) : PyData := .tuple [dI b.ps, .int b.s, .tuple (b.ts.map dT)]
theorem noL_dT (t : Tab) : noL (dT t) = true := noLAll_dP t
theorem noLAll_dT : ∀ ts : List Tab, noLAll (ts.map dT) = true
  | [] => rfl
  | t :: ts => by simp [noLAll, noL_dT, noLAll_dT ts]
theorem noL_dI (ps : List Int) : noL (dI ps) = true := noLAll_ints ps
theorem noL_dB (b : Book) : noL (dB b) = true := by
  show (noL (dI b.ps) && (true && (noLAll (b.ts.map dT) && true))) = true
  rw [noL_dI, noLAll_dT]
  rfl
structure BookOk (m : Int) (b : Book) : Prop where
  pac : PacesOk m b.ps
  m1 : 1 ≤ m
  m5 : m ≤ 5
  s1 : 1 ≤ b.s
  s6 : b.s ≤ 6
  tab : AllOk m b.s b.ts
end Wf
/-! The deal made. -/
namespace Wf
open PySem PySem.Spec L2
def sp_deal (K : PySem.W.Frag) : Sp := fun vs H Q _ => ∃ (a : Addr) (b : Int) (ns : List Int), vs = [.ref a, .int b] ∧ SqL K H a (ns.map V.int) ∧ 0 ≤ b ∧ b ≤ 63 ∧ ns.length ≤ 1000 ∧
  ∀ (d l : Addr) (H' : Hp), Same H H' → H d = none → H l = none → Deal H' d l → Q (.ref d) H'
theorem cut_ints (ns : List Int) (lo hi : Option Int) : ∃ ms : List Int, cutV (ns.map V.int) lo hi = ms.map V.int ∧ ms.length ≤ ns.length := by
  refine ⟨(ns.drop (HT.sIx (ns.map V.int).length 0 lo)).take (HT.sIx (ns.map V.int).length (ns.map V.int).length hi - HT.sIx (ns.map V.int).length 0 lo), ?_, ?_⟩
  · unfold cutV
    rw [List.map_take, List.map_drop]
  · rw [List.length_take, List.length_drop]
    omega
theorem putK_new {kvs : List (Key × V)} {k : Key} {v : V} (h : valV kvs k = none) : putK kvs k v = kvs ++ [(k, v)] := by
  unfold putK
  rw [valV_any, h]
  rfl
def four (s m n l : V) : List (Key × V) := [(Sum.inr "seed", s), (Sum.inr "many", m), (Sum.inr "now", n), (Sum.inr "left", l)]
theorem merge4 (s m n l : V) : mergeK [] (four s m n l) = four s m n l := by
  unfold four
  unfold mergeK
  simp only [List.foldl]
  rw [putK_new (kvs := []) valV_nil]
  simp only [List.nil_append]
  rw [putK_new (kvs := [(Sum.inr (Str.ofString "seed"), s)]) ((valV_neg (key_ne (by decide +kernel))).trans valV_nil)]
  simp only [List.cons_append, List.nil_append]
  rw [putK_new (kvs := [(Sum.inr (Str.ofString "seed"), s), (Sum.inr (Str.ofString "many"), m)]) ((valV_neg (key_ne (by decide +kernel))).trans ((valV_neg (key_ne (by decide +kernel))).trans valV_nil))]
  simp only [List.cons_append, List.nil_append]
  rw [putK_new (kvs := [(Sum.inr (Str.ofString "seed"), s), (Sum.inr (Str.ofString "many"), m), (Sum.inr (Str.ofString "now"), n)]) ((valV_neg (key_ne (by decide +kernel))).trans ((valV_neg (key_ne (by decide +kernel))).trans ((valV_neg (key_ne (by decide +kernel))).trans valV_nil)))]
  rfl
def t_deal (K : PySem.W.Frag) : TS :=
  tSeq (tAsg (tLc (iList K (tSl (rSlL K) (tVar 0) (tPart (tVar 1)) (tPart (tC (.int 63))))) (gName 4) (tYes) (tCB (qMax2) (tCons (tVar 4) (tCons (tOp qSub (tC (.int 0)) (tVar 4)) (tNil)))) [4]) (gName 2))
    (tSeq (tAsg (tOp qAdd (tC (.int 104729)) (tOp qMul (tC (.int 31)) (tVar 1))) (gName 3))
    (tSeq (tFor (iList K (tVar 2)) (gName 4) (tAsg (tOp qMod (tOp qAdd (tOp qAdd (tOp qMul (tVar 3) (tC (.int 69623))) (tOp qMod (tVar 4) (tC (.int 2147483629)))) (tC (.int 1))) (tC (.int 2147483647))) (gName 3)))
    (tRet (tDisp ((tC (.str "seed"), tOp qAdd (tVar 3) (tC (.int 1))) :: ((tC (.str "many"), tC (.int 0)) :: ((tC (.str "now"), tC (.int 0)) :: ((tC (.str "left"), Wf.tLstRev K (tLc (iList K (tVar 2)) (gName 4) (tTest (tOp qGe (tVar 4) (tOp qPow (tC (.int 10)) (tC (.int 18))))) (tVar 4) [4])) :: ([])))))))))
theorem pure_deal {K : PySem.W.Frag} (vs : List V) (H : Hp) (Q : VK) (E : XK) (h : sp_deal K vs H Q E) : t_deal K (EndsQ Q) (sN 5 vs) H := by
  obtain ⟨a, b, ns, rfl, hS, b0, b1, hns, k⟩ := h
  show t_deal K _ [some (.ref a), some (.int b), none, none, none] H
  refine ⟨_, rfl, _, rfl, _, rfl, 63, rfl, a, _, rfl, hS, fun p hp => ?_⟩
  obtain ⟨ms, e, hms⟩ := cut_ints ns (some b) (some 63)
  rw [e]
  have sp := same_new (o := .lst (ms.map V.int)) hp
  have hpp : upd H p (.lst (ms.map V.int)) p = some (.lst (ms.map V.int)) := upd_same
  generalize upd H p (.lst (ms.map V.int)) = H1 at sp hpp
  refine ⟨p, rfl, ⟨_, SqL.of hpp⟩, fun D hD => ?_⟩
  have hDp : p ≠ D := ne_of_none hpp hD
  have hD0 : H D = none := sp.free hD
  refine lc_list (K := K) (a := p) (xs := ms.map V.int) (fun i H2 => Same H1 H2 ∧ ∃ zs : List Int, H2 D = some (.lst (zs.map V.int)) ∧ zs.length = i ∧ ∀ z ∈ zs, 0 ≤ z) ?_ ?_ ?_ ?_
  · exact ⟨same_new hD, [], upd_same, rfl, fun z hz => (List.not_mem_nil hz).elim⟩
  · rintro i H2 _ ⟨s2, _⟩
    exact SqL.of (s2 _ _ hpp)
  · rintro i x H2 hx ⟨s2, zs, e1, hl, hz⟩
    rw [List.getElem?_map] at hx
    obtain ⟨y, hy, rfl⟩ := Option.map_eq_some_iff.mp hx
    refine ⟨rfl, ?_⟩
    simp only [tYes, ↓reduceIte]
    refine ⟨_, rfl, _, rfl, _, _, rfl, rfl, _, _, rfl, _, e1, ?_, ?_⟩
    · rw [List.length_map, hl]
      have := (List.getElem?_eq_some_iff.mp hy).1
      exact Nat.lt_of_le_of_lt (show i ≤ 1000 by omega) (by decide)
    · refine ⟨fun c o e => ?_, zs ++ [if 0 - y > y then 0 - y else y], ?_, by simp [hl], fun z hq => ?_⟩
      · rw [upd_ne (ne_of_none e hD)]
        exact s2 _ _ e
      · rw [upd_same, List.map_append]
        rfl
      · rcases List.mem_append.mp hq with hq | hq
        · exact hz z hq
        · rw [List.mem_singleton.mp hq]
          split <;> omega
  · rintro H2 ⟨s2, zs, e1, hl, hz⟩
    refine ⟨_, rfl, _, _, rfl, rfl, .inl ⟨by decide, by decide⟩, _, _, rfl, rfl, ?_⟩
    refine ⟨_, rfl, D, rfl, ⟨_, SqL.of e1⟩, for_list (K := K) (a := D) (xs := zs.map V.int) (fun i σ H3 => ∃ (w : Int) (c4 : Option V), σ = [some (.ref a), some (.int b), some (.ref D), some (.int w), c4] ∧ H3 = H2) ?_ ?_ ?_ ?_⟩
    · exact ⟨_, none, rfl, rfl⟩
    · rintro i σ H3 _ ⟨w, c4, rfl, rfl⟩
      exact SqL.of e1
    · rintro i x σ H3 hx ⟨w, c4, rfl, rfl⟩
      rw [List.getElem?_map] at hx
      obtain ⟨y, hy, rfl⟩ := Option.map_eq_some_iff.mp hx
      exact ⟨_, rfl, _, _, rfl, rfl, .inr ⟨by decide, by decide⟩, _, rfl, _, _, rfl, rfl, mp rfl, _, _, rfl, rfl, _, _, rfl, rfl, _, _, rfl, rfl, mp rfl, _, _, rfl, rfl⟩
    · rintro σ H3 ⟨w, c4, rfl, rfl⟩
      intro d hd
      refine ⟨_, rfl, _, _, rfl, rfl, ?_⟩
      have sd := same_new (o := .dK []) hd
      have hdd : upd H3 d (.dK []) d = some (.dK []) := upd_same
      generalize upd H3 d (.dK []) = H4 at sd hdd
      have e4 := sd _ _ e1
      refine ⟨_, rfl, D, rfl, ⟨_, SqL.of e4⟩, fun G hG => ?_⟩
      refine lc_list (K := K) (a := D) (xs := zs.map V.int) (fun i H5 => Same H4 H5 ∧ ∃ gs : List Int, H5 G = some (.lst (gs.map V.int)) ∧ gs.length ≤ i ∧ ∀ z ∈ gs, 0 ≤ z) ?_ ?_ ?_ ?_
      · exact ⟨same_new hG, [], upd_same, Nat.le_refl _, fun z hz => (List.not_mem_nil hz).elim⟩
      · rintro i H5 _ ⟨s5, _⟩
        exact SqL.of (s5 _ _ e4)
      · rintro i x H5 hx ⟨s5, gs, g1, gl, gz⟩
        rw [List.getElem?_map] at hx
        obtain ⟨y, hy, rfl⟩ := Option.map_eq_some_iff.mp hx
        refine ⟨rfl, _, rfl, _, _, rfl, rfl, ⟨by decide, by decide, by decide⟩, _, _, rfl, rfl, _, rfl, ?_⟩
        refine ifd (fun c => ?_) (fun c => ?_)
        · refine ⟨_, rfl, _, g1, ?_, ?_⟩
          · rw [List.length_map]
            have := (List.getElem?_eq_some_iff.mp hy).1
            rw [List.length_map] at hl
            exact Nat.lt_of_le_of_lt (show gs.length ≤ 1000 by omega) (by decide)
          · refine ⟨fun c o e => ?_, gs ++ [y], ?_, by simp; omega, fun z hq => ?_⟩
            · rw [upd_ne (ne_of_none e hG)]
              exact s5 _ _ e
            · rw [upd_same, List.map_append]
              rfl
            · rcases List.mem_append.mp hq with hq | hq
              · exact gz z hq
              · rw [List.mem_singleton.mp hq]
                exact hz y (List.mem_of_getElem? hy)
        · exact ⟨s5, gs, g1, by omega, gz⟩
      · rintro H5 ⟨s5, gs, g1, gl, gz⟩
        refine ⟨G, _, rfl, SqL.of g1, fun L hL => ?_⟩
        have sL := same_new (o := .lst (gs.map V.int).reverse) hL
        have hdL := s5 _ _ hdd
        have hLd : d ≠ L := ne_of_none hdL hL
        refine ⟨by rw [upd_ne hLd]; exact hdL, four (.int (w + 1)) (.int 0) (.int 0) (.ref L), rfl, (by show 4 ≤ 15; decide), ?_⟩
        rw [merge4]
        have hL0 : H L = none := (sp.trans (s2.trans (sd.trans s5))).free hL
        have hd0 : H d = none := (sp.trans s2).free hd
        refine k d L _ (fun c o e => ?_) hd0 hL0 ⟨w + 1, 0, 0, gs.reverse, upd_same, ?_, by decide, fun z hq => gz z (List.mem_reverse.mp hq)⟩
        · rw [upd_ne (ne_of_none e hd0), upd_ne (ne_of_none e hL0)]
          exact (sp.trans (s2.trans (sd.trans s5))) _ _ e
        · rw [upd_ne (Ne.symm hLd), upd_same, List.map_reverse]
end Wf
/-! Tuples as data: places, slices, sums; the program's pair_at and with_pair. -/
namespace Wf
open PySem PySem.Spec L2
section
variable {K : PySem.W.Frag} {H : Hp} {Q : VK} {t x y : V} {ds es : List PyData} {d : PyData}
theorem dp_tup (h : Dp K H t (.tuple ds)) : ∃ a xs, t = .ref a ∧ SqT K H a xs ∧ DpAll K H xs ds := by
  cases h with
  | tup hs ha => exact ⟨_, _, rfl, hs, ha⟩
theorem DpAll.drop : ∀ {vs : List V} {ds : List PyData} (n : Nat), DpAll K H vs ds → DpAll K H (vs.drop n) (ds.drop n)
  | _, _, 0, h => h
  | _, _, _ + 1, .nil => .nil
  | _, _, n + 1, .cons _ h => DpAll.drop n h
theorem DpAll.take : ∀ {vs : List V} {ds : List PyData} (n : Nat), DpAll K H vs ds → DpAll K H (vs.take n) (ds.take n)
  | _, _, 0, _ => .nil
  | _, _, _ + 1, .nil => .nil
  | _, _, n + 1, .cons h t => .cons h (DpAll.take n t)
end
/-! ### put_in -/
end Wf
/-! pair_at, with_pair; what the law says of them. -/
namespace Wf
open PySem PySem.Spec L2
def tnum (u v : Int) : Int := u * (u - 1) / 2 + v
/-- a place of a book -/
structure Pl (m s u v a b : Int) : Prop where
  u0 : 1 ≤ u
  u1 : u < m
  v0 : 0 ≤ v
  v1 : v < u
  a0 : 0 ≤ a
  a1 : a < s
  b0 : 0 ≤ b
  b1 : b < s
theorem tnum_lt {m u v : Int} (m5 : m ≤ 5) (u0 : 1 ≤ u) (u1 : u < m) (v0 : 0 ≤ v) (v1 : v < u) : 0 ≤ tnum u v ∧ tnum u v < nT m := by
  unfold tnum nT
  have hm : m = 2 ∨ m = 3 ∨ m = 4 ∨ m = 5 := by omega
  have hu : u = 1 ∨ u = 2 ∨ u = 3 ∨ u = 4 := by omega
  rcases hu with rfl | rfl | rfl | rfl <;> rcases hm with rfl | rfl | rfl | rfl <;> simp <;> omega
def Book.tab (B : Book) (u v : Int) : Tab := B.ts.getD (tnum u v).toNat []
def Book.at (B : Book) (u v a b : Int) : Int × Int := (B.tab u v).getD (a * B.s + b).toNat (0, 0)
section
variable {K : PySem.W.Frag} {H : Hp} {t : V} {B : Book} {m u v a b : Int}
theorem Book.row (ok : BookOk m B) (pl : Pl m B.s u v a b) : B.ts[(tnum u v).toNat]? = some (B.tab u v) ∧ TabOk B.s (B.tab u v) := by
  have h := tnum_lt ok.m5 pl.u0 pl.u1 pl.v0 pl.v1
  have hl := ok.tab.len
  have hi : (tnum u v).toNat < B.ts.length := by omega
  have e : B.ts[(tnum u v).toNat]? = some B.ts[(tnum u v).toNat] := List.getElem?_eq_getElem hi
  have g : B.tab u v = B.ts[(tnum u v).toNat] := by unfold Book.tab; simp [List.getD, e]
  rw [g]
  exact ⟨e, ok.tab.ok _ (List.getElem_mem hi)⟩
end
end Wf
/-! law k03: what is due, right, the law. -/
namespace Wf
open PySem PySem.Spec L2
structure Rows (K : PySem.W.Frag) (H : Hp) (F : Addr) (ts : List Tab) : Prop where
  ex : ∃ vs, H F = some (.lst vs) ∧ DpAll K H vs (ts.map dT)
theorem Rows.same {K : PySem.W.Frag} {H H' : Hp} {F : Addr} {ts : List Tab} (h : Rows K H F ts) (s : Same H H') : Rows K H' F ts := by
  obtain ⟨vs, e1, e2⟩ := h.ex
  exact ⟨vs, s _ _ e1, DpAll.tp (Same.tp s) _ _ (noLAll_dT _) e2⟩
end Wf
/-! Data of small numbers and tuples: shown, short, of small weight and depth. -/
namespace Wf
open PySem PySem.Spec L2
mutual
/-- numbers near nothing and tuples of such -/
def tame : PyData → Bool
  | .none | .bool _ => true
  | .int i => decide (-1000000 ≤ i ∧ i ≤ 1000000)
  | .tuple ds => tameAll ds
  | .str _ | .list _ | .dict _ => false
def tameAll : List PyData → Bool
  | [] => true
  | d :: ds => tame d && tameAll ds
end
theorem tame_map {α : Type} (f : α → PyData) (n c : Nat) : ∀ l : List α, (∀ a ∈ l, tame (f a) = true ∧ (f a).depth ≤ n ∧ wt (f a) ≤ c) → tameAll (l.map f) = true ∧ PyData.depthAll (l.map f) ≤ n ∧ wtAll (l.map f) ≤ c * l.length
  | [], _ => ⟨rfl, Nat.zero_le _, Nat.zero_le _⟩
  | a :: l, h => by
    have h1 := h a List.mem_cons_self
    have h2 := tame_map f n c l fun b hb => h b (List.mem_cons_of_mem _ hb)
    rw [List.map_cons]
    refine ⟨?_, ?_, ?_⟩
    · show (tame (f a) && tameAll (l.map f)) = true
      rw [h1.1, h2.1]
      rfl
    · show max (f a).depth (PyData.depthAll (l.map f)) ≤ n
      exact Nat.max_le.mpr ⟨h1.2.1, h2.2.1⟩
    · show wt (f a) + wtAll (l.map f) ≤ c * (l.length + 1)
      rw [Nat.mul_add, Nat.mul_one, Nat.add_comm]
      exact Nat.add_le_add h2.2.2 h1.2.2
theorem tame_int {i : Int} (h0 : -1000000 ≤ i) (h1 : i ≤ 1000000) : tame (.int i) = true := decide_eq_true ⟨h0, h1⟩
theorem tame_ints {ns : List Int} (h : ∀ n ∈ ns, -1000000 ≤ n ∧ n ≤ 1000000) : tame (dI ns) = true ∧ (dI ns).depth ≤ 1 ∧ wt (dI ns) ≤ ns.length + 1 := by
  have h1 := tame_map PyData.int 0 1 ns fun n hn => ⟨tame_int (h n hn).1 (h n hn).2, Nat.le_refl _, Nat.le_refl _⟩
  refine ⟨h1.1, Nat.succ_le_succ h1.2.1, ?_⟩
  show wtAll (ns.map PyData.int) + 1 ≤ _
  have := h1.2.2
  omega
theorem tame_dP {s : Int} {p : Int × Int} (h : InP s p) (hs : s ≤ 1000) : tame (dP p) = true ∧ (dP p).depth ≤ 1 ∧ wt (dP p) ≤ 3 := by
  unfold InP at h
  refine ⟨?_, by show max 0 (max 0 0) + 1 ≤ 1; decide, Nat.le_refl _⟩
  show (tame (.int p.1) && (tame (.int p.2) && true)) = true
  rw [tame_int (by omega) (by omega), tame_int (by omega) (by omega)]
  rfl
theorem tame_dT {s : Int} {t : Tab} (h : TabOk s t) (s1 : 1 ≤ s) (hs : s ≤ 6) : tame (dT t) = true ∧ (dT t).depth ≤ 2 ∧ wt (dT t) ≤ 109 := by
  have h1 := tame_map dP 1 3 t fun p hp => tame_dP (h.inn p hp) (by omega)
  refine ⟨h1.1, Nat.succ_le_succ h1.2.1, ?_⟩
  show wtAll (t.map dP) + 1 ≤ _
  have h2 := h1.2.2
  have h3 := h.len
  have h4 := ss_le s1 hs
  omega
theorem tame_dB {m : Int} {B : Book} (h : BookOk m B) : tame (dB B) = true ∧ (dB B).depth ≤ 4 ∧ wt (dB B) ≤ 2000 := by
  have h1 := tame_ints (ns := B.ps) fun n hn => ⟨by have := h.pac.lo n hn; omega, by have := h.pac.lo n hn; omega⟩
  have h2 := tame_map dT 2 109 B.ts fun t ht => tame_dT (h.tab.ok t ht) h.s1 h.s6
  have := h.s1
  have := h.s6
  refine ⟨?_, ?_, ?_⟩
  · show (tame (dI B.ps) && (tame (.int B.s) && (tameAll (B.ts.map dT) && true))) = true
    rw [h1.1, tame_int (by omega) (by omega), h2.1]
    rfl
  · show max (dI B.ps).depth (max 0 (max (PyData.depthAll (B.ts.map dT) + 1) 0)) + 1 ≤ 4
    have := h1.2.1
    have := h2.2.1
    omega
  · show wt (dI B.ps) + (1 + (wtAll (B.ts.map dT) + 1 + 0)) + 1 ≤ 2000
    have := h1.2.2
    have := h2.2.2
    have := h.pac.len
    have := h.tab.len
    have := h.m5
    have := nT_le h.m1 h.m5
    omega
end Wf
/-! for k, x in enumerate(t), t a tuple -/
namespace Wf
open PySem PySem.Spec
open AutoSeq1 (wpAny_loadPart')
theorem meets_enumT (l : Addr) (ws : Array Value) (n : Nat) (dd : Option Addr) (sl : Array (Option Value)) :
    Meets (Builtin.«enumerate.__new__» ⟨[.type "enumerate", .ref l], []⟩) (fun _ R s => s.heap.get? l = some { cls := .type "tuple", dict := dd, data := .seq ws n, slots := sl } ∧
      R (.ok (.ret (.ref (s.heap.push { cls := .type "tuple_iterator", data := .fields #[.ref l, .int 0 0] }).objs.size)))
        { s with heap := (s.heap.push { cls := .type "tuple_iterator", data := .fields #[.ref l, .int 0 0] }).push { cls := .type "enumerate", data := .fields #[.none, .bool false, .ref s.heap.objs.size, rawInt 0, .none, .none] } }) :=
  .of_wp fun prog w A R s hq => by
    obtain ⟨hp, gn, dr, tk, os⟩ := s; obtain ⟨hl, hq⟩ := hq
    have hsubE := sub_enumerate
    have hL : Heap.IsTuple (Shared.heap ⟨hp, gn, dr, tk, os⟩) l ws := ⟨_, hl, rfl, n, rfl⟩
    wp_walk using wpAny_loadPart' hl
    refine wpAny_stack_any fun stk => wpAny_pure ?_
    split
    · rename_i cc _ _ _ _ _
      cases (cc == Value.type "enumerate") <;> (wp_walk using wpAny_loadPart' hl, wpAny_pyIter_tuple hL; exact ⟨_, rfl, hq⟩)
    · wp_walk using wpAny_loadPart' hl, wpAny_pyIter_tuple hL
      exact ⟨_, rfl, hq⟩
section
variable {prog : Program} {w : World} {A : Around} {E : Value → Shared → Prop} {s : Shared}
theorem call_enumT {l : Addr} {ws : Array Value} {Q : Value → Shared → Prop} (hL : s.heap.IsTuple l ws)
    (k : ∀ h', IsEnum h' (s.heap.objs.size + 1) s.heap.objs.size 0 .none → h'.IsTupleIter s.heap.objs.size l 0 → h'.objs.size = s.heap.objs.size + 2 →
      (∀ b o, s.heap.get? b = some o → h'.get? b = some o) → Q (.ref (s.heap.objs.size + 1)) { s with heap := h' }) :
    wpAny (model prog w) A (call (.type "enumerate") [.ref l]) Q E s := by
  obtain ⟨⟨c, dd, dt, sl⟩, hl, hc, n, hd⟩ := hL
  replace hc : c = .type "tuple" := hc
  replace hd : dt = .seq ws n := hd
  subst hc hd
  refine callType_new F.called_enumerate (by decide) (F.typeCall_enumerate_1 _) (F.newCall_enumerate_1 _) (fun ob => F.args_object_init_2 ob _) F.entry_enumerate_new
    (meets_enumT l ws n dd sl) ⟨hl, ?_⟩
  have z1 : (s.heap.push { cls := .type "tuple_iterator", data := .fields #[.ref l, .int 0 0] }).objs.size = s.heap.objs.size + 1 := Heap.size_push ..
  show _ ∧ _
  rw [z1]
  have en : IsEnum ((s.heap.push { cls := .type "tuple_iterator", data := .fields #[.ref l, .int 0 0] }).push
      { cls := .type "enumerate", data := .fields #[.none, .bool false, .ref s.heap.objs.size, rawInt 0, .none, .none] }) (s.heap.objs.size + 1) s.heap.objs.size 0 .none := by
    have g := Heap.get?_push_size (s.heap.push { cls := .type "tuple_iterator", data := .fields #[.ref l, .int 0 0] })
      (o := { cls := .type "enumerate", data := .fields #[.none, .bool false, .ref s.heap.objs.size, rawInt 0, .none, .none] }) rfl
    rw [z1] at g
    exact g
  exact ⟨⟨_, en, rfl⟩, k _ en ⟨_, Heap.get?_push_of_some _ (Heap.get?_push_size _ rfl), rfl, rfl⟩ (by rw [Heap.size_push, z1]) fun b o e => Heap.get?_push_of_some _ (Heap.get?_push_of_some _ e)⟩
theorem enumT_end {e it l : Addr} {i : Nat} {ws : Array Value} {c : Int} {old : Value} {Q : Option Value → Shared → Prop} (hh : A.handled = none)
    (en : IsEnum s.heap e it c old) (hit : s.heap.IsTupleIter it l i) (hl : s.heap.IsTuple l ws) (hx : ws[i]? = none)
    (k : ∀ h', Heap.ExtBut it s.heap h' → Q none { s with heap := h' }) : wpAny (model prog w) A (pyNext (.ref e)) Q E s := by
  have ty : s.TypeIs (.ref e) "enumerate" := ⟨_, en, rfl⟩
  unfold pyNext
  refine wpAny_bind (wpAny_attempt (wpAny_callSpecial?_slot (name := Str.ofString "__next__") ty F.slot_enumerate_next (wpAny_call_entry F.slot_enumerate_next ty F.entry_enumerate_next ?_ (F.args_enumerate_next_1 _))))
  show wpAny _ _ (field (.ref e) 2 >>= _) _ _ _
  refine wpAny_bind (wpAny_field en rfl (x := .ref it) rfl (wpAny_bind (wpAny_nextOf_tuple_end hh hit hl hx fun h' x eb hx' => ?_)))
  obtain ⟨o, ho, hc⟩ := hx'
  exact wpAny_bind (wpAny_isInstance (T := "StopIteration") (b := true) ⟨o, ho, hc⟩ isSubtype_stop (wpAny_pure (k _ eb)))
end
end Wf
namespace Wf
open PySem PySem.Spec PyProof.Rows L2
/-- what is walked: the tuple at a, each thing in a new pair with its number -/
def ItT (K : PySem.W.Frag) (a : Addr) : It :=
  ⟨fun i H => ∃ (xs : List V) (x : V), SqT K H a xs ∧ xs[i]? = some x, fun i H v H' => ∃ T x, v = .ref T ∧ H T = none ∧ H' = upd H T (.tup [.int (i : Nat), x]) ∧ ∀ xs, SqT K H a xs → xs[i]? = some x, fun i H => ∃ xs : List V, SqT K H a xs ∧ xs.length ≤ i⟩
theorem apart_cls {h : Heap} {a b : Addr} {o u : Obj} {m n : String} (ha : h.get? a = some o) (hb : h.get? b = some u) (ho : o.cls = .type m) (hu : u.cls = .type n) (d : m ≠ n) : a ≠ b := fun e => by
  subst e
  rw [ha] at hb
  cases hb
  rw [ho] at hu
  exact d (by injection hu)
theorem turn_enumT {P : Program} {w : World} {K : PySem.W.Frag} {elts : List Expr} {kk : Nat} {tpos : Pos} (a e it : Addr) :
    Turn P w K (.Tuple elts kk tpos) (ItT K a) [e, it] e (fun i h => (∃ old, IsEnum h e it ((i : Nat) : Int) old) ∧ h.IsTupleIter it a i ∧ e ≠ it) where
  mem := by simp
  obj := fun i h st b hb => by
    obtain ⟨⟨old, en⟩, ⟨o, ho, hc, hd⟩, _⟩ := st
    have eb : b = e ∨ b = it := by simpa using hb
    rcases eb with rfl | rfl
    · exact ⟨_, en, fun v q => nomatch q⟩
    · exact ⟨o, ho, fun v q => by rw [hd] at q; cases q⟩
  keep := fun i h h' st kp => let ⟨⟨old, en⟩, hi, ne⟩ := st; ⟨⟨old, kp e (by simp) _ en⟩, hi.at fun o q => kp it (by simp) o q, ne⟩
  item := by
    intro X hP hw hK hc i pins s σ H E I hf st hg
    subst hP hw hK
    obtain ⟨⟨old, en⟩, hit, ne⟩ := st
    obtain ⟨xs, x, hq, hx⟩ := hg
    obtain ⟨its, rv, p, hz⟩ := I.tuple hq
    have pT : s.heap.IsTuple a its.toArray := p
    obtain ⟨u, hu, ru⟩ := rv.get hx
    have lx : i < xs.length := (List.getElem?_eq_some_iff.mp hx).1
    have lr := rv.length
    have hel : e < s.heap.objs.size := Heap.lt_size en
    have hil : it < s.heap.objs.size := by obtain ⟨_, q, _⟩ := hit; exact Heap.lt_size q
    have ae : e ≠ a := by
      obtain ⟨o, ho, hoc, _⟩ := pT
      exact apart_cls en ho rfl hoc (by decide)
    have ai : a ≠ it := by
      obtain ⟨o, ho, hoc, _⟩ := pT
      obtain ⟨o2, ho2, hoc2, _⟩ := hit
      exact apart_cls ho ho2 hoc hoc2 (by decide)
    refine wpAny_pyNext_enum_itemD (Draws.tuple (show X.A.in1.handled = none from I.ok.hd hc) it a ai its.toArray) en ⟨hit, pT⟩ (by simp; omega) ne (by simp [ne, ae]) fun y h' tk hy ho hst hT hsz hk => ?_
    have yu : y = u := by
      have : its[i]? = some y := by simpa using hy
      rw [hu] at this
      exact (Option.some.inj this).symm
    subst yu
    refine ⟨_, rfl, wpAny_letOwnedTupleGo_enum (s := { s with heap := h', toks := tk + 1 }) ho fun h2 en2 sb => ?_⟩
    have hT2 : h2.get? s.heap.objs.size = some { cls := .type "tuple", data := .seq #[.int i tk, y] } := (sb.2 _ (Nat.ne_of_gt hel)).trans hT
    have ok2 : ObjOk X.prog X.w (upd H s.heap.objs.size (.tup [.int (i : Nat), x])) h2 s.heap.objs.size (.tup [.int (i : Nat), x]) :=
      ⟨by show 2 ≤ sizeLine; decide, [.int i tk, y], .cons ⟨_, rfl⟩ (.cons ru .nil), ⟨_, hT2, rfl, _, rfl⟩⟩
    have I2 : Inv X pins σ (upd H s.heap.objs.size (.tup [.int (i : Nat), x])) { s with heap := h2, toks := tk + 1 } :=
      I.turnedNew (ch := [e, it]) (fun b ob hb q => (sb.2 b (fun z => hb (by simp [z]))).trans (hk b ob (fun z => hb (by simp [z])) (fun z => hb (by simp [z])) q)) hf (Nat.le_refl _) ok2
    refine ⟨.ref s.heap.objs.size, _, I2, rfl, ⟨_, x, rfl, I.hok.fresh (Nat.le_refl _), rfl, fun ys hy2 => by rw [I.tuple_inj hy2 hq]; exact hx⟩, ⟨⟨y, ?_⟩, hst.1.at fun o q => (sb.2 it (Ne.symm ne)).trans q, ne⟩, fun b hb => ?_⟩
    · rw [show ((i + 1 : Nat) : Int) = (i : Int) + 1 by omega]
      exact en2
    · have lb : b < s.heap.objs.size := by
        have eb : b = e ∨ b = it := by simpa using hb
        rcases eb with rfl | rfl
        · exact hel
        · exact hil
      rw [upd_ne (Nat.ne_of_lt lb)]
      exact (hf b hb).1
  done := by
    intro X hP hw hK hc i pins s σ H E I hf st hg
    subst hP hw hK
    obtain ⟨⟨old, en⟩, hit, ne⟩ := st
    obtain ⟨xs, hq, hx⟩ := hg
    obtain ⟨its, rv, p, hz⟩ := I.tuple hq
    have pT : s.heap.IsTuple a its.toArray := p
    obtain ⟨f0, f1, f2, f3, f4, f5⟩ := hf it (by simp)
    have lr := rv.length
    have ai : a ≠ it := by
      obtain ⟨o, ho, hoc, _⟩ := pT
      obtain ⟨o2, ho2, hoc2, _⟩ := hit
      exact apart_cls ho ho2 hoc hoc2 (by decide)
    refine enumT_end (I.ok.hd hc) en hit pT (by simp; omega) fun h' eb => ⟨rfl, I.turned (t' := s.toks) (fun b o hb q => eb b o hb q) f0 f1 f3 f4 f5⟩
  self := fun A i s Q E st h => let ⟨⟨_, en⟩, _⟩ := st; wpAny_pyIter_enum en h
def iEnumT (K : PySem.W.Frag) (ta : TA) : TI := fun σ H R => ta σ H fun vs H1 => ∃ a xs, vs = [.ref a] ∧ SqT K H1 a xs ∧ R (ItT K a) H1
theorem pi_enumT {X : Cx} {e : Expr} {ta : TA} {p pos tpos : Pos} {elts : List Expr} {kk : Nat} (hg : Gl X "enumerate") (hm : X.mg "enumerate" = none) (ha : PA X [e] ta) (hs : starEach [e] X.env = [(false, eval e X.env)] := by rfl) :
    PI X (.Tuple elts kk tpos) (.Call (.Name "enumerate" p) [e] [] pos) (iEnumT X.K ta) := by
  refine ⟨fun pins s σ H R I hr => ?_⟩
  refine Call_ (ld_blt I hg hm boot_enumerate (PyProof.Rows.callWith_type1 (thn (ha.run pos pins s σ H _ I hr) fun us s1 ⟨vs, H1, I1, r1, a, xs, ev, hq, q⟩ => ?_) hs rfl))
  subst ev
  cases r1 with
  | cons r rr =>
    cases rr
    cases r
    obtain ⟨its, rv, pt, hz⟩ := I1.tuple hq
    refine call_enumT (show s1.heap.IsTuple a its.toArray from pt) fun h' en hit hsz hk => wpAny_pyIter_enum en ?_
    have I2 : Inv X pins σ H1 { s1 with heap := h' } := I1.kept (t' := s1.toks) hk
    refine ⟨s1.heap.objs.size + 1, [s1.heap.objs.size + 1, s1.heap.objs.size], _, _, H1, rfl, I2, turn_enumT a (s1.heap.objs.size + 1) s1.heap.objs.size, ⟨⟨.none, en⟩, hit, Nat.succ_ne_self _⟩, fun b hb => ?_, q⟩
    have le : s1.heap.objs.size ≤ b := by
      have eb : b = s1.heap.objs.size + 1 ∨ b = s1.heap.objs.size := by simpa using hb
      rcases eb with rfl | rfl
      · exact Nat.le_add_right _ _
      · exact Nat.le_refl _
    exact I1.fpOk le (I1.hok.fresh le)
theorem for_enumT {K : PySem.W.Frag} {a : Addr} {xs : List V} {g : TG} {tb : TS} {D : Ends} {σ : L2.St} {H : Hp} (Pv : Nat → L2.St → Hp → Prop) (h0 : Pv 0 σ H) (hq : ∀ i σ H, Pv i σ H → SqT K H a xs)
    (hs : ∀ (i : Nat) (x : V) (T : Addr) (σ : L2.St) (H : Hp), xs[i]? = some x → Pv i σ H → H T = none → g (.ref T) σ (upd H T (.tup [.int (i : Nat), x])) fun σ2 H2 => tb { D with nx := Pv (i + 1), ct := Pv (i + 1), bk := D.nx } σ2 H2) (hd : ∀ σ H, Pv xs.length σ H → D.nx σ H) :
    ∃ W : Nat → Nat → L2.St → Hp → Prop, (∃ m, W 0 m σ H) ∧ ∀ i m σ H, W i m σ H →
      ((ItT K a).stop i H ∧ D.nx σ H) ∨ ((ItT K a).go i H ∧ ∃ N : L2.St → Hp → Prop, (∀ σ' H', N σ' H' → ∃ m', m' < m ∧ W (i + 1) m' σ' H') ∧ ∀ v H', (ItT K a).yld i H v H' → g v σ H' fun σ2 H2 => tb { D with nx := N, ct := N, bk := D.nx } σ2 H2) := by
  refine ⟨fun i m σ H => m = xs.length - i ∧ i ≤ xs.length ∧ Pv i σ H, ⟨xs.length, rfl, Nat.zero_le _, h0⟩, ?_⟩
  rintro i m σ H ⟨rfl, hi, p⟩
  have q := hq i σ H p
  by_cases hlt : i < xs.length
  · have hx : xs[i]? = some xs[i] := List.getElem?_eq_getElem hlt
    refine .inr ⟨⟨xs, _, q, hx⟩, Pv (i + 1), fun σ' H' p' => ⟨xs.length - (i + 1), by omega, rfl, hlt, p'⟩, fun v H' y => ?_⟩
    obtain ⟨T, x, rfl, hT, rfl, hall⟩ := y
    exact hs i x T σ H (hall xs q) p hT
  · have e : i = xs.length := by omega
    subst e
    exact .inl ⟨⟨xs, q, Nat.le_refl _⟩, hd σ H p⟩
end Wf
/-! Own errors over an own base over ValueError: their __init__, raised, caught. -/
namespace Wf
open PySem PySem.Spec PyProof.Rows L2
/-- the base class x, at C0, whose __init__ is ValueError's -/
structure BaseC (K : PySem.W.Frag) (mg : Str → Option Value) (x : Str) (C0 : Addr) : Prop where
  g : mg x = some (.ref C0)
  rd : PySem.W.readsIn K C0 (.type "type") = true
  ga : PySem.W.specialIn K (.ref C0) "__getattribute__" = some (some (.builtin "type.__getattribute__"))
  at_ : PySem.W.findCls K (.ref C0) (.type "type") "__init__" = some (.val (.builtin "ValueError.__init__"))
section
variable {X : Cx} {e : Expr} {es : List Expr} {ta : TA} {p1 p2 pos : Pos} {x : Str} {C0 : Addr}
/-- x.__init__(self, ..) -/
theorem pe_binit {pl : Sem Bool} (T : BaseC X.K X.mg x C0) (hg : Gl X x) (ha : PA X (e :: es) ta) (hdb : (x == ("__debug__" : Str)) = false := by decide)
    (hc : eval (.Call (.Attribute (.Name x p1) "__init__" p2) (e :: es) [] pos) X.env = (do
      let ov ← eval (.Name x p1) X.env
      standAt p2.atName
      let (f, first) ← holding [ov] (getMethod ov "__init__" pl)
      callWith pos f first (backTo pos (starEach (e :: es) X.env)) (backToKw pos (keywordEach [] X.env))) := by rfl)
    (he : starEach (e :: es) X.env = (false, eval e X.env) :: starEach es X.env := by rfl) (hpl : (backTo pos (starEach es X.env)).any (·.1) = false := by rfl) :
    PE X (.Call (.Attribute (.Name x p1) "__init__" p2) (e :: es) [] pos) (tVeI X.K ta) := by
  refine ⟨fun pins s σ H Q I h => ?_⟩
  refine PySem.W.methodCall_KW (ld_glob I hg T.g ?_ hdb) hc
  refine PySem.W.method_cls I.kIn T.ga (PySem.W.cls_value I.kIn T.rd T.at_ (by decide +kernel) ?_)
  show wpAny _ _ (callWith pos (Value.builtin "ValueError.__init__") [] (backTo pos (starEach (e :: es) X.env)) []) _ _ _
  refine PyProof.Rows.callWith_method1 (thn (ha.run pos pins _ σ H _ (I.tok _) h) fun us s1 ⟨vs, H1, I1, r1, a, C, ws, ev, hl, O, ea, q⟩ => ?_) he hpl
  subst ev
  cases r1 with
  | @cons _ u0 _ ur ra rw' =>
    obtain rfl : u0 = Value.ref a := ra
    have hlen : ur.length ≤ sizeLine := by
      rw [← Paired.length rw', sizeLine_eq]
      omega
    exact oinit_ok O I1 ea hlen fun s' J => ⟨.non, H1, J, rfl, q⟩
end
/-! ### readings may be widened -/
def up (ta : TA) : TA := fun σ H Q => ∃ Q' : List V → Hp → Prop, ta σ H Q' ∧ ∀ vs H1, Q' vs H1 → Q vs H1
theorem pa_up {X : Cx} {es : List Expr} {ta : TA} (h : PA X es ta) : PA X es (up ta) := by
  refine ⟨fun pos pins s σ H Q I q => ?_⟩
  obtain ⟨Q', h1, h2⟩ := q
  exact thn (h.run pos pins s σ H Q' I h1) fun us s1 ⟨vs, H1, I1, r1, q1⟩ => ⟨vs, H1, I1, r1, h2 vs H1 q1⟩
/-! ### __init__(self, f1, f2): the base's, then both fields -/
def sp_init2 (K : PySem.W.Frag) (C : Addr) (f1 f2 : Str) : Sp := fun vs H Q _ => ∃ (a : Addr) (w n : V), vs = [.ref a, w, n] ∧ H a = some (exo a C none) ∧
  ∀ dx, H dx = none → dx ≠ a → Q .non (upd (upd (upd H dx (exd dx [(f1, w)])) a (exo a C (some dx))) dx (exd dx [(f2, n), (f1, w)]))
def t_init2 (K : PySem.W.Frag) (f1 f2 txt : Str) : TS := tSeq (tDrop (tVeI K (tCons (tVar 0) (tCons (tC (.str txt)) tNil)))) (tSeq (tOst K f1 (tVar 0) (tVar 1)) (tOst K f2 (tVar 0) (tVar 2)))
theorem pure_init2 {K : PySem.W.Frag} {C : Addr} {f1 f2 txt : Str} (O : OexC K C) (n1 : PySem.W.findIn K (.ref C) f1 = some none) (n2 : PySem.W.findIn K (.ref C) f2 = some none) (vs : List V) (H : Hp) (Q : VK) (E : XK) (h : sp_init2 K C f1 f2 vs H Q E) :
    t_init2 K f1 f2 txt (EndsQ Q) (sN 3 vs) H := by
  obtain ⟨a, w, n, rfl, ha, k⟩ := h
  show t_init2 K f1 f2 txt _ [some (.ref a), some w, some n] H
  refine ⟨_, rfl, a, C, [.str txt], rfl, (by show 1 ≤ 1000; decide), O, ha, ?_⟩
  refine ⟨_, rfl, _, rfl, a, C, rfl, O, n1, .inl ⟨ha, fun dx hd ne => ?_⟩⟩
  refine ⟨_, rfl, _, rfl, a, C, rfl, O, n2, .inr ⟨dx, [(f1, w)], upd_same, ?_, (by show 1 ≤ 900; decide), k dx hd ne⟩⟩
  rw [upd_ne ne]
  exact upd_same
/-- an error class x at C with two fields -/
structure Err2 (P : Program) (w : World) (K : PySem.W.Frag) (mg : Str → Option Value) (base : Heap) (x f1 f2 : Str) (C : Addr) : Prop where
  g : mg x = some (.ref C)
  o : OexC K C
  ini : ∃ fI fd, PySem.W.findIn K (.ref C) "__init__" = some (some (.ref fI)) ∧ PySem.W.typeIn K (.ref fI) = some (.type "function") ∧ FnOk P w K mg base CX0 1 fI fd ["self", f1, f2] (sp_init2 K C f1 f2) ∧ Binds K fd ["self", f1, f2] []
/-- raise x(e, e2) -/
def tRz2 (C : Addr) (f1 f2 : Str) (W : WX) (ta : TA) : TS := fun _ σ H => ta σ H fun vs H1 => ∃ w n, vs = [w, n] ∧ ∀ d, H1 d = none → W (.ref C) (some d) σ (upd H1 d (.xd [(f2, n), (f1, w)]))
theorem ps_rz2 {X : Cx} {x f1 f2 : Str} {C : Addr} {W : WX} {e1 e2 : Expr} {ta : TA} {p pos pos2 : Pos} {j : Nat} (T : Err2 X.prog X.w X.K X.mg X.base x f1 f2 C) (hr : Room j X.A) (hc : X.calm = true) (tk : Takes X W) (hg : Gl X x) (ha : PA X [e1, e2] ta) (hk : 2 ≤ j := by decide)
    (hdb : (x == ("__debug__" : Str)) = false := by decide) (he : starEach (e1 :: [e2]) X.env = (false, eval e1 X.env) :: starEach [e2] X.env := by rfl) (hpl : (backTo pos (starEach [e2] X.env)).any (·.1) = false := by rfl) :
    PS X (.Raise (some (.Call (.Name x p) [e1, e2] [] pos)) none pos2) (tRz2 C f1 f2 W ta) := by
  obtain ⟨fI, fd, iC, tI, F, hb⟩ := T.ini
  have R := ps_raise (pos := pos2) hc tk (pmk_oex (p := p) (pos := pos) T.o iC tI F (hr.mono hk) hb .nil pass0 hg T.g (pa_up ha) hdb he hpl)
  refine ⟨fun pins s σ H D I h => R.run pins s σ H D I ⟨_, h, fun vs H1 q => ?_⟩⟩
  obtain ⟨w, n, rfl, q⟩ := q
  refine ⟨by show 2 ≤ 1000; decide, fun a ha1 => ⟨a, w, n, rfl, upd_same, fun dx hd ne => ⟨rfl, dx, [(f2, n), (f1, w)], ?_, upd_same, ?_, ?_⟩⟩⟩
  · rw [upd_ne (Ne.symm ne), upd_same]
  · rw [upd_ne ne] at hd
    exact hd
  · have hd1 : H1 dx = none := by
      rw [upd_ne ne] at hd
      exact hd
    have ef : upd (del (upd (upd (upd (upd H1 a (exo a C none)) dx (exd dx [(f1, w)])) a (exo a C (some dx))) dx (exd dx [(f2, n), (f1, w)])) a) dx (.xd [(f2, n), (f1, w)]) = upd H1 dx (.xd [(f2, n), (f1, w)]) := by
      funext b
      by_cases h1 : b = dx
      · rw [h1, upd_same, upd_same]
      · rw [upd_ne h1, upd_ne h1]
        by_cases h2 : b = a
        · rw [h2, del_same, ha1]
        · rw [del_ne h2, upd_ne h1, upd_ne h2, upd_ne h1, upd_ne h2]
    rw [ef]
    exact q dx hd1
/-! ### calls of defs that may raise -/
abbrev CalX (P : Program) (w : World) (K : PySem.W.Frag) (mg : Str → Option Value) (base : Heap) (k : Nat) (x : Str) (ps : List Str) (sp : Sp) : Prop := Cal P w K mg base (L2.CX P w) k x ps sp
theorem pe_calX {X : Cx} {k j : Nat} {x : Str} {ps : List Str} {sp : Sp} {W : WX} {E : XK} {e : Expr} {es : List Expr} {t : TA} {p pos : Pos} (C : CalX X.prog X.w X.K X.mg X.base k x ps sp) (hr : Room j X.A) (tk : Takes X W) (hW : ∀ cls d σ H, E cls d H → W cls d σ H) (hg : Gl X x) (ha : PA X (e :: es) t) (hk : k ≤ j := by decide)
    (hdb : (x == ("__debug__" : Str)) = false := by decide) (he : starEach (e :: es) X.env = (false, eval e X.env) :: starEach es X.env := by rfl) (hpl : (backTo pos (starEach es X.env)).any (·.1) = false := by rfl) :
    PE X (.Call (.Name x p) (e :: es) [] pos) (tCall sp [] E t) := by
  obtain ⟨f, fd, G, m, kp, b⟩ := C.ex
  exact pe_call G (hr.mono hk) hg m kp b .nil (passes_call tk hW) ha hdb he hpl
/-! ### isinstance of the caught error, its fields told -/
structure IsC (K : PySem.W.Frag) (C : Addr) : Prop where
  cl : (PySem.W.clsIn K C).isSome = true
  ga : PySem.W.findIn K (.ref C) "__getattribute__" = some (some (.builtin "BaseException.__getattribute__"))
  gg : PySem.W.findIn K (.ref C) "__getattr__" = some none
  su : PySem.W.subIn K (.ref C) (.type "BaseException") = some true
  ha : PySem.W.findIn K (.ref C) "__class__" = some (some (.builtin "object.__class__"))
  hn : PySem.W.specialIn K (.builtin "object.__class__") "__get__" = some (some (.builtin "getset_descriptor.__get__"))
  ht : PySem.W.takesIn K (.builtin "object.__class__") = some true
  hm : PySem.W.mroIn K C (.type "object") = some true
end Wf
/-! Keys that are tuples of tuples of numbers; dicts told by their one object. -/
namespace Wf
open PySem PySem.Spec L2
section
variable (P : Program) (w : World)
inductive ItR (h : Heap) : List (List Int) → List Value → Prop
  | nil : ItR h [] []
  | cons {l : List Int} {b : Addr} {ks : List (List Int)} {vs : List Value} : IsTupleKey (intKind P w) h l b → ItR h ks vs → ItR h (l :: ks) (.ref b :: vs)
def IsRow (h : Heap) (ks : List (List Int)) (a : Addr) : Prop := ∃ o items n, h.get? a = some o ∧ o.cls = .type "tuple" ∧ o.data = .seq items n ∧ ItR P w h ks items.toList
end
def numHash (l : List Int) : Int := reduceHash (Builtin.Tuple.tupleHashOf (l.map hashInt))
def rowHash (ks : List (List Int)) : Int := reduceHash (Builtin.Tuple.tupleHashOf (ks.map numHash))
section
variable {P : Program} {w : World} {A : Around} {E : Value → Shared → Prop} {s : Shared}
theorem ItR.inj {h : Heap} {x y : List (List Int)} {vs : List Value} (hx : ItR P w h x vs) (hy : ItR P w h y vs) : x = y := by
  induction hx generalizing y with
  | nil => cases hy; rfl
  | cons h1 _ ih =>
    cases hy with
    | cons h2 t2 => rw [h1.inj h2, ih t2]
theorem IsRow.typeIs {ks : List (List Int)} {a : Addr} (x : IsRow P w s.heap ks a) : s.TypeIs (.ref a) "tuple" := let ⟨o, _, _, ho, hc, _⟩ := x; ⟨o, ho, hc⟩
theorem IsRow.inj {h : Heap} {a : Addr} {x y : List (List Int)} (hx : IsRow P w h x a) (hy : IsRow P w h y a) : x = y := by
  obtain ⟨o, items, n, ho, _, hd, hi⟩ := hx
  obtain ⟨o', items', n', ho', _, hd', hi'⟩ := hy
  obtain rfl : o = o' := Option.some.inj (ho.symm.trans ho')
  rw [hd] at hd'
  injection hd' with h1 _
  subst h1
  exact hi.inj hi'
theorem ItR.keeps {h h' : Heap} {d : Addr} {o : Obj} {es ep} (ho : h.get? d = some o) (hd : o.data = .dict es ep) (hs : Heap.SameBut d h h') {ks : List (List Int)} {vs : List Value} (x : ItR P w h ks vs) : ItR P w h' ks vs := by
  induction x with
  | nil => exact .nil
  | cons h1 _ ih => exact .cons (h1.keeps ho hd hs) ih
theorem IsRow.keeps {h h' : Heap} {ks : List (List Int)} {a d : Addr} {o : Obj} {es ep} (x : IsRow P w h ks a) (ho : h.get? d = some o) (hd : o.data = .dict es ep) (hs : Heap.SameBut d h h') : IsRow P w h' ks a := by
  obtain ⟨o', items, n, ho', hc, hd', hi⟩ := x
  have hne : a ≠ d := by
    rintro rfl
    obtain rfl : o' = o := Option.some.inj (ho'.symm.trans ho)
    rw [hd] at hd'; exact nomatch hd'
  exact ⟨o', items, n, (hs.2 a hne).trans ho', hc, hd', hi.keeps ho hd hs⟩
end
/-- the keys: tuples of numbers, rows -/
abbrev KyT : Bool → Type
  | false => List Int
  | true => List (List Int)
instance kyDec : (r : Bool) → DecidableEq (KyT r)
  | false => inferInstanceAs (DecidableEq (List Int))
  | true => inferInstanceAs (DecidableEq (List (List Int)))
def kyHash : (r : Bool) → KyT r → Int
  | false => numHash
  | true => rowHash
/-- the datum of a key -/
def kyD : (r : Bool) → KyT r → PyData
  | false, l => .tuple (l.map .int)
  | true, ks => .tuple (ks.map fun l => .tuple (l.map .int))
def entD (r : Bool) (x : KyT r × Addr × Value) : DictEntry := ⟨kyHash r x.1, .ref x.2.1, x.2.2⟩
/-- the object of a dict -/
def DctO (a : Addr) (r : Bool) (ks : List (KyT r)) (bs : List Addr) (us : List V) : HO := .ext fun h =>
  ∃ ws : List Value, Vals us ws ∧ ∃ o es ep, h.get? a = some o ∧ o.ExactDict ∧ o.data = .dict es ep ∧ es.toList = (ks.zip (bs.zip ws)).map (entD r)
/-- some heap has a dict there -/
def OwnD (φ : Heap → Prop) (a : Addr) : Prop := ∃ h : Heap, φ h ∧ ∃ o es ep, h.get? a = some o ∧ o.data = .dict es ep
end Wf
/-! By value: what a def does, told of data alone. Things that never change are data; a list of one's own is told by its items, by the slot that holds it. -/
namespace Pv
open PySem PySem.Spec L2 Wf
/-- what stands and stays below a def, and the tables of code -/
structure Bas where
  hp : Hp
  ht : Hp
  T : List NdefX.NTab
/-- tables of code grow -/
structure TbG (T : List NdefX.NTab) (H H' : Hp) : Prop where
  ts : NdefX.TabsN T H → NdefX.TabsN T H'
  st : ∀ a ps, H a = some (.tbl ps) → ∃ qs, H' a = some (.tbl qs)
theorem TbG.refl {T : List NdefX.NTab} {H : Hp} : TbG T H H := ⟨fun h => h, fun _ ps h => ⟨ps, h⟩⟩
theorem TbG.trans {T : List NdefX.NTab} {H H1 H2 : Hp} (a : TbG T H H1) (b : TbG T H1 H2) : TbG T H H2 := ⟨fun h => b.ts (a.ts h), fun x ps h => by
  obtain ⟨qs, h1⟩ := a.st x ps h
  exact b.st x qs h1⟩
theorem TbG.same {T : List NdefX.NTab} {H H' : Hp} (s : Same H H') : TbG T H H' := ⟨fun t => t.ext s, fun _ ps h => ⟨ps, s _ _ h⟩⟩
instance : CoeFun Bas fun _ => Hp := ⟨Bas.hp⟩
variable {B : Bas} {T : List NdefX.NTab}
/-! ### data: None, truths, numbers, texts, tuples, lists that change no more -/
mutual
inductive Dq (K : PySem.W.Frag) (G : Hp) : V → PyData → Prop
  | non : Dq K G .non .none
  | bl (b : Bool) : Dq K G (.bl b) (.bool b)
  | int (i : Int) : Dq K G (.int i) (.int i)
  | str (x : Str) : Dq K G (.str x) (.str x)
  | lst {a : Addr} {xs : List V} {ds : List PyData} : G a = some (.lst xs) → DqAll K G xs ds → Dq K G (.ref a) (.list ds)
  | tup {a : Addr} {xs : List V} {ds : List PyData} : SqT K G a xs → DqAll K G xs ds → Dq K G (.ref a) (.tuple ds)
inductive DqAll (K : PySem.W.Frag) (G : Hp) : List V → List PyData → Prop
  | nil : DqAll K G [] []
  | cons {v : V} {vs : List V} {d : PyData} {ds : List PyData} : Dq K G v d → DqAll K G vs ds → DqAll K G (v :: vs) (d :: ds)
end
/-- an error's fields -/
inductive Fl (K : PySem.W.Frag) (G : Hp) : List (Str × V) → List (Str × PyData) → Prop
  | nil : Fl K G [] []
  | cons {x : Str} {v : V} {d : PyData} {us : List (Str × V)} {fs : List (Str × PyData)} : Dq K G v d → Fl K G us fs → Fl K G ((x, v) :: us) ((x, d) :: fs)
/-- a lambda that holds nothing: its name, parameters, body, scope, where its code object stands -/
structure LF where
  qual : Str
  params : Arguments
  body : Expr
  scope : Scope
  c : Addr
def LamO (f : Addr) (F : LF) : HO := .ext fun h => ∃ pm ctv : Value, h.get? f = some (PySem.W.kla_obj "<lambda>" F.qual F.params F.body F.scope [] pm F.c ctv)
/-- a thing of one's own: a list of data, the dict of draws, the script; a tuple whose object is known; a lambda; a dict by tuples of numbers -/
inductive O where
  | lst (ds : List PyData)
  | deal
  | scr (ns : List Int)
  | ptl (ds : List PyData)
  | lam (F : LF)
  | dic (ks : List (List Int)) (ds : List PyData)
  | dct (r : Bool) (ks : List (KyT r)) (ds : List PyData)
  | lls (bs : List Addr) (dss : List (List PyData))
def dicK (ks : List (List Int)) (us : List V) : List (List Key × V) := (ks.map fun k => k.map Sum.inl).zip us
/-- what a slot holds: not known; data; a thing of one's own (pin: a parameter's, the slot is not stored to); a caught error -/
inductive Sl where
  | un
  | im (d : PyData)
  | ow (pin : Bool) (o : O)
  | ex (a dd C : Addr) (fs : List (Str × PyData))
/-- what an expression gives: data; a new thing of one's own; what slot i holds -/
inductive R where
  | im (d : PyData)
  | ow (o : O)
  | at (i : Nat)
mutual
/-- data; where it is a tuple its object is known, and so within -/
inductive Kn (K : PySem.W.Frag) (G : Hp) : V → PyData → Prop
  | any {v : V} {d : PyData} : Dq K G v d → (∀ es, d ≠ .tuple es) → Kn K G v d
  | tup {p : Addr} {o : Obj} {us : List V} {ds : List PyData} : G p = some (.frz o (.tup us)) → o.cls = .type "tuple" → o.dict = none → KnAll K G us ds → Kn K G (.ref p) (.tuple ds)
inductive KnAll (K : PySem.W.Frag) (G : Hp) : List V → List PyData → Prop
  | nil : KnAll K G [] []
  | cons {v : V} {d : PyData} {vs : List V} {ds : List PyData} : Kn K G v d → KnAll K G vs ds → KnAll K G (v :: vs) (d :: ds)
end
section
variable (K : PySem.W.Frag)
/-- lists of one's own, each with its data -/
inductive InL (G H : Hp) (m : Addr → Prop) : List Addr → List (List PyData) → Prop
  | nil : InL G H m [] []
  | cons {b : Addr} {us : List V} {ds : List PyData} {bs : List Addr} {dss : List (List PyData)} : m b → H b = some (.lst us) → DqAll K G us ds → InL G H m bs dss → InL G H m (b :: bs) (ds :: dss)
def RO (G H : Hp) (m : Addr → Prop) (v : V) : O → Prop
  | .lst ds => ∃ a us, v = .ref a ∧ m a ∧ H a = some (.lst us) ∧ DqAll K G us ds
  | .deal => ∃ d l, v = .ref d ∧ m d ∧ m l ∧ Deal H d l
  | .scr ns => ∃ a, v = .ref a ∧ ((∃ o, m a ∧ H a = some (.frz o (.lst (ns.map V.int)))) ∨ ∀ H1, SqL K H1 a (ns.map V.int))
  | .ptl ds => ∃ p o us, v = .ref p ∧ G p = some (.frz o (.tup us)) ∧ o.cls = .type "tuple" ∧ o.dict = none ∧ DqAll K G us ds ∧ KnAll K G us ds
  | .lam F => ∃ f, v = .ref f ∧ G f = some (LamO f F) ∧ G F.c = some (LamX.CodeO F.c F.qual)
  | .dic ks ds => ∃ a us, v = .ref a ∧ m a ∧ H a = some (.dT (dicK ks us)) ∧ us.length = ks.length ∧ DqAll K G us ds
  | .dct r ks ds => ∃ a bs us, v = .ref a ∧ m a ∧ H a = some (DctO a r ks bs us) ∧ ((a == sysModules) = false ∧ ks.length ≤ sizeLine ∧ ks.Nodup ∧ us.length = ks.length ∧ bs.length = ks.length) ∧ DqAll K G (bs.map V.ref) (ks.map (kyD r)) ∧ DqAll K G us ds
  | .lls bs dss => ∃ a, v = .ref a ∧ m a ∧ H a = some (.lst (bs.map V.ref)) ∧ (a :: bs).Nodup ∧ InL K G H m bs dss
def SlR (G H : Hp) (m : Addr → Prop) (o : Option (Option V)) : Sl → Prop
  | .un => True
  | .im d => ∃ v, o = some (some v) ∧ Dq K G v d
  | .ow _ ob => ∃ v, o = some (some v) ∧ RO K G H m v ob
  | .ex a dd _ fs => o = some (some (.ref a)) ∧ ∃ us, G dd = some (.xd us) ∧ Fl K G us fs
def RR (G H : Hp) (σ : St) (m : Addr → Prop) (v : V) : R → Prop
  | .im d => Dq K G v d
  | .ow o => RO K G H m v o
  | .at i => σ[i]? = some (some v)
/-- no table of code -/
def NT (o : HO) : Prop := ∀ ps, o ≠ .tbl ps
/-- a thing that nobody owns: a tuple, a code object, a lambda -/
def RdX (H : Hp) (a : Addr) : Option (List V) → Prop
  | some xs => Rd H a (.tup xs)
  | none => ∃ φ, H a = some (.ext φ) ∧ ¬ OwnD φ a
def NoX (H : Hp) (a : Addr) : Prop := ∀ xs, ¬ RdX H a xs
theorem NoX.t {H : Hp} {a : Addr} (n : NoX H a) : NoT H a := fun xs => n (some xs)
theorem RdX.same {H H' : Hp} {a : Addr} {o : HO} (e : H a = some o) (e2 : H' a = some o) : ∀ {xs : Option (List V)}, RdX H' a xs → RdX H a xs
  | some xs, z => by
    rcases z with z | ⟨ob, z⟩
    · rw [e2] at z; cases z; exact .inl e
    · rw [e2] at z; cases z; exact .inr ⟨ob, e⟩
  | none, ⟨φ, z, n⟩ => ⟨φ, by rw [e2] at z; rw [e, z], n⟩
theorem NoX.same {H H' : Hp} {a : Addr} {o : HO} (e : H a = some o) (e2 : H' a = some o) (n : NoX H a) : NoX H' a := fun xs z => n xs (RdX.same e e2 z)
theorem NoX.of {H : Hp} {a : Addr} {o : HO} (e : H a = some o) (n1 : ∀ xs, o ≠ .tup xs) (n2 : ∀ ob xs, o ≠ .frz ob (.tup xs)) (n3 : ∀ φ, o ≠ .ext φ) : NoX H a
  | some xs, z => by
    rcases z with z | ⟨ob, z⟩
    · rw [e] at z; cases z; exact n1 _ rfl
    · rw [e] at z; cases z; exact n2 _ _ rfl
  | none, ⟨φ, z, _⟩ => by rw [e] at z; cases z; exact n3 _ rfl
theorem NoX.own {H : Hp} {a : Addr} {φ : Heap → Prop} (e : H a = some (.ext φ)) (n : OwnD φ a) : NoX H a
  | some xs, z => by
    rcases z with z | ⟨ob, z⟩ <;> · rw [e] at z; cases z
  | none, ⟨ψ, z, n2⟩ => by rw [e] at z; cases z; exact n2 n
theorem NoX.tbl {H : Hp} {a : Addr} {ps : Array Value} (e : H a = some (.tbl ps)) : NoX H a := NoX.of e (fun _ z => by cases z) (fun _ _ z => by cases z) fun _ z => by cases z
theorem NoX.lst {H : Hp} {a : Addr} {ps : List V} (e : H a = some (.lst ps)) : NoX H a := NoX.of e (fun _ z => by cases z) (fun _ _ z => by cases z) fun _ z => by cases z
theorem RdX.upd {H : Hp} {a p : Addr} {o : HO} (h : a ≠ p) : ∀ {xs : Option (List V)}, RdX (upd H p o) a xs → RdX H a xs
  | some xs, z => by
    rcases z with z | ⟨ob, z⟩
    · rw [upd_ne h] at z; exact .inl z
    · rw [upd_ne h] at z; exact .inr ⟨ob, z⟩
  | none, ⟨φ, z, n⟩ => ⟨φ, by rw [upd_ne h] at z; exact z, n⟩
theorem RdX.ne {H : Hp} {a : Addr} : ∀ {xs : Option (List V)}, RdX H a xs → H a ≠ none
  | some xs, z, e => by
    rcases z with z | ⟨ob, z⟩ <;> · rw [e] at z; cases z
  | none, ⟨φ, z, _⟩, e => by rw [e] at z; cases z
structure BsOk (B : Bas) (G H : Hp) (w : Addr → Option Nat) : Prop where
  to : ∀ a o, B a = some o → H a = some o ∧ w a = none ∧ NT o
  tt : TbG B.T B.ht H
  ta : NdefX.TabsN B.T B.ht
  gt : ∀ a ps, G a ≠ some (.tbl ps)
/-- G: what never changes any more; w: whose an address is (2 i: slot i's, 2 j + 1: value j's) -/
structure Rep (B : Bas) (G H : Hp) (σ : St) (δ : List Sl) (vs : List V) (rs : List R) (w : Addr → Option Nat) : Prop where
  sub : Same G H
  out : ∀ a i, w a = some i → G a = none ∧ H a ≠ none ∧ NoX H a
  len : σ.length = δ.length
  sl : ∀ i s, δ[i]? = some s → SlR K G H (fun a => w a = some (2 * i)) σ[i]? s
  tlen : vs.length = rs.length
  tm : ∀ j v r, vs[j]? = some v → rs[j]? = some r → RR K G H σ (fun a => w a = some (2 * j + 1)) v r
  bs : BsOk B G H w
end
def Pn (δ δ' : List Sl) : Prop := ∀ (i : Nat) (o : O), δ[i]? = some (Sl.ow true o) → ∃ o', δ'[i]? = some (Sl.ow true o')
/-- a step: what is public stays so, what is not ours stays as it is, but tables of code -/
structure Stp (T : List NdefX.NTab) (G H : Hp) (w : Addr → Option Nat) (δ : List Sl) (G' H' : Hp) (w' : Addr → Option Nat) (δ' : List Sl) : Prop where
  g : Same G G'
  b : ∀ a o, w a = none → H a = some o → H' a = some o ∨ ∃ ps qs, o = .tbl ps ∧ H' a = some (.tbl qs)
  n : ∀ a i, w' a = some i → w a ≠ none ∨ H a = none
  p : ∀ a o, G' a = some o → G a = some o ∨ H a = none ∨ w a ≠ none ∨ ∃ xs, RdX H a xs
  pn : Pn δ δ'
  t : TbG T H H'
  q : ∀ a ps, G' a = some (.tbl ps) → G a = some (.tbl ps)
/-- a step that leaves the tables as they are -/
structure StpO (G H : Hp) (w : Addr → Option Nat) (δ : List Sl) (G' H' : Hp) (w' : Addr → Option Nat) (δ' : List Sl) : Prop where
  g : Same G G'
  b : ∀ a o, w a = none → H a = some o → H' a = some o
  n : ∀ a i, w' a = some i → w a ≠ none ∨ H a = none
  p : ∀ a o, G' a = some o → G a = some o ∨ H a = none ∨ w a ≠ none ∨ ∃ xs, RdX H a xs
  pn : Pn δ δ'
theorem w_stay {H : Hp} {w w' : Addr → Option Nat} (n : ∀ a i, w' a = some i → w a ≠ none ∨ H a = none) {a : Addr} {o : HO} (h1 : w a = none) (h2 : H a = some o) : w' a = none := by
  cases e : w' a with
  | none => rfl
  | some i =>
    rcases n a i e with z | z
    · exact absurd h1 z
    · rw [h2] at z; cases z
theorem Stp.of {G H G' H' : Hp} {w w' : Addr → Option Nat} {δ δ' : List Sl} (s : StpO G H w δ G' H' w' δ') (t : TbG T H H' := by exact TbG.refl) (q : ∀ a ps, G' a = some (.tbl ps) → G a = some (.tbl ps) := by exact fun _ _ h => h) : Stp T G H w δ G' H' w' δ' :=
  ⟨s.g, fun a o h1 h2 => .inl (s.b a o h1 h2), s.n, s.p, s.pn, t, q⟩
theorem q_new {G : Hp} {p : Addr} {o : HO} (n : NT o) : ∀ a ps, upd G p o a = some (.tbl ps) → G a = some (.tbl ps) := fun a ps h => by
  by_cases e : a = p
  · subst e; rw [upd_same] at h; cases h; exact absurd rfl (n ps)
  · rwa [upd_ne e] at h
theorem tabs_new {H : Hp} {p : Addr} {o : HO} (h : H p = none) : TbG T H (upd H p o) := .same (same_new h)
theorem tabs_put {H : Hp} {D : Addr} {xs ys : List V} (h : H D = some (.lst xs)) : TbG T H (upd H D (.lst ys)) := ⟨fun t p hp => by
  obtain ⟨ps, h1, h2, h3⟩ := t p hp
  refine ⟨ps, by rw [upd_ne (fun z => by rw [z, h] at h1; cases h1)]; exact h1, h2, fun pos cv hc => ?_⟩
  obtain ⟨c, e1, e2⟩ := h3 pos cv hc
  exact ⟨c, e1, by rw [upd_ne (fun z => by rw [z, h] at e2; cases e2)]; exact e2⟩, fun a ps e => ⟨ps, by rw [upd_ne (fun z => by rw [z, h] at e; cases e)]; exact e⟩⟩
theorem Stp.bN {G H G' H' : Hp} {w w' : Addr → Option Nat} {δ δ' : List Sl} (s : Stp T G H w δ G' H' w' δ') (a : Addr) (o : HO) (hn : NT o) (hw : w a = none) (h : H a = some o) : H' a = some o := by
  rcases s.b a o hw h with z | ⟨ps, _, z, _⟩
  · exact z
  · exact absurd z (hn ps)
theorem Stp.nn {G H G' H' : Hp} {w w' : Addr → Option Nat} {δ δ' : List Sl} (s : Stp T G H w δ G' H' w' δ') (a : Addr) (hw : w a = none) (h : H a ≠ none) (t : NoX H a) : H' a ≠ none ∧ NoX H' a := by
  cases e : H a with
  | none => exact absurd e h
  | some o =>
    rcases s.b a o hw e with z | ⟨ps, qs, _, z⟩
    · exact ⟨by rw [z]; exact Option.some_ne_none _, t.same e z⟩
    · exact ⟨by rw [z]; exact Option.some_ne_none _, NoX.tbl z⟩
theorem Pn.refl (δ : List Sl) : Pn δ δ := fun _ o h => ⟨o, h⟩
theorem Pn.trans {a b c : List Sl} (x : Pn a b) (y : Pn b c) : Pn a c := fun i o h => by
  obtain ⟨o1, h1⟩ := x i o h
  exact y i o1 h1
theorem Stp.refl {G H : Hp} {w : Addr → Option Nat} {δ : List Sl} : Stp T G H w δ G H w δ :=
  .of ⟨fun _ _ h => h, fun _ _ _ h => h, fun a i h => .inl (by rw [h]; exact Option.some_ne_none _), fun _ _ h => .inl h, .refl _⟩
theorem Stp.bs {G H G' H' : Hp} {w w' : Addr → Option Nat} {δ δ' : List Sl} (s : Stp B.T G H w δ G' H' w' δ') (h : BsOk B G H w) : BsOk B G' H' w' :=
  ⟨fun a o hb => by
    obtain ⟨h1, h2, h3⟩ := h.to a o hb
    exact ⟨s.bN a o h3 h2 h1, w_stay s.n h2 h1, h3⟩, h.tt.trans s.t, h.ta, fun a ps e => h.gt a ps (s.q a ps e)⟩
theorem Stp.trans {G H G1 H1 G2 H2 : Hp} {w w1 w2 : Addr → Option Nat} {δ δ1 δ2 : List Sl} (a : Stp T G H w δ G1 H1 w1 δ1) (b : Stp T G1 H1 w1 δ1 G2 H2 w2 δ2) : Stp T G H w δ G2 H2 w2 δ2 := by
  have no : ∀ x o, w x = none → H x = some o → w1 x = none := fun x o h1 h2 => by
    cases e : w1 x with
    | none => rfl
    | some i =>
      rcases a.n x i e with z | z
      · exact absurd h1 z
      · rw [h2] at z; cases z
  have none1 : ∀ x, H1 x = none → w x ≠ none ∨ H x = none := fun x h => by
    cases e : w x with
    | some i => exact .inl (Option.some_ne_none _)
    | none =>
      cases e2 : H x with
      | none => exact .inr rfl
      | some o =>
        rcases a.b x o e e2 with z | ⟨_, _, _, z⟩ <;> · rw [z] at h; cases h
  have w1n : ∀ x, w1 x ≠ none → w x ≠ none ∨ H x = none := fun x h => by
    cases e : w1 x with
    | none => exact absurd e h
    | some i => exact a.n x i e
  refine ⟨fun x o h => b.g x o (a.g x o h), fun x o h1 h2 => ?_, fun x i h => ?_, fun x o h => ?_, a.pn.trans b.pn, a.t.trans b.t, fun x ps h => a.q x ps (b.q x ps h)⟩
  · rcases a.b x o h1 h2 with z | ⟨ps, qs, z1, z2⟩
    · exact b.b x o (no x o h1 h2) z
    · rcases b.b x _ (no x o h1 h2) z2 with y | ⟨_, rs, _, y⟩
      · exact .inr ⟨ps, qs, z1, y⟩
      · exact .inr ⟨ps, rs, z1, y⟩
  · rcases b.n x i h with z | z
    · exact w1n x z
    · exact none1 x z
  · rcases b.p x o h with z | z | z | ⟨xs, z⟩
    · exact a.p x o z
    · rcases none1 x z with q | q
      · exact .inr (.inr (.inl q))
      · exact .inr (.inl q)
    · rcases w1n x z with q | q
      · exact .inr (.inr (.inl q))
      · exact .inr (.inl q)
    · cases e : w x with
      | some i => exact .inr (.inr (.inl (Option.some_ne_none _)))
      | none =>
        cases e2 : H x with
        | none => exact .inr (.inl rfl)
        | some u =>
          refine .inr (.inr (.inr ⟨xs, ?_⟩))
          rcases a.b x u e e2 with e3 | ⟨_, _, _, e3⟩
          · exact RdX.same e2 e3 z
          · exact absurd z (NoX.tbl e3 xs)
/-! ### data stays -/
mutual
theorem dp_mono {K : PySem.W.Frag} {G G' : Hp} (s : Same G G') : ∀ (d : PyData) (v : V), Dq K G v d → Dq K G' v d
  | .none, _, h => by cases h; exact .non
  | .bool b, _, h => by cases h; exact .bl b
  | .int i, _, h => by cases h; exact .int i
  | .str x, _, h => by cases h; exact .str x
  | .dict _, _, h => by cases h
  | .list ds, _, h => by
    cases h with
    | lst hs ha =>
      exact .lst (s _ _ hs) (dpAll_mono s ds _ ha)
  | .tuple ds, _, h => by
    cases h with
    | tup hs ha => exact .tup (Same.tp s _ _ hs) (dpAll_mono s ds _ ha)
theorem dpAll_mono {K : PySem.W.Frag} {G G' : Hp} (s : Same G G') : ∀ (ds : List PyData) (vs : List V), DqAll K G vs ds → DqAll K G' vs ds
  | [], _, h => by cases h; exact .nil
  | d :: ds, _, h => by
    cases h with
    | cons h1 h2 => exact .cons (dp_mono s d _ h1) (dpAll_mono s ds _ h2)
end
mutual
theorem pl_mono {K : PySem.W.Frag} {G G' : Hp} (s : Same G G') : ∀ (v : V) (d : PyData), Kn K G v d → Kn K G' v d
  | _, _, .any h n => .any (dp_mono s _ _ h) n
  | _, _, .tup h1 h2 h3 h4 => .tup (s _ _ h1) h2 h3 (plAll_mono s _ _ h4)
theorem plAll_mono {K : PySem.W.Frag} {G G' : Hp} (s : Same G G') : ∀ (vs : List V) (ds : List PyData), KnAll K G vs ds → KnAll K G' vs ds
  | _, _, .nil => .nil
  | _, _, .cons h1 h2 => .cons (pl_mono s _ _ h1) (plAll_mono s _ _ h2)
end
theorem Fl.mono {K : PySem.W.Frag} {G G' : Hp} (s : Same G G') : ∀ {us : List (Str × V)} {fs : List (Str × PyData)}, Fl K G us fs → Fl K G' us fs
  | _, _, .nil => .nil
  | _, _, .cons h1 h2 => .cons (dp_mono s _ _ h1) (Fl.mono s h2)
theorem InL.monoN {K : PySem.W.Frag} {G G' H H' : Hp} {m m' : Addr → Prop} (s : Same G G') (hh : ∀ a u, NT u → m a → H a = some u → H' a = some u) (hm : ∀ a u, m a → H a = some u → m' a) {bs : List Addr} {dss : List (List PyData)} (h : InL K G H m bs dss) : InL K G' H' m' bs dss := by
  induction h with
  | nil => exact .nil
  | cons mb hb hd _ ih => exact .cons (hm _ _ mb hb) (hh _ _ nofun mb hb) (dpAll_mono s _ _ hd) ih
theorem RO.monoN {K : PySem.W.Frag} {G G' H H' : Hp} {m m' : Addr → Prop} {v : V} {o : O} (s : Same G G') (hh : ∀ a u, NT u → m a → H a = some u → H' a = some u) (hm : ∀ a u, m a → H a = some u → m' a) (h : RO K G H m v o) : RO K G' H' m' v o := by
  cases o with
  | lst ds =>
    obtain ⟨a, us, e, ma, ha, hd⟩ := h
    exact ⟨a, us, e, hm a _ ma ha, hh a _ nofun ma ha, dpAll_mono s _ _ hd⟩
  | deal =>
    obtain ⟨d, l, e, md, ml, hd⟩ := h
    obtain ⟨z1, z2, z3, z4, h1, h2, h3⟩ := hd.ex
    exact ⟨d, l, e, hm d _ md h1, hm l _ ml h2, z1, z2, z3, z4, hh d _ nofun md h1, hh l _ nofun ml h2, h3⟩
  | scr ns =>
    obtain ⟨a, e, ⟨o, ma, h⟩ | h⟩ := h
    · exact ⟨a, e, .inl ⟨o, hm a _ ma h, hh a _ nofun ma h⟩⟩
    · exact ⟨a, e, .inr h⟩
  | ptl ds =>
    obtain ⟨p, o, us, e, hp, h1, h2, hd, hl⟩ := h
    exact ⟨p, o, us, e, s _ _ hp, h1, h2, dpAll_mono s _ _ hd, plAll_mono s _ _ hl⟩
  | lam F =>
    obtain ⟨f, e, h1, h2⟩ := h
    exact ⟨f, e, s _ _ h1, s _ _ h2⟩
  | dic ks ds =>
    obtain ⟨a, us, e, ma, ha, hl, hd⟩ := h
    exact ⟨a, us, e, hm a _ ma ha, hh a _ nofun ma ha, hl, dpAll_mono s _ _ hd⟩
  | dct r ks ds =>
    obtain ⟨a, bs, us, e, ma, ha, hl, hk, hd⟩ := h
    exact ⟨a, bs, us, e, hm a _ ma ha, hh a _ (fun ps z => by unfold DctO at z; cases z) ma ha, hl, dpAll_mono s _ _ hk, dpAll_mono s _ _ hd⟩
  | lls bs dss =>
    obtain ⟨a, e, ma, ha, nd, hi⟩ := h
    exact ⟨a, e, hm a _ ma ha, hh a _ nofun ma ha, nd, hi.monoN s hh hm⟩
theorem RO.mono {K : PySem.W.Frag} {G G' H H' : Hp} {m m' : Addr → Prop} {v : V} {o : O} (s : Same G G') (hh : ∀ a u, m a → H a = some u → H' a = some u) (hm : ∀ a u, m a → H a = some u → m' a) (h : RO K G H m v o) : RO K G' H' m' v o := h.monoN s (fun a u _ => hh a u) hm
theorem SlR.mono {K : PySem.W.Frag} {G G' H H' : Hp} {m m' : Addr → Prop} {o : Option (Option V)} {s : Sl} (g : Same G G') (hh : ∀ a u, m a → H a = some u → H' a = some u) (hm : ∀ a u, m a → H a = some u → m' a) (h : SlR K G H m o s) : SlR K G' H' m' o s := by
  cases s with
  | un => trivial
  | im d =>
    obtain ⟨v, e, h⟩ := h
    exact ⟨v, e, dp_mono g d v h⟩
  | ow p ob =>
    obtain ⟨v, e, h⟩ := h
    exact ⟨v, e, h.mono g hh hm⟩
  | ex a dd C fs =>
    obtain ⟨e, us, h1, h2⟩ := h
    exact ⟨e, us, g _ _ h1, h2.mono g⟩
theorem RR.mono {K : PySem.W.Frag} {G G' H H' : Hp} {σ : St} {m m' : Addr → Prop} {v : V} {r : R} (g : Same G G') (hh : ∀ a u, m a → H a = some u → H' a = some u) (hm : ∀ a u, m a → H a = some u → m' a) (h : RR K G H σ m v r) : RR K G' H' σ m' v r := by
  cases r with
  | im d => exact dp_mono g d v h
  | ow ob => exact RO.mono g hh hm h
  | «at» i => exact h
theorem RR.monoN {K : PySem.W.Frag} {G G' H H' : Hp} {σ : St} {m m' : Addr → Prop} {v : V} {r : R} (g : Same G G') (hh : ∀ a u, NT u → m a → H a = some u → H' a = some u) (hm : ∀ a u, m a → H a = some u → m' a) (h : RR K G H σ m v r) : RR K G' H' σ m' v r := by
  cases r with
  | im d => exact dp_mono g d v h
  | ow ob => exact RO.monoN g hh hm h
  | «at» i => exact h
theorem SlR.monoN {K : PySem.W.Frag} {G G' H H' : Hp} {m m' : Addr → Prop} {o : Option (Option V)} {s : Sl} (g : Same G G') (hh : ∀ a u, NT u → m a → H a = some u → H' a = some u) (hm : ∀ a u, m a → H a = some u → m' a) (h : SlR K G H m o s) : SlR K G' H' m' o s := by
  cases s with
  | un => trivial
  | im d =>
    obtain ⟨v, e, h⟩ := h
    exact ⟨v, e, dp_mono g d v h⟩
  | ow p ob =>
    obtain ⟨v, e, h⟩ := h
    exact ⟨v, e, h.monoN g hh hm⟩
  | ex a dd C fs =>
    obtain ⟨e, us, h1, h2⟩ := h
    exact ⟨e, us, g _ _ h1, h2.mono g⟩
/-! ### the frame: values that wait -/
def evn : Option Nat → Option Nat
  | some n => if n % 2 = 0 then some n else none
  | none => none
theorem evn_some {o : Option Nat} {n : Nat} : evn o = some n ↔ o = some n ∧ n % 2 = 0 := by
  cases o with
  | none => simp [evn]
  | some m =>
    unfold evn
    dsimp only
    split
    · constructor
      · intro h; cases h; exact ⟨rfl, by assumption⟩
      · rintro ⟨h, _⟩; exact h
    · constructor
      · intro h; cases h
      · rintro ⟨h, h2⟩; cases h; exact absurd h2 (by assumption)
theorem evn_ne {o : Option Nat} (h : evn o ≠ none) : o ≠ none := by
  intro e; subst e; exact h rfl
theorem Stp.drop {G H : Hp} {w : Addr → Option Nat} {δ : List Sl} : Stp T G H w δ G H (fun a => evn (w a)) δ :=
  .of ⟨fun _ _ h => h, fun _ _ _ h => h, fun a i h => .inl (by rw [(evn_some.mp h).1]; exact Option.some_ne_none _), fun _ _ h => .inl h, .refl _⟩
theorem Rep.drop {K : PySem.W.Frag} {G H : Hp} {σ : St} {δ : List Sl} {vs : List V} {rs : List R} {w : Addr → Option Nat} (r : Rep K B G H σ δ vs rs w) : Rep K B G H σ δ [] [] fun a => evn (w a) where
  sub := r.sub
  out := fun a i h => r.out a i (evn_some.mp h).1
  len := r.len
  sl := fun i s h => (r.sl i s h).mono (fun _ _ h => h) (fun _ _ _ h => h) fun a u ma _ => evn_some.mpr ⟨ma, by omega⟩
  tlen := rfl
  tm := fun j v r h => by simp at h
  bs := (Stp.drop (T := B.T) (δ := δ)).bs (G := G) r.bs
def shf (k : Nat) : Option Nat → Option Nat
  | some n => if n % 2 = 0 then some n else some (n + 2 * k)
  | none => none
def both (k : Nat) (w w' : Addr → Option Nat) (a : Addr) : Option Nat := match w a with
  | some n => if n % 2 = 0 then shf k (w' a) else some n
  | none => shf k (w' a)
theorem both_odd {k : Nat} {w w' : Addr → Option Nat} {a : Addr} {n : Nat} (h : w a = some n) (ho : n % 2 = 1) : both k w w' a = some n := by
  unfold both; rw [h]; dsimp only; rw [if_neg (by omega)]
theorem both_evn {k : Nat} {w w' : Addr → Option Nat} {a : Addr} (h : ∀ n, w a = some n → n % 2 = 0) : both k w w' a = shf k (w' a) := by
  unfold both
  cases e : w a with
  | none => rfl
  | some n => dsimp only; rw [if_pos (h n e)]
theorem shf_some {k n : Nat} {o : Option Nat} (h : shf k o = some n) : ∃ m, o = some m ∧ n = if m % 2 = 0 then m else m + 2 * k := by
  cases o with
  | none => cases h
  | some m =>
    refine ⟨m, rfl, ?_⟩
    unfold shf at h
    dsimp only at h
    split at h <;> cases h <;> simp [*]
theorem Rep.frame {K : PySem.W.Frag} {G H G' H' : Hp} {σ : St} {δ δ' : List Sl} {vs vs1 : List V} {rs rs1 : List R} {w w' : Addr → Option Nat} (r : Rep K B G H σ δ vs rs w) (s : Stp B.T G H (fun a => evn (w a)) δ G' H' w' δ') (r' : Rep K B G' H' σ δ' vs1 rs1 w') :
    ∃ w2, Stp B.T G H w δ G' H' w2 δ' ∧ Rep K B G' H' σ δ' (vs ++ vs1) (rs ++ rs1) w2 := by
  have odd : ∀ a n, w a = some n → n % 2 = 1 → w' a = none ∧ G' a = none ∧ (H' a ≠ none ∧ NoX H' a) ∧ ∀ u, NT u → H a = some u → H' a = some u := fun a n h ho => by
    have e0 : evn (w a) = none := by
      cases e : evn (w a) with
      | none => rfl
      | some m =>
        have := evn_some.mp e
        rw [h] at this
        have z := this.1
        cases z
        omega
    obtain ⟨g0, h0, n0⟩ := r.out a n h
    refine ⟨?_, ?_, s.nn a e0 h0 n0, fun u hn hu => s.bN a u hn e0 hu⟩
    · cases e : w' a with
      | none => rfl
      | some i =>
        rcases s.n a i e with z | z
        · exact absurd e0 z
        · exact absurd z h0
    · cases e : G' a with
      | none => rfl
      | some o =>
        rcases s.p a o e with z | z | z | ⟨xs, z⟩
        · rw [g0] at z; cases z
        · exact absurd z h0
        · exact absurd e0 z
        · exact absurd z (n0 xs)
  have evw : ∀ a i, w' a = some i → ∀ n, w a = some n → n % 2 = 0 := fun a i h n hn => by
    by_cases ho : n % 2 = 1
    · rw [(odd a n hn ho).1] at h; cases h
    · omega
  have st : Stp B.T G H w δ G' H' (both rs.length w w') δ' := by
    refine ⟨s.g, fun a o hw ha => s.b a o (by show evn (w a) = none; rw [hw]; rfl) ha, fun a i h => ?_, fun a o h => ?_, s.pn, s.t, s.q⟩
    · cases e : w a with
      | some n => exact .inl (Option.some_ne_none _)
      | none =>
        have e1 : both rs.length w w' a = shf rs.length (w' a) := both_evn fun n hn => by rw [e] at hn; cases hn
        rw [e1] at h
        obtain ⟨m, hm, _⟩ := shf_some h
        rcases s.n a m hm with z | z
        · have z' := evn_ne z
          rw [e] at z'
          exact .inl z'
        · exact .inr z
    · rcases s.p a o h with z | z | z | z
      · exact .inl z
      · exact .inr (.inl z)
      · exact .inr (.inr (.inl (evn_ne z)))
      · exact .inr (.inr (.inr z))
  refine ⟨both rs.length w w', st, r'.sub, fun a i h => ?_, r'.len, fun i sl h => ?_, by rw [List.length_append, List.length_append, r.tlen, r'.tlen], fun j v q hv hr => ?_, st.bs r.bs⟩
  · by_cases ho : ∃ n, w a = some n ∧ n % 2 = 1
    · obtain ⟨n, hn, ho⟩ := ho
      obtain ⟨_, g, hh, _⟩ := odd a n hn ho
      exact ⟨g, hh⟩
    · have e1 : both rs.length w w' a = shf rs.length (w' a) := both_evn fun n hn => by
        by_cases z : n % 2 = 1
        · exact absurd ⟨n, hn, z⟩ ho
        · omega
      rw [e1] at h
      obtain ⟨m, hm, _⟩ := shf_some h
      exact r'.out a m hm
  · refine (r'.sl i sl h).mono (fun _ _ h => h) (fun _ _ _ h => h) fun a u ma _ => ?_
    rw [both_evn (evw a _ ma)]
    unfold shf
    rw [ma]
    dsimp only
    rw [if_pos (by omega)]
  · by_cases hj : j < vs.length
    · rw [List.getElem?_append_left hj] at hv
      rw [List.getElem?_append_left (by rw [← r.tlen]; exact hj)] at hr
      exact (r.tm j v q hv hr).monoN s.g (fun a u hn ma hu => (odd a _ ma (by omega)).2.2.2 u hn hu) fun a u ma _ => both_odd ma (by omega)
    · have hj : vs.length ≤ j := by omega
      rw [List.getElem?_append_right hj] at hv
      rw [List.getElem?_append_right (by rw [← r.tlen]; exact hj), ← r.tlen] at hr
      refine (r'.tm (j - vs.length) v q hv hr).mono (fun _ _ h => h) (fun _ _ _ h => h) fun a u ma _ => ?_
      rw [both_evn (evw a _ ma)]
      unfold shf
      rw [ma]
      dsimp only
      rw [if_neg (by omega), r.tlen.symm]
      congr 1
      omega
end Pv
namespace Pv
open PySem PySem.Spec L2 Wf
variable {B : Bas}
/-! ### judgements told of data -/
abbrev QE := R → List Sl → Prop
abbrev PX := List Sl → QE → Prop
abbrev PL := List Sl → (List R → List Sl → Prop) → Prop
abbrev PB := List Sl → (Bool → List Sl → Prop) → Prop
section
variable (K : PySem.W.Frag) (B : Bas)
def LE (p : PX) : TE := fun σ H Q => ∃ G w δ Qp, Rep K B G H σ δ [] [] w ∧ p δ Qp ∧ ∀ r δ' v H' G' w', Qp r δ' → Stp B.T G H w δ G' H' w' δ' → Rep K B G' H' σ δ' [v] [r] w' → Q v H'
def LA (n : Nat) (p : PL) : TA := fun σ H Q => ∃ G w δ Qp, Rep K B G H σ δ [] [] w ∧ p δ Qp ∧ ∀ rs δ' vs H' G' w', Qp rs δ' → rs.length = n → Stp B.T G H w δ G' H' w' δ' → Rep K B G' H' σ δ' vs rs w' → Q vs H'
def LB (p : PB) : TT := fun σ H Q => ∃ G w δ Qp, Rep K B G H σ δ [] [] w ∧ p δ Qp ∧ ∀ b δ' H' G' w', Qp b δ' → Stp B.T G H w δ G' H' w' δ' → Rep K B G' H' σ δ' [] [] w' → Q b H'
end
/-- an operation by values -/
def LC (K : PySem.W.Frag) (q : List R → PX) (r : List V → Hp → VK → Prop) : Prop := ∀ {B : Bas} (G H : Hp) (σ : St) (δ : List Sl) (vs : List V) (rs : List R) (w : Addr → Option Nat) (Qp : QE) (Q : VK), Rep K B G H σ δ vs rs w → q rs δ Qp →
  (∀ r δ' v H' G' w', Qp r δ' → Stp B.T G H w δ G' H' w' δ' → Rep K B G' H' σ δ' [v] [r] w' → Q v H') → r vs H Q
def JE (X : Cx) (B : Bas) (e : Expr) (p : PX) : Prop := PE X e (LE X.K B p)
def JA (X : Cx) (B : Bas) (es : List Expr) (p : PL) : Prop := PA X es (LA X.K B es.length p)
def JB (X : Cx) (B : Bas) (e : Expr) (p : PB) : Prop := PT X e (LB X.K B p)
section
variable {X : Cx}
theorem PE_wk {e : Expr} {t t' : TE} (h : PE X e t) (k : ∀ σ H Q, t' σ H Q → t σ H Q) : PE X e t' := ⟨fun pins s σ H Q I q => h.run pins s σ H Q I (k σ H Q q)⟩
theorem PT_wk {e : Expr} {t t' : TT} (h : PT X e t) (k : ∀ σ H Q, t' σ H Q → t σ H Q) : PT X e t' := ⟨fun pins s σ H Q I q => h.run pins s σ H Q I (k σ H Q q)⟩
theorem PW_wk {e : Expr} {t t' : TT} (h : PW X e t) (k : ∀ σ H Q, t' σ H Q → t σ H Q) : PW X e t' := ⟨fun wh pins s σ H Q I q => h.run wh pins s σ H Q I (k σ H Q q)⟩
theorem PA_wk {es : List Expr} {t t' : TA} (h : PA X es t) (k : ∀ σ H Q, t' σ H Q → t σ H Q) : PA X es t' := ⟨fun pos pins s σ H Q I q => h.run pos pins s σ H Q I (k σ H Q q)⟩
theorem PS_wk {st : Stmt} {t t' : TS} (h : PS X st t) (k : ∀ D σ H, t' D σ H → t D σ H) : PS X st t' := ⟨fun pins s σ H D I q => h.run pins s σ H D I (k D σ H q)⟩
theorem PSs_wk {st : List Stmt} {t t' : TS} (h : PSs X st t) (k : ∀ D σ H, t' D σ H → t D σ H) : PSs X st t' := ⟨fun pins s σ H D I q => h.run pins s σ H D I (k D σ H q)⟩
end
/-! ### results -/
theorem noT_upd {H : Hp} {a p : Addr} {o : HO} (h : a ≠ p) (n : NoX H a) : NoX (upd H p o) a := fun xs z => n xs (RdX.upd h z)
section
variable {K : PySem.W.Frag} {G H : Hp} {σ : St} {δ : List Sl} {vs : List V} {rs : List R} {w : Addr → Option Nat}
/-- data is given, nothing is changed -/
theorem Rep.ret (r : Rep K B G H σ δ vs rs w) {v : V} {d : PyData} (h : Dq K G v d) : Rep K B G H σ δ [v] [.im d] fun a => evn (w a) := by
  have r0 := r.drop
  refine ⟨r0.sub, r0.out, r0.len, r0.sl, rfl, fun j u q hu hq => ?_, r0.bs⟩
  match j with
  | 0 =>
    simp only [List.getElem?_cons_zero, Option.some.injEq] at hu hq
    subst hu hq
    exact h
  | j + 1 => simp at hu
theorem Rep.at_ (r : Rep K B G H σ δ vs rs w) {i : Nat} {v : V} (h : σ[i]? = some (some v)) : Rep K B G H σ δ [v] [.at i] fun a => evn (w a) := by
  have r0 := r.drop
  refine ⟨r0.sub, r0.out, r0.len, r0.sl, rfl, fun j u q hu hq => ?_, r0.bs⟩
  match j with
  | 0 =>
    simp only [List.getElem?_cons_zero, Option.some.injEq] at hu hq
    subst hu hq
    exact h
  | j + 1 => simp at hu
/-- a new thing that never changes -/
theorem Rep.retNew (r : Rep K B G H σ δ vs rs w) {p : Addr} {o : HO} {d : PyData} (hp : H p = none) (h : Dq K (upd G p o) (.ref p) d) (hn : NT o := by exact nofun) :
    Stp B.T G H w δ (upd G p o) (upd H p o) (fun a => evn (w a)) δ ∧ Rep K B (upd G p o) (upd H p o) σ δ [.ref p] [.im d] fun a => evn (w a) := by
  have gp : G p = none := by
    cases e : G p with
    | none => rfl
    | some u => rw [r.sub p u e] at hp; cases hp
  have np : ∀ a i, w a = some i → a ≠ p := fun a i hw z => (r.out a i hw).2.1 (by rw [z]; exact hp)
  have sg : Same G (upd G p o) := same_new gp
  have r0 := r.drop
  have st : Stp B.T G H w δ (upd G p o) (upd H p o) (fun a => evn (w a)) δ := by
    refine .of ⟨sg, fun a u _ ha => by rw [upd_ne (ne_of_none ha hp)]; exact ha, fun a i h => .inl (by rw [(evn_some.mp h).1]; exact Option.some_ne_none _), fun a u ha => ?_, .refl _⟩ (tabs_new hp) (q_new hn)
    by_cases e : a = p
    · subst e; exact .inr (.inl hp)
    · rw [upd_ne e] at ha; exact .inl ha
  refine ⟨st, fun a u ha => ?_, fun a i h => ?_, r0.len, fun i s h => ?_, rfl, fun j u q hu hq => ?_, st.bs r.bs⟩
  · by_cases e : a = p
    · subst e; rw [upd_same] at ha ⊢; exact ha
    · rw [upd_ne e] at ha ⊢; exact r.sub a u ha
  · have h' := (evn_some.mp h).1
    have hne := np a i h'
    have ho := r.out a i h'
    rw [upd_ne hne, upd_ne hne]
    exact ⟨ho.1, ho.2.1, noT_upd hne ho.2.2⟩
  · exact (r0.sl i s h).mono sg (fun a u ma hu => by rw [upd_ne (ne_of_none hu hp)]; exact hu) fun a u ma _ => ma
  · match j with
    | 0 =>
      simp only [List.getElem?_cons_zero, Option.some.injEq] at hu hq
      subst hu hq
      exact h
    | j + 1 => simp at hu
/-- a new list of one's own -/
theorem Rep.retLst (r : Rep K B G H σ δ vs rs w) {p : Addr} {us : List V} {ds : List PyData} (hp : H p = none) (h : DqAll K G us ds) :
    ∃ w', Stp B.T G H w δ G (upd H p (.lst us)) w' δ ∧ Rep K B G (upd H p (.lst us)) σ δ [.ref p] [.ow (.lst ds)] w' := by
  have gp : G p = none := by
    cases e : G p with
    | none => rfl
    | some u => rw [r.sub p u e] at hp; cases hp
  have r0 := r.drop
  have st : Stp B.T G H w δ G (upd H p (.lst us)) (fun a => if a = p then some 1 else evn (w a)) δ := by
    refine .of ⟨fun _ _ h => h, fun a u _ ha => by rw [upd_ne (ne_of_none ha hp)]; exact ha, fun a i h => ?_, fun a u ha => .inl ha, .refl _⟩ (tabs_new hp)
    by_cases e : a = p
    · subst e; exact .inr hp
    · simp only [e, if_false] at h
      exact .inl (by rw [(evn_some.mp h).1]; exact Option.some_ne_none _)
  refine ⟨_, st, fun a u ha => ?_, fun a i h => ?_, r0.len, fun i s h => ?_, rfl, fun j u q hu hq => ?_, st.bs r.bs⟩
  · by_cases e : a = p
    · subst e; rw [gp] at ha; cases ha
    · rw [upd_ne e]; exact r.sub a u ha
  · by_cases e : a = p
    · subst e; rw [upd_same]; exact ⟨gp, Option.some_ne_none _, NoX.lst upd_same⟩
    · simp only [e, if_false] at h
      have ho := r0.out a i h
      rw [upd_ne e]
      exact ⟨ho.1, ho.2.1, noT_upd e ho.2.2⟩
  · refine (r0.sl i s h).mono (fun _ _ h => h) (fun a u ma hu => by rw [upd_ne (ne_of_none hu hp)]; exact hu) fun a u ma hu => ?_
    rw [if_neg (ne_of_none hu hp)]
    exact ma
  · match j with
    | 0 =>
      simp only [List.getElem?_cons_zero, Option.some.injEq] at hu hq
      subst hu hq
      exact ⟨p, us, rfl, by simp, upd_same, h⟩
    | j + 1 => simp at hu
end
/-! ### what is read -/
def dat (δ : List Sl) : R → Option PyData
  | .im d => some d
  | .ow (.lst ds) => some (.list ds)
  | .ow (.ptl ds) => some (.tuple ds)
  | .ow _ => none
  | .at i => match δ[i]? with
    | some (.im d) => some d
    | some (.ow _ (.lst ds)) => some (.list ds)
    | some (.ow _ (.ptl ds)) => some (.tuple ds)
    | _ => none
section
variable {K : PySem.W.Frag} {G H : Hp} {σ : St} {δ : List Sl} {vs : List V} {rs : List R} {w : Addr → Option Nat}
mutual
theorem dq_dp (s : Same G H) : ∀ (d : PyData) (v : V), Dq K G v d → Dp K H v d
  | .none, _, h => by cases h; exact .non
  | .bool b, _, h => by cases h; exact .bl b
  | .int i, _, h => by cases h; exact .int i
  | .str x, _, h => by cases h; exact .str x
  | .dict _, _, h => by cases h
  | .list ds, _, h => by
    cases h with
    | lst hs ha => exact .lst (SqL.of (s _ _ hs)) (dqAll_dp s ds _ ha)
  | .tuple ds, _, h => by
    cases h with
    | tup hs ha => exact .tup (Same.tp s _ _ hs) (dqAll_dp s ds _ ha)
theorem dqAll_dp (s : Same G H) : ∀ (ds : List PyData) (vs : List V), DqAll K G vs ds → DpAll K H vs ds
  | [], _, h => by cases h; exact .nil
  | d :: ds, _, h => by
    cases h with
    | cons h1 h2 => exact .cons (dq_dp s d _ h1) (dqAll_dp s ds _ h2)
end
/-- what is to be read of a value -/
def Vw (K : PySem.W.Frag) (G H : Hp) (v : V) (d : PyData) : Prop := Dq K G v d ∨ ∃ a us ds, v = .ref a ∧ H a = some (.lst us) ∧ DqAll K G us ds ∧ d = .list ds
theorem ptl_dq {K : PySem.W.Frag} {G : Hp} {v : V} {ds : List PyData} (h : ∃ p o us, v = .ref p ∧ G p = some (.frz o (.tup us)) ∧ o.cls = .type "tuple" ∧ o.dict = none ∧ DqAll K G us ds ∧ KnAll K G us ds) : Dq K G v (.tuple ds) := by
  obtain ⟨p, o, us, rfl, hp, _, _, hd, _⟩ := h
  exact .tup (.inl (.inr ⟨o, hp⟩)) hd
/-- what a value is: data, public; or a list, its items public -/
theorem Rep.dat (r : Rep K B G H σ δ vs rs w) {j : Nat} {v : V} {q : R} {d : PyData} (hv : vs[j]? = some v) (hq : rs[j]? = some q) (hd : dat δ q = some d) :
    Dq K G v d ∨ ∃ a us ds, v = .ref a ∧ H a = some (.lst us) ∧ DqAll K G us ds ∧ d = .list ds := by
  have t := r.tm j v q hv hq
  cases q with
  | im d' => cases hd; exact .inl t
  | ow o =>
    cases o with
    | lst ds =>
      cases hd
      obtain ⟨a, us, e, _, ha, hds⟩ := t
      exact .inr ⟨a, us, ds, e, ha, hds, rfl⟩
    | deal => cases hd
    | scr ns => cases hd
    | ptl ds => cases hd; exact .inl (ptl_dq t)
    | lam F => cases hd
    | dic ks ds => cases hd
    | dct r ks ds => cases hd
    | lls bs dss => cases hd
  | «at» i =>
    have t' : σ[i]? = some (some v) := t
    simp only [Pv.dat] at hd
    revert hd
    split
    · rename_i d' e
      intro hd; cases hd
      obtain ⟨u, hu, hd'⟩ := r.sl i _ e
      rw [t'] at hu
      cases hu
      exact .inl hd'
    · rename_i b ds e
      intro hd; cases hd
      obtain ⟨u, hu, a, us, e1, _, ha, hds⟩ := r.sl i _ e
      rw [t'] at hu
      cases hu
      exact .inr ⟨a, us, ds, e1, ha, hds, rfl⟩
    · rename_i b ds e
      intro hd; cases hd
      obtain ⟨u, hu, t2⟩ := r.sl i _ e
      rw [t'] at hu
      cases hu
      exact .inl (ptl_dq t2)
    · intro hd; cases hd
theorem Vw.dp {v : V} {d : PyData} (s : Same G H) (h : Vw K G H v d) : Dp K H v d := by
  rcases h with h | ⟨a, us, ds, rfl, ha, hds, rfl⟩
  · exact dq_dp s _ _ h
  · exact .lst (SqL.of ha) (dqAll_dp s _ _ hds)
theorem Vw.seqL {v : V} {ds : List PyData} (s : Same G H) (h : Vw K G H v (.list ds)) : ∃ a us, v = .ref a ∧ H a = some (.lst us) ∧ DqAll K G us ds := by
  rcases h with h | ⟨a, us, ds', rfl, ha, hds, e⟩
  · cases h with
    | lst hs ha => exact ⟨_, _, rfl, s _ _ hs, ha⟩
  · cases e
    exact ⟨a, us, rfl, ha, hds⟩
theorem Vw.seqT {v : V} {ds : List PyData} (s : Same G H) (h : Vw K G H v (.tuple ds)) : ∃ a us, v = .ref a ∧ SqT K H a us ∧ DqAll K G us ds ∧ Dq K G v (.tuple ds) := by
  rcases h with h | ⟨a, us, ds', rfl, ha, hds, e⟩
  · cases h with
    | tup hs ha => exact ⟨_, _, rfl, Same.tp s _ _ hs, ha, .tup hs ha⟩
  · cases e
theorem Vw.int {v : V} {i : Int} (h : Vw K G H v (.int i)) : v = .int i := by
  rcases h with h | ⟨a, us, ds', rfl, ha, hds, e⟩
  · cases h; rfl
  · cases e
theorem Vw.bool {v : V} {i : Bool} (h : Vw K G H v (.bool i)) : v = .bl i := by
  rcases h with h | ⟨a, us, ds', rfl, ha, hds, e⟩
  · cases h; rfl
  · cases e
theorem Vw.str {v : V} {i : Str} (h : Vw K G H v (.str i)) : v = .str i := by
  rcases h with h | ⟨a, us, ds', rfl, ha, hds, e⟩
  · cases h; rfl
  · cases e
theorem Rep.dpH (r : Rep K B G H σ δ vs rs w) {j : Nat} {v : V} {q : R} {d : PyData} (hv : vs[j]? = some v) (hq : rs[j]? = some q) (hd : Pv.dat δ q = some d) : Dp K H v d := Vw.dp r.sub (r.dat hv hq hd)
end
/-! ### names, constants, arguments -/
def pVar (i : Nat) : PX := fun δ Q => match δ[i]? with
  | some (.im d) => Q (.im d) δ
  | some (.ow _ _) => Q (.at i) δ
  | _ => False
def pK (d : PyData) : PX := fun δ Q => Q (.im d) δ
def pNil : PL := fun δ Q => Q [] δ
def pCons (p : PX) (ps : PL) : PL := fun δ Q => p δ fun r δ1 => ps δ1 fun rs δ2 => Q (r :: rs) δ2
/-- an operation over values that are there -/
def pC (q : List R → PX) (ps : PL) : PX := fun δ Q => ps δ fun rs δ1 => q rs δ1 Q
section
variable {X : Cx}
theorem je_var {i : Nat} {x : Str} {pos : Pos} (hN : X.N[i]? = some x) (hv : Vis X.env.scope x) (hd : (x == ("__debug__" : Str)) = false := by decide) (hcd : (x == ("__classdict__" : Str)) = false := by decide) : JE X B (.Name x pos) (pVar i) := by
  refine PE_wk (pe_var (i := i) hN hv hd hcd) fun σ H Q ⟨G, w, δ, Qp, rep, h, k⟩ => ?_
  unfold pVar at h
  revert h
  split
  · rename_i d e
    intro h
    obtain ⟨v, hv, hd⟩ := rep.sl i _ e
    exact ⟨v, hv, k _ _ v H G _ h .drop (rep.ret hd)⟩
  · rename_i b o e
    intro h
    obtain ⟨v, hv, hd⟩ := rep.sl i _ e
    exact ⟨v, hv, k _ _ v H G _ h .drop (rep.at_ hv)⟩
  · intro h; exact h.elim
theorem je_c {e : Expr} {v : V} {d : PyData} (h : PE X e (tC v)) (hd : ∀ G, Dq X.K G v d) : JE X B e (pK d) :=
  PE_wk h fun σ H Q ⟨G, w, δ, Qp, rep, q, k⟩ => k _ _ v H G _ q .drop (rep.ret (hd G))
theorem je_int {i j pos} : JE X B (.Constant (.int i) j pos) (pK (.int i)) := je_c pe_int fun _ => .int i
theorem je_bl {b j pos} : JE X B (.Constant (.bool b) j pos) (pK (.bool b)) := je_c pe_bl fun _ => .bl b
theorem ja_nil : JA X B [] pNil := PA_wk pa_nil fun σ H Q ⟨G, w, δ, Qp, rep, q, k⟩ => k [] δ [] H G _ q rfl .drop rep.drop
theorem ja_cons {e : Expr} {es : List Expr} {p : PX} {ps : PL} (h : JE X B e p) (hs : JA X B es ps) (he : starEach (e :: es) X.env = (false, eval e X.env) :: starEach es X.env := by rfl) : JA X B (e :: es) (pCons p ps) := by
  refine PA_wk (pa_cons h hs he) fun σ H Q ⟨G, w, δ, Qp, rep, q, k⟩ => ?_
  refine ⟨G, w, δ, _, rep, q, fun r δ1 v H1 G1 w1 q1 s1 rep1 => ?_⟩
  refine ⟨G1, _, δ1, _, rep1.drop, q1, fun rs δ2 vs H2 G2 w2 q2 l2 s2 rep2 => ?_⟩
  obtain ⟨w3, s3, rep3⟩ := rep1.frame s2 rep2
  exact k _ δ2 _ H2 G2 w3 q2 (congrArg (· + 1) l2) (s1.trans s3) rep3
/-- a binary operator -/
def ap2 (r : R2) : List V → Hp → VK → Prop
  | [x, y], H, Q => r x y H Q
  | _, _, _ => False
theorem lc_two {a b : PX} {q : List R → PX} {r : R2} {σ : St} {H : Hp} {Q : VK} (hl : LC X.K q (ap2 r)) (h : LE X.K B (pC q (pCons a (pCons b pNil))) σ H Q) : LE X.K B a σ H fun x H1 => LE X.K B b σ H1 fun y H2 => r x y H2 Q := by
  obtain ⟨G, w, δ, Qp, rep, q, k⟩ := h
  refine ⟨G, w, δ, _, rep, q, fun ra δ1 x H1 G1 w1 q1 s1 rep1 => ?_⟩
  refine ⟨G1, _, δ1, _, rep1.drop, q1, fun rb δ2 y H2 G2 w2 q2 s2 rep2 => ?_⟩
  obtain ⟨w3, s3, rep3⟩ := rep1.frame s2 rep2
  exact hl G2 H2 σ δ2 [x, y] [ra, rb] w3 Qp Q rep3 q2 fun r δ' v H' G' w' hq hs hr => k r δ' v H' G' w' hq ((s1.trans s3).trans hs) hr
theorem je_op {a b : Expr} {op : Operator} {pos : Pos} {pa pb : PX} {q : List R → PX} {r : R2} (ho : OpR X (binaryOp op) r) (hl : LC X.K q (ap2 r)) (ha : JE X B a pa) (hb : JE X B b pb) : JE X B (.BinOp a op b pos) (pC q (pCons pa (pCons pb pNil))) :=
  PE_wk (pe_op ho ha hb) fun σ H Q h => lc_two hl h
theorem je_cmp {a b : Expr} {op : CmpOp} {pos : Pos} {pa pb : PX} {q : List R → PX} {r : R2} (ho : OpR X (compareOp op) r) (hl : LC X.K q (ap2 r)) (ha : JE X B a pa) (hb : JE X B b pb) (hm : behindInMarks op b = false) : JE X B (.Compare a [op] [b] pos) (pC q (pCons pa (pCons pb pNil))) :=
  PE_wk (pe_cmpR ho ha hb hm) fun σ H Q h => lc_two hl h
theorem lc_args {n : Nat} {ps : PL} {q : List R → PX} {r : List V → Hp → VK → Prop} {σ : St} {H : Hp} {Q : VK} (hl : LC X.K q r) (h : LE X.K B (pC q ps) σ H Q) : tCB r (LA X.K B n ps) σ H Q := by
  obtain ⟨G, w, δ, Qp, rep, q, k⟩ := h
  exact ⟨G, w, δ, _, rep, q, fun rs δ1 vs H1 G1 w1 q1 _ s1 rep1 => hl G1 H1 σ δ1 vs rs w1 Qp Q rep1 q1 fun r δ' v H' G' w' hq hs hr => k r δ' v H' G' w' hq (s1.trans hs) hr⟩
/-! ### tests -/
def pT (p : PX) : PB := fun δ Q => p δ fun r δ1 => ∃ b, dat δ1 r = some (.bool b) ∧ Q b δ1
theorem dp_bool {K : PySem.W.Frag} {H : Hp} {v : V} {b : Bool} (h : Dp K H v (.bool b)) : v = .bl b := by cases h; rfl
theorem jb_val {e : Expr} {p : PX} (h : JE X B e p) (he : ∀ whole, isTrue e X.env whole = (do let v ← whole; standAt e.pos; holding [v] (truthy v)) := by intro _; rfl) : JB X B e (pT p) := by
  refine PT_wk (pt_val h he) fun σ H Q ⟨G, w, δ, Qp, rep, q, k⟩ => ?_
  refine ⟨G, w, δ, _, rep, q, fun r δ1 v H1 G1 w1 q1 s1 rep1 => ?_⟩
  obtain ⟨b, hd, q1⟩ := q1
  exact ⟨b, dp_bool (rep1.dpH (j := 0) rfl rfl hd), k b δ1 H1 G1 _ q1 (s1.trans .drop) rep1.drop⟩
theorem jb_cmp {a b : Expr} {op : CmpOp} {pos : Pos} {pa pb : PX} {q : List R → PX} {r : R2} (ho : OpR X (compareOp op) r) (hl : LC X.K q (ap2 r)) (ha : JE X B a pa) (hb : JE X B b pb) (hm : behindInMarks op b = false) : JB X B (.Compare a [op] [b] pos) (pT (pC q (pCons pa (pCons pb pNil)))) := by
  refine PT_wk (pt_cmpR ho ha hb hm) fun σ H Q ⟨G, w, δ, Qp, rep, q, k⟩ => ?_
  refine lc_two hl ⟨G, w, δ, _, rep, q, fun r δ1 v H1 G1 w1 q1 s1 rep1 => ?_⟩
  obtain ⟨b, hd, q1⟩ := q1
  exact ⟨b, dp_bool (rep1.dpH (j := 0) rfl rfl hd), k b δ1 H1 G1 _ q1 (s1.trans .drop) rep1.drop⟩
def pAnd (p q : PB) : PB := fun δ Q => p δ fun b δ1 => if b = true then q δ1 Q else Q false δ1
def pOr (p q : PB) : PB := fun δ Q => p δ fun b δ1 => if b = true then Q true δ1 else q δ1 Q
def pNot (p : PB) : PB := fun δ Q => p δ fun b δ1 => Q (!b) δ1
def JW (X : Cx) (B : Bas) (e : Expr) (p : PB) : Prop := PW X e (LB X.K B p)
theorem jw_pt {e : Expr} {p : PB} (h : JW X B e p) : JB X B e p := PW.pt h
theorem jw_and1 {a : Expr} {pos : Pos} {p : PB} (h : JB X B a p) : JW X B (.BoolOp .And [a] pos) p := pw_and1 h
theorem jw_or1 {a : Expr} {pos : Pos} {p : PB} (h : JB X B a p) : JW X B (.BoolOp .Or [a] pos) p := pw_or1 h
theorem jw_and {a b : Expr} {rest : List Expr} {pos : Pos} {p q : PB} (ha : JB X B a p) (hb : JW X B (.BoolOp .And (b :: rest) pos) q) : JW X B (.BoolOp .And (a :: b :: rest) pos) (pAnd p q) := by
  refine PW_wk (pw_and ha hb) fun σ H Q ⟨G, w, δ, Qp, rep, h, k⟩ => ?_
  refine ⟨G, w, δ, _, rep, h, fun b δ1 H1 G1 w1 q1 s1 rep1 => ?_⟩
  cases b with
  | true => exact ⟨G1, w1, δ1, Qp, rep1, q1, fun b δ2 H2 G2 w2 q2 s2 rep2 => k b δ2 H2 G2 w2 q2 (s1.trans s2) rep2⟩
  | false => exact k false δ1 H1 G1 w1 q1 s1 rep1
theorem jw_or {a b : Expr} {rest : List Expr} {pos : Pos} {p q : PB} (ha : JB X B a p) (hb : JW X B (.BoolOp .Or (b :: rest) pos) q) : JW X B (.BoolOp .Or (a :: b :: rest) pos) (pOr p q) := by
  refine PW_wk (pw_or ha hb) fun σ H Q ⟨G, w, δ, Qp, rep, h, k⟩ => ?_
  refine ⟨G, w, δ, _, rep, h, fun b δ1 H1 G1 w1 q1 s1 rep1 => ?_⟩
  cases b with
  | false => exact ⟨G1, w1, δ1, Qp, rep1, q1, fun b δ2 H2 G2 w2 q2 s2 rep2 => k b δ2 H2 G2 w2 q2 (s1.trans s2) rep2⟩
  | true => exact k true δ1 H1 G1 w1 q1 s1 rep1
theorem jb_not {a : Expr} {pos : Pos} {p : PB} (h : JB X B a p) : JB X B (.UnaryOp .Not a pos) (pNot p) := by
  refine PT_wk (pt_not h) fun σ H Q ⟨G, w, δ, Qp, rep, h, k⟩ => ?_
  exact ⟨G, w, δ, _, rep, h, fun b δ1 H1 G1 w1 q1 s1 rep1 => k (!b) δ1 H1 G1 w1 q1 s1 rep1⟩
/-- and, or, not as values: truths -/
def pAndV (p q : PX) : PX := fun δ Q => p δ fun r δ1 => ∃ b, dat δ1 r = some (.bool b) ∧ if b = true then q δ1 Q else Q (.im (.bool false)) δ1
theorem LE.go {K : PySem.W.Frag} {q : PX} {σ : St} {G H G1 H1 : Hp} {w w1 : Addr → Option Nat} {δ δ1 : List Sl} {vs : List V} {rs : List R} {Qp : QE} {Q : VK} (s1 : Stp B.T G H w δ G1 H1 w1 δ1) (rep1 : Rep K B G1 H1 σ δ1 vs rs w1) (h : q δ1 Qp)
    (k : ∀ r δ' v H' G' w', Qp r δ' → Stp B.T G H w δ G' H' w' δ' → Rep K B G' H' σ δ' [v] [r] w' → Q v H') : LE K B q σ H1 Q :=
  ⟨G1, _, δ1, Qp, rep1.drop, h, fun r δ2 v H2 G2 w2 q2 s2 rep2 => k r δ2 v H2 G2 w2 q2 ((s1.trans .drop).trans s2) rep2⟩
theorem je_one {op} {a : Expr} {pos : Pos} {p : PX} (h : JE X B a p) : JE X B (.BoolOp op [a] pos) p := pe_one h
theorem je_and {a b : Expr} {rest : List Expr} {pos : Pos} {p q : PX} (ha : JE X B a p) (hb : JE X B (.BoolOp .And (b :: rest) pos) q) : JE X B (.BoolOp .And (a :: b :: rest) pos) (pAndV p q) := by
  refine PE_wk (pe_and ha hb) fun σ H Q ⟨G, w, δ, Qp, rep, h, k⟩ => ?_
  refine ⟨G, w, δ, _, rep, h, fun r δ1 v H1 G1 w1 q1 s1 rep1 => ?_⟩
  obtain ⟨b, hd, q1⟩ := q1
  refine ⟨b, dp_bool (rep1.dpH (j := 0) rfl rfl hd), ?_⟩
  cases b with
  | true => exact LE.go s1 rep1 q1 k
  | false => exact k _ δ1 _ H1 G1 _ q1 (s1.trans .drop) (rep1.ret (.bl false))
end
end Pv
/-! Books looked at: what is amiss, first of all. -/
namespace Wf
open PySem PySem.Spec L2
def isB : PyData → Bool
  | .bool _ => true
  | _ => false
def isI : PyData → Bool
  | .int _ => true
  | _ => false
def isT : PyData → Bool
  | .tuple _ => true
  | _ => false
theorem kb_bool {d : PyData} (n : noL d = true) : kitB (tyN d) "bool" = some (isB d) := by
  cases d with
  | none => decide +kernel
  | bool b => show kitB "bool" _ = some true; decide +kernel
  | int b => show kitB "int" _ = some false; decide +kernel
  | str b => show kitB "str" _ = some false; decide +kernel
  | tuple b => show kitB "tuple" _ = some false; decide +kernel
  | list b => exact nomatch n
  | dict b => exact nomatch n
theorem kb_int {d : PyData} (n : noL d = true) : kitB (tyN d) "int" = some (isB d || isI d) := by
  cases d with
  | none => decide +kernel
  | bool b => show kitB "bool" _ = some true; decide +kernel
  | int b => show kitB "int" _ = some true; decide +kernel
  | str b => show kitB "str" _ = some false; decide +kernel
  | tuple b => show kitB "tuple" _ = some false; decide +kernel
  | list b => exact nomatch n
  | dict b => exact nomatch n
theorem kb_tup {d : PyData} (n : noL d = true) : kitB (tyN d) "tuple" = some (isT d) := by
  cases d with
  | none => decide +kernel
  | bool b => show kitB "bool" _ = some false; decide +kernel
  | int b => show kitB "int" _ = some false; decide +kernel
  | str b => show kitB "str" _ = some false; decide +kernel
  | tuple b => show kitB "tuple" _ = some true; decide +kernel
  | list b => exact nomatch n
  | dict b => exact nomatch n
/-! ### what is asked -/
def isWh (lo hi : Int) : PyData → Bool
  | .int i => decide (lo ≤ i) && decide (i ≤ hi)
  | _ => false
def isTu (n : Int) : PyData → Bool
  | .tuple ds => decide ((ds.length : Int) = n)
  | _ => false
def isPr (s : Int) : PyData → Bool
  | .tuple [a, b] => isWh 0 (s - 1) a && isWh 0 (s - 1) b
  | _ => false
/-- the first pace that is amiss -/
def amissP : Int → Nat → List PyData → Option Nat
  | _, _, [] => none
  | lo, k, .int i :: ds => if (decide (lo ≤ i) && decide (i ≤ 1000)) = true then amissP (i + 1) (k + 1) ds else some k
  | _, k, _ :: _ => some k
def paceA : PyData → Option Nat
  | .tuple ds => if 1 ≤ ds.length ∧ ds.length ≤ 5 then amissP (-1000) 0 ds else some 0
  | _ => some 0
/-- the first pair that is amiss -/
def amissT (s : Int) : Nat → List PyData → Option Nat
  | _, [] => none
  | n, d :: ds => if isPr s d = true then amissT s (n + 1) ds else some n
def tableA (s : Int) (k : Nat) : PyData → Option (Str × Int)
  | .tuple ds => if (ds.length : Int) = s * s then (amissT s 0 ds).map fun n => (("pair" : Str), (k : Int) * (s * s) + n) else some ("table", (k : Int))
  | _ => some ("table", (k : Int))
def amissB (s : Int) : Nat → List PyData → Option (Str × Int)
  | _, [] => none
  | k, d :: ds => match tableA s k d with
    | some a => some a
    | none => amissB s (k + 1) ds
def tabsA (m s : Int) : PyData → Option (Str × Int)
  | .tuple ts => if (ts.length : Int) = nT m then amissB s 0 ts else some ("tables", 0)
  | _ => some ("tables", 0)
def lenD : PyData → Int
  | .tuple ds => ds.length
  | _ => 0
def bookA : PyData → Option (Str × Int)
  | .tuple [p, s, t] => match paceA p with
    | some k => some ("paces", (k : Int))
    | none => match s with
      | .int s' => if (decide (1 ≤ s') && decide (s' ≤ 6)) = true then tabsA (lenD p) s' t else some ("sorts", 0)
      | _ => some ("sorts", 0)
  | _ => some ("form", 0)
section
variable {K : PySem.W.Frag}
/-! ### is_whole, is_tuple_of, tables_due, is_pair -/
def sp_iswh (K : PySem.W.Frag) : Sp := fun vs H Q _ => ∃ (v : V) (d : PyData) (lo hi : Int), vs = [v, .int lo, .int hi] ∧ Dp K H v d ∧ noL d = true ∧ Q (.bl (isWh lo hi d)) H
def sp_isnum (K : PySem.W.Frag) : Sp := fun vs H Q _ => ∃ (v : V) (d : PyData), vs = [v] ∧ Dp K H v d ∧ noL d = true ∧ Q (.bl (isI d)) H
def t_is_number (K : PySem.W.Frag) : TS :=
  tRet (tAndV (tCB (rIsi K) (tCons (tVar 0) (tCons (tC (.ty "int")) (tNil)))) (tNotV (tCB (rIsi K) (tCons (tVar 0) (tCons (tC (.ty "bool")) (tNil))))))
theorem pure_isnum (vs : List V) (H : Hp) (Q : VK) (E : XK) (h : sp_isnum K vs H Q E) : t_is_number K (EndsQ Q) (sN 1 vs) H := by
  obtain ⟨v, d, rfl, hd, n, k⟩ := h
  show t_is_number K _ [some v] H
  refine cb_isi rfl n hd (kb_int n) ⟨_, rfl, ?_⟩
  cases d with
  | bool b => exact cb_isi rfl n hd (kb_bool n) ⟨_, rfl, k⟩
  | int i => exact cb_isi rfl n hd (kb_bool n) ⟨_, rfl, k⟩
  | none => exact k
  | str x => exact k
  | tuple x => exact k
  | list x => exact nomatch n
  | dict x => exact nomatch n
def t_is_whole (K : PySem.W.Frag) (sp_is_number : Sp) : TS :=
  tRet (tAndV (tCall sp_is_number [] E0 (tCons (tVar 0) (tNil))) (tChain qLe qLe (tVar 1) (tVar 0) (tVar 2)))
theorem pure_iswh (vs : List V) (H : Hp) (Q : VK) (E : XK) (h : sp_iswh K vs H Q E) : t_is_whole K (sp_isnum K) (EndsQ Q) (sN 3 vs) H := by
  obtain ⟨v, d, lo, hi, rfl, hd, n, k⟩ := h
  show t_is_whole K _ _ [some v, some (.int lo), some (.int hi)] H
  refine ⟨_, rfl, v, d, rfl, hd, n, _, rfl, ?_⟩
  cases d with
  | bool b => exact k
  | int i =>
    cases hd
    refine ⟨_, rfl, _, rfl, _, _, rfl, rfl, _, rfl, ?_⟩
    refine ifd (fun c => ?_) (fun c => ?_)
    · refine ⟨_, rfl, _, _, rfl, rfl, ?_⟩
      have e : isWh lo hi (.int i) = decide (i ≤ hi) := by simp [isWh, c]
      rw [e] at k
      exact k
    · have e : isWh lo hi (.int i) = false := by simp [isWh, c]
      rw [e] at k
      exact k
  | none => exact k
  | str x => exact k
  | tuple x => exact k
  | list x => exact nomatch n
  | dict x => exact nomatch n
def sp_istu (K : PySem.W.Frag) : Sp := fun vs H Q _ => ∃ (v : V) (d : PyData) (m : Int), vs = [v, .int m] ∧ Dp K H v d ∧ noL d = true ∧ Q (.bl (isTu m d)) H
def t_is_tuple_of (K : PySem.W.Frag) : TS :=
  tRet (tAndV (tCB (rIsi K) (tCons (tVar 0) (tCons (tC (.ty "tuple")) (tNil)))) (tOp rEq (tCB (qLen K) (tCons (tVar 0) (tNil))) (tVar 1)))
theorem pure_istu (vs : List V) (H : Hp) (Q : VK) (E : XK) (h : sp_istu K vs H Q E) : t_is_tuple_of K (EndsQ Q) (sN 2 vs) H := by
  obtain ⟨v, d, m, rfl, hd, n, k⟩ := h
  show t_is_tuple_of K _ [some v, some (.int m)] H
  refine cb_isi rfl n hd (kb_tup n) ⟨_, rfl, ?_⟩
  cases d with
  | tuple ds =>
    obtain ⟨a, xs, rfl, hs, ha⟩ := dp_tup hd
    have ll := DpAll.len ha
    refine ⟨_, rfl, _, xs.length, rfl, .inr ⟨_, hs, rfl⟩, _, rfl, rfl, ?_⟩
    have e : isTu m (.tuple ds) = decide (V.int (xs.length : Int) = V.int m) := by
      show decide ((ds.length : Int) = m) = _
      rw [ll]
      by_cases c : (ds.length : Int) = m
      · rw [decide_eq_true c, decide_eq_true (by rw [c])]
      · rw [decide_eq_false c, decide_eq_false (fun z => c (by injection z))]
    rw [e] at k
    exact k
  | bool b => exact k
  | int b => exact k
  | none => exact k
  | str b => exact k
  | list x => exact nomatch n
  | dict x => exact nomatch n
def sp_tdue : Sp := fun vs H Q _ => ∃ m : Int, vs = [.int m] ∧ 0 ≤ m ∧ m ≤ 1000 ∧ Q (.int (nT m)) H
def t_tables_due (K : PySem.W.Frag) : TS :=
  tRet (tOp qFdiv (tOp qMul (tVar 0) (tOp qSub (tVar 0) (tC (.int 1)))) (tC (.int 2)))
theorem pure_tdue (vs : List V) (H : Hp) (Q : VK) (E : XK) (h : sp_tdue vs H Q E) : t_tables_due K (EndsQ Q) (sN 1 vs) H := by
  obtain ⟨m, rfl, m0, m1, k⟩ := h
  show t_tables_due K _ [some (.int m)] H
  exact ⟨_, rfl, _, rfl, _, _, rfl, rfl, _, _, rfl, rfl, .inl ⟨by omega, by omega⟩, _, _, rfl, rfl, ⟨by decide, by decide⟩, k⟩
def sp_ispr (K : PySem.W.Frag) : Sp := fun vs H Q _ => ∃ (v : V) (d : PyData) (s : Int), vs = [v, .int s] ∧ Dp K H v d ∧ noL d = true ∧ Q (.bl (isPr s d)) H
def t_is_pair (K : PySem.W.Frag) (sp_is_tuple_of : Sp) (sp_is_whole : Sp) : TS :=
  tSeq (tIfS (tNot (tB (tCall sp_is_tuple_of [] E0 (tCons (tVar 0) (tCons (tC (.int 2)) (tNil)))))) (tRet (tC (.bl false))) (tNext))
    (tSeq (tAsg (tVar 0) (gTup K 2 (gCons (gName 2) (gCons (gName 3) (gNil)))))
    (tRet (tAndV (tCall sp_is_whole [] E0 (tCons (tVar 2) (tCons (tC (.int 0)) (tCons (tOp qSub (tVar 1) (tC (.int 1))) (tNil))))) (tCall sp_is_whole [] E0 (tCons (tVar 3) (tCons (tC (.int 0)) (tCons (tOp qSub (tVar 1) (tC (.int 1))) (tNil))))))))
theorem pr_of_tu {d : PyData} {s : Int} (h : isTu 2 d = false) : isPr s d = false := by
  match d with
  | .tuple [] => rfl
  | .tuple [_] => rfl
  | .tuple [_, _] => exact absurd h (by simp [isTu])
  | .tuple (_ :: _ :: _ :: _) => rfl
  | .none => rfl
  | .bool _ => rfl
  | .int _ => rfl
  | .str _ => rfl
  | .list _ => rfl
  | .dict _ => rfl
theorem two_of_tu {d : PyData} (h : isTu 2 d = true) : ∃ a b, d = .tuple [a, b] := by
  match d with
  | .tuple [] => exact absurd h (by simp [isTu])
  | .tuple [_] => exact absurd h (by simp [isTu])
  | .tuple [a, b] => exact ⟨a, b, rfl⟩
  | .tuple (_ :: _ :: _ :: _) =>
    simp [isTu] at h
    omega
  | .none => exact nomatch h
  | .bool _ => exact nomatch h
  | .int _ => exact nomatch h
  | .str _ => exact nomatch h
  | .list _ => exact nomatch h
  | .dict _ => exact nomatch h
theorem pure_ispr (vs : List V) (H : Hp) (Q : VK) (E : XK) (h : sp_ispr K vs H Q E) : t_is_pair K (sp_istu K) (sp_iswh K) (EndsQ Q) (sN 4 vs) H := by
  obtain ⟨v, d, s, rfl, hd, n, k⟩ := h
  show t_is_pair K _ _ _ [some v, some (.int s), none, none] H
  refine ⟨_, rfl, v, d, 2, rfl, hd, n, _, rfl, ?_⟩
  cases e : isTu 2 d with
  | false =>
    rw [pr_of_tu e] at k
    exact k
  | true =>
    obtain ⟨a, b, rfl⟩ := two_of_tu e
    obtain ⟨t, xs, rfl, hs, ha⟩ := dp_tup hd
    have n' : (noL a && (noL b && true)) = true := n
    simp only [Bool.and_eq_true, and_true] at n'
    cases ha with
    | cons h1 ha =>
      cases ha with
      | cons h2 ha =>
        cases ha
        rename_i x y
        refine ⟨_, rfl, t, [x, y], rfl, hs, rfl, _, _, rfl, _, _, rfl, rfl, ?_⟩
        refine ⟨_, rfl, _, rfl, _, _, rfl, rfl, x, a, 0, s - 1, rfl, h1, n'.1, _, rfl, ?_⟩
        cases e1 : isWh 0 (s - 1) a with
        | false =>
          have e2 : isPr s (.tuple [a, b]) = false := by simp [isPr, e1]
          rw [e2] at k
          exact k
        | true =>
          have e2 : isPr s (.tuple [a, b]) = isWh 0 (s - 1) b := by simp [isPr, e1]
          rw [e2] at k
          exact ⟨_, rfl, _, rfl, _, _, rfl, rfl, y, b, 0, s - 1, rfl, h2, n'.2, k⟩
end
end Wf
/-! look_table, look_paces, look_book. -/
namespace Wf
open PySem PySem.Spec L2
theorem drop_at {α : Type} {l : List α} {i : Nat} {x : α} (h : l[i]? = some x) : l.drop i = x :: l.drop (i + 1) := by
  obtain ⟨h1, h2⟩ := List.getElem?_eq_some_iff.mp h
  rw [List.drop_eq_getElem_cons h1, h2]
theorem ifn {p A B : Prop} [Decidable p] (h1 : p → B) (h2 : ¬ p → A) : if (!decide p) = true then A else B := by
  by_cases c : p
  · rw [decide_eq_true c]
    exact h1 c
  · rw [decide_eq_false c]
    exact h2 c
theorem drop_end {α : Type} {l : List α} {n : Nat} (h : l.length ≤ n) : l.drop n = [] := List.drop_eq_nil_of_le h
/-- an error of the class at C with these fields leaves -/
def RzE (C : Addr) (H : Hp) (E : XK) (w : Str) (n : Int) : Prop := ∀ (dd : Addr) (H' : Hp), Same H H' → H dd = none → H' dd = some (.xd [("at", .int n), ("word", .str w)]) → E (.ref C) (some dd) H'
theorem RzE.go {C : Addr} {H H1 : Hp} {E : XK} {w : Str} {n : Int} (r : RzE C H E w n) (s : Same H H1) : ∀ dd, H1 dd = none → E (.ref C) (some dd) (upd H1 dd (.xd [("at", .int n), ("word", .str w)])) := fun dd hd =>
  r dd _ (s.trans (same_new hd)) (s.free hd) upd_same
theorem RzE.same {C : Addr} {H H1 : Hp} {E : XK} {w : Str} {n : Int} (r : RzE C H E w n) (s : Same H H1) : RzE C H1 E w n := fun dd H' s' hd he => r dd H' (s.trans s') (s.free hd) he
section
variable {K : PySem.W.Frag} {C : Addr}
def sp_ltab (K : PySem.W.Frag) (C : Addr) : Sp := fun vs H Q E => ∃ (v : V) (d : PyData) (k : Nat) (s : Int), vs = [v, .int (k : Int), .int s] ∧ Dp K H v d ∧ noL d = true ∧ k ≤ 1000 ∧ 1 ≤ s ∧ s ≤ 6 ∧
  (tableA s k d = none → ∀ H', Same H H' → Q .non H') ∧ ∀ w n, tableA s k d = some (w, n) → RzE C H E w n
def t_look_table (K : PySem.W.Frag) (cNoBook : Addr) (E : XK) (sp_is_tuple_of : Sp) (sp_is_pair : Sp) : TS :=
  tSeq (tAsg (tOp qMul (tVar 2) (tVar 2)) (gName 3))
    (tSeq (tIfS (tNot (tB (tCall sp_is_tuple_of [] E0 (tCons (tVar 0) (tCons (tVar 3) (tNil)))))) (tRz2 cNoBook "word" "at" (fun cls d _ H => E cls d H) (tCons (tC (.str "table")) (tCons (tVar 1) (tNil)))) (tNext))
    (tFor (iEnumT K (tCons (tVar 0) (tNil))) (gTup K 2 (gCons (gName 4) (gCons (gName 5) (gNil)))) (tIfS (tNot (tB (tCall sp_is_pair [] E0 (tCons (tVar 5) (tCons (tVar 2) (tNil)))))) (tRz2 cNoBook "word" "at" (fun cls d _ H => E cls d H) (tCons (tC (.str "pair")) (tCons (tOp qAdd (tOp qMul (tVar 1) (tVar 3)) (tVar 4)) (tNil)))) (tNext))))
theorem pure_ltab (vs : List V) (H : Hp) (Q : VK) (E : XK) (h : sp_ltab K C vs H Q E) : t_look_table K C E (sp_istu K) (sp_ispr K) (EndsQ Q) (sN 6 vs) H := by
  obtain ⟨v, d, k, s, rfl, hd, n, k3, s1, s6, kN, kS⟩ := h
  show t_look_table K C E _ _ _ [some v, some (.int (k : Int)), some (.int s), none, none, none] H
  have hss := ss_le s1 s6
  refine ⟨_, rfl, _, rfl, _, _, rfl, rfl, .inl ⟨by omega, by omega⟩, ?_⟩
  refine ⟨_, rfl, _, rfl, v, d, _, rfl, hd, n, _, rfl, ?_⟩
  cases e : isTu (s * s) d with
  | false =>
    have ea : tableA s k d = some (("table" : Str), (k : Int)) := by
      cases d with
      | tuple ds => exact if_neg (of_decide_eq_false (show decide ((ds.length : Int) = s * s) = false from e))
      | _ => rfl
    exact ⟨_, rfl, _, _, rfl, (kS _ _ ea).go (Same.refl H)⟩
  | true =>
    cases d with
    | tuple ds =>
      have el : (ds.length : Int) = s * s := of_decide_eq_true (show decide ((ds.length : Int) = s * s) = true from e)
      have ea : tableA s k (.tuple ds) = (amissT s 0 ds).map fun n => (("pair" : Str), (k : Int) * (s * s) + n) := if_pos el
      obtain ⟨a, xs, rfl, hs, ha⟩ := dp_tup hd
      have lx := DpAll.len ha
      refine ⟨_, rfl, a, xs, rfl, hs, for_enumT (K := K) (a := a) (xs := xs) (fun j σ H1 => ∃ (c4 c5 : Option V), σ = [some (.ref a), some (.int (k : Int)), some (.int s), some (.int (s * s)), c4, c5] ∧ Same H H1 ∧ amissT s j (ds.drop j) = amissT s 0 ds) ?_ ?_ ?_ ?_⟩
      · exact ⟨none, none, rfl, Same.refl H, rfl⟩
      · rintro j σ H1 ⟨_, _, _, sH, _⟩
        exact Same.tp sH _ _ hs
      · rintro j x T σ H1 hx ⟨c4, c5, rfl, sH, ai⟩ hT
        obtain ⟨d', hd', hx'⟩ := DpAll.getV ha hx
        have n' : noL d' = true := noLAll_get n hd'
        have sT := same_new (o := .tup [.int (j : Int), x]) hT
        have sH2 := sH.trans sT
        refine ⟨T, _, rfl, SqT.of upd_same, rfl, _, _, rfl, _, _, rfl, rfl, ?_⟩
        generalize upd H1 T (.tup [.int (j : Int), x]) = H2 at sT sH2
        refine ⟨_, rfl, _, rfl, x, d', s, rfl, Dp.tp (Same.tp sH2) _ _ n' hx', n', _, rfl, ?_⟩
        rw [drop_at hd'] at ai
        have hj : j < ds.length := (List.getElem?_eq_some_iff.mp hd').1
        cases e1 : isPr s d' with
        | false =>
          have e2 : amissT s 0 ds = some j := by
            rw [← ai]
            show (if isPr s d' = true then _ else some j) = some j
            rw [e1]
            rfl
          have e3 := kS ("pair" : Str) ((k : Int) * (s * s) + j) (by rw [ea, e2]; rfl)
          exact ⟨_, rfl, _, rfl, _, _, rfl, rfl, .inl ⟨by omega, by omega⟩, _, rfl, _, _, rfl, rfl, _, _, rfl, e3.go sH2⟩
        | true =>
          refine ⟨_, _, rfl, sH2, ?_⟩
          rw [← ai]
          show _ = (if isPr s d' = true then _ else some j)
          rw [e1]
          rfl
      · rintro σ H1 ⟨_, _, _, sH, ai⟩
        refine kN ?_ H1 sH
        rw [drop_end (by omega)] at ai
        rw [ea, ← ai]
        rfl
    | none => exact nomatch e
    | bool b => exact nomatch e
    | int b => exact nomatch e
    | str b => exact nomatch e
    | list b => exact nomatch e
    | dict b => exact nomatch e
def sp_lpac (K : PySem.W.Frag) (C : Addr) : Sp := fun vs H Q E => ∃ (v : V) (d : PyData), vs = [v] ∧ Dp K H v d ∧ noL d = true ∧
  (paceA d = none → ∀ H', Same H H' → Q .non H') ∧ ∀ k, paceA d = some k → RzE C H E "paces" (k : Int)
def t_look_paces (K : PySem.W.Frag) (cNoBook : Addr) (E : XK) (sp_is_whole : Sp) : TS :=
  tSeq (tIfS (tOr (tNot (tB (tCB (rIsi K) (tCons (tVar 0) (tCons (tC (.ty "tuple")) (tNil)))))) (tNot (tTest (tChain qLe qLe (tC (.int 1)) (tCB (qLen K) (tCons (tVar 0) (tNil))) (tC (.int 5)))))) (tRz2 cNoBook "word" "at" (fun cls d _ H => E cls d H) (tCons (tC (.str "paces")) (tCons (tC (.int 0)) (tNil)))) (tNext))
    (tSeq (tAsg (tUn qNeg (tC (.int 1000))) (gName 1))
    (tFor (iEnumT K (tCons (tVar 0) (tNil))) (gTup K 2 (gCons (gName 2) (gCons (gName 3) (gNil)))) (tSeq (tIfS (tNot (tB (tCall sp_is_whole [] E0 (tCons (tVar 3) (tCons (tVar 1) (tCons (tC (.int 1000)) (tNil))))))) (tRz2 cNoBook "word" "at" (fun cls d _ H => E cls d H) (tCons (tC (.str "paces")) (tCons (tVar 2) (tNil)))) (tNext))
    (tAsg (tOp qAdd (tVar 3) (tC (.int 1))) (gName 1)))))
theorem amissP_no {lo : Int} {k : Nat} {d : PyData} {ds : List PyData} (h : isWh lo 1000 d = false) : amissP lo k (d :: ds) = some k := by
  cases d with
  | int i =>
    show (if (decide (lo ≤ i) && decide (i ≤ 1000)) = true then _ else some k) = _
    rw [show (decide (lo ≤ i) && decide (i ≤ 1000)) = false from h]
    rfl
  | _ => rfl
theorem wh_int {lo hi : Int} {d : PyData} (h : isWh lo hi d = true) : ∃ i, d = .int i ∧ lo ≤ i ∧ i ≤ hi := by
  cases d with
  | int i =>
    have h' : (decide (lo ≤ i) && decide (i ≤ hi)) = true := h
    simp at h'
    exact ⟨i, rfl, h'.1, h'.2⟩
  | _ => exact nomatch h
theorem amissP_yes {lo : Int} {k : Nat} {i : Int} {ds : List PyData} (h : isWh lo 1000 (.int i) = true) : amissP lo k (.int i :: ds) = amissP (i + 1) (k + 1) ds := if_pos h
theorem pure_lpac (vs : List V) (H : Hp) (Q : VK) (E : XK) (h : sp_lpac K C vs H Q E) : t_look_paces K C E (sp_iswh K) (EndsQ Q) (sN 4 vs) H := by
  obtain ⟨v, d, rfl, hd, n, kN, kS⟩ := h
  show t_look_paces K C E _ _ [some v, none, none, none] H
  refine cb_isi rfl n hd (kb_tup n) ⟨_, rfl, ?_⟩
  cases d with
  | tuple ds =>
    obtain ⟨a, xs, rfl, hs, ha⟩ := dp_tup hd
    have lx := DpAll.len ha
    refine ⟨_, rfl, _, xs.length, rfl, .inr ⟨_, hs, rfl⟩, _, _, rfl, rfl, _, rfl, ?_⟩
    have bad : ¬ (1 ≤ ds.length ∧ ds.length ≤ 5) → tRz2 C "word" "at" (fun cls d _ H => E cls d H) (tCons (tC (.str "paces")) (tCons (tC (.int 0)) (tNil))) (EndsQ Q) [some (.ref a), none, none, none] H := fun c =>
      ⟨_, _, rfl, (kS 0 (if_neg c)).go (Same.refl H)⟩
    refine ifd (fun c1 => ⟨_, _, rfl, rfl, _, rfl, ?_⟩) (fun c1 => ⟨_, rfl, bad (by omega)⟩)
    refine ifn (fun c2 => ?_) (fun c2 => bad (by omega))
    have ea : paceA (.tuple ds) = amissP (-1000) 0 ds := if_pos ⟨by omega, by omega⟩
    refine ⟨_, rfl, ?_⟩
    refine ⟨_, rfl, a, xs, rfl, hs, for_enumT (K := K) (a := a) (xs := xs) (fun j σ H1 => ∃ (lo : Int) (c2 c3 : Option V), σ = [some (.ref a), some (.int lo), c2, c3] ∧ Same H H1 ∧ amissP lo j (ds.drop j) = amissP (-1000) 0 ds) ?_ ?_ ?_ ?_⟩
    · exact ⟨_, none, none, rfl, Same.refl H, rfl⟩
    · rintro j σ H1 ⟨_, _, _, _, sH, _⟩
      exact Same.tp sH _ _ hs
    · rintro j x T σ H1 hx ⟨lo, c2, c3, rfl, sH, ai⟩ hT
      obtain ⟨d', hd', hx'⟩ := DpAll.getV ha hx
      have n' : noL d' = true := noLAll_get n hd'
      have sT := same_new (o := .tup [.int (j : Int), x]) hT
      have sH2 := sH.trans sT
      refine ⟨T, _, rfl, SqT.of upd_same, rfl, _, _, rfl, _, _, rfl, rfl, ?_⟩
      generalize upd H1 T (.tup [.int (j : Int), x]) = H2 at sT sH2
      have hx2 := Dp.tp (Same.tp sH2) _ _ n' hx'
      refine ⟨_, rfl, _, rfl, x, d', lo, 1000, rfl, hx2, n', _, rfl, ?_⟩
      rw [drop_at hd'] at ai
      cases e1 : isWh lo 1000 d' with
      | false =>
        have e2 : paceA (.tuple ds) = some j := by rw [ea, ← ai, amissP_no e1]
        exact ⟨_, rfl, _, _, rfl, (kS j e2).go sH2⟩
      | true =>
        obtain ⟨i, rfl, _, _⟩ := wh_int e1
        cases hx2
        refine ⟨_, rfl, _, _, rfl, rfl, _, _, _, rfl, sH2, ?_⟩
        rw [← ai, amissP_yes e1]
    · rintro σ H1 ⟨_, _, _, _, sH, ai⟩
      refine kN ?_ H1 sH
      rw [drop_end (by omega)] at ai
      rw [ea, ← ai]
      rfl
  | bool b => exact ⟨_, _, rfl, (kS 0 rfl).go (Same.refl H)⟩
  | int b => exact ⟨_, _, rfl, (kS 0 rfl).go (Same.refl H)⟩
  | none => exact ⟨_, _, rfl, (kS 0 rfl).go (Same.refl H)⟩
  | str b => exact ⟨_, _, rfl, (kS 0 rfl).go (Same.refl H)⟩
  | list x => exact nomatch n
  | dict x => exact nomatch n
def sp_look (K : PySem.W.Frag) (C : Addr) : Sp := fun vs H Q E => ∃ (v : V) (d : PyData), vs = [v] ∧ Dp K H v d ∧ noL d = true ∧
  (bookA d = none → ∀ H', Same H H' → Q (.bl true) H') ∧ ∀ w n, bookA d = some (w, n) → RzE C H E w n
def t_look_book (K : PySem.W.Frag) (cNoBook : Addr) (E : XK) (sp_is_tuple_of : Sp) (sp_look_paces : Sp) (sp_is_whole : Sp) (sp_tables_due : Sp) (sp_look_table : Sp) : TS :=
  tSeq (tIfS (tNot (tB (tCall sp_is_tuple_of [] E0 (tCons (tVar 0) (tCons (tC (.int 3)) (tNil)))))) (tRz2 cNoBook "word" "at" (fun cls d _ H => E cls d H) (tCons (tC (.str "form")) (tCons (tC (.int 0)) (tNil)))) (tNext))
    (tSeq (tAsg (tVar 0) (gTup K 3 (gCons (gName 1) (gCons (gName 2) (gCons (gName 3) (gNil))))))
    (tSeq (tDrop (tCall sp_look_paces [] E (tCons (tVar 1) (tNil))))
    (tSeq (tIfS (tNot (tB (tCall sp_is_whole [] E0 (tCons (tVar 2) (tCons (tC (.int 1)) (tCons (tC (.int 6)) (tNil))))))) (tRz2 cNoBook "word" "at" (fun cls d _ H => E cls d H) (tCons (tC (.str "sorts")) (tCons (tC (.int 0)) (tNil)))) (tNext))
    (tSeq (tIfS (tNot (tB (tCall sp_is_tuple_of [] E0 (tCons (tVar 3) (tCons (tCall sp_tables_due [] E0 (tCons (tCB (qLen K) (tCons (tVar 1) (tNil))) (tNil))) (tNil)))))) (tRz2 cNoBook "word" "at" (fun cls d _ H => E cls d H) (tCons (tC (.str "tables")) (tCons (tC (.int 0)) (tNil)))) (tNext))
    (tSeq (tFor (iEnumT K (tCons (tVar 3) (tNil))) (gTup K 2 (gCons (gName 4) (gCons (gName 5) (gNil)))) (tDrop (tCall sp_look_table [] E (tCons (tVar 5) (tCons (tVar 4) (tCons (tVar 2) (tNil)))))))
    (tRet (tC (.bl true))))))))
theorem form_of {d : PyData} (h : isTu 3 d = false) : bookA d = some (("form" : Str), 0) := by
  match d with
  | .tuple [] => rfl
  | .tuple [_] => rfl
  | .tuple [_, _] => rfl
  | .tuple [_, _, _] => exact absurd h (by simp [isTu])
  | .tuple (_ :: _ :: _ :: _ :: _) => rfl
  | .none => rfl
  | .bool _ => rfl
  | .int _ => rfl
  | .str _ => rfl
  | .list _ => rfl
  | .dict _ => rfl
theorem three_of {d : PyData} (h : isTu 3 d = true) : ∃ a b c, d = .tuple [a, b, c] := by
  match d with
  | .tuple [] => exact absurd h (by simp [isTu])
  | .tuple [_] => exact absurd h (by simp [isTu])
  | .tuple [_, _] => exact absurd h (by simp [isTu])
  | .tuple [a, b, c] => exact ⟨a, b, c, rfl⟩
  | .tuple (_ :: _ :: _ :: _ :: _) =>
    simp [isTu] at h
    omega
  | .none => exact nomatch h
  | .bool _ => exact nomatch h
  | .int _ => exact nomatch h
  | .str _ => exact nomatch h
  | .list _ => exact nomatch h
  | .dict _ => exact nomatch h
theorem paceA_tup {p : PyData} (h : paceA p = none) : ∃ ds, p = .tuple ds ∧ 1 ≤ ds.length ∧ ds.length ≤ 5 := by
  cases p with
  | tuple ds =>
    by_cases c : 1 ≤ ds.length ∧ ds.length ≤ 5
    · exact ⟨ds, rfl, c⟩
    · exact absurd h (by rw [show paceA (.tuple ds) = some 0 from if_neg c]; exact fun z => nomatch z)
  | _ => exact nomatch h
theorem tabs_no {m s : Int} {t : PyData} (h : isTu (nT m) t = false) : tabsA m s t = some (("tables" : Str), 0) := by
  cases t with
  | tuple ts => exact if_neg (of_decide_eq_false (show decide ((ts.length : Int) = nT m) = false from h))
  | _ => rfl
theorem tabs_yes {m s : Int} {t : PyData} (h : isTu (nT m) t = true) : ∃ ts, t = .tuple ts ∧ (ts.length : Int) = nT m ∧ tabsA m s t = amissB s 0 ts := by
  cases t with
  | tuple ts =>
    have e := of_decide_eq_true (show decide ((ts.length : Int) = nT m) = true from h)
    exact ⟨ts, rfl, e, if_pos e⟩
  | _ => exact nomatch h
theorem pure_look (vs : List V) (H : Hp) (Q : VK) (E : XK) (h : sp_look K C vs H Q E) : t_look_book K C E (sp_istu K) (sp_lpac K C) (sp_iswh K) sp_tdue (sp_ltab K C) (EndsQ Q) (sN 6 vs) H := by
  obtain ⟨v, d, rfl, hd, n, kN, kS⟩ := h
  show t_look_book K C E _ _ _ _ _ _ [some v, none, none, none, none, none] H
  refine ⟨_, rfl, v, d, 3, rfl, hd, n, _, rfl, ?_⟩
  cases e0 : isTu 3 d with
  | false => exact ⟨_, _, rfl, (kS _ _ (form_of e0)).go (Same.refl H)⟩
  | true =>
    obtain ⟨p, s, t, rfl⟩ := three_of e0
    obtain ⟨b, xs, rfl, hs, ha⟩ := dp_tup hd
    have n' : (noL p && (noL s && (noL t && true))) = true := n
    simp only [Bool.and_eq_true, and_true] at n'
    cases ha with
    | cons h1 ha =>
      cases ha with
      | cons h2 ha =>
        cases ha with
        | cons h3 ha =>
          cases ha
          rename_i vp vs vt
          refine ⟨_, rfl, b, [vp, vs, vt], rfl, hs, rfl, _, _, rfl, _, _, rfl, _, _, rfl, rfl, ?_⟩
          refine ⟨_, rfl, vp, p, rfl, h1, n'.1, fun ep H1 s1 => ?_, fun k ek => ?_⟩
          · have h1' := Dp.tp (Same.tp s1) _ _ n'.1 h1
            have h2' := Dp.tp (Same.tp s1) _ _ n'.2.1 h2
            have h3' := Dp.tp (Same.tp s1) _ _ n'.2.2 h3
            refine ⟨_, rfl, vs, s, 1, 6, rfl, h2', n'.2.1, _, rfl, ?_⟩
            cases e1 : isWh 1 6 s with
            | false =>
              have eb : bookA (.tuple [p, s, t]) = some (("sorts" : Str), 0) := by
                show (match paceA p with | some k => _ | none => _) = _
                rw [ep]
                cases s with
                | int i =>
                  show (if (decide (1 ≤ i) && decide (i ≤ 6)) = true then _ else _) = _
                  rw [show (decide (1 ≤ i) && decide (i ≤ 6)) = false from e1]
                  rfl
                | _ => rfl
              exact ⟨_, _, rfl, (kS _ _ eb).go s1⟩
            | true =>
              obtain ⟨i, rfl, i1, i6⟩ := wh_int e1
              obtain ⟨ds, rfl, d1, d5⟩ := paceA_tup ep
              cases h2
              have eb : bookA (.tuple [.tuple ds, .int i, t]) = tabsA (ds.length : Int) i t := by
                show (match paceA (.tuple ds) with | some k => _ | none => _) = _
                rw [ep]
                exact if_pos e1
              obtain ⟨pa, ps, rfl, hps, hpa⟩ := dp_tup h1'
              have lp := DpAll.len hpa
              have hnT := nT_le (m := (ds.length : Int)) (by omega) (by omega)
              refine ⟨_, rfl, _, rfl, _, ps.length, rfl, .inr ⟨_, hps, rfl⟩, _, rfl, by omega, by omega, ?_⟩
              refine ⟨vt, t, _, rfl, h3', n'.2.2, _, rfl, ?_⟩
              rw [lp]
              cases e2 : isTu (nT (ds.length : Int)) t with
              | false => exact ⟨_, _, rfl, (kS _ _ (by rw [eb, tabs_no e2])).go s1⟩
              | true =>
                obtain ⟨ts, rfl, lt, et⟩ := tabs_yes (s := i) e2
                obtain ⟨ta, tvs, rfl, hts, hta⟩ := dp_tup h3'
                have ltv := DpAll.len hta
                have nts : noLAll ts = true := n'.2.2
                refine ⟨_, rfl, ta, tvs, rfl, hts, for_enumT (K := K) (a := ta) (xs := tvs) (fun j σ H2 => ∃ (c4 c5 : Option V), σ = [some (.ref b), some (.ref pa), some (.int i), some (.ref ta), c4, c5] ∧ Same H1 H2 ∧ amissB i j (ts.drop j) = amissB i 0 ts) ?_ ?_ ?_ ?_⟩
                · exact ⟨none, none, rfl, Same.refl H1, rfl⟩
                · rintro j σ H2 ⟨_, _, _, sH, _⟩
                  exact Same.tp sH _ _ hts
                · rintro j x T σ H2 hx ⟨c4, c5, rfl, sH, ai⟩ hT
                  obtain ⟨d', hd', hx'⟩ := DpAll.getV hta hx
                  have nd : noL d' = true := noLAll_get nts hd'
                  have sT := same_new (o := .tup [.int (j : Int), x]) hT
                  have sH2 := sH.trans sT
                  refine ⟨T, _, rfl, SqT.of upd_same, rfl, _, _, rfl, _, _, rfl, rfl, ?_⟩
                  generalize upd H2 T (.tup [.int (j : Int), x]) = H3 at sT sH2
                  rw [drop_at hd'] at ai
                  have hj : j < ts.length := (List.getElem?_eq_some_iff.mp hd').1
                  refine ⟨_, rfl, _, rfl, _, rfl, x, d', j, i, rfl, Dp.tp (Same.tp sH2) _ _ nd hx', nd, by omega, i1, i6, fun en H4 s4 => ?_, fun w m em => ?_⟩
                  · refine ⟨_, _, rfl, sH2.trans s4, ?_⟩
                    rw [← ai]
                    show _ = (match tableA i j d' with | some a => some a | none => amissB i (j + 1) (ts.drop (j + 1)))
                    rw [en]
                  · have e3 : amissB i 0 ts = some (w, m) := by
                      rw [← ai]
                      show (match tableA i j d' with | some a => some a | none => amissB i (j + 1) (ts.drop (j + 1))) = _
                      rw [em]
                    exact (kS w m (by rw [eb, et, e3])).same (s1.trans sH2)
                · rintro σ H2 ⟨_, _, rfl, sH, ai⟩
                  refine kN ?_ H2 (s1.trans sH)
                  rw [drop_end (by omega)] at ai
                  rw [eb, et, ← ai]
                  rfl
          · refine kS _ _ ?_
            show (match paceA p with | some k => _ | none => _) = _
            rw [ek]
end
end Wf
/-! A def within a def that is handed on: its captured cells stand still while another def calls it. -/
namespace Wf
open PySem PySem.Spec PyProof.Rows L2 LamX NdefX
theorem frames_of {h base base' : Heap} : ∀ {l : List Env}, h.FunFrames base l → (∀ b ∈ frs l, base'.get? b = none) → h.FunFrames base' l
  | [], f, _ => trivial
  | e :: l, f, n => by
    obtain ⟨hk, ⟨L, o, hf, hn, ho, hd⟩, hr⟩ := f
    have hm : ∀ b, b ∈ L :: frs l → b ∈ frs (e :: l) := fun b hb => by
      unfold frs
      rw [List.filterMap_cons, hf]
      exact hb
    exact ⟨hk, ⟨L, o, hf, n L (hm L List.mem_cons_self), ho, hd⟩, frames_of hr fun b hb => n b (hm b (List.mem_cons_of_mem _ hb))⟩
/-- the base that holds these cells too -/
theorem widen {X : Cx} {pins : List (Addr × Obj)} {σ : L2.St} {H : Hp} {s : Shared} {cl : List (Str × Addr)} (I : L2.Inv X pins σ H s) (hst : X.stack = X.env :: X.outer) (hfr : X.env.frame = some X.env.locals)
    (hc : ∀ y c, cl.lookup y = some c → X.env.cells.lookup y = some c ∧ X.fn y = true) :
    ∃ base' : Heap, Env0 X.prog X.w X.K X.mg base' X.A X.stack s H ∧ ∀ y c o, cl.lookup y = some c → s.heap.get? c = some o → base'.get? c = some o := by
  classical
  have e0 := I.env0
  let isC : Addr → Prop := fun b => ∃ y, cl.lookup y = some b
  let Hh : Hp := fun b => if (X.base.get? b).isSome = true ∨ isC b then none else some (.tbl #[])
  have hin : ∀ b o, X.base.get? b = some o → (hidT s.heap Hh).get? b = some o := fun b o e => by
    refine hidT_get (e0.bs b o e).1 ?_
    show (if _ then _ else _) = none
    rw [if_pos (.inl (by rw [e]; rfl))]
  have hcin : ∀ y c o, cl.lookup y = some c → s.heap.get? c = some o → (hidT s.heap Hh).get? c = some o := fun y c o e eo => by
    refine hidT_get eo ?_
    show (if _ then _ else _) = none
    rw [if_pos (.inr ⟨y, e⟩)]
  have hof : ∀ b o, (hidT s.heap Hh).get? b = some o → s.heap.get? b = some o ∧ ((X.base.get? b).isSome = true ∨ isC b) := fun b o e => by
    obtain ⟨h1, h2⟩ := of_hidT e
    refine ⟨h1, ?_⟩
    by_cases q : (X.base.get? b).isSome = true ∨ isC b
    · exact q
    · have h2' : (if (X.base.get? b).isSome = true ∨ isC b then none else some (HO.tbl #[])) = none := h2
      rw [if_neg q] at h2'
      cases h2'
  refine ⟨hidT s.heap Hh, ⟨e0.frames, ⟨fun b o e => hin b o (e0.mod.kin b o e), e0.mod.glob.keeps hin, ?_, e0.mod.nolimit.keeps hin⟩, fun b o e => ?_, Nat.le_of_eq (hidT_size _ _), ?_, e0.frf, e0.hok, e0.bare⟩, hcin⟩
  · obtain ⟨mb, h1, h2⟩ := e0.mod.blt
    exact ⟨mb, h1.keeps hin, h2⟩
  · obtain ⟨h1, h2⟩ := hof b o e
    refine ⟨h1, ?_⟩
    rcases h2 with h2 | ⟨y, hy⟩
    · obtain ⟨o', ho'⟩ := Option.isSome_iff_exists.mp h2
      exact (e0.bs b o' ho').2
    · exact I.freeC y b (hc y b hy).1
  · refine frames_of e0.funs fun b hb => ?_
    cases e : (hidT s.heap Hh).get? b with
    | none => rfl
    | some o =>
      obtain ⟨h1, h2⟩ := hof b o e
      rcases h2 with h2 | ⟨y, hy⟩
      · have := (e0.funs.mem hb).1
        rw [this] at h2
        cases h2
      · have hyc := hc y b hy
        have ge := I.ok.cab y b hyc.2 hyc.1
        rw [hst] at hb
        have hb' : b = X.env.locals ∨ b ∈ frs X.outer := by
          unfold frs at hb
          rw [List.filterMap_cons, hfr] at hb
          exact List.mem_cons.mp hb
        rcases hb' with hb' | hb'
        · exact absurd hb' (I.cne y b hyc.1)
        · obtain ⟨_, o2, ho2, _⟩ := I.ok.funs.mem hb'
          exact absurd (Heap.lt_size ho2) (Nat.not_lt.mpr ge)
/-- what the cells hold, told by the base alone -/
def CellsB (base : Heap) (cl : List (Str × Addr)) (fr : List Str) (ws : List (Option V)) : Prop := ∀ (h : Heap) (H : Hp), (∀ b o, base.get? b = some o → h.get? b = some o ∧ H b = none) → CellsAt cl fr ws h H
theorem cellsB_of {base : Heap} {cl : List (Str × Addr)} {fr : List Str} {ws : List (Option V)} {h : Heap} {H : Hp} (C : CellsAt cl fr ws h H) (hb : ∀ y c o, cl.lookup y = some c → h.get? c = some o → base.get? c = some o) : CellsB base cl fr ws := fun h' H' k => by
  refine ⟨C.len, fun y c e => ?_, C.inj, fun i y e => ?_⟩
  · obtain ⟨_, v, o, ho, hd⟩ := C.all y c e
    obtain ⟨k1, k2⟩ := k c o (hb y c o e ho)
    exact ⟨k2, v, o, k1, hd⟩
  · obtain ⟨c, hc, hv⟩ := C.has i y e
    refine ⟨c, hc, fun v ev => ?_⟩
    obtain ⟨u, ru, o, ho, hd⟩ := hv v ev
    exact ⟨u, ru, o, (k c o (hb y c o hc ho)).1, hd⟩
/-! ### a call of what a slot holds -/
/-! ### tuple.index of numbers -/
/-! ### heaps: all but tables of code -/
theorem ExtN.tp {K : PySem.W.Frag} {H H' : Hp} (e : ExtN H H') : Tp K H H' := fun a xs h => by
  rcases h with (h | ⟨o, h⟩) | h
  · exact .inl (.inl (e _ _ h fun ps z => nomatch z))
  · exact .inl (.inr ⟨o, e _ _ h fun ps z => nomatch z⟩)
  · exact .inr h
/-! ### made_table -/
/-- pair by pair, row by row -/
def rowsF (n : Nat) (g : Int → Int → Int × Int) (m : Nat) : Tab := (List.range m).map fun (j : Nat) => g ((j / n : Nat) : Int) ((j % n : Nat) : Int)
theorem rowsF_succ {n m : Nat} {g : Int → Int → Int × Int} : rowsF n g (m + 1) = rowsF n g m ++ [g ((m / n : Nat) : Int) ((m % n : Nat) : Int)] := by
  unfold rowsF
  rw [List.range_succ, List.map_append]
  rfl
theorem rowsF_len {n m : Nat} {g : Int → Int → Int × Int} : (rowsF n g m).length = m := by
  unfold rowsF
  rw [List.length_map, List.length_range]
/-! ### made_table(n, f), f a def made here -/
/-- the rule of a def whose code object is known -/
theorem okC {P : Program} {w : World} {K : PySem.W.Frag} {mg : Str → Option Value} {base : Heap} {CX : CXT} {k : Nat} {f c : Addr} {fd : FuncData} {ps N : List Str} {sp : Sp} {x qual : Str} {params : Arguments} {body : List Stmt} {scope : Scope} {dvs : List V} {kws : List (Str × V)}
    (F : FunD K x qual params body scope dvs kws f fd) (hc : fd.code = .ref c) (S : FnScope N ps scope) (len : ∀ vs H Q E, sp vs H Q E → vs.length = ps.length)
    (hb : ∀ (A : Around) (outer : List Env) (s : Shared) (H : Hp) (vs : List V) (Q : VK) (E : XK), Room k (A.deeper (envOfC qual scope s.heap.objs.size f (.ref c))) → sp vs H Q E →
      ∃ t, PSs (cxOf CX P w K mg base N qual scope f (.ref c) A outer s H E) body t ∧ t (EndsQ Q) (start N vs) H) : FnOk P w K mg base CX (k + 1) f fd ps sp := by
  obtain ⟨oc, od, dV, kV, doc, pm, an, cdv, ct, osl, rfl, lk, hcd, _, _⟩ := F.ex
  have ec : cdv = .ref c := hc
  subst ec
  exact fn_of lk hcd S len fun A outer s H vs Q E hr hsp => hb A outer s H vs Q E hr hsp
/-! ### tuples whose object is known -/
/-- x is a tuple of these numbers, its object known -/
structure NmT (H : Hp) (x : V) (ns : List Int) : Prop where
  ex : ∃ (p : Addr) (o : Obj), x = .ref p ∧ H p = some (.frz o (.tup (ns.map V.int))) ∧ o.cls = .type "tuple" ∧ o.dict = none
theorem NmT.ext {H H' : Hp} {x : V} {ns : List Int} (h : NmT H x ns) (e : ExtN H H') : NmT H' x ns := by
  obtain ⟨p, o, rfl, h1, h2, h3⟩ := h.ex
  exact ⟨p, o, rfl, e _ _ h1 (fun ps z => nomatch z), h2, h3⟩
theorem NmT.sq {K : PySem.W.Frag} {H : Hp} {x : V} {ns : List Int} (h : NmT H x ns) : ∃ p, x = .ref p ∧ SqT K H p (ns.map V.int) := by
  obtain ⟨p, o, rfl, h1, _, _⟩ := h.ex
  exact ⟨p, rfl, .inl (.inr ⟨o, h1⟩)⟩
theorem NmT.dp {K : PySem.W.Frag} {H : Hp} {x : V} {ns : List Int} (h : NmT H x ns) : Dp K H x (dI ns) := by
  obtain ⟨p, rfl, hs⟩ := h.sq (K := K)
  exact .tup hs (dp_ints ns)
end Wf
/-! t * n, t a tuple that is not empty, n from 0 on. -/
namespace Wf
open PySem PySem.Spec PyProof.Rows L2
theorem mul_one (l : Addr) (ws : Array Value) (n : Nat) (dd : Option Addr) (sl : Array (Option Value)) (u : Tok) :
    Meets (Builtin.«tuple.__mul__» ⟨[.ref l, .int 1 u], []⟩) (fun _ R s => s.heap.get? l = some { cls := .type "tuple", dict := dd, data := .seq ws n, slots := sl } ∧ R (.ok (.ret (Value.ref l))) s) :=
  .of_wp fun prog w A R s q => by
    obtain ⟨hp, gn, dr, tk, os⟩ := s
    obtain ⟨hl, q⟩ := q
    have ix := AutoSeq1.idx_int
    have c1 : (ws.isEmpty || (1 : Int) == 1) = true := by rw [Bool.or_comm]; rfl
    wp_walk using wpAny_loadPart' hl
    repeat (first
      | (refine wpAny_ite_true (decide_eq_true c1) ?_; wp_walk using wpAny_loadPart' hl)
      | (refine wpAny_ite_true c1 ?_; wp_walk using wpAny_loadPart' hl))
    exact ⟨_, rfl, q⟩
theorem mul_none (l : Addr) (ws : Array Value) (n : Nat) (dd : Option Addr) (sl : Array (Option Value)) (u : Tok) (he : ws.isEmpty = false) :
    Meets (Builtin.«tuple.__mul__» ⟨[.ref l, .int 0 u], []⟩) (fun _ R s => s.heap.get? l = some { cls := .type "tuple", dict := dd, data := .seq ws n, slots := sl } ∧
      R (.ok (.ret (Value.ref s.heap.objs.size))) { s with heap := s.heap.push { cls := Value.type "tuple", data := Data.seq #[] }, toks := s.toks }) :=
  .of_wp fun prog w A R s q => by
    obtain ⟨hp, gn, dr, tk, os⟩ := s
    obtain ⟨hl, q⟩ := q
    have ix := AutoSeq1.idx_int
    have c1 : (ws.isEmpty || (0 : Int) == 1) = false := by rw [he]; rfl
    wp_walk using wpAny_loadPart' hl
    repeat (first
      | (refine wpAny_ite_false (decide_eq_false (by rw [c1]; exact Bool.false_ne_true)) ?_; wp_walk using wpAny_loadPart' hl)
      | (refine wpAny_ite_true (decide_eq_true rfl) ?_; wp_walk using wpAny_loadPart' hl))
    exact ⟨_, rfl, q⟩
def rRepA (K : PySem.W.Frag) : R2 := fun x y H Q => ∃ l k xs, x = .ref l ∧ y = .int k ∧ SqT K H l xs ∧ xs ≠ [] ∧ 0 ≤ k ∧ k ≤ 1000 ∧ xs.length ≤ 1000 ∧ (k = 1 → Q (.ref l) H) ∧ (k ≠ 1 → ∀ p, H p = none → Q (.ref p) (upd H p (.tup (List.replicate k.toNat xs).flatten)))
theorem op_repA {X : Cx} : OpR X (binaryOp .Mult) (rRepA X.K) := by
  intro pins s σ H x y v u Q I rx ry q
  obtain ⟨l, k, xs, rfl, rfl, hT, hne, k0, k1, hz, q1, q2⟩ := q
  by_cases c2 : 2 ≤ k
  · exact op_repT pins s σ H _ _ v u Q I rx ry ⟨l, k, xs, rfl, rfl, hT, hne, c2, k1, hz, q2 (by omega)⟩
  · cases rx
    obtain ⟨t, rfl⟩ := ry
    obtain ⟨its, r, ⟨⟨cls, dd, dt, sl⟩, ho, hc, n, hd⟩, hs⟩ := I.tuple hT
    simp only at hc hd
    subst hc hd
    have hk : k = 0 ∨ k = 1 := by omega
    have hle : its.length = xs.length := r.length.symm
    rcases hk with rfl | rfl
    · have he : its.toArray.isEmpty = false := by
        cases its with
        | nil => exact absurd (List.eq_nil_of_length_eq_zero hle.symm) hne
        | cons a b => rfl
      refine wpAny_binaryOp_repeat_ref (T := "tuple") (U := "int") (by decide) ⟨_, ho, rfl⟩ (fun s' => typeIs_int s' 0 t) noFill_tuple_mul F.fills_int_mul F.slot_int_rmul repeat_tuple F.slot_int_index.lookup
        (call_meets F.slot_int_rmul (typeIs_int s 0 t) F.entry_int_rmul (F.args_int_rmul_2 _ _) (int_rmul_tuple 0 t l its.toArray n dd sl) ⟨ho, rfl, ⟨_, ho, rfl⟩, call_meets F.slot_tuple_mul ⟨_, ho, rfl⟩ F.entry_tuple_mul (F.args_tuple_mul_2 _ _) (mul_none l its.toArray n dd sl t he) ⟨ho, ?_⟩⟩)
      refine ⟨.ref s.heap.objs.size, _, I.laid (t' := s.toks) (o := .tup []) (fun b ob e => Heap.get?_push_of_some _ e) (Nat.le_refl _) ?_, rfl, q2 (by decide) _ (I.hok.fresh (Nat.le_refl _))⟩
      exact ⟨Nat.zero_le _, [], .nil, IsTup.new _ _⟩
    · refine wpAny_binaryOp_repeat_ref (T := "tuple") (U := "int") (by decide) ⟨_, ho, rfl⟩ (fun s' => typeIs_int s' 1 t) noFill_tuple_mul F.fills_int_mul F.slot_int_rmul repeat_tuple F.slot_int_index.lookup
        (call_meets F.slot_int_rmul (typeIs_int s 1 t) F.entry_int_rmul (F.args_int_rmul_2 _ _) (int_rmul_tuple 1 t l its.toArray n dd sl) ⟨ho, rfl, ⟨_, ho, rfl⟩, call_meets F.slot_tuple_mul ⟨_, ho, rfl⟩ F.entry_tuple_mul (F.args_tuple_mul_2 _ _) (mul_one l its.toArray n dd sl t) ⟨ho, ?_⟩⟩)
      exact ⟨.ref l, H, I, rfl, q1 rfl⟩
end Wf
namespace Pv
open PySem PySem.Spec L2 Wf
variable {B : Bas}
/-! ### operations that read data and give data -/
def dats (δ : List Sl) : List R → Option (List PyData)
  | [] => some []
  | r :: rs => match dat δ r with
    | none => none
    | some d => match dats δ rs with
      | none => none
      | some ds => some (d :: ds)
inductive Vws (K : PySem.W.Frag) (G H : Hp) : List V → List PyData → Prop
  | nil : Vws K G H [] []
  | cons {v : V} {vs : List V} {d : PyData} {ds : List PyData} : Vw K G H v d → Vws K G H vs ds → Vws K G H (v :: vs) (d :: ds)
section
variable {K : PySem.W.Frag} {G H : Hp} {σ : St} {δ : List Sl} {w : Addr → Option Nat}
theorem vws_of : ∀ (rs : List R) (vs : List V) (ds : List PyData), vs.length = rs.length → (∀ (j : Nat) v q d, vs[j]? = some v → rs[j]? = some q → Pv.dat δ q = some d → Vw K G H v d) → dats δ rs = some ds → Vws K G H vs ds
  | [], [], ds, _, _, h => by
    cases h; exact .nil
  | [], v :: vs, ds, hl, _, _ => by simp at hl
  | r :: rs, [], ds, hl, _, _ => by simp at hl
  | r :: rs, v :: vs, ds, hl, hv, h => by
    unfold dats at h
    revert h
    split
    · intro h; cases h
    · rename_i d e
      split
      · intro h; cases h
      · rename_i ds' e'
        intro h; cases h
        exact .cons (hv 0 v r d rfl rfl e) (vws_of rs vs ds' (by simpa using hl) (fun j v' q d' h1 h2 h3 => hv (j + 1) v' q d' (by simpa using h1) (by simpa using h2) h3) e')
theorem Rep.vws {vs : List V} {rs : List R} {ds : List PyData} (r : Rep K B G H σ δ vs rs w) (h : dats δ rs = some ds) : Vws K G H vs ds :=
  vws_of rs vs ds r.tlen (fun _ _ _ _ hv hq hd => r.dat hv hq hd) h
end
/-- the value v of the data d: one that is there, or a new tuple -/
def Res (K : PySem.W.Frag) (G H : Hp) (v : V) (H' : Hp) (d : PyData) : Prop := (H' = H ∧ Dq K G v d) ∨ ∃ p us l, v = .ref p ∧ H p = none ∧ H' = upd H p (.tup us) ∧ DqAll K G us l ∧ d = .tuple l
theorem Res.old {K : PySem.W.Frag} {G H : Hp} {v : V} {d : PyData} (h : Dq K G v d) : Res K G H v H d := .inl ⟨rfl, h⟩
theorem Res.int {K : PySem.W.Frag} {G H : Hp} {i : Int} : Res K G H (.int i) H (.int i) := .inl ⟨rfl, .int i⟩
theorem Res.bool {K : PySem.W.Frag} {G H : Hp} {i : Bool} : Res K G H (.bl i) H (.bool i) := .inl ⟨rfl, .bl i⟩
theorem Res.str {K : PySem.W.Frag} {G H : Hp} {i : Str} : Res K G H (.str i) H (.str i) := .inl ⟨rfl, .str i⟩
def qD (f : List PyData → (PyData → Prop) → Prop) : List R → PX := fun rs δ Q => match dats δ rs with
  | some ds => f ds fun d => Q (.im d) δ
  | none => False
def qL (f : List PyData → (List PyData → Prop) → Prop) : List R → PX := fun rs δ Q => match dats δ rs with
  | some ds => f ds fun l => Q (.ow (.lst l)) δ
  | none => False
theorem dq_newTup {K : PySem.W.Frag} {G H : Hp} {p : Addr} {us : List V} {l : List PyData} (s : Same G H) (hp : H p = none) (h : DqAll K G us l) : Dq K (upd G p (.tup us)) (.ref p) (.tuple l) := by
  have gp : G p = none := by
    cases e : G p with
    | none => rfl
    | some u => rw [s p u e] at hp; cases hp
  exact .tup (SqT.of upd_same) (dpAll_mono (same_new gp) _ _ h)
theorem lc_im {K : PySem.W.Frag} {f : List PyData → (PyData → Prop) → Prop} {r : List V → Hp → VK → Prop}
    (h : ∀ G H vs ds Q, Same G H → Vws K G H vs ds → f ds (fun d => ∀ v H', Res K G H v H' d → Q v H') → (∀ k k' : PyData → Prop, (∀ d, k d → k' d) → f ds k → f ds k') → r vs H Q) (mono : ∀ ds (k k' : PyData → Prop), (∀ d, k d → k' d) → f ds k → f ds k') : LC K (qD f) r := by
  intro B G H σ δ vs rs w Qp Q rep q k
  unfold qD at q
  revert q
  split
  · rename_i ds e
    intro q
    refine h G H vs ds Q rep.sub (rep.vws e) (mono ds _ _ (fun d hd v H' res => ?_) q) (mono ds)
    rcases res with ⟨rfl, hq⟩ | ⟨p, us, l, rfl, hp, rfl, hus, rfl⟩
    · exact k _ δ v _ G _ hd .drop (rep.ret hq)
    · obtain ⟨s1, r1⟩ := rep.retNew hp (dq_newTup rep.sub hp hus)
      exact k _ δ _ _ _ _ hd s1 r1
  · intro q; exact q.elim
theorem lc_own {K : PySem.W.Frag} {f : List PyData → (List PyData → Prop) → Prop} {r : List V → Hp → VK → Prop}
    (h : ∀ G H vs ds Q, Same G H → Vws K G H vs ds → f ds (fun l => ∀ us p, DqAll K G us l → H p = none → Q (.ref p) (upd H p (.lst us))) → r vs H Q) (mono : ∀ ds (k k' : List PyData → Prop), (∀ d, k d → k' d) → f ds k → f ds k') : LC K (qL f) r := by
  intro B G H σ δ vs rs w Qp Q rep q k
  unfold qL at q
  revert q
  split
  · rename_i ds e
    intro q
    refine h G H vs ds Q rep.sub (rep.vws e) (mono ds _ _ (fun l hd us p hus hp => ?_) q)
    obtain ⟨w', s1, r1⟩ := rep.retLst hp hus
    exact k _ δ _ _ _ _ hd s1 r1
  · intro q; exact q.elim
/-- one of two readings -/
def qOr (q q' : List R → PX) : List R → PX := fun rs δ Q => q rs δ Q ∨ q' rs δ Q
theorem lc_or {K : PySem.W.Frag} {q q' : List R → PX} {r r' : R2} (h : LC K q (ap2 r)) (h' : LC K q' (ap2 r')) : LC K (qOr q q') (ap2 fun x y H Q => r x y H Q ∨ r' x y H Q) := by
  intro B G H σ δ vs rs w Qp Q rep hq k
  match vs, hq with
  | [x, y], .inl hq => exact .inl (h G H σ δ [x, y] rs w Qp Q rep hq k)
  | [x, y], .inr hq => exact .inr (h' G H σ δ [x, y] rs w Qp Q rep hq k)
  | [], .inl hq => exact h G H σ δ [] rs w Qp Q rep hq k
  | [], .inr hq => exact h' G H σ δ [] rs w Qp Q rep hq k
  | [x], .inl hq => exact h G H σ δ [x] rs w Qp Q rep hq k
  | [x], .inr hq => exact h' G H σ δ [x] rs w Qp Q rep hq k
  | x :: y :: z :: vs, .inl hq => exact h G H σ δ (x :: y :: z :: vs) rs w Qp Q rep hq k
  | x :: y :: z :: vs, .inr hq => exact h' G H σ δ (x :: y :: z :: vs) rs w Qp Q rep hq k
theorem op_or {X : Cx} {f : Value → Value → Sem Value} {r r' : R2} (h : OpR X f r) (h' : OpR X f r') : OpR X f (fun x y H Q => r x y H Q ∨ r' x y H Q) := by
  intro pins s σ H x y v u Q I rx ry q
  rcases q with q | q
  · exact h pins s σ H x y v u Q I rx ry q
  · exact h' pins s σ H x y v u Q I rx ry q
/-! ### arithmetic -/
def fI2 (C : Int → Int → Prop) (g : Int → Int → PyData) : List PyData → (PyData → Prop) → Prop
  | [.int a, .int b], k => C a b ∧ k (g a b)
  | _, _ => False
theorem fI2_mono {C : Int → Int → Prop} {g : Int → Int → PyData} : ∀ ds (k k' : PyData → Prop), (∀ d, k d → k' d) → fI2 C g ds k → fI2 C g ds k' := by
  intro ds k k' h q
  unfold fI2 at q ⊢
  split at q
  · exact ⟨q.1, h _ q.2⟩
  · exact q.elim
theorem lc_I2 {K : PySem.W.Frag} {C : Int → Int → Prop} {g : Int → Int → PyData} {gv : Int → Int → V} (hg : ∀ a b G, Dq K G (gv a b) (g a b)) : LC K (qD (fI2 C g)) (ap2 (rI C gv)) := by
  refine lc_im (fun G H vs ds Q s hv q _ => ?_) fI2_mono
  unfold fI2 at q
  split at q
  · cases hv with
    | cons h1 hv =>
      cases hv with
      | cons h2 hv =>
        cases hv
        exact ⟨_, _, h1.int, h2.int, q.1, q.2 _ _ (.old (hg _ _ G))⟩
  · exact q.elim
def T2 (_ _ : Int) : Prop := True
theorem rI_0 {g : Int → Int → V} {x y : V} {H : Hp} {Q : VK} (h : rI T2 g x y H Q) : rI0 g x y H Q := by
  obtain ⟨i, j, h1, h2, _, q⟩ := h
  exact ⟨i, j, h1, h2, q⟩
theorem lc_wk {K : PySem.W.Frag} {q : List R → PX} {r r' : R2} (h : LC K q (ap2 r)) (k : ∀ x y H Q, r x y H Q → r' x y H Q) : LC K q (ap2 r') := by
  intro B G H σ δ vs rs w Qp Q rep hq kk
  match vs with
  | [x, y] => exact k x y H Q (h G H σ δ [x, y] rs w Qp Q rep hq kk)
  | [] => exact h G H σ δ [] rs w Qp Q rep hq kk
  | [x] => exact h G H σ δ [x] rs w Qp Q rep hq kk
  | x :: y :: z :: vs => exact h G H σ δ (x :: y :: z :: vs) rs w Qp Q rep hq kk
theorem lc_I0 {K : PySem.W.Frag} {g : Int → Int → PyData} {gv : Int → Int → V} (hg : ∀ a b G, Dq K G (gv a b) (g a b)) : LC K (qD (fI2 T2 g)) (ap2 (rI0 gv)) := lc_wk (lc_I2 hg) fun _ _ _ _ h => rI_0 h
/-- sums: numbers, tuples, texts, lists -/
def fCat : List PyData → (PyData → Prop) → Prop
  | [.tuple a, .tuple b], k => a.length + b.length ≤ sizeLine ∧ k (.tuple (a ++ b))
  | _, _ => False
def fCatL : List PyData → (List PyData → Prop) → Prop
  | [.list a, .list b], k => a.length + b.length ≤ sizeLine ∧ k (a ++ b)
  | _, _ => False
def fCatS : List PyData → (PyData → Prop) → Prop
  | [.str a, .str b], k => a.length + b.length ≤ sizeLine ∧ k (.str (a ++ b))
  | _, _ => False
theorem dqAll_len {K : PySem.W.Frag} {G : Hp} : ∀ {us : List V} {ds : List PyData}, DqAll K G us ds → us.length = ds.length
  | _, _, .nil => rfl
  | _, _, .cons _ h => congrArg (· + 1) (dqAll_len h)
theorem dqAll_append {K : PySem.W.Frag} {G : Hp} : ∀ {us us' : List V} {ds ds' : List PyData}, DqAll K G us ds → DqAll K G us' ds' → DqAll K G (us ++ us') (ds ++ ds')
  | _, _, _, _, .nil, h => h
  | _, _, _, _, .cons h1 h2, h => .cons h1 (dqAll_append h2 h)
theorem dqAll_nil {K : PySem.W.Frag} {G : Hp} {us : List V} (h : DqAll K G us []) : us = [] := by cases h; rfl
theorem dqAll_nil' {K : PySem.W.Frag} {G : Hp} {ds : List PyData} (h : DqAll K G [] ds) : ds = [] := by cases h; rfl
theorem lc_cat {K : PySem.W.Frag} : LC K (qD fCat) (ap2 (rCatA K)) := by
  refine lc_im (fun G H vs ds Q s hv q _ => ?_) (fun ds k k' h q => ?_)
  · unfold fCat at q
    split at q
    · cases hv with
      | cons h1 hv =>
        cases hv with
        | cons h2 hv =>
          cases hv
          obtain ⟨p1, u1, rfl, t1, d1, e1⟩ := h1.seqT s
          obtain ⟨p2, u2, rfl, t2, d2, e2⟩ := h2.seqT s
          have l1 := dqAll_len d1
          have l2 := dqAll_len d2
          refine ⟨p1, p2, u1, u2, rfl, rfl, t1, t2, by omega, fun z => ?_, fun z1 z2 => ?_, fun z1 z2 p hp => ?_⟩
          · subst z
            rw [dqAll_nil' d1, List.nil_append] at q
            exact q.2 _ _ (.old e2)
          · subst z2
            rw [dqAll_nil' d2, List.append_nil] at q
            exact q.2 _ _ (.old e1)
          · exact q.2 _ _ (.inr ⟨p, _, _, rfl, hp, rfl, dqAll_append d1 d2, rfl⟩)
    · exact q.elim
  · unfold fCat at q ⊢
    split at q
    · exact ⟨q.1, h _ q.2⟩
    · exact q.elim
theorem lc_catS {K : PySem.W.Frag} : LC K (qD fCatS) (ap2 fun x y H Q => ∃ i j, x = .str i ∧ y = .str j ∧ i.length + j.length ≤ sizeLine ∧ Q (.str (i ++ j)) H) := by
  refine lc_im (fun G H vs ds Q s hv q _ => ?_) (fun ds k k' h q => ?_)
  · unfold fCatS at q
    split at q
    · cases hv with
      | cons h1 hv =>
        cases hv with
        | cons h2 hv =>
          cases hv
          exact ⟨_, _, h1.str, h2.str, q.1, q.2 _ _ .str⟩
    · exact q.elim
  · unfold fCatS at q ⊢
    split at q
    · exact ⟨q.1, h _ q.2⟩
    · exact q.elim
theorem lc_catL {K : PySem.W.Frag} : LC K (qL fCatL) (ap2 rCat) := by
  refine lc_own (fun G H vs ds Q s hv q => ?_) (fun ds k k' h q => ?_)
  · unfold fCatL at q
    split at q
    · cases hv with
      | cons h1 hv =>
        cases hv with
        | cons h2 hv =>
          cases hv
          obtain ⟨p1, u1, rfl, t1, d1⟩ := h1.seqL s
          obtain ⟨p2, u2, rfl, t2, d2⟩ := h2.seqL s
          have l1 := dqAll_len d1
          have l2 := dqAll_len d2
          exact ⟨p1, p2, u1, u2, rfl, rfl, t1, t2, by omega, fun p hp => q.2 _ p (dqAll_append d1 d2) hp⟩
    · exact q.elim
  · unfold fCatL at q ⊢
    split at q
    · exact ⟨q.1, h _ q.2⟩
    · exact q.elim
/-- the plus of any two -/
def qAddU : List R → PX := fun rs δ Q => match dats δ rs with
  | some [.int a, .int b] => Q (.im (.int (a + b))) δ
  | some [.tuple a, .tuple b] => a.length + b.length ≤ sizeLine ∧ Q (.im (.tuple (a ++ b))) δ
  | some [.list a, .list b] => a.length + b.length ≤ sizeLine ∧ Q (.ow (.lst (a ++ b))) δ
  | some [.str a, .str b] => a.length + b.length ≤ sizeLine ∧ Q (.im (.str (a ++ b))) δ
  | _ => False
theorem LC.wq {K : PySem.W.Frag} {q q' : List R → PX} {r : List V → Hp → VK → Prop} (h : LC K q r) (k : ∀ rs δ Q, q' rs δ Q → q rs δ Q) : LC K q' r := fun {B} G H σ δ vs rs w Qp Q rep hq kk => h G H σ δ vs rs w Qp Q rep (k rs δ Qp hq) kk
def rAddU (K : PySem.W.Frag) : R2 := fun x y H Q => qAdd x y H Q ∨ (rCatA K x y H Q ∨ (rCat x y H Q ∨ ∃ i j, x = .str i ∧ y = .str j ∧ i.length + j.length ≤ sizeLine ∧ Q (.str (i ++ j)) H))
theorem op_addU {X : Cx} : OpR X (binaryOp .Add) (rAddU X.K) := op_or op_add (op_or op_catA (op_or op_cat op_add_str))
theorem lc_addU {K : PySem.W.Frag} : LC K qAddU (ap2 (rAddU K)) := by
  refine LC.wq (lc_or (lc_I0 (g := fun a b => .int (a + b)) fun a b G => .int _) (lc_or lc_cat (lc_or lc_catL lc_catS))) fun rs δ Q h => ?_
  unfold qAddU at h
  split at h
  · rename_i a b e
    exact .inl (by unfold qD; rw [e]; exact ⟨trivial, h⟩)
  · rename_i a b e
    exact .inr (.inl (by unfold qD; rw [e]; exact h))
  · rename_i a b e
    exact .inr (.inr (.inl (by unfold qL; rw [e]; exact h)))
  · rename_i a b e
    exact .inr (.inr (.inr (by unfold qD; rw [e]; exact h)))
  · exact h.elim
section
variable {X : Cx} {a b : Expr} {pos : Pos} {pa pb : PX}
def pAdd (pa pb : PX) : PX := pC qAddU (pCons pa (pCons pb pNil))
theorem je_add (ha : JE X B a pa) (hb : JE X B b pb) : JE X B (.BinOp a .Add b pos) (pAdd pa pb) := je_op op_addU lc_addU ha hb
def pSub (pa pb : PX) : PX := pC (qD (fI2 T2 fun a b => .int (a - b))) (pCons pa (pCons pb pNil))
theorem je_sub (ha : JE X B a pa) (hb : JE X B b pb) : JE X B (.BinOp a .Sub b pos) (pSub pa pb) := je_op op_sub (lc_I0 fun a b G => .int _) ha hb
/-- one factor below 2 ^ 64, or both together below a million bits -/
def CMu (i j : Int) : Prop := CMul i j ∨ CMulW i j
def fRepL : List PyData → (List PyData → Prop) → Prop
  | [.list a, .int n], k => -(2 ^ 63) ≤ n ∧ n < 2 ^ 63 ∧ a.length * n.toNat ≤ sizeLine ∧ k (List.replicate n.toNat a).flatten
  | _, _ => False
def fRepT : List PyData → (PyData → Prop) → Prop
  | [.tuple a, .int n], k => a ≠ [] ∧ 0 ≤ n ∧ n ≤ 1000 ∧ a.length ≤ 1000 ∧ k (.tuple (List.replicate n.toNat a).flatten)
  | _, _ => False
theorem dqAll_rep {K : PySem.W.Frag} {G : Hp} {us : List V} {ds : List PyData} (h : DqAll K G us ds) : ∀ n : Nat, DqAll K G (List.replicate n us).flatten (List.replicate n ds).flatten
  | 0 => .nil
  | n + 1 => by
    rw [List.replicate_succ, List.replicate_succ, List.flatten_cons, List.flatten_cons]
    exact dqAll_append h (dqAll_rep h n)
theorem lc_repL {K : PySem.W.Frag} : LC K (qL fRepL) (ap2 rRep) := by
  refine lc_own (fun G H vs ds Q s hv q => ?_) (fun ds k k' h q => ?_)
  · unfold fRepL at q
    split at q
    · cases hv with
      | cons h1 hv =>
        cases hv with
        | cons h2 hv =>
          cases hv
          obtain ⟨p1, u1, rfl, t1, d1⟩ := h1.seqL s
          have l1 := dqAll_len d1
          exact ⟨p1, _, u1, rfl, h2.int, t1, q.1, q.2.1, by rw [l1]; exact q.2.2.1, fun p hp => q.2.2.2 _ p (dqAll_rep d1 _) hp⟩
    · exact q.elim
  · unfold fRepL at q ⊢
    split at q
    · exact ⟨q.1, q.2.1, q.2.2.1, h _ q.2.2.2⟩
    · exact q.elim
theorem lc_repT {K : PySem.W.Frag} : LC K (qD fRepT) (ap2 (rRepA K)) := by
  refine lc_im (fun G H vs ds Q s hv q _ => ?_) (fun ds k k' h q => ?_)
  · unfold fRepT at q
    split at q
    · rename_i a n k
      cases hv with
      | cons h1 hv =>
        cases hv with
        | cons h2 hv =>
          cases hv
          obtain ⟨p1, u1, rfl, t1, d1, e1⟩ := h1.seqT s
          have l1 := dqAll_len d1
          obtain ⟨q1, q2, q3, q4, q5⟩ := q
          refine ⟨p1, _, u1, rfl, h2.int, t1, fun z => ?_, q2, q3, by omega, fun z => ?_, fun z p hp => ?_⟩
          · subst z; exact q1 (dqAll_nil' d1)
          · subst z
            refine q5 _ _ (.old ?_)
            show Dq K G _ (.tuple (List.replicate 1 a).flatten)
            rw [List.replicate_one, List.flatten_cons, List.flatten_nil, List.append_nil]
            exact e1
          · exact q5 _ _ (.inr ⟨p, _, _, rfl, hp, rfl, dqAll_rep d1 _, rfl⟩)
    · exact q.elim
  · unfold fRepT at q ⊢
    split at q
    · exact ⟨q.1, q.2.1, q.2.2.1, q.2.2.2.1, h _ q.2.2.2.2⟩
    · exact q.elim
def qMulU : List R → PX := fun rs δ Q => match dats δ rs with
  | some [.int a, .int b] => CMu a b ∧ Q (.im (.int (a * b))) δ
  | some [.list a, .int n] => -(2 ^ 63) ≤ n ∧ n < 2 ^ 63 ∧ a.length * n.toNat ≤ sizeLine ∧ Q (.ow (.lst (List.replicate n.toNat a).flatten)) δ
  | some [.tuple a, .int n] => a ≠ [] ∧ 0 ≤ n ∧ n ≤ 1000 ∧ a.length ≤ 1000 ∧ Q (.im (.tuple (List.replicate n.toNat a).flatten)) δ
  | _ => False
def rMulU (K : PySem.W.Frag) : R2 := fun x y H Q => (qMul x y H Q ∨ rI CMulW (fun i j => .int (i * j)) x y H Q) ∨ (rRep x y H Q ∨ rRepA K x y H Q)
theorem op_mulU : OpR X (binaryOp .Mult) (rMulU X.K) := op_or (op_or op_mul op_mulW) (op_or op_rep op_repA)
theorem lc_mulU {K : PySem.W.Frag} : LC K qMulU (ap2 (rMulU K)) := by
  refine LC.wq (lc_or (lc_or (lc_I2 (C := CMul) (g := fun a b => .int (a * b)) fun a b G => .int _) (lc_I2 (C := CMulW) (g := fun a b => .int (a * b)) fun a b G => .int _)) (lc_or lc_repL lc_repT)) fun rs δ Q h => ?_
  unfold qMulU at h
  split at h
  · rename_i a b e
    rcases h with ⟨h1 | h1, h⟩
    · exact .inl (.inl (by unfold qD; rw [e]; exact ⟨h1, h⟩))
    · exact .inl (.inr (by unfold qD; rw [e]; exact ⟨h1, h⟩))
  · rename_i a b e
    exact .inr (.inl (by unfold qL; rw [e]; exact h))
  · rename_i a b e
    exact .inr (.inr (by unfold qD; rw [e]; exact h))
  · exact h.elim
def pMul (pa pb : PX) : PX := pC qMulU (pCons pa (pCons pb pNil))
theorem je_mul (ha : JE X B a pa) (hb : JE X B b pb) : JE X B (.BinOp a .Mult b pos) (pMul pa pb) := je_op op_mulU lc_mulU ha hb
def pFdiv (pa pb : PX) : PX := pC (qD (fI2 CDivW fun a b => .int (a / b))) (pCons pa (pCons pb pNil))
theorem je_fdiv (ha : JE X B a pa) (hb : JE X B b pb) : JE X B (.BinOp a .FloorDiv b pos) (pFdiv pa pb) := je_op op_fdivW (lc_I2 fun a b G => .int _) ha hb
def CMod (_ j : Int) : Prop := 0 < j
def pMod (pa pb : PX) : PX := pC (qD (fI2 CMod fun a b => .int (a % b))) (pCons pa (pCons pb pNil))
theorem je_mod (ha : JE X B a pa) (hb : JE X B b pb) : JE X B (.BinOp a .Mod b pos) (pMod pa pb) := je_op op_mod (lc_I2 fun a b G => .int _) ha hb
/-! ### comparisons -/
def pCmp (f : Int → Int → Bool) (pa pb : PX) : PX := pC (qD (fI2 T2 fun a b => .bool (f a b))) (pCons pa (pCons pb pNil))
abbrev pGt := pCmp fun a b => decide (b < a)
theorem jb_gt (ha : JE X B a pa) (hb : JE X B b pb) : JB X B (.Compare a [.Gt] [b] pos) (pT (pGt pa pb)) := jb_cmp op_gt (lc_I0 fun a b G => .bl _) ha hb (nomark _)
/-- equal: of any data -/
def eqd (x y : PyData) : Bool := PyData.eqv x y
def fEq (neg : Bool) : List PyData → (PyData → Prop) → Prop
  | [.int a, .int b], k => k (.bool (if neg then !decide (a = b) else decide (a = b)))
  | [.str a, .str b], k => k (.bool (if neg then !decide (a = b) else decide (a = b)))
  | [a, b], k => SeqAt.shaped a = true ∧ SeqAt.shaped b = true ∧ k (.bool (if neg then !eqd a b else eqd a b))
  | _, _ => False
theorem fEq_mono {neg : Bool} : ∀ ds (k k' : PyData → Prop), (∀ d, k d → k' d) → fEq neg ds k → fEq neg ds k' := by
  intro ds k k' h q
  unfold fEq at q ⊢
  split at q
  · exact h _ q
  · exact h _ q
  · exact ⟨q.1, q.2.1, h _ q.2.2⟩
  · exact q.elim
def rEqU (K : PySem.W.Frag) : R2 := fun x y H Q => rEq x y H Q ∨ rEqD K x y H Q
theorem dec_int {a b : Int} : decide (V.int a = V.int b) = decide (a = b) := by
  by_cases h : a = b
  · subst h; simp
  · rw [decide_eq_false h, decide_eq_false fun z => h (V.int.inj z)]
theorem dec_str {a b : Str} : decide (V.str a = V.str b) = decide (a = b) := by
  by_cases h : a = b
  · subst h; simp
  · rw [decide_eq_false h, decide_eq_false fun z => h (V.str.inj z)]
theorem lc_eqU {K : PySem.W.Frag} : LC K (qD (fEq false)) (ap2 (rEqU K)) := by
  refine lc_im (fun G H vs ds Q s hv q _ => ?_) fEq_mono
  unfold fEq at q
  split at q
  · cases hv with
    | cons h1 hv =>
      cases hv with
      | cons h2 hv =>
        cases hv
        refine .inl ⟨by rw [h1.int, h2.int]; rfl, ?_⟩
        rw [h1.int, h2.int, dec_int]
        exact q _ _ .bool
  · cases hv with
    | cons h1 hv =>
      cases hv with
      | cons h2 hv =>
        cases hv
        refine .inl ⟨by rw [h1.str, h2.str]; rfl, ?_⟩
        rw [h1.str, h2.str, dec_str]
        exact q _ _ .bool
  · cases hv with
    | cons h1 hv =>
      cases hv with
      | cons h2 hv =>
        cases hv
        exact .inr ⟨_, _, h1.dp s, h2.dp s, q.1, q.2.1, q.2.2 _ _ .bool⟩
  · exact q.elim
theorem op_eqU (hu : X.A.units + 64 < cLine) : OpR X (compareOp .Eq) (rEqU X.K) := op_or op_eq (op_eqD hu)
def pEq (neg : Bool) (pa pb : PX) : PX := pC (qD (fEq neg)) (pCons pa (pCons pb pNil))
theorem je_eq {j : Nat} (hr : Room j X.A) (ha : JE X B a pa) (hb : JE X B b pb) : JE X B (.Compare a [.Eq] [b] pos) (pEq false pa pb) := je_cmp (op_eqU hr.units) lc_eqU ha hb (nomark _)
theorem jb_eq {j : Nat} (hr : Room j X.A) (ha : JE X B a pa) (hb : JE X B b pb) : JB X B (.Compare a [.Eq] [b] pos) (pT (pEq false pa pb)) := jb_cmp (op_eqU hr.units) lc_eqU ha hb (nomark _)
/-! ### items -/
def fIx : List PyData → (PyData → Prop) → Prop
  | [.list ds, .int i], k => ∃ d, atI ds i = some d ∧ k d
  | [.tuple ds, .int i], k => ∃ d, atI ds i = some d ∧ k d
  | _, _ => False
theorem dqAll_get {K : PySem.W.Frag} {G : Hp} : ∀ {us : List V} {ds : List PyData} {i : Nat} {d : PyData}, DqAll K G us ds → ds[i]? = some d → ∃ v, us[i]? = some v ∧ Dq K G v d
  | _, _, _, _, .nil, e => by simp at e
  | _, _, 0, _, .cons h _, e => by simp at e; subst e; exact ⟨_, rfl, h⟩
  | _, _, i + 1, _, .cons _ h, e => by
    obtain ⟨v, e1, e2⟩ := dqAll_get (i := i) h (by simpa using e)
    exact ⟨v, by simpa using e1, e2⟩
theorem dqAll_at {K : PySem.W.Frag} {G : Hp} {us : List V} {ds : List PyData} {i : Int} {d : PyData} (h : DqAll K G us ds) (e : atI ds i = some d) : ∃ v, atI us i = some v ∧ Dq K G v d := by
  unfold atI at e ⊢
  rw [dqAll_len h]
  cases q : ixN ds.length i with
  | none => rw [q] at e; cases e
  | some j =>
    rw [q] at e
    exact dqAll_get h e
theorem lc_ix {K : PySem.W.Frag} : LC K (qD fIx) (ap2 (rIx K)) := by
  refine lc_im (fun G H vs ds Q s hv q _ => ?_) (fun ds k k' h q => ?_)
  · unfold fIx at q
    split at q
    · cases hv with
      | cons h1 hv =>
        cases hv with
        | cons h2 hv =>
          cases hv
          obtain ⟨d, e, q⟩ := q
          obtain ⟨p1, u1, rfl, t1, d1⟩ := h1.seqL s
          obtain ⟨v, e2, hd⟩ := dqAll_at d1 e
          exact .inl ⟨p1, u1, _, v, rfl, h2.int, SqL.of t1, e2, q _ _ (.old hd)⟩
    · cases hv with
      | cons h1 hv =>
        cases hv with
        | cons h2 hv =>
          cases hv
          obtain ⟨d, e, q⟩ := q
          obtain ⟨p1, u1, rfl, t1, d1, _⟩ := h1.seqT s
          obtain ⟨v, e2, hd⟩ := dqAll_at d1 e
          exact .inr (.inl ⟨p1, u1, _, v, rfl, h2.int, t1, e2, q _ _ (.old hd)⟩)
    · exact q.elim
  · unfold fIx at q ⊢
    split at q
    · obtain ⟨d, e, q⟩ := q; exact ⟨d, e, h _ q⟩
    · obtain ⟨d, e, q⟩ := q; exact ⟨d, e, h _ q⟩
    · exact q.elim
def pIx (pa pb : PX) : PX := pC (qD fIx) (pCons pa (pCons pb pNil))
theorem je_ix (ha : JE X B a pa) (hb : JE X B b pb) (hs : PlainIx b) : JE X B (.Subscript a b pos) (pIx pa pb) := PE_wk (pe_ix ix_seq ha hb hs) fun σ H Q h => lc_two lc_ix h
end
/-! ### is -/
end Pv
namespace Pv
open PySem PySem.Spec L2 Wf
variable {B : Bas}
/-! ### a list of one's own that changes no more -/
def fz (δ : List Sl) : R → Option (PyData × List Sl)
  | .im d => some (d, δ)
  | .ow (.lst ds) => some (.list ds, δ)
  | .ow (.ptl ds) => some (.tuple ds, δ)
  | .ow _ => none
  | .at i => match δ[i]? with
    | some (.im d) => some (d, δ)
    | some (.ow false (.lst ds)) => some (.list ds, δ.set i (.im (.list ds)))
    | some (.ow _ (.ptl ds)) => some (.tuple ds, δ)
    | _ => none
def fzAll : List Sl → List R → Option (List PyData × List Sl)
  | δ, [] => some ([], δ)
  | δ, r :: rs => match fz δ r with
    | none => none
    | some (d, δ1) => match fzAll δ1 rs with
      | none => none
      | some (ds, δ2) => some (d :: ds, δ2)
section
variable {K : PySem.W.Frag} {G H : Hp} {σ : St} {δ : List Sl} {vs : List V} {rs : List R} {w : Addr → Option Nat}
/-- what was n's, now nobody's, its list public -/
def freed (w : Addr → Option Nat) (n : Nat) (a : Addr) : Option Nat := if w a = some n then none else w a
theorem freed_ne {w : Addr → Option Nat} {n m : Nat} {a : Addr} (h : w a = some m) (hn : m ≠ n) : freed w n a = some m := by
  unfold freed
  rw [if_neg (by rw [h]; intro z; cases z; exact hn rfl)]
  exact h
theorem of_freed {w : Addr → Option Nat} {n m : Nat} {a : Addr} (h : freed w n a = some m) : w a = some m ∧ m ≠ n := by
  unfold freed at h
  split at h
  · cases h
  · rename_i z
    exact ⟨h, fun e => z (by rw [h, e])⟩
theorem Rep.frees (r : Rep K B G H σ δ vs rs w) {n : Nat} {a : Addr} {us : List V} {δ' : List Sl} (ha : H a = some (.lst us)) (hw : w a = some n) (pn : Pn δ δ') :
    Same G (upd G a (.lst us)) ∧ Stp B.T G H w δ (upd G a (.lst us)) H (freed w n) δ' ∧ Same (upd G a (.lst us)) H ∧ (∀ x i, freed w n x = some i → upd G a (.lst us) x = none ∧ H x ≠ none ∧ NoX H x) := by
  have g0 := (r.out a n hw).1
  have sg : Same G (upd G a (.lst us)) := same_new g0
  refine ⟨sg, .of ⟨sg, fun _ _ _ h => h, fun x i h => .inl (by rw [(of_freed h).1]; exact Option.some_ne_none _), fun x o h => ?_, pn⟩ .refl (q_new nofun), fun x o h => ?_, fun x i h => ?_⟩
  · by_cases e : x = a
    · subst e; exact .inr (.inr (.inl (by rw [hw]; exact Option.some_ne_none _)))
    · rw [upd_ne e] at h; exact .inl h
  · by_cases e : x = a
    · subst e; rw [upd_same] at h; cases h; exact ha
    · rw [upd_ne e] at h; exact r.sub x o h
  · obtain ⟨h1, h2⟩ := of_freed h
    have e : x ≠ a := fun z => by subst z; rw [hw] at h1; cases h1; exact h2 rfl
    rw [upd_ne e]
    exact r.out x i h1
theorem pn_set {δ : List Sl} {i : Nat} {s : Sl} (h : ∀ o, δ[i]? ≠ some (.ow true o)) : Pn δ (δ.set i s) := fun j o hj => by
  by_cases e : i = j
  · subst e; exact absurd hj (h o)
  · exact ⟨o, by rw [List.getElem?_set_ne e]; exact hj⟩
theorem Rep.fz1 (r : Rep K B G H σ δ vs rs w) {j : Nat} {v : V} {q : R} {d : PyData} {δ' : List Sl} (hv : vs[j]? = some v) (hq : rs[j]? = some q) (h : fz δ q = some (d, δ')) :
    ∃ G' w', Stp B.T G H w δ G' H w' δ' ∧ Rep K B G' H σ δ' vs (rs.set j (.im d)) w' := by
  have hj : j < rs.length := (List.getElem?_eq_some_iff.mp hq).1
  have t := r.tm j v q hv hq
  have others : ∀ {G' : Hp} {w' : Addr → Option Nat}, Same G G' → (∀ a k, w a = some k → k ≠ 2 * j + 1 → k % 2 = 1 → w' a = some k) → Dq K G' v d → ∀ (k : Nat) u p, vs[k]? = some u → (rs.set j (.im d))[k]? = some p → RR K G' H σ (fun a => w' a = some (2 * k + 1)) u p := by
    intro G' w' sg hw' hd k u p hu hp
    by_cases e : j = k
    · subst e
      rw [List.getElem?_set_self hj] at hp
      cases hp
      rw [hv] at hu
      cases hu
      exact hd
    · rw [List.getElem?_set_ne e] at hp
      exact (r.tm k u p hu hp).mono sg (fun _ _ _ h => h) fun a o ma _ => hw' a _ ma (by omega) (by omega)
  cases q with
  | im d' =>
    cases h
    exact ⟨G, w, .refl, r.sub, r.out, r.len, r.sl, by rw [List.length_set]; exact r.tlen, others (fun _ _ h => h) (fun a k h _ _ => h) t, r.bs⟩
  | ow o =>
    cases o with
    | lst ds =>
      cases h
      obtain ⟨a, us, rfl, ma, ha, hds⟩ := t
      obtain ⟨sg, st, sh, ho⟩ := r.frees (δ' := δ) ha ma (.refl _)
      refine ⟨_, _, st, sh, ho, r.len, fun i s hs => ?_, by rw [List.length_set]; exact r.tlen, others sg (fun a k h1 h2 _ => freed_ne h1 h2) (.lst upd_same (dpAll_mono sg _ _ hds)), st.bs r.bs⟩
      exact (r.sl i s hs).mono sg (fun _ _ _ h => h) fun a o mb _ => freed_ne mb (by omega)
    | deal => cases h
    | scr ns => cases h
    | lam F => cases h
    | dic ks ds => cases h
    | dct r ks ds => cases h
    | lls bs dss => cases h
    | ptl ds =>
      cases h
      exact ⟨G, w, .refl, r.sub, r.out, r.len, r.sl, by rw [List.length_set]; exact r.tlen, others (fun _ _ h => h) (fun a k h _ _ => h) (ptl_dq t), r.bs⟩
  | «at» i =>
    have t' : σ[i]? = some (some v) := t
    simp only [fz] at h
    revert h
    split
    · rename_i d' e
      intro h
      cases h
      obtain ⟨u, hu, hd⟩ := r.sl i _ e
      rw [t'] at hu
      cases hu
      exact ⟨G, w, .refl, r.sub, r.out, r.len, r.sl, by rw [List.length_set]; exact r.tlen, others (fun _ _ h => h) (fun a k h _ _ => h) hd, r.bs⟩
    · rename_i ds e
      intro h
      cases h
      obtain ⟨u, hu, a, us, rfl, ma, ha, hds⟩ := r.sl i _ e
      rw [t'] at hu
      cases hu
      obtain ⟨sg, st, sh, ho⟩ := r.frees (δ' := δ.set i (.im (.list ds))) ha ma (pn_set fun o z => by rw [e] at z; cases z)
      have hd : Dq K (upd G a (.lst us)) (.ref a) (.list ds) := .lst upd_same (dpAll_mono sg _ _ hds)
      refine ⟨_, _, st, sh, ho, by rw [List.length_set]; exact r.len, fun k s hs => ?_, by rw [List.length_set]; exact r.tlen, others sg (fun a k h1 h2 h3 => freed_ne h1 (by omega)) hd, st.bs r.bs⟩
      by_cases ek : i = k
      · subst ek
        rw [List.getElem?_set_self (List.getElem?_eq_some_iff.mp e).1] at hs
        cases hs
        exact ⟨_, t', hd⟩
      · rw [List.getElem?_set_ne ek] at hs
        exact (r.sl k s hs).mono sg (fun _ _ _ h => h) fun a o mb _ => freed_ne mb (by omega)
    · rename_i b ds e
      intro h
      cases h
      obtain ⟨u, hu, hd⟩ := r.sl i _ e
      rw [t'] at hu
      cases hu
      exact ⟨G, w, .refl, r.sub, r.out, r.len, r.sl, by rw [List.length_set]; exact r.tlen, others (fun _ _ h => h) (fun a k h _ _ => h) (ptl_dq hd), r.bs⟩
    · intro h; cases h
theorem Rep.fzGo : ∀ (rs2 : List R) (rs1 : List R) {G : Hp} {δ δ' : List Sl} {w : Addr → Option Nat} {ds : List PyData}, Rep K B G H σ δ vs (rs1 ++ rs2) w → fzAll δ rs2 = some (ds, δ') → ∃ G' w', Stp B.T G H w δ G' H w' δ' ∧ Rep K B G' H σ δ' vs (rs1 ++ ds.map .im) w'
  | [], rs1, G, δ, δ', w, ds, r, h => by
    cases h
    exact ⟨G, w, .refl, r⟩
  | q :: rs2, rs1, G, δ, δ', w, ds, r, h => by
    unfold fzAll at h
    revert h
    split
    · intro h; cases h
    · rename_i d δ1 e
      split
      · intro h; cases h
      · rename_i ds' δ2 e2
        intro h
        cases h
        have hq : (rs1 ++ q :: rs2)[rs1.length]? = some q := by simp
        have hl : rs1.length < vs.length := by rw [r.tlen, List.length_append, List.length_cons]; omega
        obtain ⟨G1, w1, s1, r1⟩ := r.fz1 (v := vs[rs1.length]) (List.getElem?_eq_getElem hl) hq e
        have e3 : (rs1 ++ q :: rs2).set rs1.length (.im d) = (rs1 ++ [.im d]) ++ rs2 := by
          rw [List.set_append_right _ _ (Nat.le_refl _), Nat.sub_self, List.set_cons_zero, List.append_assoc]
          rfl
        rw [e3] at r1
        obtain ⟨G2, w2, s2, r2⟩ := Rep.fzGo rs2 (rs1 ++ [.im d]) r1 e2
        refine ⟨G2, w2, s1.trans s2, ?_⟩
        rw [List.append_assoc] at r2
        exact r2
theorem Rep.fzs (r : Rep K B G H σ δ vs rs w) {ds : List PyData} {δ' : List Sl} (h : fzAll δ rs = some (ds, δ')) : ∃ G' w', Stp B.T G H w δ G' H w' δ' ∧ Rep K B G' H σ δ' vs (ds.map .im) w' := by
  have := Rep.fzGo rs [] (by simpa using r) h
  simpa using this
theorem Rep.ims {ds : List PyData} (r : Rep K B G H σ δ vs (ds.map .im) w) : DqAll K G vs ds := by
  have hl : vs.length = ds.length := by have := r.tlen; rwa [List.length_map] at this
  have go : ∀ (vs : List V) (ds : List PyData), vs.length = ds.length → (∀ (j : Nat) v d, vs[j]? = some v → ds[j]? = some d → Dq K G v d) → DqAll K G vs ds := by
    intro vs
    induction vs with
    | nil =>
      intro ds hl _
      cases ds with
      | nil => exact .nil
      | cons => simp at hl
    | cons v vs ih =>
      intro ds hl h
      cases ds with
      | nil => simp at hl
      | cons d ds => exact .cons (h 0 v d rfl rfl) (ih ds (by simpa using hl) fun j v' d' h1 h2 => h (j + 1) v' d' (by simpa using h1) (by simpa using h2))
  refine go vs ds hl fun j v d hv hd => ?_
  exact r.tm j v (.im d) hv (by rw [List.getElem?_map, hd]; rfl)
end
/-! ### displays -/
def qTup : List R → PX := fun rs δ Q => match fzAll δ rs with
  | some (ds, δ') => Q (.im (.tuple ds)) δ'
  | none => False
def qLst : List R → PX := fun rs δ Q => match fzAll δ rs with
  | some (ds, δ') => Q (.ow (.lst ds)) δ'
  | none => False
section
variable {X : Cx}
def pTup (ps : PL) : PX := pC qTup ps
def pLst (ps : PL) : PX := pC qLst ps
theorem je_tup {es : List Expr} {ps : PL} {x1} {pos : Pos} (h : JA X B es ps) (hl : es.length ≤ sizeLine := by decide) : JE X B (.Tuple es x1 pos) (pTup ps) := by
  refine PE_wk (pe_tup h) fun σ H Q ⟨G, w, δ, Qp, rep, q, k⟩ => ?_
  refine ⟨G, w, δ, _, rep, q, fun rs δ1 vs H1 G1 w1 q1 l1 s1 rep1 => ?_⟩
  unfold qTup at q1
  revert q1
  split
  · rename_i ds δ2 e
    intro q1
    obtain ⟨G2, w2, s2, r2⟩ := rep1.fzs e
    refine ⟨by rw [rep1.tlen, l1]; exact hl, fun p hp => ?_⟩
    obtain ⟨s3, r3⟩ := r2.retNew hp (dq_newTup r2.sub hp r2.ims)
    exact k _ _ _ _ _ _ q1 ((s1.trans s2).trans s3) r3
  · intro q1; exact q1.elim
theorem je_lst {es : List Expr} {ps : PL} {pos : Pos} (h : JA X B es ps) (hl : es.length ≤ sizeLine := by decide) : JE X B (.List es pos) (pLst ps) := by
  refine PE_wk (pe_lst h) fun σ H Q ⟨G, w, δ, Qp, rep, q, k⟩ => ?_
  refine ⟨G, w, δ, _, rep, q, fun rs δ1 vs H1 G1 w1 q1 l1 s1 rep1 => ?_⟩
  unfold qLst at q1
  revert q1
  split
  · rename_i ds δ2 e
    intro q1
    obtain ⟨G2, w2, s2, r2⟩ := rep1.fzs e
    refine ⟨by rw [rep1.tlen, l1]; exact hl, fun p hp => ?_⟩
    obtain ⟨w3, s3, r3⟩ := r2.retLst hp r2.ims
    exact k _ _ _ _ _ _ q1 ((s1.trans s2).trans s3) r3
  · intro q1; exact q1.elim
/-! ### built-ins -/
theorem lc_im1 {K : PySem.W.Frag} {f : PyData → (PyData → Prop) → Prop} {r : List V → Hp → VK → Prop} (h : ∀ G H v d Q, Same G H → Vw K G H v d → f d (fun e => ∀ u H', Res K G H u H' e → Q u H') → r [v] H Q) (mono : ∀ d (k k' : PyData → Prop), (∀ e, k e → k' e) → f d k → f d k') :
    LC K (qD fun ds k => match ds with | [d] => f d k | _ => False) r := by
  refine lc_im (fun G H vs ds Q s hv q _ => ?_) (fun ds k k' hk q => ?_)
  · match ds, hv, q with
    | [d], .cons h1 .nil, q => exact h G H _ d Q s h1 q
    | [], _, q => exact q.elim
    | _ :: _ :: _, _, q => exact q.elim
  · match ds, q with
    | [d], q => exact mono d k k' hk q
    | [], q => exact q.elim
    | _ :: _ :: _, q => exact q.elim
theorem lc_im2 {K : PySem.W.Frag} {f : PyData → PyData → (PyData → Prop) → Prop} {r : List V → Hp → VK → Prop} (h : ∀ G H v u d e Q, Same G H → Vw K G H v d → Vw K G H u e → f d e (fun e => ∀ u H', Res K G H u H' e → Q u H') → r [v, u] H Q) (mono : ∀ d e (k k' : PyData → Prop), (∀ e, k e → k' e) → f d e k → f d e k') :
    LC K (qD fun ds k => match ds with | [d, e] => f d e k | _ => False) r := by
  refine lc_im (fun G H vs ds Q s hv q _ => ?_) (fun ds k k' hk q => ?_)
  · match ds, hv, q with
    | [d, e], .cons h1 (.cons h2 .nil), q => exact h G H _ _ d e Q s h1 h2 q
    | [], _, q => exact q.elim
    | [_], _, q => exact q.elim
    | _ :: _ :: _ :: _, _, q => exact q.elim
  · match ds, q with
    | [d, e], q => exact mono d e k k' hk q
    | [], q => exact q.elim
    | [_], q => exact q.elim
    | _ :: _ :: _ :: _, q => exact q.elim
abbrev q1 (f : PyData → (PyData → Prop) → Prop) : List R → PX := qD fun ds k => match ds with | [d] => f d k | _ => False
abbrev q2 (f : PyData → PyData → (PyData → Prop) → Prop) : List R → PX := qD fun ds k => match ds with | [d, e] => f d e k | _ => False
variable {e : Expr} {es : List Expr} {p pos : Pos}
theorem je_ct {x : Str} {T : String} {ps : PL} {q : List R → PX} {r : List V → Hp → VK → Prop} (hc : CallR X (.type T) r) (hl : LC X.K q r) (hg : Gl X x) (hm : X.mg x = none) (hv : bootBuiltins x = some (.type T)) (ha : JA X B (e :: es) ps) (hn : x ≠ "__name__" := by decide) (hdb : (x == ("__debug__" : Str)) = false := by decide)
    (he : starEach (e :: es) X.env = (false, eval e X.env) :: starEach es X.env := by rfl) (hpl : (backTo pos (starEach es X.env)).any (·.1) = false := by rfl) : JE X B (.Call (.Name x p) (e :: es) [] pos) (pC q ps) :=
  PE_wk (pe_callTy hc hg hm hv ha hn hdb he hpl) fun σ H Q h => lc_args hl h
def fTupleOf : PyData → (PyData → Prop) → Prop
  | .list ds, k => k (.tuple ds)
  | .tuple ds, k => k (.tuple ds)
  | _, _ => False
theorem lc_tupleOf {K : PySem.W.Frag} : LC K (q1 fTupleOf) (qTupleOf K) := by
  refine lc_im1 (fun G H v d Q s hv q => ?_) (fun d k k' hk q => ?_)
  · unfold fTupleOf at q
    split at q
    · obtain ⟨a, us, rfl, ha, hds⟩ := hv.seqL s
      exact ⟨a, us, rfl, .inl ⟨SqL.of ha, fun l hl => q _ _ (.inr ⟨l, us, _, rfl, hl, rfl, hds, rfl⟩)⟩⟩
    · obtain ⟨a, us, rfl, ha, hds, e1⟩ := hv.seqT s
      exact ⟨a, us, rfl, .inr ⟨ha, q _ _ (.old e1)⟩⟩
    · exact q.elim
  · unfold fTupleOf at q ⊢
    split at q
    · exact hk _ q
    · exact hk _ q
    · exact q.elim
/-! ### isinstance(e, T) -/
def isT (a T : String) : Bool := a == T || (a == "bool" && T == "int")
end
end Pv
namespace Pv
open PySem PySem.Spec L2 Wf
variable {B : Bas}
/-- a new thing beside, that never changes -/
theorem Rep.lay {K : PySem.W.Frag} {G H : Hp} {σ : St} {δ : List Sl} {vs : List V} {rs : List R} {w : Addr → Option Nat} (r : Rep K B G H σ δ vs rs w) {p : Addr} {o : HO} (hp : H p = none) (hn : NT o := by exact nofun) :
    Stp B.T G H w δ (upd G p o) (upd H p o) w δ ∧ Rep K B (upd G p o) (upd H p o) σ δ vs rs w := by
  have gp : G p = none := by
    cases e : G p with
    | none => rfl
    | some u => rw [r.sub p u e] at hp; cases hp
  have sg : Same G (upd G p o) := same_new gp
  have kp : ∀ a u, H a = some u → upd H p o a = some u := fun a u ha => by rw [upd_ne (ne_of_none ha hp)]; exact ha
  have st : Stp B.T G H w δ (upd G p o) (upd H p o) w δ := by
    refine .of ⟨sg, fun a u _ ha => kp a u ha, fun a i h => .inl (by rw [h]; exact Option.some_ne_none _), fun a u ha => ?_, .refl _⟩ (tabs_new hp) (q_new hn)
    by_cases e : a = p
    · subst e; exact .inr (.inl hp)
    · rw [upd_ne e] at ha; exact .inl ha
  refine ⟨st, fun a u ha => ?_, fun a i h => ?_, r.len, fun i s h => ?_, r.tlen, fun j v q hv hq => ?_, st.bs r.bs⟩
  · by_cases e : a = p
    · subst e; rw [upd_same] at ha ⊢; exact ha
    · rw [upd_ne e] at ha ⊢; exact r.sub a u ha
  · have ho := r.out a i h
    have hne : a ≠ p := fun z => ho.2.1 (by rw [z]; exact hp)
    rw [upd_ne hne, upd_ne hne]
    exact ⟨ho.1, ho.2.1, noT_upd hne ho.2.2⟩
  · exact (r.sl i s h).mono sg (fun a u _ hu => kp a u hu) fun a u ma _ => ma
  · exact (r.tm j v q hv hq).mono sg (fun a u _ hu => kp a u hu) fun a u ma _ => ma
section
variable {X : Cx} {a b e : Expr} {es : List Expr} {p pos p2 : Pos} {pa pb : PX}
/-! ### isinstance -/
/-! ### is -/
theorem isnot_bool_gen {M : Model} {A : Around} {Q : Value → Shared → Prop} {E : Value → Shared → Prop} {s : Shared} {v : Value} {t : Bool} (hb : ∀ id, v ≠ .builtin id) (h : Q (.bool (!(v == .bool t))) s) : wpAny M A (compareOp .IsNot v (.bool t)) Q E s := by
  cases v <;> first | exact absurd rfl (hb _) | exact wpAny_pure h
theorem rel_nob {x : V} {v : Value} (r : RelV x v) : ∀ id, v ≠ .builtin id := by
  intro id
  cases x with
  | bl c => cases r; exact fun z => nomatch z
  | non => cases r; exact fun z => nomatch z
  | int _ => obtain ⟨t, rfl⟩ := r; exact fun z => nomatch z
  | str _ => obtain ⟨t, rfl⟩ := r; exact fun z => nomatch z
  | byt _ => obtain ⟨t, rfl⟩ := r; exact fun z => nomatch z
  | flt _ => obtain ⟨t, rfl⟩ := r; exact fun z => nomatch z
  | ref _ => cases r; exact fun z => nomatch z
  | ty _ => cases r; exact fun z => nomatch z
theorem rel_bool {x : V} {v : Value} {t : Bool} (r : RelV x v) : (v == Value.bool t) = decide (x = .bl t) := by
  cases x with
  | bl c => cases r; cases c <;> cases t <;> rfl
  | non => cases r; rfl
  | int _ => obtain ⟨t, rfl⟩ := r; rfl
  | str _ => obtain ⟨t, rfl⟩ := r; rfl
  | byt _ => obtain ⟨t, rfl⟩ := r; rfl
  | flt _ => obtain ⟨t, rfl⟩ := r; rfl
  | ref _ => cases r; rfl
  | ty _ => cases r; rfl
def rNotC : R2 := fun x y H Q => (y = .non ∧ Q (.bl (!decide (x = .non))) H) ∨ ∃ t, y = .bl t ∧ Q (.bl (!decide (x = .bl t))) H
theorem op_notC : OpR X (compareOp .IsNot) rNotC := by
  refine op_or op_notN1 ?_
  intro pins s σ H x y v u Q I rx ry h
  obtain ⟨t, rfl, q⟩ := h
  cases (show u = Value.bool t from ry)
  exact isnot_bool_gen (rel_nob rx) ⟨.bl _, H, I, by rw [rel_bool rx]; rfl, q⟩
def isC : PyData → PyData → Bool
  | .none, .none => true
  | .bool a, .bool b => a == b
  | _, _ => false
def fIs (neg : Bool) : PyData → PyData → (PyData → Prop) → Prop
  | d, .none, k => k (.bool (if neg then !isC d .none else isC d .none))
  | d, .bool t, k => k (.bool (if neg then !isC d (.bool t) else isC d (.bool t)))
  | _, _, _ => False
theorem vw_non {K : PySem.W.Frag} {G H : Hp} {v : V} {d : PyData} (h : Vw K G H v d) : decide (v = .non) = isC d .none := by
  rcases h with h | ⟨a, us, ds, rfl, _, _, rfl⟩
  · cases h <;> rfl
  · rfl
theorem vw_bl {K : PySem.W.Frag} {G H : Hp} {v : V} {d : PyData} {t : Bool} (h : Vw K G H v d) : decide (v = .bl t) = isC d (.bool t) := by
  rcases h with h | ⟨a, us, ds, rfl, _, _, rfl⟩
  · cases h with
    | bl b => cases b <;> cases t <;> rfl
    | _ => rfl
  · rfl
theorem fIs_mono {neg : Bool} : ∀ d e (k k' : PyData → Prop), (∀ e, k e → k' e) → fIs neg d e k → fIs neg d e k' := by
  intro d e k k' hk q
  unfold fIs at q ⊢
  split at q
  · exact hk _ q
  · exact hk _ q
  · exact q.elim
theorem vw_none {K : PySem.W.Frag} {G H : Hp} {v : V} (h : Vw K G H v .none) : v = .non := by
  rcases h with h | ⟨a, us, ds, rfl, _, _, z⟩
  · cases h; rfl
  · cases z
theorem lc_isnot {K : PySem.W.Frag} : LC K (q2 (fIs true)) (ap2 rNotC) := by
  refine lc_im2 (fun G H v u d e Q s hv hu q => ?_) fIs_mono
  unfold fIs at q
  split at q
  · exact .inl ⟨vw_none hu, by rw [vw_non hv]; exact q _ _ .bool⟩
  · exact .inr ⟨_, hu.bool, by rw [vw_bl hv]; exact q _ _ .bool⟩
  · exact q.elim
def pIs (neg : Bool) (pa pb : PX) : PX := pC (q2 (fIs neg)) (pCons pa (pCons pb pNil))
theorem jb_isnot (ha : JE X B a pa) (hb : JE X B b pb) : JB X B (.Compare a [.IsNot] [b] pos) (pT (pIs true pa pb)) := jb_cmp op_notC lc_isnot ha hb (nomark _)
/-! ### a < b < c -/
/-! ### slices -/
/-! ### in, not in: lists of data -/
/-! ### list(range(..)), tuple(range(..)) -/
def rgD (a b : Int) : List PyData := (List.range (b - a).toNat).map fun (i : Nat) => PyData.int (a + (i : Nat))
end
end Pv
namespace Pv
open PySem PySem.Spec L2 Wf
variable {B : Bas}
/-! ### storing -/
def slOf : R → Sl
  | .im d => .im d
  | .ow o => .ow false o
  | .at _ => .un
def isAt : R → Bool
  | .at _ => true
  | _ => false
/-- what a slot holds, as data for good -/
def rz (δ : List Sl) : R → Option (R × List Sl)
  | .at i => match δ[i]? with
    | some (.im d) => some (.im d, δ)
    | some (.ow false (.lst ds)) => some (.im (.list ds), δ.set i (.im (.list ds)))
    | some (.ow _ (.ptl ds)) => some (.ow (.ptl ds), δ)
    | _ => none
  | r => some (r, δ)
def rzAll : List Sl → List R → Option (List R × List Sl)
  | δ, [] => some ([], δ)
  | δ, r :: rs => match rz δ r with
    | none => none
    | some (q, δ1) => match rzAll δ1 rs with
      | none => none
      | some (qs, δ2) => some (q :: qs, δ2)
/-- slot i gets r -/
def setS (i : Nat) (r : R) (δ : List Sl) (Q : List Sl → Prop) : Prop := match δ[i]? with
  | none => False
  | some (.ow true _) => False
  | some _ => Q (δ.set i (slOf r))
def setAll : List Nat → List R → List Sl → (List Sl → Prop) → Prop
  | [], [], δ, Q => Q δ
  | i :: is, r :: rs, δ, Q => setS i r δ fun δ' => setAll is rs δ' Q
  | _, _, _, _ => False
def Pin (σ : St) (δ : List Sl) (σ' : St) : Prop := ∀ (i : Nat) (o : O), δ[i]? = some (Sl.ow true o) → σ'[i]? = σ[i]?
theorem Pin.refl {σ : St} {δ : List Sl} : Pin σ δ σ := fun _ _ _ => rfl
theorem Pin.trans {σ σ1 σ2 : St} {δ δ1 : List Sl} (a : Pin σ δ σ1) (n : Pn δ δ1) (b : Pin σ1 δ1 σ2) : Pin σ δ σ2 := fun i o h => by
  obtain ⟨o', h'⟩ := n i o h
  exact (b i o' h').trans (a i o h)
section
variable {K : PySem.W.Frag} {G H : Hp} {σ : St} {δ : List Sl} {vs : List V} {rs : List R} {w : Addr → Option Nat}
theorem Rep.rz1 (r : Rep K B G H σ δ vs rs w) {j : Nat} {q q' : R} {δ' : List Sl} (hq : rs[j]? = some q) (h : rz δ q = some (q', δ')) :
    ∃ G' w', Stp B.T G H w δ G' H w' δ' ∧ Rep K B G' H σ δ' vs (rs.set j q') w' := by
  have hj : j < rs.length := (List.getElem?_eq_some_iff.mp hq).1
  have hjv : j < vs.length := by rw [r.tlen]; exact hj
  have same : rs.set j q = rs := by
    apply List.ext_getElem?
    intro k
    by_cases e : j = k
    · subst e; rw [List.getElem?_set_self hj]; exact hq.symm
    · rw [List.getElem?_set_ne e]
  cases q with
  | im d => cases h; exact ⟨G, w, .refl, by rw [same]; exact r⟩
  | ow o => cases h; exact ⟨G, w, .refl, by rw [same]; exact r⟩
  | «at» i =>
    simp only [rz] at h
    revert h
    split
    · rename_i d e
      intro h
      cases h
      exact r.fz1 (List.getElem?_eq_getElem hjv) hq (by simp only [fz, e])
    · rename_i ds e
      intro h
      cases h
      exact r.fz1 (List.getElem?_eq_getElem hjv) hq (by simp only [fz, e])
    · rename_i b ds e
      intro h
      cases h
      obtain ⟨u, hu, hd⟩ := r.sl i _ e
      have t' : σ[i]? = some (some vs[j]) := r.tm j _ _ (List.getElem?_eq_getElem hjv) hq
      rw [t'] at hu
      cases hu
      refine ⟨G, w, .refl, r.sub, r.out, r.len, r.sl, by rw [List.length_set]; exact r.tlen, fun k x p hx hp => ?_, r.bs⟩
      by_cases ek : j = k
      · subst ek
        rw [List.getElem?_set_self hj] at hp
        cases hp
        rw [List.getElem?_eq_getElem hjv] at hx
        cases hx
        exact hd
      · rw [List.getElem?_set_ne ek] at hp
        exact r.tm k x p hx hp
    · intro h; cases h
theorem Rep.rzGo : ∀ (rs2 : List R) (rs1 : List R) {G : Hp} {δ δ' : List Sl} {w : Addr → Option Nat} {qs : List R}, Rep K B G H σ δ vs (rs1 ++ rs2) w → rzAll δ rs2 = some (qs, δ') → ∃ G' w', Stp B.T G H w δ G' H w' δ' ∧ Rep K B G' H σ δ' vs (rs1 ++ qs) w'
  | [], rs1, G, δ, δ', w, qs, r, h => by
    cases h
    exact ⟨G, w, .refl, r⟩
  | q :: rs2, rs1, G, δ, δ', w, qs, r, h => by
    unfold rzAll at h
    revert h
    split
    · intro h; cases h
    · rename_i q' δ1 e
      split
      · intro h; cases h
      · rename_i qs' δ2 e2
        intro h
        cases h
        have hq : (rs1 ++ q :: rs2)[rs1.length]? = some q := by simp
        obtain ⟨G1, w1, s1, r1⟩ := r.rz1 hq e
        have e3 : (rs1 ++ q :: rs2).set rs1.length q' = (rs1 ++ [q']) ++ rs2 := by
          rw [List.set_append_right _ _ (Nat.le_refl _), Nat.sub_self, List.set_cons_zero, List.append_assoc]
          rfl
        rw [e3] at r1
        obtain ⟨G2, w2, s2, r2⟩ := Rep.rzGo rs2 (rs1 ++ [q']) r1 e2
        refine ⟨G2, w2, s1.trans s2, ?_⟩
        rw [List.append_assoc] at r2
        exact r2
theorem rz_noAt {δ δ' : List Sl} {q q' : R} (h : rz δ q = some (q', δ')) : isAt q' = false := by
  cases q with
  | im d => cases h; rfl
  | ow o => cases h; rfl
  | «at» i =>
    simp only [rz] at h
    revert h
    split
    · intro h; cases h; rfl
    · intro h; cases h; rfl
    · intro h; cases h; rfl
    · intro h; cases h
theorem rzAll_noAt : ∀ {rs qs : List R} {δ δ' : List Sl}, rzAll δ rs = some (qs, δ') → ∀ q ∈ qs, isAt q = false
  | [], _, _, _, h => by cases h; intro q hq; cases hq
  | r :: rs, qs, δ, δ', h => by
    unfold rzAll at h
    revert h
    split
    · intro h; cases h
    · rename_i q' δ1 e
      split
      · intro h; cases h
      · rename_i qs' δ2 e2
        intro h
        cases h
        intro q hq
        rcases List.mem_cons.mp hq with rfl | hq
        · exact rz_noAt e
        · exact rzAll_noAt e2 q hq
theorem Rep.rzs (r : Rep K B G H σ δ vs rs w) {qs : List R} {δ' : List Sl} (h : rzAll δ rs = some (qs, δ')) : ∃ G' w', Stp B.T G H w δ G' H w' δ' ∧ Rep K B G' H σ δ' vs qs w' := by
  have := Rep.rzGo rs [] (by simpa using r) h
  simpa using this
def moved (i : Nat) (w : Addr → Option Nat) (a : Addr) : Option Nat := match w a with
  | none => none
  | some n => if n = 1 then some (2 * i) else if n % 2 = 1 then some (n - 2) else if n = 2 * i then none else some n
theorem of_moved {i : Nat} {w : Addr → Option Nat} {a : Addr} {m : Nat} (h : moved i w a = some m) : ∃ n, w a = some n := by
  unfold moved at h
  cases e : w a with
  | none => rw [e] at h; cases h
  | some n => exact ⟨n, rfl⟩
/-- the first value goes to slot i -/
theorem Rep.sto {v : V} {q : R} (r : Rep K B G H σ δ (v :: vs) (q :: rs) w) {i : Nat} {Q : List Sl → Prop} (h : setS i q δ Q) (hq : isAt q = false) (hrs : ∀ p ∈ rs, isAt p = false) :
    ∃ w', Q (δ.set i (slOf q)) ∧ Stp B.T G H w δ G H w' (δ.set i (slOf q)) ∧ Rep K B G H (σ.set i (some v)) (δ.set i (slOf q)) vs rs w' ∧ Pin σ δ (σ.set i (some v)) := by
  have hd : ∃ s, δ[i]? = some s ∧ (∀ o, s ≠ .ow true o) ∧ Q (δ.set i (slOf q)) := by
    unfold setS at h
    revert h
    split
    · intro h; exact h.elim
    · intro h; exact h.elim
    · rename_i s hn e
      intro h
      exact ⟨s, e, fun o z => hn o z, h⟩
  obtain ⟨s, hs, hp, hQ⟩ := hd
  have hi : i < δ.length := (List.getElem?_eq_some_iff.mp hs).1
  have hiσ : i < σ.length := by rw [r.len]; exact hi
  have np : ∀ o, δ[i]? ≠ some (.ow true o) := fun o z => by rw [hs] at z; cases z; exact hp o rfl
  have st : Stp B.T G H w δ G H (moved i w) (δ.set i (slOf q)) := .of ⟨fun _ _ h => h, fun _ _ _ h => h, fun a m h => by
    obtain ⟨n, hn⟩ := of_moved h
    exact .inl (by rw [hn]; exact Option.some_ne_none _), fun a o h => .inl h, pn_set np⟩
  refine ⟨moved i w, hQ, st, ⟨r.sub, fun a m h => ?_, by rw [List.length_set, List.length_set]; exact r.len, fun k s' hk => ?_, by have := r.tlen; simpa using this, fun j u p hu hp' => ?_, st.bs r.bs⟩, fun k o hk => ?_⟩
  · obtain ⟨n, hn⟩ := of_moved h
    exact r.out a n hn
  · by_cases e : i = k
    · subst e
      rw [List.getElem?_set_self hi] at hk
      cases hk
      have t := r.tm 0 v q rfl rfl
      cases q with
      | im d => exact ⟨v, List.getElem?_set_self hiσ, t⟩
      | ow o =>
        refine ⟨v, List.getElem?_set_self hiσ, RO.mono (fun _ _ h => h) (fun _ _ _ h => h) (fun a u ma _ => ?_) t⟩
        show moved i w a = _
        unfold moved
        rw [ma]
        rfl
      | «at» _ => cases hq
    · rw [List.getElem?_set_ne e] at hk
      rw [List.getElem?_set_ne e]
      refine (r.sl k s' hk).mono (fun _ _ h => h) (fun _ _ _ h => h) fun a u ma _ => ?_
      show moved i w a = _
      unfold moved
      rw [ma]
      dsimp only
      rw [if_neg (by omega), if_neg (by omega), if_neg (by omega)]
  · have t := r.tm (j + 1) u p (by simpa using hu) (by simpa using hp')
    have hno : isAt p = false := hrs p (List.mem_of_getElem? hp')
    cases p with
    | im d => exact t
    | ow o =>
      refine RO.mono (fun _ _ h => h) (fun _ _ _ h => h) (fun a u ma _ => ?_) t
      show moved i w a = _
      unfold moved
      rw [ma]
      dsimp only
      rw [if_neg (by omega), if_pos (by omega)]
      congr 1
    | «at» _ => cases hno
  · by_cases e : i = k
    · subst e; exact absurd hk (np o)
    · rw [List.getElem?_set_ne e]
/-- several slots get several values -/
theorem Rep.stos : ∀ (is : List Nat) {σ : St} {δ : List Sl} {vs : List V} {qs : List R} {w : Addr → Option Nat} {Q : List Sl → Prop}, Rep K B G H σ δ vs qs w → setAll is qs δ Q → (∀ q ∈ qs, isAt q = false) →
    ∃ δ' w', Q δ' ∧ Stp B.T G H w δ G H w' δ' ∧ Rep K B G H ((is.zip vs).foldl (fun σ p => σ.set p.1 (some p.2)) σ) δ' [] [] w' ∧ Pin σ δ ((is.zip vs).foldl (fun σ p => σ.set p.1 (some p.2)) σ) ∧ is.length = vs.length
  | [], σ, δ, vs, qs, w, Q, r, h, hq => by
    cases qs with
    | nil =>
      have hv : vs = [] := List.eq_nil_of_length_eq_zero (by have := r.tlen; simpa using this)
      subst hv
      exact ⟨δ, w, h, .refl, r, .refl, rfl⟩
    | cons => exact h.elim
  | i :: is, σ, δ, vs, qs, w, Q, r, h, hq => by
    cases qs with
    | nil => exact h.elim
    | cons q qs =>
      cases vs with
      | nil => have := r.tlen; simp at this
      | cons v vs =>
        obtain ⟨w1, h1, s1, r1, p1⟩ := r.sto (show setS i q δ _ from h) (hq q List.mem_cons_self) fun p hp => hq p (List.mem_cons_of_mem _ hp)
        obtain ⟨δ2, w2, h2, s2, r2, p2, hl⟩ := Rep.stos is r1 h1 fun p hp => hq p (List.mem_cons_of_mem _ hp)
        exact ⟨δ2, w2, h2, s1.trans s2, r2, p1.trans s1.pn p2, congrArg (· + 1) hl⟩
/-- what slot i holds is handed on -/
def taken (i : Nat) (w : Addr → Option Nat) (a : Addr) : Option Nat := match w a with
  | none => none
  | some n => if n = 2 * i then some 1 else if n % 2 = 1 then none else some n
def mv (δ : List Sl) : R → Option (R × List Sl)
  | .at i => match δ[i]? with
    | some (.im d) => some (.im d, δ)
    | some (.ow false o) => some (.ow o, δ.set i .un)
    | _ => none
  | r => some (r, δ)
theorem Rep.mv1 {v : V} {q q' : R} {δ' : List Sl} (r : Rep K B G H σ δ [v] [q] w) (h : mv δ q = some (q', δ')) : ∃ w', Stp B.T G H w δ G H w' δ' ∧ Rep K B G H σ δ' [v] [q'] w' ∧ isAt q' = false := by
  cases q with
  | im d => cases h; exact ⟨w, .refl, r, rfl⟩
  | ow o => cases h; exact ⟨w, .refl, r, rfl⟩
  | «at» i =>
    have t : σ[i]? = some (some v) := r.tm 0 v (.at i) rfl rfl
    simp only [mv] at h
    revert h
    split
    · rename_i d e
      intro h
      cases h
      obtain ⟨u, hu, hd⟩ := r.sl i _ e
      rw [t] at hu
      cases hu
      exact ⟨_, .drop, r.ret hd, rfl⟩
    · rename_i o e
      intro h
      cases h
      obtain ⟨u, hu, hd⟩ := r.sl i _ e
      rw [t] at hu
      cases hu
      have ot : ∀ a m, taken i w a = some m → ∃ n, w a = some n := fun a m h => by
        unfold taken at h
        cases e : w a with
        | none => rw [e] at h; cases h
        | some n => exact ⟨n, rfl⟩
      have st : Stp B.T G H w δ G H (taken i w) (δ.set i .un) := .of ⟨fun _ _ h => h, fun _ _ _ h => h, fun a m h => by
        obtain ⟨n, hn⟩ := ot a m h
        exact .inl (by rw [hn]; exact Option.some_ne_none _), fun a o h => .inl h, pn_set fun o z => by rw [e] at z; cases z⟩
      refine ⟨taken i w, st, ⟨r.sub, fun a m h => ?_, by rw [List.length_set]; exact r.len, fun k s' hk => ?_, rfl, fun j u p hu hp' => ?_, st.bs r.bs⟩, rfl⟩
      · obtain ⟨n, hn⟩ := ot a m h
        exact r.out a n hn
      · by_cases ek : i = k
        · subst ek
          rw [List.getElem?_set_self (List.getElem?_eq_some_iff.mp e).1] at hk
          cases hk
          trivial
        · rw [List.getElem?_set_ne ek] at hk
          refine (r.sl k s' hk).mono (fun _ _ h => h) (fun _ _ _ h => h) fun a u ma _ => ?_
          show taken i w a = _
          unfold taken
          rw [ma]
          dsimp only
          rw [if_neg (by omega), if_neg (by omega)]
      · match j with
        | 0 =>
          simp only [List.getElem?_cons_zero, Option.some.injEq] at hu hp'
          subst hu hp'
          refine RO.mono (fun _ _ h => h) (fun _ _ _ h => h) (fun a u ma _ => ?_) hd
          show taken i w a = _
          unfold taken
          rw [ma]
          dsimp only
          rw [if_pos rfl]
        | j + 1 => simp at hu
    · intro h; cases h
end
/-! ### statements -/
structure PEn where
  nx : List Sl → Prop
  rt : R → List Sl → Prop
  bk : List Sl → Prop := fun _ => False
  ct : List Sl → Prop := fun _ => False
abbrev PSx := PEn → List Sl → Prop
structure EOk (K : PySem.W.Frag) (B : Bas) (G H : Hp) (w : Addr → Option Nat) (σ : St) (δ : List Sl) (E : PEn) (D : Ends) : Prop where
  nx : ∀ δ' σ' H' G' w', E.nx δ' → Stp B.T G H w δ G' H' w' δ' → Rep K B G' H' σ' δ' [] [] w' → Pin σ δ σ' → D.nx σ' H'
  rt : ∀ r δ' v σ' H' G' w', E.rt r δ' → isAt r = false → Stp B.T G H w δ G' H' w' δ' → Rep K B G' H' σ' δ' [v] [r] w' → Pin σ δ σ' → D.rt v H'
  bk : ∀ δ' σ' H' G' w', E.bk δ' → Stp B.T G H w δ G' H' w' δ' → Rep K B G' H' σ' δ' [] [] w' → Pin σ δ σ' → D.bk σ' H'
  ct : ∀ δ' σ' H' G' w', E.ct δ' → Stp B.T G H w δ G' H' w' δ' → Rep K B G' H' σ' δ' [] [] w' → Pin σ δ σ' → D.ct σ' H'
theorem EOk.later {K : PySem.W.Frag} {G H G1 H1 : Hp} {w w1 : Addr → Option Nat} {σ σ1 : St} {δ δ1 : List Sl} {E : PEn} {D : Ends} (e : EOk K B G H w σ δ E D) (s : Stp B.T G H w δ G1 H1 w1 δ1) (p : Pin σ δ σ1) : EOk K B G1 H1 w1 σ1 δ1 E D :=
  ⟨fun δ' σ' H' G' w' h s' r p' => e.nx δ' σ' H' G' w' h (s.trans s') r (p.trans s.pn p'), fun q δ' v σ' H' G' w' h ha s' r p' => e.rt q δ' v σ' H' G' w' h ha (s.trans s') r (p.trans s.pn p'),
    fun δ' σ' H' G' w' h s' r p' => e.bk δ' σ' H' G' w' h (s.trans s') r (p.trans s.pn p'), fun δ' σ' H' G' w' h s' r p' => e.ct δ' σ' H' G' w' h (s.trans s') r (p.trans s.pn p')⟩
def LS (K : PySem.W.Frag) (B : Bas) (p : PSx) : TS := fun D σ H => ∃ G w δ E, Rep K B G H σ δ [] [] w ∧ p E δ ∧ EOk K B G H w σ δ E D
def JS (X : Cx) (B : Bas) (st : Stmt) (p : PSx) : Prop := PS X st (LS X.K B p)
def JSs (X : Cx) (B : Bas) (st : List Stmt) (p : PSx) : Prop := PSs X st (LS X.K B p)
def pNext : PSx := fun E δ => E.nx δ
def pSeq (a b : PSx) : PSx := fun E δ => a { E with nx := fun δ' => b E δ' } δ
def pExpr (p : PX) : PSx := fun E δ => p δ fun _ δ1 => E.nx δ1
def pRet (p : PX) : PSx := fun E δ => p δ fun r δ1 => ∃ q δ2, mv δ1 r = some (q, δ2) ∧ E.rt q δ2
def pIf (c : PB) (a b : PSx) : PSx := fun E δ => c δ fun t δ1 => if t = true then a E δ1 else b E δ1
def pSet (i : Nat) (p : PX) : PSx := fun E δ => p δ fun r δ1 => ∃ q δ2, rz δ1 r = some (q, δ2) ∧ setS i q δ2 E.nx
def pPar (is : List Nat) (ps : PL) : PSx := fun E δ => ps δ fun rs δ1 => ∃ qs δ2, rzAll δ1 rs = some (qs, δ2) ∧ setAll is qs δ2 E.nx
section
variable {X : Cx} {st : Stmt} {sts : List Stmt} {a b : PSx} {e : Expr} {pa : PX} {pos : Pos}
theorem jss_nil : JSs X B [] pNext := PSs_wk pss_nil fun D σ H ⟨G, w, δ, E, rep, h, ek⟩ => ek.nx δ σ H G w h .refl rep .refl
theorem jss_cons (h1 : JS X B st a) (h2 : JSs X B sts b) : JSs X B (st :: sts) (pSeq a b) := PSs_wk (pss_cons h1 h2) fun D σ H ⟨G, w, δ, E, rep, h, ek⟩ =>
  ⟨G, w, δ, _, rep, h, ⟨fun δ' σ' H' G' w' hb s r p => ⟨G', w', δ', E, r, hb, ek.later s p⟩, ek.rt, ek.bk, ek.ct⟩⟩
theorem jss_one (h1 : JS X B st a) : JSs X B [st] a := pss_one h1
theorem js_expr (he : JE X B e pa) (hs : swapsWith e none pos.line X.env = pure false := by rfl) : JS X B (.Expr e pos) (pExpr pa) := PS_wk (ps_expr he hs) fun D σ H ⟨G, w, δ, E, rep, h, ek⟩ =>
  ⟨G, w, δ, _, rep, h, fun r δ1 v H1 G1 w1 q1 s1 rep1 => ek.nx δ1 σ H1 G1 _ q1 (s1.trans .drop) rep1.drop .refl⟩
theorem js_ret (he : JE X B e pa) : JS X B (.Return (some e) pos) (pRet pa) := PS_wk (ps_ret he) fun D σ H ⟨G, w, δ, E, rep, h, ek⟩ =>
  ⟨G, w, δ, _, rep, h, fun r δ1 v H1 G1 w1 q1 s1 rep1 => by
    obtain ⟨q, δ2, hm, q1⟩ := q1
    obtain ⟨w2, s2, r2, ha⟩ := rep1.mv1 hm
    exact ek.rt q δ2 v σ H1 G1 w2 q1 ha (s1.trans s2) r2 .refl⟩
theorem js_if {c : Expr} {x y : List Stmt} {pc : PB} (hc : JB X B c pc) (ha : JSs X B x a) (hb : JSs X B y b) : JS X B (.If c x y pos) (pIf pc a b) := PS_wk (ps_if hc ha hb) fun D σ H ⟨G, w, δ, E, rep, h, ek⟩ =>
  ⟨G, w, δ, _, rep, h, fun t δ1 H1 G1 w1 q1 s1 rep1 => by
    cases t with
    | true => exact ⟨G1, w1, δ1, E, rep1, q1, ek.later s1 .refl⟩
    | false => exact ⟨G1, w1, δ1, E, rep1, q1, ek.later s1 .refl⟩⟩
theorem js_set {i : Nat} {x : Str} {pos' : Pos} (hN : X.N.Nodup) (hi : X.N[i]? = some x) (hx : Loc X.env.scope x) (he : JE X B e pa) (hs : swapsWith e (some (.Name x pos')) pos.line X.env = pure false := by rfl) (hf : X.fn x = true ∨ X.env.scope.names.lookup x = some .local := by first | exact .inl rfl | exact .inr rfl | assumption) :
    JS X B (.Assign [.Name x pos'] e pos) (pSet i pa) := PS_wk (ps_set hN hi hx he hs hf) fun D σ H ⟨G, w, δ, E, rep, h, ek⟩ =>
  ⟨G, w, δ, _, rep, h, fun r δ1 v H1 G1 w1 q1 s1 rep1 => by
    obtain ⟨q, δ2, hz, q1⟩ := q1
    obtain ⟨G2, w2, s2, r2⟩ := rep1.rz1 (j := 0) rfl hz
    obtain ⟨w3, q3, s3, r3, p3⟩ := r2.sto q1 (rz_noAt hz) (fun p hp => by cases hp)
    exact ek.nx _ _ H1 G2 w3 q3 ((s1.trans s2).trans s3) r3 ((Pin.refl (σ := σ)).trans (s1.trans s2).pn p3)⟩
theorem js_par2 {i j : Nat} {x y : Str} {e1 e2 : Expr} {ps : PL} {px py pt : Pos} {kt k2 pt2} (hc : X.calm = true) (hN : X.N.Nodup) (hi : X.N[i]? = some x) (hj : X.N[j]? = some y) (hij : i ≠ j)
    (hx : X.env.scope.names.lookup x = some .local) (hy : X.env.scope.names.lookup y = some .local) (ha : JA X B [e1, e2] ps)
    (hw : swappedStores [.Tuple [.Name x px, .Name y py] kt pt] (.Tuple [e1, e2] k2 pt2) X.env = pure (some [x, y]))
    (hs : swapsWithSole [.Tuple [.Name x px, .Name y py] kt pt] (.Tuple [e1, e2] k2 pt2) pos.line X.env = pure false := by rfl) :
    JS X B (.Assign [.Tuple [.Name x px, .Name y py] kt pt] (.Tuple [e1, e2] k2 pt2) pos) (pPar [i, j] ps) := PS_wk (ps_par hc hN hi hj hij hx hy ha hw hs) fun D σ H ⟨G, w, δ, E, rep, h, ek⟩ =>
  ⟨G, w, δ, _, rep, h, fun rs δ1 vs H1 G1 w1 q1 l1 s1 rep1 => by
    obtain ⟨qs, δ2, hz, q1⟩ := q1
    obtain ⟨G2, w2, s2, r2⟩ := rep1.rzs hz
    obtain ⟨δ3, w3, q3, s3, r3, p3, hl⟩ := Rep.stos [i, j] r2 q1 (rzAll_noAt hz)
    match vs, hl with
    | [v, u], _ => exact ⟨v, u, rfl, ek.nx _ _ H1 G2 w3 q3 ((s1.trans s2).trans s3) r3 ((Pin.refl (σ := σ)).trans (s1.trans s2).pn p3)⟩⟩
end
/-! ### targets of data -/
abbrev PGx := PyData → List Sl → (List Sl → Prop) → Prop
abbrev PGxs := List PyData → List Sl → (List Sl → Prop) → Prop
def gN (i : Nat) : PGx := fun d δ Q => setS i (.im d) δ Q
def gsN : PGxs := fun ds δ Q => ds = [] ∧ Q δ
def gsC (g : PGx) (gs : PGxs) : PGxs := fun ds δ Q => match ds with
  | d :: ds => g d δ fun δ' => gs ds δ' Q
  | [] => False
def gT (n : Nat) (gs : PGxs) : PGx := fun d δ Q => match d with
  | .tuple ds => ds.length = n ∧ gs ds δ Q
  | _ => False
/-- only the slots ts are stored to -/
def Tch (ts : List Nat) (σ σ' : St) : Prop := σ'.length = σ.length ∧ ∀ k, k ∉ ts → σ'[k]? = σ[k]?
theorem Tch.refl {ts : List Nat} {σ : St} : Tch ts σ σ := ⟨rfl, fun _ _ => rfl⟩
theorem Tch.trans {ts us : List Nat} {σ σ1 σ2 : St} (a : Tch ts σ σ1) (b : Tch us σ1 σ2) : Tch (ts ++ us) σ σ2 := ⟨b.1.trans a.1, fun k hk => (b.2 k fun z => hk (List.mem_append_right _ z)).trans (a.2 k fun z => hk (List.mem_append_left _ z))⟩
def LG (K : PySem.W.Frag) (B : Bas) (ts : List Nat) (g : PGx) : TG := fun v σ H Q => ∃ G w δ d Qp, Rep K B G H σ δ [] [] w ∧ Dq K G v d ∧ g d δ Qp ∧ ∀ δ' σ' H' G' w', Qp δ' → Stp B.T G H w δ G' H' w' δ' → Rep K B G' H' σ' δ' [] [] w' → Pin σ δ σ' → Tch ts σ σ' → Q σ' H'
def LGs (K : PySem.W.Frag) (B : Bas) (ts : List Nat) (g : PGxs) : TGs := fun vs σ H Q => ∃ G w δ ds Qp, Rep K B G H σ δ [] [] w ∧ DqAll K G vs ds ∧ g ds δ Qp ∧ ∀ δ' σ' H' G' w', Qp δ' → Stp B.T G H w δ G' H' w' δ' → Rep K B G' H' σ' δ' [] [] w' → Pin σ δ σ' → Tch ts σ σ' → Q σ' H'
section
variable {X : Cx} {pos : Pos}
theorem PG_wk {e : Expr} {t t' : TG} (h : PG X e t) (k : ∀ v σ H Q, t' v σ H Q → t v σ H Q) : PG X e t' := ⟨fun pins s σ H v u Q I r q => h.run pins s σ H v u Q I r (k v σ H Q q)⟩
theorem PGs_wk {es : List Expr} {t t' : TGs} (h : PGs X es t) (k : ∀ v σ H Q, t' v σ H Q → t v σ H Q) : PGs X es t' := ⟨fun pins s σ H v u Q I r q => h.run pins s σ H v u Q I r (k v σ H Q q)⟩
def JG (X : Cx) (B : Bas) (e : Expr) (ts : List Nat) (g : PGx) : Prop := PG X e (LG X.K B ts g)
def JGs (X : Cx) (B : Bas) (es : List Expr) (ts : List Nat) (g : PGxs) : Prop := PGs X es (LGs X.K B ts g)
theorem jg_name {i : Nat} {x : Str} (hN : X.N.Nodup) (hi : X.N[i]? = some x) (hx : Loc X.env.scope x) (hf : X.fn x = true ∨ X.env.scope.names.lookup x = some .local := by first | exact .inl rfl | exact .inr rfl | assumption) : JG X B (.Name x pos) [i] (gN i) :=
  PG_wk (pg_name hN hi hx hf) fun v σ H Q ⟨G, w, δ, d, Qp, rep, hd, h, k⟩ => by
    obtain ⟨w3, q3, s3, r3, p3⟩ := (rep.ret hd).sto (show setS i (.im d) δ Qp from h) rfl (fun p hp => by cases hp)
    exact k _ _ H G w3 q3 (Stp.drop.trans s3) r3 p3 ⟨List.length_set, fun k hk => List.getElem?_set_ne fun z => hk (by rw [z]; exact List.mem_singleton.mpr rfl)⟩
theorem jgs_nil : JGs X B [] [] gsN := PGs_wk pgs_nil fun vs σ H Q ⟨G, w, δ, ds, Qp, rep, hd, h, k⟩ => by
  obtain ⟨rfl, h⟩ := h
  exact ⟨dqAll_nil hd, k δ σ H G w h .refl rep .refl .refl⟩
theorem jgs_cons {e : Expr} {es : List Expr} {ts us : List Nat} {g : PGx} {gs : PGxs} (h1 : JG X B e ts g) (h2 : JGs X B es us gs)
    (hs : (assignEach (e :: es) X.env).map (·.2) = assign e X.env :: (assignEach es X.env).map (·.2) := by rfl) : JGs X B (e :: es) (ts ++ us) (gsC g gs) := PGs_wk (pgs_cons h1 h2 hs) fun vs σ H Q ⟨G, w, δ, ds, Qp, rep, hd, h, k⟩ => by
  cases hd with
  | nil => exact h.elim
  | cons h1 h2 =>
    exact ⟨_, _, rfl, G, w, δ, _, _, rep, h1, h, fun δ' σ' H' G' w' hq s r p t => ⟨G', w', δ', _, Qp, r, dpAll_mono s.g _ _ h2, hq, fun δ2 σ2 H2 G2 w2 hq2 s2 r2 p2 t2 => k δ2 σ2 H2 G2 w2 hq2 (s.trans s2) r2 (p.trans s.pn p2) (t.trans t2)⟩⟩
theorem jg_tup {es : List Expr} {k : Nat} {ts : List Nat} {g : PGxs} {n : Nat} (hc : X.calm = true) (h : JGs X B es ts g)
    (hn : (assignEach es X.env).length = n := by rfl) (hst : (assignEach es X.env).findIdx? (·.1) = none := by rfl) : JG X B (.Tuple es k pos) ts (gT n g) := PG_wk (pg_tup hc h hn hst) fun v σ H Q ⟨G, w, δ, d, Qp, rep, hd, h, k⟩ => by
  unfold gT at h
  revert h
  split
  · intro h
    cases hd with
    | tup hs ha => exact ⟨_, _, rfl, Same.tp rep.sub _ _ hs, (dqAll_len ha).trans h.1, G, w, δ, _, Qp, rep, ha, h.2, k⟩
  · intro h; exact h.elim
end
end Pv
namespace Pv
open PySem PySem.Spec L2 Wf
variable {B : Bas}
/-! ### a list of one's own is changed -/
section
variable {K : PySem.W.Frag} {G H : Hp} {σ : St} {δ : List Sl} {vs : List V} {rs : List R} {w : Addr → Option Nat}
theorem Rep.own (r : Rep K B G H σ δ vs rs w) {i : Nat} {b : Bool} {ds : List PyData} (h : δ[i]? = some (.ow b (.lst ds))) : ∃ a us, σ[i]? = some (some (.ref a)) ∧ w a = some (2 * i) ∧ H a = some (.lst us) ∧ DqAll K G us ds := by
  obtain ⟨v, hv, a, us, rfl, ma, ha, hd⟩ := r.sl i _ h
  exact ⟨a, us, hv, ma, ha, hd⟩
theorem Rep.wr (r : Rep K B G H σ δ vs rs w) {i : Nat} {b : Bool} {ds ds' : List PyData} {a : Addr} {us us' : List V} (h : δ[i]? = some (.ow b (.lst ds))) (hσ : σ[i]? = some (some (.ref a))) (hw : w a = some (2 * i)) (ha : H a = some (.lst us)) (hd : DqAll K G us' ds') :
    Stp B.T G H w δ G (upd H a (.lst us')) w (δ.set i (.ow b (.lst ds'))) ∧ Rep K B G (upd H a (.lst us')) σ (δ.set i (.ow b (.lst ds'))) vs rs w := by
  have hi : i < δ.length := (List.getElem?_eq_some_iff.mp h).1
  have ne : ∀ x n, w x = some n → n ≠ 2 * i → x ≠ a := fun x n hx hn z => by subst z; rw [hw] at hx; cases hx; exact hn rfl
  have g0 := (r.out a _ hw).1
  have st : Stp B.T G H w δ G (upd H a (.lst us')) w (δ.set i (.ow b (.lst ds'))) := by
    refine .of ⟨fun _ _ h => h, fun x o hx ho => ?_, fun x n hx => .inl (by rw [hx]; exact Option.some_ne_none _), fun _ _ h => .inl h, fun k o hk => ?_⟩ (tabs_put ha)
    · rw [upd_ne (fun z => by subst z; rw [hw] at hx; cases hx)]
      exact ho
    · by_cases e : i = k
      · subst e
        rw [h] at hk
        cases hk
        exact ⟨_, List.getElem?_set_self hi⟩
      · exact ⟨o, by rw [List.getElem?_set_ne e]; exact hk⟩
  refine ⟨st, fun x o hx => ?_, fun x n hx => ?_, by rw [List.length_set]; exact r.len, fun k s hk => ?_, r.tlen, fun j v q hv hq => ?_, st.bs r.bs⟩
  · have : x ≠ a := fun z => by subst z; rw [g0] at hx; cases hx
    rw [upd_ne this]
    exact r.sub x o hx
  · obtain ⟨h1, h2, h3⟩ := r.out x n hx
    by_cases e : x = a
    · subst e
      rw [upd_same]
      exact ⟨h1, Option.some_ne_none _, NoX.lst upd_same⟩
    · rw [upd_ne e]
      exact ⟨h1, h2, noT_upd e h3⟩
  · by_cases e : i = k
    · subst e
      rw [List.getElem?_set_self hi] at hk
      cases hk
      exact ⟨_, hσ, a, us', rfl, hw, upd_same, hd⟩
    · rw [List.getElem?_set_ne e] at hk
      refine (r.sl k s hk).mono (fun _ _ h => h) (fun x u mx hu => ?_) fun x u mx _ => mx
      rw [upd_ne (ne x _ mx (by omega))]
      exact hu
  · refine (r.tm j v q hv hq).mono (fun _ _ h => h) (fun x u mx hu => ?_) fun x u mx _ => mx
    rw [upd_ne (ne x _ mx (by omega))]
    exact hu
end
/-- a method of one's own list: its items, the arguments; what is told, the items then -/
def pMt (f : List PyData → List PyData → (PyData → List PyData → Prop) → Prop) (po : PX) (ps : PL) : PX := fun δ Q => po δ fun ro δ1 => ∃ i b0 ds0, ro = .at i ∧ δ1[i]? = some (.ow b0 (.lst ds0)) ∧ ps δ1 fun rs δ2 => ∃ as δ3 b ds, fzAll δ2 rs = some (as, δ3) ∧ δ3[i]? = some (.ow b (.lst ds)) ∧
  f ds as fun d ds' => Q (.im d) (δ3.set i (.ow b (.lst ds')))
def MtV (K : PySem.W.Frag) (f : List PyData → List PyData → (PyData → List PyData → Prop) → Prop) (r : V → List V → Hp → VK → Prop) : Prop :=
  ∀ (G H : Hp) (a : Addr) (us vs : List V) (ds as : List PyData) (Qp : PyData → List PyData → Prop) (Q : VK), H a = some (.lst us) → DqAll K G us ds → DqAll K G vs as → f ds as Qp → (∀ d ds' v us', Qp d ds' → Dq K G v d → DqAll K G us' ds' → Q v (upd H a (.lst us'))) → r (.ref a) vs H Q
section
variable {X : Cx} {o e : Expr} {es : List Expr} {po : PX} {ps : PL} {name : Str} {apos cpos pos : Pos} {id : String} {r : V → List V → Hp → VK → Prop} {f : List PyData → List PyData → (PyData → List PyData → Prop) → Prop}
theorem mt_go {Q : VK} {σ : St} {G H G1 H1 : Hp} {w w1 : Addr → Option Nat} {δ δ1 : List Sl} {Qp : QE} {x : V} {i : Nat} (hm : MtV X.K f r)
    (k : ∀ r δ' v H' G' w', Qp r δ' → Stp B.T G H w δ G' H' w' δ' → Rep X.K B G' H' σ δ' [v] [r] w' → Q v H') (s1 : Stp B.T G H w δ G1 H1 w1 δ1) {vs : List V} {rs : List R} (rep1 : Rep X.K B G1 H1 σ δ1 vs rs w1) (hx : σ[i]? = some (some x))
    {as : List PyData} {δ3 : List Sl} {b : Bool} {ds : List PyData} (e1 : fzAll δ1 rs = some (as, δ3)) (e2 : δ3[i]? = some (.ow b (.lst ds))) (q : f ds as fun d ds' => Qp (.im d) (δ3.set i (.ow b (.lst ds')))) : r x vs H1 Q := by
  obtain ⟨G2, w2, s2, r2⟩ := rep1.fzs e1
  obtain ⟨a, us, hσ, hw, ha, hd⟩ := r2.own e2
  rw [hx] at hσ
  cases hσ
  refine hm G2 H1 a us vs ds as _ Q ha hd r2.ims q fun d ds' v us' hq hv hu => ?_
  obtain ⟨s3, r3⟩ := r2.wr e2 hx hw ha hu
  exact k _ _ v _ G2 _ hq (((s1.trans s2).trans s3).trans .drop) (r3.ret hv)
theorem je_mt (pa : PlainAttrs "list") (slot : Slot "list" name id) (hty : typeOf (.builtin id) = pure (.type "method_descriptor")) (hm : MtR X id r) (hv : MtV X.K f r) (ho : JE X B o po) (ha : JA X B (e :: es) ps)
    (hbase : attributeBase o name X.env (eval o X.env) = eval o X.env := by rfl)
    (hfew : ((backTo cpos (starEach (e :: es) X.env)).all (fun x => !x.1) && (backToKw cpos (keywordEach [] X.env)).all (fun x => x.1.isSome)
      && decide ((e :: es).length + ([] : List Keyword).length + (if ([] : List Keyword).isEmpty then 0 else 1) < 30)) = true := by rfl)
    (hline : (apos.endLine == cpos.line) = true := by rfl) (hs : starEach (e :: es) X.env = (false, eval e X.env) :: starEach es X.env := by rfl) (hplain : (backTo cpos (starEach es X.env)).any (·.1) = false := by rfl) :
    JE X B (.Call (.Attribute o name apos) (e :: es) [] cpos) (pMt f po ps) := by
  refine PE_wk (pe_bm pa slot hty hm ho ha hbase hfew hline hs hplain) fun σ H Q ⟨G, w, δ, Qp, rep, q, k⟩ => ?_
  refine ⟨G, w, δ, _, rep, q, fun ro δ1 x H1 G1 w1 q1 s1 rep1 => ?_⟩
  obtain ⟨i, b0, ds0, rfl, e0, q1⟩ := q1
  have hx : σ[i]? = some (some x) := rep1.tm 0 x (.at i) rfl rfl
  obtain ⟨a0, us0, hσ0, _, ha0, _⟩ := rep1.own e0
  rw [hx] at hσ0
  cases hσ0
  refine ⟨.inl ⟨rfl, us0, SqL.of ha0⟩, G1, _, δ1, _, rep1.drop, q1, fun rs δ2 vs H2 G2 w2 q2 _ s2 rep2 => ?_⟩
  obtain ⟨as, δ3, b, ds, e1, e2, q2⟩ := q2
  exact mt_go hv k ((s1.trans .drop).trans s2) rep2 hx e1 e2 q2
def mAppend : List PyData → List PyData → (PyData → List PyData → Prop) → Prop
  | ds, [d], k => ds.length < sizeLine ∧ k .none (ds ++ [d])
  | _, _, _ => False
theorem mv_append {K : PySem.W.Frag} : MtV K mAppend rAppend := by
  intro G H a us vs ds as Qp Q ha hu hv q k
  match as, hv, q with
  | [d], .cons h1 .nil, q => exact ⟨a, us, _, rfl, rfl, ha, by rw [dqAll_len hu]; exact q.1, k _ _ _ _ q.2 .non (dqAll_append hu (.cons h1 .nil))⟩
  | [], _, q => exact q.elim
  | _ :: _ :: _, _, q => exact q.elim
/-! ### x[i] = .. -/
end
/-! ### what is walked -/
structure ItD (K : PySem.W.Frag) (G : Hp) (J : It) (ds : List PyData) : Prop where
  go : ∀ G' H' (i : Nat), Same G G' → Same G' H' → i < ds.length → J.go i H'
  yld : ∀ G' H' (i : Nat) x H2, Same G G' → Same G' H' → i < ds.length → J.yld i H' x H2 → ∃ d, ds[i]? = some d ∧ Res K G' H' x H2 d
  stop : ∀ G' H', Same G G' → Same G' H' → J.stop ds.length H'
abbrev PIx := List Sl → (List PyData → List Sl → Prop) → Prop
def LI (K : PySem.W.Frag) (B : Bas) (p : PIx) : TI := fun σ H R => ∃ G w δ Qp, Rep K B G H σ δ [] [] w ∧ p δ Qp ∧ ∀ ds δ' J H' G' w', Qp ds δ' → Stp B.T G H w δ G' H' w' δ' → Rep K B G' H' σ δ' [] [] w' → ItD K G' J ds → R J H'
def JI (X : Cx) (B : Bas) (tg iter : Expr) (p : PIx) : Prop := PI X tg iter (LI X.K B p)
theorem PI_wk {X : Cx} {tg iter : Expr} {t t' : TI} (h : PI X tg iter t) (k : ∀ σ H R, t' σ H R → t σ H R) : PI X tg iter t' := ⟨fun pins s σ H R I q => h.run pins s σ H R I (k σ H R q)⟩
theorem itd_list {K : PySem.W.Frag} {G : Hp} {a : Addr} {us : List V} {ds : List PyData} (ha : G a = some (.lst us)) (hd : DqAll K G us ds) : ItD K G (Itl K a) ds where
  go := fun G' H' i sg sh hi => by
    have hl := dqAll_len hd
    exact ⟨us, us[i]'(by omega), SqL.of (sh _ _ (sg _ _ ha)), by simp⟩
  yld := fun G' H' i x H2 sg sh hi y => by
    obtain ⟨rfl, y⟩ := y
    obtain ⟨v, hv, hq⟩ := dqAll_get hd (List.getElem?_eq_getElem hi)
    have e := y us (SqL.of (sh _ _ (sg _ _ ha)))
    rw [hv] at e
    cases e
    exact ⟨_, List.getElem?_eq_getElem hi, .old (dp_mono sg _ _ hq)⟩
  stop := fun G' H' sg sh => ⟨us, SqL.of (sh _ _ (sg _ _ ha)), by rw [dqAll_len hd]; exact Nat.le_refl _⟩
theorem itd_tup {K : PySem.W.Frag} {G : Hp} {a : Addr} {us : List V} {ds : List PyData} (ha : SqT K G a us) (hd : DqAll K G us ds) : ItD K G (Itt K a) ds where
  go := fun G' H' i sg sh hi => by
    have hl := dqAll_len hd
    exact ⟨us, us[i]'(by omega), Same.tp sh _ _ (Same.tp sg _ _ ha), by simp⟩
  yld := fun G' H' i x H2 sg sh hi y => by
    obtain ⟨rfl, y⟩ := y
    obtain ⟨v, hv, hq⟩ := dqAll_get hd (List.getElem?_eq_getElem hi)
    have e := y us (Same.tp sh _ _ (Same.tp sg _ _ ha))
    rw [hv] at e
    cases e
    exact ⟨_, List.getElem?_eq_getElem hi, .old (dp_mono sg _ _ hq)⟩
  stop := fun G' H' sg sh => ⟨us, Same.tp sh _ _ (Same.tp sg _ _ ha), by rw [dqAll_len hd]; exact Nat.le_refl _⟩
theorem itd_rng {K : PySem.W.Frag} {G : Hp} {a b : Int} : ItD K G (Itr a (b - a).toNat) (rgD a b) where
  go := fun G' H' i _ _ hi => by
    unfold rgD at hi
    rw [List.length_map, List.length_range] at hi
    exact hi
  yld := fun G' H' i x H2 _ _ hi y => by
    obtain ⟨rfl, rfl⟩ := y
    unfold rgD at hi ⊢
    rw [List.length_map, List.length_range] at hi
    exact ⟨.int (a + (i : Nat)), by rw [List.getElem?_map, List.getElem?_range hi]; rfl, .int⟩
  stop := fun G' H' _ _ => by
    unfold rgD
    rw [List.length_map, List.length_range]
    exact Nat.le_refl _
section
variable {X : Cx} {tg l a b : Expr} {pl pa pb : PX} {p pos : Pos}
/-- a list or a tuple -/
def iSeqU (K : PySem.W.Frag) (tl : TE) : TI := fun σ H R => tl σ H fun x H1 => ∃ a, x = .ref a ∧ (((∃ xs, SqL K H1 a xs) ∧ R (Itl K a) H1) ∨ ((∃ xs, SqT K H1 a xs) ∧ R (Itt K a) H1))
theorem pi_seqU {tl : TE} (hl : PE X l tl) : PI X tg l (iSeqU X.K tl) := by
  refine ⟨fun pins s σ H R I h => ?_⟩
  refine thn (hl.run pins s σ H _ I h) fun v s1 ⟨x, H1, I1, r1, q1⟩ => ?_
  obtain ⟨a, e, ⟨⟨xs, hq⟩, q⟩ | ⟨⟨xs, hq⟩, q⟩⟩ := q1
  · subst e
    cases r1
    obtain ⟨its, rv, p, hz⟩ := I1.list hq
    refine wpAny_pyIter_list p.isList ?_
    refine ⟨s1.heap.objs.size, [s1.heap.objs.size], _, _, H1, rfl, I1.kept (t' := s1.toks) fun b o e => Heap.get?_push_of_some _ e, turn_list a _, ⟨_, Heap.get?_push_size _ rfl, rfl, rfl⟩, fun b hb => ?_, q⟩
    have e : b = s1.heap.objs.size := by simpa using hb
    subst e
    exact I1.fpOk (Nat.le_refl _) (I1.hok.fresh (Nat.le_refl _))
  · subst e
    cases r1
    obtain ⟨its, rv, p, hz⟩ := I1.tuple hq
    refine wpAny_pyIter_tuple (show s1.heap.IsTuple a its.toArray from p) ?_
    refine ⟨s1.heap.objs.size, [s1.heap.objs.size], _, _, H1, rfl, I1.kept (t' := s1.toks) fun b o e => Heap.get?_push_of_some _ e, turn_tuple a _, ⟨_, Heap.get?_push_size _ rfl, rfl, rfl⟩, fun b hb => ?_, q⟩
    have e : b = s1.heap.objs.size := by simpa using hb
    subst e
    exact I1.fpOk (Nat.le_refl _) (I1.hok.fresh (Nat.le_refl _))
def seqD : PyData → Option (List PyData)
  | .list ds => some ds
  | .tuple ds => some ds
  | _ => none
def iSeq (p : PX) : PIx := fun δ Q => p δ fun r δ1 => ∃ d δ2 ds, fz δ1 r = some (d, δ2) ∧ seqD d = some ds ∧ Q ds δ2
theorem ji_seq (hl : JE X B l pl) : JI X B tg l (iSeq pl) := PI_wk (pi_seqU hl) fun σ H R ⟨G, w, δ, Qp, rep, q, k⟩ =>
  ⟨G, w, δ, _, rep, q, fun r δ1 v H1 G1 w1 q1 s1 rep1 => by
    obtain ⟨d, δ2, ds, hz, hs, q1⟩ := q1
    obtain ⟨G2, w2, s2, r2⟩ := rep1.fz1 (j := 0) rfl rfl hz
    have hd : Dq X.K G2 v d := r2.tm 0 v (.im d) rfl rfl
    cases d with
    | list es =>
      cases hs
      cases hd with
      | lst ha hds => exact ⟨_, rfl, .inl ⟨⟨_, SqL.of (r2.sub _ _ ha)⟩, k ds δ2 _ H1 G2 _ q1 ((s1.trans s2).trans .drop) r2.drop (itd_list ha hds)⟩⟩
    | tuple es =>
      cases hs
      cases hd with
      | tup ha hds => exact ⟨_, rfl, .inr ⟨⟨_, Same.tp r2.sub _ _ ha⟩, k ds δ2 _ H1 G2 _ q1 ((s1.trans s2).trans .drop) r2.drop (itd_tup ha hds)⟩⟩
    | none => cases hs
    | bool _ => cases hs
    | int _ => cases hs
    | str _ => cases hs
    | dict _ => cases hs⟩
def iRg (ps : PL) : PIx := fun δ Q => ps δ fun rs δ1 => match dats δ1 rs with
  | some [.int n] => -(2 ^ 62) ≤ n ∧ n < 2 ^ 62 ∧ Q (rgD 0 n) δ1
  | some [.int i, .int j] => (-(2 ^ 62) ≤ i ∧ i < 2 ^ 62 ∧ -(2 ^ 62) ≤ j ∧ j < 2 ^ 62) ∧ Q (rgD i j) δ1
  | _ => False
theorem vws1 {K : PySem.W.Frag} {G H : Hp} {vs : List V} {i : Int} (h : Vws K G H vs [.int i]) : vs = [.int i] := by
  cases h with
  | cons h1 h => cases h; rw [h1.int]
theorem vws_len {K : PySem.W.Frag} {G H : Hp} : ∀ {vs : List V} {ds : List PyData}, Vws K G H vs ds → vs.length = ds.length
  | _, _, .nil => rfl
  | _, _, .cons _ h => congrArg (· + 1) (vws_len h)
theorem ji_rng1 {ps : PL} (hg : Gl X "range") (hm : X.mg "range" = none) (ha : JA X B [a] ps) (hs : starEach [a] X.env = [(false, eval a X.env)] := by rfl) : JI X B tg (.Call (.Name "range" p) [a] [] pos) (iRg ps) := by
  refine PI_wk (pi_range1 hg hm ha hs) fun σ H R ⟨G, w, δ, Qp, rep, q, k⟩ => ?_
  refine ⟨G, w, δ, _, rep, q, fun rs δ1 vs H1 G1 w1 q1 l1 s1 rep1 => ?_⟩
  revert q1
  split
  · rename_i n e
    rintro ⟨b1, b2, q1⟩
    refine ⟨n, vws1 (rep1.vws e), b1, b2, k _ δ1 _ H1 G1 _ q1 (s1.trans .drop) rep1.drop ?_⟩
    have := itd_rng (K := X.K) (G := G1) (a := 0) (b := n)
    rwa [Int.sub_zero] at this
  · rename_i i j e
    intro q1
    have := vws_len (rep1.vws e)
    rw [rep1.tlen, l1] at this
    simp at this
  · intro q1; exact q1.elim
/-! ### for, while -/
/-- the slots ts are forgotten -/
def wp1 : Bool → Sl → Sl
  | true, .ow true o => .ow true o
  | true, _ => .un
  | false, s => s
def wpG (ts : List Nat) : Nat → List Sl → List Sl
  | _, [] => []
  | n, s :: δ => wp1 (ts.elem n) s :: wpG ts (n + 1) δ
def wipeT (δ : List Sl) (ts : List Nat) : List Sl := wpG ts 0 δ
theorem wpG_get (ts : List Nat) : ∀ (δ : List Sl) (n i : Nat), (wpG ts n δ)[i]? = (δ[i]?).map fun s => wp1 (ts.elem (n + i)) s
  | [], n, i => by simp [wpG]
  | s :: δ, n, 0 => by simp [wpG]
  | s :: δ, n, i + 1 => by
    simp only [wpG, List.getElem?_cons_succ, wpG_get ts δ (n + 1) i]
    have : n + 1 + i = n + (i + 1) := by omega
    rw [this]
theorem wpG_len (ts : List Nat) : ∀ (δ : List Sl) (n : Nat), (wpG ts n δ).length = δ.length
  | [], _ => rfl
  | s :: δ, n => by simp only [wpG, List.length_cons, wpG_len ts δ (n + 1)]
theorem wipeT_len (δ : List Sl) (ts : List Nat) : (wipeT δ ts).length = δ.length := wpG_len ts δ 0
theorem wipeT_get {δ : List Sl} {i : Nat} {s : Sl} {ts : List Nat} (h : (wipeT δ ts)[i]? = some s) : s = .un ∨ δ[i]? = some s := by
  unfold wipeT at h
  rw [wpG_get] at h
  obtain ⟨s', h1, rfl⟩ := Option.map_eq_some_iff.mp h
  cases hb : ts.elem (0 + i) with
  | false => exact .inr h1
  | true =>
    cases s' with
    | un => exact .inl rfl
    | im d => exact .inl rfl
    | ex a dd C fs => exact .inl rfl
    | ow b o =>
      cases b with
      | true => exact .inr h1
      | false => exact .inl rfl
theorem wipeT_pin {δ : List Sl} {i : Nat} {o : O} (h : δ[i]? = some (Sl.ow true o)) (ts : List Nat) : (wipeT δ ts)[i]? = some (Sl.ow true o) := by
  unfold wipeT
  rw [wpG_get, h]
  cases hb : ts.elem (0 + i) with
  | false => rfl
  | true => rfl
theorem Rep.wipe {K : PySem.W.Frag} {G H : Hp} {σ : St} {δ : List Sl} {w : Addr → Option Nat} (r : Rep K B G H σ δ [] [] w) (ts : List Nat) : Rep K B G H σ (wipeT δ ts) [] [] w := ⟨r.sub, r.out, by rw [wipeT_len]; exact r.len, fun i s h => by
  rcases wipeT_get h with rfl | h
  · trivial
  · exact r.sl i s h, rfl, fun j v q hv => by simp at hv, r.bs⟩
theorem Stp.wipe {G H G' H' : Hp} {w w' : Addr → Option Nat} {δ δ' : List Sl} (s : Stp B.T G H w δ G' H' w' δ') (ts : List Nat) : Stp B.T G H w δ G' H' w' (wipeT δ' ts) := ⟨s.g, s.b, s.n, s.p, fun i o h => by
  obtain ⟨o', h'⟩ := s.pn i o h
  exact ⟨o', wipeT_pin h' ts⟩, s.t, s.q⟩
/-- turn by turn, by a word I; ts: the slots that no later turn reads -/
def loopI (step : PyData → PSx) (ts : List Nat) (E : PEn) (ds : List PyData) (δ : List Sl) : Prop := ∃ I : Nat → List Sl → Prop, I 0 δ ∧
  (∀ (i : Nat) d δ, ds[i]? = some d → I i δ → step d ⟨fun δ' => I (i + 1) (wipeT δ' ts), E.rt, fun δ' => E.nx (wipeT δ' ts), fun δ' => I (i + 1) (wipeT δ' ts)⟩ δ) ∧ ∀ δ, I ds.length δ → E.nx δ
def pFor (ts : List Nat) (it : PIx) (g : PGx) (body : PSx) : PSx := fun E δ => it δ fun ds δ1 => loopI (fun d E δ => g d δ fun δ' => body E δ') ts E ds (wipeT δ1 ts)
theorem Rep.res {K : PySem.W.Frag} {G H H2 : Hp} {σ : St} {δ : List Sl} {vs : List V} {rs : List R} {w : Addr → Option Nat} {x : V} {d : PyData} (r : Rep K B G H σ δ vs rs w) (h : Res K G H x H2 d) : ∃ G2, Stp B.T G H w δ G2 H2 w δ ∧ Rep K B G2 H2 σ δ vs rs w ∧ Dq K G2 x d := by
  rcases h with ⟨rfl, h⟩ | ⟨p, us, l, rfl, hp, rfl, hd, rfl⟩
  · exact ⟨G, .refl, r, h⟩
  · obtain ⟨s1, r1⟩ := r.lay (o := .tup us) hp
    exact ⟨_, s1, r1, dq_newTup r.sub hp hd⟩
theorem js_for {iter : Expr} {body : List Stmt} {pi : PIx} {ts ts' : List Nat} {g : PGx} {pb : PSx} (hp : PassesOwn (model X.prog X.w) X.A X.env X.xe) (hc : X.calm = true) (hi : JI X B tg iter pi) (hg : JG X B tg ts' g) (hb : JSs X B body pb)
    (hs : ∀ x, foldedSetIterable iter X.env x = pure x := by intro _; rfl) : JS X B (.For tg iter body [] pos) (pFor ts pi g pb) := by
  refine PS_wk (ps_for hp hc hi hg hb (by assumption)) fun D σ H ⟨G, w, δ, E, rep, h, ek⟩ => ?_
  refine ⟨G, w, δ, _, rep, h, fun ds δ1 J H1 G1 w1 q1 s1 rep1 itd => ?_⟩
  obtain ⟨I, i0, is, ie⟩ := q1
  refine ⟨fun i m σ' H' => m = ds.length - i ∧ i ≤ ds.length ∧ ∃ G' w' δ', Stp B.T G H w δ G' H' w' δ' ∧ Same G1 G' ∧ Rep X.K B G' H' σ' δ' [] [] w' ∧ Pin σ δ σ' ∧ I i δ', ⟨ds.length, rfl, Nat.zero_le _, G1, w1, _, s1.wipe ts, fun _ _ h => h, rep1.wipe ts, .refl, i0⟩, ?_⟩
  rintro i m σ' H' ⟨rfl, hi, G', w', δ', st, sg, rp, pn, q⟩
  by_cases hlt : i < ds.length
  · have q := is i _ δ' (List.getElem?_eq_getElem hlt) q
    refine .inr ⟨itd.go G' H' i sg rp.sub hlt, fun σ2 H2 => i + 1 ≤ ds.length ∧ ∃ G' w' δ', Stp B.T G H w δ G' H2 w' δ' ∧ Same G1 G' ∧ Rep X.K B G' H2 σ2 δ' [] [] w' ∧ Pin σ δ σ2 ∧ I (i + 1) δ', fun σ2 H2 z => ⟨ds.length - (i + 1), by omega, rfl, z⟩, fun x H2 y => ?_⟩
    obtain ⟨d, hd, res⟩ := itd.yld G' H' i x H2 sg rp.sub hlt y
    rw [List.getElem?_eq_getElem hlt] at hd
    cases hd
    obtain ⟨G2, s2, r2, hq⟩ := rp.res res
    refine ⟨G2, w', δ', _, _, r2, hq, q, fun δ3 σ3 H3 G3 w3 q3 s3 r3 p3 _ => ⟨G3, w3, δ3, _, r3, q3, ?_⟩⟩
    have st3 := (st.trans s2).trans s3
    have pn3 : Pin σ δ σ3 := pn.trans (st.trans s2).pn p3
    have nx : ∀ δ4 σ4 H4 G4 w4, I (i + 1) (wipeT δ4 ts) → Stp B.T G3 H3 w3 δ3 G4 H4 w4 δ4 → Rep X.K B G4 H4 σ4 δ4 [] [] w4 → Pin σ3 δ3 σ4 → i + 1 ≤ ds.length ∧ ∃ G' w' δ', Stp B.T G H w δ G' H4 w' δ' ∧ Same G1 G' ∧ Rep X.K B G' H4 σ4 δ' [] [] w' ∧ Pin σ δ σ4 ∧ I (i + 1) δ' :=
      fun δ4 σ4 H4 G4 w4 hl s4 r4 p4 => ⟨hlt, G4, w4, _, (st3.trans s4).wipe ts, fun a o ha => s4.g a o (s3.g a o (s2.g a o (sg a o ha))), r4.wipe ts, pn3.trans st3.pn p4, hl⟩
    exact ⟨nx, (ek.later st3 pn3).rt, fun δ4 σ4 H4 G4 w4 hl s4 r4 p4 => ek.nx _ σ4 H4 G4 w4 hl ((st3.trans s4).wipe ts) (r4.wipe ts) (pn3.trans st3.pn p4), nx⟩
  · have ei : i = ds.length := by omega
    subst ei
    exact .inl ⟨itd.stop G' H' sg rp.sub, ek.nx δ' σ' H' G' w' (ie δ' q) st rp pn⟩
end
end Pv
namespace Pv
open PySem PySem.Spec L2 Wf
variable {B : Bas}
theorem RR.noAt {K : PySem.W.Frag} {G H : Hp} {σ σ' : St} {m : Addr → Prop} {v : V} {r : R} (h : RR K G H σ m v r) (n : isAt r = false) : RR K G H σ' m v r := by
  cases r with
  | im d => exact h
  | ow o => exact h
  | «at» i => cases n
theorem Rep.reσ {K : PySem.W.Frag} {G H : Hp} {σ σ' : St} {δ δ' : List Sl} {vs : List V} {rs : List R} {w : Addr → Option Nat} (r : Rep K B G H σ δ vs rs w) (hl : σ'.length = δ'.length) (hs : ∀ (i : Nat) s, δ'[i]? = some s → s = .un ∨ (δ[i]? = some s ∧ σ'[i]? = σ[i]?)) (hn : ∀ q ∈ rs, isAt q = false) : Rep K B G H σ' δ' vs rs w where
  sub := r.sub
  out := r.out
  len := hl
  sl := fun i s h => by
    rcases hs i s h with rfl | ⟨h1, h2⟩
    · trivial
    · rw [h2]; exact r.sl i s h1
  tlen := r.tlen
  tm := fun j v q hv hq => (r.tm j v q hv hq).noAt (hn q (List.mem_of_getElem? hq))
  bs := r.bs
/-- the frame where slots were stored to -/
theorem Rep.frameS {K : PySem.W.Frag} {G H G' H' : Hp} {σ σ' : St} {δ δ' : List Sl} {vs vs1 : List V} {rs rs1 : List R} {w w' : Addr → Option Nat} (r : Rep K B G H σ δ vs rs w) (hn : ∀ q ∈ rs, isAt q = false) (s : Stp B.T G H (fun a => evn (w a)) δ G' H' w' δ') (r' : Rep K B G' H' σ' δ' vs1 rs1 w') :
    ∃ w2, Stp B.T G H w δ G' H' w2 δ' ∧ Rep K B G' H' σ' δ' (vs ++ vs1) (rs ++ rs1) w2 := by
  -- the same addresses
  have odd : ∀ a n, w a = some n → n % 2 = 1 → w' a = none := fun a n h ho => by
    have e0 : evn (w a) = none := by
      cases e : evn (w a) with
      | none => rfl
      | some m =>
        have := evn_some.mp e
        rw [h] at this
        have z := this.1
        cases z
        omega
    obtain ⟨g0, h0, n0⟩ := r.out a n h
    cases e : w' a with
    | none => rfl
    | some i =>
      rcases s.n a i e with z | z
      · exact absurd e0 z
      · exact absurd z h0
  have evw : ∀ a i, w' a = some i → ∀ n, w a = some n → n % 2 = 0 := fun a i h n hn => by
    by_cases ho : n % 2 = 1
    · rw [odd a n hn ho] at h; cases h
    · omega
  have st : Stp B.T G H w δ G' H' (both rs.length w w') δ' := by
    refine ⟨s.g, fun a o hw ha => s.b a o (by show evn (w a) = none; rw [hw]; rfl) ha, fun a i h => ?_, fun a o h => ?_, s.pn, s.t, s.q⟩
    · cases e : w a with
      | some n => exact .inl (Option.some_ne_none _)
      | none =>
        have e1 : both rs.length w w' a = shf rs.length (w' a) := both_evn fun n hn => by rw [e] at hn; cases hn
        rw [e1] at h
        obtain ⟨m, hm, _⟩ := shf_some h
        rcases s.n a m hm with z | z
        · have z' := evn_ne z
          rw [e] at z'
          exact .inl z'
        · exact .inr z
    · rcases s.p a o h with z | z | z | z
      · exact .inl z
      · exact .inr (.inl z)
      · exact .inr (.inr (.inl (evn_ne z)))
      · exact .inr (.inr (.inr z))
  refine ⟨both rs.length w w', st, r'.sub, fun a i h => ?_, r'.len, fun i sl h => ?_, by rw [List.length_append, List.length_append, r.tlen, r'.tlen], fun j v q hv hr => ?_, st.bs r.bs⟩
  · by_cases ho : ∃ n, w a = some n ∧ n % 2 = 1
    · obtain ⟨n, hn', ho⟩ := ho
      have e0 : evn (w a) = none := by
        rw [hn']
        unfold evn
        dsimp only
        rw [if_neg (by omega)]
      obtain ⟨g0, h0, n0⟩ := r.out a n hn'
      refine ⟨?_, s.nn a e0 h0 n0⟩
      cases e3 : G' a with
      | none => rfl
      | some o =>
        rcases s.p a o e3 with z | z | z | ⟨xs, z⟩
        · rw [g0] at z; cases z
        · exact absurd z h0
        · exact absurd e0 z
        · exact absurd z (n0 xs)
    · have e1 : both rs.length w w' a = shf rs.length (w' a) := both_evn fun n hn => by
        by_cases z : n % 2 = 1
        · exact absurd ⟨n, hn, z⟩ ho
        · omega
      rw [e1] at h
      obtain ⟨m, hm, _⟩ := shf_some h
      exact r'.out a m hm
  · refine (r'.sl i sl h).mono (fun _ _ h => h) (fun _ _ _ h => h) fun a u ma _ => ?_
    rw [both_evn (evw a _ ma)]
    unfold shf
    rw [ma]
    dsimp only
    rw [if_pos (by omega)]
  · by_cases hj : j < vs.length
    · rw [List.getElem?_append_left hj] at hv
      rw [List.getElem?_append_left (by rw [← r.tlen]; exact hj)] at hr
      refine ((r.tm j v q hv hr).noAt (σ' := σ') (hn q (List.mem_of_getElem? hr))).monoN s.g (fun a u hnt ma hu => ?_) fun a u ma _ => both_odd ma (by omega)
      refine s.bN a u hnt ?_ hu
      show evn (w a) = none
      rw [ma]
      unfold evn
      dsimp only
      rw [if_neg (by omega)]
    · have hj : vs.length ≤ j := by omega
      rw [List.getElem?_append_right hj] at hv
      rw [List.getElem?_append_right (by rw [← r.tlen]; exact hj), ← r.tlen] at hr
      refine (r'.tm (j - vs.length) v q hv hr).mono (fun _ _ h => h) (fun _ _ _ h => h) fun a u ma _ => ?_
      rw [both_evn (evw a _ ma)]
      unfold shf
      rw [ma]
      dsimp only
      rw [if_neg (by omega), r.tlen.symm]
      congr 1
      omega
/-! ### comprehensions -/
def wipeS (δ : List Sl) : List Nat → List Sl
  | [] => δ
  | v :: vs => (wipeS δ vs).set v .un
def noPin (δ : List Sl) (vs : List Nat) : Prop := ∀ v ∈ vs, ∀ o, δ[v]? ≠ some (.ow true o)
def restS (δ0 δ : List Sl) : List Nat → List Sl
  | [] => δ
  | v :: vs => match δ0[v]? with
    | some (.im d) => (restS δ0 δ vs).set v (.im d)
    | _ => (restS δ0 δ vs).set v .un
theorem wipeS_len (δ : List Sl) : ∀ vs, (wipeS δ vs).length = δ.length
  | [] => rfl
  | v :: vs => by unfold wipeS; rw [List.length_set, wipeS_len δ vs]
theorem wipeS_get {δ : List Sl} {i : Nat} {s : Sl} : ∀ {vs : List Nat}, (wipeS δ vs)[i]? = some s → s = .un ∨ (δ[i]? = some s ∧ i ∉ vs)
  | [], h => .inr ⟨h, by simp⟩
  | v :: vs, h => by
    unfold wipeS at h
    by_cases hi : v = i
    · subst hi
      by_cases hv : v < (wipeS δ vs).length
      · rw [List.getElem?_set_self hv] at h; cases h; exact .inl rfl
      · rw [List.getElem?_eq_none (by simpa using hv)] at h; cases h
    · rw [List.getElem?_set_ne hi] at h
      rcases wipeS_get h with e | ⟨h1, h2⟩
      · exact .inl e
      · exact .inr ⟨h1, by simp only [List.mem_cons, not_or]; exact ⟨fun e => hi e.symm, h2⟩⟩
theorem wipeS_ne {δ : List Sl} {i : Nat} : ∀ {vs : List Nat}, i ∉ vs → (wipeS δ vs)[i]? = δ[i]?
  | [], _ => rfl
  | v :: vs, h => by
    simp only [List.mem_cons, not_or] at h
    unfold wipeS
    rw [List.getElem?_set_ne (Ne.symm h.1)]
    exact wipeS_ne h.2
theorem wipe_ne {σ : St} {i : Nat} : ∀ {vs : List Nat}, i ∉ vs → (wipe σ vs)[i]? = σ[i]?
  | [], _ => rfl
  | v :: vs, h => by
    simp only [List.mem_cons, not_or] at h
    unfold wipe
    rw [List.getElem?_set_ne (Ne.symm h.1)]
    exact wipe_ne h.2
theorem wipe_in {σ : St} {i : Nat} : ∀ {vs : List Nat}, i ∈ vs → i < σ.length → (wipe σ vs)[i]? = some none
  | [], h, _ => by cases h
  | v :: vs, h, hl => by
    unfold wipe
    by_cases e : v = i
    · subst e
      rw [List.getElem?_set_self (by rw [wipe_length]; exact hl)]
    · rw [List.getElem?_set_ne e]
      rcases List.mem_cons.mp h with z | z
      · exact absurd z.symm e
      · exact wipe_in z hl
theorem wipe_eq {σ σ' : St} {vs ts : List Nat} (t : Tch ts (wipe σ vs) σ') (h : ∀ i ∈ ts, i ∈ vs) : wipe σ' vs = wipe σ vs := by
  have hl : σ'.length = σ.length := by rw [t.1, wipe_length]
  apply List.ext_getElem?
  intro i
  by_cases hi : i ∈ vs
  · by_cases hb : i < σ.length
    · rw [wipe_in hi hb, wipe_in hi (by omega)]
    · rw [List.getElem?_eq_none (by rw [wipe_length]; omega), List.getElem?_eq_none (by rw [wipe_length]; omega)]
  · rw [wipe_ne hi, wipe_ne hi, t.2 i fun z => hi (h i z), wipe_ne hi]
theorem restS_ne {δ0 δ : List Sl} {i : Nat} : ∀ {vs : List Nat}, i ∉ vs → (restS δ0 δ vs)[i]? = δ[i]?
  | [], _ => rfl
  | v :: vs, h => by
    simp only [List.mem_cons, not_or] at h
    unfold restS
    split
    · rw [List.getElem?_set_ne (Ne.symm h.1)]; exact restS_ne h.2
    · rw [List.getElem?_set_ne (Ne.symm h.1)]; exact restS_ne h.2
theorem restS_len {δ0 δ : List Sl} : ∀ vs, (restS δ0 δ vs).length = δ.length
  | [] => rfl
  | v :: vs => by
    unfold restS
    split
    · rw [List.length_set, restS_len vs]
    · rw [List.length_set, restS_len vs]
theorem restS_in {δ0 δ : List Sl} {i : Nat} {s : Sl} : ∀ {vs : List Nat}, i ∈ vs → (restS δ0 δ vs)[i]? = some s → s = .un ∨ ∃ d, s = .im d ∧ δ0[i]? = some (.im d)
  | [], h, _ => by cases h
  | v :: vs, h, hs => by
    unfold restS at hs
    by_cases e : v = i
    · subst e
      revert hs
      split
      · rename_i d e0
        intro hs
        by_cases hb : v < (restS δ0 δ vs).length
        · rw [List.getElem?_set_self hb] at hs; cases hs; exact .inr ⟨d, rfl, e0⟩
        · rw [List.getElem?_eq_none (by simpa using hb)] at hs; cases hs
      · intro hs
        by_cases hb : v < (restS δ0 δ vs).length
        · rw [List.getElem?_set_self hb] at hs; cases hs; exact .inl rfl
        · rw [List.getElem?_eq_none (by simpa using hb)] at hs; cases hs
    · have hm : i ∈ vs := by
        rcases List.mem_cons.mp h with z | z
        · exact absurd z.symm e
        · exact z
      revert hs
      split
      · intro hs; rw [List.getElem?_set_ne e] at hs; exact restS_in hm hs
      · intro hs; rw [List.getElem?_set_ne e] at hs; exact restS_in hm hs
/-- turn by turn, by a word I over what is made so far -/
def compI (g : PGx) (tt : PB) (elt : PX) (vs : List Nat) (Kk : List PyData → List Sl → Prop) (ds : List PyData) (δ : List Sl) : Prop := ∃ I : Nat → List PyData → List Sl → Prop, I 0 [] δ ∧
  (∀ (i : Nat) d acc δ, ds[i]? = some d → I i acc δ → g d δ fun δ2 => tt δ2 fun b δ3 => if b = true then elt δ3 fun r δ4 => ∃ e δ5, fz δ4 r = some (e, δ5) ∧ acc.length < sizeLine ∧ I (i + 1) (acc ++ [e]) (wipeS δ5 vs) else I (i + 1) acc (wipeS δ3 vs)) ∧ ∀ acc δ, I ds.length acc δ → Kk acc δ
def pComp (it : PIx) (g : PGx) (tt : PB) (elt : PX) (vs : List Nat) : PX := fun δ Q => it δ fun ds δ1 => noPin δ1 vs ∧ compI g tt elt vs (fun acc δ2 => Q (.ow (.lst acc)) (restS δ1 δ2 vs)) ds (wipeS δ1 vs)
def pYes : PB := fun δ Q => Q true δ
theorem Stp.reδ {G H G' H' : Hp} {w w' : Addr → Option Nat} {δ δ' δ2 : List Sl} (s : Stp B.T G H w δ G' H' w' δ') (p : Pn δ δ2) : Stp B.T G H w δ G' H' w' δ2 := ⟨s.g, s.b, s.n, s.p, p, s.t, s.q⟩
section
variable {K : PySem.W.Frag} {G H : Hp} {σ : St} {δ : List Sl} {vs : List V} {rs : List R} {w : Addr → Option Nat}
theorem Rep.wrT {D : Addr} {ds ds' : List PyData} {us' : List V} (r : Rep K B G H σ δ (.ref D :: vs) (.ow (.lst ds) :: rs) w) (hd : DqAll K G us' ds') :
    ∃ us, H D = some (.lst us) ∧ DqAll K G us ds ∧ Stp B.T G H w δ G (upd H D (.lst us')) w δ ∧ Rep K B G (upd H D (.lst us')) σ δ (.ref D :: vs) (.ow (.lst ds') :: rs) w := by
  obtain ⟨a, us, e, ma, ha, hus⟩ := r.tm 0 _ _ rfl rfl
  cases e
  have hw : w D = some 1 := ma
  have ne : ∀ x n, w x = some n → n ≠ 1 → x ≠ D := fun x n hx hn z => by subst z; rw [hw] at hx; cases hx; exact hn rfl
  have g0 := (r.out D _ hw).1
  have st : Stp B.T G H w δ G (upd H D (.lst us')) w δ := by
    refine .of ⟨fun _ _ h => h, fun x o hx ho => ?_, fun x n hx => .inl (by rw [hx]; exact Option.some_ne_none _), fun _ _ h => .inl h, .refl _⟩ (tabs_put ha)
    rw [upd_ne (fun z => by subst z; rw [hw] at hx; cases hx)]
    exact ho
  refine ⟨us, ha, hus, st, fun x o hx => ?_, fun x n hx => ?_, r.len, fun k s hk => ?_, r.tlen, fun j v q hv hq => ?_, st.bs r.bs⟩
  · have : x ≠ D := fun z => by subst z; rw [g0] at hx; cases hx
    rw [upd_ne this]
    exact r.sub x o hx
  · obtain ⟨h1, h2, h3⟩ := r.out x n hx
    by_cases e : x = D
    · subst e
      rw [upd_same]
      exact ⟨h1, Option.some_ne_none _, NoX.lst upd_same⟩
    · rw [upd_ne e]
      exact ⟨h1, h2, noT_upd e h3⟩
  · refine (r.sl k s hk).mono (fun _ _ h => h) (fun x u mx hu => ?_) fun x u mx _ => mx
    rw [upd_ne (ne x _ mx (by omega))]
    exact hu
  · match j with
    | 0 =>
      simp only [List.getElem?_cons_zero, Option.some.injEq] at hv hq
      subst hv hq
      exact ⟨D, us', rfl, hw, upd_same, hd⟩
    | j + 1 =>
      refine (r.tm (j + 1) v q (by simpa using hv) (by simpa using hq)).mono (fun _ _ h => h) (fun x u mx hu => ?_) fun x u mx _ => mx
      rw [upd_ne (ne x _ mx (by omega))]
      exact hu
theorem Rep.first {v : V} {q : R} (r : Rep K B G H σ δ (v :: vs) (q :: rs) w) : Rep K B G H σ δ [v] [q] w := ⟨r.sub, r.out, r.len, r.sl, rfl, fun j u p hu hp => by
  match j with
  | 0 => exact r.tm 0 u p (by simpa using hu) (by simpa using hp)
  | j + 1 => simp at hu, r.bs⟩
end
def JTs (X : Cx) (B : Bas) (ifs : List Expr) (p : PB) : Prop := PTs X ifs (LB X.K B p)
theorem PTs_wk {X : Cx} {ifs : List Expr} {t t' : TT} (h : PTs X ifs t) (k : ∀ σ H Q, t' σ H Q → t σ H Q) : PTs X ifs t' := ⟨fun pins s σ H Q I q => h.run pins s σ H Q I (k σ H Q q)⟩
theorem jts_nil {X : Cx} : JTs X B [] pYes := PTs_wk pts_nil fun σ H Q ⟨G, w, δ, Qp, rep, q, k⟩ => k true δ H G w q .refl rep
theorem lc_lift {K : PySem.W.Frag} {pi : PIx} {ts vs : List Nat} {g : PGx} {tt : PB} {elt : PX} {σ : St} {H : Hp} {Q : VK} (hts : ∀ i ∈ ts, i ∈ vs) (h : LE K B (pComp pi g tt elt vs) σ H Q) : tLc (LI K B pi) (LG K B ts g) (LB K B tt) (LE K B elt) vs σ H Q := by
  obtain ⟨G, w, δ, Qp, rep, q, k⟩ := h
  refine ⟨G, w, δ, _, rep, q, fun ds δ1 J H1 G1 w1 q1 s1 rep1 itd D hD => ?_⟩
  obtain ⟨np, I, i0, is, ie⟩ := q1
  obtain ⟨w2, s2, r2⟩ := rep1.retLst (us := []) (ds := []) hD .nil
  have noA : ∀ acc : List PyData, ∀ p ∈ [R.ow (.lst acc)], isAt p = false := fun acc p hp => by rw [List.mem_singleton.mp hp]; rfl
  have ni : ∀ (i : Nat) o, δ[i]? = some (Sl.ow true o) → i ∉ vs := fun i o hi => by
    obtain ⟨o1, h1⟩ := s1.pn i o hi
    exact fun z => np i z o1 h1
  have pnw : ∀ {G' H' : Hp} {w' : Addr → Option Nat} {δ' : List Sl}, Stp B.T G H w δ G' H' w' δ' → Stp B.T G H w δ G' H' w' (wipeS δ' vs) := fun s => s.reδ fun i o hi => by
    obtain ⟨o1, h1⟩ := s.pn i o hi
    exact ⟨o1, by rw [wipeS_ne (ni i o hi)]; exact h1⟩
  refine ⟨fun i m H' => m = ds.length - i ∧ i ≤ ds.length ∧ ∃ G' w' δ' acc, Stp B.T G H w δ G' H' w' δ' ∧ Same G1 G' ∧ Rep K B G' H' (wipe σ vs) δ' [.ref D] [.ow (.lst acc)] w' ∧ I i acc δ', ⟨ds.length, rfl, Nat.zero_le _, G1, w2, wipeS δ1 vs, [], pnw (s1.trans s2), fun _ _ h => h, r2.reσ (by rw [wipe_length, wipeS_len]; exact r2.len) (fun i s hi => ?_) (noA _), i0⟩, ?_⟩
  · rcases wipeS_get hi with e | ⟨e1, e2⟩
    · exact .inl e
    · exact .inr ⟨e1, wipe_ne e2⟩
  rintro i m H' ⟨rfl, hi, G', w', δ', acc, st, sg, rp, q⟩
  by_cases hlt : i < ds.length
  · have q := is i _ acc δ' (List.getElem?_eq_getElem hlt) q
    refine .inr ⟨itd.go G' H' i sg rp.sub hlt, fun H2 => i + 1 ≤ ds.length ∧ ∃ G' w' δ' acc, Stp B.T G H w δ G' H2 w' δ' ∧ Same G1 G' ∧ Rep K B G' H2 (wipe σ vs) δ' [.ref D] [.ow (.lst acc)] w' ∧ I (i + 1) acc δ', fun H2 z => ⟨ds.length - (i + 1), by omega, rfl, z⟩, fun x H2 y => ?_⟩
    obtain ⟨d, hd, res⟩ := itd.yld G' H' i x H2 sg rp.sub hlt y
    rw [List.getElem?_eq_getElem hlt] at hd
    cases hd
    obtain ⟨G2, s2, r2, hq⟩ := rp.res res
    refine ⟨G2, _, δ', _, _, r2.drop, hq, q, fun δ3 σ3 H3 G3 w3 q3 s3 r3 p3 t3 => ⟨wipe_eq t3 hts, ?_⟩⟩
    obtain ⟨w4, s4, r4⟩ := r2.frameS (noA _) s3 r3
    have back : ∀ {G9 H9 : Hp} {w9 : Addr → Option Nat} {δ9 : List Sl} {acc9 : List PyData}, Rep K B G9 H9 σ3 δ9 [.ref D] [.ow (.lst acc9)] w9 → Rep K B G9 H9 (wipe σ vs) (wipeS δ9 vs) [.ref D] [.ow (.lst acc9)] w9 := fun {G9 H9 w9 δ9 acc9} r9 => by
      refine r9.reσ ?_ (fun k s hk => ?_) (noA _)
      · rw [wipe_length, wipeS_len, ← r9.len, t3.1, wipe_length]
      · rcases wipeS_get hk with e | ⟨e1, e2⟩
        · exact .inl e
        · exact .inr ⟨e1, (t3.2 k fun z => e2 (hts k z)).symm⟩
    refine ⟨G3, _, δ3, _, r4.drop, q3, fun b δ5 H5 G5 w5 q5 s5 r5 => ?_⟩
    obtain ⟨w6, s6, r6⟩ := r4.frame s5 r5
    have st6 := ((st.trans s2).trans s4).trans s6
    have sg6 : Same G1 G5 := fun a o ha => s6.g a o (s4.g a o (s2.g a o (sg a o ha)))
    cases b with
    | false => exact ⟨hlt, G5, w6, _, acc, pnw st6, sg6, back r6, q5⟩
    | true =>
      refine ⟨G5, _, δ5, _, r6.drop, q5, fun r δ7 y H7 G7 w7 q7 s7 r7 => ?_⟩
      obtain ⟨w8, s8, r8⟩ := r6.frame s7 r7
      obtain ⟨e, δ9, hz, hl, q7⟩ := q7
      obtain ⟨G9, w9, s9, r9⟩ := r8.fz1 (j := 1) rfl rfl hz
      have r9' : Rep K B G9 H7 σ3 δ9 [.ref D, y] [.ow (.lst acc), .im e] w9 := r9
      have hy : Dq K G9 y e := r9'.tm 1 y (.im e) rfl rfl
      obtain ⟨a, us, ea, ma, ha, hus⟩ := r9'.tm 0 (.ref D) (.ow (.lst acc)) rfl rfl
      cases ea
      obtain ⟨us2, h2, h3, s10, r10⟩ := r9'.wrT (dqAll_append hus (.cons hy .nil))
      refine ⟨us, ha, by rw [dqAll_len hus]; exact hl, hlt, G9, w9, _, acc ++ [e], pnw (((st6.trans s8).trans s9).trans s10), fun a o h => s9.g a o (s8.g a o (sg6 a o h)), back r10.first, q7⟩
  · have ei : i = ds.length := by omega
    subst ei
    refine .inl ⟨itd.stop G' H' sg rp.sub, k _ _ _ H' G' w' (ie acc δ' q) (st.reδ fun j o hj => ?_) ⟨rp.sub, rp.out, by rw [restS_len, ← rp.len, wipe_length], fun j s hj => ?_, rp.tlen, fun j v p hv hp => (rp.tm j v p hv hp).noAt (noA _ p (List.mem_of_getElem? hp)), rp.bs⟩⟩
    · obtain ⟨o1, h1⟩ := st.pn j o hj
      exact ⟨o1, by rw [restS_ne (ni j o hj)]; exact h1⟩
    · by_cases hm : j ∈ vs
      · rcases restS_in hm hj with rfl | ⟨d, rfl, e0⟩
        · trivial
        · obtain ⟨v, hv, hd⟩ := rep1.sl j _ e0
          exact ⟨v, hv, dp_mono sg _ _ hd⟩
      · rw [restS_ne hm] at hj
        have := rp.sl j s hj
        rwa [wipe_ne hm] at this
section
variable {X : Cx}
theorem je_lc {elt tg iter : Expr} {ifs : List Expr} {scope : Scope} {own : List (Str × Nat)} {pos : Pos} {pi : PIx} {ts : List Nat} {g : PGx} {tt : PB} {pe : PX} (hc : X.calm = true) (hN : X.N.Nodup) (hi : JI X B tg iter pi) (ok : BlkOk X.N X.env.scope scope own)
    (hg : ∀ (s : Shared) (H : Hp) (C : Addr) (cl : List (Str × Addr)) (fp : List Addr), JG (X.blk s H scope (compEnvC scope cl C X.env) fp) B tg ts g) (ht : ∀ (s : Shared) (H : Hp) (C : Addr) (cl : List (Str × Addr)) (fp : List Addr), JTs (X.blk s H scope (compEnvC scope cl C X.env) fp) B ifs tt)
    (he : ∀ (s : Shared) (H : Hp) (C : Addr) (cl : List (Str × Addr)) (fp : List Addr), JE (X.blk s H scope (compEnvC scope cl C X.env) fp) B elt pe) (hts : ∀ i ∈ ts, i ∈ own.map (·.2) := by decide) (hs : ∀ x, foldedSetIterable iter X.env x = pure x := by intro _; rfl) :
    JE X B (.ListComp elt [⟨tg, iter, ifs, 0⟩] scope pos) (pComp pi g tt pe (own.map (·.2))) := PE_wk (pe_lc (g := LG X.K B ts g) (tt := LB X.K B tt) (te := LE X.K B pe) hc hN hi ok hg ht he hs) fun σ H Q h => lc_lift hts h
end
end Pv
namespace Pv
open PySem PySem.Spec L2 Wf
variable {B : Bas}
/-! ### defs -/
abbrev EX := Addr → List (Str × PyData) → Prop
/-- what a def does: its arguments (data, or a thing of the caller's), what is told and how these things stand then; what is raised -/
abbrev PSp := List Sl → QE → EX → Prop
/-- no tables -/
def nTb : Option HO → Option HO
  | some (.tbl _) => none
  | o => o
theorem nTb_some {x : Option HO} {o : HO} (h : nTb x = some o) : x = some o ∧ NT o := by
  cases x with
  | none => cases h
  | some u => cases u <;> first | (cases h; done) | exact ⟨h, fun ps z => by subst z; cases h⟩
theorem nTb_of {x : Option HO} {o : HO} (h : x = some o) (n : NT o) : nTb x = some o := by
  subst h
  cases o <;> first | rfl | exact absurd rfl (n _)
def B0h (H : Hp) (w : Addr → Option Nat) : Hp := fun a => match w a with
  | none => nTb (H a)
  | some _ => none
def B0 (T : List NdefX.NTab) (H : Hp) (w : Addr → Option Nat) : Bas := ⟨B0h H w, H, T⟩
theorem B0_some {T : List NdefX.NTab} {H : Hp} {w : Addr → Option Nat} {a : Addr} {o : HO} (h : B0 T H w a = some o) : H a = some o ∧ w a = none ∧ NT o := by
  have h : B0h H w a = some o := h
  unfold B0h at h
  split at h
  · rename_i e
    obtain ⟨h1, h2⟩ := nTb_some h
    exact ⟨h1, e, h2⟩
  · cases h
/-- an error's fields, as they stand -/
inductive FlP (K : PySem.W.Frag) (H : Hp) : List (Str × V) → List (Str × PyData) → Prop
  | nil : FlP K H [] []
  | cons {x : Str} {v : V} {d : PyData} {us : List (Str × V)} {fs : List (Str × PyData)} : Dp K H v d → noL d = true → FlP K H us fs → FlP K H ((x, v) :: us) ((x, d) :: fs)
/-- what is wanted of an error that leaves -/
def XOk (K : PySem.W.Frag) (B : Bas) (Ep : EX) (E : XK) : Prop := ∀ C fs us d H', Ep C fs → Same B.hp H' → TbG B.T B.ht H' → B d = none → H' d = some (.xd us) → FlP K H' us fs → E (.ref C) (some d) H'
def LSp (K : PySem.W.Frag) (T : List NdefX.NTab) (ps : PSp) : Sp := fun vs H Q E => ∃ G w as Qp Ep, Rep K (B0 T H w) G H (vs.map some) as [] [] w ∧ (∀ s ∈ as, s = .un ∨ (∃ d, s = .im d) ∨ ∃ o, s = .ow true o) ∧ ps as Qp Ep ∧
  (∀ r δ' v H' G' w', Qp r δ' → isAt r = false → Stp T G H w as G' H' w' δ' → Rep K (B0 T H w) G' H' (vs.map some) δ' [v] [r] w' → Q v H') ∧ XOk K (B0 T H w) Ep E
def outs : List Sl → List Sl → List Sl
  | [], _ => []
  | .ow true _ :: as, d :: ds => d :: outs as ds
  | _ :: as, _ :: ds => .un :: outs as ds
  | _ :: as, [] => .un :: outs as []
theorem outs_len : ∀ (as ds : List Sl), (outs as ds).length = as.length
  | [], _ => rfl
  | .ow true _ :: as, d :: ds => by simp only [outs, List.length_cons, outs_len as ds]
  | .ow false _ :: as, d :: ds => by simp only [outs, List.length_cons, outs_len as ds]
  | .un :: as, d :: ds => by simp only [outs, List.length_cons, outs_len as ds]
  | .im _ :: as, d :: ds => by simp only [outs, List.length_cons, outs_len as ds]
  | .ex _ _ _ _ :: as, d :: ds => by simp only [outs, List.length_cons, outs_len as ds]
  | a :: as, [] => by
    have e : outs (a :: as) [] = .un :: outs as [] := by
      cases a with
      | un => rfl
      | im d => rfl
      | ex _ _ _ _ => rfl
      | ow b o => cases b <;> rfl
    rw [e, List.length_cons, List.length_cons, outs_len as []]
theorem outs_get : ∀ (as ds : List Sl) (i : Nat) {s : Sl}, (outs as ds)[i]? = some s → s = .un ∨ ((∃ o, as[i]? = some (.ow true o)) ∧ ds[i]? = some s)
  | [], _, _, s, h => by simp [outs] at h
  | .ow true o :: as, d :: ds, 0, s, h => by
    simp only [outs, List.getElem?_cons_zero, Option.some.injEq] at h
    exact .inr ⟨⟨o, rfl⟩, by simp [h]⟩
  | .ow true o :: as, d :: ds, i + 1, s, h => by
    rcases outs_get as ds i (by simpa [outs] using h) with e | ⟨⟨o', e1⟩, e2⟩
    · exact .inl e
    · exact .inr ⟨⟨o', by simpa using e1⟩, by simpa using e2⟩
  | .ow false o :: as, d :: ds, 0, s, h => by simp only [outs, List.getElem?_cons_zero, Option.some.injEq] at h; exact .inl h.symm
  | .un :: as, d :: ds, 0, s, h => by simp only [outs, List.getElem?_cons_zero, Option.some.injEq] at h; exact .inl h.symm
  | .im _ :: as, d :: ds, 0, s, h => by simp only [outs, List.getElem?_cons_zero, Option.some.injEq] at h; exact .inl h.symm
  | .ex _ _ _ _ :: as, d :: ds, 0, s, h => by simp only [outs, List.getElem?_cons_zero, Option.some.injEq] at h; exact .inl h.symm
  | .ow false o :: as, d :: ds, i + 1, s, h => by
    rcases outs_get as ds i (by simpa [outs] using h) with e | ⟨⟨o', e1⟩, e2⟩
    · exact .inl e
    · exact .inr ⟨⟨o', by simpa using e1⟩, by simpa using e2⟩
  | .un :: as, d :: ds, i + 1, s, h => by
    rcases outs_get as ds i (by simpa [outs] using h) with e | ⟨⟨o', e1⟩, e2⟩
    · exact .inl e
    · exact .inr ⟨⟨o', by simpa using e1⟩, by simpa using e2⟩
  | .im _ :: as, d :: ds, i + 1, s, h => by
    rcases outs_get as ds i (by simpa [outs] using h) with e | ⟨⟨o', e1⟩, e2⟩
    · exact .inl e
    · exact .inr ⟨⟨o', by simpa using e1⟩, by simpa using e2⟩
  | .ex _ _ _ _ :: as, d :: ds, i + 1, s, h => by
    rcases outs_get as ds i (by simpa [outs] using h) with e | ⟨⟨o', e1⟩, e2⟩
    · exact .inl e
    · exact .inr ⟨⟨o', by simpa using e1⟩, by simpa using e2⟩
  | a :: as, [], i, s, h => by
    have e : outs (a :: as) [] = .un :: outs as [] := by
      cases a with
      | un => rfl
      | im d => rfl
      | ex _ _ _ _ => rfl
      | ow b o => cases b <;> rfl
    rw [e] at h
    match i with
    | 0 => simp only [List.getElem?_cons_zero, Option.some.injEq] at h; exact .inl h.symm
    | i + 1 =>
      rcases outs_get as [] i (by simpa using h) with e | ⟨_, e2⟩
      · exact .inl e
      · simp at e2
theorem outs_own : ∀ (as ds : List Sl) (i : Nat) {o : O} {s : Sl}, as[i]? = some (.ow true o) → ds[i]? = some s → (outs as ds)[i]? = some s
  | [], _, _, _, _, h, _ => by simp at h
  | _ :: _, [], _, _, _, _, h => by simp at h
  | a :: as, d :: ds, 0, o, s, h, h2 => by
    simp only [List.getElem?_cons_zero, Option.some.injEq] at h h2
    subst h h2
    rfl
  | a :: as, d :: ds, i + 1, o, s, h, h2 => by
    have ih := outs_own as ds i (o := o) (s := s) (by simpa using h) (by simpa using h2)
    cases a with
    | un => simpa [outs] using ih
    | im d => simpa [outs] using ih
    | ex _ _ _ _ => simpa [outs] using ih
    | ow b o => cases b <;> simpa [outs] using ih
def endsP (as : List Sl) (Qp : QE) : PEn := { nx := fun δ => Qp (.im .none) (outs as δ), rt := fun r δ => Qp r (outs as δ) }
/-- a def's body keeps its promise -/
theorem fn_lift {K : PySem.W.Frag} {N : List Str} {ps : PSp} {p : EX → PSx} {vs : List V} {H : Hp} {Q : VK} {E : XK} {m : Nat} (hN : N.length = m) (hp : ∀ as Qp Ep, ps as Qp Ep → p Ep (endsP as Qp) (as ++ List.replicate (m - as.length) .un)) {T : List NdefX.NTab} (h : LSp K T ps vs H Q E) (hl : vs.length ≤ m) :
    ∃ (Bh Bt : Hp) (Ep : EX), XOk K ⟨Bh, Bt, T⟩ Ep E ∧ LS K ⟨Bh, Bt, T⟩ (p Ep) { nx := fun _ H' => Q .non H', rt := Q } (L2.start N vs) H := by
  obtain ⟨G, w, as, Qp, Ep, rep, hk, hps, k, x⟩ := h
  have la : vs.length = as.length := by have := rep.len; rwa [List.length_map] at this
  refine ⟨B0h H w, H, Ep, x, G, w, as ++ List.replicate (m - as.length) .un, endsP as Qp, ?_, hp as Qp Ep hps, ?_⟩
  · refine ⟨rep.sub, rep.out, ?_, fun i s hi => ?_, rfl, fun j v r hv => by simp at hv, rep.bs⟩
    · unfold L2.start
      rw [List.length_append, List.length_append, List.length_map, List.length_replicate, List.length_replicate, la, hN]
    · by_cases hi2 : i < as.length
      · rw [List.getElem?_append_left hi2] at hi
        have := rep.sl i s hi
        unfold L2.start
        rw [List.getElem?_append_left (by rw [List.length_map, la]; exact hi2)]
        exact this
      · rw [List.getElem?_append_right (by omega)] at hi
        have e : s = .un := by
          have := List.getElem?_eq_some_iff.mp hi
          obtain ⟨h1, h2⟩ := this
          simpa using h2.symm
        subst e
        trivial
  · have fin : ∀ (r : R) δ' v σ' H' G' w', isAt r = false → Stp T G H w (as ++ List.replicate (m - as.length) .un) G' H' w' δ' → Rep K (B0 T H w) G' H' σ' δ' [v] [r] w' → Pin (L2.start N vs) (as ++ List.replicate (m - as.length) .un) σ' →
        Stp T G H w as G' H' w' (outs as δ') ∧ Rep K (B0 T H w) G' H' (vs.map some) (outs as δ') [v] [r] w' := by
      intro r δ' v σ' H' G' w' hr st rp pn
      have inA : ∀ (i : Nat) o, as[i]? = some (Sl.ow true o) → (as ++ List.replicate (m - as.length) .un)[i]? = some (Sl.ow true o) := fun i o h => by
        rw [List.getElem?_append_left (List.getElem?_eq_some_iff.mp h).1]
        exact h
      refine ⟨⟨st.g, st.b, st.n, st.p, fun i o hi => ?_, st.t, st.q⟩, rp.sub, rp.out, by rw [outs_len, List.length_map, la], fun i s hi => ?_, rfl, fun j u q hu hq => ?_, rp.bs⟩
      · obtain ⟨o', ho'⟩ := st.pn i o (inA i o hi)
        exact ⟨o', outs_own as δ' i hi ho'⟩
      · rcases outs_get as δ' i hi with rfl | ⟨⟨o, e1⟩, e2⟩
        · trivial
        · have e3 := rp.sl i s e2
          have e4 := pn i o (inA i o e1)
          have hi2 : i < as.length := (List.getElem?_eq_some_iff.mp e1).1
          unfold L2.start at e4
          rw [List.getElem?_append_left (by rw [List.length_map, la]; exact hi2)] at e4
          rwa [e4] at e3
      · exact (rp.tm j u q hu hq).noAt (by
          match j with
          | 0 => simp only [List.getElem?_cons_zero, Option.some.injEq] at hq; rw [← hq]; exact hr
          | j + 1 => simp at hq)
    refine ⟨fun δ' σ' H' G' w' h st rp pn => ?_, fun r δ' v σ' H' G' w' h hr st rp pn => ?_, fun δ' σ' H' G' w' h => h.elim, fun δ' σ' H' G' w' h => h.elim⟩
    · obtain ⟨s1, r1⟩ := fin (.im .none) δ' .non σ' H' G' _ rfl (st.trans .drop) (rp.ret .non) pn
      exact k _ _ _ H' G' _ h rfl s1 r1
    · obtain ⟨s1, r1⟩ := fin r δ' v σ' H' G' w' hr st rp pn
      exact k _ _ _ H' G' w' h hr s1 r1
/-! ### calls -/
def argOf (δ : List Sl) : R → Option Sl
  | .im d => some (.im d)
  | .ow o => some (.ow true o)
  | .at i => match δ[i]? with
    | some (.im d) => some (.im d)
    | some (.ow _ o) => some (.ow true o)
    | _ => none
def argsOf (δ : List Sl) : List R → Option (List Sl)
  | [] => some []
  | r :: rs => match argOf δ r with
    | none => none
    | some a => match argsOf δ rs with
      | none => none
      | some as => some (a :: as)
/-- which slots are handed on -/
def atIx (δ : List Sl) : List R → List Nat
  | [] => []
  | .at i :: rs => match δ[i]? with
    | some (.ow _ _) => i :: atIx δ rs
    | _ => atIx δ rs
  | _ :: rs => atIx δ rs
def put1 (δ : List Sl) : R → Sl → List Sl
  | .at i, .ow true o => match δ[i]? with
    | some (.ow b _) => δ.set i (.ow b o)
    | _ => δ
  | _, _ => δ
def putB (δ : List Sl) : List R → List Sl → List Sl
  | [], _ => δ
  | _ :: _, [] => δ
  | r :: rs, s :: ss => putB (put1 δ r s) rs ss
def pCall (ps : PSp) (pa : PL) (Ep : EX) : PX := fun δ Q => pa δ fun rs δ1 => ∃ as, argsOf δ1 rs = some as ∧ (atIx δ1 rs).Nodup ∧ ps as (fun r os => Q r (putB δ1 rs os)) Ep
theorem argsOf_len : ∀ {δ : List Sl} {rs : List R} {as : List Sl}, argsOf δ rs = some as → as.length = rs.length
  | _, [], _, h => by cases h; rfl
  | δ, r :: rs, as, h => by
    unfold argsOf at h
    revert h
    split
    · intro h; cases h
    · split
      · intro h; cases h
      · rename_i as' e'
        intro h
        cases h
        rw [List.length_cons, List.length_cons, argsOf_len e']
theorem argsOf_get : ∀ {δ : List Sl} {rs : List R} {as : List Sl} {j : Nat} {s : Sl}, argsOf δ rs = some as → as[j]? = some s → ∃ r, rs[j]? = some r ∧ argOf δ r = some s
  | _, [], _, _, _, h, hs => by cases h; simp at hs
  | δ, r :: rs, as, j, s, h, hs => by
    unfold argsOf at h
    revert h
    split
    · intro h; cases h
    · rename_i a e
      split
      · intro h; cases h
      · rename_i as' e'
        intro h
        cases h
        match j with
        | 0 => simp only [List.getElem?_cons_zero, Option.some.injEq] at hs; subst hs; exact ⟨r, rfl, e⟩
        | j + 1 =>
          obtain ⟨r', h1, h2⟩ := argsOf_get (j := j) e' (by simpa using hs)
          exact ⟨r', by simpa using h1, h2⟩
def isOw (δ : List Sl) (i : Nat) : Prop := ∃ b o, δ[i]? = some (.ow b o)
theorem put1_len (δ : List Sl) (r : R) (s : Sl) : (put1 δ r s).length = δ.length := by
  unfold put1
  split
  · split
    · rw [List.length_set]
    · rfl
  · rfl
theorem put1_at {δ : List Sl} {i : Nat} {b : Bool} {o o' : O} (h : δ[i]? = some (.ow b o)) : put1 δ (.at i) (.ow true o') = δ.set i (.ow b o') := by
  unfold put1
  dsimp only
  rw [h]
theorem put1_ow {δ : List Sl} {r : R} {s : Sl} {i : Nat} {b : Bool} {o : O} (h : δ[i]? = some (.ow b o)) : ∃ o', (put1 δ r s)[i]? = some (.ow b o') := by
  unfold put1
  split
  · rename_i k o'
    split
    · rename_i b' o'' e
      by_cases ei : k = i
      · subst ei
        rw [h] at e
        cases e
        exact ⟨o', List.getElem?_set_self (List.getElem?_eq_some_iff.mp h).1⟩
      · exact ⟨o, by rw [List.getElem?_set_ne ei]; exact h⟩
    · exact ⟨o, h⟩
  · exact ⟨o, h⟩
theorem put1_ne {δ : List Sl} {r : R} {s : Sl} {i : Nat} (h : r ≠ .at i) : (put1 δ r s)[i]? = δ[i]? := by
  unfold put1
  split
  · rename_i k o'
    split
    · exact List.getElem?_set_ne fun z => h (by rw [z])
    · rfl
  · rfl
theorem put1_nw {δ : List Sl} {r : R} {s : Sl} {i : Nat} (h : ¬ isOw δ i) : (put1 δ r s)[i]? = δ[i]? := by
  unfold put1
  split
  · rename_i k o'
    split
    · rename_i b o e
      exact List.getElem?_set_ne fun z => h ⟨b, o, by rw [← z]; exact e⟩
    · rfl
  · rfl
theorem isOw_put {δ : List Sl} {r : R} {s : Sl} {i : Nat} : isOw (put1 δ r s) i ↔ isOw δ i := by
  constructor
  · intro h
    by_cases hw : isOw δ i
    · exact hw
    · obtain ⟨b, o, e⟩ := h
      rw [put1_nw hw] at e
      exact ⟨b, o, e⟩
  · rintro ⟨b, o, e⟩
    obtain ⟨o', e'⟩ := put1_ow (r := r) (s := s) e
    exact ⟨b, o', e'⟩
theorem mem_atIx : ∀ {δ : List Sl} {rs : List R} {i : Nat}, i ∈ atIx δ rs ↔ isOw δ i ∧ R.at i ∈ rs
  | δ, [], i => by simp [atIx]
  | δ, .im d :: rs, i => by simp [atIx, mem_atIx (δ := δ) (rs := rs) (i := i)]
  | δ, .ow o :: rs, i => by simp [atIx, mem_atIx (δ := δ) (rs := rs) (i := i)]
  | δ, .at k :: rs, i => by
    unfold atIx
    split
    · rename_i b o e
      rw [List.mem_cons, mem_atIx (δ := δ) (rs := rs) (i := i), List.mem_cons]
      constructor
      · rintro (rfl | ⟨h1, h2⟩)
        · exact ⟨⟨b, o, e⟩, .inl rfl⟩
        · exact ⟨h1, .inr h2⟩
      · rintro ⟨h1, h2 | h2⟩
        · cases h2; exact .inl rfl
        · exact .inr ⟨h1, h2⟩
    · rename_i hn
      rw [mem_atIx (δ := δ) (rs := rs) (i := i), List.mem_cons]
      constructor
      · rintro ⟨h1, h2⟩; exact ⟨h1, .inr h2⟩
      · rintro ⟨h1, h2 | h2⟩
        · cases h2
          obtain ⟨b, o, e⟩ := h1
          exact absurd e (hn b o)
        · exact ⟨h1, h2⟩
theorem putB_len : ∀ {rs : List R} {δ : List Sl} {ss : List Sl}, (putB δ rs ss).length = δ.length
  | [], _, _ => by simp [putB]
  | _ :: _, _, [] => by simp [putB]
  | r :: rs, δ, s :: ss => by
    show (putB (put1 δ r s) rs ss).length = _
    rw [putB_len, put1_len]
theorem putB_ne : ∀ {rs : List R} {δ ss : List Sl} {k : Nat}, (¬ isOw δ k ∨ R.at k ∉ rs) → (putB δ rs ss)[k]? = δ[k]?
  | [], _, _, _, _ => by simp [putB]
  | _ :: _, _, [], _, _ => by simp [putB]
  | r :: rs, δ, s :: ss, k, h => by
    show (putB (put1 δ r s) rs ss)[k]? = _
    rcases h with h | h
    · rw [putB_ne (.inl fun z => h (isOw_put.mp z)), put1_nw h]
    · simp only [List.mem_cons, not_or] at h
      rw [putB_ne (.inr h.2), put1_ne (Ne.symm h.1)]
theorem putB_at : ∀ {rs : List R} {δ ss : List Sl} {j k : Nat} {b : Bool} {o o' : O}, (∀ (i j : Nat) k, isOw δ k → rs[i]? = some (.at k) → rs[j]? = some (.at k) → i = j) → rs[j]? = some (.at k) → δ[k]? = some (.ow b o) → ss[j]? = some (.ow true o') → (putB δ rs ss)[k]? = some (.ow b o')
  | [], _, _, _, _, _, _, _, _, h, _, _ => by simp at h
  | _ :: _, _, [], _, _, _, _, _, _, _, _, h => by simp at h
  | r :: rs, δ, s :: ss, 0, k, b, o, o', hu, h, hk, hs => by
    simp only [List.getElem?_cons_zero, Option.some.injEq] at h hs
    subst h hs
    show (putB (put1 δ (.at k) (.ow true o')) rs ss)[k]? = _
    have hn : R.at k ∉ rs := fun z => by
      obtain ⟨j, hj⟩ := List.mem_iff_getElem?.mp z
      have := hu 0 (j + 1) k ⟨b, o, hk⟩ rfl (by simpa using hj)
      omega
    rw [putB_ne (.inr hn), put1_at hk, List.getElem?_set_self (List.getElem?_eq_some_iff.mp hk).1]
  | r :: rs, δ, s :: ss, j + 1, k, b, o, o', hu, h, hk, hs => by
    show (putB (put1 δ r s) rs ss)[k]? = _
    have hr : r ≠ .at k := fun z => by
      have := hu 0 (j + 1) k ⟨b, o, hk⟩ (by simp [z]) h
      omega
    exact putB_at (j := j) (fun i j' k' hw h1 h2 => by
      have := hu (i + 1) (j' + 1) k' (isOw_put.mp hw) (by simpa using h1) (by simpa using h2)
      omega) (by simpa using h) (by rw [put1_ne hr]; exact hk) (by simpa using hs)
theorem uniq_of_nodup : ∀ {δ : List Sl} {rs : List R}, (atIx δ rs).Nodup → ∀ (i j : Nat) k, isOw δ k → rs[i]? = some (.at k) → rs[j]? = some (.at k) → i = j
  | δ, [], _, i, j, k, _, h, _ => by simp at h
  | δ, r :: rs, hn, i, j, k, hw, h1, h2 => by
    have tail : (atIx δ rs).Nodup := by
      cases r with
      | im d => exact hn
      | ow o => exact hn
      | «at» m =>
        unfold atIx at hn
        revert hn
        split
        · intro hn; exact (List.nodup_cons.mp hn).2
        · intro hn; exact hn
    have noHead : r = .at k → R.at k ∉ rs := fun e z => by
      subst e
      obtain ⟨b, o, e⟩ := hw
      have e2 : atIx δ (.at k :: rs) = k :: atIx δ rs := by simp only [atIx, e]
      rw [e2] at hn
      exact (List.nodup_cons.mp hn).1 (mem_atIx.mpr ⟨⟨b, o, e⟩, z⟩)
    match i, j with
    | 0, 0 => rfl
    | 0, j + 1 => exact absurd (List.mem_of_getElem? (show rs[j]? = some (.at k) by simpa using h2)) (noHead (by simpa using h1))
    | i + 1, 0 => exact absurd (List.mem_of_getElem? (show rs[i]? = some (.at k) by simpa using h1)) (noHead (by simpa using h2))
    | i + 1, j + 1 => rw [uniq_of_nodup tail i j k hw (by simpa using h1) (by simpa using h2)]
/-- where slot i is handed on -/
def idxAt (i : Nat) : List R → Option Nat
  | [] => none
  | .at k :: rs => if k = i then some 0 else (idxAt i rs).map (· + 1)
  | _ :: rs => (idxAt i rs).map (· + 1)
theorem idxAt_some : ∀ {rs : List R} {i j : Nat}, idxAt i rs = some j → rs[j]? = some (.at i)
  | [], _, _, h => by cases h
  | .at k :: rs, i, j, h => by
    unfold idxAt at h
    split at h
    · rename_i e; cases h; subst e; rfl
    · obtain ⟨m, h1, rfl⟩ := Option.map_eq_some_iff.mp h
      simpa using idxAt_some h1
  | .im d :: rs, i, j, h => by
    obtain ⟨m, h1, rfl⟩ := Option.map_eq_some_iff.mp (show (idxAt i rs).map (· + 1) = some j from h)
    simpa using idxAt_some h1
  | .ow o :: rs, i, j, h => by
    obtain ⟨m, h1, rfl⟩ := Option.map_eq_some_iff.mp (show (idxAt i rs).map (· + 1) = some j from h)
    simpa using idxAt_some h1
theorem idxAt_mem : ∀ {rs : List R} {i : Nat}, R.at i ∈ rs → ∃ j, idxAt i rs = some j
  | [], _, h => by cases h
  | .at k :: rs, i, h => by
    unfold idxAt
    split
    · exact ⟨0, rfl⟩
    · rename_i hk
      have : R.at i ∈ rs := by
        rcases List.mem_cons.mp h with z | z
        · cases z; exact absurd rfl hk
        · exact z
      obtain ⟨j, e⟩ := idxAt_mem this
      exact ⟨j + 1, by rw [e]; rfl⟩
  | .im d :: rs, i, h => by
    have : R.at i ∈ rs := by
      rcases List.mem_cons.mp h with z | z
      · cases z
      · exact z
    obtain ⟨j, e⟩ := idxAt_mem this
    exact ⟨j + 1, by show (idxAt i rs).map (· + 1) = _; rw [e]; rfl⟩
  | .ow o :: rs, i, h => by
    have : R.at i ∈ rs := by
      rcases List.mem_cons.mp h with z | z
      · cases z
      · exact z
    obtain ⟨j, e⟩ := idxAt_mem this
    exact ⟨j + 1, by show (idxAt i rs).map (· + 1) = _; rw [e]; rfl⟩
def wcOf (rs : List R) (w : Addr → Option Nat) (a : Addr) : Option Nat := match w a with
  | none => none
  | some n => if n % 2 = 1 then some (n - 1) else (idxAt (n / 2) rs).map (2 * ·)
def wbOf (rs : List R) (w w' : Addr → Option Nat) (a : Addr) : Option Nat := match w' a with
  | some m => if m % 2 = 1 then some m else match rs[m / 2]? with
    | some (.at i) => some (2 * i)
    | _ => none
  | none => match wcOf rs w a with
    | none => evn (w a)
    | some _ => none
theorem call_lift {K : PySem.W.Frag} {ps : PSp} {pa : PL} {Ep : EX} {E : XK} {n : Nat} {σ : St} {H : Hp} {Q : VK} (hx : XOk K B Ep E) (h : LE K B (pCall ps pa Ep) σ H Q) : tCall (LSp K B.T ps) [] E (LA K B n pa) σ H Q := by
  obtain ⟨G, w, δ, Qp, rep, q, k⟩ := h
  refine ⟨G, w, δ, _, rep, q, fun rs δ1 vs H1 G1 w1 q1 _ s1 rep1 => ?_⟩
  obtain ⟨as, ha, hnd, q1⟩ := q1
  have uq := uniq_of_nodup hnd
  have la : vs.length = as.length := rep1.tlen.trans (argsOf_len ha).symm
  have wc_some : ∀ a m, wcOf rs w1 a = some m → ∃ n, w1 a = some n := fun a m hm => by
    unfold wcOf at hm
    cases e : w1 a with
    | none => rw [e] at hm; cases hm
    | some n => exact ⟨n, rfl⟩
  have wc_odd : ∀ a (j : Nat), w1 a = some (2 * j + 1) → wcOf rs w1 a = some (2 * j) := fun a j h => by
    unfold wcOf
    rw [h]
    dsimp only
    rw [if_pos (by omega)]
    congr 1
  have wc_at : ∀ a (i j : Nat), isOw δ1 i → rs[j]? = some (.at i) → w1 a = some (2 * i) → wcOf rs w1 a = some (2 * j) := fun a i j hw hj h => by
    obtain ⟨j', e⟩ := idxAt_mem (List.mem_of_getElem? hj)
    have := uq j j' i hw hj (idxAt_some e)
    subst this
    unfold wcOf
    rw [h]
    dsimp only
    rw [if_neg (by omega), show 2 * i / 2 = i by omega, e]
    rfl
  have toB : ∀ a o, B a = some o → B0 B.T H1 (wcOf rs w1) a = some o := fun a o ho => by
    have := rep1.bs.to a o ho
    show B0h H1 (wcOf rs w1) a = some o
    unfold B0h
    have e : wcOf rs w1 a = none := by unfold wcOf; rw [this.2.1]
    rw [e]
    exact nTb_of this.1 this.2.2
  have noB : ∀ d, B0 B.T H1 (wcOf rs w1) d = none → B d = none := fun d h => by
    cases e : B d with
    | none => rfl
    | some o => rw [toB d o e] at h; cases h
  rw [List.append_nil]
  refine ⟨G1, wcOf rs w1, as, _, Ep, ⟨rep1.sub, fun a m hm => ?_, by rw [List.length_map]; exact la, fun j s hs => ?_, rfl, fun j v r hv => by simp at hv, ⟨fun a o ho => B0_some ho, .refl, rep1.bs.tt.ts rep1.bs.ta, rep1.bs.gt⟩⟩, fun s hs => ?_, q1, fun r os v H2 G2 w2 hq hr st rp => ?_, fun C fs us d H2 he hs htb hbd hd hf => hx C fs us d H2 he (fun a o ho => hs a o (toB a o ho)) (rep1.bs.tt.trans htb) (noB d hbd) hd hf⟩
  · obtain ⟨n, hn⟩ := wc_some a m hm
    exact rep1.out a n hn
  · obtain ⟨r, hr, he⟩ := argsOf_get ha hs
    have hj : j < vs.length := by rw [la]; exact (List.getElem?_eq_some_iff.mp hs).1
    have hv : vs[j]? = some vs[j] := List.getElem?_eq_getElem hj
    have hm : (vs.map some)[j]? = some (some vs[j]) := by rw [List.getElem?_map, hv]; rfl
    have t := rep1.tm j _ r hv hr
    cases r with
    | im d => cases he; exact ⟨_, hm, t⟩
    | ow o => cases he; exact ⟨_, hm, RO.mono (fun _ _ h => h) (fun _ _ _ h => h) (fun a u ma _ => wc_odd a j ma) t⟩
    | «at» i =>
      have t' : σ[i]? = some (some vs[j]) := t
      simp only [argOf] at he
      revert he
      split
      · rename_i d e
        intro he
        cases he
        obtain ⟨v, hv', hd⟩ := rep1.sl i _ e
        rw [t'] at hv'
        cases hv'
        exact ⟨_, hm, hd⟩
      · rename_i b o e
        intro he
        cases he
        obtain ⟨v, hv', hd⟩ := rep1.sl i _ e
        rw [t'] at hv'
        cases hv'
        exact ⟨_, hm, RO.mono (fun _ _ h => h) (fun _ _ _ h => h) (fun a u ma _ => wc_at a i j ⟨b, o, e⟩ hr ma) hd⟩
      · intro he; cases he
  · obtain ⟨j, hj⟩ := List.mem_iff_getElem?.mp hs
    obtain ⟨r, hr, he⟩ := argsOf_get ha hj
    cases r with
    | im d => cases he; exact .inr (.inl ⟨d, rfl⟩)
    | ow o => cases he; exact .inr (.inr ⟨o, rfl⟩)
    | «at» i =>
      simp only [argOf] at he
      revert he
      split
      · intro he; cases he; exact .inr (.inl ⟨_, rfl⟩)
      · intro he; cases he; exact .inr (.inr ⟨_, rfl⟩)
      · intro he; cases he
  · -- behind the call
    have nw : ∀ a m n, w2 a = some m → wcOf rs w1 a = none → w1 a = some n → False := fun a m n h1 h2 h3 => by
      rcases st.n a m h1 with z | z
      · exact z h2
      · exact (rep1.out a n h3).2.1 z
    have st' : Stp B.T G1 H1 w1 δ1 G2 H2 (wbOf rs w1 w2) (putB δ1 rs os) := by
      refine ⟨st.g, fun a o hw ho => st.b a o (by unfold wcOf; rw [hw]) ho, fun a m hm => ?_, fun a o ho => ?_, fun i o hi => ?_, st.t, st.q⟩
      · cases e : w1 a with
        | some n => exact .inl (Option.some_ne_none _)
        | none =>
          cases e2 : w2 a with
          | none =>
            unfold wbOf at hm
            have e3 : wcOf rs w1 a = none := by unfold wcOf; rw [e]
            rw [e2, e3, e] at hm
            cases hm
          | some m2 =>
            rcases st.n a m2 e2 with z | z
            · exact absurd (by unfold wcOf; rw [e]) z
            · exact .inr z
      · rcases st.p a o ho with z | z | z | z
        · exact .inl z
        · exact .inr (.inl z)
        · refine .inr (.inr (.inl fun e => z ?_))
          unfold wcOf
          rw [e]
        · exact .inr (.inr (.inr z))
      · by_cases hm : R.at i ∈ rs
        · obtain ⟨j, hj⟩ := List.mem_iff_getElem?.mp hm
          have hja : j < as.length := by rw [argsOf_len ha]; exact (List.getElem?_eq_some_iff.mp hj).1
          obtain ⟨r, hr', he⟩ := argsOf_get ha (List.getElem?_eq_getElem hja)
          rw [hj] at hr'
          cases hr'
          simp only [argOf, hi, Option.some.injEq] at he
          obtain ⟨o', ho'⟩ := st.pn j o (by rw [List.getElem?_eq_getElem hja, he])
          exact ⟨o', putB_at uq hj hi ho'⟩
        · exact ⟨o, by rw [putB_ne (.inr hm)]; exact hi⟩
    refine k r _ v H2 G2 _ hq (s1.trans st') ⟨rp.sub, fun a m hm => ?_, by rw [putB_len]; exact rep1.len, fun i s hs => ?_, rfl, fun j u p hu hp => ?_, st'.bs rep1.bs⟩
    · cases e2 : w2 a with
      | some m2 => exact rp.out a m2 e2
      | none =>
        unfold wbOf at hm
        rw [e2] at hm
        dsimp only at hm
        revert hm
        split
        · rename_i e3
          intro hm
          have hn := (evn_some.mp hm).1
          obtain ⟨g0, h0, n0⟩ := rep1.out a m hn
          refine ⟨?_, st.nn a e3 h0 n0⟩
          cases e6 : G2 a with
          | none => rfl
          | some o =>
            rcases st.p a o e6 with z | z | z | ⟨xs, z⟩
            · rw [g0] at z; cases z
            · exact absurd z h0
            · exact absurd e3 z
            · exact absurd z (n0 xs)
        · intro hm; cases hm
    · by_cases hm : isOw δ1 i ∧ R.at i ∈ rs
      · obtain ⟨⟨b, o, e⟩, hm⟩ := hm
        obtain ⟨j, hj⟩ := List.mem_iff_getElem?.mp hm
        have hja : j < as.length := by rw [argsOf_len ha]; exact (List.getElem?_eq_some_iff.mp hj).1
        obtain ⟨r', hr', he⟩ := argsOf_get ha (List.getElem?_eq_getElem hja)
        rw [hj] at hr'
        cases hr'
        simp only [argOf, e, Option.some.injEq] at he
        obtain ⟨o', ho'⟩ := st.pn j o (by rw [List.getElem?_eq_getElem hja, he])
        rw [putB_at uq hj e ho'] at hs
        cases hs
        obtain ⟨v', hv', hd⟩ := rp.sl j _ ho'
        have hjv : j < vs.length := by rw [la]; exact hja
        rw [List.getElem?_map, List.getElem?_eq_getElem hjv] at hv'
        cases hv'
        have t : σ[i]? = some (some vs[j]) := rep1.tm j _ (.at i) (List.getElem?_eq_getElem hjv) hj
        refine ⟨_, t, RO.mono (fun _ _ h => h) (fun _ _ _ h => h) (fun a u ma _ => ?_) hd⟩
        show wbOf rs w1 w2 a = _
        unfold wbOf
        rw [ma]
        dsimp only
        rw [if_neg (by omega), show 2 * j / 2 = j by omega, hj]
      · have hne : ¬ isOw δ1 i ∨ R.at i ∉ rs := by
          by_cases z : isOw δ1 i
          · exact .inr fun z2 => hm ⟨z, z2⟩
          · exact .inl z
        rw [putB_ne hne] at hs
        have sl := rep1.sl i s hs
        cases s with
        | un => trivial
        | im d =>
          obtain ⟨v', hv', hd⟩ := sl
          exact ⟨v', hv', dp_mono st.g _ _ hd⟩
        | ex a dd C fs =>
          obtain ⟨h1, us, h2, h3⟩ := sl
          exact ⟨h1, us, st.g _ _ h2, h3.mono st.g⟩
        | ow b o =>
          have hni : R.at i ∉ rs := hne.elim (fun z => absurd ⟨b, o, hs⟩ z) id
          have wcn : ∀ a, w1 a = some (2 * i) → wcOf rs w1 a = none := fun a h => by
            unfold wcOf
            rw [h]
            dsimp only
            rw [if_neg (by omega), show 2 * i / 2 = i by omega]
            cases e : idxAt i rs with
            | none => rfl
            | some j => exact absurd (List.mem_of_getElem? (idxAt_some e)) hni
          obtain ⟨v', hv', hd⟩ := sl
          refine ⟨v', hv', RO.monoN st.g (fun a u hnt ma hu => st.bN a u hnt (wcn a ma) hu) (fun a u ma hu => ?_) hd⟩
          show wbOf rs w1 w2 a = _
          unfold wbOf
          cases e2 : w2 a with
          | some m => exact (nw a m _ e2 (wcn a ma) ma).elim
          | none =>
            dsimp only
            rw [wcn a ma]
            exact evn_some.mpr ⟨ma, by omega⟩
    · match j with
      | 0 =>
        simp only [List.getElem?_cons_zero, Option.some.injEq] at hu hp
        subst hu hp
        have t := rp.tm 0 v r rfl rfl
        cases r with
        | im d => exact t
        | ow o =>
          refine RO.mono (fun _ _ h => h) (fun _ _ _ h => h) (fun a u ma _ => ?_) t
          show wbOf rs w1 w2 a = _
          unfold wbOf
          rw [ma]
          rfl
        | «at» i => cases hr
      | j + 1 => simp at hu
end Pv
namespace Pv
open PySem PySem.Spec L2 Wf
variable {B : Bas}
section
variable {X : Cx} {tg l a b e e2 : Expr} {es : List Expr} {pl pa pb : PX} {p pos : Pos}
/-! ### words -/
theorem jv (i : Nat) {x : Str} {pos : Pos} (hN : X.N[i]? = some x := by rfl) (hv : Vis X.env.scope x := by first | exact Or.inl rfl | exact Or.inr (Or.inl rfl) | exact Or.inr (Or.inr rfl)) (hd : (x == ("__debug__" : Str)) = false := by decide)
    (hcd : (x == ("__classdict__" : Str)) = false := by decide) : JE X B (.Name x pos) (pVar i) := je_var hN hv hd hcd
/-- as data for good -/
def pFz (p : PX) : PX := fun δ Q => p δ fun r δ1 => ∃ d δ2, fz δ1 r = some (d, δ2) ∧ Q (.im d) δ2
theorem je_fz (h : JE X B e pa) : JE X B e (pFz pa) := PE_wk h fun σ H Q ⟨G, w, δ, Qp, rep, q, k⟩ => ⟨G, w, δ, _, rep, q, fun r δ1 v H1 G1 w1 q1 s1 rep1 => by
  obtain ⟨d, δ2, hz, q1⟩ := q1
  obtain ⟨G2, w2, s2, r2⟩ := rep1.fz1 (j := 0) rfl rfl hz
  exact k _ _ v H1 G2 w2 q1 (s1.trans s2) r2⟩
/-! ### enumerate -/
def enD (n : Nat) : List PyData → List PyData
  | [] => []
  | d :: ds => .tuple [.int (n : Int), d] :: enD (n + 1) ds
theorem enD_len : ∀ (n : Nat) (ds : List PyData), (enD n ds).length = ds.length
  | _, [] => rfl
  | n, d :: ds => by simp only [enD, List.length_cons, enD_len (n + 1) ds]
theorem enD_get : ∀ (n : Nat) (ds : List PyData) (i : Nat), (enD n ds)[i]? = (ds[i]?).map fun d => .tuple [.int ((n + i : Nat) : Int), d]
  | n, [], i => by simp [enD]
  | n, d :: ds, 0 => by simp [enD]
  | n, d :: ds, i + 1 => by
    simp only [enD, List.getElem?_cons_succ, enD_get (n + 1) ds i]
    have : n + 1 + i = n + (i + 1) := by omega
    rw [this]
theorem itd_enumL {K : PySem.W.Frag} {G : Hp} {a : Addr} {us : List V} {ds : List PyData} (ha : G a = some (.lst us)) (hd : DqAll K G us ds) : ItD K G (Ite K a) (enD 0 ds) where
  go := fun G' H' i sg sh hi => by
    rw [enD_len] at hi
    have hl := dqAll_len hd
    exact ⟨us, us[i]'(by omega), SqL.of (sh _ _ (sg _ _ ha)), by simp⟩
  yld := fun G' H' i x H2 sg sh hi y => by
    rw [enD_len] at hi
    obtain ⟨T, z, rfl, hT, rfl, y⟩ := y
    obtain ⟨v, hv, hq⟩ := dqAll_get hd (List.getElem?_eq_getElem hi)
    have e := y us (SqL.of (sh _ _ (sg _ _ ha)))
    rw [hv] at e
    cases e
    refine ⟨_, by rw [enD_get, List.getElem?_eq_getElem hi]; rfl, .inr ⟨T, _, _, rfl, hT, rfl, .cons ?_ (.cons (dp_mono sg _ _ hq) .nil), rfl⟩⟩
    rw [Nat.zero_add]
    exact .int _
  stop := fun G' H' sg sh => ⟨us, SqL.of (sh _ _ (sg _ _ ha)), by rw [enD_len, dqAll_len hd]; exact Nat.le_refl _⟩
theorem itd_enumT {K : PySem.W.Frag} {G : Hp} {a : Addr} {us : List V} {ds : List PyData} (ha : SqT K G a us) (hd : DqAll K G us ds) : ItD K G (ItT K a) (enD 0 ds) where
  go := fun G' H' i sg sh hi => by
    rw [enD_len] at hi
    have hl := dqAll_len hd
    exact ⟨us, us[i]'(by omega), Same.tp sh _ _ (Same.tp sg _ _ ha), by simp⟩
  yld := fun G' H' i x H2 sg sh hi y => by
    rw [enD_len] at hi
    obtain ⟨T, z, rfl, hT, rfl, y⟩ := y
    obtain ⟨v, hv, hq⟩ := dqAll_get hd (List.getElem?_eq_getElem hi)
    have e := y us (Same.tp sh _ _ (Same.tp sg _ _ ha))
    rw [hv] at e
    cases e
    refine ⟨_, by rw [enD_get, List.getElem?_eq_getElem hi]; rfl, .inr ⟨T, _, _, rfl, hT, rfl, .cons ?_ (.cons (dp_mono sg _ _ hq) .nil), rfl⟩⟩
    rw [Nat.zero_add]
    exact .int _
  stop := fun G' H' sg sh => ⟨us, Same.tp sh _ _ (Same.tp sg _ _ ha), by rw [enD_len, dqAll_len hd]; exact Nat.le_refl _⟩
def iEnumU (K : PySem.W.Frag) (ta : TA) : TI := fun σ H R => ta σ H fun vs H1 => ∃ a xs, vs = [.ref a] ∧ ((SqL K H1 a xs ∧ R (Ite K a) H1) ∨ (SqT K H1 a xs ∧ R (ItT K a) H1))
open PyProof.Rows in
theorem pi_enumU {ta : TA} {tpos : Pos} {elts : List Expr} {kk : Nat} (hg : Gl X "enumerate") (hm : X.mg "enumerate" = none) (ha : PA X [e] ta) (hs : starEach [e] X.env = [(false, eval e X.env)] := by rfl) :
    PI X (.Tuple elts kk tpos) (.Call (.Name "enumerate" p) [e] [] pos) (iEnumU X.K ta) := by
  refine ⟨fun pins s σ H R I h => ?_⟩
  refine Call_ (ld_blt I hg hm boot_enumerate (PyProof.Rows.callWith_type1 (thn (ha.run pos pins s σ H _ I h) fun us s1 ⟨vs, H1, I1, r1, q1⟩ => ?_) hs rfl))
  obtain ⟨a, xs, ex, ⟨hq, q⟩ | ⟨hq, q⟩⟩ := q1
  · subst ex
    cases r1 with
    | cons r rr =>
      cases rr
      cases r
      obtain ⟨its, rv, p', hz⟩ := I1.list hq
      refine call_enumerate_list p'.isList fun h' he hit hsz hk => wpAny_pyIter_enum he ?_
      have I2 : Inv X pins σ H1 { s1 with heap := h' } := I1.kept (t' := s1.toks) hk
      refine ⟨s1.heap.objs.size + 1, [s1.heap.objs.size + 1, s1.heap.objs.size], _, _, H1, rfl, I2, turn_enum a (s1.heap.objs.size + 1) s1.heap.objs.size, ⟨⟨.none, he⟩, hit, Nat.succ_ne_self _⟩, fun b hb => ?_, q⟩
      have e' : b = s1.heap.objs.size + 1 ∨ b = s1.heap.objs.size := by simpa using hb
      have hle : s1.heap.objs.size ≤ b := by
        rcases e' with z | z
        · rw [z]; exact Nat.le_add_right _ _
        · rw [z]; exact Nat.le_refl _
      exact I1.fpOk hle (I1.hok.fresh hle)
  · subst ex
    cases r1 with
    | cons r rr =>
      cases rr
      cases r
      obtain ⟨its, rv, pt, hz⟩ := I1.tuple hq
      refine call_enumT (show s1.heap.IsTuple a its.toArray from pt) fun h' en hit hsz hk => wpAny_pyIter_enum en ?_
      have I2 : Inv X pins σ H1 { s1 with heap := h' } := I1.kept (t' := s1.toks) hk
      refine ⟨s1.heap.objs.size + 1, [s1.heap.objs.size + 1, s1.heap.objs.size], _, _, H1, rfl, I2, turn_enumT a (s1.heap.objs.size + 1) s1.heap.objs.size, ⟨⟨.none, en⟩, hit, Nat.succ_ne_self _⟩, fun b hb => ?_, q⟩
      have le : s1.heap.objs.size ≤ b := by
        have eb : b = s1.heap.objs.size + 1 ∨ b = s1.heap.objs.size := by simpa using hb
        rcases eb with rfl | rfl
        · exact Nat.le_add_right _ _
        · exact Nat.le_refl _
      exact I1.fpOk le (I1.hok.fresh le)
def iEn (ps : PL) : PIx := fun δ Q => ps δ fun rs δ1 => ∃ d δ2 ds, fzAll δ1 rs = some ([d], δ2) ∧ seqD d = some ds ∧ Q (enD 0 ds) δ2
theorem vals1 {K : PySem.W.Frag} {G : Hp} {vs : List V} {d : PyData} (h : DqAll K G vs [d]) : ∃ v, vs = [v] ∧ Dq K G v d := by
  cases h with
  | cons h1 h2 => cases h2; exact ⟨_, rfl, h1⟩
theorem ji_enum {ps : PL} {tpos : Pos} {elts : List Expr} {kk : Nat} (hg : Gl X "enumerate") (hm : X.mg "enumerate" = none) (ha : JA X B [e] ps) (hs : starEach [e] X.env = [(false, eval e X.env)] := by rfl) :
    JI X B (.Tuple elts kk tpos) (.Call (.Name "enumerate" p) [e] [] pos) (iEn ps) := PI_wk (pi_enumU hg hm ha hs) fun σ H R ⟨G, w, δ, Qp, rep, q, k⟩ =>
  ⟨G, w, δ, _, rep, q, fun rs δ1 vs H1 G1 w1 q1 _ s1 rep1 => by
    obtain ⟨d, δ2, ds, hz, hs, q1⟩ := q1
    obtain ⟨G2, w2, s2, r2⟩ := rep1.fzs hz
    obtain ⟨v, rfl, hd⟩ := vals1 (r2.ims)
    cases d with
    | list es =>
      cases hs
      cases hd with
      | lst ha hds => exact ⟨_, _, rfl, .inl ⟨SqL.of (r2.sub _ _ ha), k _ δ2 _ H1 G2 _ q1 ((s1.trans s2).trans .drop) r2.drop (itd_enumL ha hds)⟩⟩
    | tuple es =>
      cases hs
      cases hd with
      | tup ha hds => exact ⟨_, _, rfl, .inr ⟨Same.tp r2.sub _ _ ha, k _ δ2 _ H1 G2 _ q1 ((s1.trans s2).trans .drop) r2.drop (itd_enumT ha hds)⟩⟩
    | none => cases hs
    | bool _ => cases hs
    | int _ => cases hs
    | str _ => cases hs
    | dict _ => cases hs⟩
/-! ### zip -/
/-! ### defs of the module -/
def noX : EX := fun _ _ => False
theorem xok_no {K : PySem.W.Frag} {E : XK} : XOk K B noX E := fun _ _ _ _ _ h => h.elim
theorem je_cal {k j : Nat} {x : Str} {pn : List Str} {psp : PSp} {ps : PL} (C : Cal X.prog X.w X.K X.mg X.base CX0 k x pn (LSp X.K B.T psp)) (hr : Room j X.A) (hg : Gl X x) (ha : JA X B (e :: es) ps) (hk : k ≤ j := by decide)
    (hdb : (x == ("__debug__" : Str)) = false := by decide) (he : starEach (e :: es) X.env = (false, eval e X.env) :: starEach es X.env := by rfl) (hpl : (backTo pos (starEach es X.env)).any (·.1) = false := by rfl) :
    JE X B (.Call (.Name x p) (e :: es) [] pos) (pCall psp ps noX) := PE_wk (pe_cal C hr hg ha hk hdb he hpl) fun σ H Q h => call_lift xok_no h
/-- .. that may raise; the error leaves this def too -/
theorem je_calX {k j : Nat} {x : Str} {pn : List Str} {psp : PSp} {ps : PL} {W : WX} {E : XK} {Ep : EX} (C : CalX X.prog X.w X.K X.mg X.base k x pn (LSp X.K B.T psp)) (hr : Room j X.A) (tk : Takes X W) (hW : ∀ cls d σ H, E cls d H → W cls d σ H) (hx : XOk X.K B Ep E) (hg : Gl X x) (ha : JA X B (e :: es) ps) (hk : k ≤ j := by decide)
    (hdb : (x == ("__debug__" : Str)) = false := by decide) (he : starEach (e :: es) X.env = (false, eval e X.env) :: starEach es X.env := by rfl) (hpl : (backTo pos (starEach es X.env)).any (·.1) = false := by rfl) :
    JE X B (.Call (.Name x p) (e :: es) [] pos) (pCall psp ps Ep) := PE_wk (pe_calX C hr tk hW hg ha hk hdb he hpl) fun σ H Q h => call_lift hx h
/-! ### repr -/
end
/-! ### a def keeps its promise -/
theorem fn_ok {T : List NdefX.NTab} {P : Program} {w : World} {K : PySem.W.Frag} {mg : Str → Option Value} {base : Heap} {CX : CXT} {k : Nat} {f : Addr} {fd : FuncData} {x qual : Str} {params : Arguments} {body : List Stmt} {scope : Scope} {dvs : List V} {kws : List (Str × V)} {N prm : List Str} {psp : PSp} {p : EX → PSx} {m n : Nat}
    (F : FunD K x qual params body scope dvs kws f fd) (S : FnScope N prm scope) (hN : N.length = m) (hn : prm.length = n) (hnm : n ≤ m) (hlen : ∀ as Qp Ep, psp as Qp Ep → as.length = n)
    (hb : ∀ (cdv : Value) (A : Around) (outer : List Env) (s : Shared) (H : Hp) (E : XK) (Bh Bt : Hp) (Ep : EX), Room k (A.deeper (PyProof.Rows.envOfC qual scope s.heap.objs.size f cdv)) → XOk K ⟨Bh, Bt, T⟩ Ep E → JSs (cxOf CX P w K mg base N qual scope f cdv A outer s H E) ⟨Bh, Bt, T⟩ body (p Ep))
    (hp : ∀ as Qp Ep, psp as Qp Ep → p Ep (endsP as Qp) (as ++ List.replicate (m - n) .un)) : FnOk P w K mg base CX (k + 1) f fd prm (LSp K T psp) := by
  have ln : ∀ vs H Q E, LSp K T psp vs H Q E → vs.length = n := fun vs H Q E ⟨G, w, as, Qp, Ep, rep, _, h, _⟩ => by
    have := rep.len
    rw [List.length_map, hlen as Qp Ep h] at this
    exact this
  refine F.ok S (fun vs H Q E h => by rw [hn]; exact ln vs H Q E h) fun cdv A outer s H vs Q E hr h => ?_
  obtain ⟨Bh, Bt, Ep, hx, hl⟩ := fn_lift (N := N) (p := p) hN (fun as Qp Ep h => by rw [hlen as Qp Ep h]; exact hp as Qp Ep h) h (by rw [ln vs H Q E h]; exact hnm)
  exact ⟨_, hb cdv A outer s H E Bh Bt Ep hr hx, hl⟩
theorem JSs.nox {X : Cx} {st : List Stmt} {p : PSx} (h : JSs X.nox B st p) : JSs X B st p := PSs.nox h
end Pv
/-! errors of one field -/
namespace Wf
open PySem PySem.Spec PyProof.Rows L2
end Wf
namespace Pv
open PySem PySem.Spec L2 Wf
variable {B : Bas}
/-! ### raise -/
/-! ### all tuples are public -/
open Classical in
noncomputable def pubT (G H : Hp) (x : Option (Addr × HO)) : Hp := fun a => match x with
  | some (d, o) => if a = d then some o else match G a with
    | some u => some u
    | none => if ∃ xs, RdX H a xs then H a else none
  | none => match G a with
    | some u => some u
    | none => if ∃ xs, RdX H a xs then H a else none
open Classical in
theorem pubT_some {G H : Hp} {x : Option (Addr × HO)} {a : Addr} {o : HO} (h : pubT G H x a = some o) : (∃ u, x = some (a, u) ∧ o = u) ∨ G a = some o ∨ (H a = some o ∧ ∃ xs, RdX H a xs) := by
  unfold pubT at h
  have go : (match G a with
    | some u => some u
    | none => if ∃ xs, RdX H a xs then H a else none) = some o → G a = some o ∨ (H a = some o ∧ ∃ xs, RdX H a xs) := fun h => by
    cases e : G a with
    | some u => rw [e] at h; exact .inl h
    | none =>
      rw [e] at h
      dsimp only at h
      split at h
      · rename_i z; exact .inr ⟨h, z⟩
      · cases h
  cases x with
  | none => exact .inr (go h)
  | some p =>
    obtain ⟨d, u⟩ := p
    dsimp only at h
    split at h
    · rename_i e; subst e; cases h; exact .inl ⟨_, rfl, rfl⟩
    · exact .inr (go h)
open Classical in
theorem pubT_g {G H : Hp} {x : Option (Addr × HO)} (hx : ∀ d u, x = some (d, u) → G d = none) : Same G (pubT G H x) := fun a o h => by
  unfold pubT
  cases x with
  | none => rw [h]
  | some p =>
    obtain ⟨d, u⟩ := p
    dsimp only
    rw [if_neg (fun e => by subst e; rw [hx a u rfl] at h; cases h), h]
open Classical in
theorem pubT_tup {K : PySem.W.Frag} {G H : Hp} {x : Option (Addr × HO)} (s : Same G H) (hx : ∀ d u, x = some (d, u) → NoT H d) {a : Addr} {xs : List V} (h : SqT K H a xs) : SqT K (pubT G H x) a xs := by
  rcases h with h | h
  · refine .inl ?_
    have e : pubT G H x a = H a := by
      have body : (match G a with
        | some u => some u
        | none => if ∃ xs, RdX H a xs then H a else none) = H a := by
        cases e : G a with
        | some u => exact (s a u e).symm
        | none => dsimp only; rw [if_pos ⟨some xs, h⟩]
      unfold pubT
      cases x with
      | none => exact body
      | some p =>
        obtain ⟨d, u⟩ := p
        dsimp only
        rw [if_neg (fun e => by subst e; exact hx a u rfl xs h)]
        exact body
    rcases h with h | ⟨o, h⟩
    · exact .inl (by rw [e]; exact h)
    · exact .inr ⟨o, by rw [e]; exact h⟩
  · exact .inr h
mutual
theorem dp_pub {K : PySem.W.Frag} {G H : Hp} {x : Option (Addr × HO)} (s : Same G H) (hx : ∀ d u, x = some (d, u) → NoT H d) : ∀ (d : PyData) (v : V), noL d = true → Dp K H v d → Dq K (pubT G H x) v d
  | .none, _, _, h => by cases h; exact .non
  | .bool b, _, _, h => by cases h; exact .bl b
  | .int i, _, _, h => by cases h; exact .int i
  | .str x, _, _, h => by cases h; exact .str x
  | .list _, _, n, _ => nomatch n
  | .dict _, _, _, h => by cases h
  | .tuple ds, _, n, h => by
    cases h with
    | tup hs ha => exact .tup (pubT_tup s hx hs) (dpAll_pub s hx ds _ n ha)
theorem dpAll_pub {K : PySem.W.Frag} {G H : Hp} {x : Option (Addr × HO)} (s : Same G H) (hx : ∀ d u, x = some (d, u) → NoT H d) : ∀ (ds : List PyData) (vs : List V), noLAll ds = true → DpAll K H vs ds → DqAll K (pubT G H x) vs ds
  | [], _, _, h => by cases h; exact .nil
  | d :: ds, _, n, h => by
    have n2 : (noL d && noLAll ds) = true := n
    rw [Bool.and_eq_true] at n2
    cases h with
    | cons h1 h2 => exact .cons (dp_pub s hx d _ n2.1 h1) (dpAll_pub s hx ds _ n2.2 h2)
end
/-- all that stood stands; new things beside, the tuples public now -/
theorem Rep.pub {K : PySem.W.Frag} {G H H2 : Hp} {σ : St} {δ : List Sl} {w : Addr → Option Nat} (r : Rep K B G H σ δ [] [] w) {x : Option (Addr × HO)} (s : ∀ a o, NT o → H a = some o → H2 a = some o) (tg : TbG B.T H H2) (hx : ∀ d u, x = some (d, u) → H d = none ∧ H2 d = some u ∧ NT u) :
    Stp B.T G H w δ (pubT G H2 x) H2 w δ ∧ Rep K B (pubT G H2 x) H2 σ δ [] [] w := by
  have gx : ∀ d u, x = some (d, u) → G d = none := fun d u e => by
    cases e2 : G d with
    | none => rfl
    | some o => have := r.sub d o e2; rw [(hx d u e).1] at this; cases this
  have sg := pubT_g (H := H2) gx
  have both : ∀ a o, H a = some o → H2 a = some o ∨ ∃ ps qs, o = .tbl ps ∧ H2 a = some (.tbl qs) := fun a o h => by
    by_cases hn : NT o
    · exact .inl (s a o hn h)
    · have : ∃ ps, o = .tbl ps := Classical.byContradiction fun z => hn fun ps e => z ⟨ps, e⟩
      obtain ⟨ps, rfl⟩ := this
      obtain ⟨qs, h2⟩ := tg.st a ps h
      exact .inr ⟨ps, qs, rfl, h2⟩
  have ngt : ∀ {a : Addr} {o : HO}, G a = some o → NT o := fun {a o} h ps e => r.bs.gt a ps (by rw [h, e])
  have st : Stp B.T G H w δ (pubT G H2 x) H2 w δ := by
    refine ⟨sg, fun a o _ h => both a o h, fun a i h => .inl (by rw [h]; exact Option.some_ne_none _), fun a o h => ?_, .refl _, tg, fun a ps h => ?_⟩
    rotate_left
    · rcases pubT_some h with ⟨u, e, z⟩ | h | ⟨h, xs, hr⟩
      · exact absurd z.symm ((hx a u e).2.2 ps)
      · exact h
      · exact absurd hr (NoX.tbl h xs)
    rcases pubT_some h with ⟨u, e, _⟩ | h | ⟨h, xs, hr⟩
    · exact .inr (.inl (hx a u e).1)
    · exact .inl h
    · cases e : H a with
      | none => exact .inr (.inl rfl)
      | some u =>
        refine .inr (.inr (.inr ⟨xs, ?_⟩))
        rcases both a u e with e2 | ⟨_, _, _, e2⟩
        · exact RdX.same e e2 hr
        · exact absurd hr (NoX.tbl e2 xs)
  refine ⟨st, fun a o h => ?_, fun a i h => ?_, r.len, fun i sl h => ((r.sl i sl h).monoN sg (fun a u hn _ hu => s a u hn hu) fun a u ma _ => ma), rfl, fun j v q hv => by simp at hv, st.bs r.bs⟩
  · rcases pubT_some h with ⟨u, e, rfl⟩ | h | ⟨h, _⟩
    · exact (hx a _ e).2.1
    · exact s a o (ngt h) (r.sub a o h)
    · exact h
  · obtain ⟨g0, h0, n0⟩ := r.out a i h
    cases e : H a with
    | none => exact absurd e h0
    | some u =>
      have n2 : H2 a ≠ none ∧ NoX H2 a := by
        rcases both a u e with e2 | ⟨_, _, _, e2⟩
        · exact ⟨by rw [e2]; exact Option.some_ne_none _, n0.same e e2⟩
        · exact ⟨by rw [e2]; exact Option.some_ne_none _, NoX.tbl e2⟩
      refine ⟨?_, n2⟩
      cases e3 : pubT G H2 x a with
      | none => rfl
      | some o =>
        rcases pubT_some e3 with ⟨u', e', _⟩ | h' | ⟨_, xs, hr⟩
        · have := (hx a u' e').1; rw [e] at this; cases this
        · rw [g0] at h'; cases h'
        · exact absurd hr (n2.2 xs)
/-! ### try: name = an expression with one call that may raise -/
end Pv
namespace Pv
open PySem PySem.Spec L2 Wf
/-! ### what is asked of the caught error -/
end Pv
namespace Pv
open PySem PySem.Spec L2 Wf
variable {B : Bas}
theorem _root_.Wf.Cal.imp {P : Program} {w : World} {K : PySem.W.Frag} {mg : Str → Option Value} {base : Heap} {CX : CXT} {k : Nat} {x : Str} {ps : List Str} {sp sp' : Sp} (C : Wf.Cal P w K mg base CX k x ps sp) (h : ∀ vs H Q E, sp' vs H Q E → sp vs H Q E) : Wf.Cal P w K mg base CX k x ps sp' := by
  obtain ⟨f, fd, F, r⟩ := C.ex
  exact ⟨f, fd, F.imp h, r⟩
section
variable {K : PySem.W.Frag} {G H H' : Hp} {σ : St} {δ : List Sl} {vs : List V} {rs : List R} {w : Addr → Option Nat}
theorem noT_same {H H' : Hp} {a : Addr} {u : HO} (e : H a = some u) (e2 : H' a = some u) (n : NoX H a) : NoX H' a := n.same e e2
theorem noT_deal {H : Hp} {d l : Addr} (h : Deal H d l) : NoX H d ∧ NoX H l ∧ H d ≠ none ∧ H l ≠ none := by
  obtain ⟨s, m, n, ns, h1, h2, _⟩ := h.ex
  exact ⟨NoX.of h1 (fun _ z => by cases z) (fun _ _ z => by cases z) (fun _ z => by cases z), NoX.lst h2, by rw [h1]; exact Option.some_ne_none _, by rw [h2]; exact Option.some_ne_none _⟩
theorem tabs_deal {T : List NdefX.NTab} {H H' : Hp} {d l : Addr} (but : But [d, l] H H') (dl : Deal H d l) : TbG T H H' := by
  obtain ⟨s, m, n, ns, h1, h2, _⟩ := dl.ex
  have ne : ∀ x o, (∀ xs, o ≠ .lst xs) → (∀ xs, o ≠ .dK xs) → H x = some o → H' x = some o := fun x o n1 n2 hx => but x o (fun z => by
    simp only [List.mem_cons, List.not_mem_nil, or_false] at z
    rcases z with rfl | rfl
    · rw [h1] at hx; cases hx; exact n2 _ rfl
    · rw [h2] at hx; cases hx; exact n1 _ rfl) hx
  refine ⟨fun t p hp => ?_, fun a ps h => ⟨ps, ne _ _ nofun nofun h⟩⟩
  obtain ⟨ps, e1, e2, e3⟩ := t p hp
  refine ⟨ps, ne _ _ nofun nofun e1, e2, fun pos cv hc => ?_⟩
  obtain ⟨c, f1, f2⟩ := e3 pos cv hc
  exact ⟨c, f1, ne _ _ (fun xs z => by unfold LamX.CodeO at z; cases z) (fun xs z => by unfold LamX.CodeO at z; cases z) f2⟩
/-- the deal goes on -/
theorem Rep.deal (r : Rep K B G H σ δ vs rs w) {i : Nat} {b : Bool} {d l : Addr} (h : δ[i]? = some (.ow b .deal)) (hσ : σ[i]? = some (some (.ref d))) (wd : w d = some (2 * i)) (wl : w l = some (2 * i)) (dl0 : Deal H d l) (but : But [d, l] H H') (dl : Deal H' d l) :
    Stp B.T G H w δ G H' w δ ∧ Rep K B G H' σ δ vs rs w := by
  have nin : ∀ x, w x ≠ some (2 * i) → x ∉ [d, l] := fun x hx z => by
    simp only [List.mem_cons, List.not_mem_nil, or_false] at z
    rcases z with rfl | rfl
    · exact hx wd
    · exact hx wl
  obtain ⟨nd, nl, ed, el⟩ := noT_deal dl
  have st : Stp B.T G H w δ G H' w δ := .of ⟨fun _ _ h => h, fun x o hx ho => but x o (nin x (by rw [hx]; exact nofun)) ho, fun x n hx => .inl (by rw [hx]; exact Option.some_ne_none _), fun _ _ h => .inl h, .refl _⟩ (tabs_deal but dl0)
  refine ⟨st, fun x o hx => ?_, fun x n hx => ?_, r.len, fun k s hk => ?_, r.tlen, fun j v q hv hq => ?_, st.bs r.bs⟩
  · refine but x o (nin x fun z => ?_) (r.sub x o hx)
    rw [(r.out x _ z).1] at hx
    cases hx
  · obtain ⟨h1, h2, h3⟩ := r.out x n hx
    by_cases e : x ∈ [d, l]
    · simp only [List.mem_cons, List.not_mem_nil, or_false] at e
      rcases e with rfl | rfl
      · exact ⟨h1, ed, nd⟩
      · exact ⟨h1, el, nl⟩
    · cases e2 : H x with
      | none => exact absurd e2 h2
      | some u => exact ⟨h1, by rw [but x u e e2]; exact Option.some_ne_none _, noT_same e2 (but x u e e2) h3⟩
  · by_cases e : i = k
    · subst e
      rw [h] at hk
      cases hk
      exact ⟨_, hσ, d, l, rfl, wd, wl, dl⟩
    · refine (r.sl k s hk).mono (fun _ _ h => h) (fun x u mx hu => but x u (nin x ?_) hu) fun x u mx _ => mx
      rw [mx]
      exact fun z => e (by have := Option.some.inj z; omega)
  · refine (r.tm j v q hv hq).mono (fun _ _ h => h) (fun x u mx hu => but x u (nin x ?_) hu) fun x u mx _ => mx
    rw [mx]
    exact fun z => by have := Option.some.inj z; omega
/-- a new deal is told -/
theorem Rep.newDeal (r : Rep K B G H σ δ [] [] w) {d l : Addr} (s : Same H H') (hd : H d = none) (hl : H l = none) (dl : Deal H' d l) :
    ∃ w', Stp B.T G H w δ G H' w' δ ∧ Rep K B G H' σ δ [.ref d] [.ow .deal] w' := by
  obtain ⟨nd, nl, ed, el⟩ := noT_deal dl
  have g0 : ∀ x, H x = none → G x = none := fun x hx => by
    cases e : G x with
    | none => rfl
    | some o => have := r.sub x o e; rw [hx] at this; cases this
  have st : Stp B.T G H w δ G H' (fun a => if a = d ∨ a = l then some 1 else w a) δ := by
    refine .of ⟨fun _ _ h => h, fun x o hx ho => s x o ho, fun x n hx => ?_, fun _ _ h => .inl h, .refl _⟩ (.same s)
    split at hx
    · rename_i e
      rcases e with rfl | rfl
      · exact .inr hd
      · exact .inr hl
    · exact .inl (by rw [hx]; exact Option.some_ne_none _)
  have wn : ∀ x n, w x = some n → ¬ (x = d ∨ x = l) := fun x n hx z => by
    rcases z with rfl | rfl
    · exact (r.out _ n hx).2.1 hd
    · exact (r.out _ n hx).2.1 hl
  refine ⟨_, st, fun x o hx => s x o (r.sub x o hx), fun x n hx => ?_, r.len, fun k sl hk => ?_, rfl, fun j v q hv hq => ?_, st.bs r.bs⟩
  · split at hx
    · rename_i e
      rcases e with rfl | rfl
      · exact ⟨g0 _ hd, ed, nd⟩
      · exact ⟨g0 _ hl, el, nl⟩
    · obtain ⟨h1, h2, h3⟩ := r.out x n hx
      cases e2 : H x with
      | none => exact absurd e2 h2
      | some u => exact ⟨h1, by rw [s x u e2]; exact Option.some_ne_none _, noT_same e2 (s x u e2) h3⟩
  · refine (r.sl k sl hk).mono (fun _ _ h => h) (fun x u mx hu => s x u hu) fun x u mx _ => ?_
    show (if x = d ∨ x = l then some 1 else w x) = _
    rw [if_neg (wn x _ mx)]
    exact mx
  · cases j with
    | succ j => simp at hv
    | zero =>
      cases hv
      cases hq
      exact ⟨d, l, rfl, if_pos (.inl rfl), if_pos (.inr rfl), dl⟩
end
/-! ### what a draw does, by value -/
def psp_draw : PSp := fun as Q _ => ∃ n : Int, as = [.ow true .deal, .im (.int n)] ∧ 0 < n ∧ n < 2 ^ 200 ∧ ∀ k : Nat, (k : Int) < n → Q (.im (.int k)) as
theorem two_of {vs : List V} {as : List Sl} {a b : Sl} (hl : (vs.map some).length = as.length) (ha : as = [a, b]) : ∃ x y, vs = [x, y] := by
  subst ha
  match vs, hl with
  | [x, y], _ => exact ⟨x, y, rfl⟩
theorem conv_draw {K : PySem.W.Frag} {T : List NdefX.NTab} (vs : List V) (H : Hp) (Q : VK) (E : XK) (h : LSp K T psp_draw vs H Q E) : sp_draw vs H Q E := by
  obtain ⟨G, w, as, Qp, Ep, rep, _, ⟨n, rfl, h0, h1, hq⟩, k, _⟩ := h
  obtain ⟨x, y, rfl⟩ := two_of rep.len rfl
  obtain ⟨v, hv, d, l, rfl, wd, wl, dl⟩ := rep.sl 0 _ rfl
  obtain ⟨u, hu, dq⟩ := rep.sl 1 _ rfl
  cases hv
  cases hu
  cases dq
  refine ⟨d, l, n, rfl, h0, h1, dl, fun j H' j0 j1 but dl' => ?_⟩
  obtain ⟨st, r2⟩ := rep.deal (i := 0) rfl rfl wd wl dl but dl'
  obtain ⟨m, rfl⟩ := Int.eq_ofNat_of_zero_le j0
  exact k _ _ _ _ _ _ (hq m j1) rfl (st.trans .drop) (r2.ret (.int _))
def psp_deal : PSp := fun as Q _ => ∃ (b : Int) (ns : List Int), as = [.ow true (.scr ns), .im (.int b)] ∧ 0 ≤ b ∧ b ≤ 63 ∧ ns.length ≤ 1000 ∧ Q (.ow .deal) as
theorem conv_deal {K : PySem.W.Frag} {T : List NdefX.NTab} (vs : List V) (H : Hp) (Q : VK) (E : XK) (h : LSp K T psp_deal vs H Q E) : sp_deal K vs H Q E := by
  obtain ⟨G, w, as, Qp, Ep, rep, _, ⟨b, ns, rfl, h0, h1, hn, hq⟩, k, _⟩ := h
  obtain ⟨x, y, rfl⟩ := two_of rep.len rfl
  obtain ⟨v, hv, a, rfl, hs⟩ := rep.sl 0 _ rfl
  obtain ⟨u, hu, dq⟩ := rep.sl 1 _ rfl
  cases hv
  cases hu
  cases dq
  have sq : SqL K H a (ns.map V.int) := by
    rcases hs with ⟨o, _, ho⟩ | hs
    · exact .inl (.inr ⟨o, ho⟩)
    · exact hs H
  refine ⟨a, b, ns, rfl, sq, h0, h1, hn, fun d l H' s hd hl dl => ?_⟩
  obtain ⟨w', st, r2⟩ := rep.newDeal s hd hl dl
  exact k _ _ _ _ _ _ hq rfl st r2
/-- alike: of one data it is told True -/
def psp_alike : PSp := fun as Q _ => ∃ d, as = [.im d, .im d] ∧ noL d = true ∧ wt d ≤ 1000000 ∧ Q (.im (.bool true)) as
theorem conv_alike {K : PySem.W.Frag} {T : List NdefX.NTab} (vs : List V) (H : Hp) (Q : VK) (E : XK) (h : LSp K T psp_alike vs H Q E) : sp_alike K vs H Q E := by
  obtain ⟨G, w, as, Qp, Ep, rep, _, ⟨d, rfl, h0, h1, hq⟩, k, _⟩ := h
  obtain ⟨x, y, rfl⟩ := two_of rep.len rfl
  obtain ⟨v, hv, dv⟩ := rep.sl 0 _ rfl
  obtain ⟨u, hu, du⟩ := rep.sl 1 _ rfl
  cases hv
  cases hu
  refine ⟨_, _, d, rfl, dq_dp rep.sub _ _ dv, dq_dp rep.sub _ _ du, h0, h1, fun H' s => ?_⟩
  obtain ⟨st, r2⟩ := rep.pub (x := none) (fun a o _ h => s a o h) (.same s) nofun
  exact k _ _ _ _ _ _ hq rfl (st.trans .drop) (r2.ret (.bl true))
/-! ### loops over range(n) -/
theorem rgD_get {a b : Int} {i : Nat} {d : PyData} (h : (rgD a b)[i]? = some d) : d = .int (a + (i : Nat)) ∧ i < (b - a).toNat := by
  unfold rgD at h
  rw [List.getElem?_map] at h
  obtain ⟨j, h1, h2⟩ := Option.map_eq_some_iff.mp h
  obtain ⟨h3, h4⟩ := List.getElem?_eq_some_iff.mp h1
  rw [List.getElem_range] at h4
  rw [List.length_range] at h3
  subst h4
  exact ⟨h2.symm, h3⟩
theorem rgD_len (a b : Int) : (rgD a b).length = (b - a).toNat := by unfold rgD; rw [List.length_map, List.length_range]
/-- for i in range(a, n): I at each turn -/
theorem for_rg2 {step : PyData → PSx} {ts : List Nat} {E : PEn} {n : Int} (a m : Nat) {δ : List Sl} (hn : n = m) (ham : a ≤ m) (I : Nat → List Sl → Prop) (h0 : I a δ) (hs : ∀ (i : Nat) δ, a ≤ i → i < m → I i δ → step (.int (i : Int)) ⟨fun δ' => I (i + 1) (wipeT δ' ts), E.rt, fun δ' => E.nx (wipeT δ' ts), fun δ' => I (i + 1) (wipeT δ' ts)⟩ δ) (he : ∀ δ, I m δ → E.nx δ) : loopI step ts E (rgD a n) δ := by
  subst hn
  refine ⟨fun i δ => I (a + i) δ, h0, fun i d δ hd hi => ?_, fun δ h => he δ ?_⟩
  · obtain ⟨rfl, hl⟩ := rgD_get hd
    have := hs (a + i) δ (by omega) (by omega) hi
    rw [Int.natCast_add] at this
    exact this
  · rw [rgD_len] at h
    have e : a + ((m : Int) - a).toNat = m := by omega
    rw [e] at h
    exact h
theorem for_rg {step : PyData → PSx} {ts : List Nat} {E : PEn} {n : Int} (m : Nat) {δ : List Sl} (hn : n = m) (I : Nat → List Sl → Prop) (h0 : I 0 δ) (hs : ∀ (i : Nat) δ, i < m → I i δ → step (.int (i : Int)) ⟨fun δ' => I (i + 1) (wipeT δ' ts), E.rt, fun δ' => E.nx (wipeT δ' ts), fun δ' => I (i + 1) (wipeT δ' ts)⟩ δ) (he : ∀ δ, I m δ → E.nx δ) : loopI step ts E (rgD 0 n) δ :=
  for_rg2 0 m hn (Nat.zero_le m) I h0 (fun i δ _ => hs i δ) he
theorem atI_of {α : Type} {xs : List α} {i : Int} {j : Nat} {v : α} (hi : i = (j : Int)) (h : xs[j]? = some v) : atI xs i = some v := by rw [hi]; exact atI_nat h
end Pv
/-! A def within a def, told with how the tables of code grow. -/
namespace Pv
open PySem PySem.Spec PyProof.Rows L2 LamX NdefX Wf
/-- one code object more in the table at P -/
theorem tabs_grow {T : List NTab} {H : Hp} {P d : Addr} {nm : Nat → Nat → Str} {ps : Array Value} {pos : Pos} (mem : (P, nm) ∈ T) (un : ∀ p ∈ T, p.1 = P → p.2 = nm) (hP : H P = some (.tbl ps)) (hd : H d = none) :
    TbG T H (upd (upd H P (.tbl (ps ++ #[rawInt pos.line, rawInt pos.col, .ref d]))) d (CodeO d (nm pos.line pos.col))) := by
  have keep : ∀ b o, H b = some o → NT o → upd (upd H P (.tbl (ps ++ #[rawInt pos.line, rawInt pos.col, .ref d]))) d (CodeO d (nm pos.line pos.col)) b = some o := fun b o e n => by
    have z1 : b ≠ d := ne_of_none e hd
    have z2 : b ≠ P := fun z => n ps (by rw [z, hP] at e; exact (Option.some.inj e).symm)
    rw [upd_ne z1, upd_ne z2]
    exact e
  have pd : P ≠ d := ne_of_none hP hd
  refine ⟨fun t p hp => ?_, fun a qs e => ?_⟩
  · obtain ⟨rs, r1, r2, r3⟩ := t p hp
    by_cases hb : p.1 = P
    · have ez := un p hp hb
      rw [hb] at r1
      rw [hP] at r1
      cases r1
      have el : (ps ++ #[rawInt pos.line, rawInt pos.col, .ref d]).toList = ps.toList ++ [rawInt pos.line, rawInt pos.col, .ref d] := by simp
      refine ⟨ps ++ #[rawInt pos.line, rawInt pos.col, .ref d], by rw [hb, upd_ne pd, upd_same], by rw [el]; exact PySem.TriplesOk_snoc _ _ _ _ r2, fun q cv hq => ?_⟩
      rw [el] at hq
      rcases among_app2 _ r2 hq with z | ⟨z, z1, z2⟩
      · obtain ⟨x, x1, x2⟩ := r3 q cv z
        exact ⟨x, x1, keep _ _ x2 codeO_ne⟩
      · exact ⟨d, z, by rw [← z1, ← z2, ez]; exact upd_same⟩
    · have : p.1 ≠ d := ne_of_none r1 hd
      refine ⟨rs, by rw [upd_ne this, upd_ne hb]; exact r1, r2, fun q cv hq => ?_⟩
      obtain ⟨x, x1, x2⟩ := r3 q cv hq
      exact ⟨x, x1, keep _ _ x2 codeO_ne⟩
  · have : a ≠ d := ne_of_none e hd
    rw [upd_ne this]
    by_cases hb : a = P
    · rw [hb, upd_same]; exact ⟨_, rfl⟩
    · rw [upd_ne hb]; exact ⟨qs, e⟩
theorem ext_grow {H : Hp} {P d : Addr} {ps qs : Array Value} {q : Str} (hP : H P = some (.tbl ps)) (hd : H d = none) : ExtN H (upd (upd H P (.tbl qs)) d (CodeO d q)) := fun b o e n => by
  have z1 : b ≠ d := ne_of_none e hd
  have z2 : b ≠ P := fun z => n ps (by rw [z, hP] at e; exact (Option.some.inj e).symm)
  rw [upd_ne z1, upd_ne z2]
  exact e
end Pv
namespace Pv
open PySem PySem.Spec L2 Wf
/-! ### plain tuples: tuple(list) whose object is known; .index of them -/
/-! ### list.index of numbers -/
end Pv
namespace Pv
open PySem PySem.Spec L2 Wf
/-! ### a law, by value: of each script it tells True -/
def psp_law : PSp := fun as Q _ => ∃ ns : List Int, as = [.ow true (.scr ns)] ∧ ns.length ≤ 1000 ∧ Q (.im (.bool true)) [.ow true (.scr ns)]
/-! ### a, b = e, f with names that comprehensions read -/
end Pv
/-! What the head tells of error classes; whole numbers by their names. -/
namespace Wf
open PySem PySem.Spec PyProof.Rows L2
theorem pe_gi {X : Cx} {x : Str} {i : Int} {pos : Pos} (h : ∃ t, X.mg x = some (.int i t)) (hg : Gl X x) (hdb : (x == ("__debug__" : Str)) = false := by decide) : PE X (.Name x pos) (tC (.int i)) := by
  obtain ⟨t, m⟩ := h
  exact pe_glob (v := .int i) hg m ⟨t, rfl⟩ hdb
/-! ### classes of errors -/
def oexB (K : PySem.W.Frag) (C : Addr) : Bool := match K.lookup C with
  | some ⟨.type "type", _, .cls cd, sl⟩ => (match cd.mro, sl.toList with
    | .ref C' :: bm, [_, _, _, _, some (.builtin n), _] => C' == C && n == "ValueError.__new__" && !cd.hasDel && cd.hasDict && PySem.HandSPX.refsVE bm
    | _, _ => false)
  | _ => false
theorem oexB_ok {K : PySem.W.Frag} {C : Addr} (q : oexB K C = true) : ∃ nm qn N bs bm sn sub ab col dd k0 k1 k2 k3 k5, K.lookup C = some (excClassObj nm qn C N bs bm true sn sub ab col dd k0 k1 k2 k3 k5 "ValueError.__new__") ∧ PySem.HandSPX.refsVE bm = true := by
  unfold oexB at q
  split at q
  · rename_i dd cd sl ho
    split at q
    · rename_i C' bm k0 k1 k2 k3 n k5 hm hs
      simp only [Bool.and_eq_true, beq_iff_eq, Bool.not_eq_true'] at q
      obtain ⟨⟨⟨⟨rfl, rfl⟩, hdel⟩, hdc⟩, hbm⟩ := q
      obtain ⟨nm, bs, mro, ns, qn, hd, sn, sub, ab, col, del⟩ := cd
      dsimp only at hm hdel hdc
      subst hm hdel hdc
      have hsl : sl = #[k0, k1, k2, k3, some (.builtin "ValueError.__new__"), k5] := by
        obtain ⟨z⟩ := sl
        simp only at hs
        rw [hs]
      subst hsl
      exact ⟨nm, qn, ns, bs, bm, sn, sub, ab, col, dd, k0, k1, k2, k3, k5, ho, hbm⟩
    · cases q
  · cases q
/-- the error class named x, its fields fs -/
def errB (K : PySem.W.Frag) (x : Str) (fs : List Str) : Bool :=
  oexB K (He.ga K x) && (decide (PySem.W.findIn K (.ref (He.ga K x)) "__setattr__" = some (some (.builtin "object.__setattr__"))) && (decide (PySem.W.subIn K (.ref (He.ga K x)) (.type "BaseException") = some true) && (decide (PySem.W.typeIn K (.ref (He.ga K x)) = some (.type "type")) && (PySem.W.keepIn K (.ref (He.ga K x)) &&
  (decide (PySem.W.findIn K (.ref (He.ga K x)) "__init__" = some (some (.ref (He.ma K (He.ga K x) "__init__")))) && (decide (PySem.W.typeIn K (.ref (He.ma K (He.ga K x) "__init__")) = some (.type "function")) && ((fs.all fun f => decide (PySem.W.findIn K (.ref (He.ga K x)) f = some none)) && (xfB K (He.ga K x) &&
  ((PySem.W.clsIn K (He.ga K x)).isSome && (decide (PySem.W.findIn K (.ref (He.ga K x)) "__class__" = some (some (.builtin "object.__class__"))) && (decide (PySem.W.specialIn K (.builtin "object.__class__") "__get__" = some (some (.builtin "getset_descriptor.__get__"))) &&
  (decide (PySem.W.takesIn K (.builtin "object.__class__") = some true) && decide (PySem.W.mroIn K (He.ga K x) (.type "object") = some true)))))))))))))
structure ErrF (K : PySem.W.Frag) (C fI : Addr) (fs : List Str) : Prop where
  o : OexC K C
  i : PySem.W.findIn K (.ref C) "__init__" = some (some (.ref fI))
  ti : PySem.W.typeIn K (.ref fI) = some (.type "function")
  no : ∀ f ∈ fs, PySem.W.findIn K (.ref C) f = some none
  xf : XfC K C
  is_ : IsC K C
theorem errB_ok {K : PySem.W.Frag} {x : Str} {fs : List Str} (h : errB K x fs = true) : ErrF K (He.ga K x) (He.ma K (He.ga K x) "__init__") fs := by
  unfold errB at h
  simp only [Bool.and_eq_true, decide_eq_true_eq, List.all_eq_true] at h
  obtain ⟨h1, h2, h3, h4, h5, h6, h7, h8, h9, h10, h11, h12, h13, h14⟩ := h
  have X := xfB_ok h9
  exact ⟨⟨oexB_ok h1, h2, h3, h4, h5⟩, h6, h7, h8, X, ⟨h10, X.ga, X.gg, X.exC, h11, h12, h13, h14⟩⟩
def baseB (K : PySem.W.Frag) (x : Str) : Bool := PySem.W.readsIn K (He.ga K x) (.type "type") && (decide (PySem.W.specialIn K (.ref (He.ga K x)) "__getattribute__" = some (some (.builtin "type.__getattribute__"))) && (match PySem.W.findCls K (.ref (He.ga K x)) (.type "type") "__init__" with
  | some (.val (.builtin z)) => z == "ValueError.__init__"
  | _ => false))
theorem baseB_ok {K : PySem.W.Frag} {mg : Str → Option Value} {x : Str} (h : baseB K x = true) (g : mg x = some (.ref (He.ga K x))) : BaseC K mg x (He.ga K x) := by
  unfold baseB at h
  simp only [Bool.and_eq_true, decide_eq_true_eq] at h
  obtain ⟨h1, h2, h3⟩ := h
  refine ⟨g, h1, h2, ?_⟩
  split at h3
  · rename_i z e
    rw [e, beq_iff_eq.mp h3]
  · cases h3
/-! ### a hook: what the module's names reach, and the runtime's own names -/
def frW (n : Nat) (g : Addr → Option Obj) : PySem.W.Frag := He.frT g (cStatics :: He.asD g n)
end Wf
/-! The end of a law whose defs make defs: tables of code objects, no guard. -/
namespace Wf
open PySem PySem.Spec PyProof.Rows L2 LamX
abbrev tab0 : Obj := { cls := .none, data := .fields #[] }
/-- nothing stands but the tables and the script -/
def OnlyT (cs : List (Addr × Addr)) (a : Addr) (H : Hp) : Prop := ∀ b u, H b = some u → (∃ p ∈ cs, p.2 = b) ∨ (b = a ∧ ∃ ob xs, u = HO.frz ob (.lst xs))
theorem lawT {P : Program} {w : World} {K : PySem.W.Frag} {mg mb : Str → Option Value} {k : Nat} {fa a : Addr} {cs : List (Addr × Addr)} {fd : FuncData} {x : Str} {sp : Sp} {s : Shared} {us : List Value} {ns : List Int}
    (KX : K.In s.heap) (hmg : s.heap.Ns mainGlobals mg) (hb : s.heap.Ns builtinsNs mb) (hbb : ∀ x : Str, x ≠ "__name__" → mb x = bootBuiltins x) (hlim : s.heap.NoLimit) (hg : s.gens = #[])
    (hT : ∀ p ∈ cs, s.heap.get? p.2 = some tab0) (nT : ∀ p ∈ cs, K.lookup p.2 = none) (CH : ∀ p ∈ cs, PySem.W.CodeHd s.heap p.1 p.2)
    (hbm : ∃ (bm : Addr) (ob : Obj), mg "__builtins__" = some (.ref bm) ∧ bm ≠ builtinsNs ∧ s.heap.get? bm = some ob ∧ ob.cls = .type "module" ∧ ob.dict = some builtinsNs ∧ ob.data = .plain)
    (ha : s.heap.get? a = some { cls := .type "list", data := .seq us.toArray }) (hi : IntsAre us ns) (hl : ns.length ≤ sizeLine) (hr : Room k callerA)
    (F : ∀ base : Heap, K.In base → base.Ns mainGlobals mg → (∀ p ∈ cs, TabB base mg p.1 p.2) → FnG P w K mg base CX0 k fa fd [x] sp) (hbind : ∀ (s : Shared) (u : Value), BindsTo s fd ⟨[u], []⟩ [(x, u)])
    (hsp : ∀ H : Hp, (∀ p ∈ cs, H p.2 = some (.tbl #[])) → OnlyT cs a H → SqL K H a (ns.map V.int) → sp [.ref a] H (fun v _ => v = .bl true) fun _ _ _ => False) :
    codeAny (model P w) callerA (.call (.ref fa) ⟨[.ref a], []⟩) (fun r s' => r = .ok (.ret (.bool true)) ∧ PySem.OldK s.heap s'.heap ∧ s'.os = s.os ∧ AllBare s'.gens) s := by
  classical
  have rv := vals_ints hi
  let isT : Addr → Prop := fun b => ∃ p ∈ cs, p.2 = b
  have tabAt : ∀ b, isT b → s.heap.get? b = some tab0 := fun b ⟨p, hp, e⟩ => e ▸ hT p hp
  have aT : ¬ isT a := fun z => by
    have e := tabAt a z
    rw [ha] at e
    have := congrArg Obj.data (Option.some.inj e)
    cases this
  have go : ∀ H : Hp, (∀ p ∈ cs, H p.2 = some (.tbl #[])) → (∀ b u, H b = some u → isT b ∨ (b = a ∧ ∃ ob xs, u = .frz ob (.lst xs))) → SqL K H a (ns.map V.int) → HOk P w H s.heap → (H a ≠ none → K.lookup a = none) →
      codeAny (model P w) callerA (.call (.ref fa) ⟨[.ref a], []⟩) (fun r s' => r = .ok (.ret (.bool true)) ∧ PySem.OldK s.heap s'.heap ∧ s'.os = s.os ∧ AllBare s'.gens) s := by
    intro H hH hA hS hok hK
    -- what is neither the script nor a table is not told of
    have clear_ : ∀ {b : Addr} {o : Obj}, s.heap.get? b = some o → o.data ≠ .fields #[] → (∀ vs m, o.data ≠ .seq vs m) → H b = none := fun {b o} e h1 h2 => by
      cases q : H b with
      | none => rfl
      | some u =>
        rcases hA b u q with z | ⟨rfl, _⟩
        · rw [tabAt b z] at e
          cases e
          exact absurd rfl h1
        · rw [ha] at e
          cases e
          exact absurd rfl (h2 _ _)
    have clearD : ∀ {b : Addr} {o : Obj} {es : Array DictEntry} {ep : Nat}, s.heap.get? b = some o → o.data = .dict es ep → H b = none := fun {b o es ep} e d => clear_ e (fun z => by rw [d] at z; cases z) fun vs m z => by rw [d] at z; cases z
    have nsIn_ : ∀ {b : Addr} {m : Str → Option Value}, s.heap.Ns b m → (hidT s.heap H).Ns b m := fun {b m} q => by
      obtain ⟨o, es, ep, e, d, r⟩ := q
      exact ⟨o, es, ep, hidT_get e (clearD e d), d, r⟩
    have hKb : K.In (hidT s.heap H) := fun b o e => by
      refine hidT_get (KX b o e) ?_
      cases q : H b with
      | none => rfl
      | some u =>
        rcases hA b u q with ⟨p, hp, ep⟩ | ⟨rfl, _⟩
        · rw [← ep, nT p hp] at e
          cases e
        · rw [hK (by rw [q]; exact fun z => nomatch z)] at e
          cases e
    have TB : ∀ p ∈ cs, TabB (hidT s.heap H) mg p.1 p.2 := fun p hp => by
      refine ⟨?_, ?_, fun z => ?_⟩
      · obtain ⟨o, vs, file, tf, flags, tg, inF, text, tt, e1, r1, r2, r3, rest⟩ := CH p hp
        refine ⟨o, vs, file, tf, flags, tg, inF, text, tt, hidT_get e1 (clear_ e1 (fun z => ?_) fun vs m z => ?_), r1, r2, r3, rest⟩
        · rw [r2] at z
          cases z
          simp at r3
        · rw [r2] at z
          cases z
      · obtain ⟨bm, ob, b1, b2, b3, b4, b5, b6⟩ := hbm
        refine ⟨bm, ob, b1, b2, fun z => ?_, fun z => ?_, hidT_get b3 (clear_ b3 (fun z => ?_) fun vs m z => ?_), b4, b5, b6⟩
        · obtain ⟨o, es, ep, e, d, _⟩ := hmg
          rw [z, e] at b3
          cases b3
          rw [d] at b6
          cases b6
        · rw [z, hT p hp] at b3
          cases b3
          cases b6
        · rw [b6] at z
          cases z
        · rw [b6] at z
          cases z
      · obtain ⟨o, es, ep, e, d, _⟩ := hmg
        rw [z, hT p hp] at e
        cases e
        cases d
    obtain ⟨mc, l1, l2⟩ := hlim
    have e0 : Env0 P w K mg (hidT s.heap H) callerA [] s H :=
      ⟨rfl, ⟨hKb, nsIn_ hmg, ⟨mb, nsIn_ hb, hbb⟩, ⟨mc, nsIn_ l1, l2⟩⟩, fun b o e => of_hidT e, Nat.le_of_eq (hidT_size _ _), trivial, fun b z => (List.not_mem_nil z).elim, hok, .of_eq hg⟩
    refine codeAny_mono ((F _ hKb (nsIn_ hmg) TB).run callerA rfl [] s H ⟨[.ref a], []⟩ [.ref a] [.ref a] _ _ hr e0 (hbind s (.ref a)) (.cons rfl .nil) (hsp H hH hA hS)) fun r s' q => ?_
    cases r with
    | error e => exact False.elim q
    | ok fl =>
      cases fl with
      | next => exact False.elim q
      | brk => exact False.elim q
      | cont => exact False.elim q
      | ret u =>
        obtain ⟨v, H', os, bare, un, hok', r', ev⟩ := q
        cases (show v = .bl true from ev)
        cases (show u = Value.bool true from r')
        have kept : ∀ b o, ¬ isT b → s.heap.get? b = some o → s'.heap.get? b = some o := fun b o nb e => by
          cases q : H b with
          | none => exact un.keep b o e q (fun y => (List.not_mem_nil y).elim) (fun y => (List.not_mem_nil y).elim)
          | some u =>
            rcases hA b u q with z | ⟨rfl, ob, xs, rfl⟩
            · exact absurd z nb
            · have e1 := (hok b _ q).1
              rw [e] at e1
              cases e1
              exact (hok' b _ (un.frzs b _ _ q)).1
        have grew : ∀ p ∈ cs, ∃ more : Array Value, s'.heap.get? p.2 = some { cls := .none, data := .fields more } := fun p hp => by
          obtain ⟨more, z⟩ := un.tbls p.2 #[] (hH p hp)
          exact ⟨_, hok' p.2 _ z⟩
        refine ⟨rfl, ⟨fun b o e => ?_, fun b o e => ?_⟩, os, bare⟩
        · by_cases z : isT b
          · obtain ⟨p, hp, rfl⟩ := z
            obtain ⟨more, hm⟩ := grew p hp
            rw [hT p hp] at e
            cases e
            exact .inr (.inl ⟨((CH p hp).tab (hT p hp)).isCodeTable, rfl, #[], more, rfl, by rw [Array.empty_append]; exact hm⟩)
          · exact .inl (kept b o z e)
        · by_cases z : isT b
          · obtain ⟨p, hp, rfl⟩ := z
            obtain ⟨more, hm⟩ := grew p hp
            exact ⟨_, hm⟩
          · exact ⟨o, kept b o z e⟩
  cases hk : K.lookup a with
  | some o =>
    have e := KX a o hk
    rw [ha] at e
    cases e
    let H0 : Hp := fun b => if isT b then some (.tbl #[]) else none
    have h1 : ∀ b, isT b → H0 b = some (.tbl #[]) := fun b z => if_pos z
    have h2 : ∀ b, ¬ isT b → H0 b = none := fun b z => if_neg z
    have only : ∀ b u, H0 b = some u → isT b ∧ u = .tbl #[] := fun b u e => by
      by_cases z : isT b
      · rw [h1 b z] at e
        exact ⟨z, (Option.some.inj e).symm⟩
      · rw [h2 b z] at e
        cases e
    refine go H0 (fun p hp => h1 _ ⟨p, hp, rfl⟩) (fun b u e => .inl (only b u e).1) (.inr ⟨_, us.toArray, _, hk, rfl, rfl, rfl, ?_, ?_⟩) (fun b u e => ?_) fun z => absurd (h2 a aT) z
    · rw [List.size_toArray, hi.length]
      exact hl
    · simpa using rv
    · obtain ⟨z, rfl⟩ := only b u e
      exact tabAt b z
  | none =>
    let fr : HO := .frz { cls := .type "list", data := .seq us.toArray } (.lst (ns.map V.int))
    let H0 : Hp := fun b => if b = a then some fr else if isT b then some (.tbl #[]) else none
    have h0 : H0 a = some fr := if_pos rfl
    have h1 : ∀ b, isT b → H0 b = some (.tbl #[]) := fun b z => (if_neg (show ¬ b = a from fun e => aT (by rw [← e]; exact z))).trans (if_pos z)
    have h2 : ∀ b, b ≠ a → ¬ isT b → H0 b = none := fun b n z => (if_neg n).trans (if_neg z)
    have only : ∀ b u, H0 b = some u → (isT b ∧ u = .tbl #[]) ∨ (b = a ∧ u = fr) := fun b u e => by
      by_cases q : b = a
      · subst q
        rw [h0] at e
        exact .inr ⟨rfl, (Option.some.inj e).symm⟩
      · by_cases z : isT b
        · rw [h1 b z] at e
          exact .inl ⟨z, (Option.some.inj e).symm⟩
        · rw [h2 b q z] at e
          cases e
    refine go H0 (fun p hp => h1 _ ⟨p, hp, rfl⟩) (fun b u e => ?_) (.inl (.inr ⟨_, h0⟩)) (fun b u e => ?_) fun _ => hk
    · rcases only b u e with ⟨z, _⟩ | ⟨z, rfl⟩
      · exact .inl z
      · exact .inr ⟨z, _, _, rfl⟩
    · rcases only b u e with ⟨z, rfl⟩ | ⟨rfl, rfl⟩
      · exact tabAt b z
      · exact ⟨ha, by rw [List.length_map]; exact hl, us, _, rv, ha⟩
theorem walkT2 {l : PySem.W.OpenLaw} {n k : Nat} {q : Program} {loose : List Str} {XP : (Str → Option Value) → Heap → Prop} {YP : World → Heap → Prop} {d : DefRec} {x : Str}
    (hn : l.most = some n) (hn2 : n ≤ sizeLine) (hdf : d.params.defaults = []) (hr : Room k callerA)
    (F : ∀ (w : World) (mg : Str → Option Value) (fa : Addr) (h : Heap), YP w h → h.Ns mainGlobals mg → mg d.name = some (.ref fa) →
      ∃ (K : PySem.W.Frag) (fd : FuncData) (cs : List (Addr × Addr)) (sp : Sp), K.In h ∧ (∀ p ∈ cs, h.get? p.2 = some tab0) ∧ (∀ p ∈ cs, K.lookup p.2 = none) ∧ (∀ p ∈ cs, PySem.W.CodeHd h p.1 p.2) ∧ (∀ (s : Shared) (u : Value), BindsTo s fd ⟨[u], []⟩ [(x, u)]) ∧
        (∀ (H : Hp) (a : Addr) (ns : List Int), ns.length ≤ n → (∀ p ∈ cs, H p.2 = some (.tbl #[])) → OnlyT cs a H → SqL K H a (ns.map V.int) → sp [.ref a] H (fun v _ => v = .bl true) fun _ _ _ => False) ∧
        ∀ base : Heap, K.In base → base.Ns mainGlobals mg → (∀ p ∈ cs, TabB base mg p.1 p.2) → FnG l.prog w K mg base CX0 k fa fd [x] sp) :
    PySem.W.WalkO q loose XP YP l.row.toRowW d [] (fun f vs => PySem.call f vs) := by
  refine Att.attach_call hn hdf fun w s0 s1 mg mb fa o pm cd doc a vs ns G Y ho hd hcd hmg hobj hints hlen hg => ?_
  obtain ⟨K, fd, cs, sp, KX, hT, nT, CH, hb, hsp, hF⟩ := F w mg fa _ Y G.T.g hmg
  exact lawT KX G.T.g G.T.b G.T.builtins G.T.nolimit hg hT nT CH G.T.bmain hobj hints (Nat.le_trans hlen hn2) hr hF hb fun H hH hA hS => hsp H a ns hlen hH hA hS
/-! ### a hook that tells of tables -/
structure SaysV (fa : List He.Fa) (fn : List He.DefD) (tf : List He.Defn) (ex : PySem.W.Frag → Bool) (h : Heap) (K : PySem.W.Frag) : Prop where
  d : He.SaysD fa fn K
  more : ex K = true
  hd : ∀ p ∈ tf, PySem.W.codeHdIn K (He.cT K p).1 (He.cT K p).2 = true
  out : ∀ p ∈ tf, K.lookup (He.cT K p).2 = none
  empty : ∀ p ∈ tf, h.get? (He.cT K p).2 = some tab0
def obsV (n : Nat) (fa : List He.Fa) (fn : List He.DefD) (tf : List He.Defn) (ex : PySem.W.Frag → Bool) (g : Addr → Option Obj) : He.AlD × Bool := (He.obsD fa fn (frW n g), ex (frW n g) && He.tabsB g tf (frW n g))
theorem saysV_of {n : Nat} {fa : List He.Fa} {fn : List He.DefD} {tf : List He.Defn} {ex : PySem.W.Frag → Bool} {h : Heap} (e : obsV n fa fn tf ex h.get? = (He.valD fn, true)) : SaysV fa fn tf ex h (frW n h.get?) := by
  have e1 := congrArg (fun z : He.AlD × Bool => z.1) e
  have e2 : (ex (frW n h.get?) && He.tabsB h.get? tf (frW n h.get?)) = true := congrArg (fun z : He.AlD × Bool => z.2) e
  obtain ⟨m1, m2⟩ := Bool.and_eq_true_iff.mp e2
  have at_ : ∀ p ∈ tf, PySem.W.codeHdIn (frW n h.get?) (He.cT (frW n h.get?) p).1 (He.cT (frW n h.get?) p).2 = true ∧ ∃ o, h.get? (He.cT (frW n h.get?) p).2 = some o ∧ He.emptyTab o = true := fun p hp => by
    obtain ⟨z1, z2⟩ := Bool.and_eq_true_iff.mp (List.all_eq_true.mp m2 p hp)
    refine ⟨z1, ?_⟩
    cases q : h.get? (He.cT (frW n h.get?) p).2 with
    | none => rw [q] at z2; cases z2
    | some o => rw [q] at z2; exact ⟨o, rfl, z2⟩
  refine ⟨e1, m1, fun p hp => (at_ p hp).1, fun p hp => ?_, fun p hp => ?_⟩
  · obtain ⟨_, o, q, z⟩ := at_ p hp
    exact He.frT_none q z
  · obtain ⟨_, o, q, z⟩ := at_ p hp
    rw [q, He.emptyTab_eq z]
def hookV (n : Nat) (fa : List He.Fa) (fn : List He.DefD) (tf : List He.Defn) (ex : PySem.W.Frag → Bool) : PySem.W.Hook where
  α := He.AlD × Bool
  obs := fun s => obsV n fa fn tf ex s.heap.get?
  val := fun _ => (He.valD fn, true)
  says := fun _ h => ∃ K : PySem.W.Frag, K.In h ∧ SaysV fa fn tf ex h K
  of := fun _ _ e => ⟨_, He.frT_in, saysV_of e⟩
  keeps := fun _ _ _ ⟨K, hK, c⟩ k => ⟨K, PySem.W.Frag.In.keeps hK k, ⟨c.d, c.more, c.hd, c.out, fun p hp => k _ _ (c.empty p hp)⟩⟩
theorem obsV_eq {n : Nat} {fa : List He.Fa} {fn : List He.DefD} {tf : List He.Defn} {ex : PySem.W.Frag → Bool} {g : Addr → Option Obj} {s : Shared} (h : ∀ a, g a = s.heap.get? a) : obsV n fa fn tf ex g = (hookV n fa fn tf ex).obs s := by
  have e : g = s.heap.get? := funext h
  rw [e] <;> rfl
/-- the code object of a def that the head tells -/
theorem code_of {K : PySem.W.Frag} {p : He.Defn} {qual : Str} {params : Arguments} {body : List Stmt} {scope : Scope} {dvs : List V} {kws : List (Str × V)} {x : Str} {fd : FuncData} (F : FunD K x qual params body scope dvs kws (He.fAd K p) fd) : fd.code = .ref (He.cT K p).1 := by
  obtain ⟨oc, od, dV, kV, doc, pm, an, cdv, ct, osl, rfl, lk, hcd, _, _⟩ := F.ex
  obtain ⟨c, hc⟩ := He.codeIn_ref hcd
  have e := He.codeOf_eq lk (c := c) hc
  show cdv = _
  rw [hc]
  show Value.ref c = .ref (He.codeOf K p)
  rw [e]
end Wf
/-! A law whose program makes defs: its beginning, by value; old contracts that let tables grow, by value. -/
namespace Pv
open PySem PySem.Spec L2 LamX NdefX Wf
theorem end_lawT {K : PySem.W.Frag} {T : List NTab} {cs : List (Addr × Addr)} {H : Hp} {a : Addr} {ns : List Int} (hl : ns.length ≤ 1000) (tn : TabsN T H) (hT : ∀ p ∈ cs, H p.2 = some (.tbl #[])) (hO : OnlyT cs a H) (hS : SqL K H a (ns.map V.int)) : LSp K T psp_law [.ref a] H (fun v _ => v = .bl true) fun _ _ _ => False := by
  have fin : ∀ (G : Hp) (w : Addr → Option Nat), Rep K (B0 T H w) G H [some (.ref a)] [.ow true (.scr ns)] [] [] w → LSp K T psp_law [.ref a] H (fun v _ => v = .bl true) fun _ _ _ => False := fun G w r => by
    refine ⟨G, w, [.ow true (.scr ns)], fun r _ => r = .im (.bool true), noX, r, fun s hs => ?_, ⟨ns, rfl, hl, rfl⟩, fun r δ' v H' G' w' hr _ _ rep => ?_, xok_no⟩
    · rw [List.mem_singleton] at hs
      exact .inr (.inr ⟨_, hs⟩)
    · subst hr
      have : Dq K G' v (.bool true) := rep.tm 0 v _ rfl rfl
      cases this
      rfl
  rcases hS with h | h
  · have ho : ∃ o, H a = some (.frz o (.lst (ns.map V.int))) := by
      rcases h with h | ⟨o, h⟩
      · rcases hO a _ h with ⟨p, hp, e⟩ | ⟨_, o, xs, z⟩
        · have := hT p hp
          rw [e, h] at this
          cases this
        · cases z
      · exact ⟨o, h⟩
    obtain ⟨o, ho⟩ := ho
    refine fin (fun _ => none) (fun b => if b = a then some 0 else none) ⟨(fun _ _ z => by cases z), fun b i hb => ?_, rfl, fun i s hs => ?_, rfl, fun j v q hv => by simp at hv, ⟨fun b u hb => B0_some hb, .refl, tn, nofun⟩⟩
    · split at hb
      · rename_i e
        subst e
        exact ⟨rfl, by rw [ho]; exact Option.some_ne_none _, NoX.of ho (fun _ z => by cases z) (fun _ _ z => by cases z) (fun _ z => by cases z)⟩
      · cases hb
    · match i, hs with
      | 0, hs =>
        cases hs
        exact ⟨.ref a, rfl, a, rfl, .inl ⟨o, if_pos rfl, ho⟩⟩
      | i + 1, hs => simp at hs
  · refine fin (fun _ => none) (fun _ => none) ⟨(fun _ _ z => by cases z), (fun _ _ z => by cases z), rfl, fun i s hs => ?_, rfl, fun j v q hv => by simp at hv, ⟨fun b u hb => B0_some hb, .refl, tn, nofun⟩⟩
    match i, hs with
    | 0, hs =>
      cases hs
      exact ⟨.ref a, rfl, a, rfl, .inr fun H1 => .inr h⟩
    | i + 1, hs => simp at hs
end Pv
/-! Lambdas that hold nothing: made, handed on, called; by value. -/
namespace Pv
open PySem PySem.Spec PyProof.Rows L2 LamX NdefX Wf
end Pv
/-! Lambdas called. -/
namespace Pv
open PySem PySem.Spec PyProof.Rows L2 LamX NdefX Wf
end Pv
/-! sorted(range(n), key=a lambda that holds a name). -/
namespace Pv
open PySem PySem.Spec PyProof.Rows L2 LamX NdefX Wf SrtO Srt
/-- the very object -/
def ObjO (a : Addr) (o : Obj) : HO := .ext fun h => h.get? a = some o
section
variable {X : Cx} {pins : List (Addr × Obj)} {σ : L2.St} {H : Hp} {s : Shared} {h' : Heap}
theorem inv_obj {a : Addr} {o : Obj} {t' : Nat} (J : L2.Inv X pins σ H s) (kk : ∀ b u, s.heap.get? b = some u → h'.get? b = some u) (hp : s.heap.objs.size ≤ a) (e : h'.get? a = some o) : L2.Inv X pins σ (upd H a (ObjO a o)) { s with heap := h', toks := t' } :=
  J.laid kk hp ⟨e, ⟨_, e⟩, fun h1 h2 z st => st _ z⟩
end
/-! ### a lambda that holds names, called -/
theorem run_lamC {CX : CXT} {P : Program} {w : World} {K : PySem.W.Frag} {mg : Str → Option Value} {base : Heap} {k : Nat} {f : Addr} {F : NF} {bd : Expr} {N ps fr : List Str} (S : NScope N ps fr F.scope)
    {A : Around} {outer : List Env} {s : Shared} {H : Hp} {us : List Value} {vs : List V} {ws : List (Option V)} {Q : VK} {E : XK} {pm ctv : Value} (room : Room (k + 1) A) (e0 : Env0 P w K mg base A outer s H)
    (hf : s.heap.get? f = some (PySem.W.kla_obj "<lambda>" F.qual F.params bd F.scope F.cl pm F.c ctv)) (hc : H F.c = some (CodeO F.c F.qual))
    (hb : bindArgs (PySem.W.kla_fn "<lambda>" F.qual F.params bd F.scope F.cl pm (.ref F.c) ctv) ⟨us, []⟩ = pure (ps.zip us)) (rv : Vals vs us) (hl : vs.length = ps.length) (C : CellsAt F.cl fr ws s.heap H)
    (hbody : Room k (A.deeper (envF F f s.heap.objs.size)) → ∃ t, PE (ncx CX P w K mg base N F f A outer s H E) bd t ∧ t (startF N vs ws) H Q) :
    codeAny (model P w) A (.call (.ref f) ⟨us, []⟩) (CR CX outer P w H s Q E) s := by
  have nolim : s.heap.NoLimit := e0.mod.nolimit.keeps fun b o e => (e0.bs b o e).1
  refine PySem.W.kla_callFunE room.depth hf rfl S.co S.gen rfl (codeO_at e0.hok hc) ?_
  rw [hb]
  refine wpAny_pure (wpAny_newFunctionEnv S.nocell (fun ⟨n, _⟩ hy => S.par n (List.of_mem_zip hy).1) (fun g1 hns hsb => ⟨nolim.fresh _ hsb, ?_⟩) S.kind)
  show codeAny _ _ (.expr bd (envF F f s.heap.objs.size)) _ _
  have keep1 : ∀ b o, s.heap.get? b = some o → g1.get? b = some o := fun b o e => hsb.extBut b o (Nat.ne_of_lt (Heap.lt_size e)) (Heap.get?_push_of_some _ e)
  obtain ⟨t, ht, hq⟩ := hbody (room.deeper _)
  have J : L2.Inv (ncx CX P w K mg base N F f A outer s H E) [] (startF N vs ws) H { s with heap := g1, toks := s.toks + (ps.zip us).length } := inv_startN S room.hd e0 hl rv C hns keep1
  refine PySem.W.kla_codeExpr (wpAny_mono (ht.run [] _ (startF N vs ws) H Q J hq) (fun v s' hs => ?_) fun e s' hs => hs)
  obtain ⟨v', H', J', rv', q'⟩ := hs
  exact ⟨v', H', J'.os, J'.bare, J'.base, J'.hok, rv', q'⟩
/-! ### list.sort(key=f) -/
section
variable {X : Cx} {A : Around} {pins : List (Addr × Obj)} {σ : L2.St} {H : Hp} {s : Shared} {a kS f : Addr} {e e1 : Nat} {P : PySem.Fin → Shared → Prop} {E : Value → Shared → Prop}
def KeysAt (H : Hp) (kf : Int → Int × Int) (us : List Value) (ns : List Int) : Prop := ∃ ps : List Addr, us = ps.map Value.ref ∧ ps.length = ns.length ∧ ∀ (j : Nat) p n, ps[j]? = some p → ns[j]? = some n → H p = some (.tup [.int (kf n).1, .int (kf n).2])
theorem KeysAt.mono {H H' : Hp} {kf : Int → Int × Int} {us : List Value} {ns : List Int} (k : KeysAt H kf us ns) (h : ∀ b xs, H b = some (.tup xs) → H' b = some (.tup xs)) : KeysAt H' kf us ns := by
  obtain ⟨ps, e, hl, hk⟩ := k
  exact ⟨ps, e, hl, fun j q m hq hm => h _ _ (hk j q m hq hm)⟩
end
section
variable {X : Cx} {pins : List (Addr × Obj)} {σ : L2.St} {H : Hp} {s : Shared} {f r : Addr} {E : Value → Shared → Prop} {Q : Value → Shared → Prop}
theorem vals_ints : ∀ {ns : List Int} {us : List Value}, IntsAre us ns → Vals (ns.map V.int) us
  | _, _, .nil => .nil
  | _, _, .cons n t h => .cons ⟨t, rfl⟩ (vals_ints h)
theorem lamC_grow {T : List NTab} {nm : Nat → Nat → Str} {c P : Addr} {prm : Arguments} {bd : Expr} {sc : Scope} {pos : Pos} (J : L2.Inv X pins σ H s) (tb : TabB X.base X.mg c P) (ec : X.env.code = .ref c)
    (mem : (P, nm) ∈ T) (en : nm pos.line pos.col = X.env.qual ++ "<lambda>") (un : ∀ p ∈ T, p.1 = P → p.2 = nm) (tn : TabsN T H) (hdef : defaultsOf prm X.env = ([], [])) (hfree : ∀ y ∈ sc.names, y.2 = .free → ∃ c, X.env.cells.lookup y.1 = some c)
    (go : ∀ (f d : Addr) (pm ctv : Value) (H1 : Hp) (s' : Shared), L2.Inv X pins σ H1 s' → ExtN H H1 → TbG T H H1 → H f = none → H1 f = some (ObjO f (PySem.W.kla_obj "<lambda>" (X.env.qual ++ "<lambda>") prm bd sc (cloFrom X.env.cells sc.names []) pm d ctv)) → H1 d = some (CodeO d (X.env.qual ++ "<lambda>")) → Q (.ref f) s') :
    wpAny (model X.prog X.w) X.A (eval (.Lambda prm bd sc pos) X.env) Q E s := by
  obtain ⟨ps, hP, tr, all⟩ := (show TabN H P nm from tn _ mem)
  have here : s.heap.get? P = some { cls := .none, data := .fields ps } := J.hok P _ hP
  refine PySem.W.kla_eval hdef ?_
  cases hc : codeAmong pos ps.toList with
  | none =>
    refine PySem.W.kla_makeFunction (mg := X.mg) (c := c) (P := P) (ps := ps) (closure_ok hfree) J.ok.glob (J.mod.glob.keeps J.bk) ec (tb.code.keeps J.bk) here tr hc tb.gP (tb.bm.keeps J.bk) fun d ctv h' tk hx hge hlt hrec htb => ?_
    obtain ⟨d2, oc, us, t, e2, hoc, hdt, hus⟩ := hrec
    cases e2
    have nd : H d = none := J.hok.fresh hge
    have J1 := inv_table (t' := tk) (more := #[rawInt pos.line, rawInt pos.col, .ref d]) (h' := h') J hP (fun b o hb e => hx b o hb e) htb hge ⟨oc, us, t, hoc, hdt, hus⟩
    have g := tabs_grow (pos := pos) mem un hP nd
    rw [en] at g
    have nf := J1.hok.fresh (Nat.le_refl _)
    have J2 := inv_obj (t' := tk) (o := PySem.W.kla_obj "<lambda>" (X.env.qual ++ "<lambda>") prm bd sc (cloFrom X.env.cells sc.names []) ((X.mg "__name__").getD .none) d ctv) J1 (fun b u hu => Heap.get?_push_of_some _ hu) (Nat.le_refl _) (Heap.get?_push_size _ rfl)
    refine go h'.objs.size d _ _ _ _ J2 ((ext_grow hP nd).trans (.of (same_new nf))) (g.trans (.same (same_new nf))) (J.hok.fresh (Nat.le_trans hge (Nat.le_of_lt hlt))) upd_same ?_
    exact (upd_ne (Nat.ne_of_lt hlt)).trans upd_same
  | some cv =>
    obtain ⟨d, e, hco⟩ := all pos cv hc
    subst e
    rw [en] at hco
    refine PySem.W.kla_makeFunctionHit (mg := X.mg) (c := c) (P := P) (ps := ps) (closure_ok hfree) J.ok.glob (J.mod.glob.keeps J.bk) ec (tb.code.keeps J.bk) here tr hc (tb.bm.keeps J.bk) fun ctv h' tk hx hsz => ?_
    have J1 : L2.Inv X pins σ H { s with heap := h', toks := tk } := J.kept hx
    have nf : H h'.objs.size = none := J1.hok.fresh (Nat.le_refl _)
    have J2 := inv_obj (t' := tk) (o := PySem.W.kla_obj "<lambda>" (X.env.qual ++ "<lambda>") prm bd sc (cloFrom X.env.cells sc.names []) ((X.mg "__name__").getD .none) d ctv) J1 (fun b u hu => Heap.get?_push_of_some _ hu) (Nat.le_refl _) (Heap.get?_push_size _ rfl)
    exact go h'.objs.size d _ _ _ _ J2 (.of (same_new nf)) (.same (same_new nf)) nf upd_same ((upd_ne (ne_of_none hco nf)).trans hco)
end
end Pv
/-! A def whose code object is known, by value; the lambda of a def. -/
namespace Pv
open PySem PySem.Spec PyProof.Rows L2 LamX NdefX Wf
def lamIn (st : Stmt) : Expr := match C8.fnBody st with
  | [.Return (some (.Call _ [_, _, l] _ _)) _] => l
  | _ => .Constant (.int 0) 0 ⟨0, 0, 0, 0⟩
def lamB : Expr → Expr
  | .Lambda _ b _ _ => b
  | e => e
def lamA : Expr → Arguments
  | .Lambda p _ _ _ => p
  | _ => C8.fnArgs (.Pass ⟨0, 0, 0, 0⟩)
def lamS : Expr → Scope
  | .Lambda _ _ s _ => s
  | _ => C8.fnScope (.Pass ⟨0, 0, 0, 0⟩)
end Pv
namespace Pv
open PySem PySem.Spec L2 Wf
/-! ### what is caught: errors of one class C, by the name of C0; they are none of os -/
end Pv
namespace Pv
open PySem PySem.Spec L2 Wf
/-! ### abs, all, any, sorted -/
end Pv
namespace Pv
open PySem PySem.Spec L2 Wf
/-- whole numbers from 0 on, as data -/
abbrev nD (k : Nat) : PyData := .int (k : Int)
theorem szN {n m : Nat} (h : n ≤ m) (hm : m < sizeLine) : n < sizeLine := Nat.lt_of_le_of_lt h hm
theorem nd1 (i : Nat) : [i].Nodup := by simp
/-! ### _law_mixed -/
/-! ### _law_order -/
end Pv
/-! Good books are let by. -/
namespace Wf
open PySem PySem.Spec L2
theorem wh_trueG {lo hi i : Int} (h : lo ≤ i ∧ i ≤ hi) : isWh lo hi (.int i) = true := by
  show (decide (lo ≤ i) && decide (i ≤ hi)) = true
  simp
  omega
theorem amissP_okG : ∀ (ps : List Int) (lo : Int) (k : Nat), (∀ p ∈ ps, lo ≤ p ∧ p ≤ 1000) → ps.Pairwise (· < ·) → amissP lo k (ps.map PyData.int) = none
  | [], _, _, _, _ => rfl
  | p :: ps, lo, k, h, w => by
    have h1 := h p List.mem_cons_self
    have w' := List.pairwise_cons.mp w
    show amissP lo k (.int p :: ps.map PyData.int) = none
    rw [amissP_yes (wh_trueG h1)]
    exact amissP_okG ps (p + 1) (k + 1) (fun q hq => ⟨by have := w'.1 q hq; omega, (h q (List.mem_cons_of_mem _ hq)).2⟩) w'.2
theorem isPr_dPG {s : Int} {p : Int × Int} (h : InP s p) : isPr s (dP p) = true := by
  unfold InP at h
  show (isWh 0 (s - 1) (.int p.1) && isWh 0 (s - 1) (.int p.2)) = true
  rw [wh_trueG (by omega), wh_trueG (by omega)]
  rfl
theorem amissT_okG {s : Int} : ∀ (t : Tab) (n : Nat), (∀ p ∈ t, InP s p) → amissT s n (t.map dP) = none
  | [], _, _ => rfl
  | p :: t, n, h => by
    show (if isPr s (dP p) = true then amissT s (n + 1) (t.map dP) else some n) = none
    rw [if_pos (isPr_dPG (h p List.mem_cons_self))]
    exact amissT_okG t (n + 1) fun q hq => h q (List.mem_cons_of_mem _ hq)
theorem tableA_okG {s : Int} {k : Nat} {t : Tab} (h : TabOk s t) : tableA s k (dT t) = none := by
  have e : tableA s k (dT t) = (amissT s 0 (t.map dP)).map fun n => (("pair" : Str), (k : Int) * (s * s) + n) := if_pos (by rw [List.length_map]; exact h.len)
  rw [e, amissT_okG t 0 h.inn]
  rfl
theorem amissB_okG {s : Int} : ∀ (ts : List Tab) (k : Nat), (∀ t ∈ ts, TabOk s t) → amissB s k (ts.map dT) = none
  | [], _, _ => rfl
  | t :: ts, k, h => by
    show (match tableA s k (dT t) with | some a => some a | none => amissB s (k + 1) (ts.map dT)) = none
    rw [tableA_okG (h t List.mem_cons_self)]
    exact amissB_okG ts (k + 1) fun q hq => h q (List.mem_cons_of_mem _ hq)
theorem bookA_okG {m : Int} {B : Book} (h : BookOk m B) : bookA (dB B) = none := by
  have hl := h.pac.len
  have := h.m1
  have := h.m5
  have ep : paceA (dI B.ps) = none := by
    show (if 1 ≤ (B.ps.map PyData.int).length ∧ (B.ps.map PyData.int).length ≤ 5 then amissP (-1000) 0 (B.ps.map PyData.int) else some 0) = none
    rw [if_pos (by rw [List.length_map]; omega)]
    exact amissP_okG _ _ _ h.pac.lo h.pac.rise
  show (match paceA (dI B.ps) with | some k => _ | none => _) = none
  rw [ep]
  have := h.s1
  have := h.s6
  have e1 : (decide (1 ≤ B.s) && decide (B.s ≤ 6)) = true := wh_trueG (lo := 1) (hi := 6) (by omega)
  show (if (decide (1 ≤ B.s) && decide (B.s ≤ 6)) = true then tabsA ((B.ps.map PyData.int).length : Int) B.s (.tuple (B.ts.map dT)) else _) = none
  rw [if_pos e1, List.length_map, hl]
  show (if ((B.ts.map dT).length : Int) = nT m then amissB B.s 0 (B.ts.map dT) else _) = none
  rw [if_pos (by rw [List.length_map]; exact h.tab.len)]
  exact amissB_okG _ _ h.tab.ok
end Wf
/-! Books by value; rows; is_whole, table_number, pair_at. -/
namespace Pv
open PySem PySem.Spec L2 Wf
/-! ### books -/
end Pv
/-! sorted(range(n), key=lambda i: (x[i], i)), by value. -/
namespace Pv
open PySem PySem.Spec PyProof.Rows L2 LamX NdefX Wf SrtO Srt
/-- the object of a lambda that holds names -/
def lamObj (X : Cx) (prm : Arguments) (bd : Expr) (sc : Scope) (pm ctv : Value) (d : Addr) : Obj := PySem.W.kla_obj "<lambda>" (X.env.qual ++ "<lambda>") prm bd sc (cloFrom X.env.cells sc.names []) pm d ctv
def tLamV (X : Cx) (T : List NTab) (prm : Arguments) (bd : Expr) (sc : Scope) : TE := fun σ H Q => TabsN T H ∧ ∀ (f d : Addr) (pm ctv : Value) (H1 : Hp), ExtN H H1 → TbG T H H1 → H f = none → H1 f = some (ObjO f (lamObj X prm bd sc pm ctv d)) → H1 d = some (CodeO d (X.env.qual ++ "<lambda>")) → Q (.ref f) H1
theorem pe_lamV {X : Cx} {T : List NTab} {nm : Nat → Nat → Str} {c P : Addr} {prm : Arguments} {bd : Expr} {sc : Scope} {pos : Pos} (tb : TabB X.base X.mg c P) (ec : X.env.code = .ref c) (mem : (P, nm) ∈ T) (en : nm pos.line pos.col = X.env.qual ++ "<lambda>") (un : ∀ p ∈ T, p.1 = P → p.2 = nm) (hdef : defaultsOf prm X.env = ([], []))
    (hfree : X.Ok → ∀ y ∈ sc.names, y.2 = .free → ∃ c, X.env.cells.lookup y.1 = some c) : PE X (.Lambda prm bd sc pos) (tLamV X T prm bd sc) := by
  refine ⟨fun pins s σ H Q I ⟨tn, q⟩ => ?_⟩
  exact lamC_grow I tb ec mem en un tn hdef (hfree I.ok) fun f d pm ctv H1 s' I1 e1 g1 f0 ff cc => ⟨.ref f, H1, I1, rfl, q f d pm ctv H1 e1 g1 f0 ff cc⟩
end Pv
/-! A lambda that may hold names, handed to a def: called there by what it does. -/
namespace Wf
open PySem PySem.Spec PyProof.Rows L2 LamX NdefX
variable {P : Program} {w : World} {K : PySem.W.Frag} {mg : Str → Option Value} {base : Heap}
/-- f tells a pair of two numbers below n -/
def GoodF (P : Program) (w : World) (K : PySem.W.Frag) (mg : Str → Option Value) (base : Heap) (H : Hp) (f : Addr) (n : Nat) (g : Int → Int → Int × Int) : Prop :=
  (∃ (F : NF) (bd : Expr) (pm ctv : Value), H f = some (Pv.ObjO f (PySem.W.kla_obj "<lambda>" F.qual F.params bd F.scope F.cl pm F.c ctv))) ∧
  ∀ (A : Around) (outer : List Env) (s : Shared) (H1 : Hp) (us : List Value) (Q : VK) (a b : Nat), Room 1 A → Env0 P w K mg base A outer s H1 → Same H H1 → a < n → b < n → Vals [.int (a : Int), .int (b : Int)] us → (∀ r H2, Same H1 H2 → Dp K H2 r (dP (g (a : Int) (b : Int))) → Q r H2) →
    codeAny (model P w) A (.call (.ref f) ⟨us, []⟩) (CR CX0 outer P w H1 s Q E0) s
theorem GoodF.mono {H H' : Hp} {f : Addr} {n : Nat} {g : Int → Int → Int × Int} (h : GoodF P w K mg base H f n g) (s : Same H H') : GoodF P w K mg base H' f n g := by
  obtain ⟨⟨F, bd, pm, ctv, e⟩, k⟩ := h
  exact ⟨⟨F, bd, pm, ctv, s _ _ e⟩, fun A outer sh H1 us Q a b r e0 s1 ha hb v q => k A outer sh H1 us Q a b r e0 (s.trans s1) ha hb v q⟩
/-- a lambda made here does what its body says -/
theorem good_of {H : Hp} {f : Addr} {n : Nat} {g : Int → Int → Int × Int} {F : NF} {bd : Expr} {pm ctv : Value} {N fr : List Str} {x y : Str} {ws : List (Option V)} {t : TE} (S : NScope N [x, y] fr F.scope)
    (hf : H f = some (Pv.ObjO f (PySem.W.kla_obj "<lambda>" F.qual F.params bd F.scope F.cl pm F.c ctv))) (hc : H F.c = some (CodeO F.c F.qual)) (CB : CellsB base F.cl fr ws)
    (hb : ∀ u v : Value, bindArgs (PySem.W.kla_fn "<lambda>" F.qual F.params bd F.scope F.cl pm (.ref F.c) ctv) ⟨[u, v], []⟩ = pure [(x, u), (y, v)])
    (hbody : ∀ (A : Around) (outer : List Env) (s : Shared) (H1 : Hp), PE (ncx CX0 P w K mg base N F f A outer s H1 E0) bd t)
    (hp : ∀ (a b : Nat) (H1 : Hp) (Q : VK), a < n → b < n → Same H H1 → (∀ r H2, Same H1 H2 → Dp K H2 r (dP (g (a : Int) (b : Int))) → Q r H2) → t (startF N [.int (a : Int), .int (b : Int)] ws) H1 Q) : GoodF P w K mg base H f n g := by
  refine ⟨⟨F, bd, pm, ctv, hf⟩, fun A outer s H1 us Q a b r e0 sm ha hb' v q => ?_⟩
  obtain ⟨ho, _, _⟩ := e0.hok f _ (sm _ _ hf)
  refine Pv.run_lamC (CX := CX0) (k := 0) (N := N) (ps := [x, y]) (fr := fr) (ws := ws) (vs := [.int (a : Int), .int (b : Int)]) S r e0 ho (sm _ _ hc) ?_ v rfl (CB s.heap H1 e0.bs) fun _ => ⟨t, hbody A outer s H1, hp a b H1 Q ha hb' sm q⟩
  cases v with
  | cons r1 r2 =>
    cases r2 with
    | cons r2 r3 => cases r3; exact hb _ _
/-! ### a call of it -/
def tCallG (P : Program) (w : World) (K : PySem.W.Frag) (mg : Str → Option Value) (base : Heap) (i : Nat) (t : TA) : TE := fun σ H Q => ∃ (f : Addr) (n : Nat) (g : Int → Int → Int × Int), σ[i]? = some (some (.ref f)) ∧ GoodF P w K mg base H f n g ∧
  t σ H fun vs H1 => ∃ a b : Nat, vs = [.int (a : Int), .int (b : Int)] ∧ Same H H1 ∧ a < n ∧ b < n ∧ ∀ r H2, Same H1 H2 → Dp K H2 r (dP (g (a : Int) (b : Int))) → Q r H2
theorem goodAt {X : Cx} {pins : List (Addr × Obj)} {σ : L2.St} {H : Hp} {s : Shared} {f : Addr} {n : Nat} {g : Int → Int → Int × Int} (I : L2.Inv X pins σ H s) (h : GoodF P w K mg base H f n g) : PySem.W.FnAt f s.heap := by
  obtain ⟨F, bd, pm, ctv, e⟩ := h.1
  obtain ⟨ho, _, _⟩ := I.hok f _ e
  exact ⟨_, _, _, _, ho⟩
theorem pe_callG {X : Cx} {j i : Nat} {x : Str} {e : Expr} {es : List Expr} {t : TA} {p pos : Pos} (hr : Room j X.A) (hk : 1 ≤ j) (hN : X.N[i]? = some x) (hv : Vis X.env.scope x) (ha : PA X (e :: es) t)
    (hd : (x == ("__debug__" : Str)) = false := by decide) (hcd : (x == ("__classdict__" : Str)) = false := by decide)
    (he : starEach (e :: es) X.env = (false, eval e X.env) :: starEach es X.env := by rfl) (hpl : (backTo pos (starEach es X.env)).any (·.1) = false := by rfl) :
    PE X (.Call (.Name x p) (e :: es) [] pos) (tCallG X.prog X.w X.K X.mg X.base i t) := by
  refine ⟨fun pins s σ H Q I q => ?_⟩
  obtain ⟨f, n, g, hs, G, ht⟩ := q
  refine wpAny_Call_Name_kw (thn ((pe_var (pos := p) hN hv hd hcd).run pins s σ H (fun v H1 => v = .ref f ∧ H1 = H) I ⟨.ref f, hs, rfl, rfl⟩) fun u s1 ⟨v, H1, I1, r1, ev, eH⟩ => ?_)
  subst ev
  rw [eH] at I1
  obtain rfl : u = Value.ref f := r1
  refine PySem.W.callWith_F (first := []) (goodAt I1 G) (thn (ha.run pos pins s1 σ H _ I1 ht) fun us s2 ⟨vs, H2, I2, r, a, b, ev, sm, ha', hb', k⟩ => ⟨goodAt I2 (G.mono sm), ?_⟩) he hpl
  subst ev
  refine wpAny_call (codeAny_mono (G.2 X.A X.stack s2 H2 us Q a b (hr.mono hk) I2.env0 sm ha' hb' r k) fun rr s' hq => ?_)
  cases rr with
  | error er => exact False.elim hq
  | ok fl =>
    cases fl with
    | ret u => exact I2.after hq
    | next => exact False.elim hq
    | brk => exact False.elim hq
    | cont => exact False.elim hq
/-! ### a def called with such a thing made here: the cells of this def are the base's then -/
def tMk (K : PySem.W.Frag) (sp : Heap → Sp) (cl : List (Str × Addr)) (fr : List Str) (js : List Nat) (t : TA) : TE := fun σ H Q => t σ H fun vs H1 => ∀ base' : Heap, CellsB base' cl fr (js.map (slotAt σ)) → sp base' vs H1 Q E0
theorem pe_mk {X : Cx} {k j : Nat} {x : Str} {sp : Heap → Sp} {cl : List (Str × Addr)} {fr pm : List Str} {js : List Nat} {e : Expr} {es : List Expr} {t : TA} {p pos : Pos} (C : ∀ base' : Heap, Cal X.prog X.w X.K X.mg base' CX0 k x pm (sp base')) (hr : Room j X.A)
    (cp : X.Ok → Caps X cl fr js) (hst : X.stack = X.env :: X.outer) (hfr : X.env.frame = some X.env.locals) (hfn : ∀ y, X.fn y = true) (hg : Gl X x) (ha : PA X (e :: es) t) (hk : k ≤ j := by decide)
    (hdb : (x == ("__debug__" : Str)) = false := by decide) (he : starEach (e :: es) X.env = (false, eval e X.env) :: starEach es X.env := by rfl) (hpl : (backTo pos (starEach es X.env)).any (·.1) = false := by rfl) :
    PE X (.Call (.Name x p) (e :: es) [] pos) (tMk X.K sp cl fr js t) := by
  obtain ⟨f, fd, _, m, kp, _⟩ := (C X.base).ex
  refine ⟨fun pins s σ H Q I q0 => wpAny_Call_Name_kw (ld_glob I hg m ?_ hdb)⟩
  refine PySem.W.callWith_K (h₀ := X.base) I.ok.mod.kin kp (thn (ha.run pos pins s σ H _ I q0) fun us s1 hh => ?_) he hpl
  obtain ⟨vs, H1, I1, r, q⟩ := hh
  refine ⟨I1.kIn, ?_⟩
  have CA := cells_of I1 (cp I1.ok)
  obtain ⟨base', E1, hb⟩ := widen (cl := cl) I1 hst hfr fun y c hy => ⟨(cp I1.ok).sub y c hy, hfn y⟩
  obtain ⟨f2, fd2, G, m2, kp2, b2⟩ := (C base').ex
  have ef : f2 = f := by
    rw [m] at m2
    injection m2 with z
    injection z with z'
    exact z'.symm
  subst ef
  have q' := q base' (cellsB_of CA hb)
  have hl : (us ++ []).length = pm.length := by rw [List.append_nil, ← r.length]; exact G.len _ _ _ _ q'
  have bb : BindsTo s1 fd2 ⟨us, []⟩ (pm.zip us) := by
    have := b2 s1 us I1.kIn hl
    rwa [List.append_nil] at this
  refine wpAny_call (codeAny_mono (G.run X.A X.stack s1 H1 ⟨us, []⟩ us _ Q E0 (hr.mono hk) E1 bb r q') fun rr s' hq => ?_)
  cases rr with
  | error er => exact False.elim hq
  | ok fl =>
    cases fl with
    | ret u => exact I1.after hq
    | next => exact False.elim hq
    | brk => exact False.elim hq
    | cont => exact False.elim hq
/-! ### made_table -/
def sp_madeL (P : Program) (w : World) (K : PySem.W.Frag) (mg : Str → Option Value) (base : Heap) : Sp := fun vs H Q _ => ∃ (n : Nat) (f : Addr) (g : Int → Int → Int × Int),
  vs = [.int (n : Int), .ref f] ∧ n ≤ 6 ∧ GoodF P w K mg base H f n g ∧ ∀ r H', Same H H' → Dp K H' r (dT (rowsF n g (n * n))) → Q r H'
def t_madeL (P : Program) (w : World) (K : PySem.W.Frag) (mg : Str → Option Value) (base : Heap) : TS :=
  tRet (tCB (qTupleOf K) (tCons (tLc2 (iRng1 (tCons (tVar 0) (tNil))) (gName 2) (tYes) (iRng1 (tCons (tVar 0) (tNil))) (gName 3) (tYes) (tCallG P w K mg base 1 (tCons (tVar 2) (tCons (tVar 3) (tNil)))) [2, 3] [3]) (tNil)))
theorem pure_madeL (vs : List V) (H : Hp) (Q : VK) (E : XK) (h : sp_madeL P w K mg base vs H Q E) : t_madeL P w K mg base (EndsQ Q) (sN 4 vs) H := by
  obtain ⟨n, f, g, rfl, n6, GF, k⟩ := h
  show t_madeL P w K mg base _ [some (.int (n : Int)), some (.ref f), none, none] H
  refine ⟨_, rfl, (n : Int), rfl, by omega, by omega, fun D hD => ?_⟩
  refine ⟨fun i m H1 => m = n - i ∧ i ≤ n ∧ Same H H1 ∧ ∃ us, H1 D = some (.lst us) ∧ DpAll K H1 us ((rowsF n g (i * n)).map dP), ⟨n, rfl, Nat.zero_le _, same_new hD, [], upd_same, by rw [Nat.zero_mul]; exact .nil⟩, ?_⟩
  rintro i m H1 ⟨rfl, hi, s1, us, e1, e2⟩
  by_cases hlt : i < n
  · refine .inr ⟨by show i < ((n : Int)).toNat; omega, fun H2 => i + 1 ≤ n ∧ Same H H2 ∧ ∃ us, H2 D = some (.lst us) ∧ DpAll K H2 us ((rowsF n g ((i + 1) * n)).map dP), fun H2 q => ⟨n - (i + 1), by omega, rfl, q⟩, ?_⟩
    rintro x H2 ⟨rfl, rfl⟩
    refine ⟨rfl, ?_⟩
    simp only [tYes, ↓reduceIte]
    refine ⟨_, rfl, (n : Int), rfl, by omega, by omega, ?_⟩
    refine ⟨fun j m H3 => m = n - j ∧ j ≤ n ∧ Same H H3 ∧ ∃ us, H3 D = some (.lst us) ∧ DpAll K H3 us ((rowsF n g (i * n + j)).map dP), ⟨n, rfl, Nat.zero_le _, s1, us, e1, e2⟩, ?_⟩
    rintro j m H3 ⟨rfl, hj, s3, us3, g1, g2⟩
    by_cases hlj : j < n
    · refine .inr ⟨by show j < ((n : Int)).toNat; omega, fun H4 => j + 1 ≤ n ∧ Same H H4 ∧ ∃ us, H4 D = some (.lst us) ∧ DpAll K H4 us ((rowsF n g (i * n + (j + 1))).map dP), fun H4 q => ⟨n - (j + 1), by omega, rfl, q⟩, ?_⟩
      rintro y H4 ⟨rfl, rfl⟩
      refine ⟨rfl, ?_⟩
      simp only [tYes, ↓reduceIte]
      have e0 : ∀ z : Nat, (0 : Int) + (z : Int) = (z : Int) := fun z => Int.zero_add _
      refine ⟨f, n, g, rfl, GF.mono s3, _, rfl, _, rfl, i, j, by rw [e0, e0], fun _ _ h => h, hlt, hlj, fun r H5 s5 hr => ?_⟩
      have h1 : i * n + j < n * n := by
        have : (i + 1) * n ≤ n * n := Nat.mul_le_mul_right n hlt
        rw [Nat.add_mul, Nat.one_mul] at this
        omega
      have h36 : n * n ≤ 36 := Nat.mul_le_mul n6 n6
      refine ⟨us3, s5 _ _ g1, ?_, by omega, fun c o ec => ?_, us3 ++ [r], upd_same, ?_⟩
      · rw [DpAll.len g2, List.length_map, rowsF_len]
        exact Nat.lt_of_le_of_lt (show i * n + j ≤ 36 by omega) (by decide)
      · rw [upd_ne (ne_of_none ec hD)]
        exact s5 _ _ (s3 _ _ ec)
      · have tp : Tp K H5 (upd H5 D (.lst (us3 ++ [r]))) := tp_upd (not_lst (s5 _ _ g1))
        have ed : (i * n + j) / n = i := by
          rw [Nat.mul_comm, Nat.mul_add_div (by omega), Nat.div_eq_of_lt hlj, Nat.add_zero]
        have em : (i * n + j) % n = j := by
          rw [Nat.mul_comm, Nat.mul_add_mod, Nat.mod_eq_of_lt hlj]
        rw [← Nat.add_assoc, rowsF_succ, List.map_append, ed, em]
        exact DpAll.append (DpAll.tp ((Same.tp s5).trans tp) _ _ (noLAll_dP _) g2) (.cons (Dp.tp tp _ _ (noL_dP _) hr) .nil)
    · have ej : j = n := by omega
      subst ej
      refine .inl ⟨by show ((j : Int)).toNat ≤ j; omega, by omega, s3, us3, g1, ?_⟩
      rw [Nat.add_mul, Nat.one_mul]
      exact g2
  · have ei : i = n := by omega
    subst ei
    refine .inl ⟨by show ((i : Int)).toNat ≤ i; omega, ?_⟩
    refine ⟨D, us, rfl, .inl ⟨SqL.of e1, fun q hq => ?_⟩⟩
    have sq := same_new (o := .tup us) hq
    exact k _ _ (s1.trans sq) (.tup (SqT.of upd_same) (DpAll.tp (Same.tp sq) _ _ (noLAll_dP _) e2))
end Wf
/-! alike_book; makers. -/
namespace Wf
open PySem PySem.Spec PyProof.Rows L2 LamX NdefX
variable {P : Program} {w : World} {K : PySem.W.Frag} {mg : Str → Option Value} {base : Heap}
def alikeB (ps : List Int) (n : Nat) (g : Int → Int → Int × Int) : Book := ⟨ps, n, List.replicate (nT ps.length).toNat (rowsF n g (n * n))⟩
def sp_alikeL (P : Program) (w : World) (K : PySem.W.Frag) (mg : Str → Option Value) (base : Heap) : Sp := fun vs H Q _ => ∃ (n : Nat) (f : Addr) (g : Int → Int → Int × Int) (pv : V) (ps : List Int),
  vs = [pv, .int (n : Int), .ref f] ∧ Dp K H pv (dI ps) ∧ 1 ≤ ps.length ∧ ps.length ≤ 5 ∧ n ≤ 6 ∧ GoodF P w K mg base H f n g ∧ ∀ r H', Same H H' → Dp K H' r (dB (alikeB ps n g)) → Q r H'
def t_alikeL (P : Program) (w : World) (K : PySem.W.Frag) (mg : Str → Option Value) (base : Heap) : TS :=
  tSeq (tAsg (tCall (sp_madeL P w K mg base) [] E0 (tCons (tVar 1) (tCons (tVar 2) (tNil)))) (gName 3))
    (tRet (tTup (tCons (tVar 0) (tCons (tVar 1) (tCons (tOp (rRepA K) (tTup (tCons (tVar 3) (tNil))) (tCall sp_tdue [] E0 (tCons (tCB (qLen K) (tCons (tVar 0) (tNil))) (tNil)))) (tNil))))))
theorem pure_alikeL (vs : List V) (H : Hp) (Q : VK) (E : XK) (h : sp_alikeL P w K mg base vs H Q E) : t_alikeL P w K mg base (EndsQ Q) (sN 4 vs) H := by
  obtain ⟨n, f, g, pv, ps, rfl, hp, p1, p5, n6, GF, k⟩ := h
  show t_alikeL P w K mg base _ [some pv, some (.int (n : Int)), some (.ref f), none] H
  refine ⟨_, rfl, _, rfl, n, f, g, rfl, n6, GF, fun r H1 s1 dt => ?_⟩
  have tp1 := Same.tp (K := K) s1
  have hp1 : Dp K H1 pv (dI ps) := Dp.tp tp1 _ _ (noL_dI _) hp
  refine ⟨_, rfl, _, rfl, _, rfl, ?_⟩
  refine ⟨(by decide : 1 ≤ sizeLine), fun p hq => ?_⟩
  have s2 : Same H1 (upd H1 p (.tup [r])) := same_new hq
  have hpp : upd H1 p (.tup [r]) p = some (.tup [r]) := upd_same
  generalize upd H1 p (.tup [r]) = H2 at s2 hpp
  have hp2 : Dp K H2 pv (dI ps) := Dp.tp (Same.tp s2) _ _ (noL_dI _) hp1
  have dt2 : Dp K H2 r (dT (rowsF n g (n * n))) := Dp.tp (Same.tp s2) _ _ (noL_dT _) dt
  obtain ⟨pa, pvs, rfl, hpa, hpd⟩ := dp_tup hp2
  have pl : pvs.length = ps.length := by rw [DpAll.len hpd, List.length_map]
  have n10 := nT_le (m := (ps.length : Int)) (by omega) (by omega)
  refine ⟨_, rfl, _, pvs.length, rfl, .inr ⟨_, hpa, rfl⟩, ?_⟩
  refine ⟨_, rfl, by omega, by omega, ?_⟩
  rw [pl]
  have fin : ∀ (q : Addr) (H3 : Hp), Same H2 H3 → SqT K H3 q (List.replicate (nT ps.length).toNat r) → ∀ p3 : Addr, H3 p3 = none → (EndsQ Q).rt (.ref p3) (upd H3 p3 (.tup [.ref pa, .int (n : Int), .ref q])) := fun q H3 s3 hq3 p3 h3 => by
    have s4 := same_new (o := .tup [.ref pa, .int (n : Int), .ref q]) h3
    have hp3 : upd H3 p3 (.tup [.ref pa, .int (n : Int), .ref q]) p3 = some (.tup [.ref pa, .int (n : Int), .ref q]) := upd_same
    generalize upd H3 p3 (.tup [.ref pa, .int (n : Int), .ref q]) = H4 at s4 hp3
    have s24 := s3.trans s4
    refine k _ _ (s1.trans (s2.trans s24)) (.tup (SqT.of hp3) (.cons (Dp.tp (Same.tp s24) _ _ (noL_dI _) hp2) (.cons (.int _) (.cons (.tup (hq3.elim (fun h => h.elim (fun h => .inl (.inl (s4 _ _ h))) fun ⟨o, h⟩ => .inl (.inr ⟨o, s4 _ _ h⟩)) .inr) ?_) .nil))))
    have dt4 : Dp K H4 r (dT (rowsF n g (n * n))) := Dp.tp (Same.tp s24) _ _ (noL_dT _) dt2
    show DpAll K H4 _ ((List.replicate (nT ps.length).toNat (rowsF n g (n * n))).map dT)
    generalize (nT ps.length).toNat = j
    induction j with
    | zero => exact .nil
    | succ j ih => exact .cons dt4 ih
  have fl : ∀ j : Nat, (List.replicate j [r]).flatten = List.replicate j r := fun j => by
    induction j with
    | zero => rfl
    | succ j ih => rw [List.replicate_succ, List.replicate_succ, List.flatten_cons, ih]; rfl
  refine ⟨p, _, [r], rfl, rfl, SqT.of hpp, nofun, n10.1, by omega, (show 1 ≤ 1000 by decide), fun e => ?_, fun _ q hq2 => ?_⟩
  · refine ⟨(by decide : 3 ≤ sizeLine), fin p H2 (fun _ _ h => h) ?_⟩
    rw [e]
    exact SqT.of hpp
  · have s3 := same_new (o := .tup (List.replicate (nT (ps.length : Int)).toNat [r]).flatten) hq2
    refine ⟨(by decide : 3 ≤ sizeLine), fin q _ s3 ?_⟩
    rw [← fl]
    exact SqT.of upd_same
end Wf
/-! Tables one to one, made with a pair twice, put in a book (the law's own, of books that go back). -/
namespace Wf
open PySem PySem.Spec L2
/-! ### _law_with_tables -/
/-! ### _law_doubled -/
end Wf
/-! Lists of lists of pairs that still change: made, changed, put in a book. -/
namespace Pv
open PySem PySem.Spec L2 Wf
variable {B : Bas}
/-! ### _law_one_to_one, _law_with_tables: by value -/
theorem three_of {vs : List V} {as : List Sl} {a b c : Sl} (hl : (vs.map some).length = as.length) (ha : as = [a, b, c]) : ∃ x y z, vs = [x, y, z] := by
  subst ha
  match vs, hl with
  | [x, y, z], _ => exact ⟨x, y, z, rfl⟩
end Pv
/-! Makers that hand a lambda on: keeping, staying, sorting, folding; turned_table. -/
namespace Pv
open PySem PySem.Spec PyProof.Rows L2 LamX NdefX Wf
abbrev lamNF (X : Cx) (prm : Arguments) (sc : Scope) (d : Addr) : NF := ⟨"<lambda>", X.env.qual ++ "<lambda>", prm, [], sc, cloFrom X.env.cells sc.names [], d⟩
def psp_alb (g : Nat → Int → Int → Int × Int) : PSp := fun as Q _ => ∃ (ps : List Int) (n : Nat), as = [.im (dI ps), .im (nD n)] ∧ 1 ≤ ps.length ∧ ps.length ≤ 5 ∧ 1 ≤ n ∧ n ≤ 6 ∧ Q (.im (dB (alikeB ps n (g n)))) [.im (dI ps), .im (nD n)]
def tAlb (X : Cx) (T : List NTab) (prm : Arguments) (bd : Expr) (sc : Scope) (fr : List Str) (js : List Nat) : TS :=
  tRet (tMk X.K (sp_alikeL X.prog X.w X.K X.mg) (cloFrom X.env.cells sc.names []) fr js (tCons (tVar 0) (tCons (tVar 1) (tCons (tLamV X T prm bd sc) tNil))))
theorem pure_alb {X : Cx} {T : List NTab} {prm : Arguments} {bd : Expr} {sc : Scope} {fr NL : List Str} {js : List Nat} {g : Nat → Int → Int → Int × Int} {tL : TE} (SL : NScope NL ["a", "b"] fr sc)
    (hb : ∀ (pm ctv : Value) (d : Addr) (u v : Value), bindArgs (PySem.W.kla_fn "<lambda>" (X.env.qual ++ "<lambda>") prm bd sc (cloFrom X.env.cells sc.names []) pm (.ref d) ctv) ⟨[u, v], []⟩ = pure [(("a" : Str), u), (("b" : Str), v)])
    (hbody : ∀ (base' : Heap) (f d : Addr) (A : Around) (outer : List Env) (s : Shared) (H : Hp), PE (ncx CX0 X.prog X.w X.K X.mg base' NL (lamNF X prm sc d) f A outer s H E0) bd tL)
    (hp : ∀ (pv : V) (n a b : Nat) (H1 : Hp) (Q : VK), 1 ≤ n → n ≤ 6 → a < n → b < n → (∀ r H2, Same H1 H2 → Dp X.K H2 r (dP (g n (a : Int) (b : Int))) → Q r H2) → tL (startF NL [.int (a : Int), .int (b : Int)] (js.map (slotAt [some pv, some (.int (n : Int))]))) H1 Q)
    (vs : List V) (H : Hp) (Q : VK) (E : XK) (h : LSp X.K T (psp_alb g) vs H Q E) : tAlb X T prm bd sc fr js (EndsQ Q) (sN 2 vs) H := by
  obtain ⟨G, w', as, Qp, Ep, rep, _, ⟨ps, n, rfl, p1, p5, n1, n6, hq⟩, k, _⟩ := h
  obtain ⟨pv, nv, rfl⟩ := two_of rep.len rfl
  obtain ⟨_, hu, dqP⟩ := rep.sl 0 _ rfl
  cases hu
  obtain ⟨_, hu, dqN⟩ := rep.sl 1 _ rfl
  cases hu
  cases dqN
  have tn : TabsN T H := rep.bs.tt.ts rep.bs.ta
  have hp0 : Dp X.K H pv (dI ps) := dq_dp rep.sub _ _ dqP
  refine ⟨_, rfl, _, rfl, tn, fun f d pm ctv H1 ex tg hf0 hf hc base' CB => ?_⟩
  have GF : GoodF X.prog X.w X.K X.mg base' H1 f n (g n) := good_of (F := lamNF X prm sc d) SL hf hc CB (hb pm ctv d) (hbody base' f d) fun a b H2 Q ha hb' _ q => hp pv n a b H2 Q n1 n6 ha hb' q
  refine ⟨n, f, g n, pv, ps, rfl, Dp.tp (ExtN.tp ex) _ _ (noL_dI _) hp0, p1, p5, n6, GF, fun r H' s1 dr => ?_⟩
  obtain ⟨st2, r2⟩ := rep.pub (x := none) (H2 := H') (fun b o no hb => s1 _ _ (ex b o hb no)) (tg.trans (.same s1)) nofun
  obtain ⟨st3, r3⟩ := r2.pub (x := none) (fun _ _ _ h => h) .refl nofun
  have dq := dp_pub (x := none) r2.sub (fun _ _ h => by cases h) _ _ (noL_dB _) dr
  exact k _ _ _ _ _ _ hq rfl ((st2.trans st3).trans .drop) (r3.ret dq)
/-! the four -/
def gKeep (_ : Nat) (a b : Int) : Int × Int := (b, a)
def gStay (_ : Nat) (a b : Int) : Int × Int := (a, b)
def gSort (_ : Nat) (a b : Int) : Int × Int := (if b < a then b else a, if b > a then b else a)
def gFold (n : Nat) (a b : Int) : Int × Int := (b, (2 * b - a) % n)
def tKeep : TE := tTup (tCons (tVar 1) (tCons (tVar 0) tNil))
def tStay : TE := tTup (tCons (tVar 0) (tCons (tVar 1) tNil))
def tSort : TE := tTup (tCons (tCB (qMin2) (tCons (tVar 0) (tCons (tVar 1) (tNil)))) (tCons (tCB (qMax2) (tCons (tVar 0) (tCons (tVar 1) (tNil)))) tNil))
def tFold : TE := tTup (tCons (tVar 1) (tCons (tOp qMod (tOp qSub (tOp qMul (tC (.int 2)) (tVar 1)) (tVar 0)) (tVar 2)) tNil))
section
variable {K : PySem.W.Frag} {pv : V} {n a b : Nat} {H1 : Hp} {Q : VK} (n1 : 1 ≤ n) (n6 : n ≤ 6) (ha : a < n) (hb : b < n)
include n1 n6 ha hb
theorem do_keep (q : ∀ r H2, Same H1 H2 → Dp K H2 r (dP (gKeep n (a : Int) (b : Int))) → Q r H2) : tKeep (startF ["a", "b"] [.int (a : Int), .int (b : Int)] (([] : List Nat).map (slotAt [some pv, some (.int (n : Int))]))) H1 Q :=
  ⟨_, rfl, _, rfl, (by show 2 ≤ sizeLine; decide), fun p h => q _ _ (same_new h) (dP_new upd_same)⟩
theorem do_stay (q : ∀ r H2, Same H1 H2 → Dp K H2 r (dP (gStay n (a : Int) (b : Int))) → Q r H2) : tStay (startF ["a", "b"] [.int (a : Int), .int (b : Int)] (([] : List Nat).map (slotAt [some pv, some (.int (n : Int))]))) H1 Q :=
  ⟨_, rfl, _, rfl, (by show 2 ≤ sizeLine; decide), fun p h => q _ _ (same_new h) (dP_new upd_same)⟩
theorem do_sort (q : ∀ r H2, Same H1 H2 → Dp K H2 r (dP (gSort n (a : Int) (b : Int))) → Q r H2) : tSort (startF ["a", "b"] [.int (a : Int), .int (b : Int)] (([] : List Nat).map (slotAt [some pv, some (.int (n : Int))]))) H1 Q :=
  ⟨_, rfl, _, rfl, _, _, rfl, _, rfl, _, rfl, _, _, rfl, (by show 2 ≤ sizeLine; decide), fun p h => q _ _ (same_new h) (dP_new upd_same)⟩
theorem do_fold (q : ∀ r H2, Same H1 H2 → Dp K H2 r (dP (gFold n (a : Int) (b : Int))) → Q r H2) : tFold (startF ["a", "b", "sorts"] [.int (a : Int), .int (b : Int)] (([1] : List Nat).map (slotAt [some pv, some (.int (n : Int))]))) H1 Q :=
  ⟨_, rfl, _, rfl, _, _, rfl, rfl, .inl ⟨by decide, by decide⟩, _, rfl, _, _, rfl, rfl, _, rfl, _, _, rfl, rfl, (show (0 : Int) < (n : Int) by omega), (by show 2 ≤ sizeLine; decide), fun p h => q _ _ (same_new h) (dP_new upd_same)⟩
end
/-! ### turned_table -/
def gTurn (d e : Int) (n : Nat) (a b : Int) : Int × Int := ((b + e) % n, (a + d) % n)
def psp_turned : PSp := fun as Q _ => ∃ (n : Nat) (d e : Int), as = [.im (nD n), .im (.int d), .im (.int e)] ∧ 1 ≤ n ∧ n ≤ 6 ∧ Q (.im (dT (rowsF n (gTurn d e n) (n * n)))) [.im (nD n), .im (.int d), .im (.int e)]
def tTurn : TE := tTup (tCons (tOp qMod (tOp qAdd (tVar 1) (tVar 2)) (tVar 3)) (tCons (tOp qMod (tOp qAdd (tVar 0) (tVar 4)) (tVar 3)) tNil))
def tTrn (X : Cx) (T : List NTab) (prm : Arguments) (bd : Expr) (sc : Scope) (fr : List Str) (js : List Nat) : TS :=
  tRet (tMk X.K (sp_madeL X.prog X.w X.K X.mg) (cloFrom X.env.cells sc.names []) fr js (tCons (tVar 0) (tCons (tLamV X T prm bd sc) tNil)))
theorem pure_turned {X : Cx} {T : List NTab} {prm : Arguments} {bd : Expr} {sc : Scope} {fr NL : List Str} {js : List Nat} {tL : TE} (SL : NScope NL ["a", "b"] fr sc)
    (hb : ∀ (pm ctv : Value) (d : Addr) (u v : Value), bindArgs (PySem.W.kla_fn "<lambda>" (X.env.qual ++ "<lambda>") prm bd sc (cloFrom X.env.cells sc.names []) pm (.ref d) ctv) ⟨[u, v], []⟩ = pure [(("a" : Str), u), (("b" : Str), v)])
    (hbody : ∀ (base' : Heap) (f d : Addr) (A : Around) (outer : List Env) (s : Shared) (H : Hp), PE (ncx CX0 X.prog X.w X.K X.mg base' NL (lamNF X prm sc d) f A outer s H E0) bd tL)
    (hp : ∀ (n a b : Nat) (d e : Int) (H1 : Hp) (Q : VK), 1 ≤ n → n ≤ 6 → a < n → b < n → (∀ r H2, Same H1 H2 → Dp X.K H2 r (dP (gTurn d e n (a : Int) (b : Int))) → Q r H2) → tL (startF NL [.int (a : Int), .int (b : Int)] (js.map (slotAt [some (.int (n : Int)), some (.int d), some (.int e)]))) H1 Q)
    (vs : List V) (H : Hp) (Q : VK) (E : XK) (h : LSp X.K T psp_turned vs H Q E) : tTrn X T prm bd sc fr js (EndsQ Q) (sN 3 vs) H := by
  obtain ⟨G, w', as, Qp, Ep, rep, _, ⟨n, d, e, rfl, n1, n6, hq⟩, k, _⟩ := h
  obtain ⟨x, y, z, rfl⟩ := three_of rep.len rfl
  obtain ⟨_, hu, dq⟩ := rep.sl 0 _ rfl
  cases hu
  cases dq
  obtain ⟨_, hu, dq⟩ := rep.sl 1 _ rfl
  cases hu
  cases dq
  obtain ⟨_, hu, dq⟩ := rep.sl 2 _ rfl
  cases hu
  cases dq
  have tn : TabsN T H := rep.bs.tt.ts rep.bs.ta
  refine ⟨_, rfl, tn, fun f c pm ctv H1 ex tg hf0 hf hc base' CB => ?_⟩
  have GF : GoodF X.prog X.w X.K X.mg base' H1 f n (gTurn d e n) := good_of (F := lamNF X prm sc c) SL hf hc CB (hb pm ctv c) (hbody base' f c) fun a b H2 Q ha hb' _ q => hp n a b d e H2 Q n1 n6 ha hb' q
  refine ⟨n, f, gTurn d e n, rfl, n6, GF, fun r H' s1 dr => ?_⟩
  obtain ⟨st2, r2⟩ := rep.pub (x := none) (H2 := H') (fun b o no hb => s1 _ _ (ex b o hb no)) (tg.trans (.same s1)) nofun
  obtain ⟨st3, r3⟩ := r2.pub (x := none) (fun _ _ _ h => h) .refl nofun
  have dq := dp_pub (x := none) r2.sub (fun _ _ h => by cases h) _ _ (noL_dT _) dr
  exact k _ _ _ _ _ _ hq rfl ((st2.trans st3).trans .drop) (r3.ret dq)
end Pv
namespace Pv
open PySem PySem.Spec PyProof.Rows L2 LamX NdefX Wf
theorem do_turn {K : PySem.W.Frag} {n a b : Nat} {d e : Int} {H1 : Hp} {Q : VK} (n1 : 1 ≤ n) (n6 : n ≤ 6) (ha : a < n) (hb : b < n) (q : ∀ r H2, Same H1 H2 → Dp K H2 r (dP (gTurn d e n (a : Int) (b : Int))) → Q r H2) : tTurn (startF ["a", "b", "e", "sorts", "d"] [.int (a : Int), .int (b : Int)] (([2, 0, 1] : List Nat).map (slotAt [some (.int (n : Int)), some (.int d), some (.int e)]))) H1 Q :=
  ⟨_, rfl, _, rfl, _, _, rfl, rfl, _, rfl, _, _, rfl, rfl, (show (0 : Int) < (n : Int) by omega), _, rfl, _, rfl, _, _, rfl, rfl, _, rfl, _, _, rfl, rfl, (show (0 : Int) < (n : Int) by omega), (by show 2 ≤ sizeLine; decide), fun p h => q _ _ (same_new h) (dP_new upd_same)⟩
end Pv
namespace Pv
open PySem
def lamIn1 (st : Stmt) : Expr := match C8.fnBody st with
  | [.Return (some (.Call _ [_, l] _ _)) _] => l
  | _ => .Constant (.int 0) 0 ⟨0, 0, 0, 0⟩
end Pv
/-! Burdens renamed: tables, books. -/
namespace Wf
open PySem PySem.Spec L2 LamX NdefX
/-! ### orders and where each stands in them -/
/-- an order of the numbers below n -/
structure Ord (n : Nat) (ns : List Int) : Prop where
  len : ns.length = n
  nd : ns.Nodup
  mem : ∀ x, x ∈ ns ↔ 0 ≤ x ∧ x < n
def Ord.to (ns : List Int) (i : Int) : Int := ns.getD i.toNat 0
section
variable {n : Nat} {ns ms : List Int} {x y : Int}
theorem Ord.at_ (o : Ord n ns) (h0 : 0 ≤ x) (h1 : x < n) : ns[x.toNat]? = some (Ord.to ns x) := by
  have h := o.len
  have hi : x.toNat < ns.length := by omega
  unfold Ord.to
  rw [List.getD, List.getElem?_eq_getElem hi]
  rfl
theorem iota_nodup (s : Int) : (iota s).Nodup := by
  unfold iota
  refine List.Pairwise.map _ (fun a b h z => h ?_) (List.nodup_range)
  omega
theorem Ord.of {s : Int} (hs : 0 ≤ s) (h : ns.Perm (iota s)) : Ord s.toNat ns := by
  refine ⟨?_, h.nodup_iff.mpr (iota_nodup s), fun x => ?_⟩
  · rw [h.length_eq]
    unfold iota
    rw [List.length_map, List.length_range]
  · rw [h.mem_iff, iota_mem]
    omega
end
/-! ### a table renamed -/
theorem rows_ok {n : Nat} {g : Int → Int → Int × Int} (h : ∀ a b : Nat, a < n → b < n → InP (n : Int) (g (a : Int) (b : Int))) : TabOk (n : Int) (rowsF n g (n * n)) := by
  refine ⟨by rw [rowsF_len]; exact Int.natCast_mul n n, fun p hp => ?_⟩
  unfold rowsF at hp
  obtain ⟨j, hj, rfl⟩ := List.mem_map.mp hp
  have hj' := List.mem_range.mp hj
  have n0 : 0 < n := by
    rcases Nat.eq_zero_or_pos n with z | z
    · rw [z] at hj'
      omega
    · exact z
  exact h _ _ (Nat.div_lt_of_lt_mul hj') (Nat.mod_lt _ n0)
end Wf
/-! renamed_table and its def within, renamed, and what is due. -/
namespace Wf
open PySem PySem.Spec L2 LamX NdefX
/-! ### tables of code objects stay -/
theorem TabsN.same {T : List NTab} {H H' : Hp} (t : TabsN T H) (s : Same H H') : TabsN T H' := t.ext s
theorem codeO_lst {c : Addr} {q : Str} {xs : List V} : CodeO c q ≠ .lst xs := fun z => by
  unfold CodeO at z
  cases z
theorem codeO_dK {c : Addr} {q : Str} {xs : List (Key × V)} : CodeO c q ≠ .dK xs := fun z => by
  unfold CodeO at z
  cases z
theorem TabsN.but {T : List NTab} {ds : List Addr} {H H' : Hp} (t : TabsN T H) (b : But ds H H') (n : ∀ d ∈ ds, (∃ xs, H d = some (.lst xs)) ∨ ∃ xs, H d = some (.dK xs)) : TabsN T H' := by
  intro p hp
  obtain ⟨ps, h1, h2, h3⟩ := t p hp
  have notin : ∀ (a : Addr) (o : HO), H a = some o → (∀ xs, o ≠ .lst xs) → (∀ xs, o ≠ .dK xs) → a ∉ ds := fun a o ha hl hd hm => by
    rcases n a hm with ⟨xs, e⟩ | ⟨xs, e⟩
    · rw [ha] at e
      exact hl xs (Option.some.inj e)
    · rw [ha] at e
      exact hd xs (Option.some.inj e)
  refine ⟨ps, b _ _ (notin _ _ h1 (fun xs z => nomatch z) fun xs z => nomatch z) h1, h2, fun pos cv e => ?_⟩
  obtain ⟨c, hc, h4⟩ := h3 pos cv e
  exact ⟨c, hc, b _ _ (notin _ _ h4 (fun xs => codeO_lst) fun xs => codeO_dK) h4⟩
theorem TabsN.deal {T : List NTab} {d l : Addr} {H H' : Hp} (t : TabsN T H) (b : But [d, l] H H') (hd : Deal H d l) : TabsN T H' := by
  obtain ⟨s, m, n, ns, h1, h2, _⟩ := hd.ex
  refine Wf.TabsN.but t b fun x hx => ?_
  simp only [List.mem_cons, List.not_mem_nil, or_false] at hx
  rcases hx with rfl | rfl
  · exact .inr ⟨_, h1⟩
  · exact .inl ⟨_, h2⟩
theorem ExtN.lst {H H' : Hp} {D : Addr} {xs : List V} (e : ExtN H H') (h : H D = some (.lst xs)) : H' D = some (.lst xs) := e _ _ h fun ps z => nomatch z
end Wf
/-! both_tables and its def within. -/
namespace Wf
open PySem PySem.Spec L2 LamX NdefX Pv
end Wf
/-! both_tables by value. -/
namespace Pv
open PySem PySem.Spec L2 LamX NdefX Wf
end Pv
namespace Pv
open PySem PySem.Spec L2 Wf
/-! ### is_whole, is_letter -/
/-! ### table_number, pair_at -/
theorem cdiv2 (a : Int) : CDivW a 2 := wide_div (b := 2) (by decide) (by decide) (by decide) (by decide)
/-! ### rows -/
abbrev Wk := Int × Int
def RowOk (m s : Int) (r : List Wk) : Prop := ∀ p ∈ r, 0 ≤ p.1 ∧ p.1 < m ∧ 0 ≤ p.2 ∧ p.2 < s
def dK (ks : List Int) : PyData := .tuple (ks.map .int)
end Pv
namespace Pv
open PySem PySem.Spec L2 Wf
/-! ### _law_pairs -/
end Pv
namespace Pv
open PySem PySem.Spec L2 Wf
/-! ### _law_last -/
/-! ### _law_word -/
end Pv
namespace Pv
open PySem PySem.Spec L2 Wf
/-! ### orders -/
/-! ### sizes -/
end Pv
namespace Pv
open PySem PySem.Spec L2 Wf
/-! ### _law_row, _law_led -/
/-! ### data of rows, for repr and alike -/
end Pv
/-! Calls that draw: what stands in the slots stays, as it is written. -/
namespace Pv
open PySem PySem.Spec L2 Wf
/-- the deal in slot 1, or 0, stays -/
theorem pk1 {s0 s : Sl} {b : Bool} {d : PyData} {δ : List Sl} : putB (s0 :: .ow b .deal :: δ) [.at 1, .im d] [.ow true .deal, s] = s0 :: .ow b .deal :: δ := rfl
end Pv
namespace Pv
open PySem PySem.Spec L2 Wf
/-! ### slices, equal data -/
theorem shapedT_map {α : Type} (f : α → PyData) (n : Nat) (hn : n < 64) (l : List α) (h : ∀ x ∈ l, (f x).canLay0 = true ∧ (f x).depth ≤ n) : SeqAt.shaped (.tuple (l.map f)) = true := by
  have h := lay_map f n l h
  have h2 : (PyData.tuple (l.map f)).depth ≤ n + 1 := Nat.succ_le_succ h.2
  unfold SeqAt.shaped
  rw [show (PyData.tuple (l.map f)).canLay0 = true from h.1]
  simp
  omega
theorem eqd_self {d : PyData} (h : SeqAt.shaped d = true) : eqd d d = true := SeqAt.eqv_refl d (SeqAt.canLay_of_shaped h)
theorem lay_dP (p : Wk) : (dP p).canLay0 = true ∧ (dP p).depth ≤ 1 := ⟨rfl, by show max 0 (max 0 0) + 1 ≤ 1; decide⟩
/-! ### kinds of rows, forward words -/
end Pv
/-! law k02: what is due, by the law's own going through. -/
namespace Wf
open PySem PySem.Spec L2
section
variable {K : PySem.W.Frag} {C : Addr}
def GiveWN (K : PySem.W.Frag) (H : Hp) (Q : VK) (w : Str) (n : Int) : Prop := ∀ (q : Addr) (H' : Hp), Same H H' → H' q = some (.tup [.str w, .int n]) → Q (.ref q) H'
theorem GiveWN.go {H H1 : Hp} {Q : VK} {w : Str} {n : Int} (g : GiveWN K H Q w n) (s : Same H H1) : ∀ q, H1 q = none → Q (.ref q) (upd H1 q (.tup [.str w, .int n])) := fun q hq => g q _ (s.trans (same_new hq)) upd_same
end
end Wf
/-! law k02: due, told. -/
namespace Wf
open PySem PySem.Spec L2
end Wf
/-! law k02: things made otherwise. -/
namespace Wf
open PySem PySem.Spec L2
end Wf
namespace Wf
open PySem PySem.Spec L2 Pv
end Wf
namespace Pv
open PySem PySem.Spec L2 Wf
/-! ### things of any form -/
/-! ### is_tuple_of -/
end Pv
namespace Pv
open PySem PySem.Spec L2 Wf
/-! ### look_walker, look_row -/
/-! ### the law's own -/
end Pv
namespace Pv
open PySem PySem.Spec L2 LamX NdefX Wf
end Pv
namespace Pv
open PySem PySem.Spec L2 Wf
/-! ### in, not in: texts or numbers in a tuple or list of such -/
/-! ### repr of a list -/
end Pv
/-! tuple(zip(t, u)), t and u tuples of one length -/
namespace Wf
open PySem PySem.Spec PyProof.Rows
end Wf
namespace Pv
open PySem PySem.Spec L2 Wf
/-! ### tuple(zip(t, u)) -/
end Pv
namespace Pv
open PySem PySem.Spec L2 Wf
/-! ### burdens_of -/
theorem noPin2 {δ : List Sl} {u v : Nat} (h1 : ∀ o, δ[u]? ≠ some (.ow true o)) (h2 : ∀ o, δ[v]? ≠ some (.ow true o)) : noPin δ [u, v] := fun x hx o => by
  simp only [List.mem_cons, List.not_mem_nil, or_false] at hx
  rcases hx with rfl | rfl
  · exact h1 o
  · exact h2 o
/-! ### both_ways -/
structure Tri (m : Int) (s u v w a b c : Int) : Prop where
  w0 : 0 ≤ w
  wv : w < v
  vu : v < u
  um : u < m
  a0 : 0 ≤ a
  a1 : a < s
  b0 : 0 ≤ b
  b1 : b < s
  c0 : 0 ≤ c
  c1 : c < s
abbrev tri (u v w a b c : Int) : List Wk := [(u, a), (v, b), (w, c)]
theorem Tri.ok {m s u v w a b c : Int} (h : Tri m s u v w a b c) : RowOk m s (tri u v w a b c) := fun p hp => by
  have := h.w0; have := h.wv; have := h.vu; have := h.um
  have := h.a0; have := h.a1; have := h.b0; have := h.b1; have := h.c0; have := h.c1
  simp only [List.mem_cons, List.not_mem_nil, or_false] at hp
  rcases hp with rfl | rfl | rfl
  · exact ⟨by show 0 ≤ u; omega, by show u < m; omega, by show 0 ≤ a; omega, by show a < s; omega⟩
  · exact ⟨by show 0 ≤ v; omega, by show v < m; omega, by show 0 ≤ b; omega, by show b < s; omega⟩
  · exact ⟨by show 0 ≤ w; omega, by show w < m; omega, by show 0 ≤ c; omega, by show c < s; omega⟩
end Pv
namespace Pv
open PySem PySem.Spec L2 LamX NdefX Wf
end Pv
namespace Pv
open PySem PySem.Spec L2 Wf
end Pv
namespace Pv
open PySem PySem.Spec L2 LamX NdefX Wf
end Pv
/-! look_book of a right book, by value. -/
namespace Pv
open PySem PySem.Spec L2 LamX NdefX Wf
def psp_look_book (cNoBook : Addr) : PSp := fun as Q _ => ∃ d, as = [.im d] ∧ noL d = true ∧ bookA d = none ∧ Q (.im (.bool true)) as
theorem conv_look {K : PySem.W.Frag} {T : List NTab} {C : Addr} (vs : List V) (H : Hp) (Q : VK) (E : XK) (h : LSp K T (psp_look_book C) vs H Q E) : sp_look K C vs H Q E := by
  obtain ⟨G, w, as, Qp, Ep, rep, _, ⟨d, rfl, h0, h1, hq⟩, k, _⟩ := h
  have hl : vs.length = 1 := by have := rep.len; simpa using this
  match vs, hl with
  | [x], _ =>
    obtain ⟨v, hv, dv⟩ := rep.sl 0 _ rfl
    cases hv
    refine ⟨_, d, rfl, dq_dp rep.sub _ _ dv, h0, fun _ H' s => ?_, fun w n z => by rw [h1] at z; cases z⟩
    obtain ⟨st, r2⟩ := rep.pub (x := none) (fun a o _ h => s a o h) (.same s) nofun
    exact k _ _ _ _ _ _ hq rfl (st.trans .drop) (r2.ret (.bl true))
end Pv
/-! Calls with keywords, and defs with a default for a keyword. -/
namespace Wf
open PySem PySem.Spec L2
structure CalK (P : Program) (w : World) (K : PySem.W.Frag) (mg : Str → Option Value) (base : Heap) (CX : CXT) (k : Nat) (x : Str) (ps : List Str) (n : Nat) (ks : List Str) (sp : Sp) : Prop where
  ex : ∃ f fd, FnOk P w K mg base CX k f fd ps sp ∧ mg x = some (.ref f) ∧ PySem.W.keepIn K (.ref f) = true ∧ KBn K fd ps n ks (fun us ws => us ++ ws) (fun vs zs => vs ++ zs)
theorem vals_app : ∀ {vs : List V} {us : List Value} {zs : List V} {ws : List Value}, Vals vs us → Vals zs ws → Vals (vs ++ zs) (us ++ ws)
  | _, _, _, _, .nil, h => h
  | _, _, _, _, .cons r t, h => .cons r (vals_app t h)
theorem kb_of {K : PySem.W.Frag} {x qual : Str} {params : Arguments} {body : List Stmt} {scope : Scope} {kws : List (Str × V)} {f : Addr} {fd : FuncData} {ps ks : List Str} {n : Nat} (F : FunD K x qual params body scope [] kws f fd)
    (h : ∀ (kV doc pm : Value) (an : Option Addr) (cdv ct : Value) (us ws : List Value), us.length = n → ws.length = ks.length → bindArgs (PySem.W.fnOf x qual params body scope .none kV doc pm an cdv ct) ⟨us, ks.zip ws⟩ = pure (ps.zip (us ++ ws))) : KBn K fd ps n ks (fun us ws => us ++ ws) (fun vs zs => vs ++ zs) := by
  obtain ⟨oc, od, dV, kV, doc, pm, an, cdv, ct, osl, rfl, lk, hcd, hD, hK⟩ := F.ex
  rcases hD with ⟨_, rfl⟩ | ⟨e, _⟩
  · exact ⟨fun s us ws _ h1 h2 => .of_eq (h kV doc pm an cdv ct us ws h1 h2), fun r1 r2 => vals_app r1 r2⟩
  · exact absurd rfl e
end Wf
namespace Pv
open PySem PySem.Spec L2 Wf
variable {B : Bas}
/-- values one behind the other -/
def pApp (pa pb : PL) : PL := fun δ Q => pa δ fun rs δ1 => pb δ1 fun rs2 δ2 => Q (rs ++ rs2) δ2
def JK (X : Cx) (B : Bas) (kws : List Keyword) (p : PL) : Prop := PK X kws (LA X.K B kws.length p)
theorem PK_wk {X : Cx} {kws : List Keyword} {t t' : TA} (h : PK X kws t) (k : ∀ σ H Q, t' σ H Q → t σ H Q) : PK X kws t' := ⟨fun pos pins s σ H Q I q => h.run pos pins s σ H Q I (k σ H Q q)⟩
section
variable {X : Cx}
theorem jk_nil : JK X B [] pNil := PK_wk pk_nil fun σ H Q ⟨G, w, δ, Qp, rep, q, k⟩ => k [] δ [] H G _ q rfl .drop rep.drop
theorem jk_cons {e : Expr} {kws : List Keyword} {nm : Option Str} {kpos : Pos} {p : PX} {ps : PL} (h : JE X B e p) (hs : JK X B kws ps) : JK X B (⟨nm, e, kpos⟩ :: kws) (pCons p ps) := by
  refine PK_wk (pk_cons h hs) fun σ H Q ⟨G, w, δ, Qp, rep, q, k⟩ => ?_
  refine ⟨G, w, δ, _, rep, q, fun r δ1 v H1 G1 w1 q1 s1 rep1 => ?_⟩
  refine ⟨G1, _, δ1, _, rep1.drop, q1, fun rs δ2 vs H2 G2 w2 q2 l2 s2 rep2 => ?_⟩
  obtain ⟨w3, s3, rep3⟩ := rep1.frame s2 rep2
  exact k _ δ2 _ H2 G2 w3 q2 (congrArg (· + 1) l2) (s1.trans s3) rep3
theorem la_app {K : PySem.W.Frag} {n m : Nat} {pa pb : PL} {σ : St} {H : Hp} {Q : List V → Hp → Prop} (h : LA K B (n + m) (pApp pa pb) σ H Q) : LA K B n pa σ H fun vs H1 => LA K B m pb σ H1 fun zs H2 => vs.length = n ∧ zs.length = m ∧ Q (vs ++ zs) H2 := by
  obtain ⟨G, w, δ, Qp, rep, q, k⟩ := h
  refine ⟨G, w, δ, _, rep, q, fun rs δ1 vs H1 G1 w1 q1 l1 s1 rep1 => ?_⟩
  refine ⟨G1, _, δ1, _, rep1.drop, q1, fun rs2 δ2 zs H2 G2 w2 q2 l2 s2 rep2 => ?_⟩
  obtain ⟨w3, s3, rep3⟩ := rep1.frame s2 rep2
  exact ⟨rep1.tlen.trans l1, rep2.tlen.trans l2, k _ δ2 _ H2 G2 w3 q2 (by rw [List.length_append, l1, l2]) (s1.trans s3) rep3⟩
theorem je_calK {k j : Nat} {x : Str} {pn ks : List Str} {psp : PSp} {pa pk : PL} {e : Expr} {es : List Expr} {kws : List Keyword} {p pos : Pos} (C : CalK X.prog X.w X.K X.mg X.base CX0 k x pn (e :: es).length ks (LSp X.K B.T psp)) (hr : Room j X.A) (hg : Gl X x) (ha : JA X B (e :: es) pa) (hkw : JK X B kws pk) (hk : k ≤ j := by decide) (hkl : kws.length = ks.length := by rfl)
    (hall : (backToKw pos (keywordEach kws X.env)).all (·.1.isSome) = true := by rfl) (hks : (backToKw pos (keywordEach kws X.env)).filterMap (·.1) = ks := by rfl)
    (hdb : (x == ("__debug__" : Str)) = false := by decide) (he : starEach (e :: es) X.env = (false, eval e X.env) :: starEach es X.env := by rfl)
    (hpl : ((backTo pos (starEach (e :: es) X.env)).any (·.1) || (backToKw pos (keywordEach kws X.env)).any (·.1.isNone)) = false := by rfl) :
    JE X B (.Call (.Name x p) (e :: es) kws pos) (pCall psp (pApp pa pk) noX) := by
  obtain ⟨f, fd, F, m, kp, b⟩ := C.ex
  refine PE_wk (pe_callN F (hr.mono hk) hg m kp b pass0 ha hkw hall hks hdb he hpl) fun σ H Q h => ?_
  have h2 := la_app (call_lift (E := E0) (n := (e :: es).length + kws.length) xok_no h)
  obtain ⟨G, w, δ, Qp, rep, q, kk⟩ := h2
  refine ⟨G, w, δ, Qp, rep, q, fun rs δ1 vs H1 G1 w1 q1 l1 s1 rep1 => ?_⟩
  obtain ⟨G2, w2, δ2, Qp2, rep2, q2, k2⟩ := kk rs δ1 vs H1 G1 w1 q1 l1 s1 rep1
  refine ⟨G2, w2, δ2, Qp2, rep2, q2, fun rs2 δ3 zs H3 G3 w3 q3 l3 s3 rep3 => ?_⟩
  obtain ⟨a1, a2, a3⟩ := k2 rs2 δ3 zs H3 G3 w3 q3 l3 s3 rep3
  rw [List.append_nil] at a3
  exact ⟨a1, a2.trans hkl, a3⟩
end
end Pv
/-! law k06: what is due. -/
namespace Wf
open PySem PySem.Spec L2 LamX NdefX
end Wf
/-! law k06: the law. -/
namespace Wf
open PySem PySem.Spec L2 LamX NdefX
mutual
theorem noL_lay : ∀ d : PyData, noL d = true → d.canLay0 = true
  | .none, _ => rfl
  | .bool _, _ => rfl
  | .int _, _ => rfl
  | .str _, h => h
  | .tuple ds, h => noLAll_lay ds h
  | .list _, h => nomatch h
  | .dict _, h => nomatch h
theorem noLAll_lay : ∀ ds : List PyData, noLAll ds = true → PyData.canLayAll0 ds = true
  | [], _ => rfl
  | d :: ds, h => by
    have h' := Bool.and_eq_true_iff.mp (show (noL d && noLAll ds) = true from h)
    show (d.canLay0 && PyData.canLayAll0 ds) = true
    rw [noL_lay d h'.1, noLAll_lay ds h'.2]
    rfl
end
theorem shaped_dB {m : Int} {B : Book} (ok : BookOk m B) : SeqAt.shaped (dB B) = true := by
  have h := (tame_dB ok).2.1
  unfold SeqAt.shaped
  rw [noL_lay _ (noL_dB B)]
  simp
  omega
end Wf
namespace Pv
open PySem PySem.Spec L2 LamX NdefX Wf
/-! ### paces, by value -/
def psp_paces04 : PSp := fun as Q _ => ∃ m : Int, as = [.ow true .deal, .im (.int m)] ∧ 1 ≤ m ∧ m ≤ 5 ∧ ∀ ps : List Int, PacesOk m ps → Q (.im (dI ps)) as
theorem conv_paces04 {K : PySem.W.Frag} {T : List NdefX.NTab} (vs : List V) (H : Hp) (Q : VK) (E : XK) (h : LSp K T psp_paces04 vs H Q E) : sp_paces K vs H Q E := by
  obtain ⟨G, w, as, Qp, Ep, rep, _, ⟨m, rfl, m1, m5, hq⟩, k, _⟩ := h
  obtain ⟨x, y, rfl⟩ := two_of rep.len rfl
  obtain ⟨v, hv, d, l, rfl, wd, wl, dl⟩ := rep.sl 0 _ rfl
  obtain ⟨_, hu, dq⟩ := rep.sl 1 _ rfl
  cases hv
  cases hu
  cases dq
  refine ⟨d, l, m, rfl, m1, m5, dl, fun v ps H' but dl' hv pok => ?_⟩
  obtain ⟨st, r2⟩ := rep.deal (i := 0) rfl rfl wd wl dl but dl'
  obtain ⟨st3, r3⟩ := r2.pub (x := none) (fun _ _ _ h => h) .refl nofun
  have dq : Dq K (pubT G H' none) v (dI ps) := dp_pub (x := none) r2.sub (fun _ _ h => by cases h) _ _ (noLAll_ints ps) hv
  exact k _ _ _ _ _ _ (hq ps pok) rfl ((st.trans st3).trans .drop) (r3.ret dq)
/-! ### the books, two ways -/
def gDue4 (form : Nat) (d e : Int) (n : Nat) (a b : Int) : Int × Int :=
  if form = 2 then (if b < a then (b, a) else (a, b)) else if form = 1 then (a, b) else if form = 3 then (b, (b + b + n - a) % n) else if form = 4 then ((b + e + 1200 * n) % n, (a + d + 1200 * n) % n) else (b, a)
def dueT4 (form n : Nat) (p : Wk) : Tab := rowsF n (gDue4 form p.1 p.2 n) (n * n)
def madeT4 (form n : Nat) (p : Wk) : Tab := if form = 4 then rowsF n (gTurn p.1 p.2 n) (n * n) else rowsF n ((if form = 0 then gKeep n else if form = 1 then gStay n else if form = 2 then gSort n else gFold n)) (n * n)
theorem due_made {form n : Nat} {p : Wk} (h : form ≤ 4) : dueT4 form n p = madeT4 form n p := by
  have key : ∀ x : Int, (x + 1200 * (n : Int)) % n = x % n := fun x => by rw [Int.add_mul_emod_self_right]
  unfold dueT4 madeT4
  have : form = 0 ∨ form = 1 ∨ form = 2 ∨ form = 3 ∨ form = 4 := by omega
  rcases this with rfl | rfl | rfl | rfl | rfl
  · rfl
  · rfl
  · rw [if_neg (by decide)]
    refine congrArg (fun g => rowsF n g (n * n)) (funext fun a => funext fun b => ?_)
    show (if b < a then (b, a) else (a, b)) = ((if b < a then b else a, if b > a then b else a) : Int × Int)
    by_cases c : b < a
    · rw [if_pos c, if_pos c, if_neg (by omega)]
    · rw [if_neg c, if_neg c]
      by_cases c2 : b > a
      · rw [if_pos c2]
      · rw [if_neg c2, show b = a by omega]
  · rw [if_neg (by decide)]
    refine congrArg (fun g => rowsF n g (n * n)) (funext fun a => funext fun b => ?_)
    show (b, (b + b + n - a) % n) = (b, (2 * b - a) % (n : Int))
    have : b + b + n - a = 2 * b - a + n := by omega
    rw [this, Int.add_emod_right]
  · rw [if_pos rfl]
    refine congrArg (fun g => rowsF n g (n * n)) (funext fun a => funext fun b => ?_)
    show ((b + p.2 + 1200 * n) % n, (a + p.1 + 1200 * n) % n) = ((b + p.2) % (n : Int), (a + p.1) % (n : Int))
    rw [key, key]
theorem dueT4_ok {form n : Nat} {p : Wk} (n1 : 1 ≤ n) : TabOk (n : Int) (dueT4 form n p) := rows_ok fun a b ha hb => by
  unfold gDue4 InP
  have m0 : ∀ x : Int, 0 ≤ x % (n : Int) ∧ x % (n : Int) < n := fun x => ⟨Int.emod_nonneg _ (by omega), Int.emod_lt_of_pos _ (by omega)⟩
  split
  · split <;> (simp only; omega)
  · split
    · simp only; omega
    · split
      · have := m0 ((b : Int) + b + n - a); simp only; omega
      · split
        · have := m0 ((b : Int) + p.2 + 1200 * n); have := m0 ((a : Int) + p.1 + 1200 * n); simp only; omega
        · simp only; omega
/-! ### turning -/
-- DEF turning N ['paces', 'steps', 'sorts', 'd', 'e'] calls ['turned_table'] takes []
def pe_turning_1 : PX :=
    pCall psp_turned (pCons (pFz (pVar 2)) (pCons (pFz (pVar 3)) (pCons (pFz (pVar 4)) (pNil)))) noX
def p_turning : PSx :=
    pRet (pTup (pCons (pVar 0) (pCons (pVar 2) (pCons (pC (q1 fTupleOf) (pCons (pComp (iSeq (pVar 1)) (gT 2 (gsC (gN 3) (gsC (gN 4) (gsN)))) (pYes) (pe_turning_1) [3, 4]) (pNil))) (pNil)))))
def psp_turning : PSp := fun as Q _ => ∃ (ps : List Int) (S : List Wk) (n : Nat), as = [.im (dI ps), .im (dT S), .im (nD n)] ∧ 1 ≤ n ∧ n ≤ 6 ∧ S.length ≤ 100 ∧ Q (.im (dB ⟨ps, n, S.map (madeT4 4 n)⟩)) [.un, .un, .un]
theorem hp_turning (as : List Sl) (Qp : QE) (Ep : EX) (h : psp_turning as Qp Ep) : p_turning (endsP as Qp) (as ++ List.replicate 2 .un) := by
  obtain ⟨ps, S, n, rfl, n1, n6, sl, q⟩ := h
  refine ⟨_, _, _, rfl, rfl, noPin2 (fun o => nofun) (fun o => nofun), fun j acc δ => acc = ((S.take j).map (madeT4 4 n)).map dT ∧ δ = [.im (dI ps), .im (dT S), .im (nD n), .un, .un], ⟨rfl, rfl⟩, ?_, ?_⟩
  · rintro j d acc δ hd ⟨rfl, rfl⟩
    rw [List.getElem?_map] at hd
    obtain ⟨p, hp, rfl⟩ := Option.map_eq_some_iff.mp hd
    refine ⟨rfl, rfl, ?_⟩
    refine ⟨_, _, rfl, _, _, rfl, _, _, rfl, _, rfl, List.nodup_nil, n, p.1, p.2, rfl, n1, n6, _, _, rfl, ?_, ?_, rfl⟩
    · rw [List.length_map, List.length_map, List.length_take]
      exact szN (m := 100) (by omega) (by decide)
    · rw [List.take_add_one, hp, Option.toList_some, List.map_append, List.map_append]
      rfl
  · rintro acc δ ⟨rfl, rfl⟩
    rw [List.length_map, List.take_length]
    refine ⟨_, _, rfl, ?_⟩
    exact q
/-! ### _law_due -/
-- DEF _law_due N ['_law_paces_here', '_law_steps', '_law_size', '_law_form', '_law_tables', '_law_d', '_law_e', '_law_pairs', '_law_n', '_law_a', '_law_b'] calls [] takes []
def pr_ldue04_1 : PSx :=
    pIf (pAnd (pT (pEq false (pVar 3) (pK (.int 2)))) (pT (pGt (pVar 9) (pVar 10)))) (pExpr (pMt mAppend (pVar 7) (pCons (pTup (pCons (pVar 10) (pCons (pVar 9) (pNil)))) (pNil)))) (pIf (pOr (pT (pEq false (pVar 3) (pK (.int 1)))) (pT (pEq false (pVar 3) (pK (.int 2))))) (pExpr (pMt mAppend (pVar 7) (pCons (pTup (pCons (pVar 9) (pCons (pVar 10) (pNil)))) (pNil)))) (pIf (pT (pEq false (pVar 3) (pK (.int 3)))) (pExpr (pMt mAppend (pVar 7) (pCons (pTup (pCons (pVar 10) (pCons (pMod (pSub (pAdd (pAdd (pVar 10) (pVar 10)) (pVar 2)) (pVar 9)) (pVar 2)) (pNil)))) (pNil)))) (pIf (pT (pEq false (pVar 3) (pK (.int 4)))) (pExpr (pMt mAppend (pVar 7) (pCons (pTup (pCons (pMod (pAdd (pAdd (pVar 10) (pVar 6)) (pMul (pK (.int 1200)) (pVar 2))) (pVar 2)) (pCons (pMod (pAdd (pAdd (pVar 9) (pVar 5)) (pMul (pK (.int 1200)) (pVar 2))) (pVar 2)) (pNil)))) (pNil)))) (pExpr (pMt mAppend (pVar 7) (pCons (pTup (pCons (pVar 10) (pCons (pVar 9) (pNil)))) (pNil)))))))
def pb_ldue04_2 : PSx :=
    pSeq (pPar [9, 10] (pCons (pFdiv (pVar 8) (pVar 2)) (pCons (pMod (pVar 8) (pVar 2)) (pNil))))
    (pr_ldue04_1)
def pr_ldue04_2 : PSx :=
    pExpr (pMt mAppend (pVar 4) (pCons (pC (q1 fTupleOf) (pCons (pVar 7) (pNil))) (pNil)))
def pr_ldue04_3 : PSx :=
    pSeq (pFor [8, 9, 10] (iRg (pCons (pMul (pVar 2) (pVar 2)) (pNil))) (gN 8) (pb_ldue04_2))
    (pr_ldue04_2)
def pb_ldue04_5 : PSx :=
    pSeq (pSet 7 (pLst (pNil)))
    (pr_ldue04_3)
def pr_ldue04_4 : PSx :=
    pRet (pTup (pCons (pVar 0) (pCons (pVar 2) (pCons (pC (q1 fTupleOf) (pCons (pVar 4) (pNil))) (pNil)))))
def pr_ldue04_5 : PSx :=
    pSeq (pFor [5, 6, 7, 8, 9, 10] (iSeq (pVar 1)) (gT 2 (gsC (gN 5) (gsC (gN 6) (gsN)))) (pb_ldue04_5))
    (pr_ldue04_4)
def p_ldue04 : PSx :=
    pSeq (pSet 4 (pLst (pNil)))
    (pr_ldue04_5)
def psp_ldue04 : PSp := fun as Q _ => ∃ (ps : List Int) (S : List Wk) (n form : Nat), as = [.im (dI ps), .im (.list (S.map dP)), .im (nD n), .im (nD form)] ∧ 1 ≤ n ∧ n ≤ 6 ∧ S.length ≤ 100 ∧ Q (.im (dB ⟨ps, n, S.map (dueT4 form n)⟩)) [.un, .un, .un, .un]
abbrev sd04 (ps : List Int) (S : List Wk) (n form : Nat) (s4 s5 s6 s7 s8 s9 s10 : Sl) : List Sl := [.im (dI ps), .im (.list (S.map dP)), .im (nD n), .im (nD form), s4, s5, s6, s7, s8, s9, s10]
theorem hp_cell04 {E : PEn} {ps : List Int} {S : List Wk} {n form j : Nat} {p : Wk} {L : List PyData} {t : Tab} (n1 : 1 ≤ n) (n6 : n ≤ 6) (tl : t.length ≤ 100)
    (q : ∀ x9 x10 : PyData, E.nx (sd04 ps S n form (.ow false (.lst L)) (.im (.int p.1)) (.im (.int p.2)) (.ow false (.lst ((t ++ [gDue4 form p.1 p.2 n ((j / n : Nat) : Int) ((j % n : Nat) : Int)]).map dP))) (.im (nD j)) (.im x9) (.im x10))) :
    pb_ldue04_2 E (sd04 ps S n form (.ow false (.lst L)) (.im (.int p.1)) (.im (.int p.2)) (.ow false (.lst (t.map dP))) (.im (nD j)) .un .un) := by
  have dm : ((j : Int) / (n : Int)) = ((j / n : Nat) : Int) ∧ ((j : Int) % (n : Int)) = ((j % n : Nat) : Int) := ⟨rfl, rfl⟩
  refine ⟨wide_div (b := 3) (by omega) (by omega) (by decide) (by decide), (show (0 : Int) < (n : Int) by omega), _, _, rfl, ?_⟩
  show pr_ldue04_1 E (sd04 ps S n form (.ow false (.lst L)) (.im (.int p.1)) (.im (.int p.2)) (.ow false (.lst (t.map dP))) (.im (nD j)) (.im (nD (j / n))) (.im (nD (j % n))))
  clear dm
  generalize j / n = a at *
  generalize j % n = b at *
  show pr_ldue04_1 E (sd04 ps S n form (.ow false (.lst L)) (.im (.int p.1)) (.im (.int p.2)) (.ow false (.lst (t.map dP))) (.im (nD j)) (.im (nD a)) (.im (nD b)))
  have fin : ∀ x y : Int, gDue4 form p.1 p.2 n (a : Int) (b : Int) = (x, y) → E.nx (sd04 ps S n form (.ow false (.lst L)) (.im (.int p.1)) (.im (.int p.2)) (.ow false (.lst (t.map dP ++ [.tuple [.int x, .int y]]))) (.im (nD j)) (.im (nD a)) (.im (nD b))) := fun x y e => by
    have := q (nD a) (nD b)
    rw [e, List.map_append] at this
    exact this
  have tl2 : (t.map dP).length < sizeLine := by rw [List.length_map]; exact szN (m := 100) tl (by decide)
  refine ⟨_, rfl, ?_⟩
  show if decide ((form : Int) = 2) = true then _ else _
  by_cases c2 : (form : Int) = 2
  · have f2 : form = 2 := by omega
    rw [if_pos (decide_eq_true c2)]
    refine ⟨trivial, _, rfl, ?_⟩
    show if decide ((b : Int) < (a : Int)) = true then _ else _
    by_cases lt : (b : Int) < (a : Int)
    · rw [if_pos (decide_eq_true lt)]
      refine ⟨_, _, _, rfl, rfl, _, _, _, _, rfl, rfl, tl2, fin _ _ ?_⟩
      unfold gDue4
      rw [if_pos f2, if_pos lt]
    · rw [if_neg (by rw [decide_eq_true_eq]; exact lt)]
      refine ⟨_, rfl, ?_⟩
      show if decide ((form : Int) = 1) = true then _ else _
      rw [if_neg (by rw [decide_eq_true_eq]; omega)]
      refine ⟨_, rfl, ?_⟩
      show if decide ((form : Int) = 2) = true then _ else _
      rw [if_pos (decide_eq_true c2)]
      refine ⟨_, _, _, rfl, rfl, _, _, _, _, rfl, rfl, tl2, fin _ _ ?_⟩
      unfold gDue4
      rw [if_pos f2, if_neg lt]
  · have f2 : ¬ form = 2 := by omega
    rw [if_neg (by rw [decide_eq_true_eq]; exact c2)]
    refine ⟨_, rfl, ?_⟩
    show if decide ((form : Int) = 1) = true then _ else _
    by_cases c1 : (form : Int) = 1
    · rw [if_pos (decide_eq_true c1)]
      refine ⟨_, _, _, rfl, rfl, _, _, _, _, rfl, rfl, tl2, fin _ _ ?_⟩
      unfold gDue4
      rw [if_neg f2, if_pos (by omega)]
    · rw [if_neg (by rw [decide_eq_true_eq]; exact c1)]
      refine ⟨_, rfl, ?_⟩
      show if decide ((form : Int) = 2) = true then _ else _
      rw [if_neg (by rw [decide_eq_true_eq]; exact c2)]
      refine ⟨_, rfl, ?_⟩
      show if decide ((form : Int) = 3) = true then _ else _
      by_cases c3 : (form : Int) = 3
      · rw [if_pos (decide_eq_true c3)]
        refine ⟨_, _, _, rfl, rfl, trivial, (show (0 : Int) < (n : Int) by omega), _, _, _, _, rfl, rfl, tl2, fin _ _ ?_⟩
        unfold gDue4
        rw [if_neg f2, if_neg (by omega), if_pos (by omega)]
      · rw [if_neg (by rw [decide_eq_true_eq]; exact c3)]
        refine ⟨_, rfl, ?_⟩
        show if decide ((form : Int) = 4) = true then _ else _
        by_cases c4 : (form : Int) = 4
        · rw [if_pos (decide_eq_true c4)]
          refine ⟨_, _, _, rfl, rfl, .inl (.inl ⟨by decide, by decide⟩), (show (0 : Int) < (n : Int) by omega), .inl (.inl ⟨by decide, by decide⟩), (show (0 : Int) < (n : Int) by omega), _, _, _, _, rfl, rfl, tl2, fin _ _ ?_⟩
          unfold gDue4
          rw [if_neg f2, if_neg (by omega), if_neg (by omega), if_pos (by omega)]
        · rw [if_neg (by rw [decide_eq_true_eq]; exact c4)]
          refine ⟨_, _, _, rfl, rfl, _, _, _, _, rfl, rfl, tl2, fin _ _ ?_⟩
          unfold gDue4
          rw [if_neg f2, if_neg (by omega), if_neg (by omega), if_neg (by omega)]
theorem hp_ldue04 (as : List Sl) (Qp : QE) (Ep : EX) (h : psp_ldue04 as Qp Ep) : p_ldue04 (endsP as Qp) (as ++ List.replicate 7 .un) := by
  obtain ⟨ps, S, n, form, rfl, n1, n6, sl, q⟩ := h
  have z24 : (10000 : Nat) < sizeLine := by decide
  refine ⟨_, _, rfl, ?_⟩
  show pr_ldue04_5 _ (sd04 ps S n form (.ow false (.lst [])) .un .un .un .un .un .un)
  refine ⟨_, _, _, rfl, rfl, ?_⟩
  refine ⟨fun i δ => δ = sd04 ps S n form (.ow false (.lst (((S.take i).map (dueT4 form n)).map dT))) .un .un .un .un .un .un, rfl, ?_, ?_⟩
  · rintro i d δ hd rfl
    rw [List.getElem?_map] at hd
    obtain ⟨p, hp, rfl⟩ := Option.map_eq_some_iff.mp hd
    have hi := (List.getElem?_eq_some_iff.mp hp).1
    refine ⟨rfl, rfl, ?_⟩
    generalize hL : ((S.take i).map (dueT4 form n)).map dT = L
    have Ll : L.length ≤ 100 := by rw [← hL, List.length_map, List.length_map, List.length_take]; omega
    refine ⟨_, _, rfl, ?_⟩
    show pr_ldue04_3 _ (sd04 ps S n form (.ow false (.lst L)) (.im (.int p.1)) (.im (.int p.2)) (.ow false (.lst (([] : Tab).map dP))) .un .un .un)
    have nn : n * n ≤ 6 * 6 := Nat.mul_le_mul n6 n6
    have en : (n : Int) * (n : Int) = ((n * n : Nat) : Int) := (Int.natCast_mul n n).symm
    refine ⟨.inl (.inl ⟨by omega, by omega⟩), by omega, by omega, ?_⟩
    refine for_rg (n * n) en (fun j δ => δ = sd04 ps S n form (.ow false (.lst L)) (.im (.int p.1)) (.im (.int p.2)) (.ow false (.lst ((rowsF n (gDue4 form p.1 p.2 n) j).map dP))) .un .un .un) rfl ?_ ?_
    · rintro j δ hj rfl
      refine hp_cell04 n1 n6 (by rw [rowsF_len]; omega) fun x9 x10 => ?_
      rw [← rowsF_succ]
      rfl
    · rintro δ rfl
      refine ⟨_, _, _, rfl, rfl, _, _, _, _, rfl, rfl, szN (m := 100) Ll (by decide), ?_⟩
      subst hL
      show sd04 ps S n form (.ow false (.lst (((S.take i).map (dueT4 form n)).map dT ++ [dT (dueT4 form n p)]))) .un .un .un .un .un .un = sd04 ps S n form (.ow false (.lst (((S.take (i + 1)).map (dueT4 form n)).map dT))) .un .un .un .un .un .un
      rw [List.take_add_one, hp, Option.toList_some, List.map_append, List.map_append]
      rfl
  · rintro δ rfl
    rw [List.length_map, List.take_length]
    exact ⟨_, _, rfl, q⟩
/-! ### law 04 -/
-- DEF law N ['_law_script', '_law_deal_here', '_law_k', '_law_turn', '_law_many', '_law_size', '_law_paces_here', '_law_steps', '_law_wide', '_law_told', '_law_found', '_law_form', '_law_book'] calls ['_law_deal', '_law_draw', '_law_paces', 'sorting', 'staying', 'keeping', 'turning', 'folding', '_law_alike', '_law_due', 'look_book'] takes ['cNoBook']
def pr_law04_1 : PSx :=
    pExpr (pMt mAppend (pVar 7) (pCons (pTup (pCons (pSub (pCall psp_draw (pCons (pVar 1) (pCons (pFz (pAdd (pMul (pK (.int 2)) (pVar 8)) (pK (.int 1)))) (pNil))) noX) (pVar 8)) (pCons (pSub (pCall psp_draw (pCons (pVar 1) (pCons (pFz (pAdd (pMul (pK (.int 2)) (pVar 8)) (pK (.int 1)))) (pNil))) noX) (pVar 8)) (pNil)))) (pNil)))
def pb_law04_2 : PSx :=
    pSeq (pSet 8 (pIx (pLst (pCons (pVar 5) (pCons (pK (.int 1000)) (pNil)))) (pCall psp_draw (pCons (pVar 1) (pCons (pFz (pK (.int 2))) (pNil))) noX)))
    (pr_law04_1)
def pb_law04_3 (cNoBook : Addr) : PSx :=
    pIf (pOr (pNot (pT (pCall psp_alike (pCons (pFz (pVar 12)) (pCons (pFz (pCall psp_ldue04 (pCons (pFz (pVar 6)) (pCons (pFz (pVar 7)) (pCons (pFz (pVar 5)) (pCons (pFz (pVar 11)) (pNil))))) noX)) (pNil))) noX))) (pT (pIs true (pCall (psp_look_book cNoBook) (pCons (pFz (pVar 12)) (pNil)) noX) (pK (.bool true))))) (pRet (pK (.bool false))) (pNext)
def pr_law04_2 (cNoBook : Addr) : PSx :=
    pFor [11, 12] (iEn (pCons (pVar 10) (pNil))) (gT 2 (gsC (gN 11) (gsC (gN 12) (gsN)))) (pb_law04_3 cNoBook)
def pr_law04_3 (cNoBook : Addr) : PSx :=
    pSeq (pSet 10 (pAdd (pVar 10) (pLst (pCons (pCall (psp_alb gFold) (pApp (pCons (pFz (pVar 6)) (pNil)) (pCons (pFz (pVar 5)) (pNil))) noX) (pCons (pCall psp_turning (pApp (pCons (pFz (pVar 6)) (pCons (pFz (pVar 9)) (pNil))) (pCons (pFz (pVar 5)) (pNil))) noX) (pNil))))))
    (pr_law04_2 cNoBook)
def pb_law04_6 (cNoBook : Addr) : PSx :=
    pSeq (pSet 10 (pLst (pCons (pCall (psp_alb gKeep) (pApp (pCons (pFz (pVar 6)) (pNil)) (pCons (pFz (pVar 5)) (pNil))) noX) (pCons (pCall (psp_alb gStay) (pApp (pCons (pFz (pVar 6)) (pNil)) (pCons (pFz (pVar 5)) (pNil))) noX) (pCons (pCall (psp_alb gSort) (pApp (pCons (pFz (pVar 6)) (pNil)) (pCons (pFz (pVar 5)) (pNil))) noX) (pNil))))))
    (pr_law04_3 cNoBook)
def pr_law04_4 : PSx :=
    pRet (pAndV (pEq false (pCall psp_turning (pApp (pCons (pFz (pVar 6)) (pCons (pFz (pVar 9)) (pNil))) (pCons (pFz (pVar 5)) (pNil))) noX) (pIx (pVar 10) (pK (.int 4)))) (pEq false (pVar 9) (pC (q1 fTupleOf) (pCons (pVar 7) (pNil)))))
def pr_law04_5 (cNoBook : Addr) : PSx :=
    pSeq (pFor [3, 11, 12] (iRg (pCons (pK (.int 2)) (pNil))) (gN 3) (pb_law04_6 cNoBook))
    (pr_law04_4)
def pr_law04_6 (cNoBook : Addr) : PSx :=
    pSeq (pPar [9, 10] (pCons (pC (q1 fTupleOf) (pCons (pVar 7) (pNil))) (pCons (pLst (pNil)) (pNil))))
    (pr_law04_5 cNoBook)
def pr_law04_7 (cNoBook : Addr) : PSx :=
    pSeq (pFor [2, 8] (iRg (pCons (pFdiv (pMul (pVar 4) (pSub (pVar 4) (pK (.int 1)))) (pK (.int 2))) (pNil))) (gN 2) (pb_law04_2))
    (pr_law04_6 cNoBook)
def pr_law04_8 (cNoBook : Addr) : PSx :=
    pSeq (pPar [6, 7] (pCons (pCall psp_paces04 (pCons (pVar 1) (pCons (pFz (pVar 4)) (pNil))) noX) (pCons (pLst (pNil)) (pNil))))
    (pr_law04_7 cNoBook)
def pr_law04_9 (cNoBook : Addr) : PSx :=
    pSeq (pPar [4, 5] (pCons (pAdd (pK (.int 1)) (pCall psp_draw (pCons (pVar 1) (pCons (pFz (pK (.int 5))) (pNil))) noX)) (pCons (pAdd (pK (.int 1)) (pCall psp_draw (pCons (pVar 1) (pCons (pFz (pK (.int 6))) (pNil))) noX)) (pNil))))
    (pr_law04_8 cNoBook)
def p_law04 (cNoBook : Addr) : PSx :=
    pSeq (pSet 1 (pCall psp_deal (pCons (pVar 0) (pCons (pFz (pK (.int 0))) (pNil))) noX))
    (pr_law04_9 cNoBook)
abbrev s04 (ns : List Int) (s2 s3 s4 s5 s6 s7 s8 s9 s10 s11 s12 : Sl) : List Sl := [.ow true (.scr ns), .ow false .deal, s2, s3, s4, s5, s6, s7, s8, s9, s10, s11, s12]
/-- the five books -/
def bk04 (ps : List Int) (S : List Wk) (n form : Nat) : Book := ⟨ps, n, S.map (dueT4 form n)⟩
theorem alike_is {ps : List Int} {S : List Wk} {n form : Nat} {g : Int → Int → Int × Int} (h : form ≤ 3) (hg : ∀ p, madeT4 form n p = rowsF n g (n * n)) (sl : (S.length : Int) = nT ps.length) : alikeB ps n g = bk04 ps S n form := by
  unfold alikeB bk04
  refine congrArg (Book.mk ps (n : Int)) ?_
  rw [show (nT (ps.length : Int)).toNat = S.length by omega]
  rw [List.map_congr_left fun p _ => (due_made (n := n) (p := p) (show form ≤ 4 by omega)).trans (hg p), List.map_const']
theorem hp_step04 {E : PEn} {ns : List Int} {i k m n : Nat} {ps : List Int} {S : List Wk} (n1 : 1 ≤ n) (n6 : n ≤ 6) (sl : S.length ≤ 100)
    (q : ∀ (p : Wk) (x8 : PyData), E.nx (s04 ns (.im (nD k)) .un (.im (nD m)) (.im (nD n)) (.im (dI ps)) (.ow false (.lst ((S ++ [p]).map dP))) (.im x8) .un .un .un .un)) :
    pb_law04_2 E (s04 ns (.im (nD k)) .un (.im (nD m)) (.im (nD n)) (.im (dI ps)) (.ow false (.lst (S.map dP))) .un .un .un .un .un) := by
  refine ⟨_, _, rfl, _, rfl, nd1 1, _, rfl, by decide, by decide, fun a ha => ?_⟩
  simp only [pk1]
  obtain ⟨w, ew, w1, w1000⟩ : ∃ w : Nat, atI [nD n, .int 1000] (a : Int) = some (nD w) ∧ 1 ≤ w ∧ w ≤ 1000 := by
    have : a = 0 ∨ a = 1 := by omega
    rcases this with rfl | rfl
    · exact ⟨n, rfl, n1, by omega⟩
    · exact ⟨1000, rfl, by decide, by decide⟩
  refine ⟨_, ew, _, _, rfl, ?_⟩
  show pr_law04_1 E (s04 ns (.im (nD k)) .un (.im (nD m)) (.im (nD n)) (.im (dI ps)) (.ow false (.lst (S.map dP))) (.im (nD w)) .un .un .un .un)
  refine ⟨_, _, _, rfl, rfl, .inl (.inl ⟨by decide, by decide⟩), _, _, rfl, _, rfl, nd1 1, _, rfl, by omega, by omega, fun x hx => ?_⟩
  simp only [pk1]
  refine ⟨trivial, .inl (.inl ⟨by decide, by decide⟩), _, _, rfl, _, rfl, nd1 1, _, rfl, by omega, by omega, fun y hy => ?_⟩
  simp only [pk1]
  refine ⟨trivial, _, _, _, _, rfl, rfl, by rw [List.length_map]; exact szN (m := 100) sl (by decide), ?_⟩
  have := q ((x : Int) - w, (y : Int) - w) (nD w)
  rw [List.map_append] at this
  exact this
abbrev L5 (ps : List Int) (S : List Wk) (n : Nat) : List PyData := [0, 1, 2, 3, 4].map fun form => dB (bk04 ps S n form)
theorem bk04_ok {m : Nat} {ps : List Int} {S : List Wk} {n form : Nat} (m1 : 1 ≤ m) (m5 : m ≤ 5) (n1 : 1 ≤ n) (n6 : n ≤ 6) (pok : PacesOk (m : Int) ps) (sl : (S.length : Int) = nT m) : BookOk (m : Int) (bk04 ps S n form) := by
  refine ⟨pok, by omega, by omega, by show (1 : Int) ≤ n; omega, by show (n : Int) ≤ 6; omega, ⟨by show ((S.map _).length : Int) = _; rw [List.length_map]; exact sl, fun t ht => ?_⟩⟩
  obtain ⟨p, _, rfl⟩ := List.mem_map.mp ht
  exact dueT4_ok n1
def Lst7 (S : List Wk) (s7 : Sl) : Prop := s7 = .ow false (.lst (S.map dP)) ∨ s7 = .im (.list (S.map dP))
/-- one turn -/
theorem hp_turn04 {cNoBook : Addr} {E : PEn} {ns : List Int} {i m n : Nat} {ps : List Int} {S : List Wk} {s7 s10 : Sl} (h7 : Lst7 S s7) (hs : (∃ L, s10 = .ow false (.lst L)) ∨ ∃ d, s10 = .im d) (m1 : 1 ≤ m) (m5 : m ≤ 5) (n1 : 1 ≤ n) (n6 : n ≤ 6) (pok : PacesOk (m : Int) ps) (sl : (S.length : Int) = nT m)
    (q : ∀ s7, Lst7 S s7 → E.nx (s04 ns .un (.im (nD i)) (.im (nD m)) (.im (nD n)) (.im (dI ps)) s7 .un (.im (dT S)) (.im (.list (L5 ps S n))) .un .un)) :
    pb_law04_6 cNoBook E (s04 ns .un (.im (nD i)) (.im (nD m)) (.im (nD n)) (.im (dI ps)) s7 .un (.im (dT S)) s10 .un .un) := by
  have pl := pok.len
  have n10 := nT_le (m := (m : Int)) (by omega) (by omega)
  have sl2 : (S.length : Int) = nT ps.length := by rw [sl, pl]
  have p1 : 1 ≤ ps.length := by omega
  have p5 : ps.length ≤ 5 := by omega
  refine ⟨_, _, rfl, _, _, rfl, _, rfl, List.nodup_nil, ps, n, rfl, p1, p5, n1, n6, ?_⟩
  refine ⟨_, _, rfl, _, _, rfl, _, rfl, List.nodup_nil, ps, n, rfl, p1, p5, n1, n6, ?_⟩
  refine ⟨_, _, rfl, _, _, rfl, _, rfl, List.nodup_nil, ps, n, rfl, p1, p5, n1, n6, ?_⟩
  have e0 : alikeB ps n (gKeep n) = bk04 ps S n 0 := alike_is (by decide) (fun p => rfl) sl2
  have e1 : alikeB ps n (gStay n) = bk04 ps S n 1 := alike_is (by decide) (fun p => rfl) sl2
  have e2 : alikeB ps n (gSort n) = bk04 ps S n 2 := alike_is (by decide) (fun p => rfl) sl2
  have e3 : alikeB ps n (gFold n) = bk04 ps S n 3 := alike_is (by decide) (fun p => rfl) sl2
  have e4 : Book.mk ps (n : Int) (S.map (madeT4 4 n)) = bk04 ps S n 4 := congrArg (Book.mk ps (n : Int)) (List.map_congr_left fun p _ => (due_made (show 4 ≤ 4 by decide)).symm)
  rw [e0, e1, e2]
  refine ⟨_, _, rfl, ?_⟩
  suffices main : pr_law04_3 cNoBook E (s04 ns .un (.im (nD i)) (.im (nD m)) (.im (nD n)) (.im (dI ps)) s7 .un (.im (dT S)) (.ow false (.lst [dB (bk04 ps S n 0), dB (bk04 ps S n 1), dB (bk04 ps S n 2)])) .un .un) by
    rcases hs with ⟨L, rfl⟩ | ⟨d, rfl⟩ <;> exact main
  refine ⟨_, _, rfl, _, _, rfl, _, rfl, List.nodup_nil, ps, n, rfl, p1, p5, n1, n6, ?_⟩
  refine ⟨_, _, rfl, _, _, rfl, _, _, rfl, _, rfl, List.nodup_nil, ps, S, n, rfl, n1, n6, by omega, ?_⟩
  rw [e3, e4]
  refine ⟨(show 3 + 2 ≤ sizeLine by decide), _, _, rfl, ?_⟩
  show pr_law04_2 cNoBook E (s04 ns .un (.im (nD i)) (.im (nD m)) (.im (nD n)) (.im (dI ps)) s7 .un (.im (dT S)) (.ow false (.lst (L5 ps S n))) .un .un)
  refine ⟨_, _, _, rfl, rfl, ?_⟩
  show loopI (fun d E δ => gT 2 (gsC (gN 11) (gsC (gN 12) gsN)) d δ fun δ' => pb_law04_3 cNoBook E δ') [11, 12] E (enD 0 (L5 ps S n)) (s04 ns .un (.im (nD i)) (.im (nD m)) (.im (nD n)) (.im (dI ps)) s7 .un (.im (dT S)) (.im (.list (L5 ps S n))) .un .un)
  refine ⟨fun j δ => ∃ s7, Lst7 S s7 ∧ δ = s04 ns .un (.im (nD i)) (.im (nD m)) (.im (nD n)) (.im (dI ps)) s7 .un (.im (dT S)) (.im (.list (L5 ps S n))) .un .un, ⟨s7, h7, rfl⟩, ?_, ?_⟩
  · rintro form d δ hd ⟨s7, h7, rfl⟩
    have hf : form < 5 := by
      have := (List.getElem?_eq_some_iff.mp hd).1
      rw [enD_len] at this
      exact this
    have ok := bk04_ok (form := form) m1 m5 n1 n6 pok sl
    have tm := tame_dB ok
    have ed : d = .tuple [nD form, dB (bk04 ps S n form)] := by
      have : form = 0 ∨ form = 1 ∨ form = 2 ∨ form = 3 ∨ form = 4 := by omega
      rcases this with rfl | rfl | rfl | rfl | rfl <;> (cases hd; rfl)
    subst ed
    refine ⟨rfl, rfl, ?_⟩
    show pb_law04_3 cNoBook _ (s04 ns .un (.im (nD i)) (.im (nD m)) (.im (nD n)) (.im (dI ps)) s7 .un (.im (dT S)) (.im (.list (L5 ps S n))) (.im (nD form)) (.im (dB (bk04 ps S n form))))
    rcases h7 with rfl | rfl
    all_goals
      refine ⟨_, _, rfl, _, _, rfl, _, _, rfl, _, _, rfl, _, _, rfl, _, rfl, List.nodup_nil, ps, S, n, form, rfl, n1, n6, by omega, ?_⟩
      refine ⟨_, _, rfl, _, rfl, List.nodup_nil, dB (bk04 ps S n form), rfl, noL_dB _, by omega, _, rfl, ?_⟩
      refine ⟨_, _, rfl, _, rfl, List.nodup_nil, _, rfl, noL_dB _, bookA_okG ok, _, rfl, ?_⟩
      exact ⟨_, .inr rfl, rfl⟩
  · rintro δ ⟨s7, h7, rfl⟩
    exact q s7 h7
theorem hp_law04 (cNoBook : Addr) (as : List Sl) (Qp : QE) (Ep : EX) (h : psp_law as Qp Ep) : p_law04 cNoBook (endsP as Qp) (as ++ List.replicate 12 .un) := by
  obtain ⟨ns, rfl, hn, q⟩ := h
  have z24 : (10000 : Nat) < sizeLine := by decide
  refine ⟨_, _, rfl, _, rfl, nd1 0, 0, ns, rfl, by omega, by omega, hn, _, _, rfl, ?_⟩
  show pr_law04_9 cNoBook _ (s04 ns .un .un .un .un .un .un .un .un .un .un .un)
  refine ⟨_, _, rfl, _, rfl, nd1 1, _, rfl, by decide, by decide, fun a ha => ?_⟩
  simp only [pk1]
  refine ⟨_, _, rfl, _, rfl, nd1 1, _, rfl, by decide, by decide, fun b hb => ?_⟩
  simp only [pk1]
  obtain ⟨m, em⟩ : ∃ m : Nat, m = 1 + a := ⟨_, rfl⟩
  obtain ⟨n, en⟩ : ∃ n : Nat, n = 1 + b := ⟨_, rfl⟩
  have e1 : (1 : Int) + (a : Int) = (m : Int) := by omega
  have e2 : (1 : Int) + (b : Int) = (n : Int) := by omega
  refine ⟨_, _, rfl, ?_⟩
  show pr_law04_8 cNoBook _ (s04 ns .un .un (.im (.int (1 + (a : Int)))) (.im (.int (1 + (b : Int)))) .un .un .un .un .un .un .un)
  rw [e1, e2]
  show pr_law04_8 cNoBook _ (s04 ns .un .un (.im (nD m)) (.im (nD n)) .un .un .un .un .un .un .un)
  refine ⟨_, _, rfl, _, rfl, nd1 1, (m : Int), rfl, by omega, by omega, fun ps pok => ?_⟩
  refine ⟨_, _, rfl, ?_⟩
  have pl := pok.len
  have n10 := nT_le (m := (m : Int)) (by omega) (by omega)
  show pr_law04_7 cNoBook _ (s04 ns .un .un (.im (nD m)) (.im (nD n)) (.im (dI ps)) (.ow false (.lst (([] : List Wk).map dP))) .un .un .un .un .un)
  refine ⟨trivial, .inl (.inl ⟨by omega, by omega⟩), cdiv2 _, by show -(2 ^ 62 : Int) ≤ nT (m : Int); omega, by show nT (m : Int) < 2 ^ 62; omega, ?_⟩
  refine for_rg (nT (m : Int)).toNat (by show nT (m : Int) = _; omega) (fun i δ => ∃ S : List Wk, S.length = i ∧ δ = s04 ns .un .un (.im (nD m)) (.im (nD n)) (.im (dI ps)) (.ow false (.lst (S.map dP))) .un .un .un .un .un) ⟨[], rfl, rfl⟩ ?_ ?_
  · rintro k δ hk ⟨S, rfl, rfl⟩
    refine hp_step04 (i := 0) (by omega) (by omega) (by omega) fun p x8 => ⟨S ++ [p], by simp, rfl⟩
  · rintro δ ⟨S, sl, rfl⟩
    have sl : (S.length : Int) = nT m := by omega
    refine ⟨_, _, rfl, ?_⟩
    show pr_law04_5 cNoBook _ (s04 ns .un .un (.im (nD m)) (.im (nD n)) (.im (dI ps)) (.ow false (.lst (S.map dP))) .un (.im (dT S)) (.ow false (.lst [])) .un .un)
    refine ⟨by decide, by decide, ?_⟩
    refine for_rg 2 rfl (fun i δ => ∃ s7 s10, Lst7 S s7 ∧ ((i = 0 ∧ s10 = .ow false (.lst [])) ∨ (0 < i ∧ s10 = .im (.list (L5 ps S n)))) ∧ δ = s04 ns .un .un (.im (nD m)) (.im (nD n)) (.im (dI ps)) s7 .un (.im (dT S)) s10 .un .un) ⟨_, _, .inl rfl, .inl ⟨rfl, rfl⟩, rfl⟩ ?_ ?_
    · rintro i δ hi ⟨s7, s10, h7, h10, rfl⟩
      have hs : (∃ L, s10 = .ow false (.lst L)) ∨ ∃ d, s10 = .im d := by
        rcases h10 with ⟨_, e⟩ | ⟨_, e⟩
        · exact .inl ⟨_, e⟩
        · exact .inr ⟨_, e⟩
      refine hp_turn04 h7 hs (by omega) (by omega) (by omega) (by omega) pok sl fun s7 h7 => ⟨s7, _, h7, .inr ⟨by omega, rfl⟩, ?_⟩
      rcases h7 with rfl | rfl <;> rfl
    · rintro δ ⟨s7, s10, h7, h10, rfl⟩
      rcases h10 with ⟨z, _⟩ | ⟨_, rfl⟩
      · exact absurd z (by decide)
      · have e4 : Book.mk ps (n : Int) (S.map (madeT4 4 n)) = bk04 ps S n 4 := congrArg (Book.mk ps (n : Int)) (List.map_congr_left fun p _ => (due_made (show 4 ≤ 4 by decide)).symm)
        refine ⟨_, _, rfl, _, _, rfl, _, _, rfl, _, rfl, List.nodup_nil, ps, S, n, rfl, by omega, by omega, by omega, ?_⟩
        rw [e4]
        refine ⟨_, atI_of (j := 4) rfl rfl, ?_⟩
        have shB := shaped_dB (bk04_ok (form := 4) (show 1 ≤ m by omega) (show m ≤ 5 by omega) (show 1 ≤ n by omega) (show n ≤ 6 by omega) pok sl)
        have shT : SeqAt.shaped (dT S) = true := shapedT_map dP 1 (by decide) S fun p _ => lay_dP p
        refine ⟨shB, shB, _, rfl, ?_⟩
        show if eqd (dB (bk04 ps S n 4)) (dB (bk04 ps S n 4)) = true then _ else _
        rw [eqd_self shB, if_pos rfl]
        rcases h7 with rfl | rfl
        all_goals
          refine ⟨shT, shT, _, _, rfl, ?_⟩
          show Qp (.im (.bool (eqd (dT S) (dT S)))) _
          rw [eqd_self shT]
          exact q
end Pv
namespace Wf
open PySem PySem.Spec L2 Pv LamX NdefX
/-- the rows of the linked text -/
def topS (i : Nat) : Stmt := PySem.Challenge.pw_wherefrom_k04_books_made.main.body.getD i (.Pass ⟨0, 0, 0, 0⟩)
def clsS (i : Nat) : Stmt := match topS i with
  | .ClassDef _ _ _ body _ _ _ _ _ _ _ => body.getD 0 (.Pass ⟨0, 0, 0, 0⟩)
  | x => x
section
variable {P : Program} {w : World} {K : PySem.W.Frag} {mg : Str → Option Value} {base : Heap} {f : Addr} {fd : FuncData} {cNoBook cRoadError : Addr} {T : List NTab}
abbrev s_init_NoBook : Stmt := clsS 2
theorem sc_init_NoBook : FnScope ["self", "word", "at"] ["self", "word", "at"] (defScope s_init_NoBook) := ⟨rfl, rfl, rfl, by decide +kernel, rfl, by decide +kernel, by decide +kernel⟩
theorem ok_init_NoBook (F : FunD K "__init__" "NoBook.__init__" (defArgs s_init_NoBook) (defBody s_init_NoBook) (defScope s_init_NoBook) [] [] f fd) (BC : BaseC K mg "RoadError" cRoadError) (O : OexC K cNoBook) (n0 : PySem.W.findIn K (.ref cNoBook) "word" = some none) (n1 : PySem.W.findIn K (.ref cNoBook) "at" = some none) : FnOk P w K mg base CX0 1 f fd ["self", "word", "at"] (sp_init2 K cNoBook "word" "at") := by
  refine F.ok sc_init_NoBook (fun vs H Q E h => ?_) (fun cdv A outer s H vs Q E hr h => ⟨_, PSs.nox ?_, pure_init2 (txt := "no such book") O n0 n1 vs H Q E h⟩)
  · obtain ⟨_, _, _, rfl, _⟩ := h
    rfl
  · exact pss_cons (ps_expr (pe_binit (pl := _) BC (by rfl) (pa_cons (pv 0) (pa_cons (pe_str) (pa_nil))))) (pss_cons (ps_ost (pv 0) (pv 1)) (pss_one (ps_ost (pv 0) (pv 2))))
abbrev s_draw : Stmt := topS 26
abbrev N_draw : List Str := ["_law_deal_here", "_law_many", "_law_one", "_law_other", "_law_digit"]
theorem sc_draw : FnScope N_draw ["_law_deal_here", "_law_many"] (defScope s_draw) := ⟨rfl, rfl, rfl, by decide +kernel, rfl, by decide +kernel, by decide +kernel⟩
theorem ok_draw (F : FnP K "_law_draw" s_draw f fd) (B : Bl mg)  : FnOk P w K mg base CX0 1 f fd ["_law_deal_here", "_law_many"] sp_draw := by
  refine F.ok sc_draw (fun vs H Q E h => ?_) (fun cdv A outer s H vs Q E hr h => ⟨_, PSs.nox ?_, pure_draw (K := K) vs H Q E h⟩)
  · obtain ⟨_, _, _, rfl, _⟩ := h
    rfl
  · exact pss_cons (ps_while PassesOwn.never (PW.pt (pw_and (pt_cmpR op_eq (pe_dget (hu_of hr) (pv 0) (pe_str) (fun _ _ => rfl)) (pe_int) (nomark _)) (pw_and1 (pt_cmpR op_gt (pe_callB call_len (by rfl) B.b_len (by decide +kernel) (pa_cons (pe_dget (hu_of hr) (pv 0) (pe_str) (fun _ _ => rfl)) (pa_nil))) (pe_int) (nomark _))))) (pss_one (ps_dput (hu_of hr) (pv 0) (pe_str) (pe_bm0 PySem.F.plainAttrs_list PySem.F.slot_list_pop PySem.F.type_list_pop mt_pop (pe_dget (hu_of hr) (pv 0) (pe_str) (fun _ _ => rfl))) rfl)))
          (pss_cons (ps_if (pt_cmpR op_gt (pe_dget (hu_of hr) (pv 0) (pe_str) (fun _ _ => rfl)) (pe_int) (nomark _)) (pss_cons (ps_set (i := 4) sc_draw.nd rfl (by first | exact Or.inl rfl | exact Or.inr rfl) (pe_op op_mod (pe_dget (hu_of hr) (pv 0) (pe_str) (fun _ _ => rfl)) (pv 1)))
          (pss_cons (ps_dput (hu_of hr) (pv 0) (pe_str) (pe_op op_fdivW (pe_dget (hu_of hr) (pv 0) (pe_str) (fun _ _ => rfl)) (pv 1)) rfl)
          (pss_one (ps_ret (pv 4))))) (pss_nil))
          (pss_cons (ps_dput (hu_of hr) (pv 0) (pe_str) (pe_op op_add (pe_dget (hu_of hr) (pv 0) (pe_str) (fun _ _ => rfl)) (pe_int)) rfl)
          (pss_cons (ps_set (i := 2) sc_draw.nd rfl (by first | exact Or.inl rfl | exact Or.inr rfl) (pe_op op_mod (pe_op op_mul (pe_op op_add (pe_dget (hu_of hr) (pv 0) (pe_str) (fun _ _ => rfl)) (pe_op op_mul (pe_int) (pe_dget (hu_of hr) (pv 0) (pe_str) (fun _ _ => rfl)))) (pe_int)) (pe_int)))
          (pss_cons (ps_set (i := 3) sc_draw.nd rfl (by first | exact Or.inl rfl | exact Or.inr rfl) (pe_op op_mod (pe_op op_add (pe_op op_add (pe_op op_mul (pv 2) (pv 2)) (pe_op op_mul (pe_int) (pe_dget (hu_of hr) (pv 0) (pe_str) (fun _ _ => rfl)))) (pe_dget (hu_of hr) (pv 0) (pe_str) (fun _ _ => rfl))) (pe_int)))
          (pss_one (ps_ret (pe_op op_mod (pe_op op_fdiv (pe_op op_add (pe_op op_mul (pe_op op_mod (pe_op op_mul (pv 3) (pv 3)) (pe_int)) (pe_int)) (pv 2)) (pe_int)) (pv 1))))))))
abbrev s_deal : Stmt := topS 25
abbrev N_deal : List Str := ["_law_script", "_law_base", "_law_some", "_law_seed", "_law_one"]
theorem sc_deal : FnScope N_deal ["_law_script", "_law_base"] (defScope s_deal) := ⟨rfl, rfl, rfl, by decide +kernel, rfl, by decide +kernel, by decide +kernel⟩
theorem ok_deal (F : FnP K "_law_deal" s_deal f fd) (B : Bl mg)  : FnOk P w K mg base CX0 1 f fd ["_law_script", "_law_base"] (sp_deal K) := by
  refine F.ok sc_deal (fun vs H Q E h => ?_) (fun cdv A outer s H vs Q E hr h => ⟨_, PSs.nox ?_, pure_deal (K := K) vs H Q E h⟩)
  · obtain ⟨_, _, _, rfl, _⟩ := h
    rfl
  · exact pss_cons (ps_setLc (i := 2) (own := [("_law_one", 4)]) rfl sc_deal.nd rfl rfl (sw_true rfl rfl rfl (by decide +kernel)) (pi_list (pe_slice sl_list (pv 0) (po_some (pv 1)) (po_some (pe_int)))) (blkOk_by (N := N_deal) (sc := defScope s_deal) (by decide +kernel)) (fun _ _ _ _ _ => pg_name (i := 4) sc_deal.nd rfl (by first | exact Or.inl rfl | exact Or.inr rfl)) (fun _ _ _ _ _ => pts_nil) (fun _ _ _ _ _ => pe_callB (call_max2 rfl) (by rfl) B.b_max (by decide +kernel) (pa_cons (pv 4) (pa_cons (pe_op op_sub (pe_int) (pv 4)) (pa_nil)))))
          (pss_cons (ps_set (i := 3) sc_deal.nd rfl (by first | exact Or.inl rfl | exact Or.inr rfl) (pe_op op_add (pe_int) (pe_op op_mul (pe_int) (pv 1))))
          (pss_cons (ps_for PassesOwn.never rfl (pi_list (pv 2)) (pg_name (i := 4) sc_deal.nd rfl (by first | exact Or.inl rfl | exact Or.inr rfl)) (pss_one (ps_set (i := 3) sc_deal.nd rfl (by first | exact Or.inl rfl | exact Or.inr rfl) (pe_op op_mod (pe_op op_add (pe_op op_add (pe_op op_mul (pv 3) (pe_int)) (pe_op op_mod (pv 4) (pe_int))) (pe_int)) (pe_int)))))
          (pss_one (ps_ret (pe_disp (pps_cons (pe_str) (pe_op op_add (pv 3) (pe_int)) (pps_cons (pe_str) (pe_int) (pps_cons (pe_str) (pe_int) (pps_cons (pe_str) (Wf.pe_lstRev rfl (by rfl) B.b_list (by rfl) B.b_reversed (pe_lc (own := [("_law_one", 4)]) rfl sc_deal.nd (pi_list (pv 2)) (blkOk_by (N := N_deal) (sc := defScope s_deal) (by decide +kernel)) (fun _ _ _ _ _ => pg_name (i := 4) sc_deal.nd rfl (by first | exact Or.inl rfl | exact Or.inr rfl)) (fun _ _ _ _ _ => pts_one (pt_cmpR op_ge (pv 4) (pe_op op_pow (pe_int) (pe_int)) (nomark _))) (fun _ _ _ _ _ => pv 4))) (pps_nil))))) (by rfl) (by rfl) (fun z => by cases z) (by decide))))))
abbrev s_alike : Stmt := topS 27
abbrev N_alike : List Str := ["_law_found", "_law_due_here", "_law_left", "_law_one", "_law_other"]
theorem sc_alike : FnScope N_alike ["_law_found", "_law_due_here"] (defScope s_alike) := ⟨rfl, rfl, rfl, by decide +kernel, rfl, by decide +kernel, by decide +kernel⟩
theorem ok_alike (F : FnP K "_law_alike" s_alike f fd) (B : Bl mg)  : FnOk P w K mg base CX0 1 f fd ["_law_found", "_law_due_here"] (sp_alike K) := by
  refine F.ok sc_alike (fun vs H Q E h => ?_) (fun cdv A outer s H vs Q E hr h => ⟨_, PSs.nox ?_, pure_alike (K := K) vs H Q E h⟩)
  · obtain ⟨_, _, _, rfl, _⟩ := h
    rfl
  · exact pss_cons (ps_set (i := 2) sc_alike.nd rfl (by first | exact Or.inl rfl | exact Or.inr rfl) (pe_lst (pa_cons (pe_tup (pa_cons (pv 0) (pa_cons (pv 1) (pa_nil)))) (pa_nil))))
          (pss_cons (ps_while PassesOwn.never (pt_cmpR op_gt (pe_callB call_len (by rfl) B.b_len (by decide +kernel) (pa_cons (pv 2) (pa_nil))) (pe_int) (nomark _)) (pss_cons (ps_asg (pe_bm0 PySem.F.plainAttrs_list PySem.F.slot_list_pop PySem.F.type_list_pop mt_pop (pv 2)) (pg_tup rfl (pgs_cons (pg_name (i := 3) sc_alike.nd rfl (by first | exact Or.inl rfl | exact Or.inr rfl)) (pgs_cons (pg_name (i := 4) sc_alike.nd rfl (by first | exact Or.inl rfl | exact Or.inr rfl)) (pgs_nil)))))
          (pss_cons (ps_if (PW.pt (pw_or (pt_cmpR op_ne (pe_callB call_isi (by rfl) B.b_isinstance (by decide +kernel) (pa_cons (pv 3) (pa_cons (pe_bltn (v := .ty "bool") (by rfl) B.b_bool (by decide +kernel) rfl) (pa_nil)))) (pe_callB call_isi (by rfl) B.b_isinstance (by decide +kernel) (pa_cons (pv 4) (pa_cons (pe_bltn (v := .ty "bool") (by rfl) B.b_bool (by decide +kernel) rfl) (pa_nil)))) (nomark _)) (pw_or1 (pt_cmpR op_ne (pe_callB call_isi (by rfl) B.b_isinstance (by decide +kernel) (pa_cons (pv 3) (pa_cons (pe_bltn (v := .ty "tuple") (by rfl) B.b_tuple (by decide +kernel) rfl) (pa_nil)))) (pe_callB call_isi (by rfl) B.b_isinstance (by decide +kernel) (pa_cons (pv 4) (pa_cons (pe_bltn (v := .ty "tuple") (by rfl) B.b_tuple (by decide +kernel) rfl) (pa_nil)))) (nomark _))))) (pss_one (ps_ret (pe_bl))) (pss_nil))
          (pss_cons (ps_if (PW.pt (pw_or (pt_cmpR op_ne (pe_callB call_isi (by rfl) B.b_isinstance (by decide +kernel) (pa_cons (pv 3) (pa_cons (pe_bltn (v := .ty "list") (by rfl) B.b_list (by decide +kernel) rfl) (pa_nil)))) (pe_callB call_isi (by rfl) B.b_isinstance (by decide +kernel) (pa_cons (pv 4) (pa_cons (pe_bltn (v := .ty "list") (by rfl) B.b_list (by decide +kernel) rfl) (pa_nil)))) (nomark _)) (pw_or1 (pt_cmpR op_ne (pe_callB call_isi (by rfl) B.b_isinstance (by decide +kernel) (pa_cons (pv 3) (pa_cons (pe_bltn (v := .ty "str") (by rfl) B.b_str (by decide +kernel) rfl) (pa_nil)))) (pe_callB call_isi (by rfl) B.b_isinstance (by decide +kernel) (pa_cons (pv 4) (pa_cons (pe_bltn (v := .ty "str") (by rfl) B.b_str (by decide +kernel) rfl) (pa_nil)))) (nomark _))))) (pss_one (ps_ret (pe_bl))) (pss_nil))
          (pss_cons (ps_if (pt_cmpR op_ne (pe_callB call_isi (by rfl) B.b_isinstance (by decide +kernel) (pa_cons (pv 3) (pa_cons (pe_bltn (v := .ty "int") (by rfl) B.b_int (by decide +kernel) rfl) (pa_nil)))) (pe_callB call_isi (by rfl) B.b_isinstance (by decide +kernel) (pa_cons (pv 4) (pa_cons (pe_bltn (v := .ty "int") (by rfl) B.b_int (by decide +kernel) rfl) (pa_nil)))) (nomark _)) (pss_one (ps_ret (pe_bl))) (pss_nil))
          (pss_one (ps_if (pt_val (pe_callB call_isiT (by rfl) B.b_isinstance (by decide +kernel) (pa_cons (pv 4) (pa_cons (pe_tup (pa_cons (pe_bltn (v := .ty "tuple") (by rfl) B.b_tuple (by decide +kernel) rfl) (pa_cons (pe_bltn (v := .ty "list") (by rfl) B.b_list (by decide +kernel) rfl) (pa_nil)))) (pa_nil))))) (pss_cons (ps_if (pt_cmpR op_ne (pe_callB call_len (by rfl) B.b_len (by decide +kernel) (pa_cons (pv 3) (pa_nil))) (pe_callB call_len (by rfl) B.b_len (by decide +kernel) (pa_cons (pv 4) (pa_nil))) (nomark _)) (pss_one (ps_ret (pe_bl))) (pss_nil))
          (pss_one (ps_expr (pe_bm PySem.F.plainAttrs_list PySem.F.slot_list_extend PySem.F.type_list_extend mt_extend (pv 2) (pa_cons (Wf.pe_lstZip rfl (by rfl) B.b_list (by rfl) B.b_zip (pa_cons (pv 3) (pa_cons (pv 4) (pa_nil)))) (pa_nil)))))) (pss_one (ps_if (pt_cmpR (op_neD hr.units) (pv 3) (pv 4) (nomark _)) (pss_one (ps_ret (pe_bl))) (pss_nil))))))))))
          (pss_one (ps_ret (pe_bl))))
abbrev s_paces : Stmt := topS 28
abbrev N_paces : List Str := ["_law_deal_here", "_law_many", "_law_wide", "_law_steps", "_law_found", "_law_step", "_law_k"]
theorem sc_paces : FnScope N_paces ["_law_deal_here", "_law_many"] (defScope s_paces) := ⟨rfl, rfl, rfl, by decide +kernel, rfl, by decide +kernel, by decide +kernel⟩
theorem ok_paces (F : FnP K "_law_paces" s_paces f fd) (B : Bl mg) (C_draw : Cal P w K mg base CX0 1 "_law_draw" ["_law_deal_here", "_law_many"] sp_draw) : FnOk P w K mg base CX0 2 f fd ["_law_deal_here", "_law_many"] (sp_paces K) := by
  refine F.ok sc_paces (fun vs H Q E h => ?_) (fun cdv A outer s H vs Q E hr h => ⟨_, PSs.nox ?_, pure_paces (K := K) vs H Q E h⟩)
  · obtain ⟨_, _, _, rfl, _⟩ := h
    rfl
  · exact pss_cons (ps_set (i := 2) sc_paces.nd rfl (by first | exact Or.inl rfl | exact Or.inr rfl) (pe_lst (pa_cons (pe_int) (pa_cons (pe_int) (pa_cons (pe_int) (pa_cons (pe_op op_fdiv (pe_int) (pe_callB (call_max2 rfl) (by rfl) B.b_max (by decide +kernel) (pa_cons (pe_int) (pa_cons (pe_op op_sub (pv 1) (pe_int)) (pa_nil))))) (pa_nil)))))))
          (pss_cons (ps_setLc (i := 3) (own := [("_law_k", 6)]) rfl sc_paces.nd rfl rfl (sw_true rfl rfl rfl (by decide +kernel)) (pi_range1 (by rfl) B.b_range (pa_cons (pe_op op_sub (pv 1) (pe_int)) (pa_nil))) (blkOk_by (N := N_paces) (sc := defScope s_paces) (by decide +kernel)) (fun _ _ _ _ _ => pg_name (i := 6) sc_paces.nd rfl (by first | exact Or.inl rfl | exact Or.inr rfl)) (fun _ _ _ _ _ => pts_nil) (fun _ _ _ _ _ => pe_op op_add (pe_int) (Wf.pe_cal C_draw hr (by rfl) (pa_cons (pv 0) (pa_cons (pe_ix ix_list (pv 2) (Wf.pe_cal C_draw hr (by rfl) (pa_cons (pv 0) (pa_cons (pe_int) (pa_nil)))) (fun _ _ => rfl)) (pa_nil))))))
          (pss_cons (ps_set (i := 4) sc_paces.nd rfl (by first | exact Or.inl rfl | exact Or.inr rfl) (pe_lst (pa_cons (pe_op op_sub (Wf.pe_cal C_draw hr (by rfl) (pa_cons (pv 0) (pa_cons (pe_op op_sub (pe_int) (pe_callB (cr_sum rfl) (by rfl) B.b_sum (by decide +kernel) (pa_cons (pv 3) (pa_nil)))) (pa_nil)))) (pe_int)) (pa_nil))))
          (pss_cons (ps_for PassesOwn.never rfl (pi_list (pv 3)) (pg_name (i := 5) sc_paces.nd rfl (by first | exact Or.inl rfl | exact Or.inr rfl)) (pss_one (ps_expr (pe_bm PySem.F.plainAttrs_list PySem.F.slot_list_append PySem.F.type_list_append mt_append (pv 4) (pa_cons (pe_op op_add (pe_ix ix_list (pv 4) (pe_un un_neg (pe_int)) (fun _ _ => rfl)) (pv 5)) (pa_nil))))))
          (pss_one (ps_ret (pe_callTy call_tuple_of (by rfl) B.b_tuple (by decide +kernel) (pa_cons (pv 4) (pa_nil))))))))
abbrev s_is_number : Stmt := topS 7
abbrev N_is_number : List Str := ["thing"]
theorem sc_is_number : FnScope N_is_number ["thing"] (defScope s_is_number) := ⟨rfl, rfl, rfl, by decide +kernel, rfl, by decide +kernel, by decide +kernel⟩
theorem ok_is_number (F : FnP K "is_number" s_is_number f fd) (B : Bl mg)  : FnOk P w K mg base CX0 1 f fd ["thing"] (sp_isnum K) := by
  refine F.ok sc_is_number (fun vs H Q E h => ?_) (fun cdv A outer s H vs Q E hr h => ⟨_, PSs.nox ?_, pure_isnum (K := K) vs H Q E h⟩)
  · obtain ⟨_, _, rfl, _⟩ := h
    rfl
  · exact pss_one (ps_ret (pe_and (pe_callB call_isi (by rfl) B.b_isinstance (by decide +kernel) (pa_cons (pv 0) (pa_cons (pe_bltn (v := .ty "int") (by rfl) B.b_int (by decide +kernel) rfl) (pa_nil)))) (pe_one (pe_not (pe_callB call_isi (by rfl) B.b_isinstance (by decide +kernel) (pa_cons (pv 0) (pa_cons (pe_bltn (v := .ty "bool") (by rfl) B.b_bool (by decide +kernel) rfl) (pa_nil))))))))
abbrev s_is_whole : Stmt := topS 8
abbrev N_is_whole : List Str := ["thing", "least", "most"]
theorem sc_is_whole : FnScope N_is_whole ["thing", "least", "most"] (defScope s_is_whole) := ⟨rfl, rfl, rfl, by decide +kernel, rfl, by decide +kernel, by decide +kernel⟩
theorem ok_is_whole (F : FnP K "is_whole" s_is_whole f fd) (B : Bl mg) (C_is_number : Cal P w K mg base CX0 1 "is_number" ["thing"] (sp_isnum K)) : FnOk P w K mg base CX0 2 f fd ["thing", "least", "most"] (sp_iswh K) := by
  refine F.ok sc_is_whole (fun vs H Q E h => ?_) (fun cdv A outer s H vs Q E hr h => ⟨_, PSs.nox ?_, pure_iswh (K := K) vs H Q E h⟩)
  · obtain ⟨_, _, _, _, rfl, _⟩ := h
    rfl
  · exact pss_one (ps_ret (pe_and (Wf.pe_cal C_is_number hr (by rfl) (pa_cons (pv 0) (pa_nil))) (pe_one (pe_chain op_le op_le (pv 1) (pv 0) (pv 2)))))
abbrev s_is_tuple_of : Stmt := topS 9
abbrev N_is_tuple_of : List Str := ["thing", "many"]
theorem sc_is_tuple_of : FnScope N_is_tuple_of ["thing", "many"] (defScope s_is_tuple_of) := ⟨rfl, rfl, rfl, by decide +kernel, rfl, by decide +kernel, by decide +kernel⟩
theorem ok_is_tuple_of (F : FnP K "is_tuple_of" s_is_tuple_of f fd) (B : Bl mg)  : FnOk P w K mg base CX0 1 f fd ["thing", "many"] (sp_istu K) := by
  refine F.ok sc_is_tuple_of (fun vs H Q E h => ?_) (fun cdv A outer s H vs Q E hr h => ⟨_, PSs.nox ?_, pure_istu (K := K) vs H Q E h⟩)
  · obtain ⟨_, _, _, rfl, _⟩ := h
    rfl
  · exact pss_one (ps_ret (pe_and (pe_callB call_isi (by rfl) B.b_isinstance (by decide +kernel) (pa_cons (pv 0) (pa_cons (pe_bltn (v := .ty "tuple") (by rfl) B.b_tuple (by decide +kernel) rfl) (pa_nil)))) (pe_one (pe_cmpR op_eq (pe_callB call_len (by rfl) B.b_len (by decide +kernel) (pa_cons (pv 0) (pa_nil))) (pv 1) (nomark _)))))
abbrev s_tables_due : Stmt := topS 10
abbrev N_tables_due : List Str := ["kinds"]
theorem sc_tables_due : FnScope N_tables_due ["kinds"] (defScope s_tables_due) := ⟨rfl, rfl, rfl, by decide +kernel, rfl, by decide +kernel, by decide +kernel⟩
theorem ok_tables_due (F : FnP K "tables_due" s_tables_due f fd) (B : Bl mg)  : FnOk P w K mg base CX0 1 f fd ["kinds"] sp_tdue := by
  refine F.ok sc_tables_due (fun vs H Q E h => ?_) (fun cdv A outer s H vs Q E hr h => ⟨_, PSs.nox ?_, pure_tdue (K := K) vs H Q E h⟩)
  · obtain ⟨_, rfl, _⟩ := h
    rfl
  · exact pss_one (ps_ret (pe_op op_fdiv (pe_op op_mul (pv 0) (pe_op op_sub (pv 0) (pe_int))) (pe_int)))
abbrev s_is_pair : Stmt := topS 14
abbrev N_is_pair : List Str := ["thing", "sorts", "first", "second"]
theorem sc_is_pair : FnScope N_is_pair ["thing", "sorts"] (defScope s_is_pair) := ⟨rfl, rfl, rfl, by decide +kernel, rfl, by decide +kernel, by decide +kernel⟩
theorem ok_is_pair (F : FnP K "is_pair" s_is_pair f fd) (B : Bl mg) (C_is_tuple_of : Cal P w K mg base CX0 1 "is_tuple_of" ["thing", "many"] (sp_istu K)) (C_is_whole : Cal P w K mg base CX0 2 "is_whole" ["thing", "least", "most"] (sp_iswh K)) : FnOk P w K mg base CX0 3 f fd ["thing", "sorts"] (sp_ispr K) := by
  refine F.ok sc_is_pair (fun vs H Q E h => ?_) (fun cdv A outer s H vs Q E hr h => ⟨_, PSs.nox ?_, pure_ispr (K := K) vs H Q E h⟩)
  · obtain ⟨_, _, _, rfl, _⟩ := h
    rfl
  · exact pss_cons (ps_if (pt_not (pt_val (Wf.pe_cal C_is_tuple_of hr (by rfl) (pa_cons (pv 0) (pa_cons (pe_int) (pa_nil)))))) (pss_one (ps_ret (pe_bl))) (pss_nil))
          (pss_cons (ps_asg (pv 0) (pg_tup rfl (pgs_cons (pg_name (i := 2) sc_is_pair.nd rfl (by first | exact Or.inl rfl | exact Or.inr rfl)) (pgs_cons (pg_name (i := 3) sc_is_pair.nd rfl (by first | exact Or.inl rfl | exact Or.inr rfl)) (pgs_nil)))))
          (pss_one (ps_ret (pe_and (Wf.pe_cal C_is_whole hr (by rfl) (pa_cons (pv 2) (pa_cons (pe_int) (pa_cons (pe_op op_sub (pv 1) (pe_int)) (pa_nil))))) (pe_one (Wf.pe_cal C_is_whole hr (by rfl) (pa_cons (pv 3) (pa_cons (pe_int) (pa_cons (pe_op op_sub (pv 1) (pe_int)) (pa_nil))))))))))
abbrev s_look_paces : Stmt := topS 12
abbrev N_look_paces : List Str := ["paces", "least", "k", "pace"]
theorem sc_look_paces : FnScope N_look_paces ["paces"] (defScope s_look_paces) := ⟨rfl, rfl, rfl, by decide +kernel, rfl, by decide +kernel, by decide +kernel⟩
theorem ok_look_paces (F : FnP K "look_paces" s_look_paces f fd) (B : Bl mg) (C_is_whole : Cal P w K mg base CX0 2 "is_whole" ["thing", "least", "most"] (sp_iswh K)) (G_MOST_KINDS : ∃ t, mg "MOST_KINDS" = some (.int 5 t)) (G_MOST_PACE : ∃ t, mg "MOST_PACE" = some (.int 1000 t)) (T_NoBook : Err2 P w K mg base "NoBook" "word" "at" cNoBook) : FnOk P w K mg base (L2.CX P w) 3 f fd ["paces"] (sp_lpac K cNoBook) := by
  refine F.ok sc_look_paces (fun vs H Q E h => ?_) (fun cdv A outer s H vs Q E hr h => ⟨_, ?_, pure_lpac (C := cNoBook) (K := K) vs H Q E h⟩)
  · obtain ⟨_, _, rfl, _⟩ := h
    rfl
  · exact pss_cons (ps_if (PW.pt (pw_or (pt_not (pt_val (pe_callB call_isi (by rfl) B.b_isinstance (by decide +kernel) (pa_cons (pv 0) (pa_cons (pe_bltn (v := .ty "tuple") (by rfl) B.b_tuple (by decide +kernel) rfl) (pa_nil)))))) (pw_or1 (pt_not (pt_chain op_le op_le (pe_int) (pe_callB call_len (by rfl) B.b_len (by decide +kernel) (pa_cons (pv 0) (pa_nil))) (Wf.pe_gi G_MOST_KINDS (by rfl))))))) (pss_one (Wf.ps_rz2 T_NoBook hr rfl (takes_of rfl rfl rfl rfl) (by rfl) (pa_cons (pe_str) (pa_cons (pe_int) (pa_nil))))) (pss_nil))
          (pss_cons (ps_set (i := 1) sc_look_paces.nd rfl (by first | exact Or.inl rfl | exact Or.inr rfl) (pe_un un_neg (Wf.pe_gi G_MOST_PACE (by rfl))))
          (pss_one (ps_for (passes_of rfl) rfl (pi_enumT (by rfl) B.b_enumerate (pa_cons (pv 0) (pa_nil))) (pg_tup rfl (pgs_cons (pg_name (i := 2) sc_look_paces.nd rfl (by first | exact Or.inl rfl | exact Or.inr rfl)) (pgs_cons (pg_name (i := 3) sc_look_paces.nd rfl (by first | exact Or.inl rfl | exact Or.inr rfl)) (pgs_nil)))) (pss_cons (ps_if (pt_not (pt_val (Wf.pe_cal C_is_whole hr (by rfl) (pa_cons (pv 3) (pa_cons (pv 1) (pa_cons (Wf.pe_gi G_MOST_PACE (by rfl)) (pa_nil))))))) (pss_one (Wf.ps_rz2 T_NoBook hr rfl (takes_of rfl rfl rfl rfl) (by rfl) (pa_cons (pe_str) (pa_cons (pv 2) (pa_nil))))) (pss_nil))
          (pss_one (ps_set (i := 1) sc_look_paces.nd rfl (by first | exact Or.inl rfl | exact Or.inr rfl) (pe_op op_add (pv 3) (pe_int))))))))
abbrev s_look_table : Stmt := topS 13
abbrev N_look_table : List Str := ["table", "k", "sorts", "due", "n", "pair"]
theorem sc_look_table : FnScope N_look_table ["table", "k", "sorts"] (defScope s_look_table) := ⟨rfl, rfl, rfl, by decide +kernel, rfl, by decide +kernel, by decide +kernel⟩
theorem ok_look_table (F : FnP K "look_table" s_look_table f fd) (B : Bl mg) (C_is_tuple_of : Cal P w K mg base CX0 1 "is_tuple_of" ["thing", "many"] (sp_istu K)) (C_is_pair : Cal P w K mg base CX0 3 "is_pair" ["thing", "sorts"] (sp_ispr K)) (T_NoBook : Err2 P w K mg base "NoBook" "word" "at" cNoBook) : FnOk P w K mg base (L2.CX P w) 4 f fd ["table", "k", "sorts"] (sp_ltab K cNoBook) := by
  refine F.ok sc_look_table (fun vs H Q E h => ?_) (fun cdv A outer s H vs Q E hr h => ⟨_, ?_, pure_ltab (C := cNoBook) (K := K) vs H Q E h⟩)
  · obtain ⟨_, _, _, _, rfl, _⟩ := h
    rfl
  · exact pss_cons (ps_set (i := 3) sc_look_table.nd rfl (by first | exact Or.inl rfl | exact Or.inr rfl) (pe_op op_mul (pv 2) (pv 2)))
          (pss_cons (ps_if (pt_not (pt_val (Wf.pe_cal C_is_tuple_of hr (by rfl) (pa_cons (pv 0) (pa_cons (pv 3) (pa_nil)))))) (pss_one (Wf.ps_rz2 T_NoBook hr rfl (takes_of rfl rfl rfl rfl) (by rfl) (pa_cons (pe_str) (pa_cons (pv 1) (pa_nil))))) (pss_nil))
          (pss_one (ps_for (passes_of rfl) rfl (pi_enumT (by rfl) B.b_enumerate (pa_cons (pv 0) (pa_nil))) (pg_tup rfl (pgs_cons (pg_name (i := 4) sc_look_table.nd rfl (by first | exact Or.inl rfl | exact Or.inr rfl)) (pgs_cons (pg_name (i := 5) sc_look_table.nd rfl (by first | exact Or.inl rfl | exact Or.inr rfl)) (pgs_nil)))) (pss_one (ps_if (pt_not (pt_val (Wf.pe_cal C_is_pair hr (by rfl) (pa_cons (pv 5) (pa_cons (pv 2) (pa_nil)))))) (pss_one (Wf.ps_rz2 T_NoBook hr rfl (takes_of rfl rfl rfl rfl) (by rfl) (pa_cons (pe_str) (pa_cons (pe_op op_add (pe_op op_mul (pv 1) (pv 3)) (pv 4)) (pa_nil))))) (pss_nil))))))
abbrev s_look_book : Stmt := topS 11
abbrev N_look_book : List Str := ["book", "paces", "sorts", "tables", "k", "table"]
theorem sc_look_book : FnScope N_look_book ["book"] (defScope s_look_book) := ⟨rfl, rfl, rfl, by decide +kernel, rfl, by decide +kernel, by decide +kernel⟩
theorem ok_look_book (F : FnP K "look_book" s_look_book f fd) (B : Bl mg) (C_is_tuple_of : Cal P w K mg base CX0 1 "is_tuple_of" ["thing", "many"] (sp_istu K)) (C_look_paces : Cal P w K mg base (L2.CX P w) 3 "look_paces" ["paces"] (sp_lpac K cNoBook)) (C_is_whole : Cal P w K mg base CX0 2 "is_whole" ["thing", "least", "most"] (sp_iswh K)) (C_tables_due : Cal P w K mg base CX0 1 "tables_due" ["kinds"] sp_tdue) (C_look_table : Cal P w K mg base (L2.CX P w) 4 "look_table" ["table", "k", "sorts"] (sp_ltab K cNoBook)) (G_MOST_SORTS : ∃ t, mg "MOST_SORTS" = some (.int 6 t)) (T_NoBook : Err2 P w K mg base "NoBook" "word" "at" cNoBook) : FnOk P w K mg base (L2.CX P w) 5 f fd ["book"] (sp_look K cNoBook) := by
  refine F.ok sc_look_book (fun vs H Q E h => ?_) (fun cdv A outer s H vs Q E hr h => ⟨_, ?_, pure_look (C := cNoBook) (K := K) vs H Q E h⟩)
  · obtain ⟨_, _, rfl, _⟩ := h
    rfl
  · exact pss_cons (ps_if (pt_not (pt_val (Wf.pe_cal C_is_tuple_of hr (by rfl) (pa_cons (pv 0) (pa_cons (pe_int) (pa_nil)))))) (pss_one (Wf.ps_rz2 T_NoBook hr rfl (takes_of rfl rfl rfl rfl) (by rfl) (pa_cons (pe_str) (pa_cons (pe_int) (pa_nil))))) (pss_nil))
          (pss_cons (ps_asg (pv 0) (pg_tup rfl (pgs_cons (pg_name (i := 1) sc_look_book.nd rfl (by first | exact Or.inl rfl | exact Or.inr rfl)) (pgs_cons (pg_name (i := 2) sc_look_book.nd rfl (by first | exact Or.inl rfl | exact Or.inr rfl)) (pgs_cons (pg_name (i := 3) sc_look_book.nd rfl (by first | exact Or.inl rfl | exact Or.inr rfl)) (pgs_nil))))))
          (pss_cons (ps_expr (Wf.pe_calX C_look_paces hr (takes_of rfl rfl rfl rfl) (fun _ _ _ _ z => z) (by rfl) (pa_cons (pv 1) (pa_nil))))
          (pss_cons (ps_if (pt_not (pt_val (Wf.pe_cal C_is_whole hr (by rfl) (pa_cons (pv 2) (pa_cons (pe_int) (pa_cons (Wf.pe_gi G_MOST_SORTS (by rfl)) (pa_nil))))))) (pss_one (Wf.ps_rz2 T_NoBook hr rfl (takes_of rfl rfl rfl rfl) (by rfl) (pa_cons (pe_str) (pa_cons (pe_int) (pa_nil))))) (pss_nil))
          (pss_cons (ps_if (pt_not (pt_val (Wf.pe_cal C_is_tuple_of hr (by rfl) (pa_cons (pv 3) (pa_cons (Wf.pe_cal C_tables_due hr (by rfl) (pa_cons (pe_callB call_len (by rfl) B.b_len (by decide +kernel) (pa_cons (pv 1) (pa_nil))) (pa_nil))) (pa_nil)))))) (pss_one (Wf.ps_rz2 T_NoBook hr rfl (takes_of rfl rfl rfl rfl) (by rfl) (pa_cons (pe_str) (pa_cons (pe_int) (pa_nil))))) (pss_nil))
          (pss_cons (ps_for (passes_of rfl) rfl (pi_enumT (by rfl) B.b_enumerate (pa_cons (pv 3) (pa_nil))) (pg_tup rfl (pgs_cons (pg_name (i := 4) sc_look_book.nd rfl (by first | exact Or.inl rfl | exact Or.inr rfl)) (pgs_cons (pg_name (i := 5) sc_look_book.nd rfl (by first | exact Or.inl rfl | exact Or.inr rfl)) (pgs_nil)))) (pss_one (ps_expr (Wf.pe_calX C_look_table hr (takes_of rfl rfl rfl rfl) (fun _ _ _ _ z => z) (by rfl) (pa_cons (pv 5) (pa_cons (pv 4) (pa_cons (pv 2) (pa_nil))))))))
          (pss_one (ps_ret (pe_bl))))))))
def nmL : Nat → Nat → Str := fun l _ => if l = 62 then "folding.<locals>.<lambda>" else if l = 60 then "sorting.<locals>.<lambda>" else if l = 58 then "staying.<locals>.<lambda>" else if l = 56 then "keeping.<locals>.<lambda>" else "turned_table.<locals>.<lambda>"
def tabT (K : PySem.W.Frag) : List NTab := [((He.cT K ("keeping", none)).2, nmL), ((He.cT K ("staying", none)).2, nmL), ((He.cT K ("sorting", none)).2, nmL), ((He.cT K ("folding", none)).2, nmL), ((He.cT K ("turned_table", none)).2, nmL)]
theorem un_tabT (K : PySem.W.Frag) (P : Addr) : ∀ p ∈ tabT K, p.1 = P → p.2 = nmL := fun p hp _ => by
  simp only [tabT, List.mem_cons, List.not_mem_nil, or_false] at hp
  rcases hp with rfl | rfl | rfl | rfl | rfl <;> rfl
theorem tabs0 {K : PySem.W.Frag} {H : Hp} (h : ∀ p ∈ [(("keeping" : Str), (none : Option Str)), (("staying" : Str), (none : Option Str)), (("sorting" : Str), (none : Option Str)), (("folding" : Str), (none : Option Str)), (("turned_table" : Str), (none : Option Str))].map (He.cT K), H p.2 = some (.tbl #[])) : TabsN (tabT K) H := fun p hp => by
  simp only [tabT, List.mem_cons, List.not_mem_nil, or_false] at hp
  rcases hp with rfl | rfl | rfl | rfl | rfl
  · exact TabN.nil (h _ (by repeat (first | exact List.mem_cons_self | refine List.mem_cons_of_mem _ ?_)))
  · exact TabN.nil (h _ (by repeat (first | exact List.mem_cons_self | refine List.mem_cons_of_mem _ ?_)))
  · exact TabN.nil (h _ (by repeat (first | exact List.mem_cons_self | refine List.mem_cons_of_mem _ ?_)))
  · exact TabN.nil (h _ (by repeat (first | exact List.mem_cons_self | refine List.mem_cons_of_mem _ ?_)))
  · exact TabN.nil (h _ (by repeat (first | exact List.mem_cons_self | refine List.mem_cons_of_mem _ ?_)))
abbrev s_made : Stmt := topS 22
abbrev N_made : List Str := ["sorts", "pair_of", "a", "b"]
theorem sc_made : FnScope N_made ["sorts", "pair_of"] (defScope s_made) := ⟨rfl, rfl, rfl, by decide +kernel, rfl, by decide +kernel, by decide +kernel⟩
theorem ok_made (F : FnP K "made_table" s_made f fd) (B : Bl mg) : FnOk P w K mg base CX0 2 f fd ["sorts", "pair_of"] (sp_madeL P w K mg base) := by
  refine F.ok sc_made (fun vs H Q E h => ?_) (fun cdv A outer s H vs Q E hr h => ⟨_, PSs.nox ?_, pure_madeL vs H Q E h⟩)
  · obtain ⟨_, _, _, rfl, _⟩ := h
    rfl
  · exact pss_one (ps_ret (pe_callTy call_tuple_of (by rfl) B.b_tuple (by decide +kernel) (pa_cons (pe_lc2 (own := [("a", 2), ("b", 3)]) (vs1 := [3]) rfl sc_made.nd (pi_range1 (by rfl) B.b_range (pa_cons (pv 0) (pa_nil))) (blkOk_by (N := N_made) (sc := defScope s_made) (by decide +kernel)) (by decide)
          (fun _ _ _ _ _ => pg_name (i := 2) sc_made.nd rfl (by first | exact Or.inl rfl | exact Or.inr rfl)) (fun _ _ _ _ _ => pts_nil) (fun _ _ _ _ _ => pi_range1 (by rfl) B.b_range (pa_cons (pv 0) (pa_nil))) (fun _ _ _ _ _ => pg_name (i := 3) sc_made.nd rfl (by first | exact Or.inl rfl | exact Or.inr rfl)) (fun _ _ _ _ _ => pts_nil)
          (fun _ _ _ _ _ => pe_callG (i := 1) hr (by decide) rfl (by first | exact Or.inl rfl | exact Or.inr (Or.inl rfl) | exact Or.inr (Or.inr rfl)) (pa_cons (pv 2) (pa_cons (pv 3) (pa_nil))))) (pa_nil))))
abbrev s_alike_book : Stmt := topS 21
abbrev N_alike_book : List Str := ["paces", "sorts", "pair_of", "table"]
theorem sc_alike_book : FnScope N_alike_book ["paces", "sorts", "pair_of"] (defScope s_alike_book) := ⟨rfl, rfl, rfl, by decide +kernel, rfl, by decide +kernel, by decide +kernel⟩
theorem ok_alike_book (F : FnP K "alike_book" s_alike_book f fd) (B : Bl mg) (C_made_table : Cal P w K mg base CX0 2 "made_table" ["sorts", "pair_of"] (sp_madeL P w K mg base)) (C_tables_due : Cal P w K mg base CX0 1 "tables_due" ["kinds"] sp_tdue) : FnOk P w K mg base CX0 3 f fd ["paces", "sorts", "pair_of"] (sp_alikeL P w K mg base) := by
  refine F.ok sc_alike_book (fun vs H Q E h => ?_) (fun cdv A outer s H vs Q E hr h => ⟨_, PSs.nox ?_, pure_alikeL vs H Q E h⟩)
  · obtain ⟨_, _, _, _, _, rfl, _⟩ := h
    rfl
  · exact pss_cons (ps_set (i := 3) sc_alike_book.nd rfl (by first | exact Or.inl rfl | exact Or.inr rfl) (Wf.pe_cal C_made_table hr (by rfl) (pa_cons (pv 1) (pa_cons (pv 2) (pa_nil)))))
          (pss_one (ps_ret (pe_tup (pa_cons (pv 0) (pa_cons (pv 1) (pa_cons (pe_op op_repA (pe_tup (pa_cons (pv 3) (pa_nil))) (Wf.pe_cal C_tables_due hr (by rfl) (pa_cons (pe_callB call_len (by rfl) B.b_len (by decide +kernel) (pa_cons (pv 0) (pa_nil))) (pa_nil)))) (pa_nil)))))))
abbrev s_turned_table : Stmt := topS 23
abbrev N_turned_table : List Str := ["sorts", "d", "e"]
theorem sc_turned_table : FnScope N_turned_table ["sorts", "d", "e"] (defScope s_turned_table) := ⟨rfl, rfl, rfl, by decide +kernel, rfl, by decide +kernel, by decide +kernel⟩
abbrev lam_turned_table : Expr := lamIn1 s_turned_table
theorem ok_turned_table {c Pt : Addr} (F : FnP K "turned_table" s_turned_table f fd) (B : Bl mg) (hc : fd.code = .ref c) (TB : TabB base mg c Pt) (mem : (Pt, nmL) ∈ T) (un : ∀ p ∈ T, p.1 = Pt → p.2 = nmL) (C_al : ∀ base' : Heap, Cal P w K mg base' CX0 2 "made_table" ["sorts", "pair_of"] (sp_madeL P w K mg base')) : FnOk P w K mg base CX0 3 f fd ["sorts", "d", "e"] (LSp K T psp_turned) := by
  refine okC F hc sc_turned_table (fun vs H Q E h => ?_) (fun A outer s H vs Q E hr h => ⟨_, PSs.nox ?_, pure_turned (X := cxOf CX0 P w K mg base N_turned_table "turned_table" (defScope s_turned_table) f (.ref c) A outer s H E) (T := T) (prm := lamA lam_turned_table) (bd := lamB lam_turned_table) (sc := lamS lam_turned_table) (fr := ["e", "sorts", "d"]) (js := [2, 0, 1]) (NL := ["a", "b", "e", "sorts", "d"]) (tL := tTurn) (nscope_by (by decide +kernel)) (fun pm ctv d u v => rfl) (fun base' f d A outer s H => pe_tup (pa_cons (pe_op op_mod (pe_op op_add (pv 1) (pv 2)) (pv 3)) (pa_cons (pe_op op_mod (pe_op op_add (pv 0) (pv 4)) (pv 3)) pa_nil))) (fun n a b d e H1 Q n1 n6 ha hb q => do_turn n1 n6 ha hb q) vs H Q E h⟩)
  · obtain ⟨_, _, as, _, _, rep, _, ⟨_, _, _, rfl, _⟩, _⟩ := h
    have := rep.len
    rw [List.length_map] at this
    exact this
  · exact pss_one (ps_ret (pe_mk (js := [2, 0, 1]) (fr := ["e", "sorts", "d"]) C_al hr (fun ok => Caps.made (js := [2, 0, 1]) ok (ndef_free (sc := defScope s_turned_table) (nsc := lamS lam_turned_table) (fr := ["e", "sorts", "d"]) (by decide +kernel)) (ndef_fr (sc := defScope s_turned_table) (nsc := lamS lam_turned_table) (fr := ["e", "sorts", "d"]) (by decide +kernel)) rfl) rfl rfl (fun _ => rfl) (by rfl) (pa_cons (pv 0) (pa_cons (pe_lamV TB rfl mem (by rfl) un rfl (fun ok y hy e => (ndef_free (sc := defScope s_turned_table) (nsc := lamS lam_turned_table) (fr := ["e", "sorts", "d"]) (by decide +kernel) y hy e).elim (fun z => ok.has _ (.inl z)) fun z => ok.has _ (.inr z))) pa_nil))))
abbrev s_keeping : Stmt := topS 16
abbrev N_keeping : List Str := ["paces", "sorts"]
theorem sc_keeping : FnScope N_keeping ["paces", "sorts"] (defScope s_keeping) := ⟨rfl, rfl, rfl, by decide +kernel, rfl, by decide +kernel, by decide +kernel⟩
abbrev lam_keeping : Expr := lamIn s_keeping
theorem ok_keeping {c Pt : Addr} (F : FunD K "keeping" "keeping" (defArgs s_keeping) (defBody s_keeping) (defScope s_keeping) [] [] f fd) (B : Bl mg) (hc : fd.code = .ref c) (TB : TabB base mg c Pt) (mem : (Pt, nmL) ∈ T) (un : ∀ p ∈ T, p.1 = Pt → p.2 = nmL) (C_al : ∀ base' : Heap, Cal P w K mg base' CX0 3 "alike_book" ["paces", "sorts", "pair_of"] (sp_alikeL P w K mg base')) : FnOk P w K mg base CX0 4 f fd ["paces", "sorts"] (LSp K T (psp_alb gKeep)) := by
  refine okC F hc sc_keeping (fun vs H Q E h => ?_) (fun A outer s H vs Q E hr h => ⟨_, PSs.nox ?_, pure_alb (X := cxOf CX0 P w K mg base N_keeping "keeping" (defScope s_keeping) f (.ref c) A outer s H E) (T := T) (prm := lamA lam_keeping) (bd := lamB lam_keeping) (sc := lamS lam_keeping) (fr := []) (js := []) (NL := ["a", "b"]) (tL := tKeep) (nscope_by (by decide +kernel)) (fun pm ctv d u v => rfl) (fun base' f d A outer s H => pe_tup (pa_cons (pv 1) (pa_cons (pv 0) pa_nil))) (fun pv n a b H1 Q n1 n6 ha hb q => do_keep n1 n6 ha hb q) vs H Q E h⟩)
  · obtain ⟨_, _, as, _, _, rep, _, ⟨_, _, rfl, _⟩, _⟩ := h
    have := rep.len
    rw [List.length_map] at this
    exact this
  · exact pss_one (ps_ret (pe_mk (js := []) (fr := []) C_al hr (fun ok => Caps.made (js := []) ok (ndef_free (sc := defScope s_keeping) (nsc := lamS lam_keeping) (fr := []) (by decide +kernel)) (ndef_fr (sc := defScope s_keeping) (nsc := lamS lam_keeping) (fr := []) (by decide +kernel)) rfl) rfl rfl (fun _ => rfl) (by rfl) (pa_cons (pv 0) <| pa_cons (pv 1) (pa_cons (pe_lamV TB rfl mem (by rfl) un rfl (fun ok y hy e => (ndef_free (sc := defScope s_keeping) (nsc := lamS lam_keeping) (fr := []) (by decide +kernel) y hy e).elim (fun z => ok.has _ (.inl z)) fun z => ok.has _ (.inr z))) pa_nil))))
abbrev s_staying : Stmt := topS 17
abbrev N_staying : List Str := ["paces", "sorts"]
theorem sc_staying : FnScope N_staying ["paces", "sorts"] (defScope s_staying) := ⟨rfl, rfl, rfl, by decide +kernel, rfl, by decide +kernel, by decide +kernel⟩
abbrev lam_staying : Expr := lamIn s_staying
theorem ok_staying {c Pt : Addr} (F : FunD K "staying" "staying" (defArgs s_staying) (defBody s_staying) (defScope s_staying) [] [] f fd) (B : Bl mg) (hc : fd.code = .ref c) (TB : TabB base mg c Pt) (mem : (Pt, nmL) ∈ T) (un : ∀ p ∈ T, p.1 = Pt → p.2 = nmL) (C_al : ∀ base' : Heap, Cal P w K mg base' CX0 3 "alike_book" ["paces", "sorts", "pair_of"] (sp_alikeL P w K mg base')) : FnOk P w K mg base CX0 4 f fd ["paces", "sorts"] (LSp K T (psp_alb gStay)) := by
  refine okC F hc sc_staying (fun vs H Q E h => ?_) (fun A outer s H vs Q E hr h => ⟨_, PSs.nox ?_, pure_alb (X := cxOf CX0 P w K mg base N_staying "staying" (defScope s_staying) f (.ref c) A outer s H E) (T := T) (prm := lamA lam_staying) (bd := lamB lam_staying) (sc := lamS lam_staying) (fr := []) (js := []) (NL := ["a", "b"]) (tL := tStay) (nscope_by (by decide +kernel)) (fun pm ctv d u v => rfl) (fun base' f d A outer s H => pe_tup (pa_cons (pv 0) (pa_cons (pv 1) pa_nil))) (fun pv n a b H1 Q n1 n6 ha hb q => do_stay n1 n6 ha hb q) vs H Q E h⟩)
  · obtain ⟨_, _, as, _, _, rep, _, ⟨_, _, rfl, _⟩, _⟩ := h
    have := rep.len
    rw [List.length_map] at this
    exact this
  · exact pss_one (ps_ret (pe_mk (js := []) (fr := []) C_al hr (fun ok => Caps.made (js := []) ok (ndef_free (sc := defScope s_staying) (nsc := lamS lam_staying) (fr := []) (by decide +kernel)) (ndef_fr (sc := defScope s_staying) (nsc := lamS lam_staying) (fr := []) (by decide +kernel)) rfl) rfl rfl (fun _ => rfl) (by rfl) (pa_cons (pv 0) <| pa_cons (pv 1) (pa_cons (pe_lamV TB rfl mem (by rfl) un rfl (fun ok y hy e => (ndef_free (sc := defScope s_staying) (nsc := lamS lam_staying) (fr := []) (by decide +kernel) y hy e).elim (fun z => ok.has _ (.inl z)) fun z => ok.has _ (.inr z))) pa_nil))))
abbrev s_sorting : Stmt := topS 18
abbrev N_sorting : List Str := ["paces", "sorts"]
theorem sc_sorting : FnScope N_sorting ["paces", "sorts"] (defScope s_sorting) := ⟨rfl, rfl, rfl, by decide +kernel, rfl, by decide +kernel, by decide +kernel⟩
abbrev lam_sorting : Expr := lamIn s_sorting
theorem ok_sorting {c Pt : Addr} (F : FunD K "sorting" "sorting" (defArgs s_sorting) (defBody s_sorting) (defScope s_sorting) [] [] f fd) (B : Bl mg) (hc : fd.code = .ref c) (TB : TabB base mg c Pt) (mem : (Pt, nmL) ∈ T) (un : ∀ p ∈ T, p.1 = Pt → p.2 = nmL) (C_al : ∀ base' : Heap, Cal P w K mg base' CX0 3 "alike_book" ["paces", "sorts", "pair_of"] (sp_alikeL P w K mg base')) : FnOk P w K mg base CX0 4 f fd ["paces", "sorts"] (LSp K T (psp_alb gSort)) := by
  refine okC F hc sc_sorting (fun vs H Q E h => ?_) (fun A outer s H vs Q E hr h => ⟨_, PSs.nox ?_, pure_alb (X := cxOf CX0 P w K mg base N_sorting "sorting" (defScope s_sorting) f (.ref c) A outer s H E) (T := T) (prm := lamA lam_sorting) (bd := lamB lam_sorting) (sc := lamS lam_sorting) (fr := []) (js := []) (NL := ["a", "b"]) (tL := tSort) (nscope_by (by decide +kernel)) (fun pm ctv d u v => rfl) (fun base' f d A outer s H => pe_tup (pa_cons (pe_callB (call_min2 rfl) (by rfl) B.b_min (by decide +kernel) (pa_cons (pv 0) (pa_cons (pv 1) (pa_nil)))) (pa_cons (pe_callB (call_max2 rfl) (by rfl) B.b_max (by decide +kernel) (pa_cons (pv 0) (pa_cons (pv 1) (pa_nil)))) pa_nil))) (fun pv n a b H1 Q n1 n6 ha hb q => do_sort n1 n6 ha hb q) vs H Q E h⟩)
  · obtain ⟨_, _, as, _, _, rep, _, ⟨_, _, rfl, _⟩, _⟩ := h
    have := rep.len
    rw [List.length_map] at this
    exact this
  · exact pss_one (ps_ret (pe_mk (js := []) (fr := []) C_al hr (fun ok => Caps.made (js := []) ok (ndef_free (sc := defScope s_sorting) (nsc := lamS lam_sorting) (fr := []) (by decide +kernel)) (ndef_fr (sc := defScope s_sorting) (nsc := lamS lam_sorting) (fr := []) (by decide +kernel)) rfl) rfl rfl (fun _ => rfl) (by rfl) (pa_cons (pv 0) <| pa_cons (pv 1) (pa_cons (pe_lamV TB rfl mem (by rfl) un rfl (fun ok y hy e => (ndef_free (sc := defScope s_sorting) (nsc := lamS lam_sorting) (fr := []) (by decide +kernel) y hy e).elim (fun z => ok.has _ (.inl z)) fun z => ok.has _ (.inr z))) pa_nil))))
abbrev s_folding : Stmt := topS 19
abbrev N_folding : List Str := ["paces", "sorts"]
theorem sc_folding : FnScope N_folding ["paces", "sorts"] (defScope s_folding) := ⟨rfl, rfl, rfl, by decide +kernel, rfl, by decide +kernel, by decide +kernel⟩
abbrev lam_folding : Expr := lamIn s_folding
theorem ok_folding {c Pt : Addr} (F : FunD K "folding" "folding" (defArgs s_folding) (defBody s_folding) (defScope s_folding) [] [] f fd) (B : Bl mg) (hc : fd.code = .ref c) (TB : TabB base mg c Pt) (mem : (Pt, nmL) ∈ T) (un : ∀ p ∈ T, p.1 = Pt → p.2 = nmL) (C_al : ∀ base' : Heap, Cal P w K mg base' CX0 3 "alike_book" ["paces", "sorts", "pair_of"] (sp_alikeL P w K mg base')) : FnOk P w K mg base CX0 4 f fd ["paces", "sorts"] (LSp K T (psp_alb gFold)) := by
  refine okC F hc sc_folding (fun vs H Q E h => ?_) (fun A outer s H vs Q E hr h => ⟨_, PSs.nox ?_, pure_alb (X := cxOf CX0 P w K mg base N_folding "folding" (defScope s_folding) f (.ref c) A outer s H E) (T := T) (prm := lamA lam_folding) (bd := lamB lam_folding) (sc := lamS lam_folding) (fr := ["sorts"]) (js := [1]) (NL := ["a", "b", "sorts"]) (tL := tFold) (nscope_by (by decide +kernel)) (fun pm ctv d u v => rfl) (fun base' f d A outer s H => pe_tup (pa_cons (pv 1) (pa_cons (pe_op op_mod (pe_op op_sub (pe_op op_mul (pe_int) (pv 1)) (pv 0)) (pv 2)) pa_nil))) (fun pv n a b H1 Q n1 n6 ha hb q => do_fold n1 n6 ha hb q) vs H Q E h⟩)
  · obtain ⟨_, _, as, _, _, rep, _, ⟨_, _, rfl, _⟩, _⟩ := h
    have := rep.len
    rw [List.length_map] at this
    exact this
  · exact pss_one (ps_ret (pe_mk (js := [1]) (fr := ["sorts"]) C_al hr (fun ok => Caps.made (js := [1]) ok (ndef_free (sc := defScope s_folding) (nsc := lamS lam_folding) (fr := ["sorts"]) (by decide +kernel)) (ndef_fr (sc := defScope s_folding) (nsc := lamS lam_folding) (fr := ["sorts"]) (by decide +kernel)) rfl) rfl rfl (fun _ => rfl) (by rfl) (pa_cons (pv 0) <| pa_cons (pv 1) (pa_cons (pe_lamV TB rfl mem (by rfl) un rfl (fun ok y hy e => (ndef_free (sc := defScope s_folding) (nsc := lamS lam_folding) (fr := ["sorts"]) (by decide +kernel) y hy e).elim (fun z => ok.has _ (.inl z)) fun z => ok.has _ (.inr z))) pa_nil))))
abbrev s_turning : Stmt := topS 20
abbrev N_turning : List Str := ["paces", "steps", "sorts", "d", "e"]
theorem sc_turning : FnScope N_turning ["paces", "steps", "sorts"] (defScope s_turning) := ⟨rfl, rfl, rfl, by decide +kernel, rfl, by decide +kernel, by decide +kernel⟩
theorem ok_turning (F : FunD K "turning" "turning" (defArgs s_turning) (defBody s_turning) (defScope s_turning) [] [] f fd) (B : Bl mg) (C_turned_table : Cal P w K mg base CX0 3 "turned_table" ["sorts", "d", "e"] (LSp K T psp_turned)) : FnOk P w K mg base CX0 4 f fd ["paces", "steps", "sorts"] (LSp K T psp_turning) := by
  refine fn_ok (p := fun _ => p_turning) F sc_turning rfl rfl (by decide) (fun as Qp Ep h => by obtain ⟨_, _, _, rfl, _⟩ := h; rfl) (fun cdv A outer s H E Bh Bt Ep hr hx => JSs.nox ?_) hp_turning
  exact jss_one (js_ret (je_tup (ja_cons (jv 0) (ja_cons (jv 2) (ja_cons (je_ct call_tuple_of lc_tupleOf (by rfl) B.b_tuple (by decide +kernel) (ja_cons (je_lc (own := [("d", 3), ("e", 4)]) rfl sc_turning.nd (ji_seq (jv 1)) (blkOk_by (N := N_turning) (sc := defScope s_turning) (by decide +kernel)) (fun _ _ _ _ _ => jg_tup rfl (jgs_cons (jg_name (i := 3) sc_turning.nd rfl (by first | exact Or.inl rfl | exact Or.inr rfl)) (jgs_cons (jg_name (i := 4) sc_turning.nd rfl (by first | exact Or.inl rfl | exact Or.inr rfl)) (jgs_nil)))) (fun _ _ _ _ _ => jts_nil) (fun _ _ _ _ _ => je_cal C_turned_table hr (by rfl) (ja_cons (je_fz (jv 2)) (ja_cons (je_fz (jv 3)) (ja_cons (je_fz (jv 4)) (ja_nil)))))) (ja_nil))) (ja_nil))))))
abbrev s_ldue04 : Stmt := topS 29
abbrev N_ldue04 : List Str := ["_law_paces_here", "_law_steps", "_law_size", "_law_form", "_law_tables", "_law_d", "_law_e", "_law_pairs", "_law_n", "_law_a", "_law_b"]
theorem sc_ldue04 : FnScope N_ldue04 ["_law_paces_here", "_law_steps", "_law_size", "_law_form"] (defScope s_ldue04) := ⟨rfl, rfl, rfl, by decide +kernel, rfl, by decide +kernel, by decide +kernel⟩
theorem ok_ldue04 (F : FnP K "_law_due" s_ldue04 f fd) (B : Bl mg)  : FnOk P w K mg base CX0 1 f fd ["_law_paces_here", "_law_steps", "_law_size", "_law_form"] (LSp K T psp_ldue04) := by
  refine fn_ok (p := fun _ => p_ldue04) F sc_ldue04 rfl rfl (by decide) (fun as Qp Ep h => by obtain ⟨_, _, _, _, rfl, _⟩ := h; rfl) (fun cdv A outer s H E Bh Bt Ep hr hx => JSs.nox ?_) hp_ldue04
  exact jss_cons (js_set (i := 4) sc_ldue04.nd rfl (by first | exact Or.inl rfl | exact Or.inr rfl) (je_lst (ja_nil)))
    (jss_cons (js_for PassesOwn.never rfl (ji_seq (jv 1)) (jg_tup rfl (jgs_cons (jg_name (i := 5) sc_ldue04.nd rfl (by first | exact Or.inl rfl | exact Or.inr rfl)) (jgs_cons (jg_name (i := 6) sc_ldue04.nd rfl (by first | exact Or.inl rfl | exact Or.inr rfl)) (jgs_nil)))) (jss_cons (js_set (i := 7) sc_ldue04.nd rfl (by first | exact Or.inl rfl | exact Or.inr rfl) (je_lst (ja_nil)))
    (jss_cons (js_for PassesOwn.never rfl (ji_rng1 (by rfl) B.b_range (ja_cons (je_mul (jv 2) (jv 2)) (ja_nil))) (jg_name (i := 8) sc_ldue04.nd rfl (by first | exact Or.inl rfl | exact Or.inr rfl)) (jss_cons (js_par2 rfl sc_ldue04.nd rfl rfl (by decide) rfl rfl (ja_cons (je_fdiv (jv 8) (jv 2)) (ja_cons (je_mod (jv 8) (jv 2)) (ja_nil))) (by rfl))
    (jss_one (js_if (jw_pt (jw_and (jb_eq hr (jv 3) (je_int)) (jw_and1 (jb_gt (jv 9) (jv 10))))) (jss_one (js_expr (je_mt PySem.F.plainAttrs_list PySem.F.slot_list_append PySem.F.type_list_append mt_append mv_append (jv 7) (ja_cons (je_tup (ja_cons (jv 10) (ja_cons (jv 9) (ja_nil)))) (ja_nil))))) (jss_one (js_if (jw_pt (jw_or (jb_eq hr (jv 3) (je_int)) (jw_or1 (jb_eq hr (jv 3) (je_int))))) (jss_one (js_expr (je_mt PySem.F.plainAttrs_list PySem.F.slot_list_append PySem.F.type_list_append mt_append mv_append (jv 7) (ja_cons (je_tup (ja_cons (jv 9) (ja_cons (jv 10) (ja_nil)))) (ja_nil))))) (jss_one (js_if (jb_eq hr (jv 3) (je_int)) (jss_one (js_expr (je_mt PySem.F.plainAttrs_list PySem.F.slot_list_append PySem.F.type_list_append mt_append mv_append (jv 7) (ja_cons (je_tup (ja_cons (jv 10) (ja_cons (je_mod (je_sub (je_add (je_add (jv 10) (jv 10)) (jv 2)) (jv 9)) (jv 2)) (ja_nil)))) (ja_nil))))) (jss_one (js_if (jb_eq hr (jv 3) (je_int)) (jss_one (js_expr (je_mt PySem.F.plainAttrs_list PySem.F.slot_list_append PySem.F.type_list_append mt_append mv_append (jv 7) (ja_cons (je_tup (ja_cons (je_mod (je_add (je_add (jv 10) (jv 6)) (je_mul (je_int) (jv 2))) (jv 2)) (ja_cons (je_mod (je_add (je_add (jv 9) (jv 5)) (je_mul (je_int) (jv 2))) (jv 2)) (ja_nil)))) (ja_nil))))) (jss_one (js_expr (je_mt PySem.F.plainAttrs_list PySem.F.slot_list_append PySem.F.type_list_append mt_append mv_append (jv 7) (ja_cons (je_tup (ja_cons (jv 10) (ja_cons (jv 9) (ja_nil)))) (ja_nil)))))))))))))))
    (jss_one (js_expr (je_mt PySem.F.plainAttrs_list PySem.F.slot_list_append PySem.F.type_list_append mt_append mv_append (jv 4) (ja_cons (je_ct call_tuple_of lc_tupleOf (by rfl) B.b_tuple (by decide +kernel) (ja_cons (jv 7) (ja_nil))) (ja_nil))))))))
    (jss_one (js_ret (je_tup (ja_cons (jv 0) (ja_cons (jv 2) (ja_cons (je_ct call_tuple_of lc_tupleOf (by rfl) B.b_tuple (by decide +kernel) (ja_cons (jv 4) (ja_nil))) (ja_nil))))))))
abbrev s_law04 : Stmt := topS 30
abbrev N_law04 : List Str := ["_law_script", "_law_deal_here", "_law_k", "_law_turn", "_law_many", "_law_size", "_law_paces_here", "_law_steps", "_law_wide", "_law_told", "_law_found", "_law_form", "_law_book"]
theorem sc_law04 : FnScope N_law04 ["_law_script"] (defScope s_law04) := ⟨rfl, rfl, rfl, by decide +kernel, rfl, by decide +kernel, by decide +kernel⟩
theorem ok_law04 (F : FnP K "law" s_law04 f fd) (B : Bl mg) (C_deal : Cal P w K mg base CX0 1 "_law_deal" ["_law_script", "_law_base"] (LSp K T psp_deal)) (C_draw : Cal P w K mg base CX0 1 "_law_draw" ["_law_deal_here", "_law_many"] (LSp K T psp_draw)) (C_paces : Cal P w K mg base CX0 2 "_law_paces" ["_law_deal_here", "_law_many"] (LSp K T psp_paces04)) (CK_sorting : CalK P w K mg base CX0 4 "sorting" ["paces", "sorts"] 1 ["sorts"] (LSp K T (psp_alb gSort))) (CK_staying : CalK P w K mg base CX0 4 "staying" ["paces", "sorts"] 1 ["sorts"] (LSp K T (psp_alb gStay))) (CK_keeping : CalK P w K mg base CX0 4 "keeping" ["paces", "sorts"] 1 ["sorts"] (LSp K T (psp_alb gKeep))) (CK_turning : CalK P w K mg base CX0 4 "turning" ["paces", "steps", "sorts"] 2 ["sorts"] (LSp K T psp_turning)) (CK_folding : CalK P w K mg base CX0 4 "folding" ["paces", "sorts"] 1 ["sorts"] (LSp K T (psp_alb gFold))) (C_alike : Cal P w K mg base CX0 1 "_law_alike" ["_law_found", "_law_due_here"] (LSp K T psp_alike)) (C_ldue04 : Cal P w K mg base CX0 1 "_law_due" ["_law_paces_here", "_law_steps", "_law_size", "_law_form"] (LSp K T psp_ldue04)) (C_look_book : Cal P w K mg base (L2.CX P w) 5 "look_book" ["book"] (LSp K T (psp_look_book cNoBook))) : FnOk P w K mg base CX0 6 f fd ["_law_script"] (LSp K T psp_law) := by
  refine fn_ok (p := fun _ => p_law04 cNoBook) F sc_law04 rfl rfl (by decide) (fun as Qp Ep h => by obtain ⟨_, rfl, _⟩ := h; rfl) (fun cdv A outer s H E Bh Bt Ep hr hx => JSs.nox ?_) (hp_law04 cNoBook)
  exact jss_cons (js_set (i := 1) sc_law04.nd rfl (by first | exact Or.inl rfl | exact Or.inr rfl) (je_cal C_deal hr (by rfl) (ja_cons (jv 0) (ja_cons (je_fz (je_int)) (ja_nil)))))
    (jss_cons (js_par2 rfl sc_law04.nd rfl rfl (by decide) rfl rfl (ja_cons (je_add (je_int) (je_cal C_draw hr (by rfl) (ja_cons (jv 1) (ja_cons (je_fz (je_int)) (ja_nil))))) (ja_cons (je_add (je_int) (je_cal C_draw hr (by rfl) (ja_cons (jv 1) (ja_cons (je_fz (je_int)) (ja_nil))))) (ja_nil))) (by rfl))
    (jss_cons (js_par2 rfl sc_law04.nd rfl rfl (by decide) rfl rfl (ja_cons (je_cal C_paces hr (by rfl) (ja_cons (jv 1) (ja_cons (je_fz (jv 4)) (ja_nil)))) (ja_cons (je_lst (ja_nil)) (ja_nil))) (by rfl))
    (jss_cons (js_for PassesOwn.never rfl (ji_rng1 (by rfl) B.b_range (ja_cons (je_fdiv (je_mul (jv 4) (je_sub (jv 4) (je_int))) (je_int)) (ja_nil))) (jg_name (i := 2) sc_law04.nd rfl (by first | exact Or.inl rfl | exact Or.inr rfl)) (jss_cons (js_set (i := 8) sc_law04.nd rfl (by first | exact Or.inl rfl | exact Or.inr rfl) (je_ix (je_lst (ja_cons (jv 5) (ja_cons (je_int) (ja_nil)))) (je_cal C_draw hr (by rfl) (ja_cons (jv 1) (ja_cons (je_fz (je_int)) (ja_nil)))) (fun _ _ => rfl)))
    (jss_one (js_expr (je_mt PySem.F.plainAttrs_list PySem.F.slot_list_append PySem.F.type_list_append mt_append mv_append (jv 7) (ja_cons (je_tup (ja_cons (je_sub (je_cal C_draw hr (by rfl) (ja_cons (jv 1) (ja_cons (je_fz (je_add (je_mul (je_int) (jv 8)) (je_int))) (ja_nil)))) (jv 8)) (ja_cons (je_sub (je_cal C_draw hr (by rfl) (ja_cons (jv 1) (ja_cons (je_fz (je_add (je_mul (je_int) (jv 8)) (je_int))) (ja_nil)))) (jv 8)) (ja_nil)))) (ja_nil)))))))
    (jss_cons (js_par2 rfl sc_law04.nd rfl rfl (by decide) rfl rfl (ja_cons (je_ct call_tuple_of lc_tupleOf (by rfl) B.b_tuple (by decide +kernel) (ja_cons (jv 7) (ja_nil))) (ja_cons (je_lst (ja_nil)) (ja_nil))) (by rfl))
    (jss_cons (js_for PassesOwn.never rfl (ji_rng1 (by rfl) B.b_range (ja_cons (je_int) (ja_nil))) (jg_name (i := 3) sc_law04.nd rfl (by first | exact Or.inl rfl | exact Or.inr rfl)) (jss_cons (js_set (i := 10) sc_law04.nd rfl (by first | exact Or.inl rfl | exact Or.inr rfl) (je_lst (ja_cons (je_calK CK_keeping hr (by rfl) (ja_cons (je_fz (jv 6)) (ja_nil)) (jk_cons (je_fz (jv 5)) (jk_nil))) (ja_cons (je_calK CK_staying hr (by rfl) (ja_cons (je_fz (jv 6)) (ja_nil)) (jk_cons (je_fz (jv 5)) (jk_nil))) (ja_cons (je_calK CK_sorting hr (by rfl) (ja_cons (je_fz (jv 6)) (ja_nil)) (jk_cons (je_fz (jv 5)) (jk_nil))) (ja_nil))))))
    (jss_cons (js_set (i := 10) sc_law04.nd rfl (by first | exact Or.inl rfl | exact Or.inr rfl) (je_add (jv 10) (je_lst (ja_cons (je_calK CK_folding hr (by rfl) (ja_cons (je_fz (jv 6)) (ja_nil)) (jk_cons (je_fz (jv 5)) (jk_nil))) (ja_cons (je_calK CK_turning hr (by rfl) (ja_cons (je_fz (jv 6)) (ja_cons (je_fz (jv 9)) (ja_nil))) (jk_cons (je_fz (jv 5)) (jk_nil))) (ja_nil))))))
    (jss_one (js_for PassesOwn.never rfl (ji_enum (by rfl) B.b_enumerate (ja_cons (jv 10) (ja_nil))) (jg_tup rfl (jgs_cons (jg_name (i := 11) sc_law04.nd rfl (by first | exact Or.inl rfl | exact Or.inr rfl)) (jgs_cons (jg_name (i := 12) sc_law04.nd rfl (by first | exact Or.inl rfl | exact Or.inr rfl)) (jgs_nil)))) (jss_one (js_if (jw_pt (jw_or (jb_not (jb_val (je_cal C_alike hr (by rfl) (ja_cons (je_fz (jv 12)) (ja_cons (je_fz (je_cal C_ldue04 hr (by rfl) (ja_cons (je_fz (jv 6)) (ja_cons (je_fz (jv 7)) (ja_cons (je_fz (jv 5)) (ja_cons (je_fz (jv 11)) (ja_nil))))))) (ja_nil)))))) (jw_or1 (jb_isnot (je_calX (Ep := noX) (E := E0) C_look_book hr L2.takes0 (fun _ _ _ _ z => z) xok_no (by rfl) (ja_cons (je_fz (jv 12)) (ja_nil))) (je_bl))))) (jss_one (js_ret (je_bl))) (jss_nil))))))))
    (jss_one (js_ret (je_and (je_eq hr (je_calK CK_turning hr (by rfl) (ja_cons (je_fz (jv 6)) (ja_cons (je_fz (jv 9)) (ja_nil))) (jk_cons (je_fz (jv 5)) (jk_nil))) (je_ix (jv 10) (je_int) (fun _ _ => rfl))) (je_one (je_eq hr (jv 9) (je_ct call_tuple_of lc_tupleOf (by rfl) B.b_tuple (by decide +kernel) (ja_cons (jv 7) (ja_nil)))))))))))))
end
def dd_init_NoBook : He.DefD := ⟨("NoBook", some "__init__"), "__init__", "NoBook.__init__", defArgs s_init_NoBook, defBody s_init_NoBook, defScope s_init_NoBook, [], []⟩
def dd_draw : He.DefD := ⟨("_law_draw", none), "_law_draw", "_law_draw", defArgs s_draw, defBody s_draw, defScope s_draw, [], []⟩
def dd_deal : He.DefD := ⟨("_law_deal", none), "_law_deal", "_law_deal", defArgs s_deal, defBody s_deal, defScope s_deal, [], []⟩
def dd_alike : He.DefD := ⟨("_law_alike", none), "_law_alike", "_law_alike", defArgs s_alike, defBody s_alike, defScope s_alike, [], []⟩
def dd_paces : He.DefD := ⟨("_law_paces", none), "_law_paces", "_law_paces", defArgs s_paces, defBody s_paces, defScope s_paces, [], []⟩
def dd_is_number : He.DefD := ⟨("is_number", none), "is_number", "is_number", defArgs s_is_number, defBody s_is_number, defScope s_is_number, [], []⟩
def dd_is_whole : He.DefD := ⟨("is_whole", none), "is_whole", "is_whole", defArgs s_is_whole, defBody s_is_whole, defScope s_is_whole, [], []⟩
def dd_is_tuple_of : He.DefD := ⟨("is_tuple_of", none), "is_tuple_of", "is_tuple_of", defArgs s_is_tuple_of, defBody s_is_tuple_of, defScope s_is_tuple_of, [], []⟩
def dd_tables_due : He.DefD := ⟨("tables_due", none), "tables_due", "tables_due", defArgs s_tables_due, defBody s_tables_due, defScope s_tables_due, [], []⟩
def dd_is_pair : He.DefD := ⟨("is_pair", none), "is_pair", "is_pair", defArgs s_is_pair, defBody s_is_pair, defScope s_is_pair, [], []⟩
def dd_look_paces : He.DefD := ⟨("look_paces", none), "look_paces", "look_paces", defArgs s_look_paces, defBody s_look_paces, defScope s_look_paces, [], []⟩
def dd_look_table : He.DefD := ⟨("look_table", none), "look_table", "look_table", defArgs s_look_table, defBody s_look_table, defScope s_look_table, [], []⟩
def dd_look_book : He.DefD := ⟨("look_book", none), "look_book", "look_book", defArgs s_look_book, defBody s_look_book, defScope s_look_book, [], []⟩
def dd_made : He.DefD := ⟨("made_table", none), "made_table", "made_table", defArgs s_made, defBody s_made, defScope s_made, [], []⟩
def dd_alike_book : He.DefD := ⟨("alike_book", none), "alike_book", "alike_book", defArgs s_alike_book, defBody s_alike_book, defScope s_alike_book, [], []⟩
def dd_turned_table : He.DefD := ⟨("turned_table", none), "turned_table", "turned_table", defArgs s_turned_table, defBody s_turned_table, defScope s_turned_table, [], []⟩
def dd_keeping : He.DefD := ⟨("keeping", none), "keeping", "keeping", defArgs s_keeping, defBody s_keeping, defScope s_keeping, [], []⟩
def dd_staying : He.DefD := ⟨("staying", none), "staying", "staying", defArgs s_staying, defBody s_staying, defScope s_staying, [], []⟩
def dd_sorting : He.DefD := ⟨("sorting", none), "sorting", "sorting", defArgs s_sorting, defBody s_sorting, defScope s_sorting, [], []⟩
def dd_folding : He.DefD := ⟨("folding", none), "folding", "folding", defArgs s_folding, defBody s_folding, defScope s_folding, [], []⟩
def dd_turning : He.DefD := ⟨("turning", none), "turning", "turning", defArgs s_turning, defBody s_turning, defScope s_turning, [], []⟩
def dd_ldue04 : He.DefD := ⟨("_law_due", none), "_law_due", "_law_due", defArgs s_ldue04, defBody s_ldue04, defScope s_ldue04, [], []⟩
def dd_law04 : He.DefD := ⟨("law", none), "law", "law", defArgs s_law04, defBody s_law04, defScope s_law04, [], []⟩
def fns : List He.DefD := [dd_init_NoBook, dd_draw, dd_deal, dd_alike, dd_paces, dd_is_number, dd_is_whole, dd_is_tuple_of, dd_tables_due, dd_is_pair, dd_look_paces, dd_look_table, dd_look_book, dd_made, dd_alike_book, dd_turned_table, dd_keeping, dd_staying, dd_sorting, dd_folding, dd_turning, dd_ldue04, dd_law04]
def facs : List He.Fa := [.glo "_law_draw", .glo "_law_deal", .glo "_law_alike", .glo "_law_paces", .glo "is_number", .glo "is_whole", .glo "is_tuple_of", .glo "tables_due", .glo "is_pair", .glo "look_paces", .glo "look_table", .glo "look_book", .glo "made_table", .glo "alike_book", .glo "turned_table", .glo "keeping", .glo "staying", .glo "sorting", .glo "folding", .glo "turning", .glo "_law_due", .glo "law", .free "len", .free "list", .free "tuple", .free "reversed", .free "range", .free "max", .free "min", .free "sum", .free "all", .free "any", .free "zip", .free "enumerate", .free "isinstance", .free "int", .free "bool", .free "str", .free "repr", .free "divmod", .free "abs", .free "sorted", .free "set", .free "dict", .free "pow", .free "ValueError", .free "IndexError", .glo "RoadError", .glo "NoBook", .int "MOST_KINDS" 5, .int "MOST_SORTS" 6, .int "MOST_PACE" 1000]
def exB (K : PySem.W.Frag) : Bool := errB K "NoBook" ["word", "at"] && baseB K "RoadError"
abbrev rowR : PySem.W.OpenRow := PySem.W.OpenLaw.row PySem.Challenge.rw_wherefrom_k04_books_made
def tfs : List He.Defn := [("keeping", none), ("staying", none), ("sorting", none), ("folding", none), ("turned_table", none)]
abbrev hk : PySem.W.Hook := Wf.hookV 6 facs fns tfs exB
def obA (s : PySem.W.SharedT) : He.AlD × Bool := Wf.obsV 6 facs fns tfs exB (HandSHeadRun.getT s)
theorem ob_eq (s : PySem.W.SharedT) : obA s = hk.obs s.abs := Wf.obsV_eq (HandSHeadRun.getT_eq s)
abbrev loose0 : List Str := ["RoadError", "NoBook", "MOST_KINDS", "MOST_SORTS", "MOST_PACE", "is_number", "is_whole", "is_tuple_of", "tables_due", "look_book", "look_paces", "look_table", "is_pair", "keeping", "staying", "sorting", "folding", "turning", "alike_book", "made_table", "turned_table", "_law_deal", "_law_draw", "_law_alike"]
abbrev loose1 : List Str := ["_law_paces", "_law_due"]
abbrev looseL : List Str := loose0 ++ loose1
theorem run_eq (w : World) : HandSHeadRun.RunEq rowR (PySem.W.view rowR.prog [30]) hk obA 4800 looseL w := by
  intro os
  kernel_rfl
theorem facts {P : Program} {w : World} {K : PySem.W.Frag} {h : Heap} {mg : Str → Option Value} {f : Addr} (X : K.In h) (G : h.Ns mainGlobals mg) (hfa : mg ("law" : Str) = some (.ref f)) (c : SaysV facs fns tfs exB h K) :
    ∃ fd : FuncData, (∀ (s : Shared) (v : Value), BindsTo s fd ⟨[v], []⟩ [("_law_script", v)]) ∧ ∀ base : Heap, K.In base → base.Ns mainGlobals mg → (∀ p ∈ tfs.map (He.cT K), TabB base mg p.1 p.2) → FnG P w K mg base CX0 6 f fd ["_law_script"] (LSp K (tabT K) psp_law) := by
  have cd := c.d
  have cm := c.more
  obtain ⟨fd_init_NoBook, F_init_NoBook⟩ := cd.def_ 0 (d := dd_init_NoBook) rfl
  obtain ⟨fd_draw, F_draw⟩ := cd.def_ 1 (d := dd_draw) rfl
  have g_draw := He.glo_ok X G (cd.fact 0 (f := .glo "_law_draw") rfl)
  obtain ⟨fd_deal, F_deal⟩ := cd.def_ 2 (d := dd_deal) rfl
  have g_deal := He.glo_ok X G (cd.fact 1 (f := .glo "_law_deal") rfl)
  obtain ⟨fd_alike, F_alike⟩ := cd.def_ 3 (d := dd_alike) rfl
  have g_alike := He.glo_ok X G (cd.fact 2 (f := .glo "_law_alike") rfl)
  obtain ⟨fd_paces, F_paces⟩ := cd.def_ 4 (d := dd_paces) rfl
  have g_paces := He.glo_ok X G (cd.fact 3 (f := .glo "_law_paces") rfl)
  obtain ⟨fd_is_number, F_is_number⟩ := cd.def_ 5 (d := dd_is_number) rfl
  have g_is_number := He.glo_ok X G (cd.fact 4 (f := .glo "is_number") rfl)
  obtain ⟨fd_is_whole, F_is_whole⟩ := cd.def_ 6 (d := dd_is_whole) rfl
  have g_is_whole := He.glo_ok X G (cd.fact 5 (f := .glo "is_whole") rfl)
  obtain ⟨fd_is_tuple_of, F_is_tuple_of⟩ := cd.def_ 7 (d := dd_is_tuple_of) rfl
  have g_is_tuple_of := He.glo_ok X G (cd.fact 6 (f := .glo "is_tuple_of") rfl)
  obtain ⟨fd_tables_due, F_tables_due⟩ := cd.def_ 8 (d := dd_tables_due) rfl
  have g_tables_due := He.glo_ok X G (cd.fact 7 (f := .glo "tables_due") rfl)
  obtain ⟨fd_is_pair, F_is_pair⟩ := cd.def_ 9 (d := dd_is_pair) rfl
  have g_is_pair := He.glo_ok X G (cd.fact 8 (f := .glo "is_pair") rfl)
  obtain ⟨fd_look_paces, F_look_paces⟩ := cd.def_ 10 (d := dd_look_paces) rfl
  have g_look_paces := He.glo_ok X G (cd.fact 9 (f := .glo "look_paces") rfl)
  obtain ⟨fd_look_table, F_look_table⟩ := cd.def_ 11 (d := dd_look_table) rfl
  have g_look_table := He.glo_ok X G (cd.fact 10 (f := .glo "look_table") rfl)
  obtain ⟨fd_look_book, F_look_book⟩ := cd.def_ 12 (d := dd_look_book) rfl
  have g_look_book := He.glo_ok X G (cd.fact 11 (f := .glo "look_book") rfl)
  obtain ⟨fd_made, F_made⟩ := cd.def_ 13 (d := dd_made) rfl
  have g_made := He.glo_ok X G (cd.fact 12 (f := .glo "made_table") rfl)
  obtain ⟨fd_alike_book, F_alike_book⟩ := cd.def_ 14 (d := dd_alike_book) rfl
  have g_alike_book := He.glo_ok X G (cd.fact 13 (f := .glo "alike_book") rfl)
  obtain ⟨fd_turned_table, F_turned_table⟩ := cd.def_ 15 (d := dd_turned_table) rfl
  have g_turned_table := He.glo_ok X G (cd.fact 14 (f := .glo "turned_table") rfl)
  obtain ⟨fd_keeping, F_keeping⟩ := cd.def_ 16 (d := dd_keeping) rfl
  have g_keeping := He.glo_ok X G (cd.fact 15 (f := .glo "keeping") rfl)
  obtain ⟨fd_staying, F_staying⟩ := cd.def_ 17 (d := dd_staying) rfl
  have g_staying := He.glo_ok X G (cd.fact 16 (f := .glo "staying") rfl)
  obtain ⟨fd_sorting, F_sorting⟩ := cd.def_ 18 (d := dd_sorting) rfl
  have g_sorting := He.glo_ok X G (cd.fact 17 (f := .glo "sorting") rfl)
  obtain ⟨fd_folding, F_folding⟩ := cd.def_ 19 (d := dd_folding) rfl
  have g_folding := He.glo_ok X G (cd.fact 18 (f := .glo "folding") rfl)
  obtain ⟨fd_turning, F_turning⟩ := cd.def_ 20 (d := dd_turning) rfl
  have g_turning := He.glo_ok X G (cd.fact 19 (f := .glo "turning") rfl)
  obtain ⟨fd_ldue04, F_ldue04⟩ := cd.def_ 21 (d := dd_ldue04) rfl
  have g_ldue04 := He.glo_ok X G (cd.fact 20 (f := .glo "_law_due") rfl)
  obtain ⟨fd_law04, F_law04⟩ := cd.def_ 22 (d := dd_law04) rfl
  have eq := hfa.symm.trans (He.glo_ok X G (cd.fact 21 (f := .glo "law") rfl))
  cases eq
  have B : Bl mg := ⟨He.free_ok X G (cd.fact 22 (f := .free "len") rfl), He.free_ok X G (cd.fact 23 (f := .free "list") rfl), He.free_ok X G (cd.fact 24 (f := .free "tuple") rfl), He.free_ok X G (cd.fact 25 (f := .free "reversed") rfl), He.free_ok X G (cd.fact 26 (f := .free "range") rfl), He.free_ok X G (cd.fact 27 (f := .free "max") rfl), He.free_ok X G (cd.fact 28 (f := .free "min") rfl), He.free_ok X G (cd.fact 29 (f := .free "sum") rfl), He.free_ok X G (cd.fact 30 (f := .free "all") rfl), He.free_ok X G (cd.fact 31 (f := .free "any") rfl), He.free_ok X G (cd.fact 32 (f := .free "zip") rfl), He.free_ok X G (cd.fact 33 (f := .free "enumerate") rfl), He.free_ok X G (cd.fact 34 (f := .free "isinstance") rfl), He.free_ok X G (cd.fact 35 (f := .free "int") rfl), He.free_ok X G (cd.fact 36 (f := .free "bool") rfl), He.free_ok X G (cd.fact 37 (f := .free "str") rfl), He.free_ok X G (cd.fact 38 (f := .free "repr") rfl), He.free_ok X G (cd.fact 39 (f := .free "divmod") rfl), He.free_ok X G (cd.fact 40 (f := .free "abs") rfl), He.free_ok X G (cd.fact 41 (f := .free "sorted") rfl), He.free_ok X G (cd.fact 42 (f := .free "set") rfl), He.free_ok X G (cd.fact 43 (f := .free "dict") rfl), He.free_ok X G (cd.fact 44 (f := .free "pow") rfl), He.free_ok X G (cd.fact 45 (f := .free "ValueError") rfl), He.free_ok X G (cd.fact 46 (f := .free "IndexError") rfl)⟩
  have K_RoadError := He.glo_ok X G (cd.fact 47 (f := .glo "RoadError") rfl)
  have K_NoBook := He.glo_ok X G (cd.fact 48 (f := .glo "NoBook") rfl)
  have G_MOST_KINDS := He.int_ok X G (cd.fact 49 (f := .int "MOST_KINDS" 5) rfl)
  have G_MOST_SORTS := He.int_ok X G (cd.fact 50 (f := .int "MOST_SORTS" 6) rfl)
  have G_MOST_PACE := He.int_ok X G (cd.fact 51 (f := .int "MOST_PACE" 1000) rfl)
  unfold exB at cm
  simp only [Bool.and_eq_true, decide_eq_true_eq] at cm
  obtain ⟨m0, mz⟩ := cm
  have EF_NoBook := errB_ok m0
  have BC := baseB_ok mz K_RoadError
  have b := FunD.bindsA (ps := ["_law_script"]) F_law04 fun _ _ _ _ _ _ us hl => match us, hl with | [_], _ => rfl
  refine ⟨fd_law04, fun s v => b s [v] rfl, fun base _ _ TB => ?_⟩
  have T_NoBook : Err2 P w K mg base "NoBook" "word" "at" (He.ga K "NoBook") := ⟨K_NoBook, EF_NoBook.o, _, fd_init_NoBook, EF_NoBook.i, EF_NoBook.ti, ok_init_NoBook F_init_NoBook BC EF_NoBook.o (EF_NoBook.no "word" (by decide)) (EF_NoBook.no "at" (by decide)), F_init_NoBook.bindsN fun _ _ _ _ _ _ us hl => match us, hl with | [_, _, _], _ => rfl⟩
  have C_draw : Cal P w K mg base CX0 1 "_law_draw" ["_law_deal_here", "_law_many"] sp_draw := ⟨_, fd_draw, ok_draw F_draw B , g_draw, F_draw.kp, F_draw.bindsN fun _ _ _ _ _ _ us hl => match us, hl with | [_, _], _ => rfl⟩
  have C_deal : Cal P w K mg base CX0 1 "_law_deal" ["_law_script", "_law_base"] (sp_deal K) := ⟨_, fd_deal, ok_deal F_deal B , g_deal, F_deal.kp, F_deal.bindsN fun _ _ _ _ _ _ us hl => match us, hl with | [_, _], _ => rfl⟩
  have C_alike : Cal P w K mg base CX0 1 "_law_alike" ["_law_found", "_law_due_here"] (sp_alike K) := ⟨_, fd_alike, ok_alike F_alike B , g_alike, F_alike.kp, F_alike.bindsN fun _ _ _ _ _ _ us hl => match us, hl with | [_, _], _ => rfl⟩
  have C_paces : Cal P w K mg base CX0 2 "_law_paces" ["_law_deal_here", "_law_many"] (sp_paces K) := ⟨_, fd_paces, ok_paces F_paces B C_draw, g_paces, F_paces.kp, F_paces.bindsN fun _ _ _ _ _ _ us hl => match us, hl with | [_, _], _ => rfl⟩
  have C_is_number : Cal P w K mg base CX0 1 "is_number" ["thing"] (sp_isnum K) := ⟨_, fd_is_number, ok_is_number F_is_number B , g_is_number, F_is_number.kp, F_is_number.bindsN fun _ _ _ _ _ _ us hl => match us, hl with | [_], _ => rfl⟩
  have C_is_whole : Cal P w K mg base CX0 2 "is_whole" ["thing", "least", "most"] (sp_iswh K) := ⟨_, fd_is_whole, ok_is_whole F_is_whole B C_is_number, g_is_whole, F_is_whole.kp, F_is_whole.bindsN fun _ _ _ _ _ _ us hl => match us, hl with | [_, _, _], _ => rfl⟩
  have C_is_tuple_of : Cal P w K mg base CX0 1 "is_tuple_of" ["thing", "many"] (sp_istu K) := ⟨_, fd_is_tuple_of, ok_is_tuple_of F_is_tuple_of B , g_is_tuple_of, F_is_tuple_of.kp, F_is_tuple_of.bindsN fun _ _ _ _ _ _ us hl => match us, hl with | [_, _], _ => rfl⟩
  have C_tables_due : Cal P w K mg base CX0 1 "tables_due" ["kinds"] sp_tdue := ⟨_, fd_tables_due, ok_tables_due F_tables_due B , g_tables_due, F_tables_due.kp, F_tables_due.bindsN fun _ _ _ _ _ _ us hl => match us, hl with | [_], _ => rfl⟩
  have C_is_pair : Cal P w K mg base CX0 3 "is_pair" ["thing", "sorts"] (sp_ispr K) := ⟨_, fd_is_pair, ok_is_pair F_is_pair B C_is_tuple_of C_is_whole, g_is_pair, F_is_pair.kp, F_is_pair.bindsN fun _ _ _ _ _ _ us hl => match us, hl with | [_, _], _ => rfl⟩
  have C_look_paces : Cal P w K mg base (L2.CX P w) 3 "look_paces" ["paces"] (sp_lpac K (He.ga K "NoBook")) := ⟨_, fd_look_paces, ok_look_paces F_look_paces B C_is_whole G_MOST_KINDS G_MOST_PACE T_NoBook, g_look_paces, F_look_paces.kp, F_look_paces.bindsN fun _ _ _ _ _ _ us hl => match us, hl with | [_], _ => rfl⟩
  have C_look_table : Cal P w K mg base (L2.CX P w) 4 "look_table" ["table", "k", "sorts"] (sp_ltab K (He.ga K "NoBook")) := ⟨_, fd_look_table, ok_look_table F_look_table B C_is_tuple_of C_is_pair T_NoBook, g_look_table, F_look_table.kp, F_look_table.bindsN fun _ _ _ _ _ _ us hl => match us, hl with | [_, _, _], _ => rfl⟩
  have C_look_book : Cal P w K mg base (L2.CX P w) 5 "look_book" ["book"] (sp_look K (He.ga K "NoBook")) := ⟨_, fd_look_book, ok_look_book F_look_book B C_is_tuple_of C_look_paces C_is_whole C_tables_due C_look_table G_MOST_SORTS T_NoBook, g_look_book, F_look_book.kp, F_look_book.bindsN fun _ _ _ _ _ _ us hl => match us, hl with | [_], _ => rfl⟩
  have C_made : ∀ base' : Heap, Cal P w K mg base' CX0 2 "made_table" ["sorts", "pair_of"] (sp_madeL P w K mg base') := fun _ => ⟨_, fd_made, ok_made F_made B, g_made, F_made.kp, F_made.bindsN fun _ _ _ _ _ _ us hl => match us, hl with | [_, _], _ => rfl⟩
  have C_alike_book : ∀ base' : Heap, Cal P w K mg base' CX0 3 "alike_book" ["paces", "sorts", "pair_of"] (sp_alikeL P w K mg base') := fun _ => ⟨_, fd_alike_book, ok_alike_book F_alike_book B (C_made _) ⟨_, fd_tables_due, ok_tables_due F_tables_due B, g_tables_due, F_tables_due.kp, F_tables_due.bindsN fun _ _ _ _ _ _ us hl => match us, hl with | [_], _ => rfl⟩, g_alike_book, F_alike_book.kp, F_alike_book.bindsN fun _ _ _ _ _ _ us hl => match us, hl with | [_, _, _], _ => rfl⟩
  have C_turned_table : Cal P w K mg base CX0 3 "turned_table" ["sorts", "d", "e"] (LSp K (tabT K) psp_turned) := ⟨_, fd_turned_table, ok_turned_table F_turned_table B (code_of (p := ("turned_table", none)) F_turned_table) (TB _ (by repeat (first | exact List.mem_cons_self | refine List.mem_cons_of_mem _ ?_))) (by repeat (first | exact List.mem_cons_self | refine List.mem_cons_of_mem _ ?_)) (un_tabT K _) C_made, g_turned_table, F_turned_table.kp, F_turned_table.bindsN fun _ _ _ _ _ _ us hl => match us, hl with | [_, _, _], _ => rfl⟩
  have CK_keeping : CalK P w K mg base CX0 4 "keeping" ["paces", "sorts"] 1 ["sorts"] (LSp K (tabT K) (psp_alb gKeep)) := ⟨_, fd_keeping, ok_keeping F_keeping B (code_of (p := ("keeping", none)) F_keeping) (TB _ (by repeat (first | exact List.mem_cons_self | refine List.mem_cons_of_mem _ ?_))) (by repeat (first | exact List.mem_cons_self | refine List.mem_cons_of_mem _ ?_)) (un_tabT K _) C_alike_book, g_keeping, F_keeping.kp, kb_of F_keeping fun _ _ _ _ _ _ us ws h1 h2 => match us, ws, h1, h2 with | [_], [_], _, _ => rfl⟩
  have CK_staying : CalK P w K mg base CX0 4 "staying" ["paces", "sorts"] 1 ["sorts"] (LSp K (tabT K) (psp_alb gStay)) := ⟨_, fd_staying, ok_staying F_staying B (code_of (p := ("staying", none)) F_staying) (TB _ (by repeat (first | exact List.mem_cons_self | refine List.mem_cons_of_mem _ ?_))) (by repeat (first | exact List.mem_cons_self | refine List.mem_cons_of_mem _ ?_)) (un_tabT K _) C_alike_book, g_staying, F_staying.kp, kb_of F_staying fun _ _ _ _ _ _ us ws h1 h2 => match us, ws, h1, h2 with | [_], [_], _, _ => rfl⟩
  have CK_sorting : CalK P w K mg base CX0 4 "sorting" ["paces", "sorts"] 1 ["sorts"] (LSp K (tabT K) (psp_alb gSort)) := ⟨_, fd_sorting, ok_sorting F_sorting B (code_of (p := ("sorting", none)) F_sorting) (TB _ (by repeat (first | exact List.mem_cons_self | refine List.mem_cons_of_mem _ ?_))) (by repeat (first | exact List.mem_cons_self | refine List.mem_cons_of_mem _ ?_)) (un_tabT K _) C_alike_book, g_sorting, F_sorting.kp, kb_of F_sorting fun _ _ _ _ _ _ us ws h1 h2 => match us, ws, h1, h2 with | [_], [_], _, _ => rfl⟩
  have CK_folding : CalK P w K mg base CX0 4 "folding" ["paces", "sorts"] 1 ["sorts"] (LSp K (tabT K) (psp_alb gFold)) := ⟨_, fd_folding, ok_folding F_folding B (code_of (p := ("folding", none)) F_folding) (TB _ (by repeat (first | exact List.mem_cons_self | refine List.mem_cons_of_mem _ ?_))) (by repeat (first | exact List.mem_cons_self | refine List.mem_cons_of_mem _ ?_)) (un_tabT K _) C_alike_book, g_folding, F_folding.kp, kb_of F_folding fun _ _ _ _ _ _ us ws h1 h2 => match us, ws, h1, h2 with | [_], [_], _, _ => rfl⟩
  have CK_turning : CalK P w K mg base CX0 4 "turning" ["paces", "steps", "sorts"] 2 ["sorts"] (LSp K (tabT K) psp_turning) := ⟨_, fd_turning, ok_turning F_turning B (C_turned_table.imp (fun _ _ _ _ h => h)), g_turning, F_turning.kp, kb_of F_turning fun _ _ _ _ _ _ us ws h1 h2 => match us, ws, h1, h2 with | [_, _], [_], _, _ => rfl⟩
  have C_ldue04 : Cal P w K mg base CX0 1 "_law_due" ["_law_paces_here", "_law_steps", "_law_size", "_law_form"] (LSp K (tabT K) psp_ldue04) := ⟨_, fd_ldue04, ok_ldue04 F_ldue04 B , g_ldue04, F_ldue04.kp, F_ldue04.bindsN fun _ _ _ _ _ _ us hl => match us, hl with | [_, _, _, _], _ => rfl⟩
  exact FnG.of (ok_law04 F_law04 B (C_deal.imp conv_deal) (C_draw.imp conv_draw) (C_paces.imp conv_paces04) CK_sorting CK_staying CK_keeping CK_turning CK_folding (C_alike.imp conv_alike) C_ldue04 (C_look_book.imp conv_look))
end Wf
open PySem PySem.W PySem.Calls PyProof.Rows
theorem PySem.Challenge.cw_wherefrom_k04_books_made_holds : PySem.Challenge.rw_wherefrom_k04_books_made.Holds := by
  w_on; o_law
  refine HandSHeadRun.head_any (r := OpenLaw.row PySem.Challenge.rw_wherefrom_k04_books_made) (q := view (OpenLaw.row PySem.Challenge.rw_wherefrom_k04_books_made).prog [30]) (H := Wf.hk) (ob := Wf.obA) (M := 4800) (loose := Wf.looseL) (d := HandSHeadRun.topDef (OpenLaw.row PySem.Challenge.rw_wherefrom_k04_books_made).prog 30) (kwd := []) Wf.ob_eq
    (by kernel_rfl) (fun s => by kernel_rfl) Wf.run_eq (by kernel_rfl) (by kernel_rfl) (by kernel_rfl) (by rfl) (by first | assumption | decide +kernel) (by decide +kernel) ⟨rfl, rfl, rfl, rfl, rfl, by decide +kernel⟩ ?hw ?hc
  case hw => w_witness2
  case hc =>
    refine Wf.walkT2 (l := PySem.Challenge.rw_wherefrom_k04_books_made) (n := 63) (k := 6) (x := "_law_script") rfl (by decide) (by kernel_rfl) ⟨rfl, by decide, by decide⟩ ?F
    intro w mg fa h Y G hmg0
    obtain ⟨K, KX, c⟩ := Y
    have hmg : mg ("law" : PySem.Str) = some (.ref fa) := by
      have e : (HandSHeadRun.topDef (OpenLaw.row PySem.Challenge.rw_wherefrom_k04_books_made).prog 30).name = ("law" : PySem.Str) := by kernel_rfl
      rw [← e]
      exact hmg0
    obtain ⟨fd, hb, hF⟩ := Wf.facts (P := (PySem.Challenge.rw_wherefrom_k04_books_made).prog) (w := w) KX G hmg c
    exact ⟨K, fd, Wf.tfs.map (He.cT K), Pv.LSp K (Wf.tabT K) Pv.psp_law, KX, fun p hp => by obtain ⟨q, hq, rfl⟩ := List.mem_map.mp hp; exact c.empty q hq, fun p hp => by obtain ⟨q, hq, rfl⟩ := List.mem_map.mp hp; exact c.out q hq, fun p hp => by obtain ⟨q, hq, rfl⟩ := List.mem_map.mp hp; exact PySem.W.codeHd_of_K KX (c.hd q hq), hb, fun H a ns hl hT hO hS => Pv.end_lawT (by omega) (Wf.tabs0 hT) hT hO hS, hF⟩
