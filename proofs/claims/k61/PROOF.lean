import PyProof.Rows.All
import Wide.All
import OpenK.AllK
import Wide.FinOn
import PyProof.ListRange
import HandS.ForMost
import HandS.RevTup
import HandS.Rev
import HandS.Wide
import HandS.Defaults
import HandS.Conv
import HandS.IsInst
import HandS.Style
import HandS.Steps
import HandS.TupAny
import HandS.TupMul
import HandS.Zip
import HandS.HeadEnd
import KE.GoesMore
import HandS.ExcInit
import HandS.ExcField
import HandS.ExcIs
import KE.KExcIs
import HandS.ExcOwn
import HandS.ClsMeth
import HandS.ForExc
import PyProof.TupleKey
import PyProof.DictRoadsH
import KE.KDictSum
import HandS.Nested
import HandS.Lambda
import HandS.EndTab
import KE.KIndexOf
import HandS.Deep
import HandS.More
import HandS.SortInts
import HandS.FStr
import HandS.StrMore
import PyProof.StrLawsAffix
import PyProof.Rows.StrDigitsNeg
import PyProof.Rows.StrAscii
import HandS.Head0
import HandS.Head1
import HandS.Head2
import HandS.HeadHook1
import HandS.HeadHook2
import HandS.HeadHook4
import HandS.Flow
import HandS.TupLe
import HandS.TupSets
import HandS.SortKw
import HandS.SortOrd
import HandS.SortRule
import HandS.NoneIn
import KE.KUnpackStar
import PyProof.ListStr
import PyProof.StrBlock2
import HandS.Codes
import HandS.Dict
import PyProof.DictUpdate
import HandS.List
import HandS.OwnEq
import HandS.SlotsOwn
import PyProof.InstNe
import HandS.TryMany
import KE.KExcInit
import HandS.ExcBuiltin
import HandS.HotCalls
import HandS.TryOnly
import PySem.Challenge.RW_wherefrom_k61_texts_of_no_book
set_option Elab.async false
set_option linter.all false
set_option maxRecDepth 100000
set_option maxHeartbeats 0
/-! list(reversed(xs)), xs a list -/
namespace Wf
open PySem PySem.Spec PyProof.Rows L2
section
variable {prog : Program} {w : World} {A : Around} {E : Value → Shared → Prop} {s : Shared}
theorem initRev {R : Result → Shared → Prop} {it l S : Addr} {its : Array Value} (hh : A.handled = none) (hi : s.heap.IsRevIter it l ((its.size : Int) - 1)) (hl : s.heap.IsList l its) (hne : l ≠ it) (hn : its.size ≤ sizeLine)
    (hS : s.heap.get? S = some { cls := .type "list", data := .seq #[] }) (hSi : S ≠ it) (hSl : S ≠ l)
    (hR : ∀ (h' : Heap) (tk : Nat) (acc : Array Value) (c : Nat), (∀ b o, b ≠ S → b ≠ it → s.heap.get? b = some o → h'.get? b = some o) → h'.get? S = some { cls := .type "list", dict := none, data := .seq acc c, slots := #[] } →
      ItemsOf (fun i v => its[its.size - 1 - i]? = some v) acc its.size → R (.ok (.ret .none)) { s with heap := h', toks := tk }) :
    wpAny (model prog w) A.in1 (Builtin.«list.__init__» ⟨[.ref S, .ref it], []⟩)
      (fun fin s' => match fin with | .done f => R (.ok f) s' | .again c' => c'.quiet = true ∧ codeAny (model prog w) A c' R s') (fun e s' => R (.error e) s') s := by
  have W := (Walks.listRev (prog := prog) (w := w) (A := A.in1) hh it l hne its).toS
  have hSf : S ∉ [it, l] := by simp only [List.mem_cons, List.not_mem_nil, or_false, not_or]; exact ⟨hSi, hSl⟩
  have e0 : ((its.size : Nat) : Int) - 1 - ((0 : Nat) : Int) = (its.size : Int) - 1 := by omega
  show wpAny _ A.in1 (Builtin.List.listItems (.ref S) >>= fun old => Builtin.List.listUpdate (.ref S) (fun _ => #[]) >>= fun _ => letGo old.toList.reverse >>= fun _ => Builtin.List.listExtendWith (.ref S) (.ref it) .none) _ _ s
  refine wpAny_bind ?_
  unfold Builtin.List.listItems
  refine wpAny_bind (wpAny_seqItems hS rfl (wpAny_pure ?_))
  show wpAny _ A.in1 (updateSeq S (fun _ => #[]) >>= fun _ => letGo (#[] : Array Value).toList.reverse >>= fun _ => Builtin.List.listExtendWith (.ref S) (.ref it) .none) _ _ s
  refine wpAny_bind (wpAny_updateSeq hS rfl ?_)
  have hS2 := Heap.get?_update_self (Obj.mapSeq (fun _ => (#[] : Array Value))) hS rfl
  have oth : ∀ b o, b ≠ S → s.heap.get? b = some o → (s.heap.update S (Obj.mapSeq (fun _ => (#[] : Array Value)))).get? b = some o := fun b o hb e => (Heap.get?_update_other _ _ (Ne.symm hb)).trans e
  refine wpAny_bind (wpAny_letGo ?_)
  have hi2 : (s.heap.update S (Obj.mapSeq (fun _ => (#[] : Array Value)))).IsRevIter it l ((its.size : Int) - 1) := hi.at fun o e => oth it o (Ne.symm hSi) e
  have hl2 : (s.heap.update S (Obj.mapSeq (fun _ => (#[] : Array Value)))).IsList l its := by
    obtain ⟨o, e, r⟩ := hl
    exact ⟨o, oth l o (Ne.symm hSl) e, r⟩
  have hT : ({ s with heap := s.heap.update S (Obj.mapSeq (fun _ => (#[] : Array Value))) } : Shared).TypeIs (.ref it) "list_reverseiterator" := Heap.IsRevIter.typeIs (s := { s with heap := s.heap.update S (Obj.mapSeq (fun _ => (#[] : Array Value))) }) hi2
  have h1 : Builtin.List.listSameRef (.ref S) (.ref it) = false := by simp [Builtin.List.listSameRef, hSi]
  unfold Builtin.List.listExtendWith
  refine wpAny_bind (wpAny_typeOf hT ?_)
  rw [if_neg (by rw [h1]; decide)]
  refine wpAny_bind (wpAny_pyIter_revIter (s := { s with heap := s.heap.update S (Obj.mapSeq (fun _ => (#[] : Array Value))) }) hi2 ?_)
  refine wpAny_bind (wpAny_holding ?_)
  unfold Builtin.List.listLengthHint
  refine wpAny_bind (wpAny_specialOf hT RT.nolen_lri ?_)
  show wpAny _ A.in1 (specialOf (Value.ref it) (Str.ofString "__length_hint__") >>= _) _ _ _
  refine wpAny_bind (wpAny_specialOf hT RT.hint_lri ?_)
  generalize hid : ("list_reverseiterator.__length_hint__" : String) = id0
  wp_delta
  rw [show splitId id0 = some ("list_reverseiterator", "__length_hint__") from by subst hid; decide +kernel]
  subst hid
  refine wpAny_bind (wpAny_isInstance (b := true) hT (by rw [isSubtype_type]; kernel_rfl) ?_)
  refine wpAny_pure ?_
  rw [if_neg (by decide)]
  refine wpAny_pure ⟨plainId_quiet F.plain_extend_loop _, codeAny_extend_loopS W hn _ hSf _ its.size 0 _ _ _ rfl (Nat.zero_le _) ⟨Nat.zero_le _, by rw [e0]; exact hi2, hl2⟩ hS2 (ItemsOf.nil _) fun s' acc' c' hm hS' hacc => ?_⟩
  rw [Moved.eq_with hm]
  refine hR s'.heap s'.toks acc' c' (fun b o hb hbi e => hm.heap b o (fun hmem => ?_) (oth b o hb e)) hS' hacc
  rcases List.mem_cons.mp hmem with e' | hmem
  · exact hb e'
  · exact hbi (List.mem_singleton.mp hmem)
theorem callRev {it l : Addr} {its : Array Value} {Q : Value → Shared → Prop} (hh : A.handled = none) (hi : s.heap.IsRevIter it l ((its.size : Int) - 1)) (hl : s.heap.IsList l its) (hne : l ≠ it) (hn : its.size ≤ sizeLine)
    (hQ : ∀ (h' : Heap) (tk : Nat) (acc : Array Value) (c : Nat), (∀ b o, b ≠ it → s.heap.get? b = some o → h'.get? b = some o) → h'.get? s.heap.objs.size = some { cls := .type "list", dict := none, data := .seq acc c, slots := #[] } →
      ItemsOf (fun i v => its[its.size - 1 - i]? = some v) acc its.size → Q (.ref s.heap.objs.size) { s with heap := h', toks := tk }) :
    wpAny (model prog w) A (call (.type "list") [.ref it]) Q E s := by
  refine callType_codes (Q₁ := fun obj s₁ => obj = .ref s.heap.objs.size ∧ s₁ = { s with heap := s.heap.push { cls := .type "list", data := .seq #[] } }) F.called_list (F.typeCall_list_1 _) F.entry_list_init (code_list_new _ ⟨rfl, rfl⟩) fun obj s₁ h₁ => ?_
  obtain ⟨rfl, rfl⟩ := h₁
  obtain ⟨oi, hoi, _⟩ := id hi
  obtain ⟨ol, hol, _⟩ := id hl
  have hS : (s.heap.push { cls := .type "list", data := .seq #[] }).get? s.heap.objs.size = some { cls := .type "list", data := .seq #[] } := Heap.get?_push_size _ rfl
  refine ⟨⟨_, hS, rfl⟩, F.args_list_init_2 _ _, initRev (s := { s with heap := s.heap.push { cls := .type "list", data := .seq #[] } }) (A := A.in1) hh (hi.at fun o e => Heap.get?_push_of_some _ e) (hl.push _) hne hn hS (Nat.ne_of_gt (Heap.lt_size hoi)) (Nat.ne_of_gt (Heap.lt_size hol)) fun h' tk acc c hk hS' hacc => ?_⟩
  exact ⟨rfl, hQ h' tk acc c (fun b o hb e => hk b o (Nat.ne_of_lt (Heap.lt_size e)) hb (Heap.get?_push_of_some _ e)) hS' hacc⟩
end
/-- list(reversed(x)), x a list: a new list -/
def tLstRev (K : PySem.W.Frag) (te : TE) : TE := fun σ H Q => te σ H fun v H1 => ∃ (a : Addr) (xs : List V), v = .ref a ∧ SqL K H1 a xs ∧ ∀ q, H1 q = none → Q (.ref q) (upd H1 q (.lst xs.reverse))
section
variable {X : Cx}
theorem pe_lstRev {e : Expr} {te : TE} {p p2 pos pos2 : Pos} (hc : X.calm = true) (hg : Gl X "list") (hm : X.mg "list" = none) (hg2 : Gl X "reversed") (hm2 : X.mg "reversed" = none) (he : PE X e te)
    (hs : starEach [e] X.env = (false, eval e X.env) :: starEach [] X.env := by rfl)
    (hs2 : starEach [.Call (.Name "reversed" p2) [e] [] pos2] X.env = (false, eval (.Call (.Name "reversed" p2) [e] [] pos2) X.env) :: starEach [] X.env := by rfl) :
    PE X (.Call (.Name "list" p) [.Call (.Name "reversed" p2) [e] [] pos2] [] pos) (tLstRev X.K te) := by
  refine ⟨fun pins s σ H Q I h => ?_⟩
  refine Call_ (ld_blt I hg hm boot_list (PyProof.Rows.callWith_type1 (args_cons (Call_ (ld_blt I hg2 hm2 PyProof.Rows.boot_reversed (PyProof.Rows.callWith_type1 (args_cons (thn (he.run pins s σ H _ I h) fun u s1 ⟨v, H1, I1, r1, q1⟩ => args_nil ?_) hs) hs rfl))) hs2) hs2 rfl))
  obtain ⟨a, xs, ev, hq, q⟩ := q1
  subst ev
  obtain rfl : u = Value.ref a := r1
  obtain ⟨its, rv, p', hz⟩ := I1.list hq
  refine call_reversed_list p'.isList (args_nil ?_)
  have k0 : ∀ b o, s1.heap.get? b = some o → (s1.heap.push (revObj a ((its.toArray.size : Int) - 1))).get? b = some o := fun b o e => Heap.get?_push_of_some _ e
  have I2 : Inv X pins σ H1 { s1 with heap := s1.heap.push (revObj a ((its.toArray.size : Int) - 1)) } := I1.kept (t' := s1.toks) k0
  obtain ⟨f0, f1, f2, f3, f4, f5⟩ := I1.fpOk (H' := H1) (b := s1.heap.objs.size) (Nat.le_refl _) (I1.hok.fresh (Nat.le_refl _))
  have hl := p'.isList
  obtain ⟨ol, hol, _⟩ := id hl
  have hne : a ≠ s1.heap.objs.size := Nat.ne_of_lt (Heap.lt_size hol)
  have hn : its.toArray.size ≤ sizeLine := by rw [List.size_toArray, ← rv.length]; exact hz
  refine callRev (s := { s1 with heap := s1.heap.push (revObj a ((its.toArray.size : Int) - 1)) }) (I1.ok.hd hc) ⟨_, Heap.get?_push_size _ rfl, rfl, rfl⟩ (hl.push _) hne hn fun h' tk acc c hk hS hi => ?_
  have old : ∀ b o, s1.heap.get? b = some o → h'.get? b = some o := fun b o e => hk b o (Nat.ne_of_lt (Heap.lt_size e)) (k0 b o e)
  have sz : s1.heap.objs.size ≤ (s1.heap.push (revObj a ((its.toArray.size : Int) - 1))).objs.size := by rw [Heap.size_push]; exact Nat.le_succ _
  refine ⟨.ref _, _, I1.laid (t' := tk) old sz (show ObjOk X.prog X.w _ _ _ (.lst xs.reverse) from ⟨by rw [List.length_reverse]; exact hz, acc.toList, c, RT.vals_rev rv hi, ?_⟩), rfl, q _ (I1.hok.fresh sz)⟩
  rw [Array.toArray_toList]
  exact hS
end
end Wf
namespace Wf
open PySem PySem.Spec L2
/-! ### short words for the operators' readings -/
abbrev qAdd : R2 := rI0 fun i j => .int (i + j)
abbrev qSub : R2 := rI0 fun i j => .int (i - j)
abbrev qMul : R2 := rI CMul fun i j => .int (i * j)
abbrev qFdiv : R2 := rI CDiv fun i j => .int (i / j)
abbrev qFdivW : R2 := rI CDivW fun i j => .int (i / j)
abbrev qMod : R2 := rI (fun _ j => 0 < j) fun i j => .int (i % j)
abbrev qPow : R2 := rI CPow fun i j => .int (i ^ j.toNat)
abbrev qNeg : V → Hp → VK → Prop := rU fun i => .int (-i)
abbrev qLe : R2 := rI0 fun i j => .bl (decide (i ≤ j))
abbrev qGt : R2 := rI0 fun i j => .bl (decide (j < i))
abbrev qGe : R2 := rI0 fun i j => .bl (decide (j ≤ i))
abbrev qMax2 : List V → Hp → VK → Prop := fun xs H Q => ∃ i j, xs = [.int i, .int j] ∧ Q (.int (if j > i then j else i)) H
abbrev qMin2 : List V → Hp → VK → Prop := fun xs H Q => ∃ i j, xs = [.int i, .int j] ∧ Q (.int (if j < i then j else i)) H
abbrev qLen (K : PySem.W.Frag) : List V → Hp → VK → Prop := fun xs H Q => ∃ x n, xs = [x] ∧ LenV K x H n ∧ Q (.int n) H
abbrev qInt1 : List V → Hp → VK → Prop := fun xs H Q => (∃ i, xs = [.int i] ∧ Q (.int i) H) ∨ ∃ k, xs = [.bl k] ∧ Q (.int (if k then 1 else 0)) H
abbrev qListOf (K : PySem.W.Frag) : List V → Hp → VK → Prop := fun xs H Q => ∃ p ys, xs = [.ref p] ∧ (SqL K H p ys ∨ SqT K H p ys) ∧ ∀ l, H l = none → Q (.ref l) (upd H l (.lst ys))
abbrev qTupleOf (K : PySem.W.Frag) : List V → Hp → VK → Prop := fun xs H Q => ∃ p ys, xs = [.ref p] ∧ ((SqL K H p ys ∧ ∀ l, H l = none → Q (.ref l) (upd H l (.tup ys))) ∨ (SqT K H p ys ∧ Q (.ref p) H))
/-! ### a def of the module that is called by its name -/
structure Cal (P : Program) (w : World) (K : PySem.W.Frag) (mg : Str → Option Value) (base : Heap) (CX : CXT) (k : Nat) (x : Str) (ps : List Str) (sp : Sp) : Prop where
  ex : ∃ f fd, FnOk P w K mg base CX k f fd ps sp ∧ mg x = some (.ref f) ∧ PySem.W.keepIn K (.ref f) = true ∧ Binds K fd ps []
theorem pe_cal {X : Cx} {k j : Nat} {x : Str} {ps : List Str} {sp : Sp} {e : Expr} {es : List Expr} {t : TA} {p pos : Pos} (C : Cal X.prog X.w X.K X.mg X.base CX0 k x ps sp) (hr : Room j X.A) (hg : Gl X x) (ha : PA X (e :: es) t) (hk : k ≤ j := by decide)
    (hdb : (x == ("__debug__" : Str)) = false := by decide) (he : starEach (e :: es) X.env = (false, eval e X.env) :: starEach es X.env := by rfl) (hpl : (backTo pos (starEach es X.env)).any (·.1) = false := by rfl) :
    PE X (.Call (.Name x p) (e :: es) [] pos) (tCall sp [] E0 t) := by
  obtain ⟨f, fd, G, m, kp, b⟩ := C.ex
  exact pe_call G (hr.mono hk) hg m kp b .nil pass0 ha hdb he hpl
/-- the built-in names that the module leaves alone -/
structure Bl (mg : Str → Option Value) : Prop where
  b_len : mg "len" = none
  b_list : mg "list" = none
  b_tuple : mg "tuple" = none
  b_reversed : mg "reversed" = none
  b_range : mg "range" = none
  b_max : mg "max" = none
  b_min : mg "min" = none
  b_sum : mg "sum" = none
  b_all : mg "all" = none
  b_any : mg "any" = none
  b_zip : mg "zip" = none
  b_enumerate : mg "enumerate" = none
  b_isinstance : mg "isinstance" = none
  b_int : mg "int" = none
  b_bool : mg "bool" = none
  b_str : mg "str" = none
  b_repr : mg "repr" = none
  b_divmod : mg "divmod" = none
  b_abs : mg "abs" = none
  b_sorted : mg "sorted" = none
  b_set : mg "set" = none
  b_dict : mg "dict" = none
  b_pow : mg "pow" = none
  b_ValueError : mg "ValueError" = none
  b_IndexError : mg "IndexError" = none
/-! ### heaps: all but some addresses as before -/
def But (ds : List Addr) (H H' : Hp) : Prop := ∀ a o, a ∉ ds → H a = some o → H' a = some o
theorem But.refl (ds : List Addr) (H : Hp) : But ds H H := fun _ _ _ h => h
theorem But.trans {ds : List Addr} {H H1 H2 : Hp} (a : But ds H H1) (b : But ds H1 H2) : But ds H H2 := fun c o n h => b c o n (a c o n h)
/-! ### the deal: a dict of three numbers and a list of great ones -/
def dealK (s m n : Int) (l : Addr) : List (Key × V) := [(Sum.inr "seed", .int s), (Sum.inr "many", .int m), (Sum.inr "now", .int n), (Sum.inr "left", .ref l)]
structure Deal (H : Hp) (d l : Addr) : Prop where
  ex : ∃ (s m n : Int) (ns : List Int), H d = some (.dK (dealK s m n l)) ∧ H l = some (.lst (ns.map V.int)) ∧ 0 ≤ n ∧ ∀ x ∈ ns, 0 ≤ x
theorem key_ne {x y : Str} (h : (x == y) = false) : ¬ (Sum.inr x : Key) = Sum.inr y := fun e => by
  have := Sum.inr.inj e
  rw [this, beq_self_eq_true] at h
  cases h
theorem dk_seed {s m n : Int} {l : Addr} : valV (dealK s m n l) (Sum.inr "seed") = some (.int s) := valV_pos rfl
theorem dk_many {s m n : Int} {l : Addr} : valV (dealK s m n l) (Sum.inr "many") = some (.int m) := (valV_neg (key_ne (by decide +kernel))).trans (valV_pos rfl)
theorem dk_now {s m n : Int} {l : Addr} : valV (dealK s m n l) (Sum.inr "now") = some (.int n) :=
  (valV_neg (key_ne (by decide +kernel))).trans ((valV_neg (key_ne (by decide +kernel))).trans (valV_pos rfl))
theorem dk_left {s m n : Int} {l : Addr} : valV (dealK s m n l) (Sum.inr "left") = some (.ref l) :=
  (valV_neg (key_ne (by decide +kernel))).trans ((valV_neg (key_ne (by decide +kernel))).trans ((valV_neg (key_ne (by decide +kernel))).trans (valV_pos rfl)))
theorem dk_putNow {s m n k : Int} {l : Addr} : putK (dealK s m n l) (Sum.inr "now") (.int k) = dealK s m k l := by
  unfold putK
  rw [valV_any, dk_now, if_pos (show (some (V.int n)).isSome = true from rfl)]
  show [_, _, _, _] = _
  dsimp only
  rw [if_neg (key_ne (by decide +kernel)), if_neg (key_ne (by decide +kernel)), if_pos rfl, if_neg (key_ne (by decide +kernel))]
  rfl
theorem dk_putMany {s m n k : Int} {l : Addr} : putK (dealK s m n l) (Sum.inr "many") (.int k) = dealK s k n l := by
  unfold putK
  rw [valV_any, dk_many, if_pos (show (some (V.int m)).isSome = true from rfl)]
  show [_, _, _, _] = _
  dsimp only
  rw [if_neg (key_ne (by decide +kernel)), if_pos rfl, if_neg (key_ne (by decide +kernel)), if_neg (key_ne (by decide +kernel))]
  rfl
/-- d["x"], d in a slot -/
theorem rd_dk {σ : St} {H : Hp} {Q : VK} {i : Nat} {d : Addr} {kvs : List (Key × V)} {x : Str} {v : V} (h : H d = some (.dK kvs)) (hi : σ[i]? = some (some (.ref d))) (hv : valV kvs (Sum.inr x) = some v) (q : Q v H) : tDGet (tVar i) (tC (.str x)) σ H Q :=
  ⟨.ref d, hi, d, v, rfl, by rw [← hv]; exact DGet.k (k := Sum.inr x) h, q⟩
/-- d["x"] = e, the reading of e done before -/
theorem wr_dk {σ : St} {H : Hp} {D : Ends} {i : Nat} {d : Addr} {kvs kvs' : List (Key × V)} {x : Str} {v : V} (h : H d = some (.dK kvs)) (hi : σ[i]? = some (some (.ref d))) (hl : kvs.length < sizeLine) (hp : putK kvs (Sum.inr x) v = kvs') (q : D.nx σ (upd H d (.dK kvs'))) :
    tVar i σ H fun y H2 => tC (.str x) σ H2 fun z H3 => ∃ a H4, y = .ref a ∧ DPut H3 a z v H4 ∧ D.nx σ H4 :=
  ⟨.ref d, hi, d, upd H d (.dK kvs'), rfl, by rw [← hp]; exact DPut.k (k := Sum.inr x) h hl, q⟩
/-- the slots at the entry of a def of n names -/
def sN (n : Nat) (vs : List V) : St := vs.map some ++ List.replicate (n - vs.length) none
abbrev EndsQ (Q : VK) : Ends := { nx := fun _ H' => Q .non H', rt := Q }
abbrev FnP (K : PySem.W.Frag) (x : Str) (st : Stmt) (f : Addr) (fd : FuncData) : Prop := FunD K x x (defArgs st) (defBody st) (defScope st) [] [] f fd
/-! ### _law_draw -/
/-- a draw by n: some number from 0 on below n; the deal goes on, all else stands -/
def sp_draw : Sp := fun vs H Q _ => ∃ (d l : Addr) (n : Int), vs = [.ref d, .int n] ∧ 0 < n ∧ n < 2 ^ 200 ∧ Deal H d l ∧
  ∀ (k : Int) (H' : Hp), 0 ≤ k → k < n → But [d, l] H H' → Deal H' d l → Q (.int k) H'
def t_draw (K : PySem.W.Frag) : TS :=
  tSeq (tWhile (tAnd (tTest (tOp rEq (tDGet (tVar 0) (tC (.str "now"))) (tC (.int 0)))) (tTest (tOp qGt (tCB (qLen K) (tCons (tDGet (tVar 0) (tC (.str "left"))) (tNil))) (tC (.int 0))))) (sDPut (tVar 0) (tC (.str "now")) (tBM0 K "list" rPop (tDGet (tVar 0) (tC (.str "left"))))))
    (tSeq (tIfS (tTest (tOp qGt (tDGet (tVar 0) (tC (.str "now"))) (tC (.int 0)))) (tSeq (tAsg (tOp qMod (tDGet (tVar 0) (tC (.str "now"))) (tVar 1)) (gName 4))
    (tSeq (sDPut (tVar 0) (tC (.str "now")) (tOp qFdivW (tDGet (tVar 0) (tC (.str "now"))) (tVar 1)))
    (tRet (tVar 4)))) (tNext))
    (tSeq (sDPut (tVar 0) (tC (.str "many")) (tOp qAdd (tDGet (tVar 0) (tC (.str "many"))) (tC (.int 1))))
    (tSeq (tAsg (tOp qMod (tOp qMul (tOp qAdd (tDGet (tVar 0) (tC (.str "seed"))) (tOp qMul (tC (.int 40692)) (tDGet (tVar 0) (tC (.str "many"))))) (tC (.int 48271))) (tC (.int 2147483629))) (gName 2))
    (tSeq (tAsg (tOp qMod (tOp qAdd (tOp qAdd (tOp qMul (tVar 2) (tVar 2)) (tOp qMul (tC (.int 7919)) (tDGet (tVar 0) (tC (.str "many"))))) (tDGet (tVar 0) (tC (.str "seed")))) (tC (.int 2147483563))) (gName 3))
    (tRet (tOp qMod (tOp qFdiv (tOp qAdd (tOp qMul (tOp qMod (tOp qMul (tVar 3) (tVar 3)) (tC (.int 2147483647))) (tC (.int 30103))) (tVar 2)) (tC (.int 4096))) (tVar 1)))))))
theorem ifd {p A B : Prop} [Decidable p] (h1 : p → A) (h2 : ¬ p → B) : if decide p = true then A else B := by
  by_cases c : p
  · rw [if_pos (decide_eq_true c)]
    exact h1 c
  · rw [if_neg (by simpa using c)]
    exact h2 c
theorem mp {j : Int} (h : decide (0 < j) = true) : 0 < j := of_decide_eq_true h
theorem cm_mod {a b j : Int} (h : decide (0 < b) = true) (h2 : decide (b ≤ 2 ^ 64) = true) : CMul (a % b) j := by
  have h1 := of_decide_eq_true h
  have h2 := of_decide_eq_true h2
  have h3 := Int.emod_nonneg a (show b ≠ 0 by omega)
  have h4 := Int.emod_lt_of_pos a h1
  exact .inl ⟨by omega, by omega⟩
theorem len4 {s m n : Int} {l : Addr} : (dealK s m n l).length < sizeLine := by show 4 < sizeLine; decide
theorem mod_lt {a b : Int} (h : 0 < b) : 0 ≤ a % b ∧ a % b < b := ⟨Int.emod_nonneg _ (by omega), Int.emod_lt_of_pos _ h⟩
theorem pure_draw {K : PySem.W.Frag} (vs : List V) (H : Hp) (Q : VK) (E : XK) (h : sp_draw vs H Q E) : t_draw K (EndsQ Q) (sN 5 vs) H := by
  obtain ⟨d, l, n, rfl, hn, hn2, hD, k⟩ := h
  show t_draw K _ [some (.ref d), some (.int n), none, none, none] H
  -- the loop: the deal stands, all else too
  refine ⟨fun m σ H1 => σ = [some (.ref d), some (.int n), none, none, none] ∧ But [d, l] H H1 ∧ ∃ (s t n1 : Int) (ns : List Int), H1 d = some (.dK (dealK s t n1 l)) ∧ H1 l = some (.lst (ns.map V.int)) ∧ 0 ≤ n1 ∧ (∀ x ∈ ns, 0 ≤ x) ∧ m = ns.length, ?_, ?_⟩
  · obtain ⟨s, t, n1, ns, h1, h2, h3, h4⟩ := hD.ex
    exact ⟨_, rfl, .refl _ _, s, t, n1, ns, h1, h2, h3, h4, rfl⟩
  rintro m σ H1 ⟨rfl, hB, s, t, n1, ns, h1, h2, h3, h4, rfl⟩
  have hne : d ≠ l := ne_of h1 h2 (by intro z; cases z)
  refine rd_dk h1 rfl dk_now ⟨rfl, _, rfl, ?_⟩
  have after : ∀ ns : List Int, H1 l = some (.lst (ns.map V.int)) → (∀ x ∈ ns, 0 ≤ x) → tSeq (tIfS (tTest (tOp qGt (tDGet (tVar 0) (tC (.str "now"))) (tC (.int 0)))) (tSeq (tAsg (tOp qMod (tDGet (tVar 0) (tC (.str "now"))) (tVar 1)) (gName 4))
    (tSeq (sDPut (tVar 0) (tC (.str "now")) (tOp qFdivW (tDGet (tVar 0) (tC (.str "now"))) (tVar 1)))
    (tRet (tVar 4)))) (tNext))
    (tSeq (sDPut (tVar 0) (tC (.str "many")) (tOp qAdd (tDGet (tVar 0) (tC (.str "many"))) (tC (.int 1))))
    (tSeq (tAsg (tOp qMod (tOp qMul (tOp qAdd (tDGet (tVar 0) (tC (.str "seed"))) (tOp qMul (tC (.int 40692)) (tDGet (tVar 0) (tC (.str "many"))))) (tC (.int 48271))) (tC (.int 2147483629))) (gName 2))
    (tSeq (tAsg (tOp qMod (tOp qAdd (tOp qAdd (tOp qMul (tVar 2) (tVar 2)) (tOp qMul (tC (.int 7919)) (tDGet (tVar 0) (tC (.str "many"))))) (tDGet (tVar 0) (tC (.str "seed")))) (tC (.int 2147483563))) (gName 3))
    (tRet (tOp qMod (tOp qFdiv (tOp qAdd (tOp qMul (tOp qMod (tOp qMul (tVar 3) (tVar 3)) (tC (.int 2147483647))) (tC (.int 30103))) (tVar 2)) (tC (.int 4096))) (tVar 1))))))
      { nx := fun _ H' => Q .non H', rt := Q } [some (.ref d), some (.int n), none, none, none] H1 := by
    intro ns h2 h4
    refine rd_dk h1 rfl dk_now ⟨_, _, rfl, rfl, _, rfl, ?_⟩
    refine ifd (fun c => ?_) (fun c => ?_)
    · refine rd_dk h1 rfl dk_now ⟨_, rfl, _, _, rfl, rfl, hn, ?_⟩
      refine rd_dk h1 rfl dk_now ⟨_, rfl, _, _, rfl, rfl, wide_div hn (b := 200) (by omega) (by decide) (by decide), ?_⟩
      refine wr_dk h1 rfl len4 dk_putNow ⟨_, rfl, ?_⟩
      obtain ⟨m1, m2⟩ := mod_lt (a := n1) hn
      refine k _ _ m1 m2 (hB.trans fun a o ha e => ?_) ⟨s, t, n1 / n, ns, upd_same, ?_, Int.ediv_nonneg h3 (by omega), h4⟩
      · rw [upd_ne (by intro z; subst z; exact ha List.mem_cons_self)]
        exact e
      · rw [upd_ne (Ne.symm hne)]
        exact h2
    · refine rd_dk h1 rfl dk_many ⟨_, _, rfl, rfl, ?_⟩
      refine wr_dk h1 rfl len4 dk_putMany ?_
      refine rd_dk upd_same rfl dk_seed ?_
      refine rd_dk upd_same rfl dk_many ⟨_, _, rfl, rfl, .inl ⟨by decide, by decide⟩, _, _, rfl, rfl, _, _, rfl, rfl, .inr ⟨by decide, by decide⟩, _, _, rfl, rfl, mp rfl, ?_⟩
      refine ⟨_, rfl, _, rfl, _, _, rfl, rfl, cm_mod rfl rfl, ?_⟩
      refine rd_dk upd_same rfl dk_many ⟨_, _, rfl, rfl, .inl ⟨by decide, by decide⟩, _, _, rfl, rfl, ?_⟩
      refine rd_dk upd_same rfl dk_seed ⟨_, _, rfl, rfl, _, _, rfl, rfl, mp rfl, ?_⟩
      refine ⟨_, rfl, _, rfl, _, _, rfl, rfl, cm_mod rfl rfl, _, _, rfl, rfl, mp rfl, _, _, rfl, rfl, cm_mod rfl rfl, _, rfl, _, _, rfl, rfl, _, _, rfl, rfl, ⟨by decide, by decide⟩, _, rfl, _, _, rfl, rfl, hn, ?_⟩
      refine k _ _ (mod_lt hn).1 (mod_lt hn).2 (hB.trans fun a o ha e => ?_) ⟨s, t + 1, n1, ns, upd_same, ?_, h3, h4⟩
      · rw [upd_ne (by intro z; subst z; exact ha List.mem_cons_self)]
        exact e
      · rw [upd_ne (Ne.symm hne)]
        exact h2
  refine ifd (fun c => ?_) (fun c => ?_)
  · refine rd_dk h1 rfl dk_left ⟨_, (ns.map V.int).length, rfl, .inl ⟨_, SqL.of h2, rfl⟩, _, _, rfl, rfl, _, rfl, ?_⟩
    refine ifd (fun c2 => ?_) (fun c2 => ?_)
    · refine ⟨fun σ' H' => ∃ m', m' < ns.length ∧ _, fun _ _ h => h, ?_⟩
      have hpos : ns ≠ [] := by
        rintro rfl
        exact absurd c2 (by decide)
      refine rd_dk h1 rfl dk_left ⟨.inl ⟨rfl, _, SqL.of h2⟩, l, ns.map V.int, .int (ns.getLast hpos), rfl, rfl, h2, ?_, ?_⟩
      · rw [List.getElem?_map, List.length_map, ← List.getLast?_eq_getElem?, List.getLast?_eq_some_getLast hpos] <;> rfl
      · refine wr_dk (by rw [upd_ne hne]; exact h1) rfl len4 dk_putNow ⟨ns.length - 1, ?_, rfl, ?_, s, t, ns.getLast hpos, ns.dropLast, upd_same, ?_, h4 _ (List.getLast_mem hpos), fun x hx => h4 x ((List.dropLast_sublist ns).subset hx), by rw [List.length_dropLast]⟩
        · have := List.length_pos_iff.mpr hpos
          omega
        · intro a o ha e
          have h1' := hB a o ha e
          rw [upd_ne (by intro z; subst z; exact ha List.mem_cons_self), upd_ne (by intro z; subst z; exact ha (by simp))]
          exact h1'
        · rw [upd_ne (Ne.symm hne), upd_same, List.map_dropLast]
    · exact after ns h2 h4
  · exact after ns h2 h4
end Wf
/-! list(zip(t, u)), t and u tuples -/
namespace Wf
open PySem PySem.Spec
section
variable {prog : Program} {w : World} {A : Around} {E : Value → Shared → Prop} {s : Shared}
/-- a zip that has handed out a tuple which lives: field 0 tells where -/
abbrev zObj (x0 : Value) (b : Bool) (TI TO : Addr) : Obj := { cls := .type "zip", data := .fields #[x0, .bool b, .bool false, .ref TI, .ref TO] }
theorem alive {a : Addr} {Q : Option Obj → Shared → Prop} (h : Q (s.heap.get? a) s) : wpAny (model prog w) A (loadIfAlive a) Q E s := fun Γ p _ => by
  show Sem.wp _ _ (.loadIfAlive a .pure) _ _ _ _
  rw [Sem.wp_loadIfAlive]
  exact h
/-- the look at the owned tuple: it is not free -/
theorem notFree {z a TI TO : Addr} {b : Bool} {oa : Obj} {Q : Bool → Shared → Prop} (hz : s.heap.get? z = some (zObj (rawInt a) b TI TO)) (ha : s.heap.get? a = some oa)
    (h : ∀ h', h'.get? z = some (zObj (rawInt a) true TI TO) → Heap.SameBut z s.heap h' → Q false { s with heap := h' }) : wpAny (model prog w) A (Builtin.SmallTypes.ownedTupleIsFree (.ref z)) Q E s := by
  unfold Builtin.SmallTypes.ownedTupleIsFree
  refine wpAny_bind (wpAny_field hz rfl (x := rawInt a) rfl ?_)
  show wpAny _ _ (loadIfAlive ((a : Int).toNat) >>= _) _ _ _
  rw [Int.toNat_natCast]
  refine wpAny_bind (alive ?_)
  rw [ha]
  show wpAny _ _ (field (.ref z) 1 >>= _) _ _ _
  refine wpAny_bind (wpAny_field hz rfl (x := .bool b) rfl ?_)
  cases b with
  | true =>
    show wpAny _ _ (pure false) _ _ _
    exact wpAny_pure (h s.heap hz (Heap.SameBut.refl _ _))
  | false =>
    show wpAny _ _ (setField (.ref z) 1 (.bool true) >>= fun _ => pure false) _ _ _
    exact wpAny_bind (wpAny_setField_rec hz (by simp) fun h1 hz1 hs1 => wpAny_pure (h h1 hz1 hs1))
/-- the next pair of a zip whose tuple is out -/
theorem nextOut {z TI TO i1 i2 l1 l2 a : Addr} {k : Nat} {b : Bool} {oa : Obj} {xs ys : Array Value} {x y : Value} {Q : Option Value → Shared → Prop} (D : ZipApart z TI TO i1 i2 l1 l2)
    (hz : s.heap.get? z = some (zObj (rawInt a) b TI TO)) (ha : s.heap.get? a = some oa) (hTI : IsPair s.heap TI (.ref i1) (.ref i2))
    (h1 : s.heap.IsTupleIter i1 l1 k) (h2 : s.heap.IsTupleIter i2 l2 k) (hl1 : s.heap.IsTuple l1 xs) (hl2 : s.heap.IsTuple l2 ys) (hx : xs[k]? = some x) (hy : ys[k]? = some y)
    (hQ : ∀ h', h'.get? z = some (zObj (rawInt a) true TI TO) → h'.IsTupleIter i1 l1 (k + 1) → h'.IsTupleIter i2 l2 (k + 1) → IsPair h' s.heap.objs.size x y → h'.objs.size = s.heap.objs.size + 1 →
      (∀ c o, c ≠ z → c ≠ i1 → c ≠ i2 → s.heap.get? c = some o → h'.get? c = some o) → Q (some (.ref s.heap.objs.size)) { s with heap := h' }) : wpAny (model prog w) A (pyNext (.ref z)) Q E s := by
  have hT : s.TypeIs (.ref z) "zip" := ⟨_, hz, rfl⟩
  unfold pyNext
  refine wpAny_bind (wpAny_attempt (wpAny_callSpecial?_slot (name := Str.ofString "__next__") hT F.slot_zip_next (wpAny_call_entry F.slot_zip_next hT F.entry_zip_next ?_ (F.args_zip_next_1 _))))
  show wpAny _ _ (field (.ref z) 2 >>= _) _ _ _
  refine wpAny_bind (wpAny_field hz rfl (x := .bool false) rfl ?_)
  show wpAny _ _ (field (.ref z) 3 >>= _) _ _ _
  refine wpAny_bind (wpAny_field hz rfl (x := .ref TI) rfl ?_)
  refine wpAny_bind (wpAny_seqItems hTI rfl ?_)
  show wpAny _ _ (Builtin.SmallTypes.ownedTupleIsFree (.ref z) >>= _) _ _ _
  refine wpAny_bind (notFree hz ha fun g hg sg => ?_)
  simp only [Bool.false_eq_true, if_false]
  refine wpAny_bind ?_
  rw [← Array.forIn_toList]
  simp only [List.forIn_cons, List.forIn_nil]
  refine wpAny_bind (wpAny_bind (wpAny_holding ?_))
  show wpAny _ _ (Builtin.SmallTypes.nextOf (.ref i1) >>= _) _ _ _
  refine wpAny_bind (RZ.nextOf_tuple_item (h1.extBut sg.extBut D.i1z) (hl1.extBut sg.extBut D.l1z) hx fun g2 j1 sg2 => wpAny_pure ?_)
  refine wpAny_pure ?_
  refine wpAny_bind (wpAny_bind (wpAny_holding ?_))
  show wpAny _ _ (Builtin.SmallTypes.nextOf (.ref i2) >>= _) _ _ _
  refine wpAny_bind (RZ.nextOf_tuple_item ((h2.extBut sg.extBut D.i2z).extBut sg2.extBut D.i12.symm) ((hl2.extBut sg.extBut D.l2z).extBut sg2.extBut D.l2i1) hy fun g3 j2 sg3 => wpAny_pure ?_)
  refine wpAny_pure ?_
  refine wpAny_pure ?_
  show wpAny _ _ (newTuple [x, y] >>= fun v => ret v) _ _ _
  refine wpAny_bind (wpAny_newTuple ?_ (by show 2 ≤ sizeLine; decide))
  refine wpAny_pure ⟨_, rfl, wpAny_pure ?_⟩
  have z3 : g3.objs.size = s.heap.objs.size := by rw [sg3.1, sg2.1, sg.1]
  have up : ∀ c o, c ≠ z → c ≠ i1 → c ≠ i2 → s.heap.get? c = some o → g3.get? c = some o := fun c o n0 n1 n2 e => sg3.extBut _ _ n2 (sg2.extBut _ _ n1 (sg.extBut _ _ n0 e))
  show Q (some (.ref g3.objs.size)) { s with heap := g3.push { cls := .type "tuple", data := .seq #[x, y] } }
  have gg : IsPair (g3.push { cls := .type "tuple", data := .seq #[x, y] }) g3.objs.size x y := Heap.get?_push_size _ rfl
  rw [z3] at gg ⊢
  refine hQ _ (Heap.get?_push_of_some _ (sg3.extBut _ _ D.i2z.symm (sg2.extBut _ _ D.i1z.symm hg))) ((j1.extBut sg3.extBut D.i12).at fun o e => Heap.get?_push_of_some _ e) (j2.at fun o e => Heap.get?_push_of_some _ e) gg (by rw [Heap.size_push, z3]) fun c o n0 n1 n2 e => Heap.get?_push_of_some _ (up c o n0 n1 n2 e)
/-- such a zip at its end -/
theorem endOut {z TI TO i1 i2 l1 l2 a : Addr} {k : Nat} {b : Bool} {oa : Obj} {xs ys : Array Value} {Q : Option Value → Shared → Prop} (hh : A.handled = none) (D : ZipApart z TI TO i1 i2 l1 l2)
    (hz : s.heap.get? z = some (zObj (rawInt a) b TI TO)) (ha : s.heap.get? a = some oa) (hTI : IsPair s.heap TI (.ref i1) (.ref i2))
    (h1 : s.heap.IsTupleIter i1 l1 k) (h2 : s.heap.IsTupleIter i2 l2 k) (hl1 : s.heap.IsTuple l1 xs) (hl2 : s.heap.IsTuple l2 ys) (hx : xs[k]? = none)
    (hQ : ∀ h', (∀ c o, c ≠ z → c ≠ i1 → c ≠ i2 → s.heap.get? c = some o → h'.get? c = some o) → Q none { s with heap := h' }) : wpAny (model prog w) A (pyNext (.ref z)) Q E s := by
  have hT : s.TypeIs (.ref z) "zip" := ⟨_, hz, rfl⟩
  unfold pyNext
  refine wpAny_bind (wpAny_attempt (wpAny_callSpecial?_slot (name := Str.ofString "__next__") hT F.slot_zip_next (wpAny_call_entry F.slot_zip_next hT F.entry_zip_next ?_ (F.args_zip_next_1 _))))
  show wpAny _ _ (field (.ref z) 2 >>= _) _ _ _
  refine wpAny_bind (wpAny_field hz rfl (x := .bool false) rfl ?_)
  show wpAny _ _ (field (.ref z) 3 >>= _) _ _ _
  refine wpAny_bind (wpAny_field hz rfl (x := .ref TI) rfl ?_)
  refine wpAny_bind (wpAny_seqItems hTI rfl ?_)
  show wpAny _ _ (Builtin.SmallTypes.ownedTupleIsFree (.ref z) >>= _) _ _ _
  refine wpAny_bind (notFree hz ha fun g hg sg => ?_)
  simp only [Bool.false_eq_true, if_false]
  refine wpAny_bind ?_
  rw [← Array.forIn_toList]
  simp only [List.forIn_cons, List.forIn_nil]
  refine wpAny_bind (wpAny_bind (wpAny_holding ?_))
  show wpAny _ _ (Builtin.SmallTypes.nextOf (.ref i1) >>= _) _ _ _
  refine wpAny_bind (RZ.nextOf_tuple_end hh (h1.extBut sg.extBut D.i1z) (hl1.extBut sg.extBut D.l1z) hx fun g2 e sg2 he => ?_)
  obtain ⟨o, ho, hc⟩ := he
  refine wpAny_bind (wpAny_isInstance (T := "StopIteration") (b := true) ⟨o, ho, hc⟩ isSubtype_stop ?_)
  exact wpAny_pure (hQ g2 fun c o n0 n1 _ e => sg2 _ _ n1 (sg.extBut _ _ n0 e))
theorem nolen_zip : typeLookup (.type "zip") "__len__" = pure none := by rw [typeLookup_type, builtinLookup_eq_fast]; kernel_rfl
theorem nohint_zip : typeLookup (.type "zip") "__length_hint__" = pure none := by rw [typeLookup_type, builtinLookup_eq_fast]; kernel_rfl
/-- where the walk of a zip of two tuples stands -/
structure ZAt (h : Heap) (z TI TO i1 i2 l1 l2 S n0 : Addr) (xs ys : Array Value) (i : Nat) : Prop where
  own : (i = 0 ∧ IsZip h z TI TO .none ∧ ∃ a b, IsPair h TO a b) ∨ (0 < i ∧ ∃ b, h.get? z = some (zObj (rawInt n0) b TI TO))
  ti : IsPair h TI (.ref i1) (.ref i2)
  it1 : h.IsTupleIter i1 l1 i
  it2 : h.IsTupleIter i2 l2 i
  t1 : h.IsTuple l1 xs
  t2 : h.IsTuple l2 ys
  lst : ∃ acc c, h.get? S = some { cls := .type "list", dict := none, data := .seq acc c, slots := #[] } ∧ acc.toList = (List.range i).map fun j => Value.ref (n0 + j)
  sz : h.objs.size = n0 + i
  made : ∀ j, j < i → ∃ x y, xs[j]? = some x ∧ ys[j]? = some y ∧ IsPair h (n0 + j) x y
theorem loopZip {R : Result → Shared → Prop} {z TI TO i1 i2 l1 l2 S n0 : Addr} {xs ys : Array Value} {res : Value} (hh : A.handled = none) (D : ZipApart z TI TO i1 i2 l1 l2) (hn : xs.size = ys.size) (hl : xs.size ≤ sizeLine)
    (hS : S ≠ z ∧ S ≠ TO ∧ S ≠ i1 ∧ S ≠ i2 ∧ S ≠ TI ∧ S ≠ l1 ∧ S ≠ l2 ∧ S < n0) (hb : z < n0 ∧ TO < n0 ∧ i1 < n0 ∧ i2 < n0) :
    ∀ (k i : Nat) (s : Shared), xs.size - i = k → i ≤ xs.size → ZAt s.heap z TI TO i1 i2 l1 l2 S n0 xs ys i →
      (∀ h' tk, (∀ c o, c ≠ z → c ≠ TO → c ≠ i1 → c ≠ i2 → c ≠ S → s.heap.get? c = some o → h'.get? c = some o) →
        (∃ acc c, h'.get? S = some { cls := .type "list", dict := none, data := .seq acc c, slots := #[] } ∧ acc.toList = (List.range xs.size).map fun j => Value.ref (n0 + j)) →
        (∀ j, j < xs.size → ∃ x y, xs[j]? = some x ∧ ys[j]? = some y ∧ IsPair h' (n0 + j) x y) → R (.ok (.ret res)) { s with heap := h', toks := tk }) →
      codeAny (model prog w) A (.builtin "list.extend.loop" ⟨[.ref S, .ref z, res], []⟩) R s := by
  obtain ⟨s1, s2, s3, s4, s5, s6, s7, s8⟩ := hS
  obtain ⟨b1, b2, b3, b4⟩ := hb
  have far : ∀ {c : Addr} {j : Nat}, c < n0 → n0 + j ≠ c := fun h => Nat.ne_of_gt (Nat.lt_of_lt_of_le h (Nat.le_add_right _ _))
  intro k
  induction k with
  | zero =>
    intro i s hk hi Z hR
    have hin : i = xs.size := by omega
    refine codeAny_builtin F.entry_extend_loop ?_
    rw [Around.under_plainId F.plain_extend_loop _]
    show wpAny _ A.in1 (pyNext (.ref z) >>= _) _ _ s
    have hx : xs[i]? = none := by rw [hin]; simp
    have fin : ∀ h' : Heap, (∀ c o, c ≠ z → c ≠ TO → c ≠ i1 → c ≠ i2 → s.heap.get? c = some o → h'.get? c = some o) → R (.ok (.ret res)) { s with heap := h' } := fun h' kp => by
      obtain ⟨acc, c, e, ea⟩ := Z.lst
      rw [hin] at ea
      refine hR h' s.toks (fun c o c1 c2 c3 c4 _ e => kp c o c1 c2 c3 c4 e) ⟨acc, c, kp _ _ s1 s2 s3 s4 e, ea⟩ fun j hj => ?_
      obtain ⟨x, y, e1, e2, e3⟩ := Z.made j (by omega)
      exact ⟨x, y, e1, e2, kp _ _ (far b1) (far b2) (far b3) (far b4) e3⟩
    rcases Z.own with ⟨_, hz, a, b, hTO⟩ | ⟨h0, b, hz⟩
    · refine wpAny_bind (RZ.pyNext_zipT_end hh D hz Z.ti hTO Z.it1 Z.it2 Z.t1 Z.t2 (.inl hx) fun h' kp => wpAny_pure ?_)
      exact fin h' kp
    · obtain ⟨_, _, _, _, e3⟩ := Z.made 0 h0
      refine wpAny_bind (endOut hh D hz e3 Z.ti Z.it1 Z.it2 Z.t1 Z.t2 hx fun h' kp => wpAny_pure ?_)
      exact fin h' fun c o c1 _ c3 c4 e => kp c o c1 c3 c4 e
  | succ k ih =>
    intro i s hk hi Z hR
    have hlt : i < xs.size := by omega
    refine codeAny_builtin F.entry_extend_loop ?_
    rw [Around.under_plainId F.plain_extend_loop _]
    show wpAny _ A.in1 (pyNext (.ref z) >>= _) _ _ s
    have hx : xs[i]? = some xs[i] := by simp [hlt]
    have hy : ys[i]? = some (ys[i]'(by omega)) := by simp
    generalize ys[i]'(by omega) = y at hy
    generalize xs[i] = x at hx
    -- behind the next pair
    have step : ∀ h' : Heap, (∃ b, h'.get? z = some (zObj (rawInt n0) b TI TO)) → h'.IsTupleIter i1 l1 (i + 1) → h'.IsTupleIter i2 l2 (i + 1) → IsPair h' s.heap.objs.size x y → h'.objs.size = s.heap.objs.size + 1 →
        (∀ c o, c ≠ z → c ≠ TO → c ≠ i1 → c ≠ i2 → s.heap.get? c = some o → h'.get? c = some o) →
        wpAny (model prog w) A.in1 (updateSeq S (·.push (.ref s.heap.objs.size)) >>= fun _ => again (.builtin "list.extend.loop" ⟨[.ref S, .ref z, res], []⟩))
          (fun fin s' => match fin with | .done f => R (.ok f) s' | .again c' => c'.quiet = true ∧ codeAny (model prog w) A c' R s') (fun e s' => R (.error e) s') { s with heap := h' } := by
      intro h' hz j1 j2 hp sz kp
      obtain ⟨acc, c, e, ea⟩ := Z.lst
      have e' := kp _ _ s1 s2 s3 s4 e
      have la : acc.size = i := by rw [← Array.length_toList, ea, List.length_map, List.length_range]
      have oth : ∀ b o, b ≠ S → h'.get? b = some o → (h'.update S (Obj.mapSeq (·.push (.ref s.heap.objs.size)))).get? b = some o := fun b o hb e => (Heap.get?_update_other _ _ (Ne.symm hb)).trans e
      refine wpAny_bind ?_
      refine wpAny_updateSeq e' rfl (wpAny_pure ⟨plainId_quiet F.plain_extend_loop _, ih (i + 1) _ (by omega) hlt ?_ fun h'' tk kp2 q2 q3 => ?_⟩)
        (by rw [la]; omega) (by show (acc.push _).size ≤ sizeLine + 1; rw [Array.size_push, la]; omega)
      · refine ⟨.inr ⟨Nat.succ_pos _, ?_⟩, oth _ _ (Ne.symm s5) (kp _ _ D.TIz D.TITO D.TIi1 D.TIi2 Z.ti), j1.at fun o e => oth _ o (Ne.symm s3) e, j2.at fun o e => oth _ o (Ne.symm s4) e, ?_, ?_, ⟨_, _, Heap.get?_update_self _ e' rfl, ?_⟩, ?_, fun j hj => ?_⟩
        · obtain ⟨b, hz⟩ := hz
          exact ⟨b, oth _ _ (Ne.symm s1) hz⟩
        · obtain ⟨o, q, r⟩ := Z.t1
          exact ⟨o, oth _ _ (Ne.symm s6) (kp _ _ D.l1z D.l1TO D.l1i1 D.l1i2 q), r⟩
        · obtain ⟨o, q, r⟩ := Z.t2
          exact ⟨o, oth _ _ (Ne.symm s7) (kp _ _ D.l2z D.l2TO D.l2i1 D.l2i2 q), r⟩
        · rw [Array.toList_push, ea, List.range_succ, List.map_append, Z.sz]
          rfl
        · show (h'.update S _).objs.size = _
          rw [Heap.size_update, sz, Z.sz]
          rfl
        · by_cases hji : j < i
          · obtain ⟨x', y', e1, e2, e3⟩ := Z.made j hji
            exact ⟨x', y', e1, e2, oth _ _ (far s8) (kp _ _ (far b1) (far b2) (far b3) (far b4) e3)⟩
          · have hj : j = i := by omega
            subst hj
            refine ⟨x, y, hx, hy, oth _ _ (far s8) ?_⟩
            rw [← Z.sz]
            exact hp
      · exact hR h'' tk (fun c o c1 c2 c3 c4 c5 e => kp2 c o c1 c2 c3 c4 c5 (oth _ _ c5 (kp _ _ c1 c2 c3 c4 e))) q2 q3
    rcases Z.own with ⟨h0, hz, a, b, hTO⟩ | ⟨h0, b, hz⟩
    · refine wpAny_bind (RZ.pyNext_zipT_item D hz Z.ti hTO Z.it1 Z.it2 Z.t1 Z.t2 hx hy fun h' q1 q2 q3 q4 q5 q6 kp => ?_)
      refine step h' ⟨false, ?_⟩ q3 q4 q5 q6 kp
      have e0 : s.heap.objs.size = n0 := by rw [Z.sz, h0]; rfl
      rw [← e0]
      exact q1
    · obtain ⟨_, _, _, _, e3⟩ := Z.made 0 h0
      refine wpAny_bind (nextOut D hz e3 Z.ti Z.it1 Z.it2 Z.t1 Z.t2 hx hy fun h' q1 q3 q4 q5 q6 kp => ?_)
      exact step h' ⟨true, q1⟩ q3 q4 q5 q6 fun c o c1 _ c3 c4 e => kp c o c1 c3 c4 e
/-- list(z), z a zip just made -/
theorem callZip {z TI TO i1 i2 l1 l2 : Addr} {xs ys : Array Value} {Q : Value → Shared → Prop} (hh : A.handled = none) (D : ZipApart z TI TO i1 i2 l1 l2) (hn : xs.size = ys.size) (hl : xs.size ≤ sizeLine)
    (hz : IsZip s.heap z TI TO .none) (hTI : IsPair s.heap TI (.ref i1) (.ref i2)) (hTO : IsPair s.heap TO .none .none) (h1 : s.heap.IsTupleIter i1 l1 0) (h2 : s.heap.IsTupleIter i2 l2 0) (t1 : s.heap.IsTuple l1 xs) (t2 : s.heap.IsTuple l2 ys)
    (hQ : ∀ h' tk, (∀ c o, c ≠ z → c ≠ TO → c ≠ i1 → c ≠ i2 → s.heap.get? c = some o → h'.get? c = some o) →
        (∃ acc c, h'.get? s.heap.objs.size = some { cls := .type "list", dict := none, data := .seq acc c, slots := #[] } ∧ acc.toList = (List.range xs.size).map fun j => Value.ref (s.heap.objs.size + 1 + j)) →
        (∀ j, j < xs.size → ∃ x y, xs[j]? = some x ∧ ys[j]? = some y ∧ IsPair h' (s.heap.objs.size + 1 + j) x y) → Q (.ref s.heap.objs.size) { s with heap := h', toks := tk }) :
    wpAny (model prog w) A (call (.type "list") [.ref z]) Q E s := by
  refine callType_codes (Q₁ := fun obj s₁ => obj = .ref s.heap.objs.size ∧ s₁ = { s with heap := s.heap.push { cls := .type "list", data := .seq #[] } }) F.called_list (F.typeCall_list_1 _) F.entry_list_init (code_list_new _ ⟨rfl, rfl⟩) fun obj s₁ h₁ => ?_
  obtain ⟨rfl, rfl⟩ := h₁
  obtain ⟨o1, ho1, _⟩ := id h1
  obtain ⟨o2, ho2, _⟩ := id h2
  obtain ⟨p1, hp1, _⟩ := id t1
  obtain ⟨p2, hp2, _⟩ := id t2
  have hS : (s.heap.push { cls := .type "list", data := .seq #[] }).get? s.heap.objs.size = some { cls := .type "list", data := .seq #[] } := Heap.get?_push_size _ rfl
  have up : ∀ b o, s.heap.get? b = some o → (s.heap.push { cls := .type "list", data := .seq #[] }).get? b = some o := fun b o e => Heap.get?_push_of_some _ e
  have nS : ∀ {b o}, s.heap.get? b = some o → s.heap.objs.size ≠ b := fun e => Nat.ne_of_gt (Heap.lt_size e)
  refine ⟨⟨_, hS, rfl⟩, F.args_list_init_2 _ _, ?_⟩
  show wpAny _ A.in1.in1 (Builtin.List.listItems (.ref s.heap.objs.size) >>= fun old => Builtin.List.listUpdate (.ref s.heap.objs.size) (fun _ => #[]) >>= fun _ => letGo old.toList.reverse >>= fun _ => Builtin.List.listExtendWith (.ref s.heap.objs.size) (.ref z) .none) _ _ _
  refine wpAny_bind ?_
  unfold Builtin.List.listItems
  refine wpAny_bind (wpAny_seqItems hS rfl (wpAny_pure ?_))
  show wpAny _ A.in1.in1 (updateSeq s.heap.objs.size (fun _ => #[]) >>= fun _ => letGo (#[] : Array Value).toList.reverse >>= fun _ => Builtin.List.listExtendWith (.ref s.heap.objs.size) (.ref z) .none) _ _ _
  refine wpAny_bind (wpAny_updateSeq hS rfl ?_)
  have hS2 := Heap.get?_update_self (Obj.mapSeq (fun _ => (#[] : Array Value))) hS rfl
  generalize hg : (s.heap.push { cls := .type "list", data := .seq #[] }).update s.heap.objs.size (Obj.mapSeq (fun _ => (#[] : Array Value))) = g at hS2
  have up2 : ∀ b o, s.heap.get? b = some o → g.get? b = some o := fun b o e => by
    rw [← hg]
    exact (Heap.get?_update_other _ _ (nS e)).trans (up b o e)
  have sg : g.objs.size = s.heap.objs.size + 1 := by rw [← hg, Heap.size_update, Heap.size_push]
  refine wpAny_bind (wpAny_letGo ?_)
  have hT : ({ s with heap := g } : Shared).TypeIs (.ref z) "zip" := ⟨_, up2 _ _ hz, rfl⟩
  have hs1 : Builtin.List.listSameRef (.ref s.heap.objs.size) (.ref z) = false := by simp [Builtin.List.listSameRef, nS hz]
  show wpAny _ A.in1.in1 (Builtin.List.listExtendWith (.ref s.heap.objs.size) (.ref z) .none) _ _ { s with heap := g }
  unfold Builtin.List.listExtendWith
  refine wpAny_bind (wpAny_typeOf hT ?_)
  rw [if_neg (by rw [hs1]; decide)]
  refine wpAny_bind (wpAny_pyIter_zip (up2 _ _ hz) ?_)
  refine wpAny_bind (wpAny_holding ?_)
  unfold Builtin.List.listLengthHint
  refine wpAny_bind (wpAny_specialOf hT nolen_zip ?_)
  show wpAny _ _ (specialOf (Value.ref z) (Str.ofString "__length_hint__") >>= _) _ _ _
  refine wpAny_bind (wpAny_specialOf hT nohint_zip ?_)
  refine wpAny_pure ?_
  show wpAny _ _ (rule "list.extend.makes-room" >>= fun _ => Builtin.List.listTouch (.ref s.heap.objs.size) >>= fun _ => again (.builtin "list.extend.loop" ⟨[.ref s.heap.objs.size, .ref z, .none], []⟩)) _ _ _
  refine wpAny_bind (wpAny_rule ?_)
  refine wpAny_bind ?_
  show wpAny _ _ (updateSeq s.heap.objs.size (·.push .none) >>= fun _ => updateSeq s.heap.objs.size (·.pop)) _ _ _
  refine wpAny_bind (wpAny_updateSeq hS2 rfl ?_)
  have hS3 := Heap.get?_update_self (Obj.mapSeq (·.push Value.none)) hS2 rfl
  refine wpAny_updateSeq (hz := by seq_fits) hS3 rfl ?_
  have hS4 := Heap.get?_update_self (Obj.mapSeq (·.pop)) hS3 rfl
  generalize hg4 : ((g.update s.heap.objs.size (Obj.mapSeq (·.push Value.none))).update s.heap.objs.size (Obj.mapSeq (·.pop))) = g4 at hS4
  have up4 : ∀ b o, s.heap.get? b = some o → g4.get? b = some o := fun b o e => by
    rw [← hg4]
    exact (Heap.get?_update_other _ _ (nS e)).trans ((Heap.get?_update_other _ _ (nS e)).trans (up2 b o e))
  have sg4 : g4.objs.size = s.heap.objs.size + 1 := by rw [← hg4, Heap.size_update, Heap.size_update, sg]
  have lt1 : ∀ {b o}, s.heap.get? b = some o → b < s.heap.objs.size + 1 := fun e => Nat.lt_succ_of_lt (Heap.lt_size e)
  refine wpAny_pure ⟨plainId_quiet F.plain_extend_loop _, loopZip (n0 := s.heap.objs.size + 1) (S := s.heap.objs.size) (A := A.in1) hh D hn hl ⟨nS hz, nS hTO, nS ho1, nS ho2, nS hTI, nS hp1, nS hp2, Nat.lt_succ_self _⟩ ⟨lt1 hz, lt1 hTO, lt1 ho1, lt1 ho2⟩ xs.size 0 _ (by simp) (Nat.zero_le _)
    ⟨.inl ⟨rfl, up4 _ _ hz, _, _, up4 _ _ hTO⟩, up4 _ _ hTI, h1.at fun o e => up4 _ o e, h2.at fun o e => up4 _ o e, ⟨p1, up4 _ _ hp1, by assumption⟩, ⟨p2, up4 _ _ hp2, by assumption⟩, ⟨_, _, hS4, rfl⟩, sg4, fun j hj => absurd hj (Nat.not_lt_zero _)⟩ fun h' tk kp q2 q3 => ?_⟩
  exact ⟨rfl, hQ h' tk (fun c o c1 c2 c3 c4 e => kp c o c1 c2 c3 c4 (Ne.symm (nS e)) (up4 _ _ e)) q2 q3⟩
end
section
open L2
theorem vrefs (m : Addr) (n : Nat) : Vals (((List.range n).map fun j => m + 1 + j).map V.ref) ((List.range n).map fun j => Value.ref (m + 1 + j)) := by
  rw [List.map_map]
  generalize List.range n = l
  induction l with
  | nil => exact .nil
  | cons j l ih => exact .cons rfl ih
/-- list(zip(t, u)), t and u tuples of one length: a new list of new pairs -/
def rLstZip (K : PySem.W.Frag) : List V → Hp → VK → Prop := fun vs H Q => ∃ (a b : Addr) (xs ys : List V), vs = [.ref a, .ref b] ∧ SqT K H a xs ∧ SqT K H b ys ∧ xs.length = ys.length ∧
  ∀ (q : Addr) (ps : List Addr) (H3 : Hp), H q = none → (∀ p ∈ ps, H p = none) → Same H H3 → H3 q = some (.lst (ps.map V.ref)) → ps.length = xs.length →
    (∀ (i : Nat) (p : Addr), ps[i]? = some p → ∃ u v, xs[i]? = some u ∧ ys[i]? = some v ∧ H3 p = some (.tup [u, v])) → Q (.ref q) H3
variable {X : Cx}
theorem pe_lstZip {e1 e2 : Expr} {t : TA} {p p2 pos pos2 : Pos} (hc : X.calm = true) (hg : Gl X "list") (hm : X.mg "list" = none) (hg2 : Gl X "zip") (hm2 : X.mg "zip" = none) (ha : PA X [e1, e2] t)
    (hs : starEach [e1, e2] X.env = (false, eval e1 X.env) :: starEach [e2] X.env := by rfl)
    (hpl : (backTo pos2 (starEach [e2] X.env)).any (·.1) = false := by rfl)
    (hs2 : starEach [.Call (.Name "zip" p2) [e1, e2] [] pos2] X.env = (false, eval (.Call (.Name "zip" p2) [e1, e2] [] pos2) X.env) :: starEach [] X.env := by rfl) :
    PE X (.Call (.Name "list" p) [.Call (.Name "zip" p2) [e1, e2] [] pos2] [] pos) (tCB (rLstZip X.K) t) := by
  refine ⟨fun pins s σ H Q I h => ?_⟩
  refine PyProof.Rows.Call_ (ld_blt I hg hm PyProof.Rows.boot_list (PyProof.Rows.callWith_type1 (PyProof.Rows.args_cons (PyProof.Rows.Call_ (ld_blt I hg2 hm2 PyProof.Rows.boot_zip (PyProof.Rows.callWith_type1 (thn (ha.run pos2 pins s σ H _ I h) fun us s1 ⟨vs, H1, I1, r1, q1⟩ => ?_) hs hpl))) hs2) hs2 rfl))
  obtain ⟨a, b, xs, ys, ex, hqx, hqy, hlen, q⟩ := q1
  subst ex
  cases r1 with
  | cons r rr =>
    cases rr with
    | cons r' rr =>
      cases rr
      cases r
      cases r'
      obtain ⟨ix, rv1, p1, z1⟩ := I1.tuple hqx
      obtain ⟨iy, rv2, p2, _⟩ := I1.tuple hqy
      obtain ⟨o1, ho1, _⟩ := id p1
      obtain ⟨o2, ho2, _⟩ := id p2
      refine RZ.call_zipT (show s1.heap.IsTuple a ix.toArray from p1) (show s1.heap.IsTuple b iy.toArray from p2) fun h' hz hTI hTO h1 h2 hsz hk => ?_
      have nx : ix.toArray.size = xs.length := by rw [List.size_toArray, rv1.length]
      have ny : iy.toArray.size = ys.length := by rw [List.size_toArray, rv2.length]
      have w1 : h'.IsTuple a ix.toArray := by
        obtain ⟨o, e, r⟩ := p1
        exact ⟨o, hk _ _ e, r⟩
      have w2 : h'.IsTuple b iy.toArray := by
        obtain ⟨o, e, r⟩ := p2
        exact ⟨o, hk _ _ e, r⟩
      refine PyProof.Rows.args_nil ?_
      refine callZip (s := { s1 with heap := h' }) (I1.ok.hd hc) (PySem.W.ktu_apart s1.heap.objs.size a b (Heap.lt_size ho1) (Heap.lt_size ho2)) (by rw [nx, ny, hlen]) (by rw [nx]; exact z1) hz hTI hTO h1 h2 w1 w2 fun g tk kp ⟨acc, c, hS, ea⟩ made => ?_
      -- what is tracked then
      have base : ∀ {c o}, s1.heap.get? c = some o → g.get? c = some o := fun {c o} e => by
        have l : c < s1.heap.objs.size := Heap.lt_size e
        exact kp c o (Nat.ne_of_lt (Nat.lt_of_lt_of_le l (Nat.le_add_right _ _))) (Nat.ne_of_lt (Nat.lt_of_lt_of_le l (Nat.le_add_right _ _))) (Nat.ne_of_lt l) (Nat.ne_of_lt (Nat.lt_of_lt_of_le l (Nat.le_add_right _ _))) (hk c o e)
      have hsz' : h'.objs.size = s1.heap.objs.size + 5 := hsz
      generalize hm0 : h'.objs.size = m at hS made ea
      have lm : s1.heap.objs.size ≤ m := by rw [← hm0, hsz']; exact Nat.le_add_right _ _
      have old : ∀ {c o}, s1.heap.get? c = some o → c < m := fun e => Nat.lt_of_lt_of_le (Heap.lt_size e) lm
      have oldH : ∀ {c o}, H1 c = some o → c < m := fun e => Nat.lt_of_lt_of_le (I1.hok.lt e) lm
      have pick : ∀ j, j < xs.length → ∃ u v iu iv, xs[j]? = some u ∧ ys[j]? = some v ∧ ix[j]? = some iu ∧ iy[j]? = some iv ∧ RelV u iu ∧ RelV v iv ∧ IsPair g (m + 1 + j) iu iv := fun j hj => by
        obtain ⟨iu, iv, e1, e2, e3⟩ := made j (by rw [nx]; exact hj)
        have k1 : xs[j]? = some xs[j] := List.getElem?_eq_getElem hj
        have k2 : ys[j]? = some (ys[j]'(by omega)) := List.getElem?_eq_getElem (by omega)
        obtain ⟨u', f1, f2⟩ := rv1.get k1
        obtain ⟨v', f3, f4⟩ := rv2.get k2
        have e1' : ix[j]? = some iu := by simpa using e1
        have e2' : iy[j]? = some iv := by simpa using e2
        rw [e1'] at f1
        rw [e2'] at f3
        cases f1
        cases f3
        exact ⟨_, _, iu, iv, k1, k2, e1', e2', f2, f4, e3⟩
      let H3 : Hp := fun c => if c = m then some (.lst (((List.range xs.length).map fun j => m + 1 + j).map V.ref)) else if m < c ∧ c < m + 1 + xs.length then some (.tup [xs.getD (c - m - 1) .non, ys.getD (c - m - 1) .non]) else H1 c
      have hH0 : H3 m = some (.lst (((List.range xs.length).map fun j => m + 1 + j).map V.ref)) := if_pos rfl
      have hHt : ∀ j, j < xs.length → ∀ u v, xs[j]? = some u → ys[j]? = some v → H3 (m + 1 + j) = some (.tup [u, v]) := fun j hj u v e1 e2 => by
        have a1 : ¬ m + 1 + j = m := Nat.ne_of_gt (Nat.lt_of_lt_of_le (Nat.lt_succ_self m) (Nat.le_add_right _ _))
        have a2 : m < m + 1 + j ∧ m + 1 + j < m + 1 + xs.length := ⟨Nat.lt_of_lt_of_le (Nat.lt_succ_self m) (Nat.le_add_right _ _), Nat.add_lt_add_left hj _⟩
        have a3 : m + 1 + j - m - 1 = j := by rw [Nat.add_assoc, Nat.add_sub_cancel_left, Nat.add_sub_cancel_left]
        show (if m + 1 + j = m then _ else if m < m + 1 + j ∧ m + 1 + j < m + 1 + xs.length then _ else _) = _
        rw [if_neg a1, if_pos a2, a3]
        simp [List.getD, e1, e2]
      have hHo : ∀ c, c < m → H3 c = H1 c := fun c hc => by
        show (if c = m then _ else if m < c ∧ c < m + 1 + xs.length then _ else _) = _
        rw [if_neg (Nat.ne_of_lt hc), if_neg (fun z => absurd z.1 (Nat.not_lt_of_le (Nat.le_of_lt hc)))]
      have hHs : ∀ c o, H3 c = some o → c = m ∨ (∃ j, j < xs.length ∧ c = m + 1 + j) ∨ H1 c = some o := fun c o e => by
        by_cases c1 : c = m
        · exact .inl c1
        · by_cases c2 : m < c ∧ c < m + 1 + xs.length
          · refine .inr (.inl ⟨c - m - 1, ?_, ?_⟩)
            · have := c2.2
              have := c2.1
              simp only [Addr] at *
              omega
            · have := c2.1
              simp only [Addr] at *
              omega
          · have e' : (if c = m then some (HO.lst (((List.range xs.length).map fun j => m + 1 + j).map V.ref)) else if m < c ∧ c < m + 1 + xs.length then some (.tup [xs.getD (c - m - 1) .non, ys.getD (c - m - 1) .non]) else H1 c) = some o := e
            rw [if_neg c1, if_neg c2] at e'
            exact .inr (.inr e')
      have sH : Same H1 H3 := fun c o e => by rw [hHo c (oldH e)]; exact e
      refine I1.after ⟨.ref m, H3, rfl, I1.bare, ⟨fun c o e n _ _ => base e, fun c o e n _ _ => ⟨o.slots, base e⟩, fun c o e n _ => by rw [hHo c (old e)]; exact n, fun c o e _ => ⟨o, base e⟩, fun c zs e => sH _ _ e, fun c o u e => sH _ _ e, fun c ps e => ⟨#[], by rw [sH _ _ e]; simp⟩⟩, fun c o e => ?_, by rw [← hm0]; rfl, ?_⟩
      · rcases hHs c o e with rfl | ⟨j, hj, rfl⟩ | e1
        · rw [hH0] at e
          cases e
          refine ⟨by simp only [List.length_map, List.length_range]; exact z1, acc.toList, _, ?_, by rw [Array.toArray_toList]; exact hS⟩
          rw [ea, nx]
          exact vrefs _ _
        · obtain ⟨u, v, iu, iv, k1, k2, k3, k4, r1, r2, e3⟩ := pick j hj
          rw [hHt j hj u v k1 k2] at e
          cases e
          exact ⟨by show 2 ≤ sizeLine; decide, [iu, iv], .cons r1 (.cons r2 .nil), _, e3, rfl, _, rfl⟩
        · exact (I1.hok c o e1).stay (fun b u _ q => base q) (fun b q => sH _ _ q) fun b zs q => sH _ _ q
      · refine q m _ H3 (I1.hok.fresh lm) (fun c hc => ?_) sH hH0 (by simp) fun i c hc => ?_
        · obtain ⟨j, _, rfl⟩ := List.mem_map.mp hc
          exact I1.hok.fresh (Nat.le_trans lm (Nat.le_trans (Nat.le_succ m) (Nat.le_add_right _ _)))
        · rw [List.getElem?_map] at hc
          obtain ⟨j, e1, e2⟩ := Option.map_eq_some_iff.mp hc
          have hi : i < xs.length := by
            have := (List.getElem?_eq_some_iff.mp e1).1
            simpa using this
          have e1' : i = j := by
            rw [List.getElem?_range hi] at e1
            exact Option.some.inj e1
          subst e1'
          subst e2
          obtain ⟨u, v, _, _, k1, k2, _⟩ := pick i hi
          exact ⟨u, v, k1, k2, hHt i hi u v k1 k2⟩
end
end Wf
/-! Defs that are called where no repr is under way (guards are none): for the text that repr gives. -/
namespace Wf
open PySem PySem.Spec L2
section
variable {P : Program} {w : World} {K : PySem.W.Frag} {mg : Str → Option Value} {base : Heap} {CX : CXT} {k : Nat} {f : Addr} {fd : FuncData} {ps : List Str} {sp : Sp}
structure FnG (P : Program) (w : World) (K : PySem.W.Frag) (mg : Str → Option Value) (base : Heap) (CX : CXT) (k : Nat) (f : Addr) (fd : FuncData) (ps : List Str) (sp : Sp) : Prop where
  len : ∀ vs H Q E, sp vs H Q E → vs.length = ps.length
  run : ∀ (A : Around), A.guards = some [] → ∀ (outer : List Env) (s : Shared) (H : Hp) (args : Args) (us : List Value) (vs : List V) (Q : VK) (E : XK), Room k A → Env0 P w K mg base A outer s H →
    BindsTo s fd args (ps.zip us) → Vals vs us → sp vs H Q E → codeAny (model P w) A (.call (.ref f) args) (CR CX outer P w H s Q E) s
theorem FnG.of (F : FnOk P w K mg base CX k f fd ps sp) : FnG P w K mg base CX k f fd ps sp := ⟨F.len, fun A _ => F.run A⟩
end
/-! ### such a def called by its name -/
/-! ### repr of data -/
/-! ### the end of a law whose def wants that no guard is -/
theorem lawG {P : Program} {w : World} {K : PySem.W.Frag} {mg mb : Str → Option Value} {k : Nat} {fa a : Addr} {fd : FuncData} {x : Str} {sp : Sp} {s : Shared} {us : List Value} {ns : List Int}
    (KX : K.In s.heap) (hmg : s.heap.Ns mainGlobals mg) (hb : s.heap.Ns builtinsNs mb) (hbb : ∀ x : Str, x ≠ "__name__" → mb x = bootBuiltins x) (hlim : s.heap.NoLimit) (hg : s.gens = #[])
    (ha : s.heap.get? a = some { cls := .type "list", data := .seq us.toArray }) (hi : PyProof.Rows.IntsAre us ns) (hl : ns.length ≤ sizeLine) (hr : Room k callerA)
    (F : ∀ base : Heap, K.In base → base.Ns mainGlobals mg → FnG P w K mg base CX0 k fa fd [x] sp) (hbind : ∀ (s : Shared) (u : Value), BindsTo s fd ⟨[u], []⟩ [(x, u)])
    (hsp : ∀ H : Hp, Only H → SqL K H a (ns.map V.int) → sp [.ref a] H (fun v _ => v = .bl true) fun _ _ _ => False) :
    codeAny (model P w) callerA (.call (.ref fa) ⟨[.ref a], []⟩) (fun r s' => r = .ok (.ret (.bool true)) ∧ PySem.OldK s.heap s'.heap ∧ s'.os = s.os ∧ PyProof.Rows.AllBare s'.gens) s := by
  have rv := vals_ints hi
  -- over a heap that tracks the script at most
  have go : ∀ H : Hp, Only H → SqL K H a (ns.map V.int) → HOk P w H s.heap → (∀ b, H b ≠ none → b = a) → (H a ≠ none → K.lookup a = none) →
      codeAny (model P w) callerA (.call (.ref fa) ⟨[.ref a], []⟩) (fun r s' => r = .ok (.ret (.bool true)) ∧ PySem.OldK s.heap s'.heap ∧ s'.os = s.os ∧ PyProof.Rows.AllBare s'.gens) s := by
    intro H hO hS hok hA hK
    have notA : ∀ {b : Addr} {o : Obj} {es : Array DictEntry} {ep : Nat}, s.heap.get? b = some o → o.data = .dict es ep → H b = none := fun {b o es ep} e d => by
      by_cases hb : b = a
      · subst hb
        rw [ha] at e
        cases e
        cases d
      · cases q : H b with
        | none => rfl
        | some u => exact absurd (hA b (by rw [q]; exact fun z => nomatch z)) hb
    have nsK : ∀ {b : Addr} {m : Str → Option Value}, s.heap.Ns b m → (hidT s.heap H).Ns b m := fun {b m} n => by
      obtain ⟨o, es, ep, e, d, r⟩ := n
      exact ⟨o, es, ep, hidT_get e (notA e d), d, r⟩
    have hKb : K.In (hidT s.heap H) := fun b o e => by
      refine hidT_get (KX b o e) ?_
      by_cases hb : b = a
      · subst hb
        cases q : H b with
        | none => rfl
        | some u =>
          rw [hK (by rw [q]; exact fun z => nomatch z)] at e
          cases e
      · cases q : H b with
        | none => rfl
        | some u => exact absurd (hA b (by rw [q]; exact fun z => nomatch z)) hb
    obtain ⟨mc, l1, l2⟩ := hlim
    have e0 : Env0 P w K mg (hidT s.heap H) callerA [] s H :=
      ⟨rfl, ⟨hKb, nsK hmg, ⟨mb, nsK hb, hbb⟩, ⟨mc, nsK l1, l2⟩⟩, fun b o e => of_hidT e, Nat.le_of_eq (hidT_size _ _), trivial, fun b hb => (List.not_mem_nil hb).elim, hok, .of_eq hg⟩
    refine codeAny_mono ((F _ hKb (nsK hmg)).run callerA rfl [] s H ⟨[.ref a], []⟩ [.ref a] [.ref a] _ _ hr e0 (hbind s (.ref a)) (.cons rfl .nil) (hsp H hO hS)) fun r s' h => ?_
    cases r with
    | error e => exact False.elim h
    | ok fl =>
      cases fl with
      | next => exact False.elim h
      | brk => exact False.elim h
      | cont => exact False.elim h
      | ret u =>
        obtain ⟨v, H', os, bare, un, hok', r', q⟩ := h
        cases (show v = .bl true from q)
        cases (show u = Value.bool true from r')
        refine ⟨rfl, PySem.OldK.of_keep fun b o e => ?_, os, bare⟩
        rcases hO b with z | ⟨ob, xs, z⟩
        · exact un.keep b o e z (fun y => (List.not_mem_nil y).elim) (fun y => (List.not_mem_nil y).elim)
        · have e1 := (hok b _ z).1
          rw [e] at e1
          cases e1
          exact (hok' b _ (un.frzs b _ _ z)).1
  cases hk : K.lookup a with
  | some o =>
    have e := KX a o hk
    rw [ha] at e
    cases e
    refine go (fun _ => none) (fun _ => .inl rfl) (.inr ⟨_, us.toArray, _, hk, rfl, rfl, rfl, ?_, ?_⟩) (fun b u z => nomatch z) (fun b z => absurd rfl z) fun z => absurd rfl z
    · rw [List.size_toArray, hi.length]
      exact hl
    · simpa using rv
  | none =>
    let H : Hp := fun b => if b = a then some (.frz { cls := .type "list", data := .seq us.toArray } (.lst (ns.map V.int))) else none
    have h1 : H a = some (.frz { cls := .type "list", data := .seq us.toArray } (.lst (ns.map V.int))) := if_pos rfl
    have h0 : ∀ b, b ≠ a → H b = none := fun b hb => if_neg hb
    have hc : ∀ b, b = a ∨ H b = none := fun b => by
      by_cases hb : b = a
      · exact .inl hb
      · exact .inr (h0 b hb)
    refine go H (fun b => ?_) (.inl (.inr ⟨_, h1⟩)) (fun b u z => ?_) (fun b z => ?_) fun _ => hk
    · rcases hc b with rfl | z
      · exact .inr ⟨_, _, h1⟩
      · exact .inl z
    · rcases hc b with rfl | y
      · rw [h1] at z
        cases z
        exact ⟨ha, by rw [List.length_map]; exact hl, us, _, rv, ha⟩
      · rw [y] at z
        cases z
    · rcases hc b with y | y
      · exact y
      · exact absurd y z
theorem walkG {l : PySem.W.OpenLaw} {n k : Nat} {q : Program} {loose : List Str} {XP : (Str → Option Value) → Heap → Prop} {YP : World → Heap → Prop} {d : DefRec} {x : Str}
    (hn : l.most = some n) (hn2 : n ≤ sizeLine) (hdf : d.params.defaults = []) (hr : Room k callerA)
    (F : ∀ (w : World) (mg : Str → Option Value) (fa : Addr) (h : Heap), YP w h → h.Ns mainGlobals mg → mg d.name = some (.ref fa) →
      ∃ (K : PySem.W.Frag) (fd : FuncData) (sp : Sp), K.In h ∧ (∀ (s : Shared) (u : Value), BindsTo s fd ⟨[u], []⟩ [(x, u)]) ∧
        (∀ (H : Hp) (a : Addr) (ns : List Int), ns.length ≤ n → Only H → SqL K H a (ns.map V.int) → sp [.ref a] H (fun v _ => v = .bl true) fun _ _ _ => False) ∧
        ∀ base : Heap, K.In base → base.Ns mainGlobals mg → FnG l.prog w K mg base CX0 k fa fd [x] sp) :
    PySem.W.WalkO q loose XP YP l.row.toRowW d [] (fun f vs => PySem.call f vs) := by
  refine Att.attach_call hn hdf fun w s0 s1 mg mb fa o pm cd doc a vs ns G Y ho hd hcd hmg hobj hints hlen hg => ?_
  obtain ⟨K, fd, sp, KX, hb, hsp, hF⟩ := F w mg fa _ Y G.T.g hmg
  exact lawG KX G.T.g G.T.b G.T.builtins G.T.nolimit hg hobj hints (Nat.le_trans hlen hn2) hr hF hb fun H hO hS => hsp H a ns hlen hO hS
end Wf
/-! Data that never changes (None, truths, whole numbers, texts, tuples), and _law_alike. -/
namespace Wf
open PySem PySem.Spec L2
/-! ### what stands in tuples stays -/
def Tp (K : PySem.W.Frag) (H H' : Hp) : Prop := ∀ a xs, SqT K H a xs → SqT K H' a xs
theorem Tp.refl (K : PySem.W.Frag) (H : Hp) : Tp K H H := fun _ _ h => h
theorem Tp.trans {K : PySem.W.Frag} {H H1 H2 : Hp} (a : Tp K H H1) (b : Tp K H1 H2) : Tp K H H2 := fun x xs h => b x xs (a x xs h)
theorem Same.tp {K : PySem.W.Frag} {H H' : Hp} (s : Same H H') : Tp K H H' := fun a xs h => by
  rcases h with (h | ⟨o, h⟩) | h
  · exact .inl (.inl (s _ _ h))
  · exact .inl (.inr ⟨o, s _ _ h⟩)
  · exact .inr h
theorem same_new {H : Hp} {p : Addr} {o : HO} (h : H p = none) : Same H (upd H p o) := fun a u e => by
  rw [upd_ne (ne_of_none e h)]
  exact e
def NoT (H : Hp) (d : Addr) : Prop := ∀ xs, ¬ Rd H d (.tup xs)
theorem not_lst {H : Hp} {d : Addr} {ys : List V} (h : H d = some (.lst ys)) : NoT H d := fun xs r => by
  rcases r with r | ⟨o, r⟩ <;> rw [h] at r <;> cases r
theorem not_dK {H : Hp} {d : Addr} {ys : List (Key × V)} (h : H d = some (.dK ys)) : NoT H d := fun xs r => by
  rcases r with r | ⟨o, r⟩ <;> rw [h] at r <;> cases r
theorem But.tp {K : PySem.W.Frag} {ds : List Addr} {H H' : Hp} (b : But ds H H') (hd : ∀ d ∈ ds, NoT H d) : Tp K H H' := fun a xs h => by
  rcases h with h | h
  · have ha : a ∉ ds := fun z => hd a z xs h
    rcases h with h | ⟨o, h⟩
    · exact .inl (.inl (b _ _ ha h))
    · exact .inl (.inr ⟨o, b _ _ ha h⟩)
  · exact .inr h
theorem tp_upd {K : PySem.W.Frag} {H : Hp} {d : Addr} {o : HO} (h : NoT H d) : Tp K H (upd H d o) := But.tp (ds := [d]) (fun a u ha e => by
  rw [upd_ne (by intro z; subst z; exact ha List.mem_cons_self)]
  exact e) fun x hx => by
    rw [List.mem_singleton.mp hx]
    exact h
mutual
def noL : PyData → Bool
  | .none | .bool _ | .int _ => true
  | .str x => PyData.canLay0 (.str x)
  | .tuple ds => noLAll ds
  | .list _ | .dict _ => false
def noLAll : List PyData → Bool
  | [] => true
  | d :: ds => noL d && noLAll ds
end
mutual
def wt : PyData → Nat
  | .none | .bool _ | .int _ | .str _ | .dict _ => 1
  | .tuple ds => wtAll ds + 1
  | .list ds => wtAll ds + 1
def wtAll : List PyData → Nat
  | [] => 0
  | d :: ds => wt d + wtAll ds
end
section
variable {K : PySem.W.Frag} {H H' : Hp}
mutual
theorem Dp.tp (t : Tp K H H') : ∀ (d : PyData) (v : V), noL d = true → Dp K H v d → Dp K H' v d
  | .none, _, _, h => by cases h; exact .non
  | .bool b, _, _, h => by cases h; exact .bl b
  | .int i, _, _, h => by cases h; exact .int i
  | .str x, _, _, h => by cases h; exact .str x
  | .list _, _, n, _ => nomatch n
  | .dict _, _, _, h => by cases h
  | .tuple ds, _, n, h => by
    cases h with
    | tup hs ha => exact .tup (t _ _ hs) (DpAll.tp t ds _ n ha)
theorem DpAll.tp (t : Tp K H H') : ∀ (ds : List PyData) (vs : List V), noLAll ds = true → DpAll K H vs ds → DpAll K H' vs ds
  | [], _, _, h => by cases h; exact .nil
  | d :: ds, _, n, h => by
    have n2 : (noL d && noLAll ds) = true := n
    rw [Bool.and_eq_true] at n2
    cases h with
    | cons h1 h2 => exact .cons (Dp.tp t d _ n2.1 h1) (DpAll.tp t ds _ n2.2 h2)
end
theorem DpAll.len : ∀ {vs : List V} {ds : List PyData}, DpAll K H vs ds → vs.length = ds.length
  | _, _, .nil => rfl
  | _, _, .cons _ h => congrArg (· + 1) (DpAll.len h)
theorem DpAll.get : ∀ {vs : List V} {ds : List PyData} {i : Nat} {d : PyData}, DpAll K H vs ds → ds[i]? = some d → ∃ v, vs[i]? = some v ∧ Dp K H v d
  | _, _, _, _, .nil, e => by simp at e
  | _, _, 0, _, .cons h _, e => by simp at e; subst e; exact ⟨_, rfl, h⟩
  | _, _, i + 1, _, .cons _ h, e => by
    obtain ⟨v, e1, e2⟩ := DpAll.get (i := i) h (by simpa using e)
    exact ⟨v, by simpa using e1, e2⟩
theorem DpAll.getV : ∀ {vs : List V} {ds : List PyData} {i : Nat} {v : V}, DpAll K H vs ds → vs[i]? = some v → ∃ d, ds[i]? = some d ∧ Dp K H v d
  | _, _, _, _, .nil, e => by simp at e
  | _, _, 0, _, .cons h _, e => by simp at e; subst e; exact ⟨_, rfl, h⟩
  | _, _, i + 1, _, .cons _ h, e => by
    obtain ⟨d, e1, e2⟩ := DpAll.getV (i := i) h (by simpa using e)
    exact ⟨d, by simpa using e1, e2⟩
theorem DpAll.append : ∀ {vs ws : List V} {ds es : List PyData}, DpAll K H vs ds → DpAll K H ws es → DpAll K H (vs ++ ws) (ds ++ es)
  | _, _, _, _, .nil, h => h
  | _, _, _, _, .cons h1 h2, h => .cons h1 (DpAll.append h2 h)
theorem noLAll_get : ∀ {ds : List PyData} {i : Nat} {d : PyData}, noLAll ds = true → ds[i]? = some d → noL d = true
  | [], _, _, _, e => by simp at e
  | c :: ds, 0, d, n, e => by
    simp at e
    subst e
    exact (Bool.and_eq_true_iff.mp (show (noL c && noLAll ds) = true from n)).1
  | c :: ds, i + 1, d, n, e => noLAll_get (i := i) (Bool.and_eq_true_iff.mp (show (noL c && noLAll ds) = true from n)).2 (by simpa using e)
/-! ### isinstance of data -/
def tyN : PyData → String
  | .none => "NoneType" | .bool _ => "bool" | .int _ => "int" | .str _ => "str" | .tuple _ => "tuple" | .list _ => "list" | .dict _ => "dict"
theorem Dp.ty {d : PyData} {v : V} (n : noL d = true) (h : Dp K H v d) : TyX K H v (.type (tyN d)) := by
  cases h with
  | non => exact .base .non
  | bl b => exact .base (.bl b)
  | int i => exact .base (.int i)
  | str x => exact .base (.str x)
  | lst hs ha => exact nomatch n
  | tup hs ha =>
    rcases hs with (h | ⟨o, h⟩) | ⟨o, its, m, hk, hc, _⟩
    · exact .base (.tup h)
    · exact .fTuple h
    · exact .kTuple hk hc
theorem isi {d : PyData} {v : V} {T : String} {b : Bool} {Q : VK} (n : noL d = true) (h : Dp K H v d) (hb : kitB (tyN d) T = some b) (q : Q (.bl b) H) : rIsi K [v, .ty T] H Q :=
  ⟨v, .ty T, _, _, b, rfl, .ty T, Dp.ty n h, kit_ty hb, q⟩
theorem cb_isi {σ : St} {i : Nat} {d : PyData} {v : V} {T : String} {b : Bool} {Q : VK} (hv : σ[i]? = some (some v)) (n : noL d = true) (h : Dp K H v d) (hb : kitB (tyN d) T = some b) (q : Q (.bl b) H) :
    tCB (rIsi K) (tCons (tVar i) (tCons (tC (.ty T)) tNil)) σ H Q := ⟨v, hv, isi n h hb q⟩
/-- two looks of one kind at the same data: not unlike -/
theorem ne_isi {σ : St} {i j : Nat} {d : PyData} {v u : V} {T : String} {b : Bool} {Q : Bool → Hp → Prop} (hv : σ[i]? = some (some v)) (hu : σ[j]? = some (some u)) (n : noL d = true) (h1 : Dp K H v d) (h2 : Dp K H u d) (hb : kitB (tyN d) T = some b) (q : Q false H) :
    tTest (tOp rNe (tCB (rIsi K) (tCons (tVar i) (tCons (tC (.ty T)) tNil))) (tCB (rIsi K) (tCons (tVar j) (tCons (tC (.ty T)) tNil)))) σ H Q :=
  cb_isi hv n h1 hb (cb_isi hu n h2 hb ⟨rfl, false, by rw [decide_eq_true rfl]; rfl, q⟩)
end
/-! ### _law_alike: the same data twice -/
def t_alike (K : PySem.W.Frag) : TS :=
  tSeq (tAsg (tLst (tCons (tTup (tCons (tVar 0) (tCons (tVar 1) (tNil)))) (tNil))) (gName 2))
    (tSeq (tWhile (tTest (tOp qGt (tCB (qLen K) (tCons (tVar 2) (tNil))) (tC (.int 0)))) (tSeq (tAsg (tBM0 K "list" rPop (tVar 2)) (gTup K 2 (gCons (gName 3) (gCons (gName 4) (gNil)))))
    (tSeq (tIfS (tOr (tTest (tOp rNe (tCB (rIsi K) (tCons (tVar 3) (tCons (tC (.ty "bool")) (tNil)))) (tCB (rIsi K) (tCons (tVar 4) (tCons (tC (.ty "bool")) (tNil)))))) (tTest (tOp rNe (tCB (rIsi K) (tCons (tVar 3) (tCons (tC (.ty "tuple")) (tNil)))) (tCB (rIsi K) (tCons (tVar 4) (tCons (tC (.ty "tuple")) (tNil))))))) (tRet (tC (.bl false))) (tNext))
    (tSeq (tIfS (tOr (tTest (tOp rNe (tCB (rIsi K) (tCons (tVar 3) (tCons (tC (.ty "list")) (tNil)))) (tCB (rIsi K) (tCons (tVar 4) (tCons (tC (.ty "list")) (tNil)))))) (tTest (tOp rNe (tCB (rIsi K) (tCons (tVar 3) (tCons (tC (.ty "str")) (tNil)))) (tCB (rIsi K) (tCons (tVar 4) (tCons (tC (.ty "str")) (tNil))))))) (tRet (tC (.bl false))) (tNext))
    (tSeq (tIfS (tTest (tOp rNe (tCB (rIsi K) (tCons (tVar 3) (tCons (tC (.ty "int")) (tNil)))) (tCB (rIsi K) (tCons (tVar 4) (tCons (tC (.ty "int")) (tNil)))))) (tRet (tC (.bl false))) (tNext))
    (tIfS (tB (tCB (rIsiT K) (tCons (tVar 4) (tCons (tTup (tCons (tC (.ty "tuple")) (tCons (tC (.ty "list")) (tNil)))) (tNil))))) (tSeq (tIfS (tTest (tOp rNe (tCB (qLen K) (tCons (tVar 3) (tNil))) (tCB (qLen K) (tCons (tVar 4) (tNil))))) (tRet (tC (.bl false))) (tNext))
    (tDrop (tBM K "list" rExtend (tVar 2) (tCons (tCB (Wf.rLstZip K) (tCons (tVar 3) (tCons (tVar 4) (tNil)))) (tNil))))) (tIfS (tTest (tOp (rNeD K) (tVar 3) (tVar 4))) (tRet (tC (.bl false))) (tNext))))))))
    (tRet (tC (.bl true))))
def sp_alike (K : PySem.W.Frag) : Sp := fun vs H Q _ => ∃ (x y : V) (d : PyData), vs = [x, y] ∧ Dp K H x d ∧ Dp K H y d ∧ noL d = true ∧ wt d ≤ 1000000 ∧ ∀ H', Same H H' → Q (.bl true) H'
theorem kit5 {d : PyData} (n : noL d = true) : (∃ b, kitB (tyN d) "bool" = some b) ∧ (∃ b, kitB (tyN d) "tuple" = some b) ∧ (∃ b, kitB (tyN d) "list" = some b) ∧ (∃ b, kitB (tyN d) "str" = some b) ∧ (∃ b, kitB (tyN d) "int" = some b) := by
  cases d with
  | none => exact ⟨⟨false, by decide +kernel⟩, ⟨false, by decide +kernel⟩, ⟨false, by decide +kernel⟩, ⟨false, by decide +kernel⟩, ⟨false, by decide +kernel⟩⟩
  | bool b => exact ⟨⟨true, by show kitB "bool" _ = _; decide +kernel⟩, ⟨false, by show kitB "bool" _ = _; decide +kernel⟩, ⟨false, by show kitB "bool" _ = _; decide +kernel⟩, ⟨false, by show kitB "bool" _ = _; decide +kernel⟩, ⟨true, by show kitB "bool" _ = _; decide +kernel⟩⟩
  | int b => exact ⟨⟨false, by show kitB "int" _ = _; decide +kernel⟩, ⟨false, by show kitB "int" _ = _; decide +kernel⟩, ⟨false, by show kitB "int" _ = _; decide +kernel⟩, ⟨false, by show kitB "int" _ = _; decide +kernel⟩, ⟨true, by show kitB "int" _ = _; decide +kernel⟩⟩
  | str b => exact ⟨⟨false, by show kitB "str" _ = _; decide +kernel⟩, ⟨false, by show kitB "str" _ = _; decide +kernel⟩, ⟨false, by show kitB "str" _ = _; decide +kernel⟩, ⟨true, by show kitB "str" _ = _; decide +kernel⟩, ⟨false, by show kitB "str" _ = _; decide +kernel⟩⟩
  | tuple b => exact ⟨⟨false, by show kitB "tuple" _ = _; decide +kernel⟩, ⟨true, by show kitB "tuple" _ = _; decide +kernel⟩, ⟨false, by show kitB "tuple" _ = _; decide +kernel⟩, ⟨false, by show kitB "tuple" _ = _; decide +kernel⟩, ⟨false, by show kitB "tuple" _ = _; decide +kernel⟩⟩
  | list b => exact nomatch n
  | dict b => exact nomatch n
/-- a pair that waits: where it stands, both, and what both are -/
structure Wt (K : PySem.W.Frag) (H : Hp) (p : Addr) (a b : V) (d : PyData) : Prop where
  at_ : H p = some (.tup [a, b])
  one : Dp K H a d
  two : Dp K H b d
  no : noL d = true
theorem Wt.tp {K : PySem.W.Frag} {H H' : Hp} {p : Addr} {a b : V} {d : PyData} (w : Wt K H p a b d) (t : Tp K H H') (h : H' p = some (.tup [a, b])) : Wt K H' p a b d := ⟨h, Dp.tp t d a w.no w.one, Dp.tp t d b w.no w.two, w.no⟩
abbrev Ent : Type := Addr × V × V × PyData
def Waits (K : PySem.W.Frag) (H : Hp) (es : List Ent) : Prop := ∀ e ∈ es, Wt K H e.1 e.2.1 e.2.2.1 e.2.2.2
def wts (es : List Ent) : Nat := (es.map fun e => wt e.2.2.2).sum
def mkE : List Addr → List V → List V → List PyData → List Ent
  | p :: ps, x :: xs, y :: ys, d :: ds => (p, x, y, d) :: mkE ps xs ys ds
  | _, _, _, _ => []
theorem mkE_fst : ∀ {ps : List Addr} {xs ys : List V} {ds : List PyData}, ps.length = ds.length → xs.length = ds.length → ys.length = ds.length → (mkE ps xs ys ds).map (fun e => V.ref e.1) = ps.map V.ref
  | [], _, _, [], _, _, _ => by simp [mkE]
  | _ :: _, [], _, _ :: _, _, h, _ => by simp at h
  | _ :: _, _ :: _, [], _ :: _, _, _, h => by simp at h
  | p :: ps, x :: xs, y :: ys, d :: ds, h1, h2, h3 => by
    have ih := mkE_fst (ps := ps) (xs := xs) (ys := ys) (ds := ds) (by simpa using h1) (by simpa using h2) (by simpa using h3)
    simp only [mkE, List.map_cons, ih]
theorem mkE_wts : ∀ {ps : List Addr} {xs ys : List V} {ds : List PyData}, ps.length = ds.length → xs.length = ds.length → ys.length = ds.length → wts (mkE ps xs ys ds) = wtAll ds
  | [], _, _, [], _, _, _ => by simp [mkE, wts, wtAll]
  | _ :: _, [], _, _ :: _, _, h, _ => by simp at h
  | _ :: _, _ :: _, [], _ :: _, _, _, h => by simp at h
  | p :: ps, x :: xs, y :: ys, d :: ds, h1, h2, h3 => by
    have ih := mkE_wts (ps := ps) (xs := xs) (ys := ys) (ds := ds) (by simpa using h1) (by simpa using h2) (by simpa using h3)
    simp only [wts] at ih
    simp only [mkE, wts, wtAll, List.map_cons, List.sum_cons, ih]
theorem mkE_mem : ∀ {ps : List Addr} {xs ys : List V} {ds : List PyData} {e : Ent}, e ∈ mkE ps xs ys ds → ∃ i : Nat, ps[i]? = some e.1 ∧ xs[i]? = some e.2.1 ∧ ys[i]? = some e.2.2.1 ∧ ds[i]? = some e.2.2.2
  | [], _, _, _, _, h => by simp [mkE] at h
  | _ :: _, [], _, _, _, h => by simp [mkE] at h
  | _ :: _, _ :: _, [], _, _, h => by simp [mkE] at h
  | _ :: _, _ :: _, _ :: _, [], _, h => by simp [mkE] at h
  | p :: ps, x :: xs, y :: ys, d :: ds, e, h => by
    simp only [mkE, List.mem_cons] at h
    rcases h with rfl | h
    · exact ⟨0, rfl, rfl, rfl, rfl⟩
    · obtain ⟨i, h1, h2, h3, h4⟩ := mkE_mem h
      exact ⟨i + 1, by simpa using h1, by simpa using h2, by simpa using h3, by simpa using h4⟩
theorem wt_pos (d : PyData) : 1 ≤ wt d := by cases d <;> simp [wt]
theorem wts_len : ∀ es : List Ent, es.length ≤ wts es
  | [] => Nat.zero_le _
  | e :: es => by
    have ih := wts_len es
    have := wt_pos e.2.2.2
    simp only [wts] at ih
    simp only [wts, List.map_cons, List.sum_cons, List.length_cons]
    omega
theorem wtAll_len : ∀ ds : List PyData, ds.length ≤ wtAll ds
  | [] => Nat.zero_le _
  | d :: ds => by
    have ih := wtAll_len ds
    have := wt_pos d
    simp only [wtAll, List.length_cons]
    omega
theorem pure_alike {K : PySem.W.Frag} (vs : List V) (H : Hp) (Q : VK) (E : XK) (h : sp_alike K vs H Q E) : t_alike K (EndsQ Q) (sN 5 vs) H := by
  obtain ⟨x, y, d, rfl, hx, hy, hn, hw, k⟩ := h
  show t_alike K _ [some x, some y, none, none, none] H
  refine ⟨x, rfl, y, rfl, (by show 2 ≤ sizeLine; decide), fun p hp => ⟨(by show 1 ≤ sizeLine; decide), fun L hL => ?_⟩⟩
  have hpL : p ≠ L := ne_of_none upd_same hL
  have hLp : H L = none := by rw [upd_ne (Ne.symm hpL)] at hL; exact hL
  have s0 : Same H (upd (upd H p (.tup [x, y])) L (.lst [.ref p])) := Same.trans (same_new hp) (same_new hL)
  refine ⟨fun m σ H1 => ∃ (s3 s4 : Option V) (es : List Ent), σ = [some x, some y, some (.ref L), s3, s4] ∧ Same H H1 ∧ H1 L = some (.lst (es.map fun e => V.ref e.1)) ∧ Waits K H1 es ∧ m = wts es ∧ m ≤ 1000000, ⟨wt d, none, none, [(p, x, y, d)], rfl, s0, upd_same, ?_, by simp [wts], hw⟩, ?_⟩
  · intro e he
    rw [List.mem_singleton.mp he]
    exact ⟨by rw [upd_ne hpL]; exact upd_same, Dp.tp (Same.tp s0) d x hn hx, Dp.tp (Same.tp s0) d y hn hy, hn⟩
  rintro m σ H1 ⟨s3, s4, es, rfl, hS, hL1, hW, rfl, hm⟩
  refine ⟨_, rfl, _, (es.map fun e => V.ref e.1).length, rfl, .inl ⟨_, SqL.of hL1, rfl⟩, _, _, rfl, rfl, _, rfl, ?_⟩
  refine ifd (fun c => ?_) (fun c => ?_)
  · -- a turn
    have hpos : es ≠ [] := by
      rintro rfl
      exact absurd c (by decide)
    obtain ⟨es', e, rfl⟩ : ∃ es' e, es = es' ++ [e] := ⟨es.dropLast, es.getLast hpos, (List.dropLast_concat_getLast hpos).symm⟩
    obtain ⟨p, a, b, d⟩ := e
    have w := hW (p, a, b, d) (by simp)
    refine ⟨fun σ' H' => ∃ m', m' < wts (es' ++ [(p, a, b, d)]) ∧ _, fun _ _ h => h, ?_⟩
    refine ⟨_, rfl, .inl ⟨rfl, _, SqL.of hL1⟩, L, _, .ref p, rfl, rfl, hL1, ?_, ?_⟩
    · simp
    have e1 : ((es' ++ [(p, a, b, d)]).map fun e => V.ref e.1).dropLast = es'.map fun e => V.ref e.1 := by simp
    rw [e1]
    generalize hH2 : upd H1 L (.lst (es'.map fun e => V.ref e.1)) = H2
    have t12 : Tp K H1 H2 := by rw [← hH2]; exact tp_upd (not_lst hL1)
    have hS2 : Same H H2 := fun c o e => by
      rw [← hH2, upd_ne (ne_of_none e hLp)]
      exact hS c o e
    have hL2 : H2 L = some (.lst (es'.map fun e => V.ref e.1)) := by rw [← hH2]; exact upd_same
    have pn : ∀ {c zs}, H1 c = some (.tup zs) → H2 c = some (.tup zs) := fun {c zs} e => by
      rw [← hH2, upd_ne (ne_of e hL1 (by intro z; cases z))]
      exact e
    have w2 := w.tp t12 (pn w.at_)
    have hW2 : Waits K H2 es' := fun e he => (hW e (by simp [he])).tp t12 (pn (hW e (by simp [he])).at_)
    have hm2 : wts (es' ++ [(p, a, b, d)]) = wts es' + wt d := by simp [wts]
    refine ⟨p, [a, b], rfl, SqT.of w2.at_, rfl, a, _, rfl, b, _, rfl, rfl, ?_⟩
    obtain ⟨⟨b1, k1⟩, ⟨b2, k2⟩, ⟨b3, k3⟩, ⟨b4, k4⟩, ⟨b5, k5⟩⟩ := kit5 w2.no
    refine ne_isi rfl rfl w2.no w2.one w2.two k1 (iteF ?_)
    refine ne_isi rfl rfl w2.no w2.one w2.two k2 (iteF ?_)
    refine ne_isi rfl rfl w2.no w2.one w2.two k3 (iteF ?_)
    refine ne_isi rfl rfl w2.no w2.one w2.two k4 (iteF ?_)
    refine ne_isi rfl rfl w2.no w2.one w2.two k5 (iteF ?_)
    refine ⟨_, rfl, (by show 2 ≤ sizeLine; decide), fun tp htp => ?_⟩
    have t23 : Same H2 (upd H2 tp (.tup [.ty "tuple", .ty "list"])) := same_new htp
    generalize hH3 : upd H2 tp (.tup [.ty "tuple", .ty "list"]) = H3 at t23
    have htp3 : H3 tp = some (.tup [.ty "tuple", .ty "list"]) := by rw [← hH3]; exact upd_same
    have w3 := w2.tp (Same.tp t23) (t23 _ _ w2.at_)
    have hW3 : Waits K H3 es' := fun e he => (hW2 e he).tp (Same.tp t23) (t23 _ _ (hW2 e he).at_)
    have hS3 : Same H H3 := hS2.trans t23
    have hL3 := t23 _ _ hL2
    have nxt : ∀ (H5 : Hp) (s3 s4 : Option V) (es5 : List Ent), Same H H5 → H5 L = some (.lst (es5.map fun e => V.ref e.1)) → Waits K H5 es5 → wts es5 < wts (es' ++ [(p, a, b, d)]) →
        ∃ m', m' < wts (es' ++ [(p, a, b, d)]) ∧ ∃ (t3 t4 : Option V) (es : List Ent), [some x, some y, some (V.ref L), s3, s4] = [some x, some y, some (.ref L), t3, t4] ∧ Same H H5 ∧ H5 L = some (.lst (es.map fun e => V.ref e.1)) ∧ Waits K H5 es ∧ m' = wts es ∧ m' ≤ 1000000 :=
      fun H5 s3 s4 es5 q1 q2 q3 q4 => ⟨_, q4, s3, s4, es5, rfl, q1, q2, q3, rfl, by omega⟩
    have key : (∃ ds, d = .tuple ds) ∨ (SeqAt.shaped d = true ∧ PySem.W.kitAny K (.type (tyN d)) [.type "tuple", .type "list"] = some false) := by
      cases d with
      | list ds => exact nomatch w2.no
      | dict ds => exact nomatch w2.no
      | tuple ds => exact .inl ⟨ds, rfl⟩
      | none => exact .inr ⟨rfl, kitAny_cons (kit_ty (r := false) (by decide +kernel)) (fun _ => kitAny_cons (kit_ty (r := false) (by decide +kernel)) (fun _ => kitAny_nil) (fun z => nomatch z)) (fun z => nomatch z)⟩
      | bool b => exact .inr ⟨rfl, kitAny_cons (kit_ty (a := "bool") (r := false) (by decide +kernel)) (fun _ => kitAny_cons (kit_ty (a := "bool") (r := false) (by decide +kernel)) (fun _ => kitAny_nil) (fun z => nomatch z)) (fun z => nomatch z)⟩
      | int b => exact .inr ⟨rfl, kitAny_cons (kit_ty (a := "int") (r := false) (by decide +kernel)) (fun _ => kitAny_cons (kit_ty (a := "int") (r := false) (by decide +kernel)) (fun _ => kitAny_nil) (fun z => nomatch z)) (fun z => nomatch z)⟩
      | str b => exact .inr ⟨by have n := w2.no; simp only [noL] at n; simp [SeqAt.shaped, n, PyData.depth], kitAny_cons (kit_ty (a := "str") (r := false) (by decide +kernel)) (fun _ => kitAny_cons (kit_ty (a := "str") (r := false) (by decide +kernel)) (fun _ => kitAny_nil) (fun z => nomatch z)) (fun z => nomatch z)⟩
    rcases key with ⟨ds, rfl⟩ | ⟨hsh, hkit⟩
    rotate_left
    · refine ⟨b, tp, [.ty "tuple", .ty "list"], .type (tyN d), [.type "tuple", .type "list"], false, rfl, htp3, .cons (.ty _) (.cons (.ty _) .nil), Dp.ty w3.no w3.two, hkit, _, rfl, iteF ⟨_, rfl, _, rfl, d, d, w3.one, w3.two, hsh, hsh, _, rfl, ?_⟩⟩
      rw [SeqAt.eqv_refl d (SeqAt.canLay_of_shaped hsh)]
      exact iteF (nxt H3 _ _ es' hS3 hL3 hW3 (by rw [hm2]; have := wt_pos d; omega))
    · refine ⟨b, tp, [.ty "tuple", .ty "list"], .type "tuple", [.type "tuple", .type "list"], true, rfl, htp3, .cons (.ty _) (.cons (.ty _) .nil), Dp.ty w3.no w3.two, kitAny_cons (kit_ty (b := "tuple") (r := true) (by decide +kernel)) (fun z => nomatch z) (fun _ => rfl), _, rfl, iteT ?_⟩
      have c1 : Dp K H3 a (.tuple ds) := w3.one
      have c2 : Dp K H3 b (.tuple ds) := w3.two
      cases c1 with
      | tup hs1 ha1 =>
        cases c2 with
        | tup hs2 ha2 =>
          rename_i aa xs bb ys
          have l1 := DpAll.len ha1
          have l2 := DpAll.len ha2
          refine ⟨_, rfl, _, xs.length, rfl, .inr ⟨_, hs1, rfl⟩, _, rfl, _, ys.length, rfl, .inr ⟨_, hs2, rfl⟩, rfl, _, rfl, ?_⟩
          rw [l1, l2]
          refine iteNS rfl ?_
          refine ⟨_, rfl, .inl ⟨rfl, _, SqL.of hL3⟩, _, rfl, _, rfl, aa, bb, xs, ys, rfl, hs1, hs2, by rw [l1, l2], fun q ps H4 hq hps s34 hq4 hlen hget => ?_⟩
          have hL4 := s34 _ _ hL3
          have lp : ps.length = ds.length := by rw [hlen, l1]
          have hwd : wt (.tuple ds) = wtAll ds + 1 := by simp [wt]
          have hLq : L ≠ q := ne_of_none hL3 hq
          have big := wts_len es'
          have big2 : ps.length ≤ wtAll ds := by rw [lp]; exact wtAll_len ds
          refine ⟨L, q, _, _, rfl, rfl, hL4, hq4, ?_, ?_⟩
          · rw [List.length_map, List.length_map]
            exact Nat.le_trans (show es'.length + ps.length ≤ 1000000 by omega) (by decide)
          · have e5 : (es'.map fun e => V.ref e.1) ++ ps.map V.ref = (es' ++ mkE ps xs ys ds).map fun e => V.ref e.1 := by rw [List.map_append, mkE_fst lp l1 l2]
            rw [e5]
            have t45 : Tp K H4 (upd H4 L (.lst ((es' ++ mkE ps xs ys ds).map fun e => V.ref e.1))) := tp_upd (not_lst hL4)
            have t35 := (Same.tp s34).trans t45
            have pn5 : ∀ {c zs}, H4 c = some (.tup zs) → upd H4 L (.lst ((es' ++ mkE ps xs ys ds).map fun e => V.ref e.1)) c = some (.tup zs) := fun {c zs} e => by
              rw [upd_ne (ne_of e hL4 (by intro z; cases z))]
              exact e
            refine nxt _ _ _ (es' ++ mkE ps xs ys ds) (fun c o e => ?_) upd_same (fun e he => ?_) ?_
            · rw [upd_ne (ne_of_none e hLp)]
              exact s34 _ _ (hS3 _ _ e)
            · rcases List.mem_append.mp he with he | he
              · exact (hW3 e he).tp t35 (pn5 (s34 _ _ (hW3 e he).at_))
              · obtain ⟨i, i1, i2, i3, i4⟩ := mkE_mem he
                obtain ⟨u, v, g1, g2, g3⟩ := hget i _ i1
                rw [i2] at g1
                rw [i3] at g2
                cases g1
                cases g2
                have nd : noL e.2.2.2 = true := noLAll_get w3.no i4
                obtain ⟨u', f1, f2⟩ := DpAll.get ha1 i4
                obtain ⟨v', f3, f4⟩ := DpAll.get ha2 i4
                rw [i2] at f1
                rw [i3] at f3
                cases f1
                cases f3
                exact ⟨pn5 g3, Dp.tp t35 _ _ nd f2, Dp.tp t35 _ _ nd f4, nd⟩
            · rw [hm2, hwd]
              have : wts (es' ++ mkE ps xs ys ds) = wts es' + wtAll ds := by
                rw [← mkE_wts lp l1 l2]
                simp [wts]
              omega
  · exact k H1 hS
end Wf
/-! The books that the draws make. -/
namespace Wf
open PySem PySem.Spec L2
def dP (p : Int × Int) : PyData := .tuple [.int p.1, .int p.2]
theorem noL_dP (p : Int × Int) : noL (dP p) = true := rfl
theorem dP_new {K : PySem.W.Frag} {H : Hp} {p : Addr} {x y : Int} (h : H p = some (.tup [.int x, .int y])) : Dp K H (.ref p) (dP (x, y)) := .tup (SqT.of h) (.cons (.int x) (.cons (.int y) .nil))
theorem dP_at {K : PySem.W.Frag} {H : Hp} {v : V} {p : Int × Int} (h : Dp K H v (dP p)) : ∃ a, v = .ref a ∧ SqT K H a [.int p.1, .int p.2] := by
  cases h with
  | tup hs ha =>
    cases ha with
    | cons h1 h2 =>
      cases h2 with
      | cons h3 h4 =>
        cases h4
        cases h1
        cases h3
        exact ⟨_, rfl, hs⟩
/-! ### _law_pair -/
def pairF (f s : Int) (st : Int × Int) (a b : Int) : Int × Int :=
  if f = 0 then (b, a) else if f = 1 then (a, b) else if f = 2 then ((if b < a then b else a), (if b > a then b else a)) else if f = 3 then (b, (2 * b - a) % s) else ((b + st.2) % s, (a + st.1) % s)
def sp_pair (K : PySem.W.Frag) : Sp := fun vs H Q _ => ∃ (f s a b : Int) (v : V) (st : Int × Int), vs = [.int f, .int s, v, .int a, .int b] ∧ Dp K H v (dP st) ∧ 0 ≤ f ∧ f ≤ 4 ∧ 0 < s ∧
  ∀ u H', Same H H' → Dp K H' u (dP (pairF f s st a b)) → Q u H'
def t_pair (K : PySem.W.Frag) : TS :=
  tSeq (tAsg (tVar 2) (gTup K 2 (gCons (gName 6) (gCons (gName 7) (gNil)))))
    (tSeq (tAsg (tLst (tCons (tTup (tCons (tVar 4) (tCons (tVar 3) (tNil)))) (tCons (tTup (tCons (tVar 3) (tCons (tVar 4) (tNil)))) (tCons (tTup (tCons (tCB (qMin2) (tCons (tVar 3) (tCons (tVar 4) (tNil)))) (tCons (tCB (qMax2) (tCons (tVar 3) (tCons (tVar 4) (tNil)))) (tNil)))) (tCons (tTup (tCons (tVar 4) (tCons (tOp qMod (tOp qSub (tOp qMul (tC (.int 2)) (tVar 4)) (tVar 3)) (tVar 1)) (tNil)))) (tCons (tTup (tCons (tOp qMod (tOp qAdd (tVar 4) (tVar 7)) (tVar 1)) (tCons (tOp qMod (tOp qAdd (tVar 3) (tVar 6)) (tVar 1)) (tNil)))) (tNil))))))) (gName 5))
    (tRet (tOp (rIxL K) (tVar 5) (tVar 0))))
theorem pure_pair {K : PySem.W.Frag} (vs : List V) (H : Hp) (Q : VK) (E : XK) (h : sp_pair K vs H Q E) : t_pair K (EndsQ Q) (sN 8 vs) H := by
  obtain ⟨f, s, a, b, v, st, rfl, hv, f0, f4, hs, k⟩ := h
  show t_pair K _ [some (.int f), some (.int s), some v, some (.int a), some (.int b), none, none, none] H
  obtain ⟨x, rfl, hx⟩ := dP_at hv
  refine ⟨_, rfl, x, _, rfl, hx, rfl, _, _, rfl, _, _, rfl, rfl, ?_⟩
  refine ⟨_, rfl, _, rfl, (by show 2 ≤ sizeLine; decide), fun p0 h0 => ?_⟩
  refine ⟨_, rfl, _, rfl, (by show 2 ≤ sizeLine; decide), fun p1 h1 => ?_⟩
  refine ⟨_, rfl, _, rfl, _, _, rfl, _, rfl, _, rfl, _, _, rfl, (by show 2 ≤ sizeLine; decide), fun p2 h2 => ?_⟩
  refine ⟨_, rfl, _, rfl, _, _, rfl, rfl, .inl ⟨by decide, by decide⟩, _, rfl, _, _, rfl, rfl, _, rfl, _, _, rfl, rfl, hs, (by show 2 ≤ sizeLine; decide), fun p3 h3 => ?_⟩
  refine ⟨_, rfl, _, rfl, _, _, rfl, rfl, _, rfl, _, _, rfl, rfl, hs, _, rfl, _, rfl, _, _, rfl, rfl, _, rfl, _, _, rfl, rfl, hs, (by show 2 ≤ sizeLine; decide), fun p4 h4 => ?_⟩
  refine ⟨(by show 5 ≤ sizeLine; decide), fun L hL => ?_⟩
  have s0 := same_new (o := .tup [.int b, .int a]) h0
  have s1 := same_new (o := .tup [.int a, .int b]) h1
  have s2 := same_new (o := .tup [.int (if b < a then b else a), .int (if b > a then b else a)]) h2
  have s3 := same_new (o := .tup [.int b, .int ((2 * b - a) % s)]) h3
  have s4 := same_new (o := .tup [.int ((b + st.2) % s), .int ((a + st.1) % s)]) h4
  have sL := same_new (o := .lst [.ref p0, .ref p1, .ref p2, .ref p3, .ref p4]) hL
  have all := s0.trans (s1.trans (s2.trans (s3.trans (s4.trans sL))))
  have hf : f = 0 ∨ f = 1 ∨ f = 2 ∨ f = 3 ∨ f = 4 := by omega
  rcases hf with rfl | rfl | rfl | rfl | rfl
  · exact ⟨_, rfl, _, rfl, L, _, 0, .ref p0, rfl, rfl, SqL.of upd_same, rfl, k _ _ all (dP_new ((s1.trans (s2.trans (s3.trans (s4.trans sL)))) _ _ upd_same))⟩
  · exact ⟨_, rfl, _, rfl, L, _, 1, .ref p1, rfl, rfl, SqL.of upd_same, rfl, k _ _ all (dP_new ((s2.trans (s3.trans (s4.trans sL))) _ _ upd_same))⟩
  · exact ⟨_, rfl, _, rfl, L, _, 2, .ref p2, rfl, rfl, SqL.of upd_same, rfl, k _ _ all (dP_new ((s3.trans (s4.trans sL)) _ _ upd_same))⟩
  · exact ⟨_, rfl, _, rfl, L, _, 3, .ref p3, rfl, rfl, SqL.of upd_same, rfl, k _ _ all (dP_new ((s4.trans sL) _ _ upd_same))⟩
  · exact ⟨_, rfl, _, rfl, L, _, 4, .ref p4, rfl, rfl, SqL.of upd_same, rfl, k _ _ all (dP_new (sL _ _ upd_same))⟩
theorem atI_neg1 {α : Type} {xs : List α} (h : 0 < xs.length) : atI xs (-1) = xs[xs.length - 1]? := by
  have e : ixN xs.length (-1) = some (xs.length - 1) := by
    unfold ixN
    rw [if_neg (by decide), if_pos (by omega)]
    congr 1
    omega
  unfold atI
  rw [e]
  rfl
/-! ### _law_paces -/
def scan (f : Int) : List Int → List Int
  | [] => [f]
  | n :: ns => f :: scan (f + n) ns
theorem scan_len : ∀ (f : Int) (ns : List Int), (scan f ns).length = ns.length + 1
  | _, [] => rfl
  | f, n :: ns => by simp [scan, scan_len (f + n) ns]
theorem scan_app : ∀ (f : Int) (ns : List Int) (n : Int), scan f (ns ++ [n]) = scan f ns ++ [f + ns.sum + n]
  | f, [], n => by simp [scan]
  | f, m :: ns, n => by
    rw [List.cons_append, scan, scan_app (f + m) ns n, scan, List.cons_append, List.sum_cons]
    congr 3
    omega
theorem scan_last : ∀ (f : Int) (ns : List Int), (scan f ns)[ns.length]? = some (f + ns.sum)
  | f, [] => by simp [scan]
  | f, m :: ns => by
    rw [scan, List.length_cons, List.getElem?_cons_succ, scan_last (f + m) ns, List.sum_cons]
    congr 1
    omega
theorem sum_bounds : ∀ {ns : List Int} {B : Int}, (∀ x ∈ ns, 1 ≤ x ∧ x ≤ B) → (ns.length : Int) ≤ ns.sum ∧ ns.sum ≤ ns.length * B
  | [], _, _ => by simp
  | n :: ns, B, h => by
    have h1 := h n List.mem_cons_self
    have h2 := sum_bounds (fun x hx => h x (List.mem_cons_of_mem _ hx))
    rw [List.sum_cons, List.length_cons]
    have e : ((ns.length + 1 : Nat) : Int) * B = ns.length * B + B := by rw [Int.natCast_add, Int.add_mul]; simp
    rw [e]
    constructor <;> omega
theorem scan_mem : ∀ {ns : List Int} {f x : Int}, (∀ y ∈ ns, 1 ≤ y) → x ∈ scan f ns → f ≤ x ∧ x ≤ f + ns.sum
  | [], f, x, _, h => by
    simp [scan] at h
    simp
    omega
  | n :: ns, f, x, hn, h => by
    have h1 := hn n List.mem_cons_self
    have hn' : ∀ y ∈ ns, 1 ≤ y := fun y hy => hn y (List.mem_cons_of_mem _ hy)
    have hs : 0 ≤ ns.sum := by
      clear h hn
      induction ns with
      | nil => simp
      | cons m ms ih =>
        have := hn' m List.mem_cons_self
        have := ih fun y hy => hn' y (List.mem_cons_of_mem _ hy)
        rw [List.sum_cons]
        omega
    rw [List.sum_cons]
    rcases List.mem_cons.mp h with rfl | h
    · constructor <;> omega
    · have := scan_mem hn' h
      constructor <;> omega
theorem scan_rise : ∀ {ns : List Int} {f : Int}, (∀ y ∈ ns, 1 ≤ y) → (scan f ns).Pairwise (· < ·)
  | [], f, _ => by simp [scan]
  | n :: ns, f, hn => by
    have h1 := hn n List.mem_cons_self
    have hn' : ∀ y ∈ ns, 1 ≤ y := fun y hy => hn y (List.mem_cons_of_mem _ hy)
    rw [scan, List.pairwise_cons]
    refine ⟨fun x hx => ?_, scan_rise hn'⟩
    have := scan_mem hn' hx
    omega
structure PacesOk (m : Int) (ps : List Int) : Prop where
  len : (ps.length : Int) = m
  rise : ps.Pairwise (· < ·)
  lo : ∀ p ∈ ps, -1000 ≤ p ∧ p ≤ 1000
def dI (ps : List Int) : PyData := .tuple (ps.map .int)
theorem dp_ints {K : PySem.W.Frag} {H : Hp} : ∀ ns : List Int, DpAll K H (ns.map V.int) (ns.map PyData.int)
  | [] => .nil
  | n :: ns => .cons (.int n) (dp_ints ns)
theorem noLAll_ints : ∀ ns : List Int, noLAll (ns.map PyData.int) = true
  | [] => rfl
  | n :: ns => by simp [noLAll, noL, noLAll_ints ns]
def sp_paces (K : PySem.W.Frag) : Sp := fun vs H Q _ => ∃ (d l : Addr) (m : Int), vs = [.ref d, .int m] ∧ 1 ≤ m ∧ m ≤ 5 ∧ Deal H d l ∧
  ∀ (v : V) (ps : List Int) (H' : Hp), But [d, l] H H' → Deal H' d l → Dp K H' v (dI ps) → PacesOk m ps → Q v H'
theorem Deal.ne {H : Hp} {d l p : Addr} (h : Deal H d l) (hp : H p = none) : p ≠ d ∧ p ≠ l := by
  obtain ⟨s, m, n, ns, h1, h2, _⟩ := h.ex
  exact ⟨fun e => (by rw [e, h1] at hp; cases hp), fun e => (by rw [e, h2] at hp; cases hp)⟩
theorem But.at {H H' : Hp} {d l p : Addr} {o : HO} (b : But [d, l] H H') (n : p ≠ d ∧ p ≠ l) (h : H p = some o) : H' p = some o := b p o (by simp [n.1, n.2]) h
theorem But.new {ds : List Addr} {H H' : Hp} {p : Addr} {o : HO} (b : But ds H H') (hp : H p = none) : But ds H (upd H' p o) := fun a u n e => by
  rw [upd_ne (ne_of_none e hp)]
  exact b a u n e
theorem Deal.upd {H : Hp} {d l p : Addr} {o : HO} (h : Deal H d l) (n : p ≠ d ∧ p ≠ l) : Deal (upd H p o) d l := by
  obtain ⟨s, m, k, ns, h1, h2, h3⟩ := h.ex
  exact ⟨s, m, k, ns, by rw [upd_ne (Ne.symm n.1)]; exact h1, by rw [upd_ne (Ne.symm n.2)]; exact h2, h3⟩
theorem Deal.noT {H : Hp} {d l : Addr} (h : Deal H d l) : ∀ x ∈ [d, l], NoT H x := by
  obtain ⟨s, m, k, ns, h1, h2, h3⟩ := h.ex
  intro x hx
  rcases List.mem_cons.mp hx with rfl | hx
  · exact not_dK h1
  · rw [List.mem_singleton.mp hx]
    exact not_lst h2
def t_paces (K : PySem.W.Frag) (sp_draw : Sp) : TS :=
  tSeq (tAsg (tLst (tCons (tC (.int 2)) (tCons (tC (.int 9)) (tCons (tC (.int 400)) (tCons (tOp qFdiv (tC (.int 2000)) (tCB (qMax2) (tCons (tC (.int 1)) (tCons (tOp qSub (tVar 1) (tC (.int 1))) (tNil))))) (tNil)))))) (gName 2))
    (tSeq (tAsg (tLc (iRng1 (tCons (tOp qSub (tVar 1) (tC (.int 1))) (tNil))) (gName 6) (tYes) (tOp qAdd (tC (.int 1)) (tCall sp_draw [] E0 (tCons (tVar 0) (tCons (tOp (rIxL K) (tVar 2) (tCall sp_draw [] E0 (tCons (tVar 0) (tCons (tC (.int 4)) (tNil))))) (tNil))))) [6]) (gName 3))
    (tSeq (tAsg (tLst (tCons (tOp qSub (tCall sp_draw [] E0 (tCons (tVar 0) (tCons (tOp qSub (tC (.int 2001)) (tCB (rSum K) (tCons (tVar 3) (tNil)))) (tNil)))) (tC (.int 1000))) (tNil))) (gName 4))
    (tSeq (tFor (iList K (tVar 3)) (gName 5) (tDrop (tBM K "list" rAppend (tVar 4) (tCons (tOp qAdd (tOp (rIxL K) (tVar 4) (tUn qNeg (tC (.int 1)))) (tVar 5)) (tNil)))))
    (tRet (tCB (qTupleOf K) (tCons (tVar 4) (tNil)))))))
theorem pure_paces {K : PySem.W.Frag} (vs : List V) (H : Hp) (Q : VK) (E : XK) (h : sp_paces K vs H Q E) : t_paces K sp_draw (EndsQ Q) (sN 7 vs) H := by
  obtain ⟨d, l, m, rfl, m1, m5, hD, k⟩ := h
  show t_paces K sp_draw _ [some (.ref d), some (.int m), none, none, none, none, none] H
  have hM : 1 ≤ (if m - 1 > 1 then m - 1 else 1) ∧ (if m - 1 > 1 then m - 1 else 1) ≤ 4 := by split <;> omega
  generalize hMe : (if m - 1 > 1 then m - 1 else 1) = M at hM
  refine ⟨_, rfl, _, _, rfl, rfl, _, _, rfl, ?_⟩
  rw [hMe]
  refine ⟨_, _, rfl, rfl, ⟨by omega, by omega⟩, (by show 4 ≤ sizeLine; decide), fun W hW => ?_⟩
  have nW := hD.ne hW
  refine ⟨_, rfl, _, _, rfl, rfl, m - 1, rfl, by omega, by omega, fun D hDn => ?_⟩
  have hDW : W ≠ D := ne_of_none upd_same hDn
  have hD0 : H D = none := by rw [upd_ne (Ne.symm hDW)] at hDn; exact hDn
  have nD := hD.ne hD0
  have hB : 500 ≤ 2000 / M ∧ (m - 1) * (2000 / M) ≤ 2000 ∧ 2000 / M ≤ 2000 := by
    have hm : m = 1 ∨ m = 2 ∨ m = 3 ∨ m = 4 ∨ m = 5 := by omega
    rcases hm with rfl | rfl | rfl | rfl | rfl <;> (simp at hMe; subst hMe; decide)
  obtain ⟨B, hBe⟩ : ∃ B, B = 2000 / M := ⟨_, rfl⟩
  rw [← hBe] at hB
  refine lc_range (lo := 0) (n := (m - 1).toNat) (fun i H1 => But [d, l] H H1 ∧ Deal H1 d l ∧ H1 W = some (.lst [.int 2, .int 9, .int 400, .int B]) ∧ ∃ ns : List Int, H1 D = some (.lst (ns.map V.int)) ∧ ns.length = i ∧ ∀ x ∈ ns, 1 ≤ x ∧ x ≤ B) ?_ ?_ ?_
  · exact ⟨((But.refl _ _).new hW).new hD0, (hD.upd nW).upd nD, by rw [upd_ne hDW, hBe]; exact upd_same, [], upd_same, rfl, fun x hx => (List.not_mem_nil hx).elim⟩
  · rintro i H1 hi ⟨b1, d1, w1, ns, l1, ln, hns⟩
    refine ⟨rfl, ?_⟩
    simp only [tYes, ↓reduceIte]
    refine ⟨_, rfl, _, rfl, _, rfl, d, l, 4, rfl, by decide, by decide, d1, fun q H2 q0 q4 b2 d2 => ?_⟩
    have w2 := b2.at nW w1
    have l2 := b2.at nD l1
    have hq : ∃ z, atI [V.int 2, .int 9, .int 400, .int B] q = some (.int z) ∧ 1 ≤ z ∧ z ≤ B := by
      have hq : q = 0 ∨ q = 1 ∨ q = 2 ∨ q = 3 := by omega
      rcases hq with rfl | rfl | rfl | rfl
      · exact ⟨2, rfl, by omega, by omega⟩
      · exact ⟨9, rfl, by omega, by omega⟩
      · exact ⟨400, rfl, by omega, by omega⟩
      · exact ⟨B, rfl, by omega, by omega⟩
    obtain ⟨z, hz, z1, zB⟩ := hq
    refine ⟨W, _, q, .int z, rfl, rfl, SqL.of w2, hz, d, l, z, rfl, by omega, ?_, d2, fun r H3 r0 r1 b3 d3 => ?_⟩
    · omega
    have w3 := b3.at nW w2
    have l3 := b3.at nD l2
    refine ⟨_, _, rfl, rfl, _, l3, ?_, ?_⟩
    · rw [List.length_map, ln]
      exact Nat.lt_of_le_of_lt (show i ≤ 4 by omega) (by decide)
    · refine ⟨((b1.trans b2).trans b3).new hD0, d3.upd nD, by rw [upd_ne hDW]; exact w3, ns ++ [1 + r], ?_, by simp [ln], fun x hx => ?_⟩
      · rw [upd_same, List.map_append]
        rfl
      · rcases List.mem_append.mp hx with hx | hx
        · exact hns x hx
        · rw [List.mem_singleton.mp hx]
          omega
  · rintro H1 ⟨b1, d1, w1, ns, l1, ln, hns⟩
    have hsum := sum_bounds hns
    have hln : (ns.length : Int) = m - 1 := by omega
    rw [hln] at hsum
    refine ⟨_, rfl, _, rfl, D, ns, rfl, SqL.of l1, _, _, rfl, rfl, d, l, _, rfl, by omega, by omega, d1, fun r H2 r0 r1 b2 d2 => ?_⟩
    refine ⟨_, _, rfl, rfl, (by show 1 ≤ sizeLine; decide), fun F hF => ?_⟩
    have l2 := b2.at nD l1
    have hFD : F ≠ D := fun z => by rw [z, l2] at hF; cases hF
    have nF := d2.ne hF
    have hF0 : H F = none := by
      cases e : H F with
      | none => rfl
      | some o => rw [b2.at nF (b1.at nF e)] at hF; cases hF
    have hne1 : ∀ x ∈ ns, 1 ≤ x := fun x hx => (hns x hx).1
    refine ⟨_, rfl, D, rfl, ⟨_, SqL.of (by rw [upd_ne (Ne.symm hFD)]; exact l2)⟩, for_list (K := K) (a := D) (xs := ns.map V.int) (fun i σ H3 => ∃ s5 : Option V, σ = [some (.ref d), some (.int m), some (.ref W), some (.ref D), some (.ref F), s5, none] ∧ But [d, l] H H3 ∧ Deal H3 d l ∧ H3 D = some (.lst (ns.map V.int)) ∧ H3 F = some (.lst ((scan (r - 1000) (ns.take i)).map V.int))) ?_ ?_ ?_ ?_⟩
    · exact ⟨_, rfl, (b1.trans b2).new hF0, d2.upd nF, by rw [upd_ne (Ne.symm hFD)]; exact l2, upd_same⟩
    · rintro i σ H3 _ ⟨_, _, _, _, h3, _⟩
      exact SqL.of h3
    · rintro i x σ H3 hx ⟨s5, rfl, b3, d3, l3, f3⟩
      rw [List.getElem?_map] at hx
      obtain ⟨z, hz, rfl⟩ := Option.map_eq_some_iff.mp hx
      have hlt : i < ns.length := (List.getElem?_eq_some_iff.mp hz).1
      have etk : ns.take (i + 1) = ns.take i ++ [z] := by rw [List.take_add_one, hz]; rfl
      have elen : (ns.take i).length = i := by rw [List.length_take]; omega
      have eat : atI ((scan (r - 1000) (ns.take i)).map V.int) (-1) = some (.int (r - 1000 + (ns.take i).sum)) := by
        rw [atI_neg1 (by rw [List.length_map, scan_len]; exact Nat.succ_pos _), List.getElem?_map, List.length_map, scan_len, Nat.add_sub_cancel, scan_last]
        rfl
      refine ⟨_, rfl, .inl ⟨rfl, _, SqL.of f3⟩, _, rfl, _, rfl, F, _, -1, _, rfl, rfl, SqL.of f3, eat, _, rfl, _, _, rfl, rfl, F, _, _, rfl, rfl, f3, ?_, ?_⟩
      · rw [List.length_map, scan_len, elen]
        exact Nat.lt_of_le_of_lt (show i + 1 ≤ 5 by omega) (by decide)
      · refine ⟨some (.int z), rfl, b3.new hF0, d3.upd nF, by rw [upd_ne (Ne.symm hFD)]; exact l3, ?_⟩
        rw [upd_same, etk, scan_app, List.map_append]
        rfl
    · rintro σ H3 ⟨s5, rfl, b3, d3, l3, f3⟩
      rw [List.length_map, List.take_length] at f3
      refine ⟨_, rfl, F, _, rfl, .inl ⟨SqL.of f3, fun T hT => ?_⟩⟩
      have nT := d3.ne hT
      have hT0 : H T = none := by
        cases e : H T with
        | none => rfl
        | some o => rw [b3.at nT e] at hT; cases hT
      refine k _ (scan (r - 1000) ns) _ (b3.new hT0) (d3.upd nT) (.tup (SqT.of upd_same) (dp_ints _)) ⟨by rw [scan_len]; omega, scan_rise hne1, fun p hp => ?_⟩
      have := scan_mem hne1 hp
      omega
theorem erase_map {α β : Type} (f : α → β) : ∀ (l : List α) (k : Nat), (l.eraseIdx k).map f = (l.map f).eraseIdx k
  | [], _ => rfl
  | _ :: _, 0 => rfl
  | x :: l, k + 1 => by simp [erase_map f l k]
theorem erase_perm {α : Type} : ∀ {l : List α} {k : Nat} (h : k < l.length), (l[k] :: l.eraseIdx k).Perm l
  | [], _, h => absurd h (Nat.not_lt_zero _)
  | x :: l, 0, _ => .refl _
  | x :: l, k + 1, h => by
    have ih := erase_perm (l := l) (k := k) (by simpa using h)
    simp only [List.getElem_cons_succ, List.eraseIdx_cons_succ]
    exact (List.Perm.swap x _ _).trans (ih.cons x)
/-! ### _law_mixed -/
def iota (n : Int) : List Int := (List.range n.toNat).map fun (i : Nat) => (i : Int)
theorem rgV_iota (n : Int) : rgV 0 n = (iota n).map V.int := by
  unfold rgV iota
  rw [List.map_map, Int.sub_zero]
  apply List.map_congr_left
  intro a _
  show V.int (0 + (a : Int)) = V.int (a : Int)
  rw [Int.zero_add]
def sp_mixed : Sp := fun vs H Q _ => ∃ (d l : Addr) (n : Int), vs = [.ref d, .int n] ∧ 0 ≤ n ∧ n ≤ 1000 ∧ Deal H d l ∧
  ∀ (F : Addr) (ns : List Int) (H' : Hp), But [d, l] H H' → Deal H' d l → H F = none → H' F = some (.lst (ns.map V.int)) → ns.Perm (iota n) → Q (.ref F) H'
theorem But.none_of {H H' : Hp} {d l p : Addr} (b : But [d, l] H H') (n : p ≠ d ∧ p ≠ l) (h : H' p = none) : H p = none := by
  cases e : H p with
  | none => rfl
  | some o => rw [b.at n e] at h; cases h
theorem seqIx {k : Int} {n : Nat} (h0 : 0 ≤ k) (h1 : k < n) : seqIndex? k n = some k.toNat := by
  unfold seqIndex?
  have e : (if k < 0 then k + (n : Int) else k) = k := if_neg (by omega)
  simp only [e]
  rw [if_pos (by simp; omega)]
def t_mixed (K : PySem.W.Frag) (sp_draw : Sp) : TS :=
  tSeq (tPar 3 4 (tCons (tLstRg (tRg1 (tVar 1))) (tCons (tLst (tNil)) (tNil))))
    (tSeq (tFor (iRng1 (tCons (tVar 1) (tNil))) (gName 2) (tDrop (tBM K "list" rAppend (tVar 4) (tCons (tBM K "list" rPopAt (tVar 3) (tCons (tCall sp_draw [] E0 (tCons (tVar 0) (tCons (tCB (qLen K) (tCons (tVar 3) (tNil))) (tNil)))) (tNil))) (tNil)))))
    (tRet (tVar 4)))
theorem pure_mixed {K : PySem.W.Frag} (vs : List V) (H : Hp) (Q : VK) (E : XK) (h : sp_mixed vs H Q E) : t_mixed K sp_draw (EndsQ Q) (sN 5 vs) H := by
  obtain ⟨d, l, n, rfl, n0, n1, hD, k⟩ := h
  show t_mixed K sp_draw _ [some (.ref d), some (.int n), none, none, none] H
  refine ⟨_, rfl, n, rfl, ⟨by decide, by decide, by omega, by omega, by omega⟩, fun L hL => ?_⟩
  rw [rgV_iota]
  refine ⟨(by show 0 ≤ sizeLine; decide), fun F hF => ⟨_, _, rfl, ?_⟩⟩
  have nL := hD.ne hL
  have hLF : L ≠ F := ne_of_none upd_same hF
  have hF0 : H F = none := by rw [upd_ne (Ne.symm hLF)] at hF; exact hF
  have nF := hD.ne hF0
  have li : (iota n).length = n.toNat := by unfold iota; rw [List.length_map, List.length_range]
  refine ⟨_, rfl, n, rfl, by omega, by omega, for_range (lo := 0) (n := n.toNat) (fun i σ H1 => ∃ (s2 : Option V) (ls fs : List Int), σ = [some (.ref d), some (.int n), s2, some (.ref L), some (.ref F)] ∧ But [d, l] H H1 ∧ Deal H1 d l ∧ H1 L = some (.lst (ls.map V.int)) ∧ H1 F = some (.lst (fs.map V.int)) ∧ fs.length = i ∧ (fs ++ ls).Perm (iota n)) ?_ ?_ ?_⟩
  · exact ⟨none, iota n, [], rfl, ((But.refl _ _).new hL).new hF0, (hD.upd nL).upd nF, by rw [upd_ne hLF]; exact upd_same, upd_same, rfl, .refl _⟩
  · rintro i σ H1 hi ⟨s2, ls, fs, rfl, b1, d1, l1, f1, fl, hp⟩
    have hlen : fs.length + ls.length = n.toNat := by rw [← li, ← hp.length_eq, List.length_append]
    refine ⟨_, rfl, .inl ⟨rfl, _, SqL.of f1⟩, _, rfl, .inl ⟨rfl, _, SqL.of l1⟩, _, rfl, _, rfl, _, (ls.map V.int).length, rfl, .inl ⟨_, SqL.of l1, rfl⟩, d, l, _, rfl, by rw [List.length_map]; omega, by rw [List.length_map]; omega, d1, fun q H2 q0 q1 b2 d2 => ?_⟩
    have l2 := b2.at nL l1
    have f2 := b2.at nF f1
    rw [List.length_map] at q1
    have hq : q.toNat < ls.length := by omega
    refine ⟨L, _, q, q.toNat, .int ls[q.toNat], rfl, rfl, l2, by omega, by omega, by rw [List.length_map]; exact seqIx q0 q1, by rw [List.getElem?_map, List.getElem?_eq_getElem hq]; rfl, F, _, _, rfl, rfl, by rw [upd_ne (Ne.symm hLF)]; exact f2, ?_, ?_⟩
    · rw [List.length_map, fl]
      exact Nat.lt_of_le_of_lt (show i ≤ 1000 by omega) (by decide)
    · refine ⟨some (.int (0 + i)), ls.eraseIdx q.toNat, fs ++ [ls[q.toNat]], rfl, ((b1.trans b2).new hL).new hF0, (d2.upd nL).upd nF, ?_, ?_, by simp [fl], ?_⟩
      · rw [upd_ne hLF, upd_same, erase_map]
      · rw [upd_same, List.map_append]
        rfl
      · refine List.Perm.trans ?_ hp
        rw [List.append_assoc]
        exact List.Perm.append_left fs (erase_perm hq)
  · rintro σ H1 ⟨s2, ls, fs, rfl, b1, d1, l1, f1, fl, hp⟩
    have hlen : fs.length + ls.length = n.toNat := by rw [← li, ← hp.length_eq, List.length_append]
    have : ls = [] := List.length_eq_zero_iff.mp (by omega)
    subst this
    rw [List.append_nil] at hp
    exact ⟨_, rfl, k F fs H1 b1 d1 hF0 f1 hp⟩
end Wf
/-! Tables: lists of lists of pairs. -/
namespace Wf
open PySem PySem.Spec L2
abbrev Tab : Type := List (Int × Int)
def InP (s : Int) (p : Int × Int) : Prop := 0 ≤ p.1 ∧ p.1 < s ∧ 0 ≤ p.2 ∧ p.2 < s
structure TabOk (s : Int) (t : Tab) : Prop where
  len : (t.length : Int) = s * s
  inn : ∀ p ∈ t, InP s p
structure TabAt (K : PySem.W.Frag) (H : Hp) (l : Addr) (t : Tab) : Prop where
  ex : ∃ vs, H l = some (.lst vs) ∧ DpAll K H vs (t.map dP)
theorem noLAll_dP : ∀ t : Tab, noLAll (t.map dP) = true
  | [] => rfl
  | p :: t => by simp [noLAll, noL_dP, noLAll_dP t]
theorem TabAt.keep {K : PySem.W.Frag} {H H' : Hp} {l : Addr} {t : Tab} (h : TabAt K H l t) (hl : ∀ o, H l = some o → H' l = some o) (tp : Tp K H H') : TabAt K H' l t := by
  obtain ⟨vs, h1, h2⟩ := h.ex
  exact ⟨vs, hl _ h1, DpAll.tp tp _ _ (noLAll_dP t) h2⟩
theorem pr_mono {α β : Type} {F G : α → β → Prop} : ∀ {as : List α} {bs : List β}, Paired F as bs → (∀ a b, a ∈ as → F a b → G a b) → Paired G as bs
  | _, _, .nil, _ => .nil
  | _, _, .cons h t, k => .cons (k _ _ List.mem_cons_self h) (pr_mono t fun a b ha => k a b (List.mem_cons_of_mem _ ha))
theorem pr_app {α β : Type} {F : α → β → Prop} : ∀ {as cs : List α} {bs ds : List β}, Paired F as bs → Paired F cs ds → Paired F (as ++ cs) (bs ++ ds)
  | _, _, _, _, .nil, h => h
  | _, _, _, _, .cons h t, k => .cons h (pr_app t k)
theorem pr_get {α β : Type} {F : α → β → Prop} : ∀ {as : List α} {bs : List β} {i : Nat} {a : α}, Paired F as bs → as[i]? = some a → ∃ b, bs[i]? = some b ∧ F a b
  | _, _, _, _, .nil, e => by simp at e
  | _, _, 0, _, .cons h _, e => by simp at e; subst e; exact ⟨_, rfl, h⟩
  | _, _, i + 1, _, .cons _ t, e => by
    obtain ⟨b, h1, h2⟩ := pr_get (i := i) t (by simpa using e)
    exact ⟨b, by simpa using h1, h2⟩
theorem pr_len {α β : Type} {F : α → β → Prop} : ∀ {as : List α} {bs : List β}, Paired F as bs → as.length = bs.length
  | _, _, .nil => rfl
  | _, _, .cons _ t => congrArg (· + 1) (pr_len t)
/-- tables that were made since H: the list of them at F, they themselves at ls -/
structure Tabs (K : PySem.W.Frag) (H H1 : Hp) (F : Addr) (ls : List Addr) (ts : List Tab) : Prop where
  lst : H1 F = some (.lst (ls.map V.ref))
  tab : Paired (TabAt K H1) ls ts
  nd : (F :: ls).Nodup
  newF : H F = none
  newL : ∀ x ∈ ls, H x = none
section
variable {K : PySem.W.Frag} {H H1 H2 : Hp} {F d l : Addr} {ls : List Addr} {ts : List Tab}
theorem Tabs.keep (t : Tabs K H H1 F ls ts) (hk : ∀ x o, x ∈ F :: ls → H1 x = some o → H2 x = some o) (tp : Tp K H1 H2) : Tabs K H H2 F ls ts :=
  ⟨hk _ _ List.mem_cons_self t.lst, pr_mono t.tab fun a b ha h => h.keep (fun o e => hk a o (List.mem_cons_of_mem _ ha) e) tp, t.nd, t.newF, t.newL⟩
theorem Tabs.but (t : Tabs K H H1 F ls ts) (hD : Deal H d l) (d1 : Deal H1 d l) (b : But [d, l] H1 H2) : Tabs K H H2 F ls ts :=
  t.keep (fun x o hx e => b.at (hD.ne (by
    rcases List.mem_cons.mp hx with rfl | hx
    · exact t.newF
    · exact t.newL x hx)) e) (b.tp d1.noT)
theorem Tabs.same (t : Tabs K H H1 F ls ts) (s : Same H1 H2) : Tabs K H H2 F ls ts := t.keep (fun x o _ e => s x o e) (Same.tp s)
theorem Tabs.notIn {D : Addr} (ht : Tabs K H H1 F ls ts) (hDn : H1 D = none) : D ∉ F :: ls := fun z => by
  rcases List.mem_cons.mp z with rfl | z
  · rw [ht.lst] at hDn
    cases hDn
  · obtain ⟨i, hi⟩ := List.mem_iff_getElem?.mp z
    obtain ⟨_, _, h2⟩ := pr_get ht.tab hi
    obtain ⟨_, h3, _⟩ := h2.ex
    rw [h3] at hDn
    cases hDn
theorem Tabs.len (t : Tabs K H H1 F ls ts) : ls.length = ts.length := pr_len t.tab
/-- one more table -/
theorem Tabs.push {D : Addr} {t : Tab} (ht : Tabs K H H1 F ls ts) (h : TabAt K H1 D t) (hD : D ∉ F :: ls) (hn : H D = none) : Tabs K H (upd H1 F (.lst (ls.map V.ref ++ [.ref D]))) F (ls ++ [D]) (ts ++ [t]) := by
  have tp : Tp K H1 (upd H1 F (.lst (ls.map V.ref ++ [.ref D]))) := tp_upd (not_lst ht.lst)
  have hF := (List.nodup_cons.mp ht.nd).1
  refine ⟨by rw [upd_same, List.map_append]; rfl, pr_app (pr_mono ht.tab fun a b ha k => k.keep (fun o e => ?_) tp) (.cons (h.keep (fun o e => ?_) tp) .nil), ?_, ht.newF, fun x hx => ?_⟩
  · rw [upd_ne (show a ≠ F from fun z => hF (z ▸ ha))]
    exact e
  · rw [upd_ne (show D ≠ F from fun z => hD (by rw [z]; exact List.mem_cons_self))]
    exact e
  · have e : (F :: (ls ++ [D])) = (F :: ls) ++ [D] := rfl
    rw [e, List.nodup_append]
    exact ⟨ht.nd, by simp, fun a ha b hb => by rw [List.mem_singleton.mp hb]; exact fun z => hD (z ▸ ha)⟩
  · rcases List.mem_append.mp hx with hx | hx
    · exact ht.newL x hx
    · rw [List.mem_singleton.mp hx]
      exact hn
theorem nodup_set {α : Type} {x : α} : ∀ {l : List α} {i : Nat}, l.Nodup → x ∉ l → (l.set i x).Nodup
  | [], _, h, _ => h
  | a :: l, 0, h, hx => List.nodup_cons.mpr ⟨fun z => hx (List.mem_cons_of_mem _ z), (List.nodup_cons.mp h).2⟩
  | a :: l, i + 1, h, hx => by
    have h1 := List.nodup_cons.mp h
    refine List.nodup_cons.mpr ⟨fun z => ?_, nodup_set h1.2 fun z => hx (List.mem_cons_of_mem _ z)⟩
    rcases List.mem_or_eq_of_mem_set z with z | z
    · exact h1.1 z
    · exact hx (z ▸ List.mem_cons_self)
theorem pr_set {α β : Type} {F : α → β → Prop} {a : α} {b : β} (h : F a b) : ∀ {as : List α} {bs : List β} (i : Nat), Paired F as bs → Paired F (as.set i a) (bs.set i b)
  | _, _, _, .nil => .nil
  | _, _, 0, .cons _ t => .cons h t
  | _, _, i + 1, .cons k t => .cons k (pr_set h i t)
/-- one table for another -/
theorem Tabs.put {D : Addr} {t : Tab} {j : Nat} (ht : Tabs K H H1 F ls ts) (h : TabAt K H1 D t) (hD : D ∉ F :: ls) (hn : H D = none) : Tabs K H (upd H1 F (.lst ((ls.map V.ref).set j (.ref D)))) F (ls.set j D) (ts.set j t) := by
  have tp : Tp K H1 (upd H1 F (.lst ((ls.map V.ref).set j (.ref D)))) := tp_upd (not_lst ht.lst)
  have hF := (List.nodup_cons.mp ht.nd)
  have hDF : D ≠ F := fun z => hD (by rw [z]; exact List.mem_cons_self)
  have hDl : D ∉ ls := fun z => hD (List.mem_cons_of_mem _ z)
  refine ⟨by rw [upd_same, List.map_set], pr_set (h.keep (fun o e => by rw [upd_ne hDF]; exact e) tp) j (pr_mono ht.tab fun a b ha k => k.keep (fun o e => ?_) tp), ?_, ht.newF, fun x hx => ?_⟩
  · rw [upd_ne (show a ≠ F from fun z => hF.1 (z ▸ ha))]
    exact e
  · refine List.nodup_cons.mpr ⟨fun z => ?_, nodup_set hF.2 hDl⟩
    rcases List.mem_or_eq_of_mem_set z with z | z
    · exact hF.1 z
    · exact hDF z.symm
  · rcases List.mem_or_eq_of_mem_set hx with hx | hx
    · exact ht.newL x hx
    · rw [hx]
      exact hn
def dTs (ts : List Tab) : PyData := .list (ts.map fun t => .list (t.map dP))
theorem Tabs.dp (ht : Tabs K H H1 F ls ts) : Dp K H1 (.ref F) (dTs ts) := by
  refine .lst (SqL.of ht.lst) ?_
  have := ht.tab
  clear ht
  induction this with
  | nil => exact .nil
  | cons h _ ih =>
    obtain ⟨vs, e1, e2⟩ := h.ex
    exact .cons (.lst (SqL.of e1) e2) ih
end
/-! ### [(draw(size), draw(size)) for n in range(size * size)] -/
theorem lc_drawn {K : PySem.W.Frag} {σ : St} {H : Hp} {d l : Addr} {s : Int} {v : Nat} {Q : VK} (h0 : ∀ x, ((wipe σ [v]).set v x)[0]? = some (some (.ref d))) (h2 : ∀ x, ((wipe σ [v]).set v x)[2]? = some (some (.int s))) (h2' : σ[2]? = some (some (.int s)))
    (hw : ∀ x, wipe ((wipe σ [v]).set v x) [v] = wipe σ [v]) (s1 : 1 ≤ s) (s6 : s ≤ 6) (hD : Deal H d l)
    (q : ∀ (D : Addr) (H' : Hp) (t : Tab), H D = none → But [d, l] H H' → Deal H' d l → TabAt K H' D t → TabOk s t → Q (.ref D) H') :
    tLc (iRng1 (tCons (tOp qMul (tVar 2) (tVar 2)) (tNil))) (gName v) (tYes) (tTup (tCons (tCall sp_draw [] E0 (tCons (tVar 0) (tCons (tVar 2) (tNil)))) (tCons (tCall sp_draw [] E0 (tCons (tVar 0) (tCons (tVar 2) (tNil)))) (tNil)))) [v] σ H Q := by
  have hss : 1 ≤ s * s ∧ s * s ≤ 36 := by
    have : s = 1 ∨ s = 2 ∨ s = 3 ∨ s = 4 ∨ s = 5 ∨ s = 6 := by omega
    rcases this with rfl | rfl | rfl | rfl | rfl | rfl <;> decide
  refine ⟨_, h2', _, h2', _, _, rfl, rfl, .inl ⟨by omega, by omega⟩, s * s, rfl, by omega, by omega, fun D hDn => ?_⟩
  have nD := hD.ne hDn
  refine lc_range (lo := 0) (n := (s * s).toNat) (fun i H1 => But [d, l] H H1 ∧ Deal H1 d l ∧ ∃ t : Tab, TabAt K H1 D t ∧ t.length = i ∧ ∀ p ∈ t, InP s p) ?_ ?_ ?_
  · exact ⟨(But.refl _ _).new hDn, hD.upd nD, [], ⟨[], upd_same, .nil⟩, rfl, fun p hp => (List.not_mem_nil hp).elim⟩
  · rintro i H1 hi ⟨b1, d1, t, ht, hl, hin⟩
    refine ⟨hw _, ?_⟩
    simp only [tYes, ↓reduceIte]
    refine ⟨_, h0 _, _, h2 _, d, l, s, rfl, by omega, by omega, d1, fun a H2 a0 a1 b2 d2 => ?_⟩
    refine ⟨_, h0 _, _, h2 _, d, l, s, rfl, by omega, by omega, d2, fun b H3 c0 c1 b3 d3 => ?_⟩
    refine ⟨(by show 2 ≤ sizeLine; decide), fun p hp => ?_⟩
    have b13 := b2.trans b3
    obtain ⟨vs, e1, e2⟩ := (ht.keep (fun o e => b13.at nD e) (b13.tp d1.noT)).ex
    have np := d3.ne hp
    have hpD : D ≠ p := ne_of_none e1 hp
    have e1' : upd H3 p (.tup [.int a, .int b]) D = some (.lst vs) := by rw [upd_ne hpD]; exact e1
    refine ⟨vs, e1', ?_, ?_⟩
    · rw [DpAll.len e2, List.length_map, hl]
      exact Nat.lt_of_le_of_lt (show i ≤ 36 by omega) (by decide)
    · have hp0 : H p = none := (b1.trans b13).none_of np hp
      refine ⟨((b1.trans b13).new hp0).new hDn, (d3.upd np).upd nD, t ++ [(a, b)], ⟨vs ++ [.ref p], upd_same, ?_⟩, by simp [hl], fun x hx => ?_⟩
      · rw [List.map_append]
        have tp1 : Tp K H3 (upd H3 p (.tup [.int a, .int b])) := Same.tp (same_new hp)
        have tp2 : Tp K (upd H3 p (.tup [.int a, .int b])) (upd (upd H3 p (.tup [.int a, .int b])) D (.lst (vs ++ [.ref p]))) := tp_upd (not_lst e1')
        refine DpAll.append (DpAll.tp (tp1.trans tp2) _ _ (noLAll_dP t) e2) (.cons (dP_new ?_) .nil)
        rw [upd_ne (Ne.symm hpD)]
        exact upd_same
      · rcases List.mem_append.mp hx with hx | hx
        · exact hin x hx
        · rw [List.mem_singleton.mp hx]
          exact ⟨a0, a1, c0, c1⟩
  · rintro H1 ⟨b1, d1, t, ht, hl, hin⟩
    exact q D H1 t hDn b1 d1 ht ⟨by omega, hin⟩
theorem st_asg {te : TE} {g : TG} {D : Ends} {σ : St} {H : Hp} (h : te σ H fun x H1 => g x σ H1 D.nx) : tAsg te g D σ H := h
/-! ### _law_any -/
def nT (m : Int) : Int := m * (m - 1) / 2
/-- tables are told, new ones, by what R says of them -/
def GiveT (K : PySem.W.Frag) (d l : Addr) (H : Hp) (Q : VK) (R : List Tab → Prop) : Prop := ∀ (F : Addr) (ls : List Addr) (ts : List Tab) (H' : Hp), But [d, l] H H' → Deal H' d l → Tabs K H H' F ls ts → R ts → Q (.ref F) H'
structure AllOk (m s : Int) (ts : List Tab) : Prop where
  len : (ts.length : Int) = nT m
  ok : ∀ t ∈ ts, TabOk s t
def sp_any (K : PySem.W.Frag) : Sp := fun vs H Q _ => ∃ (d l : Addr) (m s : Int), vs = [.ref d, .int m, .int s] ∧ 1 ≤ m ∧ m ≤ 5 ∧ 1 ≤ s ∧ s ≤ 6 ∧ Deal H d l ∧ GiveT K d l H Q (AllOk m s)
theorem nT_le {m : Int} (h1 : 1 ≤ m) (h5 : m ≤ 5) : 0 ≤ nT m ∧ nT m ≤ 10 := by
  have : m = 1 ∨ m = 2 ∨ m = 3 ∨ m = 4 ∨ m = 5 := by omega
  rcases this with rfl | rfl | rfl | rfl | rfl <;> decide
def t_any (K : PySem.W.Frag) (sp_draw : Sp) : TS :=
  tSeq (tAsg (tLst (tNil)) (gName 3))
    (tSeq (tFor (iRng1 (tCons (tOp qFdiv (tOp qMul (tVar 1) (tOp qSub (tVar 1) (tC (.int 1)))) (tC (.int 2))) (tNil))) (gName 4) (tDrop (tBM K "list" rAppend (tVar 3) (tCons (tLc (iRng1 (tCons (tOp qMul (tVar 2) (tVar 2)) (tNil))) (gName 5) (tYes) (tTup (tCons (tCall sp_draw [] E0 (tCons (tVar 0) (tCons (tVar 2) (tNil)))) (tCons (tCall sp_draw [] E0 (tCons (tVar 0) (tCons (tVar 2) (tNil)))) (tNil)))) [5]) (tNil)))))
    (tRet (tVar 3)))
theorem pure_any {K : PySem.W.Frag} (vs : List V) (H : Hp) (Q : VK) (E : XK) (h : sp_any K vs H Q E) : t_any K sp_draw (EndsQ Q) (sN 6 vs) H := by
  obtain ⟨d, l, m, s, rfl, m1, m5, s1, s6, hD, k⟩ := h
  show t_any K sp_draw _ [some (.ref d), some (.int m), some (.int s), none, none, none] H
  refine ⟨(by show 0 ≤ sizeLine; decide), fun F hF => ?_⟩
  have nF := hD.ne hF
  have hn := nT_le m1 m5
  refine ⟨_, rfl, _, rfl, _, _, rfl, rfl, _, _, rfl, rfl, .inl ⟨by omega, by omega⟩, _, _, rfl, rfl, ⟨by decide, by decide⟩, nT m, rfl, by omega, by omega,
    for_range (lo := 0) (n := (nT m).toNat) (fun i σ H1 => ∃ (s4 : Option V) (ls : List Addr) (ts : List Tab), σ = [some (.ref d), some (.int m), some (.int s), some (.ref F), s4, none] ∧ But [d, l] H H1 ∧ Deal H1 d l ∧ Tabs K H H1 F ls ts ∧ ts.length = i ∧ ∀ t ∈ ts, TabOk s t) ?_ ?_ ?_⟩
  · exact ⟨none, [], [], rfl, (But.refl _ _).new hF, hD.upd nF, ⟨upd_same, .nil, by simp, hF, fun x hx => (List.not_mem_nil hx).elim⟩, rfl, fun t ht => (List.not_mem_nil ht).elim⟩
  · rintro i σ H1 hi ⟨s4, ls, ts, rfl, b1, d1, ht, hl, hok⟩
    refine ⟨_, rfl, .inl ⟨rfl, _, SqL.of ht.lst⟩, ?_⟩
    refine lc_drawn (K := K) (d := d) (l := l) (s := s) (fun _ => rfl) (fun _ => rfl) rfl (fun _ => rfl) s1 s6 d1 fun D H2 t hDn b2 d2 tt tok => ?_
    have t2 := ht.but hD d1 b2
    have nD := d1.ne hDn
    have hD0 : H D = none := b1.none_of nD hDn
    have hm : D ∉ F :: ls := ht.notIn hDn
    refine ⟨F, _, _, rfl, rfl, t2.lst, ?_, ?_⟩
    · rw [List.length_map, ht.len, hl]
      exact Nat.lt_of_le_of_lt (show i ≤ 10 by omega) (by decide)
    · refine ⟨some (.int (0 + i)), ls ++ [D], ts ++ [t], rfl, (b1.trans b2).new hF, d2.upd nF, t2.push tt hm hD0, by simp [hl], fun x hx => ?_⟩
      rcases List.mem_append.mp hx with hx | hx
      · exact hok x hx
      · rw [List.mem_singleton.mp hx]
        exact tok
  · rintro σ H1 ⟨s4, ls, ts, rfl, b1, d1, ht, hl, hok⟩
    exact ⟨_, rfl, k F ls ts H1 b1 d1 ht ⟨by omega, hok⟩⟩
/-! ### _law_plain -/
def tabF (f s : Int) (st : Int × Int) : Tab := (iota (s * s)).map fun n => pairF f s st (n / s) (n % s)
/-- by plain rules: one form for all tables; or keeping ones, and one any -/
inductive PlainT (m s : Int) : List Tab → Prop
  | all (f : Int) (sts : List (Int × Int)) : 0 ≤ f → f ≤ 4 → (sts.length : Int) = nT m → (∀ x ∈ sts, InP s x) → PlainT m s (sts.map (tabF f s))
  | one (sts : List (Int × Int)) (i : Nat) (t : Tab) : (sts.length : Int) = nT m → i < sts.length → TabOk s t → PlainT m s ((sts.map (tabF 0 s)).set i t)
def sp_plain (K : PySem.W.Frag) : Sp := fun vs H Q _ => ∃ (d l : Addr) (m s : Int), vs = [.ref d, .int m, .int s] ∧ 1 ≤ m ∧ m ≤ 5 ∧ 1 ≤ s ∧ s ≤ 6 ∧ Deal H d l ∧ GiveT K d l H Q (PlainT m s)
theorem ss_le {s : Int} (s1 : 1 ≤ s) (s6 : s ≤ 6) : 1 ≤ s * s ∧ s * s ≤ 36 := by
  have : s = 1 ∨ s = 2 ∨ s = 3 ∨ s = 4 ∨ s = 5 ∨ s = 6 := by omega
  rcases this with rfl | rfl | rfl | rfl | rfl | rfl <;> decide
theorem iota_succ (i : Nat) : (List.range (i + 1)).map (fun (j : Nat) => (j : Int)) = (List.range i).map (fun (j : Nat) => (j : Int)) ++ [(i : Int)] := by rw [List.range_succ, List.map_append]; rfl
/-- [_law_pair(form % 5, size, step, n // size, n % size) for n in range(size * size)] -/
theorem lc_pairs {K : PySem.W.Frag} {σ : St} {H : Hp} {s f : Int} {u : V} {st : Int × Int} {v : Nat} {Q : VK} (h4 : ∀ x, ((wipe σ [v]).set v x)[4]? = some (some (.int f))) (h2 : ∀ x, ((wipe σ [v]).set v x)[2]? = some (some (.int s))) (h6 : ∀ x, ((wipe σ [v]).set v x)[6]? = some (some u)) (hv : ∀ x, ((wipe σ [v]).set v (some x))[v]? = some (some x)) (h2' : σ[2]? = some (some (.int s)))
    (hw : ∀ x, wipe ((wipe σ [v]).set v x) [v] = wipe σ [v]) (s1 : 1 ≤ s) (s6 : s ≤ 6) (hst : Dp K H u (dP st))
    (q : ∀ (D : Addr) (H' : Hp), H D = none → Same H H' → TabAt K H' D (tabF (f % 5) s st) → Q (.ref D) H') :
    tLc (iRng1 (tCons (tOp qMul (tVar 2) (tVar 2)) (tNil))) (gName v) (tYes) (tCall (sp_pair K) [] E0 (tCons (tOp qMod (tVar 4) (tC (.int 5))) (tCons (tVar 2) (tCons (tVar 6) (tCons (tOp qFdiv (tVar v) (tVar 2)) (tCons (tOp qMod (tVar v) (tVar 2)) (tNil))))))) [v] σ H Q := by
  have hss := ss_le s1 s6
  refine ⟨_, h2', _, h2', _, _, rfl, rfl, .inl ⟨by omega, by omega⟩, s * s, rfl, by omega, by omega, fun D hDn => ?_⟩
  refine lc_range (lo := 0) (n := (s * s).toNat) (fun i H1 => Same H H1 ∧ TabAt K H1 D (((List.range i).map fun (j : Nat) => (j : Int)).map fun n => pairF (f % 5) s st (n / s) (n % s))) ?_ ?_ ?_
  · exact ⟨same_new hDn, ⟨[], upd_same, .nil⟩⟩
  · rintro i H1 hi ⟨b1, ht⟩
    refine ⟨hw _, ?_⟩
    simp only [tYes, ↓reduceIte]
    refine ⟨_, h4 _, _, _, rfl, rfl, mp rfl, _, h2 _, _, h6 _, _, hv _, _, h2 _, _, _, rfl, rfl, ⟨by omega, by omega⟩, _, hv _, _, h2 _, _, _, rfl, rfl, (by show 0 < s; omega), f % 5, s, _, _, u, st, rfl, Dp.tp (Same.tp b1) _ _ (noL_dP st) hst, by omega, by omega, by omega, fun w H2 s2 hw2 => ?_⟩
    obtain ⟨vs, e1, e2⟩ := ht.ex
    have e1' := s2 _ _ e1
    have ln : vs.length = i := by rw [DpAll.len e2, List.length_map, List.length_map, List.length_map, List.length_range]
    refine ⟨vs, e1', ?_, ?_⟩
    · rw [ln]
      exact Nat.lt_of_le_of_lt (show i ≤ 36 by omega) (by decide)
    · refine ⟨fun a o e => ?_, ⟨vs ++ [w], upd_same, ?_⟩⟩
      · rw [upd_ne (ne_of_none e hDn)]
        exact s2 _ _ (b1 _ _ e)
      · rw [iota_succ, List.map_append, List.map_append]
        have tp2 : Tp K H2 (upd H2 D (.lst (vs ++ [w]))) := tp_upd (not_lst e1')
        refine DpAll.append (DpAll.tp ((Same.tp s2).trans tp2) _ _ (noLAll_dP _) e2) (.cons ?_ .nil)
        have hw3 := Dp.tp tp2 _ _ (noL_dP _) hw2
        rw [Int.zero_add] at hw3
        exact hw3
  · rintro H1 ⟨b1, ht⟩
    exact q D H1 hDn b1 ht
def t_plain (K : PySem.W.Frag) (sp_draw : Sp) (sp_pair : Sp) : TS :=
  tSeq (tAsg (tTup (tCons (tCall sp_draw [] E0 (tCons (tVar 0) (tCons (tC (.int 6)) (tNil)))) (tCons (tLst (tNil)) (tNil)))) (gTup K 2 (gCons (gName 4) (gCons (gName 5) (gNil)))))
    (tSeq (tFor (iRng1 (tCons (tOp qFdiv (tOp qMul (tVar 1) (tOp qSub (tVar 1) (tC (.int 1)))) (tC (.int 2))) (tNil))) (gName 3) (tSeq (tAsg (tTup (tCons (tCall sp_draw [] E0 (tCons (tVar 0) (tCons (tVar 2) (tNil)))) (tCons (tCall sp_draw [] E0 (tCons (tVar 0) (tCons (tVar 2) (tNil)))) (tNil)))) (gName 6))
    (tDrop (tBM K "list" rAppend (tVar 5) (tCons (tLc (iRng1 (tCons (tOp qMul (tVar 2) (tVar 2)) (tNil))) (gName 8) (tYes) (tCall sp_pair [] E0 (tCons (tOp qMod (tVar 4) (tC (.int 5))) (tCons (tVar 2) (tCons (tVar 6) (tCons (tOp qFdiv (tVar 8) (tVar 2)) (tCons (tOp qMod (tVar 8) (tVar 2)) (tNil))))))) [8]) (tNil))))))
    (tSeq (tIfS (tAnd (tTest (tOp rEq (tVar 4) (tC (.int 5)))) (tTest (tOp (rNeD K) (tVar 5) (tLst (tNil))))) (tSeq (tAsg (tLc (iRng1 (tCons (tOp qMul (tVar 2) (tVar 2)) (tNil))) (gName 8) (tYes) (tTup (tCons (tCall sp_draw [] E0 (tCons (tVar 0) (tCons (tVar 2) (tNil)))) (tCons (tCall sp_draw [] E0 (tCons (tVar 0) (tCons (tVar 2) (tNil)))) (tNil)))) [8]) (gName 7))
    (tAsg (tVar 7) (gSub (tVar 5) (tCall sp_draw [] E0 (tCons (tVar 0) (tCons (tCB (qLen K) (tCons (tVar 5) (tNil))) (tNil)))) rSetL))) (tNext))
    (tRet (tVar 5))))
/-- data whose shape == may be asked of: lists and tuples of such, to a depth -/
theorem lay_map {α : Type} (f : α → PyData) (n : Nat) : ∀ l : List α, (∀ a ∈ l, (f a).canLay0 = true ∧ (f a).depth ≤ n) → PyData.canLayAll0 (l.map f) = true ∧ PyData.depthAll (l.map f) ≤ n
  | [], _ => ⟨rfl, Nat.zero_le _⟩
  | a :: l, h => by
    have h1 := h a List.mem_cons_self
    have h2 := lay_map f n l fun b hb => h b (List.mem_cons_of_mem _ hb)
    rw [List.map_cons]
    constructor
    · show ((f a).canLay0 && PyData.canLayAll0 (l.map f)) = true
      rw [h1.1, h2.1]
      rfl
    · show max (f a).depth (PyData.depthAll (l.map f)) ≤ n
      exact Nat.max_le.mpr ⟨h1.2, h2.2⟩
theorem lay_dP (p : Int × Int) : (dP p).canLay0 = true ∧ (dP p).depth ≤ 1 := ⟨rfl, by show max 0 (max 0 0) + 1 ≤ 1; decide⟩
theorem lay_tab (t : Tab) : (PyData.list (t.map dP)).canLay0 = true ∧ (PyData.list (t.map dP)).depth ≤ 2 := by
  have h := lay_map dP 1 t fun p _ => lay_dP p
  exact ⟨h.1, Nat.succ_le_succ h.2⟩
theorem shaped_ts (ts : List Tab) : SeqAt.shaped (dTs ts) = true := by
  have h := lay_map (fun t => PyData.list (t.map dP)) 2 ts fun t _ => lay_tab t
  have h2 : (dTs ts).depth ≤ 3 := Nat.succ_le_succ h.2
  unfold SeqAt.shaped
  rw [show (dTs ts).canLay0 = true from h.1]
  simp
  omega
theorem pure_plain {K : PySem.W.Frag} (vs : List V) (H : Hp) (Q : VK) (E : XK) (h : sp_plain K vs H Q E) : t_plain K sp_draw (sp_pair K) (EndsQ Q) (sN 9 vs) H := by
  obtain ⟨d, l, m, s, rfl, m1, m5, s1, s6, hD, k⟩ := h
  show t_plain K sp_draw (sp_pair K) _ [some (.ref d), some (.int m), some (.int s), none, none, none, none, none, none] H
  refine ⟨_, rfl, d, l, 6, rfl, by decide, by decide, hD, fun f H0 f0 f6 b0 d0 => ?_⟩
  refine ⟨(by show 0 ≤ sizeLine; decide), fun F hF => ⟨(by show 2 ≤ sizeLine; decide), fun p hp => ?_⟩⟩
  have nF := d0.ne hF
  have hF0 : H F = none := b0.none_of nF hF
  have hpF : F ≠ p := ne_of_none upd_same hp
  have hp0 : H0 p = none := by rw [upd_ne (Ne.symm hpF)] at hp; exact hp
  have np := d0.ne hp0
  have hp00 : H p = none := b0.none_of np hp0
  have hn := nT_le m1 m5
  refine ⟨p, [.int f, .ref F], rfl, SqT.of upd_same, rfl, _, _, rfl, _, _, rfl, rfl, ?_⟩
  refine ⟨_, rfl, _, rfl, _, _, rfl, rfl, _, _, rfl, rfl, .inl ⟨by omega, by omega⟩, _, _, rfl, rfl, ⟨by decide, by decide⟩, nT m, rfl, by omega, by omega,
    for_range (lo := 0) (n := (nT m).toNat) (fun i σ H1 => ∃ (s3 s6 : Option V) (ls : List Addr) (sts : List (Int × Int)), σ = [some (.ref d), some (.int m), some (.int s), s3, some (.int f), some (.ref F), s6, none, none] ∧ But [d, l] H H1 ∧ Deal H1 d l ∧ Tabs K H H1 F ls (sts.map (tabF (f % 5) s)) ∧ sts.length = i ∧ ∀ x ∈ sts, InP s x) ?_ ?_ ?_⟩
  · refine ⟨none, none, [], [], rfl, (b0.new hF0).new hp00, (d0.upd nF).upd np, ⟨?_, .nil, by simp, hF0, fun x hx => (List.not_mem_nil hx).elim⟩, rfl, fun t ht => (List.not_mem_nil ht).elim⟩
    rw [upd_ne hpF]
    exact upd_same
  · rintro i σ H1 hi ⟨s3, s6', ls, sts, rfl, b1, d1, ht, hl, hok⟩
    refine ⟨_, rfl, _, rfl, d, l, s, rfl, by omega, by omega, d1, fun a H2 a0 a1 b2 d2 => ?_⟩
    refine ⟨_, rfl, _, rfl, d, l, s, rfl, by omega, by omega, d2, fun b H3 c0 c1 b3 d3 => ?_⟩
    refine ⟨(by show 2 ≤ sizeLine; decide), fun q hq => ?_⟩
    have t3 := (ht.but hD d1 (b2.trans b3)).same (same_new (o := .tup [.int a, .int b]) hq)
    have nq := d3.ne hq
    have b4 := (b1.trans (b2.trans b3))
    have hq0 : H q = none := b4.none_of nq hq
    refine ⟨_, rfl, .inl ⟨rfl, _, SqL.of t3.lst⟩, ?_⟩
    refine lc_pairs (K := K) (s := s) (f := f) (u := .ref q) (st := (a, b)) (fun _ => rfl) (fun _ => rfl) (fun _ => rfl) (fun _ => rfl) rfl (fun _ => rfl) s1 s6 (dP_new upd_same) fun D H4 hDn s4 td => ?_
    have t4 := t3.same s4
    have hDn3 : H3 D = none := by
      cases e : H3 D with
      | none => rfl
      | some o => rw [same_new hq _ _ e] at hDn; cases hDn
    have nD := d3.ne hDn3
    have hD0 : H D = none := b4.none_of nD hDn3
    have hm : D ∉ F :: ls := t3.notIn hDn
    refine ⟨F, _, _, rfl, rfl, t4.lst, ?_, ?_⟩
    · rw [List.length_map, ht.len, List.length_map, hl]
      exact Nat.lt_of_le_of_lt (show i ≤ 10 by omega) (by decide)
    · refine ⟨some (.int (0 + i)), some (.ref q), ls ++ [D], sts ++ [(a, b)], rfl, But.new (fun x o n e => s4 _ _ (b4.new hq0 x o n e)) hF0, ?_, ?_, by simp [hl], fun x hx => ?_⟩
      · obtain ⟨z1, z2, z3, z4, z5, z6, z7⟩ := (d3.upd nq (o := .tup [.int a, .int b])).ex
        exact Deal.upd ⟨z1, z2, z3, z4, s4 _ _ z5, s4 _ _ z6, z7⟩ nF
      · rw [List.map_append]
        exact t4.push td hm hD0
      · rcases List.mem_append.mp hx with hx | hx
        · exact hok x hx
        · rw [List.mem_singleton.mp hx]
          exact ⟨a0, a1, c0, c1⟩
  · rintro σ H1 ⟨s3, s6', ls, sts, rfl, b1, d1, ht, hl, hok⟩
    have fin : PlainT m s (sts.map (tabF (f % 5) s)) := .all (f % 5) sts (by omega) (by omega) (by omega) hok
    refine ⟨_, rfl, rfl, _, rfl, ?_⟩
    by_cases hf : f = 5
    · subst hf
      simp only [decide_true, ↓reduceIte]
      refine ⟨_, rfl, (by show 0 ≤ sizeLine; decide), fun e he => ?_⟩
      have t2 := ht.same (same_new (o := .lst []) he)
      refine ⟨_, _, t2.dp, .lst (SqL.of upd_same) .nil, shaped_ts _, rfl, _, rfl, ?_⟩
      have ne := d1.ne he
      have he0 : H e = none := b1.none_of ne he
      have b2 : But [d, l] H (upd H1 e (.lst [])) := b1.new he0
      have d2 : Deal (upd H1 e (.lst [])) d l := d1.upd ne
      generalize upd H1 e (.lst []) = H2 at t2 b2 d2
      cases sts with
      | nil => exact ⟨_, rfl, k F ls _ H2 b2 d2 t2 fin⟩
      | cons st0 sts =>
        have hb : (!PyData.eqv (dTs ((st0 :: sts).map (tabF (5 % 5) s))) (PyData.list [])) = true := rfl
        rw [hb]
        simp only [↓reduceIte]
        refine st_seq (st_asg ?_)
        refine lc_drawn (K := K) (d := d) (l := l) (s := s) (fun _ => rfl) (fun _ => rfl) rfl (fun _ => rfl) s1 s6 d2 fun D H3 t hDn b3 d3 tt tok => ?_
        have t3 := t2.but hD d2 b3
        have nD := d2.ne hDn
        have hD0 : H D = none := b2.none_of nD hDn
        have hm : D ∉ F :: ls := t2.notIn hDn
        have hll := ht.len
        rw [List.length_map] at hll
        refine ⟨_, rfl, _, rfl, _, rfl, _, rfl, _, (ls.map V.ref).length, rfl, .inl ⟨_, SqL.of t3.lst, rfl⟩, d, l, _, rfl, ?_, ?_, d3, fun q H4 q0 q1 b4 d4 => ?_⟩
        · rw [List.length_map, hll, List.length_cons]
          omega
        · rw [List.length_map, hll]
          omega
        · rw [List.length_map, hll] at q1
          have t4 := t3.but hD d3 b4
          have tt4 := tt.keep (fun o e => b4.at nD e) (b4.tp d3.noT)
          refine ⟨F, _, q, q.toNat, rfl, rfl, t4.lst, ?_, ?_⟩
          · unfold ixN
            rw [if_pos q0, if_pos (by rw [List.length_map, hll]; exact q1)]
          · refine ⟨_, rfl, k F _ _ _ ((b2.trans (b3.trans b4)).new hF0) (d4.upd nF) (t4.put (j := q.toNat) tt4 hm hD0) ?_⟩
            exact .one (st0 :: sts) q.toNat t (by omega) (by omega) tok
    · have : decide (V.int f = V.int 5) = false := decide_eq_false fun z => hf (V.int.inj z)
      rw [this]
      exact ⟨_, rfl, k F ls _ H1 b1 d1 ht fin⟩
end Wf
/-! Tables side by side, tables with other names. -/
namespace Wf
open PySem PySem.Spec L2
/-- tables to be read -/
structure TL (K : PySem.W.Frag) (H : Hp) (A : Addr) (ls : List Addr) (ts : List Tab) : Prop where
  lst : H A = some (.lst (ls.map V.ref))
  tab : Paired (TabAt K H) ls ts
theorem Tabs.tl {K : PySem.W.Frag} {H H1 : Hp} {F : Addr} {ls : List Addr} {ts : List Tab} (t : Tabs K H H1 F ls ts) : TL K H1 F ls ts := ⟨t.lst, t.tab⟩
theorem TL.same {K : PySem.W.Frag} {H H1 : Hp} {A : Addr} {ls : List Addr} {ts : List Tab} (t : TL K H A ls ts) (s : Same H H1) : TL K H1 A ls ts := ⟨s _ _ t.lst, pr_mono t.tab fun a b _ h => h.keep (fun o e => s _ _ e) (Same.tp s)⟩
theorem ix_lt {x y w : Int} (x0 : 0 ≤ x) (x1 : x < w) (y0 : 0 ≤ y) (y1 : y < w) : 0 ≤ x * w + y ∧ x * w + y < w * w := by
  have h1 : 0 ≤ x * w := Int.mul_nonneg x0 (by omega)
  have h2 : (x + 1) * w ≤ w * w := Int.mul_le_mul_of_nonneg_right (by omega) (by omega)
  have h3 : (x + 1) * w = x * w + w := by rw [Int.add_mul, Int.one_mul]
  constructor <;> omega
/-- the pair at a place of a table that is read -/
theorem tab_ix {K : PySem.W.Frag} {H : Hp} {l : Addr} {t : Tab} {i : Int} (h : TabAt K H l t) (h0 : 0 ≤ i) (h1 : i < t.length) : ∃ vs v p, H l = some (.lst vs) ∧ atI vs i = some v ∧ t[i.toNat]? = some p ∧ Dp K H v (dP p) := by
  obtain ⟨vs, e1, e2⟩ := h.ex
  have hl : vs.length = t.length := by rw [DpAll.len e2, List.length_map]
  have hp : t[i.toNat]? = some (t[i.toNat]'(by omega)) := List.getElem?_eq_getElem (by omega)
  obtain ⟨v, f1, f2⟩ := DpAll.get (d := dP (t[i.toNat]'(by omega))) e2 (by rw [List.getElem?_map, hp]; rfl)
  refine ⟨vs, v, _, e1, ?_, hp, f2⟩
  unfold atI ixN
  rw [if_pos h0, if_pos (by rw [hl]; exact h1)]
  exact f1
def sideP (t1 t2 : Tab) (w r : Int) (n : Int) : Int × Int :=
  let c := t1.getD (n / (w * r) / r * w + n % (w * r) / r).toNat (0, 0)
  let g := t2.getD (n / (w * r) % r * r + n % (w * r) % r).toNat (0, 0)
  (c.1 * r + g.1, c.2 * r + g.2)
def sideT (w r : Int) (t1 t2 : Tab) : Tab := (iota (w * r * (w * r))).map (sideP t1 t2 w r)
def sp_side (K : PySem.W.Frag) : Sp := fun vs H Q _ => ∃ (A B : Addr) (la lb : List Addr) (ta tb : List Tab) (w r : Int), vs = [.ref A, .ref B, .int w, .int r] ∧ TL K H A la ta ∧ TL K H B lb tb ∧ ta.length = tb.length ∧ ta.length ≤ 10 ∧ 1 ≤ w ∧ 1 ≤ r ∧ w ≤ 6 ∧ r ≤ 6 ∧ w * r ≤ 6 ∧
  (∀ t ∈ ta, TabOk w t) ∧ (∀ t ∈ tb, TabOk r t) ∧ ∀ (F : Addr) (ls : List Addr) (H' : Hp), Same H H' → Tabs K H H' F ls (List.zipWith (sideT w r) ta tb) → Q (.ref F) H'
def t_side (K : PySem.W.Frag) : TS :=
  tSeq (tPar 4 5 (tCons (tLst (tNil)) (tCons (tOp qMul (tVar 2) (tVar 3)) (tNil))))
    (tSeq (tFor (RZ.iZipA K (tCons (tVar 0) (tCons (tVar 1) (tNil)))) (gTup K 2 (gCons (gName 6) (gCons (gName 7) (gNil)))) (tSeq (tAsg (tLst (tNil)) (gName 8))
    (tSeq (tFor (iRng1 (tCons (tOp qMul (tVar 5) (tVar 5)) (tNil))) (gName 9) (tSeq (tPar 10 11 (tCons (tOp qFdiv (tVar 9) (tVar 5)) (tCons (tOp qMod (tVar 9) (tVar 5)) (tNil))))
    (tSeq (tAsg (tOp (rIxL K) (tVar 6) (tOp qAdd (tOp qMul (tOp qFdiv (tVar 10) (tVar 3)) (tVar 2)) (tOp qFdiv (tVar 11) (tVar 3)))) (gTup K 2 (gCons (gName 12) (gCons (gName 13) (gNil)))))
    (tSeq (tAsg (tOp (rIxL K) (tVar 7) (tOp qAdd (tOp qMul (tOp qMod (tVar 10) (tVar 3)) (tVar 3)) (tOp qMod (tVar 11) (tVar 3)))) (gTup K 2 (gCons (gName 14) (gCons (gName 15) (gNil)))))
    (tDrop (tBM K "list" rAppend (tVar 8) (tCons (tTup (tCons (tOp qAdd (tOp qMul (tVar 12) (tVar 3)) (tVar 14)) (tCons (tOp qAdd (tOp qMul (tVar 13) (tVar 3)) (tVar 15)) (tNil)))) (tNil))))))))
    (tDrop (tBM K "list" rAppend (tVar 4) (tCons (tVar 8) (tNil)))))))
    (tRet (tVar 4)))
theorem pure_side {K : PySem.W.Frag} (vs : List V) (H : Hp) (Q : VK) (E : XK) (h : sp_side K vs H Q E) : t_side K (EndsQ Q) (sN 16 vs) H := by
  obtain ⟨A, B, la, lb, ta, tb, w, r, rfl, hA, hB, hlen, h10, w1, r1, w6, r6, wr6, oka, okb, k⟩ := h
  show t_side K _ [some (.ref A), some (.ref B), some (.int w), some (.int r), none, none, none, none, none, none, none, none, none, none, none, none] H
  have wr1 : 1 ≤ w * r := by
    have := Int.mul_le_mul w1 r1 (by decide) (by omega)
    simpa using this
  refine ⟨(by show 0 ≤ sizeLine; decide), fun F hF => ⟨_, rfl, _, rfl, _, _, rfl, rfl, .inl ⟨by omega, by omega⟩, _, _, rfl, ?_⟩⟩
  have sF := same_new (o := .lst []) hF
  have hab : (la.map V.ref).length = (lb.map V.ref).length := by rw [List.length_map, List.length_map, pr_len hA.tab, pr_len hB.tab, hlen]
  refine ⟨_, rfl, _, rfl, A, B, _, _, rfl, .inl ⟨SqL.of (hA.same sF).lst, SqL.of (hB.same sF).lst, RZ.for_zipL (K := K) hab
    (fun i σ H1 => ∃ (c6 c7 c8 c9 c10 c11 c12 c13 c14 c15 : Option V) (ls : List Addr), σ = [some (.ref A), some (.ref B), some (.int w), some (.int r), some (.ref F), some (.int (w * r)), c6, c7, c8, c9, c10, c11, c12, c13, c14, c15] ∧ Same H H1 ∧ Tabs K H H1 F ls ((List.zipWith (sideT w r) ta tb).take i)) ?_ ?_ ?_ ?_⟩⟩
  · exact ⟨none, none, none, none, none, none, none, none, none, none, [], rfl, sF, ⟨upd_same, .nil, by simp, hF, fun x hx => (List.not_mem_nil hx).elim⟩⟩
  · rintro i σ H1 ⟨c6, c7, c8, c9, c10, c11, c12, c13, c14, c15, ls, rfl, s1, _⟩
    exact ⟨SqL.of (s1 _ _ hA.lst), SqL.of (s1 _ _ hB.lst)⟩
  · rintro i x y T σ H1 hx hy ⟨c6, c7, c8, c9, c10, c11, c12, c13, c14, c15, ls, rfl, s1, ht⟩ hT
    rw [List.getElem?_map] at hx hy
    obtain ⟨a, ha, rfl⟩ := Option.map_eq_some_iff.mp hx
    obtain ⟨b, hb, rfl⟩ := Option.map_eq_some_iff.mp hy
    obtain ⟨t1, ht1, ta1⟩ := pr_get (hA.same s1).tab ha
    obtain ⟨t2, ht2, tb1⟩ := pr_get (hB.same s1).tab hb
    have ok1 := oka t1 (List.mem_of_getElem? ht1)
    have ok2 := okb t2 (List.mem_of_getElem? ht2)
    have sT := same_new (o := .tup [.ref a, .ref b]) hT
    have s2 := s1.trans sT
    have tA := ta1.keep (fun o e => sT _ _ e) (Same.tp sT)
    have tB := tb1.keep (fun o e => sT _ _ e) (Same.tp sT)
    have tF := ht.same sT
    have hTT : upd H1 T (.tup [.ref a, .ref b]) T = some (.tup [.ref a, .ref b]) := upd_same
    generalize upd H1 T (.tup [.ref a, .ref b]) = H2 at s2 tA tB tF hTT
    refine ⟨T, _, rfl, SqT.of hTT, rfl, _, _, rfl, _, _, rfl, rfl, ?_⟩
    refine ⟨(by show 0 ≤ sizeLine; decide), fun P hP => ?_⟩
    have hP0 : H P = none := s2.free hP
    have sP := same_new (o := .lst []) hP
    have hmP : P ∉ F :: ls := tF.notIn hP
    have hSS := ss_le wr1 wr6
    refine ⟨_, rfl, _, rfl, _, _, rfl, rfl, .inl ⟨by omega, by omega⟩, w * r * (w * r), rfl, by omega, by omega,
      for_range (lo := 0) (n := (w * r * (w * r)).toNat) (fun j σ H3 => ∃ (c9 c10 c11 c12 c13 c14 c15 : Option V), σ = [some (.ref A), some (.ref B), some (.int w), some (.int r), some (.ref F), some (.int (w * r)), some (.ref a), some (.ref b), some (.ref P), c9, c10, c11, c12, c13, c14, c15] ∧ Same H2 H3 ∧ TabAt K H3 P (((List.range j).map fun (j : Nat) => (j : Int)).map (sideP t1 t2 w r))) ?_ ?_ ?_⟩
    · exact ⟨_, _, _, _, _, _, _, rfl, sP, ⟨[], upd_same, .nil⟩⟩
    · rintro j σ H3 hj ⟨c9, c10, c11, c12, c13, c14, c15, rfl, s3, tP⟩
      have tA3 := tA.keep (fun o e => s3 _ _ e) (Same.tp s3)
      have tB3 := tB.keep (fun o e => s3 _ _ e) (Same.tp s3)
      have hz : (0 : Int) + (j : Nat) = j := Int.zero_add _
      rw [hz]
      have j0 : (0 : Int) ≤ (j : Int) := Int.natCast_nonneg _
      have jS : (j : Int) < w * r * (w * r) := by omega
      have q1 : 0 ≤ (j : Int) / (w * r) ∧ (j : Int) / (w * r) < w * r := ⟨Int.ediv_nonneg j0 (by omega), Int.ediv_lt_of_lt_mul (by omega) jS⟩
      have q2 := mod_lt (a := (j : Int)) (b := w * r) (by omega)
      have q3 : 0 ≤ (j : Int) / (w * r) / r ∧ (j : Int) / (w * r) / r < w := ⟨Int.ediv_nonneg q1.1 (by omega), Int.ediv_lt_of_lt_mul (by omega) q1.2⟩
      have q4 : 0 ≤ (j : Int) % (w * r) / r ∧ (j : Int) % (w * r) / r < w := ⟨Int.ediv_nonneg q2.1 (by omega), Int.ediv_lt_of_lt_mul (by omega) q2.2⟩
      have q5 := mod_lt (a := (j : Int) / (w * r)) (b := r) (by omega)
      have q6 := mod_lt (a := (j : Int) % (w * r)) (b := r) (by omega)
      have i1 := ix_lt q3.1 q3.2 q4.1 q4.2
      have i2 := ix_lt q5.1 q5.2 q6.1 q6.2
      obtain ⟨vs1, v1, p1, f1, f2, f3, f4⟩ := tab_ix tA3 i1.1 (by rw [ok1.len]; exact i1.2)
      obtain ⟨vs2, v2, p2, g1, g2, g3, g4⟩ := tab_ix tB3 i2.1 (by rw [ok2.len]; exact i2.2)
      obtain ⟨x1, rfl, y1⟩ := dP_at f4
      obtain ⟨x2, rfl, y2⟩ := dP_at g4
      have in1 := ok1.inn p1 (List.mem_of_getElem? f3)
      have in2 := ok2.inn p2 (List.mem_of_getElem? g3)
      unfold InP at in1 in2
      refine ⟨_, rfl, _, rfl, _, _, rfl, rfl, ⟨by omega, by omega⟩, _, rfl, _, rfl, _, _, rfl, rfl, (by show 0 < w * r; omega), _, _, rfl, ?_⟩
      refine ⟨_, rfl, _, rfl, _, rfl, _, _, rfl, rfl, ⟨by omega, by omega⟩, _, rfl, _, _, rfl, rfl, .inr ⟨by omega, by omega⟩, _, rfl, _, rfl, _, _, rfl, rfl, ⟨by omega, by omega⟩, _, _, rfl, rfl, a, vs1, _, _, rfl, rfl, SqL.of f1, f2, x1, _, rfl, y1, rfl, _, _, rfl, _, _, rfl, rfl, ?_⟩
      refine ⟨_, rfl, _, rfl, _, rfl, _, _, rfl, rfl, (by show 0 < r; omega), _, rfl, _, _, rfl, rfl, .inr ⟨by omega, by omega⟩, _, rfl, _, rfl, _, _, rfl, rfl, (by show 0 < r; omega), _, _, rfl, rfl, b, vs2, _, _, rfl, rfl, SqL.of g1, g2, x2, _, rfl, y2, rfl, _, _, rfl, _, _, rfl, rfl, ?_⟩
      obtain ⟨vp, e1, e2⟩ := tP.ex
      refine ⟨_, rfl, .inl ⟨rfl, _, SqL.of e1⟩, _, rfl, _, rfl, _, _, rfl, rfl, .inr ⟨by omega, by omega⟩, _, rfl, _, _, rfl, rfl, _, rfl, _, rfl, _, _, rfl, rfl, .inr ⟨by omega, by omega⟩, _, rfl, _, _, rfl, rfl, (by show 2 ≤ sizeLine; decide), fun z hzn => ?_⟩
      have hPz : P ≠ z := ne_of_none e1 hzn
      have sz := same_new (o := .tup [.int (p1.1 * r + p2.1), .int (p1.2 * r + p2.2)]) hzn
      have hzz : upd H3 z (.tup [.int (p1.1 * r + p2.1), .int (p1.2 * r + p2.2)]) z = some _ := upd_same
      generalize upd H3 z (.tup [.int (p1.1 * r + p2.1), .int (p1.2 * r + p2.2)]) = H4 at sz hzz
      have e1' := sz _ _ e1
      have ln : vp.length = j := by rw [DpAll.len e2, List.length_map, List.length_map, List.length_map, List.length_range]
      refine ⟨P, vp, _, rfl, rfl, e1', ?_, ?_⟩
      · rw [ln]
        exact Nat.lt_of_le_of_lt (show j ≤ 36 by omega) (by decide)
      · refine ⟨_, _, _, _, _, _, _, rfl, fun c o e => ?_, ⟨vp ++ [.ref z], upd_same, ?_⟩⟩
        · rw [upd_ne (ne_of_none e hP)]
          exact sz _ _ (s3 _ _ e)
        · rw [iota_succ, List.map_append, List.map_append]
          have tp2 : Tp K H4 (upd H4 P (.lst (vp ++ [.ref z]))) := tp_upd (not_lst e1')
          refine DpAll.append (DpAll.tp ((Same.tp sz).trans tp2) _ _ (noLAll_dP _) e2) (.cons ?_ .nil)
          have ez : sideP t1 t2 w r (j : Int) = (p1.1 * r + p2.1, p1.2 * r + p2.2) := by
            unfold sideP
            simp only [List.getD, f3, g3, Option.getD_some]
          rw [ez]
          refine dP_new ?_
          rw [upd_ne (Ne.symm hPz)]
          exact hzz
    · rintro σ H3 ⟨c9, c10, c11, c12, c13, c14, c15, rfl, s3, tP⟩
      have tF3 := tF.same s3
      refine ⟨_, rfl, .inl ⟨rfl, _, SqL.of tF3.lst⟩, _, rfl, F, _, _, rfl, rfl, tF3.lst, ?_, ?_⟩
      · rw [List.length_map, ht.len, List.length_take]
        exact Nat.lt_of_le_of_lt (Nat.le_trans (Nat.min_le_right _ _) (show (List.zipWith (sideT w r) ta tb).length ≤ 10 by rw [List.length_zipWith]; omega)) (by decide)
      · refine ⟨_, _, _, _, _, _, _, _, _, _, ls ++ [P], rfl, fun c o e => ?_, ?_⟩
        · rw [upd_ne (ne_of_none e hF)]
          exact s3 _ _ (s2 _ _ e)
        · have ez : (List.zipWith (sideT w r) ta tb)[i]? = some (sideT w r t1 t2) := by
            rw [List.getElem?_zipWith, ht1, ht2]
          rw [List.take_add_one, ez]
          exact tF3.push tP hmP hP0
  · rintro σ H1 ⟨c6, c7, c8, c9, c10, c11, c12, c13, c14, c15, ls, rfl, s1, ht⟩
    have : (List.zipWith (sideT w r) ta tb).take (la.map V.ref).length = List.zipWith (sideT w r) ta tb := List.take_of_length_le (by rw [List.length_zipWith, List.length_map, pr_len hA.tab]; omega)
    rw [this] at ht
    exact ⟨_, rfl, k F ls H1 s1 ht⟩
end Wf
/-! Tables with other names, good tables, books. -/
namespace Wf
open PySem PySem.Spec L2
theorem for_enumL {K : PySem.W.Frag} {a : Addr} {xs : List V} {g : TG} {tb : TS} {D : Ends} {σ : St} {H : Hp} (Pv : Nat → St → Hp → Prop) (h0 : Pv 0 σ H) (hq : ∀ i σ H, Pv i σ H → SqL K H a xs)
    (hs : ∀ (i : Nat) (x : V) (T : Addr) (σ : St) (H : Hp), xs[i]? = some x → Pv i σ H → H T = none → g (.ref T) σ (upd H T (.tup [.int (i : Nat), x])) fun σ2 H2 => tb { D with nx := Pv (i + 1), ct := Pv (i + 1), bk := D.nx } σ2 H2) (hd : ∀ σ H, Pv xs.length σ H → D.nx σ H) :
    ∃ W : Nat → Nat → St → Hp → Prop, (∃ m, W 0 m σ H) ∧ ∀ i m σ H, W i m σ H →
      ((Ite K a).stop i H ∧ D.nx σ H) ∨ ((Ite K a).go i H ∧ ∃ N : St → Hp → Prop, (∀ σ' H', N σ' H' → ∃ m', m' < m ∧ W (i + 1) m' σ' H') ∧ ∀ v H', (Ite K a).yld i H v H' → g v σ H' fun σ2 H2 => tb { D with nx := N, ct := N, bk := D.nx } σ2 H2) := by
  refine ⟨fun i m σ H => m = xs.length - i ∧ i ≤ xs.length ∧ Pv i σ H, ⟨xs.length, rfl, Nat.zero_le _, h0⟩, ?_⟩
  rintro i m σ H ⟨rfl, hi, p⟩
  have q := hq i σ H p
  by_cases hlt : i < xs.length
  · have hx : xs[i]? = some xs[i] := List.getElem?_eq_getElem hlt
    refine .inr ⟨⟨xs, _, q, hx⟩, Pv (i + 1), fun σ' H' p' => ⟨xs.length - (i + 1), by omega, rfl, hlt, p'⟩, fun v H' y => ?_⟩
    obtain ⟨T, x, rfl, hT, rfl, hall⟩ := y
    exact hs i x T σ H (hall xs q) p hT
  · have e : i = xs.length := by omega
    subst e
    exact .inl ⟨⟨xs, q, Nat.le_refl _⟩, hd σ H p⟩
theorem DpAll.set {K : PySem.W.Frag} {H : Hp} {v : V} {d : PyData} (h : Dp K H v d) : ∀ {vs : List V} {ds : List PyData} (i : Nat), DpAll K H vs ds → DpAll K H (vs.set i v) (ds.set i d)
  | _, _, _, .nil => .nil
  | _, _, 0, .cons _ t => .cons h t
  | _, _, i + 1, .cons k t => .cons k (DpAll.set h i t)
/-! ### _law_names_put -/
def nmStep (ns : List Int) (s : Int) (t acc : Tab) (n : Nat) : Tab :=
  acc.set (ns.getD ((n : Int) / s).toNat 0 * s + ns.getD ((n : Int) % s).toNat 0).toNat (ns.getD (t.getD n (0, 0)).1.toNat 0, ns.getD (t.getD n (0, 0)).2.toNat 0)
def nmF (ns : List Int) (s : Int) (t : Tab) (k : Nat) : Tab := (List.range k).foldl (nmStep ns s t) (List.replicate (s * s).toNat (0, 0))
def nameT (s : Int) (ns : List Int) (t : Tab) : Tab := nmF ns s t t.length
theorem nmF_succ (ns : List Int) (s : Int) (t : Tab) (k : Nat) : nmF ns s t (k + 1) = nmStep ns s t (nmF ns s t k) k := by
  unfold nmF
  rw [List.range_succ, List.foldl_append]
  rfl
theorem nmF_len (ns : List Int) (s : Int) (t : Tab) : ∀ k, (nmF ns s t k).length = (s * s).toNat
  | 0 => by unfold nmF; rw [List.range_zero, List.foldl_nil, List.length_replicate]
  | k + 1 => by rw [nmF_succ, nmStep, List.length_set, nmF_len ns s t k]
def sp_names (K : PySem.W.Frag) : Sp := fun vs H Q _ => ∃ (A N : Addr) (la : List Addr) (ta : List Tab) (s : Int) (ns : List Int), vs = [.ref A, .int s, .ref N] ∧ TL K H A la ta ∧ H N = some (.lst (ns.map V.int)) ∧ ta.length ≤ 10 ∧ 1 ≤ s ∧ s ≤ 6 ∧ ns.Perm (iota s) ∧
  (∀ t ∈ ta, TabOk s t) ∧ ∀ (F : Addr) (ls : List Addr) (H' : Hp), Same H H' → Tabs K H H' F ls (ta.map (nameT s ns)) → Q (.ref F) H'
theorem iota_mem {n x : Int} : x ∈ iota n ↔ 0 ≤ x ∧ x < n := by
  unfold iota
  rw [List.mem_map]
  constructor
  · rintro ⟨i, hi, rfl⟩
    rw [List.mem_range] at hi
    constructor <;> omega
  · rintro ⟨h1, h2⟩
    exact ⟨x.toNat, by rw [List.mem_range]; omega, by omega⟩
theorem perm_at {s : Int} {ns : List Int} (hp : ns.Perm (iota s)) {i : Int} (h0 : 0 ≤ i) (h1 : i < s) : atI (ns.map V.int) i = some (.int (ns.getD i.toNat 0)) ∧ 0 ≤ ns.getD i.toNat 0 ∧ ns.getD i.toNat 0 < s := by
  have hl : ns.length = s.toNat := by rw [hp.length_eq]; unfold iota; rw [List.length_map, List.length_range]
  have hi : i.toNat < ns.length := by omega
  have e : ns[i.toNat]? = some ns[i.toNat] := List.getElem?_eq_getElem hi
  have m : ns[i.toNat] ∈ iota s := hp.mem_iff.mp (List.getElem_mem hi)
  have g : ns.getD i.toNat 0 = ns[i.toNat] := by simp [List.getD, e]
  rw [g]
  refine ⟨?_, (iota_mem.mp m).1, (iota_mem.mp m).2⟩
  unfold atI ixN
  rw [if_pos h0, if_pos (by rw [List.length_map]; omega)]
  show (ns.map V.int)[i.toNat]? = _
  rw [List.getElem?_map, e]
  rfl
theorem dp_rep {K : PySem.W.Frag} {H : Hp} {v : V} {d : PyData} (h : Dp K H v d) : ∀ n, DpAll K H (List.replicate n v) (List.replicate n d)
  | 0 => .nil
  | n + 1 => .cons h (dp_rep h n)
theorem rep_flat {α : Type} (v : α) : ∀ n, (List.replicate n [v]).flatten = List.replicate n v
  | 0 => rfl
  | n + 1 => by rw [List.replicate_succ, List.flatten_cons, rep_flat v n]; rfl
def t_names_put (K : PySem.W.Frag) : TS :=
  tSeq (tAsg (tLst (tNil)) (gName 3))
    (tSeq (tFor (iList K (tVar 0)) (gName 4) (tSeq (tAsg (tOp rRep (tLst (tCons (tTup (tCons (tC (.int 0)) (tCons (tC (.int 0)) (tNil)))) (tNil))) (tOp qMul (tVar 1) (tVar 1))) (gName 5))
    (tSeq (tFor (iEnum K (tCons (tVar 4) (tNil))) (gTup K 2 (gCons (gName 6) (gCons (gName 7) (gNil)))) (tSeq (tPar 8 9 (tCons (tOp (rIxL K) (tVar 2) (tOp qFdiv (tVar 6) (tVar 1))) (tCons (tOp (rIxL K) (tVar 2) (tOp qMod (tVar 6) (tVar 1))) (tNil))))
    (tAsg (tTup (tCons (tOp (rIxL K) (tVar 2) (tOp (rIxT K) (tVar 7) (tC (.int 0)))) (tCons (tOp (rIxL K) (tVar 2) (tOp (rIxT K) (tVar 7) (tC (.int 1)))) (tNil)))) (gSub (tVar 5) (tOp qAdd (tOp qMul (tVar 8) (tVar 1)) (tVar 9)) rSetL))))
    (tDrop (tBM K "list" rAppend (tVar 3) (tCons (tVar 5) (tNil)))))))
    (tRet (tVar 3)))
theorem pure_names {K : PySem.W.Frag} (vs : List V) (H : Hp) (Q : VK) (E : XK) (h : sp_names K vs H Q E) : t_names_put K (EndsQ Q) (sN 10 vs) H := by
  obtain ⟨A, N, la, ta, s, ns, rfl, hA, hN, h10, s1, s6, hp, oka, k⟩ := h
  show t_names_put K _ [some (.ref A), some (.int s), some (.ref N), none, none, none, none, none, none, none] H
  have hss := ss_le s1 s6
  refine ⟨(by show 0 ≤ sizeLine; decide), fun F hF => ?_⟩
  have sF := same_new (o := .lst []) hF
  refine ⟨_, rfl, A, rfl, ⟨_, SqL.of (sF _ _ hA.lst)⟩, for_list (K := K) (a := A) (xs := la.map V.ref)
    (fun i σ H1 => ∃ (c4 c5 c6 c7 c8 c9 : Option V) (ls : List Addr), σ = [some (.ref A), some (.int s), some (.ref N), some (.ref F), c4, c5, c6, c7, c8, c9] ∧ Same H H1 ∧ Tabs K H H1 F ls ((ta.map (nameT s ns)).take i)) ?_ ?_ ?_ ?_⟩
  · exact ⟨none, none, none, none, none, none, [], rfl, sF, ⟨upd_same, .nil, by simp, hF, fun x hx => (List.not_mem_nil hx).elim⟩⟩
  · rintro i σ H1 _ ⟨c4, c5, c6, c7, c8, c9, ls, rfl, s1, _⟩
    exact SqL.of (s1 _ _ hA.lst)
  · rintro i x σ H1 hx ⟨c4, c5, c6, c7, c8, c9, ls, rfl, sH1, ht⟩
    rw [List.getElem?_map] at hx
    obtain ⟨a, ha, rfl⟩ := Option.map_eq_some_iff.mp hx
    obtain ⟨t, ht1, ta1⟩ := pr_get (hA.same sH1).tab ha
    have ok1 := oka t (List.mem_of_getElem? ht1)
    refine ⟨(by show 2 ≤ sizeLine; decide), fun p hp0 => ⟨(by show 1 ≤ sizeLine; decide), fun q hq0 => ?_⟩⟩
    have sp := same_new (o := .tup [.int 0, .int 0]) hp0
    have sq := same_new (o := .lst [.ref p]) hq0
    refine ⟨_, rfl, _, rfl, _, _, rfl, rfl, .inl ⟨by omega, by omega⟩, q, s * s, [.ref p], rfl, rfl, upd_same, by omega, by omega, ?_, fun P hP => ?_⟩
    · show 1 * (s * s).toNat ≤ sizeLine
      exact Nat.le_trans (show 1 * (s * s).toNat ≤ 36 by omega) (by decide)
    rw [rep_flat]
    have sP := same_new (o := .lst (List.replicate (s * s).toNat (.ref p))) hP
    have s12 := sp.trans sq
    have s13 := s12.trans sP
    have hpp : upd (upd (upd H1 p (.tup [.int 0, .int 0])) q (.lst [.ref p])) P (.lst (List.replicate (s * s).toNat (.ref p))) p = some (.tup [.int 0, .int 0]) := (sq.trans sP) _ _ upd_same
    have hPP : upd (upd (upd H1 p (.tup [.int 0, .int 0])) q (.lst [.ref p])) P (.lst (List.replicate (s * s).toNat (.ref p))) P = some (.lst (List.replicate (s * s).toNat (.ref p))) := upd_same
    have hP1 : H1 P = none := s12.free hP
    have hP0 : H P = none := sH1.free hP1
    have hmP : P ∉ F :: ls := ht.notIn hP1
    generalize upd (upd (upd H1 p (.tup [.int 0, .int 0])) q (.lst [.ref p])) P (.lst (List.replicate (s * s).toNat (.ref p))) = H2 at s13 hpp hPP
    have s2 := sH1.trans s13
    have tA := ta1.keep (fun o e => s13 _ _ e) (Same.tp s13)
    have tF := ht.same s13
    obtain ⟨va, ea, fa⟩ := tA.ex
    have lva : va.length = t.length := by rw [DpAll.len fa, List.length_map]
    have sBut : ∀ {H3 : Hp}, (∀ c o, c ≠ P → H2 c = some o → H3 c = some o) → H2 P = some (.lst (List.replicate (s * s).toNat (.ref p))) → Tp K H2 H3 := fun {H3} hk h => But.tp (ds := [P]) (fun c o hc e => hk c o (fun z => hc (by rw [z]; exact List.mem_cons_self)) e) fun x hx => by
      rw [List.mem_singleton.mp hx]
      exact not_lst h
    have haP : a ≠ P := by
      obtain ⟨vv, e, _⟩ := ta1.ex
      exact ne_of_none e hP1
    have hNP : N ≠ P := ne_of_none hN hP0
    have hN2 := s2 _ _ hN
    refine ⟨_, rfl, a, va, rfl, SqL.of ea, for_enumL (K := K) (a := a) (xs := va)
      (fun j σ H3 => ∃ (c6 c7 c8 c9 : Option V), σ = [some (.ref A), some (.int s), some (.ref N), some (.ref F), some (.ref a), some (.ref P), c6, c7, c8, c9] ∧ (∀ c o, c ≠ P → H2 c = some o → H3 c = some o) ∧ TabAt K H3 P (nmF ns s t j)) ?_ ?_ ?_ ?_⟩
    · refine ⟨_, _, _, _, rfl, fun c o _ e => e, ⟨_, hPP, ?_⟩⟩
      unfold nmF
      rw [List.range_zero, List.foldl_nil, List.map_replicate]
      exact dp_rep (dP_new hpp) _
    · rintro j σ H3 ⟨c6, c7, c8, c9, rfl, k3, _⟩
      exact SqL.of (k3 _ _ haP ea)
    · rintro j x T σ H3 hx ⟨c6, c7, c8, c9, rfl, k3, tP⟩ hT
      have hjt : j < t.length := by rw [← lva]; exact (List.getElem?_eq_some_iff.mp hx).1
      have et : t[j]? = some t[j] := List.getElem?_eq_getElem hjt
      have jss : (j : Int) < s * s := by rw [← ok1.len]; omega
      have j0 : (0 : Int) ≤ (j : Int) := Int.natCast_nonneg _
      obtain ⟨dx, f1, f2⟩ := DpAll.getV fa hx
      rw [List.getElem?_map, et] at f1
      cases f1
      have in1 := ok1.inn t[j] (List.getElem_mem hjt)
      unfold InP at in1
      have tp3 := sBut k3 hPP
      have sT := same_new (o := .tup [.int (j : Nat), x]) hT
      have f3 := Dp.tp (tp3.trans (Same.tp sT)) _ _ (noL_dP _) f2
      obtain ⟨xa, rfl, hxa⟩ := dP_at f3
      have hTT : upd H3 T (.tup [.int (j : Nat), .ref xa]) T = some (.tup [.int (j : Nat), .ref xa]) := upd_same
      have tP4 := tP.keep (fun o e => sT _ _ e) (Same.tp sT)
      have k4 : ∀ c o, c ≠ P → H2 c = some o → upd H3 T (.tup [.int (j : Nat), .ref xa]) c = some o := fun c o hc e => sT _ _ (k3 c o hc e)
      have hTP : T ≠ P := by
        obtain ⟨vv, e, _⟩ := tP.ex
        exact (ne_of_none e hT).symm
      generalize upd H3 T (.tup [.int (j : Nat), .ref xa]) = H4 at hxa hTT tP4 k4
      have hN4 := k4 _ _ hNP hN2
      have q1 : 0 ≤ (j : Int) / s ∧ (j : Int) / s < s := ⟨Int.ediv_nonneg j0 (by omega), Int.ediv_lt_of_lt_mul (by omega) jss⟩
      have q2 := mod_lt (a := (j : Int)) (b := s) (by omega)
      obtain ⟨g1, g2, g3⟩ := perm_at hp q1.1 q1.2
      obtain ⟨g4, g5, g6⟩ := perm_at hp q2.1 q2.2
      obtain ⟨g7, g8, g9⟩ := perm_at hp in1.1 in1.2.1
      obtain ⟨g10, g11, g12⟩ := perm_at hp in1.2.2.1 in1.2.2.2
      refine ⟨T, _, rfl, SqT.of hTT, rfl, _, _, rfl, _, _, rfl, rfl, ?_⟩
      refine ⟨_, rfl, _, rfl, _, rfl, _, _, rfl, rfl, ⟨by omega, by omega⟩, N, _, _, _, rfl, rfl, SqL.of hN4, g1, _, rfl, _, rfl, _, rfl, _, _, rfl, rfl, (by show 0 < s; omega), N, _, _, _, rfl, rfl, SqL.of hN4, g4, _, _, rfl, ?_⟩
      refine ⟨_, rfl, _, rfl, xa, _, _, _, rfl, rfl, hxa, rfl, N, _, _, _, rfl, rfl, SqL.of hN4, g7, _, rfl, _, rfl, xa, _, _, _, rfl, rfl, hxa, rfl, N, _, _, _, rfl, rfl, SqL.of hN4, g10, (by show 2 ≤ sizeLine; decide), fun z hz => ?_⟩
      have sz := same_new (o := .tup [.int (ns.getD t[j].1.toNat 0), .int (ns.getD t[j].2.toNat 0)]) hz
      have hzz : upd H4 z (.tup [.int (ns.getD t[j].1.toNat 0), .int (ns.getD t[j].2.toNat 0)]) z = some _ := upd_same
      have tP5 := tP4.keep (fun o e => sz _ _ e) (Same.tp sz)
      have k5 : ∀ c o, c ≠ P → H2 c = some o → upd H4 z (.tup [.int (ns.getD t[j].1.toNat 0), .int (ns.getD t[j].2.toNat 0)]) c = some o := fun c o hc e => sz _ _ (k4 c o hc e)
      have hPz : P ≠ z := by
        obtain ⟨vv, e, _⟩ := tP4.ex
        exact ne_of_none e hz
      generalize upd H4 z (.tup [.int (ns.getD t[j].1.toNat 0), .int (ns.getD t[j].2.toNat 0)]) = H5 at hzz tP5 k5
      have ix := ix_lt g2 g3 g5 g6
      obtain ⟨vp, e1, e2⟩ := tP5.ex
      have lvp : vp.length = (s * s).toNat := by rw [DpAll.len e2, List.length_map, nmF_len]
      refine ⟨_, rfl, _, rfl, _, rfl, _, _, rfl, rfl, .inr ⟨by omega, by omega⟩, _, rfl, _, _, rfl, rfl, P, vp, _, (ns.getD ((j : Int) / s).toNat 0 * s + ns.getD ((j : Int) % s).toNat 0).toNat, rfl, rfl, e1, ?_, ?_⟩
      · unfold ixN
        rw [if_pos ix.1, if_pos (by rw [lvp]; omega)]
      · refine ⟨_, _, _, _, rfl, fun c o hc e => ?_, ⟨_, upd_same, ?_⟩⟩
        · rw [upd_ne hc]
          exact k5 c o hc e
        · have tp6 : Tp K H5 (upd H5 P (.lst (vp.set (ns.getD ((j : Int) / s).toNat 0 * s + ns.getD ((j : Int) % s).toNat 0).toNat (.ref z)))) := tp_upd (not_lst e1)
          rw [nmF_succ, nmStep, List.map_set]
          refine DpAll.set ?_ _ (DpAll.tp tp6 _ _ (noLAll_dP _) e2)
          have ez : t.getD j (0, 0) = t[j] := by simp [List.getD, et]
          rw [ez]
          refine dP_new ?_
          rw [upd_ne (Ne.symm hPz)]
          exact hzz
    · rintro σ H3 ⟨c6, c7, c8, c9, rfl, k3, tP⟩
      have tF3 : Tabs K H H3 F ls _ := tF.keep (fun x o hx e => k3 x o (fun z => hmP (z ▸ hx)) e) (sBut k3 hPP)
      rw [lva] at tP
      refine ⟨_, rfl, .inl ⟨rfl, _, SqL.of tF3.lst⟩, _, rfl, F, _, _, rfl, rfl, tF3.lst, ?_, ?_⟩
      · rw [List.length_map, ht.len, List.length_take, List.length_map]
        exact Nat.lt_of_le_of_lt (Nat.le_trans (Nat.min_le_right _ _) h10) (by decide)
      · refine ⟨_, _, _, _, _, _, ls ++ [P], rfl, fun c o e => ?_, ?_⟩
        · rw [upd_ne (ne_of_none e hF)]
          exact k3 _ _ (ne_of_none e hP0) (s2 _ _ e)
        · have ez : (ta.map (nameT s ns))[i]? = some (nameT s ns t) := by rw [List.getElem?_map, ht1]; rfl
          rw [List.take_add_one, ez]
          exact tF3.push tP hmP hP0
  · rintro σ H1 ⟨c4, c5, c6, c7, c8, c9, ls, rfl, s1, ht⟩
    have : (ta.map (nameT s ns)).take (la.map V.ref).length = ta.map (nameT s ns) := List.take_of_length_le (by rw [List.length_map, List.length_map, pr_len hA.tab]; omega)
    rw [this] at ht
    exact ⟨_, rfl, k F ls H1 s1 ht⟩
end Wf
/-! Good tables and books. -/
namespace Wf
open PySem PySem.Spec L2
theorem pairF_in {f s : Int} {st : Int × Int} {a b : Int} (hs : 1 ≤ s) (a0 : 0 ≤ a) (a1 : a < s) (b0 : 0 ≤ b) (b1 : b < s) : InP s (pairF f s st a b) := by
  unfold pairF InP
  have h1 := mod_lt (a := 2 * b - a) (b := s) (by omega)
  have h2 := mod_lt (a := b + st.2) (b := s) (by omega)
  have h3 := mod_lt (a := a + st.1) (b := s) (by omega)
  split
  · exact ⟨b0, b1, a0, a1⟩
  · split
    · exact ⟨a0, a1, b0, b1⟩
    · split
      · dsimp only
        split <;> split <;> exact ⟨by omega, by omega, by omega, by omega⟩
      · split
        · exact ⟨b0, b1, h1.1, h1.2⟩
        · exact ⟨h2.1, h2.2, h3.1, h3.2⟩
theorem iota_len (n : Int) : (iota n).length = n.toNat := by unfold iota; rw [List.length_map, List.length_range]
theorem div_in {s n : Int} (hs : 1 ≤ s) (h0 : 0 ≤ n) (h1 : n < s * s) : (0 ≤ n / s ∧ n / s < s) ∧ (0 ≤ n % s ∧ n % s < s) := ⟨⟨Int.ediv_nonneg h0 (by omega), Int.ediv_lt_of_lt_mul (by omega) h1⟩, mod_lt (by omega)⟩
theorem tabF_ok {f s : Int} {st : Int × Int} (hs : 1 ≤ s) : TabOk s (tabF f s st) := by
  have hss : 0 ≤ s * s := Int.mul_nonneg (by omega) (by omega)
  refine ⟨by unfold tabF; rw [List.length_map, iota_len]; omega, fun p hp => ?_⟩
  obtain ⟨n, hn, rfl⟩ := List.mem_map.mp hp
  obtain ⟨h0, h1⟩ := iota_mem.mp hn
  obtain ⟨⟨x1, x2⟩, x3, x4⟩ := div_in hs h0 h1
  exact pairF_in hs x1 x2 x3 x4
theorem PlainT.ok {m s : Int} {ts : List Tab} (hs : 1 ≤ s) (h : PlainT m s ts) : AllOk m s ts := by
  cases h with
  | all f sts f0 f4 hl hin =>
    refine ⟨by rw [List.length_map]; exact hl, fun t ht => ?_⟩
    obtain ⟨st, _, rfl⟩ := List.mem_map.mp ht
    exact tabF_ok hs
  | one sts i t hl hi ht =>
    refine ⟨by rw [List.length_set, List.length_map]; exact hl, fun x hx => ?_⟩
    rcases List.mem_or_eq_of_mem_set hx with hx | hx
    · obtain ⟨st, _, rfl⟩ := List.mem_map.mp hx
      exact tabF_ok hs
    · rw [hx]
      exact ht
theorem getD_in {s : Int} {t : Tab} (h : TabOk s t) {i : Int} (h0 : 0 ≤ i) (h1 : i < s * s) : InP s (t.getD i.toNat (0, 0)) := by
  have hl := h.len
  have hi : i.toNat < t.length := by omega
  have e : t.getD i.toNat (0, 0) = t[i.toNat] := by simp [List.getD, List.getElem?_eq_getElem hi]
  rw [e]
  exact h.inn _ (List.getElem_mem hi)
theorem sideT_ok {w r : Int} {t1 t2 : Tab} (w1 : 1 ≤ w) (r1 : 1 ≤ r) (h1 : TabOk w t1) (h2 : TabOk r t2) : TabOk (w * r) (sideT w r t1 t2) := by
  have wr1 : 1 ≤ w * r := by
    have := Int.mul_le_mul w1 r1 (by decide) (by omega)
    simpa using this
  have hss : 0 ≤ w * r * (w * r) := Int.mul_nonneg (by omega) (by omega)
  refine ⟨by unfold sideT; rw [List.length_map, iota_len]; omega, fun p hp => ?_⟩
  obtain ⟨n, hn, rfl⟩ := List.mem_map.mp hp
  obtain ⟨n0, n1⟩ := iota_mem.mp hn
  obtain ⟨⟨x1, x2⟩, x3, x4⟩ := div_in wr1 n0 n1
  have q3 : 0 ≤ n / (w * r) / r ∧ n / (w * r) / r < w := ⟨Int.ediv_nonneg x1 (by omega), Int.ediv_lt_of_lt_mul (by omega) x2⟩
  have q4 : 0 ≤ n % (w * r) / r ∧ n % (w * r) / r < w := ⟨Int.ediv_nonneg x3 (by omega), Int.ediv_lt_of_lt_mul (by omega) x4⟩
  have q5 := mod_lt (a := n / (w * r)) (b := r) (by omega)
  have q6 := mod_lt (a := n % (w * r)) (b := r) (by omega)
  have i1 := ix_lt q3.1 q3.2 q4.1 q4.2
  have i2 := ix_lt q5.1 q5.2 q6.1 q6.2
  have g1 := getD_in h1 i1.1 i1.2
  have g2 := getD_in h2 i2.1 i2.2
  unfold sideP
  dsimp only
  generalize t1.getD _ (0, 0) = c at g1
  generalize t2.getD _ (0, 0) = g at g2
  unfold InP at g1 g2 ⊢
  have e : ∀ x y : Int, 0 ≤ x → x < w → 0 ≤ y → y < r → 0 ≤ x * r + y ∧ x * r + y < w * r := fun x y a1 a2 b1 b2 => by
    have e1 : 0 ≤ x * r := Int.mul_nonneg a1 (by omega)
    have e2 : (x + 1) * r ≤ w * r := Int.mul_le_mul_of_nonneg_right (by omega) (by omega)
    have e3 : (x + 1) * r = x * r + r := by rw [Int.add_mul, Int.one_mul]
    constructor <;> omega
  have a := e c.1 g.1 g1.1 g1.2.1 g2.1 g2.2.1
  have b := e c.2 g.2 g1.2.2.1 g1.2.2.2 g2.2.2.1 g2.2.2.2
  exact ⟨a.1, a.2, b.1, b.2⟩
theorem nmF_ok {s : Int} {ns : List Int} {t : Tab} (hs : 1 ≤ s) (hp : ns.Perm (iota s)) (ht : TabOk s t) : ∀ k, k ≤ t.length → ∀ p ∈ nmF ns s t k, InP s p
  | 0, _ => fun p hp => by
    unfold nmF at hp
    rw [List.range_zero, List.foldl_nil] at hp
    rw [(List.mem_replicate.mp hp).2]
    exact ⟨by decide, by omega, by decide, by omega⟩
  | k + 1, hk => fun p hq => by
    rw [nmF_succ, nmStep] at hq
    rcases List.mem_or_eq_of_mem_set hq with hq | hq
    · exact nmF_ok hs hp ht k (by omega) p hq
    · have hkl : (k : Int) < s * s := by rw [← ht.len]; omega
      have g := getD_in ht (Int.natCast_nonneg k) hkl
      rw [Int.toNat_natCast] at g
      have g1 := perm_at hp g.1 g.2.1
      have g2 := perm_at hp g.2.2.1 g.2.2.2
      rw [hq]
      exact ⟨g1.2.1, g1.2.2, g2.2.1, g2.2.2⟩
theorem nameT_ok {s : Int} {ns : List Int} {t : Tab} (hs : 1 ≤ s) (hp : ns.Perm (iota s)) (ht : TabOk s t) : TabOk s (nameT s ns t) := by
  have hss : 0 ≤ s * s := Int.mul_nonneg (by omega) (by omega)
  exact ⟨by unfold nameT; rw [nmF_len]; omega, nmF_ok hs hp ht _ (Nat.le_refl _)⟩
/-- tables that are good by making -/
inductive GoodT (m s : Int) : List Tab → Prop
  | plain {ts : List Tab} : PlainT m s ts → GoodT m s ts
  | side {w r : Int} {ta tb : List Tab} : 1 ≤ w → 1 ≤ r → w * r = s → PlainT m w ta → PlainT m r tb → GoodT m s (List.zipWith (sideT w r) ta tb)
  | name {ts : List Tab} {ns : List Int} : GoodT m s ts → ns.Perm (iota s) → GoodT m s (ts.map (nameT s ns))
theorem GoodT.ok {m s : Int} {ts : List Tab} (hs : 1 ≤ s) (h : GoodT m s ts) : AllOk m s ts := by
  induction h with
  | plain h => exact h.ok hs
  | side w1 r1 e ha hb =>
    have oa := ha.ok w1
    have ob := hb.ok r1
    have la := oa.len
    have lb := ob.len
    refine ⟨by rw [List.length_zipWith]; omega, fun t ht => ?_⟩
    obtain ⟨i, hi⟩ := List.mem_iff_getElem?.mp ht
    rw [List.getElem?_zipWith] at hi
    revert hi
    split
    · rename_i x y hx hy
      intro hi
      cases hi
      rw [← e]
      exact sideT_ok w1 r1 (oa.ok _ (List.mem_of_getElem? hx)) (ob.ok _ (List.mem_of_getElem? hy))
    · intro hi
      cases hi
  | name h hp ih =>
    refine ⟨by rw [List.length_map]; exact ih.len, fun t ht => ?_⟩
    obtain ⟨u, hu, rfl⟩ := List.mem_map.mp ht
    exact nameT_ok hs hp (ih.ok u hu)
def sp_good (K : PySem.W.Frag) : Sp := fun vs H Q _ => ∃ (d l : Addr) (m s : Int), vs = [.ref d, .int m, .int s] ∧ 1 ≤ m ∧ m ≤ 5 ∧ 1 ≤ s ∧ s ≤ 6 ∧ Deal H d l ∧ GiveT K d l H Q (GoodT m s)
def t_good_a (K : PySem.W.Frag) (sp_draw : Sp) : TS := (tAsg (tIf (tTest (tOp rEq (tCall sp_draw [] E0 (tCons (tVar 0) (tCons (tC (.int 2)) (tNil)))) (tC (.int 0)))) (tOp (rIxL K) (tLst (tCons (tC (.int 1)) (tCons (tC (.int 1)) (tCons (tC (.int 1)) (tCons (tC (.int 1)) (tCons (tC (.int 2)) (tCons (tC (.int 1)) (tCons (tOp (rIxL K) (tLst (tCons (tC (.int 2)) (tCons (tC (.int 3)) (tNil)))) (tCall sp_draw [] E0 (tCons (tVar 0) (tCons (tC (.int 2)) (tNil))))) (tNil))))))))) (tVar 2)) (tC (.int 1))) (gName 3))
def t_good_c (K : PySem.W.Frag) (sp_draw : Sp) (sp_mixed : Sp) (sp_names_put : Sp) : TS := (tSeq (tIfS (tTest (tOp rEq (tCall sp_draw [] E0 (tCons (tVar 0) (tCons (tC (.int 2)) (tNil)))) (tC (.int 0)))) (tAsg (tCall sp_names_put [] E0 (tCons (tVar 4) (tCons (tVar 2) (tCons (tCall sp_mixed [] E0 (tCons (tVar 0) (tCons (tVar 2) (tNil)))) (tNil))))) (gName 4)) (tNext))
    (tRet (tVar 4)))
def t_good_b (K : PySem.W.Frag) (sp_draw : Sp) (sp_plain : Sp) (sp_side : Sp) (sp_mixed : Sp) (sp_names_put : Sp) : TS := tSeq (tAsg (tCall sp_plain [] E0 (tCons (tVar 0) (tCons (tVar 1) (tCons (tOp qFdiv (tVar 2) (tVar 3)) (tNil))))) (gName 4))
    (tSeq (tIfS (tTest (tOp qGt (tVar 3) (tC (.int 1)))) (tAsg (tCall sp_side [] E0 (tCons (tCall sp_plain [] E0 (tCons (tVar 0) (tCons (tVar 1) (tCons (tVar 3) (tNil))))) (tCons (tVar 4) (tCons (tVar 3) (tCons (tOp qFdiv (tVar 2) (tVar 3)) (tNil)))))) (gName 4)) (tNext))
    (t_good_c K sp_draw sp_mixed sp_names_put))
def t_good (K : PySem.W.Frag) (sp_draw : Sp) (sp_plain : Sp) (sp_side : Sp) (sp_mixed : Sp) (sp_names_put : Sp) : TS := tSeq (t_good_a K sp_draw) (t_good_b K sp_draw sp_plain sp_side sp_mixed sp_names_put)
theorem GiveT.mono {K : PySem.W.Frag} {d l : Addr} {H H1 : Hp} {Q : VK} {R : List Tab → Prop} (k : GiveT K d l H Q R) (b : But [d, l] H H1) (hD : Deal H d l) (F : Addr) (ls : List Addr) (ts : List Tab) (H' : Hp) (b1 : But [d, l] H1 H') (d1 : Deal H' d l) (t : Tabs K H1 H' F ls ts) (r : R ts) (nd : ∀ x ∈ F :: ls, x ≠ d ∧ x ≠ l) : Q (.ref F) H' :=
  k F ls ts H' (b.trans b1) d1 ⟨t.lst, t.tab, t.nd, b.none_of (nd F List.mem_cons_self) t.newF, fun x hx => b.none_of (nd x (List.mem_cons_of_mem _ hx)) (t.newL x hx)⟩ r
theorem Tabs.apart {K : PySem.W.Frag} {H1 H' : Hp} {F d l : Addr} {ls : List Addr} {ts : List Tab} (t : Tabs K H1 H' F ls ts) (hD : Deal H1 d l) : ∀ x ∈ F :: ls, x ≠ d ∧ x ≠ l := fun x hx => hD.ne (by
  rcases List.mem_cons.mp hx with rfl | hx
  · exact t.newF
  · exact t.newL x hx)
theorem Tabs.back {K : PySem.W.Frag} {H H1 H' : Hp} {F d l : Addr} {ls : List Addr} {ts : List Tab} (t : Tabs K H1 H' F ls ts) (b : But [d, l] H H1) (hD : Deal H1 d l) : Tabs K H H' F ls ts :=
  ⟨t.lst, t.tab, t.nd, b.none_of (t.apart hD F List.mem_cons_self) t.newF, fun x hx => b.none_of (t.apart hD x (List.mem_cons_of_mem _ hx)) (t.newL x hx)⟩
theorem Same.but {ds : List Addr} {H H' : Hp} (s : Same H H') : But ds H H' := fun a o _ e => s a o e
theorem Same.deal {H H' : Hp} {d l : Addr} (s : Same H H') (h : Deal H d l) : Deal H' d l := by
  obtain ⟨z1, z2, z3, z4, z5, z6, z7⟩ := h.ex
  exact ⟨z1, z2, z3, z4, s _ _ z5, s _ _ z6, z7⟩
theorem pure_good {K : PySem.W.Frag} (vs : List V) (H : Hp) (Q : VK) (E : XK) (h : sp_good K vs H Q E) : t_good K sp_draw (sp_plain K) (sp_side K) sp_mixed (sp_names K) (EndsQ Q) (sN 5 vs) H := by
  obtain ⟨d, l, m, s, rfl, m1, m5, s1, s6, hD, k⟩ := h
  show t_good K sp_draw (sp_plain K) (sp_side K) sp_mixed (sp_names K) _ [some (.ref d), some (.int m), some (.int s), none, none] H
  have hn := nT_le m1 m5
  have last : ∀ (z : V) (F : Addr) (ls : List Addr) (ts : List Tab) (H3 : Hp), But [d, l] H H3 → Deal H3 d l → Tabs K H H3 F ls ts → GoodT m s ts → t_good_c K sp_draw sp_mixed (sp_names K) (EndsQ Q) [some (.ref d), some (.int m), some (.int s), some z, some (.ref F)] H3 := by
    intro z F ls ts H3 b3 d3 t3 g3
    have ok3 := g3.ok s1
    have l3 := ok3.len
    refine ⟨_, rfl, d, l, 2, rfl, by decide, by decide, d3, fun c H4 c0 c1 b4 d4 => ⟨rfl, _, rfl, ?_⟩⟩
    have t4 := t3.but hD d3 b4
    by_cases hc : c = 0
    · subst hc
      simp only [decide_true, ↓reduceIte]
      refine ⟨_, rfl, _, rfl, _, rfl, _, rfl, d, l, s, rfl, by omega, by omega, d4, fun N ns H5 b5 d5 hNn hN hp => ?_⟩
      have t5 := t4.but hD d4 b5
      refine ⟨F, N, ls, ts, s, ns, rfl, t5.tl, hN, by omega, s1, s6, hp, ok3.ok, fun F2 ls2 H6 s6' t6 => ?_⟩
      have b6 := b3.trans (b4.trans b5)
      exact ⟨_, rfl, k F2 ls2 _ H6 (b6.trans (Same.but s6')) (Same.deal s6' d5) (t6.back b6 d5) (.name g3 hp)⟩
    · have : decide (V.int c = V.int 0) = false := decide_eq_false fun z => hc (V.int.inj z)
      rw [this]
      exact ⟨_, rfl, k F ls ts H4 (b3.trans b4) d4 t4 g3⟩
  have rest : ∀ (z r : Int) (H1 : Hp), 1 ≤ z → 1 ≤ r → z * r = s → s / z = r → z ≤ 6 → r ≤ 6 → But [d, l] H H1 → Deal H1 d l → t_good_b K sp_draw (sp_plain K) (sp_side K) sp_mixed (sp_names K) (EndsQ Q) [some (.ref d), some (.int m), some (.int s), some (.int z), none] H1 := by
    intro z r H1 z1 r1 zr sz z6 r6 b1 d1
    refine ⟨_, rfl, _, rfl, _, rfl, _, rfl, _, _, rfl, rfl, ⟨by omega, by omega⟩, d, l, m, r, by rw [← sz]; rfl, m1, m5, r1, r6, d1, fun F ls tb H2 b2 d2 t2 pb => ?_⟩
    have t2' := t2.back b1 d1
    have okb := pb.ok r1
    have lb := okb.len
    refine ⟨_, rfl, _, _, rfl, rfl, _, rfl, ?_⟩
    refine ifd (fun c => ?_) (fun c => ?_)
    · refine ⟨_, rfl, _, rfl, _, rfl, d, l, m, z, rfl, m1, m5, z1, z6, d2, fun F2 ls2 ta H3 b3 d3 t3 pa => ?_⟩
      have t3' := t2'.but hD d2 b3
      have oka := pa.ok z1
      have la := oka.len
      refine ⟨_, rfl, _, rfl, _, rfl, _, rfl, _, _, rfl, rfl, ⟨by omega, by omega⟩, F2, F, ls2, ls, ta, tb, z, r, by rw [← sz]; rfl, t3.tl, t3'.tl, by omega, by omega, z1, r1, z6, r6, by omega, oka.ok, okb.ok, fun F4 ls4 H4 s4 t4 => ?_⟩
      have b4 := b1.trans (b2.trans b3)
      exact last (.int z) F4 ls4 _ H4 (b4.trans (Same.but s4)) (Same.deal s4 d3) (t4.back b4 d3) (.side z1 r1 zr pa pb)
    · have hz : z = 1 := by omega
      have hr : r = s := by rw [← zr, hz, Int.one_mul]
      subst hr
      exact last (.int z) F ls tb H2 (b1.trans b2) d2 t2' (.plain pb)
  refine ⟨_, rfl, d, l, 2, rfl, by decide, by decide, hD, fun c H1 c0 c1 b1 d1 => ⟨rfl, _, rfl, ?_⟩⟩
  by_cases hc : c = 0
  · subst hc
    simp only [decide_true, ↓reduceIte]
    refine ⟨(by show 2 ≤ sizeLine; decide), fun L hL => ?_⟩
    have nL := d1.ne hL
    have hL0 : H L = none := b1.none_of nL hL
    refine ⟨_, rfl, d, l, 2, rfl, by decide, by decide, d1.upd nL, fun e H2 e0 e1 b2 d2 => ?_⟩
    have l2 := b2.at nL upd_same
    have b12 : But [d, l] H H2 := (b1.new hL0).trans b2
    have he : ∃ z, atI [V.int 2, .int 3] e = some (.int z) ∧ (z = 2 ∨ z = 3) := by
      have : e = 0 ∨ e = 1 := by omega
      rcases this with rfl | rfl
      · exact ⟨2, rfl, .inl rfl⟩
      · exact ⟨3, rfl, .inr rfl⟩
    obtain ⟨z, hz, hz2⟩ := he
    refine ⟨L, _, e, .int z, rfl, rfl, SqL.of l2, hz, (by show 7 ≤ sizeLine; decide), fun M hM => ?_⟩
    have nM := d2.ne hM
    have hM0 : H M = none := b12.none_of nM hM
    have hs : s = 1 ∨ s = 2 ∨ s = 3 ∨ s = 4 ∨ s = 5 ∨ s = 6 := by omega
    have b3 : But [d, l] H (upd H2 M (.lst [.int 1, .int 1, .int 1, .int 1, .int 2, .int 1, .int z])) := b12.new hM0
    have d3 : Deal (upd H2 M (.lst [.int 1, .int 1, .int 1, .int 1, .int 2, .int 1, .int z])) d l := d2.upd nM
    rcases hs with rfl | rfl | rfl | rfl | rfl | rfl
    · exact ⟨_, rfl, M, _, 1, .int 1, rfl, rfl, SqL.of upd_same, rfl, rest 1 1 _ (by decide) (by decide) rfl rfl (by decide) (by decide) b3 d3⟩
    · exact ⟨_, rfl, M, _, 2, .int 1, rfl, rfl, SqL.of upd_same, rfl, rest 1 2 _ (by decide) (by decide) rfl rfl (by decide) (by decide) b3 d3⟩
    · exact ⟨_, rfl, M, _, 3, .int 1, rfl, rfl, SqL.of upd_same, rfl, rest 1 3 _ (by decide) (by decide) rfl rfl (by decide) (by decide) b3 d3⟩
    · exact ⟨_, rfl, M, _, 4, .int 2, rfl, rfl, SqL.of upd_same, rfl, rest 2 2 _ (by decide) (by decide) rfl rfl (by decide) (by decide) b3 d3⟩
    · exact ⟨_, rfl, M, _, 5, .int 1, rfl, rfl, SqL.of upd_same, rfl, rest 1 5 _ (by decide) (by decide) rfl rfl (by decide) (by decide) b3 d3⟩
    · rcases hz2 with rfl | rfl
      · exact ⟨_, rfl, M, _, 6, .int 2, rfl, rfl, SqL.of upd_same, rfl, rest 2 3 _ (by decide) (by decide) rfl rfl (by decide) (by decide) b3 d3⟩
      · exact ⟨_, rfl, M, _, 6, .int 3, rfl, rfl, SqL.of upd_same, rfl, rest 3 2 _ (by decide) (by decide) rfl rfl (by decide) (by decide) b3 d3⟩
  · have : decide (V.int c = V.int 0) = false := decide_eq_false fun z => hc (V.int.inj z)
    rw [this]
    exact rest 1 s H1 (by decide) s1 (Int.one_mul s) (Int.ediv_one s) (by decide) s6 b1 d1
end Wf
/-! Books. -/
namespace Wf
open PySem PySem.Spec L2
/-- one place of a row that is paired changes -/
theorem pr_chg {α β : Type} {F G : α → β → Prop} {a : α} {b : β} : ∀ {as : List α} {bs : List β} {i : Nat}, Paired F as bs → as.Nodup → as[i]? = some a → G a b → (∀ x y, x ≠ a → F x y → G x y) → Paired G as (bs.set i b)
  | _, _, _, .nil, _, e, _, _ => by simp at e
  | _, _, 0, .cons h t, nd, e, k, f => by
    simp at e
    subst e
    exact .cons k (pr_mono t fun x y hx hy => f x y (fun z => (List.nodup_cons.mp nd).1 (z ▸ hx)) hy)
  | _, _, i + 1, .cons h t, nd, e, k, f => by
    have e' := (by simpa using e : _ = some a)
    exact .cons (f _ _ (fun z => (List.nodup_cons.mp nd).1 (z ▸ List.mem_of_getElem? e')) h) (pr_chg t (List.nodup_cons.mp nd).2 e' k f)
structure Book where
  ps : List Int
  s : Int
  ts : List Tab
def dT (t : Tab) : PyData := .tuple (t.map dP)
def dB (b : Book) : PyData := .tuple [dI b.ps, .int b.s, .tuple (b.ts.map dT)]
theorem noL_dT (t : Tab) : noL (dT t) = true := noLAll_dP t
theorem noLAll_dT : ∀ ts : List Tab, noLAll (ts.map dT) = true
  | [] => rfl
  | t :: ts => by simp [noLAll, noL_dT, noLAll_dT ts]
theorem noL_dI (ps : List Int) : noL (dI ps) = true := noLAll_ints ps
theorem noL_dB (b : Book) : noL (dB b) = true := by
  show (noL (dI b.ps) && (true && (noLAll (b.ts.map dT) && true))) = true
  rw [noL_dI, noLAll_dT]
  rfl
structure BookOk (m : Int) (b : Book) : Prop where
  pac : PacesOk m b.ps
  m1 : 1 ≤ m
  m5 : m ≤ 5
  s1 : 1 ≤ b.s
  s6 : b.s ≤ 6
  tab : AllOk m b.s b.ts
structure BookT (m s form : Int) (ts : List Tab) : Prop where
  ok : AllOk m s ts
  good : form = 1 → GoodT m s ts
  near : form = 2 → ∃ ts0, GoodT m s ts0 ∧ (ts = ts0 ∨ ∃ (i j : Nat) (p : Int × Int) (t : Tab), ts0[i]? = some t ∧ j < t.length ∧ InP s p ∧ ts = ts0.set i (t.set j p))
def sp_book (K : PySem.W.Frag) : Sp := fun vs H Q _ => ∃ (d l : Addr) (m s f : Int), vs = [.ref d, .int m, .int s, .int f] ∧ 1 ≤ m ∧ m ≤ 5 ∧ 1 ≤ s ∧ s ≤ 6 ∧ Deal H d l ∧
  ∀ (v : V) (ps : List Int) (ts : List Tab) (H' : Hp), But [d, l] H H' → Deal H' d l → Dp K H' v (dB ⟨ps, s, ts⟩) → PacesOk m ps → BookT m s f ts → Q v H'
end Wf
/-! The deal made. -/
namespace Wf
open PySem PySem.Spec L2
def sp_deal (K : PySem.W.Frag) : Sp := fun vs H Q _ => ∃ (a : Addr) (b : Int) (ns : List Int), vs = [.ref a, .int b] ∧ SqL K H a (ns.map V.int) ∧ 0 ≤ b ∧ b ≤ 63 ∧ ns.length ≤ 1000 ∧
  ∀ (d l : Addr) (H' : Hp), Same H H' → H d = none → H l = none → Deal H' d l → Q (.ref d) H'
theorem cut_ints (ns : List Int) (lo hi : Option Int) : ∃ ms : List Int, cutV (ns.map V.int) lo hi = ms.map V.int ∧ ms.length ≤ ns.length := by
  refine ⟨(ns.drop (HT.sIx (ns.map V.int).length 0 lo)).take (HT.sIx (ns.map V.int).length (ns.map V.int).length hi - HT.sIx (ns.map V.int).length 0 lo), ?_, ?_⟩
  · unfold cutV
    rw [List.map_take, List.map_drop]
  · rw [List.length_take, List.length_drop]
    omega
theorem putK_new {kvs : List (Key × V)} {k : Key} {v : V} (h : valV kvs k = none) : putK kvs k v = kvs ++ [(k, v)] := by
  unfold putK
  rw [valV_any, h]
  rfl
def four (s m n l : V) : List (Key × V) := [(Sum.inr "seed", s), (Sum.inr "many", m), (Sum.inr "now", n), (Sum.inr "left", l)]
theorem merge4 (s m n l : V) : mergeK [] (four s m n l) = four s m n l := by
  unfold four
  unfold mergeK
  simp only [List.foldl]
  rw [putK_new (kvs := []) valV_nil]
  simp only [List.nil_append]
  rw [putK_new (kvs := [(Sum.inr (Str.ofString "seed"), s)]) ((valV_neg (key_ne (by decide +kernel))).trans valV_nil)]
  simp only [List.cons_append, List.nil_append]
  rw [putK_new (kvs := [(Sum.inr (Str.ofString "seed"), s), (Sum.inr (Str.ofString "many"), m)]) ((valV_neg (key_ne (by decide +kernel))).trans ((valV_neg (key_ne (by decide +kernel))).trans valV_nil))]
  simp only [List.cons_append, List.nil_append]
  rw [putK_new (kvs := [(Sum.inr (Str.ofString "seed"), s), (Sum.inr (Str.ofString "many"), m), (Sum.inr (Str.ofString "now"), n)]) ((valV_neg (key_ne (by decide +kernel))).trans ((valV_neg (key_ne (by decide +kernel))).trans ((valV_neg (key_ne (by decide +kernel))).trans valV_nil)))]
  rfl
def t_deal (K : PySem.W.Frag) : TS :=
  tSeq (tAsg (tLc (iList K (tSl (rSlL K) (tVar 0) (tPart (tVar 1)) (tPart (tC (.int 63))))) (gName 4) (tYes) (tCB (qMax2) (tCons (tVar 4) (tCons (tOp qSub (tC (.int 0)) (tVar 4)) (tNil)))) [4]) (gName 2))
    (tSeq (tAsg (tOp qAdd (tC (.int 104729)) (tOp qMul (tC (.int 31)) (tVar 1))) (gName 3))
    (tSeq (tFor (iList K (tVar 2)) (gName 4) (tAsg (tOp qMod (tOp qAdd (tOp qAdd (tOp qMul (tVar 3) (tC (.int 69623))) (tOp qMod (tVar 4) (tC (.int 2147483629)))) (tC (.int 1))) (tC (.int 2147483647))) (gName 3)))
    (tRet (tDisp ((tC (.str "seed"), tOp qAdd (tVar 3) (tC (.int 1))) :: ((tC (.str "many"), tC (.int 0)) :: ((tC (.str "now"), tC (.int 0)) :: ((tC (.str "left"), Wf.tLstRev K (tLc (iList K (tVar 2)) (gName 4) (tTest (tOp qGe (tVar 4) (tOp qPow (tC (.int 10)) (tC (.int 18))))) (tVar 4) [4])) :: ([])))))))))
theorem pure_deal {K : PySem.W.Frag} (vs : List V) (H : Hp) (Q : VK) (E : XK) (h : sp_deal K vs H Q E) : t_deal K (EndsQ Q) (sN 5 vs) H := by
  obtain ⟨a, b, ns, rfl, hS, b0, b1, hns, k⟩ := h
  show t_deal K _ [some (.ref a), some (.int b), none, none, none] H
  refine ⟨_, rfl, _, rfl, _, rfl, 63, rfl, a, _, rfl, hS, fun p hp => ?_⟩
  obtain ⟨ms, e, hms⟩ := cut_ints ns (some b) (some 63)
  rw [e]
  have sp := same_new (o := .lst (ms.map V.int)) hp
  have hpp : upd H p (.lst (ms.map V.int)) p = some (.lst (ms.map V.int)) := upd_same
  generalize upd H p (.lst (ms.map V.int)) = H1 at sp hpp
  refine ⟨p, rfl, ⟨_, SqL.of hpp⟩, fun D hD => ?_⟩
  have hDp : p ≠ D := ne_of_none hpp hD
  have hD0 : H D = none := sp.free hD
  refine lc_list (K := K) (a := p) (xs := ms.map V.int) (fun i H2 => Same H1 H2 ∧ ∃ zs : List Int, H2 D = some (.lst (zs.map V.int)) ∧ zs.length = i ∧ ∀ z ∈ zs, 0 ≤ z) ?_ ?_ ?_ ?_
  · exact ⟨same_new hD, [], upd_same, rfl, fun z hz => (List.not_mem_nil hz).elim⟩
  · rintro i H2 _ ⟨s2, _⟩
    exact SqL.of (s2 _ _ hpp)
  · rintro i x H2 hx ⟨s2, zs, e1, hl, hz⟩
    rw [List.getElem?_map] at hx
    obtain ⟨y, hy, rfl⟩ := Option.map_eq_some_iff.mp hx
    refine ⟨rfl, ?_⟩
    simp only [tYes, ↓reduceIte]
    refine ⟨_, rfl, _, rfl, _, _, rfl, rfl, _, _, rfl, _, e1, ?_, ?_⟩
    · rw [List.length_map, hl]
      have := (List.getElem?_eq_some_iff.mp hy).1
      exact Nat.lt_of_le_of_lt (show i ≤ 1000 by omega) (by decide)
    · refine ⟨fun c o e => ?_, zs ++ [if 0 - y > y then 0 - y else y], ?_, by simp [hl], fun z hq => ?_⟩
      · rw [upd_ne (ne_of_none e hD)]
        exact s2 _ _ e
      · rw [upd_same, List.map_append]
        rfl
      · rcases List.mem_append.mp hq with hq | hq
        · exact hz z hq
        · rw [List.mem_singleton.mp hq]
          split <;> omega
  · rintro H2 ⟨s2, zs, e1, hl, hz⟩
    refine ⟨_, rfl, _, _, rfl, rfl, .inl ⟨by decide, by decide⟩, _, _, rfl, rfl, ?_⟩
    refine ⟨_, rfl, D, rfl, ⟨_, SqL.of e1⟩, for_list (K := K) (a := D) (xs := zs.map V.int) (fun i σ H3 => ∃ (w : Int) (c4 : Option V), σ = [some (.ref a), some (.int b), some (.ref D), some (.int w), c4] ∧ H3 = H2) ?_ ?_ ?_ ?_⟩
    · exact ⟨_, none, rfl, rfl⟩
    · rintro i σ H3 _ ⟨w, c4, rfl, rfl⟩
      exact SqL.of e1
    · rintro i x σ H3 hx ⟨w, c4, rfl, rfl⟩
      rw [List.getElem?_map] at hx
      obtain ⟨y, hy, rfl⟩ := Option.map_eq_some_iff.mp hx
      exact ⟨_, rfl, _, _, rfl, rfl, .inr ⟨by decide, by decide⟩, _, rfl, _, _, rfl, rfl, mp rfl, _, _, rfl, rfl, _, _, rfl, rfl, _, _, rfl, rfl, mp rfl, _, _, rfl, rfl⟩
    · rintro σ H3 ⟨w, c4, rfl, rfl⟩
      intro d hd
      refine ⟨_, rfl, _, _, rfl, rfl, ?_⟩
      have sd := same_new (o := .dK []) hd
      have hdd : upd H3 d (.dK []) d = some (.dK []) := upd_same
      generalize upd H3 d (.dK []) = H4 at sd hdd
      have e4 := sd _ _ e1
      refine ⟨_, rfl, D, rfl, ⟨_, SqL.of e4⟩, fun G hG => ?_⟩
      refine lc_list (K := K) (a := D) (xs := zs.map V.int) (fun i H5 => Same H4 H5 ∧ ∃ gs : List Int, H5 G = some (.lst (gs.map V.int)) ∧ gs.length ≤ i ∧ ∀ z ∈ gs, 0 ≤ z) ?_ ?_ ?_ ?_
      · exact ⟨same_new hG, [], upd_same, Nat.le_refl _, fun z hz => (List.not_mem_nil hz).elim⟩
      · rintro i H5 _ ⟨s5, _⟩
        exact SqL.of (s5 _ _ e4)
      · rintro i x H5 hx ⟨s5, gs, g1, gl, gz⟩
        rw [List.getElem?_map] at hx
        obtain ⟨y, hy, rfl⟩ := Option.map_eq_some_iff.mp hx
        refine ⟨rfl, _, rfl, _, _, rfl, rfl, ⟨by decide, by decide, by decide⟩, _, _, rfl, rfl, _, rfl, ?_⟩
        refine ifd (fun c => ?_) (fun c => ?_)
        · refine ⟨_, rfl, _, g1, ?_, ?_⟩
          · rw [List.length_map]
            have := (List.getElem?_eq_some_iff.mp hy).1
            rw [List.length_map] at hl
            exact Nat.lt_of_le_of_lt (show gs.length ≤ 1000 by omega) (by decide)
          · refine ⟨fun c o e => ?_, gs ++ [y], ?_, by simp; omega, fun z hq => ?_⟩
            · rw [upd_ne (ne_of_none e hG)]
              exact s5 _ _ e
            · rw [upd_same, List.map_append]
              rfl
            · rcases List.mem_append.mp hq with hq | hq
              · exact gz z hq
              · rw [List.mem_singleton.mp hq]
                exact hz y (List.mem_of_getElem? hy)
        · exact ⟨s5, gs, g1, by omega, gz⟩
      · rintro H5 ⟨s5, gs, g1, gl, gz⟩
        refine ⟨G, _, rfl, SqL.of g1, fun L hL => ?_⟩
        have sL := same_new (o := .lst (gs.map V.int).reverse) hL
        have hdL := s5 _ _ hdd
        have hLd : d ≠ L := ne_of_none hdL hL
        refine ⟨by rw [upd_ne hLd]; exact hdL, four (.int (w + 1)) (.int 0) (.int 0) (.ref L), rfl, (by show 4 ≤ 15; decide), ?_⟩
        rw [merge4]
        have hL0 : H L = none := (sp.trans (s2.trans (sd.trans s5))).free hL
        have hd0 : H d = none := (sp.trans s2).free hd
        refine k d L _ (fun c o e => ?_) hd0 hL0 ⟨w + 1, 0, 0, gs.reverse, upd_same, ?_, by decide, fun z hq => gz z (List.mem_reverse.mp hq)⟩
        · rw [upd_ne (ne_of_none e hd0), upd_ne (ne_of_none e hL0)]
          exact (sp.trans (s2.trans (sd.trans s5))) _ _ e
        · rw [upd_ne (Ne.symm hLd), upd_same, List.map_reverse]
end Wf
/-! Tuples as data: places, slices, sums; the program's pair_at and with_pair. -/
namespace Wf
open PySem PySem.Spec L2
section
variable {K : PySem.W.Frag} {H : Hp} {Q : VK} {t x y : V} {ds es : List PyData} {d : PyData}
theorem DpAll.drop : ∀ {vs : List V} {ds : List PyData} (n : Nat), DpAll K H vs ds → DpAll K H (vs.drop n) (ds.drop n)
  | _, _, 0, h => h
  | _, _, _ + 1, .nil => .nil
  | _, _, n + 1, .cons _ h => DpAll.drop n h
theorem DpAll.take : ∀ {vs : List V} {ds : List PyData} (n : Nat), DpAll K H vs ds → DpAll K H (vs.take n) (ds.take n)
  | _, _, 0, _ => .nil
  | _, _, _ + 1, .nil => .nil
  | _, _, n + 1, .cons h t => .cons h (DpAll.take n t)
def cutD (ds : List PyData) (lo hi : Option Int) : List PyData := (ds.drop (HT.sIx ds.length 0 lo)).take (HT.sIx ds.length ds.length hi - HT.sIx ds.length 0 lo)
end
/-! ### put_in -/
theorem set_cut {ds : List PyData} {i : Int} {d : PyData} (h0 : 0 ≤ i) (h1 : i < ds.length) : cutD ds none (some i) ++ [d] ++ cutD ds (some (i + 1)) none = ds.set i.toNat d := by
  have e1 : HT.sIx ds.length 0 none = 0 := rfl
  have e2 : HT.sIx ds.length ds.length (some i) = i.toNat := by
    show (if i < 0 then _ else min i.toNat ds.length) = _
    rw [if_neg (by omega)]
    omega
  have e3 : HT.sIx ds.length 0 (some (i + 1)) = i.toNat + 1 := by
    show (if i + 1 < 0 then _ else min (i + 1).toNat ds.length) = _
    rw [if_neg (by omega)]
    omega
  have e4 : HT.sIx ds.length ds.length none = ds.length := rfl
  unfold cutD
  rw [e1, e2, e3, e4, List.drop_zero, Nat.sub_zero]
  have e5 : (ds.drop (i.toNat + 1)).take (ds.length - (i.toNat + 1)) = ds.drop (i.toNat + 1) := List.take_of_length_le (by rw [List.length_drop]; omega)
  rw [e5, List.set_eq_take_append_cons_drop, if_pos (by omega), List.append_assoc]
  rfl
end Wf
/-! pair_at, with_pair; what the law says of them. -/
namespace Wf
open PySem PySem.Spec L2
def tnum (u v : Int) : Int := u * (u - 1) / 2 + v
/-- a place of a book -/
structure Pl (m s u v a b : Int) : Prop where
  u0 : 1 ≤ u
  u1 : u < m
  v0 : 0 ≤ v
  v1 : v < u
  a0 : 0 ≤ a
  a1 : a < s
  b0 : 0 ≤ b
  b1 : b < s
theorem tnum_lt {m u v : Int} (m5 : m ≤ 5) (u0 : 1 ≤ u) (u1 : u < m) (v0 : 0 ≤ v) (v1 : v < u) : 0 ≤ tnum u v ∧ tnum u v < nT m := by
  unfold tnum nT
  have hm : m = 2 ∨ m = 3 ∨ m = 4 ∨ m = 5 := by omega
  have hu : u = 1 ∨ u = 2 ∨ u = 3 ∨ u = 4 := by omega
  rcases hu with rfl | rfl | rfl | rfl <;> rcases hm with rfl | rfl | rfl | rfl <;> simp <;> omega
def Book.tab (B : Book) (u v : Int) : Tab := B.ts.getD (tnum u v).toNat []
def Book.at (B : Book) (u v a b : Int) : Int × Int := (B.tab u v).getD (a * B.s + b).toNat (0, 0)
def Book.put (B : Book) (u v a b : Int) (p : Int × Int) : Book := { B with ts := B.ts.set (tnum u v).toNat ((B.tab u v).set (a * B.s + b).toNat p) }
section
variable {K : PySem.W.Frag} {H : Hp} {t : V} {B : Book} {m u v a b : Int}
theorem Book.row (ok : BookOk m B) (pl : Pl m B.s u v a b) : B.ts[(tnum u v).toNat]? = some (B.tab u v) ∧ TabOk B.s (B.tab u v) := by
  have h := tnum_lt ok.m5 pl.u0 pl.u1 pl.v0 pl.v1
  have hl := ok.tab.len
  have hi : (tnum u v).toNat < B.ts.length := by omega
  have e : B.ts[(tnum u v).toNat]? = some B.ts[(tnum u v).toNat] := List.getElem?_eq_getElem hi
  have g : B.tab u v = B.ts[(tnum u v).toNat] := by unfold Book.tab; simp [List.getD, e]
  rw [g]
  exact ⟨e, ok.tab.ok _ (List.getElem_mem hi)⟩
end
end Wf
/-! law k03: what is due, right, the law. -/
namespace Wf
open PySem PySem.Spec L2
structure Rows (K : PySem.W.Frag) (H : Hp) (F : Addr) (ts : List Tab) : Prop where
  ex : ∃ vs, H F = some (.lst vs) ∧ DpAll K H vs (ts.map dT)
theorem Rows.same {K : PySem.W.Frag} {H H' : Hp} {F : Addr} {ts : List Tab} (h : Rows K H F ts) (s : Same H H') : Rows K H' F ts := by
  obtain ⟨vs, e1, e2⟩ := h.ex
  exact ⟨vs, s _ _ e1, DpAll.tp (Same.tp s) _ _ (noLAll_dT _) e2⟩
end Wf
/-! Data of small numbers and tuples: shown, short, of small weight and depth. -/
namespace Wf
open PySem PySem.Spec L2
mutual
/-- numbers near nothing and tuples of such -/
def tame : PyData → Bool
  | .none | .bool _ => true
  | .int i => decide (-1000000 ≤ i ∧ i ≤ 1000000)
  | .tuple ds => tameAll ds
  | .str _ | .list _ | .dict _ => false
def tameAll : List PyData → Bool
  | [] => true
  | d :: ds => tame d && tameAll ds
end
theorem tame_map {α : Type} (f : α → PyData) (n c : Nat) : ∀ l : List α, (∀ a ∈ l, tame (f a) = true ∧ (f a).depth ≤ n ∧ wt (f a) ≤ c) → tameAll (l.map f) = true ∧ PyData.depthAll (l.map f) ≤ n ∧ wtAll (l.map f) ≤ c * l.length
  | [], _ => ⟨rfl, Nat.zero_le _, Nat.zero_le _⟩
  | a :: l, h => by
    have h1 := h a List.mem_cons_self
    have h2 := tame_map f n c l fun b hb => h b (List.mem_cons_of_mem _ hb)
    rw [List.map_cons]
    refine ⟨?_, ?_, ?_⟩
    · show (tame (f a) && tameAll (l.map f)) = true
      rw [h1.1, h2.1]
      rfl
    · show max (f a).depth (PyData.depthAll (l.map f)) ≤ n
      exact Nat.max_le.mpr ⟨h1.2.1, h2.2.1⟩
    · show wt (f a) + wtAll (l.map f) ≤ c * (l.length + 1)
      rw [Nat.mul_add, Nat.mul_one, Nat.add_comm]
      exact Nat.add_le_add h2.2.2 h1.2.2
theorem tame_int {i : Int} (h0 : -1000000 ≤ i) (h1 : i ≤ 1000000) : tame (.int i) = true := decide_eq_true ⟨h0, h1⟩
theorem tame_ints {ns : List Int} (h : ∀ n ∈ ns, -1000000 ≤ n ∧ n ≤ 1000000) : tame (dI ns) = true ∧ (dI ns).depth ≤ 1 ∧ wt (dI ns) ≤ ns.length + 1 := by
  have h1 := tame_map PyData.int 0 1 ns fun n hn => ⟨tame_int (h n hn).1 (h n hn).2, Nat.le_refl _, Nat.le_refl _⟩
  refine ⟨h1.1, Nat.succ_le_succ h1.2.1, ?_⟩
  show wtAll (ns.map PyData.int) + 1 ≤ _
  have := h1.2.2
  omega
theorem tame_dP {s : Int} {p : Int × Int} (h : InP s p) (hs : s ≤ 1000) : tame (dP p) = true ∧ (dP p).depth ≤ 1 ∧ wt (dP p) ≤ 3 := by
  unfold InP at h
  refine ⟨?_, by show max 0 (max 0 0) + 1 ≤ 1; decide, Nat.le_refl _⟩
  show (tame (.int p.1) && (tame (.int p.2) && true)) = true
  rw [tame_int (by omega) (by omega), tame_int (by omega) (by omega)]
  rfl
theorem tame_dT {s : Int} {t : Tab} (h : TabOk s t) (s1 : 1 ≤ s) (hs : s ≤ 6) : tame (dT t) = true ∧ (dT t).depth ≤ 2 ∧ wt (dT t) ≤ 109 := by
  have h1 := tame_map dP 1 3 t fun p hp => tame_dP (h.inn p hp) (by omega)
  refine ⟨h1.1, Nat.succ_le_succ h1.2.1, ?_⟩
  show wtAll (t.map dP) + 1 ≤ _
  have h2 := h1.2.2
  have h3 := h.len
  have h4 := ss_le s1 hs
  omega
theorem tame_dB {m : Int} {B : Book} (h : BookOk m B) : tame (dB B) = true ∧ (dB B).depth ≤ 4 ∧ wt (dB B) ≤ 2000 := by
  have h1 := tame_ints (ns := B.ps) fun n hn => ⟨by have := h.pac.lo n hn; omega, by have := h.pac.lo n hn; omega⟩
  have h2 := tame_map dT 2 109 B.ts fun t ht => tame_dT (h.tab.ok t ht) h.s1 h.s6
  have := h.s1
  have := h.s6
  refine ⟨?_, ?_, ?_⟩
  · show (tame (dI B.ps) && (tame (.int B.s) && (tameAll (B.ts.map dT) && true))) = true
    rw [h1.1, tame_int (by omega) (by omega), h2.1]
    rfl
  · show max (dI B.ps).depth (max 0 (max (PyData.depthAll (B.ts.map dT) + 1) 0)) + 1 ≤ 4
    have := h1.2.1
    have := h2.2.1
    omega
  · show wt (dI B.ps) + (1 + (wtAll (B.ts.map dT) + 1 + 0)) + 1 ≤ 2000
    have := h1.2.2
    have := h2.2.2
    have := h.pac.len
    have := h.tab.len
    have := h.m5
    have := nT_le h.m1 h.m5
    omega
end Wf
/-! for k, x in enumerate(t), t a tuple -/
namespace Wf
open PySem PySem.Spec
open AutoSeq1 (wpAny_loadPart')
theorem meets_enumT (l : Addr) (ws : Array Value) (n : Nat) (dd : Option Addr) (sl : Array (Option Value)) :
    Meets (Builtin.«enumerate.__new__» ⟨[.type "enumerate", .ref l], []⟩) (fun _ R s => s.heap.get? l = some { cls := .type "tuple", dict := dd, data := .seq ws n, slots := sl } ∧
      R (.ok (.ret (.ref (s.heap.push { cls := .type "tuple_iterator", data := .fields #[.ref l, .int 0 0] }).objs.size)))
        { s with heap := (s.heap.push { cls := .type "tuple_iterator", data := .fields #[.ref l, .int 0 0] }).push { cls := .type "enumerate", data := .fields #[.none, .bool false, .ref s.heap.objs.size, rawInt 0, .none, .none] } }) :=
  .of_wp fun prog w A R s hq => by
    obtain ⟨hp, gn, dr, tk, os⟩ := s; obtain ⟨hl, hq⟩ := hq
    have hsubE := sub_enumerate
    have hL : Heap.IsTuple (Shared.heap ⟨hp, gn, dr, tk, os⟩) l ws := ⟨_, hl, rfl, n, rfl⟩
    wp_walk using wpAny_loadPart' hl
    refine wpAny_stack_any fun stk => wpAny_pure ?_
    split
    · rename_i cc _ _ _ _ _
      cases (cc == Value.type "enumerate") <;> (wp_walk using wpAny_loadPart' hl, wpAny_pyIter_tuple hL; exact ⟨_, rfl, hq⟩)
    · wp_walk using wpAny_loadPart' hl, wpAny_pyIter_tuple hL
      exact ⟨_, rfl, hq⟩
section
variable {prog : Program} {w : World} {A : Around} {E : Value → Shared → Prop} {s : Shared}
theorem call_enumT {l : Addr} {ws : Array Value} {Q : Value → Shared → Prop} (hL : s.heap.IsTuple l ws)
    (k : ∀ h', IsEnum h' (s.heap.objs.size + 1) s.heap.objs.size 0 .none → h'.IsTupleIter s.heap.objs.size l 0 → h'.objs.size = s.heap.objs.size + 2 →
      (∀ b o, s.heap.get? b = some o → h'.get? b = some o) → Q (.ref (s.heap.objs.size + 1)) { s with heap := h' }) :
    wpAny (model prog w) A (call (.type "enumerate") [.ref l]) Q E s := by
  obtain ⟨⟨c, dd, dt, sl⟩, hl, hc, n, hd⟩ := hL
  replace hc : c = .type "tuple" := hc
  replace hd : dt = .seq ws n := hd
  subst hc hd
  refine callType_new F.called_enumerate (by decide) (F.typeCall_enumerate_1 _) (F.newCall_enumerate_1 _) (fun ob => F.args_object_init_2 ob _) F.entry_enumerate_new
    (meets_enumT l ws n dd sl) ⟨hl, ?_⟩
  have z1 : (s.heap.push { cls := .type "tuple_iterator", data := .fields #[.ref l, .int 0 0] }).objs.size = s.heap.objs.size + 1 := Heap.size_push ..
  show _ ∧ _
  rw [z1]
  have en : IsEnum ((s.heap.push { cls := .type "tuple_iterator", data := .fields #[.ref l, .int 0 0] }).push
      { cls := .type "enumerate", data := .fields #[.none, .bool false, .ref s.heap.objs.size, rawInt 0, .none, .none] }) (s.heap.objs.size + 1) s.heap.objs.size 0 .none := by
    have g := Heap.get?_push_size (s.heap.push { cls := .type "tuple_iterator", data := .fields #[.ref l, .int 0 0] })
      (o := { cls := .type "enumerate", data := .fields #[.none, .bool false, .ref s.heap.objs.size, rawInt 0, .none, .none] }) rfl
    rw [z1] at g
    exact g
  exact ⟨⟨_, en, rfl⟩, k _ en ⟨_, Heap.get?_push_of_some _ (Heap.get?_push_size _ rfl), rfl, rfl⟩ (by rw [Heap.size_push, z1]) fun b o e => Heap.get?_push_of_some _ (Heap.get?_push_of_some _ e)⟩
theorem enumT_end {e it l : Addr} {i : Nat} {ws : Array Value} {c : Int} {old : Value} {Q : Option Value → Shared → Prop} (hh : A.handled = none)
    (en : IsEnum s.heap e it c old) (hit : s.heap.IsTupleIter it l i) (hl : s.heap.IsTuple l ws) (hx : ws[i]? = none)
    (k : ∀ h', Heap.ExtBut it s.heap h' → Q none { s with heap := h' }) : wpAny (model prog w) A (pyNext (.ref e)) Q E s := by
  have ty : s.TypeIs (.ref e) "enumerate" := ⟨_, en, rfl⟩
  unfold pyNext
  refine wpAny_bind (wpAny_attempt (wpAny_callSpecial?_slot (name := Str.ofString "__next__") ty F.slot_enumerate_next (wpAny_call_entry F.slot_enumerate_next ty F.entry_enumerate_next ?_ (F.args_enumerate_next_1 _))))
  show wpAny _ _ (field (.ref e) 2 >>= _) _ _ _
  refine wpAny_bind (wpAny_field en rfl (x := .ref it) rfl (wpAny_bind (wpAny_nextOf_tuple_end hh hit hl hx fun h' x eb hx' => ?_)))
  obtain ⟨o, ho, hc⟩ := hx'
  exact wpAny_bind (wpAny_isInstance (T := "StopIteration") (b := true) ⟨o, ho, hc⟩ isSubtype_stop (wpAny_pure (k _ eb)))
end
end Wf
namespace Wf
open PySem PySem.Spec PyProof.Rows L2
/-- what is walked: the tuple at a, each thing in a new pair with its number -/
def ItT (K : PySem.W.Frag) (a : Addr) : It :=
  ⟨fun i H => ∃ (xs : List V) (x : V), SqT K H a xs ∧ xs[i]? = some x, fun i H v H' => ∃ T x, v = .ref T ∧ H T = none ∧ H' = upd H T (.tup [.int (i : Nat), x]) ∧ ∀ xs, SqT K H a xs → xs[i]? = some x, fun i H => ∃ xs : List V, SqT K H a xs ∧ xs.length ≤ i⟩
theorem apart_cls {h : Heap} {a b : Addr} {o u : Obj} {m n : String} (ha : h.get? a = some o) (hb : h.get? b = some u) (ho : o.cls = .type m) (hu : u.cls = .type n) (d : m ≠ n) : a ≠ b := fun e => by
  subst e
  rw [ha] at hb
  cases hb
  rw [ho] at hu
  exact d (by injection hu)
theorem turn_enumT {P : Program} {w : World} {K : PySem.W.Frag} {elts : List Expr} {kk : Nat} {tpos : Pos} (a e it : Addr) :
    Turn P w K (.Tuple elts kk tpos) (ItT K a) [e, it] e (fun i h => (∃ old, IsEnum h e it ((i : Nat) : Int) old) ∧ h.IsTupleIter it a i ∧ e ≠ it) where
  mem := by simp
  obj := fun i h st b hb => by
    obtain ⟨⟨old, en⟩, ⟨o, ho, hc, hd⟩, _⟩ := st
    have eb : b = e ∨ b = it := by simpa using hb
    rcases eb with rfl | rfl
    · exact ⟨_, en, fun v q => nomatch q⟩
    · exact ⟨o, ho, fun v q => by rw [hd] at q; cases q⟩
  keep := fun i h h' st kp => let ⟨⟨old, en⟩, hi, ne⟩ := st; ⟨⟨old, kp e (by simp) _ en⟩, hi.at fun o q => kp it (by simp) o q, ne⟩
  item := by
    intro X hP hw hK hc i pins s σ H E I hf st hg
    subst hP hw hK
    obtain ⟨⟨old, en⟩, hit, ne⟩ := st
    obtain ⟨xs, x, hq, hx⟩ := hg
    obtain ⟨its, rv, p, hz⟩ := I.tuple hq
    have pT : s.heap.IsTuple a its.toArray := p
    obtain ⟨u, hu, ru⟩ := rv.get hx
    have lx : i < xs.length := (List.getElem?_eq_some_iff.mp hx).1
    have lr := rv.length
    have hel : e < s.heap.objs.size := Heap.lt_size en
    have hil : it < s.heap.objs.size := by obtain ⟨_, q, _⟩ := hit; exact Heap.lt_size q
    have ae : e ≠ a := by
      obtain ⟨o, ho, hoc, _⟩ := pT
      exact apart_cls en ho rfl hoc (by decide)
    have ai : a ≠ it := by
      obtain ⟨o, ho, hoc, _⟩ := pT
      obtain ⟨o2, ho2, hoc2, _⟩ := hit
      exact apart_cls ho ho2 hoc hoc2 (by decide)
    refine wpAny_pyNext_enum_itemD (Draws.tuple (show X.A.in1.handled = none from I.ok.hd hc) it a ai its.toArray) en ⟨hit, pT⟩ (by simp; omega) ne (by simp [ne, ae]) fun y h' tk hy ho hst hT hsz hk => ?_
    have yu : y = u := by
      have : its[i]? = some y := by simpa using hy
      rw [hu] at this
      exact (Option.some.inj this).symm
    subst yu
    refine ⟨_, rfl, wpAny_letOwnedTupleGo_enum (s := { s with heap := h', toks := tk + 1 }) ho fun h2 en2 sb => ?_⟩
    have hT2 : h2.get? s.heap.objs.size = some { cls := .type "tuple", data := .seq #[.int i tk, y] } := (sb.2 _ (Nat.ne_of_gt hel)).trans hT
    have ok2 : ObjOk X.prog X.w (upd H s.heap.objs.size (.tup [.int (i : Nat), x])) h2 s.heap.objs.size (.tup [.int (i : Nat), x]) :=
      ⟨by show 2 ≤ sizeLine; decide, [.int i tk, y], .cons ⟨_, rfl⟩ (.cons ru .nil), ⟨_, hT2, rfl, _, rfl⟩⟩
    have I2 : Inv X pins σ (upd H s.heap.objs.size (.tup [.int (i : Nat), x])) { s with heap := h2, toks := tk + 1 } :=
      I.turnedNew (ch := [e, it]) (fun b ob hb q => (sb.2 b (fun z => hb (by simp [z]))).trans (hk b ob (fun z => hb (by simp [z])) (fun z => hb (by simp [z])) q)) hf (Nat.le_refl _) ok2
    refine ⟨.ref s.heap.objs.size, _, I2, rfl, ⟨_, x, rfl, I.hok.fresh (Nat.le_refl _), rfl, fun ys hy2 => by rw [I.tuple_inj hy2 hq]; exact hx⟩, ⟨⟨y, ?_⟩, hst.1.at fun o q => (sb.2 it (Ne.symm ne)).trans q, ne⟩, fun b hb => ?_⟩
    · rw [show ((i + 1 : Nat) : Int) = (i : Int) + 1 by omega]
      exact en2
    · have lb : b < s.heap.objs.size := by
        have eb : b = e ∨ b = it := by simpa using hb
        rcases eb with rfl | rfl
        · exact hel
        · exact hil
      rw [upd_ne (Nat.ne_of_lt lb)]
      exact (hf b hb).1
  done := by
    intro X hP hw hK hc i pins s σ H E I hf st hg
    subst hP hw hK
    obtain ⟨⟨old, en⟩, hit, ne⟩ := st
    obtain ⟨xs, hq, hx⟩ := hg
    obtain ⟨its, rv, p, hz⟩ := I.tuple hq
    have pT : s.heap.IsTuple a its.toArray := p
    obtain ⟨f0, f1, f2, f3, f4, f5⟩ := hf it (by simp)
    have lr := rv.length
    have ai : a ≠ it := by
      obtain ⟨o, ho, hoc, _⟩ := pT
      obtain ⟨o2, ho2, hoc2, _⟩ := hit
      exact apart_cls ho ho2 hoc hoc2 (by decide)
    refine enumT_end (I.ok.hd hc) en hit pT (by simp; omega) fun h' eb => ⟨rfl, I.turned (t' := s.toks) (fun b o hb q => eb b o hb q) f0 f1 f3 f4 f5⟩
  self := fun A i s Q E st h => let ⟨⟨_, en⟩, _⟩ := st; wpAny_pyIter_enum en h
end Wf
/-! Own errors over an own base over ValueError: their __init__, raised, caught. -/
namespace Wf
open PySem PySem.Spec PyProof.Rows L2
/-- the base class x, at C0, whose __init__ is ValueError's -/
structure BaseC (K : PySem.W.Frag) (mg : Str → Option Value) (x : Str) (C0 : Addr) : Prop where
  g : mg x = some (.ref C0)
  rd : PySem.W.readsIn K C0 (.type "type") = true
  ga : PySem.W.specialIn K (.ref C0) "__getattribute__" = some (some (.builtin "type.__getattribute__"))
  at_ : PySem.W.findCls K (.ref C0) (.type "type") "__init__" = some (.val (.builtin "ValueError.__init__"))
section
variable {X : Cx} {e : Expr} {es : List Expr} {ta : TA} {p1 p2 pos : Pos} {x : Str} {C0 : Addr}
/-- x.__init__(self, ..) -/
theorem pe_binit {pl : Sem Bool} (T : BaseC X.K X.mg x C0) (hg : Gl X x) (ha : PA X (e :: es) ta) (hdb : (x == ("__debug__" : Str)) = false := by decide)
    (hc : eval (.Call (.Attribute (.Name x p1) "__init__" p2) (e :: es) [] pos) X.env = (do
      let ov ← eval (.Name x p1) X.env
      standAt p2.atName
      let (f, first) ← holding [ov] (getMethod ov "__init__" pl)
      callWith pos f first (backTo pos (starEach (e :: es) X.env)) (backToKw pos (keywordEach [] X.env))) := by rfl)
    (he : starEach (e :: es) X.env = (false, eval e X.env) :: starEach es X.env := by rfl) (hpl : (backTo pos (starEach es X.env)).any (·.1) = false := by rfl) :
    PE X (.Call (.Attribute (.Name x p1) "__init__" p2) (e :: es) [] pos) (tVeI X.K ta) := by
  refine ⟨fun pins s σ H Q I h => ?_⟩
  refine PySem.W.methodCall_KW (ld_glob I hg T.g ?_ hdb) hc
  refine PySem.W.method_cls I.kIn T.ga (PySem.W.cls_value I.kIn T.rd T.at_ (by decide +kernel) ?_)
  show wpAny _ _ (callWith pos (Value.builtin "ValueError.__init__") [] (backTo pos (starEach (e :: es) X.env)) []) _ _ _
  refine PyProof.Rows.callWith_method1 (thn (ha.run pos pins _ σ H _ (I.tok _) h) fun us s1 ⟨vs, H1, I1, r1, a, C, ws, ev, hl, O, ea, q⟩ => ?_) he hpl
  subst ev
  cases r1 with
  | @cons _ u0 _ ur ra rw' =>
    obtain rfl : u0 = Value.ref a := ra
    have hlen : ur.length ≤ sizeLine := by
      rw [← Paired.length rw', sizeLine_eq]
      omega
    exact oinit_ok O I1 ea hlen fun s' J => ⟨.non, H1, J, rfl, q⟩
end
/-! ### readings may be widened -/
def up (ta : TA) : TA := fun σ H Q => ∃ Q' : List V → Hp → Prop, ta σ H Q' ∧ ∀ vs H1, Q' vs H1 → Q vs H1
theorem pa_up {X : Cx} {es : List Expr} {ta : TA} (h : PA X es ta) : PA X es (up ta) := by
  refine ⟨fun pos pins s σ H Q I q => ?_⟩
  obtain ⟨Q', h1, h2⟩ := q
  exact thn (h.run pos pins s σ H Q' I h1) fun us s1 ⟨vs, H1, I1, r1, q1⟩ => ⟨vs, H1, I1, r1, h2 vs H1 q1⟩
/-! ### __init__(self, f1, f2): the base's, then both fields -/
def sp_init2 (K : PySem.W.Frag) (C : Addr) (f1 f2 : Str) : Sp := fun vs H Q _ => ∃ (a : Addr) (w n : V), vs = [.ref a, w, n] ∧ H a = some (exo a C none) ∧
  ∀ dx, H dx = none → dx ≠ a → Q .non (upd (upd (upd H dx (exd dx [(f1, w)])) a (exo a C (some dx))) dx (exd dx [(f2, n), (f1, w)]))
def t_init2 (K : PySem.W.Frag) (f1 f2 txt : Str) : TS := tSeq (tDrop (tVeI K (tCons (tVar 0) (tCons (tC (.str txt)) tNil)))) (tSeq (tOst K f1 (tVar 0) (tVar 1)) (tOst K f2 (tVar 0) (tVar 2)))
theorem pure_init2 {K : PySem.W.Frag} {C : Addr} {f1 f2 txt : Str} (O : OexC K C) (n1 : PySem.W.findIn K (.ref C) f1 = some none) (n2 : PySem.W.findIn K (.ref C) f2 = some none) (vs : List V) (H : Hp) (Q : VK) (E : XK) (h : sp_init2 K C f1 f2 vs H Q E) :
    t_init2 K f1 f2 txt (EndsQ Q) (sN 3 vs) H := by
  obtain ⟨a, w, n, rfl, ha, k⟩ := h
  show t_init2 K f1 f2 txt _ [some (.ref a), some w, some n] H
  refine ⟨_, rfl, a, C, [.str txt], rfl, (by show 1 ≤ 1000; decide), O, ha, ?_⟩
  refine ⟨_, rfl, _, rfl, a, C, rfl, O, n1, .inl ⟨ha, fun dx hd ne => ?_⟩⟩
  refine ⟨_, rfl, _, rfl, a, C, rfl, O, n2, .inr ⟨dx, [(f1, w)], upd_same, ?_, (by show 1 ≤ 900; decide), k dx hd ne⟩⟩
  rw [upd_ne ne]
  exact upd_same
/-- an error class x at C with two fields -/
structure Err2 (P : Program) (w : World) (K : PySem.W.Frag) (mg : Str → Option Value) (base : Heap) (x f1 f2 : Str) (C : Addr) : Prop where
  g : mg x = some (.ref C)
  o : OexC K C
  ini : ∃ fI fd, PySem.W.findIn K (.ref C) "__init__" = some (some (.ref fI)) ∧ PySem.W.typeIn K (.ref fI) = some (.type "function") ∧ FnOk P w K mg base CX0 1 fI fd ["self", f1, f2] (sp_init2 K C f1 f2) ∧ Binds K fd ["self", f1, f2] []
/-- raise x(e, e2) -/
def tRz2 (C : Addr) (f1 f2 : Str) (W : WX) (ta : TA) : TS := fun _ σ H => ta σ H fun vs H1 => ∃ w n, vs = [w, n] ∧ ∀ d, H1 d = none → W (.ref C) (some d) σ (upd H1 d (.xd [(f2, n), (f1, w)]))
theorem ps_rz2 {X : Cx} {x f1 f2 : Str} {C : Addr} {W : WX} {e1 e2 : Expr} {ta : TA} {p pos pos2 : Pos} {j : Nat} (T : Err2 X.prog X.w X.K X.mg X.base x f1 f2 C) (hr : Room j X.A) (hc : X.calm = true) (tk : Takes X W) (hg : Gl X x) (ha : PA X [e1, e2] ta) (hk : 2 ≤ j := by decide)
    (hdb : (x == ("__debug__" : Str)) = false := by decide) (he : starEach (e1 :: [e2]) X.env = (false, eval e1 X.env) :: starEach [e2] X.env := by rfl) (hpl : (backTo pos (starEach [e2] X.env)).any (·.1) = false := by rfl) :
    PS X (.Raise (some (.Call (.Name x p) [e1, e2] [] pos)) none pos2) (tRz2 C f1 f2 W ta) := by
  obtain ⟨fI, fd, iC, tI, F, hb⟩ := T.ini
  have R := ps_raise (pos := pos2) hc tk (pmk_oex (p := p) (pos := pos) T.o iC tI F (hr.mono hk) hb .nil pass0 hg T.g (pa_up ha) hdb he hpl)
  refine ⟨fun pins s σ H D I h => R.run pins s σ H D I ⟨_, h, fun vs H1 q => ?_⟩⟩
  obtain ⟨w, n, rfl, q⟩ := q
  refine ⟨by show 2 ≤ 1000; decide, fun a ha1 => ⟨a, w, n, rfl, upd_same, fun dx hd ne => ⟨rfl, dx, [(f2, n), (f1, w)], ?_, upd_same, ?_, ?_⟩⟩⟩
  · rw [upd_ne (Ne.symm ne), upd_same]
  · rw [upd_ne ne] at hd
    exact hd
  · have hd1 : H1 dx = none := by
      rw [upd_ne ne] at hd
      exact hd
    have ef : upd (del (upd (upd (upd (upd H1 a (exo a C none)) dx (exd dx [(f1, w)])) a (exo a C (some dx))) dx (exd dx [(f2, n), (f1, w)])) a) dx (.xd [(f2, n), (f1, w)]) = upd H1 dx (.xd [(f2, n), (f1, w)]) := by
      funext b
      by_cases h1 : b = dx
      · rw [h1, upd_same, upd_same]
      · rw [upd_ne h1, upd_ne h1]
        by_cases h2 : b = a
        · rw [h2, del_same, ha1]
        · rw [del_ne h2, upd_ne h1, upd_ne h2, upd_ne h1, upd_ne h2]
    rw [ef]
    exact q dx hd1
/-! ### calls of defs that may raise -/
abbrev CalX (P : Program) (w : World) (K : PySem.W.Frag) (mg : Str → Option Value) (base : Heap) (k : Nat) (x : Str) (ps : List Str) (sp : Sp) : Prop := Cal P w K mg base (L2.CX P w) k x ps sp
/-- .. in the body of a try -/
theorem pe_calT {X : Cx} {k j : Nat} {x : Str} {ps : List Str} {sp : Sp} {W : WX} {e : Expr} {es : List Expr} {t : TA} {p pos : Pos} (C : CalX X.prog X.w X.K X.mg X.base k x ps sp) (hr : Room j X.A) (tk : Takes X W) (hg : Gl X x) (ha : PA X (e :: es) t) (hk : k ≤ j := by decide)
    (hdb : (x == ("__debug__" : Str)) = false := by decide) (he : starEach (e :: es) X.env = (false, eval e X.env) :: starEach es X.env := by rfl) (hpl : (backTo pos (starEach es X.env)).any (·.1) = false := by rfl) :
    PE X (.Call (.Name x p) (e :: es) [] pos) (tCallS sp (WE W) t) := by
  obtain ⟨f, fd, G, m, kp, b⟩ := C.ex
  exact pe_callS G (hr.mono hk) hg m kp b (fun σ => passAt tk σ) ha hdb he hpl
/-! ### isinstance of the caught error, its fields told -/
structure IsC (K : PySem.W.Frag) (C : Addr) : Prop where
  cl : (PySem.W.clsIn K C).isSome = true
  ga : PySem.W.findIn K (.ref C) "__getattribute__" = some (some (.builtin "BaseException.__getattribute__"))
  gg : PySem.W.findIn K (.ref C) "__getattr__" = some none
  su : PySem.W.subIn K (.ref C) (.type "BaseException") = some true
  ha : PySem.W.findIn K (.ref C) "__class__" = some (some (.builtin "object.__class__"))
  hn : PySem.W.specialIn K (.builtin "object.__class__") "__get__" = some (some (.builtin "getset_descriptor.__get__"))
  ht : PySem.W.takesIn K (.builtin "object.__class__") = some true
  hm : PySem.W.mroIn K C (.type "object") = some true
def rIsX (K : PySem.W.Frag) (a : Addr) (cls : Value) (d : Option Addr) : List V → Hp → VK → Prop := fun xs H Q => ∃ (C dd : Addr) (fs : List (Str × V)) (c : V) (b : Bool), cls = .ref C ∧ IsC K C ∧ d = some dd ∧ H dd = some (.xd fs) ∧
  ((∃ u, xs = [.ref a, c] ∧ ClsV c u ∧ PySem.W.kitOne K (.ref C) u = some b) ∨ ∃ tp cs us, xs = [.ref a, .ref tp] ∧ H tp = some (.tup cs) ∧ Paired ClsV cs us ∧ PySem.W.kitAny K (.ref C) us = some b) ∧ Q (.bl b) H
end Wf
/-! Keys that are tuples of tuples of numbers; dicts told by their one object. -/
namespace Wf
open PySem PySem.Spec L2
section
variable (P : Program) (w : World)
inductive ItR (h : Heap) : List (List Int) → List Value → Prop
  | nil : ItR h [] []
  | cons {l : List Int} {b : Addr} {ks : List (List Int)} {vs : List Value} : IsTupleKey (intKind P w) h l b → ItR h ks vs → ItR h (l :: ks) (.ref b :: vs)
def IsRow (h : Heap) (ks : List (List Int)) (a : Addr) : Prop := ∃ o items n, h.get? a = some o ∧ o.cls = .type "tuple" ∧ o.data = .seq items n ∧ ItR P w h ks items.toList
end
def numHash (l : List Int) : Int := reduceHash (Builtin.Tuple.tupleHashOf (l.map hashInt))
def rowHash (ks : List (List Int)) : Int := reduceHash (Builtin.Tuple.tupleHashOf (ks.map numHash))
section
variable {P : Program} {w : World} {A : Around} {E : Value → Shared → Prop} {s : Shared}
theorem ItR.inj {h : Heap} {x y : List (List Int)} {vs : List Value} (hx : ItR P w h x vs) (hy : ItR P w h y vs) : x = y := by
  induction hx generalizing y with
  | nil => cases hy; rfl
  | cons h1 _ ih =>
    cases hy with
    | cons h2 t2 => rw [h1.inj h2, ih t2]
theorem IsRow.typeIs {ks : List (List Int)} {a : Addr} (x : IsRow P w s.heap ks a) : s.TypeIs (.ref a) "tuple" := let ⟨o, _, _, ho, hc, _⟩ := x; ⟨o, ho, hc⟩
theorem IsRow.inj {h : Heap} {a : Addr} {x y : List (List Int)} (hx : IsRow P w h x a) (hy : IsRow P w h y a) : x = y := by
  obtain ⟨o, items, n, ho, _, hd, hi⟩ := hx
  obtain ⟨o', items', n', ho', _, hd', hi'⟩ := hy
  obtain rfl : o = o' := Option.some.inj (ho.symm.trans ho')
  rw [hd] at hd'
  injection hd' with h1 _
  subst h1
  exact hi.inj hi'
theorem ItR.keeps {h h' : Heap} {d : Addr} {o : Obj} {es ep} (ho : h.get? d = some o) (hd : o.data = .dict es ep) (hs : Heap.SameBut d h h') {ks : List (List Int)} {vs : List Value} (x : ItR P w h ks vs) : ItR P w h' ks vs := by
  induction x with
  | nil => exact .nil
  | cons h1 _ ih => exact .cons (h1.keeps ho hd hs) ih
theorem IsRow.keeps {h h' : Heap} {ks : List (List Int)} {a d : Addr} {o : Obj} {es ep} (x : IsRow P w h ks a) (ho : h.get? d = some o) (hd : o.data = .dict es ep) (hs : Heap.SameBut d h h') : IsRow P w h' ks a := by
  obtain ⟨o', items, n, ho', hc, hd', hi⟩ := x
  have hne : a ≠ d := by
    rintro rfl
    obtain rfl : o' = o := Option.some.inj (ho'.symm.trans ho)
    rw [hd] at hd'; exact nomatch hd'
  exact ⟨o', items, n, (hs.2 a hne).trans ho', hc, hd', hi.keeps ho hd hs⟩
end
/-- the keys: tuples of numbers, rows -/
abbrev KyT : Bool → Type
  | false => List Int
  | true => List (List Int)
instance kyDec : (r : Bool) → DecidableEq (KyT r)
  | false => inferInstanceAs (DecidableEq (List Int))
  | true => inferInstanceAs (DecidableEq (List (List Int)))
def kyHash : (r : Bool) → KyT r → Int
  | false => numHash
  | true => rowHash
/-- the datum of a key -/
def kyD : (r : Bool) → KyT r → PyData
  | false, l => .tuple (l.map .int)
  | true, ks => .tuple (ks.map fun l => .tuple (l.map .int))
def entD (r : Bool) (x : KyT r × Addr × Value) : DictEntry := ⟨kyHash r x.1, .ref x.2.1, x.2.2⟩
/-- the object of a dict -/
def DctO (a : Addr) (r : Bool) (ks : List (KyT r)) (bs : List Addr) (us : List V) : HO := .ext fun h =>
  ∃ ws : List Value, Vals us ws ∧ ∃ o es ep, h.get? a = some o ∧ o.ExactDict ∧ o.data = .dict es ep ∧ es.toList = (ks.zip (bs.zip ws)).map (entD r)
/-- some heap has a dict there -/
def OwnD (φ : Heap → Prop) (a : Addr) : Prop := ∃ h : Heap, φ h ∧ ∃ o es ep, h.get? a = some o ∧ o.data = .dict es ep
end Wf
/-! By value: what a def does, told of data alone. Things that never change are data; a list of one's own is told by its items, by the slot that holds it. -/
namespace Pv
open PySem PySem.Spec L2 Wf
/-- what stands and stays below a def, and the tables of code -/
structure Bas where
  hp : Hp
  ht : Hp
  T : List NdefX.NTab
/-- tables of code grow -/
structure TbG (T : List NdefX.NTab) (H H' : Hp) : Prop where
  ts : NdefX.TabsN T H → NdefX.TabsN T H'
  st : ∀ a ps, H a = some (.tbl ps) → ∃ qs, H' a = some (.tbl qs)
theorem TbG.refl {T : List NdefX.NTab} {H : Hp} : TbG T H H := ⟨fun h => h, fun _ ps h => ⟨ps, h⟩⟩
theorem TbG.trans {T : List NdefX.NTab} {H H1 H2 : Hp} (a : TbG T H H1) (b : TbG T H1 H2) : TbG T H H2 := ⟨fun h => b.ts (a.ts h), fun x ps h => by
  obtain ⟨qs, h1⟩ := a.st x ps h
  exact b.st x qs h1⟩
theorem TbG.same {T : List NdefX.NTab} {H H' : Hp} (s : Same H H') : TbG T H H' := ⟨fun t => t.ext s, fun _ ps h => ⟨ps, s _ _ h⟩⟩
instance : CoeFun Bas fun _ => Hp := ⟨Bas.hp⟩
variable {B : Bas} {T : List NdefX.NTab}
/-! ### data: None, truths, numbers, texts, tuples, lists that change no more -/
mutual
inductive Dq (K : PySem.W.Frag) (G : Hp) : V → PyData → Prop
  | non : Dq K G .non .none
  | bl (b : Bool) : Dq K G (.bl b) (.bool b)
  | int (i : Int) : Dq K G (.int i) (.int i)
  | str (x : Str) : Dq K G (.str x) (.str x)
  | lst {a : Addr} {xs : List V} {ds : List PyData} : G a = some (.lst xs) → DqAll K G xs ds → Dq K G (.ref a) (.list ds)
  | tup {a : Addr} {xs : List V} {ds : List PyData} : SqT K G a xs → DqAll K G xs ds → Dq K G (.ref a) (.tuple ds)
inductive DqAll (K : PySem.W.Frag) (G : Hp) : List V → List PyData → Prop
  | nil : DqAll K G [] []
  | cons {v : V} {vs : List V} {d : PyData} {ds : List PyData} : Dq K G v d → DqAll K G vs ds → DqAll K G (v :: vs) (d :: ds)
end
/-- an error's fields -/
inductive Fl (K : PySem.W.Frag) (G : Hp) : List (Str × V) → List (Str × PyData) → Prop
  | nil : Fl K G [] []
  | cons {x : Str} {v : V} {d : PyData} {us : List (Str × V)} {fs : List (Str × PyData)} : Dq K G v d → Fl K G us fs → Fl K G ((x, v) :: us) ((x, d) :: fs)
/-- a lambda that holds nothing: its name, parameters, body, scope, where its code object stands -/
structure LF where
  qual : Str
  params : Arguments
  body : Expr
  scope : Scope
  c : Addr
def LamO (f : Addr) (F : LF) : HO := .ext fun h => ∃ pm ctv : Value, h.get? f = some (PySem.W.kla_obj "<lambda>" F.qual F.params F.body F.scope [] pm F.c ctv)
/-- what a record holds under a name: data; a tuple whose object is known -/
inductive Rv where
  | im (d : PyData)
  | ptl (ds : List PyData)
/-- a record: names, what stands under them -/
abbrev Rc := List (Str × Rv)
/-- what a field of an object holds: data; a record; an own list of data; an own list of records -/
inductive Fd where
  | dat (d : PyData)
  | rcd (r : Rc)
  | lst (ds : List PyData)
  | rcs (rs : List Rc)
/-- a thing of one's own: a list of data, the dict of draws, the script; a tuple whose object is known; a lambda; a dict by tuples of numbers -/
inductive O where
  | lst (ds : List PyData)
  | deal
  | scr (ns : List Int)
  | ptl (ds : List PyData)
  | lam (F : LF)
  | dic (ks : List (List Int)) (ds : List PyData)
  | dct (r : Bool) (ks : List (KyT r)) (ds : List PyData)
  | lls (bs : List Addr) (dss : List (List PyData))
  | lds (q : Bool) (kss : List (List (KyT q)))
  | pds (q : Bool) (ks : List (KyT q))
  | lob (C : Addr) (fss : List (List (Str × Fd)))
  | rcd (r : Rc)
  | obj (C : Addr) (fs : List (Str × Fd))
  | bob (C : Addr) (fs : List (Str × Fd))
def recK (r : Rc) (us : List V) : List (Key × V) := (r.map fun x => (Sum.inr x.1 : Key)).zip us
def dicK (ks : List (List Int)) (us : List V) : List (List Key × V) := (ks.map fun k => k.map Sum.inl).zip us
/-- what a slot holds: not known; data; a thing of one's own (pin: a parameter's, the slot is not stored to); a caught error -/
inductive Sl where
  | un
  | im (d : PyData)
  | ow (pin : Bool) (o : O)
  | ex (a dd C : Addr) (fs : List (Str × PyData))
/-- what an expression gives: data; a new thing of one's own; what slot i holds -/
inductive R where
  | im (d : PyData)
  | ow (o : O)
  | at (i : Nat)
mutual
/-- data; where it is a tuple its object is known, and so within -/
inductive Kn (K : PySem.W.Frag) (G : Hp) : V → PyData → Prop
  | any {v : V} {d : PyData} : Dq K G v d → (∀ es, d ≠ .tuple es) → Kn K G v d
  | tup {p : Addr} {o : Obj} {us : List V} {ds : List PyData} : G p = some (.frz o (.tup us)) → o.cls = .type "tuple" → o.dict = none → KnAll K G us ds → Kn K G (.ref p) (.tuple ds)
inductive KnAll (K : PySem.W.Frag) (G : Hp) : List V → List PyData → Prop
  | nil : KnAll K G [] []
  | cons {v : V} {d : PyData} {vs : List V} {ds : List PyData} : Kn K G v d → KnAll K G vs ds → KnAll K G (v :: vs) (d :: ds)
end
section
variable (K : PySem.W.Frag)
/-- lists of one's own, each with its data -/
inductive InL (G H : Hp) (m : Addr → Prop) : List Addr → List (List PyData) → Prop
  | nil : InL G H m [] []
  | cons {b : Addr} {us : List V} {ds : List PyData} {bs : List Addr} {dss : List (List PyData)} : m b → H b = some (.lst us) → DqAll K G us ds → InL G H m bs dss → InL G H m (b :: bs) (ds :: dss)
def RvR (G : Hp) (v : V) : Rv → Prop
  | .im d => Dq K G v d
  | .ptl ds => ∃ p o us, v = .ref p ∧ G p = some (.frz o (.tup us)) ∧ o.cls = .type "tuple" ∧ o.dict = none ∧ DqAll K G us ds ∧ KnAll K G us ds
inductive RvAll (G : Hp) : List V → List Rv → Prop
  | nil : RvAll G [] []
  | cons {v : V} {vs : List V} {r : Rv} {rs : List Rv} : RvR K G v r → RvAll G vs rs → RvAll G (v :: vs) (r :: rs)
/-- a record stands, for good -/
def RcR (G : Hp) (v : V) (r : Rc) : Prop := ∃ a us, v = .ref a ∧ G a = some (.dK (recK r us)) ∧ RvAll K G us (r.map (·.2))
inductive RcAll (G : Hp) : List V → List Rc → Prop
  | nil : RcAll G [] []
  | cons {v : V} {vs : List V} {r : Rc} {rs : List Rc} : RcR K G v r → RcAll G vs rs → RcAll G (v :: vs) (r :: rs)
/-- an object's fields: what they hold, their values, where the own lists stand -/
inductive FdsR (G H : Hp) (m : Addr → Prop) : List (Str × Fd) → List (Str × V) → List Addr → Prop
  | nil : FdsR G H m [] [] []
  | dat {x : Str} {v : V} {d : PyData} {fs : List (Str × Fd)} {us : List (Str × V)} {as : List Addr} : Dq K G v d → FdsR G H m fs us as → FdsR G H m ((x, .dat d) :: fs) ((x, v) :: us) as
  | rcd {x : Str} {v : V} {r : Rc} {fs : List (Str × Fd)} {us : List (Str × V)} {as : List Addr} : RcR K G v r → FdsR G H m fs us as → FdsR G H m ((x, .rcd r) :: fs) ((x, v) :: us) as
  | lst {x : Str} {a : Addr} {vs : List V} {ds : List PyData} {fs : List (Str × Fd)} {us : List (Str × V)} {as : List Addr} : m a → H a = some (.lst vs) → DqAll K G vs ds → a ∉ as → FdsR G H m fs us as → FdsR G H m ((x, .lst ds) :: fs) ((x, .ref a) :: us) (a :: as)
  | rcs {x : Str} {a : Addr} {vs : List V} {rs : List Rc} {fs : List (Str × Fd)} {us : List (Str × V)} {as : List Addr} : m a → H a = some (.lst vs) → RcAll K G vs rs → a ∉ as → FdsR G H m fs us as → FdsR G H m ((x, .rcs rs) :: fs) ((x, .ref a) :: us) (a :: as)
/-- a dict by tuples that stands for good: its keys -/
def PdR (G : Hp) (v : V) (q : Bool) (ks : List (KyT q)) : Prop := ∃ a bs us, v = .ref a ∧ G a = some (DctO a q ks bs us) ∧ ((a == sysModules) = false ∧ ks.length ≤ sizeLine ∧ ks.Nodup ∧ us.length = ks.length ∧ bs.length = ks.length) ∧ DqAll K G (bs.map V.ref) (ks.map (kyD q))
inductive PdAll (G : Hp) (q : Bool) : List V → List (List (KyT q)) → Prop
  | nil : PdAll G q [] []
  | cons {v : V} {vs : List V} {ks : List (KyT q)} {kss : List (List (KyT q))} : PdR K G v q ks → PdAll G q vs kss → PdAll G q (v :: vs) (ks :: kss)
/-- an object that stands for good -/
def BoR (G : Hp) (v : V) (C : Addr) (fs : List (Str × Fd)) : Prop := ∃ p dx us as, v = .ref p ∧ G dx = some (.own p) ∧ G p = some (.ins C dx us) ∧ FdsR K G G (fun _ => True) fs us as
inductive BoAll (G : Hp) (C : Addr) : List V → List (List (Str × Fd)) → Prop
  | nil : BoAll G C [] []
  | cons {v : V} {vs : List V} {fs : List (Str × Fd)} {fss : List (List (Str × Fd))} : BoR K G v C fs → BoAll G C vs fss → BoAll G C (v :: vs) (fs :: fss)
def RO (G H : Hp) (m : Addr → Prop) (v : V) : O → Prop
  | .lst ds => ∃ a us, v = .ref a ∧ m a ∧ H a = some (.lst us) ∧ DqAll K G us ds
  | .deal => ∃ d l, v = .ref d ∧ m d ∧ m l ∧ Deal H d l
  | .scr ns => ∃ a, v = .ref a ∧ ((∃ o, m a ∧ H a = some (.frz o (.lst (ns.map V.int)))) ∨ ∀ H1, SqL K H1 a (ns.map V.int))
  | .ptl ds => ∃ p o us, v = .ref p ∧ G p = some (.frz o (.tup us)) ∧ o.cls = .type "tuple" ∧ o.dict = none ∧ DqAll K G us ds ∧ KnAll K G us ds
  | .lam F => ∃ f, v = .ref f ∧ G f = some (LamO f F) ∧ G F.c = some (LamX.CodeO F.c F.qual)
  | .dic ks ds => ∃ a us, v = .ref a ∧ m a ∧ H a = some (.dT (dicK ks us)) ∧ us.length = ks.length ∧ DqAll K G us ds
  | .dct r ks ds => ∃ a bs us, v = .ref a ∧ m a ∧ H a = some (DctO a r ks bs us) ∧ ((a == sysModules) = false ∧ ks.length ≤ sizeLine ∧ ks.Nodup ∧ us.length = ks.length ∧ bs.length = ks.length) ∧ DqAll K G (bs.map V.ref) (ks.map (kyD r)) ∧ DqAll K G us ds
  | .lls bs dss => ∃ a, v = .ref a ∧ m a ∧ H a = some (.lst (bs.map V.ref)) ∧ (a :: bs).Nodup ∧ InL K G H m bs dss
  | .lds q kss => ∃ a us, v = .ref a ∧ m a ∧ H a = some (.lst us) ∧ PdAll K G q us kss
  | .pds q ks => PdR K G v q ks
  | .lob C fss => ∃ a us, v = .ref a ∧ m a ∧ H a = some (.lst us) ∧ BoAll K G C us fss
  | .rcd r => RcR K G v r
  | .obj C fs => ∃ p dx us as, v = .ref p ∧ m p ∧ m dx ∧ H dx = some (.own p) ∧ H p = some (.ins C dx us) ∧ FdsR K G H m fs us as
  | .bob C fs => ∃ p dx us as, v = .ref p ∧ G dx = some (.own p) ∧ G p = some (.ins C dx us) ∧ FdsR K G G (fun _ => True) fs us as
def SlR (G H : Hp) (m : Addr → Prop) (o : Option (Option V)) : Sl → Prop
  | .un => True
  | .im d => ∃ v, o = some (some v) ∧ Dq K G v d
  | .ow _ ob => ∃ v, o = some (some v) ∧ RO K G H m v ob
  | .ex a dd _ fs => o = some (some (.ref a)) ∧ ∃ us, G dd = some (.xd us) ∧ Fl K G us fs
def RR (G H : Hp) (σ : St) (m : Addr → Prop) (v : V) : R → Prop
  | .im d => Dq K G v d
  | .ow o => RO K G H m v o
  | .at i => σ[i]? = some (some v)
/-- no table of code -/
def NT (o : HO) : Prop := ∀ ps, o ≠ .tbl ps
/-- a thing that nobody owns: a tuple, a code object, a lambda -/
def RdX (H : Hp) (a : Addr) : Option (List V) → Prop
  | some xs => Rd H a (.tup xs)
  | none => ∃ φ, H a = some (.ext φ) ∧ ¬ OwnD φ a
def NoX (H : Hp) (a : Addr) : Prop := ∀ xs, ¬ RdX H a xs
theorem NoX.t {H : Hp} {a : Addr} (n : NoX H a) : NoT H a := fun xs => n (some xs)
theorem RdX.same {H H' : Hp} {a : Addr} {o : HO} (e : H a = some o) (e2 : H' a = some o) : ∀ {xs : Option (List V)}, RdX H' a xs → RdX H a xs
  | some xs, z => by
    rcases z with z | ⟨ob, z⟩
    · rw [e2] at z; cases z; exact .inl e
    · rw [e2] at z; cases z; exact .inr ⟨ob, e⟩
  | none, ⟨φ, z, n⟩ => ⟨φ, by rw [e2] at z; rw [e, z], n⟩
theorem NoX.same {H H' : Hp} {a : Addr} {o : HO} (e : H a = some o) (e2 : H' a = some o) (n : NoX H a) : NoX H' a := fun xs z => n xs (RdX.same e e2 z)
theorem NoX.of {H : Hp} {a : Addr} {o : HO} (e : H a = some o) (n1 : ∀ xs, o ≠ .tup xs) (n2 : ∀ ob xs, o ≠ .frz ob (.tup xs)) (n3 : ∀ φ, o ≠ .ext φ) : NoX H a
  | some xs, z => by
    rcases z with z | ⟨ob, z⟩
    · rw [e] at z; cases z; exact n1 _ rfl
    · rw [e] at z; cases z; exact n2 _ _ rfl
  | none, ⟨φ, z, _⟩ => by rw [e] at z; cases z; exact n3 _ rfl
theorem NoX.own {H : Hp} {a : Addr} {φ : Heap → Prop} (e : H a = some (.ext φ)) (n : OwnD φ a) : NoX H a
  | some xs, z => by
    rcases z with z | ⟨ob, z⟩ <;> · rw [e] at z; cases z
  | none, ⟨ψ, z, n2⟩ => by rw [e] at z; cases z; exact n2 n
theorem NoX.tbl {H : Hp} {a : Addr} {ps : Array Value} (e : H a = some (.tbl ps)) : NoX H a := NoX.of e (fun _ z => by cases z) (fun _ _ z => by cases z) fun _ z => by cases z
theorem NoX.lst {H : Hp} {a : Addr} {ps : List V} (e : H a = some (.lst ps)) : NoX H a := NoX.of e (fun _ z => by cases z) (fun _ _ z => by cases z) fun _ z => by cases z
theorem RdX.upd {H : Hp} {a p : Addr} {o : HO} (h : a ≠ p) : ∀ {xs : Option (List V)}, RdX (upd H p o) a xs → RdX H a xs
  | some xs, z => by
    rcases z with z | ⟨ob, z⟩
    · rw [upd_ne h] at z; exact .inl z
    · rw [upd_ne h] at z; exact .inr ⟨ob, z⟩
  | none, ⟨φ, z, n⟩ => ⟨φ, by rw [upd_ne h] at z; exact z, n⟩
theorem RdX.ne {H : Hp} {a : Addr} : ∀ {xs : Option (List V)}, RdX H a xs → H a ≠ none
  | some xs, z, e => by
    rcases z with z | ⟨ob, z⟩ <;> · rw [e] at z; cases z
  | none, ⟨φ, z, _⟩, e => by rw [e] at z; cases z
structure BsOk (B : Bas) (G H : Hp) (w : Addr → Option Nat) : Prop where
  to : ∀ a o, B a = some o → H a = some o ∧ w a = none ∧ NT o
  tt : TbG B.T B.ht H
  ta : NdefX.TabsN B.T B.ht
  gt : ∀ a ps, G a ≠ some (.tbl ps)
/-- G: what never changes any more; w: whose an address is (2 i: slot i's, 2 j + 1: value j's) -/
structure Rep (B : Bas) (G H : Hp) (σ : St) (δ : List Sl) (vs : List V) (rs : List R) (w : Addr → Option Nat) : Prop where
  sub : Same G H
  out : ∀ a i, w a = some i → G a = none ∧ H a ≠ none ∧ NoX H a
  len : σ.length = δ.length
  sl : ∀ i s, δ[i]? = some s → SlR K G H (fun a => w a = some (2 * i)) σ[i]? s
  tlen : vs.length = rs.length
  tm : ∀ j v r, vs[j]? = some v → rs[j]? = some r → RR K G H σ (fun a => w a = some (2 * j + 1)) v r
  bs : BsOk B G H w
end
def Pn (δ δ' : List Sl) : Prop := ∀ (i : Nat) (o : O), δ[i]? = some (Sl.ow true o) → ∃ o', δ'[i]? = some (Sl.ow true o')
/-- a step: what is public stays so, what is not ours stays as it is, but tables of code -/
structure Stp (T : List NdefX.NTab) (G H : Hp) (w : Addr → Option Nat) (δ : List Sl) (G' H' : Hp) (w' : Addr → Option Nat) (δ' : List Sl) : Prop where
  g : Same G G'
  b : ∀ a o, w a = none → H a = some o → H' a = some o ∨ ∃ ps qs, o = .tbl ps ∧ H' a = some (.tbl qs)
  n : ∀ a i, w' a = some i → w a ≠ none ∨ H a = none
  p : ∀ a o, G' a = some o → G a = some o ∨ H a = none ∨ w a ≠ none ∨ ∃ xs, RdX H a xs
  pn : Pn δ δ'
  t : TbG T H H'
  q : ∀ a ps, G' a = some (.tbl ps) → G a = some (.tbl ps)
/-- a step that leaves the tables as they are -/
structure StpO (G H : Hp) (w : Addr → Option Nat) (δ : List Sl) (G' H' : Hp) (w' : Addr → Option Nat) (δ' : List Sl) : Prop where
  g : Same G G'
  b : ∀ a o, w a = none → H a = some o → H' a = some o
  n : ∀ a i, w' a = some i → w a ≠ none ∨ H a = none
  p : ∀ a o, G' a = some o → G a = some o ∨ H a = none ∨ w a ≠ none ∨ ∃ xs, RdX H a xs
  pn : Pn δ δ'
theorem w_stay {H : Hp} {w w' : Addr → Option Nat} (n : ∀ a i, w' a = some i → w a ≠ none ∨ H a = none) {a : Addr} {o : HO} (h1 : w a = none) (h2 : H a = some o) : w' a = none := by
  cases e : w' a with
  | none => rfl
  | some i =>
    rcases n a i e with z | z
    · exact absurd h1 z
    · rw [h2] at z; cases z
theorem Stp.of {G H G' H' : Hp} {w w' : Addr → Option Nat} {δ δ' : List Sl} (s : StpO G H w δ G' H' w' δ') (t : TbG T H H' := by exact TbG.refl) (q : ∀ a ps, G' a = some (.tbl ps) → G a = some (.tbl ps) := by exact fun _ _ h => h) : Stp T G H w δ G' H' w' δ' :=
  ⟨s.g, fun a o h1 h2 => .inl (s.b a o h1 h2), s.n, s.p, s.pn, t, q⟩
theorem q_new {G : Hp} {p : Addr} {o : HO} (n : NT o) : ∀ a ps, upd G p o a = some (.tbl ps) → G a = some (.tbl ps) := fun a ps h => by
  by_cases e : a = p
  · subst e; rw [upd_same] at h; cases h; exact absurd rfl (n ps)
  · rwa [upd_ne e] at h
theorem tabs_new {H : Hp} {p : Addr} {o : HO} (h : H p = none) : TbG T H (upd H p o) := .same (same_new h)
theorem tabs_put {H : Hp} {D : Addr} {xs ys : List V} (h : H D = some (.lst xs)) : TbG T H (upd H D (.lst ys)) := ⟨fun t p hp => by
  obtain ⟨ps, h1, h2, h3⟩ := t p hp
  refine ⟨ps, by rw [upd_ne (fun z => by rw [z, h] at h1; cases h1)]; exact h1, h2, fun pos cv hc => ?_⟩
  obtain ⟨c, e1, e2⟩ := h3 pos cv hc
  exact ⟨c, e1, by rw [upd_ne (fun z => by rw [z, h] at e2; cases e2)]; exact e2⟩, fun a ps e => ⟨ps, by rw [upd_ne (fun z => by rw [z, h] at e; cases e)]; exact e⟩⟩
theorem Stp.bN {G H G' H' : Hp} {w w' : Addr → Option Nat} {δ δ' : List Sl} (s : Stp T G H w δ G' H' w' δ') (a : Addr) (o : HO) (hn : NT o) (hw : w a = none) (h : H a = some o) : H' a = some o := by
  rcases s.b a o hw h with z | ⟨ps, _, z, _⟩
  · exact z
  · exact absurd z (hn ps)
theorem Stp.nn {G H G' H' : Hp} {w w' : Addr → Option Nat} {δ δ' : List Sl} (s : Stp T G H w δ G' H' w' δ') (a : Addr) (hw : w a = none) (h : H a ≠ none) (t : NoX H a) : H' a ≠ none ∧ NoX H' a := by
  cases e : H a with
  | none => exact absurd e h
  | some o =>
    rcases s.b a o hw e with z | ⟨ps, qs, _, z⟩
    · exact ⟨by rw [z]; exact Option.some_ne_none _, t.same e z⟩
    · exact ⟨by rw [z]; exact Option.some_ne_none _, NoX.tbl z⟩
theorem Pn.refl (δ : List Sl) : Pn δ δ := fun _ o h => ⟨o, h⟩
theorem Pn.trans {a b c : List Sl} (x : Pn a b) (y : Pn b c) : Pn a c := fun i o h => by
  obtain ⟨o1, h1⟩ := x i o h
  exact y i o1 h1
theorem Stp.refl {G H : Hp} {w : Addr → Option Nat} {δ : List Sl} : Stp T G H w δ G H w δ :=
  .of ⟨fun _ _ h => h, fun _ _ _ h => h, fun a i h => .inl (by rw [h]; exact Option.some_ne_none _), fun _ _ h => .inl h, .refl _⟩
theorem Stp.bs {G H G' H' : Hp} {w w' : Addr → Option Nat} {δ δ' : List Sl} (s : Stp B.T G H w δ G' H' w' δ') (h : BsOk B G H w) : BsOk B G' H' w' :=
  ⟨fun a o hb => by
    obtain ⟨h1, h2, h3⟩ := h.to a o hb
    exact ⟨s.bN a o h3 h2 h1, w_stay s.n h2 h1, h3⟩, h.tt.trans s.t, h.ta, fun a ps e => h.gt a ps (s.q a ps e)⟩
theorem Stp.trans {G H G1 H1 G2 H2 : Hp} {w w1 w2 : Addr → Option Nat} {δ δ1 δ2 : List Sl} (a : Stp T G H w δ G1 H1 w1 δ1) (b : Stp T G1 H1 w1 δ1 G2 H2 w2 δ2) : Stp T G H w δ G2 H2 w2 δ2 := by
  have no : ∀ x o, w x = none → H x = some o → w1 x = none := fun x o h1 h2 => by
    cases e : w1 x with
    | none => rfl
    | some i =>
      rcases a.n x i e with z | z
      · exact absurd h1 z
      · rw [h2] at z; cases z
  have none1 : ∀ x, H1 x = none → w x ≠ none ∨ H x = none := fun x h => by
    cases e : w x with
    | some i => exact .inl (Option.some_ne_none _)
    | none =>
      cases e2 : H x with
      | none => exact .inr rfl
      | some o =>
        rcases a.b x o e e2 with z | ⟨_, _, _, z⟩ <;> · rw [z] at h; cases h
  have w1n : ∀ x, w1 x ≠ none → w x ≠ none ∨ H x = none := fun x h => by
    cases e : w1 x with
    | none => exact absurd e h
    | some i => exact a.n x i e
  refine ⟨fun x o h => b.g x o (a.g x o h), fun x o h1 h2 => ?_, fun x i h => ?_, fun x o h => ?_, a.pn.trans b.pn, a.t.trans b.t, fun x ps h => a.q x ps (b.q x ps h)⟩
  · rcases a.b x o h1 h2 with z | ⟨ps, qs, z1, z2⟩
    · exact b.b x o (no x o h1 h2) z
    · rcases b.b x _ (no x o h1 h2) z2 with y | ⟨_, rs, _, y⟩
      · exact .inr ⟨ps, qs, z1, y⟩
      · exact .inr ⟨ps, rs, z1, y⟩
  · rcases b.n x i h with z | z
    · exact w1n x z
    · exact none1 x z
  · rcases b.p x o h with z | z | z | ⟨xs, z⟩
    · exact a.p x o z
    · rcases none1 x z with q | q
      · exact .inr (.inr (.inl q))
      · exact .inr (.inl q)
    · rcases w1n x z with q | q
      · exact .inr (.inr (.inl q))
      · exact .inr (.inl q)
    · cases e : w x with
      | some i => exact .inr (.inr (.inl (Option.some_ne_none _)))
      | none =>
        cases e2 : H x with
        | none => exact .inr (.inl rfl)
        | some u =>
          refine .inr (.inr (.inr ⟨xs, ?_⟩))
          rcases a.b x u e e2 with e3 | ⟨_, _, _, e3⟩
          · exact RdX.same e2 e3 z
          · exact absurd z (NoX.tbl e3 xs)
/-! ### data stays -/
mutual
theorem dp_mono {K : PySem.W.Frag} {G G' : Hp} (s : Same G G') : ∀ (d : PyData) (v : V), Dq K G v d → Dq K G' v d
  | .none, _, h => by cases h; exact .non
  | .bool b, _, h => by cases h; exact .bl b
  | .int i, _, h => by cases h; exact .int i
  | .str x, _, h => by cases h; exact .str x
  | .dict _, _, h => by cases h
  | .list ds, _, h => by
    cases h with
    | lst hs ha =>
      exact .lst (s _ _ hs) (dpAll_mono s ds _ ha)
  | .tuple ds, _, h => by
    cases h with
    | tup hs ha => exact .tup (Same.tp s _ _ hs) (dpAll_mono s ds _ ha)
theorem dpAll_mono {K : PySem.W.Frag} {G G' : Hp} (s : Same G G') : ∀ (ds : List PyData) (vs : List V), DqAll K G vs ds → DqAll K G' vs ds
  | [], _, h => by cases h; exact .nil
  | d :: ds, _, h => by
    cases h with
    | cons h1 h2 => exact .cons (dp_mono s d _ h1) (dpAll_mono s ds _ h2)
end
mutual
theorem pl_mono {K : PySem.W.Frag} {G G' : Hp} (s : Same G G') : ∀ (v : V) (d : PyData), Kn K G v d → Kn K G' v d
  | _, _, .any h n => .any (dp_mono s _ _ h) n
  | _, _, .tup h1 h2 h3 h4 => .tup (s _ _ h1) h2 h3 (plAll_mono s _ _ h4)
theorem plAll_mono {K : PySem.W.Frag} {G G' : Hp} (s : Same G G') : ∀ (vs : List V) (ds : List PyData), KnAll K G vs ds → KnAll K G' vs ds
  | _, _, .nil => .nil
  | _, _, .cons h1 h2 => .cons (pl_mono s _ _ h1) (plAll_mono s _ _ h2)
end
theorem Fl.mono {K : PySem.W.Frag} {G G' : Hp} (s : Same G G') : ∀ {us : List (Str × V)} {fs : List (Str × PyData)}, Fl K G us fs → Fl K G' us fs
  | _, _, .nil => .nil
  | _, _, .cons h1 h2 => .cons (dp_mono s _ _ h1) (Fl.mono s h2)
theorem InL.monoN {K : PySem.W.Frag} {G G' H H' : Hp} {m m' : Addr → Prop} (s : Same G G') (hh : ∀ a u, NT u → m a → H a = some u → H' a = some u) (hm : ∀ a u, m a → H a = some u → m' a) {bs : List Addr} {dss : List (List PyData)} (h : InL K G H m bs dss) : InL K G' H' m' bs dss := by
  induction h with
  | nil => exact .nil
  | cons mb hb hd _ ih => exact .cons (hm _ _ mb hb) (hh _ _ nofun mb hb) (dpAll_mono s _ _ hd) ih
theorem RvR.mono {K : PySem.W.Frag} {G G' : Hp} (s : Same G G') {v : V} {r : Rv} (h : RvR K G v r) : RvR K G' v r := by
  cases r with
  | im d => exact dp_mono s _ _ h
  | ptl ds =>
    obtain ⟨p, o, us, e, hp, h1, h2, hd, hl⟩ := h
    exact ⟨p, o, us, e, s _ _ hp, h1, h2, dpAll_mono s _ _ hd, plAll_mono s _ _ hl⟩
theorem RvAll.mono {K : PySem.W.Frag} {G G' : Hp} (s : Same G G') {vs : List V} {rs : List Rv} (h : RvAll K G vs rs) : RvAll K G' vs rs := by
  induction h with
  | nil => exact .nil
  | cons h1 _ ih => exact .cons (h1.mono s) ih
theorem RcR.mono {K : PySem.W.Frag} {G G' : Hp} (s : Same G G') {v : V} {r : Rc} (h : RcR K G v r) : RcR K G' v r := by
  obtain ⟨a, us, e, h1, h2⟩ := h
  exact ⟨a, us, e, s _ _ h1, h2.mono s⟩
theorem RcAll.mono {K : PySem.W.Frag} {G G' : Hp} (s : Same G G') {vs : List V} {rs : List Rc} (h : RcAll K G vs rs) : RcAll K G' vs rs := by
  induction h with
  | nil => exact .nil
  | cons h1 _ ih => exact .cons (h1.mono s) ih
theorem PdR.mono {K : PySem.W.Frag} {G G' : Hp} (s : Same G G') {v : V} {q : Bool} {ks : List (KyT q)} (h : PdR K G v q ks) : PdR K G' v q ks := by
  obtain ⟨a, bs, us, e, h1, h2, h3⟩ := h
  exact ⟨a, bs, us, e, s _ _ h1, h2, dpAll_mono s _ _ h3⟩
theorem PdAll.mono {K : PySem.W.Frag} {G G' : Hp} (s : Same G G') {q : Bool} {vs : List V} {kss : List (List (KyT q))} (h : PdAll K G q vs kss) : PdAll K G' q vs kss := by
  induction h with
  | nil => exact .nil
  | cons h1 _ ih => exact .cons (h1.mono s) ih
theorem FdsR.monoN {K : PySem.W.Frag} {G G' H H' : Hp} {m m' : Addr → Prop} (s : Same G G') (hh : ∀ a u, NT u → m a → H a = some u → H' a = some u) (hm : ∀ a u, m a → H a = some u → m' a) {fs : List (Str × Fd)} {us : List (Str × V)} {as : List Addr} (h : FdsR K G H m fs us as) : FdsR K G' H' m' fs us as := by
  induction h with
  | nil => exact .nil
  | dat h1 _ ih => exact .dat (dp_mono s _ _ h1) ih
  | rcd h1 _ ih => exact .rcd (h1.mono s) ih
  | lst ma ha hd n _ ih => exact .lst (hm _ _ ma ha) (hh _ _ nofun ma ha) (dpAll_mono s _ _ hd) n ih
  | rcs ma ha hd n _ ih => exact .rcs (hm _ _ ma ha) (hh _ _ nofun ma ha) (hd.mono s) n ih
theorem BoR.mono {K : PySem.W.Frag} {G G' : Hp} (s : Same G G') {v : V} {C : Addr} {fs : List (Str × Fd)} (h : BoR K G v C fs) : BoR K G' v C fs := by
  obtain ⟨p, dx, us, as, e, hd, hp, hf⟩ := h
  exact ⟨p, dx, us, as, e, s _ _ hd, s _ _ hp, hf.monoN s (fun a u _ _ hu => s a u hu) fun _ _ _ _ => trivial⟩
theorem BoAll.mono {K : PySem.W.Frag} {G G' : Hp} (s : Same G G') {C : Addr} {vs : List V} {fss : List (List (Str × Fd))} (h : BoAll K G C vs fss) : BoAll K G' C vs fss := by
  induction h with
  | nil => exact .nil
  | cons h1 _ ih => exact .cons (h1.mono s) ih
theorem RO.monoN {K : PySem.W.Frag} {G G' H H' : Hp} {m m' : Addr → Prop} {v : V} {o : O} (s : Same G G') (hh : ∀ a u, NT u → m a → H a = some u → H' a = some u) (hm : ∀ a u, m a → H a = some u → m' a) (h : RO K G H m v o) : RO K G' H' m' v o := by
  cases o with
  | lst ds =>
    obtain ⟨a, us, e, ma, ha, hd⟩ := h
    exact ⟨a, us, e, hm a _ ma ha, hh a _ nofun ma ha, dpAll_mono s _ _ hd⟩
  | deal =>
    obtain ⟨d, l, e, md, ml, hd⟩ := h
    obtain ⟨z1, z2, z3, z4, h1, h2, h3⟩ := hd.ex
    exact ⟨d, l, e, hm d _ md h1, hm l _ ml h2, z1, z2, z3, z4, hh d _ nofun md h1, hh l _ nofun ml h2, h3⟩
  | scr ns =>
    obtain ⟨a, e, ⟨o, ma, h⟩ | h⟩ := h
    · exact ⟨a, e, .inl ⟨o, hm a _ ma h, hh a _ nofun ma h⟩⟩
    · exact ⟨a, e, .inr h⟩
  | ptl ds =>
    obtain ⟨p, o, us, e, hp, h1, h2, hd, hl⟩ := h
    exact ⟨p, o, us, e, s _ _ hp, h1, h2, dpAll_mono s _ _ hd, plAll_mono s _ _ hl⟩
  | lam F =>
    obtain ⟨f, e, h1, h2⟩ := h
    exact ⟨f, e, s _ _ h1, s _ _ h2⟩
  | dic ks ds =>
    obtain ⟨a, us, e, ma, ha, hl, hd⟩ := h
    exact ⟨a, us, e, hm a _ ma ha, hh a _ nofun ma ha, hl, dpAll_mono s _ _ hd⟩
  | dct r ks ds =>
    obtain ⟨a, bs, us, e, ma, ha, hl, hk, hd⟩ := h
    exact ⟨a, bs, us, e, hm a _ ma ha, hh a _ (fun ps z => by unfold DctO at z; cases z) ma ha, hl, dpAll_mono s _ _ hk, dpAll_mono s _ _ hd⟩
  | lls bs dss =>
    obtain ⟨a, e, ma, ha, nd, hi⟩ := h
    exact ⟨a, e, hm a _ ma ha, hh a _ nofun ma ha, nd, hi.monoN s hh hm⟩
  | lds q kss =>
    obtain ⟨a, us, e, ma, ha, hd⟩ := h
    exact ⟨a, us, e, hm a _ ma ha, hh a _ nofun ma ha, hd.mono s⟩
  | pds q ks => exact PdR.mono s h
  | lob C fss =>
    obtain ⟨a, us, e, ma, ha, hd⟩ := h
    exact ⟨a, us, e, hm a _ ma ha, hh a _ nofun ma ha, hd.mono s⟩
  | rcd r => exact RcR.mono s h
  | obj C fs =>
    obtain ⟨p, dx, us, as, e, mp, md, hd, hp, hf⟩ := h
    exact ⟨p, dx, us, as, e, hm p _ mp hp, hm dx _ md hd, hh dx _ nofun md hd, hh p _ nofun mp hp, hf.monoN s hh hm⟩
  | bob C fs =>
    obtain ⟨p, dx, us, as, e, hd, hp, hf⟩ := h
    exact ⟨p, dx, us, as, e, s _ _ hd, s _ _ hp, hf.monoN s (fun a u _ _ hu => s a u hu) fun _ _ _ _ => trivial⟩
theorem RO.mono {K : PySem.W.Frag} {G G' H H' : Hp} {m m' : Addr → Prop} {v : V} {o : O} (s : Same G G') (hh : ∀ a u, m a → H a = some u → H' a = some u) (hm : ∀ a u, m a → H a = some u → m' a) (h : RO K G H m v o) : RO K G' H' m' v o := h.monoN s (fun a u _ => hh a u) hm
theorem SlR.mono {K : PySem.W.Frag} {G G' H H' : Hp} {m m' : Addr → Prop} {o : Option (Option V)} {s : Sl} (g : Same G G') (hh : ∀ a u, m a → H a = some u → H' a = some u) (hm : ∀ a u, m a → H a = some u → m' a) (h : SlR K G H m o s) : SlR K G' H' m' o s := by
  cases s with
  | un => trivial
  | im d =>
    obtain ⟨v, e, h⟩ := h
    exact ⟨v, e, dp_mono g d v h⟩
  | ow p ob =>
    obtain ⟨v, e, h⟩ := h
    exact ⟨v, e, h.mono g hh hm⟩
  | ex a dd C fs =>
    obtain ⟨e, us, h1, h2⟩ := h
    exact ⟨e, us, g _ _ h1, h2.mono g⟩
theorem RR.mono {K : PySem.W.Frag} {G G' H H' : Hp} {σ : St} {m m' : Addr → Prop} {v : V} {r : R} (g : Same G G') (hh : ∀ a u, m a → H a = some u → H' a = some u) (hm : ∀ a u, m a → H a = some u → m' a) (h : RR K G H σ m v r) : RR K G' H' σ m' v r := by
  cases r with
  | im d => exact dp_mono g d v h
  | ow ob => exact RO.mono g hh hm h
  | «at» i => exact h
theorem RR.monoN {K : PySem.W.Frag} {G G' H H' : Hp} {σ : St} {m m' : Addr → Prop} {v : V} {r : R} (g : Same G G') (hh : ∀ a u, NT u → m a → H a = some u → H' a = some u) (hm : ∀ a u, m a → H a = some u → m' a) (h : RR K G H σ m v r) : RR K G' H' σ m' v r := by
  cases r with
  | im d => exact dp_mono g d v h
  | ow ob => exact RO.monoN g hh hm h
  | «at» i => exact h
theorem SlR.monoN {K : PySem.W.Frag} {G G' H H' : Hp} {m m' : Addr → Prop} {o : Option (Option V)} {s : Sl} (g : Same G G') (hh : ∀ a u, NT u → m a → H a = some u → H' a = some u) (hm : ∀ a u, m a → H a = some u → m' a) (h : SlR K G H m o s) : SlR K G' H' m' o s := by
  cases s with
  | un => trivial
  | im d =>
    obtain ⟨v, e, h⟩ := h
    exact ⟨v, e, dp_mono g d v h⟩
  | ow p ob =>
    obtain ⟨v, e, h⟩ := h
    exact ⟨v, e, h.monoN g hh hm⟩
  | ex a dd C fs =>
    obtain ⟨e, us, h1, h2⟩ := h
    exact ⟨e, us, g _ _ h1, h2.mono g⟩
/-! ### the frame: values that wait -/
def evn : Option Nat → Option Nat
  | some n => if n % 2 = 0 then some n else none
  | none => none
theorem evn_some {o : Option Nat} {n : Nat} : evn o = some n ↔ o = some n ∧ n % 2 = 0 := by
  cases o with
  | none => simp [evn]
  | some m =>
    unfold evn
    dsimp only
    split
    · constructor
      · intro h; cases h; exact ⟨rfl, by assumption⟩
      · rintro ⟨h, _⟩; exact h
    · constructor
      · intro h; cases h
      · rintro ⟨h, h2⟩; cases h; exact absurd h2 (by assumption)
theorem evn_ne {o : Option Nat} (h : evn o ≠ none) : o ≠ none := by
  intro e; subst e; exact h rfl
theorem Stp.drop {G H : Hp} {w : Addr → Option Nat} {δ : List Sl} : Stp T G H w δ G H (fun a => evn (w a)) δ :=
  .of ⟨fun _ _ h => h, fun _ _ _ h => h, fun a i h => .inl (by rw [(evn_some.mp h).1]; exact Option.some_ne_none _), fun _ _ h => .inl h, .refl _⟩
theorem Rep.drop {K : PySem.W.Frag} {G H : Hp} {σ : St} {δ : List Sl} {vs : List V} {rs : List R} {w : Addr → Option Nat} (r : Rep K B G H σ δ vs rs w) : Rep K B G H σ δ [] [] fun a => evn (w a) where
  sub := r.sub
  out := fun a i h => r.out a i (evn_some.mp h).1
  len := r.len
  sl := fun i s h => (r.sl i s h).mono (fun _ _ h => h) (fun _ _ _ h => h) fun a u ma _ => evn_some.mpr ⟨ma, by omega⟩
  tlen := rfl
  tm := fun j v r h => by simp at h
  bs := (Stp.drop (T := B.T) (δ := δ)).bs (G := G) r.bs
def shf (k : Nat) : Option Nat → Option Nat
  | some n => if n % 2 = 0 then some n else some (n + 2 * k)
  | none => none
def both (k : Nat) (w w' : Addr → Option Nat) (a : Addr) : Option Nat := match w a with
  | some n => if n % 2 = 0 then shf k (w' a) else some n
  | none => shf k (w' a)
theorem both_odd {k : Nat} {w w' : Addr → Option Nat} {a : Addr} {n : Nat} (h : w a = some n) (ho : n % 2 = 1) : both k w w' a = some n := by
  unfold both; rw [h]; dsimp only; rw [if_neg (by omega)]
theorem both_evn {k : Nat} {w w' : Addr → Option Nat} {a : Addr} (h : ∀ n, w a = some n → n % 2 = 0) : both k w w' a = shf k (w' a) := by
  unfold both
  cases e : w a with
  | none => rfl
  | some n => dsimp only; rw [if_pos (h n e)]
theorem shf_some {k n : Nat} {o : Option Nat} (h : shf k o = some n) : ∃ m, o = some m ∧ n = if m % 2 = 0 then m else m + 2 * k := by
  cases o with
  | none => cases h
  | some m =>
    refine ⟨m, rfl, ?_⟩
    unfold shf at h
    dsimp only at h
    split at h <;> cases h <;> simp [*]
theorem Rep.frame {K : PySem.W.Frag} {G H G' H' : Hp} {σ : St} {δ δ' : List Sl} {vs vs1 : List V} {rs rs1 : List R} {w w' : Addr → Option Nat} (r : Rep K B G H σ δ vs rs w) (s : Stp B.T G H (fun a => evn (w a)) δ G' H' w' δ') (r' : Rep K B G' H' σ δ' vs1 rs1 w') :
    ∃ w2, Stp B.T G H w δ G' H' w2 δ' ∧ Rep K B G' H' σ δ' (vs ++ vs1) (rs ++ rs1) w2 := by
  have odd : ∀ a n, w a = some n → n % 2 = 1 → w' a = none ∧ G' a = none ∧ (H' a ≠ none ∧ NoX H' a) ∧ ∀ u, NT u → H a = some u → H' a = some u := fun a n h ho => by
    have e0 : evn (w a) = none := by
      cases e : evn (w a) with
      | none => rfl
      | some m =>
        have := evn_some.mp e
        rw [h] at this
        have z := this.1
        cases z
        omega
    obtain ⟨g0, h0, n0⟩ := r.out a n h
    refine ⟨?_, ?_, s.nn a e0 h0 n0, fun u hn hu => s.bN a u hn e0 hu⟩
    · cases e : w' a with
      | none => rfl
      | some i =>
        rcases s.n a i e with z | z
        · exact absurd e0 z
        · exact absurd z h0
    · cases e : G' a with
      | none => rfl
      | some o =>
        rcases s.p a o e with z | z | z | ⟨xs, z⟩
        · rw [g0] at z; cases z
        · exact absurd z h0
        · exact absurd e0 z
        · exact absurd z (n0 xs)
  have evw : ∀ a i, w' a = some i → ∀ n, w a = some n → n % 2 = 0 := fun a i h n hn => by
    by_cases ho : n % 2 = 1
    · rw [(odd a n hn ho).1] at h; cases h
    · omega
  have st : Stp B.T G H w δ G' H' (both rs.length w w') δ' := by
    refine ⟨s.g, fun a o hw ha => s.b a o (by show evn (w a) = none; rw [hw]; rfl) ha, fun a i h => ?_, fun a o h => ?_, s.pn, s.t, s.q⟩
    · cases e : w a with
      | some n => exact .inl (Option.some_ne_none _)
      | none =>
        have e1 : both rs.length w w' a = shf rs.length (w' a) := both_evn fun n hn => by rw [e] at hn; cases hn
        rw [e1] at h
        obtain ⟨m, hm, _⟩ := shf_some h
        rcases s.n a m hm with z | z
        · have z' := evn_ne z
          rw [e] at z'
          exact .inl z'
        · exact .inr z
    · rcases s.p a o h with z | z | z | z
      · exact .inl z
      · exact .inr (.inl z)
      · exact .inr (.inr (.inl (evn_ne z)))
      · exact .inr (.inr (.inr z))
  refine ⟨both rs.length w w', st, r'.sub, fun a i h => ?_, r'.len, fun i sl h => ?_, by rw [List.length_append, List.length_append, r.tlen, r'.tlen], fun j v q hv hr => ?_, st.bs r.bs⟩
  · by_cases ho : ∃ n, w a = some n ∧ n % 2 = 1
    · obtain ⟨n, hn, ho⟩ := ho
      obtain ⟨_, g, hh, _⟩ := odd a n hn ho
      exact ⟨g, hh⟩
    · have e1 : both rs.length w w' a = shf rs.length (w' a) := both_evn fun n hn => by
        by_cases z : n % 2 = 1
        · exact absurd ⟨n, hn, z⟩ ho
        · omega
      rw [e1] at h
      obtain ⟨m, hm, _⟩ := shf_some h
      exact r'.out a m hm
  · refine (r'.sl i sl h).mono (fun _ _ h => h) (fun _ _ _ h => h) fun a u ma _ => ?_
    rw [both_evn (evw a _ ma)]
    unfold shf
    rw [ma]
    dsimp only
    rw [if_pos (by omega)]
  · by_cases hj : j < vs.length
    · rw [List.getElem?_append_left hj] at hv
      rw [List.getElem?_append_left (by rw [← r.tlen]; exact hj)] at hr
      exact (r.tm j v q hv hr).monoN s.g (fun a u hn ma hu => (odd a _ ma (by omega)).2.2.2 u hn hu) fun a u ma _ => both_odd ma (by omega)
    · have hj : vs.length ≤ j := by omega
      rw [List.getElem?_append_right hj] at hv
      rw [List.getElem?_append_right (by rw [← r.tlen]; exact hj), ← r.tlen] at hr
      refine (r'.tm (j - vs.length) v q hv hr).mono (fun _ _ h => h) (fun _ _ _ h => h) fun a u ma _ => ?_
      rw [both_evn (evw a _ ma)]
      unfold shf
      rw [ma]
      dsimp only
      rw [if_neg (by omega), r.tlen.symm]
      congr 1
      omega
end Pv
namespace Pv
open PySem PySem.Spec L2 Wf
variable {B : Bas}
/-! ### judgements told of data -/
abbrev QE := R → List Sl → Prop
abbrev PX := List Sl → QE → Prop
abbrev PL := List Sl → (List R → List Sl → Prop) → Prop
abbrev PB := List Sl → (Bool → List Sl → Prop) → Prop
section
variable (K : PySem.W.Frag) (B : Bas)
def LE (p : PX) : TE := fun σ H Q => ∃ G w δ Qp, Rep K B G H σ δ [] [] w ∧ p δ Qp ∧ ∀ r δ' v H' G' w', Qp r δ' → Stp B.T G H w δ G' H' w' δ' → Rep K B G' H' σ δ' [v] [r] w' → Q v H'
def LA (n : Nat) (p : PL) : TA := fun σ H Q => ∃ G w δ Qp, Rep K B G H σ δ [] [] w ∧ p δ Qp ∧ ∀ rs δ' vs H' G' w', Qp rs δ' → rs.length = n → Stp B.T G H w δ G' H' w' δ' → Rep K B G' H' σ δ' vs rs w' → Q vs H'
def LB (p : PB) : TT := fun σ H Q => ∃ G w δ Qp, Rep K B G H σ δ [] [] w ∧ p δ Qp ∧ ∀ b δ' H' G' w', Qp b δ' → Stp B.T G H w δ G' H' w' δ' → Rep K B G' H' σ δ' [] [] w' → Q b H'
end
/-- an operation by values -/
def LC (K : PySem.W.Frag) (q : List R → PX) (r : List V → Hp → VK → Prop) : Prop := ∀ {B : Bas} (G H : Hp) (σ : St) (δ : List Sl) (vs : List V) (rs : List R) (w : Addr → Option Nat) (Qp : QE) (Q : VK), Rep K B G H σ δ vs rs w → q rs δ Qp →
  (∀ r δ' v H' G' w', Qp r δ' → Stp B.T G H w δ G' H' w' δ' → Rep K B G' H' σ δ' [v] [r] w' → Q v H') → r vs H Q
def JE (X : Cx) (B : Bas) (e : Expr) (p : PX) : Prop := PE X e (LE X.K B p)
def JA (X : Cx) (B : Bas) (es : List Expr) (p : PL) : Prop := PA X es (LA X.K B es.length p)
def JB (X : Cx) (B : Bas) (e : Expr) (p : PB) : Prop := PT X e (LB X.K B p)
section
variable {X : Cx}
theorem PE_wk {e : Expr} {t t' : TE} (h : PE X e t) (k : ∀ σ H Q, t' σ H Q → t σ H Q) : PE X e t' := ⟨fun pins s σ H Q I q => h.run pins s σ H Q I (k σ H Q q)⟩
theorem PT_wk {e : Expr} {t t' : TT} (h : PT X e t) (k : ∀ σ H Q, t' σ H Q → t σ H Q) : PT X e t' := ⟨fun pins s σ H Q I q => h.run pins s σ H Q I (k σ H Q q)⟩
theorem PW_wk {e : Expr} {t t' : TT} (h : PW X e t) (k : ∀ σ H Q, t' σ H Q → t σ H Q) : PW X e t' := ⟨fun wh pins s σ H Q I q => h.run wh pins s σ H Q I (k σ H Q q)⟩
theorem PA_wk {es : List Expr} {t t' : TA} (h : PA X es t) (k : ∀ σ H Q, t' σ H Q → t σ H Q) : PA X es t' := ⟨fun pos pins s σ H Q I q => h.run pos pins s σ H Q I (k σ H Q q)⟩
theorem PS_wk {st : Stmt} {t t' : TS} (h : PS X st t) (k : ∀ D σ H, t' D σ H → t D σ H) : PS X st t' := ⟨fun pins s σ H D I q => h.run pins s σ H D I (k D σ H q)⟩
theorem PSs_wk {st : List Stmt} {t t' : TS} (h : PSs X st t) (k : ∀ D σ H, t' D σ H → t D σ H) : PSs X st t' := ⟨fun pins s σ H D I q => h.run pins s σ H D I (k D σ H q)⟩
end
/-! ### results -/
theorem noT_upd {H : Hp} {a p : Addr} {o : HO} (h : a ≠ p) (n : NoX H a) : NoX (upd H p o) a := fun xs z => n xs (RdX.upd h z)
section
variable {K : PySem.W.Frag} {G H : Hp} {σ : St} {δ : List Sl} {vs : List V} {rs : List R} {w : Addr → Option Nat}
/-- data is given, nothing is changed -/
theorem Rep.ret (r : Rep K B G H σ δ vs rs w) {v : V} {d : PyData} (h : Dq K G v d) : Rep K B G H σ δ [v] [.im d] fun a => evn (w a) := by
  have r0 := r.drop
  refine ⟨r0.sub, r0.out, r0.len, r0.sl, rfl, fun j u q hu hq => ?_, r0.bs⟩
  match j with
  | 0 =>
    simp only [List.getElem?_cons_zero, Option.some.injEq] at hu hq
    subst hu hq
    exact h
  | j + 1 => simp at hu
theorem Rep.at_ (r : Rep K B G H σ δ vs rs w) {i : Nat} {v : V} (h : σ[i]? = some (some v)) : Rep K B G H σ δ [v] [.at i] fun a => evn (w a) := by
  have r0 := r.drop
  refine ⟨r0.sub, r0.out, r0.len, r0.sl, rfl, fun j u q hu hq => ?_, r0.bs⟩
  match j with
  | 0 =>
    simp only [List.getElem?_cons_zero, Option.some.injEq] at hu hq
    subst hu hq
    exact h
  | j + 1 => simp at hu
/-- a new thing that never changes -/
theorem Rep.retNew (r : Rep K B G H σ δ vs rs w) {p : Addr} {o : HO} {d : PyData} (hp : H p = none) (h : Dq K (upd G p o) (.ref p) d) (hn : NT o := by exact nofun) :
    Stp B.T G H w δ (upd G p o) (upd H p o) (fun a => evn (w a)) δ ∧ Rep K B (upd G p o) (upd H p o) σ δ [.ref p] [.im d] fun a => evn (w a) := by
  have gp : G p = none := by
    cases e : G p with
    | none => rfl
    | some u => rw [r.sub p u e] at hp; cases hp
  have np : ∀ a i, w a = some i → a ≠ p := fun a i hw z => (r.out a i hw).2.1 (by rw [z]; exact hp)
  have sg : Same G (upd G p o) := same_new gp
  have r0 := r.drop
  have st : Stp B.T G H w δ (upd G p o) (upd H p o) (fun a => evn (w a)) δ := by
    refine .of ⟨sg, fun a u _ ha => by rw [upd_ne (ne_of_none ha hp)]; exact ha, fun a i h => .inl (by rw [(evn_some.mp h).1]; exact Option.some_ne_none _), fun a u ha => ?_, .refl _⟩ (tabs_new hp) (q_new hn)
    by_cases e : a = p
    · subst e; exact .inr (.inl hp)
    · rw [upd_ne e] at ha; exact .inl ha
  refine ⟨st, fun a u ha => ?_, fun a i h => ?_, r0.len, fun i s h => ?_, rfl, fun j u q hu hq => ?_, st.bs r.bs⟩
  · by_cases e : a = p
    · subst e; rw [upd_same] at ha ⊢; exact ha
    · rw [upd_ne e] at ha ⊢; exact r.sub a u ha
  · have h' := (evn_some.mp h).1
    have hne := np a i h'
    have ho := r.out a i h'
    rw [upd_ne hne, upd_ne hne]
    exact ⟨ho.1, ho.2.1, noT_upd hne ho.2.2⟩
  · exact (r0.sl i s h).mono sg (fun a u ma hu => by rw [upd_ne (ne_of_none hu hp)]; exact hu) fun a u ma _ => ma
  · match j with
    | 0 =>
      simp only [List.getElem?_cons_zero, Option.some.injEq] at hu hq
      subst hu hq
      exact h
    | j + 1 => simp at hu
/-- a new list of one's own -/
theorem Rep.retLst (r : Rep K B G H σ δ vs rs w) {p : Addr} {us : List V} {ds : List PyData} (hp : H p = none) (h : DqAll K G us ds) :
    ∃ w', Stp B.T G H w δ G (upd H p (.lst us)) w' δ ∧ Rep K B G (upd H p (.lst us)) σ δ [.ref p] [.ow (.lst ds)] w' := by
  have gp : G p = none := by
    cases e : G p with
    | none => rfl
    | some u => rw [r.sub p u e] at hp; cases hp
  have r0 := r.drop
  have st : Stp B.T G H w δ G (upd H p (.lst us)) (fun a => if a = p then some 1 else evn (w a)) δ := by
    refine .of ⟨fun _ _ h => h, fun a u _ ha => by rw [upd_ne (ne_of_none ha hp)]; exact ha, fun a i h => ?_, fun a u ha => .inl ha, .refl _⟩ (tabs_new hp)
    by_cases e : a = p
    · subst e; exact .inr hp
    · simp only [e, if_false] at h
      exact .inl (by rw [(evn_some.mp h).1]; exact Option.some_ne_none _)
  refine ⟨_, st, fun a u ha => ?_, fun a i h => ?_, r0.len, fun i s h => ?_, rfl, fun j u q hu hq => ?_, st.bs r.bs⟩
  · by_cases e : a = p
    · subst e; rw [gp] at ha; cases ha
    · rw [upd_ne e]; exact r.sub a u ha
  · by_cases e : a = p
    · subst e; rw [upd_same]; exact ⟨gp, Option.some_ne_none _, NoX.lst upd_same⟩
    · simp only [e, if_false] at h
      have ho := r0.out a i h
      rw [upd_ne e]
      exact ⟨ho.1, ho.2.1, noT_upd e ho.2.2⟩
  · refine (r0.sl i s h).mono (fun _ _ h => h) (fun a u ma hu => by rw [upd_ne (ne_of_none hu hp)]; exact hu) fun a u ma hu => ?_
    rw [if_neg (ne_of_none hu hp)]
    exact ma
  · match j with
    | 0 =>
      simp only [List.getElem?_cons_zero, Option.some.injEq] at hu hq
      subst hu hq
      exact ⟨p, us, rfl, by simp, upd_same, h⟩
    | j + 1 => simp at hu
end
/-! ### what is read -/
def dat (δ : List Sl) : R → Option PyData
  | .im d => some d
  | .ow (.lst ds) => some (.list ds)
  | .ow (.ptl ds) => some (.tuple ds)
  | .ow _ => none
  | .at i => match δ[i]? with
    | some (.im d) => some d
    | some (.ow _ (.lst ds)) => some (.list ds)
    | some (.ow _ (.ptl ds)) => some (.tuple ds)
    | _ => none
section
variable {K : PySem.W.Frag} {G H : Hp} {σ : St} {δ : List Sl} {vs : List V} {rs : List R} {w : Addr → Option Nat}
mutual
theorem dq_dp (s : Same G H) : ∀ (d : PyData) (v : V), Dq K G v d → Dp K H v d
  | .none, _, h => by cases h; exact .non
  | .bool b, _, h => by cases h; exact .bl b
  | .int i, _, h => by cases h; exact .int i
  | .str x, _, h => by cases h; exact .str x
  | .dict _, _, h => by cases h
  | .list ds, _, h => by
    cases h with
    | lst hs ha => exact .lst (SqL.of (s _ _ hs)) (dqAll_dp s ds _ ha)
  | .tuple ds, _, h => by
    cases h with
    | tup hs ha => exact .tup (Same.tp s _ _ hs) (dqAll_dp s ds _ ha)
theorem dqAll_dp (s : Same G H) : ∀ (ds : List PyData) (vs : List V), DqAll K G vs ds → DpAll K H vs ds
  | [], _, h => by cases h; exact .nil
  | d :: ds, _, h => by
    cases h with
    | cons h1 h2 => exact .cons (dq_dp s d _ h1) (dqAll_dp s ds _ h2)
end
/-- what is to be read of a value -/
def Vw (K : PySem.W.Frag) (G H : Hp) (v : V) (d : PyData) : Prop := Dq K G v d ∨ ∃ a us ds, v = .ref a ∧ H a = some (.lst us) ∧ DqAll K G us ds ∧ d = .list ds
theorem ptl_dq {K : PySem.W.Frag} {G : Hp} {v : V} {ds : List PyData} (h : ∃ p o us, v = .ref p ∧ G p = some (.frz o (.tup us)) ∧ o.cls = .type "tuple" ∧ o.dict = none ∧ DqAll K G us ds ∧ KnAll K G us ds) : Dq K G v (.tuple ds) := by
  obtain ⟨p, o, us, rfl, hp, _, _, hd, _⟩ := h
  exact .tup (.inl (.inr ⟨o, hp⟩)) hd
/-- what a value is: data, public; or a list, its items public -/
theorem Rep.dat (r : Rep K B G H σ δ vs rs w) {j : Nat} {v : V} {q : R} {d : PyData} (hv : vs[j]? = some v) (hq : rs[j]? = some q) (hd : dat δ q = some d) :
    Dq K G v d ∨ ∃ a us ds, v = .ref a ∧ H a = some (.lst us) ∧ DqAll K G us ds ∧ d = .list ds := by
  have t := r.tm j v q hv hq
  cases q with
  | im d' => cases hd; exact .inl t
  | ow o =>
    cases o with
    | lst ds =>
      cases hd
      obtain ⟨a, us, e, _, ha, hds⟩ := t
      exact .inr ⟨a, us, ds, e, ha, hds, rfl⟩
    | deal => cases hd
    | scr ns => cases hd
    | ptl ds => cases hd; exact .inl (ptl_dq t)
    | lam F => cases hd
    | dic ks ds => cases hd
    | dct r ks ds => cases hd
    | lls bs dss => cases hd
    | lds q kss => cases hd
    | pds q ks => cases hd
    | lob C fss => cases hd
    | rcd r => cases hd
    | obj C fs => cases hd
    | bob C fs => cases hd
  | «at» i =>
    have t' : σ[i]? = some (some v) := t
    simp only [Pv.dat] at hd
    revert hd
    split
    · rename_i d' e
      intro hd; cases hd
      obtain ⟨u, hu, hd'⟩ := r.sl i _ e
      rw [t'] at hu
      cases hu
      exact .inl hd'
    · rename_i b ds e
      intro hd; cases hd
      obtain ⟨u, hu, a, us, e1, _, ha, hds⟩ := r.sl i _ e
      rw [t'] at hu
      cases hu
      exact .inr ⟨a, us, ds, e1, ha, hds, rfl⟩
    · rename_i b ds e
      intro hd; cases hd
      obtain ⟨u, hu, t2⟩ := r.sl i _ e
      rw [t'] at hu
      cases hu
      exact .inl (ptl_dq t2)
    · intro hd; cases hd
theorem Vw.dp {v : V} {d : PyData} (s : Same G H) (h : Vw K G H v d) : Dp K H v d := by
  rcases h with h | ⟨a, us, ds, rfl, ha, hds, rfl⟩
  · exact dq_dp s _ _ h
  · exact .lst (SqL.of ha) (dqAll_dp s _ _ hds)
theorem Vw.seqL {v : V} {ds : List PyData} (s : Same G H) (h : Vw K G H v (.list ds)) : ∃ a us, v = .ref a ∧ H a = some (.lst us) ∧ DqAll K G us ds := by
  rcases h with h | ⟨a, us, ds', rfl, ha, hds, e⟩
  · cases h with
    | lst hs ha => exact ⟨_, _, rfl, s _ _ hs, ha⟩
  · cases e
    exact ⟨a, us, rfl, ha, hds⟩
theorem Vw.seqT {v : V} {ds : List PyData} (s : Same G H) (h : Vw K G H v (.tuple ds)) : ∃ a us, v = .ref a ∧ SqT K H a us ∧ DqAll K G us ds ∧ Dq K G v (.tuple ds) := by
  rcases h with h | ⟨a, us, ds', rfl, ha, hds, e⟩
  · cases h with
    | tup hs ha => exact ⟨_, _, rfl, Same.tp s _ _ hs, ha, .tup hs ha⟩
  · cases e
theorem Vw.int {v : V} {i : Int} (h : Vw K G H v (.int i)) : v = .int i := by
  rcases h with h | ⟨a, us, ds', rfl, ha, hds, e⟩
  · cases h; rfl
  · cases e
theorem Vw.bool {v : V} {i : Bool} (h : Vw K G H v (.bool i)) : v = .bl i := by
  rcases h with h | ⟨a, us, ds', rfl, ha, hds, e⟩
  · cases h; rfl
  · cases e
theorem Vw.str {v : V} {i : Str} (h : Vw K G H v (.str i)) : v = .str i := by
  rcases h with h | ⟨a, us, ds', rfl, ha, hds, e⟩
  · cases h; rfl
  · cases e
theorem Rep.dpH (r : Rep K B G H σ δ vs rs w) {j : Nat} {v : V} {q : R} {d : PyData} (hv : vs[j]? = some v) (hq : rs[j]? = some q) (hd : Pv.dat δ q = some d) : Dp K H v d := Vw.dp r.sub (r.dat hv hq hd)
end
/-! ### names, constants, arguments -/
def pVar (i : Nat) : PX := fun δ Q => match δ[i]? with
  | some (.im d) => Q (.im d) δ
  | some (.ow _ _) => Q (.at i) δ
  | _ => False
def pK (d : PyData) : PX := fun δ Q => Q (.im d) δ
def pNil : PL := fun δ Q => Q [] δ
def pCons (p : PX) (ps : PL) : PL := fun δ Q => p δ fun r δ1 => ps δ1 fun rs δ2 => Q (r :: rs) δ2
/-- an operation over values that are there -/
def pC (q : List R → PX) (ps : PL) : PX := fun δ Q => ps δ fun rs δ1 => q rs δ1 Q
section
variable {X : Cx}
theorem je_var {i : Nat} {x : Str} {pos : Pos} (hN : X.N[i]? = some x) (hv : Vis X.env.scope x) (hd : (x == ("__debug__" : Str)) = false := by decide) (hcd : (x == ("__classdict__" : Str)) = false := by decide) : JE X B (.Name x pos) (pVar i) := by
  refine PE_wk (pe_var (i := i) hN hv hd hcd) fun σ H Q ⟨G, w, δ, Qp, rep, h, k⟩ => ?_
  unfold pVar at h
  revert h
  split
  · rename_i d e
    intro h
    obtain ⟨v, hv, hd⟩ := rep.sl i _ e
    exact ⟨v, hv, k _ _ v H G _ h .drop (rep.ret hd)⟩
  · rename_i b o e
    intro h
    obtain ⟨v, hv, hd⟩ := rep.sl i _ e
    exact ⟨v, hv, k _ _ v H G _ h .drop (rep.at_ hv)⟩
  · intro h; exact h.elim
theorem je_c {e : Expr} {v : V} {d : PyData} (h : PE X e (tC v)) (hd : ∀ G, Dq X.K G v d) : JE X B e (pK d) :=
  PE_wk h fun σ H Q ⟨G, w, δ, Qp, rep, q, k⟩ => k _ _ v H G _ q .drop (rep.ret (hd G))
theorem je_int {i j pos} : JE X B (.Constant (.int i) j pos) (pK (.int i)) := je_c pe_int fun _ => .int i
theorem je_bl {b j pos} : JE X B (.Constant (.bool b) j pos) (pK (.bool b)) := je_c pe_bl fun _ => .bl b
theorem je_non {j pos} : JE X B (.Constant .none j pos) (pK .none) := je_c pe_non fun _ => .non
theorem je_str {x j pos} : JE X B (.Constant (.str x) j pos) (pK (.str x)) := je_c pe_str fun _ => .str x
theorem je_gi {x : Str} {n : Int} {pos : Pos} (h : ∃ t, X.mg x = some (.int n t)) (hg : Gl X x) (hd : (x == ("__debug__" : Str)) = false := by decide) : JE X B (.Name x pos) (pK (.int n)) := by
  obtain ⟨t, h⟩ := h
  exact je_c (pe_glob (v := .int n) hg h ⟨t, rfl⟩ hd) fun _ => .int n
theorem ja_nil : JA X B [] pNil := PA_wk pa_nil fun σ H Q ⟨G, w, δ, Qp, rep, q, k⟩ => k [] δ [] H G _ q rfl .drop rep.drop
theorem ja_cons {e : Expr} {es : List Expr} {p : PX} {ps : PL} (h : JE X B e p) (hs : JA X B es ps) (he : starEach (e :: es) X.env = (false, eval e X.env) :: starEach es X.env := by rfl) : JA X B (e :: es) (pCons p ps) := by
  refine PA_wk (pa_cons h hs he) fun σ H Q ⟨G, w, δ, Qp, rep, q, k⟩ => ?_
  refine ⟨G, w, δ, _, rep, q, fun r δ1 v H1 G1 w1 q1 s1 rep1 => ?_⟩
  refine ⟨G1, _, δ1, _, rep1.drop, q1, fun rs δ2 vs H2 G2 w2 q2 l2 s2 rep2 => ?_⟩
  obtain ⟨w3, s3, rep3⟩ := rep1.frame s2 rep2
  exact k _ δ2 _ H2 G2 w3 q2 (congrArg (· + 1) l2) (s1.trans s3) rep3
/-- a binary operator -/
def ap2 (r : R2) : List V → Hp → VK → Prop
  | [x, y], H, Q => r x y H Q
  | _, _, _ => False
def ap1 (r : V → Hp → VK → Prop) : List V → Hp → VK → Prop
  | [x], H, Q => r x H Q
  | _, _, _ => False
theorem lc_two {a b : PX} {q : List R → PX} {r : R2} {σ : St} {H : Hp} {Q : VK} (hl : LC X.K q (ap2 r)) (h : LE X.K B (pC q (pCons a (pCons b pNil))) σ H Q) : LE X.K B a σ H fun x H1 => LE X.K B b σ H1 fun y H2 => r x y H2 Q := by
  obtain ⟨G, w, δ, Qp, rep, q, k⟩ := h
  refine ⟨G, w, δ, _, rep, q, fun ra δ1 x H1 G1 w1 q1 s1 rep1 => ?_⟩
  refine ⟨G1, _, δ1, _, rep1.drop, q1, fun rb δ2 y H2 G2 w2 q2 s2 rep2 => ?_⟩
  obtain ⟨w3, s3, rep3⟩ := rep1.frame s2 rep2
  exact hl G2 H2 σ δ2 [x, y] [ra, rb] w3 Qp Q rep3 q2 fun r δ' v H' G' w' hq hs hr => k r δ' v H' G' w' hq ((s1.trans s3).trans hs) hr
theorem je_op {a b : Expr} {op : Operator} {pos : Pos} {pa pb : PX} {q : List R → PX} {r : R2} (ho : OpR X (binaryOp op) r) (hl : LC X.K q (ap2 r)) (ha : JE X B a pa) (hb : JE X B b pb) : JE X B (.BinOp a op b pos) (pC q (pCons pa (pCons pb pNil))) :=
  PE_wk (pe_op ho ha hb) fun σ H Q h => lc_two hl h
theorem je_cmp {a b : Expr} {op : CmpOp} {pos : Pos} {pa pb : PX} {q : List R → PX} {r : R2} (ho : OpR X (compareOp op) r) (hl : LC X.K q (ap2 r)) (ha : JE X B a pa) (hb : JE X B b pb) (hm : behindInMarks op b = false) : JE X B (.Compare a [op] [b] pos) (pC q (pCons pa (pCons pb pNil))) :=
  PE_wk (pe_cmpR ho ha hb hm) fun σ H Q h => lc_two hl h
theorem je_un {a : Expr} {op : UnaryOp} {pos : Pos} {pa : PX} {q : List R → PX} {r : V → Hp → VK → Prop} (ho : UnR X (unaryOp op) r) (hl : LC X.K q (ap1 r)) (ha : JE X B a pa) : JE X B (.UnaryOp op a pos) (pC q (pCons pa pNil)) :=
  PE_wk (pe_un ho ha) fun σ H Q ⟨G, w, δ, Qp, rep, q, k⟩ => ⟨G, w, δ, _, rep, q, fun ra δ1 x H1 G1 w1 q1 s1 rep1 =>
    hl G1 H1 σ δ1 [x] [ra] w1 Qp Q rep1 q1 fun r δ' v H' G' w' hq hs hr => k r δ' v H' G' w' hq (s1.trans hs) hr⟩
theorem lc_args {n : Nat} {ps : PL} {q : List R → PX} {r : List V → Hp → VK → Prop} {σ : St} {H : Hp} {Q : VK} (hl : LC X.K q r) (h : LE X.K B (pC q ps) σ H Q) : tCB r (LA X.K B n ps) σ H Q := by
  obtain ⟨G, w, δ, Qp, rep, q, k⟩ := h
  exact ⟨G, w, δ, _, rep, q, fun rs δ1 vs H1 G1 w1 q1 _ s1 rep1 => hl G1 H1 σ δ1 vs rs w1 Qp Q rep1 q1 fun r δ' v H' G' w' hq hs hr => k r δ' v H' G' w' hq (s1.trans hs) hr⟩
/-! ### tests -/
def pT (p : PX) : PB := fun δ Q => p δ fun r δ1 => ∃ b, dat δ1 r = some (.bool b) ∧ Q b δ1
theorem dp_bool {K : PySem.W.Frag} {H : Hp} {v : V} {b : Bool} (h : Dp K H v (.bool b)) : v = .bl b := by cases h; rfl
theorem jb_val {e : Expr} {p : PX} (h : JE X B e p) (he : ∀ whole, isTrue e X.env whole = (do let v ← whole; standAt e.pos; holding [v] (truthy v)) := by intro _; rfl) : JB X B e (pT p) := by
  refine PT_wk (pt_val h he) fun σ H Q ⟨G, w, δ, Qp, rep, q, k⟩ => ?_
  refine ⟨G, w, δ, _, rep, q, fun r δ1 v H1 G1 w1 q1 s1 rep1 => ?_⟩
  obtain ⟨b, hd, q1⟩ := q1
  exact ⟨b, dp_bool (rep1.dpH (j := 0) rfl rfl hd), k b δ1 H1 G1 _ q1 (s1.trans .drop) rep1.drop⟩
theorem jb_cmp {a b : Expr} {op : CmpOp} {pos : Pos} {pa pb : PX} {q : List R → PX} {r : R2} (ho : OpR X (compareOp op) r) (hl : LC X.K q (ap2 r)) (ha : JE X B a pa) (hb : JE X B b pb) (hm : behindInMarks op b = false) : JB X B (.Compare a [op] [b] pos) (pT (pC q (pCons pa (pCons pb pNil)))) := by
  refine PT_wk (pt_cmpR ho ha hb hm) fun σ H Q ⟨G, w, δ, Qp, rep, q, k⟩ => ?_
  refine lc_two hl ⟨G, w, δ, _, rep, q, fun r δ1 v H1 G1 w1 q1 s1 rep1 => ?_⟩
  obtain ⟨b, hd, q1⟩ := q1
  exact ⟨b, dp_bool (rep1.dpH (j := 0) rfl rfl hd), k b δ1 H1 G1 _ q1 (s1.trans .drop) rep1.drop⟩
def pAnd (p q : PB) : PB := fun δ Q => p δ fun b δ1 => if b = true then q δ1 Q else Q false δ1
def pOr (p q : PB) : PB := fun δ Q => p δ fun b δ1 => if b = true then Q true δ1 else q δ1 Q
def pNot (p : PB) : PB := fun δ Q => p δ fun b δ1 => Q (!b) δ1
def JW (X : Cx) (B : Bas) (e : Expr) (p : PB) : Prop := PW X e (LB X.K B p)
theorem jw_pt {e : Expr} {p : PB} (h : JW X B e p) : JB X B e p := PW.pt h
theorem jw_and1 {a : Expr} {pos : Pos} {p : PB} (h : JB X B a p) : JW X B (.BoolOp .And [a] pos) p := pw_and1 h
theorem jw_or1 {a : Expr} {pos : Pos} {p : PB} (h : JB X B a p) : JW X B (.BoolOp .Or [a] pos) p := pw_or1 h
theorem jw_and {a b : Expr} {rest : List Expr} {pos : Pos} {p q : PB} (ha : JB X B a p) (hb : JW X B (.BoolOp .And (b :: rest) pos) q) : JW X B (.BoolOp .And (a :: b :: rest) pos) (pAnd p q) := by
  refine PW_wk (pw_and ha hb) fun σ H Q ⟨G, w, δ, Qp, rep, h, k⟩ => ?_
  refine ⟨G, w, δ, _, rep, h, fun b δ1 H1 G1 w1 q1 s1 rep1 => ?_⟩
  cases b with
  | true => exact ⟨G1, w1, δ1, Qp, rep1, q1, fun b δ2 H2 G2 w2 q2 s2 rep2 => k b δ2 H2 G2 w2 q2 (s1.trans s2) rep2⟩
  | false => exact k false δ1 H1 G1 w1 q1 s1 rep1
theorem jw_or {a b : Expr} {rest : List Expr} {pos : Pos} {p q : PB} (ha : JB X B a p) (hb : JW X B (.BoolOp .Or (b :: rest) pos) q) : JW X B (.BoolOp .Or (a :: b :: rest) pos) (pOr p q) := by
  refine PW_wk (pw_or ha hb) fun σ H Q ⟨G, w, δ, Qp, rep, h, k⟩ => ?_
  refine ⟨G, w, δ, _, rep, h, fun b δ1 H1 G1 w1 q1 s1 rep1 => ?_⟩
  cases b with
  | false => exact ⟨G1, w1, δ1, Qp, rep1, q1, fun b δ2 H2 G2 w2 q2 s2 rep2 => k b δ2 H2 G2 w2 q2 (s1.trans s2) rep2⟩
  | true => exact k true δ1 H1 G1 w1 q1 s1 rep1
theorem jb_not {a : Expr} {pos : Pos} {p : PB} (h : JB X B a p) : JB X B (.UnaryOp .Not a pos) (pNot p) := by
  refine PT_wk (pt_not h) fun σ H Q ⟨G, w, δ, Qp, rep, h, k⟩ => ?_
  exact ⟨G, w, δ, _, rep, h, fun b δ1 H1 G1 w1 q1 s1 rep1 => k (!b) δ1 H1 G1 w1 q1 s1 rep1⟩
/-- and, or, not as values: truths -/
def pAndV (p q : PX) : PX := fun δ Q => p δ fun r δ1 => ∃ b, dat δ1 r = some (.bool b) ∧ if b = true then q δ1 Q else Q (.im (.bool false)) δ1
def pNotV (p : PX) : PX := fun δ Q => p δ fun r δ1 => ∃ b, dat δ1 r = some (.bool b) ∧ Q (.im (.bool (!b))) δ1
theorem LE.go {K : PySem.W.Frag} {q : PX} {σ : St} {G H G1 H1 : Hp} {w w1 : Addr → Option Nat} {δ δ1 : List Sl} {vs : List V} {rs : List R} {Qp : QE} {Q : VK} (s1 : Stp B.T G H w δ G1 H1 w1 δ1) (rep1 : Rep K B G1 H1 σ δ1 vs rs w1) (h : q δ1 Qp)
    (k : ∀ r δ' v H' G' w', Qp r δ' → Stp B.T G H w δ G' H' w' δ' → Rep K B G' H' σ δ' [v] [r] w' → Q v H') : LE K B q σ H1 Q :=
  ⟨G1, _, δ1, Qp, rep1.drop, h, fun r δ2 v H2 G2 w2 q2 s2 rep2 => k r δ2 v H2 G2 w2 q2 ((s1.trans .drop).trans s2) rep2⟩
theorem je_one {op} {a : Expr} {pos : Pos} {p : PX} (h : JE X B a p) : JE X B (.BoolOp op [a] pos) p := pe_one h
theorem je_and {a b : Expr} {rest : List Expr} {pos : Pos} {p q : PX} (ha : JE X B a p) (hb : JE X B (.BoolOp .And (b :: rest) pos) q) : JE X B (.BoolOp .And (a :: b :: rest) pos) (pAndV p q) := by
  refine PE_wk (pe_and ha hb) fun σ H Q ⟨G, w, δ, Qp, rep, h, k⟩ => ?_
  refine ⟨G, w, δ, _, rep, h, fun r δ1 v H1 G1 w1 q1 s1 rep1 => ?_⟩
  obtain ⟨b, hd, q1⟩ := q1
  refine ⟨b, dp_bool (rep1.dpH (j := 0) rfl rfl hd), ?_⟩
  cases b with
  | true => exact LE.go s1 rep1 q1 k
  | false => exact k _ δ1 _ H1 G1 _ q1 (s1.trans .drop) (rep1.ret (.bl false))
theorem je_not {a : Expr} {pos : Pos} {p : PX} (h : JE X B a p) : JE X B (.UnaryOp .Not a pos) (pNotV p) := by
  refine PE_wk (pe_not h) fun σ H Q ⟨G, w, δ, Qp, rep, h, k⟩ => ?_
  refine ⟨G, w, δ, _, rep, h, fun r δ1 v H1 G1 w1 q1 s1 rep1 => ?_⟩
  obtain ⟨b, hd, q1⟩ := q1
  exact ⟨b, dp_bool (rep1.dpH (j := 0) rfl rfl hd), k _ δ1 _ H1 G1 _ q1 (s1.trans .drop) (rep1.ret (.bl _))⟩
def pIfE (c : PB) (a b : PX) : PX := fun δ Q => c δ fun t δ1 => if t = true then a δ1 Q else b δ1 Q
theorem je_ifExp {c a b : Expr} {pos : Pos} {pc : PB} {pa pb : PX} (hc : JB X B c pc) (ha : JE X B a pa) (hb : JE X B b pb) : JE X B (.IfExp c a b pos) (pIfE pc pa pb) := by
  refine PE_wk (pe_ifExp hc ha hb) fun σ H Q ⟨G, w, δ, Qp, rep, h, k⟩ => ?_
  refine ⟨G, w, δ, _, rep, h, fun t δ1 H1 G1 w1 q1 s1 rep1 => ?_⟩
  cases t with
  | true => exact LE.go s1 rep1 q1 k
  | false => exact LE.go s1 rep1 q1 k
end
end Pv
/-! Books looked at: what is amiss, first of all. -/
namespace Wf
open PySem PySem.Spec L2
def isT : PyData → Bool
  | .tuple _ => true
  | _ => false
/-! ### what is asked -/
def isWh (lo hi : Int) : PyData → Bool
  | .int i => decide (lo ≤ i) && decide (i ≤ hi)
  | _ => false
def isTu (n : Int) : PyData → Bool
  | .tuple ds => decide ((ds.length : Int) = n)
  | _ => false
end Wf
/-! look_table, look_paces, look_book. -/
namespace Wf
open PySem PySem.Spec L2
/-- an error of the class at C with these fields leaves -/
def RzE (C : Addr) (H : Hp) (E : XK) (w : Str) (n : Int) : Prop := ∀ (dd : Addr) (H' : Hp), Same H H' → H dd = none → H' dd = some (.xd [("at", .int n), ("word", .str w)]) → E (.ref C) (some dd) H'
theorem RzE.go {C : Addr} {H H1 : Hp} {E : XK} {w : Str} {n : Int} (r : RzE C H E w n) (s : Same H H1) : ∀ dd, H1 dd = none → E (.ref C) (some dd) (upd H1 dd (.xd [("at", .int n), ("word", .str w)])) := fun dd hd =>
  r dd _ (s.trans (same_new hd)) (s.free hd) upd_same
theorem RzE.same {C : Addr} {H H1 : Hp} {E : XK} {w : Str} {n : Int} (r : RzE C H E w n) (s : Same H H1) : RzE C H1 E w n := fun dd H' s' hd he => r dd H' (s.trans s') (s.free hd) he
end Wf
/-! A def within a def that is handed on: its captured cells stand still while another def calls it. -/
namespace Wf
open PySem PySem.Spec PyProof.Rows L2 LamX NdefX
theorem frames_of {h base base' : Heap} : ∀ {l : List Env}, h.FunFrames base l → (∀ b ∈ frs l, base'.get? b = none) → h.FunFrames base' l
  | [], f, _ => trivial
  | e :: l, f, n => by
    obtain ⟨hk, ⟨L, o, hf, hn, ho, hd⟩, hr⟩ := f
    have hm : ∀ b, b ∈ L :: frs l → b ∈ frs (e :: l) := fun b hb => by
      unfold frs
      rw [List.filterMap_cons, hf]
      exact hb
    exact ⟨hk, ⟨L, o, hf, n L (hm L List.mem_cons_self), ho, hd⟩, frames_of hr fun b hb => n b (hm b (List.mem_cons_of_mem _ hb))⟩
/-! ### a call of what a slot holds -/
/-! ### tuple.index of numbers -/
/-! ### heaps: all but tables of code -/
theorem ExtN.tp {K : PySem.W.Frag} {H H' : Hp} (e : ExtN H H') : Tp K H H' := fun a xs h => by
  rcases h with (h | ⟨o, h⟩) | h
  · exact .inl (.inl (e _ _ h fun ps z => nomatch z))
  · exact .inl (.inr ⟨o, e _ _ h fun ps z => nomatch z⟩)
  · exact .inr h
/-! ### made_table -/
/-! ### made_table(n, f), f a def made here -/
/-! ### tuples whose object is known -/
/-- x is a tuple of these numbers, its object known -/
structure NmT (H : Hp) (x : V) (ns : List Int) : Prop where
  ex : ∃ (p : Addr) (o : Obj), x = .ref p ∧ H p = some (.frz o (.tup (ns.map V.int))) ∧ o.cls = .type "tuple" ∧ o.dict = none
theorem NmT.ext {H H' : Hp} {x : V} {ns : List Int} (h : NmT H x ns) (e : ExtN H H') : NmT H' x ns := by
  obtain ⟨p, o, rfl, h1, h2, h3⟩ := h.ex
  exact ⟨p, o, rfl, e _ _ h1 (fun ps z => nomatch z), h2, h3⟩
theorem NmT.sq {K : PySem.W.Frag} {H : Hp} {x : V} {ns : List Int} (h : NmT H x ns) : ∃ p, x = .ref p ∧ SqT K H p (ns.map V.int) := by
  obtain ⟨p, o, rfl, h1, _, _⟩ := h.ex
  exact ⟨p, rfl, .inl (.inr ⟨o, h1⟩)⟩
theorem NmT.dp {K : PySem.W.Frag} {H : Hp} {x : V} {ns : List Int} (h : NmT H x ns) : Dp K H x (dI ns) := by
  obtain ⟨p, rfl, hs⟩ := h.sq (K := K)
  exact .tup hs (dp_ints ns)
end Wf
/-! t * n, t a tuple that is not empty, n from 0 on. -/
namespace Wf
open PySem PySem.Spec PyProof.Rows L2
theorem mul_one (l : Addr) (ws : Array Value) (n : Nat) (dd : Option Addr) (sl : Array (Option Value)) (u : Tok) :
    Meets (Builtin.«tuple.__mul__» ⟨[.ref l, .int 1 u], []⟩) (fun _ R s => s.heap.get? l = some { cls := .type "tuple", dict := dd, data := .seq ws n, slots := sl } ∧ R (.ok (.ret (Value.ref l))) s) :=
  .of_wp fun prog w A R s q => by
    obtain ⟨hp, gn, dr, tk, os⟩ := s
    obtain ⟨hl, q⟩ := q
    have ix := AutoSeq1.idx_int
    have c1 : (ws.isEmpty || (1 : Int) == 1) = true := by rw [Bool.or_comm]; rfl
    wp_walk using wpAny_loadPart' hl
    repeat (first
      | (refine wpAny_ite_true (decide_eq_true c1) ?_; wp_walk using wpAny_loadPart' hl)
      | (refine wpAny_ite_true c1 ?_; wp_walk using wpAny_loadPart' hl))
    exact ⟨_, rfl, q⟩
theorem mul_none (l : Addr) (ws : Array Value) (n : Nat) (dd : Option Addr) (sl : Array (Option Value)) (u : Tok) (he : ws.isEmpty = false) :
    Meets (Builtin.«tuple.__mul__» ⟨[.ref l, .int 0 u], []⟩) (fun _ R s => s.heap.get? l = some { cls := .type "tuple", dict := dd, data := .seq ws n, slots := sl } ∧
      R (.ok (.ret (Value.ref s.heap.objs.size))) { s with heap := s.heap.push { cls := Value.type "tuple", data := Data.seq #[] }, toks := s.toks }) :=
  .of_wp fun prog w A R s q => by
    obtain ⟨hp, gn, dr, tk, os⟩ := s
    obtain ⟨hl, q⟩ := q
    have ix := AutoSeq1.idx_int
    have c1 : (ws.isEmpty || (0 : Int) == 1) = false := by rw [he]; rfl
    wp_walk using wpAny_loadPart' hl
    repeat (first
      | (refine wpAny_ite_false (decide_eq_false (by rw [c1]; exact Bool.false_ne_true)) ?_; wp_walk using wpAny_loadPart' hl)
      | (refine wpAny_ite_true (decide_eq_true rfl) ?_; wp_walk using wpAny_loadPart' hl))
    exact ⟨_, rfl, q⟩
def rRepA (K : PySem.W.Frag) : R2 := fun x y H Q => ∃ l k xs, x = .ref l ∧ y = .int k ∧ SqT K H l xs ∧ xs ≠ [] ∧ 0 ≤ k ∧ k ≤ 1000 ∧ xs.length ≤ 1000 ∧ (k = 1 → Q (.ref l) H) ∧ (k ≠ 1 → ∀ p, H p = none → Q (.ref p) (upd H p (.tup (List.replicate k.toNat xs).flatten)))
theorem op_repA {X : Cx} : OpR X (binaryOp .Mult) (rRepA X.K) := by
  intro pins s σ H x y v u Q I rx ry q
  obtain ⟨l, k, xs, rfl, rfl, hT, hne, k0, k1, hz, q1, q2⟩ := q
  by_cases c2 : 2 ≤ k
  · exact op_repT pins s σ H _ _ v u Q I rx ry ⟨l, k, xs, rfl, rfl, hT, hne, c2, k1, hz, q2 (by omega)⟩
  · cases rx
    obtain ⟨t, rfl⟩ := ry
    obtain ⟨its, r, ⟨⟨cls, dd, dt, sl⟩, ho, hc, n, hd⟩, hs⟩ := I.tuple hT
    simp only at hc hd
    subst hc hd
    have hk : k = 0 ∨ k = 1 := by omega
    have hle : its.length = xs.length := r.length.symm
    rcases hk with rfl | rfl
    · have he : its.toArray.isEmpty = false := by
        cases its with
        | nil => exact absurd (List.eq_nil_of_length_eq_zero hle.symm) hne
        | cons a b => rfl
      refine wpAny_binaryOp_repeat_ref (T := "tuple") (U := "int") (by decide) ⟨_, ho, rfl⟩ (fun s' => typeIs_int s' 0 t) noFill_tuple_mul F.fills_int_mul F.slot_int_rmul repeat_tuple F.slot_int_index.lookup
        (call_meets F.slot_int_rmul (typeIs_int s 0 t) F.entry_int_rmul (F.args_int_rmul_2 _ _) (int_rmul_tuple 0 t l its.toArray n dd sl) ⟨ho, rfl, ⟨_, ho, rfl⟩, call_meets F.slot_tuple_mul ⟨_, ho, rfl⟩ F.entry_tuple_mul (F.args_tuple_mul_2 _ _) (mul_none l its.toArray n dd sl t he) ⟨ho, ?_⟩⟩)
      refine ⟨.ref s.heap.objs.size, _, I.laid (t' := s.toks) (o := .tup []) (fun b ob e => Heap.get?_push_of_some _ e) (Nat.le_refl _) ?_, rfl, q2 (by decide) _ (I.hok.fresh (Nat.le_refl _))⟩
      exact ⟨Nat.zero_le _, [], .nil, IsTup.new _ _⟩
    · refine wpAny_binaryOp_repeat_ref (T := "tuple") (U := "int") (by decide) ⟨_, ho, rfl⟩ (fun s' => typeIs_int s' 1 t) noFill_tuple_mul F.fills_int_mul F.slot_int_rmul repeat_tuple F.slot_int_index.lookup
        (call_meets F.slot_int_rmul (typeIs_int s 1 t) F.entry_int_rmul (F.args_int_rmul_2 _ _) (int_rmul_tuple 1 t l its.toArray n dd sl) ⟨ho, rfl, ⟨_, ho, rfl⟩, call_meets F.slot_tuple_mul ⟨_, ho, rfl⟩ F.entry_tuple_mul (F.args_tuple_mul_2 _ _) (mul_one l its.toArray n dd sl t) ⟨ho, ?_⟩⟩)
      exact ⟨.ref l, H, I, rfl, q1 rfl⟩
end Wf
namespace Pv
open PySem PySem.Spec L2 Wf
variable {B : Bas}
/-! ### operations that read data and give data -/
def dats (δ : List Sl) : List R → Option (List PyData)
  | [] => some []
  | r :: rs => match dat δ r with
    | none => none
    | some d => match dats δ rs with
      | none => none
      | some ds => some (d :: ds)
inductive Vws (K : PySem.W.Frag) (G H : Hp) : List V → List PyData → Prop
  | nil : Vws K G H [] []
  | cons {v : V} {vs : List V} {d : PyData} {ds : List PyData} : Vw K G H v d → Vws K G H vs ds → Vws K G H (v :: vs) (d :: ds)
section
variable {K : PySem.W.Frag} {G H : Hp} {σ : St} {δ : List Sl} {w : Addr → Option Nat}
theorem vws_of : ∀ (rs : List R) (vs : List V) (ds : List PyData), vs.length = rs.length → (∀ (j : Nat) v q d, vs[j]? = some v → rs[j]? = some q → Pv.dat δ q = some d → Vw K G H v d) → dats δ rs = some ds → Vws K G H vs ds
  | [], [], ds, _, _, h => by
    cases h; exact .nil
  | [], v :: vs, ds, hl, _, _ => by simp at hl
  | r :: rs, [], ds, hl, _, _ => by simp at hl
  | r :: rs, v :: vs, ds, hl, hv, h => by
    unfold dats at h
    revert h
    split
    · intro h; cases h
    · rename_i d e
      split
      · intro h; cases h
      · rename_i ds' e'
        intro h; cases h
        exact .cons (hv 0 v r d rfl rfl e) (vws_of rs vs ds' (by simpa using hl) (fun j v' q d' h1 h2 h3 => hv (j + 1) v' q d' (by simpa using h1) (by simpa using h2) h3) e')
theorem Rep.vws {vs : List V} {rs : List R} {ds : List PyData} (r : Rep K B G H σ δ vs rs w) (h : dats δ rs = some ds) : Vws K G H vs ds :=
  vws_of rs vs ds r.tlen (fun _ _ _ _ hv hq hd => r.dat hv hq hd) h
end
/-- the value v of the data d: one that is there, or a new tuple -/
def Res (K : PySem.W.Frag) (G H : Hp) (v : V) (H' : Hp) (d : PyData) : Prop := (H' = H ∧ Dq K G v d) ∨ ∃ p us l, v = .ref p ∧ H p = none ∧ H' = upd H p (.tup us) ∧ DqAll K G us l ∧ d = .tuple l
theorem Res.old {K : PySem.W.Frag} {G H : Hp} {v : V} {d : PyData} (h : Dq K G v d) : Res K G H v H d := .inl ⟨rfl, h⟩
theorem Res.int {K : PySem.W.Frag} {G H : Hp} {i : Int} : Res K G H (.int i) H (.int i) := .inl ⟨rfl, .int i⟩
theorem Res.bool {K : PySem.W.Frag} {G H : Hp} {i : Bool} : Res K G H (.bl i) H (.bool i) := .inl ⟨rfl, .bl i⟩
theorem Res.str {K : PySem.W.Frag} {G H : Hp} {i : Str} : Res K G H (.str i) H (.str i) := .inl ⟨rfl, .str i⟩
def qD (f : List PyData → (PyData → Prop) → Prop) : List R → PX := fun rs δ Q => match dats δ rs with
  | some ds => f ds fun d => Q (.im d) δ
  | none => False
def qL (f : List PyData → (List PyData → Prop) → Prop) : List R → PX := fun rs δ Q => match dats δ rs with
  | some ds => f ds fun l => Q (.ow (.lst l)) δ
  | none => False
theorem dq_newTup {K : PySem.W.Frag} {G H : Hp} {p : Addr} {us : List V} {l : List PyData} (s : Same G H) (hp : H p = none) (h : DqAll K G us l) : Dq K (upd G p (.tup us)) (.ref p) (.tuple l) := by
  have gp : G p = none := by
    cases e : G p with
    | none => rfl
    | some u => rw [s p u e] at hp; cases hp
  exact .tup (SqT.of upd_same) (dpAll_mono (same_new gp) _ _ h)
theorem lc_im {K : PySem.W.Frag} {f : List PyData → (PyData → Prop) → Prop} {r : List V → Hp → VK → Prop}
    (h : ∀ G H vs ds Q, Same G H → Vws K G H vs ds → f ds (fun d => ∀ v H', Res K G H v H' d → Q v H') → (∀ k k' : PyData → Prop, (∀ d, k d → k' d) → f ds k → f ds k') → r vs H Q) (mono : ∀ ds (k k' : PyData → Prop), (∀ d, k d → k' d) → f ds k → f ds k') : LC K (qD f) r := by
  intro B G H σ δ vs rs w Qp Q rep q k
  unfold qD at q
  revert q
  split
  · rename_i ds e
    intro q
    refine h G H vs ds Q rep.sub (rep.vws e) (mono ds _ _ (fun d hd v H' res => ?_) q) (mono ds)
    rcases res with ⟨rfl, hq⟩ | ⟨p, us, l, rfl, hp, rfl, hus, rfl⟩
    · exact k _ δ v _ G _ hd .drop (rep.ret hq)
    · obtain ⟨s1, r1⟩ := rep.retNew hp (dq_newTup rep.sub hp hus)
      exact k _ δ _ _ _ _ hd s1 r1
  · intro q; exact q.elim
theorem lc_own {K : PySem.W.Frag} {f : List PyData → (List PyData → Prop) → Prop} {r : List V → Hp → VK → Prop}
    (h : ∀ G H vs ds Q, Same G H → Vws K G H vs ds → f ds (fun l => ∀ us p, DqAll K G us l → H p = none → Q (.ref p) (upd H p (.lst us))) → r vs H Q) (mono : ∀ ds (k k' : List PyData → Prop), (∀ d, k d → k' d) → f ds k → f ds k') : LC K (qL f) r := by
  intro B G H σ δ vs rs w Qp Q rep q k
  unfold qL at q
  revert q
  split
  · rename_i ds e
    intro q
    refine h G H vs ds Q rep.sub (rep.vws e) (mono ds _ _ (fun l hd us p hus hp => ?_) q)
    obtain ⟨w', s1, r1⟩ := rep.retLst hp hus
    exact k _ δ _ _ _ _ hd s1 r1
  · intro q; exact q.elim
/-- one of two readings -/
def qOr (q q' : List R → PX) : List R → PX := fun rs δ Q => q rs δ Q ∨ q' rs δ Q
theorem lc_or {K : PySem.W.Frag} {q q' : List R → PX} {r r' : R2} (h : LC K q (ap2 r)) (h' : LC K q' (ap2 r')) : LC K (qOr q q') (ap2 fun x y H Q => r x y H Q ∨ r' x y H Q) := by
  intro B G H σ δ vs rs w Qp Q rep hq k
  match vs, hq with
  | [x, y], .inl hq => exact .inl (h G H σ δ [x, y] rs w Qp Q rep hq k)
  | [x, y], .inr hq => exact .inr (h' G H σ δ [x, y] rs w Qp Q rep hq k)
  | [], .inl hq => exact h G H σ δ [] rs w Qp Q rep hq k
  | [], .inr hq => exact h' G H σ δ [] rs w Qp Q rep hq k
  | [x], .inl hq => exact h G H σ δ [x] rs w Qp Q rep hq k
  | [x], .inr hq => exact h' G H σ δ [x] rs w Qp Q rep hq k
  | x :: y :: z :: vs, .inl hq => exact h G H σ δ (x :: y :: z :: vs) rs w Qp Q rep hq k
  | x :: y :: z :: vs, .inr hq => exact h' G H σ δ (x :: y :: z :: vs) rs w Qp Q rep hq k
theorem op_or {X : Cx} {f : Value → Value → Sem Value} {r r' : R2} (h : OpR X f r) (h' : OpR X f r') : OpR X f (fun x y H Q => r x y H Q ∨ r' x y H Q) := by
  intro pins s σ H x y v u Q I rx ry q
  rcases q with q | q
  · exact h pins s σ H x y v u Q I rx ry q
  · exact h' pins s σ H x y v u Q I rx ry q
/-! ### arithmetic -/
def fI2 (C : Int → Int → Prop) (g : Int → Int → PyData) : List PyData → (PyData → Prop) → Prop
  | [.int a, .int b], k => C a b ∧ k (g a b)
  | _, _ => False
theorem fI2_mono {C : Int → Int → Prop} {g : Int → Int → PyData} : ∀ ds (k k' : PyData → Prop), (∀ d, k d → k' d) → fI2 C g ds k → fI2 C g ds k' := by
  intro ds k k' h q
  unfold fI2 at q ⊢
  split at q
  · exact ⟨q.1, h _ q.2⟩
  · exact q.elim
theorem lc_I2 {K : PySem.W.Frag} {C : Int → Int → Prop} {g : Int → Int → PyData} {gv : Int → Int → V} (hg : ∀ a b G, Dq K G (gv a b) (g a b)) : LC K (qD (fI2 C g)) (ap2 (rI C gv)) := by
  refine lc_im (fun G H vs ds Q s hv q _ => ?_) fI2_mono
  unfold fI2 at q
  split at q
  · cases hv with
    | cons h1 hv =>
      cases hv with
      | cons h2 hv =>
        cases hv
        exact ⟨_, _, h1.int, h2.int, q.1, q.2 _ _ (.old (hg _ _ G))⟩
  · exact q.elim
def T2 (_ _ : Int) : Prop := True
theorem rI_0 {g : Int → Int → V} {x y : V} {H : Hp} {Q : VK} (h : rI T2 g x y H Q) : rI0 g x y H Q := by
  obtain ⟨i, j, h1, h2, _, q⟩ := h
  exact ⟨i, j, h1, h2, q⟩
theorem lc_wk {K : PySem.W.Frag} {q : List R → PX} {r r' : R2} (h : LC K q (ap2 r)) (k : ∀ x y H Q, r x y H Q → r' x y H Q) : LC K q (ap2 r') := by
  intro B G H σ δ vs rs w Qp Q rep hq kk
  match vs with
  | [x, y] => exact k x y H Q (h G H σ δ [x, y] rs w Qp Q rep hq kk)
  | [] => exact h G H σ δ [] rs w Qp Q rep hq kk
  | [x] => exact h G H σ δ [x] rs w Qp Q rep hq kk
  | x :: y :: z :: vs => exact h G H σ δ (x :: y :: z :: vs) rs w Qp Q rep hq kk
theorem lc_I0 {K : PySem.W.Frag} {g : Int → Int → PyData} {gv : Int → Int → V} (hg : ∀ a b G, Dq K G (gv a b) (g a b)) : LC K (qD (fI2 T2 g)) (ap2 (rI0 gv)) := lc_wk (lc_I2 hg) fun _ _ _ _ h => rI_0 h
/-- sums: numbers, tuples, texts, lists -/
def fCat : List PyData → (PyData → Prop) → Prop
  | [.tuple a, .tuple b], k => a.length + b.length ≤ sizeLine ∧ k (.tuple (a ++ b))
  | _, _ => False
def fCatL : List PyData → (List PyData → Prop) → Prop
  | [.list a, .list b], k => a.length + b.length ≤ sizeLine ∧ k (a ++ b)
  | _, _ => False
def fCatS : List PyData → (PyData → Prop) → Prop
  | [.str a, .str b], k => a.length + b.length ≤ sizeLine ∧ k (.str (a ++ b))
  | _, _ => False
theorem dqAll_len {K : PySem.W.Frag} {G : Hp} : ∀ {us : List V} {ds : List PyData}, DqAll K G us ds → us.length = ds.length
  | _, _, .nil => rfl
  | _, _, .cons _ h => congrArg (· + 1) (dqAll_len h)
theorem dqAll_append {K : PySem.W.Frag} {G : Hp} : ∀ {us us' : List V} {ds ds' : List PyData}, DqAll K G us ds → DqAll K G us' ds' → DqAll K G (us ++ us') (ds ++ ds')
  | _, _, _, _, .nil, h => h
  | _, _, _, _, .cons h1 h2, h => .cons h1 (dqAll_append h2 h)
theorem dqAll_nil {K : PySem.W.Frag} {G : Hp} {us : List V} (h : DqAll K G us []) : us = [] := by cases h; rfl
theorem dqAll_nil' {K : PySem.W.Frag} {G : Hp} {ds : List PyData} (h : DqAll K G [] ds) : ds = [] := by cases h; rfl
theorem lc_cat {K : PySem.W.Frag} : LC K (qD fCat) (ap2 (rCatA K)) := by
  refine lc_im (fun G H vs ds Q s hv q _ => ?_) (fun ds k k' h q => ?_)
  · unfold fCat at q
    split at q
    · cases hv with
      | cons h1 hv =>
        cases hv with
        | cons h2 hv =>
          cases hv
          obtain ⟨p1, u1, rfl, t1, d1, e1⟩ := h1.seqT s
          obtain ⟨p2, u2, rfl, t2, d2, e2⟩ := h2.seqT s
          have l1 := dqAll_len d1
          have l2 := dqAll_len d2
          refine ⟨p1, p2, u1, u2, rfl, rfl, t1, t2, by omega, fun z => ?_, fun z1 z2 => ?_, fun z1 z2 p hp => ?_⟩
          · subst z
            rw [dqAll_nil' d1, List.nil_append] at q
            exact q.2 _ _ (.old e2)
          · subst z2
            rw [dqAll_nil' d2, List.append_nil] at q
            exact q.2 _ _ (.old e1)
          · exact q.2 _ _ (.inr ⟨p, _, _, rfl, hp, rfl, dqAll_append d1 d2, rfl⟩)
    · exact q.elim
  · unfold fCat at q ⊢
    split at q
    · exact ⟨q.1, h _ q.2⟩
    · exact q.elim
theorem lc_catS {K : PySem.W.Frag} : LC K (qD fCatS) (ap2 fun x y H Q => ∃ i j, x = .str i ∧ y = .str j ∧ i.length + j.length ≤ sizeLine ∧ Q (.str (i ++ j)) H) := by
  refine lc_im (fun G H vs ds Q s hv q _ => ?_) (fun ds k k' h q => ?_)
  · unfold fCatS at q
    split at q
    · cases hv with
      | cons h1 hv =>
        cases hv with
        | cons h2 hv =>
          cases hv
          exact ⟨_, _, h1.str, h2.str, q.1, q.2 _ _ .str⟩
    · exact q.elim
  · unfold fCatS at q ⊢
    split at q
    · exact ⟨q.1, h _ q.2⟩
    · exact q.elim
theorem lc_catL {K : PySem.W.Frag} : LC K (qL fCatL) (ap2 rCat) := by
  refine lc_own (fun G H vs ds Q s hv q => ?_) (fun ds k k' h q => ?_)
  · unfold fCatL at q
    split at q
    · cases hv with
      | cons h1 hv =>
        cases hv with
        | cons h2 hv =>
          cases hv
          obtain ⟨p1, u1, rfl, t1, d1⟩ := h1.seqL s
          obtain ⟨p2, u2, rfl, t2, d2⟩ := h2.seqL s
          have l1 := dqAll_len d1
          have l2 := dqAll_len d2
          exact ⟨p1, p2, u1, u2, rfl, rfl, t1, t2, by omega, fun p hp => q.2 _ p (dqAll_append d1 d2) hp⟩
    · exact q.elim
  · unfold fCatL at q ⊢
    split at q
    · exact ⟨q.1, h _ q.2⟩
    · exact q.elim
/-- the plus of any two -/
def qAddU : List R → PX := fun rs δ Q => match dats δ rs with
  | some [.int a, .int b] => Q (.im (.int (a + b))) δ
  | some [.tuple a, .tuple b] => a.length + b.length ≤ sizeLine ∧ Q (.im (.tuple (a ++ b))) δ
  | some [.list a, .list b] => a.length + b.length ≤ sizeLine ∧ Q (.ow (.lst (a ++ b))) δ
  | some [.str a, .str b] => a.length + b.length ≤ sizeLine ∧ Q (.im (.str (a ++ b))) δ
  | _ => False
theorem LC.wq {K : PySem.W.Frag} {q q' : List R → PX} {r : List V → Hp → VK → Prop} (h : LC K q r) (k : ∀ rs δ Q, q' rs δ Q → q rs δ Q) : LC K q' r := fun {B} G H σ δ vs rs w Qp Q rep hq kk => h G H σ δ vs rs w Qp Q rep (k rs δ Qp hq) kk
def rAddU (K : PySem.W.Frag) : R2 := fun x y H Q => qAdd x y H Q ∨ (rCatA K x y H Q ∨ (rCat x y H Q ∨ ∃ i j, x = .str i ∧ y = .str j ∧ i.length + j.length ≤ sizeLine ∧ Q (.str (i ++ j)) H))
theorem op_addU {X : Cx} : OpR X (binaryOp .Add) (rAddU X.K) := op_or op_add (op_or op_catA (op_or op_cat op_add_str))
theorem lc_addU {K : PySem.W.Frag} : LC K qAddU (ap2 (rAddU K)) := by
  refine LC.wq (lc_or (lc_I0 (g := fun a b => .int (a + b)) fun a b G => .int _) (lc_or lc_cat (lc_or lc_catL lc_catS))) fun rs δ Q h => ?_
  unfold qAddU at h
  split at h
  · rename_i a b e
    exact .inl (by unfold qD; rw [e]; exact ⟨trivial, h⟩)
  · rename_i a b e
    exact .inr (.inl (by unfold qD; rw [e]; exact h))
  · rename_i a b e
    exact .inr (.inr (.inl (by unfold qL; rw [e]; exact h)))
  · rename_i a b e
    exact .inr (.inr (.inr (by unfold qD; rw [e]; exact h)))
  · exact h.elim
section
variable {X : Cx} {a b : Expr} {pos : Pos} {pa pb : PX}
def pAdd (pa pb : PX) : PX := pC qAddU (pCons pa (pCons pb pNil))
theorem je_add (ha : JE X B a pa) (hb : JE X B b pb) : JE X B (.BinOp a .Add b pos) (pAdd pa pb) := je_op op_addU lc_addU ha hb
def pSub (pa pb : PX) : PX := pC (qD (fI2 T2 fun a b => .int (a - b))) (pCons pa (pCons pb pNil))
theorem je_sub (ha : JE X B a pa) (hb : JE X B b pb) : JE X B (.BinOp a .Sub b pos) (pSub pa pb) := je_op op_sub (lc_I0 fun a b G => .int _) ha hb
/-- one factor below 2 ^ 64, or both together below a million bits -/
def CMu (i j : Int) : Prop := CMul i j ∨ CMulW i j
def fRepL : List PyData → (List PyData → Prop) → Prop
  | [.list a, .int n], k => -(2 ^ 63) ≤ n ∧ n < 2 ^ 63 ∧ a.length * n.toNat ≤ sizeLine ∧ k (List.replicate n.toNat a).flatten
  | _, _ => False
def fRepT : List PyData → (PyData → Prop) → Prop
  | [.tuple a, .int n], k => a ≠ [] ∧ 0 ≤ n ∧ n ≤ 1000 ∧ a.length ≤ 1000 ∧ k (.tuple (List.replicate n.toNat a).flatten)
  | _, _ => False
theorem dqAll_rep {K : PySem.W.Frag} {G : Hp} {us : List V} {ds : List PyData} (h : DqAll K G us ds) : ∀ n : Nat, DqAll K G (List.replicate n us).flatten (List.replicate n ds).flatten
  | 0 => .nil
  | n + 1 => by
    rw [List.replicate_succ, List.replicate_succ, List.flatten_cons, List.flatten_cons]
    exact dqAll_append h (dqAll_rep h n)
theorem lc_repL {K : PySem.W.Frag} : LC K (qL fRepL) (ap2 rRep) := by
  refine lc_own (fun G H vs ds Q s hv q => ?_) (fun ds k k' h q => ?_)
  · unfold fRepL at q
    split at q
    · cases hv with
      | cons h1 hv =>
        cases hv with
        | cons h2 hv =>
          cases hv
          obtain ⟨p1, u1, rfl, t1, d1⟩ := h1.seqL s
          have l1 := dqAll_len d1
          exact ⟨p1, _, u1, rfl, h2.int, t1, q.1, q.2.1, by rw [l1]; exact q.2.2.1, fun p hp => q.2.2.2 _ p (dqAll_rep d1 _) hp⟩
    · exact q.elim
  · unfold fRepL at q ⊢
    split at q
    · exact ⟨q.1, q.2.1, q.2.2.1, h _ q.2.2.2⟩
    · exact q.elim
theorem lc_repT {K : PySem.W.Frag} : LC K (qD fRepT) (ap2 (rRepA K)) := by
  refine lc_im (fun G H vs ds Q s hv q _ => ?_) (fun ds k k' h q => ?_)
  · unfold fRepT at q
    split at q
    · rename_i a n k
      cases hv with
      | cons h1 hv =>
        cases hv with
        | cons h2 hv =>
          cases hv
          obtain ⟨p1, u1, rfl, t1, d1, e1⟩ := h1.seqT s
          have l1 := dqAll_len d1
          obtain ⟨q1, q2, q3, q4, q5⟩ := q
          refine ⟨p1, _, u1, rfl, h2.int, t1, fun z => ?_, q2, q3, by omega, fun z => ?_, fun z p hp => ?_⟩
          · subst z; exact q1 (dqAll_nil' d1)
          · subst z
            refine q5 _ _ (.old ?_)
            show Dq K G _ (.tuple (List.replicate 1 a).flatten)
            rw [List.replicate_one, List.flatten_cons, List.flatten_nil, List.append_nil]
            exact e1
          · exact q5 _ _ (.inr ⟨p, _, _, rfl, hp, rfl, dqAll_rep d1 _, rfl⟩)
    · exact q.elim
  · unfold fRepT at q ⊢
    split at q
    · exact ⟨q.1, q.2.1, q.2.2.1, q.2.2.2.1, h _ q.2.2.2.2⟩
    · exact q.elim
def qMulU : List R → PX := fun rs δ Q => match dats δ rs with
  | some [.int a, .int b] => CMu a b ∧ Q (.im (.int (a * b))) δ
  | some [.list a, .int n] => -(2 ^ 63) ≤ n ∧ n < 2 ^ 63 ∧ a.length * n.toNat ≤ sizeLine ∧ Q (.ow (.lst (List.replicate n.toNat a).flatten)) δ
  | some [.tuple a, .int n] => a ≠ [] ∧ 0 ≤ n ∧ n ≤ 1000 ∧ a.length ≤ 1000 ∧ Q (.im (.tuple (List.replicate n.toNat a).flatten)) δ
  | _ => False
def rMulU (K : PySem.W.Frag) : R2 := fun x y H Q => (qMul x y H Q ∨ rI CMulW (fun i j => .int (i * j)) x y H Q) ∨ (rRep x y H Q ∨ rRepA K x y H Q)
theorem op_mulU : OpR X (binaryOp .Mult) (rMulU X.K) := op_or (op_or op_mul op_mulW) (op_or op_rep op_repA)
theorem lc_mulU {K : PySem.W.Frag} : LC K qMulU (ap2 (rMulU K)) := by
  refine LC.wq (lc_or (lc_or (lc_I2 (C := CMul) (g := fun a b => .int (a * b)) fun a b G => .int _) (lc_I2 (C := CMulW) (g := fun a b => .int (a * b)) fun a b G => .int _)) (lc_or lc_repL lc_repT)) fun rs δ Q h => ?_
  unfold qMulU at h
  split at h
  · rename_i a b e
    rcases h with ⟨h1 | h1, h⟩
    · exact .inl (.inl (by unfold qD; rw [e]; exact ⟨h1, h⟩))
    · exact .inl (.inr (by unfold qD; rw [e]; exact ⟨h1, h⟩))
  · rename_i a b e
    exact .inr (.inl (by unfold qL; rw [e]; exact h))
  · rename_i a b e
    exact .inr (.inr (by unfold qD; rw [e]; exact h))
  · exact h.elim
def pMul (pa pb : PX) : PX := pC qMulU (pCons pa (pCons pb pNil))
theorem je_mul (ha : JE X B a pa) (hb : JE X B b pb) : JE X B (.BinOp a .Mult b pos) (pMul pa pb) := je_op op_mulU lc_mulU ha hb
def fNeg : List PyData → (PyData → Prop) → Prop
  | [.int a], k => k (.int (-a))
  | _, _ => False
theorem lc_neg {K : PySem.W.Frag} : LC K (qD fNeg) (ap1 qNeg) := by
  refine lc_im (fun G H vs ds Q s hv q _ => ?_) (fun ds k k' h q => ?_)
  · unfold fNeg at q
    split at q
    · cases hv with
      | cons h1 hv =>
        cases hv
        exact ⟨_, h1.int, q _ _ .int⟩
    · exact q.elim
  · unfold fNeg at q ⊢
    split at q
    · exact h _ q
    · exact q.elim
def pNeg (pa : PX) : PX := pC (qD fNeg) (pCons pa pNil)
theorem je_neg (ha : JE X B a pa) : JE X B (.UnaryOp .USub a pos) (pNeg pa) := je_un un_neg lc_neg ha
/-! ### comparisons -/
def pCmp (f : Int → Int → Bool) (pa pb : PX) : PX := pC (qD (fI2 T2 fun a b => .bool (f a b))) (pCons pa (pCons pb pNil))
abbrev pLt := pCmp fun a b => decide (a < b)
abbrev pLe := pCmp fun a b => decide (a ≤ b)
abbrev pGt := pCmp fun a b => decide (b < a)
abbrev pGe := pCmp fun a b => decide (b ≤ a)
theorem jb_lt (ha : JE X B a pa) (hb : JE X B b pb) : JB X B (.Compare a [.Lt] [b] pos) (pT (pLt pa pb)) := jb_cmp op_lt (lc_I0 fun a b G => .bl _) ha hb (nomark _)
theorem jb_le (ha : JE X B a pa) (hb : JE X B b pb) : JB X B (.Compare a [.LtE] [b] pos) (pT (pLe pa pb)) := jb_cmp op_le (lc_I0 fun a b G => .bl _) ha hb (nomark _)
theorem jb_gt (ha : JE X B a pa) (hb : JE X B b pb) : JB X B (.Compare a [.Gt] [b] pos) (pT (pGt pa pb)) := jb_cmp op_gt (lc_I0 fun a b G => .bl _) ha hb (nomark _)
theorem jb_ge (ha : JE X B a pa) (hb : JE X B b pb) : JB X B (.Compare a [.GtE] [b] pos) (pT (pGe pa pb)) := jb_cmp op_ge (lc_I0 fun a b G => .bl _) ha hb (nomark _)
/-- equal: of any data -/
def eqd (x y : PyData) : Bool := PyData.eqv x y
def fEq (neg : Bool) : List PyData → (PyData → Prop) → Prop
  | [.int a, .int b], k => k (.bool (if neg then !decide (a = b) else decide (a = b)))
  | [.str a, .str b], k => k (.bool (if neg then !decide (a = b) else decide (a = b)))
  | [a, b], k => SeqAt.shaped a = true ∧ SeqAt.shaped b = true ∧ k (.bool (if neg then !eqd a b else eqd a b))
  | _, _ => False
theorem fEq_mono {neg : Bool} : ∀ ds (k k' : PyData → Prop), (∀ d, k d → k' d) → fEq neg ds k → fEq neg ds k' := by
  intro ds k k' h q
  unfold fEq at q ⊢
  split at q
  · exact h _ q
  · exact h _ q
  · exact ⟨q.1, q.2.1, h _ q.2.2⟩
  · exact q.elim
def rEqU (K : PySem.W.Frag) : R2 := fun x y H Q => rEq x y H Q ∨ rEqD K x y H Q
def rNeU (K : PySem.W.Frag) : R2 := fun x y H Q => rNe x y H Q ∨ rNeD K x y H Q
theorem dec_int {a b : Int} : decide (V.int a = V.int b) = decide (a = b) := by
  by_cases h : a = b
  · subst h; simp
  · rw [decide_eq_false h, decide_eq_false fun z => h (V.int.inj z)]
theorem dec_str {a b : Str} : decide (V.str a = V.str b) = decide (a = b) := by
  by_cases h : a = b
  · subst h; simp
  · rw [decide_eq_false h, decide_eq_false fun z => h (V.str.inj z)]
theorem lc_eqU {K : PySem.W.Frag} : LC K (qD (fEq false)) (ap2 (rEqU K)) := by
  refine lc_im (fun G H vs ds Q s hv q _ => ?_) fEq_mono
  unfold fEq at q
  split at q
  · cases hv with
    | cons h1 hv =>
      cases hv with
      | cons h2 hv =>
        cases hv
        refine .inl ⟨by rw [h1.int, h2.int]; rfl, ?_⟩
        rw [h1.int, h2.int, dec_int]
        exact q _ _ .bool
  · cases hv with
    | cons h1 hv =>
      cases hv with
      | cons h2 hv =>
        cases hv
        refine .inl ⟨by rw [h1.str, h2.str]; rfl, ?_⟩
        rw [h1.str, h2.str, dec_str]
        exact q _ _ .bool
  · cases hv with
    | cons h1 hv =>
      cases hv with
      | cons h2 hv =>
        cases hv
        exact .inr ⟨_, _, h1.dp s, h2.dp s, q.1, q.2.1, q.2.2 _ _ .bool⟩
  · exact q.elim
theorem lc_neU {K : PySem.W.Frag} : LC K (qD (fEq true)) (ap2 (rNeU K)) := by
  refine lc_im (fun G H vs ds Q s hv q _ => ?_) fEq_mono
  unfold fEq at q
  split at q
  · cases hv with
    | cons h1 hv =>
      cases hv with
      | cons h2 hv =>
        cases hv
        refine .inl ⟨by rw [h1.int, h2.int]; rfl, ?_⟩
        rw [h1.int, h2.int, dec_int]
        exact q _ _ .bool
  · cases hv with
    | cons h1 hv =>
      cases hv with
      | cons h2 hv =>
        cases hv
        refine .inl ⟨by rw [h1.str, h2.str]; rfl, ?_⟩
        rw [h1.str, h2.str, dec_str]
        exact q _ _ .bool
  · cases hv with
    | cons h1 hv =>
      cases hv with
      | cons h2 hv =>
        cases hv
        exact .inr ⟨_, _, h1.dp s, h2.dp s, q.1, q.2.1, q.2.2 _ _ .bool⟩
  · exact q.elim
theorem op_eqU (hu : X.A.units + 64 < cLine) : OpR X (compareOp .Eq) (rEqU X.K) := op_or op_eq (op_eqD hu)
theorem op_neU (hu : X.A.units + 64 < cLine) : OpR X (compareOp .NotEq) (rNeU X.K) := op_or op_ne (op_neD hu)
def pEq (neg : Bool) (pa pb : PX) : PX := pC (qD (fEq neg)) (pCons pa (pCons pb pNil))
theorem je_eq {j : Nat} (hr : Room j X.A) (ha : JE X B a pa) (hb : JE X B b pb) : JE X B (.Compare a [.Eq] [b] pos) (pEq false pa pb) := je_cmp (op_eqU hr.units) lc_eqU ha hb (nomark _)
theorem jb_eq {j : Nat} (hr : Room j X.A) (ha : JE X B a pa) (hb : JE X B b pb) : JB X B (.Compare a [.Eq] [b] pos) (pT (pEq false pa pb)) := jb_cmp (op_eqU hr.units) lc_eqU ha hb (nomark _)
theorem jb_ne {j : Nat} (hr : Room j X.A) (ha : JE X B a pa) (hb : JE X B b pb) : JB X B (.Compare a [.NotEq] [b] pos) (pT (pEq true pa pb)) := jb_cmp (op_neU hr.units) lc_neU ha hb (nomark _)
/-! ### items -/
def fIx : List PyData → (PyData → Prop) → Prop
  | [.list ds, .int i], k => ∃ d, atI ds i = some d ∧ k d
  | [.tuple ds, .int i], k => ∃ d, atI ds i = some d ∧ k d
  | _, _ => False
theorem dqAll_get {K : PySem.W.Frag} {G : Hp} : ∀ {us : List V} {ds : List PyData} {i : Nat} {d : PyData}, DqAll K G us ds → ds[i]? = some d → ∃ v, us[i]? = some v ∧ Dq K G v d
  | _, _, _, _, .nil, e => by simp at e
  | _, _, 0, _, .cons h _, e => by simp at e; subst e; exact ⟨_, rfl, h⟩
  | _, _, i + 1, _, .cons _ h, e => by
    obtain ⟨v, e1, e2⟩ := dqAll_get (i := i) h (by simpa using e)
    exact ⟨v, by simpa using e1, e2⟩
theorem dqAll_at {K : PySem.W.Frag} {G : Hp} {us : List V} {ds : List PyData} {i : Int} {d : PyData} (h : DqAll K G us ds) (e : atI ds i = some d) : ∃ v, atI us i = some v ∧ Dq K G v d := by
  unfold atI at e ⊢
  rw [dqAll_len h]
  cases q : ixN ds.length i with
  | none => rw [q] at e; cases e
  | some j =>
    rw [q] at e
    exact dqAll_get h e
theorem lc_ix {K : PySem.W.Frag} : LC K (qD fIx) (ap2 (rIx K)) := by
  refine lc_im (fun G H vs ds Q s hv q _ => ?_) (fun ds k k' h q => ?_)
  · unfold fIx at q
    split at q
    · cases hv with
      | cons h1 hv =>
        cases hv with
        | cons h2 hv =>
          cases hv
          obtain ⟨d, e, q⟩ := q
          obtain ⟨p1, u1, rfl, t1, d1⟩ := h1.seqL s
          obtain ⟨v, e2, hd⟩ := dqAll_at d1 e
          exact .inl ⟨p1, u1, _, v, rfl, h2.int, SqL.of t1, e2, q _ _ (.old hd)⟩
    · cases hv with
      | cons h1 hv =>
        cases hv with
        | cons h2 hv =>
          cases hv
          obtain ⟨d, e, q⟩ := q
          obtain ⟨p1, u1, rfl, t1, d1, _⟩ := h1.seqT s
          obtain ⟨v, e2, hd⟩ := dqAll_at d1 e
          exact .inr (.inl ⟨p1, u1, _, v, rfl, h2.int, t1, e2, q _ _ (.old hd)⟩)
    · exact q.elim
  · unfold fIx at q ⊢
    split at q
    · obtain ⟨d, e, q⟩ := q; exact ⟨d, e, h _ q⟩
    · obtain ⟨d, e, q⟩ := q; exact ⟨d, e, h _ q⟩
    · exact q.elim
def pIx (pa pb : PX) : PX := pC (qD fIx) (pCons pa (pCons pb pNil))
theorem je_ix (ha : JE X B a pa) (hb : JE X B b pb) (hs : PlainIx b) : JE X B (.Subscript a b pos) (pIx pa pb) := PE_wk (pe_ix ix_seq ha hb hs) fun σ H Q h => lc_two lc_ix h
end
/-! ### is -/
end Pv
namespace Pv
open PySem PySem.Spec L2 Wf
variable {B : Bas}
/-! ### a list of one's own that changes no more -/
def fz (δ : List Sl) : R → Option (PyData × List Sl)
  | .im d => some (d, δ)
  | .ow (.lst ds) => some (.list ds, δ)
  | .ow (.ptl ds) => some (.tuple ds, δ)
  | .ow _ => none
  | .at i => match δ[i]? with
    | some (.im d) => some (d, δ)
    | some (.ow false (.lst ds)) => some (.list ds, δ.set i (.im (.list ds)))
    | some (.ow _ (.ptl ds)) => some (.tuple ds, δ)
    | _ => none
def fzAll : List Sl → List R → Option (List PyData × List Sl)
  | δ, [] => some ([], δ)
  | δ, r :: rs => match fz δ r with
    | none => none
    | some (d, δ1) => match fzAll δ1 rs with
      | none => none
      | some (ds, δ2) => some (d :: ds, δ2)
section
variable {K : PySem.W.Frag} {G H : Hp} {σ : St} {δ : List Sl} {vs : List V} {rs : List R} {w : Addr → Option Nat}
/-- what was n's, now nobody's, its list public -/
def freed (w : Addr → Option Nat) (n : Nat) (a : Addr) : Option Nat := if w a = some n then none else w a
theorem freed_ne {w : Addr → Option Nat} {n m : Nat} {a : Addr} (h : w a = some m) (hn : m ≠ n) : freed w n a = some m := by
  unfold freed
  rw [if_neg (by rw [h]; intro z; cases z; exact hn rfl)]
  exact h
theorem of_freed {w : Addr → Option Nat} {n m : Nat} {a : Addr} (h : freed w n a = some m) : w a = some m ∧ m ≠ n := by
  unfold freed at h
  split at h
  · cases h
  · rename_i z
    exact ⟨h, fun e => z (by rw [h, e])⟩
theorem Rep.frees (r : Rep K B G H σ δ vs rs w) {n : Nat} {a : Addr} {us : List V} {δ' : List Sl} (ha : H a = some (.lst us)) (hw : w a = some n) (pn : Pn δ δ') :
    Same G (upd G a (.lst us)) ∧ Stp B.T G H w δ (upd G a (.lst us)) H (freed w n) δ' ∧ Same (upd G a (.lst us)) H ∧ (∀ x i, freed w n x = some i → upd G a (.lst us) x = none ∧ H x ≠ none ∧ NoX H x) := by
  have g0 := (r.out a n hw).1
  have sg : Same G (upd G a (.lst us)) := same_new g0
  refine ⟨sg, .of ⟨sg, fun _ _ _ h => h, fun x i h => .inl (by rw [(of_freed h).1]; exact Option.some_ne_none _), fun x o h => ?_, pn⟩ .refl (q_new nofun), fun x o h => ?_, fun x i h => ?_⟩
  · by_cases e : x = a
    · subst e; exact .inr (.inr (.inl (by rw [hw]; exact Option.some_ne_none _)))
    · rw [upd_ne e] at h; exact .inl h
  · by_cases e : x = a
    · subst e; rw [upd_same] at h; cases h; exact ha
    · rw [upd_ne e] at h; exact r.sub x o h
  · obtain ⟨h1, h2⟩ := of_freed h
    have e : x ≠ a := fun z => by subst z; rw [hw] at h1; cases h1; exact h2 rfl
    rw [upd_ne e]
    exact r.out x i h1
theorem pn_set {δ : List Sl} {i : Nat} {s : Sl} (h : ∀ o, δ[i]? ≠ some (.ow true o)) : Pn δ (δ.set i s) := fun j o hj => by
  by_cases e : i = j
  · subst e; exact absurd hj (h o)
  · exact ⟨o, by rw [List.getElem?_set_ne e]; exact hj⟩
theorem Rep.fz1 (r : Rep K B G H σ δ vs rs w) {j : Nat} {v : V} {q : R} {d : PyData} {δ' : List Sl} (hv : vs[j]? = some v) (hq : rs[j]? = some q) (h : fz δ q = some (d, δ')) :
    ∃ G' w', Stp B.T G H w δ G' H w' δ' ∧ Rep K B G' H σ δ' vs (rs.set j (.im d)) w' := by
  have hj : j < rs.length := (List.getElem?_eq_some_iff.mp hq).1
  have t := r.tm j v q hv hq
  have others : ∀ {G' : Hp} {w' : Addr → Option Nat}, Same G G' → (∀ a k, w a = some k → k ≠ 2 * j + 1 → k % 2 = 1 → w' a = some k) → Dq K G' v d → ∀ (k : Nat) u p, vs[k]? = some u → (rs.set j (.im d))[k]? = some p → RR K G' H σ (fun a => w' a = some (2 * k + 1)) u p := by
    intro G' w' sg hw' hd k u p hu hp
    by_cases e : j = k
    · subst e
      rw [List.getElem?_set_self hj] at hp
      cases hp
      rw [hv] at hu
      cases hu
      exact hd
    · rw [List.getElem?_set_ne e] at hp
      exact (r.tm k u p hu hp).mono sg (fun _ _ _ h => h) fun a o ma _ => hw' a _ ma (by omega) (by omega)
  cases q with
  | im d' =>
    cases h
    exact ⟨G, w, .refl, r.sub, r.out, r.len, r.sl, by rw [List.length_set]; exact r.tlen, others (fun _ _ h => h) (fun a k h _ _ => h) t, r.bs⟩
  | ow o =>
    cases o with
    | lst ds =>
      cases h
      obtain ⟨a, us, rfl, ma, ha, hds⟩ := t
      obtain ⟨sg, st, sh, ho⟩ := r.frees (δ' := δ) ha ma (.refl _)
      refine ⟨_, _, st, sh, ho, r.len, fun i s hs => ?_, by rw [List.length_set]; exact r.tlen, others sg (fun a k h1 h2 _ => freed_ne h1 h2) (.lst upd_same (dpAll_mono sg _ _ hds)), st.bs r.bs⟩
      exact (r.sl i s hs).mono sg (fun _ _ _ h => h) fun a o mb _ => freed_ne mb (by omega)
    | deal => cases h
    | scr ns => cases h
    | lam F => cases h
    | dic ks ds => cases h
    | dct r ks ds => cases h
    | lls bs dss => cases h
    | lds q kss => cases h
    | pds q ks => cases h
    | lob C fss => cases h
    | rcd r => cases h
    | obj C fs => cases h
    | bob C fs => cases h
    | ptl ds =>
      cases h
      exact ⟨G, w, .refl, r.sub, r.out, r.len, r.sl, by rw [List.length_set]; exact r.tlen, others (fun _ _ h => h) (fun a k h _ _ => h) (ptl_dq t), r.bs⟩
  | «at» i =>
    have t' : σ[i]? = some (some v) := t
    simp only [fz] at h
    revert h
    split
    · rename_i d' e
      intro h
      cases h
      obtain ⟨u, hu, hd⟩ := r.sl i _ e
      rw [t'] at hu
      cases hu
      exact ⟨G, w, .refl, r.sub, r.out, r.len, r.sl, by rw [List.length_set]; exact r.tlen, others (fun _ _ h => h) (fun a k h _ _ => h) hd, r.bs⟩
    · rename_i ds e
      intro h
      cases h
      obtain ⟨u, hu, a, us, rfl, ma, ha, hds⟩ := r.sl i _ e
      rw [t'] at hu
      cases hu
      obtain ⟨sg, st, sh, ho⟩ := r.frees (δ' := δ.set i (.im (.list ds))) ha ma (pn_set fun o z => by rw [e] at z; cases z)
      have hd : Dq K (upd G a (.lst us)) (.ref a) (.list ds) := .lst upd_same (dpAll_mono sg _ _ hds)
      refine ⟨_, _, st, sh, ho, by rw [List.length_set]; exact r.len, fun k s hs => ?_, by rw [List.length_set]; exact r.tlen, others sg (fun a k h1 h2 h3 => freed_ne h1 (by omega)) hd, st.bs r.bs⟩
      by_cases ek : i = k
      · subst ek
        rw [List.getElem?_set_self (List.getElem?_eq_some_iff.mp e).1] at hs
        cases hs
        exact ⟨_, t', hd⟩
      · rw [List.getElem?_set_ne ek] at hs
        exact (r.sl k s hs).mono sg (fun _ _ _ h => h) fun a o mb _ => freed_ne mb (by omega)
    · rename_i b ds e
      intro h
      cases h
      obtain ⟨u, hu, hd⟩ := r.sl i _ e
      rw [t'] at hu
      cases hu
      exact ⟨G, w, .refl, r.sub, r.out, r.len, r.sl, by rw [List.length_set]; exact r.tlen, others (fun _ _ h => h) (fun a k h _ _ => h) (ptl_dq hd), r.bs⟩
    · intro h; cases h
theorem Rep.fzGo : ∀ (rs2 : List R) (rs1 : List R) {G : Hp} {δ δ' : List Sl} {w : Addr → Option Nat} {ds : List PyData}, Rep K B G H σ δ vs (rs1 ++ rs2) w → fzAll δ rs2 = some (ds, δ') → ∃ G' w', Stp B.T G H w δ G' H w' δ' ∧ Rep K B G' H σ δ' vs (rs1 ++ ds.map .im) w'
  | [], rs1, G, δ, δ', w, ds, r, h => by
    cases h
    exact ⟨G, w, .refl, r⟩
  | q :: rs2, rs1, G, δ, δ', w, ds, r, h => by
    unfold fzAll at h
    revert h
    split
    · intro h; cases h
    · rename_i d δ1 e
      split
      · intro h; cases h
      · rename_i ds' δ2 e2
        intro h
        cases h
        have hq : (rs1 ++ q :: rs2)[rs1.length]? = some q := by simp
        have hl : rs1.length < vs.length := by rw [r.tlen, List.length_append, List.length_cons]; omega
        obtain ⟨G1, w1, s1, r1⟩ := r.fz1 (v := vs[rs1.length]) (List.getElem?_eq_getElem hl) hq e
        have e3 : (rs1 ++ q :: rs2).set rs1.length (.im d) = (rs1 ++ [.im d]) ++ rs2 := by
          rw [List.set_append_right _ _ (Nat.le_refl _), Nat.sub_self, List.set_cons_zero, List.append_assoc]
          rfl
        rw [e3] at r1
        obtain ⟨G2, w2, s2, r2⟩ := Rep.fzGo rs2 (rs1 ++ [.im d]) r1 e2
        refine ⟨G2, w2, s1.trans s2, ?_⟩
        rw [List.append_assoc] at r2
        exact r2
theorem Rep.fzs (r : Rep K B G H σ δ vs rs w) {ds : List PyData} {δ' : List Sl} (h : fzAll δ rs = some (ds, δ')) : ∃ G' w', Stp B.T G H w δ G' H w' δ' ∧ Rep K B G' H σ δ' vs (ds.map .im) w' := by
  have := Rep.fzGo rs [] (by simpa using r) h
  simpa using this
theorem Rep.ims {ds : List PyData} (r : Rep K B G H σ δ vs (ds.map .im) w) : DqAll K G vs ds := by
  have hl : vs.length = ds.length := by have := r.tlen; rwa [List.length_map] at this
  have go : ∀ (vs : List V) (ds : List PyData), vs.length = ds.length → (∀ (j : Nat) v d, vs[j]? = some v → ds[j]? = some d → Dq K G v d) → DqAll K G vs ds := by
    intro vs
    induction vs with
    | nil =>
      intro ds hl _
      cases ds with
      | nil => exact .nil
      | cons => simp at hl
    | cons v vs ih =>
      intro ds hl h
      cases ds with
      | nil => simp at hl
      | cons d ds => exact .cons (h 0 v d rfl rfl) (ih ds (by simpa using hl) fun j v' d' h1 h2 => h (j + 1) v' d' (by simpa using h1) (by simpa using h2))
  refine go vs ds hl fun j v d hv hd => ?_
  exact r.tm j v (.im d) hv (by rw [List.getElem?_map, hd]; rfl)
end
/-! ### displays -/
def qTup : List R → PX := fun rs δ Q => match fzAll δ rs with
  | some (ds, δ') => Q (.im (.tuple ds)) δ'
  | none => False
def qLst : List R → PX := fun rs δ Q => match fzAll δ rs with
  | some (ds, δ') => Q (.ow (.lst ds)) δ'
  | none => False
section
variable {X : Cx}
def pTup (ps : PL) : PX := pC qTup ps
def pLst (ps : PL) : PX := pC qLst ps
theorem je_tup {es : List Expr} {ps : PL} {x1} {pos : Pos} (h : JA X B es ps) (hl : es.length ≤ sizeLine := by decide) : JE X B (.Tuple es x1 pos) (pTup ps) := by
  refine PE_wk (pe_tup h) fun σ H Q ⟨G, w, δ, Qp, rep, q, k⟩ => ?_
  refine ⟨G, w, δ, _, rep, q, fun rs δ1 vs H1 G1 w1 q1 l1 s1 rep1 => ?_⟩
  unfold qTup at q1
  revert q1
  split
  · rename_i ds δ2 e
    intro q1
    obtain ⟨G2, w2, s2, r2⟩ := rep1.fzs e
    refine ⟨by rw [rep1.tlen, l1]; exact hl, fun p hp => ?_⟩
    obtain ⟨s3, r3⟩ := r2.retNew hp (dq_newTup r2.sub hp r2.ims)
    exact k _ _ _ _ _ _ q1 ((s1.trans s2).trans s3) r3
  · intro q1; exact q1.elim
theorem je_lst {es : List Expr} {ps : PL} {pos : Pos} (h : JA X B es ps) (hl : es.length ≤ sizeLine := by decide) : JE X B (.List es pos) (pLst ps) := by
  refine PE_wk (pe_lst h) fun σ H Q ⟨G, w, δ, Qp, rep, q, k⟩ => ?_
  refine ⟨G, w, δ, _, rep, q, fun rs δ1 vs H1 G1 w1 q1 l1 s1 rep1 => ?_⟩
  unfold qLst at q1
  revert q1
  split
  · rename_i ds δ2 e
    intro q1
    obtain ⟨G2, w2, s2, r2⟩ := rep1.fzs e
    refine ⟨by rw [rep1.tlen, l1]; exact hl, fun p hp => ?_⟩
    obtain ⟨w3, s3, r3⟩ := r2.retLst hp r2.ims
    exact k _ _ _ _ _ _ q1 ((s1.trans s2).trans s3) r3
  · intro q1; exact q1.elim
/-! ### built-ins -/
theorem lc_im1 {K : PySem.W.Frag} {f : PyData → (PyData → Prop) → Prop} {r : List V → Hp → VK → Prop} (h : ∀ G H v d Q, Same G H → Vw K G H v d → f d (fun e => ∀ u H', Res K G H u H' e → Q u H') → r [v] H Q) (mono : ∀ d (k k' : PyData → Prop), (∀ e, k e → k' e) → f d k → f d k') :
    LC K (qD fun ds k => match ds with | [d] => f d k | _ => False) r := by
  refine lc_im (fun G H vs ds Q s hv q _ => ?_) (fun ds k k' hk q => ?_)
  · match ds, hv, q with
    | [d], .cons h1 .nil, q => exact h G H _ d Q s h1 q
    | [], _, q => exact q.elim
    | _ :: _ :: _, _, q => exact q.elim
  · match ds, q with
    | [d], q => exact mono d k k' hk q
    | [], q => exact q.elim
    | _ :: _ :: _, q => exact q.elim
theorem lc_im2 {K : PySem.W.Frag} {f : PyData → PyData → (PyData → Prop) → Prop} {r : List V → Hp → VK → Prop} (h : ∀ G H v u d e Q, Same G H → Vw K G H v d → Vw K G H u e → f d e (fun e => ∀ u H', Res K G H u H' e → Q u H') → r [v, u] H Q) (mono : ∀ d e (k k' : PyData → Prop), (∀ e, k e → k' e) → f d e k → f d e k') :
    LC K (qD fun ds k => match ds with | [d, e] => f d e k | _ => False) r := by
  refine lc_im (fun G H vs ds Q s hv q _ => ?_) (fun ds k k' hk q => ?_)
  · match ds, hv, q with
    | [d, e], .cons h1 (.cons h2 .nil), q => exact h G H _ _ d e Q s h1 h2 q
    | [], _, q => exact q.elim
    | [_], _, q => exact q.elim
    | _ :: _ :: _ :: _, _, q => exact q.elim
  · match ds, q with
    | [d, e], q => exact mono d e k k' hk q
    | [], q => exact q.elim
    | [_], q => exact q.elim
    | _ :: _ :: _ :: _, q => exact q.elim
theorem lc_own1 {K : PySem.W.Frag} {f : PyData → (List PyData → Prop) → Prop} {r : List V → Hp → VK → Prop} (h : ∀ G H v d Q, Same G H → Vw K G H v d → f d (fun l => ∀ us p, DqAll K G us l → H p = none → Q (.ref p) (upd H p (.lst us))) → r [v] H Q) (mono : ∀ d (k k' : List PyData → Prop), (∀ e, k e → k' e) → f d k → f d k') :
    LC K (qL fun ds k => match ds with | [d] => f d k | _ => False) r := by
  refine lc_own (fun G H vs ds Q s hv q => ?_) (fun ds k k' hk q => ?_)
  · match ds, hv, q with
    | [d], .cons h1 .nil, q => exact h G H _ d Q s h1 q
    | [], _, q => exact q.elim
    | _ :: _ :: _, _, q => exact q.elim
  · match ds, q with
    | [d], q => exact mono d k k' hk q
    | [], q => exact q.elim
    | _ :: _ :: _, q => exact q.elim
abbrev q1 (f : PyData → (PyData → Prop) → Prop) : List R → PX := qD fun ds k => match ds with | [d] => f d k | _ => False
abbrev q2 (f : PyData → PyData → (PyData → Prop) → Prop) : List R → PX := qD fun ds k => match ds with | [d, e] => f d e k | _ => False
abbrev q1L (f : PyData → (List PyData → Prop) → Prop) : List R → PX := qL fun ds k => match ds with | [d] => f d k | _ => False
def fLen : PyData → (PyData → Prop) → Prop
  | .list ds, k => k (.int ds.length)
  | .tuple ds, k => k (.int ds.length)
  | .str x, k => x.length ≤ sizeLine ∧ k (.int x.length)
  | _, _ => False
theorem lc_len {K : PySem.W.Frag} : LC K (q1 fLen) (qLen K) := by
  refine lc_im1 (fun G H v d Q s hv q => ?_) (fun d k k' hk q => ?_)
  · cases d with
    | list ds =>
      obtain ⟨a, us, rfl, ha, hds⟩ := hv.seqL s
      exact ⟨_, ds.length, rfl, .inl ⟨us, SqL.of ha, (dqAll_len hds).symm⟩, q _ _ .int⟩
    | tuple ds =>
      obtain ⟨a, us, rfl, ha, hds, _⟩ := hv.seqT s
      exact ⟨_, ds.length, rfl, .inr ⟨us, ha, (dqAll_len hds).symm⟩, q _ _ .int⟩
    | str x => exact ⟨v, x.length, rfl, by rw [hv.str]; exact ⟨q.1, rfl⟩, q.2 _ _ .int⟩
    | none => exact q.elim
    | bool b => exact q.elim
    | int i => exact q.elim
    | dict kvs => exact q.elim
  · cases d with
    | list ds => exact hk _ q
    | tuple ds => exact hk _ q
    | str x => exact ⟨q.1, hk _ q.2⟩
    | none => exact q.elim
    | bool b => exact q.elim
    | int i => exact q.elim
    | dict kvs => exact q.elim
variable {e : Expr} {es : List Expr} {p pos : Pos}
/-- a built-in by its name -/
theorem je_cb {x : Str} {id : String} {ps : PL} {q : List R → PX} {r : List V → Hp → VK → Prop} (hc : CallR X (.builtin id) r) (hl : LC X.K q r) (hg : Gl X x) (hm : X.mg x = none) (hv : bootBuiltins x = some (.builtin id)) (ha : JA X B (e :: es) ps) (hn : x ≠ "__name__" := by decide) (hdb : (x == ("__debug__" : Str)) = false := by decide)
    (he : starEach (e :: es) X.env = (false, eval e X.env) :: starEach es X.env := by rfl) (hpl : (backTo pos (starEach es X.env)).any (·.1) = false := by rfl) : JE X B (.Call (.Name x p) (e :: es) [] pos) (pC q ps) :=
  PE_wk (pe_callB hc hg hm hv ha hn hdb he hpl) fun σ H Q h => lc_args hl h
theorem je_ct {x : Str} {T : String} {ps : PL} {q : List R → PX} {r : List V → Hp → VK → Prop} (hc : CallR X (.type T) r) (hl : LC X.K q r) (hg : Gl X x) (hm : X.mg x = none) (hv : bootBuiltins x = some (.type T)) (ha : JA X B (e :: es) ps) (hn : x ≠ "__name__" := by decide) (hdb : (x == ("__debug__" : Str)) = false := by decide)
    (he : starEach (e :: es) X.env = (false, eval e X.env) :: starEach es X.env := by rfl) (hpl : (backTo pos (starEach es X.env)).any (·.1) = false := by rfl) : JE X B (.Call (.Name x p) (e :: es) [] pos) (pC q ps) :=
  PE_wk (pe_callTy hc hg hm hv ha hn hdb he hpl) fun σ H Q h => lc_args hl h
def fMax2 : PyData → PyData → (PyData → Prop) → Prop
  | .int i, .int j, k => k (.int (if j > i then j else i))
  | _, _, _ => False
def fMin2 : PyData → PyData → (PyData → Prop) → Prop
  | .int i, .int j, k => k (.int (if j < i then j else i))
  | _, _, _ => False
theorem lc_max2 {K : PySem.W.Frag} : LC K (q2 fMax2) qMax2 := by
  refine lc_im2 (fun G H v u d e Q s hv hu q => ?_) (fun d e k k' hk q => ?_)
  · unfold fMax2 at q
    split at q
    · exact ⟨_, _, by rw [hv.int, hu.int], q _ _ .int⟩
    · exact q.elim
  · unfold fMax2 at q ⊢
    split at q
    · exact hk _ q
    · exact q.elim
theorem lc_min2 {K : PySem.W.Frag} : LC K (q2 fMin2) qMin2 := by
  refine lc_im2 (fun G H v u d e Q s hv hu q => ?_) (fun d e k k' hk q => ?_)
  · unfold fMin2 at q
    split at q
    · exact ⟨_, _, by rw [hv.int, hu.int], q _ _ .int⟩
    · exact q.elim
  · unfold fMin2 at q ⊢
    split at q
    · exact hk _ q
    · exact q.elim
def fInt1 : PyData → (PyData → Prop) → Prop
  | .int i, k => k (.int i)
  | .bool b, k => k (.int (if b then 1 else 0))
  | _, _ => False
theorem lc_int1 {K : PySem.W.Frag} : LC K (q1 fInt1) qInt1 := by
  refine lc_im1 (fun G H v d Q s hv q => ?_) (fun d k k' hk q => ?_)
  · unfold fInt1 at q
    split at q
    · exact .inl ⟨_, by rw [hv.int], q _ _ .int⟩
    · exact .inr ⟨_, by rw [hv.bool], q _ _ .int⟩
    · exact q.elim
  · unfold fInt1 at q ⊢
    split at q
    · exact hk _ q
    · exact hk _ q
    · exact q.elim
def fListOf : PyData → (List PyData → Prop) → Prop
  | .list ds, k => k ds
  | .tuple ds, k => k ds
  | _, _ => False
theorem lc_listOf {K : PySem.W.Frag} : LC K (q1L fListOf) (qListOf K) := by
  refine lc_own1 (fun G H v d Q s hv q => ?_) (fun d k k' hk q => ?_)
  · unfold fListOf at q
    split at q
    · obtain ⟨a, us, rfl, ha, hds⟩ := hv.seqL s
      exact ⟨a, us, rfl, .inl (SqL.of ha), fun l hl => q us l hds hl⟩
    · obtain ⟨a, us, rfl, ha, hds, _⟩ := hv.seqT s
      exact ⟨a, us, rfl, .inr ha, fun l hl => q us l hds hl⟩
    · exact q.elim
  · unfold fListOf at q ⊢
    split at q
    · exact hk _ q
    · exact hk _ q
    · exact q.elim
def fTupleOf : PyData → (PyData → Prop) → Prop
  | .list ds, k => k (.tuple ds)
  | .tuple ds, k => k (.tuple ds)
  | _, _ => False
theorem lc_tupleOf {K : PySem.W.Frag} : LC K (q1 fTupleOf) (qTupleOf K) := by
  refine lc_im1 (fun G H v d Q s hv q => ?_) (fun d k k' hk q => ?_)
  · unfold fTupleOf at q
    split at q
    · obtain ⟨a, us, rfl, ha, hds⟩ := hv.seqL s
      exact ⟨a, us, rfl, .inl ⟨SqL.of ha, fun l hl => q _ _ (.inr ⟨l, us, _, rfl, hl, rfl, hds, rfl⟩)⟩⟩
    · obtain ⟨a, us, rfl, ha, hds, e1⟩ := hv.seqT s
      exact ⟨a, us, rfl, .inr ⟨ha, q _ _ (.old e1)⟩⟩
    · exact q.elim
  · unfold fTupleOf at q ⊢
    split at q
    · exact hk _ q
    · exact hk _ q
    · exact q.elim
/-! ### isinstance(e, T) -/
def tyD : PyData → String
  | .none => "NoneType" | .bool _ => "bool" | .int _ => "int" | .str _ => "str" | .tuple _ => "tuple" | .list _ => "list" | .dict _ => "dict"
def isT (a T : String) : Bool := a == T || (a == "bool" && T == "int")
def isD (T : String) (d : PyData) : Bool := isT (tyD d) T
theorem dp_ty {K : PySem.W.Frag} {H : Hp} {d : PyData} {v : V} (h : Dp K H v d) (hl : ∀ ds, d = .list ds → ∃ a us, v = .ref a ∧ H a = some (.lst us)) : TyX K H v (.type (tyD d)) := by
  cases h with
  | non => exact .base .non
  | bl b => exact .base (.bl b)
  | int i => exact .base (.int i)
  | str x => exact .base (.str x)
  | lst hs ha =>
    obtain ⟨a, us, e, h⟩ := hl _ rfl
    cases e
    exact .base (.lst h)
  | tup hs ha =>
    rcases hs with (h | ⟨o, h⟩) | ⟨o, its, m, hk, hc, _⟩
    · exact .base (.tup h)
    · exact .fTuple h
    · exact .kTuple hk hc
def TyOk (T : String) : Prop := T = "bool" ∨ T = "int" ∨ T = "str" ∨ T = "tuple" ∨ T = "list"
theorem kit_is {T : String} (hT : TyOk T) (d : PyData) (hd : ∀ kvs, d ≠ .dict kvs) : kitB (tyD d) T = some (isD T d) := by
  cases d with
  | none => rcases hT with rfl | rfl | rfl | rfl | rfl <;> (show kitB "NoneType" _ = some (isT "NoneType" _)) <;> decide +kernel
  | bool b => rcases hT with rfl | rfl | rfl | rfl | rfl <;> (show kitB "bool" _ = some (isT "bool" _)) <;> decide +kernel
  | int b => rcases hT with rfl | rfl | rfl | rfl | rfl <;> (show kitB "int" _ = some (isT "int" _)) <;> decide +kernel
  | str b => rcases hT with rfl | rfl | rfl | rfl | rfl <;> (show kitB "str" _ = some (isT "str" _)) <;> decide +kernel
  | tuple b => rcases hT with rfl | rfl | rfl | rfl | rfl <;> (show kitB "tuple" _ = some (isT "tuple" _)) <;> decide +kernel
  | list b => rcases hT with rfl | rfl | rfl | rfl | rfl <;> (show kitB "list" _ = some (isT "list" _)) <;> decide +kernel
  | dict b => exact absurd rfl (hd b)
end
end Pv
namespace Pv
open PySem PySem.Spec L2 Wf
variable {B : Bas}
/-- a new thing beside, that never changes -/
theorem Rep.lay {K : PySem.W.Frag} {G H : Hp} {σ : St} {δ : List Sl} {vs : List V} {rs : List R} {w : Addr → Option Nat} (r : Rep K B G H σ δ vs rs w) {p : Addr} {o : HO} (hp : H p = none) (hn : NT o := by exact nofun) :
    Stp B.T G H w δ (upd G p o) (upd H p o) w δ ∧ Rep K B (upd G p o) (upd H p o) σ δ vs rs w := by
  have gp : G p = none := by
    cases e : G p with
    | none => rfl
    | some u => rw [r.sub p u e] at hp; cases hp
  have sg : Same G (upd G p o) := same_new gp
  have kp : ∀ a u, H a = some u → upd H p o a = some u := fun a u ha => by rw [upd_ne (ne_of_none ha hp)]; exact ha
  have st : Stp B.T G H w δ (upd G p o) (upd H p o) w δ := by
    refine .of ⟨sg, fun a u _ ha => kp a u ha, fun a i h => .inl (by rw [h]; exact Option.some_ne_none _), fun a u ha => ?_, .refl _⟩ (tabs_new hp) (q_new hn)
    by_cases e : a = p
    · subst e; exact .inr (.inl hp)
    · rw [upd_ne e] at ha; exact .inl ha
  refine ⟨st, fun a u ha => ?_, fun a i h => ?_, r.len, fun i s h => ?_, r.tlen, fun j v q hv hq => ?_, st.bs r.bs⟩
  · by_cases e : a = p
    · subst e; rw [upd_same] at ha ⊢; exact ha
    · rw [upd_ne e] at ha ⊢; exact r.sub a u ha
  · have ho := r.out a i h
    have hne : a ≠ p := fun z => ho.2.1 (by rw [z]; exact hp)
    rw [upd_ne hne, upd_ne hne]
    exact ⟨ho.1, ho.2.1, noT_upd hne ho.2.2⟩
  · exact (r.sl i s h).mono sg (fun a u _ hu => kp a u hu) fun a u ma _ => ma
  · exact (r.tm j v q hv hq).mono sg (fun a u _ hu => kp a u hu) fun a u ma _ => ma
section
variable {X : Cx} {a b e : Expr} {es : List Expr} {p pos p2 : Pos} {pa pb : PX}
/-! ### isinstance -/
def pIsi (T : String) (p : PX) : PX := fun δ Q => p δ fun r δ1 => ∃ d, dat δ1 r = some d ∧ Q (.im (.bool (isD T d))) δ1
theorem dq_nodict {K : PySem.W.Frag} {G H : Hp} {v : V} {d : PyData} (h : Vw K G H v d) : ∀ kvs, d ≠ .dict kvs := by
  intro kvs z
  subst z
  rcases h with h | ⟨_, _, _, _, _, _, z⟩
  · cases h
  · cases z
theorem vw_ty {K : PySem.W.Frag} {G H : Hp} {v : V} {d : PyData} (s : Same G H) (h : Vw K G H v d) : TyX K H v (.type (tyD d)) :=
  dp_ty (h.dp s) fun ds z => by
    subst z
    obtain ⟨a, us, e, ha, _⟩ := h.seqL s
    exact ⟨a, us, e, ha⟩
theorem je_isi {T : String} {x : Str} {pt : Pos} (hT : TyOk T) (hg : Gl X "isinstance") (hm : X.mg "isinstance" = none) (ht : PE X (.Name x pt) (tC (.ty T))) (ha : JE X B e pa) (he : starEach [e, .Name x pt] X.env = (false, eval e X.env) :: starEach [.Name x pt] X.env := by rfl) (he2 : starEach [.Name x pt] X.env = (false, eval (.Name x pt) X.env) :: starEach [] X.env := by rfl) (hpl : (backTo pos (starEach [.Name x pt] X.env)).any (·.1) = false := by rfl) :
    JE X B (.Call (.Name "isinstance" p) [e, .Name x pt] [] pos) (pIsi T pa) := by
  refine PE_wk (pe_callB call_isi hg hm (by decide +kernel) (pa_cons ha (pa_cons ht pa_nil he2) he) (by decide) (by decide) he hpl) fun σ H Q ⟨G, w, δ, Qp, rep, q, k⟩ => ?_
  refine ⟨G, w, δ, _, rep, q, fun r δ1 v H1 G1 w1 q1 s1 rep1 => ?_⟩
  obtain ⟨d, hd, q1⟩ := q1
  have hv := rep1.dat (j := 0) rfl rfl hd
  exact ⟨v, .ty T, _, _, _, rfl, .ty T, vw_ty rep1.sub hv, kit_ty (kit_is hT d (dq_nodict hv)), k _ δ1 _ H1 G1 _ q1 (s1.trans .drop) (rep1.ret (.bl _))⟩
/-! ### is -/
theorem is_bool_gen {M : Model} {A : Around} {Q : Value → Shared → Prop} {E : Value → Shared → Prop} {s : Shared} {v : Value} {t : Bool} (hb : ∀ id, v ≠ .builtin id) (h : Q (.bool (v == .bool t)) s) : wpAny M A (compareOp .Is v (.bool t)) Q E s := by
  cases v <;> first | exact absurd rfl (hb _) | exact wpAny_pure h
theorem rel_nob {x : V} {v : Value} (r : RelV x v) : ∀ id, v ≠ .builtin id := by
  intro id
  cases x with
  | bl c => cases r; exact fun z => nomatch z
  | non => cases r; exact fun z => nomatch z
  | int _ => obtain ⟨t, rfl⟩ := r; exact fun z => nomatch z
  | str _ => obtain ⟨t, rfl⟩ := r; exact fun z => nomatch z
  | byt _ => obtain ⟨t, rfl⟩ := r; exact fun z => nomatch z
  | flt _ => obtain ⟨t, rfl⟩ := r; exact fun z => nomatch z
  | ref _ => cases r; exact fun z => nomatch z
  | ty _ => cases r; exact fun z => nomatch z
theorem rel_bool {x : V} {v : Value} {t : Bool} (r : RelV x v) : (v == Value.bool t) = decide (x = .bl t) := by
  cases x with
  | bl c => cases r; cases c <;> cases t <;> rfl
  | non => cases r; rfl
  | int _ => obtain ⟨t, rfl⟩ := r; rfl
  | str _ => obtain ⟨t, rfl⟩ := r; rfl
  | byt _ => obtain ⟨t, rfl⟩ := r; rfl
  | flt _ => obtain ⟨t, rfl⟩ := r; rfl
  | ref _ => cases r; rfl
  | ty _ => cases r; rfl
def rIsC : R2 := fun x y H Q => (y = .non ∧ Q (.bl (decide (x = .non))) H) ∨ ∃ t, y = .bl t ∧ Q (.bl (decide (x = .bl t))) H
theorem op_isC : OpR X (compareOp .Is) rIsC := by
  refine op_or op_isN1 ?_
  intro pins s σ H x y v u Q I rx ry h
  obtain ⟨t, rfl, q⟩ := h
  cases (show u = Value.bool t from ry)
  exact is_bool_gen (rel_nob rx) ⟨.bl _, H, I, by rw [rel_bool rx]; rfl, q⟩
def isC : PyData → PyData → Bool
  | .none, .none => true
  | .bool a, .bool b => a == b
  | _, _ => false
def fIs (neg : Bool) : PyData → PyData → (PyData → Prop) → Prop
  | d, .none, k => k (.bool (if neg then !isC d .none else isC d .none))
  | d, .bool t, k => k (.bool (if neg then !isC d (.bool t) else isC d (.bool t)))
  | _, _, _ => False
theorem vw_non {K : PySem.W.Frag} {G H : Hp} {v : V} {d : PyData} (h : Vw K G H v d) : decide (v = .non) = isC d .none := by
  rcases h with h | ⟨a, us, ds, rfl, _, _, rfl⟩
  · cases h <;> rfl
  · rfl
theorem vw_bl {K : PySem.W.Frag} {G H : Hp} {v : V} {d : PyData} {t : Bool} (h : Vw K G H v d) : decide (v = .bl t) = isC d (.bool t) := by
  rcases h with h | ⟨a, us, ds, rfl, _, _, rfl⟩
  · cases h with
    | bl b => cases b <;> cases t <;> rfl
    | _ => rfl
  · rfl
theorem fIs_mono {neg : Bool} : ∀ d e (k k' : PyData → Prop), (∀ e, k e → k' e) → fIs neg d e k → fIs neg d e k' := by
  intro d e k k' hk q
  unfold fIs at q ⊢
  split at q
  · exact hk _ q
  · exact hk _ q
  · exact q.elim
theorem vw_none {K : PySem.W.Frag} {G H : Hp} {v : V} (h : Vw K G H v .none) : v = .non := by
  rcases h with h | ⟨a, us, ds, rfl, _, _, z⟩
  · cases h; rfl
  · cases z
theorem lc_is {K : PySem.W.Frag} : LC K (q2 (fIs false)) (ap2 rIsC) := by
  refine lc_im2 (fun G H v u d e Q s hv hu q => ?_) fIs_mono
  unfold fIs at q
  split at q
  · exact .inl ⟨vw_none hu, by rw [vw_non hv]; exact q _ _ .bool⟩
  · exact .inr ⟨_, hu.bool, by rw [vw_bl hv]; exact q _ _ .bool⟩
  · exact q.elim
def pIs (neg : Bool) (pa pb : PX) : PX := pC (q2 (fIs neg)) (pCons pa (pCons pb pNil))
theorem jb_is (ha : JE X B a pa) (hb : JE X B b pb) : JB X B (.Compare a [.Is] [b] pos) (pT (pIs false pa pb)) := jb_cmp op_isC lc_is ha hb (nomark _)
/-! ### a < b < c -/
def pChain (q q' : List R → PX) (pa pb pc : PX) : PX := fun δ Q => pa δ fun ra δ1 => pb δ1 fun rb δ2 => ∃ y, rb = .im y ∧ q [ra, .im y] δ2 fun r δ3 => ∃ t, dat δ3 r = some (.bool t) ∧
  if t = true then pc δ3 fun rc δ4 => q' [.im y, rc] δ4 Q else Q (.im (.bool false)) δ3
theorem je_chain {c : Expr} {op op' : CmpOp} {pc : PX} {q q' : List R → PX} {r r' : R2} (ho : OpR X (compareOp op) r) (ho' : OpR X (compareOp op') r') (hl : LC X.K q (ap2 r)) (hl' : LC X.K q' (ap2 r')) (ha : JE X B a pa) (hb : JE X B b pb) (hc : JE X B c pc) (hm : lastMarks [op, op'] [b, c] = false := by rfl) :
    JE X B (.Compare a [op, op'] [b, c] pos) (pChain q q' pa pb pc) := by
  refine PE_wk (pe_chain ho ho' ha hb hc hm) fun σ H Q ⟨G, w, δ, Qp, rep, h, k⟩ => ?_
  refine ⟨G, w, δ, _, rep, h, fun ra δ1 x H1 G1 w1 q1 s1 rep1 => ?_⟩
  refine ⟨G1, _, δ1, _, rep1.drop, q1, fun rb δ2 y H2 G2 w2 q2 s2 rep2 => ?_⟩
  obtain ⟨w3, s3, rep3⟩ := rep1.frame s2 rep2
  obtain ⟨dy, rfl, q2⟩ := q2
  have hy : Dq X.K G2 y dy := rep2.tm 0 y (.im dy) rfl rfl
  refine hl G2 H2 σ δ2 [x, y] [ra, .im dy] w3 _ _ rep3 q2 fun r δ3 z H3 G3 w4 q3 s4 rep4 => ?_
  obtain ⟨t, ht, q3⟩ := q3
  refine ⟨t, dp_bool (rep4.dpH (j := 0) rfl rfl ht), ?_⟩
  have s5 := (s1.trans s3).trans s4
  cases t with
  | false => exact k _ δ3 _ H3 G3 _ q3 (s5.trans .drop) (rep4.ret (.bl false))
  | true =>
    have r5 := rep4.ret (dp_mono s4.g _ _ hy)
    refine ⟨G3, _, δ3, _, r5.drop, q3, fun rc δ4 v H4 G4 w5 q4 s6 rep6 => ?_⟩
    obtain ⟨w6, s7, rep7⟩ := r5.frame s6 rep6
    exact hl' G4 H4 σ δ4 [y, v] [.im dy, rc] w6 Qp Q rep7 q4 fun r δ' u H' G' w' hq hs hr => k r δ' u H' G' w' hq (((s5.trans .drop).trans s7).trans hs) hr
theorem jb_chain {c : Expr} {op op' : CmpOp} {pc : PX} {q q' : List R → PX} {r r' : R2} (ho : OpR X (compareOp op) r) (ho' : OpR X (compareOp op') r') (hl : LC X.K q (ap2 r)) (hl' : LC X.K q' (ap2 r')) (ha : JE X B a pa) (hb : JE X B b pb) (hc : JE X B c pc) (hm : lastMarks [op, op'] [b, c] = false := by rfl) :
    JB X B (.Compare a [op, op'] [b, c] pos) (pT (pChain q q' pa pb pc)) := by
  refine PT_wk (pt_chain ho ho' ha hb hc hm) fun σ H Q ⟨G, w, δ, Qp, rep, h, k⟩ => ?_
  refine ⟨G, w, δ, _, rep, h, fun ra δ1 x H1 G1 w1 q1 s1 rep1 => ?_⟩
  refine ⟨G1, _, δ1, _, rep1.drop, q1, fun rb δ2 y H2 G2 w2 q2 s2 rep2 => ?_⟩
  obtain ⟨w3, s3, rep3⟩ := rep1.frame s2 rep2
  obtain ⟨dy, rfl, q2⟩ := q2
  have hy : Dq X.K G2 y dy := rep2.tm 0 y (.im dy) rfl rfl
  refine hl G2 H2 σ δ2 [x, y] [ra, .im dy] w3 _ _ rep3 q2 fun r δ3 z H3 G3 w4 q3 s4 rep4 => ?_
  obtain ⟨t, ht, q3⟩ := q3
  refine ⟨t, dp_bool (rep4.dpH (j := 0) rfl rfl ht), ?_⟩
  have s5 := (s1.trans s3).trans s4
  cases t with
  | false =>
    obtain ⟨b, hb, q3⟩ := q3
    exact ⟨b, by cases hb; rfl, k b δ3 H3 G3 _ q3 (s5.trans .drop) rep4.drop⟩
  | true =>
    have r5 := rep4.ret (dp_mono s4.g _ _ hy)
    refine ⟨G3, _, δ3, _, r5.drop, q3, fun rc δ4 v H4 G4 w5 q4 s6 rep6 => ?_⟩
    obtain ⟨w6, s7, rep7⟩ := r5.frame s6 rep6
    refine hl' G4 H4 σ δ4 [y, v] [.im dy, rc] w6 _ _ rep7 q4 fun r δ' u H' G' w' hq hs hr => ?_
    obtain ⟨b, hb, hq⟩ := hq
    exact ⟨b, dp_bool (hr.dpH (j := 0) rfl rfl hb), k b δ' H' G' _ hq ((((s5.trans .drop).trans s7).trans hs).trans .drop) hr.drop⟩
abbrev qLeD := qD (fI2 T2 fun a b => .bool (decide (a ≤ b)))
theorem lc_le {K : PySem.W.Frag} : LC K qLeD (ap2 qLe) := lc_I0 fun a b G => .bl _
/-! ### slices -/
def POx := List Sl → (Option Int → List Sl → Prop) → Prop
def oNone : POx := fun δ Q => Q none δ
def oSome (p : PX) : POx := fun δ Q => p δ fun r δ1 => ∃ i, dat δ1 r = some (.int i) ∧ Q (some i) δ1
def LO (K : PySem.W.Frag) (B : Bas) (p : POx) : TO := fun σ H Q => ∃ G w δ Qp, Rep K B G H σ δ [] [] w ∧ p δ Qp ∧ ∀ b δ' H' G' w', Qp b δ' → Stp B.T G H w δ G' H' w' δ' → Rep K B G' H' σ δ' [] [] w' → Q b H'
def JO (X : Cx) (B : Bas) (e : Option Expr) (p : POx) : Prop := PO X e (LO X.K B p)
theorem PO_wk {e : Option Expr} {t t' : TO} (h : PO X e t) (k : ∀ σ H Q, t' σ H Q → t σ H Q) : PO X e t' := ⟨fun pins s σ H Q I q => h.run pins s σ H Q I (k σ H Q q)⟩
theorem jo_none : JO X B none oNone := PO_wk po_none fun σ H Q ⟨G, w, δ, Qp, rep, q, k⟩ => k none δ H G w q .refl rep
theorem dp_int {K : PySem.W.Frag} {H : Hp} {v : V} {i : Int} (h : Dp K H v (.int i)) : v = .int i := by cases h; rfl
theorem jo_some (ha : JE X B a pa) : JO X B (some a) (oSome pa) := PO_wk (po_some ha) fun σ H Q ⟨G, w, δ, Qp, rep, q, k⟩ => ⟨G, w, δ, _, rep, q, fun r δ1 v H1 G1 w1 q1 s1 rep1 => by
  obtain ⟨i, hi, q1⟩ := q1
  exact ⟨i, dp_int (rep1.dpH (j := 0) rfl rfl hi), k _ δ1 H1 G1 _ q1 (s1.trans .drop) rep1.drop⟩⟩
def cutD {α : Type} (xs : List α) (lo hi : Option Int) : List α := (xs.drop (HT.sIx xs.length 0 lo)).take (HT.sIx xs.length xs.length hi - HT.sIx xs.length 0 lo)
theorem dqAll_drop {K : PySem.W.Frag} {G : Hp} : ∀ (n : Nat) {us : List V} {ds : List PyData}, DqAll K G us ds → DqAll K G (us.drop n) (ds.drop n)
  | 0, _, _, h => h
  | _ + 1, _, _, .nil => .nil
  | n + 1, _, _, .cons _ h => dqAll_drop n h
theorem dqAll_take {K : PySem.W.Frag} {G : Hp} : ∀ (n : Nat) {us : List V} {ds : List PyData}, DqAll K G us ds → DqAll K G (us.take n) (ds.take n)
  | 0, _, _, _ => .nil
  | _ + 1, _, _, .nil => .nil
  | n + 1, _, _, .cons h1 h => .cons h1 (dqAll_take n h)
theorem dqAll_cut {K : PySem.W.Frag} {G : Hp} {us : List V} {ds : List PyData} {lo hi : Option Int} (h : DqAll K G us ds) : DqAll K G (cutV us lo hi) (cutD ds lo hi) := by
  unfold cutV cutD
  rw [dqAll_len h]
  exact dqAll_take _ (dqAll_drop _ h)
def pSlice (pa : PX) (lo hi : POx) : PX := fun δ Q => pa δ fun ra δ1 => lo δ1 fun l δ2 => hi δ2 fun u δ3 => match dat δ3 ra with
  | some (.tuple ds) => Q (.im (.tuple (cutD ds l u))) δ3
  | some (.list ds) => Q (.ow (.lst (cutD ds l u))) δ3
  | _ => False
def rSlU (K : PySem.W.Frag) : V → Option Int → Option Int → Hp → VK → Prop := fun x lo hi H Q => rSlA K x lo hi H Q ∨ rSlL K x lo hi H Q
theorem sl_u : L2.SlR X (rSlU X.K) := by
  intro pins s σ H x v vl vu lo hi sl Q I rx hs pl pu h
  rcases h with h | h
  · exact sl_tupA pins s σ H x v vl vu lo hi sl Q I rx hs pl pu h
  · exact sl_list pins s σ H x v vl vu lo hi sl Q I rx hs pl pu h
theorem cut_whole {α : Type} {xs : List α} {lo hi : Option Int} (h : HT.sIx xs.length 0 lo = 0 ∧ HT.sIx xs.length xs.length hi = xs.length) : cutD xs lo hi = xs := by
  unfold cutD
  rw [h.1, h.2, Nat.sub_zero, List.drop_zero, List.take_length]
theorem je_slice {lo hi : Option Expr} {pl ph : POx} (ha : JE X B a pa) (hl : JO X B lo pl) (hh : JO X B hi ph) : JE X B (.Subscript a (.Slice lo hi none p2) pos) (pSlice pa pl ph) := by
  refine PE_wk (pe_slice sl_u ha hl hh) fun σ H Q ⟨G, w, δ, Qp, rep, h, k⟩ => ?_
  refine ⟨G, w, δ, _, rep, h, fun ra δ1 x H1 G1 w1 q1 s1 rep1 => ?_⟩
  refine ⟨G1, _, δ1, _, rep1.drop, q1, fun l δ2 H2 G2 w2 q2 s2 rep2 => ?_⟩
  obtain ⟨w3, s3, rep3⟩ := rep1.frame s2 rep2
  refine ⟨G2, _, δ2, _, rep3.drop, q2, fun u δ3 H3 G3 w4 q3 s4 rep4 => ?_⟩
  obtain ⟨w5, s5, rep5⟩ := rep3.frame s4 rep4
  have s6 := (s1.trans s3).trans s5
  revert q3
  split
  · rename_i ds e
    intro q3
    obtain ⟨p1, u1, rfl, t1, d1, e1⟩ := Vw.seqT rep5.sub (rep5.dat (j := 0) rfl rfl e)
    refine .inl ⟨p1, u1, rfl, t1, fun hw => ?_, fun hw p hp => ?_⟩
    · rw [dqAll_len d1] at hw
      rw [cut_whole hw] at q3
      exact k _ δ3 _ H3 G3 _ q3 (s6.trans .drop) (rep5.ret e1)
    · obtain ⟨s7, r7⟩ := rep5.retNew hp (dq_newTup rep5.sub hp (dqAll_cut (lo := l) (hi := u) d1))
      exact k _ δ3 _ _ _ _ q3 (s6.trans s7) r7
  · rename_i ds e
    intro q3
    obtain ⟨p1, u1, rfl, t1, d1⟩ := Vw.seqL rep5.sub (rep5.dat (j := 0) rfl rfl e)
    refine .inr ⟨p1, u1, rfl, SqL.of t1, fun p hp => ?_⟩
    obtain ⟨w7, s7, r7⟩ := rep5.retLst hp (dqAll_cut (lo := l) (hi := u) d1)
    exact k _ δ3 _ _ _ _ q3 (s6.trans s7) r7
  · intro q3; exact q3.elim
/-! ### in, not in: lists of data -/
def fIn (neg : Bool) : PyData → PyData → (PyData → Prop) → Prop
  | d, .list ds, k => SeqAt.shaped d = true ∧ SeqAt.shaped (.list ds) = true ∧ k (.bool (if neg then !ds.any fun z => PyData.eqv z d else ds.any fun z => PyData.eqv z d))
  | _, _, _ => False
theorem fIn_mono {neg : Bool} : ∀ d e (k k' : PyData → Prop), (∀ e, k e → k' e) → fIn neg d e k → fIn neg d e k' := by
  intro d e k k' hk q
  unfold fIn at q ⊢
  split at q
  · exact ⟨q.1, q.2.1, hk _ q.2.2⟩
  · exact q.elim
theorem lc_in {K : PySem.W.Frag} : LC K (q2 (fIn false)) (ap2 (rInD K)) := by
  refine lc_im2 (fun G H v u d e Q s hv hu q => ?_) fIn_mono
  unfold fIn at q
  split at q
  · exact ⟨_, _, hv.dp s, hu.dp s, q.1, q.2.1, q.2.2 _ _ .bool⟩
  · exact q.elim
def pIn (neg : Bool) (pa pb : PX) : PX := pC (q2 (fIn neg)) (pCons pa (pCons pb pNil))
/-! ### list(range(..)), tuple(range(..)) -/
def rgD (a b : Int) : List PyData := (List.range (b - a).toNat).map fun (i : Nat) => PyData.int (a + (i : Nat))
end
end Pv
namespace Pv
open PySem PySem.Spec L2 Wf
variable {B : Bas}
/-! ### storing -/
def slOf : R → Sl
  | .im d => .im d
  | .ow o => .ow false o
  | .at _ => .un
def isAt : R → Bool
  | .at _ => true
  | _ => false
/-- what a slot holds, as data for good -/
def rz (δ : List Sl) : R → Option (R × List Sl)
  | .at i => match δ[i]? with
    | some (.im d) => some (.im d, δ)
    | some (.ow false (.lst ds)) => some (.im (.list ds), δ.set i (.im (.list ds)))
    | some (.ow _ (.ptl ds)) => some (.ow (.ptl ds), δ)
    | _ => none
  | r => some (r, δ)
def rzAll : List Sl → List R → Option (List R × List Sl)
  | δ, [] => some ([], δ)
  | δ, r :: rs => match rz δ r with
    | none => none
    | some (q, δ1) => match rzAll δ1 rs with
      | none => none
      | some (qs, δ2) => some (q :: qs, δ2)
/-- slot i gets r -/
def setS (i : Nat) (r : R) (δ : List Sl) (Q : List Sl → Prop) : Prop := match δ[i]? with
  | none => False
  | some (.ow true _) => False
  | some _ => Q (δ.set i (slOf r))
def setAll : List Nat → List R → List Sl → (List Sl → Prop) → Prop
  | [], [], δ, Q => Q δ
  | i :: is, r :: rs, δ, Q => setS i r δ fun δ' => setAll is rs δ' Q
  | _, _, _, _ => False
def Pin (σ : St) (δ : List Sl) (σ' : St) : Prop := ∀ (i : Nat) (o : O), δ[i]? = some (Sl.ow true o) → σ'[i]? = σ[i]?
theorem Pin.refl {σ : St} {δ : List Sl} : Pin σ δ σ := fun _ _ _ => rfl
theorem Pin.trans {σ σ1 σ2 : St} {δ δ1 : List Sl} (a : Pin σ δ σ1) (n : Pn δ δ1) (b : Pin σ1 δ1 σ2) : Pin σ δ σ2 := fun i o h => by
  obtain ⟨o', h'⟩ := n i o h
  exact (b i o' h').trans (a i o h)
section
variable {K : PySem.W.Frag} {G H : Hp} {σ : St} {δ : List Sl} {vs : List V} {rs : List R} {w : Addr → Option Nat}
theorem Rep.rz1 (r : Rep K B G H σ δ vs rs w) {j : Nat} {q q' : R} {δ' : List Sl} (hq : rs[j]? = some q) (h : rz δ q = some (q', δ')) :
    ∃ G' w', Stp B.T G H w δ G' H w' δ' ∧ Rep K B G' H σ δ' vs (rs.set j q') w' := by
  have hj : j < rs.length := (List.getElem?_eq_some_iff.mp hq).1
  have hjv : j < vs.length := by rw [r.tlen]; exact hj
  have same : rs.set j q = rs := by
    apply List.ext_getElem?
    intro k
    by_cases e : j = k
    · subst e; rw [List.getElem?_set_self hj]; exact hq.symm
    · rw [List.getElem?_set_ne e]
  cases q with
  | im d => cases h; exact ⟨G, w, .refl, by rw [same]; exact r⟩
  | ow o => cases h; exact ⟨G, w, .refl, by rw [same]; exact r⟩
  | «at» i =>
    simp only [rz] at h
    revert h
    split
    · rename_i d e
      intro h
      cases h
      exact r.fz1 (List.getElem?_eq_getElem hjv) hq (by simp only [fz, e])
    · rename_i ds e
      intro h
      cases h
      exact r.fz1 (List.getElem?_eq_getElem hjv) hq (by simp only [fz, e])
    · rename_i b ds e
      intro h
      cases h
      obtain ⟨u, hu, hd⟩ := r.sl i _ e
      have t' : σ[i]? = some (some vs[j]) := r.tm j _ _ (List.getElem?_eq_getElem hjv) hq
      rw [t'] at hu
      cases hu
      refine ⟨G, w, .refl, r.sub, r.out, r.len, r.sl, by rw [List.length_set]; exact r.tlen, fun k x p hx hp => ?_, r.bs⟩
      by_cases ek : j = k
      · subst ek
        rw [List.getElem?_set_self hj] at hp
        cases hp
        rw [List.getElem?_eq_getElem hjv] at hx
        cases hx
        exact hd
      · rw [List.getElem?_set_ne ek] at hp
        exact r.tm k x p hx hp
    · intro h; cases h
theorem Rep.rzGo : ∀ (rs2 : List R) (rs1 : List R) {G : Hp} {δ δ' : List Sl} {w : Addr → Option Nat} {qs : List R}, Rep K B G H σ δ vs (rs1 ++ rs2) w → rzAll δ rs2 = some (qs, δ') → ∃ G' w', Stp B.T G H w δ G' H w' δ' ∧ Rep K B G' H σ δ' vs (rs1 ++ qs) w'
  | [], rs1, G, δ, δ', w, qs, r, h => by
    cases h
    exact ⟨G, w, .refl, r⟩
  | q :: rs2, rs1, G, δ, δ', w, qs, r, h => by
    unfold rzAll at h
    revert h
    split
    · intro h; cases h
    · rename_i q' δ1 e
      split
      · intro h; cases h
      · rename_i qs' δ2 e2
        intro h
        cases h
        have hq : (rs1 ++ q :: rs2)[rs1.length]? = some q := by simp
        obtain ⟨G1, w1, s1, r1⟩ := r.rz1 hq e
        have e3 : (rs1 ++ q :: rs2).set rs1.length q' = (rs1 ++ [q']) ++ rs2 := by
          rw [List.set_append_right _ _ (Nat.le_refl _), Nat.sub_self, List.set_cons_zero, List.append_assoc]
          rfl
        rw [e3] at r1
        obtain ⟨G2, w2, s2, r2⟩ := Rep.rzGo rs2 (rs1 ++ [q']) r1 e2
        refine ⟨G2, w2, s1.trans s2, ?_⟩
        rw [List.append_assoc] at r2
        exact r2
theorem rz_noAt {δ δ' : List Sl} {q q' : R} (h : rz δ q = some (q', δ')) : isAt q' = false := by
  cases q with
  | im d => cases h; rfl
  | ow o => cases h; rfl
  | «at» i =>
    simp only [rz] at h
    revert h
    split
    · intro h; cases h; rfl
    · intro h; cases h; rfl
    · intro h; cases h; rfl
    · intro h; cases h
theorem rzAll_noAt : ∀ {rs qs : List R} {δ δ' : List Sl}, rzAll δ rs = some (qs, δ') → ∀ q ∈ qs, isAt q = false
  | [], _, _, _, h => by cases h; intro q hq; cases hq
  | r :: rs, qs, δ, δ', h => by
    unfold rzAll at h
    revert h
    split
    · intro h; cases h
    · rename_i q' δ1 e
      split
      · intro h; cases h
      · rename_i qs' δ2 e2
        intro h
        cases h
        intro q hq
        rcases List.mem_cons.mp hq with rfl | hq
        · exact rz_noAt e
        · exact rzAll_noAt e2 q hq
theorem Rep.rzs (r : Rep K B G H σ δ vs rs w) {qs : List R} {δ' : List Sl} (h : rzAll δ rs = some (qs, δ')) : ∃ G' w', Stp B.T G H w δ G' H w' δ' ∧ Rep K B G' H σ δ' vs qs w' := by
  have := Rep.rzGo rs [] (by simpa using r) h
  simpa using this
def moved (i : Nat) (w : Addr → Option Nat) (a : Addr) : Option Nat := match w a with
  | none => none
  | some n => if n = 1 then some (2 * i) else if n % 2 = 1 then some (n - 2) else if n = 2 * i then none else some n
theorem of_moved {i : Nat} {w : Addr → Option Nat} {a : Addr} {m : Nat} (h : moved i w a = some m) : ∃ n, w a = some n := by
  unfold moved at h
  cases e : w a with
  | none => rw [e] at h; cases h
  | some n => exact ⟨n, rfl⟩
/-- the first value goes to slot i -/
theorem Rep.sto {v : V} {q : R} (r : Rep K B G H σ δ (v :: vs) (q :: rs) w) {i : Nat} {Q : List Sl → Prop} (h : setS i q δ Q) (hq : isAt q = false) (hrs : ∀ p ∈ rs, isAt p = false) :
    ∃ w', Q (δ.set i (slOf q)) ∧ Stp B.T G H w δ G H w' (δ.set i (slOf q)) ∧ Rep K B G H (σ.set i (some v)) (δ.set i (slOf q)) vs rs w' ∧ Pin σ δ (σ.set i (some v)) := by
  have hd : ∃ s, δ[i]? = some s ∧ (∀ o, s ≠ .ow true o) ∧ Q (δ.set i (slOf q)) := by
    unfold setS at h
    revert h
    split
    · intro h; exact h.elim
    · intro h; exact h.elim
    · rename_i s hn e
      intro h
      exact ⟨s, e, fun o z => hn o z, h⟩
  obtain ⟨s, hs, hp, hQ⟩ := hd
  have hi : i < δ.length := (List.getElem?_eq_some_iff.mp hs).1
  have hiσ : i < σ.length := by rw [r.len]; exact hi
  have np : ∀ o, δ[i]? ≠ some (.ow true o) := fun o z => by rw [hs] at z; cases z; exact hp o rfl
  have st : Stp B.T G H w δ G H (moved i w) (δ.set i (slOf q)) := .of ⟨fun _ _ h => h, fun _ _ _ h => h, fun a m h => by
    obtain ⟨n, hn⟩ := of_moved h
    exact .inl (by rw [hn]; exact Option.some_ne_none _), fun a o h => .inl h, pn_set np⟩
  refine ⟨moved i w, hQ, st, ⟨r.sub, fun a m h => ?_, by rw [List.length_set, List.length_set]; exact r.len, fun k s' hk => ?_, by have := r.tlen; simpa using this, fun j u p hu hp' => ?_, st.bs r.bs⟩, fun k o hk => ?_⟩
  · obtain ⟨n, hn⟩ := of_moved h
    exact r.out a n hn
  · by_cases e : i = k
    · subst e
      rw [List.getElem?_set_self hi] at hk
      cases hk
      have t := r.tm 0 v q rfl rfl
      cases q with
      | im d => exact ⟨v, List.getElem?_set_self hiσ, t⟩
      | ow o =>
        refine ⟨v, List.getElem?_set_self hiσ, RO.mono (fun _ _ h => h) (fun _ _ _ h => h) (fun a u ma _ => ?_) t⟩
        show moved i w a = _
        unfold moved
        rw [ma]
        rfl
      | «at» _ => cases hq
    · rw [List.getElem?_set_ne e] at hk
      rw [List.getElem?_set_ne e]
      refine (r.sl k s' hk).mono (fun _ _ h => h) (fun _ _ _ h => h) fun a u ma _ => ?_
      show moved i w a = _
      unfold moved
      rw [ma]
      dsimp only
      rw [if_neg (by omega), if_neg (by omega), if_neg (by omega)]
  · have t := r.tm (j + 1) u p (by simpa using hu) (by simpa using hp')
    have hno : isAt p = false := hrs p (List.mem_of_getElem? hp')
    cases p with
    | im d => exact t
    | ow o =>
      refine RO.mono (fun _ _ h => h) (fun _ _ _ h => h) (fun a u ma _ => ?_) t
      show moved i w a = _
      unfold moved
      rw [ma]
      dsimp only
      rw [if_neg (by omega), if_pos (by omega)]
      congr 1
    | «at» _ => cases hno
  · by_cases e : i = k
    · subst e; exact absurd hk (np o)
    · rw [List.getElem?_set_ne e]
/-- several slots get several values -/
theorem Rep.stos : ∀ (is : List Nat) {σ : St} {δ : List Sl} {vs : List V} {qs : List R} {w : Addr → Option Nat} {Q : List Sl → Prop}, Rep K B G H σ δ vs qs w → setAll is qs δ Q → (∀ q ∈ qs, isAt q = false) →
    ∃ δ' w', Q δ' ∧ Stp B.T G H w δ G H w' δ' ∧ Rep K B G H ((is.zip vs).foldl (fun σ p => σ.set p.1 (some p.2)) σ) δ' [] [] w' ∧ Pin σ δ ((is.zip vs).foldl (fun σ p => σ.set p.1 (some p.2)) σ) ∧ is.length = vs.length
  | [], σ, δ, vs, qs, w, Q, r, h, hq => by
    cases qs with
    | nil =>
      have hv : vs = [] := List.eq_nil_of_length_eq_zero (by have := r.tlen; simpa using this)
      subst hv
      exact ⟨δ, w, h, .refl, r, .refl, rfl⟩
    | cons => exact h.elim
  | i :: is, σ, δ, vs, qs, w, Q, r, h, hq => by
    cases qs with
    | nil => exact h.elim
    | cons q qs =>
      cases vs with
      | nil => have := r.tlen; simp at this
      | cons v vs =>
        obtain ⟨w1, h1, s1, r1, p1⟩ := r.sto (show setS i q δ _ from h) (hq q List.mem_cons_self) fun p hp => hq p (List.mem_cons_of_mem _ hp)
        obtain ⟨δ2, w2, h2, s2, r2, p2, hl⟩ := Rep.stos is r1 h1 fun p hp => hq p (List.mem_cons_of_mem _ hp)
        exact ⟨δ2, w2, h2, s1.trans s2, r2, p1.trans s1.pn p2, congrArg (· + 1) hl⟩
/-- what slot i holds is handed on -/
def taken (i : Nat) (w : Addr → Option Nat) (a : Addr) : Option Nat := match w a with
  | none => none
  | some n => if n = 2 * i then some 1 else if n % 2 = 1 then none else some n
def mv (δ : List Sl) : R → Option (R × List Sl)
  | .at i => match δ[i]? with
    | some (.im d) => some (.im d, δ)
    | some (.ow false o) => some (.ow o, δ.set i .un)
    | _ => none
  | r => some (r, δ)
theorem Rep.mv1 {v : V} {q q' : R} {δ' : List Sl} (r : Rep K B G H σ δ [v] [q] w) (h : mv δ q = some (q', δ')) : ∃ w', Stp B.T G H w δ G H w' δ' ∧ Rep K B G H σ δ' [v] [q'] w' ∧ isAt q' = false := by
  cases q with
  | im d => cases h; exact ⟨w, .refl, r, rfl⟩
  | ow o => cases h; exact ⟨w, .refl, r, rfl⟩
  | «at» i =>
    have t : σ[i]? = some (some v) := r.tm 0 v (.at i) rfl rfl
    simp only [mv] at h
    revert h
    split
    · rename_i d e
      intro h
      cases h
      obtain ⟨u, hu, hd⟩ := r.sl i _ e
      rw [t] at hu
      cases hu
      exact ⟨_, .drop, r.ret hd, rfl⟩
    · rename_i o e
      intro h
      cases h
      obtain ⟨u, hu, hd⟩ := r.sl i _ e
      rw [t] at hu
      cases hu
      have ot : ∀ a m, taken i w a = some m → ∃ n, w a = some n := fun a m h => by
        unfold taken at h
        cases e : w a with
        | none => rw [e] at h; cases h
        | some n => exact ⟨n, rfl⟩
      have st : Stp B.T G H w δ G H (taken i w) (δ.set i .un) := .of ⟨fun _ _ h => h, fun _ _ _ h => h, fun a m h => by
        obtain ⟨n, hn⟩ := ot a m h
        exact .inl (by rw [hn]; exact Option.some_ne_none _), fun a o h => .inl h, pn_set fun o z => by rw [e] at z; cases z⟩
      refine ⟨taken i w, st, ⟨r.sub, fun a m h => ?_, by rw [List.length_set]; exact r.len, fun k s' hk => ?_, rfl, fun j u p hu hp' => ?_, st.bs r.bs⟩, rfl⟩
      · obtain ⟨n, hn⟩ := ot a m h
        exact r.out a n hn
      · by_cases ek : i = k
        · subst ek
          rw [List.getElem?_set_self (List.getElem?_eq_some_iff.mp e).1] at hk
          cases hk
          trivial
        · rw [List.getElem?_set_ne ek] at hk
          refine (r.sl k s' hk).mono (fun _ _ h => h) (fun _ _ _ h => h) fun a u ma _ => ?_
          show taken i w a = _
          unfold taken
          rw [ma]
          dsimp only
          rw [if_neg (by omega), if_neg (by omega)]
      · match j with
        | 0 =>
          simp only [List.getElem?_cons_zero, Option.some.injEq] at hu hp'
          subst hu hp'
          refine RO.mono (fun _ _ h => h) (fun _ _ _ h => h) (fun a u ma _ => ?_) hd
          show taken i w a = _
          unfold taken
          rw [ma]
          dsimp only
          rw [if_pos rfl]
        | j + 1 => simp at hu
    · intro h; cases h
end
/-! ### statements -/
structure PEn where
  nx : List Sl → Prop
  rt : R → List Sl → Prop
  bk : List Sl → Prop := fun _ => False
  ct : List Sl → Prop := fun _ => False
abbrev PSx := PEn → List Sl → Prop
structure EOk (K : PySem.W.Frag) (B : Bas) (G H : Hp) (w : Addr → Option Nat) (σ : St) (δ : List Sl) (E : PEn) (D : Ends) : Prop where
  nx : ∀ δ' σ' H' G' w', E.nx δ' → Stp B.T G H w δ G' H' w' δ' → Rep K B G' H' σ' δ' [] [] w' → Pin σ δ σ' → D.nx σ' H'
  rt : ∀ r δ' v σ' H' G' w', E.rt r δ' → isAt r = false → Stp B.T G H w δ G' H' w' δ' → Rep K B G' H' σ' δ' [v] [r] w' → Pin σ δ σ' → D.rt v H'
  bk : ∀ δ' σ' H' G' w', E.bk δ' → Stp B.T G H w δ G' H' w' δ' → Rep K B G' H' σ' δ' [] [] w' → Pin σ δ σ' → D.bk σ' H'
  ct : ∀ δ' σ' H' G' w', E.ct δ' → Stp B.T G H w δ G' H' w' δ' → Rep K B G' H' σ' δ' [] [] w' → Pin σ δ σ' → D.ct σ' H'
theorem EOk.later {K : PySem.W.Frag} {G H G1 H1 : Hp} {w w1 : Addr → Option Nat} {σ σ1 : St} {δ δ1 : List Sl} {E : PEn} {D : Ends} (e : EOk K B G H w σ δ E D) (s : Stp B.T G H w δ G1 H1 w1 δ1) (p : Pin σ δ σ1) : EOk K B G1 H1 w1 σ1 δ1 E D :=
  ⟨fun δ' σ' H' G' w' h s' r p' => e.nx δ' σ' H' G' w' h (s.trans s') r (p.trans s.pn p'), fun q δ' v σ' H' G' w' h ha s' r p' => e.rt q δ' v σ' H' G' w' h ha (s.trans s') r (p.trans s.pn p'),
    fun δ' σ' H' G' w' h s' r p' => e.bk δ' σ' H' G' w' h (s.trans s') r (p.trans s.pn p'), fun δ' σ' H' G' w' h s' r p' => e.ct δ' σ' H' G' w' h (s.trans s') r (p.trans s.pn p')⟩
def LS (K : PySem.W.Frag) (B : Bas) (p : PSx) : TS := fun D σ H => ∃ G w δ E, Rep K B G H σ δ [] [] w ∧ p E δ ∧ EOk K B G H w σ δ E D
def JS (X : Cx) (B : Bas) (st : Stmt) (p : PSx) : Prop := PS X st (LS X.K B p)
def JSs (X : Cx) (B : Bas) (st : List Stmt) (p : PSx) : Prop := PSs X st (LS X.K B p)
def pNext : PSx := fun E δ => E.nx δ
def pSeq (a b : PSx) : PSx := fun E δ => a { E with nx := fun δ' => b E δ' } δ
def pExpr (p : PX) : PSx := fun E δ => p δ fun _ δ1 => E.nx δ1
def pRet (p : PX) : PSx := fun E δ => p δ fun r δ1 => ∃ q δ2, mv δ1 r = some (q, δ2) ∧ E.rt q δ2
def pIf (c : PB) (a b : PSx) : PSx := fun E δ => c δ fun t δ1 => if t = true then a E δ1 else b E δ1
def pSet (i : Nat) (p : PX) : PSx := fun E δ => p δ fun r δ1 => ∃ q δ2, rz δ1 r = some (q, δ2) ∧ setS i q δ2 E.nx
def pPar (is : List Nat) (ps : PL) : PSx := fun E δ => ps δ fun rs δ1 => ∃ qs δ2, rzAll δ1 rs = some (qs, δ2) ∧ setAll is qs δ2 E.nx
section
variable {X : Cx} {st : Stmt} {sts : List Stmt} {a b : PSx} {e : Expr} {pa : PX} {pos : Pos}
theorem jss_nil : JSs X B [] pNext := PSs_wk pss_nil fun D σ H ⟨G, w, δ, E, rep, h, ek⟩ => ek.nx δ σ H G w h .refl rep .refl
theorem jss_cons (h1 : JS X B st a) (h2 : JSs X B sts b) : JSs X B (st :: sts) (pSeq a b) := PSs_wk (pss_cons h1 h2) fun D σ H ⟨G, w, δ, E, rep, h, ek⟩ =>
  ⟨G, w, δ, _, rep, h, ⟨fun δ' σ' H' G' w' hb s r p => ⟨G', w', δ', E, r, hb, ek.later s p⟩, ek.rt, ek.bk, ek.ct⟩⟩
theorem jss_one (h1 : JS X B st a) : JSs X B [st] a := pss_one h1
theorem js_expr (he : JE X B e pa) (hs : swapsWith e none pos.line X.env = pure false := by rfl) : JS X B (.Expr e pos) (pExpr pa) := PS_wk (ps_expr he hs) fun D σ H ⟨G, w, δ, E, rep, h, ek⟩ =>
  ⟨G, w, δ, _, rep, h, fun r δ1 v H1 G1 w1 q1 s1 rep1 => ek.nx δ1 σ H1 G1 _ q1 (s1.trans .drop) rep1.drop .refl⟩
theorem js_ret (he : JE X B e pa) : JS X B (.Return (some e) pos) (pRet pa) := PS_wk (ps_ret he) fun D σ H ⟨G, w, δ, E, rep, h, ek⟩ =>
  ⟨G, w, δ, _, rep, h, fun r δ1 v H1 G1 w1 q1 s1 rep1 => by
    obtain ⟨q, δ2, hm, q1⟩ := q1
    obtain ⟨w2, s2, r2, ha⟩ := rep1.mv1 hm
    exact ek.rt q δ2 v σ H1 G1 w2 q1 ha (s1.trans s2) r2 .refl⟩
theorem js_if {c : Expr} {x y : List Stmt} {pc : PB} (hc : JB X B c pc) (ha : JSs X B x a) (hb : JSs X B y b) : JS X B (.If c x y pos) (pIf pc a b) := PS_wk (ps_if hc ha hb) fun D σ H ⟨G, w, δ, E, rep, h, ek⟩ =>
  ⟨G, w, δ, _, rep, h, fun t δ1 H1 G1 w1 q1 s1 rep1 => by
    cases t with
    | true => exact ⟨G1, w1, δ1, E, rep1, q1, ek.later s1 .refl⟩
    | false => exact ⟨G1, w1, δ1, E, rep1, q1, ek.later s1 .refl⟩⟩
theorem set_lift {i : Nat} {p : PX} {D : Ends} {σ : St} {H : Hp} (h : LS X.K B (pSet i p) D σ H) : tAsg (LE X.K B p) (gName i) D σ H := by
  obtain ⟨G, w, δ, E, rep, h, ek⟩ := h
  refine ⟨G, w, δ, _, rep, h, fun r δ1 v H1 G1 w1 q1 s1 rep1 => ?_⟩
  obtain ⟨q, δ2, hz, q1⟩ := q1
  obtain ⟨G2, w2, s2, r2⟩ := rep1.rz1 (j := 0) rfl hz
  obtain ⟨w3, q3, s3, r3, p3⟩ := r2.sto q1 (rz_noAt hz) (fun p hp => by cases hp)
  exact ek.nx _ _ H1 G2 w3 q3 ((s1.trans s2).trans s3) r3 ((Pin.refl (σ := σ)).trans (s1.trans s2).pn p3)
theorem js_set {i : Nat} {x : Str} {pos' : Pos} (hN : X.N.Nodup) (hi : X.N[i]? = some x) (hx : Loc X.env.scope x) (he : JE X B e pa) (hs : swapsWith e (some (.Name x pos')) pos.line X.env = pure false := by rfl) (hf : X.fn x = true ∨ X.env.scope.names.lookup x = some .local := by first | exact .inl rfl | exact .inr rfl | assumption) :
    JS X B (.Assign [.Name x pos'] e pos) (pSet i pa) := PS_wk (ps_set hN hi hx he hs hf) fun D σ H ⟨G, w, δ, E, rep, h, ek⟩ =>
  ⟨G, w, δ, _, rep, h, fun r δ1 v H1 G1 w1 q1 s1 rep1 => by
    obtain ⟨q, δ2, hz, q1⟩ := q1
    obtain ⟨G2, w2, s2, r2⟩ := rep1.rz1 (j := 0) rfl hz
    obtain ⟨w3, q3, s3, r3, p3⟩ := r2.sto q1 (rz_noAt hz) (fun p hp => by cases hp)
    exact ek.nx _ _ H1 G2 w3 q3 ((s1.trans s2).trans s3) r3 ((Pin.refl (σ := σ)).trans (s1.trans s2).pn p3)⟩
theorem js_par2 {i j : Nat} {x y : Str} {e1 e2 : Expr} {ps : PL} {px py pt : Pos} {kt k2 pt2} (hc : X.calm = true) (hN : X.N.Nodup) (hi : X.N[i]? = some x) (hj : X.N[j]? = some y) (hij : i ≠ j)
    (hx : X.env.scope.names.lookup x = some .local) (hy : X.env.scope.names.lookup y = some .local) (ha : JA X B [e1, e2] ps)
    (hw : swappedStores [.Tuple [.Name x px, .Name y py] kt pt] (.Tuple [e1, e2] k2 pt2) X.env = pure (some [x, y]))
    (hs : swapsWithSole [.Tuple [.Name x px, .Name y py] kt pt] (.Tuple [e1, e2] k2 pt2) pos.line X.env = pure false := by rfl) :
    JS X B (.Assign [.Tuple [.Name x px, .Name y py] kt pt] (.Tuple [e1, e2] k2 pt2) pos) (pPar [i, j] ps) := PS_wk (ps_par hc hN hi hj hij hx hy ha hw hs) fun D σ H ⟨G, w, δ, E, rep, h, ek⟩ =>
  ⟨G, w, δ, _, rep, h, fun rs δ1 vs H1 G1 w1 q1 l1 s1 rep1 => by
    obtain ⟨qs, δ2, hz, q1⟩ := q1
    obtain ⟨G2, w2, s2, r2⟩ := rep1.rzs hz
    obtain ⟨δ3, w3, q3, s3, r3, p3, hl⟩ := Rep.stos [i, j] r2 q1 (rzAll_noAt hz)
    match vs, hl with
    | [v, u], _ => exact ⟨v, u, rfl, ek.nx _ _ H1 G2 w3 q3 ((s1.trans s2).trans s3) r3 ((Pin.refl (σ := σ)).trans (s1.trans s2).pn p3)⟩⟩
end
/-! ### targets of data -/
abbrev PGx := PyData → List Sl → (List Sl → Prop) → Prop
abbrev PGxs := List PyData → List Sl → (List Sl → Prop) → Prop
def gN (i : Nat) : PGx := fun d δ Q => setS i (.im d) δ Q
def gsN : PGxs := fun ds δ Q => ds = [] ∧ Q δ
def gsC (g : PGx) (gs : PGxs) : PGxs := fun ds δ Q => match ds with
  | d :: ds => g d δ fun δ' => gs ds δ' Q
  | [] => False
def gT (n : Nat) (gs : PGxs) : PGx := fun d δ Q => match d with
  | .tuple ds => ds.length = n ∧ gs ds δ Q
  | _ => False
/-- only the slots ts are stored to -/
def Tch (ts : List Nat) (σ σ' : St) : Prop := σ'.length = σ.length ∧ ∀ k, k ∉ ts → σ'[k]? = σ[k]?
theorem Tch.refl {ts : List Nat} {σ : St} : Tch ts σ σ := ⟨rfl, fun _ _ => rfl⟩
theorem Tch.trans {ts us : List Nat} {σ σ1 σ2 : St} (a : Tch ts σ σ1) (b : Tch us σ1 σ2) : Tch (ts ++ us) σ σ2 := ⟨b.1.trans a.1, fun k hk => (b.2 k fun z => hk (List.mem_append_right _ z)).trans (a.2 k fun z => hk (List.mem_append_left _ z))⟩
def LG (K : PySem.W.Frag) (B : Bas) (ts : List Nat) (g : PGx) : TG := fun v σ H Q => ∃ G w δ d Qp, Rep K B G H σ δ [] [] w ∧ Dq K G v d ∧ g d δ Qp ∧ ∀ δ' σ' H' G' w', Qp δ' → Stp B.T G H w δ G' H' w' δ' → Rep K B G' H' σ' δ' [] [] w' → Pin σ δ σ' → Tch ts σ σ' → Q σ' H'
def LGs (K : PySem.W.Frag) (B : Bas) (ts : List Nat) (g : PGxs) : TGs := fun vs σ H Q => ∃ G w δ ds Qp, Rep K B G H σ δ [] [] w ∧ DqAll K G vs ds ∧ g ds δ Qp ∧ ∀ δ' σ' H' G' w', Qp δ' → Stp B.T G H w δ G' H' w' δ' → Rep K B G' H' σ' δ' [] [] w' → Pin σ δ σ' → Tch ts σ σ' → Q σ' H'
section
variable {X : Cx} {pos : Pos}
theorem PG_wk {e : Expr} {t t' : TG} (h : PG X e t) (k : ∀ v σ H Q, t' v σ H Q → t v σ H Q) : PG X e t' := ⟨fun pins s σ H v u Q I r q => h.run pins s σ H v u Q I r (k v σ H Q q)⟩
theorem PGs_wk {es : List Expr} {t t' : TGs} (h : PGs X es t) (k : ∀ v σ H Q, t' v σ H Q → t v σ H Q) : PGs X es t' := ⟨fun pins s σ H v u Q I r q => h.run pins s σ H v u Q I r (k v σ H Q q)⟩
def JG (X : Cx) (B : Bas) (e : Expr) (ts : List Nat) (g : PGx) : Prop := PG X e (LG X.K B ts g)
def JGs (X : Cx) (B : Bas) (es : List Expr) (ts : List Nat) (g : PGxs) : Prop := PGs X es (LGs X.K B ts g)
theorem jg_name {i : Nat} {x : Str} (hN : X.N.Nodup) (hi : X.N[i]? = some x) (hx : Loc X.env.scope x) (hf : X.fn x = true ∨ X.env.scope.names.lookup x = some .local := by first | exact .inl rfl | exact .inr rfl | assumption) : JG X B (.Name x pos) [i] (gN i) :=
  PG_wk (pg_name hN hi hx hf) fun v σ H Q ⟨G, w, δ, d, Qp, rep, hd, h, k⟩ => by
    obtain ⟨w3, q3, s3, r3, p3⟩ := (rep.ret hd).sto (show setS i (.im d) δ Qp from h) rfl (fun p hp => by cases hp)
    exact k _ _ H G w3 q3 (Stp.drop.trans s3) r3 p3 ⟨List.length_set, fun k hk => List.getElem?_set_ne fun z => hk (by rw [z]; exact List.mem_singleton.mpr rfl)⟩
theorem jgs_nil : JGs X B [] [] gsN := PGs_wk pgs_nil fun vs σ H Q ⟨G, w, δ, ds, Qp, rep, hd, h, k⟩ => by
  obtain ⟨rfl, h⟩ := h
  exact ⟨dqAll_nil hd, k δ σ H G w h .refl rep .refl .refl⟩
theorem jgs_cons {e : Expr} {es : List Expr} {ts us : List Nat} {g : PGx} {gs : PGxs} (h1 : JG X B e ts g) (h2 : JGs X B es us gs)
    (hs : (assignEach (e :: es) X.env).map (·.2) = assign e X.env :: (assignEach es X.env).map (·.2) := by rfl) : JGs X B (e :: es) (ts ++ us) (gsC g gs) := PGs_wk (pgs_cons h1 h2 hs) fun vs σ H Q ⟨G, w, δ, ds, Qp, rep, hd, h, k⟩ => by
  cases hd with
  | nil => exact h.elim
  | cons h1 h2 =>
    exact ⟨_, _, rfl, G, w, δ, _, _, rep, h1, h, fun δ' σ' H' G' w' hq s r p t => ⟨G', w', δ', _, Qp, r, dpAll_mono s.g _ _ h2, hq, fun δ2 σ2 H2 G2 w2 hq2 s2 r2 p2 t2 => k δ2 σ2 H2 G2 w2 hq2 (s.trans s2) r2 (p.trans s.pn p2) (t.trans t2)⟩⟩
theorem jg_tup {es : List Expr} {k : Nat} {ts : List Nat} {g : PGxs} {n : Nat} (hc : X.calm = true) (h : JGs X B es ts g)
    (hn : (assignEach es X.env).length = n := by rfl) (hst : (assignEach es X.env).findIdx? (·.1) = none := by rfl) : JG X B (.Tuple es k pos) ts (gT n g) := PG_wk (pg_tup hc h hn hst) fun v σ H Q ⟨G, w, δ, d, Qp, rep, hd, h, k⟩ => by
  unfold gT at h
  revert h
  split
  · intro h
    cases hd with
    | tup hs ha => exact ⟨_, _, rfl, Same.tp rep.sub _ _ hs, (dqAll_len ha).trans h.1, G, w, δ, _, Qp, rep, ha, h.2, k⟩
  · intro h; exact h.elim
/-- target = data -/
def pAsg (p : PX) (g : PGx) : PSx := fun E δ => p δ fun r δ1 => ∃ d δ2, fz δ1 r = some (d, δ2) ∧ g d δ2 E.nx
theorem js_asg {tg e : Expr} {p : PX} {ts : List Nat} {g : PGx} (he : JE X B e p) (hg : JG X B tg ts g) (hs : swapsWithSole [tg] e pos.line X.env = pure false := by rfl) (hw : swappedStores [tg] e X.env = pure none := by rfl)
    (h1 : (assignEach [tg] X.env).map (·.2) = [assign tg X.env] := by rfl) : JS X B (.Assign [tg] e pos) (pAsg p g) := PS_wk (ps_asg he hg hs hw h1) fun D σ H ⟨G, w, δ, E, rep, h, ek⟩ =>
  ⟨G, w, δ, _, rep, h, fun r δ1 v H1 G1 w1 q1 s1 rep1 => by
    obtain ⟨d, δ2, hz, q1⟩ := q1
    obtain ⟨G2, w2, s2, r2⟩ := rep1.fz1 (j := 0) rfl rfl hz
    have hd : Dq X.K G2 v d := r2.tm 0 v (.im d) rfl rfl
    exact ⟨G2, _, δ2, d, _, r2.drop, hd, q1, fun δ' σ' H' G' w' hq s r p _ => ek.nx δ' σ' H' G' w' hq (((s1.trans s2).trans .drop).trans s) r ((Pin.refl (σ := σ)).trans ((s1.trans s2).trans .drop).pn p)⟩⟩
/-- a, b, .. = x, y, .. by a tuple -/
theorem js_parT {is : List Nat} {xs : List Str} {tgs es : List Expr} {ps : PL} {pt : Pos} {kt k2 pt2} {gs : TGs} (ha : JA X B es ps) (hg : PG X (.Tuple tgs kt pt) (gTup X.K is.length gs)) (hgs : ∀ vs σ H Q, is.length = vs.length → Q ((is.zip vs).foldl (fun σ p => σ.set p.1 (some p.2)) σ) H → gs vs σ H Q) (hl : es.length ≤ sizeLine := by decide)
    (hs : swapsWithSole [.Tuple tgs kt pt] (.Tuple es k2 pt2) pos.line X.env = pure false := by rfl) (hw : swappedStores [.Tuple tgs kt pt] (.Tuple es k2 pt2) X.env = pure none := by rfl) (h1 : (assignEach [.Tuple tgs kt pt] X.env).map (·.2) = [assign (.Tuple tgs kt pt) X.env] := by rfl) :
    JS X B (.Assign [.Tuple tgs kt pt] (.Tuple es k2 pt2) pos) (pPar is ps) := PS_wk (ps_asg (pe_tup ha) hg hs hw h1) fun D σ H ⟨G, w, δ, E, rep, h, ek⟩ =>
  ⟨G, w, δ, _, rep, h, fun rs δ1 vs H1 G1 w1 q1 l1 s1 rep1 => ⟨by rw [rep1.tlen, l1]; exact hl, fun p hp => by
    obtain ⟨qs, δ2, hz, q1⟩ := q1
    obtain ⟨G2, w2, s2, r2⟩ := rep1.rzs hz
    obtain ⟨s3, r3⟩ := r2.lay (o := .tup vs) hp
    obtain ⟨δ4, w4, q4, s4, r4, p4, hl⟩ := Rep.stos is r3 q1 (rzAll_noAt hz)
    refine ⟨p, vs, rfl, SqT.of upd_same, hl.symm, hgs vs σ _ _ hl ?_⟩
    exact ek.nx _ _ _ _ w4 q4 (((s1.trans s2).trans s3).trans s4) r4 ((Pin.refl (σ := σ)).trans ((s1.trans s2).trans s3).pn p4)⟩⟩
end
end Pv
namespace Pv
open PySem PySem.Spec L2 Wf
variable {B : Bas}
/-! ### a list of one's own is changed -/
section
variable {K : PySem.W.Frag} {G H : Hp} {σ : St} {δ : List Sl} {vs : List V} {rs : List R} {w : Addr → Option Nat}
theorem Rep.own (r : Rep K B G H σ δ vs rs w) {i : Nat} {b : Bool} {ds : List PyData} (h : δ[i]? = some (.ow b (.lst ds))) : ∃ a us, σ[i]? = some (some (.ref a)) ∧ w a = some (2 * i) ∧ H a = some (.lst us) ∧ DqAll K G us ds := by
  obtain ⟨v, hv, a, us, rfl, ma, ha, hd⟩ := r.sl i _ h
  exact ⟨a, us, hv, ma, ha, hd⟩
theorem Rep.wr (r : Rep K B G H σ δ vs rs w) {i : Nat} {b : Bool} {ds ds' : List PyData} {a : Addr} {us us' : List V} (h : δ[i]? = some (.ow b (.lst ds))) (hσ : σ[i]? = some (some (.ref a))) (hw : w a = some (2 * i)) (ha : H a = some (.lst us)) (hd : DqAll K G us' ds') :
    Stp B.T G H w δ G (upd H a (.lst us')) w (δ.set i (.ow b (.lst ds'))) ∧ Rep K B G (upd H a (.lst us')) σ (δ.set i (.ow b (.lst ds'))) vs rs w := by
  have hi : i < δ.length := (List.getElem?_eq_some_iff.mp h).1
  have ne : ∀ x n, w x = some n → n ≠ 2 * i → x ≠ a := fun x n hx hn z => by subst z; rw [hw] at hx; cases hx; exact hn rfl
  have g0 := (r.out a _ hw).1
  have st : Stp B.T G H w δ G (upd H a (.lst us')) w (δ.set i (.ow b (.lst ds'))) := by
    refine .of ⟨fun _ _ h => h, fun x o hx ho => ?_, fun x n hx => .inl (by rw [hx]; exact Option.some_ne_none _), fun _ _ h => .inl h, fun k o hk => ?_⟩ (tabs_put ha)
    · rw [upd_ne (fun z => by subst z; rw [hw] at hx; cases hx)]
      exact ho
    · by_cases e : i = k
      · subst e
        rw [h] at hk
        cases hk
        exact ⟨_, List.getElem?_set_self hi⟩
      · exact ⟨o, by rw [List.getElem?_set_ne e]; exact hk⟩
  refine ⟨st, fun x o hx => ?_, fun x n hx => ?_, by rw [List.length_set]; exact r.len, fun k s hk => ?_, r.tlen, fun j v q hv hq => ?_, st.bs r.bs⟩
  · have : x ≠ a := fun z => by subst z; rw [g0] at hx; cases hx
    rw [upd_ne this]
    exact r.sub x o hx
  · obtain ⟨h1, h2, h3⟩ := r.out x n hx
    by_cases e : x = a
    · subst e
      rw [upd_same]
      exact ⟨h1, Option.some_ne_none _, NoX.lst upd_same⟩
    · rw [upd_ne e]
      exact ⟨h1, h2, noT_upd e h3⟩
  · by_cases e : i = k
    · subst e
      rw [List.getElem?_set_self hi] at hk
      cases hk
      exact ⟨_, hσ, a, us', rfl, hw, upd_same, hd⟩
    · rw [List.getElem?_set_ne e] at hk
      refine (r.sl k s hk).mono (fun _ _ h => h) (fun x u mx hu => ?_) fun x u mx _ => mx
      rw [upd_ne (ne x _ mx (by omega))]
      exact hu
  · refine (r.tm j v q hv hq).mono (fun _ _ h => h) (fun x u mx hu => ?_) fun x u mx _ => mx
    rw [upd_ne (ne x _ mx (by omega))]
    exact hu
end
/-- a method of one's own list: its items, the arguments; what is told, the items then -/
def pMt (f : List PyData → List PyData → (PyData → List PyData → Prop) → Prop) (po : PX) (ps : PL) : PX := fun δ Q => po δ fun ro δ1 => ∃ i b0 ds0, ro = .at i ∧ δ1[i]? = some (.ow b0 (.lst ds0)) ∧ ps δ1 fun rs δ2 => ∃ as δ3 b ds, fzAll δ2 rs = some (as, δ3) ∧ δ3[i]? = some (.ow b (.lst ds)) ∧
  f ds as fun d ds' => Q (.im d) (δ3.set i (.ow b (.lst ds')))
def MtV (K : PySem.W.Frag) (f : List PyData → List PyData → (PyData → List PyData → Prop) → Prop) (r : V → List V → Hp → VK → Prop) : Prop :=
  ∀ (G H : Hp) (a : Addr) (us vs : List V) (ds as : List PyData) (Qp : PyData → List PyData → Prop) (Q : VK), H a = some (.lst us) → DqAll K G us ds → DqAll K G vs as → f ds as Qp → (∀ d ds' v us', Qp d ds' → Dq K G v d → DqAll K G us' ds' → Q v (upd H a (.lst us'))) → r (.ref a) vs H Q
section
variable {X : Cx} {o e : Expr} {es : List Expr} {po : PX} {ps : PL} {name : Str} {apos cpos pos : Pos} {id : String} {r : V → List V → Hp → VK → Prop} {f : List PyData → List PyData → (PyData → List PyData → Prop) → Prop}
theorem mt_go {Q : VK} {σ : St} {G H G1 H1 : Hp} {w w1 : Addr → Option Nat} {δ δ1 : List Sl} {Qp : QE} {x : V} {i : Nat} (hm : MtV X.K f r)
    (k : ∀ r δ' v H' G' w', Qp r δ' → Stp B.T G H w δ G' H' w' δ' → Rep X.K B G' H' σ δ' [v] [r] w' → Q v H') (s1 : Stp B.T G H w δ G1 H1 w1 δ1) {vs : List V} {rs : List R} (rep1 : Rep X.K B G1 H1 σ δ1 vs rs w1) (hx : σ[i]? = some (some x))
    {as : List PyData} {δ3 : List Sl} {b : Bool} {ds : List PyData} (e1 : fzAll δ1 rs = some (as, δ3)) (e2 : δ3[i]? = some (.ow b (.lst ds))) (q : f ds as fun d ds' => Qp (.im d) (δ3.set i (.ow b (.lst ds')))) : r x vs H1 Q := by
  obtain ⟨G2, w2, s2, r2⟩ := rep1.fzs e1
  obtain ⟨a, us, hσ, hw, ha, hd⟩ := r2.own e2
  rw [hx] at hσ
  cases hσ
  refine hm G2 H1 a us vs ds as _ Q ha hd r2.ims q fun d ds' v us' hq hv hu => ?_
  obtain ⟨s3, r3⟩ := r2.wr e2 hx hw ha hu
  exact k _ _ v _ G2 _ hq (((s1.trans s2).trans s3).trans .drop) (r3.ret hv)
theorem je_mt (pa : PlainAttrs "list") (slot : Slot "list" name id) (hty : typeOf (.builtin id) = pure (.type "method_descriptor")) (hm : MtR X id r) (hv : MtV X.K f r) (ho : JE X B o po) (ha : JA X B (e :: es) ps)
    (hbase : attributeBase o name X.env (eval o X.env) = eval o X.env := by rfl)
    (hfew : ((backTo cpos (starEach (e :: es) X.env)).all (fun x => !x.1) && (backToKw cpos (keywordEach [] X.env)).all (fun x => x.1.isSome)
      && decide ((e :: es).length + ([] : List Keyword).length + (if ([] : List Keyword).isEmpty then 0 else 1) < 30)) = true := by rfl)
    (hline : (apos.endLine == cpos.line) = true := by rfl) (hs : starEach (e :: es) X.env = (false, eval e X.env) :: starEach es X.env := by rfl) (hplain : (backTo cpos (starEach es X.env)).any (·.1) = false := by rfl) :
    JE X B (.Call (.Attribute o name apos) (e :: es) [] cpos) (pMt f po ps) := by
  refine PE_wk (pe_bm pa slot hty hm ho ha hbase hfew hline hs hplain) fun σ H Q ⟨G, w, δ, Qp, rep, q, k⟩ => ?_
  refine ⟨G, w, δ, _, rep, q, fun ro δ1 x H1 G1 w1 q1 s1 rep1 => ?_⟩
  obtain ⟨i, b0, ds0, rfl, e0, q1⟩ := q1
  have hx : σ[i]? = some (some x) := rep1.tm 0 x (.at i) rfl rfl
  obtain ⟨a0, us0, hσ0, _, ha0, _⟩ := rep1.own e0
  rw [hx] at hσ0
  cases hσ0
  refine ⟨.inl ⟨rfl, us0, SqL.of ha0⟩, G1, _, δ1, _, rep1.drop, q1, fun rs δ2 vs H2 G2 w2 q2 _ s2 rep2 => ?_⟩
  obtain ⟨as, δ3, b, ds, e1, e2, q2⟩ := q2
  exact mt_go hv k ((s1.trans .drop).trans s2) rep2 hx e1 e2 q2
def mAppend : List PyData → List PyData → (PyData → List PyData → Prop) → Prop
  | ds, [d], k => ds.length < sizeLine ∧ k .none (ds ++ [d])
  | _, _, _ => False
theorem mv_append {K : PySem.W.Frag} : MtV K mAppend rAppend := by
  intro G H a us vs ds as Qp Q ha hu hv q k
  match as, hv, q with
  | [d], .cons h1 .nil, q => exact ⟨a, us, _, rfl, rfl, ha, by rw [dqAll_len hu]; exact q.1, k _ _ _ _ q.2 .non (dqAll_append hu (.cons h1 .nil))⟩
  | [], _, q => exact q.elim
  | _ :: _ :: _, _, q => exact q.elim
/-! ### x[i] = .. -/
def gSx (po pi : PX) : PGx := fun d δ Q => po δ fun ro δ1 => pi δ1 fun ri δ2 => ∃ i n b ds j, ro = .at i ∧ dat δ2 ri = some (.int n) ∧ δ2[i]? = some (.ow b (.lst ds)) ∧ ixN ds.length n = some j ∧ Q (δ2.set i (.ow b (.lst (ds.set j d))))
theorem dqAll_set {K : PySem.W.Frag} {G : Hp} {v : V} {d : PyData} (h : Dq K G v d) : ∀ (n : Nat) {us : List V} {ds : List PyData}, DqAll K G us ds → DqAll K G (us.set n v) (ds.set n d)
  | _, _, _, .nil => .nil
  | 0, _, _, .cons _ h2 => .cons h h2
  | n + 1, _, _, .cons h1 h2 => .cons h1 (dqAll_set h n h2)
theorem jg_sub {i : Expr} {pi : PX} (ho : JE X B o po) (hi : JE X B i pi)
    (ha : ∀ v, assign (.Subscript o i pos) X.env v = (do
      let ov ← holding [v] (eval o X.env)
      let iv ← holding [v, ov] (eval i X.env)
      standAt pos
      holding [v, ov, iv] (setItem ov iv v)
      release [v, ov, iv] []) := by intro _; rfl) : JG X B (.Subscript o i pos) [] (gSx po pi) := by
  refine PG_wk (pg_sub ho hi set_list ha) fun v σ H Q ⟨G, w, δ, d, Qp, rep, hd, h, k⟩ => ?_
  refine ⟨G, w, δ, _, rep, h, fun ro δ1 x H1 G1 w1 q1 s1 rep1 => ?_⟩
  refine ⟨G1, _, δ1, _, rep1.drop, q1, fun ri δ2 y H2 G2 w2 q2 s2 rep2 => ?_⟩
  obtain ⟨i, n, b, ds, j, rfl, hn, e2, hj, q2⟩ := q2
  have hx : σ[i]? = some (some x) := rep1.tm 0 x (.at i) rfl rfl
  obtain ⟨a, us, hσ, hw, ha, hds⟩ := rep2.own e2
  rw [hx] at hσ
  cases hσ
  have hv := dp_mono (s1.g) _ _ hd
  have hv2 := dp_mono s2.g _ _ hv
  refine ⟨a, us, n, j, rfl, dp_int (rep2.dpH (j := 0) rfl rfl hn), ha, by rw [dqAll_len hds]; exact hj, ?_⟩
  obtain ⟨s4, r4⟩ := rep2.wr e2 hx hw ha (dqAll_set hv2 j hds)
  exact k _ σ _ G2 _ q2 ((((s1.trans .drop).trans s2).trans s4).trans .drop) r4.drop .refl .refl
end
/-! ### what is walked -/
structure ItD (K : PySem.W.Frag) (G : Hp) (J : It) (ds : List PyData) : Prop where
  go : ∀ G' H' (i : Nat), Same G G' → Same G' H' → i < ds.length → J.go i H'
  yld : ∀ G' H' (i : Nat) x H2, Same G G' → Same G' H' → i < ds.length → J.yld i H' x H2 → ∃ d, ds[i]? = some d ∧ Res K G' H' x H2 d
  stop : ∀ G' H', Same G G' → Same G' H' → J.stop ds.length H'
abbrev PIx := List Sl → (List PyData → List Sl → Prop) → Prop
def LI (K : PySem.W.Frag) (B : Bas) (p : PIx) : TI := fun σ H R => ∃ G w δ Qp, Rep K B G H σ δ [] [] w ∧ p δ Qp ∧ ∀ ds δ' J H' G' w', Qp ds δ' → Stp B.T G H w δ G' H' w' δ' → Rep K B G' H' σ δ' [] [] w' → ItD K G' J ds → R J H'
def JI (X : Cx) (B : Bas) (tg iter : Expr) (p : PIx) : Prop := PI X tg iter (LI X.K B p)
theorem PI_wk {X : Cx} {tg iter : Expr} {t t' : TI} (h : PI X tg iter t) (k : ∀ σ H R, t' σ H R → t σ H R) : PI X tg iter t' := ⟨fun pins s σ H R I q => h.run pins s σ H R I (k σ H R q)⟩
theorem itd_list {K : PySem.W.Frag} {G : Hp} {a : Addr} {us : List V} {ds : List PyData} (ha : G a = some (.lst us)) (hd : DqAll K G us ds) : ItD K G (Itl K a) ds where
  go := fun G' H' i sg sh hi => by
    have hl := dqAll_len hd
    exact ⟨us, us[i]'(by omega), SqL.of (sh _ _ (sg _ _ ha)), by simp⟩
  yld := fun G' H' i x H2 sg sh hi y => by
    obtain ⟨rfl, y⟩ := y
    obtain ⟨v, hv, hq⟩ := dqAll_get hd (List.getElem?_eq_getElem hi)
    have e := y us (SqL.of (sh _ _ (sg _ _ ha)))
    rw [hv] at e
    cases e
    exact ⟨_, List.getElem?_eq_getElem hi, .old (dp_mono sg _ _ hq)⟩
  stop := fun G' H' sg sh => ⟨us, SqL.of (sh _ _ (sg _ _ ha)), by rw [dqAll_len hd]; exact Nat.le_refl _⟩
theorem itd_tup {K : PySem.W.Frag} {G : Hp} {a : Addr} {us : List V} {ds : List PyData} (ha : SqT K G a us) (hd : DqAll K G us ds) : ItD K G (Itt K a) ds where
  go := fun G' H' i sg sh hi => by
    have hl := dqAll_len hd
    exact ⟨us, us[i]'(by omega), Same.tp sh _ _ (Same.tp sg _ _ ha), by simp⟩
  yld := fun G' H' i x H2 sg sh hi y => by
    obtain ⟨rfl, y⟩ := y
    obtain ⟨v, hv, hq⟩ := dqAll_get hd (List.getElem?_eq_getElem hi)
    have e := y us (Same.tp sh _ _ (Same.tp sg _ _ ha))
    rw [hv] at e
    cases e
    exact ⟨_, List.getElem?_eq_getElem hi, .old (dp_mono sg _ _ hq)⟩
  stop := fun G' H' sg sh => ⟨us, Same.tp sh _ _ (Same.tp sg _ _ ha), by rw [dqAll_len hd]; exact Nat.le_refl _⟩
theorem itd_rng {K : PySem.W.Frag} {G : Hp} {a b : Int} : ItD K G (Itr a (b - a).toNat) (rgD a b) where
  go := fun G' H' i _ _ hi => by
    unfold rgD at hi
    rw [List.length_map, List.length_range] at hi
    exact hi
  yld := fun G' H' i x H2 _ _ hi y => by
    obtain ⟨rfl, rfl⟩ := y
    unfold rgD at hi ⊢
    rw [List.length_map, List.length_range] at hi
    exact ⟨.int (a + (i : Nat)), by rw [List.getElem?_map, List.getElem?_range hi]; rfl, .int⟩
  stop := fun G' H' _ _ => by
    unfold rgD
    rw [List.length_map, List.length_range]
    exact Nat.le_refl _
section
variable {X : Cx} {tg l a b : Expr} {pl pa pb : PX} {p pos : Pos}
/-- a list or a tuple -/
def iSeqU (K : PySem.W.Frag) (tl : TE) : TI := fun σ H R => tl σ H fun x H1 => ∃ a, x = .ref a ∧ (((∃ xs, SqL K H1 a xs) ∧ R (Itl K a) H1) ∨ ((∃ xs, SqT K H1 a xs) ∧ R (Itt K a) H1))
theorem pi_seqU {tl : TE} (hl : PE X l tl) : PI X tg l (iSeqU X.K tl) := by
  refine ⟨fun pins s σ H R I h => ?_⟩
  refine thn (hl.run pins s σ H _ I h) fun v s1 ⟨x, H1, I1, r1, q1⟩ => ?_
  obtain ⟨a, e, ⟨⟨xs, hq⟩, q⟩ | ⟨⟨xs, hq⟩, q⟩⟩ := q1
  · subst e
    cases r1
    obtain ⟨its, rv, p, hz⟩ := I1.list hq
    refine wpAny_pyIter_list p.isList ?_
    refine ⟨s1.heap.objs.size, [s1.heap.objs.size], _, _, H1, rfl, I1.kept (t' := s1.toks) fun b o e => Heap.get?_push_of_some _ e, turn_list a _, ⟨_, Heap.get?_push_size _ rfl, rfl, rfl⟩, fun b hb => ?_, q⟩
    have e : b = s1.heap.objs.size := by simpa using hb
    subst e
    exact I1.fpOk (Nat.le_refl _) (I1.hok.fresh (Nat.le_refl _))
  · subst e
    cases r1
    obtain ⟨its, rv, p, hz⟩ := I1.tuple hq
    refine wpAny_pyIter_tuple (show s1.heap.IsTuple a its.toArray from p) ?_
    refine ⟨s1.heap.objs.size, [s1.heap.objs.size], _, _, H1, rfl, I1.kept (t' := s1.toks) fun b o e => Heap.get?_push_of_some _ e, turn_tuple a _, ⟨_, Heap.get?_push_size _ rfl, rfl, rfl⟩, fun b hb => ?_, q⟩
    have e : b = s1.heap.objs.size := by simpa using hb
    subst e
    exact I1.fpOk (Nat.le_refl _) (I1.hok.fresh (Nat.le_refl _))
def seqD : PyData → Option (List PyData)
  | .list ds => some ds
  | .tuple ds => some ds
  | _ => none
def iSeq (p : PX) : PIx := fun δ Q => p δ fun r δ1 => ∃ d δ2 ds, fz δ1 r = some (d, δ2) ∧ seqD d = some ds ∧ Q ds δ2
theorem ji_seq (hl : JE X B l pl) : JI X B tg l (iSeq pl) := PI_wk (pi_seqU hl) fun σ H R ⟨G, w, δ, Qp, rep, q, k⟩ =>
  ⟨G, w, δ, _, rep, q, fun r δ1 v H1 G1 w1 q1 s1 rep1 => by
    obtain ⟨d, δ2, ds, hz, hs, q1⟩ := q1
    obtain ⟨G2, w2, s2, r2⟩ := rep1.fz1 (j := 0) rfl rfl hz
    have hd : Dq X.K G2 v d := r2.tm 0 v (.im d) rfl rfl
    cases d with
    | list es =>
      cases hs
      cases hd with
      | lst ha hds => exact ⟨_, rfl, .inl ⟨⟨_, SqL.of (r2.sub _ _ ha)⟩, k ds δ2 _ H1 G2 _ q1 ((s1.trans s2).trans .drop) r2.drop (itd_list ha hds)⟩⟩
    | tuple es =>
      cases hs
      cases hd with
      | tup ha hds => exact ⟨_, rfl, .inr ⟨⟨_, Same.tp r2.sub _ _ ha⟩, k ds δ2 _ H1 G2 _ q1 ((s1.trans s2).trans .drop) r2.drop (itd_tup ha hds)⟩⟩
    | none => cases hs
    | bool _ => cases hs
    | int _ => cases hs
    | str _ => cases hs
    | dict _ => cases hs⟩
def iRg (ps : PL) : PIx := fun δ Q => ps δ fun rs δ1 => match dats δ1 rs with
  | some [.int n] => -(2 ^ 62) ≤ n ∧ n < 2 ^ 62 ∧ Q (rgD 0 n) δ1
  | some [.int i, .int j] => (-(2 ^ 62) ≤ i ∧ i < 2 ^ 62 ∧ -(2 ^ 62) ≤ j ∧ j < 2 ^ 62) ∧ Q (rgD i j) δ1
  | _ => False
theorem vws1 {K : PySem.W.Frag} {G H : Hp} {vs : List V} {i : Int} (h : Vws K G H vs [.int i]) : vs = [.int i] := by
  cases h with
  | cons h1 h => cases h; rw [h1.int]
theorem vws2 {K : PySem.W.Frag} {G H : Hp} {vs : List V} {i j : Int} (h : Vws K G H vs [.int i, .int j]) : vs = [.int i, .int j] := by
  cases h with
  | cons h1 h =>
    cases h with
    | cons h2 h => cases h; rw [h1.int, h2.int]
theorem vws_len {K : PySem.W.Frag} {G H : Hp} : ∀ {vs : List V} {ds : List PyData}, Vws K G H vs ds → vs.length = ds.length
  | _, _, .nil => rfl
  | _, _, .cons _ h => congrArg (· + 1) (vws_len h)
theorem ji_rng1 {ps : PL} (hg : Gl X "range") (hm : X.mg "range" = none) (ha : JA X B [a] ps) (hs : starEach [a] X.env = [(false, eval a X.env)] := by rfl) : JI X B tg (.Call (.Name "range" p) [a] [] pos) (iRg ps) := by
  refine PI_wk (pi_range1 hg hm ha hs) fun σ H R ⟨G, w, δ, Qp, rep, q, k⟩ => ?_
  refine ⟨G, w, δ, _, rep, q, fun rs δ1 vs H1 G1 w1 q1 l1 s1 rep1 => ?_⟩
  revert q1
  split
  · rename_i n e
    rintro ⟨b1, b2, q1⟩
    refine ⟨n, vws1 (rep1.vws e), b1, b2, k _ δ1 _ H1 G1 _ q1 (s1.trans .drop) rep1.drop ?_⟩
    have := itd_rng (K := X.K) (G := G1) (a := 0) (b := n)
    rwa [Int.sub_zero] at this
  · rename_i i j e
    intro q1
    have := vws_len (rep1.vws e)
    rw [rep1.tlen, l1] at this
    simp at this
  · intro q1; exact q1.elim
theorem ji_rng2 {ps : PL} (hg : Gl X "range") (hm : X.mg "range" = none) (ha : JA X B [a, b] ps) (hs : starEach [a, b] X.env = [(false, eval a X.env), (false, eval b X.env)] := by rfl) (hs2 : starEach [b] X.env = [(false, eval b X.env)] := by rfl) : JI X B tg (.Call (.Name "range" p) [a, b] [] pos) (iRg ps) := by
  refine PI_wk (pi_range2 hg hm ha hs hs2) fun σ H R ⟨G, w, δ, Qp, rep, q, k⟩ => ?_
  refine ⟨G, w, δ, _, rep, q, fun rs δ1 vs H1 G1 w1 q1 l1 s1 rep1 => ?_⟩
  revert q1
  split
  · rename_i n e
    intro q1
    have := vws_len (rep1.vws e)
    rw [rep1.tlen, l1] at this
    simp at this
  · rename_i i j e
    rintro ⟨b1, q1⟩
    exact ⟨i, j, vws2 (rep1.vws e), b1, k _ δ1 _ H1 G1 _ q1 (s1.trans .drop) rep1.drop itd_rng⟩
  · intro q1; exact q1.elim
/-! ### for, while -/
/-- the slots ts are forgotten -/
def wp1 : Bool → Sl → Sl
  | true, .ow true o => .ow true o
  | true, _ => .un
  | false, s => s
def wpG (ts : List Nat) : Nat → List Sl → List Sl
  | _, [] => []
  | n, s :: δ => wp1 (ts.elem n) s :: wpG ts (n + 1) δ
def wipeT (δ : List Sl) (ts : List Nat) : List Sl := wpG ts 0 δ
theorem wpG_get (ts : List Nat) : ∀ (δ : List Sl) (n i : Nat), (wpG ts n δ)[i]? = (δ[i]?).map fun s => wp1 (ts.elem (n + i)) s
  | [], n, i => by simp [wpG]
  | s :: δ, n, 0 => by simp [wpG]
  | s :: δ, n, i + 1 => by
    simp only [wpG, List.getElem?_cons_succ, wpG_get ts δ (n + 1) i]
    have : n + 1 + i = n + (i + 1) := by omega
    rw [this]
theorem wpG_len (ts : List Nat) : ∀ (δ : List Sl) (n : Nat), (wpG ts n δ).length = δ.length
  | [], _ => rfl
  | s :: δ, n => by simp only [wpG, List.length_cons, wpG_len ts δ (n + 1)]
theorem wipeT_len (δ : List Sl) (ts : List Nat) : (wipeT δ ts).length = δ.length := wpG_len ts δ 0
theorem wipeT_get {δ : List Sl} {i : Nat} {s : Sl} {ts : List Nat} (h : (wipeT δ ts)[i]? = some s) : s = .un ∨ δ[i]? = some s := by
  unfold wipeT at h
  rw [wpG_get] at h
  obtain ⟨s', h1, rfl⟩ := Option.map_eq_some_iff.mp h
  cases hb : ts.elem (0 + i) with
  | false => exact .inr h1
  | true =>
    cases s' with
    | un => exact .inl rfl
    | im d => exact .inl rfl
    | ex a dd C fs => exact .inl rfl
    | ow b o =>
      cases b with
      | true => exact .inr h1
      | false => exact .inl rfl
theorem wipeT_pin {δ : List Sl} {i : Nat} {o : O} (h : δ[i]? = some (Sl.ow true o)) (ts : List Nat) : (wipeT δ ts)[i]? = some (Sl.ow true o) := by
  unfold wipeT
  rw [wpG_get, h]
  cases hb : ts.elem (0 + i) with
  | false => rfl
  | true => rfl
theorem Rep.wipe {K : PySem.W.Frag} {G H : Hp} {σ : St} {δ : List Sl} {w : Addr → Option Nat} (r : Rep K B G H σ δ [] [] w) (ts : List Nat) : Rep K B G H σ (wipeT δ ts) [] [] w := ⟨r.sub, r.out, by rw [wipeT_len]; exact r.len, fun i s h => by
  rcases wipeT_get h with rfl | h
  · trivial
  · exact r.sl i s h, rfl, fun j v q hv => by simp at hv, r.bs⟩
theorem Stp.wipe {G H G' H' : Hp} {w w' : Addr → Option Nat} {δ δ' : List Sl} (s : Stp B.T G H w δ G' H' w' δ') (ts : List Nat) : Stp B.T G H w δ G' H' w' (wipeT δ' ts) := ⟨s.g, s.b, s.n, s.p, fun i o h => by
  obtain ⟨o', h'⟩ := s.pn i o h
  exact ⟨o', wipeT_pin h' ts⟩, s.t, s.q⟩
/-- turn by turn, by a word I; ts: the slots that no later turn reads -/
def loopI (step : PyData → PSx) (ts : List Nat) (E : PEn) (ds : List PyData) (δ : List Sl) : Prop := ∃ I : Nat → List Sl → Prop, I 0 δ ∧
  (∀ (i : Nat) d δ, ds[i]? = some d → I i δ → step d ⟨fun δ' => I (i + 1) (wipeT δ' ts), E.rt, fun δ' => E.nx (wipeT δ' ts), fun δ' => I (i + 1) (wipeT δ' ts)⟩ δ) ∧ ∀ δ, I ds.length δ → E.nx δ
def pFor (ts : List Nat) (it : PIx) (g : PGx) (body : PSx) : PSx := fun E δ => it δ fun ds δ1 => loopI (fun d E δ => g d δ fun δ' => body E δ') ts E ds (wipeT δ1 ts)
theorem Rep.res {K : PySem.W.Frag} {G H H2 : Hp} {σ : St} {δ : List Sl} {vs : List V} {rs : List R} {w : Addr → Option Nat} {x : V} {d : PyData} (r : Rep K B G H σ δ vs rs w) (h : Res K G H x H2 d) : ∃ G2, Stp B.T G H w δ G2 H2 w δ ∧ Rep K B G2 H2 σ δ vs rs w ∧ Dq K G2 x d := by
  rcases h with ⟨rfl, h⟩ | ⟨p, us, l, rfl, hp, rfl, hd, rfl⟩
  · exact ⟨G, .refl, r, h⟩
  · obtain ⟨s1, r1⟩ := r.lay (o := .tup us) hp
    exact ⟨_, s1, r1, dq_newTup r.sub hp hd⟩
theorem js_for {iter : Expr} {body : List Stmt} {pi : PIx} {ts ts' : List Nat} {g : PGx} {pb : PSx} (hp : PassesOwn (model X.prog X.w) X.A X.env X.xe) (hc : X.calm = true) (hi : JI X B tg iter pi) (hg : JG X B tg ts' g) (hb : JSs X B body pb)
    (hs : ∀ x, foldedSetIterable iter X.env x = pure x := by intro _; rfl) : JS X B (.For tg iter body [] pos) (pFor ts pi g pb) := by
  refine PS_wk (ps_for hp hc hi hg hb (by assumption)) fun D σ H ⟨G, w, δ, E, rep, h, ek⟩ => ?_
  refine ⟨G, w, δ, _, rep, h, fun ds δ1 J H1 G1 w1 q1 s1 rep1 itd => ?_⟩
  obtain ⟨I, i0, is, ie⟩ := q1
  refine ⟨fun i m σ' H' => m = ds.length - i ∧ i ≤ ds.length ∧ ∃ G' w' δ', Stp B.T G H w δ G' H' w' δ' ∧ Same G1 G' ∧ Rep X.K B G' H' σ' δ' [] [] w' ∧ Pin σ δ σ' ∧ I i δ', ⟨ds.length, rfl, Nat.zero_le _, G1, w1, _, s1.wipe ts, fun _ _ h => h, rep1.wipe ts, .refl, i0⟩, ?_⟩
  rintro i m σ' H' ⟨rfl, hi, G', w', δ', st, sg, rp, pn, q⟩
  by_cases hlt : i < ds.length
  · have q := is i _ δ' (List.getElem?_eq_getElem hlt) q
    refine .inr ⟨itd.go G' H' i sg rp.sub hlt, fun σ2 H2 => i + 1 ≤ ds.length ∧ ∃ G' w' δ', Stp B.T G H w δ G' H2 w' δ' ∧ Same G1 G' ∧ Rep X.K B G' H2 σ2 δ' [] [] w' ∧ Pin σ δ σ2 ∧ I (i + 1) δ', fun σ2 H2 z => ⟨ds.length - (i + 1), by omega, rfl, z⟩, fun x H2 y => ?_⟩
    obtain ⟨d, hd, res⟩ := itd.yld G' H' i x H2 sg rp.sub hlt y
    rw [List.getElem?_eq_getElem hlt] at hd
    cases hd
    obtain ⟨G2, s2, r2, hq⟩ := rp.res res
    refine ⟨G2, w', δ', _, _, r2, hq, q, fun δ3 σ3 H3 G3 w3 q3 s3 r3 p3 _ => ⟨G3, w3, δ3, _, r3, q3, ?_⟩⟩
    have st3 := (st.trans s2).trans s3
    have pn3 : Pin σ δ σ3 := pn.trans (st.trans s2).pn p3
    have nx : ∀ δ4 σ4 H4 G4 w4, I (i + 1) (wipeT δ4 ts) → Stp B.T G3 H3 w3 δ3 G4 H4 w4 δ4 → Rep X.K B G4 H4 σ4 δ4 [] [] w4 → Pin σ3 δ3 σ4 → i + 1 ≤ ds.length ∧ ∃ G' w' δ', Stp B.T G H w δ G' H4 w' δ' ∧ Same G1 G' ∧ Rep X.K B G' H4 σ4 δ' [] [] w' ∧ Pin σ δ σ4 ∧ I (i + 1) δ' :=
      fun δ4 σ4 H4 G4 w4 hl s4 r4 p4 => ⟨hlt, G4, w4, _, (st3.trans s4).wipe ts, fun a o ha => s4.g a o (s3.g a o (s2.g a o (sg a o ha))), r4.wipe ts, pn3.trans st3.pn p4, hl⟩
    exact ⟨nx, (ek.later st3 pn3).rt, fun δ4 σ4 H4 G4 w4 hl s4 r4 p4 => ek.nx _ σ4 H4 G4 w4 hl ((st3.trans s4).wipe ts) (r4.wipe ts) (pn3.trans st3.pn p4), nx⟩
  · have ei : i = ds.length := by omega
    subst ei
    exact .inl ⟨itd.stop G' H' sg rp.sub, ek.nx δ' σ' H' G' w' (ie δ' q) st rp pn⟩
end
end Pv
namespace Pv
open PySem PySem.Spec L2 Wf
variable {B : Bas}
theorem RR.noAt {K : PySem.W.Frag} {G H : Hp} {σ σ' : St} {m : Addr → Prop} {v : V} {r : R} (h : RR K G H σ m v r) (n : isAt r = false) : RR K G H σ' m v r := by
  cases r with
  | im d => exact h
  | ow o => exact h
  | «at» i => cases n
theorem Rep.reσ {K : PySem.W.Frag} {G H : Hp} {σ σ' : St} {δ δ' : List Sl} {vs : List V} {rs : List R} {w : Addr → Option Nat} (r : Rep K B G H σ δ vs rs w) (hl : σ'.length = δ'.length) (hs : ∀ (i : Nat) s, δ'[i]? = some s → s = .un ∨ (δ[i]? = some s ∧ σ'[i]? = σ[i]?)) (hn : ∀ q ∈ rs, isAt q = false) : Rep K B G H σ' δ' vs rs w where
  sub := r.sub
  out := r.out
  len := hl
  sl := fun i s h => by
    rcases hs i s h with rfl | ⟨h1, h2⟩
    · trivial
    · rw [h2]; exact r.sl i s h1
  tlen := r.tlen
  tm := fun j v q hv hq => (r.tm j v q hv hq).noAt (hn q (List.mem_of_getElem? hq))
  bs := r.bs
/-- the frame where slots were stored to -/
theorem Rep.frameS {K : PySem.W.Frag} {G H G' H' : Hp} {σ σ' : St} {δ δ' : List Sl} {vs vs1 : List V} {rs rs1 : List R} {w w' : Addr → Option Nat} (r : Rep K B G H σ δ vs rs w) (hn : ∀ q ∈ rs, isAt q = false) (s : Stp B.T G H (fun a => evn (w a)) δ G' H' w' δ') (r' : Rep K B G' H' σ' δ' vs1 rs1 w') :
    ∃ w2, Stp B.T G H w δ G' H' w2 δ' ∧ Rep K B G' H' σ' δ' (vs ++ vs1) (rs ++ rs1) w2 := by
  -- the same addresses
  have odd : ∀ a n, w a = some n → n % 2 = 1 → w' a = none := fun a n h ho => by
    have e0 : evn (w a) = none := by
      cases e : evn (w a) with
      | none => rfl
      | some m =>
        have := evn_some.mp e
        rw [h] at this
        have z := this.1
        cases z
        omega
    obtain ⟨g0, h0, n0⟩ := r.out a n h
    cases e : w' a with
    | none => rfl
    | some i =>
      rcases s.n a i e with z | z
      · exact absurd e0 z
      · exact absurd z h0
  have evw : ∀ a i, w' a = some i → ∀ n, w a = some n → n % 2 = 0 := fun a i h n hn => by
    by_cases ho : n % 2 = 1
    · rw [odd a n hn ho] at h; cases h
    · omega
  have st : Stp B.T G H w δ G' H' (both rs.length w w') δ' := by
    refine ⟨s.g, fun a o hw ha => s.b a o (by show evn (w a) = none; rw [hw]; rfl) ha, fun a i h => ?_, fun a o h => ?_, s.pn, s.t, s.q⟩
    · cases e : w a with
      | some n => exact .inl (Option.some_ne_none _)
      | none =>
        have e1 : both rs.length w w' a = shf rs.length (w' a) := both_evn fun n hn => by rw [e] at hn; cases hn
        rw [e1] at h
        obtain ⟨m, hm, _⟩ := shf_some h
        rcases s.n a m hm with z | z
        · have z' := evn_ne z
          rw [e] at z'
          exact .inl z'
        · exact .inr z
    · rcases s.p a o h with z | z | z | z
      · exact .inl z
      · exact .inr (.inl z)
      · exact .inr (.inr (.inl (evn_ne z)))
      · exact .inr (.inr (.inr z))
  refine ⟨both rs.length w w', st, r'.sub, fun a i h => ?_, r'.len, fun i sl h => ?_, by rw [List.length_append, List.length_append, r.tlen, r'.tlen], fun j v q hv hr => ?_, st.bs r.bs⟩
  · by_cases ho : ∃ n, w a = some n ∧ n % 2 = 1
    · obtain ⟨n, hn', ho⟩ := ho
      have e0 : evn (w a) = none := by
        rw [hn']
        unfold evn
        dsimp only
        rw [if_neg (by omega)]
      obtain ⟨g0, h0, n0⟩ := r.out a n hn'
      refine ⟨?_, s.nn a e0 h0 n0⟩
      cases e3 : G' a with
      | none => rfl
      | some o =>
        rcases s.p a o e3 with z | z | z | ⟨xs, z⟩
        · rw [g0] at z; cases z
        · exact absurd z h0
        · exact absurd e0 z
        · exact absurd z (n0 xs)
    · have e1 : both rs.length w w' a = shf rs.length (w' a) := both_evn fun n hn => by
        by_cases z : n % 2 = 1
        · exact absurd ⟨n, hn, z⟩ ho
        · omega
      rw [e1] at h
      obtain ⟨m, hm, _⟩ := shf_some h
      exact r'.out a m hm
  · refine (r'.sl i sl h).mono (fun _ _ h => h) (fun _ _ _ h => h) fun a u ma _ => ?_
    rw [both_evn (evw a _ ma)]
    unfold shf
    rw [ma]
    dsimp only
    rw [if_pos (by omega)]
  · by_cases hj : j < vs.length
    · rw [List.getElem?_append_left hj] at hv
      rw [List.getElem?_append_left (by rw [← r.tlen]; exact hj)] at hr
      refine ((r.tm j v q hv hr).noAt (σ' := σ') (hn q (List.mem_of_getElem? hr))).monoN s.g (fun a u hnt ma hu => ?_) fun a u ma _ => both_odd ma (by omega)
      refine s.bN a u hnt ?_ hu
      show evn (w a) = none
      rw [ma]
      unfold evn
      dsimp only
      rw [if_neg (by omega)]
    · have hj : vs.length ≤ j := by omega
      rw [List.getElem?_append_right hj] at hv
      rw [List.getElem?_append_right (by rw [← r.tlen]; exact hj), ← r.tlen] at hr
      refine (r'.tm (j - vs.length) v q hv hr).mono (fun _ _ h => h) (fun _ _ _ h => h) fun a u ma _ => ?_
      rw [both_evn (evw a _ ma)]
      unfold shf
      rw [ma]
      dsimp only
      rw [if_neg (by omega), r.tlen.symm]
      congr 1
      omega
/-! ### comprehensions -/
def wipeS (δ : List Sl) : List Nat → List Sl
  | [] => δ
  | v :: vs => (wipeS δ vs).set v .un
def noPin (δ : List Sl) (vs : List Nat) : Prop := ∀ v ∈ vs, ∀ o, δ[v]? ≠ some (.ow true o)
def restS (δ0 δ : List Sl) : List Nat → List Sl
  | [] => δ
  | v :: vs => match δ0[v]? with
    | some (.im d) => (restS δ0 δ vs).set v (.im d)
    | _ => (restS δ0 δ vs).set v .un
theorem wipeS_len (δ : List Sl) : ∀ vs, (wipeS δ vs).length = δ.length
  | [] => rfl
  | v :: vs => by unfold wipeS; rw [List.length_set, wipeS_len δ vs]
theorem wipeS_get {δ : List Sl} {i : Nat} {s : Sl} : ∀ {vs : List Nat}, (wipeS δ vs)[i]? = some s → s = .un ∨ (δ[i]? = some s ∧ i ∉ vs)
  | [], h => .inr ⟨h, by simp⟩
  | v :: vs, h => by
    unfold wipeS at h
    by_cases hi : v = i
    · subst hi
      by_cases hv : v < (wipeS δ vs).length
      · rw [List.getElem?_set_self hv] at h; cases h; exact .inl rfl
      · rw [List.getElem?_eq_none (by simpa using hv)] at h; cases h
    · rw [List.getElem?_set_ne hi] at h
      rcases wipeS_get h with e | ⟨h1, h2⟩
      · exact .inl e
      · exact .inr ⟨h1, by simp only [List.mem_cons, not_or]; exact ⟨fun e => hi e.symm, h2⟩⟩
theorem wipeS_ne {δ : List Sl} {i : Nat} : ∀ {vs : List Nat}, i ∉ vs → (wipeS δ vs)[i]? = δ[i]?
  | [], _ => rfl
  | v :: vs, h => by
    simp only [List.mem_cons, not_or] at h
    unfold wipeS
    rw [List.getElem?_set_ne (Ne.symm h.1)]
    exact wipeS_ne h.2
theorem wipe_ne {σ : St} {i : Nat} : ∀ {vs : List Nat}, i ∉ vs → (wipe σ vs)[i]? = σ[i]?
  | [], _ => rfl
  | v :: vs, h => by
    simp only [List.mem_cons, not_or] at h
    unfold wipe
    rw [List.getElem?_set_ne (Ne.symm h.1)]
    exact wipe_ne h.2
theorem wipe_in {σ : St} {i : Nat} : ∀ {vs : List Nat}, i ∈ vs → i < σ.length → (wipe σ vs)[i]? = some none
  | [], h, _ => by cases h
  | v :: vs, h, hl => by
    unfold wipe
    by_cases e : v = i
    · subst e
      rw [List.getElem?_set_self (by rw [wipe_length]; exact hl)]
    · rw [List.getElem?_set_ne e]
      rcases List.mem_cons.mp h with z | z
      · exact absurd z.symm e
      · exact wipe_in z hl
theorem wipe_eq {σ σ' : St} {vs ts : List Nat} (t : Tch ts (wipe σ vs) σ') (h : ∀ i ∈ ts, i ∈ vs) : wipe σ' vs = wipe σ vs := by
  have hl : σ'.length = σ.length := by rw [t.1, wipe_length]
  apply List.ext_getElem?
  intro i
  by_cases hi : i ∈ vs
  · by_cases hb : i < σ.length
    · rw [wipe_in hi hb, wipe_in hi (by omega)]
    · rw [List.getElem?_eq_none (by rw [wipe_length]; omega), List.getElem?_eq_none (by rw [wipe_length]; omega)]
  · rw [wipe_ne hi, wipe_ne hi, t.2 i fun z => hi (h i z), wipe_ne hi]
theorem restS_ne {δ0 δ : List Sl} {i : Nat} : ∀ {vs : List Nat}, i ∉ vs → (restS δ0 δ vs)[i]? = δ[i]?
  | [], _ => rfl
  | v :: vs, h => by
    simp only [List.mem_cons, not_or] at h
    unfold restS
    split
    · rw [List.getElem?_set_ne (Ne.symm h.1)]; exact restS_ne h.2
    · rw [List.getElem?_set_ne (Ne.symm h.1)]; exact restS_ne h.2
theorem restS_len {δ0 δ : List Sl} : ∀ vs, (restS δ0 δ vs).length = δ.length
  | [] => rfl
  | v :: vs => by
    unfold restS
    split
    · rw [List.length_set, restS_len vs]
    · rw [List.length_set, restS_len vs]
theorem restS_in {δ0 δ : List Sl} {i : Nat} {s : Sl} : ∀ {vs : List Nat}, i ∈ vs → (restS δ0 δ vs)[i]? = some s → s = .un ∨ ∃ d, s = .im d ∧ δ0[i]? = some (.im d)
  | [], h, _ => by cases h
  | v :: vs, h, hs => by
    unfold restS at hs
    by_cases e : v = i
    · subst e
      revert hs
      split
      · rename_i d e0
        intro hs
        by_cases hb : v < (restS δ0 δ vs).length
        · rw [List.getElem?_set_self hb] at hs; cases hs; exact .inr ⟨d, rfl, e0⟩
        · rw [List.getElem?_eq_none (by simpa using hb)] at hs; cases hs
      · intro hs
        by_cases hb : v < (restS δ0 δ vs).length
        · rw [List.getElem?_set_self hb] at hs; cases hs; exact .inl rfl
        · rw [List.getElem?_eq_none (by simpa using hb)] at hs; cases hs
    · have hm : i ∈ vs := by
        rcases List.mem_cons.mp h with z | z
        · exact absurd z.symm e
        · exact z
      revert hs
      split
      · intro hs; rw [List.getElem?_set_ne e] at hs; exact restS_in hm hs
      · intro hs; rw [List.getElem?_set_ne e] at hs; exact restS_in hm hs
/-- turn by turn, by a word I over what is made so far -/
def compI (g : PGx) (tt : PB) (elt : PX) (vs : List Nat) (Kk : List PyData → List Sl → Prop) (ds : List PyData) (δ : List Sl) : Prop := ∃ I : Nat → List PyData → List Sl → Prop, I 0 [] δ ∧
  (∀ (i : Nat) d acc δ, ds[i]? = some d → I i acc δ → g d δ fun δ2 => tt δ2 fun b δ3 => if b = true then elt δ3 fun r δ4 => ∃ e δ5, fz δ4 r = some (e, δ5) ∧ acc.length < sizeLine ∧ I (i + 1) (acc ++ [e]) (wipeS δ5 vs) else I (i + 1) acc (wipeS δ3 vs)) ∧ ∀ acc δ, I ds.length acc δ → Kk acc δ
def pComp (it : PIx) (g : PGx) (tt : PB) (elt : PX) (vs : List Nat) : PX := fun δ Q => it δ fun ds δ1 => noPin δ1 vs ∧ compI g tt elt vs (fun acc δ2 => Q (.ow (.lst acc)) (restS δ1 δ2 vs)) ds (wipeS δ1 vs)
def pYes : PB := fun δ Q => Q true δ
theorem Stp.reδ {G H G' H' : Hp} {w w' : Addr → Option Nat} {δ δ' δ2 : List Sl} (s : Stp B.T G H w δ G' H' w' δ') (p : Pn δ δ2) : Stp B.T G H w δ G' H' w' δ2 := ⟨s.g, s.b, s.n, s.p, p, s.t, s.q⟩
section
variable {K : PySem.W.Frag} {G H : Hp} {σ : St} {δ : List Sl} {vs : List V} {rs : List R} {w : Addr → Option Nat}
theorem Rep.wrT {D : Addr} {ds ds' : List PyData} {us' : List V} (r : Rep K B G H σ δ (.ref D :: vs) (.ow (.lst ds) :: rs) w) (hd : DqAll K G us' ds') :
    ∃ us, H D = some (.lst us) ∧ DqAll K G us ds ∧ Stp B.T G H w δ G (upd H D (.lst us')) w δ ∧ Rep K B G (upd H D (.lst us')) σ δ (.ref D :: vs) (.ow (.lst ds') :: rs) w := by
  obtain ⟨a, us, e, ma, ha, hus⟩ := r.tm 0 _ _ rfl rfl
  cases e
  have hw : w D = some 1 := ma
  have ne : ∀ x n, w x = some n → n ≠ 1 → x ≠ D := fun x n hx hn z => by subst z; rw [hw] at hx; cases hx; exact hn rfl
  have g0 := (r.out D _ hw).1
  have st : Stp B.T G H w δ G (upd H D (.lst us')) w δ := by
    refine .of ⟨fun _ _ h => h, fun x o hx ho => ?_, fun x n hx => .inl (by rw [hx]; exact Option.some_ne_none _), fun _ _ h => .inl h, .refl _⟩ (tabs_put ha)
    rw [upd_ne (fun z => by subst z; rw [hw] at hx; cases hx)]
    exact ho
  refine ⟨us, ha, hus, st, fun x o hx => ?_, fun x n hx => ?_, r.len, fun k s hk => ?_, r.tlen, fun j v q hv hq => ?_, st.bs r.bs⟩
  · have : x ≠ D := fun z => by subst z; rw [g0] at hx; cases hx
    rw [upd_ne this]
    exact r.sub x o hx
  · obtain ⟨h1, h2, h3⟩ := r.out x n hx
    by_cases e : x = D
    · subst e
      rw [upd_same]
      exact ⟨h1, Option.some_ne_none _, NoX.lst upd_same⟩
    · rw [upd_ne e]
      exact ⟨h1, h2, noT_upd e h3⟩
  · refine (r.sl k s hk).mono (fun _ _ h => h) (fun x u mx hu => ?_) fun x u mx _ => mx
    rw [upd_ne (ne x _ mx (by omega))]
    exact hu
  · match j with
    | 0 =>
      simp only [List.getElem?_cons_zero, Option.some.injEq] at hv hq
      subst hv hq
      exact ⟨D, us', rfl, hw, upd_same, hd⟩
    | j + 1 =>
      refine (r.tm (j + 1) v q (by simpa using hv) (by simpa using hq)).mono (fun _ _ h => h) (fun x u mx hu => ?_) fun x u mx _ => mx
      rw [upd_ne (ne x _ mx (by omega))]
      exact hu
theorem Rep.first {v : V} {q : R} (r : Rep K B G H σ δ (v :: vs) (q :: rs) w) : Rep K B G H σ δ [v] [q] w := ⟨r.sub, r.out, r.len, r.sl, rfl, fun j u p hu hp => by
  match j with
  | 0 => exact r.tm 0 u p (by simpa using hu) (by simpa using hp)
  | j + 1 => simp at hu, r.bs⟩
end
def JTs (X : Cx) (B : Bas) (ifs : List Expr) (p : PB) : Prop := PTs X ifs (LB X.K B p)
theorem PTs_wk {X : Cx} {ifs : List Expr} {t t' : TT} (h : PTs X ifs t) (k : ∀ σ H Q, t' σ H Q → t σ H Q) : PTs X ifs t' := ⟨fun pins s σ H Q I q => h.run pins s σ H Q I (k σ H Q q)⟩
theorem jts_nil {X : Cx} : JTs X B [] pYes := PTs_wk pts_nil fun σ H Q ⟨G, w, δ, Qp, rep, q, k⟩ => k true δ H G w q .refl rep
theorem jts_one {X : Cx} {c : Expr} {p : PB} (h : JB X B c p) : JTs X B [c] p := pts_one h
theorem lc_lift {K : PySem.W.Frag} {pi : PIx} {ts vs : List Nat} {g : PGx} {tt : PB} {elt : PX} {σ : St} {H : Hp} {Q : VK} (hts : ∀ i ∈ ts, i ∈ vs) (h : LE K B (pComp pi g tt elt vs) σ H Q) : tLc (LI K B pi) (LG K B ts g) (LB K B tt) (LE K B elt) vs σ H Q := by
  obtain ⟨G, w, δ, Qp, rep, q, k⟩ := h
  refine ⟨G, w, δ, _, rep, q, fun ds δ1 J H1 G1 w1 q1 s1 rep1 itd D hD => ?_⟩
  obtain ⟨np, I, i0, is, ie⟩ := q1
  obtain ⟨w2, s2, r2⟩ := rep1.retLst (us := []) (ds := []) hD .nil
  have noA : ∀ acc : List PyData, ∀ p ∈ [R.ow (.lst acc)], isAt p = false := fun acc p hp => by rw [List.mem_singleton.mp hp]; rfl
  have ni : ∀ (i : Nat) o, δ[i]? = some (Sl.ow true o) → i ∉ vs := fun i o hi => by
    obtain ⟨o1, h1⟩ := s1.pn i o hi
    exact fun z => np i z o1 h1
  have pnw : ∀ {G' H' : Hp} {w' : Addr → Option Nat} {δ' : List Sl}, Stp B.T G H w δ G' H' w' δ' → Stp B.T G H w δ G' H' w' (wipeS δ' vs) := fun s => s.reδ fun i o hi => by
    obtain ⟨o1, h1⟩ := s.pn i o hi
    exact ⟨o1, by rw [wipeS_ne (ni i o hi)]; exact h1⟩
  refine ⟨fun i m H' => m = ds.length - i ∧ i ≤ ds.length ∧ ∃ G' w' δ' acc, Stp B.T G H w δ G' H' w' δ' ∧ Same G1 G' ∧ Rep K B G' H' (wipe σ vs) δ' [.ref D] [.ow (.lst acc)] w' ∧ I i acc δ', ⟨ds.length, rfl, Nat.zero_le _, G1, w2, wipeS δ1 vs, [], pnw (s1.trans s2), fun _ _ h => h, r2.reσ (by rw [wipe_length, wipeS_len]; exact r2.len) (fun i s hi => ?_) (noA _), i0⟩, ?_⟩
  · rcases wipeS_get hi with e | ⟨e1, e2⟩
    · exact .inl e
    · exact .inr ⟨e1, wipe_ne e2⟩
  rintro i m H' ⟨rfl, hi, G', w', δ', acc, st, sg, rp, q⟩
  by_cases hlt : i < ds.length
  · have q := is i _ acc δ' (List.getElem?_eq_getElem hlt) q
    refine .inr ⟨itd.go G' H' i sg rp.sub hlt, fun H2 => i + 1 ≤ ds.length ∧ ∃ G' w' δ' acc, Stp B.T G H w δ G' H2 w' δ' ∧ Same G1 G' ∧ Rep K B G' H2 (wipe σ vs) δ' [.ref D] [.ow (.lst acc)] w' ∧ I (i + 1) acc δ', fun H2 z => ⟨ds.length - (i + 1), by omega, rfl, z⟩, fun x H2 y => ?_⟩
    obtain ⟨d, hd, res⟩ := itd.yld G' H' i x H2 sg rp.sub hlt y
    rw [List.getElem?_eq_getElem hlt] at hd
    cases hd
    obtain ⟨G2, s2, r2, hq⟩ := rp.res res
    refine ⟨G2, _, δ', _, _, r2.drop, hq, q, fun δ3 σ3 H3 G3 w3 q3 s3 r3 p3 t3 => ⟨wipe_eq t3 hts, ?_⟩⟩
    obtain ⟨w4, s4, r4⟩ := r2.frameS (noA _) s3 r3
    have back : ∀ {G9 H9 : Hp} {w9 : Addr → Option Nat} {δ9 : List Sl} {acc9 : List PyData}, Rep K B G9 H9 σ3 δ9 [.ref D] [.ow (.lst acc9)] w9 → Rep K B G9 H9 (wipe σ vs) (wipeS δ9 vs) [.ref D] [.ow (.lst acc9)] w9 := fun {G9 H9 w9 δ9 acc9} r9 => by
      refine r9.reσ ?_ (fun k s hk => ?_) (noA _)
      · rw [wipe_length, wipeS_len, ← r9.len, t3.1, wipe_length]
      · rcases wipeS_get hk with e | ⟨e1, e2⟩
        · exact .inl e
        · exact .inr ⟨e1, (t3.2 k fun z => e2 (hts k z)).symm⟩
    refine ⟨G3, _, δ3, _, r4.drop, q3, fun b δ5 H5 G5 w5 q5 s5 r5 => ?_⟩
    obtain ⟨w6, s6, r6⟩ := r4.frame s5 r5
    have st6 := ((st.trans s2).trans s4).trans s6
    have sg6 : Same G1 G5 := fun a o ha => s6.g a o (s4.g a o (s2.g a o (sg a o ha)))
    cases b with
    | false => exact ⟨hlt, G5, w6, _, acc, pnw st6, sg6, back r6, q5⟩
    | true =>
      refine ⟨G5, _, δ5, _, r6.drop, q5, fun r δ7 y H7 G7 w7 q7 s7 r7 => ?_⟩
      obtain ⟨w8, s8, r8⟩ := r6.frame s7 r7
      obtain ⟨e, δ9, hz, hl, q7⟩ := q7
      obtain ⟨G9, w9, s9, r9⟩ := r8.fz1 (j := 1) rfl rfl hz
      have r9' : Rep K B G9 H7 σ3 δ9 [.ref D, y] [.ow (.lst acc), .im e] w9 := r9
      have hy : Dq K G9 y e := r9'.tm 1 y (.im e) rfl rfl
      obtain ⟨a, us, ea, ma, ha, hus⟩ := r9'.tm 0 (.ref D) (.ow (.lst acc)) rfl rfl
      cases ea
      obtain ⟨us2, h2, h3, s10, r10⟩ := r9'.wrT (dqAll_append hus (.cons hy .nil))
      refine ⟨us, ha, by rw [dqAll_len hus]; exact hl, hlt, G9, w9, _, acc ++ [e], pnw (((st6.trans s8).trans s9).trans s10), fun a o h => s9.g a o (s8.g a o (sg6 a o h)), back r10.first, q7⟩
  · have ei : i = ds.length := by omega
    subst ei
    refine .inl ⟨itd.stop G' H' sg rp.sub, k _ _ _ H' G' w' (ie acc δ' q) (st.reδ fun j o hj => ?_) ⟨rp.sub, rp.out, by rw [restS_len, ← rp.len, wipe_length], fun j s hj => ?_, rp.tlen, fun j v p hv hp => (rp.tm j v p hv hp).noAt (noA _ p (List.mem_of_getElem? hp)), rp.bs⟩⟩
    · obtain ⟨o1, h1⟩ := st.pn j o hj
      exact ⟨o1, by rw [restS_ne (ni j o hj)]; exact h1⟩
    · by_cases hm : j ∈ vs
      · rcases restS_in hm hj with rfl | ⟨d, rfl, e0⟩
        · trivial
        · obtain ⟨v, hv, hd⟩ := rep1.sl j _ e0
          exact ⟨v, hv, dp_mono sg _ _ hd⟩
      · rw [restS_ne hm] at hj
        have := rp.sl j s hj
        rwa [wipe_ne hm] at this
section
variable {X : Cx}
theorem je_lc {elt tg iter : Expr} {ifs : List Expr} {scope : Scope} {own : List (Str × Nat)} {pos : Pos} {pi : PIx} {ts : List Nat} {g : PGx} {tt : PB} {pe : PX} (hc : X.calm = true) (hN : X.N.Nodup) (hi : JI X B tg iter pi) (ok : BlkOk X.N X.env.scope scope own)
    (hg : ∀ (s : Shared) (H : Hp) (C : Addr) (cl : List (Str × Addr)) (fp : List Addr), JG (X.blk s H scope (compEnvC scope cl C X.env) fp) B tg ts g) (ht : ∀ (s : Shared) (H : Hp) (C : Addr) (cl : List (Str × Addr)) (fp : List Addr), JTs (X.blk s H scope (compEnvC scope cl C X.env) fp) B ifs tt)
    (he : ∀ (s : Shared) (H : Hp) (C : Addr) (cl : List (Str × Addr)) (fp : List Addr), JE (X.blk s H scope (compEnvC scope cl C X.env) fp) B elt pe) (hts : ∀ i ∈ ts, i ∈ own.map (·.2) := by decide) (hs : ∀ x, foldedSetIterable iter X.env x = pure x := by intro _; rfl) :
    JE X B (.ListComp elt [⟨tg, iter, ifs, 0⟩] scope pos) (pComp pi g tt pe (own.map (·.2))) := PE_wk (pe_lc (g := LG X.K B ts g) (tt := LB X.K B tt) (te := LE X.K B pe) hc hN hi ok hg ht he hs) fun σ H Q h => lc_lift hts h
theorem js_setLc {i : Nat} {y : Str} {py : Pos} {elt tg iter : Expr} {ifs : List Expr} {scope : Scope} {own : List (Str × Nat)} {pos spos : Pos} {pi : PIx} {ts : List Nat} {g : PGx} {tt : PB} {pe : PX} (hc : X.calm = true) (hN : X.N.Nodup) (hy : X.N[i]? = some y) (hyl : X.env.scope.names.lookup y = some .local)
    (hsw : swapsWith (.ListComp elt [⟨tg, iter, ifs, 0⟩] scope pos) (some (.Name y py)) spos.line X.env = pure true) (hi : JI X B tg iter pi) (ok : BlkOk X.N X.env.scope scope own)
    (hg : ∀ (s : Shared) (H : Hp) (C : Addr) (cl : List (Str × Addr)) (fp : List Addr), JG (X.blk s H scope (compEnvC scope cl C X.env) fp) B tg ts g) (ht : ∀ (s : Shared) (H : Hp) (C : Addr) (cl : List (Str × Addr)) (fp : List Addr), JTs (X.blk s H scope (compEnvC scope cl C X.env) fp) B ifs tt)
    (he : ∀ (s : Shared) (H : Hp) (C : Addr) (cl : List (Str × Addr)) (fp : List Addr), JE (X.blk s H scope (compEnvC scope cl C X.env) fp) B elt pe) (hts : ∀ i ∈ ts, i ∈ own.map (·.2) := by decide) (hs : ∀ x, foldedSetIterable iter X.env x = pure x := by intro _; rfl) :
    JS X B (.Assign [.Name y py] (.ListComp elt [⟨tg, iter, ifs, 0⟩] scope pos) spos) (pSet i (pComp pi g tt pe (own.map (·.2)))) := PS_wk (ps_setLc (g := LG X.K B ts g) (tt := LB X.K B tt) (te := LE X.K B pe) hc hN hy hyl hsw hi ok hg ht he hs) fun D σ H h => lc_lift hts (set_lift h)
end
end Pv
namespace Pv
open PySem PySem.Spec L2 Wf
variable {B : Bas}
/-! ### defs -/
abbrev EX := Addr → List (Str × PyData) → Prop
/-- what a def does: its arguments (data, or a thing of the caller's), what is told and how these things stand then; what is raised -/
abbrev PSp := List Sl → QE → EX → Prop
/-- no tables -/
def nTb : Option HO → Option HO
  | some (.tbl _) => none
  | o => o
theorem nTb_some {x : Option HO} {o : HO} (h : nTb x = some o) : x = some o ∧ NT o := by
  cases x with
  | none => cases h
  | some u => cases u <;> first | (cases h; done) | exact ⟨h, fun ps z => by subst z; cases h⟩
theorem nTb_of {x : Option HO} {o : HO} (h : x = some o) (n : NT o) : nTb x = some o := by
  subst h
  cases o <;> first | rfl | exact absurd rfl (n _)
def B0h (H : Hp) (w : Addr → Option Nat) : Hp := fun a => match w a with
  | none => nTb (H a)
  | some _ => none
def B0 (T : List NdefX.NTab) (H : Hp) (w : Addr → Option Nat) : Bas := ⟨B0h H w, H, T⟩
theorem B0_some {T : List NdefX.NTab} {H : Hp} {w : Addr → Option Nat} {a : Addr} {o : HO} (h : B0 T H w a = some o) : H a = some o ∧ w a = none ∧ NT o := by
  have h : B0h H w a = some o := h
  unfold B0h at h
  split at h
  · rename_i e
    obtain ⟨h1, h2⟩ := nTb_some h
    exact ⟨h1, e, h2⟩
  · cases h
/-- an error's fields, as they stand -/
inductive FlP (K : PySem.W.Frag) (H : Hp) : List (Str × V) → List (Str × PyData) → Prop
  | nil : FlP K H [] []
  | cons {x : Str} {v : V} {d : PyData} {us : List (Str × V)} {fs : List (Str × PyData)} : Dp K H v d → noL d = true → FlP K H us fs → FlP K H ((x, v) :: us) ((x, d) :: fs)
/-- what is wanted of an error that leaves -/
def XOk (K : PySem.W.Frag) (B : Bas) (Ep : EX) (E : XK) : Prop := ∀ C fs us d H', Ep C fs → Same B.hp H' → TbG B.T B.ht H' → B d = none → H' d = some (.xd us) → FlP K H' us fs → E (.ref C) (some d) H'
def LSp (K : PySem.W.Frag) (T : List NdefX.NTab) (ps : PSp) : Sp := fun vs H Q E => ∃ G w as Qp Ep, Rep K (B0 T H w) G H (vs.map some) as [] [] w ∧ (∀ s ∈ as, s = .un ∨ (∃ d, s = .im d) ∨ ∃ o, s = .ow true o) ∧ ps as Qp Ep ∧
  (∀ r δ' v H' G' w', Qp r δ' → isAt r = false → Stp T G H w as G' H' w' δ' → Rep K (B0 T H w) G' H' (vs.map some) δ' [v] [r] w' → Q v H') ∧ XOk K (B0 T H w) Ep E
def outs : List Sl → List Sl → List Sl
  | [], _ => []
  | .ow true _ :: as, d :: ds => d :: outs as ds
  | _ :: as, _ :: ds => .un :: outs as ds
  | _ :: as, [] => .un :: outs as []
theorem outs_len : ∀ (as ds : List Sl), (outs as ds).length = as.length
  | [], _ => rfl
  | .ow true _ :: as, d :: ds => by simp only [outs, List.length_cons, outs_len as ds]
  | .ow false _ :: as, d :: ds => by simp only [outs, List.length_cons, outs_len as ds]
  | .un :: as, d :: ds => by simp only [outs, List.length_cons, outs_len as ds]
  | .im _ :: as, d :: ds => by simp only [outs, List.length_cons, outs_len as ds]
  | .ex _ _ _ _ :: as, d :: ds => by simp only [outs, List.length_cons, outs_len as ds]
  | a :: as, [] => by
    have e : outs (a :: as) [] = .un :: outs as [] := by
      cases a with
      | un => rfl
      | im d => rfl
      | ex _ _ _ _ => rfl
      | ow b o => cases b <;> rfl
    rw [e, List.length_cons, List.length_cons, outs_len as []]
theorem outs_get : ∀ (as ds : List Sl) (i : Nat) {s : Sl}, (outs as ds)[i]? = some s → s = .un ∨ ((∃ o, as[i]? = some (.ow true o)) ∧ ds[i]? = some s)
  | [], _, _, s, h => by simp [outs] at h
  | .ow true o :: as, d :: ds, 0, s, h => by
    simp only [outs, List.getElem?_cons_zero, Option.some.injEq] at h
    exact .inr ⟨⟨o, rfl⟩, by simp [h]⟩
  | .ow true o :: as, d :: ds, i + 1, s, h => by
    rcases outs_get as ds i (by simpa [outs] using h) with e | ⟨⟨o', e1⟩, e2⟩
    · exact .inl e
    · exact .inr ⟨⟨o', by simpa using e1⟩, by simpa using e2⟩
  | .ow false o :: as, d :: ds, 0, s, h => by simp only [outs, List.getElem?_cons_zero, Option.some.injEq] at h; exact .inl h.symm
  | .un :: as, d :: ds, 0, s, h => by simp only [outs, List.getElem?_cons_zero, Option.some.injEq] at h; exact .inl h.symm
  | .im _ :: as, d :: ds, 0, s, h => by simp only [outs, List.getElem?_cons_zero, Option.some.injEq] at h; exact .inl h.symm
  | .ex _ _ _ _ :: as, d :: ds, 0, s, h => by simp only [outs, List.getElem?_cons_zero, Option.some.injEq] at h; exact .inl h.symm
  | .ow false o :: as, d :: ds, i + 1, s, h => by
    rcases outs_get as ds i (by simpa [outs] using h) with e | ⟨⟨o', e1⟩, e2⟩
    · exact .inl e
    · exact .inr ⟨⟨o', by simpa using e1⟩, by simpa using e2⟩
  | .un :: as, d :: ds, i + 1, s, h => by
    rcases outs_get as ds i (by simpa [outs] using h) with e | ⟨⟨o', e1⟩, e2⟩
    · exact .inl e
    · exact .inr ⟨⟨o', by simpa using e1⟩, by simpa using e2⟩
  | .im _ :: as, d :: ds, i + 1, s, h => by
    rcases outs_get as ds i (by simpa [outs] using h) with e | ⟨⟨o', e1⟩, e2⟩
    · exact .inl e
    · exact .inr ⟨⟨o', by simpa using e1⟩, by simpa using e2⟩
  | .ex _ _ _ _ :: as, d :: ds, i + 1, s, h => by
    rcases outs_get as ds i (by simpa [outs] using h) with e | ⟨⟨o', e1⟩, e2⟩
    · exact .inl e
    · exact .inr ⟨⟨o', by simpa using e1⟩, by simpa using e2⟩
  | a :: as, [], i, s, h => by
    have e : outs (a :: as) [] = .un :: outs as [] := by
      cases a with
      | un => rfl
      | im d => rfl
      | ex _ _ _ _ => rfl
      | ow b o => cases b <;> rfl
    rw [e] at h
    match i with
    | 0 => simp only [List.getElem?_cons_zero, Option.some.injEq] at h; exact .inl h.symm
    | i + 1 =>
      rcases outs_get as [] i (by simpa using h) with e | ⟨_, e2⟩
      · exact .inl e
      · simp at e2
theorem outs_own : ∀ (as ds : List Sl) (i : Nat) {o : O} {s : Sl}, as[i]? = some (.ow true o) → ds[i]? = some s → (outs as ds)[i]? = some s
  | [], _, _, _, _, h, _ => by simp at h
  | _ :: _, [], _, _, _, _, h => by simp at h
  | a :: as, d :: ds, 0, o, s, h, h2 => by
    simp only [List.getElem?_cons_zero, Option.some.injEq] at h h2
    subst h h2
    rfl
  | a :: as, d :: ds, i + 1, o, s, h, h2 => by
    have ih := outs_own as ds i (o := o) (s := s) (by simpa using h) (by simpa using h2)
    cases a with
    | un => simpa [outs] using ih
    | im d => simpa [outs] using ih
    | ex _ _ _ _ => simpa [outs] using ih
    | ow b o => cases b <;> simpa [outs] using ih
def endsP (as : List Sl) (Qp : QE) : PEn := { nx := fun δ => Qp (.im .none) (outs as δ), rt := fun r δ => Qp r (outs as δ) }
/-- a def's body keeps its promise -/
theorem fn_lift {K : PySem.W.Frag} {N : List Str} {ps : PSp} {p : EX → PSx} {vs : List V} {H : Hp} {Q : VK} {E : XK} {m : Nat} (hN : N.length = m) (hp : ∀ as Qp Ep, ps as Qp Ep → p Ep (endsP as Qp) (as ++ List.replicate (m - as.length) .un)) {T : List NdefX.NTab} (h : LSp K T ps vs H Q E) (hl : vs.length ≤ m) :
    ∃ (Bh Bt : Hp) (Ep : EX), XOk K ⟨Bh, Bt, T⟩ Ep E ∧ LS K ⟨Bh, Bt, T⟩ (p Ep) { nx := fun _ H' => Q .non H', rt := Q } (L2.start N vs) H := by
  obtain ⟨G, w, as, Qp, Ep, rep, hk, hps, k, x⟩ := h
  have la : vs.length = as.length := by have := rep.len; rwa [List.length_map] at this
  refine ⟨B0h H w, H, Ep, x, G, w, as ++ List.replicate (m - as.length) .un, endsP as Qp, ?_, hp as Qp Ep hps, ?_⟩
  · refine ⟨rep.sub, rep.out, ?_, fun i s hi => ?_, rfl, fun j v r hv => by simp at hv, rep.bs⟩
    · unfold L2.start
      rw [List.length_append, List.length_append, List.length_map, List.length_replicate, List.length_replicate, la, hN]
    · by_cases hi2 : i < as.length
      · rw [List.getElem?_append_left hi2] at hi
        have := rep.sl i s hi
        unfold L2.start
        rw [List.getElem?_append_left (by rw [List.length_map, la]; exact hi2)]
        exact this
      · rw [List.getElem?_append_right (by omega)] at hi
        have e : s = .un := by
          have := List.getElem?_eq_some_iff.mp hi
          obtain ⟨h1, h2⟩ := this
          simpa using h2.symm
        subst e
        trivial
  · have fin : ∀ (r : R) δ' v σ' H' G' w', isAt r = false → Stp T G H w (as ++ List.replicate (m - as.length) .un) G' H' w' δ' → Rep K (B0 T H w) G' H' σ' δ' [v] [r] w' → Pin (L2.start N vs) (as ++ List.replicate (m - as.length) .un) σ' →
        Stp T G H w as G' H' w' (outs as δ') ∧ Rep K (B0 T H w) G' H' (vs.map some) (outs as δ') [v] [r] w' := by
      intro r δ' v σ' H' G' w' hr st rp pn
      have inA : ∀ (i : Nat) o, as[i]? = some (Sl.ow true o) → (as ++ List.replicate (m - as.length) .un)[i]? = some (Sl.ow true o) := fun i o h => by
        rw [List.getElem?_append_left (List.getElem?_eq_some_iff.mp h).1]
        exact h
      refine ⟨⟨st.g, st.b, st.n, st.p, fun i o hi => ?_, st.t, st.q⟩, rp.sub, rp.out, by rw [outs_len, List.length_map, la], fun i s hi => ?_, rfl, fun j u q hu hq => ?_, rp.bs⟩
      · obtain ⟨o', ho'⟩ := st.pn i o (inA i o hi)
        exact ⟨o', outs_own as δ' i hi ho'⟩
      · rcases outs_get as δ' i hi with rfl | ⟨⟨o, e1⟩, e2⟩
        · trivial
        · have e3 := rp.sl i s e2
          have e4 := pn i o (inA i o e1)
          have hi2 : i < as.length := (List.getElem?_eq_some_iff.mp e1).1
          unfold L2.start at e4
          rw [List.getElem?_append_left (by rw [List.length_map, la]; exact hi2)] at e4
          rwa [e4] at e3
      · exact (rp.tm j u q hu hq).noAt (by
          match j with
          | 0 => simp only [List.getElem?_cons_zero, Option.some.injEq] at hq; rw [← hq]; exact hr
          | j + 1 => simp at hq)
    refine ⟨fun δ' σ' H' G' w' h st rp pn => ?_, fun r δ' v σ' H' G' w' h hr st rp pn => ?_, fun δ' σ' H' G' w' h => h.elim, fun δ' σ' H' G' w' h => h.elim⟩
    · obtain ⟨s1, r1⟩ := fin (.im .none) δ' .non σ' H' G' _ rfl (st.trans .drop) (rp.ret .non) pn
      exact k _ _ _ H' G' _ h rfl s1 r1
    · obtain ⟨s1, r1⟩ := fin r δ' v σ' H' G' w' hr st rp pn
      exact k _ _ _ H' G' w' h hr s1 r1
/-! ### calls -/
def argOf (δ : List Sl) : R → Option Sl
  | .im d => some (.im d)
  | .ow o => some (.ow true o)
  | .at i => match δ[i]? with
    | some (.im d) => some (.im d)
    | some (.ow _ o) => some (.ow true o)
    | _ => none
def argsOf (δ : List Sl) : List R → Option (List Sl)
  | [] => some []
  | r :: rs => match argOf δ r with
    | none => none
    | some a => match argsOf δ rs with
      | none => none
      | some as => some (a :: as)
/-- which slots are handed on -/
def atIx (δ : List Sl) : List R → List Nat
  | [] => []
  | .at i :: rs => match δ[i]? with
    | some (.ow _ _) => i :: atIx δ rs
    | _ => atIx δ rs
  | _ :: rs => atIx δ rs
def put1 (δ : List Sl) : R → Sl → List Sl
  | .at i, .ow true o => match δ[i]? with
    | some (.ow b _) => δ.set i (.ow b o)
    | _ => δ
  | _, _ => δ
def putB (δ : List Sl) : List R → List Sl → List Sl
  | [], _ => δ
  | _ :: _, [] => δ
  | r :: rs, s :: ss => putB (put1 δ r s) rs ss
def pCall (ps : PSp) (pa : PL) (Ep : EX) : PX := fun δ Q => pa δ fun rs δ1 => ∃ as, argsOf δ1 rs = some as ∧ (atIx δ1 rs).Nodup ∧ ps as (fun r os => Q r (putB δ1 rs os)) Ep
theorem argsOf_len : ∀ {δ : List Sl} {rs : List R} {as : List Sl}, argsOf δ rs = some as → as.length = rs.length
  | _, [], _, h => by cases h; rfl
  | δ, r :: rs, as, h => by
    unfold argsOf at h
    revert h
    split
    · intro h; cases h
    · split
      · intro h; cases h
      · rename_i as' e'
        intro h
        cases h
        rw [List.length_cons, List.length_cons, argsOf_len e']
theorem argsOf_get : ∀ {δ : List Sl} {rs : List R} {as : List Sl} {j : Nat} {s : Sl}, argsOf δ rs = some as → as[j]? = some s → ∃ r, rs[j]? = some r ∧ argOf δ r = some s
  | _, [], _, _, _, h, hs => by cases h; simp at hs
  | δ, r :: rs, as, j, s, h, hs => by
    unfold argsOf at h
    revert h
    split
    · intro h; cases h
    · rename_i a e
      split
      · intro h; cases h
      · rename_i as' e'
        intro h
        cases h
        match j with
        | 0 => simp only [List.getElem?_cons_zero, Option.some.injEq] at hs; subst hs; exact ⟨r, rfl, e⟩
        | j + 1 =>
          obtain ⟨r', h1, h2⟩ := argsOf_get (j := j) e' (by simpa using hs)
          exact ⟨r', by simpa using h1, h2⟩
def isOw (δ : List Sl) (i : Nat) : Prop := ∃ b o, δ[i]? = some (.ow b o)
theorem put1_len (δ : List Sl) (r : R) (s : Sl) : (put1 δ r s).length = δ.length := by
  unfold put1
  split
  · split
    · rw [List.length_set]
    · rfl
  · rfl
theorem put1_at {δ : List Sl} {i : Nat} {b : Bool} {o o' : O} (h : δ[i]? = some (.ow b o)) : put1 δ (.at i) (.ow true o') = δ.set i (.ow b o') := by
  unfold put1
  dsimp only
  rw [h]
theorem put1_ow {δ : List Sl} {r : R} {s : Sl} {i : Nat} {b : Bool} {o : O} (h : δ[i]? = some (.ow b o)) : ∃ o', (put1 δ r s)[i]? = some (.ow b o') := by
  unfold put1
  split
  · rename_i k o'
    split
    · rename_i b' o'' e
      by_cases ei : k = i
      · subst ei
        rw [h] at e
        cases e
        exact ⟨o', List.getElem?_set_self (List.getElem?_eq_some_iff.mp h).1⟩
      · exact ⟨o, by rw [List.getElem?_set_ne ei]; exact h⟩
    · exact ⟨o, h⟩
  · exact ⟨o, h⟩
theorem put1_ne {δ : List Sl} {r : R} {s : Sl} {i : Nat} (h : r ≠ .at i) : (put1 δ r s)[i]? = δ[i]? := by
  unfold put1
  split
  · rename_i k o'
    split
    · exact List.getElem?_set_ne fun z => h (by rw [z])
    · rfl
  · rfl
theorem put1_nw {δ : List Sl} {r : R} {s : Sl} {i : Nat} (h : ¬ isOw δ i) : (put1 δ r s)[i]? = δ[i]? := by
  unfold put1
  split
  · rename_i k o'
    split
    · rename_i b o e
      exact List.getElem?_set_ne fun z => h ⟨b, o, by rw [← z]; exact e⟩
    · rfl
  · rfl
theorem isOw_put {δ : List Sl} {r : R} {s : Sl} {i : Nat} : isOw (put1 δ r s) i ↔ isOw δ i := by
  constructor
  · intro h
    by_cases hw : isOw δ i
    · exact hw
    · obtain ⟨b, o, e⟩ := h
      rw [put1_nw hw] at e
      exact ⟨b, o, e⟩
  · rintro ⟨b, o, e⟩
    obtain ⟨o', e'⟩ := put1_ow (r := r) (s := s) e
    exact ⟨b, o', e'⟩
theorem mem_atIx : ∀ {δ : List Sl} {rs : List R} {i : Nat}, i ∈ atIx δ rs ↔ isOw δ i ∧ R.at i ∈ rs
  | δ, [], i => by simp [atIx]
  | δ, .im d :: rs, i => by simp [atIx, mem_atIx (δ := δ) (rs := rs) (i := i)]
  | δ, .ow o :: rs, i => by simp [atIx, mem_atIx (δ := δ) (rs := rs) (i := i)]
  | δ, .at k :: rs, i => by
    unfold atIx
    split
    · rename_i b o e
      rw [List.mem_cons, mem_atIx (δ := δ) (rs := rs) (i := i), List.mem_cons]
      constructor
      · rintro (rfl | ⟨h1, h2⟩)
        · exact ⟨⟨b, o, e⟩, .inl rfl⟩
        · exact ⟨h1, .inr h2⟩
      · rintro ⟨h1, h2 | h2⟩
        · cases h2; exact .inl rfl
        · exact .inr ⟨h1, h2⟩
    · rename_i hn
      rw [mem_atIx (δ := δ) (rs := rs) (i := i), List.mem_cons]
      constructor
      · rintro ⟨h1, h2⟩; exact ⟨h1, .inr h2⟩
      · rintro ⟨h1, h2 | h2⟩
        · cases h2
          obtain ⟨b, o, e⟩ := h1
          exact absurd e (hn b o)
        · exact ⟨h1, h2⟩
theorem putB_len : ∀ {rs : List R} {δ : List Sl} {ss : List Sl}, (putB δ rs ss).length = δ.length
  | [], _, _ => by simp [putB]
  | _ :: _, _, [] => by simp [putB]
  | r :: rs, δ, s :: ss => by
    show (putB (put1 δ r s) rs ss).length = _
    rw [putB_len, put1_len]
theorem putB_ne : ∀ {rs : List R} {δ ss : List Sl} {k : Nat}, (¬ isOw δ k ∨ R.at k ∉ rs) → (putB δ rs ss)[k]? = δ[k]?
  | [], _, _, _, _ => by simp [putB]
  | _ :: _, _, [], _, _ => by simp [putB]
  | r :: rs, δ, s :: ss, k, h => by
    show (putB (put1 δ r s) rs ss)[k]? = _
    rcases h with h | h
    · rw [putB_ne (.inl fun z => h (isOw_put.mp z)), put1_nw h]
    · simp only [List.mem_cons, not_or] at h
      rw [putB_ne (.inr h.2), put1_ne (Ne.symm h.1)]
theorem putB_at : ∀ {rs : List R} {δ ss : List Sl} {j k : Nat} {b : Bool} {o o' : O}, (∀ (i j : Nat) k, isOw δ k → rs[i]? = some (.at k) → rs[j]? = some (.at k) → i = j) → rs[j]? = some (.at k) → δ[k]? = some (.ow b o) → ss[j]? = some (.ow true o') → (putB δ rs ss)[k]? = some (.ow b o')
  | [], _, _, _, _, _, _, _, _, h, _, _ => by simp at h
  | _ :: _, _, [], _, _, _, _, _, _, _, _, h => by simp at h
  | r :: rs, δ, s :: ss, 0, k, b, o, o', hu, h, hk, hs => by
    simp only [List.getElem?_cons_zero, Option.some.injEq] at h hs
    subst h hs
    show (putB (put1 δ (.at k) (.ow true o')) rs ss)[k]? = _
    have hn : R.at k ∉ rs := fun z => by
      obtain ⟨j, hj⟩ := List.mem_iff_getElem?.mp z
      have := hu 0 (j + 1) k ⟨b, o, hk⟩ rfl (by simpa using hj)
      omega
    rw [putB_ne (.inr hn), put1_at hk, List.getElem?_set_self (List.getElem?_eq_some_iff.mp hk).1]
  | r :: rs, δ, s :: ss, j + 1, k, b, o, o', hu, h, hk, hs => by
    show (putB (put1 δ r s) rs ss)[k]? = _
    have hr : r ≠ .at k := fun z => by
      have := hu 0 (j + 1) k ⟨b, o, hk⟩ (by simp [z]) h
      omega
    exact putB_at (j := j) (fun i j' k' hw h1 h2 => by
      have := hu (i + 1) (j' + 1) k' (isOw_put.mp hw) (by simpa using h1) (by simpa using h2)
      omega) (by simpa using h) (by rw [put1_ne hr]; exact hk) (by simpa using hs)
theorem uniq_of_nodup : ∀ {δ : List Sl} {rs : List R}, (atIx δ rs).Nodup → ∀ (i j : Nat) k, isOw δ k → rs[i]? = some (.at k) → rs[j]? = some (.at k) → i = j
  | δ, [], _, i, j, k, _, h, _ => by simp at h
  | δ, r :: rs, hn, i, j, k, hw, h1, h2 => by
    have tail : (atIx δ rs).Nodup := by
      cases r with
      | im d => exact hn
      | ow o => exact hn
      | «at» m =>
        unfold atIx at hn
        revert hn
        split
        · intro hn; exact (List.nodup_cons.mp hn).2
        · intro hn; exact hn
    have noHead : r = .at k → R.at k ∉ rs := fun e z => by
      subst e
      obtain ⟨b, o, e⟩ := hw
      have e2 : atIx δ (.at k :: rs) = k :: atIx δ rs := by simp only [atIx, e]
      rw [e2] at hn
      exact (List.nodup_cons.mp hn).1 (mem_atIx.mpr ⟨⟨b, o, e⟩, z⟩)
    match i, j with
    | 0, 0 => rfl
    | 0, j + 1 => exact absurd (List.mem_of_getElem? (show rs[j]? = some (.at k) by simpa using h2)) (noHead (by simpa using h1))
    | i + 1, 0 => exact absurd (List.mem_of_getElem? (show rs[i]? = some (.at k) by simpa using h1)) (noHead (by simpa using h2))
    | i + 1, j + 1 => rw [uniq_of_nodup tail i j k hw (by simpa using h1) (by simpa using h2)]
/-- where slot i is handed on -/
def idxAt (i : Nat) : List R → Option Nat
  | [] => none
  | .at k :: rs => if k = i then some 0 else (idxAt i rs).map (· + 1)
  | _ :: rs => (idxAt i rs).map (· + 1)
theorem idxAt_some : ∀ {rs : List R} {i j : Nat}, idxAt i rs = some j → rs[j]? = some (.at i)
  | [], _, _, h => by cases h
  | .at k :: rs, i, j, h => by
    unfold idxAt at h
    split at h
    · rename_i e; cases h; subst e; rfl
    · obtain ⟨m, h1, rfl⟩ := Option.map_eq_some_iff.mp h
      simpa using idxAt_some h1
  | .im d :: rs, i, j, h => by
    obtain ⟨m, h1, rfl⟩ := Option.map_eq_some_iff.mp (show (idxAt i rs).map (· + 1) = some j from h)
    simpa using idxAt_some h1
  | .ow o :: rs, i, j, h => by
    obtain ⟨m, h1, rfl⟩ := Option.map_eq_some_iff.mp (show (idxAt i rs).map (· + 1) = some j from h)
    simpa using idxAt_some h1
theorem idxAt_mem : ∀ {rs : List R} {i : Nat}, R.at i ∈ rs → ∃ j, idxAt i rs = some j
  | [], _, h => by cases h
  | .at k :: rs, i, h => by
    unfold idxAt
    split
    · exact ⟨0, rfl⟩
    · rename_i hk
      have : R.at i ∈ rs := by
        rcases List.mem_cons.mp h with z | z
        · cases z; exact absurd rfl hk
        · exact z
      obtain ⟨j, e⟩ := idxAt_mem this
      exact ⟨j + 1, by rw [e]; rfl⟩
  | .im d :: rs, i, h => by
    have : R.at i ∈ rs := by
      rcases List.mem_cons.mp h with z | z
      · cases z
      · exact z
    obtain ⟨j, e⟩ := idxAt_mem this
    exact ⟨j + 1, by show (idxAt i rs).map (· + 1) = _; rw [e]; rfl⟩
  | .ow o :: rs, i, h => by
    have : R.at i ∈ rs := by
      rcases List.mem_cons.mp h with z | z
      · cases z
      · exact z
    obtain ⟨j, e⟩ := idxAt_mem this
    exact ⟨j + 1, by show (idxAt i rs).map (· + 1) = _; rw [e]; rfl⟩
def wcOf (rs : List R) (w : Addr → Option Nat) (a : Addr) : Option Nat := match w a with
  | none => none
  | some n => if n % 2 = 1 then some (n - 1) else (idxAt (n / 2) rs).map (2 * ·)
def wbOf (rs : List R) (w w' : Addr → Option Nat) (a : Addr) : Option Nat := match w' a with
  | some m => if m % 2 = 1 then some m else match rs[m / 2]? with
    | some (.at i) => some (2 * i)
    | _ => none
  | none => match wcOf rs w a with
    | none => evn (w a)
    | some _ => none
theorem call_lift {K : PySem.W.Frag} {ps : PSp} {pa : PL} {Ep : EX} {E : XK} {n : Nat} {σ : St} {H : Hp} {Q : VK} (hx : XOk K B Ep E) (h : LE K B (pCall ps pa Ep) σ H Q) : tCall (LSp K B.T ps) [] E (LA K B n pa) σ H Q := by
  obtain ⟨G, w, δ, Qp, rep, q, k⟩ := h
  refine ⟨G, w, δ, _, rep, q, fun rs δ1 vs H1 G1 w1 q1 _ s1 rep1 => ?_⟩
  obtain ⟨as, ha, hnd, q1⟩ := q1
  have uq := uniq_of_nodup hnd
  have la : vs.length = as.length := rep1.tlen.trans (argsOf_len ha).symm
  have wc_some : ∀ a m, wcOf rs w1 a = some m → ∃ n, w1 a = some n := fun a m hm => by
    unfold wcOf at hm
    cases e : w1 a with
    | none => rw [e] at hm; cases hm
    | some n => exact ⟨n, rfl⟩
  have wc_odd : ∀ a (j : Nat), w1 a = some (2 * j + 1) → wcOf rs w1 a = some (2 * j) := fun a j h => by
    unfold wcOf
    rw [h]
    dsimp only
    rw [if_pos (by omega)]
    congr 1
  have wc_at : ∀ a (i j : Nat), isOw δ1 i → rs[j]? = some (.at i) → w1 a = some (2 * i) → wcOf rs w1 a = some (2 * j) := fun a i j hw hj h => by
    obtain ⟨j', e⟩ := idxAt_mem (List.mem_of_getElem? hj)
    have := uq j j' i hw hj (idxAt_some e)
    subst this
    unfold wcOf
    rw [h]
    dsimp only
    rw [if_neg (by omega), show 2 * i / 2 = i by omega, e]
    rfl
  have toB : ∀ a o, B a = some o → B0 B.T H1 (wcOf rs w1) a = some o := fun a o ho => by
    have := rep1.bs.to a o ho
    show B0h H1 (wcOf rs w1) a = some o
    unfold B0h
    have e : wcOf rs w1 a = none := by unfold wcOf; rw [this.2.1]
    rw [e]
    exact nTb_of this.1 this.2.2
  have noB : ∀ d, B0 B.T H1 (wcOf rs w1) d = none → B d = none := fun d h => by
    cases e : B d with
    | none => rfl
    | some o => rw [toB d o e] at h; cases h
  rw [List.append_nil]
  refine ⟨G1, wcOf rs w1, as, _, Ep, ⟨rep1.sub, fun a m hm => ?_, by rw [List.length_map]; exact la, fun j s hs => ?_, rfl, fun j v r hv => by simp at hv, ⟨fun a o ho => B0_some ho, .refl, rep1.bs.tt.ts rep1.bs.ta, rep1.bs.gt⟩⟩, fun s hs => ?_, q1, fun r os v H2 G2 w2 hq hr st rp => ?_, fun C fs us d H2 he hs htb hbd hd hf => hx C fs us d H2 he (fun a o ho => hs a o (toB a o ho)) (rep1.bs.tt.trans htb) (noB d hbd) hd hf⟩
  · obtain ⟨n, hn⟩ := wc_some a m hm
    exact rep1.out a n hn
  · obtain ⟨r, hr, he⟩ := argsOf_get ha hs
    have hj : j < vs.length := by rw [la]; exact (List.getElem?_eq_some_iff.mp hs).1
    have hv : vs[j]? = some vs[j] := List.getElem?_eq_getElem hj
    have hm : (vs.map some)[j]? = some (some vs[j]) := by rw [List.getElem?_map, hv]; rfl
    have t := rep1.tm j _ r hv hr
    cases r with
    | im d => cases he; exact ⟨_, hm, t⟩
    | ow o => cases he; exact ⟨_, hm, RO.mono (fun _ _ h => h) (fun _ _ _ h => h) (fun a u ma _ => wc_odd a j ma) t⟩
    | «at» i =>
      have t' : σ[i]? = some (some vs[j]) := t
      simp only [argOf] at he
      revert he
      split
      · rename_i d e
        intro he
        cases he
        obtain ⟨v, hv', hd⟩ := rep1.sl i _ e
        rw [t'] at hv'
        cases hv'
        exact ⟨_, hm, hd⟩
      · rename_i b o e
        intro he
        cases he
        obtain ⟨v, hv', hd⟩ := rep1.sl i _ e
        rw [t'] at hv'
        cases hv'
        exact ⟨_, hm, RO.mono (fun _ _ h => h) (fun _ _ _ h => h) (fun a u ma _ => wc_at a i j ⟨b, o, e⟩ hr ma) hd⟩
      · intro he; cases he
  · obtain ⟨j, hj⟩ := List.mem_iff_getElem?.mp hs
    obtain ⟨r, hr, he⟩ := argsOf_get ha hj
    cases r with
    | im d => cases he; exact .inr (.inl ⟨d, rfl⟩)
    | ow o => cases he; exact .inr (.inr ⟨o, rfl⟩)
    | «at» i =>
      simp only [argOf] at he
      revert he
      split
      · intro he; cases he; exact .inr (.inl ⟨_, rfl⟩)
      · intro he; cases he; exact .inr (.inr ⟨_, rfl⟩)
      · intro he; cases he
  · -- behind the call
    have nw : ∀ a m n, w2 a = some m → wcOf rs w1 a = none → w1 a = some n → False := fun a m n h1 h2 h3 => by
      rcases st.n a m h1 with z | z
      · exact z h2
      · exact (rep1.out a n h3).2.1 z
    have st' : Stp B.T G1 H1 w1 δ1 G2 H2 (wbOf rs w1 w2) (putB δ1 rs os) := by
      refine ⟨st.g, fun a o hw ho => st.b a o (by unfold wcOf; rw [hw]) ho, fun a m hm => ?_, fun a o ho => ?_, fun i o hi => ?_, st.t, st.q⟩
      · cases e : w1 a with
        | some n => exact .inl (Option.some_ne_none _)
        | none =>
          cases e2 : w2 a with
          | none =>
            unfold wbOf at hm
            have e3 : wcOf rs w1 a = none := by unfold wcOf; rw [e]
            rw [e2, e3, e] at hm
            cases hm
          | some m2 =>
            rcases st.n a m2 e2 with z | z
            · exact absurd (by unfold wcOf; rw [e]) z
            · exact .inr z
      · rcases st.p a o ho with z | z | z | z
        · exact .inl z
        · exact .inr (.inl z)
        · refine .inr (.inr (.inl fun e => z ?_))
          unfold wcOf
          rw [e]
        · exact .inr (.inr (.inr z))
      · by_cases hm : R.at i ∈ rs
        · obtain ⟨j, hj⟩ := List.mem_iff_getElem?.mp hm
          have hja : j < as.length := by rw [argsOf_len ha]; exact (List.getElem?_eq_some_iff.mp hj).1
          obtain ⟨r, hr', he⟩ := argsOf_get ha (List.getElem?_eq_getElem hja)
          rw [hj] at hr'
          cases hr'
          simp only [argOf, hi, Option.some.injEq] at he
          obtain ⟨o', ho'⟩ := st.pn j o (by rw [List.getElem?_eq_getElem hja, he])
          exact ⟨o', putB_at uq hj hi ho'⟩
        · exact ⟨o, by rw [putB_ne (.inr hm)]; exact hi⟩
    refine k r _ v H2 G2 _ hq (s1.trans st') ⟨rp.sub, fun a m hm => ?_, by rw [putB_len]; exact rep1.len, fun i s hs => ?_, rfl, fun j u p hu hp => ?_, st'.bs rep1.bs⟩
    · cases e2 : w2 a with
      | some m2 => exact rp.out a m2 e2
      | none =>
        unfold wbOf at hm
        rw [e2] at hm
        dsimp only at hm
        revert hm
        split
        · rename_i e3
          intro hm
          have hn := (evn_some.mp hm).1
          obtain ⟨g0, h0, n0⟩ := rep1.out a m hn
          refine ⟨?_, st.nn a e3 h0 n0⟩
          cases e6 : G2 a with
          | none => rfl
          | some o =>
            rcases st.p a o e6 with z | z | z | ⟨xs, z⟩
            · rw [g0] at z; cases z
            · exact absurd z h0
            · exact absurd e3 z
            · exact absurd z (n0 xs)
        · intro hm; cases hm
    · by_cases hm : isOw δ1 i ∧ R.at i ∈ rs
      · obtain ⟨⟨b, o, e⟩, hm⟩ := hm
        obtain ⟨j, hj⟩ := List.mem_iff_getElem?.mp hm
        have hja : j < as.length := by rw [argsOf_len ha]; exact (List.getElem?_eq_some_iff.mp hj).1
        obtain ⟨r', hr', he⟩ := argsOf_get ha (List.getElem?_eq_getElem hja)
        rw [hj] at hr'
        cases hr'
        simp only [argOf, e, Option.some.injEq] at he
        obtain ⟨o', ho'⟩ := st.pn j o (by rw [List.getElem?_eq_getElem hja, he])
        rw [putB_at uq hj e ho'] at hs
        cases hs
        obtain ⟨v', hv', hd⟩ := rp.sl j _ ho'
        have hjv : j < vs.length := by rw [la]; exact hja
        rw [List.getElem?_map, List.getElem?_eq_getElem hjv] at hv'
        cases hv'
        have t : σ[i]? = some (some vs[j]) := rep1.tm j _ (.at i) (List.getElem?_eq_getElem hjv) hj
        refine ⟨_, t, RO.mono (fun _ _ h => h) (fun _ _ _ h => h) (fun a u ma _ => ?_) hd⟩
        show wbOf rs w1 w2 a = _
        unfold wbOf
        rw [ma]
        dsimp only
        rw [if_neg (by omega), show 2 * j / 2 = j by omega, hj]
      · have hne : ¬ isOw δ1 i ∨ R.at i ∉ rs := by
          by_cases z : isOw δ1 i
          · exact .inr fun z2 => hm ⟨z, z2⟩
          · exact .inl z
        rw [putB_ne hne] at hs
        have sl := rep1.sl i s hs
        cases s with
        | un => trivial
        | im d =>
          obtain ⟨v', hv', hd⟩ := sl
          exact ⟨v', hv', dp_mono st.g _ _ hd⟩
        | ex a dd C fs =>
          obtain ⟨h1, us, h2, h3⟩ := sl
          exact ⟨h1, us, st.g _ _ h2, h3.mono st.g⟩
        | ow b o =>
          have hni : R.at i ∉ rs := hne.elim (fun z => absurd ⟨b, o, hs⟩ z) id
          have wcn : ∀ a, w1 a = some (2 * i) → wcOf rs w1 a = none := fun a h => by
            unfold wcOf
            rw [h]
            dsimp only
            rw [if_neg (by omega), show 2 * i / 2 = i by omega]
            cases e : idxAt i rs with
            | none => rfl
            | some j => exact absurd (List.mem_of_getElem? (idxAt_some e)) hni
          obtain ⟨v', hv', hd⟩ := sl
          refine ⟨v', hv', RO.monoN st.g (fun a u hnt ma hu => st.bN a u hnt (wcn a ma) hu) (fun a u ma hu => ?_) hd⟩
          show wbOf rs w1 w2 a = _
          unfold wbOf
          cases e2 : w2 a with
          | some m => exact (nw a m _ e2 (wcn a ma) ma).elim
          | none =>
            dsimp only
            rw [wcn a ma]
            exact evn_some.mpr ⟨ma, by omega⟩
    · match j with
      | 0 =>
        simp only [List.getElem?_cons_zero, Option.some.injEq] at hu hp
        subst hu hp
        have t := rp.tm 0 v r rfl rfl
        cases r with
        | im d => exact t
        | ow o =>
          refine RO.mono (fun _ _ h => h) (fun _ _ _ h => h) (fun a u ma _ => ?_) t
          show wbOf rs w1 w2 a = _
          unfold wbOf
          rw [ma]
          rfl
        | «at» i => cases hr
      | j + 1 => simp at hu
end Pv
namespace Pv
open PySem PySem.Spec L2 Wf
variable {B : Bas}
section
variable {X : Cx} {tg l a b e e2 : Expr} {es : List Expr} {pl pa pb : PX} {p pos : Pos}
/-! ### words -/
theorem jv (i : Nat) {x : Str} {pos : Pos} (hN : X.N[i]? = some x := by rfl) (hv : Vis X.env.scope x := by first | exact Or.inl rfl | exact Or.inr (Or.inl rfl) | exact Or.inr (Or.inr rfl)) (hd : (x == ("__debug__" : Str)) = false := by decide)
    (hcd : (x == ("__classdict__" : Str)) = false := by decide) : JE X B (.Name x pos) (pVar i) := je_var hN hv hd hcd
/-- as data for good -/
def pFz (p : PX) : PX := fun δ Q => p δ fun r δ1 => ∃ d δ2, fz δ1 r = some (d, δ2) ∧ Q (.im d) δ2
theorem je_fz (h : JE X B e pa) : JE X B e (pFz pa) := PE_wk h fun σ H Q ⟨G, w, δ, Qp, rep, q, k⟩ => ⟨G, w, δ, _, rep, q, fun r δ1 v H1 G1 w1 q1 s1 rep1 => by
  obtain ⟨d, δ2, hz, q1⟩ := q1
  obtain ⟨G2, w2, s2, r2⟩ := rep1.fz1 (j := 0) rfl rfl hz
  exact k _ _ v H1 G2 w2 q1 (s1.trans s2) r2⟩
/-! ### enumerate -/
def enD (n : Nat) : List PyData → List PyData
  | [] => []
  | d :: ds => .tuple [.int (n : Int), d] :: enD (n + 1) ds
theorem enD_len : ∀ (n : Nat) (ds : List PyData), (enD n ds).length = ds.length
  | _, [] => rfl
  | n, d :: ds => by simp only [enD, List.length_cons, enD_len (n + 1) ds]
theorem enD_get : ∀ (n : Nat) (ds : List PyData) (i : Nat), (enD n ds)[i]? = (ds[i]?).map fun d => .tuple [.int ((n + i : Nat) : Int), d]
  | n, [], i => by simp [enD]
  | n, d :: ds, 0 => by simp [enD]
  | n, d :: ds, i + 1 => by
    simp only [enD, List.getElem?_cons_succ, enD_get (n + 1) ds i]
    have : n + 1 + i = n + (i + 1) := by omega
    rw [this]
theorem itd_enumL {K : PySem.W.Frag} {G : Hp} {a : Addr} {us : List V} {ds : List PyData} (ha : G a = some (.lst us)) (hd : DqAll K G us ds) : ItD K G (Ite K a) (enD 0 ds) where
  go := fun G' H' i sg sh hi => by
    rw [enD_len] at hi
    have hl := dqAll_len hd
    exact ⟨us, us[i]'(by omega), SqL.of (sh _ _ (sg _ _ ha)), by simp⟩
  yld := fun G' H' i x H2 sg sh hi y => by
    rw [enD_len] at hi
    obtain ⟨T, z, rfl, hT, rfl, y⟩ := y
    obtain ⟨v, hv, hq⟩ := dqAll_get hd (List.getElem?_eq_getElem hi)
    have e := y us (SqL.of (sh _ _ (sg _ _ ha)))
    rw [hv] at e
    cases e
    refine ⟨_, by rw [enD_get, List.getElem?_eq_getElem hi]; rfl, .inr ⟨T, _, _, rfl, hT, rfl, .cons ?_ (.cons (dp_mono sg _ _ hq) .nil), rfl⟩⟩
    rw [Nat.zero_add]
    exact .int _
  stop := fun G' H' sg sh => ⟨us, SqL.of (sh _ _ (sg _ _ ha)), by rw [enD_len, dqAll_len hd]; exact Nat.le_refl _⟩
theorem itd_enumT {K : PySem.W.Frag} {G : Hp} {a : Addr} {us : List V} {ds : List PyData} (ha : SqT K G a us) (hd : DqAll K G us ds) : ItD K G (ItT K a) (enD 0 ds) where
  go := fun G' H' i sg sh hi => by
    rw [enD_len] at hi
    have hl := dqAll_len hd
    exact ⟨us, us[i]'(by omega), Same.tp sh _ _ (Same.tp sg _ _ ha), by simp⟩
  yld := fun G' H' i x H2 sg sh hi y => by
    rw [enD_len] at hi
    obtain ⟨T, z, rfl, hT, rfl, y⟩ := y
    obtain ⟨v, hv, hq⟩ := dqAll_get hd (List.getElem?_eq_getElem hi)
    have e := y us (Same.tp sh _ _ (Same.tp sg _ _ ha))
    rw [hv] at e
    cases e
    refine ⟨_, by rw [enD_get, List.getElem?_eq_getElem hi]; rfl, .inr ⟨T, _, _, rfl, hT, rfl, .cons ?_ (.cons (dp_mono sg _ _ hq) .nil), rfl⟩⟩
    rw [Nat.zero_add]
    exact .int _
  stop := fun G' H' sg sh => ⟨us, Same.tp sh _ _ (Same.tp sg _ _ ha), by rw [enD_len, dqAll_len hd]; exact Nat.le_refl _⟩
def iEnumU (K : PySem.W.Frag) (ta : TA) : TI := fun σ H R => ta σ H fun vs H1 => ∃ a xs, vs = [.ref a] ∧ ((SqL K H1 a xs ∧ R (Ite K a) H1) ∨ (SqT K H1 a xs ∧ R (ItT K a) H1))
open PyProof.Rows in
theorem pi_enumU {ta : TA} {tpos : Pos} {elts : List Expr} {kk : Nat} (hg : Gl X "enumerate") (hm : X.mg "enumerate" = none) (ha : PA X [e] ta) (hs : starEach [e] X.env = [(false, eval e X.env)] := by rfl) :
    PI X (.Tuple elts kk tpos) (.Call (.Name "enumerate" p) [e] [] pos) (iEnumU X.K ta) := by
  refine ⟨fun pins s σ H R I h => ?_⟩
  refine Call_ (ld_blt I hg hm boot_enumerate (PyProof.Rows.callWith_type1 (thn (ha.run pos pins s σ H _ I h) fun us s1 ⟨vs, H1, I1, r1, q1⟩ => ?_) hs rfl))
  obtain ⟨a, xs, ex, ⟨hq, q⟩ | ⟨hq, q⟩⟩ := q1
  · subst ex
    cases r1 with
    | cons r rr =>
      cases rr
      cases r
      obtain ⟨its, rv, p', hz⟩ := I1.list hq
      refine call_enumerate_list p'.isList fun h' he hit hsz hk => wpAny_pyIter_enum he ?_
      have I2 : Inv X pins σ H1 { s1 with heap := h' } := I1.kept (t' := s1.toks) hk
      refine ⟨s1.heap.objs.size + 1, [s1.heap.objs.size + 1, s1.heap.objs.size], _, _, H1, rfl, I2, turn_enum a (s1.heap.objs.size + 1) s1.heap.objs.size, ⟨⟨.none, he⟩, hit, Nat.succ_ne_self _⟩, fun b hb => ?_, q⟩
      have e' : b = s1.heap.objs.size + 1 ∨ b = s1.heap.objs.size := by simpa using hb
      have hle : s1.heap.objs.size ≤ b := by
        rcases e' with z | z
        · rw [z]; exact Nat.le_add_right _ _
        · rw [z]; exact Nat.le_refl _
      exact I1.fpOk hle (I1.hok.fresh hle)
  · subst ex
    cases r1 with
    | cons r rr =>
      cases rr
      cases r
      obtain ⟨its, rv, pt, hz⟩ := I1.tuple hq
      refine call_enumT (show s1.heap.IsTuple a its.toArray from pt) fun h' en hit hsz hk => wpAny_pyIter_enum en ?_
      have I2 : Inv X pins σ H1 { s1 with heap := h' } := I1.kept (t' := s1.toks) hk
      refine ⟨s1.heap.objs.size + 1, [s1.heap.objs.size + 1, s1.heap.objs.size], _, _, H1, rfl, I2, turn_enumT a (s1.heap.objs.size + 1) s1.heap.objs.size, ⟨⟨.none, en⟩, hit, Nat.succ_ne_self _⟩, fun b hb => ?_, q⟩
      have le : s1.heap.objs.size ≤ b := by
        have eb : b = s1.heap.objs.size + 1 ∨ b = s1.heap.objs.size := by simpa using hb
        rcases eb with rfl | rfl
        · exact Nat.le_add_right _ _
        · exact Nat.le_refl _
      exact I1.fpOk le (I1.hok.fresh le)
def iEn (ps : PL) : PIx := fun δ Q => ps δ fun rs δ1 => ∃ d δ2 ds, fzAll δ1 rs = some ([d], δ2) ∧ seqD d = some ds ∧ Q (enD 0 ds) δ2
theorem vals1 {K : PySem.W.Frag} {G : Hp} {vs : List V} {d : PyData} (h : DqAll K G vs [d]) : ∃ v, vs = [v] ∧ Dq K G v d := by
  cases h with
  | cons h1 h2 => cases h2; exact ⟨_, rfl, h1⟩
theorem ji_enum {ps : PL} {tpos : Pos} {elts : List Expr} {kk : Nat} (hg : Gl X "enumerate") (hm : X.mg "enumerate" = none) (ha : JA X B [e] ps) (hs : starEach [e] X.env = [(false, eval e X.env)] := by rfl) :
    JI X B (.Tuple elts kk tpos) (.Call (.Name "enumerate" p) [e] [] pos) (iEn ps) := PI_wk (pi_enumU hg hm ha hs) fun σ H R ⟨G, w, δ, Qp, rep, q, k⟩ =>
  ⟨G, w, δ, _, rep, q, fun rs δ1 vs H1 G1 w1 q1 _ s1 rep1 => by
    obtain ⟨d, δ2, ds, hz, hs, q1⟩ := q1
    obtain ⟨G2, w2, s2, r2⟩ := rep1.fzs hz
    obtain ⟨v, rfl, hd⟩ := vals1 (r2.ims)
    cases d with
    | list es =>
      cases hs
      cases hd with
      | lst ha hds => exact ⟨_, _, rfl, .inl ⟨SqL.of (r2.sub _ _ ha), k _ δ2 _ H1 G2 _ q1 ((s1.trans s2).trans .drop) r2.drop (itd_enumL ha hds)⟩⟩
    | tuple es =>
      cases hs
      cases hd with
      | tup ha hds => exact ⟨_, _, rfl, .inr ⟨Same.tp r2.sub _ _ ha, k _ δ2 _ H1 G2 _ q1 ((s1.trans s2).trans .drop) r2.drop (itd_enumT ha hds)⟩⟩
    | none => cases hs
    | bool _ => cases hs
    | int _ => cases hs
    | str _ => cases hs
    | dict _ => cases hs⟩
/-! ### zip -/
/-! ### defs of the module -/
def noX : EX := fun _ _ => False
theorem xok_no {K : PySem.W.Frag} {E : XK} : XOk K B noX E := fun _ _ _ _ _ h => h.elim
theorem je_cal {k j : Nat} {x : Str} {pn : List Str} {psp : PSp} {ps : PL} (C : Cal X.prog X.w X.K X.mg X.base CX0 k x pn (LSp X.K B.T psp)) (hr : Room j X.A) (hg : Gl X x) (ha : JA X B (e :: es) ps) (hk : k ≤ j := by decide)
    (hdb : (x == ("__debug__" : Str)) = false := by decide) (he : starEach (e :: es) X.env = (false, eval e X.env) :: starEach es X.env := by rfl) (hpl : (backTo pos (starEach es X.env)).any (·.1) = false := by rfl) :
    JE X B (.Call (.Name x p) (e :: es) [] pos) (pCall psp ps noX) := PE_wk (pe_cal C hr hg ha hk hdb he hpl) fun σ H Q h => call_lift xok_no h
/-! ### repr -/
end
/-! ### a def keeps its promise -/
theorem fn_ok {T : List NdefX.NTab} {P : Program} {w : World} {K : PySem.W.Frag} {mg : Str → Option Value} {base : Heap} {CX : CXT} {k : Nat} {f : Addr} {fd : FuncData} {x qual : Str} {params : Arguments} {body : List Stmt} {scope : Scope} {dvs : List V} {kws : List (Str × V)} {N prm : List Str} {psp : PSp} {p : EX → PSx} {m n : Nat}
    (F : FunD K x qual params body scope dvs kws f fd) (S : FnScope N prm scope) (hN : N.length = m) (hn : prm.length = n) (hnm : n ≤ m) (hlen : ∀ as Qp Ep, psp as Qp Ep → as.length = n)
    (hb : ∀ (cdv : Value) (A : Around) (outer : List Env) (s : Shared) (H : Hp) (E : XK) (Bh Bt : Hp) (Ep : EX), Room k (A.deeper (PyProof.Rows.envOfC qual scope s.heap.objs.size f cdv)) → XOk K ⟨Bh, Bt, T⟩ Ep E → JSs (cxOf CX P w K mg base N qual scope f cdv A outer s H E) ⟨Bh, Bt, T⟩ body (p Ep))
    (hp : ∀ as Qp Ep, psp as Qp Ep → p Ep (endsP as Qp) (as ++ List.replicate (m - n) .un)) : FnOk P w K mg base CX (k + 1) f fd prm (LSp K T psp) := by
  have ln : ∀ vs H Q E, LSp K T psp vs H Q E → vs.length = n := fun vs H Q E ⟨G, w, as, Qp, Ep, rep, _, h, _⟩ => by
    have := rep.len
    rw [List.length_map, hlen as Qp Ep h] at this
    exact this
  refine F.ok S (fun vs H Q E h => by rw [hn]; exact ln vs H Q E h) fun cdv A outer s H vs Q E hr h => ?_
  obtain ⟨Bh, Bt, Ep, hx, hl⟩ := fn_lift (N := N) (p := p) hN (fun as Qp Ep h => by rw [hlen as Qp Ep h]; exact hp as Qp Ep h) h (by rw [ln vs H Q E h]; exact hnm)
  exact ⟨_, hb cdv A outer s H E Bh Bt Ep hr hx, hl⟩
theorem JSs.nox {X : Cx} {st : List Stmt} {p : PSx} (h : JSs X.nox B st p) : JSs X B st p := PSs.nox h
end Pv
/-! errors of one field -/
namespace Wf
open PySem PySem.Spec PyProof.Rows L2
def sp_init1 (K : PySem.W.Frag) (C : Addr) (f1 : Str) : Sp := fun vs H Q _ => ∃ (a : Addr) (w : V), vs = [.ref a, w] ∧ H a = some (exo a C none) ∧
  ∀ dx, H dx = none → dx ≠ a → Q .non (upd (upd H dx (exd dx [(f1, w)])) a (exo a C (some dx)))
def t_init1 (K : PySem.W.Frag) (f1 txt : Str) : TS := tSeq (tDrop (tVeI K (tCons (tVar 0) (tCons (tC (.str txt)) tNil)))) (tOst K f1 (tVar 0) (tVar 1))
theorem pure_init1 {K : PySem.W.Frag} {C : Addr} {f1 txt : Str} (O : OexC K C) (n1 : PySem.W.findIn K (.ref C) f1 = some none) (vs : List V) (H : Hp) (Q : VK) (E : XK) (h : sp_init1 K C f1 vs H Q E) :
    t_init1 K f1 txt (EndsQ Q) (sN 2 vs) H := by
  obtain ⟨a, w, rfl, ha, k⟩ := h
  show t_init1 K f1 txt _ [some (.ref a), some w] H
  refine ⟨_, rfl, a, C, [.str txt], rfl, (by show 1 ≤ 1000; decide), O, ha, ?_⟩
  exact ⟨_, rfl, _, rfl, a, C, rfl, O, n1, .inl ⟨ha, fun dx hd ne => k dx hd ne⟩⟩
structure Err1 (P : Program) (w : World) (K : PySem.W.Frag) (mg : Str → Option Value) (base : Heap) (x f1 : Str) (C : Addr) : Prop where
  g : mg x = some (.ref C)
  o : OexC K C
  ini : ∃ fI fd, PySem.W.findIn K (.ref C) "__init__" = some (some (.ref fI)) ∧ PySem.W.typeIn K (.ref fI) = some (.type "function") ∧ FnOk P w K mg base CX0 1 fI fd ["self", f1] (sp_init1 K C f1) ∧ Binds K fd ["self", f1] []
def tRz1 (C : Addr) (f1 : Str) (W : WX) (ta : TA) : TS := fun _ σ H => ta σ H fun vs H1 => ∃ w, vs = [w] ∧ ∀ d, H1 d = none → W (.ref C) (some d) σ (upd H1 d (.xd [(f1, w)]))
theorem ps_rz1 {X : Cx} {x f1 : Str} {C : Addr} {W : WX} {e1 : Expr} {ta : TA} {p pos pos2 : Pos} {j : Nat} (T : Err1 X.prog X.w X.K X.mg X.base x f1 C) (hr : Room j X.A) (hc : X.calm = true) (tk : Takes X W) (hg : Gl X x) (ha : PA X [e1] ta) (hk : 2 ≤ j := by decide)
    (hdb : (x == ("__debug__" : Str)) = false := by decide) (he : starEach (e1 :: []) X.env = (false, eval e1 X.env) :: starEach [] X.env := by rfl) (hpl : (backTo pos (starEach [] X.env)).any (·.1) = false := by rfl) :
    PS X (.Raise (some (.Call (.Name x p) [e1] [] pos)) none pos2) (tRz1 C f1 W ta) := by
  obtain ⟨fI, fd, iC, tI, F, hb⟩ := T.ini
  have R := ps_raise (pos := pos2) hc tk (pmk_oex (p := p) (pos := pos) T.o iC tI F (hr.mono hk) hb .nil pass0 hg T.g (pa_up ha) hdb he hpl)
  refine ⟨fun pins s σ H D I h => R.run pins s σ H D I ⟨_, h, fun vs H1 q => ?_⟩⟩
  obtain ⟨w, rfl, q⟩ := q
  refine ⟨by show 1 ≤ 1000; decide, fun a ha1 => ⟨a, w, rfl, upd_same, fun dx hd ne => ⟨rfl, dx, [(f1, w)], upd_same, ?_, ?_, ?_⟩⟩⟩
  · rw [upd_ne ne, upd_same]
  · rw [upd_ne ne] at hd
    exact hd
  · have hd1 : H1 dx = none := by
      rw [upd_ne ne] at hd
      exact hd
    have ef : upd (del (upd (upd (upd H1 a (exo a C none)) dx (exd dx [(f1, w)])) a (exo a C (some dx))) a) dx (.xd [(f1, w)]) = upd H1 dx (.xd [(f1, w)]) := by
      funext b
      by_cases h1 : b = dx
      · rw [h1, upd_same, upd_same]
      · rw [upd_ne h1, upd_ne h1]
        by_cases h2 : b = a
        · rw [h2, del_same, ha1]
        · rw [del_ne h2, upd_ne h2, upd_ne h1, upd_ne h2]
    rw [ef]
    exact q dx hd1
end Wf
namespace Pv
open PySem PySem.Spec L2 Wf
variable {B : Bas}
/-! ### raise -/
def pRaise (C : Addr) (fs : List Str) (ps : PL) (Ep : EX) : PSx := fun _ δ => ps δ fun rs δ1 => ∃ ds δ2, fzAll δ1 rs = some (ds, δ2) ∧ noLAll ds = true ∧ Ep C ((fs.zip ds).reverse)
theorem raise_ok {K : PySem.W.Frag} {G H : Hp} {σ : St} {δ : List Sl} {vs : List V} {rs : List R} {w : Addr → Option Nat} {C : Addr} {Ep : EX} {E : XK} {d : Addr} {us : List (Str × V)} {fs : List (Str × PyData)} (hx : XOk K B Ep E) (rep : Rep K B G H σ δ vs rs w) (he : Ep C fs) (hd : H d = none) (hf : FlP K (upd H d (.xd us)) us fs) : E (.ref C) (some d) (upd H d (.xd us)) :=
  hx C fs us d _ he (fun a o ha => by
    have := (rep.bs.to a o ha).1
    rw [upd_ne (ne_of_none this hd)]
    exact this) (rep.bs.tt.trans (tabs_new hd)) (by
    cases e : B d with
    | none => rfl
    | some o => rw [(rep.bs.to d o e).1] at hd; cases hd) upd_same hf
theorem dq_upd {K : PySem.W.Frag} {G H : Hp} {d : Addr} {o : HO} {v : V} {x : PyData} (s : Same G H) (hd : H d = none) (h : Dq K G v x) : Dp K (upd H d o) v x :=
  dq_dp (fun a u ha => by rw [upd_ne (ne_of_none (s a u ha) hd)]; exact s a u ha) _ _ h
theorem noLAll_1 {d : PyData} (h : noLAll [d] = true) : noL d = true := by
  have : (noL d && true) = true := h
  simpa using this
theorem noLAll_2 {d e : PyData} (h : noLAll [d, e] = true) : noL d = true ∧ noL e = true := by
  have : (noL d && (noL e && true)) = true := h
  simpa using this
section
variable {X : Cx} {p pos pos2 : Pos}
theorem js_rz1 {x f1 : Str} {C : Addr} {E : XK} {Ep : EX} {e1 : Expr} {ps : PL} {j : Nat} (T : Err1 X.prog X.w X.K X.mg X.base x f1 C) (hr : Room j X.A) (hc : X.calm = true) (tk : Takes X fun cls d _ H => E cls d H) (hx : XOk X.K B Ep E) (hg : Gl X x) (ha : JA X B [e1] ps) (hk : 2 ≤ j := by decide)
    (hdb : (x == ("__debug__" : Str)) = false := by decide) (he : starEach (e1 :: []) X.env = (false, eval e1 X.env) :: starEach [] X.env := by rfl) (hpl : (backTo pos (starEach [] X.env)).any (·.1) = false := by rfl) :
    JS X B (.Raise (some (.Call (.Name x p) [e1] [] pos)) none pos2) (pRaise C [f1] ps Ep) := PS_wk (ps_rz1 T hr hc tk hg ha hk hdb he hpl) fun D σ H ⟨G, w, δ, E', rep, h, ek⟩ =>
  ⟨G, w, δ, _, rep, h, fun rs δ1 vs H1 G1 w1 q1 l1 s1 rep1 => by
    obtain ⟨ds, δ2, hz, hn, q1⟩ := q1
    obtain ⟨G2, w2, s2, r2⟩ := rep1.fzs hz
    have hd := r2.ims
    have hl : vs.length = 1 := rep1.tlen.trans l1
    match vs, ds, hd, hl, hn, q1 with
    | [v], [d], .cons h1 .nil, _, hn, q1 => exact ⟨v, rfl, fun dd hdd => raise_ok hx r2 q1 hdd (.cons (dq_upd r2.sub hdd h1) (noLAll_1 hn) .nil)⟩⟩
theorem js_rz2 {x f1 f2 : Str} {C : Addr} {E : XK} {Ep : EX} {e1 e2 : Expr} {ps : PL} {j : Nat} (T : Err2 X.prog X.w X.K X.mg X.base x f1 f2 C) (hr : Room j X.A) (hc : X.calm = true) (tk : Takes X fun cls d _ H => E cls d H) (hx : XOk X.K B Ep E) (hg : Gl X x) (ha : JA X B [e1, e2] ps) (hk : 2 ≤ j := by decide)
    (hdb : (x == ("__debug__" : Str)) = false := by decide) (he : starEach (e1 :: [e2]) X.env = (false, eval e1 X.env) :: starEach [e2] X.env := by rfl) (hpl : (backTo pos (starEach [e2] X.env)).any (·.1) = false := by rfl) :
    JS X B (.Raise (some (.Call (.Name x p) [e1, e2] [] pos)) none pos2) (pRaise C [f1, f2] ps Ep) := PS_wk (ps_rz2 T hr hc tk hg ha hk hdb he hpl) fun D σ H ⟨G, w, δ, E', rep, h, ek⟩ =>
  ⟨G, w, δ, _, rep, h, fun rs δ1 vs H1 G1 w1 q1 l1 s1 rep1 => by
    obtain ⟨ds, δ2, hz, hn, q1⟩ := q1
    obtain ⟨G2, w2, s2, r2⟩ := rep1.fzs hz
    have hd := r2.ims
    have hl : vs.length = 2 := rep1.tlen.trans l1
    match vs, ds, hd, hl, hn, q1 with
    | [v, u], [d, e], .cons h1 (.cons h2 .nil), _, hn, q1 => exact ⟨v, u, rfl, fun dd hdd => raise_ok hx r2 q1 hdd (.cons (dq_upd r2.sub hdd h2) (noLAll_2 hn).2 (.cons (dq_upd r2.sub hdd h1) (noLAll_2 hn).1 .nil))⟩⟩
end
/-! ### all tuples are public -/
open Classical in
noncomputable def pubT (G H : Hp) (x : Option (Addr × HO)) : Hp := fun a => match x with
  | some (d, o) => if a = d then some o else match G a with
    | some u => some u
    | none => if ∃ xs, RdX H a xs then H a else none
  | none => match G a with
    | some u => some u
    | none => if ∃ xs, RdX H a xs then H a else none
open Classical in
theorem pubT_some {G H : Hp} {x : Option (Addr × HO)} {a : Addr} {o : HO} (h : pubT G H x a = some o) : (∃ u, x = some (a, u) ∧ o = u) ∨ G a = some o ∨ (H a = some o ∧ ∃ xs, RdX H a xs) := by
  unfold pubT at h
  have go : (match G a with
    | some u => some u
    | none => if ∃ xs, RdX H a xs then H a else none) = some o → G a = some o ∨ (H a = some o ∧ ∃ xs, RdX H a xs) := fun h => by
    cases e : G a with
    | some u => rw [e] at h; exact .inl h
    | none =>
      rw [e] at h
      dsimp only at h
      split at h
      · rename_i z; exact .inr ⟨h, z⟩
      · cases h
  cases x with
  | none => exact .inr (go h)
  | some p =>
    obtain ⟨d, u⟩ := p
    dsimp only at h
    split at h
    · rename_i e; subst e; cases h; exact .inl ⟨_, rfl, rfl⟩
    · exact .inr (go h)
open Classical in
theorem pubT_g {G H : Hp} {x : Option (Addr × HO)} (hx : ∀ d u, x = some (d, u) → G d = none) : Same G (pubT G H x) := fun a o h => by
  unfold pubT
  cases x with
  | none => rw [h]
  | some p =>
    obtain ⟨d, u⟩ := p
    dsimp only
    rw [if_neg (fun e => by subst e; rw [hx a u rfl] at h; cases h), h]
open Classical in
theorem pubT_tup {K : PySem.W.Frag} {G H : Hp} {x : Option (Addr × HO)} (s : Same G H) (hx : ∀ d u, x = some (d, u) → NoT H d) {a : Addr} {xs : List V} (h : SqT K H a xs) : SqT K (pubT G H x) a xs := by
  rcases h with h | h
  · refine .inl ?_
    have e : pubT G H x a = H a := by
      have body : (match G a with
        | some u => some u
        | none => if ∃ xs, RdX H a xs then H a else none) = H a := by
        cases e : G a with
        | some u => exact (s a u e).symm
        | none => dsimp only; rw [if_pos ⟨some xs, h⟩]
      unfold pubT
      cases x with
      | none => exact body
      | some p =>
        obtain ⟨d, u⟩ := p
        dsimp only
        rw [if_neg (fun e => by subst e; exact hx a u rfl xs h)]
        exact body
    rcases h with h | ⟨o, h⟩
    · exact .inl (by rw [e]; exact h)
    · exact .inr ⟨o, by rw [e]; exact h⟩
  · exact .inr h
mutual
theorem dp_pub {K : PySem.W.Frag} {G H : Hp} {x : Option (Addr × HO)} (s : Same G H) (hx : ∀ d u, x = some (d, u) → NoT H d) : ∀ (d : PyData) (v : V), noL d = true → Dp K H v d → Dq K (pubT G H x) v d
  | .none, _, _, h => by cases h; exact .non
  | .bool b, _, _, h => by cases h; exact .bl b
  | .int i, _, _, h => by cases h; exact .int i
  | .str x, _, _, h => by cases h; exact .str x
  | .list _, _, n, _ => nomatch n
  | .dict _, _, _, h => by cases h
  | .tuple ds, _, n, h => by
    cases h with
    | tup hs ha => exact .tup (pubT_tup s hx hs) (dpAll_pub s hx ds _ n ha)
theorem dpAll_pub {K : PySem.W.Frag} {G H : Hp} {x : Option (Addr × HO)} (s : Same G H) (hx : ∀ d u, x = some (d, u) → NoT H d) : ∀ (ds : List PyData) (vs : List V), noLAll ds = true → DpAll K H vs ds → DqAll K (pubT G H x) vs ds
  | [], _, _, h => by cases h; exact .nil
  | d :: ds, _, n, h => by
    have n2 : (noL d && noLAll ds) = true := n
    rw [Bool.and_eq_true] at n2
    cases h with
    | cons h1 h2 => exact .cons (dp_pub s hx d _ n2.1 h1) (dpAll_pub s hx ds _ n2.2 h2)
end
/-- all that stood stands; new things beside, the tuples public now -/
theorem Rep.pub {K : PySem.W.Frag} {G H H2 : Hp} {σ : St} {δ : List Sl} {w : Addr → Option Nat} (r : Rep K B G H σ δ [] [] w) {x : Option (Addr × HO)} (s : ∀ a o, NT o → H a = some o → H2 a = some o) (tg : TbG B.T H H2) (hx : ∀ d u, x = some (d, u) → H d = none ∧ H2 d = some u ∧ NT u) :
    Stp B.T G H w δ (pubT G H2 x) H2 w δ ∧ Rep K B (pubT G H2 x) H2 σ δ [] [] w := by
  have gx : ∀ d u, x = some (d, u) → G d = none := fun d u e => by
    cases e2 : G d with
    | none => rfl
    | some o => have := r.sub d o e2; rw [(hx d u e).1] at this; cases this
  have sg := pubT_g (H := H2) gx
  have both : ∀ a o, H a = some o → H2 a = some o ∨ ∃ ps qs, o = .tbl ps ∧ H2 a = some (.tbl qs) := fun a o h => by
    by_cases hn : NT o
    · exact .inl (s a o hn h)
    · have : ∃ ps, o = .tbl ps := Classical.byContradiction fun z => hn fun ps e => z ⟨ps, e⟩
      obtain ⟨ps, rfl⟩ := this
      obtain ⟨qs, h2⟩ := tg.st a ps h
      exact .inr ⟨ps, qs, rfl, h2⟩
  have ngt : ∀ {a : Addr} {o : HO}, G a = some o → NT o := fun {a o} h ps e => r.bs.gt a ps (by rw [h, e])
  have st : Stp B.T G H w δ (pubT G H2 x) H2 w δ := by
    refine ⟨sg, fun a o _ h => both a o h, fun a i h => .inl (by rw [h]; exact Option.some_ne_none _), fun a o h => ?_, .refl _, tg, fun a ps h => ?_⟩
    rotate_left
    · rcases pubT_some h with ⟨u, e, z⟩ | h | ⟨h, xs, hr⟩
      · exact absurd z.symm ((hx a u e).2.2 ps)
      · exact h
      · exact absurd hr (NoX.tbl h xs)
    rcases pubT_some h with ⟨u, e, _⟩ | h | ⟨h, xs, hr⟩
    · exact .inr (.inl (hx a u e).1)
    · exact .inl h
    · cases e : H a with
      | none => exact .inr (.inl rfl)
      | some u =>
        refine .inr (.inr (.inr ⟨xs, ?_⟩))
        rcases both a u e with e2 | ⟨_, _, _, e2⟩
        · exact RdX.same e e2 hr
        · exact absurd hr (NoX.tbl e2 xs)
  refine ⟨st, fun a o h => ?_, fun a i h => ?_, r.len, fun i sl h => ((r.sl i sl h).monoN sg (fun a u hn _ hu => s a u hn hu) fun a u ma _ => ma), rfl, fun j v q hv => by simp at hv, st.bs r.bs⟩
  · rcases pubT_some h with ⟨u, e, rfl⟩ | h | ⟨h, _⟩
    · exact (hx a _ e).2.1
    · exact s a o (ngt h) (r.sub a o h)
    · exact h
  · obtain ⟨g0, h0, n0⟩ := r.out a i h
    cases e : H a with
    | none => exact absurd e h0
    | some u =>
      have n2 : H2 a ≠ none ∧ NoX H2 a := by
        rcases both a u e with e2 | ⟨_, _, _, e2⟩
        · exact ⟨by rw [e2]; exact Option.some_ne_none _, n0.same e e2⟩
        · exact ⟨by rw [e2]; exact Option.some_ne_none _, NoX.tbl e2⟩
      refine ⟨?_, n2⟩
      cases e3 : pubT G H2 x a with
      | none => rfl
      | some o =>
        rcases pubT_some e3 with ⟨u', e', _⟩ | h' | ⟨_, xs, hr⟩
        · have := (hx a u' e').1; rw [e] at this; cases this
        · rw [g0] at h'; cases h'
        · exact absurd hr (n2.2 xs)
theorem flp_fl {K : PySem.W.Frag} {G H : Hp} {x : Option (Addr × HO)} (s : Same G H) (hx : ∀ d u, x = some (d, u) → NoT H d) : ∀ {us : List (Str × V)} {fs : List (Str × PyData)}, FlP K H us fs → Fl K (pubT G H x) us fs
  | _, _, .nil => .nil
  | _, _, .cons h1 h2 h3 => .cons (dp_pub s hx _ _ h2 h1) (flp_fl s hx h3)
/-! ### try: name = an expression with one call that may raise -/
abbrev HX := Addr → List (Str × PyData) → List Sl → Prop
abbrev PXx := List Sl → QE → HX → Prop
def LEx (K : PySem.W.Frag) (B : Bas) (W : WX) (p : PXx) : TE := fun σ H Q => ∃ G w δ Qp Hd, Rep K B G H σ δ [] [] w ∧ p δ Qp Hd ∧ (∀ r δ' v H' G' w', Qp r δ' → Stp B.T G H w δ G' H' w' δ' → Rep K B G' H' σ δ' [v] [r] w' → Q v H') ∧
  ∀ C fs us d δ' H' G' w', Hd C fs δ' → Stp B.T G H w δ G' H' w' δ' → Rep K B G' H' σ δ' [] [] w' → G' d = some (.xd us) → Fl K G' us fs → W (.ref C) (some d) σ H'
def JX (X : Cx) (B : Bas) (W : WX) (e : Expr) (p : PXx) : Prop := PE X e (LEx X.K B W p)
/-- all arguments are data -/
def imsOf : List R → Option (List PyData)
  | [] => some []
  | .im d :: rs => (imsOf rs).map (d :: ·)
  | _ :: _ => none
theorem imsOf_eq : ∀ {rs : List R} {ds : List PyData}, imsOf rs = some ds → rs = ds.map .im
  | [], _, h => by cases h; rfl
  | .im d :: rs, ds, h => by
    obtain ⟨es, h1, rfl⟩ := Option.map_eq_some_iff.mp (show (imsOf rs).map (d :: ·) = some ds from h)
    rw [imsOf_eq h1]
    rfl
  | .ow o :: rs, _, h => by cases h
  | .at i :: rs, _, h => by cases h
def xCall (ps : PSp) (pa : PL) : PXx := fun δ Q Hd => pa δ fun rs δ1 => ∃ ds, imsOf rs = some ds ∧ ps (ds.map .im) (fun r _ => Q r δ1) fun C fs => Hd C fs δ1
theorem xcall_lift {K : PySem.W.Frag} {W : WX} {ps : PSp} {pa : PL} {n : Nat} {σ : St} {H : Hp} {Q : VK} (h : LEx K B W (xCall ps pa) σ H Q) : tCallS (LSp K B.T ps) (WE W) (LA K B n pa) σ H Q := by
  obtain ⟨G, w, δ, Qp, Hd, rep, q, k, x⟩ := h
  refine ⟨G, w, δ, _, rep, q, fun rs δ1 vs H1 G1 w1 q1 _ s1 rep1 => ?_⟩
  obtain ⟨ds, hi, q1⟩ := q1
  have er := imsOf_eq hi
  subst er
  have hd := rep1.ims
  have hl := dqAll_len hd
  have bs0 : BsOk (B0 B.T H1 (fun _ => none)) G1 H1 (fun _ => none) := ⟨fun a o h => B0_some h, .refl, rep1.bs.tt.ts rep1.bs.ta, rep1.bs.gt⟩
  refine ⟨G1, fun _ => none, ds.map .im, _, _, ⟨rep1.sub, fun a i h => (nomatch h), by rw [List.length_map, List.length_map]; exact hl, fun j s hs => ?_, rfl, fun j v r hv => by simp at hv, bs0⟩, fun s hs => ?_, q1, fun r os v H2 G2 w2 hq hr st rp => ?_, fun C fs us d H2 he hs htb hbd hdd hf => ?_⟩
  · rw [List.getElem?_map] at hs
    obtain ⟨d, h1, rfl⟩ := Option.map_eq_some_iff.mp hs
    obtain ⟨v, hv, hq⟩ := dqAll_get hd h1
    exact ⟨v, by rw [List.getElem?_map, hv]; rfl, hq⟩
  · obtain ⟨d, _, rfl⟩ := List.mem_map.mp hs
    exact .inr (.inl ⟨d, rfl⟩)
  · -- nothing of ours was handed on: frame
    have same : ∀ a o, NT o → H1 a = some o → H2 a = some o := fun a o hn ha => st.bN a o hn rfl ha
    have rd := rep1.drop
    have w2n : ∀ a i, evn (w1 a) = some i → w2 a = none := fun a i h => by
      cases e : w2 a with
      | none => rfl
      | some m =>
        rcases st.n a m e with z | z
        · exact absurd rfl z
        · exact absurd z (rd.out a i h).2.1
    have out2 : ∀ a i, evn (w1 a) = some i → G2 a = none ∧ H2 a ≠ none ∧ NoX H2 a := fun a i h => by
      obtain ⟨g0, h0, n0⟩ := rd.out a i h
      refine ⟨?_, st.nn a rfl h0 n0⟩
      cases e6 : G2 a with
      | none => rfl
      | some o =>
        rcases st.p a o e6 with z | z | z | ⟨xs, z⟩
        · rw [g0] at z; cases z
        · exact absurd z h0
        · exact absurd rfl z
        · exact absurd z (n0 xs)
    let wf : Addr → Option Nat := fun a => match w2 a with
      | some m => if m % 2 = 1 then some m else none
      | none => evn (w1 a)
    have st' : Stp B.T G1 H1 w1 δ1 G2 H2 wf δ1 := by
      refine ⟨st.g, fun a o _ ho => st.b a o rfl ho, fun a m hm => ?_, fun a o ho => ?_, .refl _, st.t, st.q⟩
      · cases e2 : w2 a with
        | some m2 =>
          rcases st.n a m2 e2 with z | z
          · exact absurd rfl z
          · exact .inr z
        | none =>
          have hm' : evn (w1 a) = some m := by
            have : wf a = evn (w1 a) := by show (match w2 a with | some m => if m % 2 = 1 then some m else none | none => evn (w1 a)) = _; rw [e2]
            rw [← this]; exact hm
          exact .inl (by rw [(evn_some.mp hm').1]; exact Option.some_ne_none _)
      · rcases st.p a o ho with z | z | z | z
        · exact .inl z
        · exact .inr (.inl z)
        · exact absurd rfl z
        · exact .inr (.inr (.inr z))
    refine k r δ1 v H2 G2 wf hq (s1.trans st') ⟨rp.sub, fun a m hm => ?_, rep1.len, fun i s hs => ?_, rfl, fun j u p hu hp => ?_, st'.bs rep1.bs⟩
    · cases e2 : w2 a with
      | some m2 => exact rp.out a m2 e2
      | none =>
        have hm' : evn (w1 a) = some m := by
          have : wf a = evn (w1 a) := by show (match w2 a with | some m => if m % 2 = 1 then some m else none | none => evn (w1 a)) = _; rw [e2]
          rw [← this]; exact hm
        exact out2 a m hm'
    · refine (rd.sl i s hs).monoN st.g (fun a u hn ma hu => same a u hn hu) fun a u ma hu => ?_
      have ma' : evn (w1 a) = some (2 * i) := ma
      show (match w2 a with | some m => if m % 2 = 1 then some m else none | none => evn (w1 a)) = _
      rw [w2n a _ ma']
      exact ma'
    · match j with
      | 0 =>
        simp only [List.getElem?_cons_zero, Option.some.injEq] at hu hp
        subst hu hp
        have t := rp.tm 0 v r rfl rfl
        cases r with
        | im d => exact t
        | ow o =>
          refine RO.mono (fun _ _ h => h) (fun _ _ _ h => h) (fun a u ma _ => ?_) t
          show (match w2 a with | some m => if m % 2 = 1 then some m else none | none => evn (w1 a)) = _
          rw [ma]
          rfl
        | «at» i => cases hr
      | j + 1 => simp at hu
  · -- an error: all stands
    have same : ∀ a o, NT o → H1 a = some o → H2 a = some o := fun a o hn ha => hs a o (nTb_of ha hn)
    have hd1 : H1 d = none := by
      have hb : nTb (H1 d) = none := hbd
      cases e : H1 d with
      | none => rfl
      | some o =>
        by_cases hn : NT o
        · rw [nTb_of e hn] at hb; cases hb
        · have : ∃ ps, o = .tbl ps := Classical.byContradiction fun z => hn fun ps e => z ⟨ps, e⟩
          obtain ⟨ps, rfl⟩ := this
          obtain ⟨qs, h2⟩ := htb.st d ps e
          rw [hdd] at h2
          cases h2
    have rd := rep1.drop
    have hx : ∀ d' u, some (d, HO.xd us) = some (d', u) → H1 d' = none ∧ H2 d' = some u ∧ NT u := fun d' u e => by cases e; exact ⟨hd1, hdd, nofun⟩
    obtain ⟨s2, r2⟩ := rd.pub (x := some (d, .xd us)) same htb hx
    have nt : ∀ d' u, some (d, HO.xd us) = some (d', u) → NoT H2 d' := fun d' u e => by
      cases e
      intro xs z
      rcases z with z | ⟨ob, z⟩ <;> rw [hdd] at z <;> cases z
    refine x C fs us d δ1 H2 _ _ he ((s1.trans .drop).trans s2) r2 ?_ (flp_fl (fun a o h => same a o (fun ps e => rep1.bs.gt a ps (by rw [h, e])) (rep1.sub a o h)) nt hf)
    unfold pubT
    dsimp only
    rw [if_pos rfl]
end Pv
namespace Pv
open PySem PySem.Spec L2 Wf
variable {B : Bas}
section
variable {X : Cx} {W : WX} {e e1 e2 a b c : Expr} {es : List Expr} {p pos : Pos}
theorem jx_call {k j : Nat} {x : Str} {pn : List Str} {psp : PSp} {ps : PL} (C : CalX X.prog X.w X.K X.mg X.base k x pn (LSp X.K B.T psp)) (hr : Room j X.A) (tk : Takes X W) (hg : Gl X x) (ha : JA X B (e :: es) ps) (hk : k ≤ j := by decide)
    (hdb : (x == ("__debug__" : Str)) = false := by decide) (he : starEach (e :: es) X.env = (false, eval e X.env) :: starEach es X.env := by rfl) (hpl : (backTo pos (starEach es X.env)).any (·.1) = false := by rfl) :
    JX X B W (.Call (.Name x p) (e :: es) [] pos) (xCall psp ps) := PE_wk (pe_calT C hr tk hg ha hk hdb he hpl) fun σ H Q h => xcall_lift h
/-- (a, f(..)) -/
def xTup2 (p1 : PX) (p2 : PXx) : PXx := fun δ Q Hd => p1 δ fun r1 δ1 => p2 δ1 (fun r2 δ2 => ∃ ds δ3, fzAll δ2 [r1, r2] = some (ds, δ3) ∧ Q (.im (.tuple ds)) δ3) Hd
theorem jx_tup2 {p1 : PX} {p2 : PXx} {x1} (h1 : JE X B e1 p1) (h2 : JX X B W e2 p2) (hs : starEach [e1, e2] X.env = (false, eval e1 X.env) :: starEach [e2] X.env := by rfl) (hs2 : starEach [e2] X.env = (false, eval e2 X.env) :: starEach [] X.env := by rfl) :
    JX X B W (.Tuple [e1, e2] x1 pos) (xTup2 p1 p2) := by
  refine PE_wk (pe_tup (pa_cons h1 (pa_cons h2 pa_nil hs2) hs)) fun σ H Q ⟨G, w, δ, Qp, Hd, rep, q, k, x⟩ => ?_
  refine ⟨G, w, δ, _, rep, q, fun r1 δ1 v1 H1 G1 w1 q1 s1 rep1 => ?_⟩
  refine ⟨G1, _, δ1, _, _, rep1.drop, q1, fun r2 δ2 v2 H2 G2 w2 q2 s2 rep2 => ?_, fun C fs us d δ' H' G' w' hd st rp hg hf => x C fs us d δ' H' G' w' hd ((s1.trans .drop).trans st) rp hg hf⟩
  obtain ⟨w3, s3, rep3⟩ := rep1.frame s2 rep2
  obtain ⟨ds, δ3, hz, q2⟩ := q2
  obtain ⟨G4, w4, s4, r4⟩ := rep3.fzs hz
  refine ⟨by show 2 ≤ sizeLine; decide, fun p hp => ?_⟩
  obtain ⟨s5, r5⟩ := r4.retNew hp (dq_newTup r4.sub hp r4.ims)
  exact k _ _ _ _ _ _ q2 (((s1.trans s3).trans s4).trans s5) r5
end
/-- try: slot j = p; except .. as slot i: su -/
def pTry (i j : Nat) (cat : Addr → Prop) (p : PXx) (su : Addr → Value → Option Addr → PSx) : PSx := fun E δ => p δ (fun r δ1 => ∃ q δ2, rz δ1 r = some (q, δ2) ∧ setS j q δ2 E.nx) fun C fs δ' => cat C ∧ match δ'[i]? with
  | none => False
  | some (.ow true _) => False
  | some _ => ∀ a dd, su a (.ref C) (some dd) ⟨fun δ2 => E.nx (δ2.set i .un), E.rt, fun δ2 => E.bk (δ2.set i .un), fun δ2 => E.ct (δ2.set i .un)⟩ (δ'.set i (.ex a dd C fs))
theorem js_try {X : Cx} {i j : Nat} {x n y : Str} {cat : Addr → Prop} {c : Value} {p : PXx} {su : Addr → Value → Option Addr → PSx} {e : Expr} {b₀ : Stmt} {suite : List Stmt} {np py pos pos' pos2 : Pos} (hs : X.stack = X.env :: X.outer) (hf : X.env.frame = some X.env.locals) (hN : X.N.Nodup) (hi : X.N[i]? = some n) (hln : X.env.kindOf n = some .local) (hc : Names X x c)
    (hj : X.N[j]? = some y) (hy : Loc X.env.scope y) (hcat : ∀ C, cat C → PySem.W.exmOne X.K (.ref C) c = some true)
    (he : ∀ (W : WX) (pn : List (Addr × Obj)) (xe : Value → Shared → Prop), Takes (X.tr pn xe) W → JX (X.tr pn xe) B W e p)
    (hsu : ∀ (a : Addr) (oe : Obj) (cls : Value) (d : Option Addr) (pn : List (Addr × Obj)), Zc cls d oe → (∃ vs, oe.data = .fields vs) → JSs (X.suite a ((a, oe) :: pn)) B (b₀ :: suite) (su a cls d))
    (hsw : swapsWith e (some (.Name y py)) pos2.line X.env = pure false := by rfl) (hfn : X.fn y = true ∨ X.env.scope.names.lookup y = some .local := by first | exact .inl rfl | exact .inr rfl | assumption) :
    JS X B (.Try [.Assign [.Name y py] e pos2] [.ExceptHandler (some (.Name x np)) (some n) (b₀ :: suite) pos'] [] [] pos) (pTry i j cat p su) := by
  refine PS_wk (ps_try_as (i := i) (tb := fun W => tAsg (LEx X.K B W p) (gName j)) (ts := fun a cls d => LS X.K B (su a cls d)) (Wout := fun _ _ _ _ => False) hs hf hN hi hln hc L2.takes0 (fun W pn xe tk _ => pss_one (ps_set (i := j) hN hj hy (he W pn xe tk) hsw hfn)) hsu) fun D σ H ⟨G, w, δ, E, rep, h, ek⟩ => ?_
  refine ⟨G, w, δ, _, _, rep, h, fun r δ1 v H1 G1 w1 q1 s1 rep1 => ?_, fun C fs us d δ' H' G' w' hd st rp hg hfl => ?_⟩
  · obtain ⟨q, δ2, hz, q1⟩ := q1
    obtain ⟨G2, w2, s2, r2⟩ := rep1.rz1 (j := 0) rfl hz
    obtain ⟨w3, q3, s3, r3, p3⟩ := r2.sto q1 (rz_noAt hz) (fun p hp => by cases hp)
    exact ek.nx _ _ H1 G2 w3 q3 ((s1.trans s2).trans s3) r3 ((Pin.refl (σ := σ)).trans (s1.trans s2).pn p3)
  · obtain ⟨hc1, hd⟩ := hd
    refine ⟨true, hcat C hc1, fun _ a ha => ?_, fun z => nomatch z⟩
    have hdi : ∃ s, δ'[i]? = some s ∧ (∀ o, s ≠ .ow true o) ∧ ∀ a dd, su a (.ref C) (some dd) ⟨fun δ2 => E.nx (δ2.set i .un), E.rt, fun δ2 => E.bk (δ2.set i .un), fun δ2 => E.ct (δ2.set i .un)⟩ (δ'.set i (.ex a dd C fs)) := by
      revert hd
      split
      · intro h; exact h.elim
      · intro h; exact h.elim
      · rename_i s hn e
        intro h
        exact ⟨s, e, fun o z => hn o z, h⟩
    obtain ⟨s, e1, e2, hsu'⟩ := hdi
    have hil : i < δ'.length := (List.getElem?_eq_some_iff.mp e1).1
    have hiσ : i < σ.length := by rw [rp.len]; exact hil
    have np' : ∀ o, δ'[i]? ≠ some (.ow true o) := fun o z => by rw [e1] at z; cases z; exact e2 o rfl
    have np0 : ∀ (k : Nat) o, δ[k]? = some (Sl.ow true o) → i ≠ k := fun k o hk z => by
      subst z
      obtain ⟨o', h'⟩ := st.pn i o hk
      exact np' o' h'
    have stx : Stp B.T G H w δ G' H' w' (δ'.set i (.ex a d C fs)) := st.reδ (st.pn.trans (pn_set np'))
    have rx : Rep X.K B G' H' (σ.set i (some (.ref a))) (δ'.set i (.ex a d C fs)) [] [] w' := ⟨rp.sub, rp.out, by rw [List.length_set, List.length_set]; exact rp.len, fun k s' hk => by
      by_cases ek' : i = k
      · subst ek'
        rw [List.getElem?_set_self hil] at hk
        cases hk
        exact ⟨List.getElem?_set_self hiσ, us, hg, hfl⟩
      · rw [List.getElem?_set_ne ek'] at hk
        rw [List.getElem?_set_ne ek']
        exact rp.sl k s' hk, rfl, fun j v q hv => by simp at hv, rp.bs⟩
    have pinx : Pin σ δ (σ.set i (some (.ref a))) := fun k o hk => List.getElem?_set_ne (np0 k o hk)
    have fin : ∀ {G2 H2 : Hp} {w2 : Addr → Option Nat} {δ2 : List Sl} {σ2 : St}, Stp B.T G' H' w' (δ'.set i (.ex a d C fs)) G2 H2 w2 δ2 → Rep X.K B G2 H2 σ2 δ2 [] [] w2 → Pin (σ.set i (some (.ref a))) (δ'.set i (.ex a d C fs)) σ2 → Stp B.T G H w δ G2 H2 w2 (δ2.set i .un) ∧ Rep X.K B G2 H2 (σ2.set i none) (δ2.set i .un) [] [] w2 ∧ Pin σ δ (σ2.set i none) := fun {G2 H2 w2 δ2 σ2} s2 r2 p2 => by
      have sa := stx.trans s2
      refine ⟨sa.reδ fun k o hk => ?_, ⟨r2.sub, r2.out, by rw [List.length_set, List.length_set]; exact r2.len, fun k s' hk => ?_, rfl, fun j v q hv => by simp at hv, r2.bs⟩, fun k o hk => ?_⟩
      · obtain ⟨o', h'⟩ := sa.pn k o hk
        exact ⟨o', by rw [List.getElem?_set_ne (np0 k o hk)]; exact h'⟩
      · by_cases ek' : i = k
        · subst ek'
          by_cases hb : i < δ2.length
          · rw [List.getElem?_set_self hb] at hk
            cases hk
            trivial
          · rw [List.getElem?_eq_none (by rw [List.length_set]; omega)] at hk; cases hk
        · rw [List.getElem?_set_ne ek'] at hk
          rw [List.getElem?_set_ne ek']
          exact r2.sl k s' hk
      · rw [List.getElem?_set_ne (np0 k o hk)]
        exact (pinx.trans stx.pn p2) k o hk
    refine ⟨G', w', _, _, rx, hsu' a d, ⟨fun δ2 σ2 H2 G2 w2 h2 s2 r2 p2 => ?_, fun r δ2 v σ2 H2 G2 w2 h2 ha2 s2 r2 p2 => ?_, fun δ2 σ2 H2 G2 w2 h2 s2 r2 p2 => ?_, fun δ2 σ2 H2 G2 w2 h2 s2 r2 p2 => ?_⟩⟩
    · obtain ⟨f1, f2, f3⟩ := fin s2 r2 p2
      exact ek.nx _ _ H2 G2 w2 h2 f1 f2 f3
    · exact ek.rt r δ2 v σ2 H2 G2 w2 h2 ha2 (stx.trans s2) r2 (pinx.trans stx.pn p2)
    · obtain ⟨f1, f2, f3⟩ := fin s2 r2 p2
      exact ek.bk _ _ H2 G2 w2 h2 f1 f2 f3
    · obtain ⟨f1, f2, f3⟩ := fin s2 r2 p2
      exact ek.ct _ _ H2 G2 w2 h2 f1 f2 f3
/-! ### what is asked of the caught error -/
section
variable {X : Cx} {a : Addr} {oe : Obj} {cls : Value} {d : Option Addr} {pn : List (Addr × Obj)} {e : Expr} {p pos pt : Pos}
/-- isinstance(n, one class) -/
def pIsX (sb : Addr → Option Bool) (a : Addr) (cls : Value) (d : Option Addr) (i : Nat) : PX := fun δ Q => ∃ dd C fs b, δ[i]? = some (.ex a dd C fs) ∧ cls = .ref C ∧ d = some dd ∧ sb C = some b ∧ Q (.im (.bool b)) δ
theorem rep_ex {K : PySem.W.Frag} {G H : Hp} {σ : St} {δ : List Sl} {vs : List V} {rs : List R} {w : Addr → Option Nat} (r : Rep K B G H σ δ vs rs w) {i : Nat} {a dd C : Addr} {fs : List (Str × PyData)} (h : δ[i]? = some (.ex a dd C fs)) : σ[i]? = some (some (.ref a)) ∧ ∃ us, H dd = some (.xd us) ∧ Fl K G us fs := by
  obtain ⟨h1, us, h2, h3⟩ := r.sl i _ h
  exact ⟨h1, us, r.sub _ _ h2, h3⟩
/-- n.f -/
def pXf (C : Addr) (a : Addr) (cls : Value) (d : Option Addr) (i : Nat) (f : Str) : PX := fun δ Q => ∃ dd fs v, δ[i]? = some (.ex a dd C fs) ∧ cls = .ref C ∧ d = some dd ∧ fs.lookup f = some v ∧ Q (.im v) δ
theorem fl_lookup {K : PySem.W.Frag} {G : Hp} {f : Str} : ∀ {us : List (Str × V)} {fs : List (Str × PyData)} {x : PyData}, Fl K G us fs → fs.lookup f = some x → ∃ v, us.lookup f = some v ∧ Dq K G v x
  | _, _, _, .nil, h => by cases h
  | _, _, x, .cons (x := y) h1 h2, h => by
    simp only [List.lookup_cons] at h ⊢
    split at h
    · cases h; exact ⟨_, rfl, h1⟩
    · exact fl_lookup h2 h
end
end Pv
namespace Pv
open PySem PySem.Spec L2 Wf
variable {B : Bas}
theorem _root_.Wf.Cal.imp {P : Program} {w : World} {K : PySem.W.Frag} {mg : Str → Option Value} {base : Heap} {CX : CXT} {k : Nat} {x : Str} {ps : List Str} {sp sp' : Sp} (C : Wf.Cal P w K mg base CX k x ps sp) (h : ∀ vs H Q E, sp' vs H Q E → sp vs H Q E) : Wf.Cal P w K mg base CX k x ps sp' := by
  obtain ⟨f, fd, F, r⟩ := C.ex
  exact ⟨f, fd, F.imp h, r⟩
section
variable {K : PySem.W.Frag} {G H H' : Hp} {σ : St} {δ : List Sl} {vs : List V} {rs : List R} {w : Addr → Option Nat}
theorem noT_same {H H' : Hp} {a : Addr} {u : HO} (e : H a = some u) (e2 : H' a = some u) (n : NoX H a) : NoX H' a := n.same e e2
theorem noT_deal {H : Hp} {d l : Addr} (h : Deal H d l) : NoX H d ∧ NoX H l ∧ H d ≠ none ∧ H l ≠ none := by
  obtain ⟨s, m, n, ns, h1, h2, _⟩ := h.ex
  exact ⟨NoX.of h1 (fun _ z => by cases z) (fun _ _ z => by cases z) (fun _ z => by cases z), NoX.lst h2, by rw [h1]; exact Option.some_ne_none _, by rw [h2]; exact Option.some_ne_none _⟩
theorem tabs_deal {T : List NdefX.NTab} {H H' : Hp} {d l : Addr} (but : But [d, l] H H') (dl : Deal H d l) : TbG T H H' := by
  obtain ⟨s, m, n, ns, h1, h2, _⟩ := dl.ex
  have ne : ∀ x o, (∀ xs, o ≠ .lst xs) → (∀ xs, o ≠ .dK xs) → H x = some o → H' x = some o := fun x o n1 n2 hx => but x o (fun z => by
    simp only [List.mem_cons, List.not_mem_nil, or_false] at z
    rcases z with rfl | rfl
    · rw [h1] at hx; cases hx; exact n2 _ rfl
    · rw [h2] at hx; cases hx; exact n1 _ rfl) hx
  refine ⟨fun t p hp => ?_, fun a ps h => ⟨ps, ne _ _ nofun nofun h⟩⟩
  obtain ⟨ps, e1, e2, e3⟩ := t p hp
  refine ⟨ps, ne _ _ nofun nofun e1, e2, fun pos cv hc => ?_⟩
  obtain ⟨c, f1, f2⟩ := e3 pos cv hc
  exact ⟨c, f1, ne _ _ (fun xs z => by unfold LamX.CodeO at z; cases z) (fun xs z => by unfold LamX.CodeO at z; cases z) f2⟩
/-- the deal goes on -/
theorem Rep.deal (r : Rep K B G H σ δ vs rs w) {i : Nat} {b : Bool} {d l : Addr} (h : δ[i]? = some (.ow b .deal)) (hσ : σ[i]? = some (some (.ref d))) (wd : w d = some (2 * i)) (wl : w l = some (2 * i)) (dl0 : Deal H d l) (but : But [d, l] H H') (dl : Deal H' d l) :
    Stp B.T G H w δ G H' w δ ∧ Rep K B G H' σ δ vs rs w := by
  have nin : ∀ x, w x ≠ some (2 * i) → x ∉ [d, l] := fun x hx z => by
    simp only [List.mem_cons, List.not_mem_nil, or_false] at z
    rcases z with rfl | rfl
    · exact hx wd
    · exact hx wl
  obtain ⟨nd, nl, ed, el⟩ := noT_deal dl
  have st : Stp B.T G H w δ G H' w δ := .of ⟨fun _ _ h => h, fun x o hx ho => but x o (nin x (by rw [hx]; exact nofun)) ho, fun x n hx => .inl (by rw [hx]; exact Option.some_ne_none _), fun _ _ h => .inl h, .refl _⟩ (tabs_deal but dl0)
  refine ⟨st, fun x o hx => ?_, fun x n hx => ?_, r.len, fun k s hk => ?_, r.tlen, fun j v q hv hq => ?_, st.bs r.bs⟩
  · refine but x o (nin x fun z => ?_) (r.sub x o hx)
    rw [(r.out x _ z).1] at hx
    cases hx
  · obtain ⟨h1, h2, h3⟩ := r.out x n hx
    by_cases e : x ∈ [d, l]
    · simp only [List.mem_cons, List.not_mem_nil, or_false] at e
      rcases e with rfl | rfl
      · exact ⟨h1, ed, nd⟩
      · exact ⟨h1, el, nl⟩
    · cases e2 : H x with
      | none => exact absurd e2 h2
      | some u => exact ⟨h1, by rw [but x u e e2]; exact Option.some_ne_none _, noT_same e2 (but x u e e2) h3⟩
  · by_cases e : i = k
    · subst e
      rw [h] at hk
      cases hk
      exact ⟨_, hσ, d, l, rfl, wd, wl, dl⟩
    · refine (r.sl k s hk).mono (fun _ _ h => h) (fun x u mx hu => but x u (nin x ?_) hu) fun x u mx _ => mx
      rw [mx]
      exact fun z => e (by have := Option.some.inj z; omega)
  · refine (r.tm j v q hv hq).mono (fun _ _ h => h) (fun x u mx hu => but x u (nin x ?_) hu) fun x u mx _ => mx
    rw [mx]
    exact fun z => by have := Option.some.inj z; omega
/-- a new deal is told -/
theorem Rep.newDeal (r : Rep K B G H σ δ [] [] w) {d l : Addr} (s : Same H H') (hd : H d = none) (hl : H l = none) (dl : Deal H' d l) :
    ∃ w', Stp B.T G H w δ G H' w' δ ∧ Rep K B G H' σ δ [.ref d] [.ow .deal] w' := by
  obtain ⟨nd, nl, ed, el⟩ := noT_deal dl
  have g0 : ∀ x, H x = none → G x = none := fun x hx => by
    cases e : G x with
    | none => rfl
    | some o => have := r.sub x o e; rw [hx] at this; cases this
  have st : Stp B.T G H w δ G H' (fun a => if a = d ∨ a = l then some 1 else w a) δ := by
    refine .of ⟨fun _ _ h => h, fun x o hx ho => s x o ho, fun x n hx => ?_, fun _ _ h => .inl h, .refl _⟩ (.same s)
    split at hx
    · rename_i e
      rcases e with rfl | rfl
      · exact .inr hd
      · exact .inr hl
    · exact .inl (by rw [hx]; exact Option.some_ne_none _)
  have wn : ∀ x n, w x = some n → ¬ (x = d ∨ x = l) := fun x n hx z => by
    rcases z with rfl | rfl
    · exact (r.out _ n hx).2.1 hd
    · exact (r.out _ n hx).2.1 hl
  refine ⟨_, st, fun x o hx => s x o (r.sub x o hx), fun x n hx => ?_, r.len, fun k sl hk => ?_, rfl, fun j v q hv hq => ?_, st.bs r.bs⟩
  · split at hx
    · rename_i e
      rcases e with rfl | rfl
      · exact ⟨g0 _ hd, ed, nd⟩
      · exact ⟨g0 _ hl, el, nl⟩
    · obtain ⟨h1, h2, h3⟩ := r.out x n hx
      cases e2 : H x with
      | none => exact absurd e2 h2
      | some u => exact ⟨h1, by rw [s x u e2]; exact Option.some_ne_none _, noT_same e2 (s x u e2) h3⟩
  · refine (r.sl k sl hk).mono (fun _ _ h => h) (fun x u mx hu => s x u hu) fun x u mx _ => ?_
    show (if x = d ∨ x = l then some 1 else w x) = _
    rw [if_neg (wn x _ mx)]
    exact mx
  · cases j with
    | succ j => simp at hv
    | zero =>
      cases hv
      cases hq
      exact ⟨d, l, rfl, if_pos (.inl rfl), if_pos (.inr rfl), dl⟩
end
/-! ### what a draw does, by value -/
def psp_draw : PSp := fun as Q _ => ∃ n : Int, as = [.ow true .deal, .im (.int n)] ∧ 0 < n ∧ n < 2 ^ 200 ∧ ∀ k : Nat, (k : Int) < n → Q (.im (.int k)) as
theorem two_of {vs : List V} {as : List Sl} {a b : Sl} (hl : (vs.map some).length = as.length) (ha : as = [a, b]) : ∃ x y, vs = [x, y] := by
  subst ha
  match vs, hl with
  | [x, y], _ => exact ⟨x, y, rfl⟩
theorem conv_draw {K : PySem.W.Frag} {T : List NdefX.NTab} (vs : List V) (H : Hp) (Q : VK) (E : XK) (h : LSp K T psp_draw vs H Q E) : sp_draw vs H Q E := by
  obtain ⟨G, w, as, Qp, Ep, rep, _, ⟨n, rfl, h0, h1, hq⟩, k, _⟩ := h
  obtain ⟨x, y, rfl⟩ := two_of rep.len rfl
  obtain ⟨v, hv, d, l, rfl, wd, wl, dl⟩ := rep.sl 0 _ rfl
  obtain ⟨u, hu, dq⟩ := rep.sl 1 _ rfl
  cases hv
  cases hu
  cases dq
  refine ⟨d, l, n, rfl, h0, h1, dl, fun j H' j0 j1 but dl' => ?_⟩
  obtain ⟨st, r2⟩ := rep.deal (i := 0) rfl rfl wd wl dl but dl'
  obtain ⟨m, rfl⟩ := Int.eq_ofNat_of_zero_le j0
  exact k _ _ _ _ _ _ (hq m j1) rfl (st.trans .drop) (r2.ret (.int _))
def psp_deal : PSp := fun as Q _ => ∃ (b : Int) (ns : List Int), as = [.ow true (.scr ns), .im (.int b)] ∧ 0 ≤ b ∧ b ≤ 63 ∧ ns.length ≤ 1000 ∧ Q (.ow .deal) as
theorem conv_deal {K : PySem.W.Frag} {T : List NdefX.NTab} (vs : List V) (H : Hp) (Q : VK) (E : XK) (h : LSp K T psp_deal vs H Q E) : sp_deal K vs H Q E := by
  obtain ⟨G, w, as, Qp, Ep, rep, _, ⟨b, ns, rfl, h0, h1, hn, hq⟩, k, _⟩ := h
  obtain ⟨x, y, rfl⟩ := two_of rep.len rfl
  obtain ⟨v, hv, a, rfl, hs⟩ := rep.sl 0 _ rfl
  obtain ⟨u, hu, dq⟩ := rep.sl 1 _ rfl
  cases hv
  cases hu
  cases dq
  have sq : SqL K H a (ns.map V.int) := by
    rcases hs with ⟨o, _, ho⟩ | hs
    · exact .inl (.inr ⟨o, ho⟩)
    · exact hs H
  refine ⟨a, b, ns, rfl, sq, h0, h1, hn, fun d l H' s hd hl dl => ?_⟩
  obtain ⟨w', st, r2⟩ := rep.newDeal s hd hl dl
  exact k _ _ _ _ _ _ hq rfl st r2
/-- alike: of one data it is told True -/
def psp_alike : PSp := fun as Q _ => ∃ d, as = [.im d, .im d] ∧ noL d = true ∧ wt d ≤ 1000000 ∧ Q (.im (.bool true)) as
theorem conv_alike {K : PySem.W.Frag} {T : List NdefX.NTab} (vs : List V) (H : Hp) (Q : VK) (E : XK) (h : LSp K T psp_alike vs H Q E) : sp_alike K vs H Q E := by
  obtain ⟨G, w, as, Qp, Ep, rep, _, ⟨d, rfl, h0, h1, hq⟩, k, _⟩ := h
  obtain ⟨x, y, rfl⟩ := two_of rep.len rfl
  obtain ⟨v, hv, dv⟩ := rep.sl 0 _ rfl
  obtain ⟨u, hu, du⟩ := rep.sl 1 _ rfl
  cases hv
  cases hu
  refine ⟨_, _, d, rfl, dq_dp rep.sub _ _ dv, dq_dp rep.sub _ _ du, h0, h1, fun H' s => ?_⟩
  obtain ⟨st, r2⟩ := rep.pub (x := none) (fun a o _ h => s a o h) (.same s) nofun
  exact k _ _ _ _ _ _ hq rfl (st.trans .drop) (r2.ret (.bl true))
/-! ### loops over range(n) -/
theorem rgD_get {a b : Int} {i : Nat} {d : PyData} (h : (rgD a b)[i]? = some d) : d = .int (a + (i : Nat)) ∧ i < (b - a).toNat := by
  unfold rgD at h
  rw [List.getElem?_map] at h
  obtain ⟨j, h1, h2⟩ := Option.map_eq_some_iff.mp h
  obtain ⟨h3, h4⟩ := List.getElem?_eq_some_iff.mp h1
  rw [List.getElem_range] at h4
  rw [List.length_range] at h3
  subst h4
  exact ⟨h2.symm, h3⟩
theorem rgD_len (a b : Int) : (rgD a b).length = (b - a).toNat := by unfold rgD; rw [List.length_map, List.length_range]
/-- for i in range(a, n): I at each turn -/
theorem for_rg2 {step : PyData → PSx} {ts : List Nat} {E : PEn} {n : Int} (a m : Nat) {δ : List Sl} (hn : n = m) (ham : a ≤ m) (I : Nat → List Sl → Prop) (h0 : I a δ) (hs : ∀ (i : Nat) δ, a ≤ i → i < m → I i δ → step (.int (i : Int)) ⟨fun δ' => I (i + 1) (wipeT δ' ts), E.rt, fun δ' => E.nx (wipeT δ' ts), fun δ' => I (i + 1) (wipeT δ' ts)⟩ δ) (he : ∀ δ, I m δ → E.nx δ) : loopI step ts E (rgD a n) δ := by
  subst hn
  refine ⟨fun i δ => I (a + i) δ, h0, fun i d δ hd hi => ?_, fun δ h => he δ ?_⟩
  · obtain ⟨rfl, hl⟩ := rgD_get hd
    have := hs (a + i) δ (by omega) (by omega) hi
    rw [Int.natCast_add] at this
    exact this
  · rw [rgD_len] at h
    have e : a + ((m : Int) - a).toNat = m := by omega
    rw [e] at h
    exact h
theorem for_rg {step : PyData → PSx} {ts : List Nat} {E : PEn} {n : Int} (m : Nat) {δ : List Sl} (hn : n = m) (I : Nat → List Sl → Prop) (h0 : I 0 δ) (hs : ∀ (i : Nat) δ, i < m → I i δ → step (.int (i : Int)) ⟨fun δ' => I (i + 1) (wipeT δ' ts), E.rt, fun δ' => E.nx (wipeT δ' ts), fun δ' => I (i + 1) (wipeT δ' ts)⟩ δ) (he : ∀ δ, I m δ → E.nx δ) : loopI step ts E (rgD 0 n) δ :=
  for_rg2 0 m hn (Nat.zero_le m) I h0 (fun i δ _ => hs i δ) he
theorem atI_of {α : Type} {xs : List α} {i : Int} {j : Nat} {v : α} (hi : i = (j : Int)) (h : xs[j]? = some v) : atI xs i = some v := by rw [hi]; exact atI_nat h
end Pv
namespace Pv
open PySem PySem.Spec L2 Wf
/-! ### plain tuples: tuple(list) whose object is known; .index of them -/
/-! ### list.index of numbers -/
end Pv
namespace Pv
open PySem PySem.Spec L2 Wf
/-! ### a law, by value: of each script it tells True -/
/-- no tables -/
abbrev TB0 : List NdefX.NTab := []
def psp_law : PSp := fun as Q _ => ∃ ns : List Int, as = [.ow true (.scr ns)] ∧ ns.length ≤ 1000 ∧ Q (.im (.bool true)) [.ow true (.scr ns)]
theorem end_law {K : PySem.W.Frag} {H : Hp} {a : Addr} {ns : List Int} (hl : ns.length ≤ 1000) (hO : Only H) (hS : SqL K H a (ns.map V.int)) : LSp K [] psp_law [.ref a] H (fun v _ => v = .bl true) fun _ _ _ => False := by
  have fin : ∀ (G : Hp) (w : Addr → Option Nat), Rep K (B0 [] H w) G H [some (.ref a)] [.ow true (.scr ns)] [] [] w → LSp K [] psp_law [.ref a] H (fun v _ => v = .bl true) fun _ _ _ => False := fun G w r => by
    refine ⟨G, w, [.ow true (.scr ns)], fun r _ => r = .im (.bool true), noX, r, fun s hs => ?_, ⟨ns, rfl, hl, rfl⟩, fun r δ' v H' G' w' hr _ _ rep => ?_, xok_no⟩
    · rw [List.mem_singleton] at hs
      exact .inr (.inr ⟨_, hs⟩)
    · subst hr
      have : Dq K G' v (.bool true) := rep.tm 0 v _ rfl rfl
      cases this
      rfl
  rcases hS with h | h
  · have ho : ∃ o, H a = some (.frz o (.lst (ns.map V.int))) := by
      rcases hO a with z | ⟨o, xs, z⟩
      · rcases h with h | ⟨o, h⟩ <;> rw [z] at h <;> cases h
      · rcases h with h | ⟨o', h⟩
        · rw [z] at h; cases h
        · rw [z] at h; cases h; exact ⟨_, z⟩
    obtain ⟨o, ho⟩ := ho
    refine fin (fun _ => none) (fun b => if b = a then some 0 else none) ⟨(fun _ _ z => by cases z), fun b i hb => ?_, rfl, fun i s hs => ?_, rfl, fun j v q hv => by simp at hv, ⟨fun b u hb => ?_, .refl, fun p hp => by simp [B0] at hp, nofun⟩⟩
    · split at hb
      · rename_i e
        subst e
        exact ⟨rfl, by rw [ho]; exact Option.some_ne_none _, NoX.of ho (fun _ z => by cases z) (fun _ _ z => by cases z) (fun _ z => by cases z)⟩
      · cases hb
    · match i, hs with
      | 0, hs =>
        cases hs
        exact ⟨.ref a, rfl, a, rfl, .inl ⟨o, if_pos rfl, ho⟩⟩
      | i + 1, hs => simp at hs
    · exact B0_some hb
  · refine fin (fun _ => none) (fun _ => none) ⟨(fun _ _ z => by cases z), (fun _ _ z => by cases z), rfl, fun i s hs => ?_, rfl, fun j v q hv => by simp at hv, ⟨fun b u hb => B0_some hb, .refl, fun p hp => by simp [B0] at hp, nofun⟩⟩
    match i, hs with
    | 0, hs =>
      cases hs
      exact ⟨.ref a, rfl, a, rfl, .inr fun H1 => .inr h⟩
    | i + 1, hs => simp at hs
/-! ### a, b = e, f with names that comprehensions read -/
theorem par_go0 : ∀ (vs : List V) (σ : St) (H : Hp) (Q : St → Hp → Prop), ([] : List Nat).length = vs.length → Q ((([] : List Nat).zip vs).foldl (fun σ p => σ.set p.1 (some p.2)) σ) H → gNil vs σ H Q
  | [], _, _, _, _, q => ⟨rfl, q⟩
theorem par_goS {i : Nat} {is : List Nat} {gs : TGs} (h : ∀ (vs : List V) (σ : St) (H : Hp) (Q : St → Hp → Prop), is.length = vs.length → Q ((is.zip vs).foldl (fun σ p => σ.set p.1 (some p.2)) σ) H → gs vs σ H Q) :
    ∀ (vs : List V) (σ : St) (H : Hp) (Q : St → Hp → Prop), (i :: is).length = vs.length → Q (((i :: is).zip vs).foldl (fun σ p => σ.set p.1 (some p.2)) σ) H → gCons (gName i) gs vs σ H Q
  | v :: vs, σ, H, Q, hl, q => ⟨v, vs, rfl, h vs _ H Q (by simpa using hl) q⟩
end Pv
namespace Pv
open PySem PySem.Spec L2 Wf
/-! ### what is caught: errors of one class C, by the name of C0; they are none of os -/
structure ToldG (K : PySem.W.Frag) (C C0 : Addr) (os : List Addr) : Prop where
  ex : PySem.W.exmOne K (.ref C) (.ref C0) = some true
  is_ : IsC K C
  one : PySem.W.kitOne K (.ref C) (.ref C) = some true
  two : PySem.W.kitAny K (.ref C) (os.map .ref) = some false
def sbAt (C0 : Addr) (b : Bool) : Addr → Option Bool := fun C => if C = C0 then some b else none
theorem sb_eq {C0 C : Addr} {b b' : Bool} (h : sbAt C0 b C = some b') : C = C0 ∧ b' = b := by
  unfold sbAt at h
  split at h
  · rename_i e; cases h; exact ⟨e, rfl⟩
  · cases h
theorem sb_one {K : PySem.W.Frag} {C C0 : Addr} {os : List Addr} (T : ToldG K C C0 os) : ∀ C' b, sbAt C true C' = some b → IsC K C' ∧ PySem.W.kitOne K (.ref C') (.ref C) = some b := fun C' b h => by
  obtain ⟨rfl, rfl⟩ := sb_eq h
  exact ⟨T.is_, T.one⟩
theorem sb_two {K : PySem.W.Frag} {C C0 : Addr} {os : List Addr} (T : ToldG K C C0 os) : ∀ C' b, sbAt C false C' = some b → IsC K C' ∧ PySem.W.kitAny K (.ref C') (os.map .ref) = some b := fun C' b h => by
  obtain ⟨rfl, rfl⟩ := sb_eq h
  exact ⟨T.is_, T.two⟩
theorem cat_ok {K : PySem.W.Frag} {C C0 : Addr} {os : List Addr} (T : ToldG K C C0 os) : ∀ C', C' = C → PySem.W.exmOne K (.ref C') (.ref C0) = some true := fun C' h => by subst h; exact T.ex
theorem clsV_all (os : List Addr) : ∀ C ∈ os, ClsV (.ref C) (.ref C) := fun C _ => .own C
theorem _root_.L2.Room.units1 {k : Nat} {A : Around} (r : Room k A) : A.units + 65 < cLine := by have := r.un; omega
end Pv
namespace Pv
open PySem PySem.Spec L2 Wf
variable {B : Bas}
/-! ### abs, all, any, sorted -/
def fAbs : PyData → (PyData → Prop) → Prop
  | .int i, k => k (.int (if i < 0 then -i else i))
  | _, _ => False
theorem lc_abs {K : PySem.W.Frag} : LC K (q1 fAbs) (fun xs H Q => ∃ i, xs = [.int i] ∧ Q (.int (if i < 0 then -i else i)) H) := by
  refine lc_im1 (fun G H v d Q s hv q => ?_) (fun d k k' hk q => ?_)
  · unfold fAbs at q
    split at q
    · exact ⟨_, by rw [hv.int], q _ _ .int⟩
    · exact q.elim
  · unfold fAbs at q ⊢
    split at q
    · exact hk _ q
    · exact q.elim
theorem dqAll_bools {K : PySem.W.Frag} {G : Hp} : ∀ {bs : List Bool} {us : List V}, DqAll K G us (bs.map PyData.bool) → us = bs.map V.bl
  | [], _, h => by cases h; rfl
  | b :: bs, _, h => by
    cases h with
    | cons h1 h2 =>
      cases h1
      rw [dqAll_bools h2]
      rfl
def fAll : PyData → (PyData → Prop) → Prop := fun d k => ∃ bs : List Bool, d = .list (bs.map .bool) ∧ k (.bool (bs.all id))
theorem lc_all {K : PySem.W.Frag} : LC K (q1 fAll) (rAll K) := by
  refine lc_im1 (fun G H v d Q s hv q => ?_) (fun d k k' hk q => ?_)
  · obtain ⟨bs, rfl, q⟩ := q
    obtain ⟨a, us, rfl, ha, hds⟩ := hv.seqL s
    cases dqAll_bools hds
    exact ⟨a, bs, rfl, SqL.of ha, q _ _ (.old (.bl _))⟩
  · obtain ⟨bs, rfl, q⟩ := q
    exact ⟨bs, rfl, hk _ q⟩
end Pv
namespace Pv
open PySem PySem.Spec L2 Wf
/-- whole numbers from 0 on, as data -/
abbrev nD (k : Nat) : PyData := .int (k : Int)
theorem szN {n m : Nat} (h : n ≤ m) (hm : m < sizeLine) : n < sizeLine := Nat.lt_of_le_of_lt h hm
theorem nd1 (i : Nat) : [i].Nodup := by simp
/-! ### _law_mixed -/
theorem ixN_nat {n i : Nat} (h : i < n) : ixN n (i : Int) = some i := by
  unfold ixN
  rw [if_pos (by omega), if_pos (by omega)]
  rfl
/-! ### _law_order -/
end Pv
/-! Good books are let by. -/
namespace Wf
open PySem PySem.Spec L2
end Wf
/-! Books by value; rows; is_whole, table_number, pair_at. -/
namespace Pv
open PySem PySem.Spec L2 Wf
variable {B : Bas}
/-! ### books -/
theorem four_of {vs : List V} {as : List Sl} {a b c d : Sl} (hl : (vs.map some).length = as.length) (ha : as = [a, b, c, d]) : ∃ x y z u, vs = [x, y, z, u] := by
  subst ha
  match vs, hl with
  | [x, y, z, u], _ => exact ⟨x, y, z, u, rfl⟩
def psp_book : PSp := fun as Q _ => ∃ m s f : Int, as = [.ow true .deal, .im (.int m), .im (.int s), .im (.int f)] ∧ 1 ≤ m ∧ m ≤ 5 ∧ 1 ≤ s ∧ s ≤ 6 ∧
  ∀ (ps : List Int) (ts : List Tab), PacesOk m ps → BookT m s f ts → BookOk m ⟨ps, s, ts⟩ → Q (.im (dB ⟨ps, s, ts⟩)) as
theorem conv_book {K : PySem.W.Frag} {T : List NdefX.NTab} (vs : List V) (H : Hp) (Q : VK) (E : XK) (h : LSp K T psp_book vs H Q E) : sp_book K vs H Q E := by
  obtain ⟨G, w, as, Qp, Ep, rep, _, ⟨m, s, f, rfl, m1, m5, s1, s6, hq⟩, k, _⟩ := h
  obtain ⟨x, y, z, u, rfl⟩ := four_of rep.len rfl
  obtain ⟨v, hv, d, l, rfl, wd, wl, dl⟩ := rep.sl 0 _ rfl
  obtain ⟨_, hu, dq⟩ := rep.sl 1 _ rfl
  cases hv
  cases hu
  cases dq
  obtain ⟨_, hu, dq⟩ := rep.sl 2 _ rfl
  cases hu
  cases dq
  obtain ⟨_, hu, dq⟩ := rep.sl 3 _ rfl
  cases hu
  cases dq
  refine ⟨d, l, m, s, f, rfl, m1, m5, s1, s6, dl, fun v ps ts H' but dl' hv pok bt => ?_⟩
  obtain ⟨st, r2⟩ := rep.deal (i := 0) rfl rfl wd wl dl but dl'
  obtain ⟨st3, r3⟩ := r2.pub (x := none) (fun _ _ _ h => h) .refl nofun
  have dq : Dq K (pubT G H' none) v (dB ⟨ps, s, ts⟩) := dp_pub (x := none) r2.sub (fun _ _ h => by cases h) _ _ (noL_dB _) hv
  exact k _ _ _ _ _ _ (hq ps ts pok bt ⟨pok, m1, m5, s1, s6, bt.ok⟩) rfl ((st.trans st3).trans .drop) (r3.ret dq)
end Pv
namespace Pv
open PySem PySem.Spec L2 Wf
/-! ### is_whole, is_letter -/
def isNumD : PyData → Bool
  | .int _ => true
  | _ => false
def p_is_number : PSx :=
    pRet (pAndV (pIsi "int" (pVar 0)) (pNotV (pIsi "bool" (pVar 0))))
def psp_is_number : PSp := fun as Q _ => ∃ d : PyData, as = [.im d] ∧ Q (.im (.bool (isNumD d))) [.un]
theorem hp_is_number (as : List Sl) (Qp : QE) (Ep : EX) (h : psp_is_number as Qp Ep) : p_is_number (endsP as Qp) (as ++ List.replicate 0 .un) := by
  obtain ⟨d, rfl, q⟩ := h
  cases d with
  | int i => exact ⟨_, rfl, _, rfl, _, rfl, _, rfl, _, _, rfl, q⟩
  | none => exact ⟨_, rfl, _, rfl, _, _, rfl, q⟩
  | bool b => exact ⟨_, rfl, _, rfl, _, rfl, _, rfl, _, _, rfl, q⟩
  | str b => exact ⟨_, rfl, _, rfl, _, _, rfl, q⟩
  | tuple b => exact ⟨_, rfl, _, rfl, _, _, rfl, q⟩
  | list b => exact ⟨_, rfl, _, rfl, _, _, rfl, q⟩
  | dict b => exact ⟨_, rfl, _, rfl, _, _, rfl, q⟩
def p_is_whole : PSx :=
    pRet (pAndV (pCall psp_is_number (pCons (pFz (pVar 0)) (pNil)) noX) (pChain qLeD qLeD (pVar 1) (pVar 0) (pVar 2)))
def psp_is_whole : PSp := fun as Q _ => ∃ (d : PyData) (lo hi : Int), as = [.im d, .im (.int lo), .im (.int hi)] ∧ Q (.im (.bool (isWh lo hi d))) [.un, .un, .un]
theorem hp_is_whole (as : List Sl) (Qp : QE) (Ep : EX) (h : psp_is_whole as Qp Ep) : p_is_whole (endsP as Qp) (as ++ List.replicate 0 .un) := by
  obtain ⟨d, lo, hi, rfl, q⟩ := h
  cases d with
  | int i =>
    refine ⟨_, _, rfl, _, rfl, List.nodup_nil, _, rfl, _, rfl, ?_⟩
    refine ⟨_, rfl, trivial, _, rfl, ?_⟩
    show if decide (lo ≤ i) = true then _ else _
    by_cases c : lo ≤ i
    · rw [if_pos (decide_eq_true c)]
      refine ⟨trivial, _, _, rfl, ?_⟩
      rw [show isWh lo hi (.int i) = decide (i ≤ hi) by simp [isWh, c]] at q
      exact q
    · rw [if_neg (by simp [c])]
      refine ⟨_, _, rfl, ?_⟩
      rw [show isWh lo hi (.int i) = false by simp [isWh, c]] at q
      exact q
  | none => exact ⟨_, _, rfl, _, rfl, List.nodup_nil, _, rfl, _, rfl, _, _, rfl, q⟩
  | bool b => exact ⟨_, _, rfl, _, rfl, List.nodup_nil, _, rfl, _, rfl, _, _, rfl, q⟩
  | str b => exact ⟨_, _, rfl, _, rfl, List.nodup_nil, _, rfl, _, rfl, _, _, rfl, q⟩
  | tuple b => exact ⟨_, _, rfl, _, rfl, List.nodup_nil, _, rfl, _, rfl, _, _, rfl, q⟩
  | list b => exact ⟨_, _, rfl, _, rfl, List.nodup_nil, _, rfl, _, rfl, _, _, rfl, q⟩
  | dict b => exact ⟨_, _, rfl, _, rfl, List.nodup_nil, _, rfl, _, rfl, _, _, rfl, q⟩
/-! ### table_number, pair_at -/
/-! ### rows -/
abbrev Wk := Int × Int
def RowOk (m s : Int) (r : List Wk) : Prop := ∀ p ∈ r, 0 ≤ p.1 ∧ p.1 < m ∧ 0 ≤ p.2 ∧ p.2 < s
def dK (ks : List Int) : PyData := .tuple (ks.map .int)
end Pv
namespace Pv
open PySem PySem.Spec L2 Wf
/-! ### _law_pairs -/
end Pv
namespace Pv
open PySem PySem.Spec L2 Wf
/-! ### _law_last -/
theorem noPin1 {δ : List Sl} {v : Nat} (h : ∀ o, δ[v]? ≠ some (.ow true o)) : noPin δ [v] := fun u hu o => by
  rw [List.mem_singleton] at hu
  subst hu
  exact h o
/-! ### _law_word -/
end Pv
namespace Pv
open PySem PySem.Spec L2 Wf
/-! ### orders -/
/-! ### sizes -/
end Pv
namespace Pv
open PySem PySem.Spec L2 Wf
/-! ### _law_row, _law_led -/
/-! ### data of rows, for repr and alike -/
/-- for x in a list of numbers -/
theorem for_all {step : PyData → PSx} {ts : List Nat} {E : PEn} {ds : List PyData} {δ : List Sl} (P : PyData → Prop) (hP : ∀ d ∈ ds, P d) (I : List Sl → Prop) (h0 : I δ) (hs : ∀ d δ, P d → I δ → step d ⟨fun δ' => I (wipeT δ' ts), E.rt, fun δ' => E.nx (wipeT δ' ts), fun δ' => I (wipeT δ' ts)⟩ δ) (he : ∀ δ, I δ → E.nx δ) : loopI step ts E ds δ :=
  ⟨fun _ δ => I δ, h0, fun i d δ hd hi => hs d δ (hP d (List.mem_of_getElem? hd)) hi, he⟩
theorem cutD_len {α : Type} (xs : List α) (lo hi : Option Int) : (cutD xs lo hi).length ≤ xs.length := by
  unfold cutD
  rw [List.length_take, List.length_drop]
  omega
end Pv
/-! Calls that draw: what stands in the slots stays, as it is written. -/
namespace Pv
open PySem PySem.Spec L2 Wf
/-- the deal in slot 1, or 0, stays -/
theorem pk1 {s0 s : Sl} {b : Bool} {d : PyData} {δ : List Sl} : putB (s0 :: .ow b .deal :: δ) [.at 1, .im d] [.ow true .deal, s] = s0 :: .ow b .deal :: δ := rfl
theorem pk0 {s : Sl} {b : Bool} {d : PyData} {δ : List Sl} : putB (.ow b .deal :: δ) [.at 0, .im d] [.ow true .deal, s] = .ow b .deal :: δ := rfl
end Pv
namespace Pv
open PySem PySem.Spec L2 Wf
variable {B : Bas}
/-! ### in, not in: texts or numbers in a tuple or list of such -/
theorem dqAll_strs {K : PySem.W.Frag} {G : Hp} : ∀ {ss : List Str} {us : List V}, DqAll K G us (ss.map PyData.str) → us = ss.map V.str
  | [], _, h => by cases h; rfl
  | n :: ns, _, h => by
    cases h with
    | cons h1 h2 =>
      cases h1
      rw [dqAll_strs h2]
      rfl
/-! ### repr of a list -/
end Pv
/-! tuple(zip(t, u)), t and u tuples of one length -/
namespace Wf
open PySem PySem.Spec PyProof.Rows
end Wf
namespace Pv
open PySem PySem.Spec L2 Wf
/-! ### tuple(zip(t, u)) -/
end Pv
/-! Texts by value: their methods, str of a number, int of a text, f'..', join, split. -/
namespace Pv
open PySem PySem.Spec PyProof.Rows L2 Wf
variable {B : Bas}
section
variable {X : Cx} {o e : Expr} {po pe : PX} {apos pos : Pos}
theorem vw_str {K : PySem.W.Frag} {G H : Hp} {v : V} {a : Str} (h : Vw K G H v (.str a)) : v = .str a := by
  rcases h with h | ⟨_, _, _, _, _, _, z⟩
  · cases h; rfl
  · cases z
/-- s.m() -/
def pS0 (C : Str → Prop) (g : Str → PyData) (po : PX) : PX := fun δ Q => po δ fun r δ1 => ∃ a, dat δ1 r = some (.str a) ∧ C a ∧ Q (.im (g a)) δ1
theorem je_s0 {id : String} {name : Str} {C : Str → Prop} {g : Str → PyData} {gv : Str → V} (hg : ∀ G a, Dq X.K G (gv a) (g a)) (slot : Slot "str" name id) (ty : typeOf (.builtin id) = pure (.type "method_descriptor"))
    (rule : MtR X id (fun x xs H Q => ∃ a, x = .str a ∧ xs = [] ∧ C a ∧ Q (gv a) H)) (ho : JE X B o po)
    (hbase : attributeBase o name X.env (eval o X.env) = eval o X.env := by rfl) (hline : (apos.endLine == pos.line) = true := by rfl) : JE X B (.Call (.Attribute o name apos) [] [] pos) (pS0 C g po) := by
  refine PE_wk (pe_m0 slot ty rule ho hbase hline) fun σ H Q ⟨G, w, δ, Qp, rep, q, k⟩ => ?_
  refine ⟨G, w, δ, _, rep, q, fun r δ1 v H1 G1 w1 q1 s1 rep1 => ?_⟩
  obtain ⟨a, hd, hc, q1⟩ := q1
  have ev := vw_str (rep1.dat (j := 0) rfl rfl hd)
  subst ev
  exact ⟨⟨a, rfl⟩, a, rfl, rfl, hc, k _ _ _ _ _ _ q1 (s1.trans .drop) (rep1.ret (hg _ _))⟩
/-- s.m(t), t a text -/
def pS1 (C : Str → Str → Prop) (g : Str → Str → PyData) (po pe : PX) : PX := fun δ Q => po δ fun r δ1 => ∃ a, dat δ1 r = some (.str a) ∧ pe δ1 fun r2 δ2 => ∃ b, dat δ2 r2 = some (.str b) ∧ C a b ∧ Q (.im (g a b)) δ2
theorem je_s1 {id : String} {name : Str} {C : Str → Str → Prop} {g : Str → Str → PyData} {gv : Str → Str → V} (hg : ∀ G a b, Dq X.K G (gv a b) (g a b)) (slot : Slot "str" name id) (ty : typeOf (.builtin id) = pure (.type "method_descriptor"))
    (rule : MtR X id (fun x xs H Q => ∃ a b, x = .str a ∧ xs = [.str b] ∧ C a b ∧ Q (gv a b) H)) (ho : JE X B o po) (he : JE X B e pe)
    (hs : starEach [e] X.env = [(false, eval e X.env)] := by rfl) (hbase : attributeBase o name X.env (eval o X.env) = eval o X.env := by rfl) (hline : (apos.endLine == pos.line) = true := by rfl) : JE X B (.Call (.Attribute o name apos) [e] [] pos) (pS1 C g po pe) := by
  refine PE_wk (pe_m1 slot ty rule ho he hs hbase hline) fun σ H Q ⟨G, w, δ, Qp, rep, q, k⟩ => ?_
  refine ⟨G, w, δ, _, rep, q, fun r δ1 v H1 G1 w1 q1 s1 rep1 => ?_⟩
  obtain ⟨a, hd, q1⟩ := q1
  have ev := vw_str (rep1.dat (j := 0) rfl rfl hd)
  subst ev
  refine ⟨⟨a, rfl⟩, G1, _, δ1, _, rep1.drop, q1, fun r2 δ2 v2 H2 G2 w2 q2 s2 rep2 => ?_⟩
  obtain ⟨b, hd2, hc, q2⟩ := q2
  have ev := vw_str (rep2.dat (j := 0) rfl rfl hd2)
  subst ev
  exact ⟨a, b, rfl, rfl, hc, k _ _ _ _ _ _ q2 (((s1.trans .drop).trans s2).trans .drop) (rep2.ret (hg _ _ _))⟩
/-- s.split(t) -/
def pSplit (po pe : PX) : PX := fun δ Q => po δ fun r δ1 => ∃ a, dat δ1 r = some (.str a) ∧ pe δ1 fun r2 δ2 => ∃ b, dat δ2 r2 = some (.str b) ∧ (b.length == 0) = false ∧ a.length + 2 ≤ sizeLine ∧ Q (.ow (.lst ((Txt.split a b).map .str))) δ2
theorem dqAll_strsI {K : PySem.W.Frag} {G : Hp} : ∀ ss : List Str, DqAll K G (ss.map V.str) (ss.map PyData.str)
  | [] => .nil
  | s :: ss => .cons (.str s) (dqAll_strsI ss)
theorem je_split (ho : JE X B o po) (he : JE X B e pe)
    (hs : starEach [e] X.env = [(false, eval e X.env)] := by rfl) (hbase : attributeBase o "split" X.env (eval o X.env) = eval o X.env := by rfl) (hline : (apos.endLine == pos.line) = true := by rfl) : JE X B (.Call (.Attribute o "split" apos) [e] [] pos) (pSplit po pe) := by
  refine PE_wk (L2.pe_split ho he hs hbase hline) fun σ H Q ⟨G, w, δ, Qp, rep, q, k⟩ => ?_
  refine ⟨G, w, δ, _, rep, q, fun r δ1 v H1 G1 w1 q1 s1 rep1 => ?_⟩
  obtain ⟨a, hd, q1⟩ := q1
  have ev := vw_str (rep1.dat (j := 0) rfl rfl hd)
  subst ev
  refine ⟨⟨a, rfl⟩, G1, _, δ1, _, rep1.drop, q1, fun r2 δ2 v2 H2 G2 w2 q2 s2 rep2 => ?_⟩
  obtain ⟨b, hd2, h0, hl, q2⟩ := q2
  have ev := vw_str (rep2.dat (j := 0) rfl rfl hd2)
  subst ev
  refine ⟨a, b, rfl, rfl, h0, hl, fun p hp => ?_⟩
  obtain ⟨w', st, r3⟩ := rep2.retLst hp (dqAll_strsI (Txt.split a b))
  exact k _ _ _ _ _ _ q2 (((s1.trans .drop).trans s2).trans st) r3
/-- s.join(xs) -/
def pJoin (po pe : PX) : PX := fun δ Q => po δ fun r δ1 => ∃ a, dat δ1 r = some (.str a) ∧ pe δ1 fun r2 δ2 => ∃ ys : List Str, dat δ2 r2 = some (.list (ys.map .str)) ∧ (ys.map (·.length)).sum + ys.length * a.length ≤ 16777216 ∧ Q (.im (.str (Txt.join a ys))) δ2
theorem je_join (ho : JE X B o po) (he : JE X B e pe)
    (hs : starEach [e] X.env = [(false, eval e X.env)] := by rfl) (hbase : attributeBase o "join" X.env (eval o X.env) = eval o X.env := by rfl) (hline : (apos.endLine == pos.line) = true := by rfl) : JE X B (.Call (.Attribute o "join" apos) [e] [] pos) (pJoin po pe) := by
  refine PE_wk (L2.pe_join ho he hs hbase hline) fun σ H Q ⟨G, w, δ, Qp, rep, q, k⟩ => ?_
  refine ⟨G, w, δ, _, rep, q, fun r δ1 v H1 G1 w1 q1 s1 rep1 => ?_⟩
  obtain ⟨a, hd, q1⟩ := q1
  have ev := vw_str (rep1.dat (j := 0) rfl rfl hd)
  subst ev
  refine ⟨⟨a, rfl⟩, G1, _, δ1, _, rep1.drop, q1, fun r2 δ2 v2 H2 G2 w2 q2 s2 rep2 => ?_⟩
  obtain ⟨ys, hd2, hl, q2⟩ := q2
  obtain ⟨p, us, rfl, hp, hds⟩ := Vw.seqL rep2.sub (rep2.dat (j := 0) rfl rfl hd2)
  have eu := dqAll_strs hds
  subst eu
  exact ⟨a, p, ys, rfl, rfl, .inl (SqL.of hp), hl, k _ _ _ _ _ _ q2 (((s1.trans .drop).trans s2).trans .drop) (rep2.ret (.str _))⟩
/-- {e} within f'..' -/
def pFmt (p : PX) : PX := fun δ Q => p δ fun r δ1 => (∃ y : Str, dat δ1 r = some (.str y) ∧ y.length ≤ sizeLine ∧ Q (.im (.str y)) δ1) ∨ ∃ i : Int, dat δ1 r = some (.int i) ∧ i.natAbs.log2 < 1920 ∧ Q (.im (.str (toString i))) δ1
theorem je_fmt (he : JE X B e pe) : JE X B (.FormattedValue e (-1) none pos) (pFmt pe) := by
  refine PE_wk (L2.pe_fmt he) fun σ H Q ⟨G, w, δ, Qp, rep, q, k⟩ => ?_
  refine ⟨G, w, δ, _, rep, q, fun r δ1 v H1 G1 w1 q1 s1 rep1 => ?_⟩
  rcases q1 with ⟨y, hd, hl, q1⟩ | ⟨i, hd, hl, q1⟩
  · have ev := vw_str (rep1.dat (j := 0) rfl rfl hd)
    subst ev
    exact .inl ⟨y, rfl, hl, k _ _ _ _ _ _ q1 (s1.trans .drop) (rep1.ret (.str _))⟩
  · have hv : Vw X.K G1 H1 v (.int i) := rep1.dat (j := 0) rfl rfl hd
    have ev := hv.int
    subst ev
    exact .inr ⟨i, rfl, hl, k _ _ _ _ _ _ q1 (s1.trans .drop) (rep1.ret (.str _))⟩
/-- f'..' of two parts or more -/
inductive JJ (X : Cx) (B : Bas) : List Expr → List PX → Prop where
  | nil : JJ X B [] []
  | cons {e : Expr} {p : PX} {es : List Expr} {ps : List PX} (h : JE X B e p) (r : JJ X B es ps) : JJ X B (e :: es) (p :: ps)
def pJs : List PX → Str → List Sl → (Str → List Sl → Prop) → Prop
  | [], acc, δ, Q => Q acc δ
  | p :: ps, acc, δ, Q => p δ fun r δ1 => ∃ y : Str, dat δ1 r = some (.str y) ∧ (acc ++ y).length ≤ sizeLine ∧ pJs ps (acc ++ y) δ1 Q
def pFStr (ps : List PX) : PX := fun δ Q => pJs ps Str.empty δ fun out δ1 => Q (.im (.str out)) δ1
theorem jj_pj {es : List Expr} {ps : List PX} (h : JJ X B es ps) : ∃ ts, PJ X es ts ∧ ∀ (acc : Str) (σ : L2.St) (H : Hp) (Q : Str → Hp → Prop) (G : Hp) (w : Addr → Option Nat) (δ : List Sl) (Qp : Str → List Sl → Prop), Rep X.K B G H σ δ [] [] w → pJs ps acc δ Qp →
    (∀ out δ' H' G' w', Qp out δ' → Stp B.T G H w δ G' H' w' δ' → Rep X.K B G' H' σ δ' [] [] w' → Q out H') → tJs ts acc σ H Q := by
  induction h with
  | nil => exact ⟨[], .nil, fun acc σ H Q G w δ Qp rep q k => k acc δ H G w q .refl rep⟩
  | @cons e p es ps he r ih =>
    obtain ⟨ts, h1, h2⟩ := ih
    refine ⟨_ :: ts, .cons he h1, fun acc σ H Q G w δ Qp rep q k => ?_⟩
    refine ⟨G, w, δ, _, rep, q, fun r δ1 v H1 G1 w1 q1 s1 rep1 => ?_⟩
    obtain ⟨y, hd, hl, q1⟩ := q1
    have ev := vw_str (rep1.dat (j := 0) rfl rfl hd)
    subst ev
    exact ⟨y, rfl, hl, h2 (acc ++ y) σ H1 Q G1 _ δ1 Qp rep1.drop q1 fun out δ' H' G' w' hq st rp => k out δ' H' G' w' hq ((s1.trans .drop).trans st) rp⟩
theorem je_fstr {v1 v2 : Expr} {rest : List Expr} {ps : List PX} (h : JJ X B (v1 :: v2 :: rest) ps) : JE X B (.JoinedStr (v1 :: v2 :: rest) pos) (pFStr ps) := by
  obtain ⟨ts, h1, h2⟩ := jj_pj h
  refine PE_wk (pe_joined h1) fun σ H Q ⟨G, w, δ, Qp, rep, q, k⟩ => ?_
  exact h2 _ σ H _ G w δ _ rep q fun out δ' H' G' w' hq st rp => k _ _ _ _ _ _ hq (st.trans .drop) (rp.ret (.str _))
end
end Pv
namespace Pv
open PySem PySem.Spec PyProof.Rows L2 Wf
/-! ### str(n), int(text) -/
def fStrI : List PyData → (PyData → Prop) → Prop
  | [.int i], k => i.natAbs.log2 < 1920 ∧ k (.str (toString i))
  | _, _ => False
theorem lc_strI {K : PySem.W.Frag} : LC K (qD fStrI) (fun xs H Q => ∃ i, xs = [.int i] ∧ i.natAbs.log2 < 1920 ∧ Q (.str (toString i)) H) := by
  refine lc_im (fun G H vs ds Q s hv q _ => ?_) (fun ds k k' h q => ?_)
  · unfold fStrI at q
    split at q
    · cases hv with
      | cons h1 hv =>
        cases hv
        have := h1.int
        subst this
        exact ⟨_, rfl, q.1, q.2 _ _ .str⟩
    · exact q.elim
  · unfold fStrI at q ⊢
    split at q
    · exact ⟨q.1, h _ q.2⟩
    · exact q
def fIntT : List PyData → (PyData → Prop) → Prop
  | [.str a], k => ∃ n, PySem.intText? a = some n ∧ a.length ≤ 640 ∧ k (.int n)
  | _, _ => False
theorem lc_intT {K : PySem.W.Frag} : LC K (qD fIntT) (fun xs H Q => ∃ a n, xs = [.str a] ∧ PySem.intText? a = some n ∧ a.length ≤ 640 ∧ Q (.int n) H) := by
  refine lc_im (fun G H vs ds Q s hv q _ => ?_) (fun ds k k' h q => ?_)
  · unfold fIntT at q
    split at q
    · cases hv with
      | cons h1 hv =>
        cases hv
        have := vw_str h1
        subst this
        obtain ⟨n, e1, e2, q⟩ := q
        exact ⟨_, n, rfl, e1, e2, q _ _ .int⟩
    · exact q.elim
  · unfold fIntT at q ⊢
    split at q
    · obtain ⟨n, e1, e2, q⟩ := q
      exact ⟨n, e1, e2, h _ q⟩
    · exact q
end Pv
namespace Pv
open PySem PySem.Spec PyProof.Rows L2 Wf
section
variable {B : Bas} {X : Cx} {o e : Expr} {po pe : PX} {apos pos : Pos}
theorem je_isascii (ho : JE X B o po) (hbase : attributeBase o "isascii" X.env (eval o X.env) = eval o X.env := by rfl) (hline : (apos.endLine == pos.line) = true := by rfl) : JE X B (.Call (.Attribute o "isascii" apos) [] [] pos) (pS0 (fun _ => True) (fun a => .bool (Txt.isascii a)) po) :=
  je_s0 (gv := fun a => .bl (Txt.isascii a)) (fun _ _ => .bl _) F.slot_str_isascii F.type_str_isascii mt_isascii ho hbase hline
theorem je_isdigit (ho : JE X B o po) (hbase : attributeBase o "isdigit" X.env (eval o X.env) = eval o X.env := by rfl) (hline : (apos.endLine == pos.line) = true := by rfl) : JE X B (.Call (.Attribute o "isdigit" apos) [] [] pos) (pS0 (fun _ => True) (fun a => .bool (Txt.isdigit a)) po) :=
  je_s0 (gv := fun a => .bl (Txt.isdigit a)) (fun _ _ => .bl _) F.slot_str_isdigit F.type_str_isdigit mt_isdigit ho hbase hline
theorem je_removeprefix (ho : JE X B o po) (he : JE X B e pe) (hs : starEach [e] X.env = [(false, eval e X.env)] := by rfl) (hbase : attributeBase o "removeprefix" X.env (eval o X.env) = eval o X.env := by rfl) (hline : (apos.endLine == pos.line) = true := by rfl) : JE X B (.Call (.Attribute o "removeprefix" apos) [e] [] pos) (pS1 (fun a _ => a.length ≤ sizeLine) (fun a b => .str (Txt.removeprefix a b)) po pe) :=
  je_s1 (gv := fun a b => .str (Txt.removeprefix a b)) (fun _ _ _ => .str _) F.slot_str_removeprefix F.type_str_removeprefix mt_removeprefix ho he hs hbase hline
end
end Pv
/-! Numbers as texts and back. -/
namespace Pv
open PySem PySem.Spec PyProof.Rows L2 Wf TL PySem.StrLaws
/-- the text of a number -/
abbrev tI (i : Int) : Str := Str.ofString (toString i)
def dig (i : Int) : List Nat := numL i.natAbs
theorem tl_tI (i : Int) : tl (tI i) = if i < 0 then 45 :: dig i else dig i := by
  by_cases h : i < 0
  · rw [if_pos h]
    have e := toString_neg h
    show tl (Str.ofString (toString i)) = _
    have e2 : (0 - i) = ((i.natAbs : Nat) : Int) := by omega
    have e3 : numL i.natAbs = (toString (0 - i)).toList.map Char.toNat := by rw [e2, ← tl_num, tl_ofString]
    rw [e, tl_ofString, String.toList_append, List.map_append]
    unfold dig
    rw [e3]
    rfl
  · rw [if_neg h]
    obtain ⟨n, rfl⟩ := Int.eq_ofNat_of_zero_le (by omega : 0 ≤ i)
    exact tl_num n
theorem dig_len {i : Int} (h : i.natAbs < 10 ^ 19) : (dig i).length ≤ 19 := numL_len (by decide) h
theorem tI_len {i : Int} (h : i.natAbs < 10 ^ 19) : (tI i).length ≤ 20 := by
  have := dig_len h
  rw [len_tl, tl_tI]
  split
  · rw [List.length_cons]; omega
  · omega
theorem tI_free {i : Int} {s : Nat} (h : s < 45 ∨ (45 < s ∧ s < 48) ∨ 57 < s) : s ∉ tl (tI i) := by
  rw [tl_tI]
  have d : s ∉ dig i := numL_free (by omega)
  split
  · intro z
    rcases List.mem_cons.mp z with z | z
    · omega
    · exact d z
  · exact d
theorem int_tI {i : Int} (h : i.natAbs < 10 ^ 19) : PySem.intText? (tI i) = some i := by
  have dl := dig_len h
  by_cases n : i < 0
  · have e : (tI i).cps.toList = 45 :: dig i := by
      have := tl_tI i
      rw [if_pos n] at this
      exact this
    have := intText_neg e (numL_digits _) (numL_ne _) (by have := tI_len h; omega)
    rw [this]
    unfold dig
    rw [numL_val]
    congr 1
    omega
  · obtain ⟨m, rfl⟩ := Int.eq_ofNat_of_zero_le (by omega : 0 ≤ i)
    exact int_num (by unfold dig at dl; simp at dl; omega)
/-- the figures: without the sign -/
def figI (i : Int) : Str := Txt.removeprefix (tI i) (Str.ofString "-")
theorem tl_fig (i : Int) : tl (figI i) = dig i := by
  unfold figI
  rw [removeprefix_eq, subAt_eq, List.drop_zero]
  have l1 : (Str.ofString "-").length = 1 := by decide +kernel
  have t1 : (Str.ofString "-").cps.toList = [45] := by decide +kernel
  have tt := tl_tI i
  have ll := len_tl (tI i)
  rw [l1, t1]
  by_cases n : i < 0
  · rw [if_pos n] at tt
    have tt' : (tI i).cps.toList = 45 :: dig i := tt
    have lx : (tI i).length = (dig i).length + 1 := by rw [ll, tt]; rfl
    rw [tt', lx, if_pos (by simp)]
    show List.take _ (dig i) = dig i
    exact List.take_of_length_le (by omega)
  · rw [if_neg n] at tt
    have tt' : (tI i).cps.toList = dig i := tt
    rw [if_neg, tt]
    intro z
    rw [tt', Bool.and_eq_true] at z
    have h2 := beq_iff_eq.mp z.2
    have : 45 ∈ dig i := List.mem_of_mem_take (by rw [h2]; exact List.mem_singleton_self _)
    exact numL_free (by omega) this
theorem fig_len {i : Int} (h : i.natAbs < 10 ^ 19) : (figI i).length ≤ 19 := by
  rw [len_tl, tl_fig]
  exact dig_len h
theorem fig_ascii (i : Int) : Txt.isascii (figI i) = true := by
  unfold Txt.isascii
  rw [← Array.all_toList, List.all_eq_true]
  intro c hc
  have hc : c ∈ dig i := by rw [← tl_fig]; exact hc
  have := numL_digits _ c hc
  rw [decide_eq_true_eq]
  omega
theorem dig_uni : ∀ c : Nat, c < 58 → 48 ≤ c → Unicode.isDigit c = true := by decide +kernel
theorem fig_digit (i : Int) : Txt.isdigit (figI i) = true := by
  unfold Txt.isdigit
  rw [Bool.and_eq_true, decide_eq_true_eq, len_tl, tl_fig]
  refine ⟨List.length_pos_iff.mpr (numL_ne _), ?_⟩
  rw [← Array.all_toList, List.all_eq_true]
  intro c hc
  have hc : c ∈ dig i := by rw [← tl_fig]; exact hc
  have := numL_digits _ c hc
  exact dig_uni c (by omega) (by omega)
end Pv
/-! Tuples whose objects are known, also within: written ones, parts, sums; loops over them. -/
namespace Pv
open PySem PySem.Spec L2 Wf
/-! ### targets -/
/-! ### a written tuple of known things -/
end Pv
/-! Parts and sums of known tuples are known tuples. -/
namespace Pv
open PySem PySem.Spec L2 Wf
/-! ### a call that may raise, in a try, handed known tuples too -/
end Pv
/-! What the head tells of error classes; whole numbers by their names. -/
namespace Wf
open PySem PySem.Spec PyProof.Rows L2
/-! ### classes of errors -/
def oexB (K : PySem.W.Frag) (C : Addr) : Bool := match K.lookup C with
  | some ⟨.type "type", _, .cls cd, sl⟩ => (match cd.mro, sl.toList with
    | .ref C' :: bm, [_, _, _, _, some (.builtin n), _] => C' == C && n == "ValueError.__new__" && !cd.hasDel && cd.hasDict && PySem.HandSPX.refsVE bm
    | _, _ => false)
  | _ => false
theorem oexB_ok {K : PySem.W.Frag} {C : Addr} (q : oexB K C = true) : ∃ nm qn N bs bm sn sub ab col dd k0 k1 k2 k3 k5, K.lookup C = some (excClassObj nm qn C N bs bm true sn sub ab col dd k0 k1 k2 k3 k5 "ValueError.__new__") ∧ PySem.HandSPX.refsVE bm = true := by
  unfold oexB at q
  split at q
  · rename_i dd cd sl ho
    split at q
    · rename_i C' bm k0 k1 k2 k3 n k5 hm hs
      simp only [Bool.and_eq_true, beq_iff_eq, Bool.not_eq_true'] at q
      obtain ⟨⟨⟨⟨rfl, rfl⟩, hdel⟩, hdc⟩, hbm⟩ := q
      obtain ⟨nm, bs, mro, ns, qn, hd, sn, sub, ab, col, del⟩ := cd
      dsimp only at hm hdel hdc
      subst hm hdel hdc
      have hsl : sl = #[k0, k1, k2, k3, some (.builtin "ValueError.__new__"), k5] := by
        obtain ⟨z⟩ := sl
        simp only at hs
        rw [hs]
      subst hsl
      exact ⟨nm, qn, ns, bs, bm, sn, sub, ab, col, dd, k0, k1, k2, k3, k5, ho, hbm⟩
    · cases q
  · cases q
/-- the error class named x, its fields fs -/
def errB (K : PySem.W.Frag) (x : Str) (fs : List Str) : Bool :=
  oexB K (He.ga K x) && (decide (PySem.W.findIn K (.ref (He.ga K x)) "__setattr__" = some (some (.builtin "object.__setattr__"))) && (decide (PySem.W.subIn K (.ref (He.ga K x)) (.type "BaseException") = some true) && (decide (PySem.W.typeIn K (.ref (He.ga K x)) = some (.type "type")) && (PySem.W.keepIn K (.ref (He.ga K x)) &&
  (decide (PySem.W.findIn K (.ref (He.ga K x)) "__init__" = some (some (.ref (He.ma K (He.ga K x) "__init__")))) && (decide (PySem.W.typeIn K (.ref (He.ma K (He.ga K x) "__init__")) = some (.type "function")) && ((fs.all fun f => decide (PySem.W.findIn K (.ref (He.ga K x)) f = some none)) && (xfB K (He.ga K x) &&
  ((PySem.W.clsIn K (He.ga K x)).isSome && (decide (PySem.W.findIn K (.ref (He.ga K x)) "__class__" = some (some (.builtin "object.__class__"))) && (decide (PySem.W.specialIn K (.builtin "object.__class__") "__get__" = some (some (.builtin "getset_descriptor.__get__"))) &&
  (decide (PySem.W.takesIn K (.builtin "object.__class__") = some true) && decide (PySem.W.mroIn K (He.ga K x) (.type "object") = some true)))))))))))))
structure ErrF (K : PySem.W.Frag) (C fI : Addr) (fs : List Str) : Prop where
  o : OexC K C
  i : PySem.W.findIn K (.ref C) "__init__" = some (some (.ref fI))
  ti : PySem.W.typeIn K (.ref fI) = some (.type "function")
  no : ∀ f ∈ fs, PySem.W.findIn K (.ref C) f = some none
  xf : XfC K C
  is_ : IsC K C
theorem errB_ok {K : PySem.W.Frag} {x : Str} {fs : List Str} (h : errB K x fs = true) : ErrF K (He.ga K x) (He.ma K (He.ga K x) "__init__") fs := by
  unfold errB at h
  simp only [Bool.and_eq_true, decide_eq_true_eq, List.all_eq_true] at h
  obtain ⟨h1, h2, h3, h4, h5, h6, h7, h8, h9, h10, h11, h12, h13, h14⟩ := h
  have X := xfB_ok h9
  exact ⟨⟨oexB_ok h1, h2, h3, h4, h5⟩, h6, h7, h8, X, ⟨h10, X.ga, X.gg, X.exC, h11, h12, h13, h14⟩⟩
def baseB (K : PySem.W.Frag) (x : Str) : Bool := PySem.W.readsIn K (He.ga K x) (.type "type") && (decide (PySem.W.specialIn K (.ref (He.ga K x)) "__getattribute__" = some (some (.builtin "type.__getattribute__"))) && (match PySem.W.findCls K (.ref (He.ga K x)) (.type "type") "__init__" with
  | some (.val (.builtin z)) => z == "ValueError.__init__"
  | _ => false))
theorem baseB_ok {K : PySem.W.Frag} {mg : Str → Option Value} {x : Str} (h : baseB K x = true) (g : mg x = some (.ref (He.ga K x))) : BaseC K mg x (He.ga K x) := by
  unfold baseB at h
  simp only [Bool.and_eq_true, decide_eq_true_eq] at h
  obtain ⟨h1, h2, h3⟩ := h
  refine ⟨g, h1, h2, ?_⟩
  split at h3
  · rename_i z e
    rw [e, beq_iff_eq.mp h3]
  · cases h3
/-! ### a hook: what the module's names reach, and the runtime's own names -/
def frW (n : Nat) (g : Addr → Option Obj) : PySem.W.Frag := He.frT g (cStatics :: He.asD g n)
def obsW (n : Nat) (fa : List He.Fa) (fn : List He.DefD) (ex : PySem.W.Frag → Bool) (g : Addr → Option Obj) : He.AlD × Bool := (He.obsD fa fn (frW n g), ex (frW n g))
def hookW (n : Nat) (fa : List He.Fa) (fn : List He.DefD) (ex : PySem.W.Frag → Bool) : PySem.W.Hook where
  α := He.AlD × Bool
  obs := fun s => obsW n fa fn ex s.heap.get?
  val := fun _ => (He.valD fn, true)
  says := fun _ h => ∃ K : PySem.W.Frag, K.In h ∧ He.SaysD fa fn K ∧ ex K = true
  of := fun _ _ e => ⟨_, He.frT_in, congrArg (fun z : He.AlD × Bool => z.1) e, congrArg (fun z : He.AlD × Bool => z.2) e⟩
  keeps := fun _ _ _ ⟨K, hK, c⟩ k => ⟨K, PySem.W.Frag.In.keeps hK k, c⟩
theorem obsW_eq {n : Nat} {fa : List He.Fa} {fn : List He.DefD} {ex : PySem.W.Frag → Bool} {g : Addr → Option Obj} {s : Shared} (h : ∀ a, g a = s.heap.get? a) : obsW n fa fn ex g = (hookW n fa fn ex).obs s := by
  have e : g = s.heap.get? := funext h
  rw [e] <;> rfl
end Wf
/-! A name of the module that stands for a tuple of numbers. -/
namespace Pv
open PySem PySem.Spec L2 Wf
end Pv
/-! Truth of data: in tests, in or; t > u of tuples of numbers; x -= e. -/
namespace Pv
open PySem PySem.Spec L2 Wf
/-! ### t > u -/
end Pv
namespace Pv
/-! Roads: which passing is sooner, and that each is of neighbours. Numbers alone. -/
abbrev Ev := Nat × Nat
/-- kinds, paces, spots by walkers, of n walkers -/
structure Rod (n : Nat) (k : Nat → Nat) (p s : Nat → Int) : Prop where
  up : ∀ i j, i < j → j < n → s i < s j ∨ s i = s j ∧ k i < k j
  pk : ∀ i j, i < n → j < n → k i < k j → p i < p j
  pe : ∀ i j, i < n → j < n → k i = k j → p i = p j
def IsEv (n : Nat) (k : Nat → Nat) (i j : Nat) : Prop := i < j ∧ j < n ∧ k j < k i
def wy (s : Nat → Int) (e : Ev) : Int := s e.2 - s e.1
def gp (p : Nat → Int) (e : Ev) : Int := p e.1 - p e.2
/-- by kinds, then by numbers -/
def soonK (k : Nat → Nat) (e f : Ev) : Prop := k f.1 < k e.1 ∨ k e.1 = k f.1 ∧ (k f.2 < k e.2 ∨ k e.2 = k f.2 ∧ (e.1 < f.1 ∨ e.1 = f.1 ∧ e.2 < f.2))
def soon (k : Nat → Nat) (p s : Nat → Int) (e f : Ev) : Prop := wy s e * gp p f < wy s f * gp p e ∨ wy s e * gp p f = wy s f * gp p e ∧ soonK k e f
section
variable {n : Nat} {k : Nat → Nat} {p s : Nat → Int}
theorem soonK_asym {e f : Ev} (h : soonK k e f) : ¬ soonK k f e := by
  unfold soonK at *
  omega
theorem soon_asym {e f : Ev} (h : soon k p s e f) : ¬ soon k p s f e := by
  unfold soon at *
  intro z
  have := @soonK_asym k e f
  rcases h with h | ⟨h, h2⟩ <;> rcases z with z | ⟨z, z2⟩
  · omega
  · omega
  · omega
  · exact this h2 z2
theorem soon_irr (e : Ev) : ¬ soon k p s e e := fun h => soon_asym h h
/-! the walkers that stand by at a passing -/
variable (R : Rod n k p s)
include R
end
end Pv
namespace Pv
open PySem PySem.Spec L2 Wf
/-! ### what the program's three defs are to do -/
end Pv
/-! x += list; sorted(list of tuples of numbers). -/
namespace Pv
open PySem PySem.Spec L2 Wf
/-! ### sorted(list of tuples of d numbers in [0, B)) -/
end Pv
/-! Comprehensions with two fors, by value. -/
namespace Pv
open PySem PySem.Spec L2 Wf
variable {B : Bas}
/-- the second for's turns; acc is what was made before -/
def comp1I (g : PGx) (tt : PB) (elt : PX) (vs : List Nat) (Kk : List PyData → List Sl → Prop) (ds : List PyData) (acc : List PyData) (δ : List Sl) : Prop := ∃ I : Nat → List PyData → List Sl → Prop, I 0 acc δ ∧
  (∀ (i : Nat) d acc δ, ds[i]? = some d → I i acc δ → g d δ fun δ2 => tt δ2 fun b δ3 => if b = true then elt δ3 fun r δ4 => ∃ e δ5, fz δ4 r = some (e, δ5) ∧ acc.length < sizeLine ∧ I (i + 1) (acc ++ [e]) (wipeS δ5 vs) else I (i + 1) acc (wipeS δ3 vs)) ∧ ∀ acc δ, I ds.length acc δ → Kk acc δ
def comp2I (g : PGx) (tt : PB) (it1 : PIx) (g1 : PGx) (tt1 : PB) (elt : PX) (vs vs1 : List Nat) (Kk : List PyData → List Sl → Prop) (ds : List PyData) (δ : List Sl) : Prop := ∃ I : Nat → List PyData → List Sl → Prop, I 0 [] δ ∧
  (∀ (i : Nat) d acc δ, ds[i]? = some d → I i acc δ → g d δ fun δ2 => tt δ2 fun b δ3 => if b = true then it1 δ3 fun es δ4 => comp1I g1 tt1 elt vs1 (fun acc δ => I (i + 1) acc (wipeS δ vs)) es acc (wipeS δ4 vs1) else I (i + 1) acc (wipeS δ3 vs)) ∧ ∀ acc δ, I ds.length acc δ → Kk acc δ
def pComp2 (it : PIx) (g : PGx) (tt : PB) (it1 : PIx) (g1 : PGx) (tt1 : PB) (elt : PX) (vs vs1 : List Nat) : PX := fun δ Q => it δ fun ds δ1 => noPin δ1 vs ∧ comp2I g tt it1 g1 tt1 elt vs vs1 (fun acc δ2 => Q (.ow (.lst acc)) (restS δ1 δ2 vs)) ds (wipeS δ1 vs)
theorem lc_lift2 {K : PySem.W.Frag} {pi pi1 : PIx} {ts ts1 vs vs1 : List Nat} {g g1 : PGx} {tt tt1 : PB} {elt : PX} {σ : St} {H : Hp} {Q : VK} (hts : ∀ i ∈ ts, i ∈ vs) (hts1 : ∀ i ∈ ts1, i ∈ vs1) (hv : ∀ i ∈ vs1, i ∈ vs) (h : LE K B (pComp2 pi g tt pi1 g1 tt1 elt vs vs1) σ H Q) :
    tLc2 (LI K B pi) (LG K B ts g) (LB K B tt) (LI K B pi1) (LG K B ts1 g1) (LB K B tt1) (LE K B elt) vs vs1 σ H Q := by
  obtain ⟨G, w, δ, Qp, rep, q, k⟩ := h
  refine ⟨G, w, δ, _, rep, q, fun ds δ1 J H1 G1 w1 q1 s1 rep1 itd D hD => ?_⟩
  obtain ⟨np, I, i0, is, ie⟩ := q1
  obtain ⟨w2, s2, r2⟩ := rep1.retLst (us := []) (ds := []) hD .nil
  have noA : ∀ acc : List PyData, ∀ p ∈ [R.ow (.lst acc)], isAt p = false := fun acc p hp => by rw [List.mem_singleton.mp hp]; rfl
  have ni : ∀ (i : Nat) o, δ[i]? = some (Sl.ow true o) → i ∉ vs := fun i o hi => by
    obtain ⟨o1, h1⟩ := s1.pn i o hi
    exact fun z => np i z o1 h1
  have pnw : ∀ {G' H' : Hp} {w' : Addr → Option Nat} {δ' : List Sl}, Stp B.T G H w δ G' H' w' δ' → Stp B.T G H w δ G' H' w' (wipeS δ' vs) := fun s => s.reδ fun i o hi => by
    obtain ⟨o1, h1⟩ := s.pn i o hi
    exact ⟨o1, by rw [wipeS_ne (ni i o hi)]; exact h1⟩
  have pnw1 : ∀ {G' H' : Hp} {w' : Addr → Option Nat} {δ' : List Sl}, Stp B.T G H w δ G' H' w' δ' → Stp B.T G H w δ G' H' w' (wipeS δ' vs1) := fun s => s.reδ fun i o hi => by
    obtain ⟨o1, h1⟩ := s.pn i o hi
    exact ⟨o1, by rw [wipeS_ne (fun z => ni i o hi (hv i z))]; exact h1⟩
  refine ⟨fun i m H' => m = ds.length - i ∧ i ≤ ds.length ∧ ∃ G' w' δ' acc, Stp B.T G H w δ G' H' w' δ' ∧ Same G1 G' ∧ Rep K B G' H' (wipe σ vs) δ' [.ref D] [.ow (.lst acc)] w' ∧ I i acc δ', ⟨ds.length, rfl, Nat.zero_le _, G1, w2, wipeS δ1 vs, [], pnw (s1.trans s2), fun _ _ h => h, r2.reσ (by rw [wipe_length, wipeS_len]; exact r2.len) (fun i s hi => ?_) (noA _), i0⟩, ?_⟩
  · rcases wipeS_get hi with e | ⟨e1, e2⟩
    · exact .inl e
    · exact .inr ⟨e1, wipe_ne e2⟩
  rintro i m H' ⟨rfl, hi, G', w', δ', acc, st, sg, rp, q⟩
  by_cases hlt : i < ds.length
  · have q := is i _ acc δ' (List.getElem?_eq_getElem hlt) q
    refine .inr ⟨itd.go G' H' i sg rp.sub hlt, fun H2 => i + 1 ≤ ds.length ∧ ∃ G' w' δ' acc, Stp B.T G H w δ G' H2 w' δ' ∧ Same G1 G' ∧ Rep K B G' H2 (wipe σ vs) δ' [.ref D] [.ow (.lst acc)] w' ∧ I (i + 1) acc δ', fun H2 z => ⟨ds.length - (i + 1), by omega, rfl, z⟩, fun x H2 y => ?_⟩
    obtain ⟨d, hd, res⟩ := itd.yld G' H' i x H2 sg rp.sub hlt y
    rw [List.getElem?_eq_getElem hlt] at hd
    cases hd
    obtain ⟨G2, s2, r2, hq⟩ := rp.res res
    refine ⟨G2, _, δ', _, _, r2.drop, hq, q, fun δ3 σ3 H3 G3 w3 q3 s3 r3 p3 t3 => ⟨wipe_eq t3 hts, ?_⟩⟩
    obtain ⟨w4, s4, r4⟩ := r2.frameS (noA _) s3 r3
    have back : ∀ {G9 H9 : Hp} {w9 : Addr → Option Nat} {σ9 : St} {δ9 : List Sl} {acc9 : List PyData}, σ9.length = (wipe σ vs).length → (∀ k, k ∉ vs → σ9[k]? = (wipe σ vs)[k]?) → Rep K B G9 H9 σ9 δ9 [.ref D] [.ow (.lst acc9)] w9 → Rep K B G9 H9 (wipe σ vs) (wipeS δ9 vs) [.ref D] [.ow (.lst acc9)] w9 := fun {G9 H9 w9 σ9 δ9 acc9} hl hk r9 => by
      refine r9.reσ ?_ (fun k s hk' => ?_) (noA _)
      · rw [wipeS_len, ← r9.len, hl]
      · rcases wipeS_get hk' with e | ⟨e1, e2⟩
        · exact .inl e
        · exact .inr ⟨e1, (hk k e2).symm⟩
    have l3 : σ3.length = (wipe σ vs).length := t3.1
    have k3 : ∀ k, k ∉ vs → σ3[k]? = (wipe σ vs)[k]? := fun k hk => t3.2 k fun z => hk (hts k z)
    refine ⟨G3, _, δ3, _, r4.drop, q3, fun b δ5 H5 G5 w5 q5 s5 r5 => ?_⟩
    obtain ⟨w6, s6, r6⟩ := r4.frame s5 r5
    have st6 := ((st.trans s2).trans s4).trans s6
    have sg6 : Same G1 G5 := fun a o ha => s6.g a o (s4.g a o (s2.g a o (sg a o ha)))
    cases b with
    | false => exact ⟨hlt, G5, w6, _, acc, pnw st6, sg6, back l3 k3 r6, q5⟩
    | true =>
      refine ⟨G5, _, δ5, _, r6.drop, q5, fun es δ7 J1 H7 G7 w7 q7 s7 r7 itd1 => ?_⟩
      obtain ⟨w8, s8, r8⟩ := r6.frame s7 r7
      obtain ⟨I1, j0, js, je⟩ := q7
      have st8 := st6.trans s8
      have sg8 : Same G1 G7 := fun a o ha => s8.g a o (sg6 a o ha)
      refine ⟨fun j kk H' => kk = es.length - j ∧ j ≤ es.length ∧ ∃ G' w' δ' acc, Stp B.T G H w δ G' H' w' δ' ∧ Same G1 G' ∧ Same G7 G' ∧ Rep K B G' H' (wipe σ3 vs1) δ' [.ref D] [.ow (.lst acc)] w' ∧ I1 j acc δ', ⟨es.length, rfl, Nat.zero_le _, G7, w8, wipeS δ7 vs1, acc, pnw1 st8, sg8, fun _ _ h => h, r8.reσ (by rw [wipe_length, wipeS_len]; exact r8.len) (fun i s hi => ?_) (noA _), j0⟩, ?_⟩
      · rcases wipeS_get hi with e | ⟨e1, e2⟩
        · exact .inl e
        · exact .inr ⟨e1, wipe_ne e2⟩
      rintro j kk Ha ⟨rfl, hj, Ga, wa, δa, acca, sta, sga, sga', rpa, qa⟩
      by_cases hlt1 : j < es.length
      · have qa := js j _ acca δa (List.getElem?_eq_getElem hlt1) qa
        refine .inr ⟨itd1.go Ga Ha j sga' rpa.sub hlt1, fun H2 => j + 1 ≤ es.length ∧ ∃ G' w' δ' acc, Stp B.T G H w δ G' H2 w' δ' ∧ Same G1 G' ∧ Same G7 G' ∧ Rep K B G' H2 (wipe σ3 vs1) δ' [.ref D] [.ow (.lst acc)] w' ∧ I1 (j + 1) acc δ', fun H2 z => ⟨es.length - (j + 1), by omega, rfl, z⟩, fun x1 Hb y1 => ?_⟩
        obtain ⟨d1, hd1, res1⟩ := itd1.yld Ga Ha j x1 Hb sga' rpa.sub hlt1 y1
        rw [List.getElem?_eq_getElem hlt1] at hd1
        cases hd1
        obtain ⟨Gb, sb, rb, hqb⟩ := rpa.res res1
        refine ⟨Gb, _, δa, _, _, rb.drop, hqb, qa, fun δc σc Hc Gc wc qc sc rc pc tc => ⟨wipe_eq tc hts1, ?_⟩⟩
        obtain ⟨wd, sd, rd⟩ := rb.frameS (noA _) sc rc
        have back1 : ∀ {G9 H9 : Hp} {w9 : Addr → Option Nat} {δ9 : List Sl} {acc9 : List PyData}, Rep K B G9 H9 σc δ9 [.ref D] [.ow (.lst acc9)] w9 → Rep K B G9 H9 (wipe σ3 vs1) (wipeS δ9 vs1) [.ref D] [.ow (.lst acc9)] w9 := fun {G9 H9 w9 δ9 acc9} r9 => by
          refine r9.reσ ?_ (fun k s hk => ?_) (noA _)
          · rw [wipe_length, wipeS_len, ← r9.len, tc.1, wipe_length]
          · rcases wipeS_get hk with e | ⟨e1, e2⟩
            · exact .inl e
            · exact .inr ⟨e1, (tc.2 k fun z => e2 (hts1 k z)).symm⟩
        refine ⟨Gc, _, δc, _, rd.drop, qc, fun b1 δe He Ge we qe se re => ?_⟩
        obtain ⟨wf, sf, rf⟩ := rd.frame se re
        have stf := ((sta.trans sb).trans sd).trans sf
        have sgf : Same G1 Ge := fun a o ha => sf.g a o (sd.g a o (sb.g a o (sga a o ha)))
        have sgf' : Same G7 Ge := fun a o ha => sf.g a o (sd.g a o (sb.g a o (sga' a o ha)))
        cases b1 with
        | false => exact ⟨hlt1, Ge, wf, _, acca, pnw1 stf, sgf, sgf', back1 rf, qe⟩
        | true =>
          refine ⟨Ge, _, δe, _, rf.drop, qe, fun r δg y Hg Gg wg qg sg9 rg => ?_⟩
          obtain ⟨wh, sh, rh⟩ := rf.frame sg9 rg
          obtain ⟨e, δi, hz, hl, qg⟩ := qg
          obtain ⟨Gi, wi, si, ri⟩ := rh.fz1 (j := 1) rfl rfl hz
          have ri' : Rep K B Gi Hg σc δi [.ref D, y] [.ow (.lst acca), .im e] wi := ri
          have hy : Dq K Gi y e := ri'.tm 1 y (.im e) rfl rfl
          obtain ⟨a, us, ea, ma, ha, hus⟩ := ri'.tm 0 (.ref D) (.ow (.lst acca)) rfl rfl
          cases ea
          obtain ⟨us2, h2, h3, s10, r10⟩ := ri'.wrT (dqAll_append hus (.cons hy .nil))
          refine ⟨us, ha, by rw [dqAll_len hus]; exact hl, hlt1, Gi, wi, _, acca ++ [e], pnw1 (((stf.trans sh).trans si).trans s10), fun a o h => si.g a o (sh.g a o (sgf a o h)), fun a o h => si.g a o (sh.g a o (sgf' a o h)), back1 r10.first, qg⟩
      · have ej : j = es.length := by omega
        subst ej
        refine .inl ⟨itd1.stop Ga Ha sga' rpa.sub, hlt, Ga, wa, wipeS δa vs, acca, pnw sta, sga, back ?_ (fun k hk => ?_) rpa, je acca δa qa⟩
        · rw [wipe_length, l3]
        · rw [wipe_ne (fun z => hk (hv k z))]
          exact k3 k hk
  · have ei : i = ds.length := by omega
    subst ei
    refine .inl ⟨itd.stop G' H' sg rp.sub, k _ _ _ H' G' w' (ie acc δ' q) (st.reδ fun j o hj => ?_) ⟨rp.sub, rp.out, by rw [restS_len, ← rp.len, wipe_length], fun j s hj => ?_, rp.tlen, fun j v p hv hp => (rp.tm j v p hv hp).noAt (noA _ p (List.mem_of_getElem? hp)), rp.bs⟩⟩
    · obtain ⟨o1, h1⟩ := st.pn j o hj
      exact ⟨o1, by rw [restS_ne (ni j o hj)]; exact h1⟩
    · by_cases hm : j ∈ vs
      · rcases restS_in hm hj with rfl | ⟨d, rfl, e0⟩
        · trivial
        · obtain ⟨v, hv, hd⟩ := rep1.sl j _ e0
          exact ⟨v, hv, dp_mono sg _ _ hd⟩
      · rw [restS_ne hm] at hj
        have := rp.sl j s hj
        rwa [wipe_ne hm] at this
section
variable {X : Cx}
theorem je_lc2 {elt tg iter tg1 iter1 : Expr} {ifs ifs1 : List Expr} {scope : Scope} {own : List (Str × Nat)} {pos : Pos} {pi pi1 : PIx} {ts ts1 : List Nat} {g g1 : PGx} {tt tt1 : PB} {pe : PX} (vs1 : List Nat) (hc : X.calm = true) (hN : X.N.Nodup) (hi : JI X B tg iter pi) (ok : BlkOk X.N X.env.scope scope own)
    (hg : ∀ (s : Shared) (H : Hp) (C : Addr) (cl : List (Str × Addr)) (fp : List Addr), JG (X.blk s H scope (compEnvC scope cl C X.env) fp) B tg ts g) (ht : ∀ (s : Shared) (H : Hp) (C : Addr) (cl : List (Str × Addr)) (fp : List Addr), JTs (X.blk s H scope (compEnvC scope cl C X.env) fp) B ifs tt)
    (hi1 : ∀ (s : Shared) (H : Hp) (C : Addr) (cl : List (Str × Addr)) (fp : List Addr), JI (X.blk s H scope (compEnvC scope cl C X.env) fp) B tg1 iter1 pi1)
    (hg1 : ∀ (s : Shared) (H : Hp) (C : Addr) (cl : List (Str × Addr)) (fp : List Addr), JG (X.blk s H scope (compEnvC scope cl C X.env) fp) B tg1 ts1 g1) (ht1 : ∀ (s : Shared) (H : Hp) (C : Addr) (cl : List (Str × Addr)) (fp : List Addr), JTs (X.blk s H scope (compEnvC scope cl C X.env) fp) B ifs1 tt1)
    (he : ∀ (s : Shared) (H : Hp) (C : Addr) (cl : List (Str × Addr)) (fp : List Addr), JE (X.blk s H scope (compEnvC scope cl C X.env) fp) B elt pe) (hts : ∀ i ∈ ts, i ∈ own.map (·.2) := by decide) (hts1 : ∀ i ∈ ts1, i ∈ vs1 := by decide) (hv : ∀ i ∈ vs1, i ∈ own.map (·.2) := by decide) (hs : ∀ x, foldedSetIterable iter X.env x = pure x := by intro _; rfl) (hs1 : ∀ env x, foldedSetIterable iter1 env x = pure x := by intro _ _; rfl) :
    JE X B (.ListComp elt [⟨tg, iter, ifs, 0⟩, ⟨tg1, iter1, ifs1, 0⟩] scope pos) (pComp2 pi g tt pi1 g1 tt1 pe (own.map (·.2)) vs1) := PE_wk (pe_lc2 (g := LG X.K B ts g) (tt := LB X.K B tt) (wi1 := LI X.K B pi1) (g1 := LG X.K B ts1 g1) (tt1 := LB X.K B tt1) (te := LE X.K B pe) hc hN hi ok hv hg ht hi1 hg1 ht1 he hs hs1) fun σ H Q h => lc_lift2 hts hts1 hv h
end
end Pv
/-! A def within a def, told with how the tables of code grow. -/
namespace Pv
open PySem PySem.Spec PyProof.Rows L2 LamX NdefX Wf
end Pv
/-! The end of a law whose defs make defs: tables of code objects, no guard. -/
namespace Wf
open PySem PySem.Spec PyProof.Rows L2 LamX
/-! ### a hook that tells of tables -/
end Wf
/-! A law whose program makes defs: its beginning, by value; old contracts that let tables grow, by value. -/
namespace Pv
open PySem PySem.Spec L2 LamX NdefX Wf
end Pv
/-! Lambdas that hold nothing: made, handed on, called; by value. -/
namespace Pv
open PySem PySem.Spec PyProof.Rows L2 LamX NdefX Wf
end Pv
/-! Lambdas called. -/
namespace Pv
open PySem PySem.Spec PyProof.Rows L2 LamX NdefX Wf
end Pv
/-! sorted(range(n), key=a lambda that holds a name). -/
namespace Pv
open PySem PySem.Spec PyProof.Rows L2 LamX NdefX Wf SrtO Srt
/-! ### a lambda that holds names, called -/
/-! ### list.sort(key=f) -/
section
variable {X : Cx} {A : Around} {pins : List (Addr × Obj)} {σ : L2.St} {H : Hp} {s : Shared} {a kS f : Addr} {e e1 : Nat} {P : PySem.Fin → Shared → Prop} {E : Value → Shared → Prop}
def KeysAt (H : Hp) (kf : Int → Int × Int) (us : List Value) (ns : List Int) : Prop := ∃ ps : List Addr, us = ps.map Value.ref ∧ ps.length = ns.length ∧ ∀ (j : Nat) p n, ps[j]? = some p → ns[j]? = some n → H p = some (.tup [.int (kf n).1, .int (kf n).2])
theorem KeysAt.snoc {H : Hp} {kf : Int → Int × Int} {us : List Value} {ns : List Int} {p : Addr} {n : Int} (k : KeysAt H kf us ns) (h : H p = some (.tup [.int (kf n).1, .int (kf n).2])) : KeysAt H kf (us ++ [.ref p]) (ns ++ [n]) := by
  obtain ⟨ps, rfl, hl, hk⟩ := k
  refine ⟨ps ++ [p], by simp, by simp [hl], fun j q m hq hm => ?_⟩
  by_cases hj : j < ps.length
  · rw [List.getElem?_append_left hj] at hq
    rw [List.getElem?_append_left (by omega)] at hm
    exact hk j q m hq hm
  · rw [List.getElem?_append_right (by omega)] at hq
    rw [List.getElem?_append_right (by omega)] at hm
    rw [← hl] at hm
    cases hx : j - ps.length with
    | zero =>
      rw [hx] at hq hm
      cases hq
      cases hm
      exact h
    | succ i => rw [hx] at hq; simp at hq
theorem KeysAt.mono {H H' : Hp} {kf : Int → Int × Int} {us : List Value} {ns : List Int} (k : KeysAt H kf us ns) (h : ∀ b xs, H b = some (.tup xs) → H' b = some (.tup xs)) : KeysAt H' kf us ns := by
  obtain ⟨ps, e, hl, hk⟩ := k
  exact ⟨ps, e, hl, fun j q m hq hm => h _ _ (hk j q m hq hm)⟩
end
section
variable {X : Cx} {pins : List (Addr × Obj)} {σ : L2.St} {H : Hp} {s : Shared} {f r : Addr} {E : Value → Shared → Prop} {Q : Value → Shared → Prop}
theorem vals_ints : ∀ {ns : List Int} {us : List Value}, IntsAre us ns → Vals (ns.map V.int) us
  | _, _, .nil => .nil
  | _, _, .cons n t h => .cons ⟨t, rfl⟩ (vals_ints h)
end
end Pv
/-! A def whose code object is known, by value; the lambda of a def. -/
namespace Pv
open PySem PySem.Spec PyProof.Rows L2 LamX NdefX Wf
end Pv
/-! sorted(range(n), key=lambda i: (x[i], i)), by value. -/
namespace Pv
open PySem PySem.Spec PyProof.Rows L2 LamX NdefX Wf SrtO Srt
end Pv
namespace Pv
open PySem PySem.Spec L2 Wf
/-! ### slices, equal data -/
theorem cut_drop {α : Type} (xs : List α) (k : Nat) : cutD xs (some (k : Int)) none = xs.drop k := by
  unfold cutD
  rw [HT.sIx_none, HT.sIx_nat]
  by_cases h : k ≤ xs.length
  · rw [Nat.min_eq_left h, List.take_of_length_le (by rw [List.length_drop]; omega)]
  · rw [Nat.min_eq_right (by omega), List.drop_length, List.drop_of_length_le (by omega)]
    simp
theorem cut_map {α β : Type} (f : α → β) (xs : List α) (lo hi : Option Int) : cutD (xs.map f) lo hi = (cutD xs lo hi).map f := by
  unfold cutD
  rw [List.length_map, List.map_take, List.map_drop]
theorem shapedT_map {α : Type} (f : α → PyData) (n : Nat) (hn : n < 64) (l : List α) (h : ∀ x ∈ l, (f x).canLay0 = true ∧ (f x).depth ≤ n) : SeqAt.shaped (.tuple (l.map f)) = true := by
  have h := lay_map f n l h
  have h2 : (PyData.tuple (l.map f)).depth ≤ n + 1 := Nat.succ_le_succ h.2
  unfold SeqAt.shaped
  rw [show (PyData.tuple (l.map f)).canLay0 = true from h.1]
  simp
  omega
theorem eqd_self {d : PyData} (h : SeqAt.shaped d = true) : eqd d d = true := SeqAt.eqv_refl d (SeqAt.canLay_of_shaped h)
theorem lay_dP (p : Wk) : (dP p).canLay0 = true ∧ (dP p).depth ≤ 1 := ⟨rfl, by show max 0 (max 0 0) + 1 ≤ 1; decide⟩
/-! ### kinds of rows, forward words -/
end Pv
namespace Pv
open PySem PySem.Spec L2 Wf
/-! ### burdens_of -/
theorem noPin2 {δ : List Sl} {u v : Nat} (h1 : ∀ o, δ[u]? ≠ some (.ow true o)) (h2 : ∀ o, δ[v]? ≠ some (.ow true o)) : noPin δ [u, v] := fun x hx o => by
  simp only [List.mem_cons, List.not_mem_nil, or_false] at hx
  rcases hx with rfl | rfl
  · exact h1 o
  · exact h2 o
/-! ### both_ways -/
structure Tri (m : Int) (s u v w a b c : Int) : Prop where
  w0 : 0 ≤ w
  wv : w < v
  vu : v < u
  um : u < m
  a0 : 0 ≤ a
  a1 : a < s
  b0 : 0 ≤ b
  b1 : b < s
  c0 : 0 ≤ c
  c1 : c < s
abbrev tri (u v w a b c : Int) : List Wk := [(u, a), (v, b), (w, c)]
theorem Tri.ok {m s u v w a b c : Int} (h : Tri m s u v w a b c) : RowOk m s (tri u v w a b c) := fun p hp => by
  have := h.w0; have := h.wv; have := h.vu; have := h.um
  have := h.a0; have := h.a1; have := h.b0; have := h.b1; have := h.c0; have := h.c1
  simp only [List.mem_cons, List.not_mem_nil, or_false] at hp
  rcases hp with rfl | rfl | rfl
  · exact ⟨by show 0 ≤ u; omega, by show u < m; omega, by show 0 ≤ a; omega, by show a < s; omega⟩
  · exact ⟨by show 0 ≤ v; omega, by show v < m; omega, by show 0 ≤ b; omega, by show b < s; omega⟩
  · exact ⟨by show 0 ≤ w; omega, by show w < m; omega, by show 0 ≤ c; omega, by show c < s; omega⟩
end Pv
namespace Pv
open PySem PySem.Spec L2 Wf
/-! ### pairs_passed, is_forward, last_order -/
end Pv
/-! Normal words: they lead to their order, forward where the order is. -/
namespace Pv
open PySem PySem.Spec L2 Wf
/-! ### an order, walker by walker -/
def resN (os : List Nat) (m : Nat) : List Nat := os.filter fun i => decide (i < m)
structure Spl (os : List Nat) (m : Nat) (X Y : List Nat) : Prop where
  eq : os = X ++ m :: Y
  nX : m ∉ X
  nY : m ∉ Y
  ix : os.idxOf m = X.length
  af : ∀ i, i ≠ m → i ∈ os → (i ∈ Y ↔ X.length < os.idxOf i)
theorem Spl.res {os X Y : List Nat} {m : Nat} (s : Spl os m X Y) : resN os m = X.filter (fun i => decide (i < m)) ++ Y.filter fun i => decide (i < m) := by
  unfold resN
  rw [s.eq, List.filter_append, List.filter_cons, if_neg (by simp)]
/-! ### kinds -/
end Pv
namespace Pv
open PySem PySem.Spec L2 Wf SrtO
/-! ### last_order -/
end Pv
/-! law k02: what is due, by the law's own going through. -/
namespace Wf
open PySem PySem.Spec L2
section
variable {K : PySem.W.Frag} {C : Addr}
def GiveWN (K : PySem.W.Frag) (H : Hp) (Q : VK) (w : Str) (n : Int) : Prop := ∀ (q : Addr) (H' : Hp), Same H H' → H' q = some (.tup [.str w, .int n]) → Q (.ref q) H'
theorem GiveWN.go {H H1 : Hp} {Q : VK} {w : Str} {n : Int} (g : GiveWN K H Q w n) (s : Same H H1) : ∀ q, H1 q = none → Q (.ref q) (upd H1 q (.tup [.str w, .int n])) := fun q hq => g q _ (s.trans (same_new hq)) upd_same
end
end Wf
/-! law k02: due, told. -/
namespace Wf
open PySem PySem.Spec L2
end Wf
/-! law k02: things made otherwise. -/
namespace Wf
open PySem PySem.Spec L2
mutual
/-- data of None, truths, numbers, texts and tuples of at most n things -/
def fit (n : Nat) : PyData → Bool
  | .none | .bool _ | .int _ => true
  | .str x => PyData.canLay0 (.str x)
  | .tuple ds => decide (ds.length ≤ n) && fitAll n ds
  | .list _ | .dict _ => false
def fitAll (n : Nat) : List PyData → Bool
  | [] => true
  | d :: ds => fit n d && fitAll n ds
end
theorem fitAll_all {n : Nat} : ∀ {ds : List PyData}, fitAll n ds = true ↔ ∀ d ∈ ds, fit n d = true
  | [] => ⟨fun _ d h => (List.not_mem_nil h).elim, fun _ => rfl⟩
  | d :: ds => by
    show (fit n d && fitAll n ds) = true ↔ _
    rw [Bool.and_eq_true, fitAll_all (ds := ds)]
    simp
theorem fit_tup {n : Nat} {ds : List PyData} (h : fit n (.tuple ds) = true) : ds.length ≤ n ∧ ∀ d ∈ ds, fit n d = true := by
  have h' := Bool.and_eq_true_iff.mp (show (decide (ds.length ≤ n) && fitAll n ds) = true from h)
  exact ⟨of_decide_eq_true h'.1, fitAll_all.mp h'.2⟩
end Wf
namespace Wf
open PySem PySem.Spec L2 Pv
end Wf
namespace Pv
open PySem PySem.Spec L2 Wf
/-! ### things of any form -/
/-! ### is_tuple_of -/
def p_is_tuple_of : PSx :=
    pRet (pAndV (pIsi "tuple" (pVar 0)) (pEq false (pC (q1 fLen) (pCons (pVar 0) (pNil))) (pVar 1)))
def psp_is_tuple_of : PSp := fun as Q _ => ∃ (d : PyData) (n : Int), as = [.im d, .im (.int n)] ∧ Q (.im (.bool (isTu n d))) [.un, .un]
theorem hp_is_tuple_of (as : List Sl) (Qp : QE) (Ep : EX) (h : psp_is_tuple_of as Qp Ep) : p_is_tuple_of (endsP as Qp) (as ++ List.replicate 0 .un) := by
  obtain ⟨d, n, rfl, q⟩ := h
  cases d with
  | tuple ds => exact ⟨_, rfl, _, rfl, _, _, rfl, q⟩
  | int i => exact ⟨_, rfl, _, rfl, _, _, rfl, q⟩
  | none => exact ⟨_, rfl, _, rfl, _, _, rfl, q⟩
  | bool b => exact ⟨_, rfl, _, rfl, _, _, rfl, q⟩
  | str b => exact ⟨_, rfl, _, rfl, _, _, rfl, q⟩
  | list b => exact ⟨_, rfl, _, rfl, _, _, rfl, q⟩
  | dict b => exact ⟨_, rfl, _, rfl, _, _, rfl, q⟩
end Pv
namespace Pv
open PySem PySem.Spec L2 Wf
/-! ### kinds_of -/
/-! ### look_order -/
/-! ### normal_word -/
end Pv
namespace Pv
open PySem PySem.Spec L2 Wf
/-! ### look_forward, of a forward order -/
/-! ### borne_in, last_row -/
end Pv
namespace Pv
open PySem PySem.Spec L2 Wf
/-! ### k13: _law_due, _law_told, law -/
-- def law N ['_law_script', '_law_deal_here', '_law_book_here', '_law_row_here', '_law_some', '_law_k', '_law_kept', '_law_far', '_law_due_here', '_law_wanted'] calls ['_law_deal', '_law_book', '_law_draw', '_law_row', '_law_due', '_law_alike', '_law_told'] takes []
end Pv
namespace Pv
open PySem PySem.Spec L2 Wf
/-! ### numbers that are an order -/
/-! ### _law_due -/
/-! ### _law_told -/
/-! ### _law_changed -/
/-! ### k11 -/
end Pv
/-! [a, b, ..][i] of known things. -/
namespace Pv
open PySem PySem.Spec L2 Wf
end Pv
namespace Pv
open PySem PySem.Spec L2 Wf
end Pv
namespace Pv
open PySem PySem.Spec L2 LamX NdefX Wf
/-! ### orders led -/
structure OkO (n : Nat) (o : List Nat) : Prop where
  len : o.length = n
  lt : ∀ x ∈ o, x < n
theorem OkO.get {n j : Nat} {o : List Nat} (h : OkO n o) (hj : j < o.length) : o.getD j 0 < n := by
  rw [List.getD_eq_getElem?_getD, List.getElem?_eq_getElem hj]
  exact h.lt _ (List.getElem_mem hj)
end Pv
/-! Words of runs. -/
namespace Pv
open PySem PySem.Spec L2 Wf
/-! ### as many letters as pairs -/
/-! ### falling kinds -/
end Pv
namespace Pv
open PySem PySem.Spec L2 Wf
/-! ### the order behind a forward word is forward -/
/-! ### the first place of one who has passed wrongly -/
/-! ### look_forward -/
end Pv
namespace Pv
/-! Roads: each passing is of neighbours; the word, and the order behind it. -/
/-- o: an order of n walkers in which j stands behind i, i < j, just where D i j -/
structure InvO (n : Nat) (o : List Nat) (D : Nat → Nat → Prop) : Prop where
  pm : o.Perm (List.range n)
  iv : ∀ a b, a < b → b < n → (o.idxOf b < o.idxOf a ↔ D a b)
theorem InvO.nd {n : Nat} {o : List Nat} {D : Nat → Nat → Prop} (h : InvO n o D) : o.Nodup := h.pm.nodup_iff.mpr List.nodup_range
/-! ### letters of passings -/
/-- all passings, the sooner ones first -/
structure EvL (n : Nat) (k : Nat → Nat) (p s : Nat → Int) (L : List Ev) : Prop where
  mem : ∀ e, e ∈ L ↔ IsEv n k e.1 e.2
  so : L.Pairwise (soon k p s)
section
variable {n : Nat} {k : Nat → Nat} {p s : Nat → Int} {L : List Ev}
theorem EvL.pre {pre post : List Ev} {e : Ev} (h : EvL n k p s L) (eL : L = pre ++ e :: post) (f : Ev) : f ∈ pre ↔ IsEv n k f.1 f.2 ∧ soon k p s f e := by
  have so := h.so
  rw [eL, List.pairwise_append, List.pairwise_cons] at so
  obtain ⟨_, ⟨s2, _⟩, s3⟩ := so
  constructor
  · intro hf
    exact ⟨(h.mem f).mp (by rw [eL]; exact List.mem_append_left _ hf), s3 f hf e List.mem_cons_self⟩
  · rintro ⟨h1, h2⟩
    have := (h.mem f).mpr h1
    rw [eL] at this
    rcases List.mem_append.mp this with z | z
    · exact z
    · rcases List.mem_cons.mp z with rfl | z
      · exact absurd h2 (soon_irr _)
      · exact absurd h2 (soon_asym (s2 f z))
end
/-! ### one list alone -/
end Pv
namespace Pv
/-! Roads: letters by counting; what is done by a beat; who stands where then. -/
end Pv
namespace Pv
/-! Roads: the list of all passings, made by putting each where it is due. -/
section
variable {n : Nat} {k : Nat → Nat} {p s : Nat → Int}
instance soonDec (k : Nat → Nat) (p s : Nat → Int) (e f : Ev) : Decidable (soon k p s e f) := by
  unfold soon soonK; infer_instance
end
end Pv
/-! sorted(list of tuples of d ints), any ints, any number of them. -/
namespace L2
open PySem PySem.Spec PyProof.Rows
end L2
namespace Pv
open PySem PySem.Spec L2 Wf
end Pv
namespace Pv
open PySem PySem.Spec L2 Wf
/-! Roads: what passings does. -/
/-! ### common_divisor -/
-- DEF common_divisor N ['one', 'other'] calls [] takes []
/-! ### common_multiple -/
-- DEF common_multiple N ['numbers', 'multiple', 'number'] calls ['common_divisor'] takes []
/-! ### moment_of -/
-- DEF moment_of N ['upper', 'lower', 'divisor'] calls ['common_divisor'] takes []
/-! ### in_told_order -/
-- DEF in_told_order N ['kinds', 'meetings', 'parts', 'turns', 'way', 'gap', 'i', 'j', 'when', 'less_u', 'less_v'] calls ['common_multiple', 'moment_of'] takes []
/-! ### passings -/
-- DEF passings N ['book', 'kinds', 'spots', 'paces', 'many', 'meetings', 'i', 'j'] calls ['in_told_order'] takes []
abbrev kf (ks : List Nat) : Nat → Nat := fun i => ks.getD i 0
abbrev sf (ss : List Int) : Nat → Int := fun i => ss.getD i 0
/-- rising spots; at one spot the quicker ones are ahead -/
structure UpK (ks : List Nat) (ss : List Int) : Prop where
  up : ∀ i j, i < j → j < ks.length → j < ss.length → ss.getD i 0 < ss.getD j 0 ∨ ss.getD i 0 = ss.getD j 0 ∧ ks.getD i 0 < ks.getD j 0
structure RdOk (m : Int) (ps : List Int) (ks : List Nat) (ss : List Int) : Prop where
  pac : PacesOk m ps
  m5 : m ≤ 5
  kl : ∀ k ∈ ks, (k : Int) < m
  n10 : ks.length ≤ 10
  sl : ss.length = ks.length
  up : UpK ks ss
  lo : ∀ x ∈ ss, -(2 ^ 103) ≤ x ∧ x < 2 ^ 103
theorem getDm {α : Type} {l : List α} {i : Nat} {d : α} (h : i < l.length) : l.getD i d ∈ l := by
  rw [List.getD_eq_getElem?_getD, List.getElem?_eq_getElem h]
  exact List.getElem_mem h
theorem up_get {l : List Int} (h : l.Pairwise (· < ·)) {i j : Nat} (hij : i < j) (hj : j < l.length) : l.getD i 0 < l.getD j 0 := by
  have := List.pairwise_iff_getElem.mp h i j (by omega) hj hij
  rw [List.getD_eq_getElem?_getD, List.getD_eq_getElem?_getD, List.getElem?_eq_getElem hj, List.getElem?_eq_getElem (show i < l.length by omega)]
  exact this
theorem UpK.of {ks : List Nat} {ss : List Int} (h : ss.Pairwise (· < ·)) : UpK ks ss := ⟨fun i j hij _ hj => .inl (up_get h hij hj)⟩
instance {ks : List Nat} {ss : List Int} : Coe (ss.Pairwise (· < ·)) (UpK ks ss) := ⟨UpK.of⟩
theorem RdOk.kp {m : Int} {ps ss : List Int} {ks : List Nat} (h : RdOk m ps ks ss) {i : Nat} (hi : i < ks.length) : ks.getD i 0 < ps.length := by
  have := h.kl _ (getDm (d := 0) hi)
  have := h.pac.len
  omega
end Pv
namespace Pv
open PySem PySem.Spec L2 Wf
/-! Roads: the law's settings out. -/
/-! ### _law_part -/
-- DEF _law_part N ['_law_one', '_law_other'] calls [] takes []
/-! ### _law_bare_book -/
-- DEF _law_bare_book N ['_law_deal_here', '_law_many', '_law_times', '_law_widest', '_law_steps', '_law_paces', '_law_step', '_law_k'] calls ['_law_draw'] takes []
/-! ### _law_kinds -/
-- DEF _law_kinds N ['_law_deal_here', '_law_book', '_law_many', '_law_found', '_law_k'] calls ['_law_draw'] takes []
/-! ### _law_spots -/
-- DEF _law_spots N ['_law_deal_here', '_law_many', '_law_begins', '_law_k', '_law_form', '_law_wide', '_law_spot', '_law_great', '_law_found', '_law_step', '_law_leap'] calls ['_law_draw'] takes []
/-! ### _law_meeting -/
-- DEF _law_meeting N ['_law_deal_here', '_law_book', '_law_many', '_law_pace', '_law_hour', '_law_swift', '_law_shared', '_law_at', '_law_who', '_law_stands', '_law_group', '_law_kind', '_law_lead'] calls ['_law_part', '_law_draw'] takes []
abbrev pp (ps : List Int) (j : Nat) : Int := ps.getD j 0
/-! ### _law_setting -/
-- DEF _law_setting N ['_law_deal_here', '_law_book', '_law_many'] calls ['_law_draw', '_law_meeting', '_law_spots', '_law_kinds'] takes []
end Pv
namespace Pv
open PySem PySem.Spec L2 Wf
/-! ### truth of a text -/
/-! ### lines -/
abbrev sSp : Str := Str.ofString " "
abbrev sNl : Str := Str.ofString "\n"
theorem tl_sp : TL.tl sSp = [32] := by decide +kernel
theorem tl_nl : TL.tl sNl = [10] := by decide +kernel
/-! signs of these texts -/
theorem tI_low {i : Int} {c : Nat} (h : c ∈ TL.tl (tI i)) : c < 128 := by
  rw [tl_tI] at h
  have d : ∀ c, c ∈ dig i → c < 128 := fun c hc => by
    have := TL.numL_digits _ c hc
    omega
  split at h
  · rcases List.mem_cons.mp h with z | z
    · omega
    · exact d c z
  · exact d c h
theorem mem_joinL {S : List Nat} {c : Nat} : ∀ {ps : List (List Nat)}, c ∈ TL.joinL S ps → c ∈ S ∨ ∃ p ∈ ps, c ∈ p
  | [], h => nomatch h
  | [p], h => .inr ⟨p, List.mem_cons_self, h⟩
  | p :: q :: r, h => by
    have h : c ∈ p ++ (S ++ TL.joinL S (q :: r)) := h
    rcases List.mem_append.mp h with z | z
    · exact .inr ⟨p, List.mem_cons_self, z⟩
    · rcases List.mem_append.mp z with z | z
      · exact .inl z
      · rcases mem_joinL z with z | ⟨x, hx, hc⟩
        · exact .inl z
        · exact .inr ⟨x, List.mem_cons_of_mem _ hx, hc⟩
/-! ### number_in -/
-- DEF number_in N ['word', 'least', 'most', 'figures', 'number'] calls [] takes []
theorem log19 {n : Nat} (h : n < 10 ^ 19) : n.log2 < 1920 := by
  rcases Nat.eq_zero_or_pos n with rfl | z
  · decide
  · exact (Nat.log2_lt (by omega)).mpr (Nat.lt_of_lt_of_le h (Nat.le_trans (by decide : 10 ^ 19 ≤ 2 ^ 64) (Nat.pow_le_pow_right (by decide) (by decide))))
/-! ### walker_in -/
-- DEF walker_in N ['book', 'line', 'least', 'words', 'kind', 'burden', 'spot'] calls ['number_in'] takes []
/-! ### show_setting -/
-- DEF show_setting N ['row', 'spots', 'spot', 'kind', 'burden'] calls [] takes []
/-! ### _law_setting_rows -/
-- DEF _law_setting_rows N ['_law_row', '_law_spots_here', '_law_found', '_law_spot', '_law_kind', '_law_burden'] calls [] takes []
/-! ### read_setting -/
-- DEF read_setting N ['book', 'text', 'row', 'spots', 'lines', 'at', 'line', 'least', 'read', 'kind', 'burden', 'spot'] calls ['walker_in'] takes ['cNoText', 'Ep']
/-- spots that rise, each where it may be -/
def RiseB : Int → List Int → Prop
  | _, [] => True
  | lo, s :: ss => lo ≤ s ∧ s ≤ 4000000000000000000 ∧ RiseB (s + 1) ss
theorem RiseB.mono : ∀ {ss : List Int} {a b : Int}, a ≤ b → RiseB b ss → RiseB a ss
  | [], _, _, _, _ => trivial
  | s :: ss, a, b, h, ⟨h1, h2, h3⟩ => ⟨by omega, h2, h3⟩
theorem RiseB.all : ∀ {ss : List Int} {a : Int}, RiseB a ss → ∀ s ∈ ss, a ≤ s ∧ s ≤ 4000000000000000000
  | s :: ss, a, ⟨h1, h2, h3⟩, x, hx => by
    rcases List.mem_cons.mp hx with rfl | z
    · exact ⟨h1, h2⟩
    · have := RiseB.all h3 x z
      omega
/-! ### _law_spots -/
/-! ### law 62 -/
-- DEF law N ['_law_script', '_law_many', '_law_book', '_law_turn', '_law_deal_here', '_law_some', '_law_bare', '_law_size', '_law_spots_here', '_law_row', '_law_text', '_law_spot'] calls ['_law_deal', '_law_draw', '_law_bare_book', '_law_spots', 'show_setting', '_law_alike', '_law_setting_rows', 'read_setting'] takes ['cNoText']
end Pv
/-! Calls with keywords, and defs with a default for a keyword. -/
namespace Wf
open PySem PySem.Spec L2
end Wf
namespace Pv
open PySem PySem.Spec L2 Wf
end Pv
/-! t[::-1] of a tuple, in the model. -/
namespace Wf
open PySem PySem.Spec PyProof.Rows
end Wf
namespace Pv
open PySem PySem.Spec L2 Wf
variable {B : Bas}
/-! ### isinstance(caught error, a built-in class) -/
section
variable {X : Cx} {a : Addr} {oe : Obj} {cls : Value} {d : Option Addr} {pn : List (Addr × Obj)} {p pos pt : Pos}
theorem sb_blt {K : PySem.W.Frag} {C : Addr} {T : String} (h1 : IsC K C) (h2 : PySem.W.kitOne K (.ref C) (.type T) = some true) : ∀ C' b, sbAt C true C' = some b → IsC K C' ∧ PySem.W.kitOne K (.ref C') (.type T) = some b := fun C' b h => by
  obtain ⟨rfl, rfl⟩ := sb_eq h
  exact ⟨h1, h2⟩
end
/-! ### t[::-1] of a tuple -/
end Pv
/-! tuple(d), d a dict whose keys are tuples -/
namespace Wf
open PySem PySem.Spec PyProof.Rows
end Wf
/-! Dicts by tuples of numbers, by value. -/
namespace Pv
open PySem PySem.Spec L2 Wf
variable {B : Bas}
theorem NoX.dT {H : Hp} {a : Addr} {kvs : List (List Key × V)} (e : H a = some (.dT kvs)) : NoX H a := NoX.of e (fun _ z => by cases z) (fun _ _ z => by cases z) fun _ z => by cases z
end Pv
/-! sorted(xs, reverse=True), list(zip(t, u)) by value. -/
namespace Pv
open PySem PySem.Spec L2 Wf
end Pv
/-! len(set(t)), t a tuple of tuples of numbers. -/
namespace Wf
open PySem PySem.Spec PyProof.Rows L2
end Wf
/-! len(set(t)), t a tuple of tuples of numbers, by value. -/
namespace Wf
open PySem PySem.Spec L2 PyProof.Rows
end Wf
namespace Pv
open PySem PySem.Spec L2 Wf
end Pv
/-! zip(l, t), l a list and t a tuple. One turn of a zip whose two parts are any iterators that can be told of. -/
namespace Wf
open PySem PySem.Spec L2 RZ
section
variable {P : Program} {w : World} {A : Around} {E : Value → Shared → Prop} {s : Shared} {z p q ia ib la lb : Addr}
def Ends (P : Program) (w : World) (s : Shared) (ia : Addr) (no : List Addr) : Prop :=
  ∀ (A' : Around) (E' Q' : Value → Shared → Prop) (g : Heap), A'.handled = none → (∀ c o, c ∉ no → s.heap.get? c = some o → g.get? c = some o) →
    (∀ g' e, Heap.ExtBut ia g g' → (∃ o, g'.get? e = some o ∧ o.cls = .type "StopIteration") → E' (.ref e) { s with heap := g' }) →
    wpAny (model P w) A' (Builtin.SmallTypes.nextOf (.ref ia)) Q' E' { s with heap := g }
/-! ### a list and a tuple -/
end
end Wf
/-! zip(l, t): how it is made, and for over it. -/
namespace Wf
open PySem PySem.Spec L2 RZ
end Wf
/-! for over zip(a list, a tuple); divmod. By value. -/
namespace Pv
open PySem PySem.Spec L2 Wf
end Pv
namespace Pv
open PySem PySem.Spec L2 Wf
end Pv
namespace Pv
open PySem PySem.Spec L2 Wf
/-! ### two_kinds, look_back -/
theorem tab_mem {m : Int} {B : Book} (bk : BookOk m B) {t : Tab} (h : t ∈ B.ts) : TabOk B.s t := bk.tab.ok t h
theorem tab_few {m : Int} {B : Book} (bk : BookOk m B) {t : Tab} (h : t ∈ B.ts) : t.length ≤ 36 := by
  have h1 := (tab_mem bk h).len
  have := bk.s1
  have := bk.s6
  have h2 : B.s * B.s ≤ 6 * 6 := Int.mul_le_mul bk.s6 bk.s6 (by omega) (by decide)
  omega
end Pv
namespace Pv
open PySem PySem.Spec L2 Wf
/-! ### pairs_asked -/
-- DEF pairs_asked N ['book', 'kinds', 'burdens', 'asked', 'word', 'row', 'k', 'u', 'a', 'v', 'b'] calls ['pass_one'] takes ['cNoPassing']
end Pv
namespace Pv
open PySem PySem.Spec L2 Wf
/-! ### _law_asked_by -/
-- DEF _law_asked_by N ['_law_book_here', '_law_kinds', '_law_burdens', '_law_word', '_law_k', '_law_walkers', '_law_found', '_law_u', '_law_a', '_law_v', '_law_b', '_law_c', '_law_d'] calls ['_law_told_pair'] takes []
/-! ### _law_due -/
-- DEF _law_due N ['_law_book_here', '_law_kinds', '_law_burdens', '_law_some', '_law_k', '_law_one'] calls ['_law_asked_by'] takes []
end Pv
/-! Tables one to one, made with a pair twice, put in a book (the law's own, of books that go back). -/
namespace Wf
open PySem PySem.Spec L2
/-! ### _law_with_tables -/
/-! ### _law_doubled -/
end Wf
/-! Lists of lists of pairs that still change: made, changed, put in a book. -/
namespace Pv
open PySem PySem.Spec L2 Wf
/-! ### _law_one_to_one, _law_with_tables: by value -/
end Pv
/-! `tables = _law_doubled(deal, tables)`. -/
namespace Pv
open PySem PySem.Spec L2 Wf
end Pv
namespace Pv
open PySem PySem.Spec L2 Wf
/-! ### two_kinds -/
-- DEF two_kinds N ['many', 'u', 'v'] calls [] takes []
def pe_two_kinds43_1 : PX :=
    pTup (pCons (pVar 1) (pCons (pVar 2) (pNil)))
def p_two_kinds43 : PSx :=
    pRet (pComp2 (iRg (pCons (pVar 0) (pNil))) (gN 1) (pYes) (iRg (pCons (pVar 1) (pNil))) (gN 2) (pYes) (pe_two_kinds43_1) [1, 2] [2])
def kindsP (n : Nat) : List Wk := (List.range n).flatMap fun u => (List.range u).map fun v : Nat => ((u : Int), (v : Int))
theorem kindsP_succ (n : Nat) : kindsP (n + 1) = kindsP n ++ (List.range n).map fun v : Nat => ((n : Int), (v : Int)) := by
  unfold kindsP
  rw [List.range_succ, List.flatMap_append]
  simp
theorem kindsP_len : ∀ n, (kindsP n).length ≤ n * n
  | 0 => Nat.le_refl _
  | n + 1 => by
    rw [kindsP_succ, List.length_append, List.length_map, List.length_range]
    have := kindsP_len n
    rw [Nat.add_mul, Nat.mul_add]
    omega
def psp_two_kinds43 : PSp := fun as Q _ => ∃ n : Nat, as = [.im (nD n)] ∧ n ≤ 10 ∧ Q (.ow (.lst ((kindsP n).map dP))) [.un]
theorem hp_two_kinds43 (as : List Sl) (Qp : QE) (Ep : EX) (h : psp_two_kinds43 as Qp Ep) : p_two_kinds43 (endsP as Qp) (as ++ List.replicate 2 .un) := by
  obtain ⟨n, rfl, hn, q⟩ := h
  have z24 : (10000 : Nat) < sizeLine := by decide
  refine ⟨by omega, by omega, noPin2 (fun o => nofun) (fun o => nofun), fun i acc δ => acc = (kindsP i).map dP ∧ δ = [.im (nD n), .un, .un], ⟨rfl, rfl⟩, ?_, ?_⟩
  · rintro i d acc δ hd ⟨rfl, rfl⟩
    obtain ⟨rfl, hi⟩ := rgD_get hd
    have e0 : (0 : Int) + (i : Int) = (i : Int) := by omega
    refine ⟨by omega, by omega, fun j acc δ => acc = (kindsP i ++ (List.range j).map fun v : Nat => ((i : Int), (v : Int))).map dP ∧ δ = [.im (nD n), .im (nD i), .un], ⟨by rw [List.range_zero, List.map_nil, List.append_nil], ?_⟩, ?_, ?_⟩
    · show [Sl.im (nD n), Sl.im (.int (0 + (i : Int))), Sl.un] = _
      rw [e0]
    · rintro j d acc δ hd ⟨rfl, rfl⟩
      obtain ⟨rfl, hj⟩ := rgD_get hd
      have kl := kindsP_len i
      have i10 : i * i ≤ 10 * 10 := Nat.mul_le_mul (by omega) (by omega)
      have e1 : (0 : Int) + (j : Int) = (j : Int) := by omega
      refine ⟨_, _, rfl, by rw [List.length_map, List.length_append, List.length_map, List.length_range]; omega, ?_, rfl⟩
      rw [List.range_succ, List.map_append, List.map_append, List.map_append, List.map_append]
      show _ ++ [PyData.tuple [.int (i : Int), .int (0 + (j : Int))]] = _
      rw [e1, List.append_assoc]
      rfl
    · rintro acc δ ⟨rfl, rfl⟩
      refine ⟨?_, rfl⟩
      rw [rgD_len, kindsP_succ, e0, show ((i : Int) - 0).toNat = i by omega]
  · rintro acc δ ⟨rfl, rfl⟩
    rw [rgD_len, show ((n : Int) - 0).toNat = n by omega]
    exact ⟨_, _, rfl, q⟩
/-! ### look_back -/
-- DEF look_back N ['book', 'paces', 'sorts', 'tables', 'table', 'u', 'v'] calls ['two_kinds'] takes ['cNoWay', 'Ep']
theorem kindsP_nT {m : Nat} (m1 : 1 ≤ m) (m5 : m ≤ 5) : ((kindsP m).length : Int) = nT m := by
  have : m = 1 ∨ m = 2 ∨ m = 3 ∨ m = 4 ∨ m = 5 := by omega
  rcases this with rfl | rfl | rfl | rfl | rfl <;> decide
/-! ### _law_first_way -/
-- DEF _law_first_way N ['_law_book_here', '_law_k', '_law_u', '_law_v', '_law_pairs', '_law_n'] calls [] takes []
theorem kindsP_pre {i : Nat} : ∀ {m : Nat}, i < m → ∃ rest, kindsP m = kindsP i ++ (List.range i).map (fun v : Nat => ((i : Int), (v : Int))) ++ rest
  | 0, h => absurd h (Nat.not_lt_zero _)
  | m + 1, h => by
    by_cases e : i = m
    · subst e
      exact ⟨[], by rw [kindsP_succ, List.append_nil]⟩
    · obtain ⟨rest, hr⟩ := kindsP_pre (i := i) (m := m) (by omega)
      exact ⟨rest ++ (List.range m).map fun v : Nat => ((m : Int), (v : Int)), by rw [kindsP_succ, hr, List.append_assoc]⟩
theorem kindsP_get {i j m : Nat} (hi : i < m) (hj : j < i) : (kindsP m)[(kindsP i).length + j]? = some ((i : Int), (j : Int)) := by
  obtain ⟨rest, hr⟩ := kindsP_pre hi
  rw [hr, List.append_assoc, List.getElem?_append_right (by omega), Nat.add_sub_cancel_left, List.getElem?_append_left (by simpa using hj), List.getElem?_map, List.getElem?_range hj]
  rfl
theorem kindsP_row (i : Nat) : (kindsP (i + 1)).length = (kindsP i).length + i := by rw [kindsP_succ, List.length_append, List.length_map, List.length_range]
theorem kindsP_lt {i j m : Nat} (hi : i < m) (hj : j < i) : (kindsP i).length + j < (kindsP m).length := (List.getElem?_eq_some_iff.mp (kindsP_get hi hj)).1
/-! ### _law_told -/
-- DEF _law_told N ['_law_book_here', '_law_found', '_law_e'] calls ['look_back'] takes ['cNoWay']
/-! ### law 43 -/
-- DEF law N ['_law_script', '_law_turn', '_law_book_here', '_law_deal_here', '_law_some', '_law_tables', '_law_first', '_law_due', '_law_many', '_law_size'] calls ['_law_deal', '_law_draw', '_law_one_to_one', '_law_doubled', '_law_with_tables', '_law_book', '_law_first_way', '_law_alike', '_law_told'] takes []
end Pv
/-! Books as texts. -/
namespace Pv
open PySem PySem.Spec L2 Wf
abbrev sCm : Str := Str.ofString " , "
theorem tl_cm : TL.tl sCm = [32, 44, 32] := by decide +kernel
theorem joinS_len (S : List Nat) : ∀ (ps : List (List Nat)) (c : Nat), (∀ p ∈ ps, p.length ≤ c) → (TL.joinL S ps).length ≤ ps.length * (c + S.length)
  | [], _, _ => Nat.zero_le _
  | [p], c, h => by
    have := h p List.mem_cons_self
    show p.length ≤ 1 * (c + S.length)
    omega
  | p :: q :: r, c, h => by
    have h1 := h p List.mem_cons_self
    have h2 := joinS_len S (q :: r) c fun x hx => h x (List.mem_cons_of_mem _ hx)
    show (p ++ (S ++ TL.joinL S (q :: r))).length ≤ _
    rw [List.length_append, List.length_append, List.length_cons (a := p), Nat.add_mul]
    omega
theorem join_len {y : Str} {ps : List Str} {c : Nat} (h : ∀ p ∈ ps, p.length ≤ c) : (Txt.join y ps).length ≤ ps.length * (c + y.length) := by
  rw [TL.len_tl, TL.join_eq, TL.tl_join, TL.len_tl y]
  have := joinS_len (TL.tl y) (ps.map TL.tl) c fun p hp => by
    obtain ⟨x, hx, rfl⟩ := List.mem_map.mp hp
    have := h x hx
    rw [TL.len_tl] at this
    exact this
  rw [List.length_map] at this
  exact this
/-- parts without a comma, cut at ' , ' -/
theorem cm_pre {p q : List Nat} (h : 44 ∉ p) (hq : q = [] ∨ ∃ r, q = 32 :: r) : ∀ i, i < p.length → TL.pre [32, 44, 32] ((p ++ q).drop i) = false := fun i hi => by
  obtain ⟨c, r, e⟩ : ∃ c r, p.drop i = c :: r := ⟨_, _, List.drop_eq_getElem_cons hi⟩
  rw [List.drop_append_of_le_length (by omega), e]
  have hr : 44 ∉ r := fun z => h (List.mem_of_mem_drop (by rw [e]; exact List.mem_cons_of_mem _ z))
  show (([c] ++ (r ++ q)).take 3 == [32, 44, 32]) = false
  rw [beq_eq_false_iff_ne]
  intro z
  cases r with
  | cons d r =>
    have : d = 44 := by
      have := congrArg (fun l : List Nat => l.getD 1 0) z
      simpa using this
    exact hr (by rw [this]; exact List.mem_cons_self)
  | nil =>
    rcases hq with rfl | ⟨r, rfl⟩
    · simp at z
    · have := congrArg (fun l : List Nat => l.getD 1 0) z
      simp at this
theorem spl_cm : ∀ {parts : List (List Nat)}, parts ≠ [] → (∀ p ∈ parts, 44 ∉ p) → TL.spl [32, 44, 32] 0 [] (TL.joinL [32, 44, 32] parts) = parts
  | [], h, _ => absurd rfl h
  | [p], _, h => by
    have := TL.spl_last (S := [32, 44, 32]) (p := p) (acc := []) fun i hi => by
      have := cm_pre (h p List.mem_cons_self) (.inl rfl) i hi
      rwa [List.append_nil] at this
    exact this
  | p :: q :: r, _, h => by
    have ih := spl_cm (parts := q :: r) (by simp) fun x hx => h x (List.mem_cons_of_mem _ hx)
    show TL.spl [32, 44, 32] 0 [] (p ++ ([32, 44, 32] ++ TL.joinL [32, 44, 32] (q :: r))) = _
    rw [TL.spl_part (by simp) fun i hi => cm_pre (h p List.mem_cons_self) (.inr ⟨_, rfl⟩) i hi, ih]
    rfl
theorem split_cm {parts : List Str} (hne : parts ≠ []) (hp : ∀ p ∈ parts, 44 ∉ TL.tl p) : Txt.split (Txt.join sCm parts) sCm = parts := by
  refine TL.map_tl_inj ?_
  rw [TL.split_spl _ sCm (by rw [tl_cm]; simp) (TL.kind_ok (by decide +kernel)), TL.join_eq, TL.tl_join, tl_cm]
  refine spl_cm (fun e => hne (List.map_eq_nil_iff.mp e)) fun p h => ?_
  obtain ⟨z, hz, rfl⟩ := List.mem_map.mp h
  exact hp z hz
/-! rows -/
abbrev sPc : Str := Str.ofString "paces"
abbrev sSo : Str := Str.ofString "sorts"
abbrev sCo : Str := Str.ofString " : "
def row0 (ps : List Int) : Str := Txt.join sSp (sPc :: ps.map tI)
def row1 (n : Int) : Str := Txt.join sSp [sSo, tI n]
def pairT (p : Wk) : Str := Txt.join sSp [tI p.1, tI p.2]
def headT (q : Wk) : Str := tI q.1 ++ sSp ++ tI q.2 ++ sCo
def pairsT (t : Tab) : Str := Txt.join sCm (t.map pairT)
def rowT (x : Wk × Tab) : Str := headT x.1 ++ pairsT x.2
def rowsT (m : Nat) (B : Book) : List Str := row0 B.ps :: row1 B.s :: ((kindsP m).zip B.ts).map rowT
def bookT (m : Nat) (B : Book) : Str := Txt.join sNl (rowsT m B)
theorem tl_pc : TL.tl sPc = [112, 97, 99, 101, 115] := by decide +kernel
theorem tl_so : TL.tl sSo = [115, 111, 114, 116, 115] := by decide +kernel
theorem tl_co : TL.tl sCo = [32, 58, 32] := by decide +kernel
theorem row0_split (ps : List Int) : Txt.split (row0 ps) sSp = sPc :: ps.map tI := by
  refine TL.split_join tl_sp (by decide +kernel) (by simp) fun p hp => ?_
  rcases List.mem_cons.mp hp with rfl | z
  · rw [tl_pc]; decide
  · obtain ⟨i, _, rfl⟩ := List.mem_map.mp z
    exact tI_free (by omega)
theorem row1_split (n : Int) : Txt.split (row1 n) sSp = [sSo, tI n] := by
  refine TL.split_join tl_sp (by decide +kernel) (by simp) fun p hp => ?_
  simp only [List.mem_cons, List.not_mem_nil, or_false] at hp
  rcases hp with rfl | rfl
  · rw [tl_so]; decide
  · exact tI_free (by omega)
theorem pair_split (p : Wk) : Txt.split (pairT p) sSp = [tI p.1, tI p.2] := by
  refine TL.split_join tl_sp (by decide +kernel) (by simp) fun x hx => ?_
  simp only [List.mem_cons, List.not_mem_nil, or_false] at hx
  rcases hx with rfl | rfl
  · exact tI_free (by omega)
  · exact tI_free (by omega)
theorem tl_pair (p : Wk) : TL.tl (pairT p) = TL.tl (tI p.1) ++ ([32] ++ TL.tl (tI p.2)) := by
  unfold pairT
  rw [TL.join_eq, TL.tl_join, tl_sp]
  rfl
theorem pair_mem {p : Wk} {c : Nat} (h : c ∈ TL.tl (pairT p)) : c = 32 ∨ c ∈ TL.tl (tI p.1) ∨ c ∈ TL.tl (tI p.2) := by
  rw [tl_pair] at h
  simp only [List.mem_append, List.mem_cons, List.not_mem_nil, or_false] at h
  rcases h with h | h | h
  · exact .inr (.inl h)
  · exact .inl h
  · exact .inr (.inr h)
theorem pairs_split {t : Tab} (h : t ≠ []) : Txt.split (pairsT t) sCm = t.map pairT := by
  refine split_cm (fun e => h (List.map_eq_nil_iff.mp e)) fun p hp hc => ?_
  obtain ⟨x, _, rfl⟩ := List.mem_map.mp hp
  rcases pair_mem hc with z | z | z
  · omega
  · exact tI_free (by omega) z
  · exact tI_free (by omega) z
/-- signs of a row: no newline, all low -/
structure LowT (x : Str) : Prop where
  low : ∀ c ∈ TL.tl x, c < 128
  nl : 10 ∉ TL.tl x
theorem LowT.tI (i : Int) : LowT (tI i) := ⟨fun c h => tI_low h, tI_free (by omega)⟩
theorem LowT.app {x y : Str} (hx : LowT x) (hy : LowT y) : LowT (x ++ y) := by
  refine ⟨fun c h => ?_, fun h => ?_⟩
  · rw [TL.tl_append] at h
    exact (List.mem_append.mp h).elim (hx.low c) (hy.low c)
  · rw [TL.tl_append] at h
    exact (List.mem_append.mp h).elim hx.nl hy.nl
theorem LowT.join {y : Str} {ps : List Str} (hy : LowT y) (h : ∀ p ∈ ps, LowT p) : LowT (Txt.join y ps) := by
  refine ⟨fun c hc => ?_, fun hc => ?_⟩
  all_goals
    rw [TL.join_eq, TL.tl_join] at hc
    rcases mem_joinL hc with z | ⟨p, hp, z⟩
  · exact hy.low c z
  · obtain ⟨x, hx, rfl⟩ := List.mem_map.mp hp
    exact (h x hx).low c z
  · exact hy.nl z
  · obtain ⟨x, hx, rfl⟩ := List.mem_map.mp hp
    exact (h x hx).nl z
theorem low_sp : LowT sSp := ⟨by rw [tl_sp]; decide, by rw [tl_sp]; decide⟩
theorem low_cm : LowT sCm := ⟨by rw [tl_cm]; decide, by rw [tl_cm]; decide⟩
theorem low_co : LowT sCo := ⟨by rw [tl_co]; decide, by rw [tl_co]; decide⟩
theorem low_pc : LowT sPc := ⟨by rw [tl_pc]; decide, by rw [tl_pc]; decide⟩
theorem low_so : LowT sSo := ⟨by rw [tl_so]; decide, by rw [tl_so]; decide⟩
theorem low_row0 (ps : List Int) : LowT (row0 ps) := low_sp.join fun p hp => by
  rcases List.mem_cons.mp hp with rfl | z
  · exact low_pc
  · obtain ⟨i, _, rfl⟩ := List.mem_map.mp z
    exact .tI i
theorem low_row1 (n : Int) : LowT (row1 n) := low_sp.join fun p hp => by
  simp only [List.mem_cons, List.not_mem_nil, or_false] at hp
  rcases hp with rfl | rfl
  · exact low_so
  · exact .tI n
theorem low_pair (p : Wk) : LowT (pairT p) := low_sp.join fun x hx => by
  simp only [List.mem_cons, List.not_mem_nil, or_false] at hx
  rcases hx with rfl | rfl <;> exact .tI _
theorem low_row (x : Wk × Tab) : LowT (rowT x) := ((((LowT.tI _).app low_sp).app (.tI _)).app low_co).app (low_cm.join fun p hp => by
  obtain ⟨q, _, rfl⟩ := List.mem_map.mp hp
  exact low_pair q)
theorem low_rows {m : Nat} {B : Book} : ∀ x ∈ rowsT m B, LowT x := fun x hx => by
  rcases List.mem_cons.mp hx with rfl | hx
  · exact low_row0 _
  · rcases List.mem_cons.mp hx with rfl | hx
    · exact low_row1 _
    · obtain ⟨y, _, rfl⟩ := List.mem_map.mp hx
      exact low_row y
theorem book_split (m : Nat) (B : Book) : Txt.split (bookT m B) sNl = rowsT m B := TL.split_join tl_nl (by decide +kernel) (by unfold rowsT; simp) fun p hp => (low_rows p hp).nl
end Pv
/-! (a, b, ..) = a list. -/
namespace Pv
open PySem PySem.Spec L2 Wf PyProof.Rows
end Pv
/-! first, *rest = a list; try whose body raises nothing; startswith. -/
namespace L2
open PySem PySem.Spec PyProof.Rows
theorem star_items {prog : Program} {w : World} {A : Around} {E : Value → Shared → Prop} {s : Shared} {l : Addr} {items : Array Value} {x : Value} {xs : List Value} {Q : List Value → Shared → Prop} (hl : s.heap.IsList l items) (hh : A.handled = none) (hi : items.toList = x :: xs) (hz : items.size ≤ 16384)
    (h : ∀ (h₂ : Heap) (tk : Nat), Heap.ExtBut s.heap.objs.size s.heap h₂ → Q [x, .ref h₂.objs.size] { s with heap := h₂.push { cls := .type "list", data := .seq xs.toArray }, toks := tk }) : wpAny (model prog w) A (unpackItems (.ref l) 2 (some 1)) Q E s := by
  have hs : items.size = xs.length + 1 := by rw [← Array.length_toList, hi]; rfl
  have hlt : l ≠ s.heap.objs.size := by obtain ⟨o, ho, _⟩ := hl; exact Nat.ne_of_lt (Heap.lt_size ho)
  unfold unpackItems
  refine wpAny_bind ?_
  unfold notIterableAtAll
  refine wpAny_bind (wpAny_specialOf hl.typeIs slot_list_iter.lookup ?_)
  refine wpAny_pure ?_
  simp only [Bool.false_eq_true, if_false]
  refine wpAny_bind (wpAny_holding (wpAny_pyIter_list hl ?_))
  refine wpAny_bind (wpAny_holding (PySem.W.kun_draw hlt 1 0 _ _ ⟨_, Heap.get?_push_size _ rfl, rfl, rfl⟩ (hl.push _) (by omega) fun h₁ hit₁ hs₁ => ?_))
  have hl₁ : h₁.IsList l items := (hl.push _).extBut hs₁.extBut hlt
  rw [Nat.zero_add] at hit₁
  have hit₁' := hit₁
  obtain ⟨oi, hoi, _⟩ := hit₁'
  have hl₁' := hl₁
  obtain ⟨ol, hol, _⟩ := hl₁'
  rw [List.drop_zero]
  have hf : items.toList.take 1 = [x] := by rw [hi]; rfl
  have hr : items.toList.drop 1 = xs := by rw [hi]; rfl
  rw [hf, if_neg (show ¬ ([x].length < 1) by show ¬ (1 < 1); decide)]
  refine wpAny_bind (wpAny_holding (PySem.W.kun_collect (s := { s with heap := h₁ }) (T := "list_iterator") (.inr (.inr (.inl rfl))) (Walks.list (A := A.in1) hh s.heap.objs.size l hlt items) (fun j u st => st.1.typeIs) (k := 1) (by omega) ⟨hit₁, hl₁⟩ (Heap.lt_size hoi) (Heap.lt_size hol) (fun h₂ tk hk => ?_) (by rw [sizeLine_eq]; omega)))
  rw [hr]
  show wpAny _ _ (if xs.length < 2 - 1 - 1 then _ else _) _ _ _
  rw [if_neg (by omega)]
  show wpAny _ _ (newList (xs.take (xs.length - 0)) >>= fun d => pure ([x] ++ [d] ++ xs.drop (xs.length - 0))) _ _ _
  rw [Nat.sub_zero, List.take_length, List.drop_length]
  have he : Heap.ExtBut s.heap.objs.size s.heap h₂ := fun b o hb e => hk b o hb (hs₁.extBut b o hb (Heap.get?_push_of_some _ e))
  exact wpAny_bind (wpAny_newList (wpAny_pure (h h₂ tk he)) (by rw [sizeLine_eq]; omega))
section
variable {X : Cx} {pos : Pos}
def gStar (K : PySem.W.Frag) (t : TGs) : TG := fun v σ H Q => ∃ a x xs, v = .ref a ∧ SqL K H a (x :: xs) ∧ xs.length ≤ 10000 ∧ ∀ D, H D = none → t [x, .ref D] σ (upd H D (.lst xs)) Q
theorem pg_star {e1 e2 : Expr} {p : Pos} {k : Nat} {t : TGs} (hc : X.calm = true) (h : PGs X [e1, e2] t)
    (h1 : assignEach [e1, .Starred e2 p] X.env = [(false, assign e1 X.env), (true, assign e2 X.env)] := by rfl) (h2 : (assignEach [e1, e2] X.env).map (·.2) = [assign e1 X.env, assign e2 X.env] := by rfl) : PG X (.Tuple [e1, .Starred e2 p] k pos) (gStar X.K t) := by
  refine ⟨fun pins s σ H v u Q I r hw => ?_⟩
  obtain ⟨a, x, xs, e1, hq, hlen, hw⟩ := hw
  subst e1
  cases r
  obtain ⟨its, rv, pl, hz⟩ := I.list hq
  have hl' : s.heap.IsList a its.toArray := by
    obtain ⟨o, m, e, c, d, q⟩ := pl
    exact ⟨o, e, c, m, q⟩
  cases rv with
  | cons rx rxs =>
    rename_i ux uxs
    rw [PyProof.Rows.assign_Tuple]
    refine wpAny_bind (wpAny_standAt ?_)
    unfold unpack
    rw [h1]
    show wpAny _ _ (holding _ (unpackItems _ 2 (some 1)) >>= _) _ _ _
    have lx := rxs.length
    refine wpAny_bind (wpAny_holding (star_items (x := ux) (xs := uxs) hl' (I.ok.hd hc) rfl (by simp; omega) fun h₂ tk he => ?_))
    have I1 : Inv X pins σ H { s with heap := h₂, toks := tk } := I.kept fun b o e => he b o (Nat.ne_of_lt (Heap.lt_size e)) e
    have I2 : Inv X pins σ (upd H h₂.objs.size (.lst xs)) { s with heap := h₂.push { cls := .type "list", data := .seq uxs.toArray }, toks := tk } :=
      I1.laid (t' := tk) (fun b u hu => Heap.get?_push_of_some _ hu) (Nat.le_refl _) ⟨by rw [sizeLine_eq]; omega, uxs, 0, rxs, Heap.get?_push_size _ rfl⟩
    have := h.run pins _ σ _ [x, .ref h₂.objs.size] [ux, .ref h₂.objs.size] Q I2 (.cons rx (.cons rfl .nil)) (hw _ (I1.hok.fresh (Nat.le_refl _)))
    rw [h2] at this
    exact this
end
end L2
namespace Pv
open PySem PySem.Spec PyProof.Rows L2 Wf
variable {B : Bas} {X : Cx} {pos : Pos}
def gStr (gs : PGxs) : PGx := fun d δ Q => match d with
  | .list (d0 :: ds) => ds.length ≤ 10000 ∧ gs [d0, .list ds] δ Q
  | _ => False
theorem jg_star {e1 e2 : Expr} {p : Pos} {k : Nat} {ts : List Nat} {g : PGxs} (hc : X.calm = true) (h : JGs X B [e1, e2] ts g)
    (h1 : assignEach [e1, .Starred e2 p] X.env = [(false, assign e1 X.env), (true, assign e2 X.env)] := by rfl) (h2 : (assignEach [e1, e2] X.env).map (·.2) = [assign e1 X.env, assign e2 X.env] := by rfl) : JG X B (.Tuple [e1, .Starred e2 p] k pos) ts (gStr g) := PG_wk (pg_star hc h h1 h2) fun v σ H Q ⟨G, w, δ, d, Qp, rep, hd, h, k⟩ => by
  unfold gStr at h
  revert h
  split
  · intro h
    cases hd with
    | lst hs ha =>
      cases ha with
      | cons hx hxs =>
        refine ⟨_, _, _, rfl, SqL.of (rep.sub _ _ hs), by rw [dqAll_len hxs]; exact h.1, fun D hD => ?_⟩
        rename_i xs
        obtain ⟨s2, r2⟩ := rep.lay (o := .lst xs) hD
        have hd2 : DqAll X.K (upd G D (.lst xs)) [_, .ref D] [_, .list _] := .cons (dp_mono s2.g _ _ hx) (.cons (.lst upd_same (dpAll_mono s2.g _ _ hxs)) .nil)
        exact ⟨_, w, δ, _, Qp, r2, hd2, h.2, fun δ' σ' H' G' w' hq st rp pn tc => k δ' σ' H' G' w' hq (s2.trans st) rp pn tc⟩
  · intro h; exact h.elim
end Pv
namespace Pv
open PySem PySem.Spec PyProof.Rows L2 Wf
section
variable {B : Bas} {X : Cx} {o e : Expr} {po pe : PX} {apos pos : Pos}
theorem je_startswith (ho : JE X B o po) (he : JE X B e pe) (hs : starEach [e] X.env = [(false, eval e X.env)] := by rfl) (hbase : attributeBase o "startswith" X.env (eval o X.env) = eval o X.env := by rfl) (hline : (apos.endLine == pos.line) = true := by rfl) : JE X B (.Call (.Attribute o "startswith" apos) [e] [] pos) (pS1 (fun _ _ => True) (fun a b => .bool (Txt.startswith a b)) po pe) :=
  je_s1 (gv := fun a b => .bl (Txt.startswith a b)) (fun _ _ _ => .bl _) F.slot_str_startswith F.type_str_startswith (fun pins s σ H x xs v us Q I rx rs ⟨a, b, h1, h2, _, q⟩ => mt_startswith pins s σ H x xs v us Q I rx rs ⟨a, b, h1, h2, q⟩) ho he hs hbase hline
end
end Pv
namespace Pv
open PySem PySem.Spec L2 Wf
abbrev Sml (i : Int) : Prop := i.natAbs < 10 ^ 19
theorem add_len (x y : Str) : (x ++ y).length = x.length + y.length := by rw [TL.len_tl, TL.len_tl, TL.len_tl, TL.tl_append, List.length_append]
theorem l_sp : sSp.length = 1 := by decide +kernel
theorem l_cm : sCm.length = 3 := by decide +kernel
theorem l_co : sCo.length = 3 := by decide +kernel
theorem l_nl : sNl.length = 1 := by decide +kernel
theorem l_pc : sPc.length = 5 := by decide +kernel
theorem l_so : sSo.length = 5 := by decide +kernel
theorem pair_len {p : Wk} (h1 : Sml p.1) (h2 : Sml p.2) : (pairT p).length ≤ 41 := by
  have a := tI_len h1
  have b := tI_len h2
  rw [TL.len_tl] at a b ⊢
  rw [tl_pair]
  simp only [List.length_append, List.length_cons, List.length_nil]
  omega
theorem inp_sml {s : Int} {p : Wk} (h : InP s p) (s6 : s ≤ 6) : Sml p.1 ∧ Sml p.2 := by
  obtain ⟨a, b, c, d⟩ := h
  exact ⟨by show p.1.natAbs < _; omega, by show p.2.natAbs < _; omega⟩
theorem pairs_len {s : Int} {t : Tab} (h : TabOk s t) (s6 : s ≤ 6) : (pairsT t).length ≤ t.length * 44 := by
  have := join_len (y := sCm) (ps := t.map pairT) (c := 41) fun p hp => by
    obtain ⟨x, hx, rfl⟩ := List.mem_map.mp hp
    have := inp_sml (h.inn x hx) s6
    exact pair_len this.1 this.2
  rw [List.length_map, l_cm] at this
  exact this
theorem sum_leS {c : Nat} : ∀ {ys : List Str}, (∀ y ∈ ys, y.length ≤ c) → (ys.map fun x : Str => x.length).sum ≤ c * ys.length
  | [], _ => Nat.le_refl _
  | y :: ys, h => by
    have h1 := h y List.mem_cons_self
    have h2 := sum_leS (ys := ys) fun x hx => h x (List.mem_cons_of_mem _ hx)
    rw [List.map_cons, List.sum_cons, List.length_cons, Nat.mul_add]
    omega
theorem join_ok {a : Str} {c : Nat} {ys : List Str} (h : ∀ y ∈ ys, y.length ≤ c) (l : ys.length ≤ 1000) (hc : c ≤ 10000) (ha : a.length ≤ 10) : (ys.map fun x : Str => x.length).sum + ys.length * a.length ≤ 16777216 := by
  have h1 := sum_leS h
  have h2 : c * ys.length ≤ 10000 * 1000 := Nat.mul_le_mul hc l
  have h3 : ys.length * a.length ≤ 1000 * 10 := Nat.mul_le_mul l ha
  omega
/-! ### look_paces -/
-- DEF look_paces N ['paces', 'least', 'k', 'pace'] calls ['is_whole'] takes ['cNoBook', 'Ep']
/-! ### is_pair -/
-- DEF is_pair N ['thing', 'sorts', 'first', 'second'] calls ['is_tuple_of', 'is_whole'] takes []
/-! ### row_at, pair_in, sorts_in -/
-- DEF row_at N ['rows', 'at'] calls [] takes []
-- DEF sorts_in N ['row', 'name', 'words'] calls ['number_in'] takes []
theorem row1_len {n : Int} (h : Sml n) : (row1 n).length ≤ 42 := by
  have := join_len (y := sSp) (ps := [sSo, tI n]) (c := 20) fun p hp => by
    simp only [List.mem_cons, List.not_mem_nil, or_false] at hp
    rcases hp with rfl | rfl
    · rw [l_so]; omega
    · exact tI_len h
  rw [l_sp] at this
  exact this
-- DEF pair_in N ['words', 'sorts', 'word'] calls ['number_in'] takes []
-- DEF paces_in N ['row', 'paces', 'name', 'words', 'word'] calls ['number_in', 'look_paces'] takes []
theorem row0_len {ps : List Int} (h : ∀ p ∈ ps, Sml p) : (row0 ps).length ≤ (ps.length + 1) * 21 := by
  have := join_len (y := sSp) (ps := sPc :: ps.map tI) (c := 20) fun p hp => by
    rcases List.mem_cons.mp hp with rfl | z
    · rw [l_pc]; omega
    · obtain ⟨i, hi, rfl⟩ := List.mem_map.mp z
      exact tI_len (h i hi)
  rw [l_sp, List.length_cons, List.length_map] at this
  exact this
/-! ### table_in -/
theorem starts_app (a b : Str) : Txt.startswith (a ++ b) a = true := by
  unfold Txt.startswith
  rw [PySem.StrLaws.subAt_eq, List.drop_zero, add_len, show (a ++ b).cps.toList = TL.tl a ++ TL.tl b from TL.tl_append a b, TL.len_tl a]
  simp
theorem rem_app (a b : Str) : Txt.removeprefix (a ++ b) a = b := by
  refine TL.ext_tl ?_
  have st := starts_app a b
  unfold Txt.startswith at st
  rw [PySem.StrLaws.removeprefix_eq, if_pos st]
  show ((a ++ b).cps.toList.drop a.length).take _ = TL.tl b
  rw [show (a ++ b).cps.toList = TL.tl a ++ TL.tl b from TL.tl_append a b, add_len, TL.len_tl a, TL.len_tl b, List.drop_left]
  exact List.take_of_length_le (by omega)
-- DEF table_in N ['row', 'u', 'v', 'sorts', 'head', 'table', 'words', 'pair'] calls ['pair_in', 'is_pair'] takes []
theorem head_len {q : Wk} (h1 : Sml q.1) (h2 : Sml q.2) : (headT q).length ≤ 44 := by
  have := tI_len h1
  have := tI_len h2
  unfold headT
  rw [add_len, add_len, add_len, l_sp, l_co]
  omega
theorem fhead (q : Wk) : Str.empty ++ tI q.1 ++ sSp ++ tI q.2 ++ sCo = headT q := by
  refine TL.ext_tl ?_
  unfold headT
  simp only [TL.tl_append]
  rfl
/-! ### show_book -/
-- DEF show_book N ['book', 'rows', 'paces', 'sorts', 'tables', 'table', 'pairs', 'u', 'v', 'pace', 'c', 'd'] calls ['two_kinds'] takes []
structure SmB (m : Nat) (B : Book) : Prop where
  bk : BookOk (m : Int) B
  m1 : 1 ≤ m
  m5 : m ≤ 5
theorem SmB.row0 {m : Nat} {B : Book} (h : SmB m B) : ∀ p ∈ B.ps, Sml p := fun p hp => by
  have := h.bk.pac.lo p hp
  show p.natAbs < _
  omega
theorem kindsP_sml {m : Nat} (m5 : m ≤ 5) : ∀ q ∈ kindsP m, Sml q.1 ∧ Sml q.2 := fun q hq => by
  obtain ⟨u, hu, hq⟩ := List.mem_flatMap.mp hq
  obtain ⟨v, hv, rfl⟩ := List.mem_map.mp hq
  have := List.mem_range.mp hu
  have := List.mem_range.mp hv
  exact ⟨by show ((u : Int)).natAbs < _; omega, by show ((v : Int)).natAbs < _; omega⟩
theorem rowT_len {m : Nat} {B : Book} (h : SmB m B) {x : Wk × Tab} (hx : x ∈ (kindsP m).zip B.ts) : (rowT x).length ≤ 2000 := by
  have h1 := List.of_mem_zip hx
  have h2 := kindsP_sml h.m5 x.1 h1.1
  have ok := h.bk.tab.ok x.2 h1.2
  have := pairs_len ok h.bk.s6
  have few := tab_few h.bk h1.2
  have := head_len h2.1 h2.2
  unfold rowT
  rw [add_len]
  omega
theorem rows_len {m : Nat} {B : Book} (h : SmB m B) : ∀ x ∈ rowsT m B, x.length ≤ 2000 := fun x hx => by
  have := h.bk.pac.len
  have := h.m5
  rcases List.mem_cons.mp hx with rfl | hx
  · have := row0_len h.row0
    omega
  · rcases List.mem_cons.mp hx with rfl | hx
    · have := h.bk.s1
      have := h.bk.s6
      have := row1_len (n := B.s) (by show B.s.natAbs < _; omega)
      omega
    · obtain ⟨y, hy, rfl⟩ := List.mem_map.mp hx
      exact rowT_len h hy
theorem rows_few {m : Nat} {B : Book} (h : SmB m B) : (rowsT m B).length ≤ 12 := by
  unfold rowsT
  rw [List.length_cons, List.length_cons, List.length_map, List.length_zip]
  have := kindsP_nT h.m1 h.m5
  have := nT_le (m := (m : Int)) (by have := h.m1; omega) (by have := h.m5; omega)
  omega
theorem frow1 (n : Int) : Str.empty ++ Str.ofString "sorts " ++ tI n = row1 n := by
  refine TL.ext_tl ?_
  unfold row1
  rw [TL.join_eq, TL.tl_join, tl_sp, TL.tl_append, TL.tl_append, show TL.tl (Str.ofString "sorts ") = TL.tl sSo ++ [32] by decide +kernel]
  show [] ++ (TL.tl sSo ++ [32]) ++ TL.tl (tI n) = TL.tl sSo ++ ([32] ++ TL.tl (tI n))
  simp
theorem fpair (p : Wk) : Str.empty ++ tI p.1 ++ sSp ++ tI p.2 = pairT p := by
  refine TL.ext_tl ?_
  rw [tl_pair, TL.tl_append, TL.tl_append, TL.tl_append, tl_sp]
  show [] ++ TL.tl (tI p.1) ++ [32] ++ TL.tl (tI p.2) = _
  simp
/-! ### read_book -/
-- DEF read_book N ['text', 'rows', 'paces', 'sorts', 'tables', 'due', 'u', 'v', 'at', 'table'] calls ['paces_in', 'sorts_in', 'row_at', 'two_kinds', 'table_in'] takes ['cNoText', 'Ep']
abbrev sE60 (x : PyData) (s1 s2 s3 s4 s5 s6 s7 s8 s9 : Sl) : List Sl := [.im x, s1, s2, s3, s4, s5, s6, s7, s8, s9]
theorem rows_get {m : Nat} {B : Book} {i : Nat} {x : Wk × Tab} (h : ((kindsP m).zip B.ts)[i]? = some x) : (rowsT m B)[2 + i]? = some (rowT x) := by
  unfold rowsT
  rw [Nat.add_comm, List.getElem?_cons_succ, List.getElem?_cons_succ, List.getElem?_map, h]
  rfl
end Pv
/-! list(zip(l, r)), l and r lists of one length -/
namespace Wf
open PySem PySem.Spec L2 RZ
end Wf
/-! list(zip(l, r)), l and r lists, by value. -/
namespace Pv
open PySem PySem.Spec L2 Wf
end Pv
/-! Burdens renamed: tables, books. -/
namespace Wf
open PySem PySem.Spec L2 LamX NdefX
/-! ### orders and where each stands in them -/
theorem idx_get : ∀ {l : List Int} {x : Int}, x ∈ l → l[l.idxOf x]? = some x
  | [], _, h => by simp at h
  | y :: l, x, h => by
    rw [List.idxOf_cons]
    by_cases c : (y == x) = true
    · rw [c]
      have := beq_iff_eq.mp c
      subst this
      rfl
    · rw [Bool.eq_false_iff.mpr c]
      have hx : x ∈ l := by
        rcases List.mem_cons.mp h with e | e
        · exact absurd (beq_iff_eq.mpr e.symm) c
        · exact e
      show (y :: l)[l.idxOf x + 1]? = some x
      rw [List.getElem?_cons_succ]
      exact idx_get hx
theorem idx_of_get : ∀ {l : List Int} {i : Nat} {x : Int}, l.Nodup → l[i]? = some x → l.idxOf x = i
  | [], _, _, _, h => by simp at h
  | y :: l, 0, x, _, h => by
    simp at h
    subst h
    rw [List.idxOf_cons, beq_self_eq_true]
    rfl
  | y :: l, i + 1, x, nd, h => by
    have h' : l[i]? = some x := by simpa using h
    have hx : x ∈ l := List.mem_of_getElem? h'
    have ne : (y == x) = false := by
      refine Bool.eq_false_iff.mpr fun z => ?_
      rw [beq_iff_eq.mp z] at nd
      exact (List.nodup_cons.mp nd).1 hx
    rw [List.idxOf_cons, ne]
    show l.idxOf x + 1 = i + 1
    rw [idx_of_get (List.nodup_cons.mp nd).2 h']
/-- an order of the numbers below n -/
structure Ord (n : Nat) (ns : List Int) : Prop where
  len : ns.length = n
  nd : ns.Nodup
  mem : ∀ x, x ∈ ns ↔ 0 ≤ x ∧ x < n
def Ord.to (ns : List Int) (i : Int) : Int := ns.getD i.toNat 0
section
variable {n : Nat} {ns ms : List Int} {x y : Int}
theorem Ord.at_ (o : Ord n ns) (h0 : 0 ≤ x) (h1 : x < n) : ns[x.toNat]? = some (Ord.to ns x) := by
  have h := o.len
  have hi : x.toNat < ns.length := by omega
  unfold Ord.to
  rw [List.getD, List.getElem?_eq_getElem hi]
  rfl
theorem Ord.to_in (o : Ord n ns) (h0 : 0 ≤ x) (h1 : x < n) : 0 ≤ Ord.to ns x ∧ Ord.to ns x < n := (o.mem _).mp (List.mem_of_getElem? (o.at_ h0 h1))
theorem Ord.idx_in (o : Ord n ns) (h0 : 0 ≤ x) (h1 : x < n) : ns.idxOf x < n := by
  have h := idx_get ((o.mem x).mpr ⟨h0, h1⟩)
  have := (List.getElem?_eq_some_iff.mp h).1
  have := o.len
  omega
theorem Ord.to_idx (o : Ord n ns) (h0 : 0 ≤ x) (h1 : x < n) : Ord.to ns (ns.idxOf x : Nat) = x := by
  have h := idx_get ((o.mem x).mpr ⟨h0, h1⟩)
  unfold Ord.to
  rw [Int.toNat_natCast, List.getD, h]
  rfl
theorem Ord.idx_to (o : Ord n ns) (h0 : 0 ≤ x) (h1 : x < n) : ((ns.idxOf (Ord.to ns x) : Nat) : Int) = x := by
  rw [idx_of_get o.nd (o.at_ h0 h1)]
  omega
theorem iota_nodup (s : Int) : (iota s).Nodup := by
  unfold iota
  refine List.Pairwise.map _ (fun a b h z => h ?_) (List.nodup_range)
  omega
theorem Ord.of {s : Int} (hs : 0 ≤ s) (h : ns.Perm (iota s)) : Ord s.toNat ns := by
  refine ⟨?_, h.nodup_iff.mpr (iota_nodup s), fun x => ?_⟩
  · rw [h.length_eq]
    unfold iota
    rw [List.length_map, List.length_range]
  · rw [h.mem_iff, iota_mem]
    omega
end
/-! ### a table renamed -/
end Wf
/-! renamed_table and its def within, renamed, and what is due. -/
namespace Wf
open PySem PySem.Spec L2 LamX NdefX
/-! ### tables of code objects stay -/
theorem TabsN.same {T : List NTab} {H H' : Hp} (t : TabsN T H) (s : Same H H') : TabsN T H' := t.ext s
theorem codeO_lst {c : Addr} {q : Str} {xs : List V} : CodeO c q ≠ .lst xs := fun z => by
  unfold CodeO at z
  cases z
theorem codeO_dK {c : Addr} {q : Str} {xs : List (Key × V)} : CodeO c q ≠ .dK xs := fun z => by
  unfold CodeO at z
  cases z
theorem TabsN.but {T : List NTab} {ds : List Addr} {H H' : Hp} (t : TabsN T H) (b : But ds H H') (n : ∀ d ∈ ds, (∃ xs, H d = some (.lst xs)) ∨ ∃ xs, H d = some (.dK xs)) : TabsN T H' := by
  intro p hp
  obtain ⟨ps, h1, h2, h3⟩ := t p hp
  have notin : ∀ (a : Addr) (o : HO), H a = some o → (∀ xs, o ≠ .lst xs) → (∀ xs, o ≠ .dK xs) → a ∉ ds := fun a o ha hl hd hm => by
    rcases n a hm with ⟨xs, e⟩ | ⟨xs, e⟩
    · rw [ha] at e
      exact hl xs (Option.some.inj e)
    · rw [ha] at e
      exact hd xs (Option.some.inj e)
  refine ⟨ps, b _ _ (notin _ _ h1 (fun xs z => nomatch z) fun xs z => nomatch z) h1, h2, fun pos cv e => ?_⟩
  obtain ⟨c, hc, h4⟩ := h3 pos cv e
  exact ⟨c, hc, b _ _ (notin _ _ h4 (fun xs => codeO_lst) fun xs => codeO_dK) h4⟩
theorem TabsN.deal {T : List NTab} {d l : Addr} {H H' : Hp} (t : TabsN T H) (b : But [d, l] H H') (hd : Deal H d l) : TabsN T H' := by
  obtain ⟨s, m, n, ns, h1, h2, _⟩ := hd.ex
  refine Wf.TabsN.but t b fun x hx => ?_
  simp only [List.mem_cons, List.not_mem_nil, or_false] at hx
  rcases hx with rfl | rfl
  · exact .inr ⟨_, h1⟩
  · exact .inl ⟨_, h2⟩
theorem TabsN.put {T : List NTab} {D : Addr} {xs ys : List V} {H : Hp} (t : TabsN T H) (h : H D = some (.lst xs)) : TabsN T (upd H D (.lst ys)) :=
  Wf.TabsN.but t (ds := [D]) (fun a o ha e => by rw [upd_ne (fun z => ha (by rw [z]; exact List.mem_cons_self))]; exact e) fun x hx => by rw [List.mem_singleton.mp hx]; exact .inl ⟨xs, h⟩
theorem ExtN.lst {H H' : Hp} {D : Addr} {xs : List V} (e : ExtN H H') (h : H D = some (.lst xs)) : H' D = some (.lst xs) := e _ _ h fun ps z => nomatch z
end Wf
/-! law k06: what is due. -/
namespace Wf
open PySem PySem.Spec L2 LamX NdefX
end Wf
/-! law k06: the law. -/
namespace Wf
open PySem PySem.Spec L2 LamX NdefX
section
variable {n : Nat} {ns ms : List Int}
def backL (n : Nat) (ns : List Int) : List Int := (List.range n).map fun (j : Nat) => ((ns.idxOf (j : Int) : Nat) : Int)
theorem Ord.back (o : Ord n ns) : Ord n (backL n ns) := by
  unfold backL
  refine ⟨by rw [List.length_map, List.length_range], ?_, fun x => ?_⟩
  · refine List.pairwise_map.mpr (List.Pairwise.imp_of_mem (fun {a b} ha hb h z => h ?_) List.nodup_range)
    have h1 := List.mem_range.mp ha
    have h2 := List.mem_range.mp hb
    have e1 := o.to_idx (x := (a : Int)) (by omega) (by omega)
    have e2 := o.to_idx (x := (b : Int)) (by omega) (by omega)
    rw [z, e2] at e1
    omega
  · rw [List.mem_map]
    constructor
    · rintro ⟨j, hj, rfl⟩
      have hj' := List.mem_range.mp hj
      have := o.idx_in (x := (j : Int)) (by omega) (by omega)
      omega
    · rintro ⟨h0, h1⟩
      have h := o.to_in h0 h1
      refine ⟨(Ord.to ns x).toNat, List.mem_range.mpr (by omega), ?_⟩
      rw [Int.toNat_of_nonneg h.1]
      exact o.idx_to h0 h1
end
end Wf
/-! Books as texts: the law. -/
namespace Pv
open PySem PySem.Spec L2 Wf
/-! ### _law_book_rows -/
-- DEF _law_book_rows N ['_law_book_here', '_law_rows', '_law_n', '_law_u', '_law_swift', '_law_size', '_law_tables', '_law_v', '_law_both', '_law_pace', '_law_c', '_law_d'] calls [] takes []
def pe_lbrows_1 : PX :=
    pC (qD fStrI) (pCons (pVar 9) (pNil))
def pe_lbrows_2 : PX :=
    pAdd (pAdd (pC (qD fStrI) (pCons (pVar 10) (pNil))) (pK (.str " "))) (pC (qD fStrI) (pCons (pVar 11) (pNil)))
def pr_lbrows_1 : PSx :=
    pSet 2 (pAdd (pVar 2) (pK (.int 1)))
def pr_lbrows_2 : PSx :=
    pSeq (pExpr (pMt mAppend (pVar 1) (pCons (pAdd (pAdd (pAdd (pAdd (pC (qD fStrI) (pCons (pVar 3) (pNil))) (pK (.str " "))) (pC (qD fStrI) (pCons (pVar 7) (pNil)))) (pK (.str " : "))) (pJoin (pK (.str " , ")) (pVar 8))) (pNil))))
    (pr_lbrows_1)
def pb_lbrows_5 : PSx :=
    pSeq (pSet 8 (pComp (iSeq (pIx (pVar 6) (pVar 2))) (gT 2 (gsC (gN 10) (gsC (gN 11) (gsN)))) (pYes) (pe_lbrows_2) [10, 11]))
    (pr_lbrows_2)
def pb_lbrows_6 : PSx :=
    pFor [7, 8] (iRg (pCons (pVar 3) (pNil))) (gN 7) (pb_lbrows_5)
def pr_lbrows_3 : PSx :=
    pRet (pVar 1)
def pr_lbrows_4 : PSx :=
    pSeq (pFor [3, 7, 8] (iRg (pCons (pC (q1 fLen) (pCons (pVar 4) (pNil))) (pNil))) (gN 3) (pb_lbrows_6))
    (pr_lbrows_3)
def pr_lbrows_5 : PSx :=
    pSeq (pSet 2 (pK (.int 0)))
    (pr_lbrows_4)
def pr_lbrows_6 : PSx :=
    pSeq (pSet 1 (pLst (pCons (pAdd (pK (.str "paces ")) (pJoin (pK (.str " ")) (pComp (iSeq (pVar 4)) (gN 9) (pYes) (pe_lbrows_1) [9]))) (pCons (pAdd (pK (.str "sorts ")) (pC (qD fStrI) (pCons (pVar 5) (pNil)))) (pNil)))))
    (pr_lbrows_5)
def p_lbrows : PSx :=
    pSeq (pAsg (pVar 0) (gT 3 (gsC (gN 4) (gsC (gN 5) (gsC (gN 6) (gsN))))))
    (pr_lbrows_6)
theorem frow0 {ps : List Int} (h : ps ≠ []) : Str.ofString "paces " ++ Txt.join (Str.ofString " ") (ps.map tI) = row0 ps := by
  refine TL.ext_tl ?_
  unfold row0
  rw [TL.tl_append, TL.join_eq, TL.tl_join, TL.join_eq, TL.tl_join, show TL.tl (Str.ofString "paces ") = TL.tl sPc ++ [32] by decide +kernel, show TL.tl (Str.ofString " ") = [32] from tl_sp]
  cases ps with
  | nil => exact absurd rfl h
  | cons p ps =>
    show TL.tl sPc ++ [32] ++ TL.joinL [32] _ = TL.tl sPc ++ ([32] ++ TL.joinL [32] _)
    rw [List.append_assoc]
    rfl
theorem frow1' (n : Int) : Str.ofString "sorts " ++ tI n = row1 n := by
  rw [← frow1]
  refine TL.ext_tl ?_
  simp only [TL.tl_append]
  rfl
theorem fpair' (p : Wk) : tI p.1 ++ Str.ofString " " ++ tI p.2 = pairT p := by
  rw [← fpair]
  refine TL.ext_tl ?_
  simp only [TL.tl_append]
  rfl
def psp_lbrows : PSp := fun as Q _ => ∃ (B : Book) (m : Nat), as = [.im (dB B)] ∧ SmB m B ∧ Q (.ow (.lst ((rowsT m B).map .str))) [.un]
abbrev sL60 (B : Book) (s1 s2 s3 s7 s8 : Sl) : List Sl := [.im (dB B), s1, s2, s3, .im (dI B.ps), .im (.int B.s), .im (.tuple (B.ts.map dT)), s7, s8, .un, .un, .un]
theorem hp_lrow60 {E : PEn} {B : Book} {R : List Str} {k u v : Nat} {t : Tab} (s6 : B.s ≤ 6) (ok : TabOk B.s t) (few : t.length ≤ 36) (ht : B.ts[k]? = some t) (u5 : u ≤ 5) (v5 : v ≤ 5) (rl : R.length ≤ 100)
    (q : ∀ l : List PyData, E.nx (sL60 B (.ow false (.lst ((R ++ [rowT (((u : Int), (v : Int)), t)]).map .str))) (.im (.int ((k : Int) + 1))) (.im (nD u)) (.im (nD v)) (.ow false (.lst l)))) :
    pb_lbrows_5 E (sL60 B (.ow false (.lst (R.map .str))) (.im (nD k)) (.im (nD u)) (.im (nD v)) .un) := by
  have z : 100000 < sizeLine := by decide
  have l1 : (Str.ofString " ").length = 1 := l_sp
  have l3 : (Str.ofString " : ").length = 3 := l_co
  have pl := pairs_len ok s6
  refine ⟨_, atI_of (j := k) rfl (by rw [List.getElem?_map, ht]; rfl), _, _, _, rfl, rfl, noPin2 (fun o => nofun) (fun o => nofun), fun j acc δ => acc = ((t.take j).map pairT).map .str ∧ δ = sL60 B (.ow false (.lst (R.map .str))) (.im (nD k)) (.im (nD u)) (.im (nD v)) .un, ⟨rfl, rfl⟩, ?_, ?_⟩
  · rintro j d acc δ hd ⟨rfl, rfl⟩
    rw [List.getElem?_map] at hd
    obtain ⟨p, hp, rfl⟩ := Option.map_eq_some_iff.mp hd
    have hj := (List.getElem?_eq_some_iff.mp hp).1
    obtain ⟨m1, m2⟩ := inp_sml (ok.inn p (List.mem_of_getElem? hp)) s6
    have h1 : (Str.ofString (toString p.1)).length ≤ 20 := tI_len m1
    have h2 : (Str.ofString (toString p.2)).length ≤ 20 := tI_len m2
    refine ⟨rfl, rfl, log19 m1, ?_, log19 m2, ?_, ?_⟩
    · rw [l1]; omega
    · rw [add_len, l1]; omega
    refine ⟨_, _, rfl, ?_, ?_, rfl⟩
    · rw [List.length_map, List.length_map, List.length_take]
      exact szN (m := 100) (by omega) (by decide)
    · rw [List.take_add_one, hp, Option.toList_some, List.map_append, List.map_append]
      exact congrArg (fun x => _ ++ [PyData.str x]) (fpair' p)
  rintro acc δ ⟨rfl, rfl⟩
  rw [List.length_map, List.take_length]
  refine ⟨_, _, rfl, ?_⟩
  show pr_lbrows_2 E (sL60 B (.ow false (.lst (R.map .str))) (.im (nD k)) (.im (nD u)) (.im (nD v)) (.ow false (.lst ((t.map pairT).map .str))))
  have su : Sml (u : Int) := by show ((u : Int)).natAbs < _; omega
  have sv : Sml (v : Int) := by show ((v : Int)).natAbs < _; omega
  have h1 : (Str.ofString (toString (u : Int))).length ≤ 20 := tI_len su
  have h2 : (Str.ofString (toString (v : Int))).length ≤ 20 := tI_len sv
  refine ⟨_, _, _, rfl, rfl, log19 su, ?_, log19 sv, ?_, ?_, _, rfl, t.map pairT, rfl, ?_, ?_, ?_⟩
  · rw [l1]; omega
  · rw [add_len, l1]; omega
  · rw [add_len, add_len, l1, l3]; omega
  · refine join_ok (c := 41) (fun y hy => ?_) (by rw [List.length_map]; omega) (by decide) (by show (sCm).length ≤ 10; rw [l_cm]; decide)
    obtain ⟨p, hp, rfl⟩ := List.mem_map.mp hy
    have := inp_sml (ok.inn p hp) s6
    exact pair_len this.1 this.2
  · rw [add_len, add_len, add_len, l1, l3]
    show _ + (pairsT t).length ≤ _
    omega
  refine ⟨_, _, _, _, rfl, rfl, by rw [List.length_map]; exact szN (m := 100) rl (by decide), ?_⟩
  refine ⟨_, _, rfl, ?_⟩
  have := q ((t.map pairT).map .str)
  rw [List.map_append] at this
  exact this
theorem hp_lbrows (as : List Sl) (Qp : QE) (Ep : EX) (h : psp_lbrows as Qp Ep) : p_lbrows (endsP as Qp) (as ++ List.replicate 11 .un) := by
  obtain ⟨B, m, rfl, sb, q⟩ := h
  have z : 100000 < sizeLine := by decide
  have pl := sb.bk.pac.len
  have m1 := sb.m1
  have m5 := sb.m5
  have s1 := sb.bk.s1
  have s6 := sb.bk.s6
  have kn := kindsP_nT m1 m5
  have tl := sb.bk.tab.len
  have few := nT_le (m := (m : Int)) (by omega) (by omega)
  have l1 : (Str.ofString " ").length = 1 := l_sp
  have ss : Sml B.s := by show B.s.natAbs < _; omega
  have hs : (Str.ofString (toString B.s)).length ≤ 20 := tI_len ss
  have l6 : (Str.ofString "sorts ").length = 6 := by decide +kernel
  have l6' : (Str.ofString "paces ").length = 6 := by decide +kernel
  have hj : (Txt.join (Str.ofString " ") (B.ps.map tI)).length ≤ 105 := by
    have := join_len (y := Str.ofString " ") (ps := B.ps.map tI) (c := 20) fun y hy => by
      obtain ⟨i, hi, rfl⟩ := List.mem_map.mp hy
      exact tI_len (sb.row0 i hi)
    rw [List.length_map, l1] at this
    omega
  have pn : B.ps ≠ [] := fun e => by rw [e] at pl; simp at pl; omega
  refine ⟨_, _, rfl, rfl, rfl, ?_⟩
  show pr_lbrows_6 _ (sL60 B .un .un .un .un .un)
  refine ⟨_, rfl, _, _, _, rfl, rfl, noPin1 (fun o => nofun), fun j acc δ => acc = ((B.ps.take j).map tI).map .str ∧ δ = sL60 B .un .un .un .un .un, ⟨rfl, rfl⟩, ?_, ?_⟩
  · rintro j d acc δ hd ⟨rfl, rfl⟩
    rw [List.getElem?_map] at hd
    obtain ⟨p, hp, rfl⟩ := Option.map_eq_some_iff.mp hd
    have hj := (List.getElem?_eq_some_iff.mp hp).1
    refine ⟨log19 (sb.row0 p (List.mem_of_getElem? hp)), _, _, rfl, ?_, ?_, rfl⟩
    · rw [List.length_map, List.length_map, List.length_take]
      exact szN (m := 100) (by omega) (by decide)
    · rw [List.take_add_one, hp, Option.toList_some, List.map_append, List.map_append]
      rfl
  rintro acc δ ⟨rfl, rfl⟩
  rw [List.length_map, List.take_length]
  refine ⟨B.ps.map tI, rfl, ?_, ?_⟩
  · exact join_ok (c := 20) (fun y hy => by
      obtain ⟨i, hi, rfl⟩ := List.mem_map.mp hy
      exact tI_len (sb.row0 i hi)) (by rw [List.length_map]; omega) (by decide) (by show (Str.ofString " ").length ≤ 10; rw [l1]; decide)
  refine ⟨?_, ?_⟩
  · rw [l6']; omega
  refine ⟨log19 ss, ?_, _, _, rfl, ?_⟩
  · rw [l6]; omega
  show pr_lbrows_5 _ (sL60 B (.ow false (.lst [.str (Str.ofString "paces " ++ Txt.join (Str.ofString " ") (B.ps.map tI)), .str (Str.ofString "sorts " ++ tI B.s)])) .un .un .un .un)
  rw [frow0 pn, frow1']
  refine ⟨_, _, rfl, ?_⟩
  show pr_lbrows_4 _ (sL60 B (.ow false (.lst [.str (row0 B.ps), .str (row1 B.s)])) (.im (nD 0)) .un .un .un)
  have el : ((B.ps.map PyData.int).length : Int) = (m : Int) := by rw [List.length_map]; exact pl
  generalize hZ : (kindsP m).zip B.ts = Z
  have Zl : Z.length = (kindsP m).length := by rw [← hZ, List.length_zip]; omega
  refine ⟨by omega, by omega, ?_⟩
  refine for_rg m (by rw [el]) (fun i δ => δ = sL60 B (.ow false (.lst ((row0 B.ps :: row1 B.s :: (Z.take (kindsP i).length).map rowT).map .str))) (.im (nD (kindsP i).length)) .un .un .un) rfl ?_ ?_
  · rintro i δ hi rfl
    refine ⟨by omega, by omega, ?_⟩
    refine for_rg i (by omega) (fun j δ => δ = sL60 B (.ow false (.lst ((row0 B.ps :: row1 B.s :: (Z.take ((kindsP i).length + j)).map rowT).map .str))) (.im (nD ((kindsP i).length + j))) (.im (nD i)) .un .un) rfl ?_ ?_
    · rintro j δ hj rfl
      have lt := kindsP_lt hi hj
      have hp := kindsP_get hi hj
      have nx : (kindsP i).length + (j + 1) = (kindsP i).length + j + 1 := by omega
      rw [nx]
      generalize (kindsP i).length + j = k at *
      have ht : B.ts[k]? = some B.ts[k] := List.getElem?_eq_getElem (by omega)
      generalize B.ts[k] = t at ht
      have tm := List.mem_of_getElem? ht
      have hz : Z[k]? = some (((i : Int), (j : Int)), t) := by rw [← hZ]; exact List.getElem?_zip_eq_some.mpr ⟨hp, ht⟩
      refine hp_lrow60 (R := row0 B.ps :: row1 B.s :: (Z.take k).map rowT) s6 (sb.bk.tab.ok t tm) (tab_few sb.bk tm) ht (by omega) (by omega) (by simp; omega) fun x8 => ?_
      show sL60 _ _ _ _ .un .un = sL60 _ _ _ _ .un .un
      rw [List.take_add_one, hz, Option.toList_some, List.map_append (f := rowT)]
      rfl
    · rintro δ rfl
      show sL60 _ _ _ .un .un .un = sL60 _ _ _ .un .un .un
      rw [kindsP_row]
      rfl
  · rintro δ rfl
    rw [← Zl, List.take_length]
    refine ⟨_, _, rfl, ?_⟩
    rw [← hZ]
    exact q
-- DEF law N ['_law_script', '_law_turn', '_law_texts', '_law_k', '_law_deal_here', '_law_some', '_law_book_here', '_law_text', '_law_j', '_law_many', '_law_size'] calls ['_law_deal', '_law_draw', '_law_book', 'show_book', '_law_alike', '_law_book_rows', 'read_book'] takes ['cNoText']
def tB (B : Book) : Str := bookT B.ps.length B
abbrev P60 (B : Book) : Prop := SmB B.ps.length B
/-! ### the text tells the book -/
theorem tI_inj {a b : Int} (ha : a.natAbs < 10 ^ 19) (hb : b.natAbs < 10 ^ 19) (h : tI a = tI b) : a = b := by
  have := int_tI ha
  rw [h, int_tI hb] at this
  exact (Option.some.inj this).symm
theorem map_inj_of {α β : Type} {f : α → β} : ∀ {x y : List α}, (∀ a ∈ x, ∀ b ∈ y, f a = f b → a = b) → x.map f = y.map f → x = y
  | [], [], _, _ => rfl
  | [], _ :: _, _, h => by cases h
  | _ :: _, [], _, h => by cases h
  | a :: x, b :: y, hi, h => by
    rw [List.map_cons, List.map_cons] at h
    obtain ⟨h1, h2⟩ := List.cons.inj h
    rw [hi a List.mem_cons_self b List.mem_cons_self h1, map_inj_of (fun a ha b hb => hi a (List.mem_cons_of_mem _ ha) b (List.mem_cons_of_mem _ hb)) h2]
theorem sml19 {i : Int} (h : Sml i) : i.natAbs < 10 ^ 19 := by
  have : i.natAbs < _ := h
  omega
theorem pairT_inj {p r : Wk} (p1 : Sml p.1) (p2 : Sml p.2) (r1 : Sml r.1) (r2 : Sml r.2) (h : pairT p = pairT r) : p = r := by
  have e := pair_split p
  rw [h, pair_split r] at e
  simp only [List.cons.injEq, and_true] at e
  exact Prod.ext (tI_inj (sml19 p1) (sml19 r1) e.1.symm) (tI_inj (sml19 p2) (sml19 r2) e.2.symm)
theorem tab_ne {s : Int} {t : Tab} (h : TabOk s t) (s1 : 1 ≤ s) : t ≠ [] := fun e => by
  have := h.len
  rw [e] at this
  have : 0 < s * s := Int.mul_pos (by omega) (by omega)
  simp at *
  omega
theorem pairsT_inj {s : Int} {t u : Tab} (ht : TabOk s t) (hu : TabOk s u) (s1 : 1 ≤ s) (s6 : s ≤ 6) (h : pairsT t = pairsT u) : t = u := by
  have e := pairs_split (tab_ne ht s1)
  rw [h, pairs_split (tab_ne hu s1)] at e
  refine map_inj_of (f := pairT) (fun a ha b hb z => ?_) e.symm
  have a1 := inp_sml (ht.inn a ha) s6
  have b1 := inp_sml (hu.inn b hb) s6
  exact pairT_inj a1.1 a1.2 b1.1 b1.2 z
end Pv
/-! x in t, x not in t: t a tuple of data of any depth. -/
namespace L2
open PySem PySem.Spec PyProof.Rows
end L2
namespace Pv
open PySem PySem.Spec L2 Wf
end Pv
/-! Texts by value, further: an item, a part, for over a text, x not in a text, list(text), text * n. -/
namespace L2
open PySem PySem.Spec PyProof.Rows
section
variable {X : Cx}
def sgs (x : Str) : List Str := x.cps.toList.map fun c => ⟨#[c]⟩
def rMulS : R2 := fun x y H Q => ∃ z n, x = .str z ∧ y = .int n ∧ MulOk z n ∧ Q (.str (Txt.mul z n)) H
theorem op_mulS : OpR X (binaryOp .Mult) rMulS := by
  intro pins s σ H x y v u Q I rx ry h
  obtain ⟨z, n, rfl, rfl, ok, q⟩ := h
  obtain ⟨t, rfl⟩ := rx
  obtain ⟨t', rfl⟩ := ry
  exact SB.mul ok fun t2 k => ⟨.str _, H, I.tok k, ⟨t2, rfl⟩, q⟩
def rListS : List V → Hp → VK → Prop := fun xs H Q => ∃ x, xs = [V.str x] ∧ x.length ≤ sizeLine ∧ ∀ p, H p = none → Q (.ref p) (upd H p (.lst ((sgs x).map V.str)))
theorem call_listS (hc : X.calm = true) : CallR X (.type "list") rListS := by
  intro pins s σ H xs us Q I r h
  obtain ⟨x, rfl, hz, q⟩ := h
  obtain ⟨u, rfl, rx⟩ := vals1 r
  obtain ⟨t, rfl⟩ := rx
  refine PySem.call_list_str (I.ok.hd hc) x t (fun h' tk acc' c' kp e it => ?_) hz
  have rv : Vals ((sgs x).map V.str) acc'.toList := by
    refine vals_of_idx _ _ ?_ fun j u hj => ?_
    · rw [Array.length_toList, it.1]
      unfold sgs
      rw [List.length_map, List.length_map, Array.length_toList]
    · rw [Array.getElem?_toList] at hj
      obtain ⟨c, t', hc', rfl⟩ := it.2 j u hj
      exact ⟨.str ⟨#[c]⟩, by unfold sgs; rw [List.getElem?_map, List.getElem?_map, Array.getElem?_toList, hc']; rfl, t', rfl⟩
  refine ⟨.ref s.heap.objs.size, _, I.laid (t' := tk) kp (Nat.le_refl _) (show ObjOk X.prog X.w _ h' _ (.lst ((sgs x).map V.str)) from ⟨?_, acc'.toList, c', rv, ?_⟩), rfl, q _ (I.hok.fresh (Nat.le_refl _))⟩
  · unfold sgs
    rw [List.length_map, List.length_map, Array.length_toList]
    exact hz
  · rw [e]
end
end L2
namespace Pv
open PySem PySem.Spec PyProof.Rows L2 Wf
variable {B : Bas}
section
variable {X : Cx} {a b e iter tg : Expr} {pa pb : PX} {p2 pos : Pos}
/-- s[i] -/
def fIxS : PyData → PyData → (PyData → Prop) → Prop
  | .str z, .int i, k => z.length ≤ sizeLine ∧ ∃ c, atI z.cps.toList i = some c ∧ k (.str ⟨#[c]⟩)
  | _, _, _ => False
theorem lc_ixS {K : PySem.W.Frag} : LC K (q2 fIxS) (ap2 rIxS) := by
  refine lc_im2 (fun G H v u d e Q s hv hu q => ?_) (fun d e k k' hk q => ?_)
  · unfold fIxS at q
    split at q
    · have ev := vw_str hv
      have eu := hu.int
      subst ev eu
      obtain ⟨h1, c, h2, q⟩ := q
      exact ⟨_, _, c, rfl, rfl, h1, h2, q _ _ .str⟩
    · exact q.elim
  · unfold fIxS at q ⊢
    split at q
    · obtain ⟨h1, c, h2, q⟩ := q
      exact ⟨h1, c, h2, hk _ q⟩
    · exact q.elim
def pIxS (pa pb : PX) : PX := pC (q2 fIxS) (pCons pa (pCons pb pNil))
theorem je_ixS (ha : JE X B a pa) (hb : JE X B b pb) (hs : PlainIx b) : JE X B (.Subscript a b pos) (pIxS pa pb) := PE_wk (pe_ix ix_str ha hb hs) fun σ H Q h => lc_two lc_ixS h
/-- s[a:b] -/
def pSlS (pa : PX) (lo hi : POx) : PX := fun δ Q => pa δ fun ra δ1 => lo δ1 fun l δ2 => hi δ2 fun u δ3 => ∃ z, dat δ3 ra = some (.str z) ∧ z.length ≤ sizeLine ∧ Q (.im (.str (cutS z l u))) δ3
theorem je_slS {lo hi : Option Expr} {pl ph : POx} (ha : JE X B a pa) (hl : JO X B lo pl) (hh : JO X B hi ph) : JE X B (.Subscript a (.Slice lo hi none p2) pos) (pSlS pa pl ph) := by
  refine PE_wk (pe_slice sl_str ha hl hh) fun σ H Q ⟨G, w, δ, Qp, rep, h, k⟩ => ?_
  refine ⟨G, w, δ, _, rep, h, fun ra δ1 x H1 G1 w1 q1 s1 rep1 => ?_⟩
  refine ⟨G1, _, δ1, _, rep1.drop, q1, fun l δ2 H2 G2 w2 q2 s2 rep2 => ?_⟩
  obtain ⟨w3, s3, rep3⟩ := rep1.frame s2 rep2
  refine ⟨G2, _, δ2, _, rep3.drop, q2, fun u δ3 H3 G3 w4 q3 s4 rep4 => ?_⟩
  obtain ⟨w5, s5, rep5⟩ := rep3.frame s4 rep4
  obtain ⟨z, hz, hl, q3⟩ := q3
  have ev := vw_str (rep5.dat (j := 0) rfl rfl hz)
  subst ev
  exact ⟨z, rfl, hl, k _ δ3 _ H3 G3 _ q3 (((s1.trans s3).trans s5).trans .drop) (rep5.ret (.str _))⟩
/-- for over a text -/
def sgD (x : Str) : List PyData := (sgs x).map .str
def iStrD (p : PX) : PIx := fun δ Q => p δ fun r δ1 => ∃ x, dat δ1 r = some (.str x) ∧ Q (sgD x) δ1
theorem sgD_len (x : Str) : (sgD x).length = x.cps.size := by unfold sgD sgs; rw [List.length_map, List.length_map, Array.length_toList]
theorem sgD_get (x : Str) (i : Nat) : (sgD x)[i]? = (x.cps[i]?).map fun c => .str ⟨#[c]⟩ := by
  unfold sgD sgs
  rw [List.getElem?_map, List.getElem?_map, Array.getElem?_toList, Option.map_map]
  rfl
theorem ji_str (hl : JE X B iter pa) : JI X B tg iter (iStrD pa) := PI_wk (pi_str hl) fun σ H R ⟨G, w, δ, Qp, rep, q, k⟩ =>
  ⟨G, w, δ, _, rep, q, fun r δ1 v H1 G1 w1 q1 s1 rep1 => by
    obtain ⟨x, hd, q1⟩ := q1
    have ev := vw_str (rep1.dat (j := 0) rfl rfl hd)
    subst ev
    refine ⟨x, rfl, k _ δ1 _ H1 G1 _ q1 (s1.trans .drop) rep1.drop ⟨fun G' H' i _ _ hi => ?_, fun G' H' i y H2 _ _ hi yl => ?_, fun G' H' _ _ => ?_⟩⟩
    · rw [sgD_len] at hi
      exact hi
    · obtain ⟨rfl, c, hc, rfl⟩ := yl
      exact ⟨_, by rw [sgD_get, hc]; rfl, .str⟩
    · rw [sgD_len]
      exact Nat.le_refl _⟩
/-- sign not in text -/
def fNI : PyData → PyData → (PyData → Prop) → Prop
  | .str s, .str z, k => ∃ c, s = ⟨#[c]⟩ ∧ k (.bool (!decide (c ∈ z.cps.toList)))
  | _, _, _ => False
theorem lc_notInSg {K : PySem.W.Frag} : LC K (q2 fNI) (ap2 fun x y H Q => ∃ (c : Nat) (z : Str), x = .str ⟨#[c]⟩ ∧ y = .str z ∧ Q (.bl (!decide (c ∈ z.cps.toList))) H) := by
  refine lc_im2 (fun G H v u d e Q s hv hu q => ?_) (fun d e k k' hk q => ?_)
  · unfold fNI at q
    split at q
    · obtain ⟨c, rfl, q⟩ := q
      have ev := vw_str hv
      have eu := vw_str hu
      subst ev eu
      exact ⟨c, _, rfl, rfl, q _ _ .bool⟩
    · exact q.elim
  · unfold fNI at q ⊢
    split at q
    · obtain ⟨c, h, q⟩ := q
      exact ⟨c, h, hk _ q⟩
    · exact q.elim
def pNIS (pa pb : PX) : PX := pC (q2 fNI) (pCons pa (pCons pb pNil))
/-- list(text) -/
def fListS : PyData → (List PyData → Prop) → Prop
  | .str x, k => x.length ≤ sizeLine ∧ k (sgD x)
  | _, _ => False
theorem lc_listS {K : PySem.W.Frag} : LC K (q1L fListS) rListS := by
  refine lc_own1 (fun G H v d Q s hv q => ?_) (fun d k k' hk q => ?_)
  · unfold fListS at q
    split at q
    · have ev := vw_str hv
      subst ev
      exact ⟨_, rfl, q.1, fun p hp => q.2 _ p (dqAll_strsI _) hp⟩
    · exact q.elim
  · unfold fListS at q ⊢
    split at q
    · exact ⟨q.1, hk _ q.2⟩
    · exact q.elim
/-- text * n -/
def fMulS : PyData → PyData → (PyData → Prop) → Prop
  | .str z, .int n, k => MulOk z n ∧ k (.str (Txt.mul z n))
  | _, _, _ => False
theorem lc_mulS {K : PySem.W.Frag} : LC K (q2 fMulS) (ap2 rMulS) := by
  refine lc_im2 (fun G H v u d e Q s hv hu q => ?_) (fun d e k k' hk q => ?_)
  · unfold fMulS at q
    split at q
    · have ev := vw_str hv
      have eu := hu.int
      subst ev eu
      exact ⟨_, _, rfl, rfl, q.1, q.2 _ _ .str⟩
    · exact q.elim
  · unfold fMulS at q ⊢
    split at q
    · exact ⟨q.1, hk _ q.2⟩
    · exact q.elim
def pMulS (pa pb : PX) : PX := pC (q2 fMulS) (pCons pa (pCons pb pNil))
theorem je_mulS (ha : JE X B a pa) (hb : JE X B b pb) : JE X B (.BinOp a .Mult b pos) (pMulS pa pb) := je_op op_mulS lc_mulS ha hb
end
end Pv
/-! Which number a text writes. -/
namespace Pv
open PySem PySem.Spec PyProof.Rows L2 Wf TL PySem.StrLaws
abbrev SmlI (i : Int) : Prop := i.natAbs < 10 ^ 19
/-- the text writes the number -/
def Wr (w : Str) (n : Int) : Prop := w = tI n ∧ SmlI n
theorem Wr.int {w : Str} {n : Int} (h : Wr w n) : PySem.intText? w = some n := by rw [h.1]; exact int_tI h.2
theorem Wr.one {w : Str} {n m : Int} (h : Wr w n) (k : Wr w m) : n = m := by
  have e := h.int
  rw [k.int] at e
  exact (Option.some.inj e).symm
theorem tl_rem (w : Str) : tl (Txt.removeprefix w (Str.ofString "-")) = match tl w with | 45 :: r => r | l => l := by
  rw [removeprefix_eq, subAt_eq, List.drop_zero]
  have l1 : (Str.ofString "-").length = 1 := by decide +kernel
  have t1 : (Str.ofString "-").cps.toList = [45] := by decide +kernel
  have ll := len_tl w
  rw [l1, t1]
  have e : w.cps.toList = tl w := rfl
  rw [e, ll]
  cases hm : tl w with
  | nil =>
    rw [if_neg (by simp)]
    exact hm
  | cons c r =>
    by_cases h : c = 45
    · subst h
      rw [if_pos (by simp)]
      show List.take _ r = r
      exact List.take_of_length_le (by simp)
    · rw [if_neg (by
        intro z
        rw [Bool.and_eq_true] at z
        have := beq_iff_eq.mp z.2
        simp at this
        exact h this)]
      split
      · rename_i e2; cases e2; exact absurd rfl h
      · exact hm
theorem digitsVal_lt : ∀ l : List Nat, NumText.AllDigits l → NumText.digitsVal l < 10 ^ l.length := by
  intro l
  have go : ∀ (l : List Nat) (a k : Nat), a < 10 ^ k → NumText.AllDigits l → l.foldl (fun acc c => acc * 10 + (c - 48)) a < 10 ^ (k + l.length) := by
    intro l
    induction l with
    | nil => intro a k h _; exact h
    | cons c r ih =>
      intro a k h hd
      have hc := hd.head
      rw [List.foldl_cons, List.length_cons, show k + (r.length + 1) = (k + 1) + r.length by omega]
      refine ih _ _ ?_ hd.tail
      rw [Nat.pow_succ]
      omega
  intro h
  have := go l 0 0 (by decide) h
  rw [Nat.zero_add] at this
  exact this
theorem asc_dig : ∀ c : Nat, c < 128 → Unicode.isDigit c = true → 48 ≤ c ∧ c ≤ 57 := by decide +kernel
theorem digs_of {F : Str} (ha : Txt.isascii F = true) (hd : Txt.isdigit F = true) : NumText.AllDigits (tl F) ∧ tl F ≠ [] := by
  unfold Txt.isdigit at hd
  rw [Bool.and_eq_true, decide_eq_true_eq, len_tl] at hd
  obtain ⟨h0, h1⟩ := hd
  unfold Txt.isascii at ha
  rw [← Array.all_toList, List.all_eq_true] at ha h1
  refine ⟨fun c hc => ?_, fun z => by rw [z] at h0; simp at h0⟩
  have a := ha c hc
  rw [decide_eq_true_eq] at a
  have := asc_dig c a (h1 c hc)
  omega
/-- a text of figures, perhaps with a sign: what it is as a number -/
theorem int_digs {w : Str} (hd : NumText.AllDigits (tl w)) (h0 : tl w ≠ []) (hl : (tl w).length ≤ 19) : ∃ n : Int, PySem.intText? w = some n ∧ 0 ≤ n ∧ SmlI n := by
  have e := intText_digits (x := w) hd h0 (by rw [len_tl]; omega)
  refine ⟨_, e, Int.natCast_nonneg _, ?_⟩
  have := digitsVal_lt _ hd
  exact Nat.lt_of_lt_of_le (by exact this) (Nat.pow_le_pow_right (by decide) hl)
theorem int_neg {w : Str} {r : List Nat} (hw : tl w = 45 :: r) (hd : NumText.AllDigits r) (h0 : r ≠ []) (hl : r.length ≤ 19) : ∃ n : Int, PySem.intText? w = some n ∧ SmlI n := by
  have e := intText_neg (x := w) hw hd h0 (by rw [len_tl, hw, List.length_cons]; omega)
  refine ⟨_, e, ?_⟩
  have := digitsVal_lt _ hd
  show Int.natAbs (-((NumText.digitsVal r : Nat) : Int)) < _
  rw [Int.natAbs_neg]
  exact Nat.lt_of_lt_of_le (by exact this) (Nat.pow_le_pow_right (by decide) hl)
theorem int_any {w : Str} (h1 : (Txt.removeprefix w (Str.ofString "-")).length ≤ 19) (ha : Txt.isascii (Txt.removeprefix w (Str.ofString "-")) = true) (hd : Txt.isdigit (Txt.removeprefix w (Str.ofString "-")) = true) : ∃ n : Int, PySem.intText? w = some n ∧ SmlI n ∧ w.length ≤ 20 := by
  obtain ⟨d, ne⟩ := digs_of ha hd
  rw [len_tl] at h1
  rw [tl_rem] at h1 d ne
  match hw : tl w, h1, d, ne with
  | [], _, _, ne => exact absurd rfl ne
  | 45 :: r, h1, d, ne =>
    obtain ⟨n, e, s⟩ := int_neg hw d ne h1
    exact ⟨n, e, s, by rw [len_tl, hw, List.length_cons]; exact Nat.succ_le_succ h1⟩
  | c :: r, h1, d, ne =>
    by_cases h : c = 45
    · subst h
      obtain ⟨n, e, s⟩ := int_neg hw d ne h1
      exact ⟨n, e, s, by rw [len_tl, hw, List.length_cons]; exact Nat.succ_le_succ h1⟩
    · have em : (match c :: r with | 45 :: r => r | l => l) = c :: r := by
        split
        · rename_i e; cases e; exact absurd rfl h
        · rfl
      rw [em] at h1 d ne
      obtain ⟨n, e, _, s⟩ := int_digs (w := w) (by rw [hw]; exact d) (by rw [hw]; exact ne) (by rw [hw]; exact h1)
      exact ⟨n, e, s, by rw [len_tl, hw]; omega⟩
/-! signs -/
theorem tl_wr {w : Str} {n : Int} (h : Wr w n) : tl w = if n < 0 then 45 :: dig n else dig n := by rw [h.1]; exact tl_tI n
theorem dig_head (n : Int) {r : List Nat} : dig n ≠ 45 :: r := fun z => by
  have := numL_digits n.natAbs 45 (by unfold dig at z; rw [z]; exact List.mem_cons_self)
  omega
/-- behind the sign -/
theorem wr_neg {w v : Str} {n : Int} (hw : tl w = 45 :: tl v) : Wr w n ↔ n < 0 ∧ Wr v (-n) := by
  constructor
  · intro h
    have e := tl_wr h
    rw [hw] at e
    by_cases hn : n < 0
    · rw [if_pos hn] at e
      refine ⟨hn, ext_tl ?_, by show (-n).natAbs < _; rw [Int.natAbs_neg]; exact h.2⟩
      rw [tl_tI, if_neg (by omega)]
      unfold dig at e ⊢
      rw [Int.natAbs_neg]
      exact (List.cons.inj e).2
    · rw [if_neg hn] at e
      exact absurd e.symm (dig_head n)
  · rintro ⟨hn, h⟩
    refine ⟨ext_tl ?_, by have := h.2; show n.natAbs < _; rwa [SmlI, Int.natAbs_neg] at this⟩
    rw [hw, tl_tI, if_pos hn, tl_wr h, if_neg (by omega)]
    unfold dig
    rw [Int.natAbs_neg]
theorem wr_pos {w : Str} {n : Int} (h : Wr w n) (hw : ∀ r, tl w ≠ 45 :: r) : 0 ≤ n := by
  have e := tl_wr h
  by_cases hn : n < 0
  · rw [if_pos hn] at e
    exact absurd e (hw _)
  · omega
end Pv
/-! {**a, ..}: one dict's entries put into another one. -/
namespace PySem
end PySem
namespace PySem
end PySem
namespace L2
open PySem PySem.Spec
end L2
/-! Records: dicts by names that never change, told by value; displays of them, with and without stars. -/
namespace Pv
open PySem PySem.Spec L2 Wf
variable {B : Bas}
/-! ### a thing that is being made: nobody's, not public yet -/
structure Hid (B : Bas) (G H : Hp) (w : Addr → Option Nat) (p : Addr) (kvs : List (Key × V)) : Prop where
  g : G p = none
  w : w p = none
  h : H p = some (.dK kvs)
  b : B.hp p = none
section
variable {K : PySem.W.Frag} {G H G' H' : Hp} {σ : St} {δ δ' : List Sl} {vs : List V} {rs : List R} {w w' : Addr → Option Nat} {p : Addr}
/-- from now on it is public -/
theorem Rep.bare {kvs : List (Key × V)} (r : Rep K B G H σ δ vs rs w) (d : Hid B G H w p kvs) : Rep K B (upd G p (.dK kvs)) H σ δ vs rs w := by
  have sg : Same G (upd G p (.dK kvs)) := same_new d.g
  refine ⟨fun a u ha => ?_, fun a i h => ?_, r.len, fun i s h => (r.sl i s h).mono sg (fun _ _ _ h => h) (fun a u ma _ => ma), r.tlen, fun j v q hv hq => (r.tm j v q hv hq).mono sg (fun _ _ _ h => h) (fun a u ma _ => ma), ⟨r.bs.to, r.bs.tt, r.bs.ta, fun a ps e => ?_⟩⟩
  · by_cases e : a = p
    · subst e; rw [upd_same] at ha; cases ha; exact d.h
    · rw [upd_ne e] at ha; exact r.sub a u ha
  · have ho := r.out a i h
    rw [upd_ne (fun z => by rw [z, d.w] at h; cases h)]
    exact ho
  · by_cases z : a = p
    · subst z; rw [upd_same] at e; cases e
    · rw [upd_ne z] at e; exact r.bs.gt a ps e
theorem Stp.bare {T : List NdefX.NTab} {G0 H0 : Hp} {w0 : Addr → Option Nat} {δ0 : List Sl} {kvs : List (Key × V)} (s : Stp T G0 H0 w0 δ0 G H w δ) (h0 : H0 p = none) (hg : G p = none) : Stp T G0 H0 w0 δ0 (upd G p (.dK kvs)) H w δ := by
  refine ⟨fun a o h => same_new hg a o (s.g a o h), s.b, s.n, fun a o h => ?_, s.pn, s.t, fun a ps h => ?_⟩
  · by_cases z : a = p
    · subst z; exact .inr (.inl h0)
    · rw [upd_ne z] at h; exact s.p a o h
  · by_cases z : a = p
    · subst z; rw [upd_same] at h; cases h
    · rw [upd_ne z] at h; exact s.q a ps h
end
/-! ### records -/
def putR (r : Rc) (x : Str) (d : Rv) : Rc := if (r.any fun kv => decide (kv.1 = x)) = true then r.map (fun kv => if kv.1 = x then (kv.1, d) else kv) else r ++ [(x, d)]
section
variable {K : PySem.W.Frag} {G : Hp}
/-- names, values, data -/
inductive Pr3 (K : PySem.W.Frag) (G : Hp) : List (Key × V) → Rc → Prop
  | nil : Pr3 K G [] []
  | cons {x : Str} {v : V} {d : Rv} {kvs : List (Key × V)} {r : Rc} : RvR K G v d → Pr3 K G kvs r → Pr3 K G ((Sum.inr x, v) :: kvs) ((x, d) :: r)
theorem pr3_to : ∀ {kvs : List (Key × V)} {r : Rc}, Pr3 K G kvs r → ∃ us, kvs = recK r us ∧ RvAll K G us (r.map (·.2))
  | _, _, .nil => ⟨[], rfl, .nil⟩
  | _, _, .cons h1 h2 => by
    obtain ⟨us, e, h⟩ := pr3_to h2
    exact ⟨_ :: us, by rw [e]; rfl, .cons h1 h⟩
theorem Pr3.mono {G' : Hp} (s : Same G G') {kvs : List (Key × V)} {r : Rc} (h : Pr3 K G kvs r) : Pr3 K G' kvs r := by
  induction h with
  | nil => exact .nil
  | cons h1 _ ih => exact .cons (h1.mono s) ih
theorem Pr3.len {kvs : List (Key × V)} {r : Rc} (h : Pr3 K G kvs r) : kvs.length = r.length := by
  induction h with
  | nil => rfl
  | cons _ _ ih => rw [List.length_cons, List.length_cons, ih]
theorem Pr3.any {kvs : List (Key × V)} {r : Rc} (h : Pr3 K G kvs r) (x : Str) : (kvs.any fun kv => decide (kv.1 = (Sum.inr x : Key))) = r.any fun kv => decide (kv.1 = x) := by
  induction h with
  | nil => rfl
  | @cons y v d kvs r _ _ ih =>
    rw [List.any_cons, List.any_cons, ih]
    have : (decide ((Sum.inr y : Key) = Sum.inr x)) = decide (y = x) := by
      by_cases e : y = x
      · subst e; simp
      · rw [decide_eq_false e, decide_eq_false fun z => e (Sum.inr.inj z)]
    rw [this]
theorem Pr3.mapP {kvs : List (Key × V)} {r : Rc} (h : Pr3 K G kvs r) {x : Str} {v : V} {d : Rv} (hd : RvR K G v d) : Pr3 K G (kvs.map fun kv => if kv.1 = (Sum.inr x : Key) then (kv.1, v) else kv) (r.map fun kv => if kv.1 = x then (kv.1, d) else kv) := by
  induction h with
  | nil => exact .nil
  | @cons y u e kvs r h1 _ ih =>
    rw [List.map_cons, List.map_cons]
    by_cases z : y = x
    · subst z
      rw [if_pos rfl, if_pos rfl]
      exact .cons hd ih
    · rw [if_neg fun q => z (Sum.inr.inj q), if_neg z]
      exact .cons h1 ih
theorem Pr3.snoc {kvs : List (Key × V)} {r : Rc} (h : Pr3 K G kvs r) {x : Str} {v : V} {d : Rv} (hd : RvR K G v d) : Pr3 K G (kvs ++ [(Sum.inr x, v)]) (r ++ [(x, d)]) := by
  induction h with
  | nil => exact .cons hd .nil
  | cons h1 _ ih => exact .cons h1 ih
theorem Pr3.put {kvs : List (Key × V)} {r : Rc} (h : Pr3 K G kvs r) {x : Str} {v : V} {d : Rv} (hd : RvR K G v d) : Pr3 K G (putK kvs (Sum.inr x) v) (putR r x d) := by
  unfold putK putR
  rw [h.any x]
  split
  · exact h.mapP hd
  · exact h.snoc hd
theorem RcR.of {a : Addr} {kvs : List (Key × V)} {r : Rc} (h : G a = some (.dK kvs)) (p : Pr3 K G kvs r) : RcR K G (.ref a) r := by
  obtain ⟨us, e, h2⟩ := pr3_to p
  exact ⟨a, us, rfl, by rw [← e]; exact h, h2⟩
end
/-! ### reading a record; displays -/
end Pv
/-! Objects of an own class, told by their fields. -/
namespace Pv
open PySem PySem.Spec L2 Wf
variable {B : Bas}
def putFd (x : Str) (F : Fd) : List (Str × Fd) → List (Str × Fd)
  | [] => [(x, F)]
  | (y, E) :: r => if y = x then (y, F) :: r else (y, E) :: putFd x F r
section
variable {K : PySem.W.Frag} {G H : Hp} {m : Addr → Prop} {fs : List (Str × Fd)} {us : List (Str × V)} {as : List Addr} {x : Str}
/-- what one field holds -/
inductive FdR (K : PySem.W.Frag) (G H : Hp) (m : Addr → Prop) : V → Fd → Option Addr → Prop
  | dat {v : V} {d : PyData} : Dq K G v d → FdR K G H m v (.dat d) none
  | rcd {v : V} {r : Rc} : RcR K G v r → FdR K G H m v (.rcd r) none
  | lst {a : Addr} {vs : List V} {ds : List PyData} : m a → H a = some (.lst vs) → DqAll K G vs ds → FdR K G H m (.ref a) (.lst ds) (some a)
  | rcs {a : Addr} {vs : List V} {rs : List Rc} : m a → H a = some (.lst vs) → RcAll K G vs rs → FdR K G H m (.ref a) (.rcs rs) (some a)
theorem FdsR.add {v : V} {F : Fd} {o : Option Addr} (h : FdR K G H m v F o) (n : ∀ a, o = some a → a ∉ as) (r : FdsR K G H m fs us as) : FdsR K G H m ((x, F) :: fs) ((x, v) :: us) (o.toList ++ as) := by
  cases h with
  | dat h => exact .dat h r
  | rcd h => exact .rcd h r
  | lst h1 h2 h3 => exact .lst h1 h2 h3 (n _ rfl) r
  | rcs h1 h2 h3 => exact .rcs h1 h2 h3 (n _ rfl) r
/-- the first field, the others -/
theorem FdsR.inv {F : Fd} (h : FdsR K G H m ((x, F) :: fs) us as) : ∃ v ws o bs, us = (x, v) :: ws ∧ as = o.toList ++ bs ∧ FdR K G H m v F o ∧ (∀ a, o = some a → a ∉ bs) ∧ FdsR K G H m fs ws bs := by
  cases h with
  | dat h r => exact ⟨_, _, none, _, rfl, rfl, .dat h, nofun, r⟩
  | rcd h r => exact ⟨_, _, none, _, rfl, rfl, .rcd h, nofun, r⟩
  | lst h1 h2 h3 n r => exact ⟨_, _, some _, _, rfl, rfl, .lst h1 h2 h3, fun a e => by cases e; exact n, r⟩
  | rcs h1 h2 h3 n r => exact ⟨_, _, some _, _, rfl, rfl, .rcs h1 h2 h3, fun a e => by cases e; exact n, r⟩
theorem FdsR.nil_inv (h : FdsR K G H m [] us as) : us = [] ∧ as = [] := by cases h; exact ⟨rfl, rfl⟩
theorem FdsR.len : ∀ {fs : List (Str × Fd)} {us : List (Str × V)} {as : List Addr}, FdsR K G H m fs us as → us.length = fs.length
  | [], _, _, h => by rw [h.nil_inv.1]; rfl
  | (x, F) :: fs, _, _, h => by
    obtain ⟨v, ws, o, bs, rfl, _, _, _, r⟩ := h.inv
    rw [List.length_cons, List.length_cons, r.len]
theorem FdsR.look : ∀ {fs : List (Str × Fd)} {us : List (Str × V)} {as : List Addr} {F : Fd}, FdsR K G H m fs us as → fs.lookup x = some F → ∃ v o, us.lookup x = some v ∧ FdR K G H m v F o ∧ ∀ a, o = some a → a ∈ as
  | [], _, _, _, _, h => by cases h
  | (y, E) :: fs, _, _, F, h, hx => by
    obtain ⟨v, ws, o, bs, rfl, rfl, h1, n, r⟩ := h.inv
    rw [List.lookup_cons] at hx
    by_cases e : x = y
    · subst e
      rw [beq_self_eq_true] at hx
      cases hx
      exact ⟨v, o, by rw [List.lookup_cons, beq_self_eq_true], h1, fun a ea => by subst ea; exact List.mem_append_left _ List.mem_cons_self⟩
    · rw [beq_eq_false_iff_ne.mpr e] at hx
      obtain ⟨u, p, e1, e2, e3⟩ := r.look hx
      exact ⟨u, p, by rw [List.lookup_cons, beq_eq_false_iff_ne.mpr e]; exact e1, e2, fun a ea => List.mem_append_right _ (e3 a ea)⟩
theorem FdsR.none : ∀ {fs : List (Str × Fd)} {us : List (Str × V)} {as : List Addr}, FdsR K G H m fs us as → fs.lookup x = none → us.lookup x = none
  | [], _, _, h, _ => by rw [h.nil_inv.1]; rfl
  | (y, E) :: fs, _, _, h, hx => by
    obtain ⟨v, ws, o, bs, rfl, rfl, h1, n, r⟩ := h.inv
    rw [List.lookup_cons] at hx ⊢
    by_cases e : x = y
    · subst e
      rw [beq_self_eq_true] at hx
      cases hx
    · rw [beq_eq_false_iff_ne.mpr e] at hx ⊢
      exact r.none hx
theorem FdsR.put {v : V} {F : Fd} {o : Option Addr} (h : FdR K G H m v F o) : ∀ {fs : List (Str × Fd)} {us : List (Str × V)} {as : List Addr}, FdsR K G H m fs us as → (∀ a, o = some a → a ∉ as) → ∃ bs, FdsR K G H m (putFd x F fs) (putF x v us) bs ∧ ∀ b ∈ bs, b ∈ as ∨ o = some b
  | [], _, _, r, _ => by
    obtain ⟨rfl, rfl⟩ := r.nil_inv
    exact ⟨o.toList ++ [], .add h (fun _ _ => List.not_mem_nil) .nil, fun b hb => .inr (by rw [List.append_nil, Option.mem_toList] at hb; exact hb)⟩
  | (y, E) :: fs, _, _, r, n => by
    obtain ⟨w, ws, p, bs, rfl, rfl, h1, n1, r⟩ := r.inv
    unfold putFd putF
    by_cases e : y = x
    · rw [if_pos e, if_pos e]
      exact ⟨o.toList ++ bs, .add h (fun a ea z => n a ea (List.mem_append_right _ z)) r, fun b hb => (List.mem_append.mp hb).elim (fun z => .inr (Option.mem_toList.mp z)) fun z => .inl (List.mem_append_right _ z)⟩
    · rw [if_neg e, if_neg e]
      obtain ⟨cs, r2, hc⟩ := r.put h fun a ea z => n a ea (List.mem_append_right _ z)
      refine ⟨p.toList ++ cs, .add h1 (fun a ea z => ?_) r2, fun b hb => (List.mem_append.mp hb).elim (fun z => .inl (List.mem_append_left _ z)) fun z => (hc b z).imp (List.mem_append_right _) id⟩
      rcases hc a z with z | z
      · exact n1 a ea z
      · exact n a z (List.mem_append_left _ (by rw [ea]; exact List.mem_cons_self))
theorem FdsR.mem : ∀ {fs : List (Str × Fd)} {us : List (Str × V)} {as : List Addr}, FdsR K G H m fs us as → ∀ a ∈ as, m a ∧ ∃ vs, H a = some (.lst vs)
  | [], _, _, r, a, ha => by rw [r.nil_inv.2] at ha; cases ha
  | (y, E) :: fs, _, _, r, a, ha => by
    obtain ⟨w, ws, p, bs, rfl, rfl, h1, n1, r⟩ := r.inv
    rcases List.mem_append.mp ha with z | z
    · cases h1 with
      | dat _ => cases z
      | rcd _ => cases z
      | lst q1 q2 _ => rw [List.mem_singleton.mp z]; exact ⟨q1, _, q2⟩
      | rcs q1 q2 _ => rw [List.mem_singleton.mp z]; exact ⟨q1, _, q2⟩
    · exact r.mem a z
theorem FdR.keep {H' : Hp} {m' : Addr → Prop} {v : V} {F : Fd} {o : Option Addr} (h : FdR K G H m v F o) (k : ∀ a, o = some a → H' a = H a ∧ m' a) : FdR K G H' m' v F o := by
  cases h with
  | dat h => exact .dat h
  | rcd h => exact .rcd h
  | lst h1 h2 h3 => exact .lst (k _ rfl).2 (by rw [(k _ rfl).1]; exact h2) h3
  | rcs h1 h2 h3 => exact .rcs (k _ rfl).2 (by rw [(k _ rfl).1]; exact h2) h3
theorem FdsR.keep {H' : Hp} {m' : Addr → Prop} : ∀ {fs : List (Str × Fd)} {us : List (Str × V)} {as : List Addr}, FdsR K G H m fs us as → (∀ a ∈ as, H' a = H a ∧ m' a) → FdsR K G H' m' fs us as
  | [], _, _, r, _ => by obtain ⟨rfl, rfl⟩ := r.nil_inv; exact .nil
  | (y, E) :: fs, _, _, r, k => by
    obtain ⟨w, ws, p, bs, rfl, rfl, h1, n1, r⟩ := r.inv
    exact .add (h1.keep fun a ea => k a (List.mem_append_left _ (by rw [ea]; exact List.mem_cons_self))) n1 (r.keep fun a ha => k a (List.mem_append_right _ ha))
/-- a list of the object's own is written -/
theorem FdsR.wr {a : Addr} {ws : List V} {F F' : Fd} (hn : FdR K G (upd H a (.lst ws)) m (.ref a) F' (some a)) : ∀ {fs : List (Str × Fd)} {us : List (Str × V)} {as : List Addr}, FdsR K G H m fs us as → fs.lookup x = some F → us.lookup x = some (.ref a) → FdR K G H m (.ref a) F (some a) → FdsR K G (upd H a (.lst ws)) m (putFd x F' fs) us as
  | [], _, _, _, h, _, _ => by cases h
  | (y, E) :: fs, _, _, r, hx, hu, hF => by
    obtain ⟨w, vs, p, bs, rfl, rfl, h1, n1, r1⟩ := r.inv
    unfold putFd
    rw [List.lookup_cons] at hx hu
    by_cases e : x = y
    · subst e
      rw [beq_self_eq_true] at hx hu
      cases hx
      cases hu
      rw [if_pos rfl]
      have ep : p = some a := by cases hF <;> cases h1 <;> rfl
      subst ep
      have k2 : FdsR K G (upd H a (.lst ws)) m fs vs bs := r1.keep fun b hb => ⟨upd_ne (a := a) (b := b) (fun z => n1 a rfl (by rw [← z]; exact hb)), (r1.mem b hb).1⟩
      exact .add hn n1 k2
    · rw [beq_eq_false_iff_ne.mpr e] at hx hu
      rw [if_neg (Ne.symm e)]
      obtain ⟨v, o, e1, e2, e3⟩ := r1.look hx
      have hu' : vs.lookup x = some (.ref a) := hu
      have hx' : fs.lookup x = some F := hx
      rw [hu'] at e1
      cases e1
      have ha : a ∈ bs := by cases hF <;> cases e2 <;> exact e3 a rfl
      refine .add (h1.keep fun b eb => ⟨upd_ne (fun z => n1 b eb (by rw [z]; exact ha)), ?_⟩) n1 (r1.wr hn hx' hu' hF)
      cases h1 with
      | dat _ => cases eb
      | rcd _ => cases eb
      | lst q _ _ => cases eb; exact q
      | rcs q _ _ => cases eb; exact q
end
/-! ### what slot i owns is written -/
end Pv
/-! Objects: their fields read, stored, written. -/
namespace Pv
open PySem PySem.Spec L2 Wf
end Pv
/-! Methods of an own class, and its making. -/
namespace Pv
open PySem PySem.Spec L2 Wf
/-! ### making -/
end Pv
namespace Pv
open PySem PySem.Spec L2 Wf
end Pv
/-! A call in a try that is handed an object: it comes back and may be changed; or it is refused, and the object was only borrowed. -/
namespace Pv
open PySem PySem.Spec L2 Wf
end Pv
/-! tuple(range(..)), its object known. -/
namespace Wf
open PySem PySem.Spec PyProof.Rows L2
end Wf
namespace Pv
open PySem PySem.Spec L2 Wf
end Pv
/-! x == y by an own __eq__; isinstance of an instance. -/
namespace Wf
open PySem PySem.Spec PyProof.Rows L2
end Wf
namespace Pv
open PySem PySem.Spec L2 Wf
end Pv
/-! What the head is asked of own classes, as truths. -/
namespace Pv
open PySem PySem.Spec L2 Wf
end Pv
namespace Wf
open PySem PySem.Spec PyProof.Rows L2
end Wf
/-! len(x), repr(x) by own methods; x != y by an own __eq__; xs.clear(); an instance made with what its making leaves out. -/
namespace PySem.W
open PySem PySem.Calls PyProof.Rows Builtin
end PySem.W
namespace Wf
open PySem PySem.Spec PyProof.Rows L2
end Wf
namespace Pv
open PySem PySem.Spec L2 Wf
end Pv
/-! try: a statement that may raise (an expression, or one of two), then perhaps a name set; except .. as a name. -/
namespace Pv
open PySem PySem.Spec L2 Wf
variable {B : Bas}
section
variable {X : Cx} {W : WX} {e e1 e2 c : Expr} {pos p1 p2 : Pos}
theorem psx_expr {p : PXx} (he : JX X B W e p) (hs : swapsWith e none pos.line X.env = pure false := by rfl) : PS X (.Expr e pos) (tDrop (LEx X.K B W p)) := ps_expr he hs
end
end Pv
/-! Several except clauses, each of which names the error alike. -/
namespace Wf
open PySem PySem.Spec PyProof.Rows L2
end Wf
/-! try: y = p, two except clauses that name the error alike. -/
namespace Pv
open PySem PySem.Spec L2 Wf
end Pv
/-! An own error right under IndexError: one field, made and raised. -/
namespace Wf
open PySem PySem.Spec PyProof.Rows L2 PySem.Builtin PySem.Builtin.ObjectAttr
/-! ### readings -/
end Wf
/-! An own error right under IndexError: raised in a def, told by the head. -/
namespace Wf
open PySem PySem.Spec PyProof.Rows L2
end Wf
namespace Pv
open PySem PySem.Spec L2 Wf
end Pv
/-! Two caught classes of one base, beside them one that is caught first. -/
namespace Pv
open PySem PySem.Spec L2 Wf
end Pv
/-! Making in a try: it is made, or it is refused and all stands. -/
namespace Wf
open PySem PySem.Spec L2
end Wf
namespace Pv
open PySem PySem.Spec L2 Wf
variable {B : Bas}
/-! ### two errors of one base, told by what they are not -/
section
variable {K : PySem.W.Frag} {C1 C2 C0 : Addr} {o1 o2 os : List Addr}
theorem catS {C0 : Addr} (h : PySem.W.exmOne K (.ref C0) (.ref C0) = some true) : ∀ C, C = C0 → PySem.W.exmOne K (.ref C) (.ref C0) = some true := fun C e => by subst e; exact h
end
end Pv
/-! A def that is handed the caught error. -/
namespace Wf
open PySem PySem.Spec PyProof.Rows L2
/-- the base that holds a pinned thing too -/
theorem widenE {X : Cx} {pins : List (Addr × Obj)} {σ : L2.St} {H : Hp} {s : Shared} {a : Addr} {oe : Obj} (I : L2.Inv X pins σ H s) (hst : X.stack = X.env :: X.outer) (hfr : X.env.frame = some X.env.locals)
    (hp : s.heap.get? a = some oe ∧ H a = none ∧ a ≠ X.env.locals ∧ a ∉ X.fs) :
    ∃ base' : Heap, Env0 X.prog X.w X.K X.mg base' X.A X.stack s H ∧ base'.get? a = some oe := by
  classical
  have e0 := I.env0
  let Hh : Hp := fun b => if (X.base.get? b).isSome = true ∨ b = a then none else some (.tbl #[])
  have hin : ∀ b o, X.base.get? b = some o → (hidT s.heap Hh).get? b = some o := fun b o e => by
    refine hidT_get (e0.bs b o e).1 ?_
    show (if _ then _ else _) = none
    rw [if_pos (.inl (by rw [e]; rfl))]
  have hain : (hidT s.heap Hh).get? a = some oe := by
    refine hidT_get hp.1 ?_
    show (if _ then _ else _) = none
    rw [if_pos (.inr rfl)]
  have hof : ∀ b o, (hidT s.heap Hh).get? b = some o → s.heap.get? b = some o ∧ ((X.base.get? b).isSome = true ∨ b = a) := fun b o e => by
    obtain ⟨h1, h2⟩ := of_hidT e
    refine ⟨h1, ?_⟩
    by_cases q : (X.base.get? b).isSome = true ∨ b = a
    · exact q
    · have h2' : (if (X.base.get? b).isSome = true ∨ b = a then none else some (HO.tbl #[])) = none := h2
      rw [if_neg q] at h2'
      cases h2'
  refine ⟨hidT s.heap Hh, ⟨e0.frames, ⟨fun b o e => hin b o (e0.mod.kin b o e), e0.mod.glob.keeps hin, ?_, e0.mod.nolimit.keeps hin⟩, fun b o e => ?_, Nat.le_of_eq (hidT_size _ _), ?_, e0.frf, e0.hok, e0.bare⟩, hain⟩
  · obtain ⟨mb, h1, h2⟩ := e0.mod.blt
    exact ⟨mb, h1.keeps hin, h2⟩
  · obtain ⟨h1, h2⟩ := hof b o e
    refine ⟨h1, ?_⟩
    rcases h2 with h2 | rfl
    · obtain ⟨o', ho'⟩ := Option.isSome_iff_exists.mp h2
      exact (e0.bs b o' ho').2
    · exact hp.2.1
  · refine frames_of e0.funs fun b hb => ?_
    cases e : (hidT s.heap Hh).get? b with
    | none => rfl
    | some o =>
      obtain ⟨h1, h2⟩ := hof b o e
      rcases h2 with h2 | rfl
      · have := (e0.funs.mem hb).1
        rw [this] at h2
        cases h2
      · rw [hst] at hb
        have hb' : b = X.env.locals ∨ b ∈ frs X.outer := by
          unfold frs at hb
          rw [List.filterMap_cons, hfr] at hb
          exact List.mem_cons.mp hb
        rcases hb' with z | z
        · exact absurd z hp.2.2.1
        · exact absurd z hp.2.2.2
/-- a def that may be called while an error is handled; the error is pinned -/
structure FnE (P : Program) (w : World) (K : PySem.W.Frag) (mg : Str → Option Value) (base : Heap) (k : Nat) (f : Addr) (fd : FuncData) (ps : List Str) (sp : Sp) : Prop where
  len : ∀ vs H Q E, sp vs H Q E → vs.length = ps.length
  run : ∀ (A : Around) (outer : List Env) (s : Shared) (H : Hp) (args : Args) (us : List Value) (vs : List V) (Q : VK) (E : XK) (p : Addr × Obj), L2H.RoomH k A → L2H.PinOk outer H s p → Env0 P w K mg base A outer s H → BindsTo s fd args (ps.zip us) → Vals vs us → sp vs H Q E →
    codeAny (model P w) A (.call (.ref f) args) (CR CX0 outer P w H s Q E) s
theorem fn_ofE {P : Program} {w : World} {K : PySem.W.Frag} {mg : Str → Option Value} {base : Heap} {k : Nat} {f : Addr} {name qual : Str} {params : Arguments} {body : List Stmt} {scope : Scope} {dV kV doc pm cdv ct oc : Value} {an od : Option Addr}
    {osl : Array (Option Value)} {N ps : List Str} {sp : Sp} (lk : K.lookup f = some ⟨oc, od, .func (PySem.W.fnOf name qual params body scope dV kV doc pm an cdv ct), osl⟩) (hcd : PySem.W.codeIn K cdv qual = true) (S : FnScope N ps scope)
    (len : ∀ vs H Q E, sp vs H Q E → vs.length = ps.length)
    (hb : ∀ (A : Around) (outer : List Env) (s : Shared) (H : Hp) (vs : List V) (Q : VK) (E : XK) (p : Addr × Obj), sp vs H Q E →
      ∃ t, PSs (L2H.cxH CX0 P w K mg base N qual scope f cdv A outer s H E p) body t ∧ t { nx := fun _ H' => Q .non H', rt := Q } (L2.start N vs) H) :
    FnE P w K mg base (k + 1) f (PySem.W.fnOf name qual params body scope dV kV doc pm an cdv ct) ps sp := by
  refine ⟨len, fun A outer s H args us vs Q E p room pin env bind vals want => ?_⟩
  have n := len _ _ _ _ want
  have inK : K.In s.heap := env.mod.kin.keeps fun b o e => (env.bs b o e).1
  have noLim : s.heap.NoLimit := env.mod.nolimit.keeps fun b o e => (env.bs b o e).1
  refine codeAny_call_function room.depth (inK _ _ lk) rfl S.co S.gen rfl (PySem.W.codeRec_of inK hcd) (bind _ _ _ _ ?_)
  refine wpAny_newFunctionEnv_cells S.kind (fun y hy => ?_) fun e1 he s1 x => ?_
  · rcases S.par y.1 (List.of_mem_zip hy).1 with z | z
    · exact .inl z
    · exact .inr ⟨z, PySem.W.cellsFrom_some _ _ _ (.inl z)⟩
  cases he
  refine ⟨noLim.keeps x.toInCall.keep, codeAny_func ?_⟩
  obtain ⟨t, ht, q⟩ := hb A outer s H vs Q E p want
  refine wpAny_mono (ht.run [] s1 _ H _ (L2H.inv_startH S pin env n vals x) q) (fun fl s2 done => ?_) fun _ _ z => z
  cases fl with
  | ret u =>
    obtain ⟨v, _, H2, J, rv, q2⟩ := done
    exact ⟨v, H2, J.os, J.bare, J.base, J.hok, rv, q2⟩
  | next =>
    obtain ⟨_, H2, J, q2⟩ := done
    exact ⟨V.non, H2, J.os, J.bare, J.base, J.hok, rfl, q2⟩
  | brk => exact done.elim fun _ z => z.elim fun _ z => z.2.elim
  | cont => exact done.elim fun _ z => z.elim fun _ z => z.2.elim
structure CalE (P : Program) (w : World) (K : PySem.W.Frag) (mg : Str → Option Value) (base : Heap) (k : Nat) (x : Str) (ps : List Str) (sp : Sp) : Prop where
  ex : ∃ f fd, FnE P w K mg base k f fd ps sp ∧ mg x = some (.ref f) ∧ PySem.W.keepIn K (.ref f) = true ∧ Binds K fd ps []
theorem roomE {X : Cx} {j : Nat} {a : Addr} {pn : List (Addr × Obj)} (h : Room j X.A) : L2H.RoomH j (X.suite a pn).A := ⟨h.dp, h.un⟩
/-- f(e), e the caught error -/
def tErr (sp : Heap → Sp) (a : Addr) (oe : Obj) : TE := fun _ H Q => ∀ base' : Heap, base'.get? a = some oe → sp base' [.ref a] H Q E0
theorem pe_err {X : Cx} {a : Addr} {oe : Obj} {pn : List (Addr × Obj)} {k j i : Nat} {x : Str} {sp : Heap → Sp} {pm : List Str} {e : Expr} {p pos : Pos} (C : ∀ base' : Heap, CalE X.prog X.w X.K X.mg base' k x pm (sp base')) (hr : Room j X.A)
    (hst : X.stack = X.env :: X.outer) (hfr : X.env.frame = some X.env.locals) (hg : Gl X x) (hn : PE (X.suite a ((a, oe) :: pn)) e (tVar i)) (hk : k ≤ j := by decide)
    (hdb : (x == ("__debug__" : Str)) = false := by decide) (he : starEach (e :: []) X.env = (false, eval e X.env) :: starEach [] X.env := by rfl) (hpl : (backTo pos (starEach [] X.env)).any (·.1) = false := by rfl) :
    PE (X.suite a ((a, oe) :: pn)) (.Call (.Name x p) [e] [] pos) (fun σ H Q => σ[i]? = some (some (.ref a)) ∧ tErr sp a oe σ H Q) := by
  obtain ⟨f, fd, _, m, kp, _⟩ := (C X.base).ex
  refine ⟨fun pins s σ H Q I ⟨hσ, q0⟩ => wpAny_Call_Name_kw (ld_glob I hg m ?_ hdb)⟩
  refine PySem.W.callWith_K (h₀ := X.base) I.ok.mod.kin kp (thn ((pa_cons hn pa_nil he).run pos pins s σ H (fun vs H1 => vs = [.ref a] ∧ H1 = H) I ⟨_, hσ, rfl, rfl⟩) fun us s1 hh => ?_) he hpl
  obtain ⟨vs, H1, I1, r, ev, eH⟩ := hh
  subst ev eH
  refine ⟨I1.kIn, ?_⟩
  obtain ⟨h1, h2, h3, h4, h5⟩ := I1.pin (a, oe) (List.mem_append_left _ List.mem_cons_self)
  have hpin : L2H.PinOk X.stack H1 s1 (a, oe) := ⟨h1, h2, fun hm => (List.mem_cons.mp (I1.stkSub a hm)).elim h3 h4, h5⟩
  obtain ⟨base', E1, hb⟩ := widenE I1 hst hfr ⟨h1, h2, h3, h4⟩
  obtain ⟨f2, fd2, G, m2, kp2, b2⟩ := (C base').ex
  have ef : f2 = f := by
    rw [m] at m2
    injection m2 with z
    injection z with z'
    exact z'.symm
  subst ef
  have q' := q0 base' hb
  have hl : (us ++ []).length = pm.length := by rw [List.append_nil, ← r.length]; exact G.len _ _ _ _ q'
  have bb : BindsTo s1 fd2 ⟨us, []⟩ (pm.zip us) := by
    have := b2 s1 us I1.kIn hl
    rwa [List.append_nil] at this
  refine wpAny_call (codeAny_mono (G.run _ X.stack s1 H1 ⟨us, []⟩ us _ Q E0 (a, oe) ((roomE hr).mono hk) hpin E1 bb r q') fun rr s' hq => ?_)
  cases rr with
  | error er => exact False.elim hq
  | ok fl =>
    cases fl with
    | ret u => exact I1.after hq
    | next => exact False.elim hq
    | brk => exact False.elim hq
    | cont => exact False.elim hq
/-! ### what is asked of an error that the base holds -/
theorem call_isXb {X : Cx} {a : Addr} {cls : Value} {d : Option Addr} {oe : Obj} (hb : X.base.get? a = some oe) (hz : Zc cls d oe) (hf : ∃ vs, oe.data = .fields vs) : CallR X (.builtin "isinstance") (rIsX X.K a cls d) := by
  intro pins s σ H xs us Q I r h
  obtain ⟨C, dd, fs, c, b, rfl, T, rfl, hdd, alt, q⟩ := h
  obtain ⟨ha, _⟩ := I.bs a oe hb
  obtain ⟨vs, hd⟩ := hf
  have hx : ObjOk X.prog X.w H s.heap dd (.xd fs) := I.hok dd _ hdd
  obtain ⟨mA, hns, hr⟩ := hx
  obtain ⟨od, ho, hl⟩ := lookIn_ns hns
  have J : PySem.W.InstAt s.heap a oe C (some od) := ⟨ha, hz.1, by unfold PySem.W.notCls; rw [hd] <;> rfl, by rw [hz.2]; exact ho⟩
  have Z := PySem.W.kitx_exc (x := a) (ox := oe) (od := some od) T.cl T.ga T.gg T.su T.ha T.hn T.ht T.hm
  rcases alt with ⟨u, rfl, kc, e⟩ | ⟨tp, cs, ws, rfl, hT, kc, e⟩
  · obtain ⟨u1, u2, rfl, r1, r2⟩ := vals2 r
    cases (show u1 = Value.ref a from r1)
    have e2 := kc.eq r2
    subst e2
    exact PySem.W.kia_one Z I.kIn J e (fun z => nomatch z) fun tk => ⟨.bl b, H, I.tok tk, rfl, q⟩
  · obtain ⟨u1, u2, rfl, r1, r2⟩ := vals2 r
    cases (show u1 = Value.ref a from r1)
    cases (show u2 = Value.ref tp from r2)
    obtain ⟨_, its, rv, o, h1, h2, n, h3⟩ := (show ObjOk X.prog X.w H s.heap tp (.tup cs) from I.hok tp _ hT)
    have e3 := ClsV.all kc rv
    subst e3
    obtain ⟨oc, odd, dt, sl⟩ := o
    simp only at h2 h3
    subst h2 h3
    exact PySem.W.kia_tup Z I.kIn J h1 e (fun z => nomatch z) fun tk => ⟨.bl b, H, I.tok tk, rfl, q⟩
end Wf
namespace L2
open PySem PySem.Spec PyProof.Rows
/-- a field of an error that the base holds -/
theorem pe_xfb {X : Cx} {a C : Addr} {oe : Obj} {cls : Value} {d : Option Addr} {e : Expr} {te : TE} {pos : Pos} {n : Str} (hbs : X.base.get? a = some oe) (T : XfC X.K C) (hno : PySem.W.findIn X.K (.ref C) n = some none)
    (hz : Zc cls d oe) (hf : ∃ vs, oe.data = .fields vs) (he : PE X e te) (hb : attributeBase e n X.env (eval e X.env) = eval e X.env := by rfl) : PE X (.Attribute e n pos) (tXf a cls d C n te) := by
  refine ⟨fun pins s σ H Q I h => attr_of hb (thn (he.run pins s σ H _ I h) fun u s1 hh => ?_)⟩
  obtain ⟨x, H1, I1, rx, rfl, rfl, dd, fs, v, rfl, ea, l, q⟩ := hh
  obtain rfl : u = Value.ref a := rx
  obtain ⟨vs, hd⟩ := hf
  obtain ⟨mA, hns, hr⟩ := (show ObjOk X.prog X.w H1 s1.heap dd (.xd fs) from I1.hok dd _ ea)
  obtain ⟨od, ho, hl⟩ := lookIn_ns hns
  obtain ⟨u, hu, ru⟩ := RelO.some_of (v := v) (o := mA n) (by rw [← l]; exact hr n)
  have J : PySem.W.InstAt s1.heap a oe C (some od) := ⟨(I1.bs a oe hbs).1, hz.1, by unfold PySem.W.notCls; rw [hd] <;> rfl, by rw [hz.2]; exact ho⟩
  exact HandSPX.exc_get I1.kIn J T.ga T.gg T.exC (PySem.W.findObj_own T.hdC hno rfl (by rw [hl, hu])) (handed_of ru) ⟨v, H1, I1.tok _, ru, q⟩
end L2
namespace Pv
open PySem PySem.Spec L2 Wf
variable {B : Bas}
section
variable {X : Cx} {a : Addr} {oe : Obj} {cls : Value} {d : Option Addr} {p pos pt : Pos}
theorem je_isXb {i : Nat} {n x2 : Str} {u2 : V} {w2 : Value} {sb : Addr → Option Bool} {pn2 : Pos} (hbs : X.base.get? a = some oe) (hz : Zc cls d oe) (hf : ∃ vs, oe.data = .fields vs) (hsb : ∀ C b, sb C = some b → IsC X.K C ∧ PySem.W.kitOne X.K (.ref C) w2 = some b) (hcv : ClsV u2 w2) (hg : Gl X "isinstance") (hm : X.mg "isinstance" = none)
    (hn : PE X (.Name n pn2) (tVar i)) (ht : PE X (.Name x2 pt) (tC u2)) (he : starEach [.Name n pn2, .Name x2 pt] X.env = (false, eval (.Name n pn2) X.env) :: starEach [.Name x2 pt] X.env := by rfl) (he2 : starEach [.Name x2 pt] X.env = (false, eval (.Name x2 pt) X.env) :: starEach [] X.env := by rfl) (hpl : (backTo pos (starEach [.Name x2 pt] X.env)).any (·.1) = false := by rfl) :
    JE X B (.Call (.Name "isinstance" p) [.Name n pn2, .Name x2 pt] [] pos) (pIsX sb a cls d i) := by
  refine PE_wk (pe_callB (call_isXb hbs hz hf) hg hm (by decide +kernel) (pa_cons hn (pa_cons ht pa_nil he2) he) (by decide) (by decide) he hpl) fun σ H Q ⟨G, w, δ, Qp, rep, q, k⟩ => ?_
  obtain ⟨dd, C, fs, b, h1, h2, h3, h4, q⟩ := q
  obtain ⟨e1, us, e2, e3⟩ := rep_ex rep h1
  obtain ⟨f1, f2⟩ := hsb C b h4
  exact ⟨_, e1, C, dd, us, u2, b, h2, f1, h3, e2, .inl ⟨_, rfl, hcv, f2⟩, k _ δ _ H G _ q .drop (rep.ret (.bl b))⟩
theorem je_isXTb {i : Nat} {n : Str} {Cs : List Addr} {tp : Expr} {sb : Addr → Option Bool} {pn2 : Pos} (hbs : X.base.get? a = some oe) (hz : Zc cls d oe) (hf : ∃ vs, oe.data = .fields vs) (hsb : ∀ C b, sb C = some b → IsC X.K C ∧ PySem.W.kitAny X.K (.ref C) (Cs.map .ref) = some b) (hcv : ∀ C ∈ Cs, ClsV (.ref C) (.ref C)) (hg : Gl X "isinstance") (hm : X.mg "isinstance" = none)
    (hn : PE X (.Name n pn2) (tVar i)) (ht : PE X tp (tTup (fun _ H Q => Q (Cs.map V.ref) H))) (hzz : Cs.length ≤ sizeLine) (he : starEach [.Name n pn2, tp] X.env = (false, eval (.Name n pn2) X.env) :: starEach [tp] X.env := by rfl) (he2 : starEach [tp] X.env = (false, eval tp X.env) :: starEach [] X.env := by rfl) (hpl : (backTo pos (starEach [tp] X.env)).any (·.1) = false := by rfl) :
    JE X B (.Call (.Name "isinstance" p) [.Name n pn2, tp] [] pos) (pIsX sb a cls d i) := by
  refine PE_wk (pe_callB (call_isXb hbs hz hf) hg hm (by decide +kernel) (pa_cons hn (pa_cons ht pa_nil he2) he) (by decide) (by decide) he hpl) fun σ H Q ⟨G, w, δ, Qp, rep, q, k⟩ => ?_
  obtain ⟨dd, C, fs, b, h1, h2, h3, h4, q⟩ := q
  obtain ⟨e1, us, e2, e3⟩ := rep_ex rep h1
  obtain ⟨f1, f2⟩ := hsb C b h4
  refine ⟨_, e1, by rw [List.length_map]; exact hzz, fun t ht' => ?_⟩
  obtain ⟨s2, r2⟩ := rep.lay (o := .tup (Cs.map V.ref)) ht'
  have pr : ∀ Cs : List Addr, (∀ C ∈ Cs, ClsV (.ref C) (.ref C)) → Paired ClsV (Cs.map V.ref) (Cs.map Value.ref) := fun Cs => by
    induction Cs with
    | nil => intro _; exact .nil
    | cons C Cs ih => intro h; exact .cons (h C List.mem_cons_self) (ih fun C' h' => h C' (List.mem_cons_of_mem _ h'))
  exact ⟨C, dd, us, .ref t, b, h2, f1, h3, by rw [upd_ne (ne_of_none e2 ht')]; exact e2, .inr ⟨t, Cs.map V.ref, Cs.map Value.ref, rfl, upd_same, pr Cs hcv, f2⟩, k _ δ _ _ _ _ q (s2.trans .drop) (r2.ret (.bl b))⟩
theorem je_xfb {i : Nat} {n f : Str} {C : Addr} {pn2 : Pos} (hbs : X.base.get? a = some oe) (T : XfC X.K C) (hno : PySem.W.findIn X.K (.ref C) f = some none) (hz : Zc cls d oe) (hf : ∃ vs, oe.data = .fields vs) (hn : PE X (.Name n pn2) (tVar i)) (hb : attributeBase (.Name n pn2) f X.env (eval (.Name n pn2) X.env) = eval (.Name n pn2) X.env := by rfl) :
    JE X B (.Attribute (.Name n pn2) f pos) (pXf C a cls d i f) := by
  refine PE_wk (pe_xfb hbs T hno hz hf hn hb) fun σ H Q ⟨G, w, δ, Qp, rep, q, k⟩ => ?_
  obtain ⟨dd, fs, v, h1, h2, h3, h4, q⟩ := q
  obtain ⟨e1, us, e2, e3⟩ := rep_ex rep h1
  obtain ⟨u, f1, f2⟩ := fl_lookup e3 h4
  exact ⟨_, e1, rfl, h2, dd, us, u, h3, e2, f1, k _ δ _ H G _ q .drop (rep.ret f2)⟩
end
/-! ### the def that is handed the caught error, and its call -/
/-- told by the base that holds the error: its answer is data -/
def ESp (K : PySem.W.Frag) (T : List NdefX.NTab) (ans : Addr → List (Str × PyData) → PyData → Prop) : Heap → Sp := fun base vs H Q _ => ∃ a oe C dd fs G d, vs = [.ref a] ∧ base.get? a = some oe ∧ Zc (.ref C) (some dd) oe ∧ (∃ vs, oe.data = .fields vs) ∧
  Rep K (B0 T H fun _ => none) G H [some (.ref a)] [.ex a dd C fs] [] [] (fun _ => none) ∧ ans C fs d ∧
  ∀ v H' G' w', Stp T G H (fun _ => none) [.un] G' H' w' [.un] → Rep K (B0 T H fun _ => none) G' H' [some (.ref a)] [.un] [v] [.im d] w' → Q v H'
theorem err_body {T : List NdefX.NTab} {P : Program} {w : World} {K : PySem.W.Frag} {mg : Str → Option Value} {base : Heap} {k : Nat} {f : Addr} {fd : FuncData} {x qual y : Str} {params : Arguments} {body : List Stmt} {scope : Scope} {dvs : List V} {kws : List (Str × V)} {ans : Addr → List (Str × PyData) → PyData → Prop} {pr : Addr → Value → Option Addr → PSx}
    (F : FunD K x qual params body scope dvs kws f fd) (S : FnScope [y] [y] scope)
    (hb : ∀ (cdv : Value) (A : Around) (outer : List Env) (s : Shared) (H : Hp) (E : XK) (Bh Bt : Hp) (a : Addr) (oe : Obj) (cls : Value) (d : Option Addr) (pp : Addr × Obj), base.get? a = some oe → Zc cls d oe → (∃ vs, oe.data = .fields vs) → JSs (L2H.cxH CX0 P w K mg base [y] qual scope f cdv A outer s H E pp) ⟨Bh, Bt, T⟩ body (pr a cls d))
    (hp : ∀ a dd C fs d, ans C fs d → pr a (.ref C) (some dd) { nx := fun _ => False, rt := fun r _ => r = .im d } [.ex a dd C fs]) : FnE P w K mg base (k + 1) f fd [y] (ESp K T ans base) := by
  obtain ⟨oc, od, dV, kV, doc, pm, an, cdv, ct, osl, rfl, lk, hcd, _, _⟩ := F.ex
  refine fn_ofE lk hcd S (fun vs H Q E ⟨a, _, _, _, _, _, _, e, _⟩ => by rw [e]; rfl) fun A outer s H vs Q E pp h => ?_
  obtain ⟨a, oe, C, dd, fs, G, d, rfl, h1, h2, h3, rep, ha, kk⟩ := h
  refine ⟨_, hb cdv A outer s H E (B0h H fun _ => none) H a oe (.ref C) (some dd) pp h1 h2 h3, G, fun _ => none, [.ex a dd C fs], _, rep, hp a dd C fs d ha, ⟨fun _ _ _ _ _ z => z.elim, fun r δ' v σ' H' G' w' e hat st rp pn => ?_, fun _ _ _ _ _ z => z.elim, fun _ _ _ _ _ z => z.elim⟩⟩
  subst e
  exact kk v H' G' w' ⟨st.g, st.b, st.n, st.p, fun i o z => by
    match i with
    | 0 => cases z
    | i + 1 => simp at z, st.t, st.q⟩ ⟨rp.sub, rp.out, rfl, fun i s hs => by
    match i with
    | 0 => cases hs; trivial
    | i + 1 => simp at hs, rfl, fun j u q hu hq => by
    match j with
    | 0 =>
      simp only [List.getElem?_cons_zero, Option.some.injEq] at hu hq
      subst hu hq
      exact rp.tm 0 v _ rfl rfl
    | j + 1 => simp at hu, rp.bs⟩
theorem Rep.after {K : PySem.W.Frag} {G H G' H' : Hp} {σ : St} {δ δ0 δ1 : List Sl} {w w' : Addr → Option Nat} (r : Rep K B G H σ δ [] [] w) (st : Stp B.T G H (fun _ => none) δ0 G' H' w' δ1) (sub : Same G' H') (gt : ∀ a ps, G' a ≠ some (.tbl ps)) : Stp B.T G H w δ G' H' w δ ∧ Rep K B G' H' σ δ [] [] w := by
  have keep : ∀ a o, H a = some o → H' a = some o ∨ ∃ ps qs, o = .tbl ps ∧ H' a = some (.tbl qs) := fun a o h => st.b a o rfl h
  have keepN : ∀ a o, NT o → H a = some o → H' a = some o := fun a o n h => by
    rcases keep a o h with z | ⟨ps, _, z, _⟩
    · exact z
    · exact absurd z (n ps)
  have inG : ∀ a o, G' a = some o → G a = some o ∨ H a = none ∨ ∃ xs, RdX H a xs := fun a o h => by
    rcases st.p a o h with z | z | z | z
    · exact .inl z
    · exact .inr (.inl z)
    · exact absurd rfl z
    · exact .inr (.inr z)
  have s2 : Stp B.T G H w δ G' H' w δ := ⟨st.g, fun a o _ h => keep a o h, fun a i h => .inl (by rw [h]; exact Option.some_ne_none _), fun a o h => by
    rcases inG a o h with z | z | z
    · exact .inl z
    · exact .inr (.inl z)
    · exact .inr (.inr (.inr z)), .refl _, st.t, st.q⟩
  refine ⟨s2, sub, fun a i h => ?_, r.len, fun i s hs => (r.sl i s hs).monoN st.g (fun a u n _ hu => keepN a u n hu) fun a u ma _ => ma, rfl, fun j v q hv => by simp at hv, ⟨fun a o hb => ?_, r.bs.tt.trans st.t, r.bs.ta, gt⟩⟩
  · obtain ⟨g, hn, nx⟩ := r.out a i h
    refine ⟨?_, ?_⟩
    · cases e : G' a with
      | none => rfl
      | some o =>
        rcases inG a o e with z | z | ⟨xs, z⟩
        · rw [g] at z; cases z
        · exact absurd z hn
        · exact absurd z (nx xs)
    · cases e : H a with
      | none => exact absurd e hn
      | some o =>
        rcases keep a o e with z | ⟨ps, qs, _, z⟩
        · exact ⟨by rw [z]; exact Option.some_ne_none _, nx.same e z⟩
        · exact ⟨by rw [z]; exact Option.some_ne_none _, NoX.tbl z⟩
  · obtain ⟨h1, h2, h3⟩ := r.bs.to a o hb
    exact ⟨keepN a o h3 h1, h2, h3⟩
/-- f(e), e the caught error -/
def pErr (ans : Addr → List (Str × PyData) → PyData → Prop) (a : Addr) (cls : Value) (d : Option Addr) (i : Nat) : PX := fun δ Q => ∃ dd C fs x, δ[i]? = some (.ex a dd C fs) ∧ cls = .ref C ∧ d = some dd ∧ ans C fs x ∧ Q (.im x) δ
theorem je_err {X : Cx} {a : Addr} {oe : Obj} {cls : Value} {d : Option Addr} {pn : List (Addr × Obj)} {k j i : Nat} {x : Str} {pm : List Str} {e : Expr} {p pos : Pos} {ans : Addr → List (Str × PyData) → PyData → Prop} (C : ∀ base' : Heap, CalE X.prog X.w X.K X.mg base' k x pm (ESp X.K B.T ans base')) (hr : Room j X.A)
    (hst : X.stack = X.env :: X.outer) (hfr : X.env.frame = some X.env.locals) (hz : Zc cls d oe) (hf : ∃ vs, oe.data = .fields vs) (hg : Gl X x) (hn : PE (X.suite a ((a, oe) :: pn)) e (tVar i)) (hk : k ≤ j := by decide)
    (hdb : (x == ("__debug__" : Str)) = false := by decide) (he : starEach (e :: []) X.env = (false, eval e X.env) :: starEach [] X.env := by rfl) (hpl : (backTo pos (starEach [] X.env)).any (·.1) = false := by rfl) :
    JE (X.suite a ((a, oe) :: pn)) B (.Call (.Name x p) [e] [] pos) (pErr ans a cls d i) := by
  refine PE_wk (pe_err C hr hst hfr hg hn hk hdb he hpl) fun σ H Q ⟨G, w, δ, Qp, rep, q0, k⟩ => ?_
  obtain ⟨dd, C', fs, y, h1, ec, ed, ha, q⟩ := q0
  subst ec ed
  obtain ⟨e1, us, e2, e3⟩ := rep.sl i _ h1
  refine ⟨e1, fun base' hb => ⟨a, oe, C', dd, fs, G, y, rfl, hb, hz, hf, ⟨rep.sub, fun _ _ z => (nomatch z), rfl, fun j s hs => ?_, rfl, fun j v r hv => by simp at hv, ⟨fun a o h => B0_some h, .refl, rep.bs.tt.ts rep.bs.ta, rep.bs.gt⟩⟩, ha, fun v H' G' w' st rp => ?_⟩⟩
  · match j with
    | 0 => cases hs; exact ⟨rfl, us, e2, e3⟩
    | j + 1 => simp at hs
  · obtain ⟨s2, r2⟩ := rep.after st rp.sub rp.bs.gt
    exact k _ δ v H' G' _ q (s2.trans .drop) (r2.ret (rp.tm 0 v _ rfl rfl))
end Pv
/-! xs[a:b] = ys, two lists of one's own, a at most the length, b wherever. -/
namespace L2
open PySem PySem.Spec PyProof.Rows
section
variable {prog : Program} {w : World} {A : Around} {E : Value → Shared → Prop} {s : Shared}
theorem bounds_cut {a c n : Nat} (hac : a ≤ c) (ha : a ≤ n) : sliceBounds (some (a : Int)) (some (c : Int)) none n = ((a : Int), ((min c n : Nat) : Int), 1) := by
  have h1 : ¬ ((a : Int) < 0) := by omega
  have h2 : ¬ ((c : Int) < 0) := by omega
  simp only [sliceBounds, Option.getD_none, h1, h2, if_false, show (1 : Int) > 0 by decide, if_true]
  congr 1
  · omega
  · congr 1; omega
theorem setItem_cut {l b sl : Addr} {items new : Array Value} {n n2 : Nat} {vl vu : Value} {a c : Nat} {Q : Unit → Shared → Prop}
    (e : s.heap.get? l = some { cls := .type "list", data := .seq items n }) (e2 : s.heap.get? b = some { cls := .type "list", data := .seq new n2 }) (hne : l ≠ b)
    (hs : s.heap.IsSliceOf sl vl vu .none) (pl : IsPart vl (some (a : Int))) (pu : IsPart vu (some (c : Int))) (hac : a ≤ c) (ha : a ≤ items.size)
    (hsz : items.size + new.size ≤ sizeLine) (h : Q () { s with heap := s.heap.update l (Obj.mapSeq fun xs => xs.extract 0 a ++ new ++ xs.extract (min c items.size) xs.size) }) :
    wpAny (model prog w) A (setItem (.ref l) (.ref sl) (.ref b)) Q E s := by
  have hl : s.heap.IsList l items := PySem.IsL.isList e
  have hb : s.heap.IsList b new := PySem.IsL.isList e2
  obtain ⟨os, hos, hcs, hds⟩ := id hs
  have hTs : s.TypeIs (.ref sl) "slice" := ⟨os, hos, hcs⟩
  have hsame : Builtin.List.listSameRef (.ref l) (.ref b) = false := beq_eq_false_iff_ne.mpr hne
  have hmax : (max (a : Int) ((min c items.size : Nat) : Int)).toNat = min c items.size := by omega
  unfold setItem
  try with_reducible refine wpAny_holding ?_
  first | refine wpAny_bind (wpAny_pure ?_) | skip
  refine wpAny_bind (wpAny_sequenceKey hl.typeIs (by decide) ?_)
  refine wpAny_bind (wpAny_callSpecial?_slot (name := Str.ofString "__setitem__") hl.typeIs slot_list_setitem (wpAny_call_entry slot_list_setitem hl.typeIs entry_list_setitem ?_ (args_list_setitem _ _ _)))
  show wpAny _ _ (Builtin.List.listSubscript? (.ref sl) >>= _) _ _ s
  unfold Builtin.List.listSubscript?
  refine wpAny_bind (wpAny_bind (wpAny_specialOf hTs slice_no_index ?_))
  simp only [Option.isNone_none, if_true]
  refine wpAny_pure ?_
  show wpAny _ _ (typeOf (.ref sl) >>= _) _ _ s
  refine wpAny_bind (wpAny_typeOf hTs ?_)
  first
    | rw [if_neg (by decide)]
    | refine PySem.W.KFB.if_not (by decide) ?_
  rw [listSliceParts_eq]
  refine wpAny_bind (wpAny_bind (wpAny_field hos hds (x := .none) rfl (wpAny_bind (wpAny_listPart .none ?_))))
  rw [if_neg (show ¬ ((rawPart none == rawInt 0) = true) from Bool.false_ne_true)]
  refine wpAny_bind (wpAny_field hos hds (x := vl) rfl (wpAny_bind (wpAny_listPart pl ?_)))
  refine wpAny_bind (wpAny_field hos hds (x := vu) rfl (wpAny_bind (wpAny_listPart pu (wpAny_pure ?_))))
  first
    | simp only [hsame, Bool.false_eq_true, if_false]
    | refine PySem.W.KFB.if_not hsame ?_
    | (dsimp only
       rw [if_neg (by rw [hsame]; exact Bool.false_ne_true)])
  refine wpAny_bind (m := Builtin.List.listAllItems (.ref b) "must assign iterable to extended slice") ?_
  unfold Builtin.List.listAllItems
  refine wpAny_bind (wpAny_typeOf hb.typeIs ?_)
  first
    | refine PySem.W.KFB.if_so (by decide) ?_
    | rw [if_pos (by decide)]
    | simp only [beq_self_eq_true, Bool.true_or, if_true]
  unfold Builtin.List.listItems
  refine wpAny_bind (wpAny_seqItems e2 rfl (wpAny_pure (wpAny_bind (wpAny_bind (wpAny_seqItems e rfl (wpAny_pure ?_))))))
  refine wpAny_bind (wpAny_of_eq ((sliceIndices_raw (some (a : Int)) (some (c : Int)) none items.size (by simp)).trans (congrArg (pure : Int × Int × Int → Sem (Int × Int × Int)) (bounds_cut hac ha))) ?_)
  show wpAny _ _ (if ((1 : Int) == 1) = true then _ else _) _ _ s
  rw [if_pos (by decide)]
  refine wpAny_bind (wpAny_rule ?_)
  first
    | simp only [notLongL hsz, Bool.false_eq_true, if_false]
    | refine PySem.W.KFB.if_not (notLongL hsz) ?_
  first | refine wpAny_bind (wpAny_pure ?_) | skip
  show wpAny _ _ (updateSeq l (fun xs => xs.extract 0 ((a : Int)).toNat ++ new ++ xs.extract (max (a : Int) ((min c items.size : Nat) : Int)).toNat xs.size) >>= _) _ _ s
  rw [hmax, Int.toNat_natCast]
  refine wpAny_bind (wpAny_updateSeq (hz := Nat.le_trans (Nat.le_add_right _ _) hsz) (_hz' := by simp only [Array.size_append, Array.size_extract]; omega) e rfl ?_)
  refine wpAny_bind (wpAny_letGo ?_)
  first
    | exact wpAny_bind (wpAny_pure (wpAny_pure ⟨.none, rfl, wpAny_pure h⟩))
    | exact wpAny_pure ⟨.none, rfl, wpAny_pure h⟩
end
section
variable {X : Cx}
theorem set_cut {pins : List (Addr × Obj)} {s : Shared} {σ : St} {H : Hp} {l b sl : Addr} {xs ys : List V} {a c : Nat} {vl vu : Value} {Q : Unit → Shared → Prop} (I : Inv X pins σ H s)
    (hH : H l = some (.lst xs)) (hB : H b = some (.lst ys)) (hne : l ≠ b) (hs : s.heap.IsSliceOf sl vl vu .none) (ra : IsPart vl (some (a : Int))) (rc : IsPart vu (some (c : Int))) (hac : a ≤ c) (ha : a ≤ xs.length)
    (hz : xs.length + ys.length ≤ sizeLine) (h : ∀ s', Inv X pins σ (upd H l (.lst (xs.take a ++ ys ++ xs.drop c))) s' → Q () s') :
    wpAny (model X.prog X.w) X.A (setItem (.ref l) (.ref sl) (.ref b)) Q X.xe s := by
  obtain ⟨z, its, n, r, hl, e⟩ := I.lstM hH
  obtain ⟨z2, its2, n2, r2, hl2, e2⟩ := I.lstM hB
  have ed : xs.drop c = xs.drop (min c its.toArray.size) := by
    rw [List.size_toArray, ← hl]
    by_cases hc : c ≤ xs.length
    · rw [Nat.min_eq_left hc]
    · rw [Nat.min_eq_right (by omega), List.drop_eq_nil_of_le (by omega), List.drop_eq_nil_of_le (Nat.le_refl _)]
  refine setItem_cut (a := a) (c := c) e e2 hne hs ra rc hac (by rw [List.size_toArray]; omega) (by rw [List.size_toArray, List.size_toArray]; omega) (h _ ?_)
  rw [ed]
  refine I.lset (its' := its.take a ++ its2 ++ its.drop (min c its.toArray.size)) (t' := s.toks) hH e ?_ (Vals.append (Vals.append (r.take _) r2) (r.drop _)) ?_
  · exact splice_eq its its2 a (min c its.toArray.size)
  · have h1 : its.toArray.size = xs.length := by rw [List.size_toArray]; exact hl.symm
    rw [List.length_append, List.length_append, List.length_take, List.length_drop, h1]
    omega
end
end L2
namespace L2
open PySem PySem.Spec PyProof.Rows
section
variable {X : Cx} {o : Expr} {lo hi : Option Expr} {to : TE} {tl th : TO} {p2 pos : Pos}
/-- o[lo:hi] = .. -/
def gSl (to : TE) (tl th : TO) : TG := fun v σ H Q => to σ H fun x H1 => tl σ H1 fun l H2 => th σ H2 fun u H3 => ∃ (p b : Addr) (xs ys : List V) (a c : Nat), x = .ref p ∧ v = .ref b ∧ l = some (a : Int) ∧ u = some (c : Int) ∧ H3 p = some (.lst xs) ∧ H3 b = some (.lst ys) ∧ p ≠ b ∧ a ≤ c ∧ a ≤ xs.length ∧ xs.length + ys.length ≤ sizeLine ∧
  Q σ (upd H3 p (.lst (xs.take a ++ ys ++ xs.drop c)))
theorem pg_sl (ho : PE X o to) (hl : PO X lo tl) (hu : PO X hi th)
    (ha : ∀ v, assign (.Subscript o (.Slice lo hi none p2) pos) X.env v = (do
      let ov ← holding [v] (eval o X.env)
      let iv ← holding [v, ov] (eval (.Slice lo hi none p2) X.env)
      standAt pos
      holding [v, ov, iv] (setItem ov iv v)
      release [iv, v, ov] []) := by intro _; rfl) : PG X (.Subscript o (.Slice lo hi none p2) pos) (gSl to tl th) := by
  refine ⟨fun pins s σ H v u Q I r h => ?_⟩
  rw [ha]
  refine wpAny_bind (wpAny_holding (thn (ho.run pins s σ H _ I h) fun ov s1 ⟨x, H1, I1, r1, q1⟩ => ?_))
  refine wpAny_bind (wpAny_holding (wpAny_Slice (thn (hl.run pins s1 σ H1 _ I1 q1) fun vl s2 ⟨l, H2, I2, pl, q2⟩ => thn (hu.run pins s2 σ H2 _ I2 q2) fun vu s3 ⟨u', H3, I3, pu, q3⟩ => ?_)))
  rw [evalPart_none]
  refine wpAny_pure ?_
  have I4 : Inv X pins σ H3 { s3 with heap := s3.heap.push { cls := .type "slice", data := .fields #[vl, vu, .none] } } := I3.kept (t' := s3.toks) fun b ob q => Heap.get?_push_of_some _ q
  obtain ⟨p, b, xs, ys, a, c, rfl, rfl, rfl, rfl, hp, hb, ne, hac, hal, hz, q⟩ := q3
  cases (show ov = Value.ref p from r1)
  cases (show u = Value.ref b from r)
  refine wpAny_bind (wpAny_standAt (wpAny_bind (wpAny_holding (set_cut (I4) hp hb ne (Heap.IsSliceOf.new ..) pl pu hac hal hz fun s' I' => ?_))))
  exact wpAny_release ⟨σ, _, I', q⟩
end
end L2
namespace Pv
open PySem PySem.Spec L2 Wf
variable {B : Bas}
section
variable {X : Cx} {lo hi : Option Expr} {pl ph : POx} {i j : Nat} {o e : Expr} {p2 p3 pos : Pos}
/-- x[lo:hi] = y, two lists of one's own -/
def pSlAsg (i : Nat) (lo hi : POx) (j : Nat) : PSx := fun E δ => (∃ b es, δ[j]? = some (.ow b (.lst es))) ∧ (∃ b ds, δ[i]? = some (.ow b (.lst ds))) ∧ lo δ fun l δ1 => hi δ1 fun u δ2 => ∃ (a c : Nat) (b : Bool) (ds : List PyData) (b' : Bool) (es : List PyData), l = some (a : Int) ∧ u = some (c : Int) ∧ δ2[i]? = some (.ow b (.lst ds)) ∧ δ2[j]? = some (.ow b' (.lst es)) ∧ i ≠ j ∧ a ≤ c ∧ a ≤ ds.length ∧ ds.length + es.length ≤ sizeLine ∧
  E.nx (δ2.set i (.ow b (.lst (ds.take a ++ es ++ ds.drop c))))
theorem dqAll_takeI {K : PySem.W.Frag} {G : Hp} : ∀ (n : Nat) {us : List V} {ds : List PyData}, DqAll K G us ds → DqAll K G (us.take n) (ds.take n)
  | 0, _, _, _ => .nil
  | n + 1, _, _, .nil => .nil
  | n + 1, _, _, .cons h1 h2 => .cons h1 (dqAll_takeI n h2)
theorem js_slAsg (ho : PE X o (tVar i)) (he : PE X e (tVar j)) (hl : JO X B lo pl) (hu : JO X B hi ph) (hs : swapsWithSole [.Subscript o (.Slice lo hi none p2) p3] e pos.line X.env = pure false := by rfl) (hw : swappedStores [.Subscript o (.Slice lo hi none p2) p3] e X.env = pure none := by rfl)
    (h1 : (assignEach [.Subscript o (.Slice lo hi none p2) p3] X.env).map (·.2) = [assign (.Subscript o (.Slice lo hi none p2) p3) X.env] := by rfl)
    (ha : ∀ v, assign (.Subscript o (.Slice lo hi none p2) p3) X.env v = (do
      let ov ← holding [v] (eval o X.env)
      let iv ← holding [v, ov] (eval (.Slice lo hi none p2) X.env)
      standAt p3
      holding [v, ov, iv] (setItem ov iv v)
      release [iv, v, ov] []) := by intro _; rfl) : JS X B (.Assign [.Subscript o (.Slice lo hi none p2) p3] e pos) (pSlAsg i pl ph j) := by
  refine PS_wk (ps_asg he (pg_sl ho hl hu ha) hs hw h1) fun D σ H ⟨G, w, δ, E, rep, ⟨⟨b0, es0, ej⟩, ⟨b1, ds0, ei⟩, h⟩, ek⟩ => ?_
  obtain ⟨vj, hvj, aj, usj, rfl, _, _, _⟩ := rep.sl j _ ej
  obtain ⟨vi, hvi, ai, usi, rfl, _, _, _⟩ := rep.sl i _ ei
  refine ⟨_, hvj, _, hvi, G, w, δ, _, rep, h, fun l δ1 H1 G1 w1 q1 s1 r1 => ⟨G1, w1, δ1, _, r1, q1, fun u δ2 H2 G2 w2 q2 s2 r2 => ?_⟩⟩
  obtain ⟨a, c, b, ds, b', es, rfl, rfl, di, dj, ne, hac, hal, hz, q⟩ := q2
  obtain ⟨_, e1, p, xs, rfl, wp, hp, dp⟩ := r2.sl i _ di
  rw [hvi] at e1
  cases e1
  obtain ⟨_, e2, p', ys, rfl, wp', hp', dp'⟩ := r2.sl j _ dj
  rw [hvj] at e2
  cases e2
  have lx := dqAll_len dp
  have ly := dqAll_len dp'
  refine ⟨ai, aj, xs, ys, a, c, rfl, rfl, rfl, rfl, hp, hp', fun z => ?_, hac, by omega, by omega, ?_⟩
  · subst z
    rw [wp] at wp'
    have := Option.some.inj wp'
    omega
  · obtain ⟨s3, r3⟩ := r2.wr di hvi wp hp (dqAll_append (dqAll_append (dqAll_takeI a dp) dp') (dqAll_drop c dp))
    exact ek.nx _ _ _ G2 _ q ((s1.trans s2).trans s3) r3 ((Pin.refl (σ := σ)).trans (s1.trans s2).pn .refl)
end
end Pv
/-! try: a, b = f(..); y = ..; except .. as a name. -/
namespace Pv
open PySem PySem.Spec L2 Wf
end Pv
/-! Texts that are wrong: numbers, the refusal. -/
namespace Pv
open PySem PySem.Spec PyProof.Rows L2 Wf TL
open Classical in
/-- the number that a text writes -/
noncomputable def numW (w : Str) : Option Int := if h : ∃ n, Wr w n then some h.choose else none
theorem numW_some {w : Str} {n : Int} : numW w = some n ↔ Wr w n := by
  unfold numW
  constructor
  · intro h
    split at h
    · rename_i z
      cases h
      exact z.choose_spec
    · cases h
  · intro h
    rw [dif_pos ⟨n, h⟩]
    congr 1
    exact (Exists.choose_spec (⟨n, h⟩ : ∃ n, Wr w n)).one h
/-- within bounds -/
def flt (lo hi : Int) (o : Option Int) : Option Int := o.filter fun n => decide (lo ≤ n) && decide (n ≤ hi)
theorem flt_some {lo hi : Int} {o : Option Int} {n : Int} : flt lo hi o = some n ↔ o = some n ∧ lo ≤ n ∧ n ≤ hi := by
  unfold flt
  rw [Option.filter_eq_some_iff]
  simp
def optD : Option Int → PyData
  | none => .none
  | some n => .int n
theorem flt_none {lo hi : Int} {w : Str} (h : ∀ n, Wr w n → ¬ (lo ≤ n ∧ n ≤ hi)) : flt lo hi (numW w) = none := by
  cases e : flt lo hi (numW w) with
  | none => rfl
  | some n =>
    obtain ⟨a, b⟩ := flt_some.mp e
    exact absurd b (h n (numW_some.mp a))
theorem num_q {P : PyData → Prop} {w : Str} {lo hi : Int} (q : P (optD (flt lo hi (numW w)))) : (∀ n, Wr w n → lo ≤ n → n ≤ hi → P (.int n)) ∧ ((∀ n, Wr w n → ¬ (lo ≤ n ∧ n ≤ hi)) → P .none) :=
  ⟨fun n hn h1 h2 => by rw [flt_some.mpr ⟨numW_some.mpr hn, h1, h2⟩] at q; exact q, fun z => by rw [flt_none z] at q; exact q⟩
theorem lnum_q {P : PyData → Prop} {w : Str} (q : P (optD (flt 0 (10 ^ 19) (numW w)))) : (∀ n, Wr w n → 0 ≤ n → P (.int n)) ∧ ((∀ n, Wr w n → ¬ 0 ≤ n) → P .none) :=
  ⟨fun n hn h1 => (num_q q).1 n hn h1 (by have := hn.2; unfold SmlI at this; omega), fun z => (num_q q).2 fun n hn h => z n hn h.1⟩
theorem lwhl_q {P : PyData → Prop} {w : Str} (q : P (optD (numW w))) : (∀ n, Wr w n → P (.int n)) ∧ ((∀ n, ¬ Wr w n) → P .none) :=
  ⟨fun n hn => by rw [numW_some.mpr hn] at q; exact q, fun z => by
    have : numW w = none := by
      cases e : numW w with
      | none => rfl
      | some n => exact absurd (numW_some.mp e) (z n)
    rw [this] at q
    exact q⟩
-- DEF number_in N ['word', 'least', 'most', 'figures', 'number'] calls [] takes []
def pr_number_in63_1 : PSx :=
    pRet (pVar 4)
def pr_number_in63_2 : PSx :=
    pSeq (pIf (pOr (pT (pEq true (pC (qD fStrI) (pCons (pVar 4) (pNil))) (pVar 0))) (pNot (pT (pChain qLeD qLeD (pVar 1) (pVar 4) (pVar 2))))) (pRet (pK .none)) (pNext))
    (pr_number_in63_1)
def pr_number_in63_3 : PSx :=
    pSeq (pSet 4 (pC (qD fIntT) (pCons (pVar 0) (pNil))))
    (pr_number_in63_2)
def pr_number_in63_4 : PSx :=
    pSeq (pIf (pOr (pT (pGt (pC (q1 fLen) (pCons (pVar 3) (pNil))) (pK (.int 19)))) (pOr (pNot (pT (pS0 (fun _ => True) (fun a => .bool (Txt.isascii a)) (pVar 3)))) (pNot (pT (pS0 (fun _ => True) (fun a => .bool (Txt.isdigit a)) (pVar 3)))))) (pRet (pK .none)) (pNext))
    (pr_number_in63_3)
def p_number_in63 : PSx :=
    pSeq (pSet 3 (pS1 (fun a _ => a.length ≤ sizeLine) (fun a b => .str (Txt.removeprefix a b)) (pVar 0) (pK (.str "-"))))
    (pr_number_in63_4)
def psp_number_in63 : PSp := fun as Q _ => ∃ (w : Str) (lo hi : Int), as = [.im (.str w), .im (.int lo), .im (.int hi)] ∧ w.length ≤ sizeLine ∧ Q (.im (optD (flt lo hi (numW w)))) [.un, .un, .un]
theorem hp_number_in63 (as : List Sl) (Qp : QE) (Ep : EX) (h : psp_number_in63 as Qp Ep) : p_number_in63 (endsP as Qp) (as ++ List.replicate 2 .un) := by
  obtain ⟨w, lo, hi, rfl, wl, q⟩ := h
  obtain ⟨q1, q2⟩ := num_q (P := fun d => Qp (.im d) [.un, .un, .un]) q
  refine ⟨_, rfl, _, rfl, wl, _, _, rfl, ?_⟩
  show pr_number_in63_4 _ [.im (.str w), .im (.int lo), .im (.int hi), .im (.str (Txt.removeprefix w (Str.ofString "-"))), .un]
  have fig : ∀ n, Wr w n → Txt.removeprefix w (Str.ofString "-") = figI n := fun n hn => by rw [hn.1]; rfl
  have any := @int_any w
  have fl : (Txt.removeprefix w (Str.ofString "-")).length ≤ sizeLine := by
    rw [len_tl, tl_rem]
    rw [len_tl] at wl
    split
    · rename_i e; rw [e, List.length_cons] at wl; omega
    · exact wl
  generalize Txt.removeprefix w (Str.ofString "-") = F at fig any fl
  have none : (∀ n, ¬ Wr w n) → ∀ s, Qp (.im .none) (outs [.im (.str w), .im (.int lo), .im (.int hi)] [.im (.str w), .im (.int lo), .im (.int hi), .im (.str F), s]) := fun z s => q2 fun n hn => absurd hn (z n)
  refine ⟨fl, trivial, _, rfl, ?_⟩
  show if decide ((19 : Int) < (F.length : Int)) = true then _ else _
  by_cases h1 : 19 < F.length
  · rw [if_pos (decide_eq_true (by omega))]
    exact ⟨_, _, rfl, none (fun n hn => by have := fig_len hn.2; rw [← fig n hn] at this; omega) _⟩
  rw [if_neg (by rw [decide_eq_true_eq]; omega)]
  refine ⟨_, rfl, trivial, _, rfl, ?_⟩
  cases ha : Txt.isascii F with
  | false =>
    show if (!false) = true then _ else _
    rw [if_pos (by decide)]
    exact ⟨_, _, rfl, none (fun n hn => by have := fig_ascii n; rw [← fig n hn, ha] at this; cases this) _⟩
  | true =>
  show if (!true) = true then _ else _
  rw [if_neg (by decide)]
  refine ⟨_, rfl, trivial, _, rfl, ?_⟩
  cases hd : Txt.isdigit F with
  | false =>
    show if (!false) = true then _ else _
    rw [if_pos (by decide)]
    exact ⟨_, _, rfl, none (fun n hn => by have := fig_digit n; rw [← fig n hn, hd] at this; cases this) _⟩
  | true =>
  show if (!true) = true then _ else _
  rw [if_neg (by decide)]
  obtain ⟨n, en, sn, wl2⟩ := any (by omega) ha hd
  refine ⟨n, en, by omega, _, _, rfl, ?_⟩
  show pr_number_in63_2 _ [.im (.str w), .im (.int lo), .im (.int hi), .im (.str F), .im (.int n)]
  refine ⟨log19 sn, _, rfl, ?_⟩
  show if (!decide (tI n = w)) = true then _ else _
  by_cases hw : tI n = w
  · have wr : Wr w n := ⟨hw.symm, sn⟩
    rw [decide_eq_true hw, if_neg (by decide)]
    refine ⟨_, rfl, trivial, _, rfl, ?_⟩
    show if decide (lo ≤ n) = true then _ else _
    by_cases hl : lo ≤ n
    · rw [if_pos (decide_eq_true hl)]
      refine ⟨trivial, _, rfl, ?_⟩
      show if (!decide (n ≤ hi)) = true then _ else _
      by_cases hh : n ≤ hi
      · rw [decide_eq_true hh, if_neg (by decide)]
        exact ⟨_, _, rfl, q1 n wr hl hh⟩
      · rw [decide_eq_false hh, if_pos (by decide)]
        exact ⟨_, _, rfl, q2 fun m hm z => hh (by rw [wr.one hm]; exact z.2)⟩
    · rw [if_neg (by rw [decide_eq_true_eq]; exact hl)]
      refine ⟨_, rfl, ?_⟩
      show if (!false) = true then _ else _
      rw [if_pos (by decide)]
      exact ⟨_, _, rfl, q2 fun m hm z => hl (by rw [wr.one hm]; exact z.1)⟩
  · rw [decide_eq_false hw, if_pos (by decide)]
    exact ⟨_, _, rfl, none (fun m hm => hw (by
      have e := hm.int
      rw [en] at e
      cases e
      exact hm.1.symm)) _⟩
/-- plain signs only -/
def AscT (w : Str) : Prop := ∀ c ∈ tl w, c < 128
-- DEF _law_number N ['_law_word', '_law_sign'] calls [] takes []
def pe_lnum_1 : PX :=
    pVar 1
def pr_lnum_1 : PSx :=
    pRet (pIfE (pT (pEq false (pVar 0) (pC (qD fStrI) (pCons (pC (qD fIntT) (pCons (pVar 0) (pNil))) (pNil))))) (pC (qD fIntT) (pCons (pVar 0) (pNil))) (pK .none))
def p_lnum : PSx :=
    pSeq (pIf (pOr (pNot (pT (pChain qLeD qLeD (pK (.int 1)) (pC (q1 fLen) (pCons (pVar 0) (pNil))) (pK (.int 19))))) (pT (pEq true (pComp (iStrD (pVar 0)) (gN 1) (pT (pNIS (pVar 1) (pK (.str "0123456789")))) (pe_lnum_1) [1]) (pLst (pNil))))) (pRet (pK .none)) (pNext))
    (pr_lnum_1)
def psp_lnum : PSp := fun as Q _ => ∃ w : Str, as = [.im (.str w)] ∧ AscT w ∧ w.length ≤ sizeLine ∧ Q (.im (optD (flt 0 (10 ^ 19) (numW w)))) [.un]
/-- the signs that are no figures -/
def notD (l : List Nat) : List PyData := (l.filter fun c => !decide (c ∈ (Str.ofString "0123456789").cps.toList)).map fun c => .str ⟨#[c]⟩
theorem notD_len (l : List Nat) : (notD l).length ≤ l.length := by
  unfold notD
  rw [List.length_map]
  exact List.length_filter_le _ _
theorem shaped_sgs {l : List Nat} (h : ∀ c ∈ l, c < 128) : SeqAt.shaped (.list (l.map fun c => .str ⟨#[c]⟩)) = true := by
  have h1 : ∀ {l : List Nat}, (∀ c ∈ l, c < 128) → PyData.canLayAll0 (l.map fun c => .str ⟨#[c]⟩) = true ∧ PyData.depthAll (l.map fun c => .str ⟨#[c]⟩) = 0 := by
    intro l
    induction l with
    | nil => intro _; exact ⟨rfl, rfl⟩
    | cons c r ih =>
      intro h
      obtain ⟨a, b⟩ := ih fun x hx => h x (List.mem_cons_of_mem _ hx)
      refine ⟨?_, ?_⟩
      · show (PyData.canLay0 (.str ⟨#[c]⟩) && PyData.canLayAll0 (r.map fun c => .str ⟨#[c]⟩)) = true
        rw [a, Bool.and_true]
        have := h c List.mem_cons_self
        show (#[c] : Array Nat).all (· < 0x110000) = true
        simp
        omega
      · show max (PyData.depth (.str ⟨#[c]⟩)) (PyData.depthAll (r.map fun c => .str ⟨#[c]⟩)) = 0
        rw [b]
        rfl
  obtain ⟨a, b⟩ := h1 h
  unfold SeqAt.shaped
  rw [Bool.and_eq_true, decide_eq_true_eq]
  refine ⟨a, ?_⟩
  show PyData.depthAll (l.map fun c => .str ⟨#[c]⟩) + 1 ≤ 64
  rw [b]
  decide
theorem figs_all : (Str.ofString "0123456789").cps.toList = [48, 49, 50, 51, 52, 53, 54, 55, 56, 57] := by decide +kernel
theorem hp_lnum (as : List Sl) (Qp : QE) (Ep : EX) (h : psp_lnum as Qp Ep) : p_lnum (endsP as Qp) (as ++ List.replicate 1 .un) := by
  obtain ⟨w, rfl, aw, wl, q⟩ := h
  obtain ⟨q1, q2⟩ := lnum_q (P := fun d => Qp (.im d) [.un]) q
  have q2' : (∀ n, Wr w n → ¬ 0 ≤ n) → ∀ s, Qp (.im .none) (outs [.im (.str w)] [.im (.str w), s]) := fun z _ => q2 z
  refine ⟨wl, _, rfl, trivial, _, rfl, ?_⟩
  have w1 : ∀ n, Wr w n → 0 ≤ n → 1 ≤ w.length ∧ w.length ≤ 19 := fun n hn h0 => by
    have e := tl_wr hn
    rw [if_neg (by omega)] at e
    rw [len_tl, e]
    exact ⟨List.length_pos_iff.mpr (numL_ne _), dig_len hn.2⟩
  show if decide ((1 : Int) ≤ (w.length : Int)) = true then _ else _
  by_cases h1 : 1 ≤ w.length
  rotate_left
  · rw [if_neg (by rw [decide_eq_true_eq]; omega)]
    refine ⟨_, rfl, ?_⟩
    show if (!false) = true then _ else _
    rw [if_pos (by decide)]
    exact ⟨_, _, rfl, q2' (fun n hn h0 => h1 (w1 n hn h0).1) _⟩
  rw [if_pos (by rw [decide_eq_true_eq]; omega)]
  refine ⟨trivial, _, rfl, ?_⟩
  show if (!decide ((w.length : Int) ≤ 19)) = true then _ else _
  by_cases h2 : w.length ≤ 19
  rotate_left
  · rw [decide_eq_false (by omega), if_pos (by decide)]
    exact ⟨_, _, rfl, q2' (fun n hn h0 => h2 (w1 n hn h0).2) _⟩
  rw [decide_eq_true (by omega), if_neg (by decide)]
  refine ⟨w, rfl, noPin1 (fun o => nofun), fun j acc δ => acc = notD ((tl w).take j) ∧ δ = [.im (.str w), .un], ⟨rfl, rfl⟩, ?_, ?_⟩
  · rintro j d acc δ hd ⟨rfl, rfl⟩
    rw [sgD_get] at hd
    obtain ⟨c, hc, rfl⟩ := Option.map_eq_some_iff.mp hd
    have hc : (tl w)[j]? = some c := by rw [← hc]; exact Array.getElem?_toList
    refine ⟨c, rfl, _, rfl, ?_⟩
    show if (!decide (c ∈ (Str.ofString "0123456789").cps.toList)) = true then _ else _
    cases hb : (!decide (c ∈ (Str.ofString "0123456789").cps.toList)) with
    | true =>
      rw [if_pos (by decide)]
      refine ⟨_, _, rfl, ?_, ?_, rfl⟩
      · exact szN (m := 100) (by
          have := notD_len ((tl w).take j)
          rw [List.length_take] at this
          rw [len_tl] at h2
          omega) (by decide)
      · show notD ((tl w).take j) ++ [.str ⟨#[c]⟩] = notD ((tl w).take (j + 1))
        unfold notD
        rw [List.take_add_one, hc, Option.toList_some, List.filter_append, List.filter_cons, hb, if_pos rfl, List.map_append]
        rfl
    | false =>
      rw [if_neg (by decide)]
      refine ⟨?_, rfl⟩
      show notD ((tl w).take j) = notD ((tl w).take (j + 1))
      unfold notD
      rw [List.take_add_one, hc, Option.toList_some, List.filter_append, List.filter_cons, hb, if_neg (by decide), List.filter_nil, List.append_nil]
  rintro acc δ ⟨rfl, rfl⟩
  rw [List.take_of_length_le (by rw [sgD_len]; exact Nat.le_of_eq (by simp [tl]))]
  have sh : SeqAt.shaped (.list (notD (tl w))) = true := shaped_sgs fun c hc => aw c (List.mem_filter.mp hc).1
  refine ⟨sh, by decide +kernel, _, rfl, ?_⟩
  show if (!eqd (.list (notD (tl w))) (.list [])) = true then _ else _
  by_cases hN : notD (tl w) = []
  · rw [hN]
    have ad : NumText.AllDigits (tl w) := fun c hc => by
      by_cases h : 48 ≤ c ∧ c ≤ 57
      · exact h
      · exfalso
        have : c ∈ (tl w).filter fun c => !decide (c ∈ (Str.ofString "0123456789").cps.toList) := List.mem_filter.mpr ⟨hc, by
          rw [Bool.not_eq_true', decide_eq_false_iff_not, figs_all]
          simp only [List.mem_cons, List.not_mem_nil, or_false]
          omega⟩
        unfold notD at hN
        rw [List.map_eq_nil_iff] at hN
        rw [hN] at this
        cases this
    have n0 : tl w ≠ [] := fun z => by rw [len_tl, z] at h1; simp at h1
    obtain ⟨n, en, np, sn⟩ := int_digs ad n0 (by rw [← len_tl]; exact h2)
    rw [eqd_self (by decide +kernel), if_neg (by decide)]
    refine ⟨n, en, by omega, log19 sn, _, rfl, ?_⟩
    show if decide (w = tI n) = true then _ else _
    by_cases hw : w = tI n
    · rw [if_pos (decide_eq_true hw)]
      exact ⟨n, en, by omega, _, _, rfl, q1 n ⟨hw, sn⟩ np⟩
    · rw [if_neg (by rw [decide_eq_true_eq]; exact hw)]
      exact ⟨_, _, rfl, q2' (fun m hm _ => hw (by
        have e := hm.int
        rw [en] at e
        cases e
        exact hm.1)) _⟩
  · have e0 : eqd (.list (notD (tl w))) (.list []) = false := by
      cases h : notD (tl w) with
      | nil => exact absurd h hN
      | cons a r => rfl
    rw [e0, if_pos (by decide)]
    refine ⟨_, _, rfl, q2' (fun n hn h0 => hN ?_) _⟩
    have e := tl_wr hn
    rw [if_neg (by omega)] at e
    unfold notD
    rw [List.map_eq_nil_iff, List.filter_eq_nil_iff]
    intro c hc
    have := numL_digits n.natAbs c (by rw [e] at hc; exact hc)
    rw [Bool.not_eq_true, Bool.not_eq_false', decide_eq_true_eq, figs_all]
    simp only [List.mem_cons, List.not_mem_nil, or_false]
    omega
theorem tl_cut1 (w : Str) : tl (cutS w none (some 1)) = (tl w).take 1 := by
  show ((w.cps.toList.drop 0).take (HT.sIx w.length w.length (some 1) - 0)) = w.cps.toList.take 1
  rw [List.drop_zero, Nat.sub_zero]
  have : HT.sIx w.length w.length (some 1) = min 1 w.length := HT.sIx_nat _ _ 1
  rw [this]
  by_cases h : 1 ≤ w.length
  · rw [Nat.min_eq_left h]
  · have : w.cps.toList = [] := by have e := len_tl w; exact List.length_eq_zero_iff.mp (by show (tl w).length = 0; omega)
    rw [this]
    simp
theorem tl_cut2 (w : Str) : tl (cutS w (some 1) none) = (tl w).drop 1 := by
  show ((w.cps.toList.drop (HT.sIx w.length 0 (some 1))).take (w.length - HT.sIx w.length 0 (some 1))) = w.cps.toList.drop 1
  have : HT.sIx w.length 0 (some 1) = min 1 w.length := HT.sIx_nat _ _ 1
  rw [this]
  have e : w.cps.toList.length = w.length := (len_tl w).symm
  rw [List.take_of_length_le (by rw [List.length_drop, e]; exact Nat.le_refl _)]
  by_cases h : 1 ≤ w.length
  · rw [Nat.min_eq_left h]
  · have : w.cps.toList = [] := List.length_eq_zero_iff.mp (by omega)
    rw [this]
    simp
-- DEF _law_whole N ['_law_word', '_law_number_here'] calls ['_law_number'] takes []
def pr_lwhl_1 : PSx :=
    pRet (pIfE (pOr (pT (pIs false (pVar 1) (pK .none))) (pT (pEq false (pVar 1) (pK (.int 0))))) (pK .none) (pSub (pK (.int 0)) (pVar 1)))
def pr_lwhl_2 : PSx :=
    pSeq (pSet 1 (pCall psp_lnum (pCons (pFz (pSlS (pVar 0) (oSome (pK (.int 1))) (oNone))) (pNil)) noX))
    (pr_lwhl_1)
def p_lwhl : PSx :=
    pSeq (pIf (pT (pEq true (pSlS (pVar 0) (oNone) (oSome (pK (.int 1)))) (pK (.str "-")))) (pRet (pCall psp_lnum (pCons (pFz (pVar 0)) (pNil)) noX)) (pNext))
    (pr_lwhl_2)
def psp_lwhl : PSp := fun as Q _ => ∃ w : Str, as = [.im (.str w)] ∧ AscT w ∧ w.length ≤ sizeLine ∧ Q (.im (optD (numW w))) [.un]
theorem hp_lwhl (as : List Sl) (Qp : QE) (Ep : EX) (h : psp_lwhl as Qp Ep) : p_lwhl (endsP as Qp) (as ++ List.replicate 1 .un) := by
  obtain ⟨w, rfl, aw, wl, q⟩ := h
  obtain ⟨q1, q2⟩ := lwhl_q (P := fun d => Qp (.im d) [.un]) q
  refine ⟨1, rfl, w, rfl, wl, _, rfl, ?_⟩
  show if (!decide (cutS w none (some 1) = Str.ofString "-")) = true then _ else _
  have q2' : (∀ n, ¬ Wr w n) → ∀ s, Qp (.im .none) (outs [.im (.str w)] [.im (.str w), s]) := fun z _ => q2 z
  by_cases hd : cutS w none (some 1) = Str.ofString "-"
  rotate_left
  · rw [decide_eq_false hd, if_pos (by decide)]
    have nh : ∀ r, tl w ≠ 45 :: r := fun r hr => hd (ext_tl (by rw [tl_cut1, hr, show tl (Str.ofString "-") = [45] by decide +kernel]; rfl))
    refine ⟨_, _, rfl, _, rfl, List.nodup_nil, w, rfl, aw, wl, _, _, rfl, ?_⟩
    have e : flt 0 (10 ^ 19) (numW w) = numW w := by
      cases h : numW w with
      | none => rfl
      | some n =>
        have wr := numW_some.mp h
        have := wr_pos wr nh
        have := wr.2
        unfold SmlI at this
        exact flt_some.mpr ⟨rfl, by omega, by omega⟩
    rw [e]
    exact q
  rw [decide_eq_true hd, if_neg (by decide)]
  have hw : tl w = 45 :: tl (cutS w (some 1) none) := by
    have e := congrArg tl hd
    rw [tl_cut1, show tl (Str.ofString "-") = [45] by decide +kernel] at e
    rw [tl_cut2]
    cases h : tl w with
    | nil => rw [h] at e; cases e
    | cons c r => rw [h] at e; simp at e; subst e; rfl
  have av : AscT (cutS w (some 1) none) := fun c hc => aw c (by rw [hw]; exact List.mem_cons_of_mem _ hc)
  have vl : (cutS w (some 1) none).length ≤ sizeLine := by
    rw [len_tl] at wl ⊢
    rw [hw, List.length_cons] at wl
    omega
  refine ⟨1, rfl, w, rfl, wl, _, _, rfl, _, rfl, List.nodup_nil, _, rfl, av, vl, _, _, rfl, ?_⟩
  show pr_lwhl_1 _ [.im (.str w), .im (optD (flt 0 (10 ^ 19) (numW (cutS w (some 1) none))))]
  cases hv : flt 0 (10 ^ 19) (numW (cutS w (some 1) none)) with
  | some n =>
    obtain ⟨hn, h0, _⟩ := flt_some.mp hv
    have hn := numW_some.mp hn
    refine ⟨_, rfl, ?_⟩
    show if false = true then _ else _
    rw [if_neg (by decide)]
    refine ⟨_, rfl, ?_⟩
    show if decide (n = 0) = true then _ else _
    by_cases n0 : n = 0
    · rw [if_pos (decide_eq_true n0)]
      refine ⟨_, _, rfl, q2' (fun m hm => ?_) _⟩
      obtain ⟨hm, k⟩ := (wr_neg hw).mp hm
      have := k.one hn
      omega
    · rw [if_neg (by rw [decide_eq_true_eq]; exact n0)]
      have e : (0 - n) = -n := Int.zero_sub n
      refine ⟨trivial, _, _, rfl, ?_⟩
      show Qp (.im (.int (0 - n))) _
      rw [e]
      exact q1 (-n) ((wr_neg hw).mpr ⟨by omega, by rw [Int.neg_neg]; exact hn⟩)
  | none =>
    refine ⟨_, rfl, ?_⟩
    show if true = true then _ else _
    rw [if_pos rfl]
    refine ⟨_, _, rfl, q2' (fun m hm => ?_) _⟩
    obtain ⟨hm, k⟩ := (wr_neg hw).mp hm
    have := k.2
    unfold SmlI at this
    rw [flt_some.mpr ⟨numW_some.mpr k, by omega, by omega⟩] at hv
    cases hv
/-! ### the refusal -/
def ansRef (cNoText : Addr) (C : Addr) (fs : List (Str × PyData)) (d : PyData) : Prop := C = cNoText ∧ ∃ v, fs.lookup ("at" : Str) = some v ∧ d = .tuple [.str "text", v]
def p_lref (cNoText : Addr) (a : Addr) (cls : Value) (d : Option Addr) : PSx :=
    pSeq (pIf (pT (pIsX (sbAt cNoText false) a cls d 0)) (pRet (pTup (pCons (pK (.str "other")) (pCons (pK (.int 0)) (pNil))))) (pNext))
    (pSeq (pIf (pOr (pNot (pT (pIsX (sbAt cNoText true) a cls d 0))) (pNot (pT (pIsX (sbAt cNoText true) a cls d 0)))) (pRet (pTup (pCons (pK (.str "other")) (pCons (pK (.int 1)) (pNil))))) (pNext))
    (pRet (pTup (pCons (pK (.str "text")) (pCons (pXf cNoText a cls d 0 "at") (pNil))))))
theorem hp_lref (cNoText : Addr) (a dd C : Addr) (fs : List (Str × PyData)) (d : PyData) (h : ansRef cNoText C fs d) : p_lref cNoText a (.ref C) (some dd) { nx := fun _ => False, rt := fun r _ => r = .im d } [.ex a dd C fs] := by
  obtain ⟨rfl, v, hv, rfl⟩ := h
  have s1 : ∀ b, sbAt C b C = some b := fun b => if_pos rfl
  refine ⟨dd, C, fs, false, rfl, rfl, rfl, s1 _, false, rfl, ?_⟩
  show if false = true then _ else _
  rw [if_neg (by decide)]
  refine ⟨dd, C, fs, true, rfl, rfl, rfl, s1 _, true, rfl, ?_⟩
  show if (!true) = true then _ else _
  rw [if_neg (by decide)]
  refine ⟨dd, C, fs, true, rfl, rfl, rfl, s1 _, true, rfl, ?_⟩
  show if (!true) = true then _ else _
  rw [if_neg (by decide)]
  refine ⟨dd, fs, v, rfl, rfl, rfl, hv, ?_⟩
  exact ⟨_, _, rfl, rfl⟩
end Pv
/-! Texts that are wrong: a setting read by the program. -/
namespace Pv
open PySem PySem.Spec PyProof.Rows L2 Wf TL
-- DEF walker_in N ['book', 'line', 'least', 'words', 'kind', 'burden', 'spot'] calls ['number_in'] takes []
theorem spl_mem (S : List Nat) : ∀ (l : List Nat) (k : Nat) (acc : List Nat), (∀ w ∈ spl S k acc l, w.length ≤ acc.length + l.length ∧ ∀ c ∈ w, c ∈ acc ∨ c ∈ l) ∧ (spl S k acc l).length ≤ l.length + 1 := by
  intro l
  induction l with
  | nil =>
    intro k acc
    rw [spl_nil]
    refine ⟨fun w hw => ?_, Nat.le_refl _⟩
    rw [List.mem_singleton.mp hw]
    exact ⟨Nat.le_refl _, fun c hc => .inl hc⟩
  | cons c r ih =>
    intro k acc
    cases k with
    | zero =>
      by_cases h : pre S (c :: r) = true
      · rw [spl_hit h]
        obtain ⟨a, b⟩ := ih (S.length - 1) []
        refine ⟨fun w hw => ?_, by rw [List.length_cons, List.length_cons]; omega⟩
        rcases List.mem_cons.mp hw with rfl | hw
        · exact ⟨by omega, fun c hc => .inl hc⟩
        · obtain ⟨h1, h2⟩ := a w hw
          refine ⟨by rw [List.length_cons]; simp at h1; omega, fun x hx => ?_⟩
          rcases h2 x hx with z | z
          · cases z
          · exact .inr (List.mem_cons_of_mem _ z)
      · rw [spl_miss (by simpa using h)]
        obtain ⟨a, b⟩ := ih 0 (acc ++ [c])
        refine ⟨fun w hw => ?_, by rw [List.length_cons]; omega⟩
        obtain ⟨h1, h2⟩ := a w hw
        rw [List.length_append, List.length_singleton] at h1
        refine ⟨by rw [List.length_cons]; omega, fun x hx => ?_⟩
        rcases h2 x hx with z | z
        · rcases List.mem_append.mp z with z | z
          · exact .inl z
          · exact .inr (by rw [List.mem_singleton.mp z]; exact List.mem_cons_self)
        · exact .inr (List.mem_cons_of_mem _ z)
    | succ k =>
      obtain ⟨a, b⟩ := ih k acc
      have e : spl S (k + 1) acc (c :: r) = spl S k acc r := rfl
      rw [e]
      refine ⟨fun w hw => ?_, by rw [List.length_cons]; omega⟩
      obtain ⟨h1, h2⟩ := a w hw
      exact ⟨by rw [List.length_cons]; omega, fun x hx => (h2 x hx).imp id (List.mem_cons_of_mem _)⟩
/-- the parts of a text: none is longer, signs of its own, few -/
theorem split_parts {x y : Str} (hy : tl y ≠ []) (hk : y.cps.all (· < 256) = true) : (∀ w ∈ Txt.split x y, w.length ≤ x.length ∧ ∀ c ∈ tl w, c ∈ tl x) ∧ (Txt.split x y).length ≤ x.length + 1 := by
  have e := split_spl x y hy (kind_ok hk)
  obtain ⟨a, b⟩ := spl_mem (tl y) (tl x) 0 []
  rw [← e] at a b
  refine ⟨fun w hw => ?_, by rw [List.length_map] at b; rw [len_tl]; exact b⟩
  obtain ⟨h1, h2⟩ := a (tl w) (List.mem_map.mpr ⟨w, hw, rfl⟩)
  refine ⟨by rw [len_tl, len_tl]; simpa using h1, fun c hc => ?_⟩
  rcases h2 c hc with z | z
  · cases z
  · exact z
end Pv
namespace Pv
open PySem PySem.Spec PyProof.Rows L2 Wf TL
-- DEF read_setting N ['book', 'text', 'row', 'spots', 'lines', 'at', 'line', 'least', 'read', 'kind', 'burden', 'spot'] calls ['walker_in'] takes ['cNoText', 'Ep']
end Pv
namespace Pv
open PySem PySem.Spec L2 Wf
/-! ### things of bounded depth -/
mutual
theorem fit_lay {n : Nat} : ∀ d : PyData, fit n d = true → d.canLay0 = true
  | .none, _ => rfl
  | .bool _, _ => rfl
  | .int _, _ => rfl
  | .str _, h => by unfold fit at h; exact h
  | .tuple ds, h => fitAll_lay ds (Bool.and_eq_true_iff.mp (show (decide (ds.length ≤ n) && fitAll n ds) = true by unfold fit at h; exact h)).2
  | .list _, h => by unfold fit at h; cases h
  | .dict _, h => by unfold fit at h; cases h
theorem fitAll_lay {n : Nat} : ∀ ds : List PyData, fitAll n ds = true → PyData.canLayAll0 ds = true
  | [], _ => rfl
  | d :: ds, h => by
    have h' := Bool.and_eq_true_iff.mp (show (fit n d && fitAll n ds) = true by unfold fitAll at h; exact h)
    show (d.canLay0 && PyData.canLayAll0 ds) = true
    rw [fit_lay d h'.1, fitAll_lay ds h'.2]
    rfl
end
theorem depth_mem : ∀ {ds : List PyData} {d : PyData}, d ∈ ds → d.depth ≤ PyData.depthAll ds
  | x :: ds, d, h => by
    show d.depth ≤ max x.depth (PyData.depthAll ds)
    rcases List.mem_cons.mp h with rfl | h
    · exact Nat.le_max_left _ _
    · exact Nat.le_trans (depth_mem h) (Nat.le_max_right _ _)
structure OkX (n D : Nat) (x : PyData) : Prop where
  fit : fit n x = true
  dep : x.depth ≤ D
theorem OkX.shaped {n D : Nat} {x : PyData} (h : OkX n D x) (hD : D ≤ 60) : SeqAt.shaped x = true := by
  unfold SeqAt.shaped
  rw [fit_lay x h.fit]
  have := h.dep
  simp
  omega
theorem OkX.tup {n D : Nat} {ds : List PyData} (h : OkX n D (.tuple ds)) : ds.length ≤ n ∧ 1 ≤ D ∧ ∀ d ∈ ds, OkX n (D - 1) d := by
  obtain ⟨h1, h2⟩ := fit_tup h.fit
  have hd : PyData.depthAll ds + 1 ≤ D := h.dep
  refine ⟨h1, by omega, fun d hd2 => ⟨h2 d hd2, ?_⟩⟩
  have := depth_mem hd2
  omega
end Pv
namespace Pv
open PySem PySem.Spec L2 Wf
/-! ### look_spots -/
/-! ### the law's own -/
end Pv
namespace Pv
open PySem PySem.Spec L2 Wf
/-! ### spots drawn -/
end Pv
/-! Texts that are wrong: a setting read by the law. -/
namespace Pv
open PySem PySem.Spec PyProof.Rows L2 Wf TL
/-! signs over again -/
theorem rep_tl (c : Nat) : ∀ (n : Nat) (acc : Array Nat), ((List.replicate n #[c]).foldl (· ++ ·) acc).toList = acc.toList ++ List.replicate n c
  | 0, acc => by simp
  | n + 1, acc => by
    rw [List.replicate_succ, List.foldl_cons, rep_tl c n, List.replicate_succ]
    simp
theorem tl_mul {z : Str} {c : Nat} (hz : tl z = [c]) (n : Nat) : tl (Txt.mul z (n : Int)) = List.replicate n c := by
  have ez : z.cps = #[c] := Array.toList_inj.mp hz
  unfold Txt.mul
  by_cases h0 : (n : Int) < 1
  · rw [if_pos h0]
    have : n = 0 := by omega
    subst this
    rfl
  rw [if_neg h0]
  by_cases h1 : ((n : Int) == 1 || z.length == 0) = true
  · rw [if_pos h1]
    have : n = 1 := by
      rw [Bool.or_eq_true] at h1
      rcases h1 with h | h
      · have := beq_iff_eq.mp h; omega
      · have := beq_iff_eq.mp h
        rw [len_tl, hz] at this
        cases this
    subst this
    exact hz
  · rw [if_neg h1]
    show ((List.replicate ((n : Int)).toNat z.cps).foldl (· ++ ·) #[]).toList = _
    rw [ez, Int.toNat_natCast, rep_tl]
    rfl
theorem mul_ok {z : Str} {c : Nat} (hz : tl z = [c]) {n : Nat} (h : n ≤ 100000) : MulOk z (n : Int) := by
  have l : z.length = 1 := by rw [len_tl, hz]; rfl
  have zz : 100000 < sizeLine := by decide
  unfold MulOk
  rw [l]
  refine ⟨?_, fun _ _ => ?_, fun _ _ => ?_⟩
  · rw [Bool.or_eq_false_iff]
    exact ⟨decide_eq_false (by omega), decide_eq_false (by omega)⟩
  · intro k
    have : ((2 : Int) ^ 63 - 1) / (n : Int) ≥ 1 := by
      refine Int.le_ediv_of_mul_le (by omega) (by omega)
    omega
  · rw [Int.toNat_natCast, Nat.one_mul]
    exact decide_eq_false (by omega)
theorem split_ne (x y : Str) (hy : tl y ≠ []) (hk : y.cps.all (· < 256) = true) : Txt.split x y ≠ [] := fun z => by
  have e := split_spl x y hy (kind_ok hk)
  rw [z] at e
  have go : ∀ (l : List Nat) (k : Nat) (acc : List Nat), spl (tl y) k acc l ≠ [] := by
    intro l
    induction l with
    | nil => intro k acc; rw [spl_nil]; simp
    | cons c r ih =>
      intro k acc
      cases k with
      | zero =>
        by_cases h : pre (tl y) (c :: r) = true
        · rw [spl_hit h]; simp
        · rw [spl_miss (by simpa using h)]; exact ih _ _
      | succ k => exact ih k acc
  exact go _ _ _ e.symm
theorem flt_out {lo hi n : Int} {o : Option Int} (h : o = some n) (h1 : ¬ (lo ≤ n ∧ n ≤ hi)) : flt lo hi o = none := by
  cases e : flt lo hi o with
  | none => rfl
  | some k =>
    obtain ⟨a, b⟩ := flt_some.mp e
    rw [h] at a
    cases a
    exact absurd b h1
-- DEF _law_read_setting N ['_law_many', '_law_size', '_law_text', '_law_lines', '_law_row', '_law_spots_here', '_law_at', '_law_line', '_law_words', '_law_spot', '_law_kind', '_law_burden'] calls ['_law_number', '_law_whole'] takes []
end Pv
/-! Texts that are wrong: how the law spoils a text. -/
namespace Pv
open PySem PySem.Spec PyProof.Rows L2 Wf TL
def sumL (ss : List Str) : Nat := (ss.map fun s : Str => s.length).sum
theorem sumL_app (a b : List Str) : sumL (a ++ b) = sumL a + sumL b := by unfold sumL; rw [List.map_append, List.sum_append_nat]
theorem sumL_sub {a b : List Str} (h : a.Sublist b) : sumL a ≤ sumL b := by
  induction h with
  | slnil => exact Nat.le_refl _
  | cons x _ ih => unfold sumL at *; rw [List.map_cons, List.sum_cons]; omega
  | cons_cons x _ ih => unfold sumL at *; rw [List.map_cons, List.map_cons, List.sum_cons, List.sum_cons]; omega
theorem cut_sub {α : Type} (xs : List α) (lo hi : Option Int) : (cutD xs lo hi).Sublist xs := (List.take_sublist _ _).trans (List.drop_sublist _ _)
theorem take_drop_sub {α : Type} (xs : List α) (a : Nat) : (xs.take a ++ xs.drop (a + 1)).Sublist xs := by
  have h : xs = xs.take a ++ xs.drop a := (List.take_append_drop a xs).symm
  have h2 : (xs.drop (a + 1)).Sublist (xs.drop a) := by
    rw [show xs.drop (a + 1) = (xs.drop a).drop 1 by rw [List.drop_drop, Nat.add_comm]]
    exact List.drop_sublist _ _
  have h3 := (List.Sublist.refl (xs.take a)).append h2
  rw [← h] at h3
  exact h3
/-- how a list of texts may come out -/
structure ChgOf (ss : List Str) (o : Str) (es : List Str) : Prop where
  mem : ∀ x ∈ es, x ∈ ss ∨ x = o
  len : es.length ≤ 3 * ss.length + 1
  sum : sumL es ≤ 3 * sumL ss + o.length
theorem chg3 {ss a b c : List Str} {o : Str} (ha : a.Sublist ss) (hb : b.Sublist ss) (hc : c.Sublist ss) : ChgOf ss o (a ++ b ++ c) := by
  refine ⟨fun x hx => ?_, ?_, ?_⟩
  · rw [List.mem_append, List.mem_append] at hx
    rcases hx with (h | h) | h
    · exact .inl (ha.mem h)
    · exact .inl (hb.mem h)
    · exact .inl (hc.mem h)
  · rw [List.length_append, List.length_append]
    have := ha.length_le
    have := hb.length_le
    have := hc.length_le
    omega
  · rw [sumL_app, sumL_app]
    have := sumL_sub ha
    have := sumL_sub hb
    have := sumL_sub hc
    omega
theorem chg1 {ss a c : List Str} {o : Str} (ha : a.Sublist ss) (hc : c.Sublist ss) : ChgOf ss o (a ++ [o] ++ c) := by
  refine ⟨fun x hx => ?_, ?_, ?_⟩
  · rw [List.mem_append, List.mem_append] at hx
    rcases hx with (h | h) | h
    · exact .inl (ha.mem h)
    · exact .inr (List.mem_singleton.mp h)
    · exact .inl (hc.mem h)
  · rw [List.length_append, List.length_append, List.length_singleton]
    have := ha.length_le
    have := hc.length_le
    omega
  · rw [sumL_app, sumL_app]
    have := sumL_sub ha
    have := sumL_sub hc
    have : sumL [o] = o.length := by simp [sumL]
    omega
theorem chg2 {ss u v : List Str} {o : Str} {a b : Nat} (hu : u.Sublist ss) (hv : v.Sublist ss) : ChgOf ss o ((ss.take a ++ v ++ ss.drop (a + 1)).take b ++ u ++ (ss.take a ++ v ++ ss.drop (a + 1)).drop (b + 1)) := by
  generalize hS : ss.take a ++ v ++ ss.drop (a + 1) = S
  have s1 := take_drop_sub ss a
  have l1 := s1.length_le
  have m1 := sumL_sub s1
  rw [List.length_append] at l1
  rw [sumL_app] at m1
  have l2 := hv.length_le
  have m2 := sumL_sub hv
  have l3 := hu.length_le
  have m3 := sumL_sub hu
  have lS : S.length ≤ 2 * ss.length := by rw [← hS, List.length_append, List.length_append]; omega
  have mS : sumL S ≤ 2 * sumL ss := by rw [← hS, sumL_app, sumL_app]; omega
  have inS : ∀ x ∈ S, x ∈ ss := fun x hx => by
    rw [← hS, List.mem_append, List.mem_append] at hx
    rcases hx with (h | h) | h
    · exact List.mem_of_mem_take h
    · exact hv.mem h
    · exact List.mem_of_mem_drop h
  have s4 := take_drop_sub S b
  have l4 := s4.length_le
  have m4 := sumL_sub s4
  rw [List.length_append] at l4
  rw [sumL_app] at m4
  refine ⟨fun x hx => .inl ?_, by rw [List.length_append, List.length_append]; omega, by rw [sumL_app, sumL_app]; omega⟩
  rw [List.mem_append, List.mem_append] at hx
  rcases hx with (h | h) | h
  · exact inS x (List.mem_of_mem_take h)
  · exact hu.mem h
  · exact inS x (List.mem_of_mem_drop h)
-- DEF _law_changed N ['_law_deal_here', '_law_some', '_law_other', '_law_form', '_law_wide', '_law_at', '_law_to', '_law_one', '_law_two'] calls ['_law_draw'] takes []
def pr_lchg_1 : PSx :=
    pRet (pVar 1)
def pr_lchg_2 : PSx :=
    pSeq (pSlAsg 1 (oSome (pVar 6)) (oSome (pAdd (pVar 6) (pK (.int 1)))) 7)
    (pr_lchg_1)
def pr_lchg_3 : PSx :=
    pSeq (pSlAsg 1 (oSome (pVar 5)) (oSome (pAdd (pVar 5) (pK (.int 1)))) 8)
    (pr_lchg_2)
def pr_lchg_4 : PSx :=
    pSeq (pPar [7, 8] (pCons (pSlice (pVar 1) (oSome (pVar 5)) (oSome (pAdd (pVar 5) (pK (.int 1))))) (pCons (pSlice (pVar 1) (oSome (pVar 6)) (oSome (pAdd (pVar 6) (pK (.int 1))))) (pNil))))
    (pr_lchg_3)
def pr_lchg_5 : PSx :=
    pRet (pAdd (pAdd (pSlice (pVar 1) (oNone) (oSome (pVar 5))) (pLst (pCons (pVar 2) (pNil)))) (pSlice (pVar 1) (oSome (pAdd (pVar 5) (pC (q1 fInt1) (pCons (pEq false (pVar 3) (pK (.int 4))) (pNil))))) (oNone)))
def pr_lchg_6 : PSx :=
    pSeq (pIf (pT (pEq false (pVar 3) (pK (.int 2)))) (pSeq (pSet 1 (pC (q1L fListOf) (pCons (pVar 1) (pNil))))
    (pr_lchg_4)) (pNext))
    (pr_lchg_5)
def pr_lchg_7 : PSx :=
    pSeq (pIf (pT (pEq false (pVar 3) (pK (.int 1)))) (pRet (pAdd (pAdd (pSlice (pVar 1) (oNone) (oSome (pVar 6))) (pSlice (pVar 1) (oSome (pVar 5)) (oSome (pAdd (pVar 5) (pK (.int 1)))))) (pSlice (pVar 1) (oSome (pVar 6)) (oNone)))) (pNext))
    (pr_lchg_6)
def pr_lchg_8 : PSx :=
    pSeq (pIf (pT (pEq false (pVar 3) (pK (.int 0)))) (pRet (pAdd (pSlice (pVar 1) (oNone) (oSome (pVar 5))) (pSlice (pVar 1) (oSome (pAdd (pVar 5) (pK (.int 1)))) (oNone)))) (pNext))
    (pr_lchg_7)
def pr_lchg_9 : PSx :=
    pSeq (pPar [5, 6] (pCons (pCall psp_draw (pCons (pVar 0) (pCons (pFz (pVar 4)) (pNil))) noX) (pCons (pCall psp_draw (pCons (pVar 0) (pCons (pFz (pVar 4)) (pNil))) noX) (pNil))))
    (pr_lchg_8)
def p_lchg : PSx :=
    pSeq (pPar [3, 4] (pCons (pCall psp_draw (pCons (pVar 0) (pCons (pFz (pK (.int 5))) (pNil))) noX) (pCons (pC (q2 fMax2) (pCons (pK (.int 1)) (pCons (pC (q1 fLen) (pCons (pVar 1) (pNil))) (pNil)))) (pNil))))
    (pr_lchg_9)
def psp_lchg : PSp := fun as Q _ => ∃ (ss : List Str) (o : Str), as = [.ow true .deal, .im (.list (ss.map .str)), .im (.str o)] ∧ ss.length ≤ 300000 ∧ ∀ es, ChgOf ss o es → Q (.ow (.lst (es.map .str))) [.ow true .deal, .un, .un]
abbrev sC63 (s1 : Sl) (o : Str) (s3 s4 s5 s6 s7 s8 : Sl) : List Sl := [.ow true .deal, s1, .im (.str o), s3, s4, s5, s6, s7, s8]
theorem hp_lchg (as : List Sl) (Qp : QE) (Ep : EX) (h : psp_lchg as Qp Ep) : p_lchg (endsP as Qp) (as ++ List.replicate 6 .un) := by
  obtain ⟨ss, o, rfl, sl, q⟩ := h
  have zz : 1000000 ≤ sizeLine := by decide
  refine ⟨_, _, rfl, _, rfl, nd1 0, 5, rfl, by decide, by decide, fun f hf => ?_⟩
  simp only [pk0]
  refine ⟨_, _, rfl, ?_⟩
  show pr_lchg_9 _ (sC63 (.im (.list (ss.map .str))) o (.im (nD f)) (.im (.int (if ((ss.map PyData.str).length : Int) > 1 then ((ss.map PyData.str).length : Int) else 1))) .un .un .un .un)
  rw [List.length_map]
  obtain ⟨W, hW, w0, w1, w2⟩ : ∃ W : Nat, (if (ss.length : Int) > 1 then (ss.length : Int) else 1) = (W : Int) ∧ 0 < W ∧ W ≤ ss.length + 1 ∧ (ss ≠ [] → W = ss.length) := by
    by_cases h : (ss.length : Int) > 1
    · exact ⟨ss.length, if_pos h, by omega, by omega, fun _ => rfl⟩
    · exact ⟨1, if_neg h, by omega, by omega, fun hn => by have := List.length_pos_iff.mpr hn; omega⟩
  rw [hW]
  refine ⟨_, _, rfl, _, rfl, nd1 0, _, rfl, by omega, by omega, fun a ha => ?_⟩
  simp only [pk0]
  refine ⟨_, _, rfl, _, rfl, nd1 0, _, rfl, by omega, by omega, fun b hb => ?_⟩
  simp only [pk0]
  refine ⟨_, _, rfl, ?_⟩
  show pr_lchg_8 _ (sC63 (.im (.list (ss.map .str))) o (.im (nD f)) (.im (.int W)) (.im (nD a)) (.im (nD b)) .un .un)
  have cl : ∀ lo hi, (cutD (ss.map PyData.str) lo hi).length ≤ ss.length := fun lo hi => by have := cutD_len (ss.map PyData.str) lo hi; rwa [List.length_map] at this
  have cm : ∀ lo hi, cutD (ss.map PyData.str) lo hi = (cutD ss lo hi).map .str := fun lo hi => cut_map _ _ _ _
  have i1 : ∀ c : Bool, fInt1 (.bool c) = fun k => k (.int (if c then 1 else 0)) := fun c => rfl
  refine ⟨_, rfl, ?_⟩
  show if decide ((f : Int) = 0) = true then _ else _
  by_cases f0 : (f : Int) = 0
  · rw [if_pos (decide_eq_true f0)]
    refine ⟨_, rfl, _, rfl, ?_, ?_⟩
    · have := cl none (some (a : Int)); have := cl (some ((a : Int) + 1)) none; omega
    refine ⟨_, _, rfl, ?_⟩
    rw [cm, cm, ← List.map_append]
    have := q _ (chg3 (o := o) (cut_sub ss none (some (a : Int))) (List.nil_sublist _) (cut_sub ss (some ((a : Int) + 1)) none))
    rw [List.append_nil] at this
    exact this
  rw [if_neg (by rw [decide_eq_true_eq]; exact f0)]
  refine ⟨_, rfl, ?_⟩
  show if decide ((f : Int) = 1) = true then _ else _
  by_cases f1 : (f : Int) = 1
  · rw [if_pos (decide_eq_true f1)]
    have b1 := cl none (some (b : Int))
    have b2 := cl (some (a : Int)) (some ((a : Int) + 1))
    have b3 := cl (some (b : Int)) none
    refine ⟨_, rfl, _, rfl, _, rfl, by omega, _, rfl, by rw [List.length_append]; omega, ?_⟩
    refine ⟨_, _, rfl, ?_⟩
    rw [cm, cm, cm, ← List.map_append, ← List.map_append]
    exact q _ (chg3 (o := o) (cut_sub ss none (some (b : Int))) (cut_sub ss (some (a : Int)) (some ((a : Int) + 1))) (cut_sub ss (some (b : Int)) none))
  rw [if_neg (by rw [decide_eq_true_eq]; exact f1)]
  refine ⟨_, rfl, ?_⟩
  show if decide ((f : Int) = 2) = true then _ else _
  by_cases f2 : (f : Int) = 2
  · rw [if_pos (decide_eq_true f2)]
    refine ⟨_, _, rfl, ?_⟩
    show pr_lchg_4 _ (sC63 (.ow false (.lst (ss.map .str))) o (.im (nD f)) (.im (.int W)) (.im (nD a)) (.im (nD b)) .un .un)
    refine ⟨_, rfl, _, rfl, _, rfl, _, rfl, _, _, rfl, ?_⟩
    rw [cm, cm]
    show pr_lchg_3 _ (sC63 (.ow false (.lst (ss.map .str))) o (.im (nD f)) (.im (.int W)) (.im (nD a)) (.im (nD b)) (.ow false (.lst ((cutD ss (some (a : Int)) (some ((a : Int) + 1))).map .str))) (.ow false (.lst ((cutD ss (some (b : Int)) (some ((b : Int) + 1))).map .str))))
    have hu := cut_sub ss (some (a : Int)) (some ((a : Int) + 1))
    have hv := cut_sub ss (some (b : Int)) (some ((b : Int) + 1))
    have hvl : (cutD ss (some (b : Int)) (some ((b : Int) + 1))).length = min (b + 1) ss.length - min b ss.length := by
      unfold cutD
      rw [show ((b : Int) + 1) = ((b + 1 : Nat) : Int) from rfl, HT.sIx_nat, HT.sIx_nat, List.length_take, List.length_drop]
      omega
    generalize cutD ss (some (a : Int)) (some ((a : Int) + 1)) = u at hu
    generalize cutD ss (some (b : Int)) (some ((b : Int) + 1)) = v at hv hvl
    have al : a ≤ ss.length := by
      by_cases h : ss = []
      · rw [h] at w1; simp at w1; omega
      · have := w2 h; omega
    have bl : b ≤ ss.length := by
      by_cases h : ss = []
      · rw [h] at w1; simp at w1; omega
      · have := w2 h; omega
    have ul := hu.length_le
    have vl := hv.length_le
    refine ⟨⟨_, _, rfl⟩, ⟨_, _, rfl⟩, a, rfl, (a : Int) + 1, rfl, a, a + 1, _, _, _, _, rfl, rfl, rfl, rfl, by decide, by omega, by rw [List.length_map]; exact al, by rw [List.length_map, List.length_map]; omega, ?_⟩
    show pr_lchg_2 _ (sC63 (.ow false (.lst ((ss.map PyData.str).take a ++ v.map PyData.str ++ (ss.map PyData.str).drop (a + 1)))) o (.im (nD f)) (.im (.int W)) (.im (nD a)) (.im (nD b)) (.ow false (.lst (u.map .str))) (.ow false (.lst (v.map .str))))
    rw [← List.map_take, ← List.map_drop, ← List.map_append, ← List.map_append]
    have c2 := chg2 (o := o) (a := a) (b := b) hu hv
    have Sl2 : (ss.take a ++ v ++ ss.drop (a + 1)).length ≤ 2 * ss.length ∧ b ≤ (ss.take a ++ v ++ ss.drop (a + 1)).length := by
      rw [List.length_append, List.length_append, List.length_take, List.length_drop]
      by_cases h : ss = []
      · have h0 : ss.length = 0 := by rw [h]; rfl
        clear hvl
        omega
      · have := w2 h
        have := List.length_pos_iff.mpr h
        have hb' : b < W := by omega
        have ha' : a < W := by omega
        rw [hvl]
        omega
    generalize ss.take a ++ v ++ ss.drop (a + 1) = S at c2 Sl2
    refine ⟨⟨_, _, rfl⟩, ⟨_, _, rfl⟩, b, rfl, (b : Int) + 1, rfl, b, b + 1, _, _, _, _, rfl, rfl, rfl, rfl, by decide, by omega, by rw [List.length_map]; exact Sl2.2, by rw [List.length_map, List.length_map]; omega, ?_⟩
    show pr_lchg_1 _ (sC63 (.ow false (.lst ((S.map PyData.str).take b ++ u.map PyData.str ++ (S.map PyData.str).drop (b + 1)))) o (.im (nD f)) (.im (.int W)) (.im (nD a)) (.im (nD b)) (.ow false (.lst (u.map .str))) (.ow false (.lst (v.map .str))))
    rw [← List.map_take, ← List.map_drop, ← List.map_append, ← List.map_append]
    exact ⟨_, _, rfl, q _ c2⟩
  rw [if_neg (by rw [decide_eq_true_eq]; exact f2)]
  show pr_lchg_5 _ (sC63 (.im (.list (ss.map .str))) o (.im (nD f)) (.im (.int W)) (.im (nD a)) (.im (nD b)) .un .un)
  have b1 := cl none (some (a : Int))
  have b3 := cl (some ((a : Int) + (if decide ((f : Int) = 4) = true then 1 else 0))) none
  refine ⟨_, rfl, by show (cutD (ss.map PyData.str) none (some (a : Int))).length + 1 ≤ _; omega, _, rfl, ?_⟩
  refine ⟨?_, ?_⟩
  · have := cl (some ((a : Int) + if (if false = true then !decide ((f : Int) = 4) else decide ((f : Int) = 4)) = true then 1 else 0)) none
    rw [List.length_append, List.length_singleton]
    omega
  · refine ⟨_, _, rfl, ?_⟩
    show Qp (.ow (.lst (cutD (ss.map PyData.str) none (some (a : Int)) ++ [o].map PyData.str ++ _))) [.ow true .deal, .un, .un]
    rw [cm, cm, ← List.map_append, ← List.map_append]
    exact q _ (chg1 (o := o) (cut_sub ss none (some (a : Int))) (cut_sub ss _ none))
end Pv
namespace Pv
open PySem PySem.Spec PyProof.Rows L2 Wf TL
theorem spl_sum (S : List Nat) : ∀ (l : List Nat) (k : Nat) (acc : List Nat), ((spl S k acc l).map List.length).sum ≤ acc.length + l.length := by
  intro l
  induction l with
  | nil => intro k acc; rw [spl_nil]; simp
  | cons c r ih =>
    intro k acc
    cases k with
    | zero =>
      by_cases h : pre S (c :: r) = true
      · rw [spl_hit h, List.map_cons, List.sum_cons]
        have := ih (S.length - 1) []
        rw [List.length_nil] at this
        rw [List.length_cons]
        omega
      · rw [spl_miss (by simpa using h)]
        have := ih 0 (acc ++ [c])
        rw [List.length_append, List.length_singleton] at this
        rw [List.length_cons]
        omega
    | succ k =>
      have e : spl S (k + 1) acc (c :: r) = spl S k acc r := rfl
      rw [e]
      have := ih k acc
      rw [List.length_cons]
      omega
theorem sumL_tl (ss : List Str) : sumL ss = ((ss.map tl).map List.length).sum := by
  unfold sumL
  rw [List.map_map]
  congr 1
theorem split_sum {x y : Str} (hy : tl y ≠ []) (hk : y.cps.all (· < 256) = true) : sumL (Txt.split x y) ≤ x.length := by
  rw [sumL_tl, split_spl x y hy (kind_ok hk), len_tl]
  have := spl_sum (tl y) (tl x) 0 []
  rwa [List.length_nil, Nat.zero_add] at this
theorem join_facts (y : Str) (es : List Str) : (Txt.join y es).length ≤ sumL es + es.length * y.length ∧ ∀ c ∈ tl (Txt.join y es), c ∈ tl y ∨ ∃ e ∈ es, c ∈ tl e := by
  rw [join_eq, len_tl, tl_join, len_tl y]
  have go : ∀ (ls : List (List Nat)), (joinL (tl y) ls).length ≤ (ls.map List.length).sum + ls.length * (tl y).length ∧ ∀ c ∈ joinL (tl y) ls, c ∈ tl y ∨ ∃ e ∈ ls, c ∈ e := by
    intro ls
    induction ls with
    | nil => exact ⟨by simp [joinL], fun c hc => by simp [joinL] at hc⟩
    | cons a r ih =>
      cases r with
      | nil => exact ⟨by simp [joinL], fun c hc => .inr ⟨a, List.mem_cons_self, by simpa [joinL] using hc⟩⟩
      | cons b r =>
        obtain ⟨h1, h2⟩ := ih
        have e : joinL (tl y) (a :: b :: r) = a ++ (tl y ++ joinL (tl y) (b :: r)) := by simp [joinL]
        rw [e]
        refine ⟨?_, fun c hc => ?_⟩
        · rw [List.length_append, List.length_append, List.map_cons, List.sum_cons, List.length_cons, Nat.add_mul, Nat.one_mul]
          omega
        · rw [List.mem_append, List.mem_append] at hc
          rcases hc with h | h | h
          · exact .inr ⟨a, List.mem_cons_self, h⟩
          · exact .inl h
          · rcases h2 c h with z | ⟨e, he, z⟩
            · exact .inl z
            · exact .inr ⟨e, List.mem_cons_of_mem _ he, z⟩
  obtain ⟨h1, h2⟩ := go (es.map tl)
  rw [List.length_map, ← sumL_tl] at h1
  refine ⟨h1, fun c hc => ?_⟩
  rcases h2 c hc with z | ⟨e, he, z⟩
  · exact .inl z
  · obtain ⟨s, hs, rfl⟩ := List.mem_map.mp he
    exact .inr ⟨s, hs, z⟩
theorem sumL_set {ss : List Str} {i : Nat} {x : Str} : sumL (ss.set i x) ≤ sumL ss + x.length := by
  induction ss generalizing i with
  | nil => simp [sumL]
  | cons a r ih =>
    cases i with
    | zero => simp [sumL]; omega
    | succ i =>
      have := ih (i := i)
      simp [sumL] at this ⊢
      omega
theorem sgs_facts (x : Str) : (sgs x).length = x.length ∧ sumL (sgs x) = x.length ∧ ∀ s ∈ sgs x, ∀ c ∈ tl s, c ∈ tl x := by
  have l : (sgs x).length = x.length := by unfold sgs; rw [List.length_map]; exact (len_tl x).symm
  refine ⟨l, ?_, fun s hs c hc => ?_⟩
  · rw [← l]
    unfold sumL sgs
    rw [List.map_map, List.length_map]
    have : ∀ l : List Nat, (l.map ((fun s : Str => s.length) ∘ fun c => (⟨#[c]⟩ : Str))).sum = l.length := by
      intro l
      induction l with
      | nil => rfl
      | cons c r ih =>
        rw [List.map_cons, List.sum_cons, ih, List.length_cons]
        show 1 + r.length = _
        omega
    exact this _
  · unfold sgs at hs
    obtain ⟨k, hk, rfl⟩ := List.mem_map.mp hs
    have hc : c ∈ [k] := hc
    rw [List.mem_singleton.mp hc]
    exact hk
-- DEF _law_signs N [] calls [] takes []
def p_lsigns : PSx :=
    pRet (pK (.str " !\"#$&'()*+,-./0123456789:;<=>?@ABCDEFGHIJKLMNOPQRSTUVWXYZ[\\]^_`abcdefghijklmnopqrstuvwxyz{|}~\n"))
def signsT : Str := Str.ofString " !\"#$&'()*+,-./0123456789:;<=>?@ABCDEFGHIJKLMNOPQRSTUVWXYZ[\\]^_`abcdefghijklmnopqrstuvwxyz{|}~\n"
def psp_lsigns : PSp := fun as Q _ => as = [] ∧ Q (.im (.str signsT)) []
theorem hp_lsigns (as : List Sl) (Qp : QE) (Ep : EX) (h : psp_lsigns as Qp Ep) : p_lsigns (endsP as Qp) (as ++ List.replicate 0 .un) := by
  obtain ⟨rfl, q⟩ := h
  exact ⟨_, _, rfl, q⟩
def signs1 : Str := Str.ofString " 0123456789-:,+_.apt\n"
theorem signs_ok : (AscT signsT ∧ 0 < signsT.length ∧ signsT.length ≤ 200) ∧ AscT signs1 ∧ 0 < signs1.length ∧ signs1.length ≤ 200 := by
  unfold AscT
  refine ⟨⟨?_, ?_, ?_⟩, ?_, ?_, ?_⟩ <;> decide +kernel
def more63 : List Str := [Str.ofString "", Str.ofString "paces 1", Str.ofString "sorts 2", Str.ofString "1 0 : 0 0", Str.ofString "0 0 at 5", Str.ofString " "]
theorem more_get {k : Nat} (h : k < 6) : ∃ o, more63[k]? = some o ∧ AscT o ∧ o.length ≤ 9 := by
  have all : ∀ o ∈ more63, (tl o).all (fun c => decide (c < 128)) = true ∧ o.length ≤ 9 := by decide +kernel
  have hl : more63.length = 6 := rfl
  have e : more63[k]? = some more63[k] := List.getElem?_eq_getElem (by omega)
  obtain ⟨h1, h2⟩ := all _ (List.getElem_mem (by omega : k < more63.length))
  refine ⟨_, e, fun c hc => ?_, h2⟩
  exact of_decide_eq_true (List.all_eq_true.mp h1 c hc)
-- DEF _law_spoilt_text N ['_law_deal_here', '_law_text', '_law_words', '_law_at', '_law_rows', '_law_form', '_law_more', '_law_other', '_law_signs_here', '_law_sign'] calls ['_law_draw', '_law_changed', '_law_signs'] takes []
def pr_lspoilt_1 : PSx :=
    pRet (pJoin (pK (.str "\n")) (pCall psp_lchg (pCons (pVar 0) (pCons (pFz (pVar 4)) (pCons (pFz (pIx (pVar 6) (pCall psp_draw (pCons (pVar 0) (pCons (pFz (pK (.int 6))) (pNil))) noX))) (pNil)))) noX))
def pr_lspoilt_2 : PSx :=
    pAsg (pJoin (pK (.str " ")) (pCall psp_lchg (pCons (pVar 0) (pCons (pFz (pSplit (pIx (pVar 4) (pVar 3)) (pK (.str " ")))) (pCons (pFz (pVar 7)) (pNil)))) noX)) (gSx (pVar 4) (pVar 3))
def pr_lspoilt_3 : PSx :=
    pAsg (pJoin (pK (.str "")) (pCall psp_lchg (pCons (pVar 0) (pCons (pFz (pC (q1L fListS) (pCons (pIx (pVar 4) (pVar 3)) (pNil)))) (pCons (pFz (pVar 9)) (pNil)))) noX)) (gSx (pVar 4) (pVar 3))
def pr_lspoilt_4 : PSx :=
    pSeq (pSet 9 (pIxS (pVar 8) (pCall psp_draw (pCons (pVar 0) (pCons (pFz (pC (q1 fLen) (pCons (pVar 8) (pNil)))) (pNil))) noX)))
    (pr_lspoilt_3)
def pr_lspoilt_5 : PSx :=
    pRet (pJoin (pK (.str "\n")) (pVar 4))
def pr_lspoilt_6 : PSx :=
    pSeq (pIf (pT (pLt (pVar 5) (pK (.int 4)))) (pSeq (pSet 7 (pIx (pVar 2) (pCall psp_draw (pCons (pVar 0) (pCons (pFz (pC (q1 fLen) (pCons (pVar 2) (pNil)))) (pNil))) noX)))
    (pr_lspoilt_2)) (pSeq (pSet 8 (pIx (pLst (pCons (pK (.str " 0123456789-:,+_.apt\n")) (pCons (pCall psp_lsigns (pNil) noX) (pNil)))) (pC (q1 fInt1) (pCons (pEq false (pCall psp_draw (pCons (pVar 0) (pCons (pFz (pK (.int 4))) (pNil))) noX) (pK (.int 0))) (pNil)))))
    (pr_lspoilt_4)))
    (pr_lspoilt_5)
def pr_lspoilt_7 : PSx :=
    pSeq (pSet 3 (pCall psp_draw (pCons (pVar 0) (pCons (pFz (pC (q1 fLen) (pCons (pVar 4) (pNil)))) (pNil))) noX))
    (pr_lspoilt_6)
def pr_lspoilt_8 : PSx :=
    pSeq (pIf (pT (pEq false (pVar 5) (pK (.int 0)))) (pSeq (pSet 6 (pLst (pCons (pK (.str "")) (pCons (pK (.str "paces 1")) (pCons (pK (.str "sorts 2")) (pCons (pK (.str "1 0 : 0 0")) (pCons (pK (.str "0 0 at 5")) (pCons (pK (.str " ")) (pNil)))))))))
    (pr_lspoilt_1)) (pNext))
    (pr_lspoilt_7)
def p_lspoilt : PSx :=
    pSeq (pPar [4, 5] (pCons (pSplit (pVar 1) (pK (.str "\n"))) (pCons (pCall psp_draw (pCons (pVar 0) (pCons (pFz (pK (.int 6))) (pNil))) noX) (pNil))))
    (pr_lspoilt_8)
def psp_lspoilt : PSp := fun as Q _ => ∃ (w : Str) (ws : List Str), as = [.ow true .deal, .im (.str w), .im (.list (ws.map .str))] ∧ AscT w ∧ w.length ≤ 250000 ∧ 0 < ws.length ∧ ws.length ≤ 100 ∧ (∀ x ∈ ws, AscT x ∧ x.length ≤ 4401) ∧ ∀ v, AscT v → v.length ≤ 8 * w.length + 4500 → Q (.im (.str v)) [.ow true .deal, .un, .un]
abbrev sS63 (w : Str) (ws : List Str) (s3 s4 s5 s6 s7 s8 s9 : Sl) : List Sl := [.ow true .deal, .im (.str w), .im (.list (ws.map .str)), s3, s4, s5, s6, s7, s8, s9]
theorem hp_lspoilt (as : List Sl) (Qp : QE) (Ep : EX) (h : psp_lspoilt as Qp Ep) : p_lspoilt (endsP as Qp) (as ++ List.replicate 7 .un) := by
  obtain ⟨w, ws, rfl, aw, wl, w0, w9, wok, q⟩ := h
  have zz : 1000000 + 100 ≤ sizeLine := by decide
  have tn : tl sNl = [10] := by decide +kernel
  have kn : sNl.cps.all (· < 256) = true := by decide +kernel
  have ln : sNl.length = 1 := by decide +kernel
  refine ⟨_, rfl, _, rfl, by decide +kernel, by omega, _, _, rfl, _, rfl, nd1 0, 6, rfl, by decide, by decide, fun f hf => ?_⟩
  simp only [pk0]
  refine ⟨_, _, rfl, ?_⟩
  show pr_lspoilt_8 _ (sS63 w ws .un (.ow false (.lst ((Txt.split w sNl).map .str))) (.im (nD f)) .un .un .un .un)
  obtain ⟨pw, pl⟩ := split_parts (x := w) (y := sNl) (by rw [tn]; simp) kn
  have pn := split_ne w sNl (by rw [tn]; simp) kn
  have ps := split_sum (x := w) (y := sNl) (by rw [tn]; simp) kn
  generalize Txt.split w sNl = R at *
  have aR : ∀ x ∈ R, AscT x ∧ x.length ≤ w.length := fun x hx => ⟨fun c hc => aw c ((pw x hx).2 c hc), (pw x hx).1⟩
  clear pw
  have r1 : 1 ≤ R.length := List.length_pos_iff.mpr pn
  have aN : AscT sNl := by unfold AscT; rw [tn]; decide
  have asc_join : ∀ (y : Str) (es : List Str), AscT y → (∀ e ∈ es, AscT e) → AscT (Txt.join y es) := fun y es hy he c hc => by
    rcases (join_facts y es).2 c hc with z | ⟨e, h1, h2⟩
    · exact hy c z
    · exact he e h1 c h2
  refine ⟨_, rfl, ?_⟩
  show if decide ((f : Int) = 0) = true then _ else _
  by_cases f0 : (f : Int) = 0
  · rw [if_pos (decide_eq_true f0)]
    refine ⟨_, _, rfl, ?_⟩
    show pr_lspoilt_1 _ (sS63 w ws .un (.ow false (.lst (R.map .str))) (.im (nD f)) (.ow false (.lst (more63.map .str))) .un .un .un)
    refine ⟨_, rfl, _, _, rfl, _, _, rfl, _, rfl, nd1 0, 6, rfl, by decide, by decide, fun k hk => ?_⟩
    simp only [pk0]
    have hk : k < 6 := by omega
    obtain ⟨o, ho, ao, lo⟩ := more_get hk
    refine ⟨_, atI_of (j := k) rfl (by rw [List.getElem?_map, ho]; rfl), _, _, rfl, _, rfl, nd1 0, R, o, rfl, by omega, fun es ch => ?_⟩
    have cs := ch.sum
    have cl := ch.len
    refine ⟨es, rfl, ?_, ?_⟩
    · show sumL es + es.length * sNl.length ≤ _
      rw [ln]
      omega
    refine ⟨_, _, rfl, q _ ?_ ?_⟩
    · exact asc_join sNl es aN fun e he => by
        rcases ch.mem e he with h | rfl
        · exact (aR e h).1
        · exact ao
    · have := (join_facts sNl es).1
      rw [ln] at this
      have : (Txt.join sNl es).length ≤ 8 * w.length + 4500 := by omega
      exact this
  rw [if_neg (by rw [decide_eq_true_eq]; exact f0)]
  show pr_lspoilt_7 _ (sS63 w ws .un (.ow false (.lst (R.map .str))) (.im (nD f)) .un .un .un .un)
  refine ⟨_, _, rfl, _, rfl, nd1 0, R.length, by rw [List.length_map], by omega, by omega, fun a ha => ?_⟩
  simp only [pk0]
  refine ⟨_, _, rfl, ?_⟩
  have ha : a < R.length := by omega
  obtain ⟨row, hrow⟩ : ∃ row, R[a]? = some row := ⟨_, List.getElem?_eq_getElem ha⟩
  obtain ⟨ar, rl⟩ := aR row (List.mem_of_getElem? hrow)
  have gr : (R.map PyData.str)[a]? = some (PyData.str row) := by rw [List.getElem?_map, hrow]; rfl
  have fin : ∀ (x : Str) (s7 s8 s9 : Sl), AscT x → x.length ≤ 6 * w.length + 4405 → pr_lspoilt_5 (endsP [.ow true .deal, .im (.str w), .im (.list (ws.map .str))] Qp) (sS63 w ws (.im (nD a)) (.ow false (.lst ((R.map PyData.str).set a (.str x)))) (.im (nD f)) .un s7 s8 s9) := fun x s7 s8 s9 ax xl => by
    rw [← List.map_set]
    have h1 := sumL_set (ss := R) (i := a) (x := x)
    have h2 : (R.set a x).length = R.length := List.length_set
    have h3 : ∀ e ∈ R.set a x, AscT e := fun e he => by
      rcases List.mem_or_eq_of_mem_set he with h | rfl
      · exact (aR e h).1
      · exact ax
    generalize R.set a x = es at h1 h2 h3
    refine ⟨_, rfl, es, rfl, ?_, ?_⟩
    · show sumL es + es.length * sNl.length ≤ _
      rw [ln]
      omega
    refine ⟨_, _, rfl, q _ (asc_join sNl es aN h3) ?_⟩
    have := (join_facts sNl es).1
    rw [ln] at this
    have : (Txt.join sNl es).length ≤ 8 * w.length + 4500 := by omega
    exact this
  show pr_lspoilt_6 _ (sS63 w ws (.im (nD a)) (.ow false (.lst (R.map .str))) (.im (nD f)) .un .un .un .un)
  refine ⟨trivial, _, rfl, ?_⟩
  show if decide ((f : Int) < 4) = true then _ else _
  by_cases f4 : (f : Int) < 4
  · rw [if_pos (decide_eq_true f4)]
    refine ⟨_, _, rfl, _, rfl, nd1 0, ws.length, by rw [List.length_map], by omega, by omega, fun k hk => ?_⟩
    simp only [pk0]
    obtain ⟨o, ho⟩ : ∃ o, ws[k]? = some o := ⟨_, List.getElem?_eq_getElem (by omega)⟩
    obtain ⟨ao, lo⟩ := wok o (List.mem_of_getElem? ho)
    refine ⟨_, atI_of (j := k) rfl (by rw [List.getElem?_map, ho]; rfl), _, _, rfl, ?_⟩
    show pr_lspoilt_2 _ (sS63 w ws (.im (nD a)) (.ow false (.lst (R.map .str))) (.im (nD f)) .un (.im (.str o)) .un .un)
    have tp : tl sSp = [32] := by decide +kernel
    have kp : sSp.cps.all (· < 256) = true := by decide +kernel
    have lp : sSp.length = 1 := by decide +kernel
    obtain ⟨pw, pl2⟩ := split_parts (x := row) (y := sSp) (by rw [tp]; simp) kp
    have ps2 := split_sum (x := row) (y := sSp) (by rw [tp]; simp) kp
    refine ⟨_, rfl, _, atI_of (j := a) rfl gr, _, rfl, _, rfl, by decide +kernel, by omega, _, _, rfl, _, _, rfl, _, rfl, nd1 0, Txt.split row sSp, o, rfl, by omega, fun es ch => ?_⟩
    have cs := ch.sum
    have cl := ch.len
    refine ⟨es, rfl, ?_, ?_⟩
    · show sumL es + es.length * sSp.length ≤ _
      rw [lp]
      omega
    refine ⟨_, _, rfl, ?_⟩
    refine ⟨4, a, false, _, a, rfl, rfl, rfl, ixN_nat (by rw [List.length_map]; exact ha), ?_⟩
    refine fin _ _ _ _ ?_ ?_
    · refine asc_join sSp es (by unfold AscT; rw [tp]; decide) fun e he => ?_
      rcases ch.mem e he with h | rfl
      · exact fun c hc => ar c ((pw e h).2 c hc)
      · exact ao
    · have := (join_facts sSp es).1
      rw [lp] at this
      show (Txt.join sSp es).length ≤ _
      omega
  · rw [if_neg (by rw [decide_eq_true_eq]; exact f4)]
    refine ⟨_, rfl, List.nodup_nil, rfl, ?_⟩
    refine ⟨_, _, rfl, _, rfl, nd1 0, 4, rfl, by decide, by decide, fun g hg => ?_⟩
    simp only [pk0]
    obtain ⟨S, hS, aS, s0, s2⟩ : ∃ S : Str, ([PyData.str signs1, PyData.str signsT])[if decide ((g : Int) = 0) = true then 1 else 0]? = some (.str S) ∧ AscT S ∧ 0 < S.length ∧ S.length ≤ 200 := by
      obtain ⟨⟨a1, a2, a3⟩, b1, b2, b3⟩ := signs_ok
      cases decide ((g : Int) = 0)
      · exact ⟨_, rfl, b1, b2, b3⟩
      · exact ⟨_, rfl, a1, a2, a3⟩
    have hS2 : ∀ i : Int, (i = if decide ((g : Int) = 0) = true then 1 else 0) → (atI [PyData.str signs1, PyData.str signsT] i) = some (.str S) := fun i hi => by
      subst hi
      revert hS
      cases decide ((g : Int) = 0) <;> exact fun h => h
    refine ⟨_, hS2 _ rfl, _, _, rfl, ?_⟩
    show pr_lspoilt_4 _ (sS63 w ws (.im (nD a)) (.ow false (.lst (R.map .str))) (.im (nD f)) .un .un (.im (.str S)) .un)
    refine ⟨by omega, _, _, rfl, _, rfl, nd1 0, S.length, rfl, by omega, by omega, fun k hk => ?_⟩
    simp only [pk0]
    have hk' : k < S.cps.toList.length := by
      have e : S.cps.toList.length = S.length := (len_tl S).symm
      omega
    refine ⟨by omega, _, atI_of (j := k) rfl (List.getElem?_eq_getElem hk'), _, _, rfl, ?_⟩
    have ac := aS _ (List.getElem_mem hk')
    generalize S.cps.toList[k] = c at ac
    show pr_lspoilt_3 _ (sS63 w ws (.im (nD a)) (.ow false (.lst (R.map .str))) (.im (nD f)) .un .un (.im (.str S)) (.im (.str ⟨#[c]⟩)))
    obtain ⟨g1, g2, g3⟩ := sgs_facts row
    refine ⟨_, rfl, _, atI_of (j := a) rfl gr, by omega, _, _, rfl, _, _, rfl, _, rfl, nd1 0, sgs row, ⟨#[c]⟩, rfl, by omega, fun es ch => ?_⟩
    have cs := ch.sum
    have cl := ch.len
    have l1 : (⟨#[c]⟩ : Str).length = 1 := rfl
    have l0 : (Str.ofString "").length = 0 := by decide +kernel
    refine ⟨es, rfl, ?_, ?_⟩
    · show sumL es + es.length * (Str.ofString "").length ≤ _
      rw [l0]
      omega
    refine ⟨_, _, rfl, ?_⟩
    refine ⟨4, a, false, _, a, rfl, rfl, rfl, ixN_nat (by rw [List.length_map]; exact ha), ?_⟩
    refine fin _ _ _ _ ?_ ?_
    · refine asc_join _ es (by unfold AscT; decide +kernel) fun e he => ?_
      rcases ch.mem e he with h | rfl
      · exact fun c hc => ar c (g3 e h c hc)
      · exact fun x hx => by rw [List.mem_singleton.mp (show x ∈ [c] from hx)]; exact ac
    · have := (join_facts (Str.ofString "") es).1
      rw [l0] at this
      show (Txt.join (Str.ofString "") es).length ≤ _
      omega
end Pv
/-! try: e; except C: .. (the error has no name). -/
namespace Pv
open PySem PySem.Spec PyProof.Rows L2 Wf
variable {B : Bas}
/-- try: p; except C: su -/
def pTryO (cat : Addr → Prop) (p : PXx) (su : PSx) : PSx := fun E δ => p δ (fun _ δ1 => E.nx δ1) fun C fs δ' => cat C ∧ su E δ'
theorem js_tryO {X : Cx} {x : Str} {cat : Addr → Prop} {c : Value} {p : PXx} {su : PSx} {s1 : Stmt} {b₀ : Stmt} {suite : List Stmt} {np pos pos' : Pos} (hs : X.stack = X.env :: X.outer) (hf : X.env.frame = some X.env.locals) (hc : Names X x c)
    (hcat : ∀ C, cat C → PySem.W.exmOne X.K (.ref C) c = some true)
    (h1 : ∀ (W : WX) (pn : List (Addr × Obj)) (xe : Value → Shared → Prop), Takes (X.tr pn xe) W → PS (X.tr pn xe) s1 (tDrop (LEx X.K B W p)))
    (hsu : ∀ (a : Addr) (oe : Obj) (cls : Value) (d : Option Addr) (pn : List (Addr × Obj)), Zc cls d oe → (∃ vs, oe.data = .fields vs) → JSs (X.suite a ((a, oe) :: pn)) B (b₀ :: suite) su) :
    JS X B (.Try [s1] [.ExceptHandler (some (.Name x np)) none (b₀ :: suite) pos'] [] [] pos) (pTryO cat p su) := by
  refine PS_wk (ps_try_only (tb := fun W => tDrop (LEx X.K B W p)) (ts := fun a cls d => LS X.K B su) (Wout := fun _ _ _ _ => False) hs hf hc L2.takes0 (fun W pn xe tk _ => pss_one (h1 W pn xe tk)) hsu) fun D σ H ⟨G, w, δ, E, rep, h, ek⟩ => ?_
  refine ⟨G, w, δ, _, _, rep, h, fun r δ1 v H1 G1 w1 q1 s1 rep1 => ek.nx δ1 σ H1 G1 _ q1 (s1.trans .drop) rep1.drop .refl, fun C fs us d δ' H' G' w' hd st rp hg hfl => ?_⟩
  obtain ⟨hc1, hd⟩ := hd
  exact ⟨true, hcat C hc1, fun _ a ha => ⟨G', w', δ', E, rp, hd, ek.later st .refl⟩, fun z => nomatch z⟩
/-- f(), a def without parameters -/
theorem je_cal0 {X : Cx} {k j : Nat} {x : Str} {pn : List Str} {psp : PSp} {p pos : Pos} (C : Cal X.prog X.w X.K X.mg X.base CX0 k x pn (LSp X.K B.T psp)) (hr : Room j X.A) (hg : Gl X x) (hk : k ≤ j := by decide)
    (hdb : (x == ("__debug__" : Str)) = false := by decide) : JE X B (.Call (.Name x p) [] [] pos) (pCall psp pNil noX) := by
  have base : PE X (.Call (.Name x p) [] [] pos) (tCall (LSp X.K B.T psp) [] E0 tNil) := by
    obtain ⟨f, fd, G, m, kp, b⟩ := C.ex
    exact pe_call0 G (hr.mono hk) hg m kp b .nil pass0 hdb
  refine PE_wk base fun σ H Q h => ?_
  have h2 := call_lift (n := 0) (E := E0) xok_no h
  obtain ⟨G, w, δ, Qp, rep, q, k⟩ := h2
  exact k [] δ [] H G _ q rfl .drop rep.drop
end Pv
/-! Texts that are no books: which rows tell what. -/
namespace Pv
open PySem PySem.Spec PyProof.Rows L2 Wf TL
theorem spl_ne61 (S : List Nat) : ∀ (l : List Nat) (k : Nat) (acc : List Nat), spl S k acc l ≠ []
  | [], k, acc => by rw [spl_nil]; simp
  | c :: r, 0, acc => by
    show (if pre S (c :: r) = true then acc :: spl S (S.length - 1) [] r else spl S 0 (acc ++ [c]) r) ≠ []
    split
    · simp
    · exact spl_ne61 S r 0 _
  | c :: r, k + 1, acc => spl_ne61 S r k acc
theorem joinL_cons61 {S p : List Nat} {q : List (List Nat)} (h : q ≠ []) : joinL S (p :: q) = p ++ (S ++ joinL S q) := by
  cases q with
  | nil => exact absurd rfl h
  | cons a b => rfl
theorem join_spl {S : List Nat} (hS : S ≠ []) : ∀ (l : List Nat) (k : Nat) (acc : List Nat), k ≤ l.length → joinL S (spl S k acc l) = acc ++ l.drop k
  | [], 0, acc, _ => by rw [spl_nil]; simp [joinL]
  | [], k + 1, _, h => by simp at h
  | c :: r, 0, acc, _ => by
    show joinL S (if pre S (c :: r) = true then acc :: spl S (S.length - 1) [] r else spl S 0 (acc ++ [c]) r) = _
    split
    · rename_i h
      have e : (c :: r).take S.length = S := beq_iff_eq.mp h
      have ln : S.length ≤ (c :: r).length := by
        have := congrArg List.length e
        rw [List.length_take] at this
        omega
      have dr : r.drop (S.length - 1) = (c :: r).drop S.length := by
        cases S with
        | nil => exact absurd rfl hS
        | cons a b => rfl
      have td := List.take_append_drop S.length (c :: r)
      rw [e] at td
      rw [joinL_cons61 (spl_ne61 _ _ _ _), join_spl hS r (S.length - 1) [] (by simp at ln ⊢; omega), List.nil_append, dr, td]
      rfl
    · rw [join_spl hS r 0 (acc ++ [c]) (Nat.zero_le _)]
      simp
  | c :: r, k + 1, acc, h => by
    show joinL S (spl S k acc r) = _
    rw [join_spl hS r k acc (by simpa using h)]
    rfl
theorem join_split {x y : Str} (hy : tl y ≠ []) (hk : y.cps.all (· < 256) = true) : Txt.join y (Txt.split x y) = x := by
  refine ext_tl ?_
  rw [join_eq, tl_join, split_spl x y hy (kind_ok hk), join_spl hy _ 0 [] (Nat.zero_le _)]
  rfl
theorem starts_split {a b : Str} (h : Txt.startswith a b = true) : a = b ++ Txt.removeprefix a b := by
  have st := h
  unfold Txt.startswith at st
  refine ext_tl ?_
  rw [tl_append]
  have e2 : tl (Txt.removeprefix a b) = (tl a).drop (tl b).length := by
    rw [PySem.StrLaws.removeprefix_eq, if_pos st]
    show ((tl a).drop b.length).take _ = _
    rw [len_tl b]
    exact List.take_of_length_le (by rw [List.length_drop, len_tl a]; omega)
  rw [e2]
  rw [PySem.StrLaws.subAt_eq, List.drop_zero] at st
  have e1 : (tl a).take (tl b).length = tl b := by
    rw [Bool.and_eq_true] at st
    have := beq_iff_eq.mp st.2
    rw [len_tl b] at this
    exact this
  have := List.take_append_drop (tl b).length (tl a)
  rw [e1] at this
  exact this.symm
/-! ### paces -/
def riseO : Int → List (Option Int) → Option (List Int)
  | _, [] => some []
  | _, none :: _ => none
  | lo, some p :: r => if lo ≤ p ∧ p ≤ 1000 then (riseO (p + 1) r).map (p :: ·) else none
def okP (os : List (Option Int)) : Option (List Int) := if 1 ≤ os.length ∧ os.length ≤ 5 then riseO (-1000) os else none
theorem riseO_some : ∀ {os : List (Option Int)} {lo : Int} {ps : List Int}, riseO lo os = some ps → os = ps.map some ∧ ps.Pairwise (· < ·) ∧ ∀ p ∈ ps, lo ≤ p ∧ p ≤ 1000
  | [], lo, ps, h => by
    cases h
    exact ⟨rfl, .nil, nofun⟩
  | none :: r, lo, ps, h => by cases h
  | some p :: r, lo, ps, h => by
    unfold riseO at h
    split at h
    · rename_i c
      obtain ⟨qs, hq, rfl⟩ := Option.map_eq_some_iff.mp h
      obtain ⟨e, pw, b⟩ := riseO_some hq
      refine ⟨by rw [e]; rfl, List.pairwise_cons.mpr ⟨fun x hx => by have := (b x hx).1; omega, pw⟩, fun x hx => ?_⟩
      rcases List.mem_cons.mp hx with rfl | hx
      · exact c
      · have := b x hx
        omega
    · cases h
theorem riseO_of : ∀ {ps : List Int} {lo : Int}, ps.Pairwise (· < ·) → (∀ p ∈ ps, lo ≤ p ∧ p ≤ 1000) → riseO lo (ps.map some) = some ps
  | [], _, _, _ => rfl
  | p :: ps, lo, pw, b => by
    obtain ⟨h1, h2⟩ := List.pairwise_cons.mp pw
    have bp := b p List.mem_cons_self
    show (if lo ≤ p ∧ p ≤ 1000 then (riseO (p + 1) (ps.map some)).map (p :: ·) else none) = _
    rw [if_pos bp, riseO_of h2 fun x hx => by
      have := h1 x hx
      have := b x (List.mem_cons_of_mem _ hx)
      omega]
    rfl
theorem okP_some {os : List (Option Int)} {ps : List Int} (h : okP os = some ps) : os = ps.map some ∧ PacesOk (ps.length : Int) ps ∧ 1 ≤ ps.length ∧ ps.length ≤ 5 := by
  unfold okP at h
  split at h
  · rename_i c
    obtain ⟨e, pw, b⟩ := riseO_some h
    rw [e, List.length_map] at c
    exact ⟨e, ⟨rfl, pw, b⟩, c⟩
  · cases h
theorem okP_of {ps : List Int} (l1 : 1 ≤ ps.length) (l5 : ps.length ≤ 5) (pw : ps.Pairwise (· < ·)) (b : ∀ p ∈ ps, -1000 ≤ p ∧ p ≤ 1000) : okP (ps.map some) = some ps := by
  unfold okP
  rw [if_pos (by rw [List.length_map]; exact ⟨l1, l5⟩)]
  exact riseO_of pw b
/-- what a row of paces tells -/
noncomputable def pacR (ws : List Str) : Option (List Int) := if ws.head? = some sPc then okP (ws.tail.map fun w => flt (-1000) 1000 (numW w)) else none
noncomputable def sortR (ws : List Str) : Option Int := match ws with
  | [a, b] => if a = sSo then flt 1 6 (numW b) else none
  | _ => none
theorem sortR_in {ws : List Str} {s : Int} (h : sortR ws = some s) : 1 ≤ s ∧ s ≤ 6 := by
  unfold sortR at h
  split at h
  · split at h
    · exact (flt_some.mp h).2
    · cases h
  · cases h
def dIo : Option (List Int) → PyData
  | none => .none
  | some ps => dI ps
/-! ### tables -/
open Classical in
noncomputable def tabR (row : Str) (q : Wk) (s : Int) : Option Tab := if h : ∃ t, TabOk s t ∧ row = rowT (q, t) then some h.choose else none
theorem tabR_ok {row : Str} {q : Wk} {s : Int} {t : Tab} (h : tabR row q s = some t) : TabOk s t ∧ row = rowT (q, t) := by
  unfold tabR at h
  split at h
  · rename_i z
    cases h
    exact z.choose_spec
  · cases h
theorem tabR_some {row : Str} {q : Wk} {s : Int} {t : Tab} (s1 : 1 ≤ s) (s6 : s ≤ 6) (ok : TabOk s t) (e : row = rowT (q, t)) : tabR row q s = some t := by
  unfold tabR
  rw [dif_pos ⟨t, ok, e⟩]
  have z := Exists.choose_spec (⟨t, ok, e⟩ : ∃ t, TabOk s t ∧ row = rowT (q, t))
  generalize Exists.choose (⟨t, ok, e⟩ : ∃ t, TabOk s t ∧ row = rowT (q, t)) = u at z
  congr 1
  have e2 : headT q ++ pairsT u = headT q ++ pairsT t := by
    have := z.2
    rw [e] at this
    exact this.symm
  have a := rem_app (headT q) (pairsT u)
  rw [e2, rem_app] at a
  exact pairsT_inj z.1 ok s1 s6 a.symm
theorem tabR_none {row : Str} {q : Wk} {s : Int} (h : ∀ t, TabOk s t → row ≠ rowT (q, t)) : tabR row q s = none := by
  unfold tabR
  rw [dif_neg fun ⟨t, a, b⟩ => h t a b]
def dTo : Option Tab → PyData
  | none => .none
  | some t => dT t
/-- the words of a pair -/
def isP61 (s : Int) : List (Option Int) → Bool
  | [some a, some b] => decide (0 ≤ a) && decide (a ≤ s - 1) && (decide (0 ≤ b) && decide (b ≤ s - 1))
  | _ => false
noncomputable def wds (s : Int) (c : Str) : List (Option Int) := (Txt.split c sSp).map fun w => flt 0 (s - 1) (numW w)
/-- what the program makes of the rest of a row -/
theorem pair_of61 {s : Int} {c : Str} (h : isP61 s (wds s c) = true) : ∃ p : Wk, InP s p ∧ c = pairT p ∧ wds s c = [some p.1, some p.2] := by
  unfold isP61 at h
  split at h
  · rename_i a b e
    simp only [Bool.and_eq_true, decide_eq_true_eq] at h
    refine ⟨(a, b), ⟨h.1.1, by omega, h.2.1, by omega⟩, ?_, e⟩
    have js := join_split (x := c) (y := sSp) (by rw [tl_sp]; simp) (by decide +kernel)
    unfold wds at e
    rcases hs : Txt.split c sSp with _ | ⟨u, _ | ⟨v, _ | ⟨w, r⟩⟩⟩
    · rw [hs] at e; simp at e
    · rw [hs] at e; simp at e
    · rw [hs] at e js
      simp only [List.map_cons, List.map_nil, List.cons.injEq, and_true] at e
      have h1 := numW_some.mp (flt_some.mp e.1).1
      have h2 := numW_some.mp (flt_some.mp e.2).1
      rw [← js, h1.1, h2.1]
      rfl
    · rw [hs] at e; simp at e
  · cases h
theorem wds_pair {s : Int} {p : Wk} (ip : InP s p) (s6 : s ≤ 6) : wds s (pairT p) = [some p.1, some p.2] ∧ isP61 s (wds s (pairT p)) = true := by
  obtain ⟨m1, m2⟩ := inp_sml ip s6
  obtain ⟨a0, a1, b0, b1⟩ := ip
  have e : wds s (pairT p) = [some p.1, some p.2] := by
    unfold wds
    rw [pair_split]
    show [flt 0 (s - 1) (numW (tI p.1)), flt 0 (s - 1) (numW (tI p.2))] = _
    rw [flt_some.mpr ⟨numW_some.mpr ⟨rfl, m1⟩, a0, by omega⟩, flt_some.mpr ⟨numW_some.mpr ⟨rfl, m2⟩, b0, by omega⟩]
  refine ⟨e, ?_⟩
  rw [e]
  simp [isP61, a0, b0]
  omega
def chunks (row : Str) (q : Wk) : List Str := Txt.split (Txt.removeprefix row (headT q)) sCm
/-- the row tells a table just when it starts rightly and its parts are pairs -/
theorem table_yes {row : Str} {q : Wk} {s : Int} (s1 : 1 ≤ s) (s6 : s ≤ 6) (hst : Txt.startswith row (headT q) = true) (hl : ((chunks row q).length : Int) = s * s) (ha : ∀ c ∈ chunks row q, isP61 s (wds s c) = true) :
    ∃ t, tabR row q s = some t ∧ (chunks row q).map (fun c => PyData.tuple ((wds s c).map optD)) = t.map dP := by
  have main : ∀ cs : List Str, (∀ c ∈ cs, isP61 s (wds s c) = true) → ∃ t : Tab, (∀ p ∈ t, InP s p) ∧ cs = t.map pairT ∧ cs.map (fun c => PyData.tuple ((wds s c).map optD)) = t.map dP := fun cs => by
    induction cs with
    | nil => intro _; exact ⟨[], nofun, rfl, rfl⟩
    | cons c cs ih =>
      intro h
      obtain ⟨t, h1, h2, h3⟩ := ih fun x hx => h x (List.mem_cons_of_mem _ hx)
      obtain ⟨p, ip, ec, ew⟩ := pair_of61 (h c List.mem_cons_self)
      refine ⟨p :: t, fun x hx => ?_, by rw [h2, ec]; rfl, ?_⟩
      · rcases List.mem_cons.mp hx with rfl | hx
        · exact ip
        · exact h1 x hx
      · rw [List.map_cons, h3, ew]
        rfl
  obtain ⟨t, h1, h2, h3⟩ := main _ ha
  have tl : (t.length : Int) = s * s := by
    rw [h2, List.length_map] at hl
    exact hl
  refine ⟨t, tabR_some s1 s6 ⟨tl, h1⟩ ?_, h3⟩
  have e := starts_split hst
  have js := join_split (x := Txt.removeprefix row (headT q)) (y := sCm) (by rw [tl_cm]; simp) (by decide +kernel)
  show row = headT q ++ Txt.join sCm (t.map pairT)
  rw [← h2]
  unfold chunks
  rw [js]
  exact e
theorem table_ok {q : Wk} {s : Int} {t : Tab} (s1 : 1 ≤ s) (s6 : s ≤ 6) (ok : TabOk s t) : Txt.startswith (rowT (q, t)) (headT q) = true ∧ ((chunks (rowT (q, t)) q).length : Int) = s * s ∧ ∀ c ∈ chunks (rowT (q, t)) q, isP61 s (wds s c) = true := by
  have ec : chunks (rowT (q, t)) q = t.map pairT := by
    unfold chunks
    rw [show Txt.removeprefix (rowT (q, t)) (headT q) = pairsT t from rem_app _ _, pairs_split (tab_ne ok s1)]
  refine ⟨starts_app _ _, by rw [ec, List.length_map]; exact ok.len, fun c hc => ?_⟩
  rw [ec] at hc
  obtain ⟨p, hp, rfl⟩ := List.mem_map.mp hc
  exact (wds_pair (ok.inn p hp) s6).2
theorem table_no {row : Str} {q : Wk} {s : Int} (s1 : 1 ≤ s) (s6 : s ≤ 6) (h : ¬ (Txt.startswith row (headT q) = true ∧ ((chunks row q).length : Int) = s * s ∧ ∀ c ∈ chunks row q, isP61 s (wds s c) = true)) : tabR row q s = none :=
  tabR_none fun t ok e => h (by rw [e]; exact table_ok s1 s6 ok)
end Pv
/-! Texts that are no books: the program's parts. -/
namespace Pv
open PySem PySem.Spec PyProof.Rows L2 Wf TL
/-! ### look_paces -/
def psp_look_paces61 (cNoBook : Addr) : PSp := fun as Q Ep => ∃ os : List (Option Int), as = [.im (.tuple (os.map optD))] ∧ os.length ≤ 10000 ∧ (∀ ps, okP os = some ps → Q (.im .none) [.un]) ∧ (okP os = none → ∀ fs, Ep cNoBook fs)
-- DEF look_paces N ['paces', 'least', 'k', 'pace'] calls ['is_whole'] takes ['cNoBook', 'Ep']
def pr_look_paces61_1 : PSx :=
    pSet 1 (pAdd (pVar 3) (pK (.int 1)))
def pb_look_paces61_2 (cNoBook : Addr) (Ep : EX) : PSx :=
    pSeq (pIf (pNot (pT (pCall psp_is_whole (pCons (pFz (pVar 3)) (pCons (pFz (pVar 1)) (pCons (pFz (pK (.int 1000))) (pNil)))) noX))) (pRaise cNoBook ["word", "at"] (pCons (pFz (pK (.str "paces"))) (pCons (pFz (pVar 2)) (pNil))) Ep) (pNext))
    (pr_look_paces61_1)
def pr_look_paces61_2 (cNoBook : Addr) (Ep : EX) : PSx :=
    pFor [2, 3] (iEn (pCons (pVar 0) (pNil))) (gT 2 (gsC (gN 2) (gsC (gN 3) (gsN)))) (pb_look_paces61_2 cNoBook Ep)
def pr_look_paces61_3 (cNoBook : Addr) (Ep : EX) : PSx :=
    pSeq (pSet 1 (pNeg (pK (.int 1000))))
    (pr_look_paces61_2 cNoBook Ep)
def p_look_paces61 (cNoBook : Addr) (Ep : EX) : PSx :=
    pSeq (pIf (pOr (pNot (pT (pIsi "tuple" (pVar 0)))) (pNot (pT (pChain qLeD qLeD (pK (.int 1)) (pC (q1 fLen) (pCons (pVar 0) (pNil))) (pK (.int 5)))))) (pRaise cNoBook ["word", "at"] (pCons (pFz (pK (.str "paces"))) (pCons (pFz (pK (.int 0))) (pNil))) Ep) (pNext))
    (pr_look_paces61_3 cNoBook Ep)
theorem noL_pc (x : Int) : noLAll [.str (Str.ofString "paces"), .int x] = true := by
  simp [noLAll, noL]
  decide +kernel
theorem isWh_opt (lo hi : Int) (o : Option Int) : isWh lo hi (optD o) = match o with | none => false | some i => decide (lo ≤ i) && decide (i ≤ hi) := by cases o <;> rfl
theorem hp_look_paces61 (cNoBook : Addr) (as : List Sl) (Qp : QE) (Ep : EX) (h : psp_look_paces61 cNoBook as Qp Ep) : p_look_paces61 cNoBook Ep (endsP as Qp) (as ++ List.replicate 3 .un) := by
  obtain ⟨os, rfl, ol, qy, qn⟩ := h
  have el : ((os.map optD).length : Int) = (os.length : Int) := by rw [List.length_map]
  have main : 1 ≤ os.length ∧ os.length ≤ 5 → pr_look_paces61_3 cNoBook Ep (endsP [.im (.tuple (os.map optD))] Qp) [.im (.tuple (os.map optD)), .un, .un, .un] := fun c => by
    have eo : okP os = riseO (-1000) os := by unfold okP; rw [if_pos c]
    rw [eo] at qy qn
    generalize hR : riseO (-1000) os = R at qy qn
    refine ⟨_, _, rfl, ?_⟩
    show pr_look_paces61_2 cNoBook Ep _ [.im (.tuple (os.map optD)), .im (.int (-1000)), .un, .un]
    refine ⟨_, _, _, rfl, rfl, ?_⟩
    refine ⟨fun i δ => ∃ lo : Int, (riseO lo (os.drop i)).isSome = R.isSome ∧ δ = [.im (.tuple (os.map optD)), .im (.int lo), .un, .un], ⟨-1000, by rw [List.drop_zero, hR], rfl⟩, ?_, ?_⟩
    · rintro i d δ hd ⟨lo, hlo, rfl⟩
      rw [enD_get, List.getElem?_map, Option.map_map] at hd
      obtain ⟨p, hp, rfl⟩ := Option.map_eq_some_iff.mp hd
      have hi := (List.getElem?_eq_some_iff.mp hp).1
      have ed : os.drop i = p :: os.drop (i + 1) := by
        rw [List.drop_eq_getElem_cons hi, (List.getElem?_eq_some_iff.mp hp).2]
      rw [ed] at hlo
      refine ⟨rfl, rfl, ?_⟩
      refine ⟨_, _, rfl, _, _, rfl, _, _, rfl, _, rfl, List.nodup_nil, optD p, lo, 1000, rfl, ?_⟩
      rw [isWh_opt]
      cases p with
      | none =>
        refine ⟨false, rfl, ?_⟩
        show if (!false) = true then _ else _
        rw [if_pos (by decide)]
        have : R = none := by
          have : R.isSome = false := hlo.symm
          cases R with
          | none => rfl
          | some x => cases this
        exact ⟨_, _, rfl, _, _, rfl, _, _, rfl, noL_pc _, qn this _⟩
      | some p =>
        dsimp only
        by_cases c : lo ≤ p ∧ p ≤ 1000
        · rw [decide_eq_true c.1, decide_eq_true c.2]
          refine ⟨true, rfl, ?_⟩
          show if (!true) = true then _ else _
          rw [if_neg (by decide)]
          refine ⟨_, _, rfl, p + 1, ?_, rfl⟩
          rw [← hlo]
          show _ = (if lo ≤ p ∧ p ≤ 1000 then (riseO (p + 1) (os.drop (i + 1))).map (p :: ·) else none).isSome
          rw [if_pos c, Option.isSome_map]
        · have e : (decide (lo ≤ p) && decide (p ≤ 1000)) = false := by
            rw [Bool.and_eq_false_iff, decide_eq_false_iff_not, decide_eq_false_iff_not]
            omega
          rw [e]
          refine ⟨false, rfl, ?_⟩
          show if (!false) = true then _ else _
          rw [if_pos (by decide)]
          have : R = none := by
            have z : (if lo ≤ p ∧ p ≤ 1000 then (riseO (p + 1) (os.drop (i + 1))).map (p :: ·) else none).isSome = R.isSome := hlo
            rw [if_neg c] at z
            cases R with
            | none => rfl
            | some x => cases z
          exact ⟨_, _, rfl, _, _, rfl, _, _, rfl, noL_pc _, qn this _⟩
    · rintro δ ⟨lo, hlo, rfl⟩
      rw [enD_len, List.length_map, List.drop_length] at hlo
      cases R with
      | none => cases hlo
      | some x => exact qy x rfl
  have no : ¬ (1 ≤ os.length ∧ os.length ≤ 5) → okP os = none := fun c => by unfold okP; rw [if_neg c]
  refine ⟨_, rfl, _, rfl, ?_⟩
  show if (!true) = true then _ else _
  rw [if_neg (by decide)]
  refine ⟨_, rfl, trivial, _, rfl, ?_⟩
  show if decide ((1 : Int) ≤ ((os.map optD).length : Int)) = true then _ else _
  rw [el]
  by_cases c1 : 1 ≤ os.length
  rotate_left
  · rw [if_neg (by rw [decide_eq_true_eq]; omega)]
    refine ⟨false, rfl, ?_⟩
    show if (!false) = true then _ else _
    rw [if_pos (by decide)]
    exact ⟨_, _, rfl, _, _, rfl, _, _, rfl, noL_pc _, qn (no fun z => c1 z.1) _⟩
  rw [if_pos (by rw [decide_eq_true_eq]; omega)]
  refine ⟨trivial, _, rfl, ?_⟩
  show if (!decide ((os.length : Int) ≤ 5)) = true then _ else _
  by_cases c5 : os.length ≤ 5
  rotate_left
  · rw [decide_eq_false (by omega), if_pos (by decide)]
    exact ⟨_, _, rfl, _, _, rfl, _, _, rfl, noL_pc _, qn (no fun z => c5 z.2) _⟩
  rw [decide_eq_true (by omega), if_neg (by decide)]
  exact main ⟨c1, c5⟩
/-! ### is_pair -/
-- DEF is_pair N ['thing', 'sorts', 'first', 'second'] calls ['is_tuple_of', 'is_whole'] takes []
def pr_is_pair61_1 : PSx :=
    pRet (pAndV (pCall psp_is_whole (pCons (pFz (pVar 2)) (pCons (pFz (pK (.int 0))) (pCons (pFz (pSub (pVar 1) (pK (.int 1)))) (pNil)))) noX) (pCall psp_is_whole (pCons (pFz (pVar 3)) (pCons (pFz (pK (.int 0))) (pCons (pFz (pSub (pVar 1) (pK (.int 1)))) (pNil)))) noX))
def pr_is_pair61_2 : PSx :=
    pSeq (pAsg (pVar 0) (gT 2 (gsC (gN 2) (gsC (gN 3) (gsN)))))
    (pr_is_pair61_1)
def p_is_pair61 : PSx :=
    pSeq (pIf (pNot (pT (pCall psp_is_tuple_of (pCons (pFz (pVar 0)) (pCons (pFz (pK (.int 2))) (pNil))) noX))) (pRet (pK (.bool false))) (pNext))
    (pr_is_pair61_2)
def psp_is_pair61 : PSp := fun as Q _ => ∃ (os : List (Option Int)) (s : Int), as = [.im (.tuple (os.map optD)), .im (.int s)] ∧ Q (.im (.bool (isP61 s os))) [.un, .un]
theorem isP_len {s : Int} {os : List (Option Int)} (h : os.length ≠ 2) : isP61 s os = false := by
  unfold isP61
  split
  · simp at h
  · rfl
theorem isP_two (s : Int) (a b : Option Int) : isP61 s [a, b] = (isWh 0 (s - 1) (optD a) && isWh 0 (s - 1) (optD b)) := by
  cases a <;> cases b <;> simp [isP61, isWh_opt]
theorem hp_is_pair61 (as : List Sl) (Qp : QE) (Ep : EX) (h : psp_is_pair61 as Qp Ep) : p_is_pair61 (endsP as Qp) (as ++ List.replicate 2 .un) := by
  obtain ⟨os, s, rfl, q⟩ := h
  refine ⟨_, _, rfl, _, _, rfl, _, rfl, List.nodup_nil, .tuple (os.map optD), 2, rfl, ?_⟩
  have e : isTu 2 (.tuple (os.map optD)) = decide (os.length = 2) := by
    show decide (((os.map optD).length : Int) = 2) = _
    rw [List.length_map]
    by_cases h : os.length = 2
    · rw [decide_eq_true h, decide_eq_true (by omega)]
    · rw [decide_eq_false h, decide_eq_false (by omega)]
  rw [e]
  by_cases h : os.length = 2
  rotate_left
  · rw [decide_eq_false h]
    rw [isP_len h] at q
    refine ⟨false, rfl, ?_⟩
    show if (!false) = true then _ else _
    rw [if_pos (by decide)]
    exact ⟨_, _, rfl, q⟩
  rw [decide_eq_true h]
  refine ⟨true, rfl, ?_⟩
  show if (!true) = true then _ else _
  rw [if_neg (by decide)]
  obtain ⟨a, b, rfl⟩ : ∃ a b, os = [a, b] := by
    rcases os with _ | ⟨a, _ | ⟨b, _ | ⟨c, r⟩⟩⟩
    · simp at h
    · simp at h
    · exact ⟨a, b, rfl⟩
    · simp at h
  rw [isP_two] at q
  refine ⟨_, _, rfl, rfl, rfl, ?_⟩
  show pr_is_pair61_1 _ [.im (.tuple [optD a, optD b]), .im (.int s), .im (optD a), .im (optD b)]
  refine ⟨_, _, rfl, _, _, rfl, trivial, _, _, rfl, _, rfl, List.nodup_nil, optD a, 0, s - 1, rfl, ?_⟩
  generalize isWh 0 (s - 1) (optD a) = x at q
  cases x with
  | false =>
    refine ⟨false, rfl, ?_⟩
    rw [if_neg (by decide)]
    exact ⟨_, _, rfl, q⟩
  | true =>
  refine ⟨true, rfl, ?_⟩
  rw [if_pos rfl]
  exact ⟨_, _, rfl, _, _, rfl, trivial, _, _, rfl, _, rfl, List.nodup_nil, optD b, 0, s - 1, rfl, _, _, rfl, q⟩
/-! ### row_at, sorts_in, pair_in -/
-- DEF row_at N ['rows', 'at'] calls [] takes []
def p_row_at61 : PSx :=
    pRet (pIfE (pT (pLt (pVar 1) (pC (q1 fLen) (pCons (pVar 0) (pNil))))) (pIx (pVar 0) (pVar 1)) (pK (.str "")))
def psp_row_at61 : PSp := fun as Q _ => ∃ (R : List Str) (i : Nat), as = [.im (.list (R.map .str)), .im (nD i)] ∧ Q (.im (.str (R.getD i Str.empty))) [.un, .un]
theorem hp_row_at61 (as : List Sl) (Qp : QE) (Ep : EX) (h : psp_row_at61 as Qp Ep) : p_row_at61 (endsP as Qp) (as ++ List.replicate 0 .un) := by
  obtain ⟨R, i, rfl, q⟩ := h
  refine ⟨trivial, _, rfl, ?_⟩
  show if decide ((i : Int) < ((R.map PyData.str).length : Int)) = true then _ else _
  by_cases hi : i < R.length
  · rw [if_pos (by rw [decide_eq_true_eq, List.length_map]; omega)]
    have hx : R[i]? = some (R.getD i Str.empty) := by
      rw [List.getD_eq_getElem?_getD, List.getElem?_eq_getElem hi]
      rfl
    exact ⟨_, atI_of (j := i) rfl (by rw [List.getElem?_map, hx]; rfl), _, _, rfl, q⟩
  · rw [if_neg (by rw [decide_eq_true_eq, List.length_map]; omega)]
    have e : R.getD i Str.empty = Str.empty := by
      rw [List.getD_eq_getElem?_getD, List.getElem?_eq_none (by omega)]
      rfl
    rw [e] at q
    exact ⟨_, _, rfl, q⟩
theorem words_some (row : Str) : ∃ a r, Txt.split row sSp = a :: r := by
  cases h : Txt.split row sSp with
  | nil => exact absurd h (split_ne _ _ (by rw [tl_sp]; simp) (by decide +kernel))
  | cons a r => exact ⟨a, r, rfl⟩
theorem words_parts (row : Str) : (∀ w ∈ Txt.split row sSp, w.length ≤ row.length ∧ ∀ c ∈ tl w, c ∈ tl row) ∧ (Txt.split row sSp).length ≤ row.length + 1 := split_parts (by rw [tl_sp]; simp) (by decide +kernel)
-- DEF sorts_in N ['row', 'name', 'words'] calls ['number_in'] takes []
def pr_sorts_in61_1 : PSx :=
    pRet (pCall psp_number_in63 (pCons (pFz (pIx (pVar 2) (pK (.int 0)))) (pCons (pFz (pK (.int 1))) (pCons (pFz (pK (.int 6))) (pNil)))) noX)
def pr_sorts_in61_2 : PSx :=
    pSeq (pIf (pOr (pT (pEq true (pVar 1) (pK (.str "sorts")))) (pT (pEq true (pC (q1 fLen) (pCons (pVar 2) (pNil))) (pK (.int 1))))) (pRet (pK .none)) (pNext))
    (pr_sorts_in61_1)
def p_sorts_in61 : PSx :=
    pSeq (pAsg (pSplit (pVar 0) (pK (.str " "))) (gStr (gsC (gN 1) (gsC (gN 2) (gsN)))))
    (pr_sorts_in61_2)
def psp_sorts_in61 : PSp := fun as Q _ => ∃ row : Str, as = [.im (.str row)] ∧ row.length ≤ 6000 ∧ Q (.im (optD (sortR (Txt.split row sSp)))) [.un]
theorem hp_sorts_in61 (as : List Sl) (Qp : QE) (Ep : EX) (h : psp_sorts_in61 as Qp Ep) : p_sorts_in61 (endsP as Qp) (as ++ List.replicate 2 .un) := by
  obtain ⟨row, rfl, rl, q⟩ := h
  have z : 10000 < sizeLine := by decide
  obtain ⟨a, r, e⟩ := words_some row
  obtain ⟨w1, w2⟩ := words_parts row
  rw [e] at q w1 w2
  simp only [List.length_cons] at w2
  refine ⟨_, rfl, _, rfl, by decide +kernel, by omega, _, _, rfl, ?_⟩
  rw [e]
  refine ⟨by rw [List.length_map]; omega, rfl, ?_⟩
  show pr_sorts_in61_2 _ [.im (.str row), .im (.str a), .im (.list (r.map .str))]
  refine ⟨_, rfl, ?_⟩
  show if (!decide (a = sSo)) = true then _ else _
  by_cases c : a = sSo
  rotate_left
  · rw [decide_eq_false c, if_pos (by decide)]
    have : sortR (a :: r) = none := by
      unfold sortR
      split
      · rename_i h; cases h; rw [if_neg c]
      · rfl
    rw [this] at q
    exact ⟨_, _, rfl, q⟩
  rw [decide_eq_true c, if_neg (by decide)]
  refine ⟨_, rfl, ?_⟩
  show if (!decide (((r.map PyData.str).length : Int) = 1)) = true then _ else _
  rcases r with _ | ⟨b, _ | ⟨d, r⟩⟩
  · rw [if_pos (by decide)]
    exact ⟨_, _, rfl, q⟩
  · rw [if_neg (by show ¬ (!decide ((1 : Int) = 1)) = true; decide)]
    have : sortR [a, b] = flt 1 6 (numW b) := by
      show (if a = sSo then _ else _) = _
      rw [if_pos c]
    rw [this] at q
    have bl := (w1 b (by simp)).1
    exact ⟨_, atI_of (j := 0) rfl rfl, _, _, rfl, _, _, rfl, _, _, rfl, _, rfl, List.nodup_nil, b, 1, 6, rfl, by omega, _, _, rfl, q⟩
  · rw [decide_eq_false (by rw [List.length_map, List.length_cons, List.length_cons]; omega), if_pos (by decide)]
    exact ⟨_, _, rfl, q⟩
-- DEF pair_in N ['words', 'sorts', 'word'] calls ['number_in'] takes []
def pe_pair_in61_1 : PX :=
    pCall psp_number_in63 (pCons (pFz (pVar 2)) (pCons (pFz (pK (.int 0))) (pCons (pFz (pSub (pVar 1) (pK (.int 1)))) (pNil)))) noX
def p_pair_in61 : PSx :=
    pRet (pC (q1 fTupleOf) (pCons (pComp (iSeq (pSplit (pVar 0) (pK (.str " ")))) (gN 2) (pYes) (pe_pair_in61_1) [2]) (pNil)))
def psp_pair_in61 : PSp := fun as Q _ => ∃ (c : Str) (s : Int), as = [.im (.str c), .im (.int s)] ∧ c.length ≤ 6000 ∧ Q (.im (.tuple ((wds s c).map optD))) [.un, .un]
theorem hp_pair_in61 (as : List Sl) (Qp : QE) (Ep : EX) (h : psp_pair_in61 as Qp Ep) : p_pair_in61 (endsP as Qp) (as ++ List.replicate 1 .un) := by
  obtain ⟨c, s, rfl, cl, q⟩ := h
  have z : 10000 < sizeLine := by decide
  obtain ⟨w1, w2⟩ := words_parts c
  unfold wds at q
  refine ⟨_, rfl, _, rfl, by decide +kernel, by omega, ?_⟩
  generalize Txt.split c sSp = ws at *
  refine ⟨_, _, _, rfl, rfl, noPin1 (fun o => nofun), fun j acc δ => acc = ((ws.take j).map fun w => flt 0 (s - 1) (numW w)).map optD ∧ δ = [.im (.str c), .im (.int s), .un], ⟨rfl, rfl⟩, ?_, ?_⟩
  · rintro j d acc δ hd ⟨rfl, rfl⟩
    rw [List.getElem?_map] at hd
    obtain ⟨w, hw, rfl⟩ := Option.map_eq_some_iff.mp hd
    have hj := (List.getElem?_eq_some_iff.mp hw).1
    have wl := (w1 w (List.mem_of_getElem? hw)).1
    refine ⟨_, _, rfl, _, _, rfl, trivial, _, _, rfl, _, rfl, List.nodup_nil, w, 0, s - 1, rfl, by omega, _, _, rfl, ?_, ?_, rfl⟩
    · rw [List.length_map, List.length_map, List.length_take]
      omega
    · rw [List.take_add_one, hw, Option.toList_some, List.map_append, List.map_append]
      rfl
  · rintro acc δ ⟨rfl, rfl⟩
    rw [List.length_map, List.take_length]
    exact ⟨_, _, rfl, q⟩
/-! ### paces_in -/
-- DEF paces_in N ['row', 'paces', 'name', 'words', 'word'] calls ['number_in', 'look_paces'] takes ['cNoBook']
def pe_paces_in61_1 : PX :=
    pCall psp_number_in63 (pCons (pFz (pVar 4)) (pCons (pFz (pNeg (pK (.int 1000)))) (pCons (pFz (pK (.int 1000))) (pNil)))) noX
def pr_paces_in61_1 : PSx :=
    pRet (pVar 1)
def pr_paces_in61_2 (cNoBook : Addr) : PSx :=
    pSeq (pTryO (fun C => C = cNoBook) (xCall (psp_look_paces61 cNoBook) (pCons (pFz (pVar 1)) (pNil))) (pRet (pK .none)))
    (pr_paces_in61_1)
def pr_paces_in61_3 (cNoBook : Addr) : PSx :=
    pSeq (pSet 1 (pC (q1 fTupleOf) (pCons (pComp (iSeq (pVar 3)) (gN 4) (pYes) (pe_paces_in61_1) [4]) (pNil))))
    (pr_paces_in61_2 cNoBook)
def pr_paces_in61_4 (cNoBook : Addr) : PSx :=
    pSeq (pIf (pT (pEq true (pVar 2) (pK (.str "paces")))) (pRet (pK .none)) (pNext))
    (pr_paces_in61_3 cNoBook)
def p_paces_in61 (cNoBook : Addr) : PSx :=
    pSeq (pAsg (pSplit (pVar 0) (pK (.str " "))) (gStr (gsC (gN 2) (gsC (gN 3) (gsN)))))
    (pr_paces_in61_4 cNoBook)
def psp_paces_in61 : PSp := fun as Q _ => ∃ row : Str, as = [.im (.str row)] ∧ row.length ≤ 6000 ∧ Q (.im (dIo (pacR (Txt.split row sSp)))) [.un]
theorem hp_paces_in61 (cNoBook : Addr) (as : List Sl) (Qp : QE) (Ep : EX) (h : psp_paces_in61 as Qp Ep) : p_paces_in61 cNoBook (endsP as Qp) (as ++ List.replicate 4 .un) := by
  obtain ⟨row, rfl, rl, q⟩ := h
  have z : 10000 < sizeLine := by decide
  obtain ⟨a, r, e⟩ := words_some row
  obtain ⟨w1, w2⟩ := words_parts row
  rw [e] at q w1 w2
  simp only [List.length_cons] at w2
  refine ⟨_, rfl, _, rfl, by decide +kernel, by omega, _, _, rfl, ?_⟩
  rw [e]
  refine ⟨by rw [List.length_map]; omega, rfl, ?_⟩
  show pr_paces_in61_4 _ _ [.im (.str row), .un, .im (.str a), .im (.list (r.map .str)), .un]
  refine ⟨_, rfl, ?_⟩
  show if (!decide (a = sPc)) = true then _ else _
  unfold pacR at q
  by_cases c : a = sPc
  rotate_left
  · rw [decide_eq_false c, if_pos (by decide)]
    rw [if_neg (by intro z; exact c (Option.some.inj z))] at q
    exact ⟨_, _, rfl, q⟩
  rw [decide_eq_true c, if_neg (by decide)]
  rw [if_pos (by rw [c]; rfl)] at q
  have q : Qp (.im (dIo (okP (r.map fun w => flt (-1000) 1000 (numW w))))) [.un] := q
  refine ⟨_, _, _, rfl, rfl, noPin1 (fun o => nofun), fun j acc δ => acc = ((r.take j).map fun w => flt (-1000) 1000 (numW w)).map optD ∧ δ = [.im (.str row), .un, .im (.str a), .im (.list (r.map .str)), .un], ⟨rfl, rfl⟩, ?_, ?_⟩
  · rintro j d acc δ hd ⟨rfl, rfl⟩
    rw [List.getElem?_map] at hd
    obtain ⟨w, hw, rfl⟩ := Option.map_eq_some_iff.mp hd
    have hj := (List.getElem?_eq_some_iff.mp hw).1
    have wl := (w1 w (List.mem_cons_of_mem _ (List.mem_of_getElem? hw))).1
    refine ⟨_, _, rfl, _, _, rfl, _, _, rfl, _, rfl, List.nodup_nil, w, -1000, 1000, rfl, by omega, _, _, rfl, ?_, ?_, rfl⟩
    · rw [List.length_map, List.length_map, List.length_take]
      omega
    · rw [List.take_add_one, hw, Option.toList_some, List.map_append, List.map_append]
      rfl
  · rintro acc δ ⟨rfl, rfl⟩
    rw [List.length_map, List.take_length]
    refine ⟨_, _, rfl, ?_⟩
    generalize hos : (r.map fun w => flt (-1000) 1000 (numW w)) = os at q
    have ol : os.length = r.length := by rw [← hos, List.length_map]
    show pr_paces_in61_2 _ _ [.im (.str row), .im (.tuple (os.map optD)), .im (.str a), .im (.list (r.map .str)), .un]
    refine ⟨_, _, rfl, _, rfl, os, rfl, by omega, fun ps h => ?_, fun h fs => ⟨rfl, ?_⟩⟩
    · rw [h] at q
      refine ⟨_, _, rfl, ?_⟩
      rw [(okP_some h).1, List.map_map]
      exact q
    · rw [h] at q
      exact ⟨_, _, rfl, q⟩
end Pv
/-! Texts that are no books: a table, the book. -/
namespace Pv
open PySem PySem.Spec PyProof.Rows L2 Wf TL
/-! ### table_in -/
-- DEF table_in N ['row', 'u', 'v', 'sorts', 'head', 'table', 'words', 'pair'] calls ['pair_in', 'is_pair'] takes []
def pe_table_in61_1 : PX :=
    pCall psp_pair_in61 (pCons (pFz (pVar 6)) (pCons (pFz (pVar 3)) (pNil))) noX
def pe_table_in61_2 : PX :=
    pCall psp_is_pair61 (pCons (pFz (pVar 7)) (pCons (pFz (pVar 3)) (pNil))) noX
def pr_table_in61_1 : PSx :=
    pRet (pVar 5)
def pr_table_in61_2 : PSx :=
    pSeq (pIf (pOr (pT (pEq true (pC (q1 fLen) (pCons (pVar 5) (pNil))) (pMul (pVar 3) (pVar 3)))) (pNot (pT (pC (q1 fAll) (pCons (pComp (iSeq (pVar 5)) (gN 7) (pYes) (pe_table_in61_2) [7]) (pNil)))))) (pRet (pK .none)) (pNext))
    (pr_table_in61_1)
def pr_table_in61_3 : PSx :=
    pSeq (pSet 5 (pC (q1 fTupleOf) (pCons (pComp (iSeq (pSplit (pS1 (fun a _ => a.length ≤ sizeLine) (fun a b => .str (Txt.removeprefix a b)) (pVar 0) (pVar 4)) (pK (.str " , ")))) (gN 6) (pYes) (pe_table_in61_1) [6]) (pNil))))
    (pr_table_in61_2)
def pr_table_in61_4 : PSx :=
    pSeq (pIf (pNot (pT (pS1 (fun _ _ => True) (fun a b => .bool (Txt.startswith a b)) (pVar 0) (pVar 4)))) (pRet (pK .none)) (pNext))
    (pr_table_in61_3)
def p_table_in61 : PSx :=
    pSeq (pSet 4 (pFStr [pFmt (pVar 1), pK (.str " "), pFmt (pVar 2), pK (.str " : ")]))
    (pr_table_in61_4)
def psp_table_in61 : PSp := fun as Q _ => ∃ (row : Str) (q : Wk) (s : Int), as = [.im (.str row), .im (.int q.1), .im (.int q.2), .im (.int s)] ∧ row.length ≤ 6000 ∧ Sml q.1 ∧ Sml q.2 ∧ 1 ≤ s ∧ s ≤ 6 ∧ Q (.im (dTo (tabR row q s))) [.un, .un, .un, .un]
abbrev sT61 (row : Str) (q : Wk) (s : Int) (s4 s5 s6 s7 : Sl) : List Sl := [.im (.str row), .im (.int q.1), .im (.int q.2), .im (.int s), s4, s5, s6, s7]
theorem hp_table_in61 (as : List Sl) (Qp : QE) (Ep : EX) (h : psp_table_in61 as Qp Ep) : p_table_in61 (endsP as Qp) (as ++ List.replicate 4 .un) := by
  obtain ⟨row, q, s, rfl, rl, q1, q2, s1, s6, k⟩ := h
  have z : 100000 < sizeLine := by decide
  have h1 := tI_len q1
  have h2 := tI_len q2
  have hl := head_len q1 q2
  have ss : s * s ≤ 6 * 6 := Int.mul_le_mul (by omega) (by omega) (by omega) (by decide)
  have s11 : 1 * 1 ≤ s * s := Int.mul_le_mul s1 s1 (by decide) (by omega)
  have e0 : Str.empty.length = 0 := rfl
  have l1 : (Str.ofString " ").length = 1 := l_sp
  have l3 : (Str.ofString " : ").length = 3 := l_co
  refine .inr ⟨q.1, rfl, log19 q1, _, rfl, ?_, _, rfl, ?_, .inr ⟨q.2, rfl, log19 q2, _, rfl, ?_, _, rfl, ?_, ?_⟩⟩
  · rw [add_len, e0]; show 0 + (tI q.1).length ≤ _; omega
  · rw [add_len, add_len, e0, l1]; show 0 + (tI q.1).length + 1 ≤ _; omega
  · rw [add_len, add_len, add_len, e0, l1]; show 0 + (tI q.1).length + 1 + (tI q.2).length ≤ _; omega
  · rw [add_len, add_len, add_len, add_len, e0, l1, l3]; show 0 + (tI q.1).length + 1 + (tI q.2).length + 3 ≤ _; omega
  refine ⟨_, _, rfl, ?_⟩
  show pr_table_in61_4 _ (sT61 row q s (.im (.str (Str.empty ++ tI q.1 ++ sSp ++ tI q.2 ++ sCo))) .un .un .un)
  rw [fhead]
  refine ⟨_, rfl, _, rfl, trivial, _, rfl, ?_⟩
  show if (!Txt.startswith row (headT q)) = true then _ else _
  cases hst : Txt.startswith row (headT q) with
  | false =>
    rw [if_pos (by decide)]
    rw [table_no s1 s6 fun z => by rw [hst] at z; cases z.1] at k
    exact ⟨_, _, rfl, k⟩
  | true =>
  rw [if_neg (by decide)]
  show pr_table_in61_3 _ (sT61 row q s (.im (.str (headT q))) .un .un .un)
  have e := starts_split hst
  have el := congrArg Str.length e
  rw [add_len] at el
  have pl : (Txt.removeprefix row (headT q)).length ≤ 6000 := by omega
  obtain ⟨c1, c2⟩ := split_parts (x := Txt.removeprefix row (headT q)) (y := sCm) (by rw [tl_cm]; simp) (by decide +kernel)
  have yes := table_yes s1 s6 hst
  have no := @table_no row q s s1 s6
  have hch : chunks row q = Txt.split (Txt.removeprefix row (headT q)) sCm := rfl
  refine ⟨_, rfl, _, rfl, ?_, _, rfl, _, rfl, by decide +kernel, ?_, ?_⟩
  · show row.length ≤ _
    omega
  · show (Txt.removeprefix row (headT q)).length + 2 ≤ _
    omega
  rw [← hch] at c1 c2 ⊢
  generalize chunks row q = cs at *
  refine ⟨_, _, _, rfl, rfl, noPin1 (fun o => nofun), fun j acc δ => acc = (cs.take j).map (fun c => PyData.tuple ((wds s c).map optD)) ∧ δ = sT61 row q s (.im (.str (headT q))) .un .un .un, ⟨rfl, rfl⟩, ?_, ?_⟩
  · rintro j d acc δ hd ⟨rfl, rfl⟩
    rw [List.getElem?_map] at hd
    obtain ⟨c, hc, rfl⟩ := Option.map_eq_some_iff.mp hd
    have hj := (List.getElem?_eq_some_iff.mp hc).1
    have cl := (c1 c (List.mem_of_getElem? hc)).1
    refine ⟨_, _, rfl, _, _, rfl, _, rfl, List.nodup_nil, c, s, rfl, by omega, _, _, rfl, ?_, ?_, rfl⟩
    · rw [List.length_map, List.length_take]
      omega
    · rw [List.take_add_one, hc, Option.toList_some, List.map_append]
      rfl
  rintro acc δ ⟨rfl, rfl⟩
  rw [List.length_map, List.take_length]
  refine ⟨_, _, rfl, ?_⟩
  generalize hD : cs.map (fun c => PyData.tuple ((wds s c).map optD)) = D at yes
  have Dl : D.length = cs.length := by rw [← hD, List.length_map]
  have Dg : ∀ (j : Nat) (d : PyData), D[j]? = some d → ∃ c, cs[j]? = some c ∧ d = .tuple ((wds s c).map optD) := fun j d h => by
    rw [← hD, List.getElem?_map] at h
    obtain ⟨c, hc, e⟩ := Option.map_eq_some_iff.mp h
    exact ⟨c, hc, e.symm⟩
  show pr_table_in61_2 _ (sT61 row q s (.im (.str (headT q))) (.im (.tuple D)) .un .un)
  refine ⟨.inl (.inl ⟨by omega, by omega⟩), _, rfl, ?_⟩
  show if (!decide ((D.length : Int) = s * s)) = true then _ else _
  by_cases hn : (D.length : Int) = s * s
  rotate_left
  · rw [decide_eq_false hn, if_pos (by decide)]
    rw [no fun z => hn (by rw [Dl]; exact z.2.1)] at k
    exact ⟨_, _, rfl, k⟩
  rw [decide_eq_true hn, if_neg (by decide)]
  refine ⟨_, _, _, rfl, rfl, noPin1 (fun o => nofun), fun j acc δ => acc = ((cs.take j).map fun c => isP61 s (wds s c)).map PyData.bool ∧ δ = sT61 row q s (.im (.str (headT q))) (.im (.tuple D)) .un .un, ⟨rfl, rfl⟩, ?_, ?_⟩
  · rintro j d acc δ hd ⟨rfl, rfl⟩
    obtain ⟨c, hc, rfl⟩ := Dg j d hd
    have hj := (List.getElem?_eq_some_iff.mp hc).1
    refine ⟨_, _, rfl, _, _, rfl, _, rfl, List.nodup_nil, wds s c, s, rfl, _, _, rfl, ?_, ?_, rfl⟩
    · rw [List.length_map, List.length_map, List.length_take]
      omega
    · rw [List.take_add_one, hc, Option.toList_some, List.map_append, List.map_append]
      rfl
  rintro acc δ ⟨rfl, rfl⟩
  rw [Dl, List.take_length]
  refine ⟨_, rfl, _, rfl, ?_⟩
  show if (!(cs.map fun c => isP61 s (wds s c)).all id) = true then _ else _
  cases ha : (cs.map fun c => isP61 s (wds s c)).all id with
  | false =>
    rw [if_pos (by decide)]
    rw [no fun z => by
      have : (cs.map fun c => isP61 s (wds s c)).all id = true := List.all_eq_true.mpr fun b hb => by
        obtain ⟨c, hc, rfl⟩ := List.mem_map.mp hb
        exact z.2.2 c hc
      rw [ha] at this
      cases this] at k
    exact ⟨_, _, rfl, k⟩
  | true =>
    rw [if_neg (by decide)]
    obtain ⟨t, e1, e2⟩ := yes (by rw [← Dl]; exact hn) fun c hc => List.all_eq_true.mp ha _ (List.mem_map.mpr ⟨c, hc, rfl⟩)
    rw [e1] at k
    refine ⟨_, _, rfl, ?_⟩
    rw [e2]
    exact k
/-! ### read_book -/
noncomputable def goT (rows : List Str) (s : Int) : Nat → List Wk → List Tab → Sum Nat (List Tab)
  | i, [], acc => if 2 + i < rows.length then .inl (2 + i) else .inr acc
  | i, q :: r, acc => match tabR (rows.getD (2 + i) Str.empty) q s with
    | none => .inl (2 + i)
    | some t => goT rows s (i + 1) r (acc ++ [t])
noncomputable def rdB (rows : List Str) : Sum Nat Book := match pacR (Txt.split (rows.getD 0 Str.empty) sSp) with
  | none => .inl 0
  | some ps => match sortR (Txt.split (rows.getD 1 Str.empty) sSp) with
    | none => .inl 1
    | some s => match goT rows s 0 (kindsP ps.length) [] with
      | .inl i => .inl i
      | .inr ts => .inr ⟨ps, s, ts⟩
theorem pacR_ok {ws : List Str} {ps : List Int} (h : pacR ws = some ps) : PacesOk (ps.length : Int) ps ∧ 1 ≤ ps.length ∧ ps.length ≤ 5 := by
  unfold pacR at h
  split at h
  · exact (okP_some h).2
  · cases h
theorem goT_ok {rows : List Str} {s : Int} : ∀ {r : List Wk} {i : Nat} {acc ts : List Tab}, goT rows s i r acc = .inr ts → (∀ t ∈ acc, TabOk s t) → ts.length = acc.length + r.length ∧ ∀ t ∈ ts, TabOk s t
  | [], i, acc, ts, h, ha => by
    unfold goT at h
    split at h
    · cases h
    · cases h
      exact ⟨rfl, ha⟩
  | q :: r, i, acc, ts, h, ha => by
    unfold goT at h
    split at h
    · cases h
    · rename_i t ht
      obtain ⟨h1, h2⟩ := goT_ok h fun x hx => by
        rcases List.mem_append.mp hx with z | z
        · exact ha x z
        · rw [List.mem_singleton.mp z]
          exact (tabR_ok ht).1
      refine ⟨?_, h2⟩
      rw [h1, List.length_append, List.length_cons]
      simp
      omega
theorem rdB_ok {rows : List Str} {B : Book} (h : rdB rows = .inr B) : SmB B.ps.length B := by
  unfold rdB at h
  split at h
  · cases h
  · rename_i ps hp
    split at h
    · cases h
    · rename_i s hs
      split at h
      · cases h
      · rename_i ts ht
        cases h
        obtain ⟨pok, p1, p5⟩ := pacR_ok hp
        obtain ⟨s1, s6⟩ := sortR_in hs
        obtain ⟨t1, t2⟩ := goT_ok ht nofun
        have kn := kindsP_nT p1 p5
        exact ⟨⟨pok, by show (1 : Int) ≤ (ps.length : Int); omega, by show (ps.length : Int) ≤ 5; omega, s1, s6, ⟨by rw [← kn, t1]; simp, t2⟩⟩, p1, p5⟩
-- DEF read_book N ['text', 'rows', 'paces', 'sorts', 'tables', 'due', 'u', 'v', 'at', 'table'] calls ['paces_in', 'sorts_in', 'row_at', 'two_kinds', 'table_in'] takes ['cNoText', 'Ep']
def pr_read_book61_1 : PSx :=
    pExpr (pMt mAppend (pVar 4) (pCons (pVar 9) (pNil)))
def pr_read_book61_2 (cNoText : Addr) (Ep : EX) : PSx :=
    pSeq (pIf (pT (pIs false (pVar 9) (pK .none))) (pRaise cNoText ["at"] (pCons (pFz (pVar 8)) (pNil)) Ep) (pNext))
    (pr_read_book61_1)
def pr_read_book61_3 (cNoText : Addr) (Ep : EX) : PSx :=
    pSeq (pSet 9 (pCall psp_table_in61 (pCons (pFz (pCall psp_row_at61 (pCons (pFz (pVar 1)) (pCons (pFz (pVar 8)) (pNil))) noX)) (pCons (pFz (pVar 6)) (pCons (pFz (pVar 7)) (pCons (pFz (pVar 3)) (pNil))))) noX))
    (pr_read_book61_2 cNoText Ep)
def pb_read_book61_4 (cNoText : Addr) (Ep : EX) : PSx :=
    pSeq (pSet 8 (pAdd (pK (.int 2)) (pC (q1 fLen) (pCons (pVar 4) (pNil)))))
    (pr_read_book61_3 cNoText Ep)
def pr_read_book61_4 : PSx :=
    pRet (pTup (pCons (pVar 2) (pCons (pVar 3) (pCons (pC (q1 fTupleOf) (pCons (pVar 4) (pNil))) (pNil)))))
def pr_read_book61_5 (cNoText : Addr) (Ep : EX) : PSx :=
    pSeq (pIf (pT (pGt (pC (q1 fLen) (pCons (pVar 1) (pNil))) (pVar 5))) (pRaise cNoText ["at"] (pCons (pFz (pVar 5)) (pNil)) Ep) (pNext))
    (pr_read_book61_4)
def pr_read_book61_6 (cNoText : Addr) (Ep : EX) : PSx :=
    pSeq (pSet 5 (pAdd (pK (.int 2)) (pC (q1 fLen) (pCons (pVar 4) (pNil)))))
    (pr_read_book61_5 cNoText Ep)
def pr_read_book61_7 (cNoText : Addr) (Ep : EX) : PSx :=
    pSeq (pFor [6, 7, 8, 9] (iSeq (pCall psp_two_kinds43 (pCons (pFz (pC (q1 fLen) (pCons (pVar 2) (pNil)))) (pNil)) noX)) (gT 2 (gsC (gN 6) (gsC (gN 7) (gsN)))) (pb_read_book61_4 cNoText Ep))
    (pr_read_book61_6 cNoText Ep)
def pr_read_book61_8 (cNoText : Addr) (Ep : EX) : PSx :=
    pSeq (pSet 4 (pLst (pNil)))
    (pr_read_book61_7 cNoText Ep)
def pr_read_book61_9 (cNoText : Addr) (Ep : EX) : PSx :=
    pSeq (pIf (pT (pIs false (pVar 3) (pK .none))) (pRaise cNoText ["at"] (pCons (pFz (pK (.int 1))) (pNil)) Ep) (pNext))
    (pr_read_book61_8 cNoText Ep)
def pr_read_book61_10 (cNoText : Addr) (Ep : EX) : PSx :=
    pSeq (pSet 3 (pCall psp_sorts_in61 (pCons (pFz (pCall psp_row_at61 (pCons (pFz (pVar 1)) (pCons (pFz (pK (.int 1))) (pNil))) noX)) (pNil)) noX))
    (pr_read_book61_9 cNoText Ep)
def pr_read_book61_11 (cNoText : Addr) (Ep : EX) : PSx :=
    pSeq (pIf (pT (pIs false (pVar 2) (pK .none))) (pRaise cNoText ["at"] (pCons (pFz (pK (.int 0))) (pNil)) Ep) (pNext))
    (pr_read_book61_10 cNoText Ep)
def pr_read_book61_12 (cNoText : Addr) (Ep : EX) : PSx :=
    pSeq (pSet 2 (pCall psp_paces_in61 (pCons (pFz (pIx (pVar 1) (pK (.int 0)))) (pNil)) noX))
    (pr_read_book61_11 cNoText Ep)
def p_read_book61 (cNoText : Addr) (Ep : EX) : PSx :=
    pSeq (pSet 1 (pSplit (pVar 0) (pK (.str "\n"))))
    (pr_read_book61_12 cNoText Ep)
def psp_read_book61 (cNoText : Addr) : PSp := fun as Q Ep => ∃ text : Str, as = [.im (.str text)] ∧ text.length ≤ 6000 ∧ (∀ B, rdB (Txt.split text sNl) = .inr B → Q (.im (dB B)) [.un]) ∧ ∀ i : Nat, rdB (Txt.split text sNl) = .inl i → Ep cNoText [("at", nD i)]
theorem rows_len61 {text : Str} (tl : text.length ≤ 6000) : (∀ i, ((Txt.split text sNl).getD i Str.empty).length ≤ 6000) ∧ (Txt.split text sNl).length ≤ 6001 ∧ 1 ≤ (Txt.split text sNl).length := by
  obtain ⟨c1, c2⟩ := split_parts (x := text) (y := sNl) (by rw [tl_nl]; simp) (by decide +kernel)
  refine ⟨fun i => ?_, by omega, ?_⟩
  · rw [List.getD_eq_getElem?_getD]
    cases h : (Txt.split text sNl)[i]? with
    | none => show (0 : Nat) ≤ 6000; omega
    | some w =>
      have := (c1 w (List.mem_of_getElem? h)).1
      show w.length ≤ 6000
      omega
  · have := split_ne text sNl (by rw [tl_nl]; simp) (by decide +kernel)
    exact List.length_pos_iff.mpr this
theorem hp_read_book61 (cNoText : Addr) (as : List Sl) (Qp : QE) (Ep : EX) (h : psp_read_book61 cNoText as Qp Ep) : p_read_book61 cNoText Ep (endsP as Qp) (as ++ List.replicate 9 .un) := by
  obtain ⟨text, rfl, tl, qy, qn⟩ := h
  have z : 100000 < sizeLine := by decide
  obtain ⟨r1, r2, r3⟩ := rows_len61 tl
  refine ⟨_, rfl, _, rfl, by decide +kernel, by omega, _, _, rfl, ?_⟩
  generalize hx : (PyData.str text) = x
  generalize Txt.split text sNl = R at *
  show pr_read_book61_12 cNoText Ep _ (sE60 x (.ow false (.lst (R.map .str))) .un .un .un .un .un .un .un .un)
  have g0 : R[0]? = some (R.getD 0 Str.empty) := by
    rw [List.getD_eq_getElem?_getD, List.getElem?_eq_getElem (by omega)]
    rfl
  unfold rdB at qy qn
  refine ⟨_, atI_of (j := 0) rfl (by rw [List.getElem?_map, g0]; rfl), _, _, rfl, _, rfl, List.nodup_nil, R.getD 0 Str.empty, rfl, r1 0, ?_⟩
  refine ⟨_, _, rfl, ?_⟩
  show pr_read_book61_11 cNoText Ep _ (sE60 x (.ow false (.lst (R.map .str))) (.im (dIo (pacR (Txt.split (R.getD 0 Str.empty) sSp)))) .un .un .un .un .un .un .un)
  cases hp : pacR (Txt.split (R.getD 0 Str.empty) sSp) with
  | none =>
    rw [hp] at qn
    refine ⟨_, rfl, ?_⟩
    show if true = true then _ else _
    rw [if_pos (by decide)]
    exact ⟨_, _, rfl, _, _, rfl, rfl, qn 0 rfl⟩
  | some ps =>
  rw [hp] at qy qn
  dsimp only at qy qn
  obtain ⟨pok, p1, p5⟩ := pacR_ok hp
  refine ⟨_, rfl, ?_⟩
  show if false = true then _ else _
  rw [if_neg (by decide)]
  refine ⟨_, _, rfl, _, _, rfl, _, rfl, List.nodup_nil, R, 1, rfl, _, _, rfl, _, rfl, List.nodup_nil, R.getD 1 Str.empty, rfl, r1 1, ?_⟩
  refine ⟨_, _, rfl, ?_⟩
  show pr_read_book61_9 cNoText Ep _ (sE60 x (.im (.list (R.map .str))) (.im (dI ps)) (.im (optD (sortR (Txt.split (R.getD 1 Str.empty) sSp)))) .un .un .un .un .un .un)
  cases hs : sortR (Txt.split (R.getD 1 Str.empty) sSp) with
  | none =>
    rw [hs] at qn
    refine ⟨_, rfl, ?_⟩
    show if true = true then _ else _
    rw [if_pos (by decide)]
    exact ⟨_, _, rfl, _, _, rfl, rfl, qn 1 rfl⟩
  | some s =>
  rw [hs] at qy qn
  dsimp only at qy qn
  obtain ⟨s1, s6⟩ := sortR_in hs
  refine ⟨_, rfl, ?_⟩
  show if false = true then _ else _
  rw [if_neg (by decide)]
  refine ⟨_, _, rfl, ?_⟩
  show pr_read_book61_7 cNoText Ep _ (sE60 x (.im (.list (R.map .str))) (.im (dI ps)) (.im (.int s)) (.ow false (.lst [])) .un .un .un .un .un)
  generalize hK : kindsP ps.length = K at qy qn
  generalize hG : goT R s 0 K [] = RES at qy qn
  refine ⟨_, _, rfl, _, rfl, List.nodup_nil, ps.length, ?_, by omega, ⟨_, _, _, rfl, rfl, ?_⟩⟩
  · show [Sl.im (.int ((ps.map PyData.int).length : Int))] = _
    rw [List.length_map]
  have kl : K.length ≤ 25 := by
    have := kindsP_len ps.length
    rw [hK] at this
    have : ps.length * ps.length ≤ 5 * 5 := Nat.mul_le_mul p5 p5
    omega
  rw [hK]
  refine ⟨fun i δ => ∃ ts : List Tab, ts.length = i ∧ goT R s i (K.drop i) ts = RES ∧ δ = sE60 x (.im (.list (R.map .str))) (.im (dI ps)) (.im (.int s)) (.ow false (.lst (ts.map dT))) .un .un .un .un .un, ⟨[], rfl, hG, rfl⟩, ?_, ?_⟩
  · rintro i d δ hd ⟨ts, tsl, hg, rfl⟩
    rw [List.getElem?_map] at hd
    obtain ⟨qq, hq, rfl⟩ := Option.map_eq_some_iff.mp hd
    have hi := (List.getElem?_eq_some_iff.mp hq).1
    have ed : K.drop i = qq :: K.drop (i + 1) := by
      rw [List.drop_eq_getElem_cons hi, (List.getElem?_eq_some_iff.mp hq).2]
    have q12 := kindsP_sml p5 qq (by rw [hK]; exact List.mem_of_getElem? hq)
    rw [ed] at hg
    unfold goT at hg
    refine ⟨rfl, rfl, ?_⟩
    refine ⟨_, _, rfl, ?_⟩
    have e2 : (.int (2 + ((ts.map dT).length : Int)) : PyData) = nD (2 + i) := by
      rw [List.length_map, tsl]
      show PyData.int _ = PyData.int ((2 + i : Nat) : Int)
      congr 1
    show pr_read_book61_3 cNoText Ep _ (sE60 x (.im (.list (R.map .str))) (.im (dI ps)) (.im (.int s)) (.ow false (.lst (ts.map dT))) .un (.im (.int qq.1)) (.im (.int qq.2)) (.im (.int (2 + ((ts.map dT).length : Int)))) .un)
    rw [e2]
    refine ⟨_, _, rfl, _, _, rfl, _, rfl, List.nodup_nil, R, 2 + i, rfl, _, _, rfl, _, _, rfl, _, _, rfl, _, _, rfl, _, rfl, List.nodup_nil, R.getD (2 + i) Str.empty, qq, s, rfl, r1 _, q12.1, q12.2, s1, s6, ?_⟩
    refine ⟨_, _, rfl, ?_⟩
    cases ht : tabR (R.getD (2 + i) Str.empty) qq s with
    | none =>
      rw [ht] at hg
      refine ⟨_, rfl, ?_⟩
      show if true = true then _ else _
      rw [if_pos (by decide)]
      rw [← hg] at qn
      exact ⟨_, _, rfl, _, _, rfl, rfl, qn (2 + i) rfl⟩
    | some t =>
      rw [ht] at hg
      refine ⟨_, rfl, ?_⟩
      show if false = true then _ else _
      rw [if_neg (by decide)]
      refine ⟨_, _, _, rfl, rfl, _, _, _, _, rfl, rfl, by rw [List.length_map, tsl]; exact szN (m := 100) (by omega) (by decide), ts ++ [t], by simp [tsl], hg, ?_⟩
      show sE60 _ _ _ _ (.ow false (.lst (ts.map dT ++ [dT t]))) .un .un .un .un .un = sE60 _ _ _ _ (.ow false (.lst ((ts ++ [t]).map dT))) .un .un .un .un .un
      rw [List.map_append]
      rfl
  · rintro δ ⟨ts, tsl, hg, rfl⟩
    rw [List.length_map] at tsl hg
    rw [List.drop_length] at hg
    unfold goT at hg
    have e2 : (.int (2 + ((ts.map dT).length : Int)) : PyData) = nD (2 + K.length) := by
      rw [List.length_map, tsl]
      show PyData.int _ = PyData.int ((2 + K.length : Nat) : Int)
      congr 1
    refine ⟨_, _, rfl, ?_⟩
    show pr_read_book61_5 cNoText Ep _ (sE60 x (.im (.list (R.map .str))) (.im (dI ps)) (.im (.int s)) (.ow false (.lst (ts.map dT))) (.im (.int (2 + ((ts.map dT).length : Int)))) .un .un .un .un)
    rw [e2]
    refine ⟨trivial, _, rfl, ?_⟩
    show if decide (((2 + K.length : Nat) : Int) < ((R.map PyData.str).length : Int)) = true then _ else _
    rw [List.length_map]
    by_cases c : 2 + K.length < R.length
    · rw [if_pos (by rw [decide_eq_true_eq]; omega)]
      rw [if_pos c] at hg
      rw [← hg] at qn
      exact ⟨_, _, rfl, _, _, rfl, rfl, qn _ rfl⟩
    · rw [if_neg (by rw [decide_eq_true_eq]; omega)]
      rw [if_neg c] at hg
      rw [← hg] at qy
      exact ⟨_, _, rfl, qy ⟨ps, s, ts⟩ rfl⟩
end Pv
/-! Texts that are no books: how the law reads paces. -/
namespace Pv
open PySem PySem.Spec PyProof.Rows L2 Wf TL
theorem any_none : ∀ os : List (Option Int), ((os.map optD).any fun z => PyData.eqv z .none) = decide (none ∈ os)
  | [] => rfl
  | none :: r => by
    rw [List.map_cons, List.any_cons, decide_eq_true List.mem_cons_self]
    rfl
  | some p :: r => by
    rw [List.map_cons, List.any_cons, any_none r]
    have : PyData.eqv (optD (some p)) .none = false := rfl
    rw [this, Bool.false_or]
    by_cases h : none ∈ r
    · rw [decide_eq_true h, decide_eq_true (List.mem_cons_of_mem _ h)]
    · rw [decide_eq_false h, decide_eq_false (by simpa using h)]
theorem all_some : ∀ {os : List (Option Int)}, none ∉ os → ∃ ps : List Int, os = ps.map some
  | [], _ => ⟨[], rfl⟩
  | none :: r, h => absurd List.mem_cons_self h
  | some p :: r, h => by
    obtain ⟨ps, e⟩ := all_some (os := r) fun z => h (List.mem_cons_of_mem _ z)
    exact ⟨p :: ps, by rw [e]; rfl⟩
theorem shL_map {α : Type} (f : α → PyData) (l : List α) (h : ∀ x ∈ l, (f x).canLay0 = true ∧ (f x).depth ≤ 0) : SeqAt.shaped (.list (l.map f)) = true := by
  have := shapedT_map f 0 (by decide) l h
  exact this
theorem sh_opts (os : List (Option Int)) : SeqAt.shaped (.list (os.map optD)) = true := shL_map optD os fun x _ => by cases x <;> exact ⟨rfl, Nat.le_refl 0⟩
theorem sh_ints61 (w : List Int) : SeqAt.shaped (.list (w.map PyData.int)) = true := shL_map PyData.int w fun x _ => ⟨rfl, Nat.le_refl 0⟩
theorem eq_nil61 {α : Type} (f : α → PyData) (l : List α) : eqd (.list (l.map f)) (.list []) = decide (l = []) := by
  cases l with
  | nil => rfl
  | cons a b => rfl
theorem pw_steps : ∀ ps : List Int, (∀ i, i + 1 < ps.length → ps.getD i 0 < ps.getD (i + 1) 0) → ps.Pairwise (· < ·)
  | [], _ => .nil
  | [p], _ => List.pairwise_singleton _ _
  | p :: q :: r, h => by
    have ih := pw_steps (q :: r) fun i hi => h (i + 1) (by simp at hi ⊢; omega)
    have pq : p < q := h 0 (by simp)
    refine List.pairwise_cons.mpr ⟨fun x hx => ?_, ih⟩
    rcases List.mem_cons.mp hx with rfl | hx
    · exact pq
    · have := (List.pairwise_cons.mp ih).1 x hx
      omega
theorem steps_pw {ps : List Int} (h : ps.Pairwise (· < ·)) {i : Nat} (hi : i + 1 < ps.length) : ps.getD i 0 < ps.getD (i + 1) 0 := by
  rw [List.getD_eq_getElem?_getD, List.getD_eq_getElem?_getD, List.getElem?_eq_getElem hi, List.getElem?_eq_getElem (by omega)]
  exact List.pairwise_iff_getElem.mp h i (i + 1) (by omega) hi (by omega)
theorem getI {ps : List Int} {i : Nat} (h : i < ps.length) : (ps.map PyData.int)[i]? = some (.int (ps.getD i 0)) := by
  rw [List.getElem?_map, List.getD_eq_getElem?_getD, List.getElem?_eq_getElem h]
  rfl
/-- the law's numbers and the program's -/
theorem flt_map {os : List (Option Int)} {ps : List Int} (h : okP (os.map (flt (-1000) 1000)) = some ps) : os = ps.map some ∧ PacesOk (ps.length : Int) ps ∧ 1 ≤ ps.length ∧ ps.length ≤ 5 := by
  obtain ⟨e, h2⟩ := okP_some h
  refine ⟨?_, h2⟩
  have main : ∀ (os : List (Option Int)) (ps : List Int), os.map (flt (-1000) 1000) = ps.map some → os = ps.map some := fun os => by
    induction os with
    | nil =>
      intro ps h
      cases ps with
      | nil => rfl
      | cons a b => cases h
    | cons o os ih =>
      intro ps h
      cases ps with
      | nil => cases h
      | cons a b =>
        rw [List.map_cons, List.map_cons] at h
        obtain ⟨h1, h2⟩ := List.cons.inj h
        rw [ih b h2, (flt_some.mp h1).1]
        rfl
  exact main os ps e
theorem pac_of {os : List (Option Int)} {ps : List Int} (e : os = ps.map some) (l1 : 1 ≤ ps.length) (l5 : ps.length ≤ 5) (b : ∀ p ∈ ps, -1000 ≤ p ∧ p ≤ 1000) (pw : ps.Pairwise (· < ·)) : okP (os.map (flt (-1000) 1000)) = some ps := by
  have : os.map (flt (-1000) 1000) = ps.map some := by
    rw [e, List.map_map]
    refine List.map_congr_left fun p hp => ?_
    exact flt_some.mpr ⟨rfl, b p hp⟩
  rw [this]
  exact okP_of l1 l5 pw b
-- DEF _law_paces_read N ['_law_words', '_law_found', '_law_falls', '_law_word', '_law_k', '_law_pace'] calls ['_law_whole'] takes []
def pe_lpread_1 : PX :=
    pCall psp_lwhl (pCons (pFz (pVar 3)) (pNil)) noX
def pe_lpread_2 : PX :=
    pVar 5
def pe_lpread_3 : PX :=
    pVar 4
def pr_lpread_1 : PSx :=
    pRet (pIfE (pT (pEq false (pVar 2) (pLst (pNil)))) (pC (q1 fTupleOf) (pCons (pVar 1) (pNil))) (pK .none))
def pr_lpread_2 : PSx :=
    pSeq (pSet 2 (pComp (iRg (pCons (pK (.int 1)) (pCons (pC (q1 fLen) (pCons (pVar 1) (pNil))) (pNil)))) (gN 4) (pT (pGe (pIx (pVar 1) (pSub (pVar 4) (pK (.int 1)))) (pIx (pVar 1) (pVar 4)))) (pe_lpread_3) [4]))
    (pr_lpread_1)
def pr_lpread_3 : PSx :=
    pSeq (pIf (pT (pEq true (pComp (iSeq (pVar 1)) (gN 5) (pT (pGt (pC (q1 fAbs) (pCons (pVar 5) (pNil))) (pK (.int 1000)))) (pe_lpread_2) [5]) (pLst (pNil)))) (pRet (pK .none)) (pNext))
    (pr_lpread_2)
def pr_lpread_4 : PSx :=
    pSeq (pIf (pOr (pT (pEq true (pIx (pVar 0) (pK (.int 0))) (pK (.str "paces")))) (pOr (pNot (pT (pChain qLeD qLeD (pK (.int 1)) (pC (q1 fLen) (pCons (pVar 1) (pNil))) (pK (.int 5))))) (pT (pIn false (pK .none) (pVar 1))))) (pRet (pK .none)) (pNext))
    (pr_lpread_3)
def p_lpread : PSx :=
    pSeq (pSet 1 (pComp (iSeq (pSlice (pVar 0) (oSome (pK (.int 1))) (oNone))) (gN 3) (pYes) (pe_lpread_1) [3]))
    (pr_lpread_4)
def psp_lpread : PSp := fun as Q _ => ∃ row : Str, as = [.im (.list ((Txt.split row sSp).map .str))] ∧ AscT row ∧ row.length ≤ 6000 ∧ Q (.im (dIo (pacR (Txt.split row sSp)))) [.un]
theorem hp_lpread (as : List Sl) (Qp : QE) (Ep : EX) (h : psp_lpread as Qp Ep) : p_lpread (endsP as Qp) (as ++ List.replicate 5 .un) := by
  obtain ⟨row, rfl, asc, rl, q⟩ := h
  have z : 10000 < sizeLine := by decide
  obtain ⟨a, r, e⟩ := words_some row
  obtain ⟨w1, w2⟩ := words_parts row
  rw [e] at q w1 w2
  simp only [List.length_cons] at w2
  rw [e]
  generalize hW : (PyData.list ((a :: r).map .str)) = W
  have hr : ∀ w ∈ r, AscT w ∧ w.length ≤ sizeLine := fun w hw => by
    have := w1 w (List.mem_cons_of_mem _ hw)
    exact ⟨fun c hc => asc c (this.2 c hc), by omega⟩
  have hd : W = .list (.str a :: r.map .str) := by rw [← hW]; rfl
  subst hd
  have hcut : cutD (PyData.str a :: r.map PyData.str) (some 1) none = r.map .str := cut_drop _ 1
  refine ⟨_, rfl, ?_⟩
  refine ⟨_, _, _, rfl, rfl, noPin1 (fun o => nofun), fun j acc δ => acc = ((r.take j).map numW).map optD ∧ δ = [.im (.list (.str a :: r.map .str)), .un, .un, .un, .un, .un], ⟨rfl, rfl⟩, ?_, ?_⟩
  · rintro j d acc δ hd ⟨rfl, rfl⟩
    rw [hcut, List.getElem?_map] at hd
    obtain ⟨w, hw, rfl⟩ := Option.map_eq_some_iff.mp hd
    have hj := (List.getElem?_eq_some_iff.mp hw).1
    obtain ⟨wa, wl⟩ := hr w (List.mem_of_getElem? hw)
    refine ⟨_, _, rfl, _, rfl, List.nodup_nil, w, rfl, wa, wl, _, _, rfl, ?_, ?_, rfl⟩
    · rw [List.length_map, List.length_map, List.length_take]
      omega
    · rw [List.take_add_one, hw, Option.toList_some, List.map_append, List.map_append]
      rfl
  rintro acc δ ⟨rfl, rfl⟩
  rw [hcut, List.length_map, List.take_length]
  refine ⟨_, _, rfl, ?_⟩
  unfold pacR at q
  have q : Qp (.im (dIo (if (some a : Option Str) = some sPc then okP (r.map fun w => flt (-1000) 1000 (numW w)) else none))) [.un] := q
  have em : (r.map fun w => flt (-1000) 1000 (numW w)) = (r.map numW).map (flt (-1000) 1000) := by rw [List.map_map]; rfl
  rw [em] at q
  have ol : (r.map numW).length ≤ 6000 := by rw [List.length_map]; omega
  generalize r.map numW = os at q ol
  show pr_lpread_4 _ [.im (.list (.str a :: r.map .str)), .ow false (.lst (os.map optD)), .un, .un, .un, .un]
  refine ⟨_, atI_of (j := 0) rfl rfl, ?_⟩
  generalize hx : (PyData.list (PyData.str a :: r.map PyData.str)) = x
  refine ⟨_, rfl, ?_⟩
  show if (!decide (a = sPc)) = true then _ else _
  by_cases c : a = sPc
  rotate_left
  · rw [decide_eq_false c, if_pos (by decide)]
    rw [if_neg (by intro z; exact c (Option.some.inj z))] at q
    exact ⟨_, _, rfl, q⟩
  rw [decide_eq_true c, if_neg (by decide)]
  rw [if_pos (by rw [c])] at q
  have el : ((os.map optD).length : Int) = (os.length : Int) := by rw [List.length_map]
  refine ⟨_, rfl, trivial, _, rfl, ?_⟩
  show if decide ((1 : Int) ≤ ((os.map optD).length : Int)) = true then _ else _
  have no : okP (os.map (flt (-1000) 1000)) = none → Qp (.im .none) [.un] := fun h => by
    rw [h] at q
    exact q
  rw [el]
  by_cases c1 : 1 ≤ os.length
  rotate_left
  · rw [if_neg (by rw [decide_eq_true_eq]; omega)]
    refine ⟨false, rfl, ?_⟩
    show if (!false) = true then _ else _
    rw [if_pos (by decide)]
    refine ⟨_, _, rfl, no ?_⟩
    unfold okP
    rw [if_neg (by rw [List.length_map]; omega)]
  rw [if_pos (by rw [decide_eq_true_eq]; omega)]
  refine ⟨trivial, _, rfl, ?_⟩
  show if (!decide ((os.length : Int) ≤ 5)) = true then _ else _
  by_cases c5 : os.length ≤ 5
  rotate_left
  · rw [decide_eq_false (by omega), if_pos (by decide)]
    refine ⟨_, _, rfl, no ?_⟩
    unfold okP
    rw [if_neg (by rw [List.length_map]; omega)]
  rw [decide_eq_true (by omega), if_neg (by decide)]
  refine ⟨rfl, sh_opts os, _, rfl, ?_⟩
  show if ((os.map optD).any fun z => PyData.eqv z .none) = true then _ else _
  rw [any_none]
  by_cases cn : none ∈ os
  · rw [decide_eq_true cn, if_pos rfl]
    refine ⟨_, _, rfl, no ?_⟩
    cases h : okP (os.map (flt (-1000) 1000)) with
    | none => rfl
    | some ps =>
      rw [(flt_map h).1] at cn
      simp at cn
  rw [decide_eq_false cn, if_neg (by decide)]
  obtain ⟨ps, rfl⟩ := all_some cn
  rw [List.length_map] at ol c1 c5
  have eo : (ps.map some).map optD = ps.map .int := by rw [List.map_map]; rfl
  rw [eo]
  show pr_lpread_3 _ [.im x, .ow false (.lst (ps.map .int)), .un, .un, .un, .un]
  refine ⟨_, _, _, rfl, rfl, noPin1 (fun o => nofun), fun j acc δ => (∃ ks : List Int, acc = ks.map .int ∧ ks.length ≤ j ∧ (ks = [] ↔ ∀ i, i < j → -1000 ≤ ps.getD i 0 ∧ ps.getD i 0 ≤ 1000)) ∧ δ = [.im x, .im (.list (ps.map .int)), .un, .un, .un, .un], ⟨⟨[], rfl, Nat.le_refl _, by simp⟩, rfl⟩, ?_, ?_⟩
  · rintro j d acc δ hd ⟨⟨ks, rfl, kl, hk⟩, rfl⟩
    have hj := (List.getElem?_eq_some_iff.mp hd).1
    rw [List.length_map] at hj
    rw [getI hj] at hd
    cases hd
    generalize hp : ps.getD j 0 = p
    refine ⟨trivial, _, rfl, ?_⟩
    show if decide ((1000 : Int) < (if p < 0 then -p else p)) = true then _ else _
    by_cases cb : (1000 : Int) < (if p < 0 then -p else p)
    · rw [if_pos (decide_eq_true cb)]
      refine ⟨_, _, rfl, by rw [List.length_map]; omega, ⟨ks ++ [p], by rw [List.map_append]; rfl, by simp; omega, ?_⟩, rfl⟩
      constructor
      · intro h; simp at h
      · intro h
        have := h j (by omega)
        rw [hp] at this
        split at cb <;> omega
    · rw [if_neg (by rw [decide_eq_true_eq]; exact cb)]
      refine ⟨⟨ks, rfl, by omega, ?_⟩, rfl⟩
      rw [hk]
      constructor
      · intro h i hi
        by_cases e : i = j
        · subst e
          rw [hp]
          split at cb <;> omega
        · exact h i (by omega)
      · intro h i hi
        exact h i (by omega)
  rintro acc δ ⟨⟨ks, rfl, kl, hk⟩, rfl⟩
  rw [List.length_map] at kl hk
  refine ⟨sh_ints61 ks, rfl, _, rfl, ?_⟩
  show if (!eqd (.list (ks.map PyData.int)) (.list [])) = true then _ else _
  rw [eq_nil61]
  by_cases ck : ks = []
  rotate_left
  · rw [decide_eq_false ck, if_pos (by decide)]
    refine ⟨_, _, rfl, no ?_⟩
    cases h : okP ((ps.map some).map (flt (-1000) 1000)) with
    | none => rfl
    | some qs =>
      obtain ⟨e1, e2, _, _⟩ := flt_map h
      have : ps = qs := map_inj_of (f := some) (fun a _ b _ z => Option.some.inj z) e1
      subst this
      refine absurd (hk.mpr fun i hi => ?_) ck
      have := e2.lo (ps.getD i 0) (by
        rw [List.getD_eq_getElem?_getD, List.getElem?_eq_getElem hi]
        exact List.getElem_mem _)
      exact this
  rw [decide_eq_true ck, if_neg (by decide)]
  have hb := hk.mp ck
  have hb2 : ∀ p ∈ ps, -1000 ≤ p ∧ p ≤ 1000 := fun p hp => by
    obtain ⟨i, hi, rfl⟩ := List.getElem_of_mem hp
    have := hb i hi
    rw [List.getD_eq_getElem?_getD, List.getElem?_eq_getElem hi] at this
    exact this
  show pr_lpread_2 _ [.im x, .im (.list (ps.map .int)), .un, .un, .un, .un]
  refine ⟨⟨by decide, by decide, by rw [List.length_map]; omega, by rw [List.length_map]; omega⟩, noPin1 (fun o => nofun), fun j acc δ => (∃ ks : List Int, acc = ks.map .int ∧ ks.length ≤ j ∧ (ks = [] ↔ ∀ i, i < j → ps.getD i 0 < ps.getD (i + 1) 0)) ∧ δ = [.im x, .im (.list (ps.map .int)), .un, .un, .un, .un], ⟨⟨[], rfl, Nat.le_refl _, by simp⟩, rfl⟩, ?_, ?_⟩
  · rintro j d acc δ hd ⟨⟨ks, rfl, kl, hk⟩, rfl⟩
    obtain ⟨rfl, hj⟩ := rgD_get hd
    rw [List.length_map] at hj
    refine ⟨trivial, _, atI_of (j := j) (by omega) (getI (by omega)), _, atI_of (j := j + 1) (by omega) (getI (by omega)), trivial, _, rfl, ?_⟩
    show if decide (ps.getD (j + 1) 0 ≤ ps.getD j 0) = true then _ else _
    by_cases cb : ps.getD (j + 1) 0 ≤ ps.getD j 0
    · rw [if_pos (decide_eq_true cb)]
      refine ⟨_, _, rfl, by rw [List.length_map]; omega, ⟨ks ++ [1 + (j : Int)], by rw [List.map_append]; rfl, by simp; omega, ?_⟩, rfl⟩
      constructor
      · intro h; simp at h
      · intro h
        have := h j (by omega)
        omega
    · rw [if_neg (by rw [decide_eq_true_eq]; exact cb)]
      refine ⟨⟨ks, rfl, by omega, ?_⟩, rfl⟩
      rw [hk]
      constructor
      · intro h i hi
        by_cases e : i = j
        · subst e
          omega
        · exact h i (by omega)
      · intro h i hi
        exact h i (by omega)
  rintro acc δ ⟨⟨ks, rfl, kl, hk⟩, rfl⟩
  rw [rgD_len, List.length_map] at kl hk
  refine ⟨_, _, rfl, ?_⟩
  show pr_lpread_1 _ [.im x, .im (.list (ps.map .int)), .ow false (.lst (ks.map .int)), .un, .un, .un]
  refine ⟨sh_ints61 ks, rfl, _, rfl, ?_⟩
  show if eqd (.list (ks.map PyData.int)) (.list []) = true then _ else _
  rw [eq_nil61]
  by_cases ck : ks = []
  · rw [decide_eq_true ck, if_pos rfl]
    have hs := hk.mp ck
    rw [pac_of rfl c1 c5 hb2 (pw_steps ps fun i hi => hs i (by omega))] at q
    exact ⟨_, _, rfl, q⟩
  · rw [decide_eq_false ck, if_neg (by decide)]
    refine ⟨_, _, rfl, no ?_⟩
    cases h : okP ((ps.map some).map (flt (-1000) 1000)) with
    | none => rfl
    | some qs =>
      obtain ⟨e1, e2, _, _⟩ := flt_map h
      have : ps = qs := map_inj_of (f := some) (fun a _ b _ z => Option.some.inj z) e1
      subst this
      exact absurd (hk.mpr fun i hi => steps_pw e2.rise (by omega)) ck
end Pv
/-! Texts that are no books: how the law reads a table. -/
namespace Pv
open PySem PySem.Spec PyProof.Rows L2 Wf TL
def sepW (n : Nat) : Str := if n = 0 then Str.ofString ":" else Str.ofString ","
noncomputable def num61 (w : Str) : Option Int := flt 0 (10 ^ 19) (numW w)
def dueL (W : List Str) (q : Wk) : Nat → List Str
  | 0 => [tI q.1, tI q.2]
  | n + 1 => dueL W q n ++ [sepW n, W.getD (3 + 3 * n) Str.empty, W.getD (4 + 3 * n) Str.empty]
noncomputable def fndL (W : List Str) : Nat → List (Option Int)
  | 0 => []
  | n + 1 => fndL W n ++ [num61 (W.getD (3 + 3 * n) Str.empty), num61 (W.getD (4 + 3 * n) Str.empty)]
def wordsN (q : Wk) (p : Nat → Wk) : Nat → List Str
  | 0 => [tI q.1, tI q.2]
  | n + 1 => wordsN q p n ++ [sepW n, tI (p n).1, tI (p n).2]
theorem dueL_len (W : List Str) (q : Wk) : ∀ n, (dueL W q n).length = 2 + 3 * n
  | 0 => rfl
  | n + 1 => by
    unfold dueL
    rw [List.length_append, dueL_len W q n]
    simp
    omega
theorem fndL_len (W : List Str) : ∀ n, (fndL W n).length = 2 * n
  | 0 => rfl
  | n + 1 => by
    unfold fndL
    rw [List.length_append, fndL_len W n]
    simp
    omega
theorem wordsN_len (q : Wk) (p : Nat → Wk) : ∀ n, (wordsN q p n).length = 2 + 3 * n
  | 0 => rfl
  | n + 1 => by
    unfold wordsN
    rw [List.length_append, wordsN_len q p n]
    simp
    omega
theorem due_words {W : List Str} {q : Wk} {p : Nat → Wk} : ∀ n, (∀ i, i < n → W.getD (3 + 3 * i) Str.empty = tI (p i).1 ∧ W.getD (4 + 3 * i) Str.empty = tI (p i).2) → dueL W q n = wordsN q p n
  | 0, _ => rfl
  | n + 1, h => by
    obtain ⟨h1, h2⟩ := h n (by omega)
    unfold dueL wordsN
    rw [due_words n fun i hi => h i (by omega), h1, h2]
theorem words_get (q : Wk) (p : Nat → Wk) : ∀ (n i : Nat), i < n → (wordsN q p n).getD (3 + 3 * i) Str.empty = tI (p i).1 ∧ (wordsN q p n).getD (4 + 3 * i) Str.empty = tI (p i).2
  | 0, i, h => by omega
  | n + 1, i, h => by
    unfold wordsN
    have l := wordsN_len q p n
    by_cases e : i = n
    · subst e
      rw [List.getD_eq_getElem?_getD, List.getD_eq_getElem?_getD, List.getElem?_append_right (by omega), List.getElem?_append_right (by omega), l, show 3 + 3 * i - (2 + 3 * i) = 1 by omega, show 4 + 3 * i - (2 + 3 * i) = 2 by omega]
      exact ⟨rfl, rfl⟩
    · have := words_get q p n i (by omega)
      rw [List.getD_eq_getElem?_getD, List.getD_eq_getElem?_getD] at this ⊢
      rw [List.getElem?_append_left (by omega), List.getElem?_append_left (by omega)]
      exact this
theorem fnd_get (W : List Str) : ∀ (n i : Nat), i < n → (fndL W n)[2 * i]? = some (num61 (W.getD (3 + 3 * i) Str.empty)) ∧ (fndL W n)[2 * i + 1]? = some (num61 (W.getD (4 + 3 * i) Str.empty))
  | 0, i, h => by omega
  | n + 1, i, h => by
    unfold fndL
    have l := fndL_len W n
    by_cases e : i = n
    · subst e
      rw [List.getElem?_append_right (by omega), List.getElem?_append_right (by omega), l, show 2 * i - 2 * i = 0 by omega, show 2 * i + 1 - 2 * i = 1 by omega]
      exact ⟨rfl, rfl⟩
    · rw [List.getElem?_append_left (by omega), List.getElem?_append_left (by omega)]
      exact fnd_get W n i (by omega)
theorem fnd_mem {W : List Str} : ∀ {n : Nat} {o : Option Int}, o ∈ fndL W n → ∃ i, i < n ∧ (o = num61 (W.getD (3 + 3 * i) Str.empty) ∨ o = num61 (W.getD (4 + 3 * i) Str.empty))
  | 0, o, h => by cases h
  | n + 1, o, h => by
    unfold fndL at h
    rcases List.mem_append.mp h with h | h
    · obtain ⟨i, hi, z⟩ := fnd_mem h
      exact ⟨i, by omega, z⟩
    · simp only [List.mem_cons, List.not_mem_nil, or_false] at h
      exact ⟨n, by omega, h⟩
theorem joinL_app {S : List Nat} : ∀ {a b : List (List Nat)}, a ≠ [] → b ≠ [] → joinL S (a ++ b) = joinL S a ++ (S ++ joinL S b)
  | [], b, h, _ => absurd rfl h
  | [x], b, _, hb => joinL_cons61 hb
  | x :: y :: r, b, _, hb => by
    have ih := joinL_app (S := S) (a := y :: r) (b := b) (by simp) hb
    show joinL S (x :: ((y :: r) ++ b)) = _
    rw [joinL_cons61 (by simp), ih, joinL_cons61 (p := x) (q := y :: r) (by simp)]
    simp only [List.append_assoc]
theorem tl_colon : tl (Str.ofString ":") = [58] := by decide +kernel
theorem tl_comma : tl (Str.ofString ",") = [44] := by decide +kernel
theorem words_join (q : Wk) (p : Nat → Wk) : ∀ n, 1 ≤ n → Txt.join sSp (wordsN q p n) = rowT (q, (List.range n).map p) := fun n hn => by
  refine ext_tl ?_
  unfold rowT headT pairsT
  rw [join_eq, tl_join, tl_append, tl_append, tl_append, tl_append, join_eq, tl_join, tl_sp, tl_cm, tl_co]
  induction n with
  | zero => omega
  | succ n ih =>
    by_cases h : n = 0
    · subst h
      show joinL [32] [tl (tI q.1), tl (tI q.2), tl (Str.ofString ":"), tl (tI (p 0).1), tl (tI (p 0).2)] = _ ++ tl (pairT (p 0))
      rw [tl_pair, tl_colon]
      simp [joinL]
    · have ih := ih (by omega)
      have w : wordsN q p (n + 1) = wordsN q p n ++ [sepW n, tI (p n).1, tI (p n).2] := rfl
      have ne1 : (wordsN q p n).map tl ≠ [] := fun z => by
        have := congrArg List.length z
        rw [List.length_map, wordsN_len] at this
        simp at this
      have ne2 : (((List.range n).map p).map pairT).map tl ≠ [] := fun z => by
        have := congrArg List.length z
        simp at this
        exact h this
      rw [w, List.map_append, joinL_app ne1 (by simp), ih, List.range_succ, List.map_append, List.map_append, List.map_append, joinL_app ne2 (by simp)]
      have e1 : joinL [32] ([sepW n, tI (p n).1, tI (p n).2].map tl) = [44] ++ ([32] ++ tl (pairT (p n))) := by
        rw [tl_pair]
        unfold sepW
        rw [if_neg h]
        show joinL [32] [tl (Str.ofString ","), tl (tI (p n).1), tl (tI (p n).2)] = _
        rw [tl_comma]
        simp [joinL]
      rw [e1]
      show _ = _ ++ (_ ++ ([32, 44, 32] ++ tl (pairT (p n))))
      simp only [List.append_assoc]
      rfl
def badO (s : Int) : Option Int → Bool
  | none => true
  | some b => decide (s ≤ b)
/-- the law's reading tells a table -/
theorem law_yes {row : Str} {q : Wk} {s : Int} {N : Nat} (s1 : 1 ≤ s) (s6 : s ≤ 6) (hN : (N : Int) = s * s) (N1 : 1 ≤ N) (hw : Txt.split row sSp = dueL (Txt.split row sSp) q N) (hb : ∀ o ∈ fndL (Txt.split row sSp) N, badO s o = false) :
    ∃ p : Nat → Wk, tabR row q s = some ((List.range N).map p) ∧ ∀ i, i < N → num61 ((Txt.split row sSp).getD (3 + 3 * i) Str.empty) = some (p i).1 ∧ num61 ((Txt.split row sSp).getD (4 + 3 * i) Str.empty) = some (p i).2 := by
  have js := join_split (x := row) (y := sSp) (by rw [tl_sp]; simp) (by decide +kernel)
  generalize Txt.split row sSp = W at *
  have val : ∀ w : Str, num61 w ∈ fndL W N → ∃ b, num61 w = some b ∧ 0 ≤ b ∧ b < s ∧ w = tI b := fun w hw => by
    have := hb _ hw
    cases e : num61 w with
    | none => rw [e] at this; cases this
    | some b =>
      rw [e] at this
      have this : decide (s ≤ b) = false := this
      rw [decide_eq_false_iff_not] at this
      obtain ⟨a1, a2, _⟩ := flt_some.mp e
      exact ⟨b, rfl, a2, by omega, (numW_some.mp a1).1⟩
  have vals : ∀ i, i < N → ∃ p : Wk, InP s p ∧ (num61 (W.getD (3 + 3 * i) Str.empty) = some p.1 ∧ num61 (W.getD (4 + 3 * i) Str.empty) = some p.2) ∧ (W.getD (3 + 3 * i) Str.empty = tI p.1 ∧ W.getD (4 + 3 * i) Str.empty = tI p.2) := fun i hi => by
    obtain ⟨f1, f2⟩ := fnd_get W N i hi
    obtain ⟨a, a1, a2, a3, a4⟩ := val _ (List.mem_of_getElem? f1)
    obtain ⟨b, b1, b2, b3, b4⟩ := val _ (List.mem_of_getElem? f2)
    exact ⟨(a, b), ⟨a2, a3, b2, b3⟩, ⟨a1, b1⟩, a4, b4⟩
  refine ⟨fun i => if h : i < N then (vals i h).choose else (0, 0), ?_, fun i hi => ?_⟩
  rotate_left
  · dsimp only
    rw [dif_pos hi]
    exact (vals i hi).choose_spec.2.1
  generalize hp : (fun i => if h : i < N then (vals i h).choose else ((0, 0) : Wk)) = p
  have hp2 : ∀ i, i < N → InP s (p i) ∧ (W.getD (3 + 3 * i) Str.empty = tI (p i).1 ∧ W.getD (4 + 3 * i) Str.empty = tI (p i).2) := fun i hi => by
    rw [← hp]
    dsimp only
    rw [dif_pos hi]
    exact ⟨(vals i hi).choose_spec.1, (vals i hi).choose_spec.2.2⟩
  refine tabR_some s1 s6 ⟨by rw [List.length_map, List.length_range]; exact hN, fun x hx => ?_⟩ ?_
  · obtain ⟨i, hi, rfl⟩ := List.mem_map.mp hx
    exact (hp2 i (List.mem_range.mp hi)).1
  · rw [← words_join q p N N1, ← due_words N fun i hi => (hp2 i hi).2, ← hw]
    exact js.symm
theorem law_no {row : Str} {q : Wk} {s : Int} {N : Nat} (s1 : 1 ≤ s) (s6 : s ≤ 6) (hN : (N : Int) = s * s) (N1 : 1 ≤ N) (h : ¬ (Txt.split row sSp = dueL (Txt.split row sSp) q N ∧ ∀ o ∈ fndL (Txt.split row sSp) N, badO s o = false)) : tabR row q s = none := by
  refine tabR_none fun t ok e => h ?_
  have tN : t.length = N := by
    have := ok.len
    omega
  have et : t = (List.range N).map fun i => t.getD i (0, 0) := by
    refine List.ext_getElem? fun i => ?_
    rw [List.getElem?_map]
    by_cases hi : i < N
    · rw [List.getElem?_range hi, List.getElem?_eq_getElem (by omega), Option.map_some, List.getD_eq_getElem?_getD, List.getElem?_eq_getElem (by omega)]
      rfl
    · rw [List.getElem?_eq_none (by omega), List.getElem?_eq_none (by rw [List.length_range]; omega)]
      rfl
  generalize hp : (fun i => t.getD i ((0, 0) : Wk)) = p at et
  have ws : Txt.split row sSp = wordsN q p N := by
    rw [e, et, ← words_join q p N N1]
    refine split_join tl_sp (by decide +kernel) (fun z => by have := congrArg List.length z; rw [wordsN_len] at this; simp at this) fun w hw => ?_
    have main : ∀ n, ∀ w ∈ wordsN q p n, 32 ∉ tl w := fun n => by
      induction n with
      | zero =>
        intro w hw
        have hw : w ∈ [tI q.1, tI q.2] := hw
        simp only [List.mem_cons, List.not_mem_nil, or_false] at hw
        rcases hw with rfl | rfl <;> exact tI_free (by omega)
      | succ n ih =>
        intro w hw
        have hw : w ∈ wordsN q p n ++ [sepW n, tI (p n).1, tI (p n).2] := hw
        rcases List.mem_append.mp hw with hw | hw
        · exact ih w hw
        · simp only [List.mem_cons, List.not_mem_nil, or_false] at hw
          rcases hw with rfl | rfl | rfl
          · unfold sepW
            split
            · rw [tl_colon]; decide
            · rw [tl_comma]; decide
          · exact tI_free (by omega)
          · exact tI_free (by omega)
    exact main N w hw
  rw [ws]
  have gw := words_get q p N
  refine ⟨(due_words N fun i hi => gw i hi).symm, fun o ho => ?_⟩
  obtain ⟨i, hi, z⟩ := fnd_mem ho
  obtain ⟨g1, g2⟩ := gw i hi
  have ip := ok.inn (p i) (by
    rw [et]
    exact List.mem_map.mpr ⟨i, List.mem_range.mpr hi, rfl⟩)
  obtain ⟨m1, m2⟩ := inp_sml ip s6
  obtain ⟨a0, a1, b0, b1⟩ := ip
  rw [g1, g2] at z
  rcases z with rfl | rfl
  · unfold num61
    rw [flt_some.mpr ⟨numW_some.mpr ⟨rfl, m1⟩, a0, by omega⟩]
    exact decide_eq_false (by omega)
  · unfold num61
    rw [flt_some.mpr ⟨numW_some.mpr ⟨rfl, m2⟩, b0, by omega⟩]
    exact decide_eq_false (by omega)
end Pv
/-! Texts that are no books: the law reads a table. -/
namespace Pv
open PySem PySem.Spec PyProof.Rows L2 Wf TL
theorem lay_asc {x : Str} (h : AscT x) : (PyData.str x).canLay0 = true := by
  show x.cps.all _ = true
  rw [← Array.all_toList, List.all_eq_true]
  intro c hc
  have := h c hc
  rw [decide_eq_true_eq]
  omega
theorem sh_strs61 (w : List Str) (h : ∀ x ∈ w, AscT x) : SeqAt.shaped (.list (w.map PyData.str)) = true := shL_map PyData.str w fun x hx => ⟨lay_asc (h x hx), Nat.le_refl 0⟩
theorem asc_getD {W : List Str} (h : ∀ w ∈ W, AscT w) (i : Nat) : AscT (W.getD i Str.empty) := by
  rw [List.getD_eq_getElem?_getD]
  cases e : W[i]? with
  | none => exact fun c hc => by cases hc
  | some w => exact h w (List.mem_of_getElem? e)
theorem asc_tI {i : Int} : AscT (tI i) := fun c hc => tI_low hc
theorem due_asc {W : List Str} {q : Wk} (h : ∀ w ∈ W, AscT w) : ∀ n, ∀ x ∈ dueL W q n, AscT x
  | 0, x, hx => by
    have hx : x ∈ [tI q.1, tI q.2] := hx
    simp only [List.mem_cons, List.not_mem_nil, or_false] at hx
    rcases hx with rfl | rfl <;> exact asc_tI
  | n + 1, x, hx => by
    unfold dueL at hx
    rcases List.mem_append.mp hx with z | z
    · exact due_asc h n x z
    · simp only [List.mem_cons, List.not_mem_nil, or_false] at z
      rcases z with rfl | rfl | rfl
      · unfold sepW
        intro c hc
        split at hc
        · rw [tl_colon, List.mem_singleton] at hc; omega
        · rw [tl_comma, List.mem_singleton] at hc; omega
      · exact asc_getD h _
      · exact asc_getD h _
theorem ev_str61 (x y : Str) : PyData.eqv (.str x) (.str y) = decide (x = y) := by
  simp [PyData.eqv]
  rfl
theorem ev_strs61 : ∀ (a b : List Str), PyData.eqvAll (a.map PyData.str) (b.map PyData.str) = decide (a = b)
  | [], [] => by simp [PyData.eqvAll]
  | [], _ :: _ => by simp [PyData.eqvAll]
  | _ :: _, [] => by simp [PyData.eqvAll]
  | x :: a, y :: b => by
    show (PyData.eqv (.str x) (.str y) && PyData.eqvAll (a.map PyData.str) (b.map PyData.str)) = _
    rw [ev_strs61 a b, ev_str61]
    by_cases h1 : x = y <;> by_cases h2 : a = b <;> simp [h1, h2]
theorem eq_strs61 (a b : List Str) : eqd (.list (a.map PyData.str)) (.list (b.map PyData.str)) = decide (a = b) := ev_strs61 a b
-- DEF _law_table_read N ['_law_words', '_law_u', '_law_v', '_law_size', '_law_n', '_law_due', '_law_found', '_law_place', '_law_word', '_law_burden'] calls ['_law_number'] takes []
def pr_ltread_1 : PSx :=
    pExpr (pMt mAppend (pVar 5) (pCons (pVar 8) (pNil)))
def pr_ltread_2 : PSx :=
    pSeq (pExpr (pMt mAppend (pVar 6) (pCons (pCall psp_lnum (pCons (pFz (pVar 8)) (pNil)) noX) (pNil))))
    (pr_ltread_1)
def pb_ltread_3 : PSx :=
    pSeq (pSet 8 (pIx (pAdd (pVar 0) (pLst (pCons (pK (.str "")) (pNil)))) (pC (q2 fMin2) (pCons (pC (q1 fLen) (pCons (pVar 5) (pNil))) (pCons (pC (q1 fLen) (pCons (pVar 0) (pNil))) (pNil))))))
    (pr_ltread_2)
def pr_ltread_3 : PSx :=
    pFor [7, 8] (iRg (pCons (pK (.int 2)) (pNil))) (gN 7) (pb_ltread_3)
def pb_ltread_5 : PSx :=
    pSeq (pExpr (pMt mAppend (pVar 5) (pCons (pIfE (pT (pEq false (pVar 4) (pK (.int 0)))) (pK (.str ":")) (pK (.str ","))) (pNil))))
    (pr_ltread_3)
def pe_ltread_6 : PX :=
    pVar 9
def pe_ltread_7 : PX :=
    pTup (pCons (pIx (pVar 6) (pMul (pK (.int 2)) (pVar 4))) (pCons (pIx (pVar 6) (pAdd (pMul (pK (.int 2)) (pVar 4)) (pK (.int 1)))) (pNil)))
def pr_ltread_4 : PSx :=
    pRet (pC (q1 fTupleOf) (pCons (pComp (iRg (pCons (pMul (pVar 3) (pVar 3)) (pNil))) (gN 4) (pYes) (pe_ltread_7) [4]) (pNil)))
def pr_ltread_5 : PSx :=
    pSeq (pIf (pOr (pT (pEq true (pVar 0) (pVar 5))) (pT (pEq true (pComp (iSeq (pVar 6)) (gN 9) (pOr (pT (pIs false (pVar 9) (pK .none))) (pT (pGe (pVar 9) (pVar 3)))) (pe_ltread_6) [9]) (pLst (pNil))))) (pRet (pK .none)) (pNext))
    (pr_ltread_4)
def pr_ltread_6 : PSx :=
    pSeq (pFor [4, 7, 8] (iRg (pCons (pMul (pVar 3) (pVar 3)) (pNil))) (gN 4) (pb_ltread_5))
    (pr_ltread_5)
def p_ltread : PSx :=
    pSeq (pPar [5, 6] (pCons (pLst (pCons (pC (qD fStrI) (pCons (pVar 1) (pNil))) (pCons (pC (qD fStrI) (pCons (pVar 2) (pNil))) (pNil)))) (pCons (pLst (pNil)) (pNil))))
    (pr_ltread_6)
def psp_ltread : PSp := fun as Q _ => ∃ (row : Str) (q : Wk) (s : Int), as = [.im (.list ((Txt.split row sSp).map .str)), .im (.int q.1), .im (.int q.2), .im (.int s)] ∧ AscT row ∧ row.length ≤ 6000 ∧ Sml q.1 ∧ Sml q.2 ∧ 1 ≤ s ∧ s ≤ 6 ∧ Q (.im (dTo (tabR row q s))) [.un, .un, .un, .un]
abbrev sR61 (W : List Str) (q : Wk) (s : Int) (s4 : Sl) (D : List Str) (F : List (Option Int)) (s7 s8 s9 : Sl) : List Sl := [.im (.list (W.map .str)), .im (.int q.1), .im (.int q.2), .im (.int s), s4, .ow false (.lst (D.map .str)), .ow false (.lst (F.map optD)), s7, s8, s9]
theorem hp_word61 {E : PEn} {W D : List Str} {q : Wk} {s : Int} {n : Nat} {F : List (Option Int)} {s7 : Sl} {i : Nat} (hW : ∀ w ∈ W, AscT w ∧ w.length ≤ sizeLine) (wl : W.length ≤ 6001) (dl : D.length = i) (il : i ≤ 200) (fl : F.length ≤ 200)
    (k : ∀ w, E.nx (sR61 W q s (.im (nD n)) (D ++ [W.getD i Str.empty]) (F ++ [num61 (W.getD i Str.empty)]) s7 (.im w) .un)) :
    pb_ltread_3 E (sR61 W q s (.im (nD n)) D F s7 .un .un) := by
  have z : 10000 < sizeLine := by decide
  have main : ∀ w : Str, AscT w → w.length ≤ sizeLine → w = W.getD i Str.empty → pr_ltread_2 E (sR61 W q s (.im (nD n)) D F s7 (.im (.str w)) .un) := fun w wa wl2 e => by
    refine ⟨_, _, _, rfl, rfl, _, _, rfl, _, rfl, List.nodup_nil, w, rfl, wa, wl2, ?_⟩
    refine ⟨_, _, _, _, rfl, rfl, by rw [List.length_map]; omega, ?_⟩
    refine ⟨_, _, _, rfl, rfl, _, _, _, _, rfl, rfl, by rw [List.length_map]; omega, ?_⟩
    have := k (.str w)
    unfold sR61 at this
    rw [List.map_append, List.map_append, ← e] at this
    exact this
  refine ⟨?_, ?_⟩
  · rw [List.length_map]
    show W.length + 1 ≤ _
    omega
  show ∃ d, atI (W.map PyData.str ++ [.str (Str.ofString "")]) (if ((W.map PyData.str).length : Int) < ((D.map PyData.str).length : Int) then ((W.map PyData.str).length : Int) else ((D.map PyData.str).length : Int)) = some d ∧ _
  rw [List.length_map, List.length_map, dl]
  by_cases h : i < W.length
  · rw [if_neg (by omega)]
    have g : W[i]? = some (W.getD i Str.empty) := by
      rw [List.getD_eq_getElem?_getD, List.getElem?_eq_getElem h]
      rfl
    obtain ⟨wa, wl2⟩ := hW _ (List.mem_of_getElem? g)
    refine ⟨_, atI_of (j := i) rfl (by rw [List.getElem?_append_left (by rw [List.length_map]; exact h), List.getElem?_map, g]; rfl), ?_⟩
    refine ⟨_, _, rfl, ?_⟩
    exact main _ wa wl2 rfl
  · have e : W.getD i Str.empty = Str.empty := by
      rw [List.getD_eq_getElem?_getD, List.getElem?_eq_none (by omega)]
      rfl
    refine ⟨.str Str.empty, ?_, ?_⟩
    · have hl : (W.map PyData.str).length = W.length := List.length_map ..
      refine atI_of (j := W.length) (by split <;> omega) ?_
      rw [List.getElem?_append_right (by omega), hl, Nat.sub_self]
      rfl
    refine ⟨_, _, rfl, ?_⟩
    exact main _ (fun c hc => by cases hc) (Nat.zero_le _) e.symm
theorem hp_ltread (as : List Sl) (Qp : QE) (Ep : EX) (h : psp_ltread as Qp Ep) : p_ltread (endsP as Qp) (as ++ List.replicate 6 .un) := by
  obtain ⟨row, q, s, rfl, asc, rl, q1, q2, s1, s6, k⟩ := h
  have z : 10000 < sizeLine := by decide
  obtain ⟨w1, w2⟩ := words_parts row
  have ss : s * s ≤ 6 * 6 := Int.mul_le_mul (by omega) (by omega) (by omega) (by decide)
  have s11 : 1 * 1 ≤ s * s := Int.mul_le_mul s1 s1 (by decide) (by omega)
  obtain ⟨N, hN⟩ : ∃ N : Nat, (N : Int) = s * s := ⟨(s * s).toNat, by omega⟩
  have N1 : 1 ≤ N := by omega
  have N36 : N ≤ 36 := by omega
  have yes := law_yes (row := row) (q := q) s1 s6 hN N1
  have no := law_no (row := row) (q := q) s1 s6 hN N1
  have hW : ∀ w ∈ Txt.split row sSp, AscT w ∧ w.length ≤ sizeLine := fun w hw => by
    have := w1 w hw
    exact ⟨fun c hc => asc c (this.2 c hc), by omega⟩
  generalize Txt.split row sSp = W at *
  refine ⟨log19 q1, log19 q2, _, _, rfl, ?_⟩
  show pr_ltread_6 _ (sR61 W q s .un (dueL W q 0) (fndL W 0) .un .un .un)
  refine ⟨.inl (.inl ⟨by omega, by omega⟩), by omega, by omega, ?_⟩
  refine for_rg N hN.symm (fun n δ => δ = sR61 W q s .un (dueL W q n) (fndL W n) .un .un .un) rfl ?_ ?_
  · rintro n δ hn rfl
    have dl := dueL_len W q n
    have fl := fndL_len W n
    have main : ∀ (E : PEn) (c : Str), c = sepW n → E.nx (sR61 W q s (.im (nD n)) (dueL W q (n + 1)) (fndL W (n + 1)) .un .un .un) → pr_ltread_3 E (sR61 W q s (.im (nD n)) (dueL W q n ++ [c]) (fndL W n) .un .un .un) := fun E c hc k2 => by
      refine ⟨by decide, by decide, ?_⟩
      refine for_rg 2 rfl (fun p δ => δ = sR61 W q s (.im (nD n)) (dueL W q n ++ [c] ++ (List.range p).map fun i => W.getD (3 + 3 * n + i) Str.empty) (fndL W n ++ (List.range p).map fun i => num61 (W.getD (3 + 3 * n + i) Str.empty)) .un .un .un) (by show sR61 W q s (.im (nD n)) _ _ .un .un .un = _; simp) ?_ ?_
      · rintro p δ hp rfl
        refine hp_word61 (i := 3 + 3 * n + p) hW (by omega) (by simp [dl]; omega) (by omega) (by simp [fl]; omega) fun w => ?_
        show sR61 W q s (.im (nD n)) _ _ .un .un .un = sR61 W q s (.im (nD n)) _ _ .un .un .un
        rw [List.range_succ, List.map_append, List.map_append]
        simp only [List.append_assoc]
        rfl
      · rintro δ rfl
        have e1 : dueL W q n ++ [c] ++ (List.range 2).map (fun i => W.getD (3 + 3 * n + i) Str.empty) = dueL W q (n + 1) := by
          show _ = dueL W q n ++ [sepW n, W.getD (3 + 3 * n) Str.empty, W.getD (4 + 3 * n) Str.empty]
          rw [hc, List.append_assoc, show 4 + 3 * n = 3 + 3 * n + 1 by omega]
          rfl
        have e2 : fndL W n ++ (List.range 2).map (fun i => num61 (W.getD (3 + 3 * n + i) Str.empty)) = fndL W (n + 1) := by
          show _ = fndL W n ++ [num61 (W.getD (3 + 3 * n) Str.empty), num61 (W.getD (4 + 3 * n) Str.empty)]
          rw [show 4 + 3 * n = 3 + 3 * n + 1 by omega]
          rfl
        rw [e1, e2]
        exact k2
    refine ⟨_, _, _, rfl, rfl, ?_⟩
    refine ⟨_, rfl, ?_⟩
    show if decide ((n : Int) = 0) = true then _ else _
    by_cases n0 : n = 0
    · rw [if_pos (by rw [decide_eq_true_eq]; omega)]
      refine ⟨_, _, _, _, rfl, rfl, by rw [List.length_map]; omega, ?_⟩
      show pr_ltread_3 _ [.im (.list (W.map .str)), .im (.int q.1), .im (.int q.2), .im (.int s), .im (nD n), .ow false (.lst ((dueL W q n).map .str ++ [.str (Str.ofString ":")])), .ow false (.lst ((fndL W n).map optD)), .un, .un, .un]
      rw [show (dueL W q n).map PyData.str ++ [.str (Str.ofString ":")] = (dueL W q n ++ [Str.ofString ":"]).map .str by rw [List.map_append]; rfl]
      exact main _ (Str.ofString ":") (by unfold sepW; rw [if_pos n0]) rfl
    · rw [if_neg (by rw [decide_eq_true_eq]; omega)]
      refine ⟨_, _, _, _, rfl, rfl, by rw [List.length_map]; omega, ?_⟩
      show pr_ltread_3 _ [.im (.list (W.map .str)), .im (.int q.1), .im (.int q.2), .im (.int s), .im (nD n), .ow false (.lst ((dueL W q n).map .str ++ [.str (Str.ofString ",")])), .ow false (.lst ((fndL W n).map optD)), .un, .un, .un]
      rw [show (dueL W q n).map PyData.str ++ [.str (Str.ofString ",")] = (dueL W q n ++ [Str.ofString ","]).map .str by rw [List.map_append]; rfl]
      exact main _ (Str.ofString ",") (by unfold sepW; rw [if_neg n0]) rfl
  rintro δ rfl
  have dl := dueL_len W q N
  have fl := fndL_len W N
  have fg := fnd_get W N
  show pr_ltread_5 _ (sR61 W q s .un (dueL W q N) (fndL W N) .un .un .un)
  refine ⟨sh_strs61 _ fun x hx => (hW x hx).1, sh_strs61 _ (due_asc (fun x hx => (hW x hx).1) N), _, rfl, ?_⟩
  show if (!eqd (.list (W.map PyData.str)) (.list ((dueL W q N).map PyData.str))) = true then _ else _
  rw [eq_strs61]
  by_cases hw : W = dueL W q N
  rotate_left
  · rw [decide_eq_false hw, if_pos (by decide)]
    rw [no fun z => hw z.1] at k
    exact ⟨_, _, rfl, k⟩
  rw [decide_eq_true hw, if_neg (by decide)]
  generalize hF : fndL W N = F at *
  generalize dueL W q N = D at *
  refine ⟨_, _, _, rfl, rfl, noPin1 (fun o => nofun), fun j acc δ => acc = ((F.take j).filter (badO s)).map optD ∧ δ = [.im (.list (W.map .str)), .im (.int q.1), .im (.int q.2), .im (.int s), .un, .ow false (.lst (D.map .str)), .im (.list (F.map optD)), .un, .un, .un], ⟨rfl, rfl⟩, ?_, ?_⟩
  · rintro j d acc δ hd ⟨rfl, rfl⟩
    rw [List.getElem?_map] at hd
    obtain ⟨o, ho, rfl⟩ := Option.map_eq_some_iff.mp hd
    have hj := (List.getElem?_eq_some_iff.mp ho).1
    have fll : ((F.take j).filter (badO s)).length ≤ 200 := by
      have := List.length_filter_le (badO s) (F.take j)
      rw [List.length_take] at this
      omega
    have put : ∀ (b : Bool), badO s o = b → ((F.take (j + 1)).filter (badO s)).map optD = if b = true then ((F.take j).filter (badO s)).map optD ++ [optD o] else ((F.take j).filter (badO s)).map optD := fun b hb => by
      rw [List.take_add_one, ho, Option.toList_some, List.filter_append, List.filter_cons, hb]
      cases b <;> simp
    cases o with
    | none =>
      have p := put true rfl
      rw [if_pos rfl] at p
      refine ⟨_, rfl, ?_⟩
      show if true = true then _ else _
      rw [if_pos rfl]
      exact ⟨_, _, rfl, by rw [List.length_map]; omega, p.symm, rfl⟩
    | some b =>
      refine ⟨_, rfl, ?_⟩
      show if false = true then _ else _
      rw [if_neg (by decide)]
      refine ⟨trivial, _, rfl, ?_⟩
      show if decide (s ≤ b) = true then _ else _
      by_cases c : s ≤ b
      · have p := put true (decide_eq_true c)
        rw [if_pos rfl] at p
        rw [if_pos (decide_eq_true c)]
        exact ⟨_, _, rfl, by rw [List.length_map]; omega, p.symm, rfl⟩
      · have p := put false (decide_eq_false c)
        rw [if_neg (by decide)] at p
        rw [if_neg (by rw [decide_eq_true_eq]; exact c)]
        exact ⟨p.symm, rfl⟩
  rintro acc δ ⟨rfl, rfl⟩
  rw [List.length_map, List.take_length]
  refine ⟨?_, rfl, _, rfl, ?_⟩
  · exact sh_opts _
  show if (!eqd (.list ((F.filter (badO s)).map optD)) (.list [])) = true then _ else _
  rw [eq_nil61]
  by_cases hb : F.filter (badO s) = []
  rotate_left
  · rw [decide_eq_false hb, if_pos (by decide)]
    rw [no fun z => hb (List.filter_eq_nil_iff.mpr fun o ho => by rw [z.2 o ho]; decide)] at k
    exact ⟨_, _, rfl, k⟩
  rw [decide_eq_true hb, if_neg (by decide)]
  obtain ⟨p, ht, hp⟩ := yes hw fun o ho => by
    have := List.filter_eq_nil_iff.mp hb o ho
    simpa using this
  rw [ht] at k
  show pr_ltread_4 _ [.im (.list (W.map .str)), .im (.int q.1), .im (.int q.2), .im (.int s), .un, .ow false (.lst (D.map .str)), .im (.list (F.map optD)), .un, .un, .un]
  refine ⟨.inl (.inl ⟨by omega, by omega⟩), by omega, by omega, noPin1 (fun o => nofun), fun j acc δ => acc = ((List.range j).map p).map dP ∧ δ = [.im (.list (W.map .str)), .im (.int q.1), .im (.int q.2), .im (.int s), .un, .ow false (.lst (D.map .str)), .im (.list (F.map optD)), .un, .un, .un], ⟨rfl, rfl⟩, ?_, ?_⟩
  · rintro j d acc δ hd ⟨rfl, rfl⟩
    obtain ⟨rfl, hj⟩ := rgD_get hd
    have hjN : j < N := by omega
    obtain ⟨g1, g2⟩ := fg j hjN
    obtain ⟨v1, v2⟩ := hp j hjN
    rw [v1] at g1
    rw [v2] at g2
    have e0 : (2 * (0 + (j : Int))) = ((2 * j : Nat) : Int) := by omega
    refine ⟨.inl (.inl ⟨by omega, by omega⟩), _, atI_of (j := 2 * j) (by omega) (by rw [List.getElem?_map, g1]; rfl), .inl (.inl ⟨by omega, by omega⟩), _, atI_of (j := 2 * j + 1) (by omega) (by rw [List.getElem?_map, g2]; rfl), ?_⟩
    refine ⟨_, _, rfl, ?_, ?_, rfl⟩
    · rw [List.length_map, List.length_map, List.length_range]
      omega
    · rw [List.range_succ, List.map_append, List.map_append]
      rfl
  rintro acc δ ⟨rfl, rfl⟩
  rw [rgD_len]
  have e : (s * s - 0).toNat = N := by omega
  rw [e]
  exact ⟨_, _, rfl, k⟩
end Pv
/-! Texts that are no books: the law reads a book. -/
namespace Pv
open PySem PySem.Spec PyProof.Rows L2 Wf TL
def resB : Sum Nat Book → PyData
  | .inl i => .tuple [.str "text", nD i]
  | .inr B => .tuple [.str "book", dB B]
theorem split_empty : Txt.split Str.empty sSp = [Str.empty] := by
  have := split_join (parts := [Str.empty]) tl_sp (by decide +kernel) (by simp) fun p hp => by
    rw [List.mem_singleton.mp hp]
    intro z
    cases z
  exact this
theorem sortR_empty : sortR (Txt.split Str.empty sSp) = none := by rw [split_empty]; rfl
theorem flt16 (x : Option Int) : flt 1 6 x = match flt 0 (10 ^ 19) x with
    | none => none
    | some s => if 1 ≤ s ∧ s ≤ 6 then some s else none := by
  cases x with
  | none => rfl
  | some n =>
    by_cases h : 1 ≤ n ∧ n ≤ 6
    · rw [flt_some.mpr ⟨rfl, h⟩, flt_some.mpr ⟨rfl, by omega, by omega⟩]
      exact (if_pos h).symm
    · have e1 : flt 1 6 (some n) = none := flt_out rfl h
      rw [e1]
      by_cases h2 : 0 ≤ n ∧ n ≤ 10 ^ 19
      · rw [flt_some.mpr ⟨rfl, h2⟩]
        exact (if_neg h).symm
      · rw [flt_out rfl h2]
theorem tabR_empty (q : Wk) (s : Int) : tabR Str.empty q s = none := tabR_none fun t _ e => by
  have := congrArg Str.length e
  have e2 : (rowT (q, t)).length = (headT q).length + (pairsT t).length := add_len _ _
  have e3 : (headT q).length = (tI q.1 ++ sSp ++ tI q.2).length + sCo.length := add_len _ _
  rw [e2, e3, l_co] at this
  have e0 : Str.empty.length = 0 := rfl
  omega
theorem at_snoc {α : Type} (xs : List α) (d : α) : atI (xs ++ [d]) (-1) = some d := by
  unfold atI ixN
  rw [if_neg (by decide), if_pos (by simp; omega)]
  show (xs ++ [d])[(((xs ++ [d]).length : Int) + -1).toNat]? = _
  have : (((xs ++ [d]).length : Int) + -1).toNat = xs.length := by rw [List.length_append]; simp; omega
  rw [this, List.getElem?_append_right (by omega), Nat.sub_self]
  rfl
-- DEF _law_read N ['_law_text', '_law_swift', '_law_u', '_law_rows', '_law_size', '_law_tables', '_law_at', '_law_v', '_law_row'] calls ['_law_paces_read', '_law_number', '_law_table_read'] takes []
def pe_lread61_1 : PX :=
    pSplit (pVar 8) (pK (.str " "))
def pr_lread61_1 : PSx :=
    pSet 6 (pAdd (pVar 6) (pK (.int 1)))
def pr_lread61_2 : PSx :=
    pSeq (pIf (pT (pIs false (pIx (pVar 5) (pNeg (pK (.int 1)))) (pK .none))) (pRet (pTup (pCons (pK (.str "text")) (pCons (pVar 6) (pNil))))) (pNext))
    (pr_lread61_1)
def pr_lread61_3 : PSx :=
    pSeq (pExpr (pMt mAppend (pVar 5) (pCons (pCall psp_ltread (pCons (pFz (pIx (pVar 3) (pVar 6))) (pCons (pFz (pVar 2)) (pCons (pFz (pVar 7)) (pCons (pFz (pVar 4)) (pNil))))) noX) (pNil))))
    (pr_lread61_2)
def pb_lread61_5 : PSx :=
    pSeq (pIf (pT (pEq false (pVar 6) (pC (q1 fLen) (pCons (pVar 3) (pNil))))) (pRet (pTup (pCons (pK (.str "text")) (pCons (pVar 6) (pNil))))) (pNext))
    (pr_lread61_3)
def pb_lread61_6 : PSx :=
    pFor [7] (iRg (pCons (pVar 2) (pNil))) (gN 7) (pb_lread61_5)
def pr_lread61_4 : PSx :=
    pRet (pTup (pCons (pK (.str "book")) (pCons (pTup (pCons (pVar 1) (pCons (pVar 4) (pCons (pC (q1 fTupleOf) (pCons (pVar 5) (pNil))) (pNil))))) (pNil))))
def pr_lread61_5 : PSx :=
    pSeq (pIf (pT (pLt (pVar 6) (pC (q1 fLen) (pCons (pVar 3) (pNil))))) (pRet (pTup (pCons (pK (.str "text")) (pCons (pVar 6) (pNil))))) (pNext))
    (pr_lread61_4)
def pr_lread61_6 : PSx :=
    pSeq (pFor [2, 7] (iRg (pCons (pC (q1 fLen) (pCons (pVar 1) (pNil))) (pNil))) (gN 2) (pb_lread61_6))
    (pr_lread61_5)
def pr_lread61_7 : PSx :=
    pSeq (pPar [5, 6] (pCons (pLst (pNil)) (pCons (pK (.int 2)) (pNil))))
    (pr_lread61_6)
def pr_lread61_8 : PSx :=
    pSeq (pIf (pOr (pT (pIs false (pVar 4) (pK .none))) (pNot (pT (pChain qLeD qLeD (pK (.int 1)) (pVar 4) (pK (.int 6)))))) (pRet (pTup (pCons (pK (.str "text")) (pCons (pK (.int 1)) (pNil))))) (pNext))
    (pr_lread61_7)
def pr_lread61_9 : PSx :=
    pSeq (pIf (pAnd (pT (pGt (pC (q1 fLen) (pCons (pVar 3) (pNil))) (pK (.int 1)))) (pAnd (pT (pEq false (pC (q1 fLen) (pCons (pIx (pVar 3) (pK (.int 1))) (pNil))) (pK (.int 2)))) (pT (pEq false (pIx (pIx (pVar 3) (pK (.int 1))) (pK (.int 0))) (pK (.str "sorts")))))) (pSet 4 (pCall psp_lnum (pCons (pFz (pIx (pIx (pVar 3) (pK (.int 1))) (pK (.int 1)))) (pNil)) noX)) (pNext))
    (pr_lread61_8)
def pr_lread61_10 : PSx :=
    pSeq (pIf (pT (pIs false (pVar 1) (pK .none))) (pRet (pTup (pCons (pK (.str "text")) (pCons (pK (.int 0)) (pNil))))) (pNext))
    (pr_lread61_9)
def pr_lread61_11 : PSx :=
    pSeq (pSet 1 (pCall psp_lpread (pCons (pFz (pIx (pVar 3) (pK (.int 0)))) (pNil)) noX))
    (pr_lread61_10)
def p_lread61 : PSx :=
    pSeq (pPar [3, 4] (pCons (pComp (iSeq (pSplit (pVar 0) (pK (.str "\n")))) (gN 8) (pYes) (pe_lread61_1) [8]) (pCons (pK .none) (pNil))))
    (pr_lread61_11)
def psp_lread61 : PSp := fun as Q _ => ∃ text : Str, as = [.im (.str text)] ∧ AscT text ∧ text.length ≤ 6000 ∧ Q (.im (resB (rdB (Txt.split text sNl)))) [.un]
def wdL (x : Str) : PyData := .list ((Txt.split x sSp).map .str)
abbrev sG61 (text : Str) (R : List Str) (s1 s2 s4 s5 s6 s7 : Sl) : List Sl := [.im (.str text), s1, s2, .ow false (.lst (R.map wdL)), s4, s5, s6, s7, .un]
theorem hp_lread61 (as : List Sl) (Qp : QE) (Ep : EX) (h : psp_lread61 as Qp Ep) : p_lread61 (endsP as Qp) (as ++ List.replicate 8 .un) := by
  obtain ⟨text, rfl, asc, tl6, q⟩ := h
  have z : 100000 < sizeLine := by decide
  obtain ⟨r1, r2, r3⟩ := rows_len61 tl6
  obtain ⟨c1, c2⟩ := split_parts (x := text) (y := sNl) (by rw [tl_nl]; simp) (by decide +kernel)
  have ra : ∀ w ∈ Txt.split text sNl, AscT w ∧ w.length ≤ 6000 := fun w hw => by
    have := c1 w hw
    exact ⟨fun c hc => asc c (this.2 c hc), by omega⟩
  refine ⟨_, rfl, _, rfl, by decide +kernel, by omega, ?_⟩
  generalize Txt.split text sNl = R at *
  refine ⟨_, _, _, rfl, rfl, noPin1 (fun o => nofun), fun j acc δ => acc = (R.take j).map wdL ∧ δ = [.im (.str text), .un, .un, .un, .un, .un, .un, .un, .un], ⟨rfl, rfl⟩, ?_, ?_⟩
  · rintro j d acc δ hd ⟨rfl, rfl⟩
    rw [List.getElem?_map] at hd
    obtain ⟨w, hw, rfl⟩ := Option.map_eq_some_iff.mp hd
    have hj := (List.getElem?_eq_some_iff.mp hw).1
    have wl := (ra w (List.mem_of_getElem? hw)).2
    refine ⟨_, rfl, _, rfl, by decide +kernel, by omega, _, _, rfl, ?_, ?_, rfl⟩
    · rw [List.length_map, List.length_take]
      omega
    · rw [List.take_add_one, hw, Option.toList_some, List.map_append]
      rfl
  rintro acc δ ⟨rfl, rfl⟩
  rw [List.length_map, List.take_length]
  refine ⟨_, _, rfl, ?_⟩
  show pr_lread61_11 _ (sG61 text R .un .un (.im .none) .un .un .un)
  have g0 : ∀ i, i < R.length → R[i]? = some (R.getD i Str.empty) := fun i hi => by
    rw [List.getD_eq_getElem?_getD, List.getElem?_eq_getElem hi]
    rfl
  have gm : ∀ i, i < R.length → (R.map wdL)[i]? = some (wdL (R.getD i Str.empty)) := fun i hi => by rw [List.getElem?_map, g0 i hi]; rfl
  have ga : ∀ i, i < R.length → AscT (R.getD i Str.empty) ∧ (R.getD i Str.empty).length ≤ 6000 := fun i hi => ra _ (List.mem_of_getElem? (g0 i hi))
  refine ⟨_, atI_of (j := 0) rfl (gm 0 (by omega)), _, _, rfl, _, rfl, List.nodup_nil, R.getD 0 Str.empty, rfl, (ga 0 (by omega)).1, (ga 0 (by omega)).2, ?_⟩
  refine ⟨_, _, rfl, ?_⟩
  show pr_lread61_10 _ (sG61 text R (.im (dIo (pacR (Txt.split (R.getD 0 Str.empty) sSp)))) .un (.im .none) .un .un .un)
  unfold rdB at q
  cases hp : pacR (Txt.split (R.getD 0 Str.empty) sSp) with
  | none =>
    rw [hp] at q
    refine ⟨_, rfl, ?_⟩
    show if true = true then _ else _
    rw [if_pos (by decide)]
    exact ⟨_, _, rfl, q⟩
  | some ps =>
  rw [hp] at q
  dsimp only at q
  obtain ⟨pok, p1, p5⟩ := pacR_ok hp
  refine ⟨_, rfl, ?_⟩
  show if false = true then _ else _
  rw [if_neg (by decide)]
  show pr_lread61_9 _ (sG61 text R (.im (dI ps)) .un (.im .none) .un .un .un)
  have main : ∀ s, 1 ≤ s → s ≤ 6 → 2 ≤ R.length → Qp (.im (resB (match goT R s 0 (kindsP ps.length) [] with | .inl i => .inl i | .inr ts => .inr ⟨ps, s, ts⟩))) [.un] → pr_lread61_7 (endsP [.im (.str text)] Qp) (sG61 text R (.im (dI ps)) .un (.im (.int s)) .un .un .un) := fun s s1 s6 R2 q => by
    generalize hm : ps.length = m at q p1 p5
    have kl : (kindsP m).length ≤ 25 := by
      have := kindsP_len m
      have : m * m ≤ 5 * 5 := Nat.mul_le_mul p5 p5
      omega
    have ks := kindsP_sml p5
    generalize hG : goT R s 0 (kindsP m) [] = RES at q
    refine ⟨_, _, rfl, ?_⟩
    show pr_lread61_6 _ (sG61 text R (.im (dI ps)) .un (.im (.int s)) (.ow false (.lst [])) (.im (nD 2)) .un)
    have el : ((ps.map PyData.int).length : Int) = (m : Int) := by rw [List.length_map, hm]
    refine ⟨by rw [el]; omega, by rw [el]; omega, ?_⟩
    refine for_rg m (by rw [el]) (fun u δ => ∃ ts : List Tab, ts.length = (kindsP u).length ∧ goT R s (kindsP u).length ((kindsP m).drop (kindsP u).length) ts = RES ∧ 2 + (kindsP u).length ≤ R.length ∧ δ = sG61 text R (.im (dI ps)) .un (.im (.int s)) (.ow false (.lst (ts.map dT))) (.im (nD (2 + (kindsP u).length))) .un) ⟨[], rfl, hG, R2, rfl⟩ ?_ ?_
    · rintro u δ hu ⟨ts, tsl, hg, RL, rfl⟩
      refine ⟨by omega, by omega, ?_⟩
      refine for_rg u (by omega) (fun v δ => ∃ ts : List Tab, ts.length = (kindsP u).length + v ∧ goT R s ((kindsP u).length + v) ((kindsP m).drop ((kindsP u).length + v)) ts = RES ∧ 2 + ((kindsP u).length + v) ≤ R.length ∧ δ = sG61 text R (.im (dI ps)) (.im (nD u)) (.im (.int s)) (.ow false (.lst (ts.map dT))) (.im (nD (2 + ((kindsP u).length + v)))) .un) ⟨ts, tsl, hg, RL, rfl⟩ ?_ ?_
      · rintro v δ hv ⟨ts, tsl, hg, RL, rfl⟩
        have lt := kindsP_lt hu hv
        have hk := kindsP_get hu hv
        rw [show (kindsP u).length + (v + 1) = (kindsP u).length + v + 1 by omega]
        generalize (kindsP u).length + v = i at *
        have ed : (kindsP m).drop i = ((u : Int), (v : Int)) :: (kindsP m).drop (i + 1) := by
          rw [List.drop_eq_getElem_cons lt, (List.getElem?_eq_some_iff.mp hk).2]
        have q12 := ks _ (List.mem_of_getElem? hk)
        rw [ed] at hg
        unfold goT at hg
        refine ⟨_, rfl, ?_⟩
        show if decide (((2 + i : Nat) : Int) = ((R.map wdL).length : Int)) = true then _ else _
        by_cases c : 2 + i = R.length
        · rw [if_pos (by rw [decide_eq_true_eq, List.length_map]; omega)]
          have : R.getD (2 + i) Str.empty = Str.empty := by
            rw [List.getD_eq_getElem?_getD, List.getElem?_eq_none (by omega)]
            rfl
          rw [this, tabR_empty] at hg
          rw [← hg] at q
          exact ⟨_, _, rfl, q⟩
        rw [if_neg (by rw [decide_eq_true_eq, List.length_map]; omega)]
        have R3 : 2 + i < R.length := by omega
        have G1 := gm (2 + i) R3
        obtain ⟨A1, L1⟩ := ga (2 + i) R3
        refine ⟨_, _, _, rfl, rfl, _, atI_of (j := 2 + i) rfl G1, _, _, rfl, _, _, rfl, _, _, rfl, _, _, rfl, _, rfl, List.nodup_nil, R.getD (2 + i) Str.empty, ((u : Int), (v : Int)), s, rfl, A1, L1, q12.1, q12.2, s1, s6, ?_⟩
        refine ⟨_, _, _, _, rfl, rfl, by rw [List.length_map, tsl]; omega, ?_⟩
        show pr_lread61_2 _ [.im (.str text), .im (dI ps), .im (nD u), .ow false (.lst (R.map wdL)), .im (.int s), .ow false (.lst (ts.map dT ++ [dTo (tabR (R.getD (2 + i) Str.empty) ((u : Int), (v : Int)) s)])), .im (nD (2 + i)), .im (nD v), .un]
        refine ⟨_, at_snoc _ _, _, rfl, ?_⟩
        cases ht : tabR (R.getD (2 + i) Str.empty) ((u : Int), (v : Int)) s with
        | none =>
          rw [ht] at hg
          show if true = true then _ else _
          rw [if_pos (by decide)]
          rw [← hg] at q
          exact ⟨_, _, rfl, q⟩
        | some t =>
          rw [ht] at hg
          show if false = true then _ else _
          rw [if_neg (by decide)]
          refine ⟨_, _, rfl, ts ++ [t], by simp [tsl], hg, by omega, ?_⟩
          rw [List.map_append]
          rfl
      · rintro δ ⟨ts, tsl, hg, RL, rfl⟩
        rw [← kindsP_row] at tsl hg RL
        refine ⟨ts, tsl, hg, RL, ?_⟩
        rw [kindsP_row]
        rfl
    · rintro δ ⟨ts, tsl, hg, RL, rfl⟩
      rw [List.drop_length] at hg
      unfold goT at hg
      show pr_lread61_5 _ (sG61 text R (.im (dI ps)) .un (.im (.int s)) (.ow false (.lst (ts.map dT))) (.im (nD (2 + (kindsP m).length))) .un)
      refine ⟨trivial, _, rfl, ?_⟩
      show if decide (((2 + (kindsP m).length : Nat) : Int) < ((R.map wdL).length : Int)) = true then _ else _
      by_cases c : 2 + (kindsP m).length < R.length
      · rw [if_pos (by rw [decide_eq_true_eq, List.length_map]; omega)]
        rw [if_pos c] at hg
        rw [← hg] at q
        exact ⟨_, _, rfl, q⟩
      · rw [if_neg (by rw [decide_eq_true_eq, List.length_map]; omega)]
        rw [if_neg c] at hg
        rw [← hg] at q
        exact ⟨_, _, rfl, q⟩
  have main8 : ∀ o : Option Int, (sortR (Txt.split (R.getD 1 Str.empty) sSp) = match o with | none => none | some s => if 1 ≤ s ∧ s ≤ 6 then some s else none) → (o ≠ none → 2 ≤ R.length) → pr_lread61_8 (endsP [.im (.str text)] Qp) (sG61 text R (.im (dI ps)) .un (.im (optD o)) .un .un .un) := fun o ho h2 => by
    cases o with
    | none =>
      rw [ho] at q
      refine ⟨_, rfl, ?_⟩
      show if true = true then _ else _
      rw [if_pos (by decide)]
      exact ⟨_, _, rfl, q⟩
    | some s =>
      refine ⟨_, rfl, ?_⟩
      show if false = true then _ else _
      rw [if_neg (by decide)]
      by_cases c : 1 ≤ s ∧ s ≤ 6
      · have ho : sortR (Txt.split (R.getD 1 Str.empty) sSp) = some s := by rw [ho]; exact if_pos c
        rw [ho] at q
        refine ⟨_, rfl, trivial, _, rfl, ?_⟩
        show if decide ((1 : Int) ≤ s) = true then _ else _
        rw [if_pos (decide_eq_true c.1)]
        refine ⟨trivial, _, rfl, ?_⟩
        show if (!decide (s ≤ 6)) = true then _ else _
        rw [decide_eq_true c.2, if_neg (by decide)]
        exact main s c.1 c.2 (h2 nofun) q
      · have ho : sortR (Txt.split (R.getD 1 Str.empty) sSp) = none := by rw [ho]; exact if_neg c
        rw [ho] at q
        refine ⟨_, rfl, trivial, _, rfl, ?_⟩
        show if decide ((1 : Int) ≤ s) = true then _ else _
        by_cases d : 1 ≤ s
        · rw [if_pos (decide_eq_true d)]
          refine ⟨trivial, _, rfl, ?_⟩
          show if (!decide (s ≤ 6)) = true then _ else _
          rw [decide_eq_false (by omega), if_pos (by decide)]
          exact ⟨_, _, rfl, q⟩
        · rw [if_neg (by rw [decide_eq_true_eq]; exact d)]
          refine ⟨false, rfl, ?_⟩
          show if (!false) = true then _ else _
          rw [if_pos (by decide)]
          exact ⟨_, _, rfl, q⟩
  refine ⟨trivial, _, rfl, ?_⟩
  show if decide ((1 : Int) < ((R.map wdL).length : Int)) = true then _ else _
  by_cases R1 : 1 < R.length
  rotate_left
  · rw [if_neg (by rw [decide_eq_true_eq, List.length_map]; omega)]
    refine main8 none ?_ nofun
    have : R.getD 1 Str.empty = Str.empty := by
      rw [List.getD_eq_getElem?_getD, List.getElem?_eq_none (by omega)]
      rfl
    rw [this]
    exact sortR_empty
  rw [if_pos (by rw [decide_eq_true_eq, List.length_map]; omega)]
  have G1 := gm 1 R1
  obtain ⟨A1, L1⟩ := ga 1 R1
  generalize R.getD 1 Str.empty = row at *
  obtain ⟨w1, w2⟩ := words_parts row
  unfold wdL at G1
  obtain ⟨a, r, e⟩ := words_some row
  rw [e] at G1 w1 w2 main8
  refine ⟨_, atI_of (j := 1) rfl G1, _, rfl, ?_⟩
  show if decide ((((a :: r).map PyData.str).length : Int) = 2) = true then _ else _
  rcases r with _ | ⟨b, _ | ⟨d, r⟩⟩
  · rw [if_neg (by show ¬ decide ((1 : Int) = 2) = true; decide)]
    exact main8 none rfl nofun
  · rw [if_pos (by show decide ((2 : Int) = 2) = true; decide)]
    refine ⟨_, atI_of (j := 1) rfl G1, _, atI_of (j := 0) rfl rfl, _, rfl, ?_⟩
    show if decide (a = sSo) = true then _ else _
    by_cases c : a = sSo
    rotate_left
    · rw [if_neg (by rw [decide_eq_true_eq]; exact c)]
      refine main8 none ?_ nofun
      show (if a = sSo then _ else _) = _
      rw [if_neg c]
    rw [if_pos (decide_eq_true c)]
    have bw := w1 b (by simp)
    refine ⟨_, atI_of (j := 1) rfl G1, _, atI_of (j := 1) rfl rfl, _, _, rfl, _, rfl, List.nodup_nil, b, rfl, fun x hx => A1 x (bw.2 x hx), by omega, ?_⟩
    refine ⟨_, _, rfl, ?_⟩
    refine main8 (flt 0 (10 ^ 19) (numW b)) ?_ fun _ => by omega
    show (if a = sSo then _ else _) = _
    rw [if_pos c]
    exact flt16 _
  · rw [if_neg (by rw [decide_eq_true_eq, List.length_map, List.length_cons, List.length_cons, List.length_cons]; omega)]
    exact main8 none rfl nofun
/-! ### what the program tells, as the law hears it -/
-- DEF _law_told N ['_law_text', '_law_found', '_law_e'] calls ['read_book', '_law_text_refusal'] takes ['cNoText']
def pr_ltold61_1 : PSx :=
    pRet (pVar 1)
def pr_ltold61_2 (cNoText : Addr) : PSx :=
    pSeq (pTry 2 1 (fun C => C = cNoText) (xTup2 (pK (.str "book")) (xCall (psp_read_book61 cNoText) (pCons (pFz (pVar 0)) (pNil)))) (fun a cls d => pSet 1 (pErr (ansRef cNoText) a cls d 2)))
    (pr_ltold61_1)
def p_ltold61 (cNoText : Addr) : PSx :=
    pSeq (pSet 1 (pK .none))
    (pr_ltold61_2 cNoText)
def psp_ltold61 : PSp := fun as Q _ => ∃ text : Str, as = [.im (.str text)] ∧ text.length ≤ 6000 ∧ Q (.im (resB (rdB (Txt.split text sNl)))) [.un]
theorem hp_ltold61 (cNoText : Addr) (as : List Sl) (Qp : QE) (Ep : EX) (h : psp_ltold61 as Qp Ep) : p_ltold61 cNoText (endsP as Qp) (as ++ List.replicate 2 .un) := by
  obtain ⟨w, rfl, wl, q⟩ := h
  refine ⟨_, _, rfl, ?_⟩
  show pr_ltold61_2 cNoText _ [.im (.str w), .im .none, .un]
  refine ⟨_, _, rfl, _, rfl, w, rfl, wl, fun B h => ?_, fun i h => ?_⟩
  · rw [h] at q
    refine ⟨_, _, rfl, _, _, rfl, ?_⟩
    exact ⟨_, _, rfl, q⟩
  · rw [h] at q
    refine ⟨rfl, fun a dd => ?_⟩
    refine ⟨dd, cNoText, _, _, rfl, rfl, rfl, ⟨rfl, nD i, rfl, rfl⟩, _, _, rfl, ?_⟩
    exact ⟨_, _, rfl, q⟩
theorem wt_resB (rows : List Str) : noL (resB (rdB rows)) = true ∧ wt (resB (rdB rows)) ≤ 1000000 := by
  cases h : rdB rows with
  | inl i => exact ⟨by simp [resB, noL, noLAll]; decide +kernel, by simp [resB, wt, wtAll]⟩
  | inr B =>
    have sb := rdB_ok h
    have tm := tame_dB sb.bk
    have nl := noL_dB B
    refine ⟨?_, ?_⟩
    · show noL (.tuple [.str "book", dB B]) = true
      simp [noL, noLAll, nl]
      decide +kernel
    · show wt (.tuple [.str "book", dB B]) ≤ 1000000
      have := tm.2.2
      simp only [wt, wtAll]
      omega
end Pv
/-! Texts that are no books: how long a book's text is; the law's words. -/
namespace Pv
open PySem PySem.Spec PyProof.Rows L2 Wf TL
theorem tI_dig {i : Int} (h0 : 0 ≤ i) (h9 : i ≤ 9) : (tI i).length = 1 := by
  have : i = 0 ∨ i = 1 ∨ i = 2 ∨ i = 3 ∨ i = 4 ∨ i = 5 ∨ i = 6 ∨ i = 7 ∨ i = 8 ∨ i = 9 := by omega
  rcases this with rfl | rfl | rfl | rfl | rfl | rfl | rfl | rfl | rfl | rfl <;> decide +kernel
theorem pair_len3 {s : Int} {p : Wk} (h : InP s p) (s6 : s ≤ 6) : (pairT p).length ≤ 3 := by
  obtain ⟨a, b, c, d⟩ := h
  have h1 := tI_dig (i := p.1) a (by omega)
  have h2 := tI_dig (i := p.2) c (by omega)
  rw [len_tl] at h1 h2 ⊢
  rw [tl_pair]
  simp only [List.length_append, List.length_cons, List.length_nil]
  omega
theorem pairs_len6 {s : Int} {t : Tab} (h : TabOk s t) (s6 : s ≤ 6) : (pairsT t).length ≤ t.length * 6 := by
  have := join_len (y := sCm) (ps := t.map pairT) (c := 3) fun p hp => by
    obtain ⟨x, hx, rfl⟩ := List.mem_map.mp hp
    exact pair_len3 (h.inn x hx) s6
  rw [List.length_map, l_cm] at this
  exact this
theorem kinds_dig {m : Nat} (m5 : m ≤ 5) : ∀ q ∈ kindsP m, (0 ≤ q.1 ∧ q.1 ≤ 9) ∧ 0 ≤ q.2 ∧ q.2 ≤ 9 := fun q hq => by
  obtain ⟨u, hu, hq⟩ := List.mem_flatMap.mp hq
  obtain ⟨v, hv, rfl⟩ := List.mem_map.mp hq
  have := List.mem_range.mp hu
  have := List.mem_range.mp hv
  exact ⟨⟨by show (0 : Int) ≤ (u : Int); omega, by show (u : Int) ≤ 9; omega⟩, by show (0 : Int) ≤ (v : Int); omega, by show (v : Int) ≤ 9; omega⟩
theorem rows_len222 {m : Nat} {B : Book} (h : SmB m B) : ∀ x ∈ rowsT m B, x.length ≤ 222 := fun x hx => by
  have := h.bk.pac.len
  have := h.m5
  rcases List.mem_cons.mp hx with rfl | hx
  · have := row0_len h.row0
    omega
  · rcases List.mem_cons.mp hx with rfl | hx
    · have := h.bk.s1
      have := h.bk.s6
      have := row1_len (n := B.s) (by show B.s.natAbs < _; omega)
      omega
    · obtain ⟨y, hy, rfl⟩ := List.mem_map.mp hx
      have h1 := List.of_mem_zip hy
      obtain ⟨⟨a, b⟩, c, d⟩ := kinds_dig h.m5 y.1 h1.1
      have e1 := tI_dig a b
      have e2 := tI_dig c d
      have ok := h.bk.tab.ok y.2 h1.2
      have pl := pairs_len6 ok h.bk.s6
      have few := tab_few h.bk h1.2
      unfold rowT headT
      rw [add_len, add_len, add_len, add_len, e1, e2, l_sp, l_co]
      omega
theorem book_len2676 {m : Nat} {B : Book} (h : SmB m B) : (bookT m B).length ≤ 2676 := by
  have := join_len (y := sNl) (rows_len222 h)
  rw [l_nl] at this
  have := rows_few h
  unfold bookT
  omega
theorem book_asc (m : Nat) (B : Book) : AscT (bookT m B) := fun c hc => by
  unfold bookT at hc
  rw [join_eq, tl_join, tl_nl] at hc
  rcases mem_joinL hc with z | ⟨p, hp, hc⟩
  · rw [List.mem_singleton.mp z]; omega
  · obtain ⟨x, hx, rfl⟩ := List.mem_map.mp hp
    exact (low_rows x hx).low c hc
end Pv
/-! Texts that are no books: one row too many. -/
namespace Pv
open PySem PySem.Spec PyProof.Rows L2 Wf TL
theorem goT_go {R : List Str} {s : Int} (s1 : 1 ≤ s) (s6 : s ≤ 6) : ∀ (r : List Wk) (us : List Tab) (i : Nat) (acc : List Tab), r.length = us.length → (∀ (j : Nat) (x : Wk × Tab), (r.zip us)[j]? = some x → R.getD (2 + i + j) Str.empty = rowT x) → (∀ u ∈ us, TabOk s u) →
    goT R s i r acc = if 2 + (i + r.length) < R.length then .inl (2 + (i + r.length)) else .inr (acc ++ us)
  | [], [], i, acc, _, _, _ => by
    show (if 2 + i < R.length then _ else _) = _
    rw [List.append_nil]
    rfl
  | [], _ :: _, _, _, h, _, _ => by simp at h
  | _ :: _, [], _, _, h, _, _ => by simp at h
  | q :: r, u :: us, i, acc, h, hr, hu => by
    unfold goT
    have e := hr 0 (q, u) rfl
    rw [show 2 + i + 0 = 2 + i by omega] at e
    rw [tabR_some s1 s6 (hu u List.mem_cons_self) e]
    dsimp only
    rw [goT_go s1 s6 r us (i + 1) (acc ++ [u]) (by simpa using h) (fun j x hx => by
      have := hr (j + 1) x hx
      rw [show 2 + (i + 1) + j = 2 + i + (j + 1) by omega]
      exact this) fun x hx => hu x (List.mem_cons_of_mem _ hx)]
    rw [List.length_cons, show i + 1 + r.length = i + (r.length + 1) by omega, List.append_assoc]
    rfl
theorem more_split (m : Nat) (B : Book) : Txt.split (bookT m B ++ sNl) sNl = rowsT m B ++ [Str.empty] := by
  have e : bookT m B ++ sNl = Txt.join sNl (rowsT m B ++ [Str.empty]) := by
    refine ext_tl ?_
    unfold bookT
    rw [tl_append, join_eq, tl_join, join_eq, tl_join, List.map_append, joinL_app (by unfold rowsT; simp) (by simp)]
    show _ = _ ++ (tl sNl ++ [])
    rw [List.append_nil]
  rw [e]
  refine split_join tl_nl (by decide +kernel) (by simp) fun p hp => ?_
  rcases List.mem_append.mp hp with z | z
  · exact (low_rows p z).nl
  · rw [List.mem_singleton.mp z]
    intro h
    cases h
theorem row0_reads {ps : List Int} (pok : PacesOk (ps.length : Int) ps) (p1 : 1 ≤ ps.length) (p5 : ps.length ≤ 5) : pacR (Txt.split (row0 ps) sSp) = some ps := by
  rw [row0_split]
  unfold pacR
  rw [if_pos (show (sPc :: ps.map tI).head? = some sPc from rfl)]
  show okP ((ps.map tI).map fun w => flt (-1000) 1000 (numW w)) = _
  have : (ps.map tI).map (fun w => flt (-1000) 1000 (numW w)) = ps.map some := by
    rw [List.map_map]
    refine List.map_congr_left fun p hp => ?_
    have b := pok.lo p hp
    exact flt_some.mpr ⟨numW_some.mpr ⟨rfl, by unfold SmlI; omega⟩, b⟩
  rw [this]
  exact okP_of p1 p5 pok.rise pok.lo
theorem row1_reads {s : Int} (s1 : 1 ≤ s) (s6 : s ≤ 6) : sortR (Txt.split (row1 s) sSp) = some s := by
  rw [row1_split]
  show (if sSo = sSo then flt 1 6 (numW (tI s)) else none) = _
  rw [if_pos rfl]
  exact flt_some.mpr ⟨numW_some.mpr ⟨rfl, by unfold SmlI; omega⟩, s1, s6⟩
theorem more_told {B : Book} (sb : P60 B) : rdB (Txt.split (tB B ++ sNl) sNl) = .inl (rowsT B.ps.length B).length := by
  have s1 := sb.bk.s1
  have s6 := sb.bk.s6
  have kn := kindsP_nT sb.m1 sb.m5
  have tn := sb.bk.tab.len
  have kt : (kindsP B.ps.length).length = B.ts.length := by omega
  have rl : (rowsT B.ps.length B).length = 2 + (kindsP B.ps.length).length := by
    unfold rowsT
    rw [List.length_cons, List.length_cons, List.length_map, List.length_zip]
    omega
  have e : Txt.split (tB B ++ sNl) sNl = rowsT B.ps.length B ++ [Str.empty] := more_split _ B
  rw [e]
  unfold rdB
  rw [show (rowsT B.ps.length B ++ [Str.empty]).getD 0 Str.empty = row0 B.ps from rfl, row0_reads sb.bk.pac sb.m1 sb.m5]
  dsimp only
  rw [show (rowsT B.ps.length B ++ [Str.empty]).getD 1 Str.empty = row1 B.s from rfl, row1_reads s1 s6]
  dsimp only
  rw [goT_go s1 s6 _ B.ts 0 [] kt (fun j x hx => by
    have g := rows_get hx
    rw [show 2 + 0 + j = 2 + j by omega, List.getD_eq_getElem?_getD, List.getElem?_append_left (List.getElem?_eq_some_iff.mp g).1, g]
    rfl) fun u hu => sb.bk.tab.ok u hu]
  rw [if_pos (by rw [List.length_append, rl]; simp)]
  rw [rl, Nat.zero_add]
theorem none_told : rdB (Txt.split Str.empty sNl) = .inl 0 := by
  have e : Txt.split Str.empty sNl = [Str.empty] := by
    have := split_join (parts := [Str.empty]) tl_nl (by decide +kernel) (by simp) fun p hp => by
      rw [List.mem_singleton.mp hp]
      intro z
      cases z
    exact this
  rw [e]
  unfold rdB
  rw [show [Str.empty].getD 0 Str.empty = Str.empty from rfl, split_empty]
  unfold pacR
  rw [if_neg (by
    intro z
    have := congrArg Str.length (Option.some.inj z)
    rw [l_pc] at this
    cases this)]
end Pv
/-! Texts that are wrong: what the program tells; the law. -/
namespace Pv
open PySem PySem.Spec PyProof.Rows L2 Wf TL
-- DEF _law_told N ['_law_book', '_law_text', '_law_found', '_law_e', '_law_row', '_law_spots_here'] calls ['read_setting', '_law_text_refusal'] takes ['cNoText']
-- DEF law N ['_law_script', '_law_deal_here', '_law_book', '_law_words', '_law_spots_here', '_law_row', '_law_good', '_law_turn', '_law_bare', '_law_size', '_law_many', '_law_great', '_law_text', '_law_more', '_law_one', '_law_due', '_law_spot', '_law_k'] calls ['_law_deal', '_law_draw', '_law_bare_book', '_law_spots', '_law_setting_rows', '_law_spoilt_text', '_law_read_setting', '_law_alike', '_law_told'] takes []
end Pv
/-! Texts that are wrong: the law. -/
namespace Pv
open PySem PySem.Spec PyProof.Rows L2 Wf TL
def WOk (x : Str) : Prop := AscT x ∧ x.length ≤ 4401
theorem lit_ok {x : Str} (h : ((tl x).all (fun c => decide (c < 128)) && decide (x.length ≤ 4401)) = true) : WOk x := by
  rw [Bool.and_eq_true, decide_eq_true_eq] at h
  exact ⟨fun c hc => of_decide_eq_true (List.all_eq_true.mp h.1 c hc), h.2⟩
theorem mul_W {z : Str} {c : Nat} (hz : tl z = [c]) (hc : c < 128) {n : Nat} (hn : n ≤ 4400) : AscT (Txt.mul z (n : Int)) ∧ (Txt.mul z (n : Int)).length = n := by
  have e := tl_mul hz n
  refine ⟨fun x hx => ?_, by rw [len_tl, e, List.length_replicate]⟩
  rw [e] at hx
  rw [List.eq_of_mem_replicate hx]
  exact hc
theorem app_W {x y : Str} (hx : AscT x) (hy : AscT y) (l : x.length + y.length ≤ 4401) : WOk (x ++ y) := by
  refine ⟨fun c hc => ?_, by rw [add_len]; exact l⟩
  rw [tl_append, List.mem_append] at hc
  exact hc.elim (hx c) (hy c)
def wsC : List Str := [Txt.mul (Str.ofString "9") 4400, Str.ofString "1" ++ Txt.mul (Str.ofString "0") 4399, Str.ofString "-" ++ Txt.mul (Str.ofString "9") 4400]
theorem t9 : tl (Str.ofString "9") = [57] := by decide +kernel
theorem t0 : tl (Str.ofString "0") = [48] := by decide +kernel
theorem wsC_ok : ∀ x ∈ wsC, WOk x := fun x hx => by
  have h9 := mul_W t9 (by decide) (n := 4400) (by decide)
  have h0 := mul_W t0 (by decide) (n := 4399) (by decide)
  have e9 : (4400 : Int) = ((4400 : Nat) : Int) := rfl
  have e0 : (4399 : Int) = ((4399 : Nat) : Int) := rfl
  unfold wsC at hx
  simp only [List.mem_cons, List.not_mem_nil, or_false] at hx
  rw [e9, e0] at hx
  have o1 : WOk (Str.ofString "1") ∧ (Str.ofString "1").length = 1 := ⟨lit_ok (by decide +kernel), by decide +kernel⟩
  have o2 : WOk (Str.ofString "-") ∧ (Str.ofString "-").length = 1 := ⟨lit_ok (by decide +kernel), by decide +kernel⟩
  rcases hx with rfl | rfl | rfl
  · exact ⟨h9.1, by rw [h9.2]; decide⟩
  · exact app_W o1.1.1 h0.1 (by rw [o1.2, h0.2]; decide)
  · exact app_W o2.1.1 h9.1 (by rw [o2.2, h9.2]; decide)
end Pv
/-! Texts that are wrong: the law itself. -/
namespace Pv
open PySem PySem.Spec PyProof.Rows L2 Wf TL
def WdS (ws : List Str) (s : Sl) : Prop := s = .ow false (.lst (ws.map .str)) ∨ s = .im (.list (ws.map .str))
theorem M9 : MulOk (Str.ofString "9") 4400 := mul_ok t9 (n := 4400) (by decide)
theorem M0 : MulOk (Str.ofString "0") 4399 := mul_ok t0 (n := 4399) (by decide)
theorem L0 : (Str.ofString "1").length + (Txt.mul (Str.ofString "0") 4399).length ≤ sizeLine := by
  have := (mul_W t0 (by decide) (n := 4399) (by decide)).2
  have e : (Str.ofString "1").length = 1 := by decide +kernel
  have e2 : ((4399 : Nat) : Int) = 4399 := rfl
  rw [e2] at this
  rw [e, this]
  decide
theorem L9 : (Str.ofString "-").length + (Txt.mul (Str.ofString "9") 4400).length ≤ sizeLine := by
  have := (mul_W t9 (by decide) (n := 4400) (by decide)).2
  have e : (Str.ofString "-").length = 1 := by decide +kernel
  have e2 : ((4400 : Nat) : Int) = 4400 := rfl
  rw [e2] at this
  rw [e, this]
  decide
end Pv
/-! Texts that are no books: the law. -/
namespace Pv
open PySem PySem.Spec PyProof.Rows L2 Wf TL
-- DEF law N ['_law_script', '_law_deal_here', '_law_words', '_law_book_here', '_law_good_here', '_law_turn', '_law_many', '_law_size', '_law_text', '_law_more', '_law_one'] calls ['_law_deal', '_law_draw', '_law_book', '_law_book_rows', '_law_spoilt_text', '_law_alike', '_law_read', '_law_told'] takes []
def pb_law61_1 : PSx :=
    pSet 8 (pCall psp_lspoilt (pCons (pVar 1) (pCons (pFz (pVar 8)) (pCons (pFz (pVar 2)) (pNil)))) noX)
def pb_law61_2 : PSx :=
    pIf (pAnd (pT (pLe (pC (q1 fLen) (pCons (pVar 10) (pNil))) (pK (.int 6000)))) (pNot (pT (pCall psp_alike (pCons (pFz (pCall psp_ltold61 (pCons (pFz (pVar 10)) (pNil)) noX)) (pCons (pFz (pCall psp_lread61 (pCons (pFz (pVar 10)) (pNil)) noX)) (pNil))) noX)))) (pRet (pK (.bool false))) (pNext)
def pr_law61_1 : PSx :=
    pFor [10] (iSeq (pTup (pCons (pVar 8) (pCons (pVar 4) (pNil))))) (gN 10) (pb_law61_2)
def pr_law61_2 : PSx :=
    pSeq (pFor [9] (iRg (pCons (pAdd (pK (.int 1)) (pCall psp_draw (pCons (pVar 1) (pCons (pFz (pK (.int 3))) (pNil))) noX)) (pNil))) (gN 9) (pb_law61_1))
    (pr_law61_1)
def pb_law61_5 : PSx :=
    pSeq (pSet 8 (pVar 4))
    (pr_law61_2)
def pr_law61_3 : PSx :=
    pRet (pCall psp_alike (pCons (pFz (pCall psp_ltold61 (pCons (pFz (pAdd (pVar 4) (pK (.str "\n")))) (pNil)) noX)) (pCons (pFz (pTup (pCons (pK (.str "text")) (pCons (pC (q1 fLen) (pCons (pSplit (pVar 4) (pK (.str "\n"))) (pNil))) (pNil))))) (pNil))) noX)
def pr_law61_4 : PSx :=
    pSeq (pIf (pNot (pT (pCall psp_alike (pCons (pFz (pCall psp_ltold61 (pCons (pFz (pK (.str ""))) (pNil)) noX)) (pCons (pFz (pTup (pCons (pK (.str "text")) (pCons (pK (.int 0)) (pNil))))) (pNil))) noX))) (pRet (pK (.bool false))) (pNext))
    (pr_law61_3)
def pr_law61_5 : PSx :=
    pSeq (pFor [5, 8, 9, 10] (iRg (pCons (pK (.int 8)) (pNil))) (gN 5) (pb_law61_5))
    (pr_law61_4)
def pr_law61_6 : PSx :=
    pSeq (pSet 4 (pJoin (pK (.str "\n")) (pCall psp_lbrows (pCons (pFz (pVar 3)) (pNil)) noX)))
    (pr_law61_5)
def pr_law61_7 : PSx :=
    pSeq (pSet 3 (pCall psp_book (pCons (pVar 1) (pCons (pFz (pVar 6)) (pCons (pFz (pVar 7)) (pCons (pFz (pCall psp_draw (pCons (pVar 1) (pCons (pFz (pK (.int 3))) (pNil))) noX)) (pNil))))) noX))
    (pr_law61_6)
def pr_law61_8 : PSx :=
    pSeq (pPar [6, 7] (pCons (pAdd (pK (.int 1)) (pCall psp_draw (pCons (pVar 1) (pCons (pFz (pK (.int 5))) (pNil))) noX)) (pCons (pAdd (pK (.int 1)) (pCall psp_draw (pCons (pVar 1) (pCons (pFz (pK (.int 6))) (pNil))) noX)) (pNil))))
    (pr_law61_7)
def pr_law61_9 : PSx :=
    pSeq (pSet 2 (pAdd (pVar 2) (pLst (pCons (pMulS (pK (.str "9")) (pK (.int 4400))) (pCons (pAdd (pK (.str "1")) (pMulS (pK (.str "0")) (pK (.int 4399)))) (pCons (pAdd (pK (.str "-")) (pMulS (pK (.str "9")) (pK (.int 4400)))) (pNil)))))))
    (pr_law61_8)
def pr_law61_10 : PSx :=
    pSeq (pSet 2 (pAdd (pVar 2) (pLst (pCons (pK (.str ",")) (pCons (pK (.str "")) (pCons (pK (.str "paces")) (pCons (pK (.str "sorts")) (pCons (pK (.str "+1")) (pCons (pK (.str "1_0")) (pCons (pK (.str "x")) (pCons (pK (.str "1,")) (pCons (pK (.str "-")) (pNil)))))))))))))
    (pr_law61_9)
def pr_law61_11 : PSx :=
    pSeq (pSet 2 (pLst (pCons (pK (.str "0")) (pCons (pK (.str "1")) (pCons (pK (.str "2")) (pCons (pK (.str "3")) (pCons (pK (.str "-1")) (pCons (pK (.str "-0")) (pCons (pK (.str "00")) (pCons (pK (.str "01")) (pCons (pK (.str "6")) (pCons (pK (.str "7")) (pCons (pK (.str "1000")) (pCons (pK (.str "1001")) (pCons (pK (.str "-1000")) (pCons (pK (.str "-1001")) (pCons (pMulS (pK (.str "9")) (pK (.int 20))) (pCons (pK (.str ":")) (pNil)))))))))))))))))))
    (pr_law61_10)
def p_law61 : PSx :=
    pSeq (pSet 1 (pCall psp_deal (pCons (pVar 0) (pCons (pFz (pK (.int 0))) (pNil))) noX))
    (pr_law61_11)
def wA61 : List Str := [Str.ofString "0", Str.ofString "1", Str.ofString "2", Str.ofString "3", Str.ofString "-1", Str.ofString "-0", Str.ofString "00", Str.ofString "01", Str.ofString "6", Str.ofString "7", Str.ofString "1000", Str.ofString "1001", Str.ofString "-1000", Str.ofString "-1001", Txt.mul (Str.ofString "9") 20, Str.ofString ":"]
def wB61 : List Str := [Str.ofString ",", Str.ofString "", Str.ofString "paces", Str.ofString "sorts", Str.ofString "+1", Str.ofString "1_0", Str.ofString "x", Str.ofString "1,", Str.ofString "-"]
theorem w20 : WOk (Txt.mul (Str.ofString "9") 20) := by
  have := mul_W t9 (by decide) (n := 20) (by decide)
  exact ⟨this.1, by rw [show (20 : Int) = ((20 : Nat) : Int) from rfl, this.2]; decide⟩
theorem wA61_ok : ∀ x ∈ wA61, WOk x := fun x hx => by
  unfold wA61 at hx
  simp only [List.mem_cons, List.not_mem_nil, or_false] at hx
  rcases hx with rfl | rfl | rfl | rfl | rfl | rfl | rfl | rfl | rfl | rfl | rfl | rfl | rfl | rfl | rfl | rfl
  · exact lit_ok (by decide +kernel)
  · exact lit_ok (by decide +kernel)
  · exact lit_ok (by decide +kernel)
  · exact lit_ok (by decide +kernel)
  · exact lit_ok (by decide +kernel)
  · exact lit_ok (by decide +kernel)
  · exact lit_ok (by decide +kernel)
  · exact lit_ok (by decide +kernel)
  · exact lit_ok (by decide +kernel)
  · exact lit_ok (by decide +kernel)
  · exact lit_ok (by decide +kernel)
  · exact lit_ok (by decide +kernel)
  · exact lit_ok (by decide +kernel)
  · exact lit_ok (by decide +kernel)
  · exact w20
  · exact lit_ok (by decide +kernel)
theorem wB61_ok : ∀ x ∈ wB61, WOk x := fun x hx => by
  unfold wB61 at hx
  simp only [List.mem_cons, List.not_mem_nil, or_false] at hx
  rcases hx with rfl | rfl | rfl | rfl | rfl | rfl | rfl | rfl | rfl <;> exact lit_ok (by decide +kernel)
abbrev s61 (ns : List Int) (wd bk gd tn mn sz tx mo on : Sl) : List Sl := [.ow true (.scr ns), .ow false .deal, wd, bk, gd, tn, mn, sz, tx, mo, on]
theorem hp_ask61 {E : PEn} {ns : List Int} {wd bk gd tn mn sz tx mo : Sl} {T : Str} (ha : AscT T) (hl : T.length ≤ 9000000)
    (q : E.nx (s61 ns wd bk gd tn mn sz tx mo (.im (.str T)))) :
    pb_law61_2 E (s61 ns wd bk gd tn mn sz tx mo (.im (.str T))) := by
  refine ⟨by show T.length ≤ _; have : 9000000 ≤ sizeLine := by decide
             omega, trivial, _, rfl, ?_⟩
  show if decide ((T.length : Int) ≤ 6000) = true then _ else _
  by_cases h : (T.length : Int) ≤ 6000
  · rw [if_pos (decide_eq_true h)]
    obtain ⟨w1, w2⟩ := wt_resB (Txt.split T sNl)
    refine ⟨_, _, rfl, _, rfl, List.nodup_nil, T, rfl, by omega, _, _, rfl, _, _, rfl, _, rfl, List.nodup_nil, T, rfl, ha, by omega, _, _, rfl, _, rfl, List.nodup_nil, _, rfl, w1, w2, _, rfl, ?_⟩
    show if (!true) = true then _ else _
    rw [if_neg (by decide)]
    exact q
  · rw [if_neg (by rw [decide_eq_true_eq]; exact h)]
    exact q
theorem hp_both61 {E : PEn} {ns : List Int} {wd bk tn mn sz mo : Sl} {T G : Str} (ha : AscT T) (hl : T.length ≤ 9000000) (hg : AscT G) (hlg : G.length ≤ 9000000)
    (q : E.nx (s61 ns wd bk (.im (.str G)) tn mn sz (.im (.str T)) mo .un)) :
    pr_law61_1 E (s61 ns wd bk (.im (.str G)) tn mn sz (.im (.str T)) mo .un) := by
  refine ⟨_, _, _, rfl, rfl, ?_⟩
  refine for_all (fun d => ∃ x : Str, d = .str x ∧ AscT x ∧ x.length ≤ 9000000) (fun d hd => ?_) (fun δ => δ = s61 ns wd bk (.im (.str G)) tn mn sz (.im (.str T)) mo .un) rfl ?_ ?_
  · simp only [List.mem_cons, List.not_mem_nil, or_false] at hd
    rcases hd with rfl | rfl
    · exact ⟨T, rfl, ha, hl⟩
    · exact ⟨G, rfl, hg, hlg⟩
  · rintro d δ ⟨x, rfl, hx, lx⟩ rfl
    exact hp_ask61 hx lx rfl
  · rintro δ rfl
    exact q
theorem hp_spoil61 {E : PEn} {ns : List Int} {ws : List Str} {wd bk gd tn mn sz mo on : Sl} {T : Str} (hw : WdS ws wd) (w0 : 0 < ws.length) (w9 : ws.length ≤ 100) (hx : ∀ x ∈ ws, WOk x) (ha : AscT T) (hl : T.length ≤ 250000)
    (q : ∀ v, AscT v → v.length ≤ 8 * T.length + 4500 → E.nx (s61 ns (.im (.list (ws.map .str))) bk gd tn mn sz (.im (.str v)) mo on)) :
    pb_law61_1 E (s61 ns wd bk gd tn mn sz (.im (.str T)) mo on) := by
  rcases hw with rfl | rfl
  · refine ⟨_, _, rfl, _, _, rfl, _, rfl, nd1 1, T, ws, rfl, ha, hl, w0, w9, hx, fun v hv lv => ?_⟩
    refine ⟨_, _, rfl, ?_⟩
    exact q v hv lv
  · refine ⟨_, _, rfl, _, _, rfl, _, rfl, nd1 1, T, ws, rfl, ha, hl, w0, w9, hx, fun v hv lv => ?_⟩
    refine ⟨_, _, rfl, ?_⟩
    exact q v hv lv
def bd61 : Nat → Nat
  | 0 => 2676
  | i + 1 => 8 * bd61 i + 4500
theorem bd61_le {k : Nat} (h : k ≤ 3) : bd61 k ≤ 9000000 ∧ (k ≤ 2 → bd61 k ≤ 250000) := by
  have : k = 0 ∨ k = 1 ∨ k = 2 ∨ k = 3 := by omega
  rcases this with rfl | rfl | rfl | rfl <;> exact ⟨by decide, by decide⟩
theorem hp_turn61 {E : PEn} {ns : List Int} {ws : List Str} {wd bk tn mn sz : Sl} {G : Str} (hw : WdS ws wd) (w0 : 0 < ws.length) (w9 : ws.length ≤ 100) (hx : ∀ x ∈ ws, WOk x) (hg : AscT G) (hlg : G.length ≤ 2676)
    (q : ∀ wd' d, WdS ws wd' → E.nx (s61 ns wd' bk (.im (.str G)) tn mn sz (.im (.str d)) .un .un)) :
    pb_law61_5 E (s61 ns wd bk (.im (.str G)) tn mn sz .un .un .un) := by
  refine ⟨_, _, rfl, ?_⟩
  show pr_law61_2 _ (s61 ns wd bk (.im (.str G)) tn mn sz (.im (.str G)) .un .un)
  refine ⟨_, _, rfl, _, rfl, nd1 1, _, rfl, by decide, by decide, fun k hk => ?_⟩
  simp only [pk1]
  refine ⟨by omega, by omega, ?_⟩
  refine for_rg (1 + k) (by rw [Int.natCast_add]; rfl) (fun i δ => ∃ T wd, WdS ws wd ∧ AscT T ∧ T.length ≤ bd61 i ∧ δ = s61 ns wd bk (.im (.str G)) tn mn sz (.im (.str T)) .un .un) ⟨G, wd, hw, hg, hlg, rfl⟩ ?_ ?_
  · rintro i δ hi ⟨T, wd, hw, ha, hl, rfl⟩
    have := (bd61_le (k := i) (by omega)).2 (by omega)
    exact hp_spoil61 hw w0 w9 hx ha (by omega) fun v hv lv => ⟨v, _, .inr rfl, hv, (by show v.length ≤ 8 * bd61 i + 4500; omega), rfl⟩
  · rintro δ ⟨T, wd, hw, ha, hl, rfl⟩
    have := (bd61_le (k := 1 + k) (by omega)).1
    exact hp_both61 ha (by omega) hg (by omega) (q wd T hw)
theorem hp_turns61 {E : PEn} {ns : List Int} {ws : List Str} {mn sz : Sl} {B : Book} (sb : P60 B) (w0 : 0 < ws.length) (w9 : ws.length ≤ 100) (hx : ∀ x ∈ ws, WOk x)
    (q : ∀ d, E.rt (.im (.bool true)) (.ow true (.scr ns) :: d)) :
    pr_law61_5 E (s61 ns (.ow false (.lst (ws.map .str))) (.im (dB B)) (.im (.str (tB B))) .un mn sz .un .un .un) := by
  have hg : AscT (tB B) := book_asc _ _
  have hlg : (tB B).length ≤ 2676 := book_len2676 sb
  have z : 10000 < sizeLine := by decide
  refine ⟨by decide, by decide, ?_⟩
  refine for_rg 8 rfl (fun i δ => ∃ wd, WdS ws wd ∧ δ = s61 ns wd (.im (dB B)) (.im (.str (tB B))) .un mn sz .un .un .un) ⟨_, .inl rfl, rfl⟩ ?_ ?_
  · rintro i δ hi ⟨wd, hw, rfl⟩
    exact hp_turn61 hw w0 w9 hx hg hlg fun wd' d hw' => ⟨wd', hw', rfl⟩
  · rintro δ ⟨wd, hw, rfl⟩
    show pr_law61_4 _ _
    have e0 : resB (rdB (Txt.split Str.empty sNl)) = .tuple [.str (Str.ofString "text"), .int 0] := by rw [none_told]; rfl
    have e1 : resB (rdB (Txt.split (tB B ++ sNl) sNl)) = .tuple [.str (Str.ofString "text"), .int ((((rowsT B.ps.length B).map PyData.str).length : Nat) : Int)] := by rw [more_told sb, List.length_map]; rfl
    obtain ⟨n1, n2⟩ := wt_resB (Txt.split Str.empty sNl)
    obtain ⟨m1, m2⟩ := wt_resB (Txt.split (tB B ++ sNl) sNl)
    rw [e0] at n1 n2
    rw [e1] at m1 m2
    refine ⟨_, _, rfl, _, rfl, List.nodup_nil, Str.empty, rfl, by decide, ?_⟩
    rw [e0]
    refine ⟨_, _, rfl, _, _, rfl, _, rfl, List.nodup_nil, _, rfl, n1, n2, _, rfl, ?_⟩
    show if (!true) = true then _ else _
    rw [if_neg (by decide)]
    show pr_law61_3 _ (s61 ns wd (.im (dB B)) (.im (.str (tB B))) .un mn sz .un .un .un)
    have bl : (tB B ++ Str.ofString "\n").length = (tB B).length + 1 := by rw [add_len]; exact congrArg _ l_nl
    refine ⟨?_, _, _, rfl, _, rfl, List.nodup_nil, tB B ++ Str.ofString "\n", rfl, by omega, ?_⟩
    · show (tB B).length + (Str.ofString "\n").length ≤ _
      rw [l_nl]
      omega
    rw [show resB (rdB (Txt.split (tB B ++ Str.ofString "\n") sNl)) = _ from e1]
    have bs : Txt.split (tB B) (Str.ofString "\n") = rowsT B.ps.length B := book_split _ B
    refine ⟨_, _, rfl, ?_⟩
    refine ⟨_, rfl, _, rfl, by decide +kernel, by omega, ?_⟩
    rw [bs]
    exact ⟨_, _, rfl, _, rfl, List.nodup_nil, _, rfl, m1, m2, _, _, rfl, q _⟩
theorem hp_book61 {E : PEn} {ns : List Int} {ws : List Str} (w0 : 0 < ws.length) (w9 : ws.length ≤ 100) (hx : ∀ x ∈ ws, WOk x)
    (q : ∀ d, E.rt (.im (.bool true)) (.ow true (.scr ns) :: d)) :
    pr_law61_8 E (s61 ns (.ow false (.lst (ws.map .str))) .un .un .un .un .un .un .un .un) := by
  refine ⟨_, _, rfl, _, rfl, nd1 1, _, rfl, by decide, by decide, fun a ha => ?_⟩
  simp only [pk1]
  refine ⟨_, _, rfl, _, rfl, nd1 1, _, rfl, by decide, by decide, fun b hb => ?_⟩
  simp only [pk1]
  have e1 : (.int (1 + (a : Int)) : PyData) = nD (1 + a) := by
    show PyData.int _ = .int _
    rw [Int.natCast_add]
    rfl
  have e2 : (.int (1 + (b : Int)) : PyData) = nD (1 + b) := by
    show PyData.int _ = .int _
    rw [Int.natCast_add]
    rfl
  obtain ⟨m, em⟩ : ∃ m : Nat, m = 1 + a := ⟨_, rfl⟩
  obtain ⟨n, en⟩ : ∃ n : Nat, n = 1 + b := ⟨_, rfl⟩
  refine ⟨_, _, rfl, ?_⟩
  show pr_law61_7 _ (s61 ns (.ow false (.lst (ws.map .str))) .un .un .un (.im (.int (1 + (a : Int)))) (.im (.int (1 + (b : Int)))) .un .un .un)
  rw [e1, e2, ← em, ← en]
  refine ⟨_, _, rfl, _, _, rfl, _, _, rfl, _, rfl, nd1 1, _, rfl, by decide, by decide, fun c hc => ?_⟩
  simp only [pk1]
  refine ⟨_, _, rfl, _, rfl, nd1 1, (m : Int), (n : Int), _, rfl, by omega, by omega, by omega, by omega, fun ps ts pok bt bk => ?_⟩
  refine ⟨_, _, rfl, ?_⟩
  have pl := pok.len
  have sb : P60 ⟨ps, n, ts⟩ := ⟨by show BookOk ((ps.length : Nat) : Int) _; rw [show ((ps.length : Nat) : Int) = (m : Int) from pl]; exact bk, by show 1 ≤ ps.length; omega, by show ps.length ≤ 5; omega⟩
  generalize hB : (⟨ps, n, ts⟩ : Book) = B at sb
  show pr_law61_6 _ (s61 ns (.ow false (.lst (ws.map .str))) (.im (dB B)) .un .un (.im (nD m)) (.im (nD n)) .un .un .un)
  refine ⟨_, rfl, _, _, rfl, _, rfl, List.nodup_nil, B, _, rfl, sb, rowsT B.ps.length B, rfl, ?_, ?_⟩
  · exact join_ok (rows_len sb) (Nat.le_trans (rows_few sb) (by decide)) (by decide) (by show sNl.length ≤ 10; rw [l_nl]; decide)
  refine ⟨_, _, rfl, ?_⟩
  exact hp_turns61 sb w0 w9 hx q
theorem hp_words61 {E : PEn} {ns : List Int} (q : ∀ d, E.rt (.im (.bool true)) (.ow true (.scr ns) :: d)) :
    pr_law61_11 E (s61 ns .un .un .un .un .un .un .un .un .un) := by
  refine ⟨mul_ok t9 (n := 20) (by decide), _, _, rfl, ?_⟩
  show pr_law61_10 _ (s61 ns (.ow false (.lst (wA61.map .str))) .un .un .un .un .un .un .un .un)
  have lA : wA61.length = 16 := rfl
  have oA := wA61_ok
  generalize wA61 = A at *
  refine ⟨?_, ?_⟩
  · rw [List.length_map, lA]
    show 16 + 9 ≤ _
    decide
  refine ⟨_, _, rfl, ?_⟩
  have lB : wB61.length = 9 := rfl
  have oB := wB61_ok
  have eB : A.map PyData.str ++ wB61.map PyData.str = (A ++ wB61).map .str := List.map_append.symm
  show pr_law61_9 _ (s61 ns (.ow false (.lst (A.map .str ++ wB61.map .str))) .un .un .un .un .un .un .un .un)
  rw [eB]
  generalize hB : wB61 = B at *
  clear eB
  obtain ⟨C, hC⟩ : ∃ C, C = A ++ B := ⟨_, rfl⟩
  rw [← hC]
  have lC : C.length = 25 := by rw [hC, List.length_append, lA, lB]
  have oC : ∀ x ∈ C, WOk x := fun x h => by
    rw [hC] at h
    exact (List.mem_append.mp h).elim (oA x) (oB x)
  clear hC oA oB lA lB hB
  refine ⟨M9, M0, L0, M9, L9, ?_, ?_⟩
  · rw [List.length_map, lC]
    show 25 + 3 ≤ _
    decide
  refine ⟨_, _, rfl, ?_⟩
  have lD : wsC.length = 3 := rfl
  have oD := wsC_ok
  have eD : C.map PyData.str ++ wsC.map PyData.str = (C ++ wsC).map .str := List.map_append.symm
  show pr_law61_8 _ (s61 ns (.ow false (.lst (C.map .str ++ wsC.map .str))) .un .un .un .un .un .un .un .un)
  rw [eD]
  refine hp_book61 (by rw [List.length_append]; omega) (by rw [List.length_append]; omega) (fun x h => ?_) q
  exact (List.mem_append.mp h).elim (oC x) (oD x)
theorem hp_law61 (as : List Sl) (Qp : QE) (Ep : EX) (h : psp_law as Qp Ep) : p_law61 (endsP as Qp) (as ++ List.replicate 10 .un) := by
  obtain ⟨ns, rfl, hn, q⟩ := h
  refine ⟨_, _, rfl, _, rfl, nd1 0, 0, ns, rfl, by omega, by omega, hn, _, _, rfl, ?_⟩
  exact hp_words61 fun d => q
end Pv
/-! Books, where the pair put in has a name of its own. -/
namespace Wf
open PySem PySem.Spec L2
def t_bookQ_c (K : PySem.W.Frag) : TS := tRet (tTup (tCons (tVar 4) (tCons (tVar 2) (tCons (tCB (qTupleOf K) (tCons (tLc (iList K (tVar 5)) (gName 6) (tYes) (tCB (qTupleOf K) (tCons (tVar 6) (tNil))) [6]) (tNil))) (tNil)))))
def t_bookQ_b (K : PySem.W.Frag) (sp_draw : Sp) : TS := (tIfS (tAnd (tTest (tOp rEq (tVar 3) (tC (.int 2)))) (tTest (tOp qGt (tCB (qLen K) (tCons (tVar 5) (tNil))) (tC (.int 0))))) (tSeq (tAsg (tOp (rIxL K) (tVar 5) (tCall sp_draw [] E0 (tCons (tVar 0) (tCons (tCB (qLen K) (tCons (tVar 5) (tNil))) (tNil))))) (gName 6))
    (tSeq (tAsg (tTup (tCons (tCall sp_draw [] E0 (tCons (tVar 0) (tCons (tVar 2) (tNil)))) (tCons (tCall sp_draw [] E0 (tCons (tVar 0) (tCons (tVar 2) (tNil)))) (tNil)))) (gName 7)) (tAsg (tVar 7) (gSub (tVar 6) (tCall sp_draw [] E0 (tCons (tVar 0) (tCons (tCB (qLen K) (tCons (tVar 6) (tNil))) (tNil)))) rSetL)))) (tNext))
def t_bookQ (K : PySem.W.Frag) (sp_paces : Sp) (sp_any : Sp) (sp_good : Sp) (sp_draw : Sp) : TS := tSeq (tAsg (tCall sp_paces [] E0 (tCons (tVar 0) (tCons (tVar 1) (tNil)))) (gName 4))
    (tSeq (tAsg (tIf (tTest (tOp rEq (tVar 3) (tC (.int 0)))) (tCall sp_any [] E0 (tCons (tVar 0) (tCons (tVar 1) (tCons (tVar 2) (tNil))))) (tCall sp_good [] E0 (tCons (tVar 0) (tCons (tVar 1) (tCons (tVar 2) (tNil)))))) (gName 5))
    (tSeq (t_bookQ_b K sp_draw)
    (t_bookQ_c K)))
theorem pure_bookQ {K : PySem.W.Frag} (vs : List V) (H : Hp) (Q : VK) (E : XK) (h : sp_book K vs H Q E) : t_bookQ K (sp_paces K) (sp_any K) (sp_good K) sp_draw (EndsQ Q) (sN 8 vs) H := by
  obtain ⟨d, l, m, s, f, rfl, m1, m5, s1, s6, hD, k⟩ := h
  show t_bookQ K (sp_paces K) (sp_any K) (sp_good K) sp_draw _ [some (.ref d), some (.int m), some (.int s), some (.int f), none, none, none, none] H
  have hn := nT_le m1 m5
  refine ⟨_, rfl, _, rfl, d, l, m, rfl, m1, m5, hD, fun v ps H1 b1 d1 hv pok => ?_⟩
  -- the end: paces and tables as a book
  have last : ∀ (c6 c7 : Option V) (F : Addr) (ls : List Addr) (ts : List Tab) (H3 : Hp), But [d, l] H H3 → Deal H3 d l → Tabs K H1 H3 F ls ts → Dp K H3 v (dI ps) → BookT m s f ts → t_bookQ_c K (EndsQ Q) [some (.ref d), some (.int m), some (.int s), some (.int f), some v, some (.ref F), c6, c7] H3 := by
    intro c6 c7 F ls ts H3 b3 d3 t3 hv3 bt
    have lt := bt.ok.len
    refine ⟨_, rfl, _, rfl, _, rfl, F, rfl, ⟨_, SqL.of t3.lst⟩, fun D hDn => ?_⟩
    refine lc_list (K := K) (a := F) (xs := ls.map V.ref) (fun i H4 => Same H3 H4 ∧ ∃ vs, H4 D = some (.lst vs) ∧ DpAll K H4 vs ((ts.take i).map dT)) ?_ ?_ ?_ ?_
    · exact ⟨same_new hDn, [], upd_same, .nil⟩
    · rintro i H4 _ ⟨s4, _⟩
      exact SqL.of (s4 _ _ t3.lst)
    · rintro i x H4 hx ⟨s4, us, e1, e2⟩
      rw [List.getElem?_map] at hx
      obtain ⟨a, ha, rfl⟩ := Option.map_eq_some_iff.mp hx
      obtain ⟨t, ht1, ta1⟩ := pr_get (t3.same s4).tab ha
      obtain ⟨ws, g1, g2⟩ := ta1.ex
      refine ⟨rfl, ?_⟩
      simp only [tYes, ↓reduceIte]
      refine ⟨_, rfl, a, ws, rfl, .inl ⟨SqL.of g1, fun q hq => ?_⟩⟩
      have sq := same_new (o := .tup ws) hq
      have hqq : upd H4 q (.tup ws) q = some (.tup ws) := upd_same
      have hDq : D ≠ q := ne_of_none e1 hq
      generalize upd H4 q (.tup ws) = H5 at sq hqq
      have e1' := sq _ _ e1
      have lu : us.length = i := by
        rw [DpAll.len e2, List.length_map, List.length_take]
        have := (List.getElem?_eq_some_iff.mp ht1).1
        omega
      refine ⟨us, e1', ?_, ?_⟩
      · rw [lu]
        have := (List.getElem?_eq_some_iff.mp ht1).1
        exact Nat.lt_of_le_of_lt (show i ≤ 10 by omega) (by decide)
      · refine ⟨fun c o e => ?_, us ++ [.ref q], upd_same, ?_⟩
        · rw [upd_ne (ne_of_none e hDn)]
          exact sq _ _ (s4 _ _ e)
        · have tp6 : Tp K H5 (upd H5 D (.lst (us ++ [.ref q]))) := tp_upd (not_lst e1')
          have tp46 := (Same.tp sq).trans tp6
          rw [List.take_add_one, ht1, List.map_append]
          refine DpAll.append (DpAll.tp tp46 _ _ (noLAll_dT _) e2) (.cons (.tup (SqT.of ?_) (DpAll.tp tp46 _ _ (noLAll_dP t) g2)) .nil)
          rw [upd_ne (Ne.symm hDq)]
          exact hqq
    · rintro H4 ⟨s4, us, e1, e2⟩
      have el : ts.take (ls.map V.ref).length = ts := List.take_of_length_le (by rw [List.length_map, t3.len]; exact Nat.le_refl _)
      rw [el] at e2
      refine ⟨D, us, rfl, .inl ⟨SqL.of e1, fun q hq => ?_⟩⟩
      have sq := same_new (o := .tup us) hq
      have hqq : upd H4 q (.tup us) q = some (.tup us) := upd_same
      generalize upd H4 q (.tup us) = H5 at sq hqq
      refine ⟨(by show 3 ≤ sizeLine; decide), fun r hr => ?_⟩
      have sr := same_new (o := .tup [v, .int s, .ref q]) hr
      have s35 := s4.trans (sq.trans sr)
      refine k _ ps ts _ (b3.trans (Same.but s35)) (Same.deal s35 d3) (.tup (SqT.of upd_same) (.cons (Dp.tp (Same.tp s35) _ _ (noL_dI ps) hv3) (.cons (.int s) (.cons (.tup (SqT.of (sr _ _ hqq)) (DpAll.tp (Same.tp (sq.trans sr)) _ _ (noLAll_dT ts) e2)) .nil)))) pok bt
  have mid : ∀ (F : Addr) (ls : List Addr) (ts : List Tab) (H2 : Hp), But [d, l] H H2 → Deal H2 d l → Tabs K H1 H2 F ls ts → Dp K H2 v (dI ps) → AllOk m s ts → (f ≠ 0 → GoodT m s ts) → tSeq (t_bookQ_b K sp_draw) (t_bookQ_c K) (EndsQ Q) [some (.ref d), some (.int m), some (.int s), some (.int f), some v, some (.ref F), none, none] H2 := by
    intro F ls ts H2 b2 d2 t2 hv2 ok g
    have lt := ok.len
    have plain : BookT m s f ts := ⟨ok, fun e => g (by omega), fun e => ⟨ts, g (by omega), .inl rfl⟩⟩
    refine ⟨_, rfl, rfl, _, rfl, ?_⟩
    by_cases hf : f = 2
    · subst hf
      simp only [decide_true, ↓reduceIte]
      refine ⟨_, rfl, _, (ls.map V.ref).length, rfl, .inl ⟨_, SqL.of t2.lst, rfl⟩, _, _, rfl, rfl, _, rfl, ?_⟩
      refine ifd (fun c => ?_) (fun c => ?_)
      · have cl : 0 < ls.length := by
          rw [List.length_map] at c
          omega
        refine ⟨_, rfl, _, rfl, _, rfl, _, (ls.map V.ref).length, rfl, .inl ⟨_, SqL.of t2.lst, rfl⟩, d, l, _, rfl, by rw [List.length_map]; omega, by rw [List.length_map, t2.len]; omega, d2, fun q H3 q0 q1 b3 d3 => ?_⟩
        rw [List.length_map] at q1
        have t3 := t2.but d1 d2 b3
        have hq : q.toNat < ls.length := by omega
        have ea : ls[q.toNat]? = some ls[q.toNat] := List.getElem?_eq_getElem hq
        generalize ls[q.toNat] = a at ea
        obtain ⟨t, ht1, ta3⟩ := pr_get t3.tab ea
        have okt := ok.ok t (List.mem_of_getElem? ht1)
        have hss := ss_le s1 s6
        have ltt := okt.len
        refine ⟨F, _, q, .ref a, rfl, rfl, SqL.of t3.lst, ?_, ?_⟩
        · unfold atI ixN
          rw [if_pos q0, if_pos (by rw [List.length_map]; exact q1)]
          show (ls.map V.ref)[q.toNat]? = _
          rw [List.getElem?_map, ea]
          rfl
        · refine ⟨_, rfl, _, rfl, d, l, s, rfl, by omega, by omega, d3, fun x H4 x0 x1 b4 d4 => ?_⟩
          refine ⟨_, rfl, _, rfl, d, l, s, rfl, by omega, by omega, d4, fun y H5 y0 y1 b5 d5 => ?_⟩
          refine ⟨(by show 2 ≤ sizeLine; decide), fun p hp => ?_⟩
          have t5 := t3.but d1 d3 (b4.trans b5)
          have sp := same_new (o := .tup [.int x, .int y]) hp
          have hpp : upd H5 p (.tup [.int x, .int y]) p = some (.tup [.int x, .int y]) := upd_same
          have b6 : But [d, l] H (upd H5 p (.tup [.int x, .int y])) := (b2.trans (b3.trans (b4.trans b5))).trans (Same.but sp)
          have d6 : Deal (upd H5 p (.tup [.int x, .int y])) d l := Same.deal sp d5
          have hv6 : Dp K (upd H5 p (.tup [.int x, .int y])) v (dI ps) := Dp.tp (((b3.trans (b4.trans b5)).tp d2.noT).trans (Same.tp sp)) _ _ (noL_dI ps) hv2
          have t6 := t5.same sp
          generalize upd H5 p (.tup [.int x, .int y]) = H6 at hpp b6 d6 hv6 t6
          obtain ⟨t', ht1', ta6⟩ := pr_get t6.tab ea
          rw [ht1] at ht1'
          cases ht1'
          obtain ⟨va, e1, e2⟩ := ta6.ex
          have lva : va.length = t.length := by rw [DpAll.len e2, List.length_map]
          refine ⟨_, rfl, _, rfl, _, rfl, _, rfl, _, va.length, rfl, .inl ⟨_, SqL.of e1, rfl⟩, d, l, _, rfl, by omega, by omega, d6, fun z H7 z0 z1 b7 d7 => ?_⟩
          have t7 := t6.but d1 d6 b7
          have na := t6.apart d1 a (List.mem_cons_of_mem _ (List.mem_of_getElem? ea))
          have e1' := b7.at na e1
          have tp7 : Tp K H6 H7 := b7.tp d6.noT
          have np := d6
          have hp7 : H7 p = some (.tup [.int x, .int y]) := by
            have : SqT K H7 p [.int x, .int y] := tp7 _ _ (SqT.of hpp)
            refine b7.at ⟨fun w => ?_, fun w => ?_⟩ hpp
            · exact (d6.noT d (by simp)) _ (.inl (w ▸ hpp))
            · exact (d6.noT l (by simp)) _ (.inl (w ▸ hpp))
          have e27 := DpAll.tp tp7 _ _ (noLAll_dP t) e2
          refine ⟨a, va, z, z.toNat, rfl, rfl, e1', ?_, ?_⟩
          · unfold ixN
            rw [if_pos z0, if_pos z1]
          · have tp8 : Tp K H7 (upd H7 a (.lst (va.set z.toNat (.ref p)))) := tp_upd (not_lst e1')
            have hF := List.nodup_cons.mp t7.nd
            have hFa : F ≠ a := fun w => hF.1 (w ▸ List.mem_of_getElem? ea)
            have ta8 : TabAt K (upd H7 a (.lst (va.set z.toNat (.ref p)))) a (t.set z.toNat (x, y)) := by
              refine ⟨_, upd_same, ?_⟩
              rw [List.map_set]
              refine DpAll.set (dP_new ?_) _ (DpAll.tp tp8 _ _ (noLAll_dP t) e27)
              rw [upd_ne (show p ≠ a from ne_of hp7 e1' (by intro w; cases w))]
              exact hp7
            have t8 : Tabs K H1 (upd H7 a (.lst (va.set z.toNat (.ref p)))) F ls (ts.set q.toNat (t.set z.toNat (x, y))) := by
              refine ⟨by rw [upd_ne hFa]; exact t7.lst, ?_, t7.nd, t7.newF, t7.newL⟩
              refine pr_chg t7.tab hF.2 ea ta8 fun c b hc hb => hb.keep (fun o e => ?_) tp8
              rw [upd_ne hc]
              exact e
            have okz : TabOk s (t.set z.toNat (x, y)) := ⟨by rw [List.length_set]; exact okt.len, fun w hw => by
              rcases List.mem_or_eq_of_mem_set hw with hw | hw
              · exact okt.inn w hw
              · rw [hw]
                exact ⟨x0, x1, y0, y1⟩⟩
            have na7 := d7.noT
            refine last _ _ F ls _ _ (fun c o hc e => ?_) (d7.upd na) t8 (Dp.tp (tp7.trans tp8) _ _ (noL_dI ps) hv6) ⟨⟨by rw [List.length_set]; exact lt, fun w hw => ?_⟩, fun e => absurd e (by decide), fun _ => ⟨ts, g (by decide), .inr ⟨q.toNat, z.toNat, (x, y), t, ht1, by omega, ⟨x0, x1, y0, y1⟩, rfl⟩⟩⟩
            · have := t6.newL a (List.mem_of_getElem? ea)
              rw [upd_ne (show c ≠ a from fun w => by rw [w] at e; rw [b1.at na e] at this; cases this)]
              exact (b6.trans b7) c o hc e
            · rcases List.mem_or_eq_of_mem_set hw with hw | hw
              · exact ok.ok w hw
              · rw [hw]
                exact okz
      · exact last none none F ls ts H2 b2 d2 t2 hv2 plain
    · have : decide (V.int f = V.int 2) = false := decide_eq_false fun z => hf (V.int.inj z)
      rw [this]
      exact last none none F ls ts H2 b2 d2 t2 hv2 plain
  refine ⟨_, rfl, rfl, _, rfl, ?_⟩
  by_cases hf : f = 0
  · subst hf
    simp only [decide_true, ↓reduceIte]
    refine ⟨_, rfl, _, rfl, _, rfl, d, l, m, s, rfl, m1, m5, s1, s6, d1, fun F ls ts H2 b2 d2 t2 ok => ?_⟩
    exact mid F ls ts H2 (b1.trans b2) d2 t2 (Dp.tp (b2.tp d1.noT) _ _ (noL_dI ps) hv) ok fun z => absurd rfl z
  · have : decide (V.int f = V.int 0) = false := decide_eq_false fun z => hf (V.int.inj z)
    rw [this]
    refine ⟨_, rfl, _, rfl, _, rfl, d, l, m, s, rfl, m1, m5, s1, s6, d1, fun F ls ts H2 b2 d2 t2 gt => ?_⟩
    exact mid F ls ts H2 (b1.trans b2) d2 t2 (Dp.tp (b2.tp d1.noT) _ _ (noL_dI ps) hv) (gt.ok s1) fun _ => gt
end Wf
namespace Wf
open PySem PySem.Spec L2 Pv
/-- the rows of the linked text -/
def topS (i : Nat) : Stmt := PySem.Challenge.pw_wherefrom_k61_texts_of_no_book.main.body.getD i (.Pass ⟨0, 0, 0, 0⟩)
def clsS (i : Nat) : Stmt := match topS i with
  | .ClassDef _ _ _ body _ _ _ _ _ _ _ => body.getD 0 (.Pass ⟨0, 0, 0, 0⟩)
  | x => x
section
variable {P : Program} {w : World} {K : PySem.W.Frag} {mg : Str → Option Value} {base : Heap} {f : Addr} {fd : FuncData} {cNoText cRoadError cFull cNoBook cNoMove cNoOrder cNoPassing cNoRow cNoSpot cNoSpots cNoWay : Addr}
abbrev s_init_NoText : Stmt := clsS 10
theorem sc_init_NoText : FnScope ["self", "at"] ["self", "at"] (defScope s_init_NoText) := ⟨rfl, rfl, rfl, by decide +kernel, rfl, by decide +kernel, by decide +kernel⟩
theorem ok_init_NoText (F : FunD K "__init__" "NoText.__init__" (defArgs s_init_NoText) (defBody s_init_NoText) (defScope s_init_NoText) [] [] f fd) (BC : BaseC K mg "RoadError" cRoadError) (O : OexC K cNoText) (n0 : PySem.W.findIn K (.ref cNoText) "at" = some none) : FnOk P w K mg base CX0 1 f fd ["self", "at"] (sp_init1 K cNoText "at") := by
  refine F.ok sc_init_NoText (fun vs H Q E h => ?_) (fun cdv A outer s H vs Q E hr h => ⟨_, PSs.nox ?_, pure_init1 (txt := "no such text") O n0 vs H Q E h⟩)
  · obtain ⟨_, _, rfl, _⟩ := h
    rfl
  · exact pss_cons (ps_expr (pe_binit (pl := _) BC (by rfl) (pa_cons (pv 0) (pa_cons (pe_str) (pa_nil))))) (pss_one (ps_ost (pv 0) (pv 1)))
abbrev s_init_NoBook : Stmt := clsS 2
theorem sc_init_NoBook : FnScope ["self", "word", "at"] ["self", "word", "at"] (defScope s_init_NoBook) := ⟨rfl, rfl, rfl, by decide +kernel, rfl, by decide +kernel, by decide +kernel⟩
theorem ok_init_NoBook (F : FunD K "__init__" "NoBook.__init__" (defArgs s_init_NoBook) (defBody s_init_NoBook) (defScope s_init_NoBook) [] [] f fd) (BC : BaseC K mg "RoadError" cRoadError) (O : OexC K cNoBook) (n0 : PySem.W.findIn K (.ref cNoBook) "word" = some none) (n1 : PySem.W.findIn K (.ref cNoBook) "at" = some none) : FnOk P w K mg base CX0 1 f fd ["self", "word", "at"] (sp_init2 K cNoBook "word" "at") := by
  refine F.ok sc_init_NoBook (fun vs H Q E h => ?_) (fun cdv A outer s H vs Q E hr h => ⟨_, PSs.nox ?_, pure_init2 (txt := "no such book") O n0 n1 vs H Q E h⟩)
  · obtain ⟨_, _, _, rfl, _⟩ := h
    rfl
  · exact pss_cons (ps_expr (pe_binit (pl := _) BC (by rfl) (pa_cons (pv 0) (pa_cons (pe_str) (pa_nil))))) (pss_cons (ps_ost (pv 0) (pv 1)) (pss_one (ps_ost (pv 0) (pv 2))))
abbrev s_draw : Stmt := topS 33
abbrev N_draw : List Str := ["_law_deal_here", "_law_many", "_law_one", "_law_other", "_law_digit"]
theorem sc_draw : FnScope N_draw ["_law_deal_here", "_law_many"] (defScope s_draw) := ⟨rfl, rfl, rfl, by decide +kernel, rfl, by decide +kernel, by decide +kernel⟩
theorem ok_draw (F : FnP K "_law_draw" s_draw f fd) (B : Bl mg)  : FnOk P w K mg base CX0 1 f fd ["_law_deal_here", "_law_many"] sp_draw := by
  refine F.ok sc_draw (fun vs H Q E h => ?_) (fun cdv A outer s H vs Q E hr h => ⟨_, PSs.nox ?_, pure_draw (K := K) vs H Q E h⟩)
  · obtain ⟨_, _, _, rfl, _⟩ := h
    rfl
  · exact pss_cons (ps_while PassesOwn.never (PW.pt (pw_and (pt_cmpR op_eq (pe_dget (hu_of hr) (pv 0) (pe_str) (fun _ _ => rfl)) (pe_int) (nomark _)) (pw_and1 (pt_cmpR op_gt (pe_callB call_len (by rfl) B.b_len (by decide +kernel) (pa_cons (pe_dget (hu_of hr) (pv 0) (pe_str) (fun _ _ => rfl)) (pa_nil))) (pe_int) (nomark _))))) (pss_one (ps_dput (hu_of hr) (pv 0) (pe_str) (pe_bm0 PySem.F.plainAttrs_list PySem.F.slot_list_pop PySem.F.type_list_pop mt_pop (pe_dget (hu_of hr) (pv 0) (pe_str) (fun _ _ => rfl))) rfl)))
          (pss_cons (ps_if (pt_cmpR op_gt (pe_dget (hu_of hr) (pv 0) (pe_str) (fun _ _ => rfl)) (pe_int) (nomark _)) (pss_cons (ps_set (i := 4) sc_draw.nd rfl (by first | exact Or.inl rfl | exact Or.inr rfl) (pe_op op_mod (pe_dget (hu_of hr) (pv 0) (pe_str) (fun _ _ => rfl)) (pv 1)))
          (pss_cons (ps_dput (hu_of hr) (pv 0) (pe_str) (pe_op op_fdivW (pe_dget (hu_of hr) (pv 0) (pe_str) (fun _ _ => rfl)) (pv 1)) rfl)
          (pss_one (ps_ret (pv 4))))) (pss_nil))
          (pss_cons (ps_dput (hu_of hr) (pv 0) (pe_str) (pe_op op_add (pe_dget (hu_of hr) (pv 0) (pe_str) (fun _ _ => rfl)) (pe_int)) rfl)
          (pss_cons (ps_set (i := 2) sc_draw.nd rfl (by first | exact Or.inl rfl | exact Or.inr rfl) (pe_op op_mod (pe_op op_mul (pe_op op_add (pe_dget (hu_of hr) (pv 0) (pe_str) (fun _ _ => rfl)) (pe_op op_mul (pe_int) (pe_dget (hu_of hr) (pv 0) (pe_str) (fun _ _ => rfl)))) (pe_int)) (pe_int)))
          (pss_cons (ps_set (i := 3) sc_draw.nd rfl (by first | exact Or.inl rfl | exact Or.inr rfl) (pe_op op_mod (pe_op op_add (pe_op op_add (pe_op op_mul (pv 2) (pv 2)) (pe_op op_mul (pe_int) (pe_dget (hu_of hr) (pv 0) (pe_str) (fun _ _ => rfl)))) (pe_dget (hu_of hr) (pv 0) (pe_str) (fun _ _ => rfl))) (pe_int)))
          (pss_one (ps_ret (pe_op op_mod (pe_op op_fdiv (pe_op op_add (pe_op op_mul (pe_op op_mod (pe_op op_mul (pv 3) (pv 3)) (pe_int)) (pe_int)) (pv 2)) (pe_int)) (pv 1))))))))
abbrev s_deal : Stmt := topS 32
abbrev N_deal : List Str := ["_law_script", "_law_base", "_law_some", "_law_seed", "_law_one"]
theorem sc_deal : FnScope N_deal ["_law_script", "_law_base"] (defScope s_deal) := ⟨rfl, rfl, rfl, by decide +kernel, rfl, by decide +kernel, by decide +kernel⟩
theorem ok_deal (F : FnP K "_law_deal" s_deal f fd) (B : Bl mg)  : FnOk P w K mg base CX0 1 f fd ["_law_script", "_law_base"] (sp_deal K) := by
  refine F.ok sc_deal (fun vs H Q E h => ?_) (fun cdv A outer s H vs Q E hr h => ⟨_, PSs.nox ?_, pure_deal (K := K) vs H Q E h⟩)
  · obtain ⟨_, _, _, rfl, _⟩ := h
    rfl
  · exact pss_cons (ps_setLc (i := 2) (own := [("_law_one", 4)]) rfl sc_deal.nd rfl rfl (sw_true rfl rfl rfl (by decide +kernel)) (pi_list (pe_slice sl_list (pv 0) (po_some (pv 1)) (po_some (pe_int)))) (blkOk_by (N := N_deal) (sc := defScope s_deal) (by decide +kernel)) (fun _ _ _ _ _ => pg_name (i := 4) sc_deal.nd rfl (by first | exact Or.inl rfl | exact Or.inr rfl)) (fun _ _ _ _ _ => pts_nil) (fun _ _ _ _ _ => pe_callB (call_max2 rfl) (by rfl) B.b_max (by decide +kernel) (pa_cons (pv 4) (pa_cons (pe_op op_sub (pe_int) (pv 4)) (pa_nil)))))
          (pss_cons (ps_set (i := 3) sc_deal.nd rfl (by first | exact Or.inl rfl | exact Or.inr rfl) (pe_op op_add (pe_int) (pe_op op_mul (pe_int) (pv 1))))
          (pss_cons (ps_for PassesOwn.never rfl (pi_list (pv 2)) (pg_name (i := 4) sc_deal.nd rfl (by first | exact Or.inl rfl | exact Or.inr rfl)) (pss_one (ps_set (i := 3) sc_deal.nd rfl (by first | exact Or.inl rfl | exact Or.inr rfl) (pe_op op_mod (pe_op op_add (pe_op op_add (pe_op op_mul (pv 3) (pe_int)) (pe_op op_mod (pv 4) (pe_int))) (pe_int)) (pe_int)))))
          (pss_one (ps_ret (pe_disp (pps_cons (pe_str) (pe_op op_add (pv 3) (pe_int)) (pps_cons (pe_str) (pe_int) (pps_cons (pe_str) (pe_int) (pps_cons (pe_str) (Wf.pe_lstRev rfl (by rfl) B.b_list (by rfl) B.b_reversed (pe_lc (own := [("_law_one", 4)]) rfl sc_deal.nd (pi_list (pv 2)) (blkOk_by (N := N_deal) (sc := defScope s_deal) (by decide +kernel)) (fun _ _ _ _ _ => pg_name (i := 4) sc_deal.nd rfl (by first | exact Or.inl rfl | exact Or.inr rfl)) (fun _ _ _ _ _ => pts_one (pt_cmpR op_ge (pv 4) (pe_op op_pow (pe_int) (pe_int)) (nomark _))) (fun _ _ _ _ _ => pv 4))) (pps_nil))))) (by rfl) (by rfl) (fun z => by cases z) (by decide))))))
abbrev s_alike : Stmt := topS 34
abbrev N_alike : List Str := ["_law_found", "_law_due", "_law_left", "_law_one", "_law_other"]
theorem sc_alike : FnScope N_alike ["_law_found", "_law_due"] (defScope s_alike) := ⟨rfl, rfl, rfl, by decide +kernel, rfl, by decide +kernel, by decide +kernel⟩
theorem ok_alike (F : FnP K "_law_alike" s_alike f fd) (B : Bl mg)  : FnOk P w K mg base CX0 1 f fd ["_law_found", "_law_due"] (sp_alike K) := by
  refine F.ok sc_alike (fun vs H Q E h => ?_) (fun cdv A outer s H vs Q E hr h => ⟨_, PSs.nox ?_, pure_alike (K := K) vs H Q E h⟩)
  · obtain ⟨_, _, _, rfl, _⟩ := h
    rfl
  · exact pss_cons (ps_set (i := 2) sc_alike.nd rfl (by first | exact Or.inl rfl | exact Or.inr rfl) (pe_lst (pa_cons (pe_tup (pa_cons (pv 0) (pa_cons (pv 1) (pa_nil)))) (pa_nil))))
          (pss_cons (ps_while PassesOwn.never (pt_cmpR op_gt (pe_callB call_len (by rfl) B.b_len (by decide +kernel) (pa_cons (pv 2) (pa_nil))) (pe_int) (nomark _)) (pss_cons (ps_asg (pe_bm0 PySem.F.plainAttrs_list PySem.F.slot_list_pop PySem.F.type_list_pop mt_pop (pv 2)) (pg_tup rfl (pgs_cons (pg_name (i := 3) sc_alike.nd rfl (by first | exact Or.inl rfl | exact Or.inr rfl)) (pgs_cons (pg_name (i := 4) sc_alike.nd rfl (by first | exact Or.inl rfl | exact Or.inr rfl)) (pgs_nil)))))
          (pss_cons (ps_if (PW.pt (pw_or (pt_cmpR op_ne (pe_callB call_isi (by rfl) B.b_isinstance (by decide +kernel) (pa_cons (pv 3) (pa_cons (pe_bltn (v := .ty "bool") (by rfl) B.b_bool (by decide +kernel) rfl) (pa_nil)))) (pe_callB call_isi (by rfl) B.b_isinstance (by decide +kernel) (pa_cons (pv 4) (pa_cons (pe_bltn (v := .ty "bool") (by rfl) B.b_bool (by decide +kernel) rfl) (pa_nil)))) (nomark _)) (pw_or1 (pt_cmpR op_ne (pe_callB call_isi (by rfl) B.b_isinstance (by decide +kernel) (pa_cons (pv 3) (pa_cons (pe_bltn (v := .ty "tuple") (by rfl) B.b_tuple (by decide +kernel) rfl) (pa_nil)))) (pe_callB call_isi (by rfl) B.b_isinstance (by decide +kernel) (pa_cons (pv 4) (pa_cons (pe_bltn (v := .ty "tuple") (by rfl) B.b_tuple (by decide +kernel) rfl) (pa_nil)))) (nomark _))))) (pss_one (ps_ret (pe_bl))) (pss_nil))
          (pss_cons (ps_if (PW.pt (pw_or (pt_cmpR op_ne (pe_callB call_isi (by rfl) B.b_isinstance (by decide +kernel) (pa_cons (pv 3) (pa_cons (pe_bltn (v := .ty "list") (by rfl) B.b_list (by decide +kernel) rfl) (pa_nil)))) (pe_callB call_isi (by rfl) B.b_isinstance (by decide +kernel) (pa_cons (pv 4) (pa_cons (pe_bltn (v := .ty "list") (by rfl) B.b_list (by decide +kernel) rfl) (pa_nil)))) (nomark _)) (pw_or1 (pt_cmpR op_ne (pe_callB call_isi (by rfl) B.b_isinstance (by decide +kernel) (pa_cons (pv 3) (pa_cons (pe_bltn (v := .ty "str") (by rfl) B.b_str (by decide +kernel) rfl) (pa_nil)))) (pe_callB call_isi (by rfl) B.b_isinstance (by decide +kernel) (pa_cons (pv 4) (pa_cons (pe_bltn (v := .ty "str") (by rfl) B.b_str (by decide +kernel) rfl) (pa_nil)))) (nomark _))))) (pss_one (ps_ret (pe_bl))) (pss_nil))
          (pss_cons (ps_if (pt_cmpR op_ne (pe_callB call_isi (by rfl) B.b_isinstance (by decide +kernel) (pa_cons (pv 3) (pa_cons (pe_bltn (v := .ty "int") (by rfl) B.b_int (by decide +kernel) rfl) (pa_nil)))) (pe_callB call_isi (by rfl) B.b_isinstance (by decide +kernel) (pa_cons (pv 4) (pa_cons (pe_bltn (v := .ty "int") (by rfl) B.b_int (by decide +kernel) rfl) (pa_nil)))) (nomark _)) (pss_one (ps_ret (pe_bl))) (pss_nil))
          (pss_one (ps_if (pt_val (pe_callB call_isiT (by rfl) B.b_isinstance (by decide +kernel) (pa_cons (pv 4) (pa_cons (pe_tup (pa_cons (pe_bltn (v := .ty "tuple") (by rfl) B.b_tuple (by decide +kernel) rfl) (pa_cons (pe_bltn (v := .ty "list") (by rfl) B.b_list (by decide +kernel) rfl) (pa_nil)))) (pa_nil))))) (pss_cons (ps_if (pt_cmpR op_ne (pe_callB call_len (by rfl) B.b_len (by decide +kernel) (pa_cons (pv 3) (pa_nil))) (pe_callB call_len (by rfl) B.b_len (by decide +kernel) (pa_cons (pv 4) (pa_nil))) (nomark _)) (pss_one (ps_ret (pe_bl))) (pss_nil))
          (pss_one (ps_expr (pe_bm PySem.F.plainAttrs_list PySem.F.slot_list_extend PySem.F.type_list_extend mt_extend (pv 2) (pa_cons (Wf.pe_lstZip rfl (by rfl) B.b_list (by rfl) B.b_zip (pa_cons (pv 3) (pa_cons (pv 4) (pa_nil)))) (pa_nil)))))) (pss_one (ps_if (pt_cmpR (op_neD hr.units) (pv 3) (pv 4) (nomark _)) (pss_one (ps_ret (pe_bl))) (pss_nil))))))))))
          (pss_one (ps_ret (pe_bl))))
abbrev s_paces : Stmt := topS 35
abbrev N_paces : List Str := ["_law_deal_here", "_law_many", "_law_wide", "_law_steps", "_law_found", "_law_step", "_law_k"]
theorem sc_paces : FnScope N_paces ["_law_deal_here", "_law_many"] (defScope s_paces) := ⟨rfl, rfl, rfl, by decide +kernel, rfl, by decide +kernel, by decide +kernel⟩
theorem ok_paces (F : FnP K "_law_paces" s_paces f fd) (B : Bl mg) (C_draw : Cal P w K mg base CX0 1 "_law_draw" ["_law_deal_here", "_law_many"] sp_draw) : FnOk P w K mg base CX0 2 f fd ["_law_deal_here", "_law_many"] (sp_paces K) := by
  refine F.ok sc_paces (fun vs H Q E h => ?_) (fun cdv A outer s H vs Q E hr h => ⟨_, PSs.nox ?_, pure_paces (K := K) vs H Q E h⟩)
  · obtain ⟨_, _, _, rfl, _⟩ := h
    rfl
  · exact pss_cons (ps_set (i := 2) sc_paces.nd rfl (by first | exact Or.inl rfl | exact Or.inr rfl) (pe_lst (pa_cons (pe_int) (pa_cons (pe_int) (pa_cons (pe_int) (pa_cons (pe_op op_fdiv (pe_int) (pe_callB (call_max2 rfl) (by rfl) B.b_max (by decide +kernel) (pa_cons (pe_int) (pa_cons (pe_op op_sub (pv 1) (pe_int)) (pa_nil))))) (pa_nil)))))))
          (pss_cons (ps_setLc (i := 3) (own := [("_law_k", 6)]) rfl sc_paces.nd rfl rfl (sw_true rfl rfl rfl (by decide +kernel)) (pi_range1 (by rfl) B.b_range (pa_cons (pe_op op_sub (pv 1) (pe_int)) (pa_nil))) (blkOk_by (N := N_paces) (sc := defScope s_paces) (by decide +kernel)) (fun _ _ _ _ _ => pg_name (i := 6) sc_paces.nd rfl (by first | exact Or.inl rfl | exact Or.inr rfl)) (fun _ _ _ _ _ => pts_nil) (fun _ _ _ _ _ => pe_op op_add (pe_int) (Wf.pe_cal C_draw hr (by rfl) (pa_cons (pv 0) (pa_cons (pe_ix ix_list (pv 2) (Wf.pe_cal C_draw hr (by rfl) (pa_cons (pv 0) (pa_cons (pe_int) (pa_nil)))) (fun _ _ => rfl)) (pa_nil))))))
          (pss_cons (ps_set (i := 4) sc_paces.nd rfl (by first | exact Or.inl rfl | exact Or.inr rfl) (pe_lst (pa_cons (pe_op op_sub (Wf.pe_cal C_draw hr (by rfl) (pa_cons (pv 0) (pa_cons (pe_op op_sub (pe_int) (pe_callB (cr_sum rfl) (by rfl) B.b_sum (by decide +kernel) (pa_cons (pv 3) (pa_nil)))) (pa_nil)))) (pe_int)) (pa_nil))))
          (pss_cons (ps_for PassesOwn.never rfl (pi_list (pv 3)) (pg_name (i := 5) sc_paces.nd rfl (by first | exact Or.inl rfl | exact Or.inr rfl)) (pss_one (ps_expr (pe_bm PySem.F.plainAttrs_list PySem.F.slot_list_append PySem.F.type_list_append mt_append (pv 4) (pa_cons (pe_op op_add (pe_ix ix_list (pv 4) (pe_un un_neg (pe_int)) (fun _ _ => rfl)) (pv 5)) (pa_nil))))))
          (pss_one (ps_ret (pe_callTy call_tuple_of (by rfl) B.b_tuple (by decide +kernel) (pa_cons (pv 4) (pa_nil))))))))
abbrev s_pair : Stmt := topS 36
abbrev N_pair : List Str := ["_law_form", "_law_size", "_law_step", "_law_a", "_law_b", "_law_some", "_law_d", "_law_e"]
theorem sc_pair : FnScope N_pair ["_law_form", "_law_size", "_law_step", "_law_a", "_law_b"] (defScope s_pair) := ⟨rfl, rfl, rfl, by decide +kernel, rfl, by decide +kernel, by decide +kernel⟩
theorem ok_pair (F : FnP K "_law_pair" s_pair f fd) (B : Bl mg)  : FnOk P w K mg base CX0 1 f fd ["_law_form", "_law_size", "_law_step", "_law_a", "_law_b"] (sp_pair K) := by
  refine F.ok sc_pair (fun vs H Q E h => ?_) (fun cdv A outer s H vs Q E hr h => ⟨_, PSs.nox ?_, pure_pair (K := K) vs H Q E h⟩)
  · obtain ⟨_, _, _, _, _, _, rfl, _⟩ := h
    rfl
  · exact pss_cons (ps_asg (pv 2) (pg_tup rfl (pgs_cons (pg_name (i := 6) sc_pair.nd rfl (by first | exact Or.inl rfl | exact Or.inr rfl)) (pgs_cons (pg_name (i := 7) sc_pair.nd rfl (by first | exact Or.inl rfl | exact Or.inr rfl)) (pgs_nil)))))
          (pss_cons (ps_set (i := 5) sc_pair.nd rfl (by first | exact Or.inl rfl | exact Or.inr rfl) (pe_lst (pa_cons (pe_tup (pa_cons (pv 4) (pa_cons (pv 3) (pa_nil)))) (pa_cons (pe_tup (pa_cons (pv 3) (pa_cons (pv 4) (pa_nil)))) (pa_cons (pe_tup (pa_cons (pe_callB (call_min2 rfl) (by rfl) B.b_min (by decide +kernel) (pa_cons (pv 3) (pa_cons (pv 4) (pa_nil)))) (pa_cons (pe_callB (call_max2 rfl) (by rfl) B.b_max (by decide +kernel) (pa_cons (pv 3) (pa_cons (pv 4) (pa_nil)))) (pa_nil)))) (pa_cons (pe_tup (pa_cons (pv 4) (pa_cons (pe_op op_mod (pe_op op_sub (pe_op op_mul (pe_int) (pv 4)) (pv 3)) (pv 1)) (pa_nil)))) (pa_cons (pe_tup (pa_cons (pe_op op_mod (pe_op op_add (pv 4) (pv 7)) (pv 1)) (pa_cons (pe_op op_mod (pe_op op_add (pv 3) (pv 6)) (pv 1)) (pa_nil)))) (pa_nil))))))))
          (pss_one (ps_ret (pe_ix ix_list (pv 5) (pv 0) (fun _ _ => rfl)))))
abbrev s_plain : Stmt := topS 37
abbrev N_plain : List Str := ["_law_deal_here", "_law_many", "_law_size", "_law_k", "_law_form", "_law_found", "_law_step", "_law_pairs", "_law_n"]
theorem sc_plain : FnScope N_plain ["_law_deal_here", "_law_many", "_law_size"] (defScope s_plain) := ⟨rfl, rfl, rfl, by decide +kernel, rfl, by decide +kernel, by decide +kernel⟩
theorem ok_plain (F : FnP K "_law_plain" s_plain f fd) (B : Bl mg) (C_draw : Cal P w K mg base CX0 1 "_law_draw" ["_law_deal_here", "_law_many"] sp_draw) (C_pair : Cal P w K mg base CX0 1 "_law_pair" ["_law_form", "_law_size", "_law_step", "_law_a", "_law_b"] (sp_pair K)) : FnOk P w K mg base CX0 2 f fd ["_law_deal_here", "_law_many", "_law_size"] (sp_plain K) := by
  refine F.ok sc_plain (fun vs H Q E h => ?_) (fun cdv A outer s H vs Q E hr h => ⟨_, PSs.nox ?_, pure_plain (K := K) vs H Q E h⟩)
  · obtain ⟨_, _, _, _, rfl, _⟩ := h
    rfl
  · exact pss_cons (ps_asg (pe_tup (pa_cons (Wf.pe_cal C_draw hr (by rfl) (pa_cons (pv 0) (pa_cons (pe_int) (pa_nil)))) (pa_cons (pe_lst (pa_nil)) (pa_nil)))) (pg_tup rfl (pgs_cons (pg_name (i := 4) sc_plain.nd rfl (by first | exact Or.inl rfl | exact Or.inr rfl)) (pgs_cons (pg_name (i := 5) sc_plain.nd rfl (by first | exact Or.inl rfl | exact Or.inr rfl)) (pgs_nil)))))
          (pss_cons (ps_for PassesOwn.never rfl (pi_range1 (by rfl) B.b_range (pa_cons (pe_op op_fdiv (pe_op op_mul (pv 1) (pe_op op_sub (pv 1) (pe_int))) (pe_int)) (pa_nil))) (pg_name (i := 3) sc_plain.nd rfl (by first | exact Or.inl rfl | exact Or.inr rfl)) (pss_cons (ps_set (i := 6) sc_plain.nd rfl (by first | exact Or.inl rfl | exact Or.inr rfl) (pe_tup (pa_cons (Wf.pe_cal C_draw hr (by rfl) (pa_cons (pv 0) (pa_cons (pv 2) (pa_nil)))) (pa_cons (Wf.pe_cal C_draw hr (by rfl) (pa_cons (pv 0) (pa_cons (pv 2) (pa_nil)))) (pa_nil)))))
          (pss_one (ps_expr (pe_bm PySem.F.plainAttrs_list PySem.F.slot_list_append PySem.F.type_list_append mt_append (pv 5) (pa_cons (pe_lc (own := [("_law_n", 8)]) rfl sc_plain.nd (pi_range1 (by rfl) B.b_range (pa_cons (pe_op op_mul (pv 2) (pv 2)) (pa_nil))) (blkOk_by (N := N_plain) (sc := defScope s_plain) (by decide +kernel)) (fun _ _ _ _ _ => pg_name (i := 8) sc_plain.nd rfl (by first | exact Or.inl rfl | exact Or.inr rfl)) (fun _ _ _ _ _ => pts_nil) (fun _ _ _ _ _ => Wf.pe_cal C_pair hr (by rfl) (pa_cons (pe_op op_mod (pv 4) (pe_int)) (pa_cons (pv 2) (pa_cons (pv 6) (pa_cons (pe_op op_fdiv (pv 8) (pv 2)) (pa_cons (pe_op op_mod (pv 8) (pv 2)) (pa_nil)))))))) (pa_nil)))))))
          (pss_cons (ps_if (PW.pt (pw_and (pt_cmpR op_eq (pv 4) (pe_int) (nomark _)) (pw_and1 (pt_cmpR (op_neD hr.units) (pv 5) (pe_lst (pa_nil)) (nomark _))))) (pss_cons (ps_setLc (i := 7) (own := [("_law_n", 8)]) rfl sc_plain.nd rfl rfl (sw_true rfl rfl rfl (by decide +kernel)) (pi_range1 (by rfl) B.b_range (pa_cons (pe_op op_mul (pv 2) (pv 2)) (pa_nil))) (blkOk_by (N := N_plain) (sc := defScope s_plain) (by decide +kernel)) (fun _ _ _ _ _ => pg_name (i := 8) sc_plain.nd rfl (by first | exact Or.inl rfl | exact Or.inr rfl)) (fun _ _ _ _ _ => pts_nil) (fun _ _ _ _ _ => pe_tup (pa_cons (Wf.pe_cal C_draw hr (by rfl) (pa_cons (pv 0) (pa_cons (pv 2) (pa_nil)))) (pa_cons (Wf.pe_cal C_draw hr (by rfl) (pa_cons (pv 0) (pa_cons (pv 2) (pa_nil)))) (pa_nil)))))
          (pss_one (ps_asg (pv 7) (pg_sub (pv 5) (Wf.pe_cal C_draw hr (by rfl) (pa_cons (pv 0) (pa_cons (pe_callB call_len (by rfl) B.b_len (by decide +kernel) (pa_cons (pv 5) (pa_nil))) (pa_nil)))) set_list)))) (pss_nil))
          (pss_one (ps_ret (pv 5)))))
abbrev s_side : Stmt := topS 38
abbrev N_side : List Str := ["_law_one", "_law_other", "_law_wide", "_law_more", "_law_found", "_law_size", "_law_first", "_law_second", "_law_pairs", "_law_n", "_law_a", "_law_b", "_law_c", "_law_d", "_law_g", "_law_h"]
theorem sc_side : FnScope N_side ["_law_one", "_law_other", "_law_wide", "_law_more"] (defScope s_side) := ⟨rfl, rfl, rfl, by decide +kernel, rfl, by decide +kernel, by decide +kernel⟩
theorem ok_side (F : FnP K "_law_side" s_side f fd) (B : Bl mg)  : FnOk P w K mg base CX0 1 f fd ["_law_one", "_law_other", "_law_wide", "_law_more"] (sp_side K) := by
  refine F.ok sc_side (fun vs H Q E h => ?_) (fun cdv A outer s H vs Q E hr h => ⟨_, PSs.nox ?_, pure_side (K := K) vs H Q E h⟩)
  · obtain ⟨_, _, _, _, _, _, _, _, rfl, _⟩ := h
    rfl
  · exact pss_cons (ps_par rfl sc_side.nd rfl rfl (by decide) rfl rfl (pa_cons (pe_lst (pa_nil)) (pa_cons (pe_op op_mul (pv 2) (pv 3)) (pa_nil))) (by rfl))
          (pss_cons (ps_for PassesOwn.never rfl (RZ.pi_zipA (by rfl) B.b_zip (pa_cons (pv 0) (pa_cons (pv 1) (pa_nil)))) (pg_tup rfl (pgs_cons (pg_name (i := 6) sc_side.nd rfl (by first | exact Or.inl rfl | exact Or.inr rfl)) (pgs_cons (pg_name (i := 7) sc_side.nd rfl (by first | exact Or.inl rfl | exact Or.inr rfl)) (pgs_nil)))) (pss_cons (ps_set (i := 8) sc_side.nd rfl (by first | exact Or.inl rfl | exact Or.inr rfl) (pe_lst (pa_nil)))
          (pss_cons (ps_for PassesOwn.never rfl (pi_range1 (by rfl) B.b_range (pa_cons (pe_op op_mul (pv 5) (pv 5)) (pa_nil))) (pg_name (i := 9) sc_side.nd rfl (by first | exact Or.inl rfl | exact Or.inr rfl)) (pss_cons (ps_par rfl sc_side.nd rfl rfl (by decide) rfl rfl (pa_cons (pe_op op_fdiv (pv 9) (pv 5)) (pa_cons (pe_op op_mod (pv 9) (pv 5)) (pa_nil))) (by rfl))
          (pss_cons (ps_asg (pe_ix ix_list (pv 6) (pe_op op_add (pe_op op_mul (pe_op op_fdiv (pv 10) (pv 3)) (pv 2)) (pe_op op_fdiv (pv 11) (pv 3))) (fun _ _ => rfl)) (pg_tup rfl (pgs_cons (pg_name (i := 12) sc_side.nd rfl (by first | exact Or.inl rfl | exact Or.inr rfl)) (pgs_cons (pg_name (i := 13) sc_side.nd rfl (by first | exact Or.inl rfl | exact Or.inr rfl)) (pgs_nil)))))
          (pss_cons (ps_asg (pe_ix ix_list (pv 7) (pe_op op_add (pe_op op_mul (pe_op op_mod (pv 10) (pv 3)) (pv 3)) (pe_op op_mod (pv 11) (pv 3))) (fun _ _ => rfl)) (pg_tup rfl (pgs_cons (pg_name (i := 14) sc_side.nd rfl (by first | exact Or.inl rfl | exact Or.inr rfl)) (pgs_cons (pg_name (i := 15) sc_side.nd rfl (by first | exact Or.inl rfl | exact Or.inr rfl)) (pgs_nil)))))
          (pss_one (ps_expr (pe_bm PySem.F.plainAttrs_list PySem.F.slot_list_append PySem.F.type_list_append mt_append (pv 8) (pa_cons (pe_tup (pa_cons (pe_op op_add (pe_op op_mul (pv 12) (pv 3)) (pv 14)) (pa_cons (pe_op op_add (pe_op op_mul (pv 13) (pv 3)) (pv 15)) (pa_nil)))) (pa_nil)))))))))
          (pss_one (ps_expr (pe_bm PySem.F.plainAttrs_list PySem.F.slot_list_append PySem.F.type_list_append mt_append (pv 4) (pa_cons (pv 8) (pa_nil))))))))
          (pss_one (ps_ret (pv 4))))
abbrev s_mixed : Stmt := topS 39
abbrev N_mixed : List Str := ["_law_deal_here", "_law_many", "_law_turn", "_law_left", "_law_found"]
theorem sc_mixed : FnScope N_mixed ["_law_deal_here", "_law_many"] (defScope s_mixed) := ⟨rfl, rfl, rfl, by decide +kernel, rfl, by decide +kernel, by decide +kernel⟩
theorem ok_mixed (F : FnP K "_law_mixed" s_mixed f fd) (B : Bl mg) (C_draw : Cal P w K mg base CX0 1 "_law_draw" ["_law_deal_here", "_law_many"] sp_draw) : FnOk P w K mg base CX0 2 f fd ["_law_deal_here", "_law_many"] sp_mixed := by
  refine F.ok sc_mixed (fun vs H Q E h => ?_) (fun cdv A outer s H vs Q E hr h => ⟨_, PSs.nox ?_, pure_mixed (K := K) vs H Q E h⟩)
  · obtain ⟨_, _, _, rfl, _⟩ := h
    rfl
  · exact pss_cons (ps_par rfl sc_mixed.nd rfl rfl (by decide) rfl rfl (pa_cons (pe_listRg rfl (by rfl) B.b_list (prg_1 (by rfl) B.b_range (pv 1))) (pa_cons (pe_lst (pa_nil)) (pa_nil))) (by rfl))
          (pss_cons (ps_for PassesOwn.never rfl (pi_range1 (by rfl) B.b_range (pa_cons (pv 1) (pa_nil))) (pg_name (i := 2) sc_mixed.nd rfl (by first | exact Or.inl rfl | exact Or.inr rfl)) (pss_one (ps_expr (pe_bm PySem.F.plainAttrs_list PySem.F.slot_list_append PySem.F.type_list_append mt_append (pv 4) (pa_cons (pe_bm PySem.F.plainAttrs_list PySem.F.slot_list_pop PySem.F.type_list_pop mt_popAt (pv 3) (pa_cons (Wf.pe_cal C_draw hr (by rfl) (pa_cons (pv 0) (pa_cons (pe_callB call_len (by rfl) B.b_len (by decide +kernel) (pa_cons (pv 3) (pa_nil))) (pa_nil)))) (pa_nil))) (pa_nil))))))
          (pss_one (ps_ret (pv 4))))
abbrev s_names_put : Stmt := topS 40
abbrev N_names_put : List Str := ["_law_tables", "_law_size", "_law_names", "_law_found", "_law_table", "_law_pairs", "_law_n", "_law_pair_here", "_law_a", "_law_b"]
theorem sc_names_put : FnScope N_names_put ["_law_tables", "_law_size", "_law_names"] (defScope s_names_put) := ⟨rfl, rfl, rfl, by decide +kernel, rfl, by decide +kernel, by decide +kernel⟩
theorem ok_names_put (F : FnP K "_law_names_put" s_names_put f fd) (B : Bl mg)  : FnOk P w K mg base CX0 1 f fd ["_law_tables", "_law_size", "_law_names"] (sp_names K) := by
  refine F.ok sc_names_put (fun vs H Q E h => ?_) (fun cdv A outer s H vs Q E hr h => ⟨_, PSs.nox ?_, pure_names (K := K) vs H Q E h⟩)
  · obtain ⟨_, _, _, _, _, _, rfl, _⟩ := h
    rfl
  · exact pss_cons (ps_set (i := 3) sc_names_put.nd rfl (by first | exact Or.inl rfl | exact Or.inr rfl) (pe_lst (pa_nil)))
          (pss_cons (ps_for PassesOwn.never rfl (pi_list (pv 0)) (pg_name (i := 4) sc_names_put.nd rfl (by first | exact Or.inl rfl | exact Or.inr rfl)) (pss_cons (ps_set (i := 5) sc_names_put.nd rfl (by first | exact Or.inl rfl | exact Or.inr rfl) (pe_op op_rep (pe_lst (pa_cons (pe_tup (pa_cons (pe_int) (pa_cons (pe_int) (pa_nil)))) (pa_nil))) (pe_op op_mul (pv 1) (pv 1))))
          (pss_cons (ps_for PassesOwn.never rfl (pi_enum (by rfl) B.b_enumerate (pa_cons (pv 4) (pa_nil))) (pg_tup rfl (pgs_cons (pg_name (i := 6) sc_names_put.nd rfl (by first | exact Or.inl rfl | exact Or.inr rfl)) (pgs_cons (pg_name (i := 7) sc_names_put.nd rfl (by first | exact Or.inl rfl | exact Or.inr rfl)) (pgs_nil)))) (pss_cons (ps_par rfl sc_names_put.nd rfl rfl (by decide) rfl rfl (pa_cons (pe_ix ix_list (pv 2) (pe_op op_fdiv (pv 6) (pv 1)) (fun _ _ => rfl)) (pa_cons (pe_ix ix_list (pv 2) (pe_op op_mod (pv 6) (pv 1)) (fun _ _ => rfl)) (pa_nil))) (by rfl))
          (pss_one (ps_asg (pe_tup (pa_cons (pe_ix ix_list (pv 2) (pe_ix ix_tup (pv 7) (pe_int) (fun _ _ => rfl)) (fun _ _ => rfl)) (pa_cons (pe_ix ix_list (pv 2) (pe_ix ix_tup (pv 7) (pe_int) (fun _ _ => rfl)) (fun _ _ => rfl)) (pa_nil)))) (pg_sub (pv 5) (pe_op op_add (pe_op op_mul (pv 8) (pv 1)) (pv 9)) set_list)))))
          (pss_one (ps_expr (pe_bm PySem.F.plainAttrs_list PySem.F.slot_list_append PySem.F.type_list_append mt_append (pv 3) (pa_cons (pv 5) (pa_nil))))))))
          (pss_one (ps_ret (pv 3))))
abbrev s_good : Stmt := topS 41
abbrev N_good : List Str := ["_law_deal_here", "_law_many", "_law_size", "_law_wide", "_law_found"]
theorem sc_good : FnScope N_good ["_law_deal_here", "_law_many", "_law_size"] (defScope s_good) := ⟨rfl, rfl, rfl, by decide +kernel, rfl, by decide +kernel, by decide +kernel⟩
theorem ok_good (F : FnP K "_law_good" s_good f fd) (B : Bl mg) (C_draw : Cal P w K mg base CX0 1 "_law_draw" ["_law_deal_here", "_law_many"] sp_draw) (C_plain : Cal P w K mg base CX0 2 "_law_plain" ["_law_deal_here", "_law_many", "_law_size"] (sp_plain K)) (C_side : Cal P w K mg base CX0 1 "_law_side" ["_law_one", "_law_other", "_law_wide", "_law_more"] (sp_side K)) (C_names_put : Cal P w K mg base CX0 1 "_law_names_put" ["_law_tables", "_law_size", "_law_names"] (sp_names K)) (C_mixed : Cal P w K mg base CX0 2 "_law_mixed" ["_law_deal_here", "_law_many"] sp_mixed) : FnOk P w K mg base CX0 3 f fd ["_law_deal_here", "_law_many", "_law_size"] (sp_good K) := by
  refine F.ok sc_good (fun vs H Q E h => ?_) (fun cdv A outer s H vs Q E hr h => ⟨_, PSs.nox ?_, pure_good (K := K) vs H Q E h⟩)
  · obtain ⟨_, _, _, _, rfl, _⟩ := h
    rfl
  · exact pss_cons (ps_set (i := 3) sc_good.nd rfl (by first | exact Or.inl rfl | exact Or.inr rfl) (pe_ifExp (pt_cmpR op_eq (Wf.pe_cal C_draw hr (by rfl) (pa_cons (pv 0) (pa_cons (pe_int) (pa_nil)))) (pe_int) (nomark _)) (pe_ix ix_list (pe_lst (pa_cons (pe_int) (pa_cons (pe_int) (pa_cons (pe_int) (pa_cons (pe_int) (pa_cons (pe_int) (pa_cons (pe_int) (pa_cons (pe_ix ix_list (pe_lst (pa_cons (pe_int) (pa_cons (pe_int) (pa_nil)))) (Wf.pe_cal C_draw hr (by rfl) (pa_cons (pv 0) (pa_cons (pe_int) (pa_nil)))) (fun _ _ => rfl)) (pa_nil))))))))) (pv 2) (fun _ _ => rfl)) (pe_int)))
          (pss_cons (ps_set (i := 4) sc_good.nd rfl (by first | exact Or.inl rfl | exact Or.inr rfl) (Wf.pe_cal C_plain hr (by rfl) (pa_cons (pv 0) (pa_cons (pv 1) (pa_cons (pe_op op_fdiv (pv 2) (pv 3)) (pa_nil))))))
          (pss_cons (ps_if (pt_cmpR op_gt (pv 3) (pe_int) (nomark _)) (pss_one (ps_set (i := 4) sc_good.nd rfl (by first | exact Or.inl rfl | exact Or.inr rfl) (Wf.pe_cal C_side hr (by rfl) (pa_cons (Wf.pe_cal C_plain hr (by rfl) (pa_cons (pv 0) (pa_cons (pv 1) (pa_cons (pv 3) (pa_nil))))) (pa_cons (pv 4) (pa_cons (pv 3) (pa_cons (pe_op op_fdiv (pv 2) (pv 3)) (pa_nil)))))))) (pss_nil))
          (pss_cons (ps_if (pt_cmpR op_eq (Wf.pe_cal C_draw hr (by rfl) (pa_cons (pv 0) (pa_cons (pe_int) (pa_nil)))) (pe_int) (nomark _)) (pss_one (ps_set (i := 4) sc_good.nd rfl (by first | exact Or.inl rfl | exact Or.inr rfl) (Wf.pe_cal C_names_put hr (by rfl) (pa_cons (pv 4) (pa_cons (pv 2) (pa_cons (Wf.pe_cal C_mixed hr (by rfl) (pa_cons (pv 0) (pa_cons (pv 2) (pa_nil)))) (pa_nil))))))) (pss_nil))
          (pss_one (ps_ret (pv 4))))))
abbrev s_any : Stmt := topS 42
abbrev N_any : List Str := ["_law_deal_here", "_law_many", "_law_size", "_law_found", "_law_k", "_law_n"]
theorem sc_any : FnScope N_any ["_law_deal_here", "_law_many", "_law_size"] (defScope s_any) := ⟨rfl, rfl, rfl, by decide +kernel, rfl, by decide +kernel, by decide +kernel⟩
theorem ok_any (F : FnP K "_law_any" s_any f fd) (B : Bl mg) (C_draw : Cal P w K mg base CX0 1 "_law_draw" ["_law_deal_here", "_law_many"] sp_draw) : FnOk P w K mg base CX0 2 f fd ["_law_deal_here", "_law_many", "_law_size"] (sp_any K) := by
  refine F.ok sc_any (fun vs H Q E h => ?_) (fun cdv A outer s H vs Q E hr h => ⟨_, PSs.nox ?_, pure_any (K := K) vs H Q E h⟩)
  · obtain ⟨_, _, _, _, rfl, _⟩ := h
    rfl
  · exact pss_cons (ps_set (i := 3) sc_any.nd rfl (by first | exact Or.inl rfl | exact Or.inr rfl) (pe_lst (pa_nil)))
          (pss_cons (ps_for PassesOwn.never rfl (pi_range1 (by rfl) B.b_range (pa_cons (pe_op op_fdiv (pe_op op_mul (pv 1) (pe_op op_sub (pv 1) (pe_int))) (pe_int)) (pa_nil))) (pg_name (i := 4) sc_any.nd rfl (by first | exact Or.inl rfl | exact Or.inr rfl)) (pss_one (ps_expr (pe_bm PySem.F.plainAttrs_list PySem.F.slot_list_append PySem.F.type_list_append mt_append (pv 3) (pa_cons (pe_lc (own := [("_law_n", 5)]) rfl sc_any.nd (pi_range1 (by rfl) B.b_range (pa_cons (pe_op op_mul (pv 2) (pv 2)) (pa_nil))) (blkOk_by (N := N_any) (sc := defScope s_any) (by decide +kernel)) (fun _ _ _ _ _ => pg_name (i := 5) sc_any.nd rfl (by first | exact Or.inl rfl | exact Or.inr rfl)) (fun _ _ _ _ _ => pts_nil) (fun _ _ _ _ _ => pe_tup (pa_cons (Wf.pe_cal C_draw hr (by rfl) (pa_cons (pv 0) (pa_cons (pv 2) (pa_nil)))) (pa_cons (Wf.pe_cal C_draw hr (by rfl) (pa_cons (pv 0) (pa_cons (pv 2) (pa_nil)))) (pa_nil))))) (pa_nil))))))
          (pss_one (ps_ret (pv 3))))
abbrev s_book : Stmt := topS 43
abbrev N_book : List Str := ["_law_deal_here", "_law_many", "_law_size", "_law_form", "_law_paces_here", "_law_tables", "_law_table", "_law_pair_here"]
theorem sc_book : FnScope N_book ["_law_deal_here", "_law_many", "_law_size", "_law_form"] (defScope s_book) := ⟨rfl, rfl, rfl, by decide +kernel, rfl, by decide +kernel, by decide +kernel⟩
theorem ok_book (F : FnP K "_law_book" s_book f fd) (B : Bl mg) (C_paces : Cal P w K mg base CX0 2 "_law_paces" ["_law_deal_here", "_law_many"] (sp_paces K)) (C_any : Cal P w K mg base CX0 2 "_law_any" ["_law_deal_here", "_law_many", "_law_size"] (sp_any K)) (C_good : Cal P w K mg base CX0 3 "_law_good" ["_law_deal_here", "_law_many", "_law_size"] (sp_good K)) (C_draw : Cal P w K mg base CX0 1 "_law_draw" ["_law_deal_here", "_law_many"] sp_draw) : FnOk P w K mg base CX0 4 f fd ["_law_deal_here", "_law_many", "_law_size", "_law_form"] (sp_book K) := by
  refine F.ok sc_book (fun vs H Q E h => ?_) (fun cdv A outer s H vs Q E hr h => ⟨_, PSs.nox ?_, pure_bookQ (K := K) vs H Q E h⟩)
  · obtain ⟨_, _, _, _, _, rfl, _⟩ := h
    rfl
  · exact pss_cons (ps_set (i := 4) sc_book.nd rfl (by first | exact Or.inl rfl | exact Or.inr rfl) (Wf.pe_cal C_paces hr (by rfl) (pa_cons (pv 0) (pa_cons (pv 1) (pa_nil)))))
          (pss_cons (ps_set (i := 5) sc_book.nd rfl (by first | exact Or.inl rfl | exact Or.inr rfl) (pe_ifExp (pt_cmpR op_eq (pv 3) (pe_int) (nomark _)) (Wf.pe_cal C_any hr (by rfl) (pa_cons (pv 0) (pa_cons (pv 1) (pa_cons (pv 2) (pa_nil))))) (Wf.pe_cal C_good hr (by rfl) (pa_cons (pv 0) (pa_cons (pv 1) (pa_cons (pv 2) (pa_nil)))))))
          (pss_cons (ps_if (PW.pt (pw_and (pt_cmpR op_eq (pv 3) (pe_int) (nomark _)) (pw_and1 (pt_cmpR op_gt (pe_callB call_len (by rfl) B.b_len (by decide +kernel) (pa_cons (pv 5) (pa_nil))) (pe_int) (nomark _))))) (pss_cons (ps_set (i := 6) sc_book.nd rfl (by first | exact Or.inl rfl | exact Or.inr rfl) (pe_ix ix_list (pv 5) (Wf.pe_cal C_draw hr (by rfl) (pa_cons (pv 0) (pa_cons (pe_callB call_len (by rfl) B.b_len (by decide +kernel) (pa_cons (pv 5) (pa_nil))) (pa_nil)))) (fun _ _ => rfl)))
          (pss_cons (ps_set (i := 7) sc_book.nd rfl (by first | exact Or.inl rfl | exact Or.inr rfl) (pe_tup (pa_cons (Wf.pe_cal C_draw hr (by rfl) (pa_cons (pv 0) (pa_cons (pv 2) (pa_nil)))) (pa_cons (Wf.pe_cal C_draw hr (by rfl) (pa_cons (pv 0) (pa_cons (pv 2) (pa_nil)))) (pa_nil)))))
          (pss_one (ps_asg (pv 7) (pg_sub (pv 6) (Wf.pe_cal C_draw hr (by rfl) (pa_cons (pv 0) (pa_cons (pe_callB call_len (by rfl) B.b_len (by decide +kernel) (pa_cons (pv 6) (pa_nil))) (pa_nil)))) set_list))))) (pss_nil))
          (pss_one (ps_ret (pe_tup (pa_cons (pv 4) (pa_cons (pv 2) (pa_cons (pe_callTy call_tuple_of (by rfl) B.b_tuple (by decide +kernel) (pa_cons (pe_lc (own := [("_law_table", 6)]) rfl sc_book.nd (pi_list (pv 5)) (blkOk_by (N := N_book) (sc := defScope s_book) (by decide +kernel)) (fun _ _ _ _ _ => pg_name (i := 6) sc_book.nd rfl (by first | exact Or.inl rfl | exact Or.inr rfl)) (fun _ _ _ _ _ => pts_nil) (fun _ _ _ _ _ => pe_callTy call_tuple_of (by rfl) B.b_tuple (by decide +kernel) (pa_cons (pv 6) (pa_nil)))) (pa_nil))) (pa_nil)))))))))
abbrev s_is_number : Stmt := topS 16
abbrev N_is_number : List Str := ["thing"]
theorem sc_is_number : FnScope N_is_number ["thing"] (defScope s_is_number) := ⟨rfl, rfl, rfl, by decide +kernel, rfl, by decide +kernel, by decide +kernel⟩
theorem ok_is_number (F : FnP K "is_number" s_is_number f fd) (B : Bl mg)  : FnOk P w K mg base CX0 1 f fd ["thing"] (LSp K TB0 psp_is_number) := by
  refine fn_ok (p := fun _ => p_is_number) F sc_is_number rfl rfl (by decide) (fun as Qp Ep h => by obtain ⟨_, rfl, _⟩ := h; rfl) (fun cdv A outer s H E Bh Bt Ep hr hx => JSs.nox ?_) hp_is_number
  exact jss_one (js_ret (je_and (je_isi (by unfold TyOk; decide) (by rfl) B.b_isinstance (pe_bltn (v := .ty "int") (by rfl) B.b_int (by decide +kernel) rfl) (jv 0)) (je_one (je_not (je_isi (by unfold TyOk; decide) (by rfl) B.b_isinstance (pe_bltn (v := .ty "bool") (by rfl) B.b_bool (by decide +kernel) rfl) (jv 0))))))
abbrev s_is_whole : Stmt := topS 17
abbrev N_is_whole : List Str := ["thing", "least", "most"]
theorem sc_is_whole : FnScope N_is_whole ["thing", "least", "most"] (defScope s_is_whole) := ⟨rfl, rfl, rfl, by decide +kernel, rfl, by decide +kernel, by decide +kernel⟩
theorem ok_is_whole (F : FnP K "is_whole" s_is_whole f fd) (B : Bl mg) (C_is_number : Cal P w K mg base CX0 1 "is_number" ["thing"] (LSp K TB0 psp_is_number)) : FnOk P w K mg base CX0 2 f fd ["thing", "least", "most"] (LSp K TB0 psp_is_whole) := by
  refine fn_ok (p := fun _ => p_is_whole) F sc_is_whole rfl rfl (by decide) (fun as Qp Ep h => by obtain ⟨_, _, _, rfl, _⟩ := h; rfl) (fun cdv A outer s H E Bh Bt Ep hr hx => JSs.nox ?_) hp_is_whole
  exact jss_one (js_ret (je_and (je_cal C_is_number hr (by rfl) (ja_cons (je_fz (jv 0)) (ja_nil))) (je_one (je_chain op_le op_le lc_le lc_le (jv 1) (jv 0) (jv 2)))))
abbrev s_is_tuple_of : Stmt := topS 18
abbrev N_is_tuple_of : List Str := ["thing", "many"]
theorem sc_is_tuple_of : FnScope N_is_tuple_of ["thing", "many"] (defScope s_is_tuple_of) := ⟨rfl, rfl, rfl, by decide +kernel, rfl, by decide +kernel, by decide +kernel⟩
theorem ok_is_tuple_of (F : FnP K "is_tuple_of" s_is_tuple_of f fd) (B : Bl mg)  : FnOk P w K mg base CX0 1 f fd ["thing", "many"] (LSp K TB0 psp_is_tuple_of) := by
  refine fn_ok (p := fun _ => p_is_tuple_of) F sc_is_tuple_of rfl rfl (by decide) (fun as Qp Ep h => by obtain ⟨_, _, rfl, _⟩ := h; rfl) (fun cdv A outer s H E Bh Bt Ep hr hx => JSs.nox ?_) hp_is_tuple_of
  exact jss_one (js_ret (je_and (je_isi (by unfold TyOk; decide) (by rfl) B.b_isinstance (pe_bltn (v := .ty "tuple") (by rfl) B.b_tuple (by decide +kernel) rfl) (jv 0)) (je_one (je_eq hr (je_cb call_len lc_len (by rfl) B.b_len (by decide +kernel) (ja_cons (jv 0) (ja_nil))) (jv 1)))))
abbrev s_two_kinds43 : Stmt := topS 19
abbrev N_two_kinds43 : List Str := ["many", "u", "v"]
theorem sc_two_kinds43 : FnScope N_two_kinds43 ["many"] (defScope s_two_kinds43) := ⟨rfl, rfl, rfl, by decide +kernel, rfl, by decide +kernel, by decide +kernel⟩
theorem ok_two_kinds43 (F : FnP K "two_kinds" s_two_kinds43 f fd) (B : Bl mg)  : FnOk P w K mg base CX0 1 f fd ["many"] (LSp K TB0 psp_two_kinds43) := by
  refine fn_ok (p := fun _ => p_two_kinds43) F sc_two_kinds43 rfl rfl (by decide) (fun as Qp Ep h => by obtain ⟨_, rfl, _⟩ := h; rfl) (fun cdv A outer s H E Bh Bt Ep hr hx => JSs.nox ?_) hp_two_kinds43
  exact jss_one (js_ret (je_lc2 (own := [("u", 1), ("v", 2)]) [2] rfl sc_two_kinds43.nd (ji_rng1 (by rfl) B.b_range (ja_cons (jv 0) (ja_nil))) (blkOk_by (N := N_two_kinds43) (sc := defScope s_two_kinds43) (by decide +kernel)) (fun _ _ _ _ _ => jg_name (i := 1) sc_two_kinds43.nd rfl (by first | exact Or.inl rfl | exact Or.inr rfl)) (fun _ _ _ _ _ => jts_nil) (fun _ _ _ _ _ => ji_rng1 (by rfl) B.b_range (ja_cons (jv 1) (ja_nil))) (fun _ _ _ _ _ => jg_name (i := 2) sc_two_kinds43.nd rfl (by first | exact Or.inl rfl | exact Or.inr rfl)) (fun _ _ _ _ _ => jts_nil) (fun _ _ _ _ _ => je_tup (ja_cons (jv 1) (ja_cons (jv 2) (ja_nil))))))
abbrev s_look_paces61 : Stmt := topS 20
abbrev N_look_paces61 : List Str := ["paces", "least", "k", "pace"]
theorem sc_look_paces61 : FnScope N_look_paces61 ["paces"] (defScope s_look_paces61) := ⟨rfl, rfl, rfl, by decide +kernel, rfl, by decide +kernel, by decide +kernel⟩
theorem ok_look_paces61 (F : FnP K "look_paces" s_look_paces61 f fd) (B : Bl mg) (C_is_whole : Cal P w K mg base CX0 2 "is_whole" ["thing", "least", "most"] (LSp K TB0 psp_is_whole)) (G_MOST_KINDS : ∃ t, mg "MOST_KINDS" = some (.int 5 t)) (G_MOST_PACE : ∃ t, mg "MOST_PACE" = some (.int 1000 t)) (T_NoBook : Err2 P w K mg base "NoBook" "word" "at" cNoBook) : FnOk P w K mg base (L2.CX P w) 3 f fd ["paces"] (LSp K TB0 (psp_look_paces61 cNoBook)) := by
  refine fn_ok (p := fun Ep => p_look_paces61 cNoBook Ep) F sc_look_paces61 rfl rfl (by decide) (fun as Qp Ep h => by obtain ⟨_, rfl, _⟩ := h; rfl) (fun cdv A outer s H E Bh Bt Ep hr hx => ?_) (hp_look_paces61 cNoBook)
  exact jss_cons (js_if (jw_pt (jw_or (jb_not (jb_val (je_isi (by unfold TyOk; decide) (by rfl) B.b_isinstance (pe_bltn (v := .ty "tuple") (by rfl) B.b_tuple (by decide +kernel) rfl) (jv 0)))) (jw_or1 (jb_not (jb_chain op_le op_le lc_le lc_le (je_int) (je_cb call_len lc_len (by rfl) B.b_len (by decide +kernel) (ja_cons (jv 0) (ja_nil))) (je_gi G_MOST_KINDS (by rfl))))))) (jss_one (js_rz2 T_NoBook hr rfl (takes_of rfl rfl rfl rfl) hx (by rfl) (ja_cons (je_fz (je_str)) (ja_cons (je_fz (je_int)) (ja_nil))))) (jss_nil))
    (jss_cons (js_set (i := 1) sc_look_paces61.nd rfl (by first | exact Or.inl rfl | exact Or.inr rfl) (je_neg (je_gi G_MOST_PACE (by rfl))))
    (jss_one (js_for (passes_of rfl) rfl (ji_enum (by rfl) B.b_enumerate (ja_cons (jv 0) (ja_nil))) (jg_tup rfl (jgs_cons (jg_name (i := 2) sc_look_paces61.nd rfl (by first | exact Or.inl rfl | exact Or.inr rfl)) (jgs_cons (jg_name (i := 3) sc_look_paces61.nd rfl (by first | exact Or.inl rfl | exact Or.inr rfl)) (jgs_nil)))) (jss_cons (js_if (jb_not (jb_val (je_cal C_is_whole hr (by rfl) (ja_cons (je_fz (jv 3)) (ja_cons (je_fz (jv 1)) (ja_cons (je_fz (je_gi G_MOST_PACE (by rfl))) (ja_nil))))))) (jss_one (js_rz2 T_NoBook hr rfl (takes_of rfl rfl rfl rfl) hx (by rfl) (ja_cons (je_fz (je_str)) (ja_cons (je_fz (jv 2)) (ja_nil))))) (jss_nil))
    (jss_one (js_set (i := 1) sc_look_paces61.nd rfl (by first | exact Or.inl rfl | exact Or.inr rfl) (je_add (jv 3) (je_int))))))))
abbrev s_is_pair61 : Stmt := topS 21
abbrev N_is_pair61 : List Str := ["thing", "sorts", "first", "second"]
theorem sc_is_pair61 : FnScope N_is_pair61 ["thing", "sorts"] (defScope s_is_pair61) := ⟨rfl, rfl, rfl, by decide +kernel, rfl, by decide +kernel, by decide +kernel⟩
theorem ok_is_pair61 (F : FnP K "is_pair" s_is_pair61 f fd) (B : Bl mg) (C_is_tuple_of : Cal P w K mg base CX0 1 "is_tuple_of" ["thing", "many"] (LSp K TB0 psp_is_tuple_of)) (C_is_whole : Cal P w K mg base CX0 2 "is_whole" ["thing", "least", "most"] (LSp K TB0 psp_is_whole)) : FnOk P w K mg base CX0 3 f fd ["thing", "sorts"] (LSp K TB0 psp_is_pair61) := by
  refine fn_ok (p := fun _ => p_is_pair61) F sc_is_pair61 rfl rfl (by decide) (fun as Qp Ep h => by obtain ⟨_, _, rfl, _⟩ := h; rfl) (fun cdv A outer s H E Bh Bt Ep hr hx => JSs.nox ?_) hp_is_pair61
  exact jss_cons (js_if (jb_not (jb_val (je_cal C_is_tuple_of hr (by rfl) (ja_cons (je_fz (jv 0)) (ja_cons (je_fz (je_int)) (ja_nil)))))) (jss_one (js_ret (je_bl))) (jss_nil))
    (jss_cons (js_asg (jv 0) (jg_tup rfl (jgs_cons (jg_name (i := 2) sc_is_pair61.nd rfl (by first | exact Or.inl rfl | exact Or.inr rfl)) (jgs_cons (jg_name (i := 3) sc_is_pair61.nd rfl (by first | exact Or.inl rfl | exact Or.inr rfl)) (jgs_nil)))))
    (jss_one (js_ret (je_and (je_cal C_is_whole hr (by rfl) (ja_cons (je_fz (jv 2)) (ja_cons (je_fz (je_int)) (ja_cons (je_fz (je_sub (jv 1) (je_int))) (ja_nil))))) (je_one (je_cal C_is_whole hr (by rfl) (ja_cons (je_fz (jv 3)) (ja_cons (je_fz (je_int)) (ja_cons (je_fz (je_sub (jv 1) (je_int))) (ja_nil))))))))))
abbrev s_number_in63 : Stmt := topS 24
abbrev N_number_in63 : List Str := ["word", "least", "most", "figures", "number"]
theorem sc_number_in63 : FnScope N_number_in63 ["word", "least", "most"] (defScope s_number_in63) := ⟨rfl, rfl, rfl, by decide +kernel, rfl, by decide +kernel, by decide +kernel⟩
theorem ok_number_in63 (F : FnP K "number_in" s_number_in63 f fd) (B : Bl mg) (G_MOST_FIGURES : ∃ t, mg "MOST_FIGURES" = some (.int 19 t)) : FnOk P w K mg base CX0 1 f fd ["word", "least", "most"] (LSp K TB0 psp_number_in63) := by
  refine fn_ok (p := fun _ => p_number_in63) F sc_number_in63 rfl rfl (by decide) (fun as Qp Ep h => by obtain ⟨_, _, _, rfl, _⟩ := h; rfl) (fun cdv A outer s H E Bh Bt Ep hr hx => JSs.nox ?_) hp_number_in63
  exact jss_cons (js_set (i := 3) sc_number_in63.nd rfl (by first | exact Or.inl rfl | exact Or.inr rfl) (je_removeprefix (jv 0) (je_str)))
    (jss_cons (js_if (jw_pt (jw_or (jb_gt (je_cb call_len lc_len (by rfl) B.b_len (by decide +kernel) (ja_cons (jv 3) (ja_nil))) (je_gi G_MOST_FIGURES (by rfl))) (jw_or (jb_not (jb_val (je_isascii (jv 3)))) (jw_or1 (jb_not (jb_val (je_isdigit (jv 3)))))))) (jss_one (js_ret (je_non))) (jss_nil))
    (jss_cons (js_set (i := 4) sc_number_in63.nd rfl (by first | exact Or.inl rfl | exact Or.inr rfl) (je_ct call_int_str lc_intT (by rfl) B.b_int (by decide +kernel) (ja_cons (jv 0) (ja_nil))))
    (jss_cons (js_if (jw_pt (jw_or (jb_ne hr (je_ct call_str_int lc_strI (by rfl) B.b_str (by decide +kernel) (ja_cons (jv 4) (ja_nil))) (jv 0)) (jw_or1 (jb_not (jb_chain op_le op_le lc_le lc_le (jv 1) (jv 4) (jv 2)))))) (jss_one (js_ret (je_non))) (jss_nil))
    (jss_one (js_ret (jv 4))))))
abbrev s_row_at61 : Stmt := topS 26
abbrev N_row_at61 : List Str := ["rows", "at"]
theorem sc_row_at61 : FnScope N_row_at61 ["rows", "at"] (defScope s_row_at61) := ⟨rfl, rfl, rfl, by decide +kernel, rfl, by decide +kernel, by decide +kernel⟩
theorem ok_row_at61 (F : FnP K "row_at" s_row_at61 f fd) (B : Bl mg)  : FnOk P w K mg base CX0 1 f fd ["rows", "at"] (LSp K TB0 psp_row_at61) := by
  refine fn_ok (p := fun _ => p_row_at61) F sc_row_at61 rfl rfl (by decide) (fun as Qp Ep h => by obtain ⟨_, _, rfl, _⟩ := h; rfl) (fun cdv A outer s H E Bh Bt Ep hr hx => JSs.nox ?_) hp_row_at61
  exact jss_one (js_ret (je_ifExp (jb_lt (jv 1) (je_cb call_len lc_len (by rfl) B.b_len (by decide +kernel) (ja_cons (jv 0) (ja_nil)))) (je_ix (jv 0) (jv 1) (fun _ _ => rfl)) (je_str)))
abbrev s_paces_in61 : Stmt := topS 27
abbrev N_paces_in61 : List Str := ["row", "paces", "name", "words", "word"]
theorem sc_paces_in61 : FnScope N_paces_in61 ["row"] (defScope s_paces_in61) := ⟨rfl, rfl, rfl, by decide +kernel, rfl, by decide +kernel, by decide +kernel⟩
theorem ok_paces_in61 (F : FnP K "paces_in" s_paces_in61 f fd) (B : Bl mg) (C_number_in63 : Cal P w K mg base CX0 1 "number_in" ["word", "least", "most"] (LSp K TB0 psp_number_in63)) (C_look_paces61 : Cal P w K mg base (L2.CX P w) 3 "look_paces" ["paces"] (LSp K TB0 (psp_look_paces61 cNoBook))) (G_MOST_PACE : ∃ t, mg "MOST_PACE" = some (.int 1000 t)) (K_NoText : mg "NoText" = some (.ref cNoText)) (K_RoadError : mg "RoadError" = some (.ref cRoadError)) (K_Full : mg "Full" = some (.ref cFull)) (K_NoBook : mg "NoBook" = some (.ref cNoBook)) (K_NoMove : mg "NoMove" = some (.ref cNoMove)) (K_NoOrder : mg "NoOrder" = some (.ref cNoOrder)) (K_NoPassing : mg "NoPassing" = some (.ref cNoPassing)) (K_NoRow : mg "NoRow" = some (.ref cNoRow)) (K_NoSpot : mg "NoSpot" = some (.ref cNoSpot)) (K_NoSpots : mg "NoSpots" = some (.ref cNoSpots)) (K_NoWay : mg "NoWay" = some (.ref cNoWay)) (XS_NoBook : PySem.W.exmOne K (.ref cNoBook) (.ref cNoBook) = some true) (TF : ToldG K cNoText cRoadError [cFull, cNoBook, cNoMove, cNoOrder, cNoPassing, cNoRow, cNoSpot, cNoSpots, cNoWay]) (XF : XfC K cNoText) (NO_at : PySem.W.findIn K (.ref cNoText) "at" = some none) : FnOk P w K mg base CX0 4 f fd ["row"] (LSp K TB0 psp_paces_in61) := by
  refine fn_ok (p := fun _ => p_paces_in61 cNoBook) F sc_paces_in61 rfl rfl (by decide) (fun as Qp Ep h => by obtain ⟨_, rfl, _⟩ := h; rfl) (fun cdv A outer s H E Bh Bt Ep hr hx => ?_) (hp_paces_in61 cNoBook)
  exact jss_cons (js_asg (je_split (jv 0) (je_str)) (jg_star rfl (jgs_cons (jg_name (i := 2) sc_paces_in61.nd rfl (by first | exact Or.inl rfl | exact Or.inr rfl)) (jgs_cons (jg_name (i := 3) sc_paces_in61.nd rfl (by first | exact Or.inl rfl | exact Or.inr rfl)) (jgs_nil)))))
    (jss_cons (js_if (jb_ne hr (jv 2) (je_str)) (jss_one (js_ret (je_non))) (jss_nil))
    (jss_cons (js_set (i := 1) sc_paces_in61.nd rfl (by first | exact Or.inl rfl | exact Or.inr rfl) (je_ct call_tuple_of lc_tupleOf (by rfl) B.b_tuple (by decide +kernel) (ja_cons (je_lc (own := [("word", 4)]) rfl sc_paces_in61.nd (ji_seq (jv 3)) (blkOk_by (N := N_paces_in61) (sc := defScope s_paces_in61) (by decide +kernel)) (fun _ _ _ _ _ => jg_name (i := 4) sc_paces_in61.nd rfl (by first | exact Or.inl rfl | exact Or.inr rfl)) (fun _ _ _ _ _ => jts_nil) (fun _ _ _ _ _ => je_cal C_number_in63 hr (by rfl) (ja_cons (je_fz (jv 4)) (ja_cons (je_fz (je_neg (je_gi G_MOST_PACE (by rfl)))) (ja_cons (je_fz (je_gi G_MOST_PACE (by rfl))) (ja_nil)))))) (ja_nil))))
    (jss_cons (js_tryO rfl rfl ⟨rfl, by decide, Or.inl K_NoBook⟩ (catS XS_NoBook) (fun W pn xe tk => psx_expr (jx_call C_look_paces61 hr tk (by rfl) (ja_cons (je_fz (jv 1)) (ja_nil)))) (fun a oe cls d pn hz hf => jss_one (js_ret (je_non))))
    (jss_one (js_ret (jv 1))))))
abbrev s_sorts_in61 : Stmt := topS 28
abbrev N_sorts_in61 : List Str := ["row", "name", "words"]
theorem sc_sorts_in61 : FnScope N_sorts_in61 ["row"] (defScope s_sorts_in61) := ⟨rfl, rfl, rfl, by decide +kernel, rfl, by decide +kernel, by decide +kernel⟩
theorem ok_sorts_in61 (F : FnP K "sorts_in" s_sorts_in61 f fd) (B : Bl mg) (C_number_in63 : Cal P w K mg base CX0 1 "number_in" ["word", "least", "most"] (LSp K TB0 psp_number_in63)) (G_MOST_SORTS : ∃ t, mg "MOST_SORTS" = some (.int 6 t)) : FnOk P w K mg base CX0 2 f fd ["row"] (LSp K TB0 psp_sorts_in61) := by
  refine fn_ok (p := fun _ => p_sorts_in61) F sc_sorts_in61 rfl rfl (by decide) (fun as Qp Ep h => by obtain ⟨_, rfl, _⟩ := h; rfl) (fun cdv A outer s H E Bh Bt Ep hr hx => JSs.nox ?_) hp_sorts_in61
  exact jss_cons (js_asg (je_split (jv 0) (je_str)) (jg_star rfl (jgs_cons (jg_name (i := 1) sc_sorts_in61.nd rfl (by first | exact Or.inl rfl | exact Or.inr rfl)) (jgs_cons (jg_name (i := 2) sc_sorts_in61.nd rfl (by first | exact Or.inl rfl | exact Or.inr rfl)) (jgs_nil)))))
    (jss_cons (js_if (jw_pt (jw_or (jb_ne hr (jv 1) (je_str)) (jw_or1 (jb_ne hr (je_cb call_len lc_len (by rfl) B.b_len (by decide +kernel) (ja_cons (jv 2) (ja_nil))) (je_int))))) (jss_one (js_ret (je_non))) (jss_nil))
    (jss_one (js_ret (je_cal C_number_in63 hr (by rfl) (ja_cons (je_fz (je_ix (jv 2) (je_int) (fun _ _ => rfl))) (ja_cons (je_fz (je_int)) (ja_cons (je_fz (je_gi G_MOST_SORTS (by rfl))) (ja_nil))))))))
abbrev s_pair_in61 : Stmt := topS 30
abbrev N_pair_in61 : List Str := ["words", "sorts", "word"]
theorem sc_pair_in61 : FnScope N_pair_in61 ["words", "sorts"] (defScope s_pair_in61) := ⟨rfl, rfl, rfl, by decide +kernel, rfl, by decide +kernel, by decide +kernel⟩
theorem ok_pair_in61 (F : FnP K "pair_in" s_pair_in61 f fd) (B : Bl mg) (C_number_in63 : Cal P w K mg base CX0 1 "number_in" ["word", "least", "most"] (LSp K TB0 psp_number_in63)) : FnOk P w K mg base CX0 2 f fd ["words", "sorts"] (LSp K TB0 psp_pair_in61) := by
  refine fn_ok (p := fun _ => p_pair_in61) F sc_pair_in61 rfl rfl (by decide) (fun as Qp Ep h => by obtain ⟨_, _, rfl, _⟩ := h; rfl) (fun cdv A outer s H E Bh Bt Ep hr hx => JSs.nox ?_) hp_pair_in61
  exact jss_one (js_ret (je_ct call_tuple_of lc_tupleOf (by rfl) B.b_tuple (by decide +kernel) (ja_cons (je_lc (own := [("word", 2)]) rfl sc_pair_in61.nd (ji_seq (je_split (jv 0) (je_str))) (blkOk_by (N := N_pair_in61) (sc := defScope s_pair_in61) (by decide +kernel)) (fun _ _ _ _ _ => jg_name (i := 2) sc_pair_in61.nd rfl (by first | exact Or.inl rfl | exact Or.inr rfl)) (fun _ _ _ _ _ => jts_nil) (fun _ _ _ _ _ => je_cal C_number_in63 hr (by rfl) (ja_cons (je_fz (jv 2)) (ja_cons (je_fz (je_int)) (ja_cons (je_fz (je_sub (jv 1) (je_int))) (ja_nil)))))) (ja_nil))))
abbrev s_table_in61 : Stmt := topS 29
abbrev N_table_in61 : List Str := ["row", "u", "v", "sorts", "head", "table", "words", "pair"]
theorem sc_table_in61 : FnScope N_table_in61 ["row", "u", "v", "sorts"] (defScope s_table_in61) := ⟨rfl, rfl, rfl, by decide +kernel, rfl, by decide +kernel, by decide +kernel⟩
theorem ok_table_in61 (F : FnP K "table_in" s_table_in61 f fd) (B : Bl mg) (C_pair_in61 : Cal P w K mg base CX0 2 "pair_in" ["words", "sorts"] (LSp K TB0 psp_pair_in61)) (C_is_pair61 : Cal P w K mg base CX0 3 "is_pair" ["thing", "sorts"] (LSp K TB0 psp_is_pair61)) : FnOk P w K mg base CX0 4 f fd ["row", "u", "v", "sorts"] (LSp K TB0 psp_table_in61) := by
  refine fn_ok (p := fun _ => p_table_in61) F sc_table_in61 rfl rfl (by decide) (fun as Qp Ep h => by obtain ⟨_, _, _, rfl, _⟩ := h; rfl) (fun cdv A outer s H E Bh Bt Ep hr hx => JSs.nox ?_) hp_table_in61
  exact jss_cons (js_set (i := 4) sc_table_in61.nd rfl (by first | exact Or.inl rfl | exact Or.inr rfl) (je_fstr (JJ.cons (je_fmt (jv 1)) (JJ.cons (je_str) (JJ.cons (je_fmt (jv 2)) (JJ.cons (je_str) (JJ.nil)))))))
    (jss_cons (js_if (jb_not (jb_val (je_startswith (jv 0) (jv 4)))) (jss_one (js_ret (je_non))) (jss_nil))
    (jss_cons (js_set (i := 5) sc_table_in61.nd rfl (by first | exact Or.inl rfl | exact Or.inr rfl) (je_ct call_tuple_of lc_tupleOf (by rfl) B.b_tuple (by decide +kernel) (ja_cons (je_lc (own := [("words", 6)]) rfl sc_table_in61.nd (ji_seq (je_split (je_removeprefix (jv 0) (jv 4)) (je_str))) (blkOk_by (N := N_table_in61) (sc := defScope s_table_in61) (by decide +kernel)) (fun _ _ _ _ _ => jg_name (i := 6) sc_table_in61.nd rfl (by first | exact Or.inl rfl | exact Or.inr rfl)) (fun _ _ _ _ _ => jts_nil) (fun _ _ _ _ _ => je_cal C_pair_in61 hr (by rfl) (ja_cons (je_fz (jv 6)) (ja_cons (je_fz (jv 3)) (ja_nil))))) (ja_nil))))
    (jss_cons (js_if (jw_pt (jw_or (jb_ne hr (je_cb call_len lc_len (by rfl) B.b_len (by decide +kernel) (ja_cons (jv 5) (ja_nil))) (je_mul (jv 3) (jv 3))) (jw_or1 (jb_not (jb_val (je_cb (cr_all rfl) lc_all (by rfl) B.b_all (by decide +kernel) (ja_cons (je_lc (own := [("pair", 7)]) rfl sc_table_in61.nd (ji_seq (jv 5)) (blkOk_by (N := N_table_in61) (sc := defScope s_table_in61) (by decide +kernel)) (fun _ _ _ _ _ => jg_name (i := 7) sc_table_in61.nd rfl (by first | exact Or.inl rfl | exact Or.inr rfl)) (fun _ _ _ _ _ => jts_nil) (fun _ _ _ _ _ => je_cal C_is_pair61 hr (by rfl) (ja_cons (je_fz (jv 7)) (ja_cons (je_fz (jv 3)) (ja_nil))))) (ja_nil)))))))) (jss_one (js_ret (je_non))) (jss_nil))
    (jss_one (js_ret (jv 5))))))
abbrev s_read_book61 : Stmt := topS 25
abbrev N_read_book61 : List Str := ["text", "rows", "paces", "sorts", "tables", "due", "u", "v", "at", "table"]
theorem sc_read_book61 : FnScope N_read_book61 ["text"] (defScope s_read_book61) := ⟨rfl, rfl, rfl, by decide +kernel, rfl, by decide +kernel, by decide +kernel⟩
theorem ok_read_book61 (F : FnP K "read_book" s_read_book61 f fd) (B : Bl mg) (C_paces_in61 : Cal P w K mg base CX0 4 "paces_in" ["row"] (LSp K TB0 psp_paces_in61)) (C_sorts_in61 : Cal P w K mg base CX0 2 "sorts_in" ["row"] (LSp K TB0 psp_sorts_in61)) (C_row_at61 : Cal P w K mg base CX0 1 "row_at" ["rows", "at"] (LSp K TB0 psp_row_at61)) (C_two_kinds43 : Cal P w K mg base CX0 1 "two_kinds" ["many"] (LSp K TB0 psp_two_kinds43)) (C_table_in61 : Cal P w K mg base CX0 4 "table_in" ["row", "u", "v", "sorts"] (LSp K TB0 psp_table_in61)) (T_NoText : Err1 P w K mg base "NoText" "at" cNoText) : FnOk P w K mg base (L2.CX P w) 5 f fd ["text"] (LSp K TB0 (psp_read_book61 cNoText)) := by
  refine fn_ok (p := fun Ep => p_read_book61 cNoText Ep) F sc_read_book61 rfl rfl (by decide) (fun as Qp Ep h => by obtain ⟨_, rfl, _⟩ := h; rfl) (fun cdv A outer s H E Bh Bt Ep hr hx => ?_) (hp_read_book61 cNoText)
  exact jss_cons (js_set (i := 1) sc_read_book61.nd rfl (by first | exact Or.inl rfl | exact Or.inr rfl) (je_split (jv 0) (je_str)))
    (jss_cons (js_set (i := 2) sc_read_book61.nd rfl (by first | exact Or.inl rfl | exact Or.inr rfl) (je_cal C_paces_in61 hr (by rfl) (ja_cons (je_fz (je_ix (jv 1) (je_int) (fun _ _ => rfl))) (ja_nil))))
    (jss_cons (js_if (jb_is (jv 2) (je_non)) (jss_one (js_rz1 T_NoText hr rfl (takes_of rfl rfl rfl rfl) hx (by rfl) (ja_cons (je_fz (je_int)) (ja_nil)))) (jss_nil))
    (jss_cons (js_set (i := 3) sc_read_book61.nd rfl (by first | exact Or.inl rfl | exact Or.inr rfl) (je_cal C_sorts_in61 hr (by rfl) (ja_cons (je_fz (je_cal C_row_at61 hr (by rfl) (ja_cons (je_fz (jv 1)) (ja_cons (je_fz (je_int)) (ja_nil))))) (ja_nil))))
    (jss_cons (js_if (jb_is (jv 3) (je_non)) (jss_one (js_rz1 T_NoText hr rfl (takes_of rfl rfl rfl rfl) hx (by rfl) (ja_cons (je_fz (je_int)) (ja_nil)))) (jss_nil))
    (jss_cons (js_set (i := 4) sc_read_book61.nd rfl (by first | exact Or.inl rfl | exact Or.inr rfl) (je_lst (ja_nil)))
    (jss_cons (js_for (passes_of rfl) rfl (ji_seq (je_cal C_two_kinds43 hr (by rfl) (ja_cons (je_fz (je_cb call_len lc_len (by rfl) B.b_len (by decide +kernel) (ja_cons (jv 2) (ja_nil)))) (ja_nil)))) (jg_tup rfl (jgs_cons (jg_name (i := 6) sc_read_book61.nd rfl (by first | exact Or.inl rfl | exact Or.inr rfl)) (jgs_cons (jg_name (i := 7) sc_read_book61.nd rfl (by first | exact Or.inl rfl | exact Or.inr rfl)) (jgs_nil)))) (jss_cons (js_set (i := 8) sc_read_book61.nd rfl (by first | exact Or.inl rfl | exact Or.inr rfl) (je_add (je_int) (je_cb call_len lc_len (by rfl) B.b_len (by decide +kernel) (ja_cons (jv 4) (ja_nil)))))
    (jss_cons (js_set (i := 9) sc_read_book61.nd rfl (by first | exact Or.inl rfl | exact Or.inr rfl) (je_cal C_table_in61 hr (by rfl) (ja_cons (je_fz (je_cal C_row_at61 hr (by rfl) (ja_cons (je_fz (jv 1)) (ja_cons (je_fz (jv 8)) (ja_nil))))) (ja_cons (je_fz (jv 6)) (ja_cons (je_fz (jv 7)) (ja_cons (je_fz (jv 3)) (ja_nil)))))))
    (jss_cons (js_if (jb_is (jv 9) (je_non)) (jss_one (js_rz1 T_NoText hr rfl (takes_of rfl rfl rfl rfl) hx (by rfl) (ja_cons (je_fz (jv 8)) (ja_nil)))) (jss_nil))
    (jss_one (js_expr (je_mt PySem.F.plainAttrs_list PySem.F.slot_list_append PySem.F.type_list_append mt_append mv_append (jv 4) (ja_cons (jv 9) (ja_nil)))))))))
    (jss_cons (js_set (i := 5) sc_read_book61.nd rfl (by first | exact Or.inl rfl | exact Or.inr rfl) (je_add (je_int) (je_cb call_len lc_len (by rfl) B.b_len (by decide +kernel) (ja_cons (jv 4) (ja_nil)))))
    (jss_cons (js_if (jb_gt (je_cb call_len lc_len (by rfl) B.b_len (by decide +kernel) (ja_cons (jv 1) (ja_nil))) (jv 5)) (jss_one (js_rz1 T_NoText hr rfl (takes_of rfl rfl rfl rfl) hx (by rfl) (ja_cons (je_fz (jv 5)) (ja_nil)))) (jss_nil))
    (jss_one (js_ret (je_tup (ja_cons (jv 2) (ja_cons (jv 3) (ja_cons (je_ct call_tuple_of lc_tupleOf (by rfl) B.b_tuple (by decide +kernel) (ja_cons (jv 4) (ja_nil))) (ja_nil)))))))))))))))
abbrev s_lbrows : Stmt := topS 44
abbrev N_lbrows : List Str := ["_law_book_here", "_law_rows", "_law_n", "_law_u", "_law_swift", "_law_size", "_law_tables", "_law_v", "_law_both", "_law_pace", "_law_c", "_law_d"]
theorem sc_lbrows : FnScope N_lbrows ["_law_book_here"] (defScope s_lbrows) := ⟨rfl, rfl, rfl, by decide +kernel, rfl, by decide +kernel, by decide +kernel⟩
theorem ok_lbrows (F : FnP K "_law_book_rows" s_lbrows f fd) (B : Bl mg)  : FnOk P w K mg base CX0 1 f fd ["_law_book_here"] (LSp K TB0 psp_lbrows) := by
  refine fn_ok (p := fun _ => p_lbrows) F sc_lbrows rfl rfl (by decide) (fun as Qp Ep h => by obtain ⟨_, _, rfl, _⟩ := h; rfl) (fun cdv A outer s H E Bh Bt Ep hr hx => JSs.nox ?_) hp_lbrows
  exact jss_cons (js_asg (jv 0) (jg_tup rfl (jgs_cons (jg_name (i := 4) sc_lbrows.nd rfl (by first | exact Or.inl rfl | exact Or.inr rfl)) (jgs_cons (jg_name (i := 5) sc_lbrows.nd rfl (by first | exact Or.inl rfl | exact Or.inr rfl)) (jgs_cons (jg_name (i := 6) sc_lbrows.nd rfl (by first | exact Or.inl rfl | exact Or.inr rfl)) (jgs_nil))))))
    (jss_cons (js_set (i := 1) sc_lbrows.nd rfl (by first | exact Or.inl rfl | exact Or.inr rfl) (je_lst (ja_cons (je_add (je_str) (je_join (je_str) (je_lc (own := [("_law_pace", 9)]) rfl sc_lbrows.nd (ji_seq (jv 4)) (blkOk_by (N := N_lbrows) (sc := defScope s_lbrows) (by decide +kernel)) (fun _ _ _ _ _ => jg_name (i := 9) sc_lbrows.nd rfl (by first | exact Or.inl rfl | exact Or.inr rfl)) (fun _ _ _ _ _ => jts_nil) (fun _ _ _ _ _ => je_ct call_str_int lc_strI (by rfl) B.b_str (by decide +kernel) (ja_cons (jv 9) (ja_nil)))))) (ja_cons (je_add (je_str) (je_ct call_str_int lc_strI (by rfl) B.b_str (by decide +kernel) (ja_cons (jv 5) (ja_nil)))) (ja_nil)))))
    (jss_cons (js_set (i := 2) sc_lbrows.nd rfl (by first | exact Or.inl rfl | exact Or.inr rfl) (je_int))
    (jss_cons (js_for PassesOwn.never rfl (ji_rng1 (by rfl) B.b_range (ja_cons (je_cb call_len lc_len (by rfl) B.b_len (by decide +kernel) (ja_cons (jv 4) (ja_nil))) (ja_nil))) (jg_name (i := 3) sc_lbrows.nd rfl (by first | exact Or.inl rfl | exact Or.inr rfl)) (jss_one (js_for PassesOwn.never rfl (ji_rng1 (by rfl) B.b_range (ja_cons (jv 3) (ja_nil))) (jg_name (i := 7) sc_lbrows.nd rfl (by first | exact Or.inl rfl | exact Or.inr rfl)) (jss_cons (js_setLc (i := 8) (own := [("_law_c", 10), ("_law_d", 11)]) rfl sc_lbrows.nd rfl rfl (sw_true rfl rfl rfl (by decide +kernel)) (ji_seq (je_ix (jv 6) (jv 2) (fun _ _ => rfl))) (blkOk_by (N := N_lbrows) (sc := defScope s_lbrows) (by decide +kernel)) (fun _ _ _ _ _ => jg_tup rfl (jgs_cons (jg_name (i := 10) sc_lbrows.nd rfl (by first | exact Or.inl rfl | exact Or.inr rfl)) (jgs_cons (jg_name (i := 11) sc_lbrows.nd rfl (by first | exact Or.inl rfl | exact Or.inr rfl)) (jgs_nil)))) (fun _ _ _ _ _ => jts_nil) (fun _ _ _ _ _ => je_add (je_add (je_ct call_str_int lc_strI (by rfl) B.b_str (by decide +kernel) (ja_cons (jv 10) (ja_nil))) (je_str)) (je_ct call_str_int lc_strI (by rfl) B.b_str (by decide +kernel) (ja_cons (jv 11) (ja_nil)))))
    (jss_cons (js_expr (je_mt PySem.F.plainAttrs_list PySem.F.slot_list_append PySem.F.type_list_append mt_append mv_append (jv 1) (ja_cons (je_add (je_add (je_add (je_add (je_ct call_str_int lc_strI (by rfl) B.b_str (by decide +kernel) (ja_cons (jv 3) (ja_nil))) (je_str)) (je_ct call_str_int lc_strI (by rfl) B.b_str (by decide +kernel) (ja_cons (jv 7) (ja_nil)))) (je_str)) (je_join (je_str) (jv 8))) (ja_nil))))
    (jss_one (js_set (i := 2) sc_lbrows.nd rfl (by first | exact Or.inl rfl | exact Or.inr rfl) (je_add (jv 2) (je_int)))))))))
    (jss_one (js_ret (jv 1))))))
abbrev s_lnum : Stmt := topS 45
abbrev N_lnum : List Str := ["_law_word", "_law_sign"]
theorem sc_lnum : FnScope N_lnum ["_law_word"] (defScope s_lnum) := ⟨rfl, rfl, rfl, by decide +kernel, rfl, by decide +kernel, by decide +kernel⟩
theorem ok_lnum (F : FnP K "_law_number" s_lnum f fd) (B : Bl mg)  : FnOk P w K mg base CX0 1 f fd ["_law_word"] (LSp K TB0 psp_lnum) := by
  refine fn_ok (p := fun _ => p_lnum) F sc_lnum rfl rfl (by decide) (fun as Qp Ep h => by obtain ⟨_, rfl, _⟩ := h; rfl) (fun cdv A outer s H E Bh Bt Ep hr hx => JSs.nox ?_) hp_lnum
  exact jss_cons (js_if (jw_pt (jw_or (jb_not (jb_chain op_le op_le lc_le lc_le (je_int) (je_cb call_len lc_len (by rfl) B.b_len (by decide +kernel) (ja_cons (jv 0) (ja_nil))) (je_int))) (jw_or1 (jb_ne hr (je_lc (own := [("_law_sign", 1)]) rfl sc_lnum.nd (ji_str (jv 0)) (blkOk_by (N := N_lnum) (sc := defScope s_lnum) (by decide +kernel)) (fun _ _ _ _ _ => jg_name (i := 1) sc_lnum.nd rfl (by first | exact Or.inl rfl | exact Or.inr rfl)) (fun _ _ _ _ _ => jts_one (jb_cmp op_notIn_sign lc_notInSg (jv 1) (je_str) (by rfl))) (fun _ _ _ _ _ => jv 1)) (je_lst (ja_nil)))))) (jss_one (js_ret (je_non))) (jss_nil))
    (jss_one (js_ret (je_ifExp (jb_eq hr (jv 0) (je_ct call_str_int lc_strI (by rfl) B.b_str (by decide +kernel) (ja_cons (je_ct call_int_str lc_intT (by rfl) B.b_int (by decide +kernel) (ja_cons (jv 0) (ja_nil))) (ja_nil)))) (je_ct call_int_str lc_intT (by rfl) B.b_int (by decide +kernel) (ja_cons (jv 0) (ja_nil))) (je_non))))
abbrev s_lwhl : Stmt := topS 46
abbrev N_lwhl : List Str := ["_law_word", "_law_number_here"]
theorem sc_lwhl : FnScope N_lwhl ["_law_word"] (defScope s_lwhl) := ⟨rfl, rfl, rfl, by decide +kernel, rfl, by decide +kernel, by decide +kernel⟩
theorem ok_lwhl (F : FnP K "_law_whole" s_lwhl f fd) (B : Bl mg) (C_lnum : Cal P w K mg base CX0 1 "_law_number" ["_law_word"] (LSp K TB0 psp_lnum)) : FnOk P w K mg base CX0 2 f fd ["_law_word"] (LSp K TB0 psp_lwhl) := by
  refine fn_ok (p := fun _ => p_lwhl) F sc_lwhl rfl rfl (by decide) (fun as Qp Ep h => by obtain ⟨_, rfl, _⟩ := h; rfl) (fun cdv A outer s H E Bh Bt Ep hr hx => JSs.nox ?_) hp_lwhl
  exact jss_cons (js_if (jb_ne hr (je_slS (jv 0) (jo_none) (jo_some (je_int))) (je_str)) (jss_one (js_ret (je_cal C_lnum hr (by rfl) (ja_cons (je_fz (jv 0)) (ja_nil))))) (jss_nil))
    (jss_cons (js_set (i := 1) sc_lwhl.nd rfl (by first | exact Or.inl rfl | exact Or.inr rfl) (je_cal C_lnum hr (by rfl) (ja_cons (je_fz (je_slS (jv 0) (jo_some (je_int)) (jo_none))) (ja_nil))))
    (jss_one (js_ret (je_ifExp (jw_pt (jw_or (jb_is (jv 1) (je_non)) (jw_or1 (jb_eq hr (jv 1) (je_int))))) (je_non) (je_sub (je_int) (jv 1))))))
abbrev s_lref : Stmt := topS 47
theorem sc_lref : FnScope ["_law_e"] ["_law_e"] (defScope s_lref) := ⟨rfl, rfl, rfl, by decide +kernel, rfl, by decide +kernel, by decide +kernel⟩
theorem ok_lref (F : FnP K "_law_text_refusal" s_lref f fd) (B : Bl mg) (K_NoText : mg "NoText" = some (.ref cNoText)) (K_Full : mg "Full" = some (.ref cFull)) (K_NoBook : mg "NoBook" = some (.ref cNoBook)) (K_NoMove : mg "NoMove" = some (.ref cNoMove)) (K_NoOrder : mg "NoOrder" = some (.ref cNoOrder)) (K_NoPassing : mg "NoPassing" = some (.ref cNoPassing)) (K_NoRow : mg "NoRow" = some (.ref cNoRow)) (K_NoSpot : mg "NoSpot" = some (.ref cNoSpot)) (K_NoSpots : mg "NoSpots" = some (.ref cNoSpots)) (K_NoWay : mg "NoWay" = some (.ref cNoWay)) (TF : ToldG K cNoText cRoadError [cFull, cNoBook, cNoMove, cNoOrder, cNoPassing, cNoRow, cNoSpot, cNoSpots, cNoWay]) (TV_ValueError : PySem.W.kitOne K (.ref cNoText) (.type "ValueError") = some true) (XF : XfC K cNoText) (NO_at : PySem.W.findIn K (.ref cNoText) "at" = some none) : FnE P w K mg base 1 f fd ["_law_e"] (ESp K TB0 (ansRef cNoText) base) :=
  err_body (pr := p_lref cNoText) F sc_lref (fun cdv A outer s H E Bh Bt a oe cls d pp hbs hz hf => JSs.nox (jss_cons (js_if (jb_val (je_isXTb hbs hz hf (sb_two TF) (clsV_all _) (by rfl) B.b_isinstance (pv 0) (pe_tup (pa_cons (pe_glob (v := .ref cFull) (by rfl) K_Full rfl) (pa_cons (pe_glob (v := .ref cNoBook) (by rfl) K_NoBook rfl) (pa_cons (pe_glob (v := .ref cNoMove) (by rfl) K_NoMove rfl) (pa_cons (pe_glob (v := .ref cNoOrder) (by rfl) K_NoOrder rfl) (pa_cons (pe_glob (v := .ref cNoPassing) (by rfl) K_NoPassing rfl) (pa_cons (pe_glob (v := .ref cNoRow) (by rfl) K_NoRow rfl) (pa_cons (pe_glob (v := .ref cNoSpot) (by rfl) K_NoSpot rfl) (pa_cons (pe_glob (v := .ref cNoSpots) (by rfl) K_NoSpots rfl) (pa_cons (pe_glob (v := .ref cNoWay) (by rfl) K_NoWay rfl) (pa_nil))))))))))) (by show 9 ≤ sizeLine; decide))) (jss_one (js_ret (je_tup (ja_cons (je_str) (ja_cons (je_int) (ja_nil)))))) (jss_nil))
    (jss_cons (js_if (jw_pt (jw_or (jb_not (jb_val (je_isXb hbs hz hf (sb_one TF) (.own _) (by rfl) B.b_isinstance (pv 0) (pe_glob (v := .ref cNoText) (by rfl) K_NoText rfl)))) (jw_or1 (jb_not (jb_val (je_isXb hbs hz hf (sb_blt TF.is_ TV_ValueError) (.ty _) (by rfl) B.b_isinstance (pv 0) (pe_bltn (v := .ty "ValueError") (by rfl) B.b_ValueError (by decide +kernel) rfl))))))) (jss_one (js_ret (je_tup (ja_cons (je_str) (ja_cons (je_int) (ja_nil)))))) (jss_nil))
    (jss_one (js_ret (je_tup (ja_cons (je_str) (ja_cons (je_xfb hbs XF NO_at hz hf (pv 0)) (ja_nil))))))))) (hp_lref cNoText)
abbrev s_lchg : Stmt := topS 48
abbrev N_lchg : List Str := ["_law_deal_here", "_law_some", "_law_other", "_law_form", "_law_wide", "_law_at", "_law_to", "_law_one", "_law_two"]
theorem sc_lchg : FnScope N_lchg ["_law_deal_here", "_law_some", "_law_other"] (defScope s_lchg) := ⟨rfl, rfl, rfl, by decide +kernel, rfl, by decide +kernel, by decide +kernel⟩
theorem ok_lchg (F : FnP K "_law_changed" s_lchg f fd) (B : Bl mg) (C_draw : Cal P w K mg base CX0 1 "_law_draw" ["_law_deal_here", "_law_many"] (LSp K TB0 psp_draw)) : FnOk P w K mg base CX0 2 f fd ["_law_deal_here", "_law_some", "_law_other"] (LSp K TB0 psp_lchg) := by
  refine fn_ok (p := fun _ => p_lchg) F sc_lchg rfl rfl (by decide) (fun as Qp Ep h => by obtain ⟨_, _, rfl, _⟩ := h; rfl) (fun cdv A outer s H E Bh Bt Ep hr hx => JSs.nox ?_) hp_lchg
  exact jss_cons (js_par2 rfl sc_lchg.nd rfl rfl (by decide) rfl rfl (ja_cons (je_cal C_draw hr (by rfl) (ja_cons (jv 0) (ja_cons (je_fz (je_int)) (ja_nil)))) (ja_cons (je_cb (call_max2 rfl) lc_max2 (by rfl) B.b_max (by decide +kernel) (ja_cons (je_int) (ja_cons (je_cb call_len lc_len (by rfl) B.b_len (by decide +kernel) (ja_cons (jv 1) (ja_nil))) (ja_nil)))) (ja_nil))) (by rfl))
    (jss_cons (js_par2 rfl sc_lchg.nd rfl rfl (by decide) rfl rfl (ja_cons (je_cal C_draw hr (by rfl) (ja_cons (jv 0) (ja_cons (je_fz (jv 4)) (ja_nil)))) (ja_cons (je_cal C_draw hr (by rfl) (ja_cons (jv 0) (ja_cons (je_fz (jv 4)) (ja_nil)))) (ja_nil))) (by rfl))
    (jss_cons (js_if (jb_eq hr (jv 3) (je_int)) (jss_one (js_ret (je_add (je_slice (jv 1) (jo_none) (jo_some (jv 5))) (je_slice (jv 1) (jo_some (je_add (jv 5) (je_int))) (jo_none))))) (jss_nil))
    (jss_cons (js_if (jb_eq hr (jv 3) (je_int)) (jss_one (js_ret (je_add (je_add (je_slice (jv 1) (jo_none) (jo_some (jv 6))) (je_slice (jv 1) (jo_some (jv 5)) (jo_some (je_add (jv 5) (je_int))))) (je_slice (jv 1) (jo_some (jv 6)) (jo_none))))) (jss_nil))
    (jss_cons (js_if (jb_eq hr (jv 3) (je_int)) (jss_cons (js_set (i := 1) sc_lchg.nd rfl (by first | exact Or.inl rfl | exact Or.inr rfl) (je_ct call_list_of lc_listOf (by rfl) B.b_list (by decide +kernel) (ja_cons (jv 1) (ja_nil))))
    (jss_cons (js_par2 rfl sc_lchg.nd rfl rfl (by decide) rfl rfl (ja_cons (je_slice (jv 1) (jo_some (jv 5)) (jo_some (je_add (jv 5) (je_int)))) (ja_cons (je_slice (jv 1) (jo_some (jv 6)) (jo_some (je_add (jv 6) (je_int)))) (ja_nil))) (by rfl))
    (jss_cons (js_slAsg (pv 1) (pv 8) (jo_some (jv 5)) (jo_some (je_add (jv 5) (je_int))))
    (jss_cons (js_slAsg (pv 1) (pv 7) (jo_some (jv 6)) (jo_some (je_add (jv 6) (je_int))))
    (jss_one (js_ret (jv 1))))))) (jss_nil))
    (jss_one (js_ret (je_add (je_add (je_slice (jv 1) (jo_none) (jo_some (jv 5))) (je_lst (ja_cons (jv 2) (ja_nil)))) (je_slice (jv 1) (jo_some (je_add (jv 5) (je_ct call_int1 lc_int1 (by rfl) B.b_int (by decide +kernel) (ja_cons (je_eq hr (jv 3) (je_int)) (ja_nil))))) (jo_none)))))))))
abbrev s_lsigns : Stmt := topS 49
abbrev N_lsigns : List Str := []
theorem sc_lsigns : FnScope N_lsigns [] (defScope s_lsigns) := ⟨rfl, rfl, rfl, by decide +kernel, rfl, by decide +kernel, by decide +kernel⟩
theorem ok_lsigns (F : FnP K "_law_signs" s_lsigns f fd) (B : Bl mg)  : FnOk P w K mg base CX0 1 f fd [] (LSp K TB0 psp_lsigns) := by
  refine fn_ok (p := fun _ => p_lsigns) F sc_lsigns rfl rfl (by decide) (fun as Qp Ep h => by obtain ⟨rfl, _⟩ := h; rfl) (fun cdv A outer s H E Bh Bt Ep hr hx => JSs.nox ?_) hp_lsigns
  exact jss_one (js_ret (je_str))
abbrev s_lspoilt : Stmt := topS 50
abbrev N_lspoilt : List Str := ["_law_deal_here", "_law_text", "_law_words", "_law_at", "_law_rows", "_law_form", "_law_more", "_law_other", "_law_signs_here", "_law_sign"]
theorem sc_lspoilt : FnScope N_lspoilt ["_law_deal_here", "_law_text", "_law_words"] (defScope s_lspoilt) := ⟨rfl, rfl, rfl, by decide +kernel, rfl, by decide +kernel, by decide +kernel⟩
theorem ok_lspoilt (F : FnP K "_law_spoilt_text" s_lspoilt f fd) (B : Bl mg) (C_draw : Cal P w K mg base CX0 1 "_law_draw" ["_law_deal_here", "_law_many"] (LSp K TB0 psp_draw)) (C_lchg : Cal P w K mg base CX0 2 "_law_changed" ["_law_deal_here", "_law_some", "_law_other"] (LSp K TB0 psp_lchg)) (C_lsigns : Cal P w K mg base CX0 1 "_law_signs" [] (LSp K TB0 psp_lsigns)) : FnOk P w K mg base CX0 3 f fd ["_law_deal_here", "_law_text", "_law_words"] (LSp K TB0 psp_lspoilt) := by
  refine fn_ok (p := fun _ => p_lspoilt) F sc_lspoilt rfl rfl (by decide) (fun as Qp Ep h => by obtain ⟨_, _, rfl, _⟩ := h; rfl) (fun cdv A outer s H E Bh Bt Ep hr hx => JSs.nox ?_) hp_lspoilt
  exact jss_cons (js_par2 rfl sc_lspoilt.nd rfl rfl (by decide) rfl rfl (ja_cons (je_split (jv 1) (je_str)) (ja_cons (je_cal C_draw hr (by rfl) (ja_cons (jv 0) (ja_cons (je_fz (je_int)) (ja_nil)))) (ja_nil))) (by rfl))
    (jss_cons (js_if (jb_eq hr (jv 5) (je_int)) (jss_cons (js_set (i := 6) sc_lspoilt.nd rfl (by first | exact Or.inl rfl | exact Or.inr rfl) (je_lst (ja_cons (je_str) (ja_cons (je_str) (ja_cons (je_str) (ja_cons (je_str) (ja_cons (je_str) (ja_cons (je_str) (ja_nil)))))))))
    (jss_one (js_ret (je_join (je_str) (je_cal C_lchg hr (by rfl) (ja_cons (jv 0) (ja_cons (je_fz (jv 4)) (ja_cons (je_fz (je_ix (jv 6) (je_cal C_draw hr (by rfl) (ja_cons (jv 0) (ja_cons (je_fz (je_int)) (ja_nil)))) (fun _ _ => rfl))) (ja_nil))))))))) (jss_nil))
    (jss_cons (js_set (i := 3) sc_lspoilt.nd rfl (by first | exact Or.inl rfl | exact Or.inr rfl) (je_cal C_draw hr (by rfl) (ja_cons (jv 0) (ja_cons (je_fz (je_cb call_len lc_len (by rfl) B.b_len (by decide +kernel) (ja_cons (jv 4) (ja_nil)))) (ja_nil)))))
    (jss_cons (js_if (jb_lt (jv 5) (je_int)) (jss_cons (js_set (i := 7) sc_lspoilt.nd rfl (by first | exact Or.inl rfl | exact Or.inr rfl) (je_ix (jv 2) (je_cal C_draw hr (by rfl) (ja_cons (jv 0) (ja_cons (je_fz (je_cb call_len lc_len (by rfl) B.b_len (by decide +kernel) (ja_cons (jv 2) (ja_nil)))) (ja_nil)))) (fun _ _ => rfl)))
    (jss_one (js_asg (je_join (je_str) (je_cal C_lchg hr (by rfl) (ja_cons (jv 0) (ja_cons (je_fz (je_split (je_ix (jv 4) (jv 3) (fun _ _ => rfl)) (je_str))) (ja_cons (je_fz (jv 7)) (ja_nil)))))) (jg_sub (jv 4) (jv 3))))) (jss_cons (js_set (i := 8) sc_lspoilt.nd rfl (by first | exact Or.inl rfl | exact Or.inr rfl) (je_ix (je_lst (ja_cons (je_str) (ja_cons (je_cal0 C_lsigns hr (by rfl)) (ja_nil)))) (je_ct call_int1 lc_int1 (by rfl) B.b_int (by decide +kernel) (ja_cons (je_eq hr (je_cal C_draw hr (by rfl) (ja_cons (jv 0) (ja_cons (je_fz (je_int)) (ja_nil)))) (je_int)) (ja_nil))) (fun _ _ => rfl)))
    (jss_cons (js_set (i := 9) sc_lspoilt.nd rfl (by first | exact Or.inl rfl | exact Or.inr rfl) (je_ixS (jv 8) (je_cal C_draw hr (by rfl) (ja_cons (jv 0) (ja_cons (je_fz (je_cb call_len lc_len (by rfl) B.b_len (by decide +kernel) (ja_cons (jv 8) (ja_nil)))) (ja_nil)))) (fun _ _ => rfl)))
    (jss_one (js_asg (je_join (je_str) (je_cal C_lchg hr (by rfl) (ja_cons (jv 0) (ja_cons (je_fz (je_ct (call_listS rfl) lc_listS (by rfl) B.b_list (by decide +kernel) (ja_cons (je_ix (jv 4) (jv 3) (fun _ _ => rfl)) (ja_nil)))) (ja_cons (je_fz (jv 9)) (ja_nil)))))) (jg_sub (jv 4) (jv 3)))))))
    (jss_one (js_ret (je_join (je_str) (jv 4)))))))
abbrev s_lpread : Stmt := topS 51
abbrev N_lpread : List Str := ["_law_words", "_law_found", "_law_falls", "_law_word", "_law_k", "_law_pace"]
theorem sc_lpread : FnScope N_lpread ["_law_words"] (defScope s_lpread) := ⟨rfl, rfl, rfl, by decide +kernel, rfl, by decide +kernel, by decide +kernel⟩
theorem ok_lpread (F : FnP K "_law_paces_read" s_lpread f fd) (B : Bl mg) (C_lwhl : Cal P w K mg base CX0 2 "_law_whole" ["_law_word"] (LSp K TB0 psp_lwhl)) : FnOk P w K mg base CX0 3 f fd ["_law_words"] (LSp K TB0 psp_lpread) := by
  refine fn_ok (p := fun _ => p_lpread) F sc_lpread rfl rfl (by decide) (fun as Qp Ep h => by obtain ⟨_, rfl, _⟩ := h; rfl) (fun cdv A outer s H E Bh Bt Ep hr hx => JSs.nox ?_) hp_lpread
  exact jss_cons (js_set (i := 1) sc_lpread.nd rfl (by first | exact Or.inl rfl | exact Or.inr rfl) (je_lc (own := [("_law_word", 3)]) rfl sc_lpread.nd (ji_seq (je_slice (jv 0) (jo_some (je_int)) (jo_none))) (blkOk_by (N := N_lpread) (sc := defScope s_lpread) (by decide +kernel)) (fun _ _ _ _ _ => jg_name (i := 3) sc_lpread.nd rfl (by first | exact Or.inl rfl | exact Or.inr rfl)) (fun _ _ _ _ _ => jts_nil) (fun _ _ _ _ _ => je_cal C_lwhl hr (by rfl) (ja_cons (je_fz (jv 3)) (ja_nil)))))
    (jss_cons (js_if (jw_pt (jw_or (jb_ne hr (je_ix (jv 0) (je_int) (fun _ _ => rfl)) (je_str)) (jw_or (jb_not (jb_chain op_le op_le lc_le lc_le (je_int) (je_cb call_len lc_len (by rfl) B.b_len (by decide +kernel) (ja_cons (jv 1) (ja_nil))) (je_int))) (jw_or1 (jb_cmp (op_inD hr.units1) lc_in (je_non) (jv 1) (by rfl)))))) (jss_one (js_ret (je_non))) (jss_nil))
    (jss_cons (js_if (jb_ne hr (je_lc (own := [("_law_pace", 5)]) rfl sc_lpread.nd (ji_seq (jv 1)) (blkOk_by (N := N_lpread) (sc := defScope s_lpread) (by decide +kernel)) (fun _ _ _ _ _ => jg_name (i := 5) sc_lpread.nd rfl (by first | exact Or.inl rfl | exact Or.inr rfl)) (fun _ _ _ _ _ => jts_one (jb_gt (je_cb call_abs lc_abs (by rfl) B.b_abs (by decide +kernel) (ja_cons (jv 5) (ja_nil))) (je_int))) (fun _ _ _ _ _ => jv 5)) (je_lst (ja_nil))) (jss_one (js_ret (je_non))) (jss_nil))
    (jss_cons (js_setLc (i := 2) (own := [("_law_k", 4)]) rfl sc_lpread.nd rfl rfl (sw_true rfl rfl rfl (by decide +kernel)) (ji_rng2 (by rfl) B.b_range (ja_cons (je_int) (ja_cons (je_cb call_len lc_len (by rfl) B.b_len (by decide +kernel) (ja_cons (jv 1) (ja_nil))) (ja_nil)))) (blkOk_by (N := N_lpread) (sc := defScope s_lpread) (by decide +kernel)) (fun _ _ _ _ _ => jg_name (i := 4) sc_lpread.nd rfl (by first | exact Or.inl rfl | exact Or.inr rfl)) (fun _ _ _ _ _ => jts_one (jb_ge (je_ix (jv 1) (je_sub (jv 4) (je_int)) (fun _ _ => rfl)) (je_ix (jv 1) (jv 4) (fun _ _ => rfl)))) (fun _ _ _ _ _ => jv 4))
    (jss_one (js_ret (je_ifExp (jb_eq hr (jv 2) (je_lst (ja_nil))) (je_ct call_tuple_of lc_tupleOf (by rfl) B.b_tuple (by decide +kernel) (ja_cons (jv 1) (ja_nil))) (je_non)))))))
abbrev s_ltread : Stmt := topS 52
abbrev N_ltread : List Str := ["_law_words", "_law_u", "_law_v", "_law_size", "_law_n", "_law_due", "_law_found", "_law_place", "_law_word", "_law_burden"]
theorem sc_ltread : FnScope N_ltread ["_law_words", "_law_u", "_law_v", "_law_size"] (defScope s_ltread) := ⟨rfl, rfl, rfl, by decide +kernel, rfl, by decide +kernel, by decide +kernel⟩
theorem ok_ltread (F : FnP K "_law_table_read" s_ltread f fd) (B : Bl mg) (C_lnum : Cal P w K mg base CX0 1 "_law_number" ["_law_word"] (LSp K TB0 psp_lnum)) : FnOk P w K mg base CX0 2 f fd ["_law_words", "_law_u", "_law_v", "_law_size"] (LSp K TB0 psp_ltread) := by
  refine fn_ok (p := fun _ => p_ltread) F sc_ltread rfl rfl (by decide) (fun as Qp Ep h => by obtain ⟨_, _, _, rfl, _⟩ := h; rfl) (fun cdv A outer s H E Bh Bt Ep hr hx => JSs.nox ?_) hp_ltread
  exact jss_cons (js_parT (xs := []) (is := [5, 6]) (ja_cons (je_lst (ja_cons (je_ct call_str_int lc_strI (by rfl) B.b_str (by decide +kernel) (ja_cons (jv 1) (ja_nil))) (ja_cons (je_ct call_str_int lc_strI (by rfl) B.b_str (by decide +kernel) (ja_cons (jv 2) (ja_nil))) (ja_nil)))) (ja_cons (je_lst (ja_nil)) (ja_nil))) (pg_tup rfl (pgs_cons (pg_name (i := 5) sc_ltread.nd rfl (by first | exact Or.inl rfl | exact Or.inr rfl)) (pgs_cons (pg_name (i := 6) sc_ltread.nd rfl (by first | exact Or.inl rfl | exact Or.inr rfl)) (pgs_nil)))) (par_goS (par_goS (par_go0))))
    (jss_cons (js_for PassesOwn.never rfl (ji_rng1 (by rfl) B.b_range (ja_cons (je_mul (jv 3) (jv 3)) (ja_nil))) (jg_name (i := 4) sc_ltread.nd rfl (by first | exact Or.inl rfl | exact Or.inr rfl)) (jss_cons (js_expr (je_mt PySem.F.plainAttrs_list PySem.F.slot_list_append PySem.F.type_list_append mt_append mv_append (jv 5) (ja_cons (je_ifExp (jb_eq hr (jv 4) (je_int)) (je_str) (je_str)) (ja_nil))))
    (jss_one (js_for PassesOwn.never rfl (ji_rng1 (by rfl) B.b_range (ja_cons (je_int) (ja_nil))) (jg_name (i := 7) sc_ltread.nd rfl (by first | exact Or.inl rfl | exact Or.inr rfl)) (jss_cons (js_set (i := 8) sc_ltread.nd rfl (by first | exact Or.inl rfl | exact Or.inr rfl) (je_ix (je_add (jv 0) (je_lst (ja_cons (je_str) (ja_nil)))) (je_cb (call_min2 rfl) lc_min2 (by rfl) B.b_min (by decide +kernel) (ja_cons (je_cb call_len lc_len (by rfl) B.b_len (by decide +kernel) (ja_cons (jv 5) (ja_nil))) (ja_cons (je_cb call_len lc_len (by rfl) B.b_len (by decide +kernel) (ja_cons (jv 0) (ja_nil))) (ja_nil)))) (fun _ _ => rfl)))
    (jss_cons (js_expr (je_mt PySem.F.plainAttrs_list PySem.F.slot_list_append PySem.F.type_list_append mt_append mv_append (jv 6) (ja_cons (je_cal C_lnum hr (by rfl) (ja_cons (je_fz (jv 8)) (ja_nil))) (ja_nil))))
    (jss_one (js_expr (je_mt PySem.F.plainAttrs_list PySem.F.slot_list_append PySem.F.type_list_append mt_append mv_append (jv 5) (ja_cons (jv 8) (ja_nil)))))))))))
    (jss_cons (js_if (jw_pt (jw_or (jb_ne hr (jv 0) (jv 5)) (jw_or1 (jb_ne hr (je_lc (own := [("_law_burden", 9)]) rfl sc_ltread.nd (ji_seq (jv 6)) (blkOk_by (N := N_ltread) (sc := defScope s_ltread) (by decide +kernel)) (fun _ _ _ _ _ => jg_name (i := 9) sc_ltread.nd rfl (by first | exact Or.inl rfl | exact Or.inr rfl)) (fun _ _ _ _ _ => jts_one (jw_pt (jw_or (jb_is (jv 9) (je_non)) (jw_or1 (jb_ge (jv 9) (jv 3)))))) (fun _ _ _ _ _ => jv 9)) (je_lst (ja_nil)))))) (jss_one (js_ret (je_non))) (jss_nil))
    (jss_one (js_ret (je_ct call_tuple_of lc_tupleOf (by rfl) B.b_tuple (by decide +kernel) (ja_cons (je_lc (own := [("_law_n", 4)]) rfl sc_ltread.nd (ji_rng1 (by rfl) B.b_range (ja_cons (je_mul (jv 3) (jv 3)) (ja_nil))) (blkOk_by (N := N_ltread) (sc := defScope s_ltread) (by decide +kernel)) (fun _ _ _ _ _ => jg_name (i := 4) sc_ltread.nd rfl (by first | exact Or.inl rfl | exact Or.inr rfl)) (fun _ _ _ _ _ => jts_nil) (fun _ _ _ _ _ => je_tup (ja_cons (je_ix (jv 6) (je_mul (je_int) (jv 4)) (fun _ _ => rfl)) (ja_cons (je_ix (jv 6) (je_add (je_mul (je_int) (jv 4)) (je_int)) (fun _ _ => rfl)) (ja_nil))))) (ja_nil)))))))
abbrev s_lread61 : Stmt := topS 53
abbrev N_lread61 : List Str := ["_law_text", "_law_swift", "_law_u", "_law_rows", "_law_size", "_law_tables", "_law_at", "_law_v", "_law_row"]
theorem sc_lread61 : FnScope N_lread61 ["_law_text"] (defScope s_lread61) := ⟨rfl, rfl, rfl, by decide +kernel, rfl, by decide +kernel, by decide +kernel⟩
theorem ok_lread61 (F : FnP K "_law_read" s_lread61 f fd) (B : Bl mg) (C_lpread : Cal P w K mg base CX0 3 "_law_paces_read" ["_law_words"] (LSp K TB0 psp_lpread)) (C_lnum : Cal P w K mg base CX0 1 "_law_number" ["_law_word"] (LSp K TB0 psp_lnum)) (C_ltread : Cal P w K mg base CX0 2 "_law_table_read" ["_law_words", "_law_u", "_law_v", "_law_size"] (LSp K TB0 psp_ltread)) : FnOk P w K mg base CX0 4 f fd ["_law_text"] (LSp K TB0 psp_lread61) := by
  refine fn_ok (p := fun _ => p_lread61) F sc_lread61 rfl rfl (by decide) (fun as Qp Ep h => by obtain ⟨_, rfl, _⟩ := h; rfl) (fun cdv A outer s H E Bh Bt Ep hr hx => JSs.nox ?_) hp_lread61
  exact jss_cons (js_par2 rfl sc_lread61.nd rfl rfl (by decide) rfl rfl (ja_cons (je_lc (own := [("_law_row", 8)]) rfl sc_lread61.nd (ji_seq (je_split (jv 0) (je_str))) (blkOk_by (N := N_lread61) (sc := defScope s_lread61) (by decide +kernel)) (fun _ _ _ _ _ => jg_name (i := 8) sc_lread61.nd rfl (by first | exact Or.inl rfl | exact Or.inr rfl)) (fun _ _ _ _ _ => jts_nil) (fun _ _ _ _ _ => je_split (jv 8) (je_str))) (ja_cons (je_non) (ja_nil))) (by rfl))
    (jss_cons (js_set (i := 1) sc_lread61.nd rfl (by first | exact Or.inl rfl | exact Or.inr rfl) (je_cal C_lpread hr (by rfl) (ja_cons (je_fz (je_ix (jv 3) (je_int) (fun _ _ => rfl))) (ja_nil))))
    (jss_cons (js_if (jb_is (jv 1) (je_non)) (jss_one (js_ret (je_tup (ja_cons (je_str) (ja_cons (je_int) (ja_nil)))))) (jss_nil))
    (jss_cons (js_if (jw_pt (jw_and (jb_gt (je_cb call_len lc_len (by rfl) B.b_len (by decide +kernel) (ja_cons (jv 3) (ja_nil))) (je_int)) (jw_and (jb_eq hr (je_cb call_len lc_len (by rfl) B.b_len (by decide +kernel) (ja_cons (je_ix (jv 3) (je_int) (fun _ _ => rfl)) (ja_nil))) (je_int)) (jw_and1 (jb_eq hr (je_ix (je_ix (jv 3) (je_int) (fun _ _ => rfl)) (je_int) (fun _ _ => rfl)) (je_str)))))) (jss_one (js_set (i := 4) sc_lread61.nd rfl (by first | exact Or.inl rfl | exact Or.inr rfl) (je_cal C_lnum hr (by rfl) (ja_cons (je_fz (je_ix (je_ix (jv 3) (je_int) (fun _ _ => rfl)) (je_int) (fun _ _ => rfl))) (ja_nil))))) (jss_nil))
    (jss_cons (js_if (jw_pt (jw_or (jb_is (jv 4) (je_non)) (jw_or1 (jb_not (jb_chain op_le op_le lc_le lc_le (je_int) (jv 4) (je_int)))))) (jss_one (js_ret (je_tup (ja_cons (je_str) (ja_cons (je_int) (ja_nil)))))) (jss_nil))
    (jss_cons (js_par2 rfl sc_lread61.nd rfl rfl (by decide) rfl rfl (ja_cons (je_lst (ja_nil)) (ja_cons (je_int) (ja_nil))) (by rfl))
    (jss_cons (js_for PassesOwn.never rfl (ji_rng1 (by rfl) B.b_range (ja_cons (je_cb call_len lc_len (by rfl) B.b_len (by decide +kernel) (ja_cons (jv 1) (ja_nil))) (ja_nil))) (jg_name (i := 2) sc_lread61.nd rfl (by first | exact Or.inl rfl | exact Or.inr rfl)) (jss_one (js_for PassesOwn.never rfl (ji_rng1 (by rfl) B.b_range (ja_cons (jv 2) (ja_nil))) (jg_name (i := 7) sc_lread61.nd rfl (by first | exact Or.inl rfl | exact Or.inr rfl)) (jss_cons (js_if (jb_eq hr (jv 6) (je_cb call_len lc_len (by rfl) B.b_len (by decide +kernel) (ja_cons (jv 3) (ja_nil)))) (jss_one (js_ret (je_tup (ja_cons (je_str) (ja_cons (jv 6) (ja_nil)))))) (jss_nil))
    (jss_cons (js_expr (je_mt PySem.F.plainAttrs_list PySem.F.slot_list_append PySem.F.type_list_append mt_append mv_append (jv 5) (ja_cons (je_cal C_ltread hr (by rfl) (ja_cons (je_fz (je_ix (jv 3) (jv 6) (fun _ _ => rfl))) (ja_cons (je_fz (jv 2)) (ja_cons (je_fz (jv 7)) (ja_cons (je_fz (jv 4)) (ja_nil)))))) (ja_nil))))
    (jss_cons (js_if (jb_is (je_ix (jv 5) (je_neg (je_int)) (fun _ _ => rfl)) (je_non)) (jss_one (js_ret (je_tup (ja_cons (je_str) (ja_cons (jv 6) (ja_nil)))))) (jss_nil))
    (jss_one (js_set (i := 6) sc_lread61.nd rfl (by first | exact Or.inl rfl | exact Or.inr rfl) (je_add (jv 6) (je_int))))))))))
    (jss_cons (js_if (jb_lt (jv 6) (je_cb call_len lc_len (by rfl) B.b_len (by decide +kernel) (ja_cons (jv 3) (ja_nil)))) (jss_one (js_ret (je_tup (ja_cons (je_str) (ja_cons (jv 6) (ja_nil)))))) (jss_nil))
    (jss_one (js_ret (je_tup (ja_cons (je_str) (ja_cons (je_tup (ja_cons (jv 1) (ja_cons (jv 4) (ja_cons (je_ct call_tuple_of lc_tupleOf (by rfl) B.b_tuple (by decide +kernel) (ja_cons (jv 5) (ja_nil))) (ja_nil))))) (ja_nil)))))))))))))
abbrev s_ltold61 : Stmt := topS 54
abbrev N_ltold61 : List Str := ["_law_text", "_law_found", "_law_e"]
theorem sc_ltold61 : FnScope N_ltold61 ["_law_text"] (defScope s_ltold61) := ⟨rfl, rfl, rfl, by decide +kernel, rfl, by decide +kernel, by decide +kernel⟩
theorem ok_ltold61 (F : FnP K "_law_told" s_ltold61 f fd) (B : Bl mg) (C_read_book61 : Cal P w K mg base (L2.CX P w) 5 "read_book" ["text"] (LSp K TB0 (psp_read_book61 cNoText))) (C_lref : ∀ base' : Heap, CalE P w K mg base' 1 "_law_text_refusal" ["_law_e"] (ESp K TB0 (ansRef cNoText) base')) (K_NoText : mg "NoText" = some (.ref cNoText)) (K_RoadError : mg "RoadError" = some (.ref cRoadError)) (K_Full : mg "Full" = some (.ref cFull)) (K_NoBook : mg "NoBook" = some (.ref cNoBook)) (K_NoMove : mg "NoMove" = some (.ref cNoMove)) (K_NoOrder : mg "NoOrder" = some (.ref cNoOrder)) (K_NoPassing : mg "NoPassing" = some (.ref cNoPassing)) (K_NoRow : mg "NoRow" = some (.ref cNoRow)) (K_NoSpot : mg "NoSpot" = some (.ref cNoSpot)) (K_NoSpots : mg "NoSpots" = some (.ref cNoSpots)) (K_NoWay : mg "NoWay" = some (.ref cNoWay)) (XS_NoBook : PySem.W.exmOne K (.ref cNoBook) (.ref cNoBook) = some true) (TF : ToldG K cNoText cRoadError [cFull, cNoBook, cNoMove, cNoOrder, cNoPassing, cNoRow, cNoSpot, cNoSpots, cNoWay]) (XF : XfC K cNoText) (NO_at : PySem.W.findIn K (.ref cNoText) "at" = some none) : FnOk P w K mg base CX0 6 f fd ["_law_text"] (LSp K TB0 psp_ltold61) := by
  refine fn_ok (p := fun _ => p_ltold61 cNoText) F sc_ltold61 rfl rfl (by decide) (fun as Qp Ep h => by obtain ⟨_, rfl, _⟩ := h; rfl) (fun cdv A outer s H E Bh Bt Ep hr hx => ?_) (hp_ltold61 cNoText)
  exact jss_cons (js_set (i := 1) sc_ltold61.nd rfl (by first | exact Or.inl rfl | exact Or.inr rfl) (je_non))
    (jss_cons (js_try (i := 2) (j := 1) rfl rfl sc_ltold61.nd rfl rfl ⟨rfl, by decide, Or.inl K_RoadError⟩ rfl (by first | exact Or.inl rfl | exact Or.inr rfl) (cat_ok TF) (fun W pn xe tk => jx_tup2 (je_str) (jx_call C_read_book61 hr tk (by rfl) (ja_cons (je_fz (jv 0)) (ja_nil)))) (fun a oe cls d pn hz hf => jss_one (js_set (i := 1) sc_ltold61.nd rfl (by first | exact Or.inl rfl | exact Or.inr rfl) (je_err C_lref hr rfl rfl hz hf (by rfl) (pv 2)))))
    (jss_one (js_ret (jv 1))))
abbrev s_law61 : Stmt := topS 55
abbrev N_law61 : List Str := ["_law_script", "_law_deal_here", "_law_words", "_law_book_here", "_law_good_here", "_law_turn", "_law_many", "_law_size", "_law_text", "_law_more", "_law_one"]
theorem sc_law61 : FnScope N_law61 ["_law_script"] (defScope s_law61) := ⟨rfl, rfl, rfl, by decide +kernel, rfl, by decide +kernel, by decide +kernel⟩
theorem ok_law61 (F : FnP K "law" s_law61 f fd) (B : Bl mg) (C_deal : Cal P w K mg base CX0 1 "_law_deal" ["_law_script", "_law_base"] (LSp K TB0 psp_deal)) (C_draw : Cal P w K mg base CX0 1 "_law_draw" ["_law_deal_here", "_law_many"] (LSp K TB0 psp_draw)) (C_book : Cal P w K mg base CX0 4 "_law_book" ["_law_deal_here", "_law_many", "_law_size", "_law_form"] (LSp K TB0 psp_book)) (C_lbrows : Cal P w K mg base CX0 1 "_law_book_rows" ["_law_book_here"] (LSp K TB0 psp_lbrows)) (C_lspoilt : Cal P w K mg base CX0 3 "_law_spoilt_text" ["_law_deal_here", "_law_text", "_law_words"] (LSp K TB0 psp_lspoilt)) (C_alike : Cal P w K mg base CX0 1 "_law_alike" ["_law_found", "_law_due"] (LSp K TB0 psp_alike)) (C_lread61 : Cal P w K mg base CX0 4 "_law_read" ["_law_text"] (LSp K TB0 psp_lread61)) (C_ltold61 : Cal P w K mg base CX0 6 "_law_told" ["_law_text"] (LSp K TB0 psp_ltold61)) : FnOk P w K mg base CX0 7 f fd ["_law_script"] (LSp K TB0 psp_law) := by
  refine fn_ok (p := fun _ => p_law61) F sc_law61 rfl rfl (by decide) (fun as Qp Ep h => by obtain ⟨_, rfl, _⟩ := h; rfl) (fun cdv A outer s H E Bh Bt Ep hr hx => JSs.nox ?_) hp_law61
  exact jss_cons (js_set (i := 1) sc_law61.nd rfl (by first | exact Or.inl rfl | exact Or.inr rfl) (je_cal C_deal hr (by rfl) (ja_cons (jv 0) (ja_cons (je_fz (je_int)) (ja_nil)))))
    (jss_cons (js_set (i := 2) sc_law61.nd rfl (by first | exact Or.inl rfl | exact Or.inr rfl) (je_lst (ja_cons (je_str) (ja_cons (je_str) (ja_cons (je_str) (ja_cons (je_str) (ja_cons (je_str) (ja_cons (je_str) (ja_cons (je_str) (ja_cons (je_str) (ja_cons (je_str) (ja_cons (je_str) (ja_cons (je_str) (ja_cons (je_str) (ja_cons (je_str) (ja_cons (je_str) (ja_cons (je_mulS (je_str) (je_int)) (ja_cons (je_str) (ja_nil)))))))))))))))))))
    (jss_cons (js_set (i := 2) sc_law61.nd rfl (by first | exact Or.inl rfl | exact Or.inr rfl) (je_add (jv 2) (je_lst (ja_cons (je_str) (ja_cons (je_str) (ja_cons (je_str) (ja_cons (je_str) (ja_cons (je_str) (ja_cons (je_str) (ja_cons (je_str) (ja_cons (je_str) (ja_cons (je_str) (ja_nil)))))))))))))
    (jss_cons (js_set (i := 2) sc_law61.nd rfl (by first | exact Or.inl rfl | exact Or.inr rfl) (je_add (jv 2) (je_lst (ja_cons (je_mulS (je_str) (je_int)) (ja_cons (je_add (je_str) (je_mulS (je_str) (je_int))) (ja_cons (je_add (je_str) (je_mulS (je_str) (je_int))) (ja_nil)))))))
    (jss_cons (js_par2 rfl sc_law61.nd rfl rfl (by decide) rfl rfl (ja_cons (je_add (je_int) (je_cal C_draw hr (by rfl) (ja_cons (jv 1) (ja_cons (je_fz (je_int)) (ja_nil))))) (ja_cons (je_add (je_int) (je_cal C_draw hr (by rfl) (ja_cons (jv 1) (ja_cons (je_fz (je_int)) (ja_nil))))) (ja_nil))) (by rfl))
    (jss_cons (js_set (i := 3) sc_law61.nd rfl (by first | exact Or.inl rfl | exact Or.inr rfl) (je_cal C_book hr (by rfl) (ja_cons (jv 1) (ja_cons (je_fz (jv 6)) (ja_cons (je_fz (jv 7)) (ja_cons (je_fz (je_cal C_draw hr (by rfl) (ja_cons (jv 1) (ja_cons (je_fz (je_int)) (ja_nil))))) (ja_nil)))))))
    (jss_cons (js_set (i := 4) sc_law61.nd rfl (by first | exact Or.inl rfl | exact Or.inr rfl) (je_join (je_str) (je_cal C_lbrows hr (by rfl) (ja_cons (je_fz (jv 3)) (ja_nil)))))
    (jss_cons (js_for PassesOwn.never rfl (ji_rng1 (by rfl) B.b_range (ja_cons (je_int) (ja_nil))) (jg_name (i := 5) sc_law61.nd rfl (by first | exact Or.inl rfl | exact Or.inr rfl)) (jss_cons (js_set (i := 8) sc_law61.nd rfl (by first | exact Or.inl rfl | exact Or.inr rfl) (jv 4))
    (jss_cons (js_for PassesOwn.never rfl (ji_rng1 (by rfl) B.b_range (ja_cons (je_add (je_int) (je_cal C_draw hr (by rfl) (ja_cons (jv 1) (ja_cons (je_fz (je_int)) (ja_nil))))) (ja_nil))) (jg_name (i := 9) sc_law61.nd rfl (by first | exact Or.inl rfl | exact Or.inr rfl)) (jss_one (js_set (i := 8) sc_law61.nd rfl (by first | exact Or.inl rfl | exact Or.inr rfl) (je_cal C_lspoilt hr (by rfl) (ja_cons (jv 1) (ja_cons (je_fz (jv 8)) (ja_cons (je_fz (jv 2)) (ja_nil))))))))
    (jss_one (js_for PassesOwn.never rfl (ji_seq (je_tup (ja_cons (jv 8) (ja_cons (jv 4) (ja_nil))))) (jg_name (i := 10) sc_law61.nd rfl (by first | exact Or.inl rfl | exact Or.inr rfl)) (jss_one (js_if (jw_pt (jw_and (jb_le (je_cb call_len lc_len (by rfl) B.b_len (by decide +kernel) (ja_cons (jv 10) (ja_nil))) (je_int)) (jw_and1 (jb_not (jb_val (je_cal C_alike hr (by rfl) (ja_cons (je_fz (je_cal C_ltold61 hr (by rfl) (ja_cons (je_fz (jv 10)) (ja_nil)))) (ja_cons (je_fz (je_cal C_lread61 hr (by rfl) (ja_cons (je_fz (jv 10)) (ja_nil)))) (ja_nil))))))))) (jss_one (js_ret (je_bl))) (jss_nil))))))))
    (jss_cons (js_if (jb_not (jb_val (je_cal C_alike hr (by rfl) (ja_cons (je_fz (je_cal C_ltold61 hr (by rfl) (ja_cons (je_fz (je_str)) (ja_nil)))) (ja_cons (je_fz (je_tup (ja_cons (je_str) (ja_cons (je_int) (ja_nil))))) (ja_nil)))))) (jss_one (js_ret (je_bl))) (jss_nil))
    (jss_one (js_ret (je_cal C_alike hr (by rfl) (ja_cons (je_fz (je_cal C_ltold61 hr (by rfl) (ja_cons (je_fz (je_add (jv 4) (je_str))) (ja_nil)))) (ja_cons (je_fz (je_tup (ja_cons (je_str) (ja_cons (je_cb call_len lc_len (by rfl) B.b_len (by decide +kernel) (ja_cons (je_split (jv 4) (je_str)) (ja_nil))) (ja_nil))))) (ja_nil))))))))))))))
end
def dd_init_NoText : He.DefD := ⟨("NoText", some "__init__"), "__init__", "NoText.__init__", defArgs s_init_NoText, defBody s_init_NoText, defScope s_init_NoText, [], []⟩
def dd_init_NoBook : He.DefD := ⟨("NoBook", some "__init__"), "__init__", "NoBook.__init__", defArgs s_init_NoBook, defBody s_init_NoBook, defScope s_init_NoBook, [], []⟩
def dd_draw : He.DefD := ⟨("_law_draw", none), "_law_draw", "_law_draw", defArgs s_draw, defBody s_draw, defScope s_draw, [], []⟩
def dd_deal : He.DefD := ⟨("_law_deal", none), "_law_deal", "_law_deal", defArgs s_deal, defBody s_deal, defScope s_deal, [], []⟩
def dd_alike : He.DefD := ⟨("_law_alike", none), "_law_alike", "_law_alike", defArgs s_alike, defBody s_alike, defScope s_alike, [], []⟩
def dd_paces : He.DefD := ⟨("_law_paces", none), "_law_paces", "_law_paces", defArgs s_paces, defBody s_paces, defScope s_paces, [], []⟩
def dd_pair : He.DefD := ⟨("_law_pair", none), "_law_pair", "_law_pair", defArgs s_pair, defBody s_pair, defScope s_pair, [], []⟩
def dd_plain : He.DefD := ⟨("_law_plain", none), "_law_plain", "_law_plain", defArgs s_plain, defBody s_plain, defScope s_plain, [], []⟩
def dd_side : He.DefD := ⟨("_law_side", none), "_law_side", "_law_side", defArgs s_side, defBody s_side, defScope s_side, [], []⟩
def dd_mixed : He.DefD := ⟨("_law_mixed", none), "_law_mixed", "_law_mixed", defArgs s_mixed, defBody s_mixed, defScope s_mixed, [], []⟩
def dd_names_put : He.DefD := ⟨("_law_names_put", none), "_law_names_put", "_law_names_put", defArgs s_names_put, defBody s_names_put, defScope s_names_put, [], []⟩
def dd_good : He.DefD := ⟨("_law_good", none), "_law_good", "_law_good", defArgs s_good, defBody s_good, defScope s_good, [], []⟩
def dd_any : He.DefD := ⟨("_law_any", none), "_law_any", "_law_any", defArgs s_any, defBody s_any, defScope s_any, [], []⟩
def dd_book : He.DefD := ⟨("_law_book", none), "_law_book", "_law_book", defArgs s_book, defBody s_book, defScope s_book, [], []⟩
def dd_is_number : He.DefD := ⟨("is_number", none), "is_number", "is_number", defArgs s_is_number, defBody s_is_number, defScope s_is_number, [], []⟩
def dd_is_whole : He.DefD := ⟨("is_whole", none), "is_whole", "is_whole", defArgs s_is_whole, defBody s_is_whole, defScope s_is_whole, [], []⟩
def dd_is_tuple_of : He.DefD := ⟨("is_tuple_of", none), "is_tuple_of", "is_tuple_of", defArgs s_is_tuple_of, defBody s_is_tuple_of, defScope s_is_tuple_of, [], []⟩
def dd_two_kinds43 : He.DefD := ⟨("two_kinds", none), "two_kinds", "two_kinds", defArgs s_two_kinds43, defBody s_two_kinds43, defScope s_two_kinds43, [], []⟩
def dd_look_paces61 : He.DefD := ⟨("look_paces", none), "look_paces", "look_paces", defArgs s_look_paces61, defBody s_look_paces61, defScope s_look_paces61, [], []⟩
def dd_is_pair61 : He.DefD := ⟨("is_pair", none), "is_pair", "is_pair", defArgs s_is_pair61, defBody s_is_pair61, defScope s_is_pair61, [], []⟩
def dd_number_in63 : He.DefD := ⟨("number_in", none), "number_in", "number_in", defArgs s_number_in63, defBody s_number_in63, defScope s_number_in63, [], []⟩
def dd_row_at61 : He.DefD := ⟨("row_at", none), "row_at", "row_at", defArgs s_row_at61, defBody s_row_at61, defScope s_row_at61, [], []⟩
def dd_paces_in61 : He.DefD := ⟨("paces_in", none), "paces_in", "paces_in", defArgs s_paces_in61, defBody s_paces_in61, defScope s_paces_in61, [], []⟩
def dd_sorts_in61 : He.DefD := ⟨("sorts_in", none), "sorts_in", "sorts_in", defArgs s_sorts_in61, defBody s_sorts_in61, defScope s_sorts_in61, [], []⟩
def dd_pair_in61 : He.DefD := ⟨("pair_in", none), "pair_in", "pair_in", defArgs s_pair_in61, defBody s_pair_in61, defScope s_pair_in61, [], []⟩
def dd_table_in61 : He.DefD := ⟨("table_in", none), "table_in", "table_in", defArgs s_table_in61, defBody s_table_in61, defScope s_table_in61, [], []⟩
def dd_read_book61 : He.DefD := ⟨("read_book", none), "read_book", "read_book", defArgs s_read_book61, defBody s_read_book61, defScope s_read_book61, [], []⟩
def dd_lbrows : He.DefD := ⟨("_law_book_rows", none), "_law_book_rows", "_law_book_rows", defArgs s_lbrows, defBody s_lbrows, defScope s_lbrows, [], []⟩
def dd_lnum : He.DefD := ⟨("_law_number", none), "_law_number", "_law_number", defArgs s_lnum, defBody s_lnum, defScope s_lnum, [], []⟩
def dd_lwhl : He.DefD := ⟨("_law_whole", none), "_law_whole", "_law_whole", defArgs s_lwhl, defBody s_lwhl, defScope s_lwhl, [], []⟩
def dd_lref : He.DefD := ⟨("_law_text_refusal", none), "_law_text_refusal", "_law_text_refusal", defArgs s_lref, defBody s_lref, defScope s_lref, [], []⟩
def dd_lchg : He.DefD := ⟨("_law_changed", none), "_law_changed", "_law_changed", defArgs s_lchg, defBody s_lchg, defScope s_lchg, [], []⟩
def dd_lsigns : He.DefD := ⟨("_law_signs", none), "_law_signs", "_law_signs", defArgs s_lsigns, defBody s_lsigns, defScope s_lsigns, [], []⟩
def dd_lspoilt : He.DefD := ⟨("_law_spoilt_text", none), "_law_spoilt_text", "_law_spoilt_text", defArgs s_lspoilt, defBody s_lspoilt, defScope s_lspoilt, [], []⟩
def dd_lpread : He.DefD := ⟨("_law_paces_read", none), "_law_paces_read", "_law_paces_read", defArgs s_lpread, defBody s_lpread, defScope s_lpread, [], []⟩
def dd_ltread : He.DefD := ⟨("_law_table_read", none), "_law_table_read", "_law_table_read", defArgs s_ltread, defBody s_ltread, defScope s_ltread, [], []⟩
def dd_lread61 : He.DefD := ⟨("_law_read", none), "_law_read", "_law_read", defArgs s_lread61, defBody s_lread61, defScope s_lread61, [], []⟩
def dd_ltold61 : He.DefD := ⟨("_law_told", none), "_law_told", "_law_told", defArgs s_ltold61, defBody s_ltold61, defScope s_ltold61, [], []⟩
def dd_law61 : He.DefD := ⟨("law", none), "law", "law", defArgs s_law61, defBody s_law61, defScope s_law61, [], []⟩
def fns : List He.DefD := [dd_init_NoText, dd_init_NoBook, dd_draw, dd_deal, dd_alike, dd_paces, dd_pair, dd_plain, dd_side, dd_mixed, dd_names_put, dd_good, dd_any, dd_book, dd_is_number, dd_is_whole, dd_is_tuple_of, dd_two_kinds43, dd_look_paces61, dd_is_pair61, dd_number_in63, dd_row_at61, dd_paces_in61, dd_sorts_in61, dd_pair_in61, dd_table_in61, dd_read_book61, dd_lbrows, dd_lnum, dd_lwhl, dd_lref, dd_lchg, dd_lsigns, dd_lspoilt, dd_lpread, dd_ltread, dd_lread61, dd_ltold61, dd_law61]
def facs : List He.Fa := [.glo "_law_draw", .glo "_law_deal", .glo "_law_alike", .glo "_law_paces", .glo "_law_pair", .glo "_law_plain", .glo "_law_side", .glo "_law_mixed", .glo "_law_names_put", .glo "_law_good", .glo "_law_any", .glo "_law_book", .glo "is_number", .glo "is_whole", .glo "is_tuple_of", .glo "two_kinds", .glo "look_paces", .glo "is_pair", .glo "number_in", .glo "row_at", .glo "paces_in", .glo "sorts_in", .glo "pair_in", .glo "table_in", .glo "read_book", .glo "_law_book_rows", .glo "_law_number", .glo "_law_whole", .glo "_law_text_refusal", .glo "_law_changed", .glo "_law_signs", .glo "_law_spoilt_text", .glo "_law_paces_read", .glo "_law_table_read", .glo "_law_read", .glo "_law_told", .glo "law", .free "len", .free "list", .free "tuple", .free "reversed", .free "range", .free "max", .free "min", .free "sum", .free "all", .free "any", .free "zip", .free "enumerate", .free "isinstance", .free "int", .free "bool", .free "str", .free "repr", .free "divmod", .free "abs", .free "sorted", .free "set", .free "dict", .free "pow", .free "ValueError", .free "IndexError", .glo "RoadError", .glo "NoBook", .glo "NoRow", .glo "NoPassing", .glo "NoOrder", .glo "NoMove", .glo "NoSpots", .glo "NoSpot", .glo "NoWay", .glo "NoText", .glo "Full", .int "MOST_KINDS" 5, .int "MOST_SORTS" 6, .int "MOST_PACE" 1000, .int "MOST_FIGURES" 19]
def exB (K : PySem.W.Frag) : Bool := errB K "NoBook" ["word", "at"] && (decide (PySem.W.kitOne K (.ref (He.ga K "NoText")) (.type "ValueError") = some true) && (decide (PySem.W.exmOne K (.ref (He.ga K "NoBook")) (.ref (He.ga K "NoBook")) = some true) && (errB K "NoText" ["at"] && (baseB K "RoadError" && (decide (PySem.W.exmOne K (.ref (He.ga K "NoText")) (.ref (He.ga K "RoadError")) = some true) && (decide (PySem.W.kitOne K (.ref (He.ga K "NoText")) (.ref (He.ga K "NoText")) = some true) && decide (PySem.W.kitAny K (.ref (He.ga K "NoText")) [(.ref (He.ga K "Full")), (.ref (He.ga K "NoBook")), (.ref (He.ga K "NoMove")), (.ref (He.ga K "NoOrder")), (.ref (He.ga K "NoPassing")), (.ref (He.ga K "NoRow")), (.ref (He.ga K "NoSpot")), (.ref (He.ga K "NoSpots")), (.ref (He.ga K "NoWay"))] = some false)))))))
abbrev rowR : PySem.W.OpenRow := PySem.W.OpenLaw.row PySem.Challenge.rw_wherefrom_k61_texts_of_no_book
abbrev hk : PySem.W.Hook := Wf.hookW 6 facs fns exB
def obA (s : PySem.W.SharedT) : He.AlD × Bool := Wf.obsW 6 facs fns exB (HandSHeadRun.getT s)
theorem ob_eq (s : PySem.W.SharedT) : obA s = hk.obs s.abs := Wf.obsW_eq (HandSHeadRun.getT_eq s)
abbrev loose0 : List Str := ["RoadError", "NoBook", "NoRow", "NoPassing", "NoOrder", "NoMove", "NoSpots", "NoSpot", "NoWay", "NoText", "Full", "MOST_KINDS", "MOST_SORTS", "MOST_PACE", "is_number", "is_whole", "is_tuple_of", "two_kinds", "look_paces", "is_pair", "MOST_FIGURES", "number_in", "read_book", "row_at"]
abbrev loose1 : List Str := ["paces_in", "sorts_in", "table_in", "pair_in", "_law_deal", "_law_draw", "_law_alike", "_law_paces", "_law_pair", "_law_plain", "_law_side", "_law_mixed", "_law_names_put", "_law_good", "_law_any", "_law_book", "_law_book_rows", "_law_number", "_law_whole", "_law_text_refusal", "_law_changed", "_law_signs", "_law_spoilt_text", "_law_paces_read"]
abbrev loose2 : List Str := ["_law_table_read", "_law_read", "_law_told"]
abbrev looseL : List Str := loose0 ++ loose1 ++ loose2
theorem run_eq (w : World) : HandSHeadRun.RunEq rowR (PySem.W.view rowR.prog [55]) hk obA 4800 looseL w := by
  intro os
  kernel_rfl
theorem facts {P : Program} {w : World} {K : PySem.W.Frag} {h : Heap} {mg : Str → Option Value} {f : Addr} (X : K.In h) (G : h.Ns mainGlobals mg) (hfa : mg ("law" : Str) = some (.ref f)) (c : He.SaysD facs fns K ∧ exB K = true) :
    ∃ fd : FuncData, (∀ (s : Shared) (v : Value), BindsTo s fd ⟨[v], []⟩ [("_law_script", v)]) ∧ ∀ base : Heap, K.In base → base.Ns mainGlobals mg → FnG P w K mg base CX0 7 f fd ["_law_script"] (LSp K TB0 psp_law) := by
  have cd := c.1
  have cm := c.2
  obtain ⟨fd_init_NoText, F_init_NoText⟩ := cd.def_ 0 (d := dd_init_NoText) rfl
  obtain ⟨fd_init_NoBook, F_init_NoBook⟩ := cd.def_ 1 (d := dd_init_NoBook) rfl
  obtain ⟨fd_draw, F_draw⟩ := cd.def_ 2 (d := dd_draw) rfl
  have g_draw := He.glo_ok X G (cd.fact 0 (f := .glo "_law_draw") rfl)
  obtain ⟨fd_deal, F_deal⟩ := cd.def_ 3 (d := dd_deal) rfl
  have g_deal := He.glo_ok X G (cd.fact 1 (f := .glo "_law_deal") rfl)
  obtain ⟨fd_alike, F_alike⟩ := cd.def_ 4 (d := dd_alike) rfl
  have g_alike := He.glo_ok X G (cd.fact 2 (f := .glo "_law_alike") rfl)
  obtain ⟨fd_paces, F_paces⟩ := cd.def_ 5 (d := dd_paces) rfl
  have g_paces := He.glo_ok X G (cd.fact 3 (f := .glo "_law_paces") rfl)
  obtain ⟨fd_pair, F_pair⟩ := cd.def_ 6 (d := dd_pair) rfl
  have g_pair := He.glo_ok X G (cd.fact 4 (f := .glo "_law_pair") rfl)
  obtain ⟨fd_plain, F_plain⟩ := cd.def_ 7 (d := dd_plain) rfl
  have g_plain := He.glo_ok X G (cd.fact 5 (f := .glo "_law_plain") rfl)
  obtain ⟨fd_side, F_side⟩ := cd.def_ 8 (d := dd_side) rfl
  have g_side := He.glo_ok X G (cd.fact 6 (f := .glo "_law_side") rfl)
  obtain ⟨fd_mixed, F_mixed⟩ := cd.def_ 9 (d := dd_mixed) rfl
  have g_mixed := He.glo_ok X G (cd.fact 7 (f := .glo "_law_mixed") rfl)
  obtain ⟨fd_names_put, F_names_put⟩ := cd.def_ 10 (d := dd_names_put) rfl
  have g_names_put := He.glo_ok X G (cd.fact 8 (f := .glo "_law_names_put") rfl)
  obtain ⟨fd_good, F_good⟩ := cd.def_ 11 (d := dd_good) rfl
  have g_good := He.glo_ok X G (cd.fact 9 (f := .glo "_law_good") rfl)
  obtain ⟨fd_any, F_any⟩ := cd.def_ 12 (d := dd_any) rfl
  have g_any := He.glo_ok X G (cd.fact 10 (f := .glo "_law_any") rfl)
  obtain ⟨fd_book, F_book⟩ := cd.def_ 13 (d := dd_book) rfl
  have g_book := He.glo_ok X G (cd.fact 11 (f := .glo "_law_book") rfl)
  obtain ⟨fd_is_number, F_is_number⟩ := cd.def_ 14 (d := dd_is_number) rfl
  have g_is_number := He.glo_ok X G (cd.fact 12 (f := .glo "is_number") rfl)
  obtain ⟨fd_is_whole, F_is_whole⟩ := cd.def_ 15 (d := dd_is_whole) rfl
  have g_is_whole := He.glo_ok X G (cd.fact 13 (f := .glo "is_whole") rfl)
  obtain ⟨fd_is_tuple_of, F_is_tuple_of⟩ := cd.def_ 16 (d := dd_is_tuple_of) rfl
  have g_is_tuple_of := He.glo_ok X G (cd.fact 14 (f := .glo "is_tuple_of") rfl)
  obtain ⟨fd_two_kinds43, F_two_kinds43⟩ := cd.def_ 17 (d := dd_two_kinds43) rfl
  have g_two_kinds43 := He.glo_ok X G (cd.fact 15 (f := .glo "two_kinds") rfl)
  obtain ⟨fd_look_paces61, F_look_paces61⟩ := cd.def_ 18 (d := dd_look_paces61) rfl
  have g_look_paces61 := He.glo_ok X G (cd.fact 16 (f := .glo "look_paces") rfl)
  obtain ⟨fd_is_pair61, F_is_pair61⟩ := cd.def_ 19 (d := dd_is_pair61) rfl
  have g_is_pair61 := He.glo_ok X G (cd.fact 17 (f := .glo "is_pair") rfl)
  obtain ⟨fd_number_in63, F_number_in63⟩ := cd.def_ 20 (d := dd_number_in63) rfl
  have g_number_in63 := He.glo_ok X G (cd.fact 18 (f := .glo "number_in") rfl)
  obtain ⟨fd_row_at61, F_row_at61⟩ := cd.def_ 21 (d := dd_row_at61) rfl
  have g_row_at61 := He.glo_ok X G (cd.fact 19 (f := .glo "row_at") rfl)
  obtain ⟨fd_paces_in61, F_paces_in61⟩ := cd.def_ 22 (d := dd_paces_in61) rfl
  have g_paces_in61 := He.glo_ok X G (cd.fact 20 (f := .glo "paces_in") rfl)
  obtain ⟨fd_sorts_in61, F_sorts_in61⟩ := cd.def_ 23 (d := dd_sorts_in61) rfl
  have g_sorts_in61 := He.glo_ok X G (cd.fact 21 (f := .glo "sorts_in") rfl)
  obtain ⟨fd_pair_in61, F_pair_in61⟩ := cd.def_ 24 (d := dd_pair_in61) rfl
  have g_pair_in61 := He.glo_ok X G (cd.fact 22 (f := .glo "pair_in") rfl)
  obtain ⟨fd_table_in61, F_table_in61⟩ := cd.def_ 25 (d := dd_table_in61) rfl
  have g_table_in61 := He.glo_ok X G (cd.fact 23 (f := .glo "table_in") rfl)
  obtain ⟨fd_read_book61, F_read_book61⟩ := cd.def_ 26 (d := dd_read_book61) rfl
  have g_read_book61 := He.glo_ok X G (cd.fact 24 (f := .glo "read_book") rfl)
  obtain ⟨fd_lbrows, F_lbrows⟩ := cd.def_ 27 (d := dd_lbrows) rfl
  have g_lbrows := He.glo_ok X G (cd.fact 25 (f := .glo "_law_book_rows") rfl)
  obtain ⟨fd_lnum, F_lnum⟩ := cd.def_ 28 (d := dd_lnum) rfl
  have g_lnum := He.glo_ok X G (cd.fact 26 (f := .glo "_law_number") rfl)
  obtain ⟨fd_lwhl, F_lwhl⟩ := cd.def_ 29 (d := dd_lwhl) rfl
  have g_lwhl := He.glo_ok X G (cd.fact 27 (f := .glo "_law_whole") rfl)
  obtain ⟨fd_lref, F_lref⟩ := cd.def_ 30 (d := dd_lref) rfl
  have g_lref := He.glo_ok X G (cd.fact 28 (f := .glo "_law_text_refusal") rfl)
  obtain ⟨fd_lchg, F_lchg⟩ := cd.def_ 31 (d := dd_lchg) rfl
  have g_lchg := He.glo_ok X G (cd.fact 29 (f := .glo "_law_changed") rfl)
  obtain ⟨fd_lsigns, F_lsigns⟩ := cd.def_ 32 (d := dd_lsigns) rfl
  have g_lsigns := He.glo_ok X G (cd.fact 30 (f := .glo "_law_signs") rfl)
  obtain ⟨fd_lspoilt, F_lspoilt⟩ := cd.def_ 33 (d := dd_lspoilt) rfl
  have g_lspoilt := He.glo_ok X G (cd.fact 31 (f := .glo "_law_spoilt_text") rfl)
  obtain ⟨fd_lpread, F_lpread⟩ := cd.def_ 34 (d := dd_lpread) rfl
  have g_lpread := He.glo_ok X G (cd.fact 32 (f := .glo "_law_paces_read") rfl)
  obtain ⟨fd_ltread, F_ltread⟩ := cd.def_ 35 (d := dd_ltread) rfl
  have g_ltread := He.glo_ok X G (cd.fact 33 (f := .glo "_law_table_read") rfl)
  obtain ⟨fd_lread61, F_lread61⟩ := cd.def_ 36 (d := dd_lread61) rfl
  have g_lread61 := He.glo_ok X G (cd.fact 34 (f := .glo "_law_read") rfl)
  obtain ⟨fd_ltold61, F_ltold61⟩ := cd.def_ 37 (d := dd_ltold61) rfl
  have g_ltold61 := He.glo_ok X G (cd.fact 35 (f := .glo "_law_told") rfl)
  obtain ⟨fd_law61, F_law61⟩ := cd.def_ 38 (d := dd_law61) rfl
  have eq := hfa.symm.trans (He.glo_ok X G (cd.fact 36 (f := .glo "law") rfl))
  cases eq
  have B : Bl mg := ⟨He.free_ok X G (cd.fact 37 (f := .free "len") rfl), He.free_ok X G (cd.fact 38 (f := .free "list") rfl), He.free_ok X G (cd.fact 39 (f := .free "tuple") rfl), He.free_ok X G (cd.fact 40 (f := .free "reversed") rfl), He.free_ok X G (cd.fact 41 (f := .free "range") rfl), He.free_ok X G (cd.fact 42 (f := .free "max") rfl), He.free_ok X G (cd.fact 43 (f := .free "min") rfl), He.free_ok X G (cd.fact 44 (f := .free "sum") rfl), He.free_ok X G (cd.fact 45 (f := .free "all") rfl), He.free_ok X G (cd.fact 46 (f := .free "any") rfl), He.free_ok X G (cd.fact 47 (f := .free "zip") rfl), He.free_ok X G (cd.fact 48 (f := .free "enumerate") rfl), He.free_ok X G (cd.fact 49 (f := .free "isinstance") rfl), He.free_ok X G (cd.fact 50 (f := .free "int") rfl), He.free_ok X G (cd.fact 51 (f := .free "bool") rfl), He.free_ok X G (cd.fact 52 (f := .free "str") rfl), He.free_ok X G (cd.fact 53 (f := .free "repr") rfl), He.free_ok X G (cd.fact 54 (f := .free "divmod") rfl), He.free_ok X G (cd.fact 55 (f := .free "abs") rfl), He.free_ok X G (cd.fact 56 (f := .free "sorted") rfl), He.free_ok X G (cd.fact 57 (f := .free "set") rfl), He.free_ok X G (cd.fact 58 (f := .free "dict") rfl), He.free_ok X G (cd.fact 59 (f := .free "pow") rfl), He.free_ok X G (cd.fact 60 (f := .free "ValueError") rfl), He.free_ok X G (cd.fact 61 (f := .free "IndexError") rfl)⟩
  have K_RoadError := He.glo_ok X G (cd.fact 62 (f := .glo "RoadError") rfl)
  have K_NoBook := He.glo_ok X G (cd.fact 63 (f := .glo "NoBook") rfl)
  have K_NoRow := He.glo_ok X G (cd.fact 64 (f := .glo "NoRow") rfl)
  have K_NoPassing := He.glo_ok X G (cd.fact 65 (f := .glo "NoPassing") rfl)
  have K_NoOrder := He.glo_ok X G (cd.fact 66 (f := .glo "NoOrder") rfl)
  have K_NoMove := He.glo_ok X G (cd.fact 67 (f := .glo "NoMove") rfl)
  have K_NoSpots := He.glo_ok X G (cd.fact 68 (f := .glo "NoSpots") rfl)
  have K_NoSpot := He.glo_ok X G (cd.fact 69 (f := .glo "NoSpot") rfl)
  have K_NoWay := He.glo_ok X G (cd.fact 70 (f := .glo "NoWay") rfl)
  have K_NoText := He.glo_ok X G (cd.fact 71 (f := .glo "NoText") rfl)
  have K_Full := He.glo_ok X G (cd.fact 72 (f := .glo "Full") rfl)
  have G_MOST_KINDS := He.int_ok X G (cd.fact 73 (f := .int "MOST_KINDS" 5) rfl)
  have G_MOST_SORTS := He.int_ok X G (cd.fact 74 (f := .int "MOST_SORTS" 6) rfl)
  have G_MOST_PACE := He.int_ok X G (cd.fact 75 (f := .int "MOST_PACE" 1000) rfl)
  have G_MOST_FIGURES := He.int_ok X G (cd.fact 76 (f := .int "MOST_FIGURES" 19) rfl)
  unfold exB at cm
  simp only [Bool.and_eq_true, decide_eq_true_eq] at cm
  obtain ⟨me_NoBook, TV_ValueError, mx_NoBook, m1, m2, m3, m4, m5⟩ := cm
  have EF_NoText := errB_ok m1
  have BC := baseB_ok m2 K_RoadError
  have TF : ToldG K (He.ga K "NoText") (He.ga K "RoadError") [He.ga K "Full", He.ga K "NoBook", He.ga K "NoMove", He.ga K "NoOrder", He.ga K "NoPassing", He.ga K "NoRow", He.ga K "NoSpot", He.ga K "NoSpots", He.ga K "NoWay"] := ⟨m3, EF_NoText.is_, m4, m5⟩
  have XS_NoBook : PySem.W.exmOne K (.ref (He.ga K "NoBook")) (.ref (He.ga K "NoBook")) = some true := mx_NoBook
  have EF_NoBook := errB_ok me_NoBook
  have b := FunD.bindsA (ps := ["_law_script"]) F_law61 fun _ _ _ _ _ _ us hl => match us, hl with | [_], _ => rfl
  refine ⟨fd_law61, fun s v => b s [v] rfl, fun base _ _ => ?_⟩
  have T_NoText : Err1 P w K mg base "NoText" "at" (He.ga K "NoText") := ⟨K_NoText, EF_NoText.o, _, fd_init_NoText, EF_NoText.i, EF_NoText.ti, ok_init_NoText F_init_NoText BC EF_NoText.o (EF_NoText.no "at" (by decide)), F_init_NoText.bindsN fun _ _ _ _ _ _ us hl => match us, hl with | [_, _], _ => rfl⟩
  have T_NoBook : Err2 P w K mg base "NoBook" "word" "at" (He.ga K "NoBook") := ⟨K_NoBook, EF_NoBook.o, _, fd_init_NoBook, EF_NoBook.i, EF_NoBook.ti, ok_init_NoBook F_init_NoBook BC EF_NoBook.o (EF_NoBook.no "word" (by decide)) (EF_NoBook.no "at" (by decide)), F_init_NoBook.bindsN fun _ _ _ _ _ _ us hl => match us, hl with | [_, _, _], _ => rfl⟩
  have C_draw : Cal P w K mg base CX0 1 "_law_draw" ["_law_deal_here", "_law_many"] sp_draw := ⟨_, fd_draw, ok_draw F_draw B , g_draw, F_draw.kp, F_draw.bindsN fun _ _ _ _ _ _ us hl => match us, hl with | [_, _], _ => rfl⟩
  have C_deal : Cal P w K mg base CX0 1 "_law_deal" ["_law_script", "_law_base"] (sp_deal K) := ⟨_, fd_deal, ok_deal F_deal B , g_deal, F_deal.kp, F_deal.bindsN fun _ _ _ _ _ _ us hl => match us, hl with | [_, _], _ => rfl⟩
  have C_alike : Cal P w K mg base CX0 1 "_law_alike" ["_law_found", "_law_due"] (sp_alike K) := ⟨_, fd_alike, ok_alike F_alike B , g_alike, F_alike.kp, F_alike.bindsN fun _ _ _ _ _ _ us hl => match us, hl with | [_, _], _ => rfl⟩
  have C_paces : Cal P w K mg base CX0 2 "_law_paces" ["_law_deal_here", "_law_many"] (sp_paces K) := ⟨_, fd_paces, ok_paces F_paces B C_draw, g_paces, F_paces.kp, F_paces.bindsN fun _ _ _ _ _ _ us hl => match us, hl with | [_, _], _ => rfl⟩
  have C_pair : Cal P w K mg base CX0 1 "_law_pair" ["_law_form", "_law_size", "_law_step", "_law_a", "_law_b"] (sp_pair K) := ⟨_, fd_pair, ok_pair F_pair B , g_pair, F_pair.kp, F_pair.bindsN fun _ _ _ _ _ _ us hl => match us, hl with | [_, _, _, _, _], _ => rfl⟩
  have C_plain : Cal P w K mg base CX0 2 "_law_plain" ["_law_deal_here", "_law_many", "_law_size"] (sp_plain K) := ⟨_, fd_plain, ok_plain F_plain B C_draw C_pair, g_plain, F_plain.kp, F_plain.bindsN fun _ _ _ _ _ _ us hl => match us, hl with | [_, _, _], _ => rfl⟩
  have C_side : Cal P w K mg base CX0 1 "_law_side" ["_law_one", "_law_other", "_law_wide", "_law_more"] (sp_side K) := ⟨_, fd_side, ok_side F_side B , g_side, F_side.kp, F_side.bindsN fun _ _ _ _ _ _ us hl => match us, hl with | [_, _, _, _], _ => rfl⟩
  have C_mixed : Cal P w K mg base CX0 2 "_law_mixed" ["_law_deal_here", "_law_many"] sp_mixed := ⟨_, fd_mixed, ok_mixed F_mixed B C_draw, g_mixed, F_mixed.kp, F_mixed.bindsN fun _ _ _ _ _ _ us hl => match us, hl with | [_, _], _ => rfl⟩
  have C_names_put : Cal P w K mg base CX0 1 "_law_names_put" ["_law_tables", "_law_size", "_law_names"] (sp_names K) := ⟨_, fd_names_put, ok_names_put F_names_put B , g_names_put, F_names_put.kp, F_names_put.bindsN fun _ _ _ _ _ _ us hl => match us, hl with | [_, _, _], _ => rfl⟩
  have C_good : Cal P w K mg base CX0 3 "_law_good" ["_law_deal_here", "_law_many", "_law_size"] (sp_good K) := ⟨_, fd_good, ok_good F_good B C_draw C_plain C_side C_names_put C_mixed, g_good, F_good.kp, F_good.bindsN fun _ _ _ _ _ _ us hl => match us, hl with | [_, _, _], _ => rfl⟩
  have C_any : Cal P w K mg base CX0 2 "_law_any" ["_law_deal_here", "_law_many", "_law_size"] (sp_any K) := ⟨_, fd_any, ok_any F_any B C_draw, g_any, F_any.kp, F_any.bindsN fun _ _ _ _ _ _ us hl => match us, hl with | [_, _, _], _ => rfl⟩
  have C_book : Cal P w K mg base CX0 4 "_law_book" ["_law_deal_here", "_law_many", "_law_size", "_law_form"] (sp_book K) := ⟨_, fd_book, ok_book F_book B C_paces C_any C_good C_draw, g_book, F_book.kp, F_book.bindsN fun _ _ _ _ _ _ us hl => match us, hl with | [_, _, _, _], _ => rfl⟩
  have C_is_number : Cal P w K mg base CX0 1 "is_number" ["thing"] (LSp K TB0 psp_is_number) := ⟨_, fd_is_number, ok_is_number F_is_number B , g_is_number, F_is_number.kp, F_is_number.bindsN fun _ _ _ _ _ _ us hl => match us, hl with | [_], _ => rfl⟩
  have C_is_whole : Cal P w K mg base CX0 2 "is_whole" ["thing", "least", "most"] (LSp K TB0 psp_is_whole) := ⟨_, fd_is_whole, ok_is_whole F_is_whole B C_is_number, g_is_whole, F_is_whole.kp, F_is_whole.bindsN fun _ _ _ _ _ _ us hl => match us, hl with | [_, _, _], _ => rfl⟩
  have C_is_tuple_of : Cal P w K mg base CX0 1 "is_tuple_of" ["thing", "many"] (LSp K TB0 psp_is_tuple_of) := ⟨_, fd_is_tuple_of, ok_is_tuple_of F_is_tuple_of B , g_is_tuple_of, F_is_tuple_of.kp, F_is_tuple_of.bindsN fun _ _ _ _ _ _ us hl => match us, hl with | [_, _], _ => rfl⟩
  have C_two_kinds43 : Cal P w K mg base CX0 1 "two_kinds" ["many"] (LSp K TB0 psp_two_kinds43) := ⟨_, fd_two_kinds43, ok_two_kinds43 F_two_kinds43 B , g_two_kinds43, F_two_kinds43.kp, F_two_kinds43.bindsN fun _ _ _ _ _ _ us hl => match us, hl with | [_], _ => rfl⟩
  have C_look_paces61 : Cal P w K mg base (L2.CX P w) 3 "look_paces" ["paces"] (LSp K TB0 (psp_look_paces61 (He.ga K "NoBook"))) := ⟨_, fd_look_paces61, ok_look_paces61 F_look_paces61 B C_is_whole G_MOST_KINDS G_MOST_PACE T_NoBook, g_look_paces61, F_look_paces61.kp, F_look_paces61.bindsN fun _ _ _ _ _ _ us hl => match us, hl with | [_], _ => rfl⟩
  have C_is_pair61 : Cal P w K mg base CX0 3 "is_pair" ["thing", "sorts"] (LSp K TB0 psp_is_pair61) := ⟨_, fd_is_pair61, ok_is_pair61 F_is_pair61 B C_is_tuple_of C_is_whole, g_is_pair61, F_is_pair61.kp, F_is_pair61.bindsN fun _ _ _ _ _ _ us hl => match us, hl with | [_, _], _ => rfl⟩
  have C_number_in63 : Cal P w K mg base CX0 1 "number_in" ["word", "least", "most"] (LSp K TB0 psp_number_in63) := ⟨_, fd_number_in63, ok_number_in63 F_number_in63 B G_MOST_FIGURES, g_number_in63, F_number_in63.kp, F_number_in63.bindsN fun _ _ _ _ _ _ us hl => match us, hl with | [_, _, _], _ => rfl⟩
  have C_row_at61 : Cal P w K mg base CX0 1 "row_at" ["rows", "at"] (LSp K TB0 psp_row_at61) := ⟨_, fd_row_at61, ok_row_at61 F_row_at61 B , g_row_at61, F_row_at61.kp, F_row_at61.bindsN fun _ _ _ _ _ _ us hl => match us, hl with | [_, _], _ => rfl⟩
  have C_paces_in61 : Cal P w K mg base CX0 4 "paces_in" ["row"] (LSp K TB0 psp_paces_in61) := ⟨_, fd_paces_in61, ok_paces_in61 F_paces_in61 B C_number_in63 C_look_paces61 G_MOST_PACE K_NoText K_RoadError K_Full K_NoBook K_NoMove K_NoOrder K_NoPassing K_NoRow K_NoSpot K_NoSpots K_NoWay XS_NoBook TF EF_NoText.xf (EF_NoText.no "at" (by decide)), g_paces_in61, F_paces_in61.kp, F_paces_in61.bindsN fun _ _ _ _ _ _ us hl => match us, hl with | [_], _ => rfl⟩
  have C_sorts_in61 : Cal P w K mg base CX0 2 "sorts_in" ["row"] (LSp K TB0 psp_sorts_in61) := ⟨_, fd_sorts_in61, ok_sorts_in61 F_sorts_in61 B C_number_in63 G_MOST_SORTS, g_sorts_in61, F_sorts_in61.kp, F_sorts_in61.bindsN fun _ _ _ _ _ _ us hl => match us, hl with | [_], _ => rfl⟩
  have C_pair_in61 : Cal P w K mg base CX0 2 "pair_in" ["words", "sorts"] (LSp K TB0 psp_pair_in61) := ⟨_, fd_pair_in61, ok_pair_in61 F_pair_in61 B C_number_in63, g_pair_in61, F_pair_in61.kp, F_pair_in61.bindsN fun _ _ _ _ _ _ us hl => match us, hl with | [_, _], _ => rfl⟩
  have C_table_in61 : Cal P w K mg base CX0 4 "table_in" ["row", "u", "v", "sorts"] (LSp K TB0 psp_table_in61) := ⟨_, fd_table_in61, ok_table_in61 F_table_in61 B C_pair_in61 C_is_pair61, g_table_in61, F_table_in61.kp, F_table_in61.bindsN fun _ _ _ _ _ _ us hl => match us, hl with | [_, _, _, _], _ => rfl⟩
  have C_read_book61 : Cal P w K mg base (L2.CX P w) 5 "read_book" ["text"] (LSp K TB0 (psp_read_book61 (He.ga K "NoText"))) := ⟨_, fd_read_book61, ok_read_book61 F_read_book61 B C_paces_in61 C_sorts_in61 C_row_at61 C_two_kinds43 C_table_in61 T_NoText, g_read_book61, F_read_book61.kp, F_read_book61.bindsN fun _ _ _ _ _ _ us hl => match us, hl with | [_], _ => rfl⟩
  have C_lbrows : Cal P w K mg base CX0 1 "_law_book_rows" ["_law_book_here"] (LSp K TB0 psp_lbrows) := ⟨_, fd_lbrows, ok_lbrows F_lbrows B , g_lbrows, F_lbrows.kp, F_lbrows.bindsN fun _ _ _ _ _ _ us hl => match us, hl with | [_], _ => rfl⟩
  have C_lnum : Cal P w K mg base CX0 1 "_law_number" ["_law_word"] (LSp K TB0 psp_lnum) := ⟨_, fd_lnum, ok_lnum F_lnum B , g_lnum, F_lnum.kp, F_lnum.bindsN fun _ _ _ _ _ _ us hl => match us, hl with | [_], _ => rfl⟩
  have C_lwhl : Cal P w K mg base CX0 2 "_law_whole" ["_law_word"] (LSp K TB0 psp_lwhl) := ⟨_, fd_lwhl, ok_lwhl F_lwhl B C_lnum, g_lwhl, F_lwhl.kp, F_lwhl.bindsN fun _ _ _ _ _ _ us hl => match us, hl with | [_], _ => rfl⟩
  have C_lref : ∀ base' : Heap, CalE P w K mg base' 1 "_law_text_refusal" ["_law_e"] (ESp K TB0 (ansRef (He.ga K "NoText")) base') := fun _ => ⟨_, fd_lref, ok_lref F_lref B K_NoText K_Full K_NoBook K_NoMove K_NoOrder K_NoPassing K_NoRow K_NoSpot K_NoSpots K_NoWay TF TV_ValueError EF_NoText.xf (EF_NoText.no "at" (by decide)), g_lref, F_lref.kp, F_lref.bindsN fun _ _ _ _ _ _ us hl => match us, hl with | [_], _ => rfl⟩
  have C_lchg : Cal P w K mg base CX0 2 "_law_changed" ["_law_deal_here", "_law_some", "_law_other"] (LSp K TB0 psp_lchg) := ⟨_, fd_lchg, ok_lchg F_lchg B (C_draw.imp conv_draw), g_lchg, F_lchg.kp, F_lchg.bindsN fun _ _ _ _ _ _ us hl => match us, hl with | [_, _, _], _ => rfl⟩
  have C_lsigns : Cal P w K mg base CX0 1 "_law_signs" [] (LSp K TB0 psp_lsigns) := ⟨_, fd_lsigns, ok_lsigns F_lsigns B , g_lsigns, F_lsigns.kp, F_lsigns.bindsN fun _ _ _ _ _ _ us hl => match us, hl with | [], _ => rfl⟩
  have C_lspoilt : Cal P w K mg base CX0 3 "_law_spoilt_text" ["_law_deal_here", "_law_text", "_law_words"] (LSp K TB0 psp_lspoilt) := ⟨_, fd_lspoilt, ok_lspoilt F_lspoilt B (C_draw.imp conv_draw) C_lchg C_lsigns, g_lspoilt, F_lspoilt.kp, F_lspoilt.bindsN fun _ _ _ _ _ _ us hl => match us, hl with | [_, _, _], _ => rfl⟩
  have C_lpread : Cal P w K mg base CX0 3 "_law_paces_read" ["_law_words"] (LSp K TB0 psp_lpread) := ⟨_, fd_lpread, ok_lpread F_lpread B C_lwhl, g_lpread, F_lpread.kp, F_lpread.bindsN fun _ _ _ _ _ _ us hl => match us, hl with | [_], _ => rfl⟩
  have C_ltread : Cal P w K mg base CX0 2 "_law_table_read" ["_law_words", "_law_u", "_law_v", "_law_size"] (LSp K TB0 psp_ltread) := ⟨_, fd_ltread, ok_ltread F_ltread B C_lnum, g_ltread, F_ltread.kp, F_ltread.bindsN fun _ _ _ _ _ _ us hl => match us, hl with | [_, _, _, _], _ => rfl⟩
  have C_lread61 : Cal P w K mg base CX0 4 "_law_read" ["_law_text"] (LSp K TB0 psp_lread61) := ⟨_, fd_lread61, ok_lread61 F_lread61 B C_lpread C_lnum C_ltread, g_lread61, F_lread61.kp, F_lread61.bindsN fun _ _ _ _ _ _ us hl => match us, hl with | [_], _ => rfl⟩
  have C_ltold61 : Cal P w K mg base CX0 6 "_law_told" ["_law_text"] (LSp K TB0 psp_ltold61) := ⟨_, fd_ltold61, ok_ltold61 F_ltold61 B C_read_book61 C_lref K_NoText K_RoadError K_Full K_NoBook K_NoMove K_NoOrder K_NoPassing K_NoRow K_NoSpot K_NoSpots K_NoWay XS_NoBook TF EF_NoText.xf (EF_NoText.no "at" (by decide)), g_ltold61, F_ltold61.kp, F_ltold61.bindsN fun _ _ _ _ _ _ us hl => match us, hl with | [_], _ => rfl⟩
  exact FnG.of (ok_law61 F_law61 B (C_deal.imp conv_deal) (C_draw.imp conv_draw) (C_book.imp conv_book) C_lbrows C_lspoilt (C_alike.imp conv_alike) C_lread61 C_ltold61)
end Wf
open PySem PySem.W PySem.Calls PyProof.Rows
theorem PySem.Challenge.cw_wherefrom_k61_texts_of_no_book_holds : PySem.Challenge.rw_wherefrom_k61_texts_of_no_book.Holds := by
  w_on; o_law
  refine HandSHeadRun.head_any (r := OpenLaw.row PySem.Challenge.rw_wherefrom_k61_texts_of_no_book) (q := view (OpenLaw.row PySem.Challenge.rw_wherefrom_k61_texts_of_no_book).prog [55]) (H := Wf.hk) (ob := Wf.obA) (M := 4800) (loose := Wf.looseL) (d := HandSHeadRun.topDef (OpenLaw.row PySem.Challenge.rw_wherefrom_k61_texts_of_no_book).prog 55) (kwd := []) Wf.ob_eq
    (by kernel_rfl) (fun s => by kernel_rfl) Wf.run_eq (by kernel_rfl) (by kernel_rfl) (by kernel_rfl) (by rfl) (by first | assumption | decide +kernel) (by decide +kernel) ⟨rfl, rfl, rfl, rfl, rfl, by decide +kernel⟩ ?hw ?hc
  case hw => w_witness2
  case hc =>
    refine Wf.walkG (l := PySem.Challenge.rw_wherefrom_k61_texts_of_no_book) (n := 63) (k := 7) (x := "_law_script") rfl (by decide) (by kernel_rfl) ⟨rfl, by decide, by decide⟩ ?F
    intro w mg fa h Y G hmg0
    obtain ⟨K, KX, c⟩ := Y
    have hmg : mg ("law" : PySem.Str) = some (.ref fa) := by
      have e : (HandSHeadRun.topDef (OpenLaw.row PySem.Challenge.rw_wherefrom_k61_texts_of_no_book).prog 55).name = ("law" : PySem.Str) := by kernel_rfl
      rw [← e]
      exact hmg0
    obtain ⟨fd, hb, hF⟩ := Wf.facts (P := (PySem.Challenge.rw_wherefrom_k61_texts_of_no_book).prog) (w := w) KX G hmg c
    exact ⟨K, fd, Pv.LSp K Pv.TB0 Pv.psp_law, KX, hb, fun H a ns hl hO hS => Pv.end_law (by omega) hO hS, hF⟩
