import PyProof.Rows.All
import HandS.ExcValue
import Wide.All
import OpenK.AllK
import Wide.FinOn
import PyProof.ListRange
import HandS.ForMost
import HandS.RevTup
import HandS.Rev
import HandS.Wide
import HandS.Defaults
import HandS.Conv
import HandS.IsInst
import HandS.Style
import HandS.Steps
import HandS.TupAny
import HandS.TupMul
import HandS.Zip
import HandS.HeadEnd
import KE.GoesMore
import HandS.ExcInit
import HandS.ExcField
import HandS.ExcIs
import KE.KExcIs
import HandS.ExcOwn
import HandS.ClsMeth
import HandS.ForExc
import PyProof.TupleKey
import PyProof.DictRoadsH
import KE.KDictSum
import HandS.Nested
import HandS.Lambda
import HandS.EndTab
import KE.KIndexOf
import HandS.Deep
import HandS.More
import HandS.SortInts
import HandS.FStr
import HandS.StrMore
import PyProof.ListStr
import PyProof.StrBlock2
import HandS.HotCalls
import HandS.MakeKw
import KE.KExcInit
import HandS.ExcBuiltin
import HandS.TupLen
import HandS.NoneIn
import HandS.Head0
import HandS.Head1
import HandS.Head2
import HandS.HeadHook1
import HandS.HeadHook2
import HandS.HeadHook4
import HandS.TupSets
import HandS.SortKw
import HandS.SortOrd
import HandS.SortRule
import PySem.Challenge.RW_wherefrom_k01_refusals
set_option Elab.async false
set_option linter.all false
set_option maxRecDepth 100000
set_option maxHeartbeats 0
/-! An error that is kept as a value, as it stands in the abstract heap. -/
namespace Wf
open PySem PySem.Spec PyProof.Rows L2
/-- an error of the class cls, its dict at dd, at a -/
def ExD (cls : Value) (dd : Addr) (a : Addr) : HO := .ext fun h => ∃ (oe : Obj) (vs : Array Value), h.get? a = some oe ∧ Zc cls (some dd) oe ∧ oe.data = .fields vs ∧ vs[1]? = some .none
theorem exD_ok {P : Program} {w : World} {H : Hp} {h : Heap} {a dd : Addr} {cls : Value} {oe : Obj} {vs : Array Value} (e : h.get? a = some oe) (z : Zc cls (some dd) oe) (d : oe.data = .fields vs) (h1 : vs[1]? = some .none) : ObjOk P w H h a (ExD cls dd a) :=
  ⟨⟨oe, vs, e, z, d, h1⟩, ⟨oe, e⟩, fun _ _ ⟨o, v, q, r⟩ k => ⟨o, v, k o q, r⟩⟩
end Wf
/-! list(reversed(xs)), xs a list -/
namespace Wf
open PySem PySem.Spec PyProof.Rows L2
section
variable {prog : Program} {w : World} {A : Around} {E : Value → Shared → Prop} {s : Shared}
theorem initRev {R : Result → Shared → Prop} {it l S : Addr} {its : Array Value} (hh : A.handled = none) (hi : s.heap.IsRevIter it l ((its.size : Int) - 1)) (hl : s.heap.IsList l its) (hne : l ≠ it) (hn : its.size ≤ sizeLine)
    (hS : s.heap.get? S = some { cls := .type "list", data := .seq #[] }) (hSi : S ≠ it) (hSl : S ≠ l)
    (hR : ∀ (h' : Heap) (tk : Nat) (acc : Array Value) (c : Nat), (∀ b o, b ≠ S → b ≠ it → s.heap.get? b = some o → h'.get? b = some o) → h'.get? S = some { cls := .type "list", dict := none, data := .seq acc c, slots := #[] } →
      ItemsOf (fun i v => its[its.size - 1 - i]? = some v) acc its.size → R (.ok (.ret .none)) { s with heap := h', toks := tk }) :
    wpAny (model prog w) A.in1 (Builtin.«list.__init__» ⟨[.ref S, .ref it], []⟩)
      (fun fin s' => match fin with | .done f => R (.ok f) s' | .again c' => c'.quiet = true ∧ codeAny (model prog w) A c' R s') (fun e s' => R (.error e) s') s := by
  have W := (Walks.listRev (prog := prog) (w := w) (A := A.in1) hh it l hne its).toS
  have hSf : S ∉ [it, l] := by simp only [List.mem_cons, List.not_mem_nil, or_false, not_or]; exact ⟨hSi, hSl⟩
  have e0 : ((its.size : Nat) : Int) - 1 - ((0 : Nat) : Int) = (its.size : Int) - 1 := by omega
  show wpAny _ A.in1 (Builtin.List.listItems (.ref S) >>= fun old => Builtin.List.listUpdate (.ref S) (fun _ => #[]) >>= fun _ => letGo old.toList.reverse >>= fun _ => Builtin.List.listExtendWith (.ref S) (.ref it) .none) _ _ s
  refine wpAny_bind ?_
  unfold Builtin.List.listItems
  refine wpAny_bind (wpAny_seqItems hS rfl (wpAny_pure ?_))
  show wpAny _ A.in1 (updateSeq S (fun _ => #[]) >>= fun _ => letGo (#[] : Array Value).toList.reverse >>= fun _ => Builtin.List.listExtendWith (.ref S) (.ref it) .none) _ _ s
  refine wpAny_bind (wpAny_updateSeq hS rfl ?_)
  have hS2 := Heap.get?_update_self (Obj.mapSeq (fun _ => (#[] : Array Value))) hS rfl
  have oth : ∀ b o, b ≠ S → s.heap.get? b = some o → (s.heap.update S (Obj.mapSeq (fun _ => (#[] : Array Value)))).get? b = some o := fun b o hb e => (Heap.get?_update_other _ _ (Ne.symm hb)).trans e
  refine wpAny_bind (wpAny_letGo ?_)
  have hi2 : (s.heap.update S (Obj.mapSeq (fun _ => (#[] : Array Value)))).IsRevIter it l ((its.size : Int) - 1) := hi.at fun o e => oth it o (Ne.symm hSi) e
  have hl2 : (s.heap.update S (Obj.mapSeq (fun _ => (#[] : Array Value)))).IsList l its := by
    obtain ⟨o, e, r⟩ := hl
    exact ⟨o, oth l o (Ne.symm hSl) e, r⟩
  have hT : ({ s with heap := s.heap.update S (Obj.mapSeq (fun _ => (#[] : Array Value))) } : Shared).TypeIs (.ref it) "list_reverseiterator" := Heap.IsRevIter.typeIs (s := { s with heap := s.heap.update S (Obj.mapSeq (fun _ => (#[] : Array Value))) }) hi2
  have h1 : Builtin.List.listSameRef (.ref S) (.ref it) = false := by simp [Builtin.List.listSameRef, hSi]
  unfold Builtin.List.listExtendWith
  refine wpAny_bind (wpAny_typeOf hT ?_)
  rw [if_neg (by rw [h1]; decide)]
  refine wpAny_bind (wpAny_pyIter_revIter (s := { s with heap := s.heap.update S (Obj.mapSeq (fun _ => (#[] : Array Value))) }) hi2 ?_)
  refine wpAny_bind (wpAny_holding ?_)
  unfold Builtin.List.listLengthHint
  refine wpAny_bind (wpAny_specialOf hT RT.nolen_lri ?_)
  show wpAny _ A.in1 (specialOf (Value.ref it) (Str.ofString "__length_hint__") >>= _) _ _ _
  refine wpAny_bind (wpAny_specialOf hT RT.hint_lri ?_)
  generalize hid : ("list_reverseiterator.__length_hint__" : String) = id0
  wp_delta
  rw [show splitId id0 = some ("list_reverseiterator", "__length_hint__") from by subst hid; decide +kernel]
  subst hid
  refine wpAny_bind (wpAny_isInstance (b := true) hT (by rw [isSubtype_type]; kernel_rfl) ?_)
  refine wpAny_pure ?_
  rw [if_neg (by decide)]
  refine wpAny_pure ⟨plainId_quiet F.plain_extend_loop _, codeAny_extend_loopS W hn _ hSf _ its.size 0 _ _ _ rfl (Nat.zero_le _) ⟨Nat.zero_le _, by rw [e0]; exact hi2, hl2⟩ hS2 (ItemsOf.nil _) fun s' acc' c' hm hS' hacc => ?_⟩
  rw [Moved.eq_with hm]
  refine hR s'.heap s'.toks acc' c' (fun b o hb hbi e => hm.heap b o (fun hmem => ?_) (oth b o hb e)) hS' hacc
  rcases List.mem_cons.mp hmem with e' | hmem
  · exact hb e'
  · exact hbi (List.mem_singleton.mp hmem)
theorem callRev {it l : Addr} {its : Array Value} {Q : Value → Shared → Prop} (hh : A.handled = none) (hi : s.heap.IsRevIter it l ((its.size : Int) - 1)) (hl : s.heap.IsList l its) (hne : l ≠ it) (hn : its.size ≤ sizeLine)
    (hQ : ∀ (h' : Heap) (tk : Nat) (acc : Array Value) (c : Nat), (∀ b o, b ≠ it → s.heap.get? b = some o → h'.get? b = some o) → h'.get? s.heap.objs.size = some { cls := .type "list", dict := none, data := .seq acc c, slots := #[] } →
      ItemsOf (fun i v => its[its.size - 1 - i]? = some v) acc its.size → Q (.ref s.heap.objs.size) { s with heap := h', toks := tk }) :
    wpAny (model prog w) A (call (.type "list") [.ref it]) Q E s := by
  refine callType_codes (Q₁ := fun obj s₁ => obj = .ref s.heap.objs.size ∧ s₁ = { s with heap := s.heap.push { cls := .type "list", data := .seq #[] } }) F.called_list (F.typeCall_list_1 _) F.entry_list_init (code_list_new _ ⟨rfl, rfl⟩) fun obj s₁ h₁ => ?_
  obtain ⟨rfl, rfl⟩ := h₁
  obtain ⟨oi, hoi, _⟩ := id hi
  obtain ⟨ol, hol, _⟩ := id hl
  have hS : (s.heap.push { cls := .type "list", data := .seq #[] }).get? s.heap.objs.size = some { cls := .type "list", data := .seq #[] } := Heap.get?_push_size _ rfl
  refine ⟨⟨_, hS, rfl⟩, F.args_list_init_2 _ _, initRev (s := { s with heap := s.heap.push { cls := .type "list", data := .seq #[] } }) (A := A.in1) hh (hi.at fun o e => Heap.get?_push_of_some _ e) (hl.push _) hne hn hS (Nat.ne_of_gt (Heap.lt_size hoi)) (Nat.ne_of_gt (Heap.lt_size hol)) fun h' tk acc c hk hS' hacc => ?_⟩
  exact ⟨rfl, hQ h' tk acc c (fun b o hb e => hk b o (Nat.ne_of_lt (Heap.lt_size e)) hb (Heap.get?_push_of_some _ e)) hS' hacc⟩
end
/-- list(reversed(x)), x a list: a new list -/
def tLstRev (K : PySem.W.Frag) (te : TE) : TE := fun σ H Q => te σ H fun v H1 => ∃ (a : Addr) (xs : List V), v = .ref a ∧ SqL K H1 a xs ∧ ∀ q, H1 q = none → Q (.ref q) (upd H1 q (.lst xs.reverse))
section
variable {X : Cx}
theorem pe_lstRev {e : Expr} {te : TE} {p p2 pos pos2 : Pos} (hc : X.calm = true) (hg : Gl X "list") (hm : X.mg "list" = none) (hg2 : Gl X "reversed") (hm2 : X.mg "reversed" = none) (he : PE X e te)
    (hs : starEach [e] X.env = (false, eval e X.env) :: starEach [] X.env := by rfl)
    (hs2 : starEach [.Call (.Name "reversed" p2) [e] [] pos2] X.env = (false, eval (.Call (.Name "reversed" p2) [e] [] pos2) X.env) :: starEach [] X.env := by rfl) :
    PE X (.Call (.Name "list" p) [.Call (.Name "reversed" p2) [e] [] pos2] [] pos) (tLstRev X.K te) := by
  refine ⟨fun pins s σ H Q I h => ?_⟩
  refine Call_ (ld_blt I hg hm boot_list (PyProof.Rows.callWith_type1 (args_cons (Call_ (ld_blt I hg2 hm2 PyProof.Rows.boot_reversed (PyProof.Rows.callWith_type1 (args_cons (thn (he.run pins s σ H _ I h) fun u s1 ⟨v, H1, I1, r1, q1⟩ => args_nil ?_) hs) hs rfl))) hs2) hs2 rfl))
  obtain ⟨a, xs, ev, hq, q⟩ := q1
  subst ev
  obtain rfl : u = Value.ref a := r1
  obtain ⟨its, rv, p', hz⟩ := I1.list hq
  refine call_reversed_list p'.isList (args_nil ?_)
  have k0 : ∀ b o, s1.heap.get? b = some o → (s1.heap.push (revObj a ((its.toArray.size : Int) - 1))).get? b = some o := fun b o e => Heap.get?_push_of_some _ e
  have I2 : Inv X pins σ H1 { s1 with heap := s1.heap.push (revObj a ((its.toArray.size : Int) - 1)) } := I1.kept (t' := s1.toks) k0
  obtain ⟨f0, f1, f2, f3, f4, f5⟩ := I1.fpOk (H' := H1) (b := s1.heap.objs.size) (Nat.le_refl _) (I1.hok.fresh (Nat.le_refl _))
  have hl := p'.isList
  obtain ⟨ol, hol, _⟩ := id hl
  have hne : a ≠ s1.heap.objs.size := Nat.ne_of_lt (Heap.lt_size hol)
  have hn : its.toArray.size ≤ sizeLine := by rw [List.size_toArray, ← rv.length]; exact hz
  refine callRev (s := { s1 with heap := s1.heap.push (revObj a ((its.toArray.size : Int) - 1)) }) (I1.ok.hd hc) ⟨_, Heap.get?_push_size _ rfl, rfl, rfl⟩ (hl.push _) hne hn fun h' tk acc c hk hS hi => ?_
  have old : ∀ b o, s1.heap.get? b = some o → h'.get? b = some o := fun b o e => hk b o (Nat.ne_of_lt (Heap.lt_size e)) (k0 b o e)
  have sz : s1.heap.objs.size ≤ (s1.heap.push (revObj a ((its.toArray.size : Int) - 1))).objs.size := by rw [Heap.size_push]; exact Nat.le_succ _
  refine ⟨.ref _, _, I1.laid (t' := tk) old sz (show ObjOk X.prog X.w _ _ _ (.lst xs.reverse) from ⟨by rw [List.length_reverse]; exact hz, acc.toList, c, RT.vals_rev rv hi, ?_⟩), rfl, q _ (I1.hok.fresh sz)⟩
  rw [Array.toArray_toList]
  exact hS
end
end Wf
namespace Wf
open PySem PySem.Spec L2
/-! ### short words for the operators' readings -/
abbrev qAdd : R2 := rI0 fun i j => .int (i + j)
abbrev qSub : R2 := rI0 fun i j => .int (i - j)
abbrev qMul : R2 := rI CMul fun i j => .int (i * j)
abbrev qFdiv : R2 := rI CDiv fun i j => .int (i / j)
abbrev qFdivW : R2 := rI CDivW fun i j => .int (i / j)
abbrev qMod : R2 := rI (fun _ j => 0 < j) fun i j => .int (i % j)
abbrev qPow : R2 := rI CPow fun i j => .int (i ^ j.toNat)
abbrev qGt : R2 := rI0 fun i j => .bl (decide (j < i))
abbrev qGe : R2 := rI0 fun i j => .bl (decide (j ≤ i))
abbrev qMax2 : List V → Hp → VK → Prop := fun xs H Q => ∃ i j, xs = [.int i, .int j] ∧ Q (.int (if j > i then j else i)) H
abbrev qLen (K : PySem.W.Frag) : List V → Hp → VK → Prop := fun xs H Q => ∃ x n, xs = [x] ∧ LenV K x H n ∧ Q (.int n) H
abbrev qInt1 : List V → Hp → VK → Prop := fun xs H Q => (∃ i, xs = [.int i] ∧ Q (.int i) H) ∨ ∃ k, xs = [.bl k] ∧ Q (.int (if k then 1 else 0)) H
abbrev qTupleOf (K : PySem.W.Frag) : List V → Hp → VK → Prop := fun xs H Q => ∃ p ys, xs = [.ref p] ∧ ((SqL K H p ys ∧ ∀ l, H l = none → Q (.ref l) (upd H l (.tup ys))) ∨ (SqT K H p ys ∧ Q (.ref p) H))
/-! ### a def of the module that is called by its name -/
structure Cal (P : Program) (w : World) (K : PySem.W.Frag) (mg : Str → Option Value) (base : Heap) (CX : CXT) (k : Nat) (x : Str) (ps : List Str) (sp : Sp) : Prop where
  ex : ∃ f fd, FnOk P w K mg base CX k f fd ps sp ∧ mg x = some (.ref f) ∧ PySem.W.keepIn K (.ref f) = true ∧ Binds K fd ps []
theorem pe_cal {X : Cx} {k j : Nat} {x : Str} {ps : List Str} {sp : Sp} {e : Expr} {es : List Expr} {t : TA} {p pos : Pos} (C : Cal X.prog X.w X.K X.mg X.base CX0 k x ps sp) (hr : Room j X.A) (hg : Gl X x) (ha : PA X (e :: es) t) (hk : k ≤ j := by decide)
    (hdb : (x == ("__debug__" : Str)) = false := by decide) (he : starEach (e :: es) X.env = (false, eval e X.env) :: starEach es X.env := by rfl) (hpl : (backTo pos (starEach es X.env)).any (·.1) = false := by rfl) :
    PE X (.Call (.Name x p) (e :: es) [] pos) (tCall sp [] E0 t) := by
  obtain ⟨f, fd, G, m, kp, b⟩ := C.ex
  exact pe_call G (hr.mono hk) hg m kp b .nil pass0 ha hdb he hpl
/-- the built-in names that the module leaves alone -/
structure Bl (mg : Str → Option Value) : Prop where
  b_len : mg "len" = none
  b_list : mg "list" = none
  b_tuple : mg "tuple" = none
  b_reversed : mg "reversed" = none
  b_range : mg "range" = none
  b_max : mg "max" = none
  b_min : mg "min" = none
  b_sum : mg "sum" = none
  b_all : mg "all" = none
  b_any : mg "any" = none
  b_zip : mg "zip" = none
  b_enumerate : mg "enumerate" = none
  b_isinstance : mg "isinstance" = none
  b_int : mg "int" = none
  b_bool : mg "bool" = none
  b_str : mg "str" = none
  b_repr : mg "repr" = none
  b_divmod : mg "divmod" = none
  b_abs : mg "abs" = none
  b_sorted : mg "sorted" = none
  b_set : mg "set" = none
  b_dict : mg "dict" = none
  b_pow : mg "pow" = none
  b_ValueError : mg "ValueError" = none
  b_IndexError : mg "IndexError" = none
/-! ### heaps: all but some addresses as before -/
def But (ds : List Addr) (H H' : Hp) : Prop := ∀ a o, a ∉ ds → H a = some o → H' a = some o
theorem But.refl (ds : List Addr) (H : Hp) : But ds H H := fun _ _ _ h => h
theorem But.trans {ds : List Addr} {H H1 H2 : Hp} (a : But ds H H1) (b : But ds H1 H2) : But ds H H2 := fun c o n h => b c o n (a c o n h)
/-! ### the deal: a dict of three numbers and a list of great ones -/
def dealK (s m n : Int) (l : Addr) : List (Key × V) := [(Sum.inr "seed", .int s), (Sum.inr "many", .int m), (Sum.inr "now", .int n), (Sum.inr "left", .ref l)]
structure Deal (H : Hp) (d l : Addr) : Prop where
  ex : ∃ (s m n : Int) (ns : List Int), H d = some (.dK (dealK s m n l)) ∧ H l = some (.lst (ns.map V.int)) ∧ 0 ≤ n ∧ ∀ x ∈ ns, 0 ≤ x
theorem key_ne {x y : Str} (h : (x == y) = false) : ¬ (Sum.inr x : Key) = Sum.inr y := fun e => by
  have := Sum.inr.inj e
  rw [this, beq_self_eq_true] at h
  cases h
theorem dk_seed {s m n : Int} {l : Addr} : valV (dealK s m n l) (Sum.inr "seed") = some (.int s) := valV_pos rfl
theorem dk_many {s m n : Int} {l : Addr} : valV (dealK s m n l) (Sum.inr "many") = some (.int m) := (valV_neg (key_ne (by decide +kernel))).trans (valV_pos rfl)
theorem dk_now {s m n : Int} {l : Addr} : valV (dealK s m n l) (Sum.inr "now") = some (.int n) :=
  (valV_neg (key_ne (by decide +kernel))).trans ((valV_neg (key_ne (by decide +kernel))).trans (valV_pos rfl))
theorem dk_left {s m n : Int} {l : Addr} : valV (dealK s m n l) (Sum.inr "left") = some (.ref l) :=
  (valV_neg (key_ne (by decide +kernel))).trans ((valV_neg (key_ne (by decide +kernel))).trans ((valV_neg (key_ne (by decide +kernel))).trans (valV_pos rfl)))
theorem dk_putNow {s m n k : Int} {l : Addr} : putK (dealK s m n l) (Sum.inr "now") (.int k) = dealK s m k l := by
  unfold putK
  rw [valV_any, dk_now, if_pos (show (some (V.int n)).isSome = true from rfl)]
  show [_, _, _, _] = _
  dsimp only
  rw [if_neg (key_ne (by decide +kernel)), if_neg (key_ne (by decide +kernel)), if_pos rfl, if_neg (key_ne (by decide +kernel))]
  rfl
theorem dk_putMany {s m n k : Int} {l : Addr} : putK (dealK s m n l) (Sum.inr "many") (.int k) = dealK s k n l := by
  unfold putK
  rw [valV_any, dk_many, if_pos (show (some (V.int m)).isSome = true from rfl)]
  show [_, _, _, _] = _
  dsimp only
  rw [if_neg (key_ne (by decide +kernel)), if_pos rfl, if_neg (key_ne (by decide +kernel)), if_neg (key_ne (by decide +kernel))]
  rfl
/-- d["x"], d in a slot -/
theorem rd_dk {σ : St} {H : Hp} {Q : VK} {i : Nat} {d : Addr} {kvs : List (Key × V)} {x : Str} {v : V} (h : H d = some (.dK kvs)) (hi : σ[i]? = some (some (.ref d))) (hv : valV kvs (Sum.inr x) = some v) (q : Q v H) : tDGet (tVar i) (tC (.str x)) σ H Q :=
  ⟨.ref d, hi, d, v, rfl, by rw [← hv]; exact DGet.k (k := Sum.inr x) h, q⟩
/-- d["x"] = e, the reading of e done before -/
theorem wr_dk {σ : St} {H : Hp} {D : Ends} {i : Nat} {d : Addr} {kvs kvs' : List (Key × V)} {x : Str} {v : V} (h : H d = some (.dK kvs)) (hi : σ[i]? = some (some (.ref d))) (hl : kvs.length < sizeLine) (hp : putK kvs (Sum.inr x) v = kvs') (q : D.nx σ (upd H d (.dK kvs'))) :
    tVar i σ H fun y H2 => tC (.str x) σ H2 fun z H3 => ∃ a H4, y = .ref a ∧ DPut H3 a z v H4 ∧ D.nx σ H4 :=
  ⟨.ref d, hi, d, upd H d (.dK kvs'), rfl, by rw [← hp]; exact DPut.k (k := Sum.inr x) h hl, q⟩
/-- the slots at the entry of a def of n names -/
def sN (n : Nat) (vs : List V) : St := vs.map some ++ List.replicate (n - vs.length) none
abbrev EndsQ (Q : VK) : Ends := { nx := fun _ H' => Q .non H', rt := Q }
abbrev FnP (K : PySem.W.Frag) (x : Str) (st : Stmt) (f : Addr) (fd : FuncData) : Prop := FunD K x x (defArgs st) (defBody st) (defScope st) [] [] f fd
/-! ### _law_draw -/
/-- a draw by n: some number from 0 on below n; the deal goes on, all else stands -/
def sp_draw : Sp := fun vs H Q _ => ∃ (d l : Addr) (n : Int), vs = [.ref d, .int n] ∧ 0 < n ∧ n < 2 ^ 200 ∧ Deal H d l ∧
  ∀ (k : Int) (H' : Hp), 0 ≤ k → k < n → But [d, l] H H' → Deal H' d l → Q (.int k) H'
def t_draw (K : PySem.W.Frag) : TS :=
  tSeq (tWhile (tAnd (tTest (tOp rEq (tDGet (tVar 0) (tC (.str "now"))) (tC (.int 0)))) (tTest (tOp qGt (tCB (qLen K) (tCons (tDGet (tVar 0) (tC (.str "left"))) (tNil))) (tC (.int 0))))) (sDPut (tVar 0) (tC (.str "now")) (tBM0 K "list" rPop (tDGet (tVar 0) (tC (.str "left"))))))
    (tSeq (tIfS (tTest (tOp qGt (tDGet (tVar 0) (tC (.str "now"))) (tC (.int 0)))) (tSeq (tAsg (tOp qMod (tDGet (tVar 0) (tC (.str "now"))) (tVar 1)) (gName 4))
    (tSeq (sDPut (tVar 0) (tC (.str "now")) (tOp qFdivW (tDGet (tVar 0) (tC (.str "now"))) (tVar 1)))
    (tRet (tVar 4)))) (tNext))
    (tSeq (sDPut (tVar 0) (tC (.str "many")) (tOp qAdd (tDGet (tVar 0) (tC (.str "many"))) (tC (.int 1))))
    (tSeq (tAsg (tOp qMod (tOp qMul (tOp qAdd (tDGet (tVar 0) (tC (.str "seed"))) (tOp qMul (tC (.int 40692)) (tDGet (tVar 0) (tC (.str "many"))))) (tC (.int 48271))) (tC (.int 2147483629))) (gName 2))
    (tSeq (tAsg (tOp qMod (tOp qAdd (tOp qAdd (tOp qMul (tVar 2) (tVar 2)) (tOp qMul (tC (.int 7919)) (tDGet (tVar 0) (tC (.str "many"))))) (tDGet (tVar 0) (tC (.str "seed")))) (tC (.int 2147483563))) (gName 3))
    (tRet (tOp qMod (tOp qFdiv (tOp qAdd (tOp qMul (tOp qMod (tOp qMul (tVar 3) (tVar 3)) (tC (.int 2147483647))) (tC (.int 30103))) (tVar 2)) (tC (.int 4096))) (tVar 1)))))))
theorem ifd {p A B : Prop} [Decidable p] (h1 : p → A) (h2 : ¬ p → B) : if decide p = true then A else B := by
  by_cases c : p
  · rw [if_pos (decide_eq_true c)]
    exact h1 c
  · rw [if_neg (by simpa using c)]
    exact h2 c
theorem mp {j : Int} (h : decide (0 < j) = true) : 0 < j := of_decide_eq_true h
theorem cm_mod {a b j : Int} (h : decide (0 < b) = true) (h2 : decide (b ≤ 2 ^ 64) = true) : CMul (a % b) j := by
  have h1 := of_decide_eq_true h
  have h2 := of_decide_eq_true h2
  have h3 := Int.emod_nonneg a (show b ≠ 0 by omega)
  have h4 := Int.emod_lt_of_pos a h1
  exact .inl ⟨by omega, by omega⟩
theorem len4 {s m n : Int} {l : Addr} : (dealK s m n l).length < sizeLine := by show 4 < sizeLine; decide
theorem mod_lt {a b : Int} (h : 0 < b) : 0 ≤ a % b ∧ a % b < b := ⟨Int.emod_nonneg _ (by omega), Int.emod_lt_of_pos _ h⟩
theorem pure_draw {K : PySem.W.Frag} (vs : List V) (H : Hp) (Q : VK) (E : XK) (h : sp_draw vs H Q E) : t_draw K (EndsQ Q) (sN 5 vs) H := by
  obtain ⟨d, l, n, rfl, hn, hn2, hD, k⟩ := h
  show t_draw K _ [some (.ref d), some (.int n), none, none, none] H
  -- the loop: the deal stands, all else too
  refine ⟨fun m σ H1 => σ = [some (.ref d), some (.int n), none, none, none] ∧ But [d, l] H H1 ∧ ∃ (s t n1 : Int) (ns : List Int), H1 d = some (.dK (dealK s t n1 l)) ∧ H1 l = some (.lst (ns.map V.int)) ∧ 0 ≤ n1 ∧ (∀ x ∈ ns, 0 ≤ x) ∧ m = ns.length, ?_, ?_⟩
  · obtain ⟨s, t, n1, ns, h1, h2, h3, h4⟩ := hD.ex
    exact ⟨_, rfl, .refl _ _, s, t, n1, ns, h1, h2, h3, h4, rfl⟩
  rintro m σ H1 ⟨rfl, hB, s, t, n1, ns, h1, h2, h3, h4, rfl⟩
  have hne : d ≠ l := ne_of h1 h2 (by intro z; cases z)
  refine rd_dk h1 rfl dk_now ⟨rfl, _, rfl, ?_⟩
  have after : ∀ ns : List Int, H1 l = some (.lst (ns.map V.int)) → (∀ x ∈ ns, 0 ≤ x) → tSeq (tIfS (tTest (tOp qGt (tDGet (tVar 0) (tC (.str "now"))) (tC (.int 0)))) (tSeq (tAsg (tOp qMod (tDGet (tVar 0) (tC (.str "now"))) (tVar 1)) (gName 4))
    (tSeq (sDPut (tVar 0) (tC (.str "now")) (tOp qFdivW (tDGet (tVar 0) (tC (.str "now"))) (tVar 1)))
    (tRet (tVar 4)))) (tNext))
    (tSeq (sDPut (tVar 0) (tC (.str "many")) (tOp qAdd (tDGet (tVar 0) (tC (.str "many"))) (tC (.int 1))))
    (tSeq (tAsg (tOp qMod (tOp qMul (tOp qAdd (tDGet (tVar 0) (tC (.str "seed"))) (tOp qMul (tC (.int 40692)) (tDGet (tVar 0) (tC (.str "many"))))) (tC (.int 48271))) (tC (.int 2147483629))) (gName 2))
    (tSeq (tAsg (tOp qMod (tOp qAdd (tOp qAdd (tOp qMul (tVar 2) (tVar 2)) (tOp qMul (tC (.int 7919)) (tDGet (tVar 0) (tC (.str "many"))))) (tDGet (tVar 0) (tC (.str "seed")))) (tC (.int 2147483563))) (gName 3))
    (tRet (tOp qMod (tOp qFdiv (tOp qAdd (tOp qMul (tOp qMod (tOp qMul (tVar 3) (tVar 3)) (tC (.int 2147483647))) (tC (.int 30103))) (tVar 2)) (tC (.int 4096))) (tVar 1))))))
      { nx := fun _ H' => Q .non H', rt := Q } [some (.ref d), some (.int n), none, none, none] H1 := by
    intro ns h2 h4
    refine rd_dk h1 rfl dk_now ⟨_, _, rfl, rfl, _, rfl, ?_⟩
    refine ifd (fun c => ?_) (fun c => ?_)
    · refine rd_dk h1 rfl dk_now ⟨_, rfl, _, _, rfl, rfl, hn, ?_⟩
      refine rd_dk h1 rfl dk_now ⟨_, rfl, _, _, rfl, rfl, wide_div hn (b := 200) (by omega) (by decide) (by decide), ?_⟩
      refine wr_dk h1 rfl len4 dk_putNow ⟨_, rfl, ?_⟩
      obtain ⟨m1, m2⟩ := mod_lt (a := n1) hn
      refine k _ _ m1 m2 (hB.trans fun a o ha e => ?_) ⟨s, t, n1 / n, ns, upd_same, ?_, Int.ediv_nonneg h3 (by omega), h4⟩
      · rw [upd_ne (by intro z; subst z; exact ha List.mem_cons_self)]
        exact e
      · rw [upd_ne (Ne.symm hne)]
        exact h2
    · refine rd_dk h1 rfl dk_many ⟨_, _, rfl, rfl, ?_⟩
      refine wr_dk h1 rfl len4 dk_putMany ?_
      refine rd_dk upd_same rfl dk_seed ?_
      refine rd_dk upd_same rfl dk_many ⟨_, _, rfl, rfl, .inl ⟨by decide, by decide⟩, _, _, rfl, rfl, _, _, rfl, rfl, .inr ⟨by decide, by decide⟩, _, _, rfl, rfl, mp rfl, ?_⟩
      refine ⟨_, rfl, _, rfl, _, _, rfl, rfl, cm_mod rfl rfl, ?_⟩
      refine rd_dk upd_same rfl dk_many ⟨_, _, rfl, rfl, .inl ⟨by decide, by decide⟩, _, _, rfl, rfl, ?_⟩
      refine rd_dk upd_same rfl dk_seed ⟨_, _, rfl, rfl, _, _, rfl, rfl, mp rfl, ?_⟩
      refine ⟨_, rfl, _, rfl, _, _, rfl, rfl, cm_mod rfl rfl, _, _, rfl, rfl, mp rfl, _, _, rfl, rfl, cm_mod rfl rfl, _, rfl, _, _, rfl, rfl, _, _, rfl, rfl, ⟨by decide, by decide⟩, _, rfl, _, _, rfl, rfl, hn, ?_⟩
      refine k _ _ (mod_lt hn).1 (mod_lt hn).2 (hB.trans fun a o ha e => ?_) ⟨s, t + 1, n1, ns, upd_same, ?_, h3, h4⟩
      · rw [upd_ne (by intro z; subst z; exact ha List.mem_cons_self)]
        exact e
      · rw [upd_ne (Ne.symm hne)]
        exact h2
  refine ifd (fun c => ?_) (fun c => ?_)
  · refine rd_dk h1 rfl dk_left ⟨_, (ns.map V.int).length, rfl, .inl ⟨_, SqL.of h2, rfl⟩, _, _, rfl, rfl, _, rfl, ?_⟩
    refine ifd (fun c2 => ?_) (fun c2 => ?_)
    · refine ⟨fun σ' H' => ∃ m', m' < ns.length ∧ _, fun _ _ h => h, ?_⟩
      have hpos : ns ≠ [] := by
        rintro rfl
        exact absurd c2 (by decide)
      refine rd_dk h1 rfl dk_left ⟨.inl ⟨rfl, _, SqL.of h2⟩, l, ns.map V.int, .int (ns.getLast hpos), rfl, rfl, h2, ?_, ?_⟩
      · rw [List.getElem?_map, List.length_map, ← List.getLast?_eq_getElem?, List.getLast?_eq_some_getLast hpos] <;> rfl
      · refine wr_dk (by rw [upd_ne hne]; exact h1) rfl len4 dk_putNow ⟨ns.length - 1, ?_, rfl, ?_, s, t, ns.getLast hpos, ns.dropLast, upd_same, ?_, h4 _ (List.getLast_mem hpos), fun x hx => h4 x ((List.dropLast_sublist ns).subset hx), by rw [List.length_dropLast]⟩
        · have := List.length_pos_iff.mpr hpos
          omega
        · intro a o ha e
          have h1' := hB a o ha e
          rw [upd_ne (by intro z; subst z; exact ha List.mem_cons_self), upd_ne (by intro z; subst z; exact ha (by simp))]
          exact h1'
        · rw [upd_ne (Ne.symm hne), upd_same, List.map_dropLast]
    · exact after ns h2 h4
  · exact after ns h2 h4
end Wf
/-! list(zip(t, u)), t and u tuples -/
namespace Wf
open PySem PySem.Spec
end Wf
/-! Defs that are called where no repr is under way (guards are none): for the text that repr gives. -/
namespace Wf
open PySem PySem.Spec L2
section
variable {P : Program} {w : World} {K : PySem.W.Frag} {mg : Str → Option Value} {base : Heap} {CX : CXT} {k : Nat} {f : Addr} {fd : FuncData} {ps : List Str} {sp : Sp}
structure FnG (P : Program) (w : World) (K : PySem.W.Frag) (mg : Str → Option Value) (base : Heap) (CX : CXT) (k : Nat) (f : Addr) (fd : FuncData) (ps : List Str) (sp : Sp) : Prop where
  len : ∀ vs H Q E, sp vs H Q E → vs.length = ps.length
  run : ∀ (A : Around), A.guards = some [] → ∀ (outer : List Env) (s : Shared) (H : Hp) (args : Args) (us : List Value) (vs : List V) (Q : VK) (E : XK), Room k A → Env0 P w K mg base A outer s H →
    BindsTo s fd args (ps.zip us) → Vals vs us → sp vs H Q E → codeAny (model P w) A (.call (.ref f) args) (CR CX outer P w H s Q E) s
theorem FnG.of (F : FnOk P w K mg base CX k f fd ps sp) : FnG P w K mg base CX k f fd ps sp := ⟨F.len, fun A _ => F.run A⟩
/-- the rule of a def, its body where no guard is -/
theorem okG {x qual : Str} {params : Arguments} {body : List Stmt} {scope : Scope} {dvs : List V} {kws : List (Str × V)} {N : List Str} (F : FunD K x qual params body scope dvs kws f fd) (S : FnScope N ps scope) (len : ∀ vs H Q E, sp vs H Q E → vs.length = ps.length)
    (hb : ∀ (cdv : Value) (A : Around), A.guards = some [] → ∀ (outer : List Env) (s : Shared) (H : Hp) (vs : List V) (Q : VK) (E : XK), Room k (A.deeper (PyProof.Rows.envOfC qual scope s.heap.objs.size f cdv)) → sp vs H Q E →
      ∃ t, PSs (cxOf CX P w K mg base N qual scope f cdv A outer s H E) body t ∧ t (EndsQ Q) (start N vs) H) : FnG P w K mg base CX (k + 1) f fd ps sp := by
  obtain ⟨oc, od, dV, kV, doc, pm, an, cdv, ct, osl, rfl, lk, hcd, _, _⟩ := F.ex
  refine ⟨len, fun A hG outer s H args us vs Q E hr e0 hB rV hq => ?_⟩
  have KX : K.In s.heap := e0.mod.kin.keeps fun b o e => (e0.bs b o e).1
  refine PySem.codeAny_call_function hr.depth (KX _ _ lk) rfl S.co S.gen rfl (PySem.W.codeRec_of KX hcd) (hB _ _ _ _ ?_)
  refine PySem.wpAny_newFunctionEnv_cells S.kind (fun y hy => ?_) fun env he s1 x => ?_
  · obtain ⟨n, v⟩ := y
    rcases S.par n (List.of_mem_zip hy).1 with q | q
    · exact .inl q
    · exact .inr ⟨q, PySem.W.cellsFrom_some _ _ _ (.inl q)⟩
  · subst he
    have lim : s.heap.NoLimit := e0.mod.nolimit.keeps fun b o e => (e0.bs b o e).1
    refine ⟨lim.keeps x.toInCall.keep, PySem.codeAny_func ?_⟩
    obtain ⟨t, ht, hq'⟩ := hb cdv A hG outer s H vs Q E (hr.deeper _) hq
    refine wpAny_mono (ht.run [] s1 (start N vs) H _ (inv_start S hr.hd e0 (len _ _ _ _ hq) rV x) hq') (fun fl s' hs => ?_) fun e s' hs => hs
    cases fl with
    | ret u =>
      obtain ⟨v, σ', H', J, rv, q⟩ := hs
      exact ⟨v, H', J.os, J.bare, J.base, J.hok, rv, q⟩
    | next =>
      obtain ⟨σ', H', J, q⟩ := hs
      exact ⟨V.non, H', J.os, J.bare, J.base, J.hok, rfl, q⟩
    | brk => exact hs.elim fun _ h => h.elim fun _ h => h.2.elim
    | cont => exact hs.elim fun _ h => h.elim fun _ h => h.2.elim
end
/-! ### such a def called by its name -/
/-! ### repr of data -/
mutual
theorem Dp_noDict {K : PySem.W.Frag} {H : Hp} : ∀ (d : PyData) (v : V), Dp K H v d → d.hasDict = false
  | .none, _, _ => rfl
  | .bool _, _, _ => rfl
  | .int _, _, _ => rfl
  | .str _, _, _ => rfl
  | .list ds, _, h => by
    cases h with
    | lst _ ha => exact DpAll_noDict ds _ ha
  | .tuple ds, _, h => by
    cases h with
    | tup _ ha => exact DpAll_noDict ds _ ha
  | .dict _, _, h => by cases h
theorem DpAll_noDict {K : PySem.W.Frag} {H : Hp} : ∀ (ds : List PyData) (vs : List V), DpAll K H vs ds → PyData.hasDictAll ds = false
  | [], _, _ => rfl
  | d :: ds, _, h => by
    cases h with
    | cons h1 h2 =>
      show (d.hasDict || PyData.hasDictAll ds) = false
      rw [Dp_noDict d _ h1, DpAll_noDict ds _ h2]
      rfl
end
def rRepr (K : PySem.W.Frag) : List V → Hp → VK → Prop := fun vs H Q => ∃ (a : Addr) (d : PyData), vs = [.ref a] ∧ Dp K H (.ref a) d ∧ d.showable = true ∧ d.depth ≤ 60 ∧ d.shown.length ≤ sizeLine ∧ Q (.str d.shown) H
theorem call_repr {X : Cx} {k : Nat} (hr : Room k X.A) (hG : X.A.guards = some []) : CallR X (.builtin "repr") (rRepr X.K) := by
  intro pins s σ H vs us Q I r h
  obtain ⟨a, d, rfl, hd, hs, hp, hz, q⟩ := h
  cases r with
  | cons r rr =>
    cases rr
    obtain ⟨as, rd⟩ := Dp.reads I d _ _ hd r
    cases r
    have hu := hr.units
    refine repr_of_reads' rd hs (PyData.noDict_hsm (Dp_noDict d _ hd)) hG (by omega) (fun _ _ e => e) (fun h' u tk hk => ?_) hz
    exact ⟨.str d.shown, H, I.kept (t' := tk) hk, ⟨u, rfl⟩, q⟩
/-! ### the end of a law whose def wants that no guard is -/
theorem lawG {P : Program} {w : World} {K : PySem.W.Frag} {mg mb : Str → Option Value} {k : Nat} {fa a : Addr} {fd : FuncData} {x : Str} {sp : Sp} {s : Shared} {us : List Value} {ns : List Int}
    (KX : K.In s.heap) (hmg : s.heap.Ns mainGlobals mg) (hb : s.heap.Ns builtinsNs mb) (hbb : ∀ x : Str, x ≠ "__name__" → mb x = bootBuiltins x) (hlim : s.heap.NoLimit) (hg : s.gens = #[])
    (ha : s.heap.get? a = some { cls := .type "list", data := .seq us.toArray }) (hi : PyProof.Rows.IntsAre us ns) (hl : ns.length ≤ sizeLine) (hr : Room k callerA)
    (F : ∀ base : Heap, K.In base → base.Ns mainGlobals mg → FnG P w K mg base CX0 k fa fd [x] sp) (hbind : ∀ (s : Shared) (u : Value), BindsTo s fd ⟨[u], []⟩ [(x, u)])
    (hsp : ∀ H : Hp, Only H → SqL K H a (ns.map V.int) → sp [.ref a] H (fun v _ => v = .bl true) fun _ _ _ => False) :
    codeAny (model P w) callerA (.call (.ref fa) ⟨[.ref a], []⟩) (fun r s' => r = .ok (.ret (.bool true)) ∧ PySem.OldK s.heap s'.heap ∧ s'.os = s.os ∧ PyProof.Rows.AllBare s'.gens) s := by
  have rv := vals_ints hi
  -- over a heap that tracks the script at most
  have go : ∀ H : Hp, Only H → SqL K H a (ns.map V.int) → HOk P w H s.heap → (∀ b, H b ≠ none → b = a) → (H a ≠ none → K.lookup a = none) →
      codeAny (model P w) callerA (.call (.ref fa) ⟨[.ref a], []⟩) (fun r s' => r = .ok (.ret (.bool true)) ∧ PySem.OldK s.heap s'.heap ∧ s'.os = s.os ∧ PyProof.Rows.AllBare s'.gens) s := by
    intro H hO hS hok hA hK
    have notA : ∀ {b : Addr} {o : Obj} {es : Array DictEntry} {ep : Nat}, s.heap.get? b = some o → o.data = .dict es ep → H b = none := fun {b o es ep} e d => by
      by_cases hb : b = a
      · subst hb
        rw [ha] at e
        cases e
        cases d
      · cases q : H b with
        | none => rfl
        | some u => exact absurd (hA b (by rw [q]; exact fun z => nomatch z)) hb
    have nsK : ∀ {b : Addr} {m : Str → Option Value}, s.heap.Ns b m → (hidT s.heap H).Ns b m := fun {b m} n => by
      obtain ⟨o, es, ep, e, d, r⟩ := n
      exact ⟨o, es, ep, hidT_get e (notA e d), d, r⟩
    have hKb : K.In (hidT s.heap H) := fun b o e => by
      refine hidT_get (KX b o e) ?_
      by_cases hb : b = a
      · subst hb
        cases q : H b with
        | none => rfl
        | some u =>
          rw [hK (by rw [q]; exact fun z => nomatch z)] at e
          cases e
      · cases q : H b with
        | none => rfl
        | some u => exact absurd (hA b (by rw [q]; exact fun z => nomatch z)) hb
    obtain ⟨mc, l1, l2⟩ := hlim
    have e0 : Env0 P w K mg (hidT s.heap H) callerA [] s H :=
      ⟨rfl, ⟨hKb, nsK hmg, ⟨mb, nsK hb, hbb⟩, ⟨mc, nsK l1, l2⟩⟩, fun b o e => of_hidT e, Nat.le_of_eq (hidT_size _ _), trivial, fun b hb => (List.not_mem_nil hb).elim, hok, .of_eq hg⟩
    refine codeAny_mono ((F _ hKb (nsK hmg)).run callerA rfl [] s H ⟨[.ref a], []⟩ [.ref a] [.ref a] _ _ hr e0 (hbind s (.ref a)) (.cons rfl .nil) (hsp H hO hS)) fun r s' h => ?_
    cases r with
    | error e => exact False.elim h
    | ok fl =>
      cases fl with
      | next => exact False.elim h
      | brk => exact False.elim h
      | cont => exact False.elim h
      | ret u =>
        obtain ⟨v, H', os, bare, un, hok', r', q⟩ := h
        cases (show v = .bl true from q)
        cases (show u = Value.bool true from r')
        refine ⟨rfl, PySem.OldK.of_keep fun b o e => ?_, os, bare⟩
        rcases hO b with z | ⟨ob, xs, z⟩
        · exact un.keep b o e z (fun y => (List.not_mem_nil y).elim) (fun y => (List.not_mem_nil y).elim)
        · have e1 := (hok b _ z).1
          rw [e] at e1
          cases e1
          exact (hok' b _ (un.frzs b _ _ z)).1
  cases hk : K.lookup a with
  | some o =>
    have e := KX a o hk
    rw [ha] at e
    cases e
    refine go (fun _ => none) (fun _ => .inl rfl) (.inr ⟨_, us.toArray, _, hk, rfl, rfl, rfl, ?_, ?_⟩) (fun b u z => nomatch z) (fun b z => absurd rfl z) fun z => absurd rfl z
    · rw [List.size_toArray, hi.length]
      exact hl
    · simpa using rv
  | none =>
    let H : Hp := fun b => if b = a then some (.frz { cls := .type "list", data := .seq us.toArray } (.lst (ns.map V.int))) else none
    have h1 : H a = some (.frz { cls := .type "list", data := .seq us.toArray } (.lst (ns.map V.int))) := if_pos rfl
    have h0 : ∀ b, b ≠ a → H b = none := fun b hb => if_neg hb
    have hc : ∀ b, b = a ∨ H b = none := fun b => by
      by_cases hb : b = a
      · exact .inl hb
      · exact .inr (h0 b hb)
    refine go H (fun b => ?_) (.inl (.inr ⟨_, h1⟩)) (fun b u z => ?_) (fun b z => ?_) fun _ => hk
    · rcases hc b with rfl | z
      · exact .inr ⟨_, _, h1⟩
      · exact .inl z
    · rcases hc b with rfl | y
      · rw [h1] at z
        cases z
        exact ⟨ha, by rw [List.length_map]; exact hl, us, _, rv, ha⟩
      · rw [y] at z
        cases z
    · rcases hc b with y | y
      · exact y
      · exact absurd y z
theorem walkG {l : PySem.W.OpenLaw} {n k : Nat} {q : Program} {loose : List Str} {XP : (Str → Option Value) → Heap → Prop} {YP : World → Heap → Prop} {d : DefRec} {x : Str}
    (hn : l.most = some n) (hn2 : n ≤ sizeLine) (hdf : d.params.defaults = []) (hr : Room k callerA)
    (F : ∀ (w : World) (mg : Str → Option Value) (fa : Addr) (h : Heap), YP w h → h.Ns mainGlobals mg → mg d.name = some (.ref fa) →
      ∃ (K : PySem.W.Frag) (fd : FuncData) (sp : Sp), K.In h ∧ (∀ (s : Shared) (u : Value), BindsTo s fd ⟨[u], []⟩ [(x, u)]) ∧
        (∀ (H : Hp) (a : Addr) (ns : List Int), ns.length ≤ n → Only H → SqL K H a (ns.map V.int) → sp [.ref a] H (fun v _ => v = .bl true) fun _ _ _ => False) ∧
        ∀ base : Heap, K.In base → base.Ns mainGlobals mg → FnG l.prog w K mg base CX0 k fa fd [x] sp) :
    PySem.W.WalkO q loose XP YP l.row.toRowW d [] (fun f vs => PySem.call f vs) := by
  refine Att.attach_call hn hdf fun w s0 s1 mg mb fa o pm cd doc a vs ns G Y ho hd hcd hmg hobj hints hlen hg => ?_
  obtain ⟨K, fd, sp, KX, hb, hsp, hF⟩ := F w mg fa _ Y G.T.g hmg
  exact lawG KX G.T.g G.T.b G.T.builtins G.T.nolimit hg hobj hints (Nat.le_trans hlen hn2) hr hF hb fun H hO hS => hsp H a ns hlen hO hS
end Wf
/-! Data that never changes (None, truths, whole numbers, texts, tuples), and _law_alike. -/
namespace Wf
open PySem PySem.Spec L2
/-! ### what stands in tuples stays -/
def Tp (K : PySem.W.Frag) (H H' : Hp) : Prop := ∀ a xs, SqT K H a xs → SqT K H' a xs
theorem Tp.refl (K : PySem.W.Frag) (H : Hp) : Tp K H H := fun _ _ h => h
theorem Tp.trans {K : PySem.W.Frag} {H H1 H2 : Hp} (a : Tp K H H1) (b : Tp K H1 H2) : Tp K H H2 := fun x xs h => b x xs (a x xs h)
theorem Same.tp {K : PySem.W.Frag} {H H' : Hp} (s : Same H H') : Tp K H H' := fun a xs h => by
  rcases h with (h | ⟨o, h⟩) | h
  · exact .inl (.inl (s _ _ h))
  · exact .inl (.inr ⟨o, s _ _ h⟩)
  · exact .inr h
theorem same_new {H : Hp} {p : Addr} {o : HO} (h : H p = none) : Same H (upd H p o) := fun a u e => by
  rw [upd_ne (ne_of_none e h)]
  exact e
def NoT (H : Hp) (d : Addr) : Prop := ∀ xs, ¬ Rd H d (.tup xs)
theorem not_lst {H : Hp} {d : Addr} {ys : List V} (h : H d = some (.lst ys)) : NoT H d := fun xs r => by
  rcases r with r | ⟨o, r⟩ <;> rw [h] at r <;> cases r
theorem But.tp {K : PySem.W.Frag} {ds : List Addr} {H H' : Hp} (b : But ds H H') (hd : ∀ d ∈ ds, NoT H d) : Tp K H H' := fun a xs h => by
  rcases h with h | h
  · have ha : a ∉ ds := fun z => hd a z xs h
    rcases h with h | ⟨o, h⟩
    · exact .inl (.inl (b _ _ ha h))
    · exact .inl (.inr ⟨o, b _ _ ha h⟩)
  · exact .inr h
theorem tp_upd {K : PySem.W.Frag} {H : Hp} {d : Addr} {o : HO} (h : NoT H d) : Tp K H (upd H d o) := But.tp (ds := [d]) (fun a u ha e => by
  rw [upd_ne (by intro z; subst z; exact ha List.mem_cons_self)]
  exact e) fun x hx => by
    rw [List.mem_singleton.mp hx]
    exact h
mutual
def noL : PyData → Bool
  | .none | .bool _ | .int _ => true
  | .str x => PyData.canLay0 (.str x)
  | .tuple ds => noLAll ds
  | .list _ | .dict _ => false
def noLAll : List PyData → Bool
  | [] => true
  | d :: ds => noL d && noLAll ds
end
section
variable {K : PySem.W.Frag} {H H' : Hp}
mutual
theorem Dp.tp (t : Tp K H H') : ∀ (d : PyData) (v : V), noL d = true → Dp K H v d → Dp K H' v d
  | .none, _, _, h => by cases h; exact .non
  | .bool b, _, _, h => by cases h; exact .bl b
  | .int i, _, _, h => by cases h; exact .int i
  | .str x, _, _, h => by cases h; exact .str x
  | .list _, _, n, _ => nomatch n
  | .dict _, _, _, h => by cases h
  | .tuple ds, _, n, h => by
    cases h with
    | tup hs ha => exact .tup (t _ _ hs) (DpAll.tp t ds _ n ha)
theorem DpAll.tp (t : Tp K H H') : ∀ (ds : List PyData) (vs : List V), noLAll ds = true → DpAll K H vs ds → DpAll K H' vs ds
  | [], _, _, h => by cases h; exact .nil
  | d :: ds, _, n, h => by
    have n2 : (noL d && noLAll ds) = true := n
    rw [Bool.and_eq_true] at n2
    cases h with
    | cons h1 h2 => exact .cons (Dp.tp t d _ n2.1 h1) (DpAll.tp t ds _ n2.2 h2)
end
theorem DpAll.len : ∀ {vs : List V} {ds : List PyData}, DpAll K H vs ds → vs.length = ds.length
  | _, _, .nil => rfl
  | _, _, .cons _ h => congrArg (· + 1) (DpAll.len h)
theorem DpAll.get : ∀ {vs : List V} {ds : List PyData} {i : Nat} {d : PyData}, DpAll K H vs ds → ds[i]? = some d → ∃ v, vs[i]? = some v ∧ Dp K H v d
  | _, _, _, _, .nil, e => by simp at e
  | _, _, 0, _, .cons h _, e => by simp at e; subst e; exact ⟨_, rfl, h⟩
  | _, _, i + 1, _, .cons _ h, e => by
    obtain ⟨v, e1, e2⟩ := DpAll.get (i := i) h (by simpa using e)
    exact ⟨v, by simpa using e1, e2⟩
/-! ### isinstance of data -/
def tyN : PyData → String
  | .none => "NoneType" | .bool _ => "bool" | .int _ => "int" | .str _ => "str" | .tuple _ => "tuple" | .list _ => "list" | .dict _ => "dict"
theorem Dp.ty {d : PyData} {v : V} (n : noL d = true) (h : Dp K H v d) : TyX K H v (.type (tyN d)) := by
  cases h with
  | non => exact .base .non
  | bl b => exact .base (.bl b)
  | int i => exact .base (.int i)
  | str x => exact .base (.str x)
  | lst hs ha => exact nomatch n
  | tup hs ha =>
    rcases hs with (h | ⟨o, h⟩) | ⟨o, its, m, hk, hc, _⟩
    · exact .base (.tup h)
    · exact .fTuple h
    · exact .kTuple hk hc
end
/-! ### _law_alike: the same data twice -/
end Wf
/-! The books that the draws make. -/
namespace Wf
open PySem PySem.Spec L2
def dP (p : Int × Int) : PyData := .tuple [.int p.1, .int p.2]
theorem noL_dP (p : Int × Int) : noL (dP p) = true := rfl
/-! ### _law_pair -/
def pairF (f s : Int) (st : Int × Int) (a b : Int) : Int × Int :=
  if f = 0 then (b, a) else if f = 1 then (a, b) else if f = 2 then ((if b < a then b else a), (if b > a then b else a)) else if f = 3 then (b, (2 * b - a) % s) else ((b + st.2) % s, (a + st.1) % s)
/-! ### _law_paces -/
structure PacesOk (m : Int) (ps : List Int) : Prop where
  len : (ps.length : Int) = m
  rise : ps.Pairwise (· < ·)
  lo : ∀ p ∈ ps, -1000 ≤ p ∧ p ≤ 1000
def dI (ps : List Int) : PyData := .tuple (ps.map .int)
theorem dp_ints {K : PySem.W.Frag} {H : Hp} : ∀ ns : List Int, DpAll K H (ns.map V.int) (ns.map PyData.int)
  | [] => .nil
  | n :: ns => .cons (.int n) (dp_ints ns)
theorem But.at {H H' : Hp} {d l p : Addr} {o : HO} (b : But [d, l] H H') (n : p ≠ d ∧ p ≠ l) (h : H p = some o) : H' p = some o := b p o (by simp [n.1, n.2]) h
theorem But.new {ds : List Addr} {H H' : Hp} {p : Addr} {o : HO} (b : But ds H H') (hp : H p = none) : But ds H (upd H' p o) := fun a u n e => by
  rw [upd_ne (ne_of_none e hp)]
  exact b a u n e
/-! ### _law_mixed -/
def iota (n : Int) : List Int := (List.range n.toNat).map fun (i : Nat) => (i : Int)
theorem But.none_of {H H' : Hp} {d l p : Addr} (b : But [d, l] H H') (n : p ≠ d ∧ p ≠ l) (h : H' p = none) : H p = none := by
  cases e : H p with
  | none => rfl
  | some o => rw [b.at n e] at h; cases h
end Wf
/-! Tables: lists of lists of pairs. -/
namespace Wf
open PySem PySem.Spec L2
abbrev Tab : Type := List (Int × Int)
def InP (s : Int) (p : Int × Int) : Prop := 0 ≤ p.1 ∧ p.1 < s ∧ 0 ≤ p.2 ∧ p.2 < s
structure TabOk (s : Int) (t : Tab) : Prop where
  len : (t.length : Int) = s * s
  inn : ∀ p ∈ t, InP s p
structure TabAt (K : PySem.W.Frag) (H : Hp) (l : Addr) (t : Tab) : Prop where
  ex : ∃ vs, H l = some (.lst vs) ∧ DpAll K H vs (t.map dP)
theorem noLAll_dP : ∀ t : Tab, noLAll (t.map dP) = true
  | [] => rfl
  | p :: t => by simp [noLAll, noL_dP, noLAll_dP t]
theorem TabAt.keep {K : PySem.W.Frag} {H H' : Hp} {l : Addr} {t : Tab} (h : TabAt K H l t) (hl : ∀ o, H l = some o → H' l = some o) (tp : Tp K H H') : TabAt K H' l t := by
  obtain ⟨vs, h1, h2⟩ := h.ex
  exact ⟨vs, hl _ h1, DpAll.tp tp _ _ (noLAll_dP t) h2⟩
theorem pr_mono {α β : Type} {F G : α → β → Prop} : ∀ {as : List α} {bs : List β}, Paired F as bs → (∀ a b, a ∈ as → F a b → G a b) → Paired G as bs
  | _, _, .nil, _ => .nil
  | _, _, .cons h t, k => .cons (k _ _ List.mem_cons_self h) (pr_mono t fun a b ha => k a b (List.mem_cons_of_mem _ ha))
theorem pr_app {α β : Type} {F : α → β → Prop} : ∀ {as cs : List α} {bs ds : List β}, Paired F as bs → Paired F cs ds → Paired F (as ++ cs) (bs ++ ds)
  | _, _, _, _, .nil, h => h
  | _, _, _, _, .cons h t, k => .cons h (pr_app t k)
theorem pr_len {α β : Type} {F : α → β → Prop} : ∀ {as : List α} {bs : List β}, Paired F as bs → as.length = bs.length
  | _, _, .nil => rfl
  | _, _, .cons _ t => congrArg (· + 1) (pr_len t)
/-- tables that were made since H: the list of them at F, they themselves at ls -/
structure Tabs (K : PySem.W.Frag) (H H1 : Hp) (F : Addr) (ls : List Addr) (ts : List Tab) : Prop where
  lst : H1 F = some (.lst (ls.map V.ref))
  tab : Paired (TabAt K H1) ls ts
  nd : (F :: ls).Nodup
  newF : H F = none
  newL : ∀ x ∈ ls, H x = none
section
variable {K : PySem.W.Frag} {H H1 H2 : Hp} {F d l : Addr} {ls : List Addr} {ts : List Tab}
theorem Tabs.keep (t : Tabs K H H1 F ls ts) (hk : ∀ x o, x ∈ F :: ls → H1 x = some o → H2 x = some o) (tp : Tp K H1 H2) : Tabs K H H2 F ls ts :=
  ⟨hk _ _ List.mem_cons_self t.lst, pr_mono t.tab fun a b ha h => h.keep (fun o e => hk a o (List.mem_cons_of_mem _ ha) e) tp, t.nd, t.newF, t.newL⟩
theorem Tabs.same (t : Tabs K H H1 F ls ts) (s : Same H1 H2) : Tabs K H H2 F ls ts := t.keep (fun x o _ e => s x o e) (Same.tp s)
theorem Tabs.len (t : Tabs K H H1 F ls ts) : ls.length = ts.length := pr_len t.tab
/-- one more table -/
theorem Tabs.push {D : Addr} {t : Tab} (ht : Tabs K H H1 F ls ts) (h : TabAt K H1 D t) (hD : D ∉ F :: ls) (hn : H D = none) : Tabs K H (upd H1 F (.lst (ls.map V.ref ++ [.ref D]))) F (ls ++ [D]) (ts ++ [t]) := by
  have tp : Tp K H1 (upd H1 F (.lst (ls.map V.ref ++ [.ref D]))) := tp_upd (not_lst ht.lst)
  have hF := (List.nodup_cons.mp ht.nd).1
  refine ⟨by rw [upd_same, List.map_append]; rfl, pr_app (pr_mono ht.tab fun a b ha k => k.keep (fun o e => ?_) tp) (.cons (h.keep (fun o e => ?_) tp) .nil), ?_, ht.newF, fun x hx => ?_⟩
  · rw [upd_ne (show a ≠ F from fun z => hF (z ▸ ha))]
    exact e
  · rw [upd_ne (show D ≠ F from fun z => hD (by rw [z]; exact List.mem_cons_self))]
    exact e
  · have e : (F :: (ls ++ [D])) = (F :: ls) ++ [D] := rfl
    rw [e, List.nodup_append]
    exact ⟨ht.nd, by simp, fun a ha b hb => by rw [List.mem_singleton.mp hb]; exact fun z => hD (z ▸ ha)⟩
  · rcases List.mem_append.mp hx with hx | hx
    · exact ht.newL x hx
    · rw [List.mem_singleton.mp hx]
      exact hn
def dTs (ts : List Tab) : PyData := .list (ts.map fun t => .list (t.map dP))
theorem Tabs.dp (ht : Tabs K H H1 F ls ts) : Dp K H1 (.ref F) (dTs ts) := by
  refine .lst (SqL.of ht.lst) ?_
  have := ht.tab
  clear ht
  induction this with
  | nil => exact .nil
  | cons h _ ih =>
    obtain ⟨vs, e1, e2⟩ := h.ex
    exact .cons (.lst (SqL.of e1) e2) ih
end
/-! ### [(draw(size), draw(size)) for n in range(size * size)] -/
/-! ### _law_any -/
def nT (m : Int) : Int := m * (m - 1) / 2
/-- tables are told, new ones, by what R says of them -/
def GiveT (K : PySem.W.Frag) (d l : Addr) (H : Hp) (Q : VK) (R : List Tab → Prop) : Prop := ∀ (F : Addr) (ls : List Addr) (ts : List Tab) (H' : Hp), But [d, l] H H' → Deal H' d l → Tabs K H H' F ls ts → R ts → Q (.ref F) H'
structure AllOk (m s : Int) (ts : List Tab) : Prop where
  len : (ts.length : Int) = nT m
  ok : ∀ t ∈ ts, TabOk s t
/-! ### _law_plain -/
def tabF (f s : Int) (st : Int × Int) : Tab := (iota (s * s)).map fun n => pairF f s st (n / s) (n % s)
/-- by plain rules: one form for all tables; or keeping ones, and one any -/
inductive PlainT (m s : Int) : List Tab → Prop
  | all (f : Int) (sts : List (Int × Int)) : 0 ≤ f → f ≤ 4 → (sts.length : Int) = nT m → (∀ x ∈ sts, InP s x) → PlainT m s (sts.map (tabF f s))
  | one (sts : List (Int × Int)) (i : Nat) (t : Tab) : (sts.length : Int) = nT m → i < sts.length → TabOk s t → PlainT m s ((sts.map (tabF 0 s)).set i t)
end Wf
/-! Tables side by side, tables with other names. -/
namespace Wf
open PySem PySem.Spec L2
/-- tables to be read -/
structure TL (K : PySem.W.Frag) (H : Hp) (A : Addr) (ls : List Addr) (ts : List Tab) : Prop where
  lst : H A = some (.lst (ls.map V.ref))
  tab : Paired (TabAt K H) ls ts
theorem TL.same {K : PySem.W.Frag} {H H1 : Hp} {A : Addr} {ls : List Addr} {ts : List Tab} (t : TL K H A ls ts) (s : Same H H1) : TL K H1 A ls ts := ⟨s _ _ t.lst, pr_mono t.tab fun a b _ h => h.keep (fun o e => s _ _ e) (Same.tp s)⟩
theorem ix_lt {x y w : Int} (x0 : 0 ≤ x) (x1 : x < w) (y0 : 0 ≤ y) (y1 : y < w) : 0 ≤ x * w + y ∧ x * w + y < w * w := by
  have h1 : 0 ≤ x * w := Int.mul_nonneg x0 (by omega)
  have h2 : (x + 1) * w ≤ w * w := Int.mul_le_mul_of_nonneg_right (by omega) (by omega)
  have h3 : (x + 1) * w = x * w + w := by rw [Int.add_mul, Int.one_mul]
  constructor <;> omega
def sideP (t1 t2 : Tab) (w r : Int) (n : Int) : Int × Int :=
  let c := t1.getD (n / (w * r) / r * w + n % (w * r) / r).toNat (0, 0)
  let g := t2.getD (n / (w * r) % r * r + n % (w * r) % r).toNat (0, 0)
  (c.1 * r + g.1, c.2 * r + g.2)
def sideT (w r : Int) (t1 t2 : Tab) : Tab := (iota (w * r * (w * r))).map (sideP t1 t2 w r)
end Wf
/-! Tables with other names, good tables, books. -/
namespace Wf
open PySem PySem.Spec L2
theorem DpAll.set {K : PySem.W.Frag} {H : Hp} {v : V} {d : PyData} (h : Dp K H v d) : ∀ {vs : List V} {ds : List PyData} (i : Nat), DpAll K H vs ds → DpAll K H (vs.set i v) (ds.set i d)
  | _, _, _, .nil => .nil
  | _, _, 0, .cons _ t => .cons h t
  | _, _, i + 1, .cons k t => .cons k (DpAll.set h i t)
/-! ### _law_names_put -/
def nmStep (ns : List Int) (s : Int) (t acc : Tab) (n : Nat) : Tab :=
  acc.set (ns.getD ((n : Int) / s).toNat 0 * s + ns.getD ((n : Int) % s).toNat 0).toNat (ns.getD (t.getD n (0, 0)).1.toNat 0, ns.getD (t.getD n (0, 0)).2.toNat 0)
def nmF (ns : List Int) (s : Int) (t : Tab) (k : Nat) : Tab := (List.range k).foldl (nmStep ns s t) (List.replicate (s * s).toNat (0, 0))
def nameT (s : Int) (ns : List Int) (t : Tab) : Tab := nmF ns s t t.length
theorem nmF_succ (ns : List Int) (s : Int) (t : Tab) (k : Nat) : nmF ns s t (k + 1) = nmStep ns s t (nmF ns s t k) k := by
  unfold nmF
  rw [List.range_succ, List.foldl_append]
  rfl
theorem nmF_len (ns : List Int) (s : Int) (t : Tab) : ∀ k, (nmF ns s t k).length = (s * s).toNat
  | 0 => by unfold nmF; rw [List.range_zero, List.foldl_nil, List.length_replicate]
  | k + 1 => by rw [nmF_succ, nmStep, List.length_set, nmF_len ns s t k]
theorem iota_mem {n x : Int} : x ∈ iota n ↔ 0 ≤ x ∧ x < n := by
  unfold iota
  rw [List.mem_map]
  constructor
  · rintro ⟨i, hi, rfl⟩
    rw [List.mem_range] at hi
    constructor <;> omega
  · rintro ⟨h1, h2⟩
    exact ⟨x.toNat, by rw [List.mem_range]; omega, by omega⟩
theorem perm_at {s : Int} {ns : List Int} (hp : ns.Perm (iota s)) {i : Int} (h0 : 0 ≤ i) (h1 : i < s) : atI (ns.map V.int) i = some (.int (ns.getD i.toNat 0)) ∧ 0 ≤ ns.getD i.toNat 0 ∧ ns.getD i.toNat 0 < s := by
  have hl : ns.length = s.toNat := by rw [hp.length_eq]; unfold iota; rw [List.length_map, List.length_range]
  have hi : i.toNat < ns.length := by omega
  have e : ns[i.toNat]? = some ns[i.toNat] := List.getElem?_eq_getElem hi
  have m : ns[i.toNat] ∈ iota s := hp.mem_iff.mp (List.getElem_mem hi)
  have g : ns.getD i.toNat 0 = ns[i.toNat] := by simp [List.getD, e]
  rw [g]
  refine ⟨?_, (iota_mem.mp m).1, (iota_mem.mp m).2⟩
  unfold atI ixN
  rw [if_pos h0, if_pos (by rw [List.length_map]; omega)]
  show (ns.map V.int)[i.toNat]? = _
  rw [List.getElem?_map, e]
  rfl
end Wf
/-! Good tables and books. -/
namespace Wf
open PySem PySem.Spec L2
theorem pairF_in {f s : Int} {st : Int × Int} {a b : Int} (hs : 1 ≤ s) (a0 : 0 ≤ a) (a1 : a < s) (b0 : 0 ≤ b) (b1 : b < s) : InP s (pairF f s st a b) := by
  unfold pairF InP
  have h1 := mod_lt (a := 2 * b - a) (b := s) (by omega)
  have h2 := mod_lt (a := b + st.2) (b := s) (by omega)
  have h3 := mod_lt (a := a + st.1) (b := s) (by omega)
  split
  · exact ⟨b0, b1, a0, a1⟩
  · split
    · exact ⟨a0, a1, b0, b1⟩
    · split
      · dsimp only
        split <;> split <;> exact ⟨by omega, by omega, by omega, by omega⟩
      · split
        · exact ⟨b0, b1, h1.1, h1.2⟩
        · exact ⟨h2.1, h2.2, h3.1, h3.2⟩
theorem iota_len (n : Int) : (iota n).length = n.toNat := by unfold iota; rw [List.length_map, List.length_range]
theorem div_in {s n : Int} (hs : 1 ≤ s) (h0 : 0 ≤ n) (h1 : n < s * s) : (0 ≤ n / s ∧ n / s < s) ∧ (0 ≤ n % s ∧ n % s < s) := ⟨⟨Int.ediv_nonneg h0 (by omega), Int.ediv_lt_of_lt_mul (by omega) h1⟩, mod_lt (by omega)⟩
theorem tabF_ok {f s : Int} {st : Int × Int} (hs : 1 ≤ s) : TabOk s (tabF f s st) := by
  have hss : 0 ≤ s * s := Int.mul_nonneg (by omega) (by omega)
  refine ⟨by unfold tabF; rw [List.length_map, iota_len]; omega, fun p hp => ?_⟩
  obtain ⟨n, hn, rfl⟩ := List.mem_map.mp hp
  obtain ⟨h0, h1⟩ := iota_mem.mp hn
  obtain ⟨⟨x1, x2⟩, x3, x4⟩ := div_in hs h0 h1
  exact pairF_in hs x1 x2 x3 x4
theorem PlainT.ok {m s : Int} {ts : List Tab} (hs : 1 ≤ s) (h : PlainT m s ts) : AllOk m s ts := by
  cases h with
  | all f sts f0 f4 hl hin =>
    refine ⟨by rw [List.length_map]; exact hl, fun t ht => ?_⟩
    obtain ⟨st, _, rfl⟩ := List.mem_map.mp ht
    exact tabF_ok hs
  | one sts i t hl hi ht =>
    refine ⟨by rw [List.length_set, List.length_map]; exact hl, fun x hx => ?_⟩
    rcases List.mem_or_eq_of_mem_set hx with hx | hx
    · obtain ⟨st, _, rfl⟩ := List.mem_map.mp hx
      exact tabF_ok hs
    · rw [hx]
      exact ht
theorem getD_in {s : Int} {t : Tab} (h : TabOk s t) {i : Int} (h0 : 0 ≤ i) (h1 : i < s * s) : InP s (t.getD i.toNat (0, 0)) := by
  have hl := h.len
  have hi : i.toNat < t.length := by omega
  have e : t.getD i.toNat (0, 0) = t[i.toNat] := by simp [List.getD, List.getElem?_eq_getElem hi]
  rw [e]
  exact h.inn _ (List.getElem_mem hi)
theorem sideT_ok {w r : Int} {t1 t2 : Tab} (w1 : 1 ≤ w) (r1 : 1 ≤ r) (h1 : TabOk w t1) (h2 : TabOk r t2) : TabOk (w * r) (sideT w r t1 t2) := by
  have wr1 : 1 ≤ w * r := by
    have := Int.mul_le_mul w1 r1 (by decide) (by omega)
    simpa using this
  have hss : 0 ≤ w * r * (w * r) := Int.mul_nonneg (by omega) (by omega)
  refine ⟨by unfold sideT; rw [List.length_map, iota_len]; omega, fun p hp => ?_⟩
  obtain ⟨n, hn, rfl⟩ := List.mem_map.mp hp
  obtain ⟨n0, n1⟩ := iota_mem.mp hn
  obtain ⟨⟨x1, x2⟩, x3, x4⟩ := div_in wr1 n0 n1
  have q3 : 0 ≤ n / (w * r) / r ∧ n / (w * r) / r < w := ⟨Int.ediv_nonneg x1 (by omega), Int.ediv_lt_of_lt_mul (by omega) x2⟩
  have q4 : 0 ≤ n % (w * r) / r ∧ n % (w * r) / r < w := ⟨Int.ediv_nonneg x3 (by omega), Int.ediv_lt_of_lt_mul (by omega) x4⟩
  have q5 := mod_lt (a := n / (w * r)) (b := r) (by omega)
  have q6 := mod_lt (a := n % (w * r)) (b := r) (by omega)
  have i1 := ix_lt q3.1 q3.2 q4.1 q4.2
  have i2 := ix_lt q5.1 q5.2 q6.1 q6.2
  have g1 := getD_in h1 i1.1 i1.2
  have g2 := getD_in h2 i2.1 i2.2
  unfold sideP
  dsimp only
  generalize t1.getD _ (0, 0) = c at g1
  generalize t2.getD _ (0, 0) = g at g2
  unfold InP at g1 g2 ⊢
  have e : ∀ x y : Int, 0 ≤ x → x < w → 0 ≤ y → y < r → 0 ≤ x * r + y ∧ x * r + y < w * r := fun x y a1 a2 b1 b2 => by
    have e1 : 0 ≤ x * r := Int.mul_nonneg a1 (by omega)
    have e2 : (x + 1) * r ≤ w * r := Int.mul_le_mul_of_nonneg_right (by omega) (by omega)
    have e3 : (x + 1) * r = x * r + r := by rw [Int.add_mul, Int.one_mul]
    constructor <;> omega
  have a := e c.1 g.1 g1.1 g1.2.1 g2.1 g2.2.1
  have b := e c.2 g.2 g1.2.2.1 g1.2.2.2 g2.2.2.1 g2.2.2.2
  exact ⟨a.1, a.2, b.1, b.2⟩
theorem nmF_ok {s : Int} {ns : List Int} {t : Tab} (hs : 1 ≤ s) (hp : ns.Perm (iota s)) (ht : TabOk s t) : ∀ k, k ≤ t.length → ∀ p ∈ nmF ns s t k, InP s p
  | 0, _ => fun p hp => by
    unfold nmF at hp
    rw [List.range_zero, List.foldl_nil] at hp
    rw [(List.mem_replicate.mp hp).2]
    exact ⟨by decide, by omega, by decide, by omega⟩
  | k + 1, hk => fun p hq => by
    rw [nmF_succ, nmStep] at hq
    rcases List.mem_or_eq_of_mem_set hq with hq | hq
    · exact nmF_ok hs hp ht k (by omega) p hq
    · have hkl : (k : Int) < s * s := by rw [← ht.len]; omega
      have g := getD_in ht (Int.natCast_nonneg k) hkl
      rw [Int.toNat_natCast] at g
      have g1 := perm_at hp g.1 g.2.1
      have g2 := perm_at hp g.2.2.1 g.2.2.2
      rw [hq]
      exact ⟨g1.2.1, g1.2.2, g2.2.1, g2.2.2⟩
theorem nameT_ok {s : Int} {ns : List Int} {t : Tab} (hs : 1 ≤ s) (hp : ns.Perm (iota s)) (ht : TabOk s t) : TabOk s (nameT s ns t) := by
  have hss : 0 ≤ s * s := Int.mul_nonneg (by omega) (by omega)
  exact ⟨by unfold nameT; rw [nmF_len]; omega, nmF_ok hs hp ht _ (Nat.le_refl _)⟩
/-- tables that are good by making -/
inductive GoodT (m s : Int) : List Tab → Prop
  | plain {ts : List Tab} : PlainT m s ts → GoodT m s ts
  | side {w r : Int} {ta tb : List Tab} : 1 ≤ w → 1 ≤ r → w * r = s → PlainT m w ta → PlainT m r tb → GoodT m s (List.zipWith (sideT w r) ta tb)
  | name {ts : List Tab} {ns : List Int} : GoodT m s ts → ns.Perm (iota s) → GoodT m s (ts.map (nameT s ns))
theorem GoodT.ok {m s : Int} {ts : List Tab} (hs : 1 ≤ s) (h : GoodT m s ts) : AllOk m s ts := by
  induction h with
  | plain h => exact h.ok hs
  | side w1 r1 e ha hb =>
    have oa := ha.ok w1
    have ob := hb.ok r1
    have la := oa.len
    have lb := ob.len
    refine ⟨by rw [List.length_zipWith]; omega, fun t ht => ?_⟩
    obtain ⟨i, hi⟩ := List.mem_iff_getElem?.mp ht
    rw [List.getElem?_zipWith] at hi
    revert hi
    split
    · rename_i x y hx hy
      intro hi
      cases hi
      rw [← e]
      exact sideT_ok w1 r1 (oa.ok _ (List.mem_of_getElem? hx)) (ob.ok _ (List.mem_of_getElem? hy))
    · intro hi
      cases hi
  | name h hp ih =>
    refine ⟨by rw [List.length_map]; exact ih.len, fun t ht => ?_⟩
    obtain ⟨u, hu, rfl⟩ := List.mem_map.mp ht
    exact nameT_ok hs hp (ih.ok u hu)
theorem GiveT.mono {K : PySem.W.Frag} {d l : Addr} {H H1 : Hp} {Q : VK} {R : List Tab → Prop} (k : GiveT K d l H Q R) (b : But [d, l] H H1) (hD : Deal H d l) (F : Addr) (ls : List Addr) (ts : List Tab) (H' : Hp) (b1 : But [d, l] H1 H') (d1 : Deal H' d l) (t : Tabs K H1 H' F ls ts) (r : R ts) (nd : ∀ x ∈ F :: ls, x ≠ d ∧ x ≠ l) : Q (.ref F) H' :=
  k F ls ts H' (b.trans b1) d1 ⟨t.lst, t.tab, t.nd, b.none_of (nd F List.mem_cons_self) t.newF, fun x hx => b.none_of (nd x (List.mem_cons_of_mem _ hx)) (t.newL x hx)⟩ r
theorem Same.deal {H H' : Hp} {d l : Addr} (s : Same H H') (h : Deal H d l) : Deal H' d l := by
  obtain ⟨z1, z2, z3, z4, z5, z6, z7⟩ := h.ex
  exact ⟨z1, z2, z3, z4, s _ _ z5, s _ _ z6, z7⟩
end Wf
/-! Books. -/
namespace Wf
open PySem PySem.Spec L2
structure Book where
  ps : List Int
  s : Int
  ts : List Tab
def dT (t : Tab) : PyData := .tuple (t.map dP)
theorem noL_dT (t : Tab) : noL (dT t) = true := noLAll_dP t
theorem noLAll_dT : ∀ ts : List Tab, noLAll (ts.map dT) = true
  | [] => rfl
  | t :: ts => by simp [noLAll, noL_dT, noLAll_dT ts]
structure BookOk (m : Int) (b : Book) : Prop where
  pac : PacesOk m b.ps
  m1 : 1 ≤ m
  m5 : m ≤ 5
  s1 : 1 ≤ b.s
  s6 : b.s ≤ 6
  tab : AllOk m b.s b.ts
end Wf
/-! The deal made. -/
namespace Wf
open PySem PySem.Spec L2
def sp_deal (K : PySem.W.Frag) : Sp := fun vs H Q _ => ∃ (a : Addr) (b : Int) (ns : List Int), vs = [.ref a, .int b] ∧ SqL K H a (ns.map V.int) ∧ 0 ≤ b ∧ b ≤ 63 ∧ ns.length ≤ 1000 ∧
  ∀ (d l : Addr) (H' : Hp), Same H H' → H d = none → H l = none → Deal H' d l → Q (.ref d) H'
theorem cut_ints (ns : List Int) (lo hi : Option Int) : ∃ ms : List Int, cutV (ns.map V.int) lo hi = ms.map V.int ∧ ms.length ≤ ns.length := by
  refine ⟨(ns.drop (HT.sIx (ns.map V.int).length 0 lo)).take (HT.sIx (ns.map V.int).length (ns.map V.int).length hi - HT.sIx (ns.map V.int).length 0 lo), ?_, ?_⟩
  · unfold cutV
    rw [List.map_take, List.map_drop]
  · rw [List.length_take, List.length_drop]
    omega
theorem putK_new {kvs : List (Key × V)} {k : Key} {v : V} (h : valV kvs k = none) : putK kvs k v = kvs ++ [(k, v)] := by
  unfold putK
  rw [valV_any, h]
  rfl
def four (s m n l : V) : List (Key × V) := [(Sum.inr "seed", s), (Sum.inr "many", m), (Sum.inr "now", n), (Sum.inr "left", l)]
theorem merge4 (s m n l : V) : mergeK [] (four s m n l) = four s m n l := by
  unfold four
  unfold mergeK
  simp only [List.foldl]
  rw [putK_new (kvs := []) valV_nil]
  simp only [List.nil_append]
  rw [putK_new (kvs := [(Sum.inr (Str.ofString "seed"), s)]) ((valV_neg (key_ne (by decide +kernel))).trans valV_nil)]
  simp only [List.cons_append, List.nil_append]
  rw [putK_new (kvs := [(Sum.inr (Str.ofString "seed"), s), (Sum.inr (Str.ofString "many"), m)]) ((valV_neg (key_ne (by decide +kernel))).trans ((valV_neg (key_ne (by decide +kernel))).trans valV_nil))]
  simp only [List.cons_append, List.nil_append]
  rw [putK_new (kvs := [(Sum.inr (Str.ofString "seed"), s), (Sum.inr (Str.ofString "many"), m), (Sum.inr (Str.ofString "now"), n)]) ((valV_neg (key_ne (by decide +kernel))).trans ((valV_neg (key_ne (by decide +kernel))).trans ((valV_neg (key_ne (by decide +kernel))).trans valV_nil)))]
  rfl
def t_deal (K : PySem.W.Frag) : TS :=
  tSeq (tAsg (tLc (iList K (tSl (rSlL K) (tVar 0) (tPart (tVar 1)) (tPart (tC (.int 63))))) (gName 4) (tYes) (tCB (qMax2) (tCons (tVar 4) (tCons (tOp qSub (tC (.int 0)) (tVar 4)) (tNil)))) [4]) (gName 2))
    (tSeq (tAsg (tOp qAdd (tC (.int 104729)) (tOp qMul (tC (.int 31)) (tVar 1))) (gName 3))
    (tSeq (tFor (iList K (tVar 2)) (gName 4) (tAsg (tOp qMod (tOp qAdd (tOp qAdd (tOp qMul (tVar 3) (tC (.int 69623))) (tOp qMod (tVar 4) (tC (.int 2147483629)))) (tC (.int 1))) (tC (.int 2147483647))) (gName 3)))
    (tRet (tDisp ((tC (.str "seed"), tOp qAdd (tVar 3) (tC (.int 1))) :: ((tC (.str "many"), tC (.int 0)) :: ((tC (.str "now"), tC (.int 0)) :: ((tC (.str "left"), Wf.tLstRev K (tLc (iList K (tVar 2)) (gName 4) (tTest (tOp qGe (tVar 4) (tOp qPow (tC (.int 10)) (tC (.int 18))))) (tVar 4) [4])) :: ([])))))))))
theorem pure_deal {K : PySem.W.Frag} (vs : List V) (H : Hp) (Q : VK) (E : XK) (h : sp_deal K vs H Q E) : t_deal K (EndsQ Q) (sN 5 vs) H := by
  obtain ⟨a, b, ns, rfl, hS, b0, b1, hns, k⟩ := h
  show t_deal K _ [some (.ref a), some (.int b), none, none, none] H
  refine ⟨_, rfl, _, rfl, _, rfl, 63, rfl, a, _, rfl, hS, fun p hp => ?_⟩
  obtain ⟨ms, e, hms⟩ := cut_ints ns (some b) (some 63)
  rw [e]
  have sp := same_new (o := .lst (ms.map V.int)) hp
  have hpp : upd H p (.lst (ms.map V.int)) p = some (.lst (ms.map V.int)) := upd_same
  generalize upd H p (.lst (ms.map V.int)) = H1 at sp hpp
  refine ⟨p, rfl, ⟨_, SqL.of hpp⟩, fun D hD => ?_⟩
  have hDp : p ≠ D := ne_of_none hpp hD
  have hD0 : H D = none := sp.free hD
  refine lc_list (K := K) (a := p) (xs := ms.map V.int) (fun i H2 => Same H1 H2 ∧ ∃ zs : List Int, H2 D = some (.lst (zs.map V.int)) ∧ zs.length = i ∧ ∀ z ∈ zs, 0 ≤ z) ?_ ?_ ?_ ?_
  · exact ⟨same_new hD, [], upd_same, rfl, fun z hz => (List.not_mem_nil hz).elim⟩
  · rintro i H2 _ ⟨s2, _⟩
    exact SqL.of (s2 _ _ hpp)
  · rintro i x H2 hx ⟨s2, zs, e1, hl, hz⟩
    rw [List.getElem?_map] at hx
    obtain ⟨y, hy, rfl⟩ := Option.map_eq_some_iff.mp hx
    refine ⟨rfl, ?_⟩
    simp only [tYes, ↓reduceIte]
    refine ⟨_, rfl, _, rfl, _, _, rfl, rfl, _, _, rfl, _, e1, ?_, ?_⟩
    · rw [List.length_map, hl]
      have := (List.getElem?_eq_some_iff.mp hy).1
      exact Nat.lt_of_le_of_lt (show i ≤ 1000 by omega) (by decide)
    · refine ⟨fun c o e => ?_, zs ++ [if 0 - y > y then 0 - y else y], ?_, by simp [hl], fun z hq => ?_⟩
      · rw [upd_ne (ne_of_none e hD)]
        exact s2 _ _ e
      · rw [upd_same, List.map_append]
        rfl
      · rcases List.mem_append.mp hq with hq | hq
        · exact hz z hq
        · rw [List.mem_singleton.mp hq]
          split <;> omega
  · rintro H2 ⟨s2, zs, e1, hl, hz⟩
    refine ⟨_, rfl, _, _, rfl, rfl, .inl ⟨by decide, by decide⟩, _, _, rfl, rfl, ?_⟩
    refine ⟨_, rfl, D, rfl, ⟨_, SqL.of e1⟩, for_list (K := K) (a := D) (xs := zs.map V.int) (fun i σ H3 => ∃ (w : Int) (c4 : Option V), σ = [some (.ref a), some (.int b), some (.ref D), some (.int w), c4] ∧ H3 = H2) ?_ ?_ ?_ ?_⟩
    · exact ⟨_, none, rfl, rfl⟩
    · rintro i σ H3 _ ⟨w, c4, rfl, rfl⟩
      exact SqL.of e1
    · rintro i x σ H3 hx ⟨w, c4, rfl, rfl⟩
      rw [List.getElem?_map] at hx
      obtain ⟨y, hy, rfl⟩ := Option.map_eq_some_iff.mp hx
      exact ⟨_, rfl, _, _, rfl, rfl, .inr ⟨by decide, by decide⟩, _, rfl, _, _, rfl, rfl, mp rfl, _, _, rfl, rfl, _, _, rfl, rfl, _, _, rfl, rfl, mp rfl, _, _, rfl, rfl⟩
    · rintro σ H3 ⟨w, c4, rfl, rfl⟩
      intro d hd
      refine ⟨_, rfl, _, _, rfl, rfl, ?_⟩
      have sd := same_new (o := .dK []) hd
      have hdd : upd H3 d (.dK []) d = some (.dK []) := upd_same
      generalize upd H3 d (.dK []) = H4 at sd hdd
      have e4 := sd _ _ e1
      refine ⟨_, rfl, D, rfl, ⟨_, SqL.of e4⟩, fun G hG => ?_⟩
      refine lc_list (K := K) (a := D) (xs := zs.map V.int) (fun i H5 => Same H4 H5 ∧ ∃ gs : List Int, H5 G = some (.lst (gs.map V.int)) ∧ gs.length ≤ i ∧ ∀ z ∈ gs, 0 ≤ z) ?_ ?_ ?_ ?_
      · exact ⟨same_new hG, [], upd_same, Nat.le_refl _, fun z hz => (List.not_mem_nil hz).elim⟩
      · rintro i H5 _ ⟨s5, _⟩
        exact SqL.of (s5 _ _ e4)
      · rintro i x H5 hx ⟨s5, gs, g1, gl, gz⟩
        rw [List.getElem?_map] at hx
        obtain ⟨y, hy, rfl⟩ := Option.map_eq_some_iff.mp hx
        refine ⟨rfl, _, rfl, _, _, rfl, rfl, ⟨by decide, by decide, by decide⟩, _, _, rfl, rfl, _, rfl, ?_⟩
        refine ifd (fun c => ?_) (fun c => ?_)
        · refine ⟨_, rfl, _, g1, ?_, ?_⟩
          · rw [List.length_map]
            have := (List.getElem?_eq_some_iff.mp hy).1
            rw [List.length_map] at hl
            exact Nat.lt_of_le_of_lt (show gs.length ≤ 1000 by omega) (by decide)
          · refine ⟨fun c o e => ?_, gs ++ [y], ?_, by simp; omega, fun z hq => ?_⟩
            · rw [upd_ne (ne_of_none e hG)]
              exact s5 _ _ e
            · rw [upd_same, List.map_append]
              rfl
            · rcases List.mem_append.mp hq with hq | hq
              · exact gz z hq
              · rw [List.mem_singleton.mp hq]
                exact hz y (List.mem_of_getElem? hy)
        · exact ⟨s5, gs, g1, by omega, gz⟩
      · rintro H5 ⟨s5, gs, g1, gl, gz⟩
        refine ⟨G, _, rfl, SqL.of g1, fun L hL => ?_⟩
        have sL := same_new (o := .lst (gs.map V.int).reverse) hL
        have hdL := s5 _ _ hdd
        have hLd : d ≠ L := ne_of_none hdL hL
        refine ⟨by rw [upd_ne hLd]; exact hdL, four (.int (w + 1)) (.int 0) (.int 0) (.ref L), rfl, (by show 4 ≤ 15; decide), ?_⟩
        rw [merge4]
        have hL0 : H L = none := (sp.trans (s2.trans (sd.trans s5))).free hL
        have hd0 : H d = none := (sp.trans s2).free hd
        refine k d L _ (fun c o e => ?_) hd0 hL0 ⟨w + 1, 0, 0, gs.reverse, upd_same, ?_, by decide, fun z hq => gz z (List.mem_reverse.mp hq)⟩
        · rw [upd_ne (ne_of_none e hd0), upd_ne (ne_of_none e hL0)]
          exact (sp.trans (s2.trans (sd.trans s5))) _ _ e
        · rw [upd_ne (Ne.symm hLd), upd_same, List.map_reverse]
end Wf
/-! Tuples as data: places, slices, sums; the program's pair_at and with_pair. -/
namespace Wf
open PySem PySem.Spec L2
section
variable {K : PySem.W.Frag} {H : Hp} {Q : VK} {t x y : V} {ds es : List PyData} {d : PyData}
theorem DpAll.drop : ∀ {vs : List V} {ds : List PyData} (n : Nat), DpAll K H vs ds → DpAll K H (vs.drop n) (ds.drop n)
  | _, _, 0, h => h
  | _, _, _ + 1, .nil => .nil
  | _, _, n + 1, .cons _ h => DpAll.drop n h
theorem DpAll.take : ∀ {vs : List V} {ds : List PyData} (n : Nat), DpAll K H vs ds → DpAll K H (vs.take n) (ds.take n)
  | _, _, 0, _ => .nil
  | _, _, _ + 1, .nil => .nil
  | _, _, n + 1, .cons h t => .cons h (DpAll.take n t)
def cutD (ds : List PyData) (lo hi : Option Int) : List PyData := (ds.drop (HT.sIx ds.length 0 lo)).take (HT.sIx ds.length ds.length hi - HT.sIx ds.length 0 lo)
end
/-! ### put_in -/
end Wf
/-! pair_at, with_pair; what the law says of them. -/
namespace Wf
open PySem PySem.Spec L2
def tnum (u v : Int) : Int := u * (u - 1) / 2 + v
/-- a place of a book -/
structure Pl (m s u v a b : Int) : Prop where
  u0 : 1 ≤ u
  u1 : u < m
  v0 : 0 ≤ v
  v1 : v < u
  a0 : 0 ≤ a
  a1 : a < s
  b0 : 0 ≤ b
  b1 : b < s
theorem tnum_lt {m u v : Int} (m5 : m ≤ 5) (u0 : 1 ≤ u) (u1 : u < m) (v0 : 0 ≤ v) (v1 : v < u) : 0 ≤ tnum u v ∧ tnum u v < nT m := by
  unfold tnum nT
  have hm : m = 2 ∨ m = 3 ∨ m = 4 ∨ m = 5 := by omega
  have hu : u = 1 ∨ u = 2 ∨ u = 3 ∨ u = 4 := by omega
  rcases hu with rfl | rfl | rfl | rfl <;> rcases hm with rfl | rfl | rfl | rfl <;> simp <;> omega
def Book.tab (B : Book) (u v : Int) : Tab := B.ts.getD (tnum u v).toNat []
def Book.at (B : Book) (u v a b : Int) : Int × Int := (B.tab u v).getD (a * B.s + b).toNat (0, 0)
section
variable {K : PySem.W.Frag} {H : Hp} {t : V} {B : Book} {m u v a b : Int}
theorem Book.row (ok : BookOk m B) (pl : Pl m B.s u v a b) : B.ts[(tnum u v).toNat]? = some (B.tab u v) ∧ TabOk B.s (B.tab u v) := by
  have h := tnum_lt ok.m5 pl.u0 pl.u1 pl.v0 pl.v1
  have hl := ok.tab.len
  have hi : (tnum u v).toNat < B.ts.length := by omega
  have e : B.ts[(tnum u v).toNat]? = some B.ts[(tnum u v).toNat] := List.getElem?_eq_getElem hi
  have g : B.tab u v = B.ts[(tnum u v).toNat] := by unfold Book.tab; simp [List.getD, e]
  rw [g]
  exact ⟨e, ok.tab.ok _ (List.getElem_mem hi)⟩
theorem Book.cell (ok : BookOk m B) (pl : Pl m B.s u v a b) : (B.tab u v)[(a * B.s + b).toNat]? = some (B.at u v a b) ∧ InP B.s (B.at u v a b) := by
  have ht := (Book.row ok pl).2
  have hl := ht.len
  have hx := ix_lt pl.a0 pl.a1 pl.b0 pl.b1
  have hi : (a * B.s + b).toNat < (B.tab u v).length := by omega
  have e : (B.tab u v)[(a * B.s + b).toNat]? = some (B.tab u v)[(a * B.s + b).toNat] := List.getElem?_eq_getElem hi
  have g : B.at u v a b = (B.tab u v)[(a * B.s + b).toNat] := by unfold Book.at; simp [List.getD, e]
  rw [g]
  exact ⟨e, ht.inn _ (List.getElem_mem hi)⟩
end
end Wf
/-! law k03: what is due, right, the law. -/
namespace Wf
open PySem PySem.Spec L2
structure Rows (K : PySem.W.Frag) (H : Hp) (F : Addr) (ts : List Tab) : Prop where
  ex : ∃ vs, H F = some (.lst vs) ∧ DpAll K H vs (ts.map dT)
theorem Rows.same {K : PySem.W.Frag} {H H' : Hp} {F : Addr} {ts : List Tab} (h : Rows K H F ts) (s : Same H H') : Rows K H' F ts := by
  obtain ⟨vs, e1, e2⟩ := h.ex
  exact ⟨vs, s _ _ e1, DpAll.tp (Same.tp s) _ _ (noLAll_dT _) e2⟩
end Wf
/-! Data of small numbers and tuples: shown, short, of small weight and depth. -/
namespace Wf
open PySem PySem.Spec L2
end Wf
/-! for k, x in enumerate(t), t a tuple -/
namespace Wf
open PySem PySem.Spec
open AutoSeq1 (wpAny_loadPart')
theorem meets_enumT (l : Addr) (ws : Array Value) (n : Nat) (dd : Option Addr) (sl : Array (Option Value)) :
    Meets (Builtin.«enumerate.__new__» ⟨[.type "enumerate", .ref l], []⟩) (fun _ R s => s.heap.get? l = some { cls := .type "tuple", dict := dd, data := .seq ws n, slots := sl } ∧
      R (.ok (.ret (.ref (s.heap.push { cls := .type "tuple_iterator", data := .fields #[.ref l, .int 0 0] }).objs.size)))
        { s with heap := (s.heap.push { cls := .type "tuple_iterator", data := .fields #[.ref l, .int 0 0] }).push { cls := .type "enumerate", data := .fields #[.none, .bool false, .ref s.heap.objs.size, rawInt 0, .none, .none] } }) :=
  .of_wp fun prog w A R s hq => by
    obtain ⟨hp, gn, dr, tk, os⟩ := s; obtain ⟨hl, hq⟩ := hq
    have hsubE := sub_enumerate
    have hL : Heap.IsTuple (Shared.heap ⟨hp, gn, dr, tk, os⟩) l ws := ⟨_, hl, rfl, n, rfl⟩
    wp_walk using wpAny_loadPart' hl
    refine wpAny_stack_any fun stk => wpAny_pure ?_
    split
    · rename_i cc _ _ _ _ _
      cases (cc == Value.type "enumerate") <;> (wp_walk using wpAny_loadPart' hl, wpAny_pyIter_tuple hL; exact ⟨_, rfl, hq⟩)
    · wp_walk using wpAny_loadPart' hl, wpAny_pyIter_tuple hL
      exact ⟨_, rfl, hq⟩
section
variable {prog : Program} {w : World} {A : Around} {E : Value → Shared → Prop} {s : Shared}
theorem call_enumT {l : Addr} {ws : Array Value} {Q : Value → Shared → Prop} (hL : s.heap.IsTuple l ws)
    (k : ∀ h', IsEnum h' (s.heap.objs.size + 1) s.heap.objs.size 0 .none → h'.IsTupleIter s.heap.objs.size l 0 → h'.objs.size = s.heap.objs.size + 2 →
      (∀ b o, s.heap.get? b = some o → h'.get? b = some o) → Q (.ref (s.heap.objs.size + 1)) { s with heap := h' }) :
    wpAny (model prog w) A (call (.type "enumerate") [.ref l]) Q E s := by
  obtain ⟨⟨c, dd, dt, sl⟩, hl, hc, n, hd⟩ := hL
  replace hc : c = .type "tuple" := hc
  replace hd : dt = .seq ws n := hd
  subst hc hd
  refine callType_new F.called_enumerate (by decide) (F.typeCall_enumerate_1 _) (F.newCall_enumerate_1 _) (fun ob => F.args_object_init_2 ob _) F.entry_enumerate_new
    (meets_enumT l ws n dd sl) ⟨hl, ?_⟩
  have z1 : (s.heap.push { cls := .type "tuple_iterator", data := .fields #[.ref l, .int 0 0] }).objs.size = s.heap.objs.size + 1 := Heap.size_push ..
  show _ ∧ _
  rw [z1]
  have en : IsEnum ((s.heap.push { cls := .type "tuple_iterator", data := .fields #[.ref l, .int 0 0] }).push
      { cls := .type "enumerate", data := .fields #[.none, .bool false, .ref s.heap.objs.size, rawInt 0, .none, .none] }) (s.heap.objs.size + 1) s.heap.objs.size 0 .none := by
    have g := Heap.get?_push_size (s.heap.push { cls := .type "tuple_iterator", data := .fields #[.ref l, .int 0 0] })
      (o := { cls := .type "enumerate", data := .fields #[.none, .bool false, .ref s.heap.objs.size, rawInt 0, .none, .none] }) rfl
    rw [z1] at g
    exact g
  exact ⟨⟨_, en, rfl⟩, k _ en ⟨_, Heap.get?_push_of_some _ (Heap.get?_push_size _ rfl), rfl, rfl⟩ (by rw [Heap.size_push, z1]) fun b o e => Heap.get?_push_of_some _ (Heap.get?_push_of_some _ e)⟩
theorem enumT_end {e it l : Addr} {i : Nat} {ws : Array Value} {c : Int} {old : Value} {Q : Option Value → Shared → Prop} (hh : A.handled = none)
    (en : IsEnum s.heap e it c old) (hit : s.heap.IsTupleIter it l i) (hl : s.heap.IsTuple l ws) (hx : ws[i]? = none)
    (k : ∀ h', Heap.ExtBut it s.heap h' → Q none { s with heap := h' }) : wpAny (model prog w) A (pyNext (.ref e)) Q E s := by
  have ty : s.TypeIs (.ref e) "enumerate" := ⟨_, en, rfl⟩
  unfold pyNext
  refine wpAny_bind (wpAny_attempt (wpAny_callSpecial?_slot (name := Str.ofString "__next__") ty F.slot_enumerate_next (wpAny_call_entry F.slot_enumerate_next ty F.entry_enumerate_next ?_ (F.args_enumerate_next_1 _))))
  show wpAny _ _ (field (.ref e) 2 >>= _) _ _ _
  refine wpAny_bind (wpAny_field en rfl (x := .ref it) rfl (wpAny_bind (wpAny_nextOf_tuple_end hh hit hl hx fun h' x eb hx' => ?_)))
  obtain ⟨o, ho, hc⟩ := hx'
  exact wpAny_bind (wpAny_isInstance (T := "StopIteration") (b := true) ⟨o, ho, hc⟩ isSubtype_stop (wpAny_pure (k _ eb)))
end
end Wf
namespace Wf
open PySem PySem.Spec PyProof.Rows L2
/-- what is walked: the tuple at a, each thing in a new pair with its number -/
def ItT (K : PySem.W.Frag) (a : Addr) : It :=
  ⟨fun i H => ∃ (xs : List V) (x : V), SqT K H a xs ∧ xs[i]? = some x, fun i H v H' => ∃ T x, v = .ref T ∧ H T = none ∧ H' = upd H T (.tup [.int (i : Nat), x]) ∧ ∀ xs, SqT K H a xs → xs[i]? = some x, fun i H => ∃ xs : List V, SqT K H a xs ∧ xs.length ≤ i⟩
theorem apart_cls {h : Heap} {a b : Addr} {o u : Obj} {m n : String} (ha : h.get? a = some o) (hb : h.get? b = some u) (ho : o.cls = .type m) (hu : u.cls = .type n) (d : m ≠ n) : a ≠ b := fun e => by
  subst e
  rw [ha] at hb
  cases hb
  rw [ho] at hu
  exact d (by injection hu)
theorem turn_enumT {P : Program} {w : World} {K : PySem.W.Frag} {elts : List Expr} {kk : Nat} {tpos : Pos} (a e it : Addr) :
    Turn P w K (.Tuple elts kk tpos) (ItT K a) [e, it] e (fun i h => (∃ old, IsEnum h e it ((i : Nat) : Int) old) ∧ h.IsTupleIter it a i ∧ e ≠ it) where
  mem := by simp
  obj := fun i h st b hb => by
    obtain ⟨⟨old, en⟩, ⟨o, ho, hc, hd⟩, _⟩ := st
    have eb : b = e ∨ b = it := by simpa using hb
    rcases eb with rfl | rfl
    · exact ⟨_, en, fun v q => nomatch q⟩
    · exact ⟨o, ho, fun v q => by rw [hd] at q; cases q⟩
  keep := fun i h h' st kp => let ⟨⟨old, en⟩, hi, ne⟩ := st; ⟨⟨old, kp e (by simp) _ en⟩, hi.at fun o q => kp it (by simp) o q, ne⟩
  item := by
    intro X hP hw hK hc i pins s σ H E I hf st hg
    subst hP hw hK
    obtain ⟨⟨old, en⟩, hit, ne⟩ := st
    obtain ⟨xs, x, hq, hx⟩ := hg
    obtain ⟨its, rv, p, hz⟩ := I.tuple hq
    have pT : s.heap.IsTuple a its.toArray := p
    obtain ⟨u, hu, ru⟩ := rv.get hx
    have lx : i < xs.length := (List.getElem?_eq_some_iff.mp hx).1
    have lr := rv.length
    have hel : e < s.heap.objs.size := Heap.lt_size en
    have hil : it < s.heap.objs.size := by obtain ⟨_, q, _⟩ := hit; exact Heap.lt_size q
    have ae : e ≠ a := by
      obtain ⟨o, ho, hoc, _⟩ := pT
      exact apart_cls en ho rfl hoc (by decide)
    have ai : a ≠ it := by
      obtain ⟨o, ho, hoc, _⟩ := pT
      obtain ⟨o2, ho2, hoc2, _⟩ := hit
      exact apart_cls ho ho2 hoc hoc2 (by decide)
    refine wpAny_pyNext_enum_itemD (Draws.tuple (show X.A.in1.handled = none from I.ok.hd hc) it a ai its.toArray) en ⟨hit, pT⟩ (by simp; omega) ne (by simp [ne, ae]) fun y h' tk hy ho hst hT hsz hk => ?_
    have yu : y = u := by
      have : its[i]? = some y := by simpa using hy
      rw [hu] at this
      exact (Option.some.inj this).symm
    subst yu
    refine ⟨_, rfl, wpAny_letOwnedTupleGo_enum (s := { s with heap := h', toks := tk + 1 }) ho fun h2 en2 sb => ?_⟩
    have hT2 : h2.get? s.heap.objs.size = some { cls := .type "tuple", data := .seq #[.int i tk, y] } := (sb.2 _ (Nat.ne_of_gt hel)).trans hT
    have ok2 : ObjOk X.prog X.w (upd H s.heap.objs.size (.tup [.int (i : Nat), x])) h2 s.heap.objs.size (.tup [.int (i : Nat), x]) :=
      ⟨by show 2 ≤ sizeLine; decide, [.int i tk, y], .cons ⟨_, rfl⟩ (.cons ru .nil), ⟨_, hT2, rfl, _, rfl⟩⟩
    have I2 : Inv X pins σ (upd H s.heap.objs.size (.tup [.int (i : Nat), x])) { s with heap := h2, toks := tk + 1 } :=
      I.turnedNew (ch := [e, it]) (fun b ob hb q => (sb.2 b (fun z => hb (by simp [z]))).trans (hk b ob (fun z => hb (by simp [z])) (fun z => hb (by simp [z])) q)) hf (Nat.le_refl _) ok2
    refine ⟨.ref s.heap.objs.size, _, I2, rfl, ⟨_, x, rfl, I.hok.fresh (Nat.le_refl _), rfl, fun ys hy2 => by rw [I.tuple_inj hy2 hq]; exact hx⟩, ⟨⟨y, ?_⟩, hst.1.at fun o q => (sb.2 it (Ne.symm ne)).trans q, ne⟩, fun b hb => ?_⟩
    · rw [show ((i + 1 : Nat) : Int) = (i : Int) + 1 by omega]
      exact en2
    · have lb : b < s.heap.objs.size := by
        have eb : b = e ∨ b = it := by simpa using hb
        rcases eb with rfl | rfl
        · exact hel
        · exact hil
      rw [upd_ne (Nat.ne_of_lt lb)]
      exact (hf b hb).1
  done := by
    intro X hP hw hK hc i pins s σ H E I hf st hg
    subst hP hw hK
    obtain ⟨⟨old, en⟩, hit, ne⟩ := st
    obtain ⟨xs, hq, hx⟩ := hg
    obtain ⟨its, rv, p, hz⟩ := I.tuple hq
    have pT : s.heap.IsTuple a its.toArray := p
    obtain ⟨f0, f1, f2, f3, f4, f5⟩ := hf it (by simp)
    have lr := rv.length
    have ai : a ≠ it := by
      obtain ⟨o, ho, hoc, _⟩ := pT
      obtain ⟨o2, ho2, hoc2, _⟩ := hit
      exact apart_cls ho ho2 hoc hoc2 (by decide)
    refine enumT_end (I.ok.hd hc) en hit pT (by simp; omega) fun h' eb => ⟨rfl, I.turned (t' := s.toks) (fun b o hb q => eb b o hb q) f0 f1 f3 f4 f5⟩
  self := fun A i s Q E st h => let ⟨⟨_, en⟩, _⟩ := st; wpAny_pyIter_enum en h
end Wf
/-! Own errors over an own base over ValueError: their __init__, raised, caught. -/
namespace Wf
open PySem PySem.Spec PyProof.Rows L2
/-- the base class x, at C0, whose __init__ is ValueError's -/
structure BaseC (K : PySem.W.Frag) (mg : Str → Option Value) (x : Str) (C0 : Addr) : Prop where
  g : mg x = some (.ref C0)
  rd : PySem.W.readsIn K C0 (.type "type") = true
  ga : PySem.W.specialIn K (.ref C0) "__getattribute__" = some (some (.builtin "type.__getattribute__"))
  at_ : PySem.W.findCls K (.ref C0) (.type "type") "__init__" = some (.val (.builtin "ValueError.__init__"))
section
variable {X : Cx} {e : Expr} {es : List Expr} {ta : TA} {p1 p2 pos : Pos} {x : Str} {C0 : Addr}
/-- x.__init__(self, ..) -/
theorem pe_binit {pl : Sem Bool} (T : BaseC X.K X.mg x C0) (hg : Gl X x) (ha : PA X (e :: es) ta) (hdb : (x == ("__debug__" : Str)) = false := by decide)
    (hc : eval (.Call (.Attribute (.Name x p1) "__init__" p2) (e :: es) [] pos) X.env = (do
      let ov ← eval (.Name x p1) X.env
      standAt p2.atName
      let (f, first) ← holding [ov] (getMethod ov "__init__" pl)
      callWith pos f first (backTo pos (starEach (e :: es) X.env)) (backToKw pos (keywordEach [] X.env))) := by rfl)
    (he : starEach (e :: es) X.env = (false, eval e X.env) :: starEach es X.env := by rfl) (hpl : (backTo pos (starEach es X.env)).any (·.1) = false := by rfl) :
    PE X (.Call (.Attribute (.Name x p1) "__init__" p2) (e :: es) [] pos) (tVeI X.K ta) := by
  refine ⟨fun pins s σ H Q I h => ?_⟩
  refine PySem.W.methodCall_KW (ld_glob I hg T.g ?_ hdb) hc
  refine PySem.W.method_cls I.kIn T.ga (PySem.W.cls_value I.kIn T.rd T.at_ (by decide +kernel) ?_)
  show wpAny _ _ (callWith pos (Value.builtin "ValueError.__init__") [] (backTo pos (starEach (e :: es) X.env)) []) _ _ _
  refine PyProof.Rows.callWith_method1 (thn (ha.run pos pins _ σ H _ (I.tok _) h) fun us s1 ⟨vs, H1, I1, r1, a, C, ws, ev, hl, O, ea, q⟩ => ?_) he hpl
  subst ev
  cases r1 with
  | @cons _ u0 _ ur ra rw' =>
    obtain rfl : u0 = Value.ref a := ra
    have hlen : ur.length ≤ sizeLine := by
      rw [← Paired.length rw', sizeLine_eq]
      omega
    exact oinit_ok O I1 ea hlen fun s' J => ⟨.non, H1, J, rfl, q⟩
end
/-! ### readings may be widened -/
def up (ta : TA) : TA := fun σ H Q => ∃ Q' : List V → Hp → Prop, ta σ H Q' ∧ ∀ vs H1, Q' vs H1 → Q vs H1
theorem pa_up {X : Cx} {es : List Expr} {ta : TA} (h : PA X es ta) : PA X es (up ta) := by
  refine ⟨fun pos pins s σ H Q I q => ?_⟩
  obtain ⟨Q', h1, h2⟩ := q
  exact thn (h.run pos pins s σ H Q' I h1) fun us s1 ⟨vs, H1, I1, r1, q1⟩ => ⟨vs, H1, I1, r1, h2 vs H1 q1⟩
/-! ### __init__(self, f1, f2): the base's, then both fields -/
def sp_init2 (K : PySem.W.Frag) (C : Addr) (f1 f2 : Str) : Sp := fun vs H Q _ => ∃ (a : Addr) (w n : V), vs = [.ref a, w, n] ∧ H a = some (exo a C none) ∧
  ∀ dx, H dx = none → dx ≠ a → Q .non (upd (upd (upd H dx (exd dx [(f1, w)])) a (exo a C (some dx))) dx (exd dx [(f2, n), (f1, w)]))
def t_init2 (K : PySem.W.Frag) (f1 f2 txt : Str) : TS := tSeq (tDrop (tVeI K (tCons (tVar 0) (tCons (tC (.str txt)) tNil)))) (tSeq (tOst K f1 (tVar 0) (tVar 1)) (tOst K f2 (tVar 0) (tVar 2)))
theorem pure_init2 {K : PySem.W.Frag} {C : Addr} {f1 f2 txt : Str} (O : OexC K C) (n1 : PySem.W.findIn K (.ref C) f1 = some none) (n2 : PySem.W.findIn K (.ref C) f2 = some none) (vs : List V) (H : Hp) (Q : VK) (E : XK) (h : sp_init2 K C f1 f2 vs H Q E) :
    t_init2 K f1 f2 txt (EndsQ Q) (sN 3 vs) H := by
  obtain ⟨a, w, n, rfl, ha, k⟩ := h
  show t_init2 K f1 f2 txt _ [some (.ref a), some w, some n] H
  refine ⟨_, rfl, a, C, [.str txt], rfl, (by show 1 ≤ 1000; decide), O, ha, ?_⟩
  refine ⟨_, rfl, _, rfl, a, C, rfl, O, n1, .inl ⟨ha, fun dx hd ne => ?_⟩⟩
  refine ⟨_, rfl, _, rfl, a, C, rfl, O, n2, .inr ⟨dx, [(f1, w)], upd_same, ?_, (by show 1 ≤ 900; decide), k dx hd ne⟩⟩
  rw [upd_ne ne]
  exact upd_same
/-- an error class x at C with two fields -/
structure Err2 (P : Program) (w : World) (K : PySem.W.Frag) (mg : Str → Option Value) (base : Heap) (x f1 f2 : Str) (C : Addr) : Prop where
  g : mg x = some (.ref C)
  o : OexC K C
  ini : ∃ fI fd, PySem.W.findIn K (.ref C) "__init__" = some (some (.ref fI)) ∧ PySem.W.typeIn K (.ref fI) = some (.type "function") ∧ FnOk P w K mg base CX0 1 fI fd ["self", f1, f2] (sp_init2 K C f1 f2) ∧ Binds K fd ["self", f1, f2] []
/-! ### calls of defs that may raise -/
/-! ### isinstance of the caught error, its fields told -/
structure IsC (K : PySem.W.Frag) (C : Addr) : Prop where
  cl : (PySem.W.clsIn K C).isSome = true
  ga : PySem.W.findIn K (.ref C) "__getattribute__" = some (some (.builtin "BaseException.__getattribute__"))
  gg : PySem.W.findIn K (.ref C) "__getattr__" = some none
  su : PySem.W.subIn K (.ref C) (.type "BaseException") = some true
  ha : PySem.W.findIn K (.ref C) "__class__" = some (some (.builtin "object.__class__"))
  hn : PySem.W.specialIn K (.builtin "object.__class__") "__get__" = some (some (.builtin "getset_descriptor.__get__"))
  ht : PySem.W.takesIn K (.builtin "object.__class__") = some true
  hm : PySem.W.mroIn K C (.type "object") = some true
end Wf
/-! Keys that are tuples of tuples of numbers; dicts told by their one object. -/
namespace Wf
open PySem PySem.Spec L2
section
variable (P : Program) (w : World)
inductive ItR (h : Heap) : List (List Int) → List Value → Prop
  | nil : ItR h [] []
  | cons {l : List Int} {b : Addr} {ks : List (List Int)} {vs : List Value} : IsTupleKey (intKind P w) h l b → ItR h ks vs → ItR h (l :: ks) (.ref b :: vs)
def IsRow (h : Heap) (ks : List (List Int)) (a : Addr) : Prop := ∃ o items n, h.get? a = some o ∧ o.cls = .type "tuple" ∧ o.data = .seq items n ∧ ItR P w h ks items.toList
end
def numHash (l : List Int) : Int := reduceHash (Builtin.Tuple.tupleHashOf (l.map hashInt))
def rowHash (ks : List (List Int)) : Int := reduceHash (Builtin.Tuple.tupleHashOf (ks.map numHash))
section
variable {P : Program} {w : World} {A : Around} {E : Value → Shared → Prop} {s : Shared}
theorem ItR.inj {h : Heap} {x y : List (List Int)} {vs : List Value} (hx : ItR P w h x vs) (hy : ItR P w h y vs) : x = y := by
  induction hx generalizing y with
  | nil => cases hy; rfl
  | cons h1 _ ih =>
    cases hy with
    | cons h2 t2 => rw [h1.inj h2, ih t2]
theorem IsRow.typeIs {ks : List (List Int)} {a : Addr} (x : IsRow P w s.heap ks a) : s.TypeIs (.ref a) "tuple" := let ⟨o, _, _, ho, hc, _⟩ := x; ⟨o, ho, hc⟩
theorem IsRow.inj {h : Heap} {a : Addr} {x y : List (List Int)} (hx : IsRow P w h x a) (hy : IsRow P w h y a) : x = y := by
  obtain ⟨o, items, n, ho, _, hd, hi⟩ := hx
  obtain ⟨o', items', n', ho', _, hd', hi'⟩ := hy
  obtain rfl : o = o' := Option.some.inj (ho.symm.trans ho')
  rw [hd] at hd'
  injection hd' with h1 _
  subst h1
  exact hi.inj hi'
theorem ItR.keeps {h h' : Heap} {d : Addr} {o : Obj} {es ep} (ho : h.get? d = some o) (hd : o.data = .dict es ep) (hs : Heap.SameBut d h h') {ks : List (List Int)} {vs : List Value} (x : ItR P w h ks vs) : ItR P w h' ks vs := by
  induction x with
  | nil => exact .nil
  | cons h1 _ ih => exact .cons (h1.keeps ho hd hs) ih
theorem IsRow.keeps {h h' : Heap} {ks : List (List Int)} {a d : Addr} {o : Obj} {es ep} (x : IsRow P w h ks a) (ho : h.get? d = some o) (hd : o.data = .dict es ep) (hs : Heap.SameBut d h h') : IsRow P w h' ks a := by
  obtain ⟨o', items, n, ho', hc, hd', hi⟩ := x
  have hne : a ≠ d := by
    rintro rfl
    obtain rfl : o' = o := Option.some.inj (ho'.symm.trans ho)
    rw [hd] at hd'; exact nomatch hd'
  exact ⟨o', items, n, (hs.2 a hne).trans ho', hc, hd', hi.keeps ho hd hs⟩
end
/-- the keys: tuples of numbers, rows -/
abbrev KyT : Bool → Type
  | false => List Int
  | true => List (List Int)
instance kyDec : (r : Bool) → DecidableEq (KyT r)
  | false => inferInstanceAs (DecidableEq (List Int))
  | true => inferInstanceAs (DecidableEq (List (List Int)))
def kyHash : (r : Bool) → KyT r → Int
  | false => numHash
  | true => rowHash
/-- the datum of a key -/
def kyD : (r : Bool) → KyT r → PyData
  | false, l => .tuple (l.map .int)
  | true, ks => .tuple (ks.map fun l => .tuple (l.map .int))
def entD (r : Bool) (x : KyT r × Addr × Value) : DictEntry := ⟨kyHash r x.1, .ref x.2.1, x.2.2⟩
/-- the object of a dict -/
def DctO (a : Addr) (r : Bool) (ks : List (KyT r)) (bs : List Addr) (us : List V) : HO := .ext fun h =>
  ∃ ws : List Value, Vals us ws ∧ ∃ o es ep, h.get? a = some o ∧ o.ExactDict ∧ o.data = .dict es ep ∧ es.toList = (ks.zip (bs.zip ws)).map (entD r)
/-- some heap has a dict there -/
def OwnD (φ : Heap → Prop) (a : Addr) : Prop := ∃ h : Heap, φ h ∧ ∃ o es ep, h.get? a = some o ∧ o.data = .dict es ep
end Wf
/-! By value: what a def does, told of data alone. Things that never change are data; a list of one's own is told by its items, by the slot that holds it. -/
namespace Pv
open PySem PySem.Spec L2 Wf
/-- what stands and stays below a def, and the tables of code -/
structure Bas where
  hp : Hp
  ht : Hp
  T : List NdefX.NTab
/-- tables of code grow -/
structure TbG (T : List NdefX.NTab) (H H' : Hp) : Prop where
  ts : NdefX.TabsN T H → NdefX.TabsN T H'
  st : ∀ a ps, H a = some (.tbl ps) → ∃ qs, H' a = some (.tbl qs)
theorem TbG.refl {T : List NdefX.NTab} {H : Hp} : TbG T H H := ⟨fun h => h, fun _ ps h => ⟨ps, h⟩⟩
theorem TbG.trans {T : List NdefX.NTab} {H H1 H2 : Hp} (a : TbG T H H1) (b : TbG T H1 H2) : TbG T H H2 := ⟨fun h => b.ts (a.ts h), fun x ps h => by
  obtain ⟨qs, h1⟩ := a.st x ps h
  exact b.st x qs h1⟩
theorem TbG.same {T : List NdefX.NTab} {H H' : Hp} (s : Same H H') : TbG T H H' := ⟨fun t => t.ext s, fun _ ps h => ⟨ps, s _ _ h⟩⟩
instance : CoeFun Bas fun _ => Hp := ⟨Bas.hp⟩
variable {B : Bas} {T : List NdefX.NTab}
/-! ### data: None, truths, numbers, texts, tuples, lists that change no more -/
mutual
inductive Dq (K : PySem.W.Frag) (G : Hp) : V → PyData → Prop
  | non : Dq K G .non .none
  | bl (b : Bool) : Dq K G (.bl b) (.bool b)
  | int (i : Int) : Dq K G (.int i) (.int i)
  | str (x : Str) : Dq K G (.str x) (.str x)
  | lst {a : Addr} {xs : List V} {ds : List PyData} : G a = some (.lst xs) → DqAll K G xs ds → Dq K G (.ref a) (.list ds)
  | tup {a : Addr} {xs : List V} {ds : List PyData} : SqT K G a xs → DqAll K G xs ds → Dq K G (.ref a) (.tuple ds)
inductive DqAll (K : PySem.W.Frag) (G : Hp) : List V → List PyData → Prop
  | nil : DqAll K G [] []
  | cons {v : V} {vs : List V} {d : PyData} {ds : List PyData} : Dq K G v d → DqAll K G vs ds → DqAll K G (v :: vs) (d :: ds)
end
/-- an error's fields -/
inductive Fl (K : PySem.W.Frag) (G : Hp) : List (Str × V) → List (Str × PyData) → Prop
  | nil : Fl K G [] []
  | cons {x : Str} {v : V} {d : PyData} {us : List (Str × V)} {fs : List (Str × PyData)} : Dq K G v d → Fl K G us fs → Fl K G ((x, v) :: us) ((x, d) :: fs)
/-- a lambda that holds nothing: its name, parameters, body, scope, where its code object stands -/
structure LF where
  qual : Str
  params : Arguments
  body : Expr
  scope : Scope
  c : Addr
def LamO (f : Addr) (F : LF) : HO := .ext fun h => ∃ pm ctv : Value, h.get? f = some (PySem.W.kla_obj "<lambda>" F.qual F.params F.body F.scope [] pm F.c ctv)
/-- what a record holds under a name: data; a tuple whose object is known -/
inductive Rv where
  | im (d : PyData)
  | ptl (ds : List PyData)
/-- a record: names, what stands under them -/
abbrev Rc := List (Str × Rv)
/-- what a field of an object holds: data; a record; an own list of data; an own list of records -/
inductive Fd where
  | dat (d : PyData)
  | rcd (r : Rc)
  | lst (ds : List PyData)
  | rcs (rs : List Rc)
/-- a thing of one's own: a list of data, the dict of draws, the script; a tuple whose object is known; a lambda; a dict by tuples of numbers -/
inductive O where
  | lst (ds : List PyData)
  | deal
  | scr (ns : List Int)
  | ptl (ds : List PyData)
  | lam (F : LF)
  | dic (ks : List (List Int)) (ds : List PyData)
  | dct (r : Bool) (ks : List (KyT r)) (ds : List PyData)
  | lls (bs : List Addr) (dss : List (List PyData))
  | lds (q : Bool) (kss : List (List (KyT q)))
  | pds (q : Bool) (ks : List (KyT q))
  | lob (C : Addr) (fss : List (List (Str × Fd)))
  | per (C : Addr) (fs : List (Str × PyData))
  | ler (ess : List (Addr × List (Str × PyData)))
  | gle (ess : List (Addr × List (Str × PyData)))
  | rcd (r : Rc)
  | obj (C : Addr) (fs : List (Str × Fd))
  | bob (C : Addr) (fs : List (Str × Fd))
def recK (r : Rc) (us : List V) : List (Key × V) := (r.map fun x => (Sum.inr x.1 : Key)).zip us
def dicK (ks : List (List Int)) (us : List V) : List (List Key × V) := (ks.map fun k => k.map Sum.inl).zip us
/-- what a slot holds: not known; data; a thing of one's own (pin: a parameter's, the slot is not stored to); a caught error -/
inductive Sl where
  | un
  | im (d : PyData)
  | ow (pin : Bool) (o : O)
  | ex (a dd C : Addr) (fs : List (Str × PyData))
/-- what an expression gives: data; a new thing of one's own; what slot i holds -/
inductive R where
  | im (d : PyData)
  | ow (o : O)
  | at (i : Nat)
mutual
/-- data; where it is a tuple its object is known, and so within -/
inductive Kn (K : PySem.W.Frag) (G : Hp) : V → PyData → Prop
  | any {v : V} {d : PyData} : Dq K G v d → (∀ es, d ≠ .tuple es) → Kn K G v d
  | tup {p : Addr} {o : Obj} {us : List V} {ds : List PyData} : G p = some (.frz o (.tup us)) → o.cls = .type "tuple" → o.dict = none → KnAll K G us ds → Kn K G (.ref p) (.tuple ds)
inductive KnAll (K : PySem.W.Frag) (G : Hp) : List V → List PyData → Prop
  | nil : KnAll K G [] []
  | cons {v : V} {d : PyData} {vs : List V} {ds : List PyData} : Kn K G v d → KnAll K G vs ds → KnAll K G (v :: vs) (d :: ds)
end
section
variable (K : PySem.W.Frag)
/-- lists of one's own, each with its data -/
inductive InL (G H : Hp) (m : Addr → Prop) : List Addr → List (List PyData) → Prop
  | nil : InL G H m [] []
  | cons {b : Addr} {us : List V} {ds : List PyData} {bs : List Addr} {dss : List (List PyData)} : m b → H b = some (.lst us) → DqAll K G us ds → InL G H m bs dss → InL G H m (b :: bs) (ds :: dss)
def RvR (G : Hp) (v : V) : Rv → Prop
  | .im d => Dq K G v d
  | .ptl ds => ∃ p o us, v = .ref p ∧ G p = some (.frz o (.tup us)) ∧ o.cls = .type "tuple" ∧ o.dict = none ∧ DqAll K G us ds ∧ KnAll K G us ds
inductive RvAll (G : Hp) : List V → List Rv → Prop
  | nil : RvAll G [] []
  | cons {v : V} {vs : List V} {r : Rv} {rs : List Rv} : RvR K G v r → RvAll G vs rs → RvAll G (v :: vs) (r :: rs)
/-- a record stands, for good -/
def RcR (G : Hp) (v : V) (r : Rc) : Prop := ∃ a us, v = .ref a ∧ G a = some (.dK (recK r us)) ∧ RvAll K G us (r.map (·.2))
inductive RcAll (G : Hp) : List V → List Rc → Prop
  | nil : RcAll G [] []
  | cons {v : V} {vs : List V} {r : Rc} {rs : List Rc} : RcR K G v r → RcAll G vs rs → RcAll G (v :: vs) (r :: rs)
/-- an object's fields: what they hold, their values, where the own lists stand -/
inductive FdsR (G H : Hp) (m : Addr → Prop) : List (Str × Fd) → List (Str × V) → List Addr → Prop
  | nil : FdsR G H m [] [] []
  | dat {x : Str} {v : V} {d : PyData} {fs : List (Str × Fd)} {us : List (Str × V)} {as : List Addr} : Dq K G v d → FdsR G H m fs us as → FdsR G H m ((x, .dat d) :: fs) ((x, v) :: us) as
  | rcd {x : Str} {v : V} {r : Rc} {fs : List (Str × Fd)} {us : List (Str × V)} {as : List Addr} : RcR K G v r → FdsR G H m fs us as → FdsR G H m ((x, .rcd r) :: fs) ((x, v) :: us) as
  | lst {x : Str} {a : Addr} {vs : List V} {ds : List PyData} {fs : List (Str × Fd)} {us : List (Str × V)} {as : List Addr} : m a → H a = some (.lst vs) → DqAll K G vs ds → a ∉ as → FdsR G H m fs us as → FdsR G H m ((x, .lst ds) :: fs) ((x, .ref a) :: us) (a :: as)
  | rcs {x : Str} {a : Addr} {vs : List V} {rs : List Rc} {fs : List (Str × Fd)} {us : List (Str × V)} {as : List Addr} : m a → H a = some (.lst vs) → RcAll K G vs rs → a ∉ as → FdsR G H m fs us as → FdsR G H m ((x, .rcs rs) :: fs) ((x, .ref a) :: us) (a :: as)
/-- a dict by tuples that stands for good: its keys -/
def PdR (G : Hp) (v : V) (q : Bool) (ks : List (KyT q)) : Prop := ∃ a bs us, v = .ref a ∧ G a = some (DctO a q ks bs us) ∧ ((a == sysModules) = false ∧ ks.length ≤ sizeLine ∧ ks.Nodup ∧ us.length = ks.length ∧ bs.length = ks.length) ∧ DqAll K G (bs.map V.ref) (ks.map (kyD q))
inductive PdAll (G : Hp) (q : Bool) : List V → List (List (KyT q)) → Prop
  | nil : PdAll G q [] []
  | cons {v : V} {vs : List V} {ks : List (KyT q)} {kss : List (List (KyT q))} : PdR K G v q ks → PdAll G q vs kss → PdAll G q (v :: vs) (ks :: kss)
/-- an object that stands for good -/
def BoR (G : Hp) (v : V) (C : Addr) (fs : List (Str × Fd)) : Prop := ∃ p dx us as, v = .ref p ∧ G dx = some (.own p) ∧ G p = some (.ins C dx us) ∧ FdsR K G G (fun _ => True) fs us as
inductive BoAll (G : Hp) (C : Addr) : List V → List (List (Str × Fd)) → Prop
  | nil : BoAll G C [] []
  | cons {v : V} {vs : List V} {fs : List (Str × Fd)} {fss : List (List (Str × Fd))} : BoR K G v C fs → BoAll G C vs fss → BoAll G C (v :: vs) (fs :: fss)
/-- an error that stands for good -/
def ErR (G : Hp) (v : V) (C : Addr) (fs : List (Str × PyData)) : Prop := ∃ a dd us, v = .ref a ∧ G a = some (Wf.ExD (.ref C) dd a) ∧ G dd = some (.xd us) ∧ Fl K G us fs
inductive ErAll (G : Hp) : List V → List (Addr × List (Str × PyData)) → Prop
  | nil : ErAll G [] []
  | cons {v : V} {vs : List V} {C : Addr} {fs : List (Str × PyData)} {ess : List (Addr × List (Str × PyData))} : ErR K G v C fs → ErAll G vs ess → ErAll G (v :: vs) ((C, fs) :: ess)
def RO (G H : Hp) (m : Addr → Prop) (v : V) : O → Prop
  | .lst ds => ∃ a us, v = .ref a ∧ m a ∧ H a = some (.lst us) ∧ DqAll K G us ds
  | .deal => ∃ d l, v = .ref d ∧ m d ∧ m l ∧ Deal H d l
  | .scr ns => ∃ a, v = .ref a ∧ ((∃ o, m a ∧ H a = some (.frz o (.lst (ns.map V.int)))) ∨ ∀ H1, SqL K H1 a (ns.map V.int))
  | .ptl ds => ∃ p o us, v = .ref p ∧ G p = some (.frz o (.tup us)) ∧ o.cls = .type "tuple" ∧ o.dict = none ∧ DqAll K G us ds ∧ KnAll K G us ds
  | .lam F => ∃ f, v = .ref f ∧ G f = some (LamO f F) ∧ G F.c = some (LamX.CodeO F.c F.qual)
  | .dic ks ds => ∃ a us, v = .ref a ∧ m a ∧ H a = some (.dT (dicK ks us)) ∧ us.length = ks.length ∧ DqAll K G us ds
  | .dct r ks ds => ∃ a bs us, v = .ref a ∧ m a ∧ H a = some (DctO a r ks bs us) ∧ ((a == sysModules) = false ∧ ks.length ≤ sizeLine ∧ ks.Nodup ∧ us.length = ks.length ∧ bs.length = ks.length) ∧ DqAll K G (bs.map V.ref) (ks.map (kyD r)) ∧ DqAll K G us ds
  | .lls bs dss => ∃ a, v = .ref a ∧ m a ∧ H a = some (.lst (bs.map V.ref)) ∧ (a :: bs).Nodup ∧ InL K G H m bs dss
  | .lds q kss => ∃ a us, v = .ref a ∧ m a ∧ H a = some (.lst us) ∧ PdAll K G q us kss
  | .pds q ks => PdR K G v q ks
  | .lob C fss => ∃ a us, v = .ref a ∧ m a ∧ H a = some (.lst us) ∧ BoAll K G C us fss
  | .per C fs => ErR K G v C fs
  | .ler ess => ∃ a us, v = .ref a ∧ m a ∧ H a = some (.lst us) ∧ ErAll K G us ess
  | .gle ess => ∃ a us, v = .ref a ∧ G a = some (.lst us) ∧ ErAll K G us ess
  | .rcd r => RcR K G v r
  | .obj C fs => ∃ p dx us as, v = .ref p ∧ m p ∧ m dx ∧ H dx = some (.own p) ∧ H p = some (.ins C dx us) ∧ FdsR K G H m fs us as
  | .bob C fs => ∃ p dx us as, v = .ref p ∧ G dx = some (.own p) ∧ G p = some (.ins C dx us) ∧ FdsR K G G (fun _ => True) fs us as
def SlR (G H : Hp) (m : Addr → Prop) (o : Option (Option V)) : Sl → Prop
  | .un => True
  | .im d => ∃ v, o = some (some v) ∧ Dq K G v d
  | .ow _ ob => ∃ v, o = some (some v) ∧ RO K G H m v ob
  | .ex a dd _ fs => o = some (some (.ref a)) ∧ ∃ us, G dd = some (.xd us) ∧ Fl K G us fs
def RR (G H : Hp) (σ : St) (m : Addr → Prop) (v : V) : R → Prop
  | .im d => Dq K G v d
  | .ow o => RO K G H m v o
  | .at i => σ[i]? = some (some v)
/-- no table of code -/
def NT (o : HO) : Prop := ∀ ps, o ≠ .tbl ps
/-- a thing that nobody owns: a tuple, a code object, a lambda -/
def RdX (H : Hp) (a : Addr) : Option (List V) → Prop
  | some xs => Rd H a (.tup xs)
  | none => ∃ φ, H a = some (.ext φ) ∧ ¬ OwnD φ a
def NoX (H : Hp) (a : Addr) : Prop := ∀ xs, ¬ RdX H a xs
theorem NoX.t {H : Hp} {a : Addr} (n : NoX H a) : NoT H a := fun xs => n (some xs)
theorem RdX.same {H H' : Hp} {a : Addr} {o : HO} (e : H a = some o) (e2 : H' a = some o) : ∀ {xs : Option (List V)}, RdX H' a xs → RdX H a xs
  | some xs, z => by
    rcases z with z | ⟨ob, z⟩
    · rw [e2] at z; cases z; exact .inl e
    · rw [e2] at z; cases z; exact .inr ⟨ob, e⟩
  | none, ⟨φ, z, n⟩ => ⟨φ, by rw [e2] at z; rw [e, z], n⟩
theorem NoX.same {H H' : Hp} {a : Addr} {o : HO} (e : H a = some o) (e2 : H' a = some o) (n : NoX H a) : NoX H' a := fun xs z => n xs (RdX.same e e2 z)
theorem NoX.of {H : Hp} {a : Addr} {o : HO} (e : H a = some o) (n1 : ∀ xs, o ≠ .tup xs) (n2 : ∀ ob xs, o ≠ .frz ob (.tup xs)) (n3 : ∀ φ, o ≠ .ext φ) : NoX H a
  | some xs, z => by
    rcases z with z | ⟨ob, z⟩
    · rw [e] at z; cases z; exact n1 _ rfl
    · rw [e] at z; cases z; exact n2 _ _ rfl
  | none, ⟨φ, z, _⟩ => by rw [e] at z; cases z; exact n3 _ rfl
theorem NoX.own {H : Hp} {a : Addr} {φ : Heap → Prop} (e : H a = some (.ext φ)) (n : OwnD φ a) : NoX H a
  | some xs, z => by
    rcases z with z | ⟨ob, z⟩ <;> · rw [e] at z; cases z
  | none, ⟨ψ, z, n2⟩ => by rw [e] at z; cases z; exact n2 n
theorem NoX.tbl {H : Hp} {a : Addr} {ps : Array Value} (e : H a = some (.tbl ps)) : NoX H a := NoX.of e (fun _ z => by cases z) (fun _ _ z => by cases z) fun _ z => by cases z
theorem NoX.lst {H : Hp} {a : Addr} {ps : List V} (e : H a = some (.lst ps)) : NoX H a := NoX.of e (fun _ z => by cases z) (fun _ _ z => by cases z) fun _ z => by cases z
theorem RdX.upd {H : Hp} {a p : Addr} {o : HO} (h : a ≠ p) : ∀ {xs : Option (List V)}, RdX (upd H p o) a xs → RdX H a xs
  | some xs, z => by
    rcases z with z | ⟨ob, z⟩
    · rw [upd_ne h] at z; exact .inl z
    · rw [upd_ne h] at z; exact .inr ⟨ob, z⟩
  | none, ⟨φ, z, n⟩ => ⟨φ, by rw [upd_ne h] at z; exact z, n⟩
structure BsOk (B : Bas) (G H : Hp) (w : Addr → Option Nat) : Prop where
  to : ∀ a o, B a = some o → H a = some o ∧ w a = none ∧ NT o
  tt : TbG B.T B.ht H
  ta : NdefX.TabsN B.T B.ht
  gt : ∀ a ps, G a ≠ some (.tbl ps)
/-- G: what never changes any more; w: whose an address is (2 i: slot i's, 2 j + 1: value j's) -/
structure Rep (B : Bas) (G H : Hp) (σ : St) (δ : List Sl) (vs : List V) (rs : List R) (w : Addr → Option Nat) : Prop where
  sub : Same G H
  out : ∀ a i, w a = some i → G a = none ∧ H a ≠ none ∧ NoX H a
  len : σ.length = δ.length
  sl : ∀ i s, δ[i]? = some s → SlR K G H (fun a => w a = some (2 * i)) σ[i]? s
  tlen : vs.length = rs.length
  tm : ∀ j v r, vs[j]? = some v → rs[j]? = some r → RR K G H σ (fun a => w a = some (2 * j + 1)) v r
  bs : BsOk B G H w
end
def Pn (δ δ' : List Sl) : Prop := ∀ (i : Nat) (o : O), δ[i]? = some (Sl.ow true o) → ∃ o', δ'[i]? = some (Sl.ow true o')
/-- a step: what is public stays so, what is not ours stays as it is, but tables of code -/
structure Stp (T : List NdefX.NTab) (G H : Hp) (w : Addr → Option Nat) (δ : List Sl) (G' H' : Hp) (w' : Addr → Option Nat) (δ' : List Sl) : Prop where
  g : Same G G'
  b : ∀ a o, w a = none → H a = some o → H' a = some o ∨ ∃ ps qs, o = .tbl ps ∧ H' a = some (.tbl qs)
  n : ∀ a i, w' a = some i → w a ≠ none ∨ H a = none
  p : ∀ a o, G' a = some o → G a = some o ∨ H a = none ∨ w a ≠ none ∨ ∃ xs, RdX H a xs
  pn : Pn δ δ'
  t : TbG T H H'
  q : ∀ a ps, G' a = some (.tbl ps) → G a = some (.tbl ps)
/-- a step that leaves the tables as they are -/
structure StpO (G H : Hp) (w : Addr → Option Nat) (δ : List Sl) (G' H' : Hp) (w' : Addr → Option Nat) (δ' : List Sl) : Prop where
  g : Same G G'
  b : ∀ a o, w a = none → H a = some o → H' a = some o
  n : ∀ a i, w' a = some i → w a ≠ none ∨ H a = none
  p : ∀ a o, G' a = some o → G a = some o ∨ H a = none ∨ w a ≠ none ∨ ∃ xs, RdX H a xs
  pn : Pn δ δ'
theorem w_stay {H : Hp} {w w' : Addr → Option Nat} (n : ∀ a i, w' a = some i → w a ≠ none ∨ H a = none) {a : Addr} {o : HO} (h1 : w a = none) (h2 : H a = some o) : w' a = none := by
  cases e : w' a with
  | none => rfl
  | some i =>
    rcases n a i e with z | z
    · exact absurd h1 z
    · rw [h2] at z; cases z
theorem Stp.of {G H G' H' : Hp} {w w' : Addr → Option Nat} {δ δ' : List Sl} (s : StpO G H w δ G' H' w' δ') (t : TbG T H H' := by exact TbG.refl) (q : ∀ a ps, G' a = some (.tbl ps) → G a = some (.tbl ps) := by exact fun _ _ h => h) : Stp T G H w δ G' H' w' δ' :=
  ⟨s.g, fun a o h1 h2 => .inl (s.b a o h1 h2), s.n, s.p, s.pn, t, q⟩
theorem q_new {G : Hp} {p : Addr} {o : HO} (n : NT o) : ∀ a ps, upd G p o a = some (.tbl ps) → G a = some (.tbl ps) := fun a ps h => by
  by_cases e : a = p
  · subst e; rw [upd_same] at h; cases h; exact absurd rfl (n ps)
  · rwa [upd_ne e] at h
theorem tabs_new {H : Hp} {p : Addr} {o : HO} (h : H p = none) : TbG T H (upd H p o) := .same (same_new h)
theorem tabs_put {H : Hp} {D : Addr} {xs ys : List V} (h : H D = some (.lst xs)) : TbG T H (upd H D (.lst ys)) := ⟨fun t p hp => by
  obtain ⟨ps, h1, h2, h3⟩ := t p hp
  refine ⟨ps, by rw [upd_ne (fun z => by rw [z, h] at h1; cases h1)]; exact h1, h2, fun pos cv hc => ?_⟩
  obtain ⟨c, e1, e2⟩ := h3 pos cv hc
  exact ⟨c, e1, by rw [upd_ne (fun z => by rw [z, h] at e2; cases e2)]; exact e2⟩, fun a ps e => ⟨ps, by rw [upd_ne (fun z => by rw [z, h] at e; cases e)]; exact e⟩⟩
theorem Stp.bN {G H G' H' : Hp} {w w' : Addr → Option Nat} {δ δ' : List Sl} (s : Stp T G H w δ G' H' w' δ') (a : Addr) (o : HO) (hn : NT o) (hw : w a = none) (h : H a = some o) : H' a = some o := by
  rcases s.b a o hw h with z | ⟨ps, _, z, _⟩
  · exact z
  · exact absurd z (hn ps)
theorem Stp.nn {G H G' H' : Hp} {w w' : Addr → Option Nat} {δ δ' : List Sl} (s : Stp T G H w δ G' H' w' δ') (a : Addr) (hw : w a = none) (h : H a ≠ none) (t : NoX H a) : H' a ≠ none ∧ NoX H' a := by
  cases e : H a with
  | none => exact absurd e h
  | some o =>
    rcases s.b a o hw e with z | ⟨ps, qs, _, z⟩
    · exact ⟨by rw [z]; exact Option.some_ne_none _, t.same e z⟩
    · exact ⟨by rw [z]; exact Option.some_ne_none _, NoX.tbl z⟩
theorem Pn.refl (δ : List Sl) : Pn δ δ := fun _ o h => ⟨o, h⟩
theorem Pn.trans {a b c : List Sl} (x : Pn a b) (y : Pn b c) : Pn a c := fun i o h => by
  obtain ⟨o1, h1⟩ := x i o h
  exact y i o1 h1
theorem Stp.refl {G H : Hp} {w : Addr → Option Nat} {δ : List Sl} : Stp T G H w δ G H w δ :=
  .of ⟨fun _ _ h => h, fun _ _ _ h => h, fun a i h => .inl (by rw [h]; exact Option.some_ne_none _), fun _ _ h => .inl h, .refl _⟩
theorem Stp.bs {G H G' H' : Hp} {w w' : Addr → Option Nat} {δ δ' : List Sl} (s : Stp B.T G H w δ G' H' w' δ') (h : BsOk B G H w) : BsOk B G' H' w' :=
  ⟨fun a o hb => by
    obtain ⟨h1, h2, h3⟩ := h.to a o hb
    exact ⟨s.bN a o h3 h2 h1, w_stay s.n h2 h1, h3⟩, h.tt.trans s.t, h.ta, fun a ps e => h.gt a ps (s.q a ps e)⟩
theorem Stp.trans {G H G1 H1 G2 H2 : Hp} {w w1 w2 : Addr → Option Nat} {δ δ1 δ2 : List Sl} (a : Stp T G H w δ G1 H1 w1 δ1) (b : Stp T G1 H1 w1 δ1 G2 H2 w2 δ2) : Stp T G H w δ G2 H2 w2 δ2 := by
  have no : ∀ x o, w x = none → H x = some o → w1 x = none := fun x o h1 h2 => by
    cases e : w1 x with
    | none => rfl
    | some i =>
      rcases a.n x i e with z | z
      · exact absurd h1 z
      · rw [h2] at z; cases z
  have none1 : ∀ x, H1 x = none → w x ≠ none ∨ H x = none := fun x h => by
    cases e : w x with
    | some i => exact .inl (Option.some_ne_none _)
    | none =>
      cases e2 : H x with
      | none => exact .inr rfl
      | some o =>
        rcases a.b x o e e2 with z | ⟨_, _, _, z⟩ <;> · rw [z] at h; cases h
  have w1n : ∀ x, w1 x ≠ none → w x ≠ none ∨ H x = none := fun x h => by
    cases e : w1 x with
    | none => exact absurd e h
    | some i => exact a.n x i e
  refine ⟨fun x o h => b.g x o (a.g x o h), fun x o h1 h2 => ?_, fun x i h => ?_, fun x o h => ?_, a.pn.trans b.pn, a.t.trans b.t, fun x ps h => a.q x ps (b.q x ps h)⟩
  · rcases a.b x o h1 h2 with z | ⟨ps, qs, z1, z2⟩
    · exact b.b x o (no x o h1 h2) z
    · rcases b.b x _ (no x o h1 h2) z2 with y | ⟨_, rs, _, y⟩
      · exact .inr ⟨ps, qs, z1, y⟩
      · exact .inr ⟨ps, rs, z1, y⟩
  · rcases b.n x i h with z | z
    · exact w1n x z
    · exact none1 x z
  · rcases b.p x o h with z | z | z | ⟨xs, z⟩
    · exact a.p x o z
    · rcases none1 x z with q | q
      · exact .inr (.inr (.inl q))
      · exact .inr (.inl q)
    · rcases w1n x z with q | q
      · exact .inr (.inr (.inl q))
      · exact .inr (.inl q)
    · cases e : w x with
      | some i => exact .inr (.inr (.inl (Option.some_ne_none _)))
      | none =>
        cases e2 : H x with
        | none => exact .inr (.inl rfl)
        | some u =>
          refine .inr (.inr (.inr ⟨xs, ?_⟩))
          rcases a.b x u e e2 with e3 | ⟨_, _, _, e3⟩
          · exact RdX.same e2 e3 z
          · exact absurd z (NoX.tbl e3 xs)
/-! ### data stays -/
mutual
theorem dp_mono {K : PySem.W.Frag} {G G' : Hp} (s : Same G G') : ∀ (d : PyData) (v : V), Dq K G v d → Dq K G' v d
  | .none, _, h => by cases h; exact .non
  | .bool b, _, h => by cases h; exact .bl b
  | .int i, _, h => by cases h; exact .int i
  | .str x, _, h => by cases h; exact .str x
  | .dict _, _, h => by cases h
  | .list ds, _, h => by
    cases h with
    | lst hs ha =>
      exact .lst (s _ _ hs) (dpAll_mono s ds _ ha)
  | .tuple ds, _, h => by
    cases h with
    | tup hs ha => exact .tup (Same.tp s _ _ hs) (dpAll_mono s ds _ ha)
theorem dpAll_mono {K : PySem.W.Frag} {G G' : Hp} (s : Same G G') : ∀ (ds : List PyData) (vs : List V), DqAll K G vs ds → DqAll K G' vs ds
  | [], _, h => by cases h; exact .nil
  | d :: ds, _, h => by
    cases h with
    | cons h1 h2 => exact .cons (dp_mono s d _ h1) (dpAll_mono s ds _ h2)
end
mutual
theorem pl_mono {K : PySem.W.Frag} {G G' : Hp} (s : Same G G') : ∀ (v : V) (d : PyData), Kn K G v d → Kn K G' v d
  | _, _, .any h n => .any (dp_mono s _ _ h) n
  | _, _, .tup h1 h2 h3 h4 => .tup (s _ _ h1) h2 h3 (plAll_mono s _ _ h4)
theorem plAll_mono {K : PySem.W.Frag} {G G' : Hp} (s : Same G G') : ∀ (vs : List V) (ds : List PyData), KnAll K G vs ds → KnAll K G' vs ds
  | _, _, .nil => .nil
  | _, _, .cons h1 h2 => .cons (pl_mono s _ _ h1) (plAll_mono s _ _ h2)
end
theorem Fl.mono {K : PySem.W.Frag} {G G' : Hp} (s : Same G G') : ∀ {us : List (Str × V)} {fs : List (Str × PyData)}, Fl K G us fs → Fl K G' us fs
  | _, _, .nil => .nil
  | _, _, .cons h1 h2 => .cons (dp_mono s _ _ h1) (Fl.mono s h2)
theorem InL.monoN {K : PySem.W.Frag} {G G' H H' : Hp} {m m' : Addr → Prop} (s : Same G G') (hh : ∀ a u, NT u → m a → H a = some u → H' a = some u) (hm : ∀ a u, m a → H a = some u → m' a) {bs : List Addr} {dss : List (List PyData)} (h : InL K G H m bs dss) : InL K G' H' m' bs dss := by
  induction h with
  | nil => exact .nil
  | cons mb hb hd _ ih => exact .cons (hm _ _ mb hb) (hh _ _ nofun mb hb) (dpAll_mono s _ _ hd) ih
theorem RvR.mono {K : PySem.W.Frag} {G G' : Hp} (s : Same G G') {v : V} {r : Rv} (h : RvR K G v r) : RvR K G' v r := by
  cases r with
  | im d => exact dp_mono s _ _ h
  | ptl ds =>
    obtain ⟨p, o, us, e, hp, h1, h2, hd, hl⟩ := h
    exact ⟨p, o, us, e, s _ _ hp, h1, h2, dpAll_mono s _ _ hd, plAll_mono s _ _ hl⟩
theorem RvAll.mono {K : PySem.W.Frag} {G G' : Hp} (s : Same G G') {vs : List V} {rs : List Rv} (h : RvAll K G vs rs) : RvAll K G' vs rs := by
  induction h with
  | nil => exact .nil
  | cons h1 _ ih => exact .cons (h1.mono s) ih
theorem RcR.mono {K : PySem.W.Frag} {G G' : Hp} (s : Same G G') {v : V} {r : Rc} (h : RcR K G v r) : RcR K G' v r := by
  obtain ⟨a, us, e, h1, h2⟩ := h
  exact ⟨a, us, e, s _ _ h1, h2.mono s⟩
theorem RcAll.mono {K : PySem.W.Frag} {G G' : Hp} (s : Same G G') {vs : List V} {rs : List Rc} (h : RcAll K G vs rs) : RcAll K G' vs rs := by
  induction h with
  | nil => exact .nil
  | cons h1 _ ih => exact .cons (h1.mono s) ih
theorem PdR.mono {K : PySem.W.Frag} {G G' : Hp} (s : Same G G') {v : V} {q : Bool} {ks : List (KyT q)} (h : PdR K G v q ks) : PdR K G' v q ks := by
  obtain ⟨a, bs, us, e, h1, h2, h3⟩ := h
  exact ⟨a, bs, us, e, s _ _ h1, h2, dpAll_mono s _ _ h3⟩
theorem PdAll.mono {K : PySem.W.Frag} {G G' : Hp} (s : Same G G') {q : Bool} {vs : List V} {kss : List (List (KyT q))} (h : PdAll K G q vs kss) : PdAll K G' q vs kss := by
  induction h with
  | nil => exact .nil
  | cons h1 _ ih => exact .cons (h1.mono s) ih
theorem FdsR.monoN {K : PySem.W.Frag} {G G' H H' : Hp} {m m' : Addr → Prop} (s : Same G G') (hh : ∀ a u, NT u → m a → H a = some u → H' a = some u) (hm : ∀ a u, m a → H a = some u → m' a) {fs : List (Str × Fd)} {us : List (Str × V)} {as : List Addr} (h : FdsR K G H m fs us as) : FdsR K G' H' m' fs us as := by
  induction h with
  | nil => exact .nil
  | dat h1 _ ih => exact .dat (dp_mono s _ _ h1) ih
  | rcd h1 _ ih => exact .rcd (h1.mono s) ih
  | lst ma ha hd n _ ih => exact .lst (hm _ _ ma ha) (hh _ _ nofun ma ha) (dpAll_mono s _ _ hd) n ih
  | rcs ma ha hd n _ ih => exact .rcs (hm _ _ ma ha) (hh _ _ nofun ma ha) (hd.mono s) n ih
theorem BoR.mono {K : PySem.W.Frag} {G G' : Hp} (s : Same G G') {v : V} {C : Addr} {fs : List (Str × Fd)} (h : BoR K G v C fs) : BoR K G' v C fs := by
  obtain ⟨p, dx, us, as, e, hd, hp, hf⟩ := h
  exact ⟨p, dx, us, as, e, s _ _ hd, s _ _ hp, hf.monoN s (fun a u _ _ hu => s a u hu) fun _ _ _ _ => trivial⟩
theorem BoAll.mono {K : PySem.W.Frag} {G G' : Hp} (s : Same G G') {C : Addr} {vs : List V} {fss : List (List (Str × Fd))} (h : BoAll K G C vs fss) : BoAll K G' C vs fss := by
  induction h with
  | nil => exact .nil
  | cons h1 _ ih => exact .cons (h1.mono s) ih
theorem ErR.mono {K : PySem.W.Frag} {G G' : Hp} (s : Same G G') {v : V} {C : Addr} {fs : List (Str × PyData)} (h : ErR K G v C fs) : ErR K G' v C fs := by
  obtain ⟨a, dd, us, e, h1, h2, h3⟩ := h
  exact ⟨a, dd, us, e, s _ _ h1, s _ _ h2, h3.mono s⟩
theorem ErAll.mono {K : PySem.W.Frag} {G G' : Hp} (s : Same G G') {vs : List V} {ess : List (Addr × List (Str × PyData))} (h : ErAll K G vs ess) : ErAll K G' vs ess := by
  induction h with
  | nil => exact .nil
  | cons h1 _ ih => exact .cons (h1.mono s) ih
theorem RO.monoN {K : PySem.W.Frag} {G G' H H' : Hp} {m m' : Addr → Prop} {v : V} {o : O} (s : Same G G') (hh : ∀ a u, NT u → m a → H a = some u → H' a = some u) (hm : ∀ a u, m a → H a = some u → m' a) (h : RO K G H m v o) : RO K G' H' m' v o := by
  cases o with
  | lst ds =>
    obtain ⟨a, us, e, ma, ha, hd⟩ := h
    exact ⟨a, us, e, hm a _ ma ha, hh a _ nofun ma ha, dpAll_mono s _ _ hd⟩
  | deal =>
    obtain ⟨d, l, e, md, ml, hd⟩ := h
    obtain ⟨z1, z2, z3, z4, h1, h2, h3⟩ := hd.ex
    exact ⟨d, l, e, hm d _ md h1, hm l _ ml h2, z1, z2, z3, z4, hh d _ nofun md h1, hh l _ nofun ml h2, h3⟩
  | scr ns =>
    obtain ⟨a, e, ⟨o, ma, h⟩ | h⟩ := h
    · exact ⟨a, e, .inl ⟨o, hm a _ ma h, hh a _ nofun ma h⟩⟩
    · exact ⟨a, e, .inr h⟩
  | ptl ds =>
    obtain ⟨p, o, us, e, hp, h1, h2, hd, hl⟩ := h
    exact ⟨p, o, us, e, s _ _ hp, h1, h2, dpAll_mono s _ _ hd, plAll_mono s _ _ hl⟩
  | lam F =>
    obtain ⟨f, e, h1, h2⟩ := h
    exact ⟨f, e, s _ _ h1, s _ _ h2⟩
  | dic ks ds =>
    obtain ⟨a, us, e, ma, ha, hl, hd⟩ := h
    exact ⟨a, us, e, hm a _ ma ha, hh a _ nofun ma ha, hl, dpAll_mono s _ _ hd⟩
  | dct r ks ds =>
    obtain ⟨a, bs, us, e, ma, ha, hl, hk, hd⟩ := h
    exact ⟨a, bs, us, e, hm a _ ma ha, hh a _ (fun ps z => by unfold DctO at z; cases z) ma ha, hl, dpAll_mono s _ _ hk, dpAll_mono s _ _ hd⟩
  | lls bs dss =>
    obtain ⟨a, e, ma, ha, nd, hi⟩ := h
    exact ⟨a, e, hm a _ ma ha, hh a _ nofun ma ha, nd, hi.monoN s hh hm⟩
  | lds q kss =>
    obtain ⟨a, us, e, ma, ha, hd⟩ := h
    exact ⟨a, us, e, hm a _ ma ha, hh a _ nofun ma ha, hd.mono s⟩
  | pds q ks => exact PdR.mono s h
  | lob C fss =>
    obtain ⟨a, us, e, ma, ha, hd⟩ := h
    exact ⟨a, us, e, hm a _ ma ha, hh a _ nofun ma ha, hd.mono s⟩
  | per C fs => exact ErR.mono s h
  | ler ess =>
    obtain ⟨a, us, e, ma, ha, hd⟩ := h
    exact ⟨a, us, e, hm a _ ma ha, hh a _ nofun ma ha, hd.mono s⟩
  | gle ess =>
    obtain ⟨a, us, e, ha, hd⟩ := h
    exact ⟨a, us, e, s _ _ ha, hd.mono s⟩
  | rcd r => exact RcR.mono s h
  | obj C fs =>
    obtain ⟨p, dx, us, as, e, mp, md, hd, hp, hf⟩ := h
    exact ⟨p, dx, us, as, e, hm p _ mp hp, hm dx _ md hd, hh dx _ nofun md hd, hh p _ nofun mp hp, hf.monoN s hh hm⟩
  | bob C fs =>
    obtain ⟨p, dx, us, as, e, hd, hp, hf⟩ := h
    exact ⟨p, dx, us, as, e, s _ _ hd, s _ _ hp, hf.monoN s (fun a u _ _ hu => s a u hu) fun _ _ _ _ => trivial⟩
theorem RO.mono {K : PySem.W.Frag} {G G' H H' : Hp} {m m' : Addr → Prop} {v : V} {o : O} (s : Same G G') (hh : ∀ a u, m a → H a = some u → H' a = some u) (hm : ∀ a u, m a → H a = some u → m' a) (h : RO K G H m v o) : RO K G' H' m' v o := h.monoN s (fun a u _ => hh a u) hm
theorem SlR.mono {K : PySem.W.Frag} {G G' H H' : Hp} {m m' : Addr → Prop} {o : Option (Option V)} {s : Sl} (g : Same G G') (hh : ∀ a u, m a → H a = some u → H' a = some u) (hm : ∀ a u, m a → H a = some u → m' a) (h : SlR K G H m o s) : SlR K G' H' m' o s := by
  cases s with
  | un => trivial
  | im d =>
    obtain ⟨v, e, h⟩ := h
    exact ⟨v, e, dp_mono g d v h⟩
  | ow p ob =>
    obtain ⟨v, e, h⟩ := h
    exact ⟨v, e, h.mono g hh hm⟩
  | ex a dd C fs =>
    obtain ⟨e, us, h1, h2⟩ := h
    exact ⟨e, us, g _ _ h1, h2.mono g⟩
theorem RR.mono {K : PySem.W.Frag} {G G' H H' : Hp} {σ : St} {m m' : Addr → Prop} {v : V} {r : R} (g : Same G G') (hh : ∀ a u, m a → H a = some u → H' a = some u) (hm : ∀ a u, m a → H a = some u → m' a) (h : RR K G H σ m v r) : RR K G' H' σ m' v r := by
  cases r with
  | im d => exact dp_mono g d v h
  | ow ob => exact RO.mono g hh hm h
  | «at» i => exact h
theorem RR.monoN {K : PySem.W.Frag} {G G' H H' : Hp} {σ : St} {m m' : Addr → Prop} {v : V} {r : R} (g : Same G G') (hh : ∀ a u, NT u → m a → H a = some u → H' a = some u) (hm : ∀ a u, m a → H a = some u → m' a) (h : RR K G H σ m v r) : RR K G' H' σ m' v r := by
  cases r with
  | im d => exact dp_mono g d v h
  | ow ob => exact RO.monoN g hh hm h
  | «at» i => exact h
theorem SlR.monoN {K : PySem.W.Frag} {G G' H H' : Hp} {m m' : Addr → Prop} {o : Option (Option V)} {s : Sl} (g : Same G G') (hh : ∀ a u, NT u → m a → H a = some u → H' a = some u) (hm : ∀ a u, m a → H a = some u → m' a) (h : SlR K G H m o s) : SlR K G' H' m' o s := by
  cases s with
  | un => trivial
  | im d =>
    obtain ⟨v, e, h⟩ := h
    exact ⟨v, e, dp_mono g d v h⟩
  | ow p ob =>
    obtain ⟨v, e, h⟩ := h
    exact ⟨v, e, h.monoN g hh hm⟩
  | ex a dd C fs =>
    obtain ⟨e, us, h1, h2⟩ := h
    exact ⟨e, us, g _ _ h1, h2.mono g⟩
/-! ### the frame: values that wait -/
def evn : Option Nat → Option Nat
  | some n => if n % 2 = 0 then some n else none
  | none => none
theorem evn_some {o : Option Nat} {n : Nat} : evn o = some n ↔ o = some n ∧ n % 2 = 0 := by
  cases o with
  | none => simp [evn]
  | some m =>
    unfold evn
    dsimp only
    split
    · constructor
      · intro h; cases h; exact ⟨rfl, by assumption⟩
      · rintro ⟨h, _⟩; exact h
    · constructor
      · intro h; cases h
      · rintro ⟨h, h2⟩; cases h; exact absurd h2 (by assumption)
theorem evn_ne {o : Option Nat} (h : evn o ≠ none) : o ≠ none := by
  intro e; subst e; exact h rfl
theorem Stp.drop {G H : Hp} {w : Addr → Option Nat} {δ : List Sl} : Stp T G H w δ G H (fun a => evn (w a)) δ :=
  .of ⟨fun _ _ h => h, fun _ _ _ h => h, fun a i h => .inl (by rw [(evn_some.mp h).1]; exact Option.some_ne_none _), fun _ _ h => .inl h, .refl _⟩
theorem Rep.drop {K : PySem.W.Frag} {G H : Hp} {σ : St} {δ : List Sl} {vs : List V} {rs : List R} {w : Addr → Option Nat} (r : Rep K B G H σ δ vs rs w) : Rep K B G H σ δ [] [] fun a => evn (w a) where
  sub := r.sub
  out := fun a i h => r.out a i (evn_some.mp h).1
  len := r.len
  sl := fun i s h => (r.sl i s h).mono (fun _ _ h => h) (fun _ _ _ h => h) fun a u ma _ => evn_some.mpr ⟨ma, by omega⟩
  tlen := rfl
  tm := fun j v r h => by simp at h
  bs := (Stp.drop (T := B.T) (δ := δ)).bs (G := G) r.bs
def shf (k : Nat) : Option Nat → Option Nat
  | some n => if n % 2 = 0 then some n else some (n + 2 * k)
  | none => none
def both (k : Nat) (w w' : Addr → Option Nat) (a : Addr) : Option Nat := match w a with
  | some n => if n % 2 = 0 then shf k (w' a) else some n
  | none => shf k (w' a)
theorem both_odd {k : Nat} {w w' : Addr → Option Nat} {a : Addr} {n : Nat} (h : w a = some n) (ho : n % 2 = 1) : both k w w' a = some n := by
  unfold both; rw [h]; dsimp only; rw [if_neg (by omega)]
theorem both_evn {k : Nat} {w w' : Addr → Option Nat} {a : Addr} (h : ∀ n, w a = some n → n % 2 = 0) : both k w w' a = shf k (w' a) := by
  unfold both
  cases e : w a with
  | none => rfl
  | some n => dsimp only; rw [if_pos (h n e)]
theorem shf_some {k n : Nat} {o : Option Nat} (h : shf k o = some n) : ∃ m, o = some m ∧ n = if m % 2 = 0 then m else m + 2 * k := by
  cases o with
  | none => cases h
  | some m =>
    refine ⟨m, rfl, ?_⟩
    unfold shf at h
    dsimp only at h
    split at h <;> cases h <;> simp [*]
theorem Rep.frame {K : PySem.W.Frag} {G H G' H' : Hp} {σ : St} {δ δ' : List Sl} {vs vs1 : List V} {rs rs1 : List R} {w w' : Addr → Option Nat} (r : Rep K B G H σ δ vs rs w) (s : Stp B.T G H (fun a => evn (w a)) δ G' H' w' δ') (r' : Rep K B G' H' σ δ' vs1 rs1 w') :
    ∃ w2, Stp B.T G H w δ G' H' w2 δ' ∧ Rep K B G' H' σ δ' (vs ++ vs1) (rs ++ rs1) w2 := by
  have odd : ∀ a n, w a = some n → n % 2 = 1 → w' a = none ∧ G' a = none ∧ (H' a ≠ none ∧ NoX H' a) ∧ ∀ u, NT u → H a = some u → H' a = some u := fun a n h ho => by
    have e0 : evn (w a) = none := by
      cases e : evn (w a) with
      | none => rfl
      | some m =>
        have := evn_some.mp e
        rw [h] at this
        have z := this.1
        cases z
        omega
    obtain ⟨g0, h0, n0⟩ := r.out a n h
    refine ⟨?_, ?_, s.nn a e0 h0 n0, fun u hn hu => s.bN a u hn e0 hu⟩
    · cases e : w' a with
      | none => rfl
      | some i =>
        rcases s.n a i e with z | z
        · exact absurd e0 z
        · exact absurd z h0
    · cases e : G' a with
      | none => rfl
      | some o =>
        rcases s.p a o e with z | z | z | ⟨xs, z⟩
        · rw [g0] at z; cases z
        · exact absurd z h0
        · exact absurd e0 z
        · exact absurd z (n0 xs)
  have evw : ∀ a i, w' a = some i → ∀ n, w a = some n → n % 2 = 0 := fun a i h n hn => by
    by_cases ho : n % 2 = 1
    · rw [(odd a n hn ho).1] at h; cases h
    · omega
  have st : Stp B.T G H w δ G' H' (both rs.length w w') δ' := by
    refine ⟨s.g, fun a o hw ha => s.b a o (by show evn (w a) = none; rw [hw]; rfl) ha, fun a i h => ?_, fun a o h => ?_, s.pn, s.t, s.q⟩
    · cases e : w a with
      | some n => exact .inl (Option.some_ne_none _)
      | none =>
        have e1 : both rs.length w w' a = shf rs.length (w' a) := both_evn fun n hn => by rw [e] at hn; cases hn
        rw [e1] at h
        obtain ⟨m, hm, _⟩ := shf_some h
        rcases s.n a m hm with z | z
        · have z' := evn_ne z
          rw [e] at z'
          exact .inl z'
        · exact .inr z
    · rcases s.p a o h with z | z | z | z
      · exact .inl z
      · exact .inr (.inl z)
      · exact .inr (.inr (.inl (evn_ne z)))
      · exact .inr (.inr (.inr z))
  refine ⟨both rs.length w w', st, r'.sub, fun a i h => ?_, r'.len, fun i sl h => ?_, by rw [List.length_append, List.length_append, r.tlen, r'.tlen], fun j v q hv hr => ?_, st.bs r.bs⟩
  · by_cases ho : ∃ n, w a = some n ∧ n % 2 = 1
    · obtain ⟨n, hn, ho⟩ := ho
      obtain ⟨_, g, hh, _⟩ := odd a n hn ho
      exact ⟨g, hh⟩
    · have e1 : both rs.length w w' a = shf rs.length (w' a) := both_evn fun n hn => by
        by_cases z : n % 2 = 1
        · exact absurd ⟨n, hn, z⟩ ho
        · omega
      rw [e1] at h
      obtain ⟨m, hm, _⟩ := shf_some h
      exact r'.out a m hm
  · refine (r'.sl i sl h).mono (fun _ _ h => h) (fun _ _ _ h => h) fun a u ma _ => ?_
    rw [both_evn (evw a _ ma)]
    unfold shf
    rw [ma]
    dsimp only
    rw [if_pos (by omega)]
  · by_cases hj : j < vs.length
    · rw [List.getElem?_append_left hj] at hv
      rw [List.getElem?_append_left (by rw [← r.tlen]; exact hj)] at hr
      exact (r.tm j v q hv hr).monoN s.g (fun a u hn ma hu => (odd a _ ma (by omega)).2.2.2 u hn hu) fun a u ma _ => both_odd ma (by omega)
    · have hj : vs.length ≤ j := by omega
      rw [List.getElem?_append_right hj] at hv
      rw [List.getElem?_append_right (by rw [← r.tlen]; exact hj), ← r.tlen] at hr
      refine (r'.tm (j - vs.length) v q hv hr).mono (fun _ _ h => h) (fun _ _ _ h => h) fun a u ma _ => ?_
      rw [both_evn (evw a _ ma)]
      unfold shf
      rw [ma]
      dsimp only
      rw [if_neg (by omega), r.tlen.symm]
      congr 1
      omega
end Pv
namespace Pv
open PySem PySem.Spec L2 Wf
variable {B : Bas}
/-! ### judgements told of data -/
abbrev QE := R → List Sl → Prop
abbrev PX := List Sl → QE → Prop
abbrev PL := List Sl → (List R → List Sl → Prop) → Prop
abbrev PB := List Sl → (Bool → List Sl → Prop) → Prop
section
variable (K : PySem.W.Frag) (B : Bas)
def LE (p : PX) : TE := fun σ H Q => ∃ G w δ Qp, Rep K B G H σ δ [] [] w ∧ p δ Qp ∧ ∀ r δ' v H' G' w', Qp r δ' → Stp B.T G H w δ G' H' w' δ' → Rep K B G' H' σ δ' [v] [r] w' → Q v H'
def LA (n : Nat) (p : PL) : TA := fun σ H Q => ∃ G w δ Qp, Rep K B G H σ δ [] [] w ∧ p δ Qp ∧ ∀ rs δ' vs H' G' w', Qp rs δ' → rs.length = n → Stp B.T G H w δ G' H' w' δ' → Rep K B G' H' σ δ' vs rs w' → Q vs H'
def LB (p : PB) : TT := fun σ H Q => ∃ G w δ Qp, Rep K B G H σ δ [] [] w ∧ p δ Qp ∧ ∀ b δ' H' G' w', Qp b δ' → Stp B.T G H w δ G' H' w' δ' → Rep K B G' H' σ δ' [] [] w' → Q b H'
end
/-- an operation by values -/
def LC (K : PySem.W.Frag) (q : List R → PX) (r : List V → Hp → VK → Prop) : Prop := ∀ {B : Bas} (G H : Hp) (σ : St) (δ : List Sl) (vs : List V) (rs : List R) (w : Addr → Option Nat) (Qp : QE) (Q : VK), Rep K B G H σ δ vs rs w → q rs δ Qp →
  (∀ r δ' v H' G' w', Qp r δ' → Stp B.T G H w δ G' H' w' δ' → Rep K B G' H' σ δ' [v] [r] w' → Q v H') → r vs H Q
def JE (X : Cx) (B : Bas) (e : Expr) (p : PX) : Prop := PE X e (LE X.K B p)
def JA (X : Cx) (B : Bas) (es : List Expr) (p : PL) : Prop := PA X es (LA X.K B es.length p)
def JB (X : Cx) (B : Bas) (e : Expr) (p : PB) : Prop := PT X e (LB X.K B p)
section
variable {X : Cx}
theorem PE_wk {e : Expr} {t t' : TE} (h : PE X e t) (k : ∀ σ H Q, t' σ H Q → t σ H Q) : PE X e t' := ⟨fun pins s σ H Q I q => h.run pins s σ H Q I (k σ H Q q)⟩
theorem PT_wk {e : Expr} {t t' : TT} (h : PT X e t) (k : ∀ σ H Q, t' σ H Q → t σ H Q) : PT X e t' := ⟨fun pins s σ H Q I q => h.run pins s σ H Q I (k σ H Q q)⟩
theorem PA_wk {es : List Expr} {t t' : TA} (h : PA X es t) (k : ∀ σ H Q, t' σ H Q → t σ H Q) : PA X es t' := ⟨fun pos pins s σ H Q I q => h.run pos pins s σ H Q I (k σ H Q q)⟩
theorem PS_wk {st : Stmt} {t t' : TS} (h : PS X st t) (k : ∀ D σ H, t' D σ H → t D σ H) : PS X st t' := ⟨fun pins s σ H D I q => h.run pins s σ H D I (k D σ H q)⟩
theorem PSs_wk {st : List Stmt} {t t' : TS} (h : PSs X st t) (k : ∀ D σ H, t' D σ H → t D σ H) : PSs X st t' := ⟨fun pins s σ H D I q => h.run pins s σ H D I (k D σ H q)⟩
end
/-! ### results -/
theorem noT_upd {H : Hp} {a p : Addr} {o : HO} (h : a ≠ p) (n : NoX H a) : NoX (upd H p o) a := fun xs z => n xs (RdX.upd h z)
section
variable {K : PySem.W.Frag} {G H : Hp} {σ : St} {δ : List Sl} {vs : List V} {rs : List R} {w : Addr → Option Nat}
/-- data is given, nothing is changed -/
theorem Rep.ret (r : Rep K B G H σ δ vs rs w) {v : V} {d : PyData} (h : Dq K G v d) : Rep K B G H σ δ [v] [.im d] fun a => evn (w a) := by
  have r0 := r.drop
  refine ⟨r0.sub, r0.out, r0.len, r0.sl, rfl, fun j u q hu hq => ?_, r0.bs⟩
  match j with
  | 0 =>
    simp only [List.getElem?_cons_zero, Option.some.injEq] at hu hq
    subst hu hq
    exact h
  | j + 1 => simp at hu
theorem Rep.at_ (r : Rep K B G H σ δ vs rs w) {i : Nat} {v : V} (h : σ[i]? = some (some v)) : Rep K B G H σ δ [v] [.at i] fun a => evn (w a) := by
  have r0 := r.drop
  refine ⟨r0.sub, r0.out, r0.len, r0.sl, rfl, fun j u q hu hq => ?_, r0.bs⟩
  match j with
  | 0 =>
    simp only [List.getElem?_cons_zero, Option.some.injEq] at hu hq
    subst hu hq
    exact h
  | j + 1 => simp at hu
/-- a new thing that never changes -/
theorem Rep.retNew (r : Rep K B G H σ δ vs rs w) {p : Addr} {o : HO} {d : PyData} (hp : H p = none) (h : Dq K (upd G p o) (.ref p) d) (hn : NT o := by exact nofun) :
    Stp B.T G H w δ (upd G p o) (upd H p o) (fun a => evn (w a)) δ ∧ Rep K B (upd G p o) (upd H p o) σ δ [.ref p] [.im d] fun a => evn (w a) := by
  have gp : G p = none := by
    cases e : G p with
    | none => rfl
    | some u => rw [r.sub p u e] at hp; cases hp
  have np : ∀ a i, w a = some i → a ≠ p := fun a i hw z => (r.out a i hw).2.1 (by rw [z]; exact hp)
  have sg : Same G (upd G p o) := same_new gp
  have r0 := r.drop
  have st : Stp B.T G H w δ (upd G p o) (upd H p o) (fun a => evn (w a)) δ := by
    refine .of ⟨sg, fun a u _ ha => by rw [upd_ne (ne_of_none ha hp)]; exact ha, fun a i h => .inl (by rw [(evn_some.mp h).1]; exact Option.some_ne_none _), fun a u ha => ?_, .refl _⟩ (tabs_new hp) (q_new hn)
    by_cases e : a = p
    · subst e; exact .inr (.inl hp)
    · rw [upd_ne e] at ha; exact .inl ha
  refine ⟨st, fun a u ha => ?_, fun a i h => ?_, r0.len, fun i s h => ?_, rfl, fun j u q hu hq => ?_, st.bs r.bs⟩
  · by_cases e : a = p
    · subst e; rw [upd_same] at ha ⊢; exact ha
    · rw [upd_ne e] at ha ⊢; exact r.sub a u ha
  · have h' := (evn_some.mp h).1
    have hne := np a i h'
    have ho := r.out a i h'
    rw [upd_ne hne, upd_ne hne]
    exact ⟨ho.1, ho.2.1, noT_upd hne ho.2.2⟩
  · exact (r0.sl i s h).mono sg (fun a u ma hu => by rw [upd_ne (ne_of_none hu hp)]; exact hu) fun a u ma _ => ma
  · match j with
    | 0 =>
      simp only [List.getElem?_cons_zero, Option.some.injEq] at hu hq
      subst hu hq
      exact h
    | j + 1 => simp at hu
/-- a new list of one's own -/
theorem Rep.retLst (r : Rep K B G H σ δ vs rs w) {p : Addr} {us : List V} {ds : List PyData} (hp : H p = none) (h : DqAll K G us ds) :
    ∃ w', Stp B.T G H w δ G (upd H p (.lst us)) w' δ ∧ Rep K B G (upd H p (.lst us)) σ δ [.ref p] [.ow (.lst ds)] w' := by
  have gp : G p = none := by
    cases e : G p with
    | none => rfl
    | some u => rw [r.sub p u e] at hp; cases hp
  have r0 := r.drop
  have st : Stp B.T G H w δ G (upd H p (.lst us)) (fun a => if a = p then some 1 else evn (w a)) δ := by
    refine .of ⟨fun _ _ h => h, fun a u _ ha => by rw [upd_ne (ne_of_none ha hp)]; exact ha, fun a i h => ?_, fun a u ha => .inl ha, .refl _⟩ (tabs_new hp)
    by_cases e : a = p
    · subst e; exact .inr hp
    · simp only [e, if_false] at h
      exact .inl (by rw [(evn_some.mp h).1]; exact Option.some_ne_none _)
  refine ⟨_, st, fun a u ha => ?_, fun a i h => ?_, r0.len, fun i s h => ?_, rfl, fun j u q hu hq => ?_, st.bs r.bs⟩
  · by_cases e : a = p
    · subst e; rw [gp] at ha; cases ha
    · rw [upd_ne e]; exact r.sub a u ha
  · by_cases e : a = p
    · subst e; rw [upd_same]; exact ⟨gp, Option.some_ne_none _, NoX.lst upd_same⟩
    · simp only [e, if_false] at h
      have ho := r0.out a i h
      rw [upd_ne e]
      exact ⟨ho.1, ho.2.1, noT_upd e ho.2.2⟩
  · refine (r0.sl i s h).mono (fun _ _ h => h) (fun a u ma hu => by rw [upd_ne (ne_of_none hu hp)]; exact hu) fun a u ma hu => ?_
    rw [if_neg (ne_of_none hu hp)]
    exact ma
  · match j with
    | 0 =>
      simp only [List.getElem?_cons_zero, Option.some.injEq] at hu hq
      subst hu hq
      exact ⟨p, us, rfl, by simp, upd_same, h⟩
    | j + 1 => simp at hu
end
/-! ### what is read -/
def dat (δ : List Sl) : R → Option PyData
  | .im d => some d
  | .ow (.lst ds) => some (.list ds)
  | .ow (.ptl ds) => some (.tuple ds)
  | .ow _ => none
  | .at i => match δ[i]? with
    | some (.im d) => some d
    | some (.ow _ (.lst ds)) => some (.list ds)
    | some (.ow _ (.ptl ds)) => some (.tuple ds)
    | _ => none
section
variable {K : PySem.W.Frag} {G H : Hp} {σ : St} {δ : List Sl} {vs : List V} {rs : List R} {w : Addr → Option Nat}
mutual
theorem dq_dp (s : Same G H) : ∀ (d : PyData) (v : V), Dq K G v d → Dp K H v d
  | .none, _, h => by cases h; exact .non
  | .bool b, _, h => by cases h; exact .bl b
  | .int i, _, h => by cases h; exact .int i
  | .str x, _, h => by cases h; exact .str x
  | .dict _, _, h => by cases h
  | .list ds, _, h => by
    cases h with
    | lst hs ha => exact .lst (SqL.of (s _ _ hs)) (dqAll_dp s ds _ ha)
  | .tuple ds, _, h => by
    cases h with
    | tup hs ha => exact .tup (Same.tp s _ _ hs) (dqAll_dp s ds _ ha)
theorem dqAll_dp (s : Same G H) : ∀ (ds : List PyData) (vs : List V), DqAll K G vs ds → DpAll K H vs ds
  | [], _, h => by cases h; exact .nil
  | d :: ds, _, h => by
    cases h with
    | cons h1 h2 => exact .cons (dq_dp s d _ h1) (dqAll_dp s ds _ h2)
end
/-- what is to be read of a value -/
def Vw (K : PySem.W.Frag) (G H : Hp) (v : V) (d : PyData) : Prop := Dq K G v d ∨ ∃ a us ds, v = .ref a ∧ H a = some (.lst us) ∧ DqAll K G us ds ∧ d = .list ds
theorem ptl_dq {K : PySem.W.Frag} {G : Hp} {v : V} {ds : List PyData} (h : ∃ p o us, v = .ref p ∧ G p = some (.frz o (.tup us)) ∧ o.cls = .type "tuple" ∧ o.dict = none ∧ DqAll K G us ds ∧ KnAll K G us ds) : Dq K G v (.tuple ds) := by
  obtain ⟨p, o, us, rfl, hp, _, _, hd, _⟩ := h
  exact .tup (.inl (.inr ⟨o, hp⟩)) hd
/-- what a value is: data, public; or a list, its items public -/
theorem Rep.dat (r : Rep K B G H σ δ vs rs w) {j : Nat} {v : V} {q : R} {d : PyData} (hv : vs[j]? = some v) (hq : rs[j]? = some q) (hd : dat δ q = some d) :
    Dq K G v d ∨ ∃ a us ds, v = .ref a ∧ H a = some (.lst us) ∧ DqAll K G us ds ∧ d = .list ds := by
  have t := r.tm j v q hv hq
  cases q with
  | im d' => cases hd; exact .inl t
  | ow o =>
    cases o with
    | lst ds =>
      cases hd
      obtain ⟨a, us, e, _, ha, hds⟩ := t
      exact .inr ⟨a, us, ds, e, ha, hds, rfl⟩
    | deal => cases hd
    | scr ns => cases hd
    | ptl ds => cases hd; exact .inl (ptl_dq t)
    | lam F => cases hd
    | dic ks ds => cases hd
    | dct r ks ds => cases hd
    | lls bs dss => cases hd
    | lds q kss => cases hd
    | pds q ks => cases hd
    | lob C fss => cases hd
    | per C fs => cases hd
    | ler ess => cases hd
    | gle ess => cases hd
    | rcd r => cases hd
    | obj C fs => cases hd
    | bob C fs => cases hd
  | «at» i =>
    have t' : σ[i]? = some (some v) := t
    simp only [Pv.dat] at hd
    revert hd
    split
    · rename_i d' e
      intro hd; cases hd
      obtain ⟨u, hu, hd'⟩ := r.sl i _ e
      rw [t'] at hu
      cases hu
      exact .inl hd'
    · rename_i b ds e
      intro hd; cases hd
      obtain ⟨u, hu, a, us, e1, _, ha, hds⟩ := r.sl i _ e
      rw [t'] at hu
      cases hu
      exact .inr ⟨a, us, ds, e1, ha, hds, rfl⟩
    · rename_i b ds e
      intro hd; cases hd
      obtain ⟨u, hu, t2⟩ := r.sl i _ e
      rw [t'] at hu
      cases hu
      exact .inl (ptl_dq t2)
    · intro hd; cases hd
theorem Vw.dp {v : V} {d : PyData} (s : Same G H) (h : Vw K G H v d) : Dp K H v d := by
  rcases h with h | ⟨a, us, ds, rfl, ha, hds, rfl⟩
  · exact dq_dp s _ _ h
  · exact .lst (SqL.of ha) (dqAll_dp s _ _ hds)
theorem Vw.seqL {v : V} {ds : List PyData} (s : Same G H) (h : Vw K G H v (.list ds)) : ∃ a us, v = .ref a ∧ H a = some (.lst us) ∧ DqAll K G us ds := by
  rcases h with h | ⟨a, us, ds', rfl, ha, hds, e⟩
  · cases h with
    | lst hs ha => exact ⟨_, _, rfl, s _ _ hs, ha⟩
  · cases e
    exact ⟨a, us, rfl, ha, hds⟩
theorem Vw.seqT {v : V} {ds : List PyData} (s : Same G H) (h : Vw K G H v (.tuple ds)) : ∃ a us, v = .ref a ∧ SqT K H a us ∧ DqAll K G us ds ∧ Dq K G v (.tuple ds) := by
  rcases h with h | ⟨a, us, ds', rfl, ha, hds, e⟩
  · cases h with
    | tup hs ha => exact ⟨_, _, rfl, Same.tp s _ _ hs, ha, .tup hs ha⟩
  · cases e
theorem Vw.int {v : V} {i : Int} (h : Vw K G H v (.int i)) : v = .int i := by
  rcases h with h | ⟨a, us, ds', rfl, ha, hds, e⟩
  · cases h; rfl
  · cases e
theorem Vw.bool {v : V} {i : Bool} (h : Vw K G H v (.bool i)) : v = .bl i := by
  rcases h with h | ⟨a, us, ds', rfl, ha, hds, e⟩
  · cases h; rfl
  · cases e
theorem Vw.str {v : V} {i : Str} (h : Vw K G H v (.str i)) : v = .str i := by
  rcases h with h | ⟨a, us, ds', rfl, ha, hds, e⟩
  · cases h; rfl
  · cases e
theorem Rep.dpH (r : Rep K B G H σ δ vs rs w) {j : Nat} {v : V} {q : R} {d : PyData} (hv : vs[j]? = some v) (hq : rs[j]? = some q) (hd : Pv.dat δ q = some d) : Dp K H v d := Vw.dp r.sub (r.dat hv hq hd)
end
/-! ### names, constants, arguments -/
def pVar (i : Nat) : PX := fun δ Q => match δ[i]? with
  | some (.im d) => Q (.im d) δ
  | some (.ow _ _) => Q (.at i) δ
  | _ => False
def pK (d : PyData) : PX := fun δ Q => Q (.im d) δ
def pNil : PL := fun δ Q => Q [] δ
def pCons (p : PX) (ps : PL) : PL := fun δ Q => p δ fun r δ1 => ps δ1 fun rs δ2 => Q (r :: rs) δ2
/-- an operation over values that are there -/
def pC (q : List R → PX) (ps : PL) : PX := fun δ Q => ps δ fun rs δ1 => q rs δ1 Q
section
variable {X : Cx}
theorem je_var {i : Nat} {x : Str} {pos : Pos} (hN : X.N[i]? = some x) (hv : Vis X.env.scope x) (hd : (x == ("__debug__" : Str)) = false := by decide) (hcd : (x == ("__classdict__" : Str)) = false := by decide) : JE X B (.Name x pos) (pVar i) := by
  refine PE_wk (pe_var (i := i) hN hv hd hcd) fun σ H Q ⟨G, w, δ, Qp, rep, h, k⟩ => ?_
  unfold pVar at h
  revert h
  split
  · rename_i d e
    intro h
    obtain ⟨v, hv, hd⟩ := rep.sl i _ e
    exact ⟨v, hv, k _ _ v H G _ h .drop (rep.ret hd)⟩
  · rename_i b o e
    intro h
    obtain ⟨v, hv, hd⟩ := rep.sl i _ e
    exact ⟨v, hv, k _ _ v H G _ h .drop (rep.at_ hv)⟩
  · intro h; exact h.elim
theorem je_c {e : Expr} {v : V} {d : PyData} (h : PE X e (tC v)) (hd : ∀ G, Dq X.K G v d) : JE X B e (pK d) :=
  PE_wk h fun σ H Q ⟨G, w, δ, Qp, rep, q, k⟩ => k _ _ v H G _ q .drop (rep.ret (hd G))
theorem je_int {i j pos} : JE X B (.Constant (.int i) j pos) (pK (.int i)) := je_c pe_int fun _ => .int i
theorem je_bl {b j pos} : JE X B (.Constant (.bool b) j pos) (pK (.bool b)) := je_c pe_bl fun _ => .bl b
theorem je_non {j pos} : JE X B (.Constant .none j pos) (pK .none) := je_c pe_non fun _ => .non
theorem je_str {x j pos} : JE X B (.Constant (.str x) j pos) (pK (.str x)) := je_c pe_str fun _ => .str x
theorem ja_nil : JA X B [] pNil := PA_wk pa_nil fun σ H Q ⟨G, w, δ, Qp, rep, q, k⟩ => k [] δ [] H G _ q rfl .drop rep.drop
theorem ja_cons {e : Expr} {es : List Expr} {p : PX} {ps : PL} (h : JE X B e p) (hs : JA X B es ps) (he : starEach (e :: es) X.env = (false, eval e X.env) :: starEach es X.env := by rfl) : JA X B (e :: es) (pCons p ps) := by
  refine PA_wk (pa_cons h hs he) fun σ H Q ⟨G, w, δ, Qp, rep, q, k⟩ => ?_
  refine ⟨G, w, δ, _, rep, q, fun r δ1 v H1 G1 w1 q1 s1 rep1 => ?_⟩
  refine ⟨G1, _, δ1, _, rep1.drop, q1, fun rs δ2 vs H2 G2 w2 q2 l2 s2 rep2 => ?_⟩
  obtain ⟨w3, s3, rep3⟩ := rep1.frame s2 rep2
  exact k _ δ2 _ H2 G2 w3 q2 (congrArg (· + 1) l2) (s1.trans s3) rep3
/-- a binary operator -/
def ap2 (r : R2) : List V → Hp → VK → Prop
  | [x, y], H, Q => r x y H Q
  | _, _, _ => False
theorem lc_two {a b : PX} {q : List R → PX} {r : R2} {σ : St} {H : Hp} {Q : VK} (hl : LC X.K q (ap2 r)) (h : LE X.K B (pC q (pCons a (pCons b pNil))) σ H Q) : LE X.K B a σ H fun x H1 => LE X.K B b σ H1 fun y H2 => r x y H2 Q := by
  obtain ⟨G, w, δ, Qp, rep, q, k⟩ := h
  refine ⟨G, w, δ, _, rep, q, fun ra δ1 x H1 G1 w1 q1 s1 rep1 => ?_⟩
  refine ⟨G1, _, δ1, _, rep1.drop, q1, fun rb δ2 y H2 G2 w2 q2 s2 rep2 => ?_⟩
  obtain ⟨w3, s3, rep3⟩ := rep1.frame s2 rep2
  exact hl G2 H2 σ δ2 [x, y] [ra, rb] w3 Qp Q rep3 q2 fun r δ' v H' G' w' hq hs hr => k r δ' v H' G' w' hq ((s1.trans s3).trans hs) hr
theorem je_op {a b : Expr} {op : Operator} {pos : Pos} {pa pb : PX} {q : List R → PX} {r : R2} (ho : OpR X (binaryOp op) r) (hl : LC X.K q (ap2 r)) (ha : JE X B a pa) (hb : JE X B b pb) : JE X B (.BinOp a op b pos) (pC q (pCons pa (pCons pb pNil))) :=
  PE_wk (pe_op ho ha hb) fun σ H Q h => lc_two hl h
theorem je_cmp {a b : Expr} {op : CmpOp} {pos : Pos} {pa pb : PX} {q : List R → PX} {r : R2} (ho : OpR X (compareOp op) r) (hl : LC X.K q (ap2 r)) (ha : JE X B a pa) (hb : JE X B b pb) (hm : behindInMarks op b = false) : JE X B (.Compare a [op] [b] pos) (pC q (pCons pa (pCons pb pNil))) :=
  PE_wk (pe_cmpR ho ha hb hm) fun σ H Q h => lc_two hl h
theorem lc_args {n : Nat} {ps : PL} {q : List R → PX} {r : List V → Hp → VK → Prop} {σ : St} {H : Hp} {Q : VK} (hl : LC X.K q r) (h : LE X.K B (pC q ps) σ H Q) : tCB r (LA X.K B n ps) σ H Q := by
  obtain ⟨G, w, δ, Qp, rep, q, k⟩ := h
  exact ⟨G, w, δ, _, rep, q, fun rs δ1 vs H1 G1 w1 q1 _ s1 rep1 => hl G1 H1 σ δ1 vs rs w1 Qp Q rep1 q1 fun r δ' v H' G' w' hq hs hr => k r δ' v H' G' w' hq (s1.trans hs) hr⟩
/-! ### tests -/
def pT (p : PX) : PB := fun δ Q => p δ fun r δ1 => ∃ b, dat δ1 r = some (.bool b) ∧ Q b δ1
theorem dp_bool {K : PySem.W.Frag} {H : Hp} {v : V} {b : Bool} (h : Dp K H v (.bool b)) : v = .bl b := by cases h; rfl
theorem jb_cmp {a b : Expr} {op : CmpOp} {pos : Pos} {pa pb : PX} {q : List R → PX} {r : R2} (ho : OpR X (compareOp op) r) (hl : LC X.K q (ap2 r)) (ha : JE X B a pa) (hb : JE X B b pb) (hm : behindInMarks op b = false) : JB X B (.Compare a [op] [b] pos) (pT (pC q (pCons pa (pCons pb pNil)))) := by
  refine PT_wk (pt_cmpR ho ha hb hm) fun σ H Q ⟨G, w, δ, Qp, rep, q, k⟩ => ?_
  refine lc_two hl ⟨G, w, δ, _, rep, q, fun r δ1 v H1 G1 w1 q1 s1 rep1 => ?_⟩
  obtain ⟨b, hd, q1⟩ := q1
  exact ⟨b, dp_bool (rep1.dpH (j := 0) rfl rfl hd), k b δ1 H1 G1 _ q1 (s1.trans .drop) rep1.drop⟩
theorem LE.go {K : PySem.W.Frag} {q : PX} {σ : St} {G H G1 H1 : Hp} {w w1 : Addr → Option Nat} {δ δ1 : List Sl} {vs : List V} {rs : List R} {Qp : QE} {Q : VK} (s1 : Stp B.T G H w δ G1 H1 w1 δ1) (rep1 : Rep K B G1 H1 σ δ1 vs rs w1) (h : q δ1 Qp)
    (k : ∀ r δ' v H' G' w', Qp r δ' → Stp B.T G H w δ G' H' w' δ' → Rep K B G' H' σ δ' [v] [r] w' → Q v H') : LE K B q σ H1 Q :=
  ⟨G1, _, δ1, Qp, rep1.drop, h, fun r δ2 v H2 G2 w2 q2 s2 rep2 => k r δ2 v H2 G2 w2 q2 ((s1.trans .drop).trans s2) rep2⟩
end
end Pv
/-! Books looked at: what is amiss, first of all. -/
namespace Wf
open PySem PySem.Spec L2
/-! ### what is asked -/
end Wf
/-! look_table, look_paces, look_book. -/
namespace Wf
open PySem PySem.Spec L2
/-- an error of the class at C with these fields leaves -/
def RzE (C : Addr) (H : Hp) (E : XK) (w : Str) (n : Int) : Prop := ∀ (dd : Addr) (H' : Hp), Same H H' → H dd = none → H' dd = some (.xd [("at", .int n), ("word", .str w)]) → E (.ref C) (some dd) H'
theorem RzE.go {C : Addr} {H H1 : Hp} {E : XK} {w : Str} {n : Int} (r : RzE C H E w n) (s : Same H H1) : ∀ dd, H1 dd = none → E (.ref C) (some dd) (upd H1 dd (.xd [("at", .int n), ("word", .str w)])) := fun dd hd =>
  r dd _ (s.trans (same_new hd)) (s.free hd) upd_same
theorem RzE.same {C : Addr} {H H1 : Hp} {E : XK} {w : Str} {n : Int} (r : RzE C H E w n) (s : Same H H1) : RzE C H1 E w n := fun dd H' s' hd he => r dd H' (s.trans s') (s.free hd) he
end Wf
/-! A def within a def that is handed on: its captured cells stand still while another def calls it. -/
namespace Wf
open PySem PySem.Spec PyProof.Rows L2 LamX NdefX
/-! ### a call of what a slot holds -/
/-! ### tuple.index of numbers -/
/-! ### heaps: all but tables of code -/
/-! ### made_table -/
/-! ### made_table(n, f), f a def made here -/
/-! ### tuples whose object is known -/
/-- x is a tuple of these numbers, its object known -/
structure NmT (H : Hp) (x : V) (ns : List Int) : Prop where
  ex : ∃ (p : Addr) (o : Obj), x = .ref p ∧ H p = some (.frz o (.tup (ns.map V.int))) ∧ o.cls = .type "tuple" ∧ o.dict = none
theorem NmT.ext {H H' : Hp} {x : V} {ns : List Int} (h : NmT H x ns) (e : ExtN H H') : NmT H' x ns := by
  obtain ⟨p, o, rfl, h1, h2, h3⟩ := h.ex
  exact ⟨p, o, rfl, e _ _ h1 (fun ps z => nomatch z), h2, h3⟩
theorem NmT.sq {K : PySem.W.Frag} {H : Hp} {x : V} {ns : List Int} (h : NmT H x ns) : ∃ p, x = .ref p ∧ SqT K H p (ns.map V.int) := by
  obtain ⟨p, o, rfl, h1, _, _⟩ := h.ex
  exact ⟨p, rfl, .inl (.inr ⟨o, h1⟩)⟩
theorem NmT.dp {K : PySem.W.Frag} {H : Hp} {x : V} {ns : List Int} (h : NmT H x ns) : Dp K H x (dI ns) := by
  obtain ⟨p, rfl, hs⟩ := h.sq (K := K)
  exact .tup hs (dp_ints ns)
end Wf
/-! t * n, t a tuple that is not empty, n from 0 on. -/
namespace Wf
open PySem PySem.Spec PyProof.Rows L2
theorem mul_one (l : Addr) (ws : Array Value) (n : Nat) (dd : Option Addr) (sl : Array (Option Value)) (u : Tok) :
    Meets (Builtin.«tuple.__mul__» ⟨[.ref l, .int 1 u], []⟩) (fun _ R s => s.heap.get? l = some { cls := .type "tuple", dict := dd, data := .seq ws n, slots := sl } ∧ R (.ok (.ret (Value.ref l))) s) :=
  .of_wp fun prog w A R s q => by
    obtain ⟨hp, gn, dr, tk, os⟩ := s
    obtain ⟨hl, q⟩ := q
    have ix := AutoSeq1.idx_int
    have c1 : (ws.isEmpty || (1 : Int) == 1) = true := by rw [Bool.or_comm]; rfl
    wp_walk using wpAny_loadPart' hl
    repeat (first
      | (refine wpAny_ite_true (decide_eq_true c1) ?_; wp_walk using wpAny_loadPart' hl)
      | (refine wpAny_ite_true c1 ?_; wp_walk using wpAny_loadPart' hl))
    exact ⟨_, rfl, q⟩
theorem mul_none (l : Addr) (ws : Array Value) (n : Nat) (dd : Option Addr) (sl : Array (Option Value)) (u : Tok) (he : ws.isEmpty = false) :
    Meets (Builtin.«tuple.__mul__» ⟨[.ref l, .int 0 u], []⟩) (fun _ R s => s.heap.get? l = some { cls := .type "tuple", dict := dd, data := .seq ws n, slots := sl } ∧
      R (.ok (.ret (Value.ref s.heap.objs.size))) { s with heap := s.heap.push { cls := Value.type "tuple", data := Data.seq #[] }, toks := s.toks }) :=
  .of_wp fun prog w A R s q => by
    obtain ⟨hp, gn, dr, tk, os⟩ := s
    obtain ⟨hl, q⟩ := q
    have ix := AutoSeq1.idx_int
    have c1 : (ws.isEmpty || (0 : Int) == 1) = false := by rw [he]; rfl
    wp_walk using wpAny_loadPart' hl
    repeat (first
      | (refine wpAny_ite_false (decide_eq_false (by rw [c1]; exact Bool.false_ne_true)) ?_; wp_walk using wpAny_loadPart' hl)
      | (refine wpAny_ite_true (decide_eq_true rfl) ?_; wp_walk using wpAny_loadPart' hl))
    exact ⟨_, rfl, q⟩
def rRepA (K : PySem.W.Frag) : R2 := fun x y H Q => ∃ l k xs, x = .ref l ∧ y = .int k ∧ SqT K H l xs ∧ xs ≠ [] ∧ 0 ≤ k ∧ k ≤ 1000 ∧ xs.length ≤ 1000 ∧ (k = 1 → Q (.ref l) H) ∧ (k ≠ 1 → ∀ p, H p = none → Q (.ref p) (upd H p (.tup (List.replicate k.toNat xs).flatten)))
theorem op_repA {X : Cx} : OpR X (binaryOp .Mult) (rRepA X.K) := by
  intro pins s σ H x y v u Q I rx ry q
  obtain ⟨l, k, xs, rfl, rfl, hT, hne, k0, k1, hz, q1, q2⟩ := q
  by_cases c2 : 2 ≤ k
  · exact op_repT pins s σ H _ _ v u Q I rx ry ⟨l, k, xs, rfl, rfl, hT, hne, c2, k1, hz, q2 (by omega)⟩
  · cases rx
    obtain ⟨t, rfl⟩ := ry
    obtain ⟨its, r, ⟨⟨cls, dd, dt, sl⟩, ho, hc, n, hd⟩, hs⟩ := I.tuple hT
    simp only at hc hd
    subst hc hd
    have hk : k = 0 ∨ k = 1 := by omega
    have hle : its.length = xs.length := r.length.symm
    rcases hk with rfl | rfl
    · have he : its.toArray.isEmpty = false := by
        cases its with
        | nil => exact absurd (List.eq_nil_of_length_eq_zero hle.symm) hne
        | cons a b => rfl
      refine wpAny_binaryOp_repeat_ref (T := "tuple") (U := "int") (by decide) ⟨_, ho, rfl⟩ (fun s' => typeIs_int s' 0 t) noFill_tuple_mul F.fills_int_mul F.slot_int_rmul repeat_tuple F.slot_int_index.lookup
        (call_meets F.slot_int_rmul (typeIs_int s 0 t) F.entry_int_rmul (F.args_int_rmul_2 _ _) (int_rmul_tuple 0 t l its.toArray n dd sl) ⟨ho, rfl, ⟨_, ho, rfl⟩, call_meets F.slot_tuple_mul ⟨_, ho, rfl⟩ F.entry_tuple_mul (F.args_tuple_mul_2 _ _) (mul_none l its.toArray n dd sl t he) ⟨ho, ?_⟩⟩)
      refine ⟨.ref s.heap.objs.size, _, I.laid (t' := s.toks) (o := .tup []) (fun b ob e => Heap.get?_push_of_some _ e) (Nat.le_refl _) ?_, rfl, q2 (by decide) _ (I.hok.fresh (Nat.le_refl _))⟩
      exact ⟨Nat.zero_le _, [], .nil, IsTup.new _ _⟩
    · refine wpAny_binaryOp_repeat_ref (T := "tuple") (U := "int") (by decide) ⟨_, ho, rfl⟩ (fun s' => typeIs_int s' 1 t) noFill_tuple_mul F.fills_int_mul F.slot_int_rmul repeat_tuple F.slot_int_index.lookup
        (call_meets F.slot_int_rmul (typeIs_int s 1 t) F.entry_int_rmul (F.args_int_rmul_2 _ _) (int_rmul_tuple 1 t l its.toArray n dd sl) ⟨ho, rfl, ⟨_, ho, rfl⟩, call_meets F.slot_tuple_mul ⟨_, ho, rfl⟩ F.entry_tuple_mul (F.args_tuple_mul_2 _ _) (mul_one l its.toArray n dd sl t) ⟨ho, ?_⟩⟩)
      exact ⟨.ref l, H, I, rfl, q1 rfl⟩
end Wf
namespace Pv
open PySem PySem.Spec L2 Wf
variable {B : Bas}
/-! ### operations that read data and give data -/
def dats (δ : List Sl) : List R → Option (List PyData)
  | [] => some []
  | r :: rs => match dat δ r with
    | none => none
    | some d => match dats δ rs with
      | none => none
      | some ds => some (d :: ds)
inductive Vws (K : PySem.W.Frag) (G H : Hp) : List V → List PyData → Prop
  | nil : Vws K G H [] []
  | cons {v : V} {vs : List V} {d : PyData} {ds : List PyData} : Vw K G H v d → Vws K G H vs ds → Vws K G H (v :: vs) (d :: ds)
section
variable {K : PySem.W.Frag} {G H : Hp} {σ : St} {δ : List Sl} {w : Addr → Option Nat}
theorem vws_of : ∀ (rs : List R) (vs : List V) (ds : List PyData), vs.length = rs.length → (∀ (j : Nat) v q d, vs[j]? = some v → rs[j]? = some q → Pv.dat δ q = some d → Vw K G H v d) → dats δ rs = some ds → Vws K G H vs ds
  | [], [], ds, _, _, h => by
    cases h; exact .nil
  | [], v :: vs, ds, hl, _, _ => by simp at hl
  | r :: rs, [], ds, hl, _, _ => by simp at hl
  | r :: rs, v :: vs, ds, hl, hv, h => by
    unfold dats at h
    revert h
    split
    · intro h; cases h
    · rename_i d e
      split
      · intro h; cases h
      · rename_i ds' e'
        intro h; cases h
        exact .cons (hv 0 v r d rfl rfl e) (vws_of rs vs ds' (by simpa using hl) (fun j v' q d' h1 h2 h3 => hv (j + 1) v' q d' (by simpa using h1) (by simpa using h2) h3) e')
theorem Rep.vws {vs : List V} {rs : List R} {ds : List PyData} (r : Rep K B G H σ δ vs rs w) (h : dats δ rs = some ds) : Vws K G H vs ds :=
  vws_of rs vs ds r.tlen (fun _ _ _ _ hv hq hd => r.dat hv hq hd) h
end
/-- the value v of the data d: one that is there, or a new tuple -/
def Res (K : PySem.W.Frag) (G H : Hp) (v : V) (H' : Hp) (d : PyData) : Prop := (H' = H ∧ Dq K G v d) ∨ ∃ p us l, v = .ref p ∧ H p = none ∧ H' = upd H p (.tup us) ∧ DqAll K G us l ∧ d = .tuple l
theorem Res.old {K : PySem.W.Frag} {G H : Hp} {v : V} {d : PyData} (h : Dq K G v d) : Res K G H v H d := .inl ⟨rfl, h⟩
theorem Res.int {K : PySem.W.Frag} {G H : Hp} {i : Int} : Res K G H (.int i) H (.int i) := .inl ⟨rfl, .int i⟩
theorem Res.bool {K : PySem.W.Frag} {G H : Hp} {i : Bool} : Res K G H (.bl i) H (.bool i) := .inl ⟨rfl, .bl i⟩
theorem Res.str {K : PySem.W.Frag} {G H : Hp} {i : Str} : Res K G H (.str i) H (.str i) := .inl ⟨rfl, .str i⟩
def qD (f : List PyData → (PyData → Prop) → Prop) : List R → PX := fun rs δ Q => match dats δ rs with
  | some ds => f ds fun d => Q (.im d) δ
  | none => False
def qL (f : List PyData → (List PyData → Prop) → Prop) : List R → PX := fun rs δ Q => match dats δ rs with
  | some ds => f ds fun l => Q (.ow (.lst l)) δ
  | none => False
theorem dq_newTup {K : PySem.W.Frag} {G H : Hp} {p : Addr} {us : List V} {l : List PyData} (s : Same G H) (hp : H p = none) (h : DqAll K G us l) : Dq K (upd G p (.tup us)) (.ref p) (.tuple l) := by
  have gp : G p = none := by
    cases e : G p with
    | none => rfl
    | some u => rw [s p u e] at hp; cases hp
  exact .tup (SqT.of upd_same) (dpAll_mono (same_new gp) _ _ h)
theorem lc_im {K : PySem.W.Frag} {f : List PyData → (PyData → Prop) → Prop} {r : List V → Hp → VK → Prop}
    (h : ∀ G H vs ds Q, Same G H → Vws K G H vs ds → f ds (fun d => ∀ v H', Res K G H v H' d → Q v H') → (∀ k k' : PyData → Prop, (∀ d, k d → k' d) → f ds k → f ds k') → r vs H Q) (mono : ∀ ds (k k' : PyData → Prop), (∀ d, k d → k' d) → f ds k → f ds k') : LC K (qD f) r := by
  intro B G H σ δ vs rs w Qp Q rep q k
  unfold qD at q
  revert q
  split
  · rename_i ds e
    intro q
    refine h G H vs ds Q rep.sub (rep.vws e) (mono ds _ _ (fun d hd v H' res => ?_) q) (mono ds)
    rcases res with ⟨rfl, hq⟩ | ⟨p, us, l, rfl, hp, rfl, hus, rfl⟩
    · exact k _ δ v _ G _ hd .drop (rep.ret hq)
    · obtain ⟨s1, r1⟩ := rep.retNew hp (dq_newTup rep.sub hp hus)
      exact k _ δ _ _ _ _ hd s1 r1
  · intro q; exact q.elim
theorem lc_own {K : PySem.W.Frag} {f : List PyData → (List PyData → Prop) → Prop} {r : List V → Hp → VK → Prop}
    (h : ∀ G H vs ds Q, Same G H → Vws K G H vs ds → f ds (fun l => ∀ us p, DqAll K G us l → H p = none → Q (.ref p) (upd H p (.lst us))) → r vs H Q) (mono : ∀ ds (k k' : List PyData → Prop), (∀ d, k d → k' d) → f ds k → f ds k') : LC K (qL f) r := by
  intro B G H σ δ vs rs w Qp Q rep q k
  unfold qL at q
  revert q
  split
  · rename_i ds e
    intro q
    refine h G H vs ds Q rep.sub (rep.vws e) (mono ds _ _ (fun l hd us p hus hp => ?_) q)
    obtain ⟨w', s1, r1⟩ := rep.retLst hp hus
    exact k _ δ _ _ _ _ hd s1 r1
  · intro q; exact q.elim
/-- one of two readings -/
def qOr (q q' : List R → PX) : List R → PX := fun rs δ Q => q rs δ Q ∨ q' rs δ Q
theorem lc_or {K : PySem.W.Frag} {q q' : List R → PX} {r r' : R2} (h : LC K q (ap2 r)) (h' : LC K q' (ap2 r')) : LC K (qOr q q') (ap2 fun x y H Q => r x y H Q ∨ r' x y H Q) := by
  intro B G H σ δ vs rs w Qp Q rep hq k
  match vs, hq with
  | [x, y], .inl hq => exact .inl (h G H σ δ [x, y] rs w Qp Q rep hq k)
  | [x, y], .inr hq => exact .inr (h' G H σ δ [x, y] rs w Qp Q rep hq k)
  | [], .inl hq => exact h G H σ δ [] rs w Qp Q rep hq k
  | [], .inr hq => exact h' G H σ δ [] rs w Qp Q rep hq k
  | [x], .inl hq => exact h G H σ δ [x] rs w Qp Q rep hq k
  | [x], .inr hq => exact h' G H σ δ [x] rs w Qp Q rep hq k
  | x :: y :: z :: vs, .inl hq => exact h G H σ δ (x :: y :: z :: vs) rs w Qp Q rep hq k
  | x :: y :: z :: vs, .inr hq => exact h' G H σ δ (x :: y :: z :: vs) rs w Qp Q rep hq k
theorem op_or {X : Cx} {f : Value → Value → Sem Value} {r r' : R2} (h : OpR X f r) (h' : OpR X f r') : OpR X f (fun x y H Q => r x y H Q ∨ r' x y H Q) := by
  intro pins s σ H x y v u Q I rx ry q
  rcases q with q | q
  · exact h pins s σ H x y v u Q I rx ry q
  · exact h' pins s σ H x y v u Q I rx ry q
/-! ### arithmetic -/
def fI2 (C : Int → Int → Prop) (g : Int → Int → PyData) : List PyData → (PyData → Prop) → Prop
  | [.int a, .int b], k => C a b ∧ k (g a b)
  | _, _ => False
theorem fI2_mono {C : Int → Int → Prop} {g : Int → Int → PyData} : ∀ ds (k k' : PyData → Prop), (∀ d, k d → k' d) → fI2 C g ds k → fI2 C g ds k' := by
  intro ds k k' h q
  unfold fI2 at q ⊢
  split at q
  · exact ⟨q.1, h _ q.2⟩
  · exact q.elim
theorem lc_I2 {K : PySem.W.Frag} {C : Int → Int → Prop} {g : Int → Int → PyData} {gv : Int → Int → V} (hg : ∀ a b G, Dq K G (gv a b) (g a b)) : LC K (qD (fI2 C g)) (ap2 (rI C gv)) := by
  refine lc_im (fun G H vs ds Q s hv q _ => ?_) fI2_mono
  unfold fI2 at q
  split at q
  · cases hv with
    | cons h1 hv =>
      cases hv with
      | cons h2 hv =>
        cases hv
        exact ⟨_, _, h1.int, h2.int, q.1, q.2 _ _ (.old (hg _ _ G))⟩
  · exact q.elim
def T2 (_ _ : Int) : Prop := True
theorem rI_0 {g : Int → Int → V} {x y : V} {H : Hp} {Q : VK} (h : rI T2 g x y H Q) : rI0 g x y H Q := by
  obtain ⟨i, j, h1, h2, _, q⟩ := h
  exact ⟨i, j, h1, h2, q⟩
theorem lc_wk {K : PySem.W.Frag} {q : List R → PX} {r r' : R2} (h : LC K q (ap2 r)) (k : ∀ x y H Q, r x y H Q → r' x y H Q) : LC K q (ap2 r') := by
  intro B G H σ δ vs rs w Qp Q rep hq kk
  match vs with
  | [x, y] => exact k x y H Q (h G H σ δ [x, y] rs w Qp Q rep hq kk)
  | [] => exact h G H σ δ [] rs w Qp Q rep hq kk
  | [x] => exact h G H σ δ [x] rs w Qp Q rep hq kk
  | x :: y :: z :: vs => exact h G H σ δ (x :: y :: z :: vs) rs w Qp Q rep hq kk
theorem lc_I0 {K : PySem.W.Frag} {g : Int → Int → PyData} {gv : Int → Int → V} (hg : ∀ a b G, Dq K G (gv a b) (g a b)) : LC K (qD (fI2 T2 g)) (ap2 (rI0 gv)) := lc_wk (lc_I2 hg) fun _ _ _ _ h => rI_0 h
/-- sums: numbers, tuples, texts, lists -/
def fCat : List PyData → (PyData → Prop) → Prop
  | [.tuple a, .tuple b], k => a.length + b.length ≤ sizeLine ∧ k (.tuple (a ++ b))
  | _, _ => False
def fCatL : List PyData → (List PyData → Prop) → Prop
  | [.list a, .list b], k => a.length + b.length ≤ sizeLine ∧ k (a ++ b)
  | _, _ => False
def fCatS : List PyData → (PyData → Prop) → Prop
  | [.str a, .str b], k => a.length + b.length ≤ sizeLine ∧ k (.str (a ++ b))
  | _, _ => False
theorem dqAll_len {K : PySem.W.Frag} {G : Hp} : ∀ {us : List V} {ds : List PyData}, DqAll K G us ds → us.length = ds.length
  | _, _, .nil => rfl
  | _, _, .cons _ h => congrArg (· + 1) (dqAll_len h)
theorem dqAll_append {K : PySem.W.Frag} {G : Hp} : ∀ {us us' : List V} {ds ds' : List PyData}, DqAll K G us ds → DqAll K G us' ds' → DqAll K G (us ++ us') (ds ++ ds')
  | _, _, _, _, .nil, h => h
  | _, _, _, _, .cons h1 h2, h => .cons h1 (dqAll_append h2 h)
theorem dqAll_nil' {K : PySem.W.Frag} {G : Hp} {ds : List PyData} (h : DqAll K G [] ds) : ds = [] := by cases h; rfl
theorem lc_cat {K : PySem.W.Frag} : LC K (qD fCat) (ap2 (rCatA K)) := by
  refine lc_im (fun G H vs ds Q s hv q _ => ?_) (fun ds k k' h q => ?_)
  · unfold fCat at q
    split at q
    · cases hv with
      | cons h1 hv =>
        cases hv with
        | cons h2 hv =>
          cases hv
          obtain ⟨p1, u1, rfl, t1, d1, e1⟩ := h1.seqT s
          obtain ⟨p2, u2, rfl, t2, d2, e2⟩ := h2.seqT s
          have l1 := dqAll_len d1
          have l2 := dqAll_len d2
          refine ⟨p1, p2, u1, u2, rfl, rfl, t1, t2, by omega, fun z => ?_, fun z1 z2 => ?_, fun z1 z2 p hp => ?_⟩
          · subst z
            rw [dqAll_nil' d1, List.nil_append] at q
            exact q.2 _ _ (.old e2)
          · subst z2
            rw [dqAll_nil' d2, List.append_nil] at q
            exact q.2 _ _ (.old e1)
          · exact q.2 _ _ (.inr ⟨p, _, _, rfl, hp, rfl, dqAll_append d1 d2, rfl⟩)
    · exact q.elim
  · unfold fCat at q ⊢
    split at q
    · exact ⟨q.1, h _ q.2⟩
    · exact q.elim
theorem lc_catS {K : PySem.W.Frag} : LC K (qD fCatS) (ap2 fun x y H Q => ∃ i j, x = .str i ∧ y = .str j ∧ i.length + j.length ≤ sizeLine ∧ Q (.str (i ++ j)) H) := by
  refine lc_im (fun G H vs ds Q s hv q _ => ?_) (fun ds k k' h q => ?_)
  · unfold fCatS at q
    split at q
    · cases hv with
      | cons h1 hv =>
        cases hv with
        | cons h2 hv =>
          cases hv
          exact ⟨_, _, h1.str, h2.str, q.1, q.2 _ _ .str⟩
    · exact q.elim
  · unfold fCatS at q ⊢
    split at q
    · exact ⟨q.1, h _ q.2⟩
    · exact q.elim
theorem lc_catL {K : PySem.W.Frag} : LC K (qL fCatL) (ap2 rCat) := by
  refine lc_own (fun G H vs ds Q s hv q => ?_) (fun ds k k' h q => ?_)
  · unfold fCatL at q
    split at q
    · cases hv with
      | cons h1 hv =>
        cases hv with
        | cons h2 hv =>
          cases hv
          obtain ⟨p1, u1, rfl, t1, d1⟩ := h1.seqL s
          obtain ⟨p2, u2, rfl, t2, d2⟩ := h2.seqL s
          have l1 := dqAll_len d1
          have l2 := dqAll_len d2
          exact ⟨p1, p2, u1, u2, rfl, rfl, t1, t2, by omega, fun p hp => q.2 _ p (dqAll_append d1 d2) hp⟩
    · exact q.elim
  · unfold fCatL at q ⊢
    split at q
    · exact ⟨q.1, h _ q.2⟩
    · exact q.elim
/-- the plus of any two -/
def qAddU : List R → PX := fun rs δ Q => match dats δ rs with
  | some [.int a, .int b] => Q (.im (.int (a + b))) δ
  | some [.tuple a, .tuple b] => a.length + b.length ≤ sizeLine ∧ Q (.im (.tuple (a ++ b))) δ
  | some [.list a, .list b] => a.length + b.length ≤ sizeLine ∧ Q (.ow (.lst (a ++ b))) δ
  | some [.str a, .str b] => a.length + b.length ≤ sizeLine ∧ Q (.im (.str (a ++ b))) δ
  | _ => False
theorem LC.wq {K : PySem.W.Frag} {q q' : List R → PX} {r : List V → Hp → VK → Prop} (h : LC K q r) (k : ∀ rs δ Q, q' rs δ Q → q rs δ Q) : LC K q' r := fun {B} G H σ δ vs rs w Qp Q rep hq kk => h G H σ δ vs rs w Qp Q rep (k rs δ Qp hq) kk
def rAddU (K : PySem.W.Frag) : R2 := fun x y H Q => qAdd x y H Q ∨ (rCatA K x y H Q ∨ (rCat x y H Q ∨ ∃ i j, x = .str i ∧ y = .str j ∧ i.length + j.length ≤ sizeLine ∧ Q (.str (i ++ j)) H))
theorem op_addU {X : Cx} : OpR X (binaryOp .Add) (rAddU X.K) := op_or op_add (op_or op_catA (op_or op_cat op_add_str))
theorem lc_addU {K : PySem.W.Frag} : LC K qAddU (ap2 (rAddU K)) := by
  refine LC.wq (lc_or (lc_I0 (g := fun a b => .int (a + b)) fun a b G => .int _) (lc_or lc_cat (lc_or lc_catL lc_catS))) fun rs δ Q h => ?_
  unfold qAddU at h
  split at h
  · rename_i a b e
    exact .inl (by unfold qD; rw [e]; exact ⟨trivial, h⟩)
  · rename_i a b e
    exact .inr (.inl (by unfold qD; rw [e]; exact h))
  · rename_i a b e
    exact .inr (.inr (.inl (by unfold qL; rw [e]; exact h)))
  · rename_i a b e
    exact .inr (.inr (.inr (by unfold qD; rw [e]; exact h)))
  · exact h.elim
section
variable {X : Cx} {a b : Expr} {pos : Pos} {pa pb : PX}
def pAdd (pa pb : PX) : PX := pC qAddU (pCons pa (pCons pb pNil))
theorem je_add (ha : JE X B a pa) (hb : JE X B b pb) : JE X B (.BinOp a .Add b pos) (pAdd pa pb) := je_op op_addU lc_addU ha hb
def pSub (pa pb : PX) : PX := pC (qD (fI2 T2 fun a b => .int (a - b))) (pCons pa (pCons pb pNil))
theorem je_sub (ha : JE X B a pa) (hb : JE X B b pb) : JE X B (.BinOp a .Sub b pos) (pSub pa pb) := je_op op_sub (lc_I0 fun a b G => .int _) ha hb
/-- one factor below 2 ^ 64, or both together below a million bits -/
def CMu (i j : Int) : Prop := CMul i j ∨ CMulW i j
def fRepL : List PyData → (List PyData → Prop) → Prop
  | [.list a, .int n], k => -(2 ^ 63) ≤ n ∧ n < 2 ^ 63 ∧ a.length * n.toNat ≤ sizeLine ∧ k (List.replicate n.toNat a).flatten
  | _, _ => False
def fRepT : List PyData → (PyData → Prop) → Prop
  | [.tuple a, .int n], k => a ≠ [] ∧ 0 ≤ n ∧ n ≤ 1000 ∧ a.length ≤ 1000 ∧ k (.tuple (List.replicate n.toNat a).flatten)
  | _, _ => False
theorem dqAll_rep {K : PySem.W.Frag} {G : Hp} {us : List V} {ds : List PyData} (h : DqAll K G us ds) : ∀ n : Nat, DqAll K G (List.replicate n us).flatten (List.replicate n ds).flatten
  | 0 => .nil
  | n + 1 => by
    rw [List.replicate_succ, List.replicate_succ, List.flatten_cons, List.flatten_cons]
    exact dqAll_append h (dqAll_rep h n)
theorem lc_repL {K : PySem.W.Frag} : LC K (qL fRepL) (ap2 rRep) := by
  refine lc_own (fun G H vs ds Q s hv q => ?_) (fun ds k k' h q => ?_)
  · unfold fRepL at q
    split at q
    · cases hv with
      | cons h1 hv =>
        cases hv with
        | cons h2 hv =>
          cases hv
          obtain ⟨p1, u1, rfl, t1, d1⟩ := h1.seqL s
          have l1 := dqAll_len d1
          exact ⟨p1, _, u1, rfl, h2.int, t1, q.1, q.2.1, by rw [l1]; exact q.2.2.1, fun p hp => q.2.2.2 _ p (dqAll_rep d1 _) hp⟩
    · exact q.elim
  · unfold fRepL at q ⊢
    split at q
    · exact ⟨q.1, q.2.1, q.2.2.1, h _ q.2.2.2⟩
    · exact q.elim
theorem lc_repT {K : PySem.W.Frag} : LC K (qD fRepT) (ap2 (rRepA K)) := by
  refine lc_im (fun G H vs ds Q s hv q _ => ?_) (fun ds k k' h q => ?_)
  · unfold fRepT at q
    split at q
    · rename_i a n k
      cases hv with
      | cons h1 hv =>
        cases hv with
        | cons h2 hv =>
          cases hv
          obtain ⟨p1, u1, rfl, t1, d1, e1⟩ := h1.seqT s
          have l1 := dqAll_len d1
          obtain ⟨q1, q2, q3, q4, q5⟩ := q
          refine ⟨p1, _, u1, rfl, h2.int, t1, fun z => ?_, q2, q3, by omega, fun z => ?_, fun z p hp => ?_⟩
          · subst z; exact q1 (dqAll_nil' d1)
          · subst z
            refine q5 _ _ (.old ?_)
            show Dq K G _ (.tuple (List.replicate 1 a).flatten)
            rw [List.replicate_one, List.flatten_cons, List.flatten_nil, List.append_nil]
            exact e1
          · exact q5 _ _ (.inr ⟨p, _, _, rfl, hp, rfl, dqAll_rep d1 _, rfl⟩)
    · exact q.elim
  · unfold fRepT at q ⊢
    split at q
    · exact ⟨q.1, q.2.1, q.2.2.1, q.2.2.2.1, h _ q.2.2.2.2⟩
    · exact q.elim
def qMulU : List R → PX := fun rs δ Q => match dats δ rs with
  | some [.int a, .int b] => CMu a b ∧ Q (.im (.int (a * b))) δ
  | some [.list a, .int n] => -(2 ^ 63) ≤ n ∧ n < 2 ^ 63 ∧ a.length * n.toNat ≤ sizeLine ∧ Q (.ow (.lst (List.replicate n.toNat a).flatten)) δ
  | some [.tuple a, .int n] => a ≠ [] ∧ 0 ≤ n ∧ n ≤ 1000 ∧ a.length ≤ 1000 ∧ Q (.im (.tuple (List.replicate n.toNat a).flatten)) δ
  | _ => False
def rMulU (K : PySem.W.Frag) : R2 := fun x y H Q => (qMul x y H Q ∨ rI CMulW (fun i j => .int (i * j)) x y H Q) ∨ (rRep x y H Q ∨ rRepA K x y H Q)
theorem op_mulU : OpR X (binaryOp .Mult) (rMulU X.K) := op_or (op_or op_mul op_mulW) (op_or op_rep op_repA)
theorem lc_mulU {K : PySem.W.Frag} : LC K qMulU (ap2 (rMulU K)) := by
  refine LC.wq (lc_or (lc_or (lc_I2 (C := CMul) (g := fun a b => .int (a * b)) fun a b G => .int _) (lc_I2 (C := CMulW) (g := fun a b => .int (a * b)) fun a b G => .int _)) (lc_or lc_repL lc_repT)) fun rs δ Q h => ?_
  unfold qMulU at h
  split at h
  · rename_i a b e
    rcases h with ⟨h1 | h1, h⟩
    · exact .inl (.inl (by unfold qD; rw [e]; exact ⟨h1, h⟩))
    · exact .inl (.inr (by unfold qD; rw [e]; exact ⟨h1, h⟩))
  · rename_i a b e
    exact .inr (.inl (by unfold qL; rw [e]; exact h))
  · rename_i a b e
    exact .inr (.inr (by unfold qD; rw [e]; exact h))
  · exact h.elim
def pMul (pa pb : PX) : PX := pC qMulU (pCons pa (pCons pb pNil))
theorem je_mul (ha : JE X B a pa) (hb : JE X B b pb) : JE X B (.BinOp a .Mult b pos) (pMul pa pb) := je_op op_mulU lc_mulU ha hb
def pPow (pa pb : PX) : PX := pC (qD (fI2 CPow fun a b => .int (a ^ b.toNat))) (pCons pa (pCons pb pNil))
theorem je_pow (ha : JE X B a pa) (hb : JE X B b pb) : JE X B (.BinOp a .Pow b pos) (pPow pa pb) := je_op op_pow (lc_I2 fun a b G => .int _) ha hb
/-! ### comparisons -/
def pCmp (f : Int → Int → Bool) (pa pb : PX) : PX := pC (qD (fI2 T2 fun a b => .bool (f a b))) (pCons pa (pCons pb pNil))
abbrev pLt := pCmp fun a b => decide (a < b)
abbrev pGt := pCmp fun a b => decide (b < a)
theorem je_lt (ha : JE X B a pa) (hb : JE X B b pb) : JE X B (.Compare a [.Lt] [b] pos) (pLt pa pb) := je_cmp op_lt (lc_I0 fun a b G => .bl _) ha hb (nomark _)
theorem je_gt (ha : JE X B a pa) (hb : JE X B b pb) : JE X B (.Compare a [.Gt] [b] pos) (pGt pa pb) := je_cmp op_gt (lc_I0 fun a b G => .bl _) ha hb (nomark _)
theorem jb_lt (ha : JE X B a pa) (hb : JE X B b pb) : JB X B (.Compare a [.Lt] [b] pos) (pT (pLt pa pb)) := jb_cmp op_lt (lc_I0 fun a b G => .bl _) ha hb (nomark _)
/-- equal: of any data -/
def eqd (x y : PyData) : Bool := PyData.eqv x y
def fEq (neg : Bool) : List PyData → (PyData → Prop) → Prop
  | [.int a, .int b], k => k (.bool (if neg then !decide (a = b) else decide (a = b)))
  | [.str a, .str b], k => k (.bool (if neg then !decide (a = b) else decide (a = b)))
  | [a, b], k => SeqAt.shaped a = true ∧ SeqAt.shaped b = true ∧ k (.bool (if neg then !eqd a b else eqd a b))
  | _, _ => False
theorem fEq_mono {neg : Bool} : ∀ ds (k k' : PyData → Prop), (∀ d, k d → k' d) → fEq neg ds k → fEq neg ds k' := by
  intro ds k k' h q
  unfold fEq at q ⊢
  split at q
  · exact h _ q
  · exact h _ q
  · exact ⟨q.1, q.2.1, h _ q.2.2⟩
  · exact q.elim
def rEqU (K : PySem.W.Frag) : R2 := fun x y H Q => rEq x y H Q ∨ rEqD K x y H Q
def rNeU (K : PySem.W.Frag) : R2 := fun x y H Q => rNe x y H Q ∨ rNeD K x y H Q
theorem dec_int {a b : Int} : decide (V.int a = V.int b) = decide (a = b) := by
  by_cases h : a = b
  · subst h; simp
  · rw [decide_eq_false h, decide_eq_false fun z => h (V.int.inj z)]
theorem dec_str {a b : Str} : decide (V.str a = V.str b) = decide (a = b) := by
  by_cases h : a = b
  · subst h; simp
  · rw [decide_eq_false h, decide_eq_false fun z => h (V.str.inj z)]
theorem lc_eqU {K : PySem.W.Frag} : LC K (qD (fEq false)) (ap2 (rEqU K)) := by
  refine lc_im (fun G H vs ds Q s hv q _ => ?_) fEq_mono
  unfold fEq at q
  split at q
  · cases hv with
    | cons h1 hv =>
      cases hv with
      | cons h2 hv =>
        cases hv
        refine .inl ⟨by rw [h1.int, h2.int]; rfl, ?_⟩
        rw [h1.int, h2.int, dec_int]
        exact q _ _ .bool
  · cases hv with
    | cons h1 hv =>
      cases hv with
      | cons h2 hv =>
        cases hv
        refine .inl ⟨by rw [h1.str, h2.str]; rfl, ?_⟩
        rw [h1.str, h2.str, dec_str]
        exact q _ _ .bool
  · cases hv with
    | cons h1 hv =>
      cases hv with
      | cons h2 hv =>
        cases hv
        exact .inr ⟨_, _, h1.dp s, h2.dp s, q.1, q.2.1, q.2.2 _ _ .bool⟩
  · exact q.elim
theorem lc_neU {K : PySem.W.Frag} : LC K (qD (fEq true)) (ap2 (rNeU K)) := by
  refine lc_im (fun G H vs ds Q s hv q _ => ?_) fEq_mono
  unfold fEq at q
  split at q
  · cases hv with
    | cons h1 hv =>
      cases hv with
      | cons h2 hv =>
        cases hv
        refine .inl ⟨by rw [h1.int, h2.int]; rfl, ?_⟩
        rw [h1.int, h2.int, dec_int]
        exact q _ _ .bool
  · cases hv with
    | cons h1 hv =>
      cases hv with
      | cons h2 hv =>
        cases hv
        refine .inl ⟨by rw [h1.str, h2.str]; rfl, ?_⟩
        rw [h1.str, h2.str, dec_str]
        exact q _ _ .bool
  · cases hv with
    | cons h1 hv =>
      cases hv with
      | cons h2 hv =>
        cases hv
        exact .inr ⟨_, _, h1.dp s, h2.dp s, q.1, q.2.1, q.2.2 _ _ .bool⟩
  · exact q.elim
theorem op_eqU (hu : X.A.units + 64 < cLine) : OpR X (compareOp .Eq) (rEqU X.K) := op_or op_eq (op_eqD hu)
theorem op_neU (hu : X.A.units + 64 < cLine) : OpR X (compareOp .NotEq) (rNeU X.K) := op_or op_ne (op_neD hu)
def pEq (neg : Bool) (pa pb : PX) : PX := pC (qD (fEq neg)) (pCons pa (pCons pb pNil))
theorem je_eq {j : Nat} (hr : Room j X.A) (ha : JE X B a pa) (hb : JE X B b pb) : JE X B (.Compare a [.Eq] [b] pos) (pEq false pa pb) := je_cmp (op_eqU hr.units) lc_eqU ha hb (nomark _)
theorem jb_ne {j : Nat} (hr : Room j X.A) (ha : JE X B a pa) (hb : JE X B b pb) : JB X B (.Compare a [.NotEq] [b] pos) (pT (pEq true pa pb)) := jb_cmp (op_neU hr.units) lc_neU ha hb (nomark _)
/-! ### items -/
def fIx : List PyData → (PyData → Prop) → Prop
  | [.list ds, .int i], k => ∃ d, atI ds i = some d ∧ k d
  | [.tuple ds, .int i], k => ∃ d, atI ds i = some d ∧ k d
  | _, _ => False
theorem dqAll_get {K : PySem.W.Frag} {G : Hp} : ∀ {us : List V} {ds : List PyData} {i : Nat} {d : PyData}, DqAll K G us ds → ds[i]? = some d → ∃ v, us[i]? = some v ∧ Dq K G v d
  | _, _, _, _, .nil, e => by simp at e
  | _, _, 0, _, .cons h _, e => by simp at e; subst e; exact ⟨_, rfl, h⟩
  | _, _, i + 1, _, .cons _ h, e => by
    obtain ⟨v, e1, e2⟩ := dqAll_get (i := i) h (by simpa using e)
    exact ⟨v, by simpa using e1, e2⟩
theorem dqAll_at {K : PySem.W.Frag} {G : Hp} {us : List V} {ds : List PyData} {i : Int} {d : PyData} (h : DqAll K G us ds) (e : atI ds i = some d) : ∃ v, atI us i = some v ∧ Dq K G v d := by
  unfold atI at e ⊢
  rw [dqAll_len h]
  cases q : ixN ds.length i with
  | none => rw [q] at e; cases e
  | some j =>
    rw [q] at e
    exact dqAll_get h e
theorem lc_ix {K : PySem.W.Frag} : LC K (qD fIx) (ap2 (rIx K)) := by
  refine lc_im (fun G H vs ds Q s hv q _ => ?_) (fun ds k k' h q => ?_)
  · unfold fIx at q
    split at q
    · cases hv with
      | cons h1 hv =>
        cases hv with
        | cons h2 hv =>
          cases hv
          obtain ⟨d, e, q⟩ := q
          obtain ⟨p1, u1, rfl, t1, d1⟩ := h1.seqL s
          obtain ⟨v, e2, hd⟩ := dqAll_at d1 e
          exact .inl ⟨p1, u1, _, v, rfl, h2.int, SqL.of t1, e2, q _ _ (.old hd)⟩
    · cases hv with
      | cons h1 hv =>
        cases hv with
        | cons h2 hv =>
          cases hv
          obtain ⟨d, e, q⟩ := q
          obtain ⟨p1, u1, rfl, t1, d1, _⟩ := h1.seqT s
          obtain ⟨v, e2, hd⟩ := dqAll_at d1 e
          exact .inr (.inl ⟨p1, u1, _, v, rfl, h2.int, t1, e2, q _ _ (.old hd)⟩)
    · exact q.elim
  · unfold fIx at q ⊢
    split at q
    · obtain ⟨d, e, q⟩ := q; exact ⟨d, e, h _ q⟩
    · obtain ⟨d, e, q⟩ := q; exact ⟨d, e, h _ q⟩
    · exact q.elim
def pIx (pa pb : PX) : PX := pC (qD fIx) (pCons pa (pCons pb pNil))
theorem je_ix (ha : JE X B a pa) (hb : JE X B b pb) (hs : PlainIx b) : JE X B (.Subscript a b pos) (pIx pa pb) := PE_wk (pe_ix ix_seq ha hb hs) fun σ H Q h => lc_two lc_ix h
end
/-! ### is -/
end Pv
namespace Pv
open PySem PySem.Spec L2 Wf
variable {B : Bas}
/-! ### a list of one's own that changes no more -/
def fz (δ : List Sl) : R → Option (PyData × List Sl)
  | .im d => some (d, δ)
  | .ow (.lst ds) => some (.list ds, δ)
  | .ow (.ptl ds) => some (.tuple ds, δ)
  | .ow _ => none
  | .at i => match δ[i]? with
    | some (.im d) => some (d, δ)
    | some (.ow false (.lst ds)) => some (.list ds, δ.set i (.im (.list ds)))
    | some (.ow _ (.ptl ds)) => some (.tuple ds, δ)
    | _ => none
def fzAll : List Sl → List R → Option (List PyData × List Sl)
  | δ, [] => some ([], δ)
  | δ, r :: rs => match fz δ r with
    | none => none
    | some (d, δ1) => match fzAll δ1 rs with
      | none => none
      | some (ds, δ2) => some (d :: ds, δ2)
section
variable {K : PySem.W.Frag} {G H : Hp} {σ : St} {δ : List Sl} {vs : List V} {rs : List R} {w : Addr → Option Nat}
/-- what was n's, now nobody's, its list public -/
def freed (w : Addr → Option Nat) (n : Nat) (a : Addr) : Option Nat := if w a = some n then none else w a
theorem freed_ne {w : Addr → Option Nat} {n m : Nat} {a : Addr} (h : w a = some m) (hn : m ≠ n) : freed w n a = some m := by
  unfold freed
  rw [if_neg (by rw [h]; intro z; cases z; exact hn rfl)]
  exact h
theorem of_freed {w : Addr → Option Nat} {n m : Nat} {a : Addr} (h : freed w n a = some m) : w a = some m ∧ m ≠ n := by
  unfold freed at h
  split at h
  · cases h
  · rename_i z
    exact ⟨h, fun e => z (by rw [h, e])⟩
theorem Rep.frees (r : Rep K B G H σ δ vs rs w) {n : Nat} {a : Addr} {us : List V} {δ' : List Sl} (ha : H a = some (.lst us)) (hw : w a = some n) (pn : Pn δ δ') :
    Same G (upd G a (.lst us)) ∧ Stp B.T G H w δ (upd G a (.lst us)) H (freed w n) δ' ∧ Same (upd G a (.lst us)) H ∧ (∀ x i, freed w n x = some i → upd G a (.lst us) x = none ∧ H x ≠ none ∧ NoX H x) := by
  have g0 := (r.out a n hw).1
  have sg : Same G (upd G a (.lst us)) := same_new g0
  refine ⟨sg, .of ⟨sg, fun _ _ _ h => h, fun x i h => .inl (by rw [(of_freed h).1]; exact Option.some_ne_none _), fun x o h => ?_, pn⟩ .refl (q_new nofun), fun x o h => ?_, fun x i h => ?_⟩
  · by_cases e : x = a
    · subst e; exact .inr (.inr (.inl (by rw [hw]; exact Option.some_ne_none _)))
    · rw [upd_ne e] at h; exact .inl h
  · by_cases e : x = a
    · subst e; rw [upd_same] at h; cases h; exact ha
    · rw [upd_ne e] at h; exact r.sub x o h
  · obtain ⟨h1, h2⟩ := of_freed h
    have e : x ≠ a := fun z => by subst z; rw [hw] at h1; cases h1; exact h2 rfl
    rw [upd_ne e]
    exact r.out x i h1
theorem pn_set {δ : List Sl} {i : Nat} {s : Sl} (h : ∀ o, δ[i]? ≠ some (.ow true o)) : Pn δ (δ.set i s) := fun j o hj => by
  by_cases e : i = j
  · subst e; exact absurd hj (h o)
  · exact ⟨o, by rw [List.getElem?_set_ne e]; exact hj⟩
theorem Rep.fz1 (r : Rep K B G H σ δ vs rs w) {j : Nat} {v : V} {q : R} {d : PyData} {δ' : List Sl} (hv : vs[j]? = some v) (hq : rs[j]? = some q) (h : fz δ q = some (d, δ')) :
    ∃ G' w', Stp B.T G H w δ G' H w' δ' ∧ Rep K B G' H σ δ' vs (rs.set j (.im d)) w' := by
  have hj : j < rs.length := (List.getElem?_eq_some_iff.mp hq).1
  have t := r.tm j v q hv hq
  have others : ∀ {G' : Hp} {w' : Addr → Option Nat}, Same G G' → (∀ a k, w a = some k → k ≠ 2 * j + 1 → k % 2 = 1 → w' a = some k) → Dq K G' v d → ∀ (k : Nat) u p, vs[k]? = some u → (rs.set j (.im d))[k]? = some p → RR K G' H σ (fun a => w' a = some (2 * k + 1)) u p := by
    intro G' w' sg hw' hd k u p hu hp
    by_cases e : j = k
    · subst e
      rw [List.getElem?_set_self hj] at hp
      cases hp
      rw [hv] at hu
      cases hu
      exact hd
    · rw [List.getElem?_set_ne e] at hp
      exact (r.tm k u p hu hp).mono sg (fun _ _ _ h => h) fun a o ma _ => hw' a _ ma (by omega) (by omega)
  cases q with
  | im d' =>
    cases h
    exact ⟨G, w, .refl, r.sub, r.out, r.len, r.sl, by rw [List.length_set]; exact r.tlen, others (fun _ _ h => h) (fun a k h _ _ => h) t, r.bs⟩
  | ow o =>
    cases o with
    | lst ds =>
      cases h
      obtain ⟨a, us, rfl, ma, ha, hds⟩ := t
      obtain ⟨sg, st, sh, ho⟩ := r.frees (δ' := δ) ha ma (.refl _)
      refine ⟨_, _, st, sh, ho, r.len, fun i s hs => ?_, by rw [List.length_set]; exact r.tlen, others sg (fun a k h1 h2 _ => freed_ne h1 h2) (.lst upd_same (dpAll_mono sg _ _ hds)), st.bs r.bs⟩
      exact (r.sl i s hs).mono sg (fun _ _ _ h => h) fun a o mb _ => freed_ne mb (by omega)
    | deal => cases h
    | scr ns => cases h
    | lam F => cases h
    | dic ks ds => cases h
    | dct r ks ds => cases h
    | lls bs dss => cases h
    | lds q kss => cases h
    | pds q ks => cases h
    | lob C fss => cases h
    | per C fs => cases h
    | ler ess => cases h
    | gle ess => cases h
    | rcd r => cases h
    | obj C fs => cases h
    | bob C fs => cases h
    | ptl ds =>
      cases h
      exact ⟨G, w, .refl, r.sub, r.out, r.len, r.sl, by rw [List.length_set]; exact r.tlen, others (fun _ _ h => h) (fun a k h _ _ => h) (ptl_dq t), r.bs⟩
  | «at» i =>
    have t' : σ[i]? = some (some v) := t
    simp only [fz] at h
    revert h
    split
    · rename_i d' e
      intro h
      cases h
      obtain ⟨u, hu, hd⟩ := r.sl i _ e
      rw [t'] at hu
      cases hu
      exact ⟨G, w, .refl, r.sub, r.out, r.len, r.sl, by rw [List.length_set]; exact r.tlen, others (fun _ _ h => h) (fun a k h _ _ => h) hd, r.bs⟩
    · rename_i ds e
      intro h
      cases h
      obtain ⟨u, hu, a, us, rfl, ma, ha, hds⟩ := r.sl i _ e
      rw [t'] at hu
      cases hu
      obtain ⟨sg, st, sh, ho⟩ := r.frees (δ' := δ.set i (.im (.list ds))) ha ma (pn_set fun o z => by rw [e] at z; cases z)
      have hd : Dq K (upd G a (.lst us)) (.ref a) (.list ds) := .lst upd_same (dpAll_mono sg _ _ hds)
      refine ⟨_, _, st, sh, ho, by rw [List.length_set]; exact r.len, fun k s hs => ?_, by rw [List.length_set]; exact r.tlen, others sg (fun a k h1 h2 h3 => freed_ne h1 (by omega)) hd, st.bs r.bs⟩
      by_cases ek : i = k
      · subst ek
        rw [List.getElem?_set_self (List.getElem?_eq_some_iff.mp e).1] at hs
        cases hs
        exact ⟨_, t', hd⟩
      · rw [List.getElem?_set_ne ek] at hs
        exact (r.sl k s hs).mono sg (fun _ _ _ h => h) fun a o mb _ => freed_ne mb (by omega)
    · rename_i b ds e
      intro h
      cases h
      obtain ⟨u, hu, hd⟩ := r.sl i _ e
      rw [t'] at hu
      cases hu
      exact ⟨G, w, .refl, r.sub, r.out, r.len, r.sl, by rw [List.length_set]; exact r.tlen, others (fun _ _ h => h) (fun a k h _ _ => h) (ptl_dq hd), r.bs⟩
    · intro h; cases h
theorem Rep.fzGo : ∀ (rs2 : List R) (rs1 : List R) {G : Hp} {δ δ' : List Sl} {w : Addr → Option Nat} {ds : List PyData}, Rep K B G H σ δ vs (rs1 ++ rs2) w → fzAll δ rs2 = some (ds, δ') → ∃ G' w', Stp B.T G H w δ G' H w' δ' ∧ Rep K B G' H σ δ' vs (rs1 ++ ds.map .im) w'
  | [], rs1, G, δ, δ', w, ds, r, h => by
    cases h
    exact ⟨G, w, .refl, r⟩
  | q :: rs2, rs1, G, δ, δ', w, ds, r, h => by
    unfold fzAll at h
    revert h
    split
    · intro h; cases h
    · rename_i d δ1 e
      split
      · intro h; cases h
      · rename_i ds' δ2 e2
        intro h
        cases h
        have hq : (rs1 ++ q :: rs2)[rs1.length]? = some q := by simp
        have hl : rs1.length < vs.length := by rw [r.tlen, List.length_append, List.length_cons]; omega
        obtain ⟨G1, w1, s1, r1⟩ := r.fz1 (v := vs[rs1.length]) (List.getElem?_eq_getElem hl) hq e
        have e3 : (rs1 ++ q :: rs2).set rs1.length (.im d) = (rs1 ++ [.im d]) ++ rs2 := by
          rw [List.set_append_right _ _ (Nat.le_refl _), Nat.sub_self, List.set_cons_zero, List.append_assoc]
          rfl
        rw [e3] at r1
        obtain ⟨G2, w2, s2, r2⟩ := Rep.fzGo rs2 (rs1 ++ [.im d]) r1 e2
        refine ⟨G2, w2, s1.trans s2, ?_⟩
        rw [List.append_assoc] at r2
        exact r2
theorem Rep.fzs (r : Rep K B G H σ δ vs rs w) {ds : List PyData} {δ' : List Sl} (h : fzAll δ rs = some (ds, δ')) : ∃ G' w', Stp B.T G H w δ G' H w' δ' ∧ Rep K B G' H σ δ' vs (ds.map .im) w' := by
  have := Rep.fzGo rs [] (by simpa using r) h
  simpa using this
theorem Rep.ims {ds : List PyData} (r : Rep K B G H σ δ vs (ds.map .im) w) : DqAll K G vs ds := by
  have hl : vs.length = ds.length := by have := r.tlen; rwa [List.length_map] at this
  have go : ∀ (vs : List V) (ds : List PyData), vs.length = ds.length → (∀ (j : Nat) v d, vs[j]? = some v → ds[j]? = some d → Dq K G v d) → DqAll K G vs ds := by
    intro vs
    induction vs with
    | nil =>
      intro ds hl _
      cases ds with
      | nil => exact .nil
      | cons => simp at hl
    | cons v vs ih =>
      intro ds hl h
      cases ds with
      | nil => simp at hl
      | cons d ds => exact .cons (h 0 v d rfl rfl) (ih ds (by simpa using hl) fun j v' d' h1 h2 => h (j + 1) v' d' (by simpa using h1) (by simpa using h2))
  refine go vs ds hl fun j v d hv hd => ?_
  exact r.tm j v (.im d) hv (by rw [List.getElem?_map, hd]; rfl)
end
/-! ### displays -/
def qTup : List R → PX := fun rs δ Q => match fzAll δ rs with
  | some (ds, δ') => Q (.im (.tuple ds)) δ'
  | none => False
def qLst : List R → PX := fun rs δ Q => match fzAll δ rs with
  | some (ds, δ') => Q (.ow (.lst ds)) δ'
  | none => False
section
variable {X : Cx}
def pTup (ps : PL) : PX := pC qTup ps
def pLst (ps : PL) : PX := pC qLst ps
theorem je_tup {es : List Expr} {ps : PL} {x1} {pos : Pos} (h : JA X B es ps) (hl : es.length ≤ sizeLine := by decide) : JE X B (.Tuple es x1 pos) (pTup ps) := by
  refine PE_wk (pe_tup h) fun σ H Q ⟨G, w, δ, Qp, rep, q, k⟩ => ?_
  refine ⟨G, w, δ, _, rep, q, fun rs δ1 vs H1 G1 w1 q1 l1 s1 rep1 => ?_⟩
  unfold qTup at q1
  revert q1
  split
  · rename_i ds δ2 e
    intro q1
    obtain ⟨G2, w2, s2, r2⟩ := rep1.fzs e
    refine ⟨by rw [rep1.tlen, l1]; exact hl, fun p hp => ?_⟩
    obtain ⟨s3, r3⟩ := r2.retNew hp (dq_newTup r2.sub hp r2.ims)
    exact k _ _ _ _ _ _ q1 ((s1.trans s2).trans s3) r3
  · intro q1; exact q1.elim
theorem je_lst {es : List Expr} {ps : PL} {pos : Pos} (h : JA X B es ps) (hl : es.length ≤ sizeLine := by decide) : JE X B (.List es pos) (pLst ps) := by
  refine PE_wk (pe_lst h) fun σ H Q ⟨G, w, δ, Qp, rep, q, k⟩ => ?_
  refine ⟨G, w, δ, _, rep, q, fun rs δ1 vs H1 G1 w1 q1 l1 s1 rep1 => ?_⟩
  unfold qLst at q1
  revert q1
  split
  · rename_i ds δ2 e
    intro q1
    obtain ⟨G2, w2, s2, r2⟩ := rep1.fzs e
    refine ⟨by rw [rep1.tlen, l1]; exact hl, fun p hp => ?_⟩
    obtain ⟨w3, s3, r3⟩ := r2.retLst hp r2.ims
    exact k _ _ _ _ _ _ q1 ((s1.trans s2).trans s3) r3
  · intro q1; exact q1.elim
/-! ### built-ins -/
theorem lc_im1 {K : PySem.W.Frag} {f : PyData → (PyData → Prop) → Prop} {r : List V → Hp → VK → Prop} (h : ∀ G H v d Q, Same G H → Vw K G H v d → f d (fun e => ∀ u H', Res K G H u H' e → Q u H') → r [v] H Q) (mono : ∀ d (k k' : PyData → Prop), (∀ e, k e → k' e) → f d k → f d k') :
    LC K (qD fun ds k => match ds with | [d] => f d k | _ => False) r := by
  refine lc_im (fun G H vs ds Q s hv q _ => ?_) (fun ds k k' hk q => ?_)
  · match ds, hv, q with
    | [d], .cons h1 .nil, q => exact h G H _ d Q s h1 q
    | [], _, q => exact q.elim
    | _ :: _ :: _, _, q => exact q.elim
  · match ds, q with
    | [d], q => exact mono d k k' hk q
    | [], q => exact q.elim
    | _ :: _ :: _, q => exact q.elim
abbrev q1 (f : PyData → (PyData → Prop) → Prop) : List R → PX := qD fun ds k => match ds with | [d] => f d k | _ => False
abbrev q2 (f : PyData → PyData → (PyData → Prop) → Prop) : List R → PX := qD fun ds k => match ds with | [d, e] => f d e k | _ => False
variable {e : Expr} {es : List Expr} {p pos : Pos}
/-- a built-in by its name -/
theorem je_cb {x : Str} {id : String} {ps : PL} {q : List R → PX} {r : List V → Hp → VK → Prop} (hc : CallR X (.builtin id) r) (hl : LC X.K q r) (hg : Gl X x) (hm : X.mg x = none) (hv : bootBuiltins x = some (.builtin id)) (ha : JA X B (e :: es) ps) (hn : x ≠ "__name__" := by decide) (hdb : (x == ("__debug__" : Str)) = false := by decide)
    (he : starEach (e :: es) X.env = (false, eval e X.env) :: starEach es X.env := by rfl) (hpl : (backTo pos (starEach es X.env)).any (·.1) = false := by rfl) : JE X B (.Call (.Name x p) (e :: es) [] pos) (pC q ps) :=
  PE_wk (pe_callB hc hg hm hv ha hn hdb he hpl) fun σ H Q h => lc_args hl h
theorem je_ct {x : Str} {T : String} {ps : PL} {q : List R → PX} {r : List V → Hp → VK → Prop} (hc : CallR X (.type T) r) (hl : LC X.K q r) (hg : Gl X x) (hm : X.mg x = none) (hv : bootBuiltins x = some (.type T)) (ha : JA X B (e :: es) ps) (hn : x ≠ "__name__" := by decide) (hdb : (x == ("__debug__" : Str)) = false := by decide)
    (he : starEach (e :: es) X.env = (false, eval e X.env) :: starEach es X.env := by rfl) (hpl : (backTo pos (starEach es X.env)).any (·.1) = false := by rfl) : JE X B (.Call (.Name x p) (e :: es) [] pos) (pC q ps) :=
  PE_wk (pe_callTy hc hg hm hv ha hn hdb he hpl) fun σ H Q h => lc_args hl h
def fInt1 : PyData → (PyData → Prop) → Prop
  | .int i, k => k (.int i)
  | .bool b, k => k (.int (if b then 1 else 0))
  | _, _ => False
theorem lc_int1 {K : PySem.W.Frag} : LC K (q1 fInt1) qInt1 := by
  refine lc_im1 (fun G H v d Q s hv q => ?_) (fun d k k' hk q => ?_)
  · unfold fInt1 at q
    split at q
    · exact .inl ⟨_, by rw [hv.int], q _ _ .int⟩
    · exact .inr ⟨_, by rw [hv.bool], q _ _ .int⟩
    · exact q.elim
  · unfold fInt1 at q ⊢
    split at q
    · exact hk _ q
    · exact hk _ q
    · exact q.elim
def fTupleOf : PyData → (PyData → Prop) → Prop
  | .list ds, k => k (.tuple ds)
  | .tuple ds, k => k (.tuple ds)
  | _, _ => False
theorem lc_tupleOf {K : PySem.W.Frag} : LC K (q1 fTupleOf) (qTupleOf K) := by
  refine lc_im1 (fun G H v d Q s hv q => ?_) (fun d k k' hk q => ?_)
  · unfold fTupleOf at q
    split at q
    · obtain ⟨a, us, rfl, ha, hds⟩ := hv.seqL s
      exact ⟨a, us, rfl, .inl ⟨SqL.of ha, fun l hl => q _ _ (.inr ⟨l, us, _, rfl, hl, rfl, hds, rfl⟩)⟩⟩
    · obtain ⟨a, us, rfl, ha, hds, e1⟩ := hv.seqT s
      exact ⟨a, us, rfl, .inr ⟨ha, q _ _ (.old e1)⟩⟩
    · exact q.elim
  · unfold fTupleOf at q ⊢
    split at q
    · exact hk _ q
    · exact hk _ q
    · exact q.elim
/-! ### isinstance(e, T) -/
end
end Pv
namespace Pv
open PySem PySem.Spec L2 Wf
variable {B : Bas}
/-- a new thing beside, that never changes -/
theorem Rep.lay {K : PySem.W.Frag} {G H : Hp} {σ : St} {δ : List Sl} {vs : List V} {rs : List R} {w : Addr → Option Nat} (r : Rep K B G H σ δ vs rs w) {p : Addr} {o : HO} (hp : H p = none) (hn : NT o := by exact nofun) :
    Stp B.T G H w δ (upd G p o) (upd H p o) w δ ∧ Rep K B (upd G p o) (upd H p o) σ δ vs rs w := by
  have gp : G p = none := by
    cases e : G p with
    | none => rfl
    | some u => rw [r.sub p u e] at hp; cases hp
  have sg : Same G (upd G p o) := same_new gp
  have kp : ∀ a u, H a = some u → upd H p o a = some u := fun a u ha => by rw [upd_ne (ne_of_none ha hp)]; exact ha
  have st : Stp B.T G H w δ (upd G p o) (upd H p o) w δ := by
    refine .of ⟨sg, fun a u _ ha => kp a u ha, fun a i h => .inl (by rw [h]; exact Option.some_ne_none _), fun a u ha => ?_, .refl _⟩ (tabs_new hp) (q_new hn)
    by_cases e : a = p
    · subst e; exact .inr (.inl hp)
    · rw [upd_ne e] at ha; exact .inl ha
  refine ⟨st, fun a u ha => ?_, fun a i h => ?_, r.len, fun i s h => ?_, r.tlen, fun j v q hv hq => ?_, st.bs r.bs⟩
  · by_cases e : a = p
    · subst e; rw [upd_same] at ha ⊢; exact ha
    · rw [upd_ne e] at ha ⊢; exact r.sub a u ha
  · have ho := r.out a i h
    have hne : a ≠ p := fun z => ho.2.1 (by rw [z]; exact hp)
    rw [upd_ne hne, upd_ne hne]
    exact ⟨ho.1, ho.2.1, noT_upd hne ho.2.2⟩
  · exact (r.sl i s h).mono sg (fun a u _ hu => kp a u hu) fun a u ma _ => ma
  · exact (r.tm j v q hv hq).mono sg (fun a u _ hu => kp a u hu) fun a u ma _ => ma
section
variable {X : Cx} {a b e : Expr} {es : List Expr} {p pos p2 : Pos} {pa pb : PX}
/-! ### isinstance -/
/-! ### is -/
/-! ### a < b < c -/
/-! ### slices -/
def POx := List Sl → (Option Int → List Sl → Prop) → Prop
def oNone : POx := fun δ Q => Q none δ
def oSome (p : PX) : POx := fun δ Q => p δ fun r δ1 => ∃ i, dat δ1 r = some (.int i) ∧ Q (some i) δ1
def LO (K : PySem.W.Frag) (B : Bas) (p : POx) : TO := fun σ H Q => ∃ G w δ Qp, Rep K B G H σ δ [] [] w ∧ p δ Qp ∧ ∀ b δ' H' G' w', Qp b δ' → Stp B.T G H w δ G' H' w' δ' → Rep K B G' H' σ δ' [] [] w' → Q b H'
def JO (X : Cx) (B : Bas) (e : Option Expr) (p : POx) : Prop := PO X e (LO X.K B p)
theorem PO_wk {e : Option Expr} {t t' : TO} (h : PO X e t) (k : ∀ σ H Q, t' σ H Q → t σ H Q) : PO X e t' := ⟨fun pins s σ H Q I q => h.run pins s σ H Q I (k σ H Q q)⟩
theorem jo_none : JO X B none oNone := PO_wk po_none fun σ H Q ⟨G, w, δ, Qp, rep, q, k⟩ => k none δ H G w q .refl rep
theorem dp_int {K : PySem.W.Frag} {H : Hp} {v : V} {i : Int} (h : Dp K H v (.int i)) : v = .int i := by cases h; rfl
theorem jo_some (ha : JE X B a pa) : JO X B (some a) (oSome pa) := PO_wk (po_some ha) fun σ H Q ⟨G, w, δ, Qp, rep, q, k⟩ => ⟨G, w, δ, _, rep, q, fun r δ1 v H1 G1 w1 q1 s1 rep1 => by
  obtain ⟨i, hi, q1⟩ := q1
  exact ⟨i, dp_int (rep1.dpH (j := 0) rfl rfl hi), k _ δ1 H1 G1 _ q1 (s1.trans .drop) rep1.drop⟩⟩
def cutD {α : Type} (xs : List α) (lo hi : Option Int) : List α := (xs.drop (HT.sIx xs.length 0 lo)).take (HT.sIx xs.length xs.length hi - HT.sIx xs.length 0 lo)
/-! ### in, not in: lists of data -/
/-! ### list(range(..)), tuple(range(..)) -/
def rgD (a b : Int) : List PyData := (List.range (b - a).toNat).map fun (i : Nat) => PyData.int (a + (i : Nat))
end
end Pv
namespace Pv
open PySem PySem.Spec L2 Wf
variable {B : Bas}
/-! ### storing -/
def slOf : R → Sl
  | .im d => .im d
  | .ow o => .ow false o
  | .at _ => .un
def isAt : R → Bool
  | .at _ => true
  | _ => false
/-- what a slot holds, as data for good -/
def rz (δ : List Sl) : R → Option (R × List Sl)
  | .at i => match δ[i]? with
    | some (.im d) => some (.im d, δ)
    | some (.ow false (.lst ds)) => some (.im (.list ds), δ.set i (.im (.list ds)))
    | some (.ow _ (.ptl ds)) => some (.ow (.ptl ds), δ)
    | _ => none
  | r => some (r, δ)
def rzAll : List Sl → List R → Option (List R × List Sl)
  | δ, [] => some ([], δ)
  | δ, r :: rs => match rz δ r with
    | none => none
    | some (q, δ1) => match rzAll δ1 rs with
      | none => none
      | some (qs, δ2) => some (q :: qs, δ2)
/-- slot i gets r -/
def setS (i : Nat) (r : R) (δ : List Sl) (Q : List Sl → Prop) : Prop := match δ[i]? with
  | none => False
  | some (.ow true _) => False
  | some _ => Q (δ.set i (slOf r))
def setAll : List Nat → List R → List Sl → (List Sl → Prop) → Prop
  | [], [], δ, Q => Q δ
  | i :: is, r :: rs, δ, Q => setS i r δ fun δ' => setAll is rs δ' Q
  | _, _, _, _ => False
def Pin (σ : St) (δ : List Sl) (σ' : St) : Prop := ∀ (i : Nat) (o : O), δ[i]? = some (Sl.ow true o) → σ'[i]? = σ[i]?
theorem Pin.refl {σ : St} {δ : List Sl} : Pin σ δ σ := fun _ _ _ => rfl
theorem Pin.trans {σ σ1 σ2 : St} {δ δ1 : List Sl} (a : Pin σ δ σ1) (n : Pn δ δ1) (b : Pin σ1 δ1 σ2) : Pin σ δ σ2 := fun i o h => by
  obtain ⟨o', h'⟩ := n i o h
  exact (b i o' h').trans (a i o h)
section
variable {K : PySem.W.Frag} {G H : Hp} {σ : St} {δ : List Sl} {vs : List V} {rs : List R} {w : Addr → Option Nat}
theorem Rep.rz1 (r : Rep K B G H σ δ vs rs w) {j : Nat} {q q' : R} {δ' : List Sl} (hq : rs[j]? = some q) (h : rz δ q = some (q', δ')) :
    ∃ G' w', Stp B.T G H w δ G' H w' δ' ∧ Rep K B G' H σ δ' vs (rs.set j q') w' := by
  have hj : j < rs.length := (List.getElem?_eq_some_iff.mp hq).1
  have hjv : j < vs.length := by rw [r.tlen]; exact hj
  have same : rs.set j q = rs := by
    apply List.ext_getElem?
    intro k
    by_cases e : j = k
    · subst e; rw [List.getElem?_set_self hj]; exact hq.symm
    · rw [List.getElem?_set_ne e]
  cases q with
  | im d => cases h; exact ⟨G, w, .refl, by rw [same]; exact r⟩
  | ow o => cases h; exact ⟨G, w, .refl, by rw [same]; exact r⟩
  | «at» i =>
    simp only [rz] at h
    revert h
    split
    · rename_i d e
      intro h
      cases h
      exact r.fz1 (List.getElem?_eq_getElem hjv) hq (by simp only [fz, e])
    · rename_i ds e
      intro h
      cases h
      exact r.fz1 (List.getElem?_eq_getElem hjv) hq (by simp only [fz, e])
    · rename_i b ds e
      intro h
      cases h
      obtain ⟨u, hu, hd⟩ := r.sl i _ e
      have t' : σ[i]? = some (some vs[j]) := r.tm j _ _ (List.getElem?_eq_getElem hjv) hq
      rw [t'] at hu
      cases hu
      refine ⟨G, w, .refl, r.sub, r.out, r.len, r.sl, by rw [List.length_set]; exact r.tlen, fun k x p hx hp => ?_, r.bs⟩
      by_cases ek : j = k
      · subst ek
        rw [List.getElem?_set_self hj] at hp
        cases hp
        rw [List.getElem?_eq_getElem hjv] at hx
        cases hx
        exact hd
      · rw [List.getElem?_set_ne ek] at hp
        exact r.tm k x p hx hp
    · intro h; cases h
theorem Rep.rzGo : ∀ (rs2 : List R) (rs1 : List R) {G : Hp} {δ δ' : List Sl} {w : Addr → Option Nat} {qs : List R}, Rep K B G H σ δ vs (rs1 ++ rs2) w → rzAll δ rs2 = some (qs, δ') → ∃ G' w', Stp B.T G H w δ G' H w' δ' ∧ Rep K B G' H σ δ' vs (rs1 ++ qs) w'
  | [], rs1, G, δ, δ', w, qs, r, h => by
    cases h
    exact ⟨G, w, .refl, r⟩
  | q :: rs2, rs1, G, δ, δ', w, qs, r, h => by
    unfold rzAll at h
    revert h
    split
    · intro h; cases h
    · rename_i q' δ1 e
      split
      · intro h; cases h
      · rename_i qs' δ2 e2
        intro h
        cases h
        have hq : (rs1 ++ q :: rs2)[rs1.length]? = some q := by simp
        obtain ⟨G1, w1, s1, r1⟩ := r.rz1 hq e
        have e3 : (rs1 ++ q :: rs2).set rs1.length q' = (rs1 ++ [q']) ++ rs2 := by
          rw [List.set_append_right _ _ (Nat.le_refl _), Nat.sub_self, List.set_cons_zero, List.append_assoc]
          rfl
        rw [e3] at r1
        obtain ⟨G2, w2, s2, r2⟩ := Rep.rzGo rs2 (rs1 ++ [q']) r1 e2
        refine ⟨G2, w2, s1.trans s2, ?_⟩
        rw [List.append_assoc] at r2
        exact r2
theorem rz_noAt {δ δ' : List Sl} {q q' : R} (h : rz δ q = some (q', δ')) : isAt q' = false := by
  cases q with
  | im d => cases h; rfl
  | ow o => cases h; rfl
  | «at» i =>
    simp only [rz] at h
    revert h
    split
    · intro h; cases h; rfl
    · intro h; cases h; rfl
    · intro h; cases h; rfl
    · intro h; cases h
theorem rzAll_noAt : ∀ {rs qs : List R} {δ δ' : List Sl}, rzAll δ rs = some (qs, δ') → ∀ q ∈ qs, isAt q = false
  | [], _, _, _, h => by cases h; intro q hq; cases hq
  | r :: rs, qs, δ, δ', h => by
    unfold rzAll at h
    revert h
    split
    · intro h; cases h
    · rename_i q' δ1 e
      split
      · intro h; cases h
      · rename_i qs' δ2 e2
        intro h
        cases h
        intro q hq
        rcases List.mem_cons.mp hq with rfl | hq
        · exact rz_noAt e
        · exact rzAll_noAt e2 q hq
theorem Rep.rzs (r : Rep K B G H σ δ vs rs w) {qs : List R} {δ' : List Sl} (h : rzAll δ rs = some (qs, δ')) : ∃ G' w', Stp B.T G H w δ G' H w' δ' ∧ Rep K B G' H σ δ' vs qs w' := by
  have := Rep.rzGo rs [] (by simpa using r) h
  simpa using this
def moved (i : Nat) (w : Addr → Option Nat) (a : Addr) : Option Nat := match w a with
  | none => none
  | some n => if n = 1 then some (2 * i) else if n % 2 = 1 then some (n - 2) else if n = 2 * i then none else some n
theorem of_moved {i : Nat} {w : Addr → Option Nat} {a : Addr} {m : Nat} (h : moved i w a = some m) : ∃ n, w a = some n := by
  unfold moved at h
  cases e : w a with
  | none => rw [e] at h; cases h
  | some n => exact ⟨n, rfl⟩
/-- the first value goes to slot i -/
theorem Rep.sto {v : V} {q : R} (r : Rep K B G H σ δ (v :: vs) (q :: rs) w) {i : Nat} {Q : List Sl → Prop} (h : setS i q δ Q) (hq : isAt q = false) (hrs : ∀ p ∈ rs, isAt p = false) :
    ∃ w', Q (δ.set i (slOf q)) ∧ Stp B.T G H w δ G H w' (δ.set i (slOf q)) ∧ Rep K B G H (σ.set i (some v)) (δ.set i (slOf q)) vs rs w' ∧ Pin σ δ (σ.set i (some v)) := by
  have hd : ∃ s, δ[i]? = some s ∧ (∀ o, s ≠ .ow true o) ∧ Q (δ.set i (slOf q)) := by
    unfold setS at h
    revert h
    split
    · intro h; exact h.elim
    · intro h; exact h.elim
    · rename_i s hn e
      intro h
      exact ⟨s, e, fun o z => hn o z, h⟩
  obtain ⟨s, hs, hp, hQ⟩ := hd
  have hi : i < δ.length := (List.getElem?_eq_some_iff.mp hs).1
  have hiσ : i < σ.length := by rw [r.len]; exact hi
  have np : ∀ o, δ[i]? ≠ some (.ow true o) := fun o z => by rw [hs] at z; cases z; exact hp o rfl
  have st : Stp B.T G H w δ G H (moved i w) (δ.set i (slOf q)) := .of ⟨fun _ _ h => h, fun _ _ _ h => h, fun a m h => by
    obtain ⟨n, hn⟩ := of_moved h
    exact .inl (by rw [hn]; exact Option.some_ne_none _), fun a o h => .inl h, pn_set np⟩
  refine ⟨moved i w, hQ, st, ⟨r.sub, fun a m h => ?_, by rw [List.length_set, List.length_set]; exact r.len, fun k s' hk => ?_, by have := r.tlen; simpa using this, fun j u p hu hp' => ?_, st.bs r.bs⟩, fun k o hk => ?_⟩
  · obtain ⟨n, hn⟩ := of_moved h
    exact r.out a n hn
  · by_cases e : i = k
    · subst e
      rw [List.getElem?_set_self hi] at hk
      cases hk
      have t := r.tm 0 v q rfl rfl
      cases q with
      | im d => exact ⟨v, List.getElem?_set_self hiσ, t⟩
      | ow o =>
        refine ⟨v, List.getElem?_set_self hiσ, RO.mono (fun _ _ h => h) (fun _ _ _ h => h) (fun a u ma _ => ?_) t⟩
        show moved i w a = _
        unfold moved
        rw [ma]
        rfl
      | «at» _ => cases hq
    · rw [List.getElem?_set_ne e] at hk
      rw [List.getElem?_set_ne e]
      refine (r.sl k s' hk).mono (fun _ _ h => h) (fun _ _ _ h => h) fun a u ma _ => ?_
      show moved i w a = _
      unfold moved
      rw [ma]
      dsimp only
      rw [if_neg (by omega), if_neg (by omega), if_neg (by omega)]
  · have t := r.tm (j + 1) u p (by simpa using hu) (by simpa using hp')
    have hno : isAt p = false := hrs p (List.mem_of_getElem? hp')
    cases p with
    | im d => exact t
    | ow o =>
      refine RO.mono (fun _ _ h => h) (fun _ _ _ h => h) (fun a u ma _ => ?_) t
      show moved i w a = _
      unfold moved
      rw [ma]
      dsimp only
      rw [if_neg (by omega), if_pos (by omega)]
      congr 1
    | «at» _ => cases hno
  · by_cases e : i = k
    · subst e; exact absurd hk (np o)
    · rw [List.getElem?_set_ne e]
/-- several slots get several values -/
theorem Rep.stos : ∀ (is : List Nat) {σ : St} {δ : List Sl} {vs : List V} {qs : List R} {w : Addr → Option Nat} {Q : List Sl → Prop}, Rep K B G H σ δ vs qs w → setAll is qs δ Q → (∀ q ∈ qs, isAt q = false) →
    ∃ δ' w', Q δ' ∧ Stp B.T G H w δ G H w' δ' ∧ Rep K B G H ((is.zip vs).foldl (fun σ p => σ.set p.1 (some p.2)) σ) δ' [] [] w' ∧ Pin σ δ ((is.zip vs).foldl (fun σ p => σ.set p.1 (some p.2)) σ) ∧ is.length = vs.length
  | [], σ, δ, vs, qs, w, Q, r, h, hq => by
    cases qs with
    | nil =>
      have hv : vs = [] := List.eq_nil_of_length_eq_zero (by have := r.tlen; simpa using this)
      subst hv
      exact ⟨δ, w, h, .refl, r, .refl, rfl⟩
    | cons => exact h.elim
  | i :: is, σ, δ, vs, qs, w, Q, r, h, hq => by
    cases qs with
    | nil => exact h.elim
    | cons q qs =>
      cases vs with
      | nil => have := r.tlen; simp at this
      | cons v vs =>
        obtain ⟨w1, h1, s1, r1, p1⟩ := r.sto (show setS i q δ _ from h) (hq q List.mem_cons_self) fun p hp => hq p (List.mem_cons_of_mem _ hp)
        obtain ⟨δ2, w2, h2, s2, r2, p2, hl⟩ := Rep.stos is r1 h1 fun p hp => hq p (List.mem_cons_of_mem _ hp)
        exact ⟨δ2, w2, h2, s1.trans s2, r2, p1.trans s1.pn p2, congrArg (· + 1) hl⟩
/-- what slot i holds is handed on -/
def taken (i : Nat) (w : Addr → Option Nat) (a : Addr) : Option Nat := match w a with
  | none => none
  | some n => if n = 2 * i then some 1 else if n % 2 = 1 then none else some n
def mv (δ : List Sl) : R → Option (R × List Sl)
  | .at i => match δ[i]? with
    | some (.im d) => some (.im d, δ)
    | some (.ow false o) => some (.ow o, δ.set i .un)
    | _ => none
  | r => some (r, δ)
theorem Rep.mv1 {v : V} {q q' : R} {δ' : List Sl} (r : Rep K B G H σ δ [v] [q] w) (h : mv δ q = some (q', δ')) : ∃ w', Stp B.T G H w δ G H w' δ' ∧ Rep K B G H σ δ' [v] [q'] w' ∧ isAt q' = false := by
  cases q with
  | im d => cases h; exact ⟨w, .refl, r, rfl⟩
  | ow o => cases h; exact ⟨w, .refl, r, rfl⟩
  | «at» i =>
    have t : σ[i]? = some (some v) := r.tm 0 v (.at i) rfl rfl
    simp only [mv] at h
    revert h
    split
    · rename_i d e
      intro h
      cases h
      obtain ⟨u, hu, hd⟩ := r.sl i _ e
      rw [t] at hu
      cases hu
      exact ⟨_, .drop, r.ret hd, rfl⟩
    · rename_i o e
      intro h
      cases h
      obtain ⟨u, hu, hd⟩ := r.sl i _ e
      rw [t] at hu
      cases hu
      have ot : ∀ a m, taken i w a = some m → ∃ n, w a = some n := fun a m h => by
        unfold taken at h
        cases e : w a with
        | none => rw [e] at h; cases h
        | some n => exact ⟨n, rfl⟩
      have st : Stp B.T G H w δ G H (taken i w) (δ.set i .un) := .of ⟨fun _ _ h => h, fun _ _ _ h => h, fun a m h => by
        obtain ⟨n, hn⟩ := ot a m h
        exact .inl (by rw [hn]; exact Option.some_ne_none _), fun a o h => .inl h, pn_set fun o z => by rw [e] at z; cases z⟩
      refine ⟨taken i w, st, ⟨r.sub, fun a m h => ?_, by rw [List.length_set]; exact r.len, fun k s' hk => ?_, rfl, fun j u p hu hp' => ?_, st.bs r.bs⟩, rfl⟩
      · obtain ⟨n, hn⟩ := ot a m h
        exact r.out a n hn
      · by_cases ek : i = k
        · subst ek
          rw [List.getElem?_set_self (List.getElem?_eq_some_iff.mp e).1] at hk
          cases hk
          trivial
        · rw [List.getElem?_set_ne ek] at hk
          refine (r.sl k s' hk).mono (fun _ _ h => h) (fun _ _ _ h => h) fun a u ma _ => ?_
          show taken i w a = _
          unfold taken
          rw [ma]
          dsimp only
          rw [if_neg (by omega), if_neg (by omega)]
      · match j with
        | 0 =>
          simp only [List.getElem?_cons_zero, Option.some.injEq] at hu hp'
          subst hu hp'
          refine RO.mono (fun _ _ h => h) (fun _ _ _ h => h) (fun a u ma _ => ?_) hd
          show taken i w a = _
          unfold taken
          rw [ma]
          dsimp only
          rw [if_pos rfl]
        | j + 1 => simp at hu
    · intro h; cases h
end
/-! ### statements -/
structure PEn where
  nx : List Sl → Prop
  rt : R → List Sl → Prop
  bk : List Sl → Prop := fun _ => False
  ct : List Sl → Prop := fun _ => False
abbrev PSx := PEn → List Sl → Prop
structure EOk (K : PySem.W.Frag) (B : Bas) (G H : Hp) (w : Addr → Option Nat) (σ : St) (δ : List Sl) (E : PEn) (D : Ends) : Prop where
  nx : ∀ δ' σ' H' G' w', E.nx δ' → Stp B.T G H w δ G' H' w' δ' → Rep K B G' H' σ' δ' [] [] w' → Pin σ δ σ' → D.nx σ' H'
  rt : ∀ r δ' v σ' H' G' w', E.rt r δ' → isAt r = false → Stp B.T G H w δ G' H' w' δ' → Rep K B G' H' σ' δ' [v] [r] w' → Pin σ δ σ' → D.rt v H'
  bk : ∀ δ' σ' H' G' w', E.bk δ' → Stp B.T G H w δ G' H' w' δ' → Rep K B G' H' σ' δ' [] [] w' → Pin σ δ σ' → D.bk σ' H'
  ct : ∀ δ' σ' H' G' w', E.ct δ' → Stp B.T G H w δ G' H' w' δ' → Rep K B G' H' σ' δ' [] [] w' → Pin σ δ σ' → D.ct σ' H'
theorem EOk.later {K : PySem.W.Frag} {G H G1 H1 : Hp} {w w1 : Addr → Option Nat} {σ σ1 : St} {δ δ1 : List Sl} {E : PEn} {D : Ends} (e : EOk K B G H w σ δ E D) (s : Stp B.T G H w δ G1 H1 w1 δ1) (p : Pin σ δ σ1) : EOk K B G1 H1 w1 σ1 δ1 E D :=
  ⟨fun δ' σ' H' G' w' h s' r p' => e.nx δ' σ' H' G' w' h (s.trans s') r (p.trans s.pn p'), fun q δ' v σ' H' G' w' h ha s' r p' => e.rt q δ' v σ' H' G' w' h ha (s.trans s') r (p.trans s.pn p'),
    fun δ' σ' H' G' w' h s' r p' => e.bk δ' σ' H' G' w' h (s.trans s') r (p.trans s.pn p'), fun δ' σ' H' G' w' h s' r p' => e.ct δ' σ' H' G' w' h (s.trans s') r (p.trans s.pn p')⟩
def LS (K : PySem.W.Frag) (B : Bas) (p : PSx) : TS := fun D σ H => ∃ G w δ E, Rep K B G H σ δ [] [] w ∧ p E δ ∧ EOk K B G H w σ δ E D
def JS (X : Cx) (B : Bas) (st : Stmt) (p : PSx) : Prop := PS X st (LS X.K B p)
def JSs (X : Cx) (B : Bas) (st : List Stmt) (p : PSx) : Prop := PSs X st (LS X.K B p)
def pNext : PSx := fun E δ => E.nx δ
def pSeq (a b : PSx) : PSx := fun E δ => a { E with nx := fun δ' => b E δ' } δ
def pExpr (p : PX) : PSx := fun E δ => p δ fun _ δ1 => E.nx δ1
def pRet (p : PX) : PSx := fun E δ => p δ fun r δ1 => ∃ q δ2, mv δ1 r = some (q, δ2) ∧ E.rt q δ2
def pIf (c : PB) (a b : PSx) : PSx := fun E δ => c δ fun t δ1 => if t = true then a E δ1 else b E δ1
def pSet (i : Nat) (p : PX) : PSx := fun E δ => p δ fun r δ1 => ∃ q δ2, rz δ1 r = some (q, δ2) ∧ setS i q δ2 E.nx
def pPar (is : List Nat) (ps : PL) : PSx := fun E δ => ps δ fun rs δ1 => ∃ qs δ2, rzAll δ1 rs = some (qs, δ2) ∧ setAll is qs δ2 E.nx
section
variable {X : Cx} {st : Stmt} {sts : List Stmt} {a b : PSx} {e : Expr} {pa : PX} {pos : Pos}
theorem jss_nil : JSs X B [] pNext := PSs_wk pss_nil fun D σ H ⟨G, w, δ, E, rep, h, ek⟩ => ek.nx δ σ H G w h .refl rep .refl
theorem jss_cons (h1 : JS X B st a) (h2 : JSs X B sts b) : JSs X B (st :: sts) (pSeq a b) := PSs_wk (pss_cons h1 h2) fun D σ H ⟨G, w, δ, E, rep, h, ek⟩ =>
  ⟨G, w, δ, _, rep, h, ⟨fun δ' σ' H' G' w' hb s r p => ⟨G', w', δ', E, r, hb, ek.later s p⟩, ek.rt, ek.bk, ek.ct⟩⟩
theorem jss_one (h1 : JS X B st a) : JSs X B [st] a := pss_one h1
theorem js_expr (he : JE X B e pa) (hs : swapsWith e none pos.line X.env = pure false := by rfl) : JS X B (.Expr e pos) (pExpr pa) := PS_wk (ps_expr he hs) fun D σ H ⟨G, w, δ, E, rep, h, ek⟩ =>
  ⟨G, w, δ, _, rep, h, fun r δ1 v H1 G1 w1 q1 s1 rep1 => ek.nx δ1 σ H1 G1 _ q1 (s1.trans .drop) rep1.drop .refl⟩
theorem js_ret (he : JE X B e pa) : JS X B (.Return (some e) pos) (pRet pa) := PS_wk (ps_ret he) fun D σ H ⟨G, w, δ, E, rep, h, ek⟩ =>
  ⟨G, w, δ, _, rep, h, fun r δ1 v H1 G1 w1 q1 s1 rep1 => by
    obtain ⟨q, δ2, hm, q1⟩ := q1
    obtain ⟨w2, s2, r2, ha⟩ := rep1.mv1 hm
    exact ek.rt q δ2 v σ H1 G1 w2 q1 ha (s1.trans s2) r2 .refl⟩
theorem js_if {c : Expr} {x y : List Stmt} {pc : PB} (hc : JB X B c pc) (ha : JSs X B x a) (hb : JSs X B y b) : JS X B (.If c x y pos) (pIf pc a b) := PS_wk (ps_if hc ha hb) fun D σ H ⟨G, w, δ, E, rep, h, ek⟩ =>
  ⟨G, w, δ, _, rep, h, fun t δ1 H1 G1 w1 q1 s1 rep1 => by
    cases t with
    | true => exact ⟨G1, w1, δ1, E, rep1, q1, ek.later s1 .refl⟩
    | false => exact ⟨G1, w1, δ1, E, rep1, q1, ek.later s1 .refl⟩⟩
theorem js_set {i : Nat} {x : Str} {pos' : Pos} (hN : X.N.Nodup) (hi : X.N[i]? = some x) (hx : Loc X.env.scope x) (he : JE X B e pa) (hs : swapsWith e (some (.Name x pos')) pos.line X.env = pure false := by rfl) (hf : X.fn x = true ∨ X.env.scope.names.lookup x = some .local := by first | exact .inl rfl | exact .inr rfl | assumption) :
    JS X B (.Assign [.Name x pos'] e pos) (pSet i pa) := PS_wk (ps_set hN hi hx he hs hf) fun D σ H ⟨G, w, δ, E, rep, h, ek⟩ =>
  ⟨G, w, δ, _, rep, h, fun r δ1 v H1 G1 w1 q1 s1 rep1 => by
    obtain ⟨q, δ2, hz, q1⟩ := q1
    obtain ⟨G2, w2, s2, r2⟩ := rep1.rz1 (j := 0) rfl hz
    obtain ⟨w3, q3, s3, r3, p3⟩ := r2.sto q1 (rz_noAt hz) (fun p hp => by cases hp)
    exact ek.nx _ _ H1 G2 w3 q3 ((s1.trans s2).trans s3) r3 ((Pin.refl (σ := σ)).trans (s1.trans s2).pn p3)⟩
theorem js_par2 {i j : Nat} {x y : Str} {e1 e2 : Expr} {ps : PL} {px py pt : Pos} {kt k2 pt2} (hc : X.calm = true) (hN : X.N.Nodup) (hi : X.N[i]? = some x) (hj : X.N[j]? = some y) (hij : i ≠ j)
    (hx : X.env.scope.names.lookup x = some .local) (hy : X.env.scope.names.lookup y = some .local) (ha : JA X B [e1, e2] ps)
    (hw : swappedStores [.Tuple [.Name x px, .Name y py] kt pt] (.Tuple [e1, e2] k2 pt2) X.env = pure (some [x, y]))
    (hs : swapsWithSole [.Tuple [.Name x px, .Name y py] kt pt] (.Tuple [e1, e2] k2 pt2) pos.line X.env = pure false := by rfl) :
    JS X B (.Assign [.Tuple [.Name x px, .Name y py] kt pt] (.Tuple [e1, e2] k2 pt2) pos) (pPar [i, j] ps) := PS_wk (ps_par hc hN hi hj hij hx hy ha hw hs) fun D σ H ⟨G, w, δ, E, rep, h, ek⟩ =>
  ⟨G, w, δ, _, rep, h, fun rs δ1 vs H1 G1 w1 q1 l1 s1 rep1 => by
    obtain ⟨qs, δ2, hz, q1⟩ := q1
    obtain ⟨G2, w2, s2, r2⟩ := rep1.rzs hz
    obtain ⟨δ3, w3, q3, s3, r3, p3, hl⟩ := Rep.stos [i, j] r2 q1 (rzAll_noAt hz)
    match vs, hl with
    | [v, u], _ => exact ⟨v, u, rfl, ek.nx _ _ H1 G2 w3 q3 ((s1.trans s2).trans s3) r3 ((Pin.refl (σ := σ)).trans (s1.trans s2).pn p3)⟩⟩
end
/-! ### targets of data -/
abbrev PGx := PyData → List Sl → (List Sl → Prop) → Prop
def gN (i : Nat) : PGx := fun d δ Q => setS i (.im d) δ Q
/-- only the slots ts are stored to -/
def Tch (ts : List Nat) (σ σ' : St) : Prop := σ'.length = σ.length ∧ ∀ k, k ∉ ts → σ'[k]? = σ[k]?
theorem Tch.refl {ts : List Nat} {σ : St} : Tch ts σ σ := ⟨rfl, fun _ _ => rfl⟩
theorem Tch.trans {ts us : List Nat} {σ σ1 σ2 : St} (a : Tch ts σ σ1) (b : Tch us σ1 σ2) : Tch (ts ++ us) σ σ2 := ⟨b.1.trans a.1, fun k hk => (b.2 k fun z => hk (List.mem_append_right _ z)).trans (a.2 k fun z => hk (List.mem_append_left _ z))⟩
def LG (K : PySem.W.Frag) (B : Bas) (ts : List Nat) (g : PGx) : TG := fun v σ H Q => ∃ G w δ d Qp, Rep K B G H σ δ [] [] w ∧ Dq K G v d ∧ g d δ Qp ∧ ∀ δ' σ' H' G' w', Qp δ' → Stp B.T G H w δ G' H' w' δ' → Rep K B G' H' σ' δ' [] [] w' → Pin σ δ σ' → Tch ts σ σ' → Q σ' H'
section
variable {X : Cx} {pos : Pos}
theorem PG_wk {e : Expr} {t t' : TG} (h : PG X e t) (k : ∀ v σ H Q, t' v σ H Q → t v σ H Q) : PG X e t' := ⟨fun pins s σ H v u Q I r q => h.run pins s σ H v u Q I r (k v σ H Q q)⟩
theorem PGs_wk {es : List Expr} {t t' : TGs} (h : PGs X es t) (k : ∀ v σ H Q, t' v σ H Q → t v σ H Q) : PGs X es t' := ⟨fun pins s σ H v u Q I r q => h.run pins s σ H v u Q I r (k v σ H Q q)⟩
def JG (X : Cx) (B : Bas) (e : Expr) (ts : List Nat) (g : PGx) : Prop := PG X e (LG X.K B ts g)
theorem jg_name {i : Nat} {x : Str} (hN : X.N.Nodup) (hi : X.N[i]? = some x) (hx : Loc X.env.scope x) (hf : X.fn x = true ∨ X.env.scope.names.lookup x = some .local := by first | exact .inl rfl | exact .inr rfl | assumption) : JG X B (.Name x pos) [i] (gN i) :=
  PG_wk (pg_name hN hi hx hf) fun v σ H Q ⟨G, w, δ, d, Qp, rep, hd, h, k⟩ => by
    obtain ⟨w3, q3, s3, r3, p3⟩ := (rep.ret hd).sto (show setS i (.im d) δ Qp from h) rfl (fun p hp => by cases hp)
    exact k _ _ H G w3 q3 (Stp.drop.trans s3) r3 p3 ⟨List.length_set, fun k hk => List.getElem?_set_ne fun z => hk (by rw [z]; exact List.mem_singleton.mpr rfl)⟩
end
end Pv
namespace Pv
open PySem PySem.Spec L2 Wf
variable {B : Bas}
/-! ### a list of one's own is changed -/
section
variable {K : PySem.W.Frag} {G H : Hp} {σ : St} {δ : List Sl} {vs : List V} {rs : List R} {w : Addr → Option Nat}
theorem Rep.own (r : Rep K B G H σ δ vs rs w) {i : Nat} {b : Bool} {ds : List PyData} (h : δ[i]? = some (.ow b (.lst ds))) : ∃ a us, σ[i]? = some (some (.ref a)) ∧ w a = some (2 * i) ∧ H a = some (.lst us) ∧ DqAll K G us ds := by
  obtain ⟨v, hv, a, us, rfl, ma, ha, hd⟩ := r.sl i _ h
  exact ⟨a, us, hv, ma, ha, hd⟩
theorem Rep.wr (r : Rep K B G H σ δ vs rs w) {i : Nat} {b : Bool} {ds ds' : List PyData} {a : Addr} {us us' : List V} (h : δ[i]? = some (.ow b (.lst ds))) (hσ : σ[i]? = some (some (.ref a))) (hw : w a = some (2 * i)) (ha : H a = some (.lst us)) (hd : DqAll K G us' ds') :
    Stp B.T G H w δ G (upd H a (.lst us')) w (δ.set i (.ow b (.lst ds'))) ∧ Rep K B G (upd H a (.lst us')) σ (δ.set i (.ow b (.lst ds'))) vs rs w := by
  have hi : i < δ.length := (List.getElem?_eq_some_iff.mp h).1
  have ne : ∀ x n, w x = some n → n ≠ 2 * i → x ≠ a := fun x n hx hn z => by subst z; rw [hw] at hx; cases hx; exact hn rfl
  have g0 := (r.out a _ hw).1
  have st : Stp B.T G H w δ G (upd H a (.lst us')) w (δ.set i (.ow b (.lst ds'))) := by
    refine .of ⟨fun _ _ h => h, fun x o hx ho => ?_, fun x n hx => .inl (by rw [hx]; exact Option.some_ne_none _), fun _ _ h => .inl h, fun k o hk => ?_⟩ (tabs_put ha)
    · rw [upd_ne (fun z => by subst z; rw [hw] at hx; cases hx)]
      exact ho
    · by_cases e : i = k
      · subst e
        rw [h] at hk
        cases hk
        exact ⟨_, List.getElem?_set_self hi⟩
      · exact ⟨o, by rw [List.getElem?_set_ne e]; exact hk⟩
  refine ⟨st, fun x o hx => ?_, fun x n hx => ?_, by rw [List.length_set]; exact r.len, fun k s hk => ?_, r.tlen, fun j v q hv hq => ?_, st.bs r.bs⟩
  · have : x ≠ a := fun z => by subst z; rw [g0] at hx; cases hx
    rw [upd_ne this]
    exact r.sub x o hx
  · obtain ⟨h1, h2, h3⟩ := r.out x n hx
    by_cases e : x = a
    · subst e
      rw [upd_same]
      exact ⟨h1, Option.some_ne_none _, NoX.lst upd_same⟩
    · rw [upd_ne e]
      exact ⟨h1, h2, noT_upd e h3⟩
  · by_cases e : i = k
    · subst e
      rw [List.getElem?_set_self hi] at hk
      cases hk
      exact ⟨_, hσ, a, us', rfl, hw, upd_same, hd⟩
    · rw [List.getElem?_set_ne e] at hk
      refine (r.sl k s hk).mono (fun _ _ h => h) (fun x u mx hu => ?_) fun x u mx _ => mx
      rw [upd_ne (ne x _ mx (by omega))]
      exact hu
  · refine (r.tm j v q hv hq).mono (fun _ _ h => h) (fun x u mx hu => ?_) fun x u mx _ => mx
    rw [upd_ne (ne x _ mx (by omega))]
    exact hu
end
/-- a method of one's own list: its items, the arguments; what is told, the items then -/
def pMt (f : List PyData → List PyData → (PyData → List PyData → Prop) → Prop) (po : PX) (ps : PL) : PX := fun δ Q => po δ fun ro δ1 => ∃ i b0 ds0, ro = .at i ∧ δ1[i]? = some (.ow b0 (.lst ds0)) ∧ ps δ1 fun rs δ2 => ∃ as δ3 b ds, fzAll δ2 rs = some (as, δ3) ∧ δ3[i]? = some (.ow b (.lst ds)) ∧
  f ds as fun d ds' => Q (.im d) (δ3.set i (.ow b (.lst ds')))
def MtV (K : PySem.W.Frag) (f : List PyData → List PyData → (PyData → List PyData → Prop) → Prop) (r : V → List V → Hp → VK → Prop) : Prop :=
  ∀ (G H : Hp) (a : Addr) (us vs : List V) (ds as : List PyData) (Qp : PyData → List PyData → Prop) (Q : VK), H a = some (.lst us) → DqAll K G us ds → DqAll K G vs as → f ds as Qp → (∀ d ds' v us', Qp d ds' → Dq K G v d → DqAll K G us' ds' → Q v (upd H a (.lst us'))) → r (.ref a) vs H Q
section
variable {X : Cx} {o e : Expr} {es : List Expr} {po : PX} {ps : PL} {name : Str} {apos cpos pos : Pos} {id : String} {r : V → List V → Hp → VK → Prop} {f : List PyData → List PyData → (PyData → List PyData → Prop) → Prop}
theorem mt_go {Q : VK} {σ : St} {G H G1 H1 : Hp} {w w1 : Addr → Option Nat} {δ δ1 : List Sl} {Qp : QE} {x : V} {i : Nat} (hm : MtV X.K f r)
    (k : ∀ r δ' v H' G' w', Qp r δ' → Stp B.T G H w δ G' H' w' δ' → Rep X.K B G' H' σ δ' [v] [r] w' → Q v H') (s1 : Stp B.T G H w δ G1 H1 w1 δ1) {vs : List V} {rs : List R} (rep1 : Rep X.K B G1 H1 σ δ1 vs rs w1) (hx : σ[i]? = some (some x))
    {as : List PyData} {δ3 : List Sl} {b : Bool} {ds : List PyData} (e1 : fzAll δ1 rs = some (as, δ3)) (e2 : δ3[i]? = some (.ow b (.lst ds))) (q : f ds as fun d ds' => Qp (.im d) (δ3.set i (.ow b (.lst ds')))) : r x vs H1 Q := by
  obtain ⟨G2, w2, s2, r2⟩ := rep1.fzs e1
  obtain ⟨a, us, hσ, hw, ha, hd⟩ := r2.own e2
  rw [hx] at hσ
  cases hσ
  refine hm G2 H1 a us vs ds as _ Q ha hd r2.ims q fun d ds' v us' hq hv hu => ?_
  obtain ⟨s3, r3⟩ := r2.wr e2 hx hw ha hu
  exact k _ _ v _ G2 _ hq (((s1.trans s2).trans s3).trans .drop) (r3.ret hv)
theorem je_mt (pa : PlainAttrs "list") (slot : Slot "list" name id) (hty : typeOf (.builtin id) = pure (.type "method_descriptor")) (hm : MtR X id r) (hv : MtV X.K f r) (ho : JE X B o po) (ha : JA X B (e :: es) ps)
    (hbase : attributeBase o name X.env (eval o X.env) = eval o X.env := by rfl)
    (hfew : ((backTo cpos (starEach (e :: es) X.env)).all (fun x => !x.1) && (backToKw cpos (keywordEach [] X.env)).all (fun x => x.1.isSome)
      && decide ((e :: es).length + ([] : List Keyword).length + (if ([] : List Keyword).isEmpty then 0 else 1) < 30)) = true := by rfl)
    (hline : (apos.endLine == cpos.line) = true := by rfl) (hs : starEach (e :: es) X.env = (false, eval e X.env) :: starEach es X.env := by rfl) (hplain : (backTo cpos (starEach es X.env)).any (·.1) = false := by rfl) :
    JE X B (.Call (.Attribute o name apos) (e :: es) [] cpos) (pMt f po ps) := by
  refine PE_wk (pe_bm pa slot hty hm ho ha hbase hfew hline hs hplain) fun σ H Q ⟨G, w, δ, Qp, rep, q, k⟩ => ?_
  refine ⟨G, w, δ, _, rep, q, fun ro δ1 x H1 G1 w1 q1 s1 rep1 => ?_⟩
  obtain ⟨i, b0, ds0, rfl, e0, q1⟩ := q1
  have hx : σ[i]? = some (some x) := rep1.tm 0 x (.at i) rfl rfl
  obtain ⟨a0, us0, hσ0, _, ha0, _⟩ := rep1.own e0
  rw [hx] at hσ0
  cases hσ0
  refine ⟨.inl ⟨rfl, us0, SqL.of ha0⟩, G1, _, δ1, _, rep1.drop, q1, fun rs δ2 vs H2 G2 w2 q2 _ s2 rep2 => ?_⟩
  obtain ⟨as, δ3, b, ds, e1, e2, q2⟩ := q2
  exact mt_go hv k ((s1.trans .drop).trans s2) rep2 hx e1 e2 q2
def mAppend : List PyData → List PyData → (PyData → List PyData → Prop) → Prop
  | ds, [d], k => ds.length < sizeLine ∧ k .none (ds ++ [d])
  | _, _, _ => False
theorem mv_append {K : PySem.W.Frag} : MtV K mAppend rAppend := by
  intro G H a us vs ds as Qp Q ha hu hv q k
  match as, hv, q with
  | [d], .cons h1 .nil, q => exact ⟨a, us, _, rfl, rfl, ha, by rw [dqAll_len hu]; exact q.1, k _ _ _ _ q.2 .non (dqAll_append hu (.cons h1 .nil))⟩
  | [], _, q => exact q.elim
  | _ :: _ :: _, _, q => exact q.elim
/-! ### x[i] = .. -/
end
/-! ### what is walked -/
structure ItD (K : PySem.W.Frag) (G : Hp) (J : It) (ds : List PyData) : Prop where
  go : ∀ G' H' (i : Nat), Same G G' → Same G' H' → i < ds.length → J.go i H'
  yld : ∀ G' H' (i : Nat) x H2, Same G G' → Same G' H' → i < ds.length → J.yld i H' x H2 → ∃ d, ds[i]? = some d ∧ Res K G' H' x H2 d
  stop : ∀ G' H', Same G G' → Same G' H' → J.stop ds.length H'
abbrev PIx := List Sl → (List PyData → List Sl → Prop) → Prop
def LI (K : PySem.W.Frag) (B : Bas) (p : PIx) : TI := fun σ H R => ∃ G w δ Qp, Rep K B G H σ δ [] [] w ∧ p δ Qp ∧ ∀ ds δ' J H' G' w', Qp ds δ' → Stp B.T G H w δ G' H' w' δ' → Rep K B G' H' σ δ' [] [] w' → ItD K G' J ds → R J H'
def JI (X : Cx) (B : Bas) (tg iter : Expr) (p : PIx) : Prop := PI X tg iter (LI X.K B p)
theorem PI_wk {X : Cx} {tg iter : Expr} {t t' : TI} (h : PI X tg iter t) (k : ∀ σ H R, t' σ H R → t σ H R) : PI X tg iter t' := ⟨fun pins s σ H R I q => h.run pins s σ H R I (k σ H R q)⟩
theorem itd_rng {K : PySem.W.Frag} {G : Hp} {a b : Int} : ItD K G (Itr a (b - a).toNat) (rgD a b) where
  go := fun G' H' i _ _ hi => by
    unfold rgD at hi
    rw [List.length_map, List.length_range] at hi
    exact hi
  yld := fun G' H' i x H2 _ _ hi y => by
    obtain ⟨rfl, rfl⟩ := y
    unfold rgD at hi ⊢
    rw [List.length_map, List.length_range] at hi
    exact ⟨.int (a + (i : Nat)), by rw [List.getElem?_map, List.getElem?_range hi]; rfl, .int⟩
  stop := fun G' H' _ _ => by
    unfold rgD
    rw [List.length_map, List.length_range]
    exact Nat.le_refl _
section
variable {X : Cx} {tg l a b : Expr} {pl pa pb : PX} {p pos : Pos}
/-- a list or a tuple -/
def iSeqU (K : PySem.W.Frag) (tl : TE) : TI := fun σ H R => tl σ H fun x H1 => ∃ a, x = .ref a ∧ (((∃ xs, SqL K H1 a xs) ∧ R (Itl K a) H1) ∨ ((∃ xs, SqT K H1 a xs) ∧ R (Itt K a) H1))
theorem pi_seqU {tl : TE} (hl : PE X l tl) : PI X tg l (iSeqU X.K tl) := by
  refine ⟨fun pins s σ H R I h => ?_⟩
  refine thn (hl.run pins s σ H _ I h) fun v s1 ⟨x, H1, I1, r1, q1⟩ => ?_
  obtain ⟨a, e, ⟨⟨xs, hq⟩, q⟩ | ⟨⟨xs, hq⟩, q⟩⟩ := q1
  · subst e
    cases r1
    obtain ⟨its, rv, p, hz⟩ := I1.list hq
    refine wpAny_pyIter_list p.isList ?_
    refine ⟨s1.heap.objs.size, [s1.heap.objs.size], _, _, H1, rfl, I1.kept (t' := s1.toks) fun b o e => Heap.get?_push_of_some _ e, turn_list a _, ⟨_, Heap.get?_push_size _ rfl, rfl, rfl⟩, fun b hb => ?_, q⟩
    have e : b = s1.heap.objs.size := by simpa using hb
    subst e
    exact I1.fpOk (Nat.le_refl _) (I1.hok.fresh (Nat.le_refl _))
  · subst e
    cases r1
    obtain ⟨its, rv, p, hz⟩ := I1.tuple hq
    refine wpAny_pyIter_tuple (show s1.heap.IsTuple a its.toArray from p) ?_
    refine ⟨s1.heap.objs.size, [s1.heap.objs.size], _, _, H1, rfl, I1.kept (t' := s1.toks) fun b o e => Heap.get?_push_of_some _ e, turn_tuple a _, ⟨_, Heap.get?_push_size _ rfl, rfl, rfl⟩, fun b hb => ?_, q⟩
    have e : b = s1.heap.objs.size := by simpa using hb
    subst e
    exact I1.fpOk (Nat.le_refl _) (I1.hok.fresh (Nat.le_refl _))
def iRg (ps : PL) : PIx := fun δ Q => ps δ fun rs δ1 => match dats δ1 rs with
  | some [.int n] => -(2 ^ 62) ≤ n ∧ n < 2 ^ 62 ∧ Q (rgD 0 n) δ1
  | some [.int i, .int j] => (-(2 ^ 62) ≤ i ∧ i < 2 ^ 62 ∧ -(2 ^ 62) ≤ j ∧ j < 2 ^ 62) ∧ Q (rgD i j) δ1
  | _ => False
theorem vws1 {K : PySem.W.Frag} {G H : Hp} {vs : List V} {i : Int} (h : Vws K G H vs [.int i]) : vs = [.int i] := by
  cases h with
  | cons h1 h => cases h; rw [h1.int]
theorem vws_len {K : PySem.W.Frag} {G H : Hp} : ∀ {vs : List V} {ds : List PyData}, Vws K G H vs ds → vs.length = ds.length
  | _, _, .nil => rfl
  | _, _, .cons _ h => congrArg (· + 1) (vws_len h)
theorem ji_rng1 {ps : PL} (hg : Gl X "range") (hm : X.mg "range" = none) (ha : JA X B [a] ps) (hs : starEach [a] X.env = [(false, eval a X.env)] := by rfl) : JI X B tg (.Call (.Name "range" p) [a] [] pos) (iRg ps) := by
  refine PI_wk (pi_range1 hg hm ha hs) fun σ H R ⟨G, w, δ, Qp, rep, q, k⟩ => ?_
  refine ⟨G, w, δ, _, rep, q, fun rs δ1 vs H1 G1 w1 q1 l1 s1 rep1 => ?_⟩
  revert q1
  split
  · rename_i n e
    rintro ⟨b1, b2, q1⟩
    refine ⟨n, vws1 (rep1.vws e), b1, b2, k _ δ1 _ H1 G1 _ q1 (s1.trans .drop) rep1.drop ?_⟩
    have := itd_rng (K := X.K) (G := G1) (a := 0) (b := n)
    rwa [Int.sub_zero] at this
  · rename_i i j e
    intro q1
    have := vws_len (rep1.vws e)
    rw [rep1.tlen, l1] at this
    simp at this
  · intro q1; exact q1.elim
/-! ### for, while -/
/-- the slots ts are forgotten -/
def wp1 : Bool → Sl → Sl
  | true, .ow true o => .ow true o
  | true, _ => .un
  | false, s => s
def wpG (ts : List Nat) : Nat → List Sl → List Sl
  | _, [] => []
  | n, s :: δ => wp1 (ts.elem n) s :: wpG ts (n + 1) δ
def wipeT (δ : List Sl) (ts : List Nat) : List Sl := wpG ts 0 δ
theorem wpG_get (ts : List Nat) : ∀ (δ : List Sl) (n i : Nat), (wpG ts n δ)[i]? = (δ[i]?).map fun s => wp1 (ts.elem (n + i)) s
  | [], n, i => by simp [wpG]
  | s :: δ, n, 0 => by simp [wpG]
  | s :: δ, n, i + 1 => by
    simp only [wpG, List.getElem?_cons_succ, wpG_get ts δ (n + 1) i]
    have : n + 1 + i = n + (i + 1) := by omega
    rw [this]
theorem wpG_len (ts : List Nat) : ∀ (δ : List Sl) (n : Nat), (wpG ts n δ).length = δ.length
  | [], _ => rfl
  | s :: δ, n => by simp only [wpG, List.length_cons, wpG_len ts δ (n + 1)]
theorem wipeT_len (δ : List Sl) (ts : List Nat) : (wipeT δ ts).length = δ.length := wpG_len ts δ 0
theorem wipeT_get {δ : List Sl} {i : Nat} {s : Sl} {ts : List Nat} (h : (wipeT δ ts)[i]? = some s) : s = .un ∨ δ[i]? = some s := by
  unfold wipeT at h
  rw [wpG_get] at h
  obtain ⟨s', h1, rfl⟩ := Option.map_eq_some_iff.mp h
  cases hb : ts.elem (0 + i) with
  | false => exact .inr h1
  | true =>
    cases s' with
    | un => exact .inl rfl
    | im d => exact .inl rfl
    | ex a dd C fs => exact .inl rfl
    | ow b o =>
      cases b with
      | true => exact .inr h1
      | false => exact .inl rfl
theorem wipeT_pin {δ : List Sl} {i : Nat} {o : O} (h : δ[i]? = some (Sl.ow true o)) (ts : List Nat) : (wipeT δ ts)[i]? = some (Sl.ow true o) := by
  unfold wipeT
  rw [wpG_get, h]
  cases hb : ts.elem (0 + i) with
  | false => rfl
  | true => rfl
theorem Rep.wipe {K : PySem.W.Frag} {G H : Hp} {σ : St} {δ : List Sl} {w : Addr → Option Nat} (r : Rep K B G H σ δ [] [] w) (ts : List Nat) : Rep K B G H σ (wipeT δ ts) [] [] w := ⟨r.sub, r.out, by rw [wipeT_len]; exact r.len, fun i s h => by
  rcases wipeT_get h with rfl | h
  · trivial
  · exact r.sl i s h, rfl, fun j v q hv => by simp at hv, r.bs⟩
theorem Stp.wipe {G H G' H' : Hp} {w w' : Addr → Option Nat} {δ δ' : List Sl} (s : Stp B.T G H w δ G' H' w' δ') (ts : List Nat) : Stp B.T G H w δ G' H' w' (wipeT δ' ts) := ⟨s.g, s.b, s.n, s.p, fun i o h => by
  obtain ⟨o', h'⟩ := s.pn i o h
  exact ⟨o', wipeT_pin h' ts⟩, s.t, s.q⟩
/-- turn by turn, by a word I; ts: the slots that no later turn reads -/
def loopI (step : PyData → PSx) (ts : List Nat) (E : PEn) (ds : List PyData) (δ : List Sl) : Prop := ∃ I : Nat → List Sl → Prop, I 0 δ ∧
  (∀ (i : Nat) d δ, ds[i]? = some d → I i δ → step d ⟨fun δ' => I (i + 1) (wipeT δ' ts), E.rt, fun δ' => E.nx (wipeT δ' ts), fun δ' => I (i + 1) (wipeT δ' ts)⟩ δ) ∧ ∀ δ, I ds.length δ → E.nx δ
def pFor (ts : List Nat) (it : PIx) (g : PGx) (body : PSx) : PSx := fun E δ => it δ fun ds δ1 => loopI (fun d E δ => g d δ fun δ' => body E δ') ts E ds (wipeT δ1 ts)
theorem Rep.res {K : PySem.W.Frag} {G H H2 : Hp} {σ : St} {δ : List Sl} {vs : List V} {rs : List R} {w : Addr → Option Nat} {x : V} {d : PyData} (r : Rep K B G H σ δ vs rs w) (h : Res K G H x H2 d) : ∃ G2, Stp B.T G H w δ G2 H2 w δ ∧ Rep K B G2 H2 σ δ vs rs w ∧ Dq K G2 x d := by
  rcases h with ⟨rfl, h⟩ | ⟨p, us, l, rfl, hp, rfl, hd, rfl⟩
  · exact ⟨G, .refl, r, h⟩
  · obtain ⟨s1, r1⟩ := r.lay (o := .tup us) hp
    exact ⟨_, s1, r1, dq_newTup r.sub hp hd⟩
theorem js_for {iter : Expr} {body : List Stmt} {pi : PIx} {ts ts' : List Nat} {g : PGx} {pb : PSx} (hp : PassesOwn (model X.prog X.w) X.A X.env X.xe) (hc : X.calm = true) (hi : JI X B tg iter pi) (hg : JG X B tg ts' g) (hb : JSs X B body pb)
    (hs : ∀ x, foldedSetIterable iter X.env x = pure x := by intro _; rfl) : JS X B (.For tg iter body [] pos) (pFor ts pi g pb) := by
  refine PS_wk (ps_for hp hc hi hg hb (by assumption)) fun D σ H ⟨G, w, δ, E, rep, h, ek⟩ => ?_
  refine ⟨G, w, δ, _, rep, h, fun ds δ1 J H1 G1 w1 q1 s1 rep1 itd => ?_⟩
  obtain ⟨I, i0, is, ie⟩ := q1
  refine ⟨fun i m σ' H' => m = ds.length - i ∧ i ≤ ds.length ∧ ∃ G' w' δ', Stp B.T G H w δ G' H' w' δ' ∧ Same G1 G' ∧ Rep X.K B G' H' σ' δ' [] [] w' ∧ Pin σ δ σ' ∧ I i δ', ⟨ds.length, rfl, Nat.zero_le _, G1, w1, _, s1.wipe ts, fun _ _ h => h, rep1.wipe ts, .refl, i0⟩, ?_⟩
  rintro i m σ' H' ⟨rfl, hi, G', w', δ', st, sg, rp, pn, q⟩
  by_cases hlt : i < ds.length
  · have q := is i _ δ' (List.getElem?_eq_getElem hlt) q
    refine .inr ⟨itd.go G' H' i sg rp.sub hlt, fun σ2 H2 => i + 1 ≤ ds.length ∧ ∃ G' w' δ', Stp B.T G H w δ G' H2 w' δ' ∧ Same G1 G' ∧ Rep X.K B G' H2 σ2 δ' [] [] w' ∧ Pin σ δ σ2 ∧ I (i + 1) δ', fun σ2 H2 z => ⟨ds.length - (i + 1), by omega, rfl, z⟩, fun x H2 y => ?_⟩
    obtain ⟨d, hd, res⟩ := itd.yld G' H' i x H2 sg rp.sub hlt y
    rw [List.getElem?_eq_getElem hlt] at hd
    cases hd
    obtain ⟨G2, s2, r2, hq⟩ := rp.res res
    refine ⟨G2, w', δ', _, _, r2, hq, q, fun δ3 σ3 H3 G3 w3 q3 s3 r3 p3 _ => ⟨G3, w3, δ3, _, r3, q3, ?_⟩⟩
    have st3 := (st.trans s2).trans s3
    have pn3 : Pin σ δ σ3 := pn.trans (st.trans s2).pn p3
    have nx : ∀ δ4 σ4 H4 G4 w4, I (i + 1) (wipeT δ4 ts) → Stp B.T G3 H3 w3 δ3 G4 H4 w4 δ4 → Rep X.K B G4 H4 σ4 δ4 [] [] w4 → Pin σ3 δ3 σ4 → i + 1 ≤ ds.length ∧ ∃ G' w' δ', Stp B.T G H w δ G' H4 w' δ' ∧ Same G1 G' ∧ Rep X.K B G' H4 σ4 δ' [] [] w' ∧ Pin σ δ σ4 ∧ I (i + 1) δ' :=
      fun δ4 σ4 H4 G4 w4 hl s4 r4 p4 => ⟨hlt, G4, w4, _, (st3.trans s4).wipe ts, fun a o ha => s4.g a o (s3.g a o (s2.g a o (sg a o ha))), r4.wipe ts, pn3.trans st3.pn p4, hl⟩
    exact ⟨nx, (ek.later st3 pn3).rt, fun δ4 σ4 H4 G4 w4 hl s4 r4 p4 => ek.nx _ σ4 H4 G4 w4 hl ((st3.trans s4).wipe ts) (r4.wipe ts) (pn3.trans st3.pn p4), nx⟩
  · have ei : i = ds.length := by omega
    subst ei
    exact .inl ⟨itd.stop G' H' sg rp.sub, ek.nx δ' σ' H' G' w' (ie δ' q) st rp pn⟩
end
end Pv
namespace Pv
open PySem PySem.Spec L2 Wf
variable {B : Bas}
theorem RR.noAt {K : PySem.W.Frag} {G H : Hp} {σ σ' : St} {m : Addr → Prop} {v : V} {r : R} (h : RR K G H σ m v r) (n : isAt r = false) : RR K G H σ' m v r := by
  cases r with
  | im d => exact h
  | ow o => exact h
  | «at» i => cases n
theorem Rep.reσ {K : PySem.W.Frag} {G H : Hp} {σ σ' : St} {δ δ' : List Sl} {vs : List V} {rs : List R} {w : Addr → Option Nat} (r : Rep K B G H σ δ vs rs w) (hl : σ'.length = δ'.length) (hs : ∀ (i : Nat) s, δ'[i]? = some s → s = .un ∨ (δ[i]? = some s ∧ σ'[i]? = σ[i]?)) (hn : ∀ q ∈ rs, isAt q = false) : Rep K B G H σ' δ' vs rs w where
  sub := r.sub
  out := r.out
  len := hl
  sl := fun i s h => by
    rcases hs i s h with rfl | ⟨h1, h2⟩
    · trivial
    · rw [h2]; exact r.sl i s h1
  tlen := r.tlen
  tm := fun j v q hv hq => (r.tm j v q hv hq).noAt (hn q (List.mem_of_getElem? hq))
  bs := r.bs
/-- the frame where slots were stored to -/
theorem Rep.frameS {K : PySem.W.Frag} {G H G' H' : Hp} {σ σ' : St} {δ δ' : List Sl} {vs vs1 : List V} {rs rs1 : List R} {w w' : Addr → Option Nat} (r : Rep K B G H σ δ vs rs w) (hn : ∀ q ∈ rs, isAt q = false) (s : Stp B.T G H (fun a => evn (w a)) δ G' H' w' δ') (r' : Rep K B G' H' σ' δ' vs1 rs1 w') :
    ∃ w2, Stp B.T G H w δ G' H' w2 δ' ∧ Rep K B G' H' σ' δ' (vs ++ vs1) (rs ++ rs1) w2 := by
  -- the same addresses
  have odd : ∀ a n, w a = some n → n % 2 = 1 → w' a = none := fun a n h ho => by
    have e0 : evn (w a) = none := by
      cases e : evn (w a) with
      | none => rfl
      | some m =>
        have := evn_some.mp e
        rw [h] at this
        have z := this.1
        cases z
        omega
    obtain ⟨g0, h0, n0⟩ := r.out a n h
    cases e : w' a with
    | none => rfl
    | some i =>
      rcases s.n a i e with z | z
      · exact absurd e0 z
      · exact absurd z h0
  have evw : ∀ a i, w' a = some i → ∀ n, w a = some n → n % 2 = 0 := fun a i h n hn => by
    by_cases ho : n % 2 = 1
    · rw [odd a n hn ho] at h; cases h
    · omega
  have st : Stp B.T G H w δ G' H' (both rs.length w w') δ' := by
    refine ⟨s.g, fun a o hw ha => s.b a o (by show evn (w a) = none; rw [hw]; rfl) ha, fun a i h => ?_, fun a o h => ?_, s.pn, s.t, s.q⟩
    · cases e : w a with
      | some n => exact .inl (Option.some_ne_none _)
      | none =>
        have e1 : both rs.length w w' a = shf rs.length (w' a) := both_evn fun n hn => by rw [e] at hn; cases hn
        rw [e1] at h
        obtain ⟨m, hm, _⟩ := shf_some h
        rcases s.n a m hm with z | z
        · have z' := evn_ne z
          rw [e] at z'
          exact .inl z'
        · exact .inr z
    · rcases s.p a o h with z | z | z | z
      · exact .inl z
      · exact .inr (.inl z)
      · exact .inr (.inr (.inl (evn_ne z)))
      · exact .inr (.inr (.inr z))
  refine ⟨both rs.length w w', st, r'.sub, fun a i h => ?_, r'.len, fun i sl h => ?_, by rw [List.length_append, List.length_append, r.tlen, r'.tlen], fun j v q hv hr => ?_, st.bs r.bs⟩
  · by_cases ho : ∃ n, w a = some n ∧ n % 2 = 1
    · obtain ⟨n, hn', ho⟩ := ho
      have e0 : evn (w a) = none := by
        rw [hn']
        unfold evn
        dsimp only
        rw [if_neg (by omega)]
      obtain ⟨g0, h0, n0⟩ := r.out a n hn'
      refine ⟨?_, s.nn a e0 h0 n0⟩
      cases e3 : G' a with
      | none => rfl
      | some o =>
        rcases s.p a o e3 with z | z | z | ⟨xs, z⟩
        · rw [g0] at z; cases z
        · exact absurd z h0
        · exact absurd e0 z
        · exact absurd z (n0 xs)
    · have e1 : both rs.length w w' a = shf rs.length (w' a) := both_evn fun n hn => by
        by_cases z : n % 2 = 1
        · exact absurd ⟨n, hn, z⟩ ho
        · omega
      rw [e1] at h
      obtain ⟨m, hm, _⟩ := shf_some h
      exact r'.out a m hm
  · refine (r'.sl i sl h).mono (fun _ _ h => h) (fun _ _ _ h => h) fun a u ma _ => ?_
    rw [both_evn (evw a _ ma)]
    unfold shf
    rw [ma]
    dsimp only
    rw [if_pos (by omega)]
  · by_cases hj : j < vs.length
    · rw [List.getElem?_append_left hj] at hv
      rw [List.getElem?_append_left (by rw [← r.tlen]; exact hj)] at hr
      refine ((r.tm j v q hv hr).noAt (σ' := σ') (hn q (List.mem_of_getElem? hr))).monoN s.g (fun a u hnt ma hu => ?_) fun a u ma _ => both_odd ma (by omega)
      refine s.bN a u hnt ?_ hu
      show evn (w a) = none
      rw [ma]
      unfold evn
      dsimp only
      rw [if_neg (by omega)]
    · have hj : vs.length ≤ j := by omega
      rw [List.getElem?_append_right hj] at hv
      rw [List.getElem?_append_right (by rw [← r.tlen]; exact hj), ← r.tlen] at hr
      refine (r'.tm (j - vs.length) v q hv hr).mono (fun _ _ h => h) (fun _ _ _ h => h) fun a u ma _ => ?_
      rw [both_evn (evw a _ ma)]
      unfold shf
      rw [ma]
      dsimp only
      rw [if_neg (by omega), r.tlen.symm]
      congr 1
      omega
/-! ### comprehensions -/
def wipeS (δ : List Sl) : List Nat → List Sl
  | [] => δ
  | v :: vs => (wipeS δ vs).set v .un
def noPin (δ : List Sl) (vs : List Nat) : Prop := ∀ v ∈ vs, ∀ o, δ[v]? ≠ some (.ow true o)
def restS (δ0 δ : List Sl) : List Nat → List Sl
  | [] => δ
  | v :: vs => match δ0[v]? with
    | some (.im d) => (restS δ0 δ vs).set v (.im d)
    | _ => (restS δ0 δ vs).set v .un
theorem wipeS_len (δ : List Sl) : ∀ vs, (wipeS δ vs).length = δ.length
  | [] => rfl
  | v :: vs => by unfold wipeS; rw [List.length_set, wipeS_len δ vs]
theorem wipeS_get {δ : List Sl} {i : Nat} {s : Sl} : ∀ {vs : List Nat}, (wipeS δ vs)[i]? = some s → s = .un ∨ (δ[i]? = some s ∧ i ∉ vs)
  | [], h => .inr ⟨h, by simp⟩
  | v :: vs, h => by
    unfold wipeS at h
    by_cases hi : v = i
    · subst hi
      by_cases hv : v < (wipeS δ vs).length
      · rw [List.getElem?_set_self hv] at h; cases h; exact .inl rfl
      · rw [List.getElem?_eq_none (by simpa using hv)] at h; cases h
    · rw [List.getElem?_set_ne hi] at h
      rcases wipeS_get h with e | ⟨h1, h2⟩
      · exact .inl e
      · exact .inr ⟨h1, by simp only [List.mem_cons, not_or]; exact ⟨fun e => hi e.symm, h2⟩⟩
theorem wipeS_ne {δ : List Sl} {i : Nat} : ∀ {vs : List Nat}, i ∉ vs → (wipeS δ vs)[i]? = δ[i]?
  | [], _ => rfl
  | v :: vs, h => by
    simp only [List.mem_cons, not_or] at h
    unfold wipeS
    rw [List.getElem?_set_ne (Ne.symm h.1)]
    exact wipeS_ne h.2
theorem wipe_ne {σ : St} {i : Nat} : ∀ {vs : List Nat}, i ∉ vs → (wipe σ vs)[i]? = σ[i]?
  | [], _ => rfl
  | v :: vs, h => by
    simp only [List.mem_cons, not_or] at h
    unfold wipe
    rw [List.getElem?_set_ne (Ne.symm h.1)]
    exact wipe_ne h.2
theorem wipe_in {σ : St} {i : Nat} : ∀ {vs : List Nat}, i ∈ vs → i < σ.length → (wipe σ vs)[i]? = some none
  | [], h, _ => by cases h
  | v :: vs, h, hl => by
    unfold wipe
    by_cases e : v = i
    · subst e
      rw [List.getElem?_set_self (by rw [wipe_length]; exact hl)]
    · rw [List.getElem?_set_ne e]
      rcases List.mem_cons.mp h with z | z
      · exact absurd z.symm e
      · exact wipe_in z hl
theorem wipe_eq {σ σ' : St} {vs ts : List Nat} (t : Tch ts (wipe σ vs) σ') (h : ∀ i ∈ ts, i ∈ vs) : wipe σ' vs = wipe σ vs := by
  have hl : σ'.length = σ.length := by rw [t.1, wipe_length]
  apply List.ext_getElem?
  intro i
  by_cases hi : i ∈ vs
  · by_cases hb : i < σ.length
    · rw [wipe_in hi hb, wipe_in hi (by omega)]
    · rw [List.getElem?_eq_none (by rw [wipe_length]; omega), List.getElem?_eq_none (by rw [wipe_length]; omega)]
  · rw [wipe_ne hi, wipe_ne hi, t.2 i fun z => hi (h i z), wipe_ne hi]
theorem restS_ne {δ0 δ : List Sl} {i : Nat} : ∀ {vs : List Nat}, i ∉ vs → (restS δ0 δ vs)[i]? = δ[i]?
  | [], _ => rfl
  | v :: vs, h => by
    simp only [List.mem_cons, not_or] at h
    unfold restS
    split
    · rw [List.getElem?_set_ne (Ne.symm h.1)]; exact restS_ne h.2
    · rw [List.getElem?_set_ne (Ne.symm h.1)]; exact restS_ne h.2
theorem restS_len {δ0 δ : List Sl} : ∀ vs, (restS δ0 δ vs).length = δ.length
  | [] => rfl
  | v :: vs => by
    unfold restS
    split
    · rw [List.length_set, restS_len vs]
    · rw [List.length_set, restS_len vs]
theorem restS_in {δ0 δ : List Sl} {i : Nat} {s : Sl} : ∀ {vs : List Nat}, i ∈ vs → (restS δ0 δ vs)[i]? = some s → s = .un ∨ ∃ d, s = .im d ∧ δ0[i]? = some (.im d)
  | [], h, _ => by cases h
  | v :: vs, h, hs => by
    unfold restS at hs
    by_cases e : v = i
    · subst e
      revert hs
      split
      · rename_i d e0
        intro hs
        by_cases hb : v < (restS δ0 δ vs).length
        · rw [List.getElem?_set_self hb] at hs; cases hs; exact .inr ⟨d, rfl, e0⟩
        · rw [List.getElem?_eq_none (by simpa using hb)] at hs; cases hs
      · intro hs
        by_cases hb : v < (restS δ0 δ vs).length
        · rw [List.getElem?_set_self hb] at hs; cases hs; exact .inl rfl
        · rw [List.getElem?_eq_none (by simpa using hb)] at hs; cases hs
    · have hm : i ∈ vs := by
        rcases List.mem_cons.mp h with z | z
        · exact absurd z.symm e
        · exact z
      revert hs
      split
      · intro hs; rw [List.getElem?_set_ne e] at hs; exact restS_in hm hs
      · intro hs; rw [List.getElem?_set_ne e] at hs; exact restS_in hm hs
/-- turn by turn, by a word I over what is made so far -/
def compI (g : PGx) (tt : PB) (elt : PX) (vs : List Nat) (Kk : List PyData → List Sl → Prop) (ds : List PyData) (δ : List Sl) : Prop := ∃ I : Nat → List PyData → List Sl → Prop, I 0 [] δ ∧
  (∀ (i : Nat) d acc δ, ds[i]? = some d → I i acc δ → g d δ fun δ2 => tt δ2 fun b δ3 => if b = true then elt δ3 fun r δ4 => ∃ e δ5, fz δ4 r = some (e, δ5) ∧ acc.length < sizeLine ∧ I (i + 1) (acc ++ [e]) (wipeS δ5 vs) else I (i + 1) acc (wipeS δ3 vs)) ∧ ∀ acc δ, I ds.length acc δ → Kk acc δ
def pComp (it : PIx) (g : PGx) (tt : PB) (elt : PX) (vs : List Nat) : PX := fun δ Q => it δ fun ds δ1 => noPin δ1 vs ∧ compI g tt elt vs (fun acc δ2 => Q (.ow (.lst acc)) (restS δ1 δ2 vs)) ds (wipeS δ1 vs)
def pYes : PB := fun δ Q => Q true δ
theorem Stp.reδ {G H G' H' : Hp} {w w' : Addr → Option Nat} {δ δ' δ2 : List Sl} (s : Stp B.T G H w δ G' H' w' δ') (p : Pn δ δ2) : Stp B.T G H w δ G' H' w' δ2 := ⟨s.g, s.b, s.n, s.p, p, s.t, s.q⟩
section
variable {K : PySem.W.Frag} {G H : Hp} {σ : St} {δ : List Sl} {vs : List V} {rs : List R} {w : Addr → Option Nat}
theorem Rep.wrT {D : Addr} {ds ds' : List PyData} {us' : List V} (r : Rep K B G H σ δ (.ref D :: vs) (.ow (.lst ds) :: rs) w) (hd : DqAll K G us' ds') :
    ∃ us, H D = some (.lst us) ∧ DqAll K G us ds ∧ Stp B.T G H w δ G (upd H D (.lst us')) w δ ∧ Rep K B G (upd H D (.lst us')) σ δ (.ref D :: vs) (.ow (.lst ds') :: rs) w := by
  obtain ⟨a, us, e, ma, ha, hus⟩ := r.tm 0 _ _ rfl rfl
  cases e
  have hw : w D = some 1 := ma
  have ne : ∀ x n, w x = some n → n ≠ 1 → x ≠ D := fun x n hx hn z => by subst z; rw [hw] at hx; cases hx; exact hn rfl
  have g0 := (r.out D _ hw).1
  have st : Stp B.T G H w δ G (upd H D (.lst us')) w δ := by
    refine .of ⟨fun _ _ h => h, fun x o hx ho => ?_, fun x n hx => .inl (by rw [hx]; exact Option.some_ne_none _), fun _ _ h => .inl h, .refl _⟩ (tabs_put ha)
    rw [upd_ne (fun z => by subst z; rw [hw] at hx; cases hx)]
    exact ho
  refine ⟨us, ha, hus, st, fun x o hx => ?_, fun x n hx => ?_, r.len, fun k s hk => ?_, r.tlen, fun j v q hv hq => ?_, st.bs r.bs⟩
  · have : x ≠ D := fun z => by subst z; rw [g0] at hx; cases hx
    rw [upd_ne this]
    exact r.sub x o hx
  · obtain ⟨h1, h2, h3⟩ := r.out x n hx
    by_cases e : x = D
    · subst e
      rw [upd_same]
      exact ⟨h1, Option.some_ne_none _, NoX.lst upd_same⟩
    · rw [upd_ne e]
      exact ⟨h1, h2, noT_upd e h3⟩
  · refine (r.sl k s hk).mono (fun _ _ h => h) (fun x u mx hu => ?_) fun x u mx _ => mx
    rw [upd_ne (ne x _ mx (by omega))]
    exact hu
  · match j with
    | 0 =>
      simp only [List.getElem?_cons_zero, Option.some.injEq] at hv hq
      subst hv hq
      exact ⟨D, us', rfl, hw, upd_same, hd⟩
    | j + 1 =>
      refine (r.tm (j + 1) v q (by simpa using hv) (by simpa using hq)).mono (fun _ _ h => h) (fun x u mx hu => ?_) fun x u mx _ => mx
      rw [upd_ne (ne x _ mx (by omega))]
      exact hu
theorem Rep.first {v : V} {q : R} (r : Rep K B G H σ δ (v :: vs) (q :: rs) w) : Rep K B G H σ δ [v] [q] w := ⟨r.sub, r.out, r.len, r.sl, rfl, fun j u p hu hp => by
  match j with
  | 0 => exact r.tm 0 u p (by simpa using hu) (by simpa using hp)
  | j + 1 => simp at hu, r.bs⟩
end
def JTs (X : Cx) (B : Bas) (ifs : List Expr) (p : PB) : Prop := PTs X ifs (LB X.K B p)
theorem PTs_wk {X : Cx} {ifs : List Expr} {t t' : TT} (h : PTs X ifs t) (k : ∀ σ H Q, t' σ H Q → t σ H Q) : PTs X ifs t' := ⟨fun pins s σ H Q I q => h.run pins s σ H Q I (k σ H Q q)⟩
theorem jts_nil {X : Cx} : JTs X B [] pYes := PTs_wk pts_nil fun σ H Q ⟨G, w, δ, Qp, rep, q, k⟩ => k true δ H G w q .refl rep
theorem lc_lift {K : PySem.W.Frag} {pi : PIx} {ts vs : List Nat} {g : PGx} {tt : PB} {elt : PX} {σ : St} {H : Hp} {Q : VK} (hts : ∀ i ∈ ts, i ∈ vs) (h : LE K B (pComp pi g tt elt vs) σ H Q) : tLc (LI K B pi) (LG K B ts g) (LB K B tt) (LE K B elt) vs σ H Q := by
  obtain ⟨G, w, δ, Qp, rep, q, k⟩ := h
  refine ⟨G, w, δ, _, rep, q, fun ds δ1 J H1 G1 w1 q1 s1 rep1 itd D hD => ?_⟩
  obtain ⟨np, I, i0, is, ie⟩ := q1
  obtain ⟨w2, s2, r2⟩ := rep1.retLst (us := []) (ds := []) hD .nil
  have noA : ∀ acc : List PyData, ∀ p ∈ [R.ow (.lst acc)], isAt p = false := fun acc p hp => by rw [List.mem_singleton.mp hp]; rfl
  have ni : ∀ (i : Nat) o, δ[i]? = some (Sl.ow true o) → i ∉ vs := fun i o hi => by
    obtain ⟨o1, h1⟩ := s1.pn i o hi
    exact fun z => np i z o1 h1
  have pnw : ∀ {G' H' : Hp} {w' : Addr → Option Nat} {δ' : List Sl}, Stp B.T G H w δ G' H' w' δ' → Stp B.T G H w δ G' H' w' (wipeS δ' vs) := fun s => s.reδ fun i o hi => by
    obtain ⟨o1, h1⟩ := s.pn i o hi
    exact ⟨o1, by rw [wipeS_ne (ni i o hi)]; exact h1⟩
  refine ⟨fun i m H' => m = ds.length - i ∧ i ≤ ds.length ∧ ∃ G' w' δ' acc, Stp B.T G H w δ G' H' w' δ' ∧ Same G1 G' ∧ Rep K B G' H' (wipe σ vs) δ' [.ref D] [.ow (.lst acc)] w' ∧ I i acc δ', ⟨ds.length, rfl, Nat.zero_le _, G1, w2, wipeS δ1 vs, [], pnw (s1.trans s2), fun _ _ h => h, r2.reσ (by rw [wipe_length, wipeS_len]; exact r2.len) (fun i s hi => ?_) (noA _), i0⟩, ?_⟩
  · rcases wipeS_get hi with e | ⟨e1, e2⟩
    · exact .inl e
    · exact .inr ⟨e1, wipe_ne e2⟩
  rintro i m H' ⟨rfl, hi, G', w', δ', acc, st, sg, rp, q⟩
  by_cases hlt : i < ds.length
  · have q := is i _ acc δ' (List.getElem?_eq_getElem hlt) q
    refine .inr ⟨itd.go G' H' i sg rp.sub hlt, fun H2 => i + 1 ≤ ds.length ∧ ∃ G' w' δ' acc, Stp B.T G H w δ G' H2 w' δ' ∧ Same G1 G' ∧ Rep K B G' H2 (wipe σ vs) δ' [.ref D] [.ow (.lst acc)] w' ∧ I (i + 1) acc δ', fun H2 z => ⟨ds.length - (i + 1), by omega, rfl, z⟩, fun x H2 y => ?_⟩
    obtain ⟨d, hd, res⟩ := itd.yld G' H' i x H2 sg rp.sub hlt y
    rw [List.getElem?_eq_getElem hlt] at hd
    cases hd
    obtain ⟨G2, s2, r2, hq⟩ := rp.res res
    refine ⟨G2, _, δ', _, _, r2.drop, hq, q, fun δ3 σ3 H3 G3 w3 q3 s3 r3 p3 t3 => ⟨wipe_eq t3 hts, ?_⟩⟩
    obtain ⟨w4, s4, r4⟩ := r2.frameS (noA _) s3 r3
    have back : ∀ {G9 H9 : Hp} {w9 : Addr → Option Nat} {δ9 : List Sl} {acc9 : List PyData}, Rep K B G9 H9 σ3 δ9 [.ref D] [.ow (.lst acc9)] w9 → Rep K B G9 H9 (wipe σ vs) (wipeS δ9 vs) [.ref D] [.ow (.lst acc9)] w9 := fun {G9 H9 w9 δ9 acc9} r9 => by
      refine r9.reσ ?_ (fun k s hk => ?_) (noA _)
      · rw [wipe_length, wipeS_len, ← r9.len, t3.1, wipe_length]
      · rcases wipeS_get hk with e | ⟨e1, e2⟩
        · exact .inl e
        · exact .inr ⟨e1, (t3.2 k fun z => e2 (hts k z)).symm⟩
    refine ⟨G3, _, δ3, _, r4.drop, q3, fun b δ5 H5 G5 w5 q5 s5 r5 => ?_⟩
    obtain ⟨w6, s6, r6⟩ := r4.frame s5 r5
    have st6 := ((st.trans s2).trans s4).trans s6
    have sg6 : Same G1 G5 := fun a o ha => s6.g a o (s4.g a o (s2.g a o (sg a o ha)))
    cases b with
    | false => exact ⟨hlt, G5, w6, _, acc, pnw st6, sg6, back r6, q5⟩
    | true =>
      refine ⟨G5, _, δ5, _, r6.drop, q5, fun r δ7 y H7 G7 w7 q7 s7 r7 => ?_⟩
      obtain ⟨w8, s8, r8⟩ := r6.frame s7 r7
      obtain ⟨e, δ9, hz, hl, q7⟩ := q7
      obtain ⟨G9, w9, s9, r9⟩ := r8.fz1 (j := 1) rfl rfl hz
      have r9' : Rep K B G9 H7 σ3 δ9 [.ref D, y] [.ow (.lst acc), .im e] w9 := r9
      have hy : Dq K G9 y e := r9'.tm 1 y (.im e) rfl rfl
      obtain ⟨a, us, ea, ma, ha, hus⟩ := r9'.tm 0 (.ref D) (.ow (.lst acc)) rfl rfl
      cases ea
      obtain ⟨us2, h2, h3, s10, r10⟩ := r9'.wrT (dqAll_append hus (.cons hy .nil))
      refine ⟨us, ha, by rw [dqAll_len hus]; exact hl, hlt, G9, w9, _, acc ++ [e], pnw (((st6.trans s8).trans s9).trans s10), fun a o h => s9.g a o (s8.g a o (sg6 a o h)), back r10.first, q7⟩
  · have ei : i = ds.length := by omega
    subst ei
    refine .inl ⟨itd.stop G' H' sg rp.sub, k _ _ _ H' G' w' (ie acc δ' q) (st.reδ fun j o hj => ?_) ⟨rp.sub, rp.out, by rw [restS_len, ← rp.len, wipe_length], fun j s hj => ?_, rp.tlen, fun j v p hv hp => (rp.tm j v p hv hp).noAt (noA _ p (List.mem_of_getElem? hp)), rp.bs⟩⟩
    · obtain ⟨o1, h1⟩ := st.pn j o hj
      exact ⟨o1, by rw [restS_ne (ni j o hj)]; exact h1⟩
    · by_cases hm : j ∈ vs
      · rcases restS_in hm hj with rfl | ⟨d, rfl, e0⟩
        · trivial
        · obtain ⟨v, hv, hd⟩ := rep1.sl j _ e0
          exact ⟨v, hv, dp_mono sg _ _ hd⟩
      · rw [restS_ne hm] at hj
        have := rp.sl j s hj
        rwa [wipe_ne hm] at this
section
variable {X : Cx}
theorem je_lc {elt tg iter : Expr} {ifs : List Expr} {scope : Scope} {own : List (Str × Nat)} {pos : Pos} {pi : PIx} {ts : List Nat} {g : PGx} {tt : PB} {pe : PX} (hc : X.calm = true) (hN : X.N.Nodup) (hi : JI X B tg iter pi) (ok : BlkOk X.N X.env.scope scope own)
    (hg : ∀ (s : Shared) (H : Hp) (C : Addr) (cl : List (Str × Addr)) (fp : List Addr), JG (X.blk s H scope (compEnvC scope cl C X.env) fp) B tg ts g) (ht : ∀ (s : Shared) (H : Hp) (C : Addr) (cl : List (Str × Addr)) (fp : List Addr), JTs (X.blk s H scope (compEnvC scope cl C X.env) fp) B ifs tt)
    (he : ∀ (s : Shared) (H : Hp) (C : Addr) (cl : List (Str × Addr)) (fp : List Addr), JE (X.blk s H scope (compEnvC scope cl C X.env) fp) B elt pe) (hts : ∀ i ∈ ts, i ∈ own.map (·.2) := by decide) (hs : ∀ x, foldedSetIterable iter X.env x = pure x := by intro _; rfl) :
    JE X B (.ListComp elt [⟨tg, iter, ifs, 0⟩] scope pos) (pComp pi g tt pe (own.map (·.2))) := PE_wk (pe_lc (g := LG X.K B ts g) (tt := LB X.K B tt) (te := LE X.K B pe) hc hN hi ok hg ht he hs) fun σ H Q h => lc_lift hts h
end
end Pv
namespace Pv
open PySem PySem.Spec L2 Wf
variable {B : Bas}
/-! ### defs -/
abbrev EX := Addr → List (Str × PyData) → Prop
/-- what a def does: its arguments (data, or a thing of the caller's), what is told and how these things stand then; what is raised -/
abbrev PSp := List Sl → QE → EX → Prop
/-- no tables -/
def nTb : Option HO → Option HO
  | some (.tbl _) => none
  | o => o
theorem nTb_some {x : Option HO} {o : HO} (h : nTb x = some o) : x = some o ∧ NT o := by
  cases x with
  | none => cases h
  | some u => cases u <;> first | (cases h; done) | exact ⟨h, fun ps z => by subst z; cases h⟩
theorem nTb_of {x : Option HO} {o : HO} (h : x = some o) (n : NT o) : nTb x = some o := by
  subst h
  cases o <;> first | rfl | exact absurd rfl (n _)
def B0h (H : Hp) (w : Addr → Option Nat) : Hp := fun a => match w a with
  | none => nTb (H a)
  | some _ => none
def B0 (T : List NdefX.NTab) (H : Hp) (w : Addr → Option Nat) : Bas := ⟨B0h H w, H, T⟩
theorem B0_some {T : List NdefX.NTab} {H : Hp} {w : Addr → Option Nat} {a : Addr} {o : HO} (h : B0 T H w a = some o) : H a = some o ∧ w a = none ∧ NT o := by
  have h : B0h H w a = some o := h
  unfold B0h at h
  split at h
  · rename_i e
    obtain ⟨h1, h2⟩ := nTb_some h
    exact ⟨h1, e, h2⟩
  · cases h
/-- an error's fields, as they stand -/
inductive FlP (K : PySem.W.Frag) (H : Hp) : List (Str × V) → List (Str × PyData) → Prop
  | nil : FlP K H [] []
  | cons {x : Str} {v : V} {d : PyData} {us : List (Str × V)} {fs : List (Str × PyData)} : Dp K H v d → noL d = true → FlP K H us fs → FlP K H ((x, v) :: us) ((x, d) :: fs)
/-- what is wanted of an error that leaves -/
def XOk (K : PySem.W.Frag) (B : Bas) (Ep : EX) (E : XK) : Prop := ∀ C fs us d H', Ep C fs → Same B.hp H' → TbG B.T B.ht H' → B d = none → H' d = some (.xd us) → FlP K H' us fs → E (.ref C) (some d) H'
def LSp (K : PySem.W.Frag) (T : List NdefX.NTab) (ps : PSp) : Sp := fun vs H Q E => ∃ G w as Qp Ep, Rep K (B0 T H w) G H (vs.map some) as [] [] w ∧ (∀ s ∈ as, s = .un ∨ (∃ d, s = .im d) ∨ ∃ o, s = .ow true o) ∧ ps as Qp Ep ∧
  (∀ r δ' v H' G' w', Qp r δ' → isAt r = false → Stp T G H w as G' H' w' δ' → Rep K (B0 T H w) G' H' (vs.map some) δ' [v] [r] w' → Q v H') ∧ XOk K (B0 T H w) Ep E
def outs : List Sl → List Sl → List Sl
  | [], _ => []
  | .ow true _ :: as, d :: ds => d :: outs as ds
  | _ :: as, _ :: ds => .un :: outs as ds
  | _ :: as, [] => .un :: outs as []
theorem outs_len : ∀ (as ds : List Sl), (outs as ds).length = as.length
  | [], _ => rfl
  | .ow true _ :: as, d :: ds => by simp only [outs, List.length_cons, outs_len as ds]
  | .ow false _ :: as, d :: ds => by simp only [outs, List.length_cons, outs_len as ds]
  | .un :: as, d :: ds => by simp only [outs, List.length_cons, outs_len as ds]
  | .im _ :: as, d :: ds => by simp only [outs, List.length_cons, outs_len as ds]
  | .ex _ _ _ _ :: as, d :: ds => by simp only [outs, List.length_cons, outs_len as ds]
  | a :: as, [] => by
    have e : outs (a :: as) [] = .un :: outs as [] := by
      cases a with
      | un => rfl
      | im d => rfl
      | ex _ _ _ _ => rfl
      | ow b o => cases b <;> rfl
    rw [e, List.length_cons, List.length_cons, outs_len as []]
theorem outs_get : ∀ (as ds : List Sl) (i : Nat) {s : Sl}, (outs as ds)[i]? = some s → s = .un ∨ ((∃ o, as[i]? = some (.ow true o)) ∧ ds[i]? = some s)
  | [], _, _, s, h => by simp [outs] at h
  | .ow true o :: as, d :: ds, 0, s, h => by
    simp only [outs, List.getElem?_cons_zero, Option.some.injEq] at h
    exact .inr ⟨⟨o, rfl⟩, by simp [h]⟩
  | .ow true o :: as, d :: ds, i + 1, s, h => by
    rcases outs_get as ds i (by simpa [outs] using h) with e | ⟨⟨o', e1⟩, e2⟩
    · exact .inl e
    · exact .inr ⟨⟨o', by simpa using e1⟩, by simpa using e2⟩
  | .ow false o :: as, d :: ds, 0, s, h => by simp only [outs, List.getElem?_cons_zero, Option.some.injEq] at h; exact .inl h.symm
  | .un :: as, d :: ds, 0, s, h => by simp only [outs, List.getElem?_cons_zero, Option.some.injEq] at h; exact .inl h.symm
  | .im _ :: as, d :: ds, 0, s, h => by simp only [outs, List.getElem?_cons_zero, Option.some.injEq] at h; exact .inl h.symm
  | .ex _ _ _ _ :: as, d :: ds, 0, s, h => by simp only [outs, List.getElem?_cons_zero, Option.some.injEq] at h; exact .inl h.symm
  | .ow false o :: as, d :: ds, i + 1, s, h => by
    rcases outs_get as ds i (by simpa [outs] using h) with e | ⟨⟨o', e1⟩, e2⟩
    · exact .inl e
    · exact .inr ⟨⟨o', by simpa using e1⟩, by simpa using e2⟩
  | .un :: as, d :: ds, i + 1, s, h => by
    rcases outs_get as ds i (by simpa [outs] using h) with e | ⟨⟨o', e1⟩, e2⟩
    · exact .inl e
    · exact .inr ⟨⟨o', by simpa using e1⟩, by simpa using e2⟩
  | .im _ :: as, d :: ds, i + 1, s, h => by
    rcases outs_get as ds i (by simpa [outs] using h) with e | ⟨⟨o', e1⟩, e2⟩
    · exact .inl e
    · exact .inr ⟨⟨o', by simpa using e1⟩, by simpa using e2⟩
  | .ex _ _ _ _ :: as, d :: ds, i + 1, s, h => by
    rcases outs_get as ds i (by simpa [outs] using h) with e | ⟨⟨o', e1⟩, e2⟩
    · exact .inl e
    · exact .inr ⟨⟨o', by simpa using e1⟩, by simpa using e2⟩
  | a :: as, [], i, s, h => by
    have e : outs (a :: as) [] = .un :: outs as [] := by
      cases a with
      | un => rfl
      | im d => rfl
      | ex _ _ _ _ => rfl
      | ow b o => cases b <;> rfl
    rw [e] at h
    match i with
    | 0 => simp only [List.getElem?_cons_zero, Option.some.injEq] at h; exact .inl h.symm
    | i + 1 =>
      rcases outs_get as [] i (by simpa using h) with e | ⟨_, e2⟩
      · exact .inl e
      · simp at e2
theorem outs_own : ∀ (as ds : List Sl) (i : Nat) {o : O} {s : Sl}, as[i]? = some (.ow true o) → ds[i]? = some s → (outs as ds)[i]? = some s
  | [], _, _, _, _, h, _ => by simp at h
  | _ :: _, [], _, _, _, _, h => by simp at h
  | a :: as, d :: ds, 0, o, s, h, h2 => by
    simp only [List.getElem?_cons_zero, Option.some.injEq] at h h2
    subst h h2
    rfl
  | a :: as, d :: ds, i + 1, o, s, h, h2 => by
    have ih := outs_own as ds i (o := o) (s := s) (by simpa using h) (by simpa using h2)
    cases a with
    | un => simpa [outs] using ih
    | im d => simpa [outs] using ih
    | ex _ _ _ _ => simpa [outs] using ih
    | ow b o => cases b <;> simpa [outs] using ih
def endsP (as : List Sl) (Qp : QE) : PEn := { nx := fun δ => Qp (.im .none) (outs as δ), rt := fun r δ => Qp r (outs as δ) }
/-- a def's body keeps its promise -/
theorem fn_lift {K : PySem.W.Frag} {N : List Str} {ps : PSp} {p : EX → PSx} {vs : List V} {H : Hp} {Q : VK} {E : XK} {m : Nat} (hN : N.length = m) (hp : ∀ as Qp Ep, ps as Qp Ep → p Ep (endsP as Qp) (as ++ List.replicate (m - as.length) .un)) {T : List NdefX.NTab} (h : LSp K T ps vs H Q E) (hl : vs.length ≤ m) :
    ∃ (Bh Bt : Hp) (Ep : EX), XOk K ⟨Bh, Bt, T⟩ Ep E ∧ LS K ⟨Bh, Bt, T⟩ (p Ep) { nx := fun _ H' => Q .non H', rt := Q } (L2.start N vs) H := by
  obtain ⟨G, w, as, Qp, Ep, rep, hk, hps, k, x⟩ := h
  have la : vs.length = as.length := by have := rep.len; rwa [List.length_map] at this
  refine ⟨B0h H w, H, Ep, x, G, w, as ++ List.replicate (m - as.length) .un, endsP as Qp, ?_, hp as Qp Ep hps, ?_⟩
  · refine ⟨rep.sub, rep.out, ?_, fun i s hi => ?_, rfl, fun j v r hv => by simp at hv, rep.bs⟩
    · unfold L2.start
      rw [List.length_append, List.length_append, List.length_map, List.length_replicate, List.length_replicate, la, hN]
    · by_cases hi2 : i < as.length
      · rw [List.getElem?_append_left hi2] at hi
        have := rep.sl i s hi
        unfold L2.start
        rw [List.getElem?_append_left (by rw [List.length_map, la]; exact hi2)]
        exact this
      · rw [List.getElem?_append_right (by omega)] at hi
        have e : s = .un := by
          have := List.getElem?_eq_some_iff.mp hi
          obtain ⟨h1, h2⟩ := this
          simpa using h2.symm
        subst e
        trivial
  · have fin : ∀ (r : R) δ' v σ' H' G' w', isAt r = false → Stp T G H w (as ++ List.replicate (m - as.length) .un) G' H' w' δ' → Rep K (B0 T H w) G' H' σ' δ' [v] [r] w' → Pin (L2.start N vs) (as ++ List.replicate (m - as.length) .un) σ' →
        Stp T G H w as G' H' w' (outs as δ') ∧ Rep K (B0 T H w) G' H' (vs.map some) (outs as δ') [v] [r] w' := by
      intro r δ' v σ' H' G' w' hr st rp pn
      have inA : ∀ (i : Nat) o, as[i]? = some (Sl.ow true o) → (as ++ List.replicate (m - as.length) .un)[i]? = some (Sl.ow true o) := fun i o h => by
        rw [List.getElem?_append_left (List.getElem?_eq_some_iff.mp h).1]
        exact h
      refine ⟨⟨st.g, st.b, st.n, st.p, fun i o hi => ?_, st.t, st.q⟩, rp.sub, rp.out, by rw [outs_len, List.length_map, la], fun i s hi => ?_, rfl, fun j u q hu hq => ?_, rp.bs⟩
      · obtain ⟨o', ho'⟩ := st.pn i o (inA i o hi)
        exact ⟨o', outs_own as δ' i hi ho'⟩
      · rcases outs_get as δ' i hi with rfl | ⟨⟨o, e1⟩, e2⟩
        · trivial
        · have e3 := rp.sl i s e2
          have e4 := pn i o (inA i o e1)
          have hi2 : i < as.length := (List.getElem?_eq_some_iff.mp e1).1
          unfold L2.start at e4
          rw [List.getElem?_append_left (by rw [List.length_map, la]; exact hi2)] at e4
          rwa [e4] at e3
      · exact (rp.tm j u q hu hq).noAt (by
          match j with
          | 0 => simp only [List.getElem?_cons_zero, Option.some.injEq] at hq; rw [← hq]; exact hr
          | j + 1 => simp at hq)
    refine ⟨fun δ' σ' H' G' w' h st rp pn => ?_, fun r δ' v σ' H' G' w' h hr st rp pn => ?_, fun δ' σ' H' G' w' h => h.elim, fun δ' σ' H' G' w' h => h.elim⟩
    · obtain ⟨s1, r1⟩ := fin (.im .none) δ' .non σ' H' G' _ rfl (st.trans .drop) (rp.ret .non) pn
      exact k _ _ _ H' G' _ h rfl s1 r1
    · obtain ⟨s1, r1⟩ := fin r δ' v σ' H' G' w' hr st rp pn
      exact k _ _ _ H' G' w' h hr s1 r1
/-! ### calls -/
def argOf (δ : List Sl) : R → Option Sl
  | .im d => some (.im d)
  | .ow o => some (.ow true o)
  | .at i => match δ[i]? with
    | some (.im d) => some (.im d)
    | some (.ow _ o) => some (.ow true o)
    | _ => none
def argsOf (δ : List Sl) : List R → Option (List Sl)
  | [] => some []
  | r :: rs => match argOf δ r with
    | none => none
    | some a => match argsOf δ rs with
      | none => none
      | some as => some (a :: as)
/-- which slots are handed on -/
def atIx (δ : List Sl) : List R → List Nat
  | [] => []
  | .at i :: rs => match δ[i]? with
    | some (.ow _ _) => i :: atIx δ rs
    | _ => atIx δ rs
  | _ :: rs => atIx δ rs
def put1 (δ : List Sl) : R → Sl → List Sl
  | .at i, .ow true o => match δ[i]? with
    | some (.ow b _) => δ.set i (.ow b o)
    | _ => δ
  | _, _ => δ
def putB (δ : List Sl) : List R → List Sl → List Sl
  | [], _ => δ
  | _ :: _, [] => δ
  | r :: rs, s :: ss => putB (put1 δ r s) rs ss
def pCall (ps : PSp) (pa : PL) (Ep : EX) : PX := fun δ Q => pa δ fun rs δ1 => ∃ as, argsOf δ1 rs = some as ∧ (atIx δ1 rs).Nodup ∧ ps as (fun r os => Q r (putB δ1 rs os)) Ep
theorem argsOf_len : ∀ {δ : List Sl} {rs : List R} {as : List Sl}, argsOf δ rs = some as → as.length = rs.length
  | _, [], _, h => by cases h; rfl
  | δ, r :: rs, as, h => by
    unfold argsOf at h
    revert h
    split
    · intro h; cases h
    · split
      · intro h; cases h
      · rename_i as' e'
        intro h
        cases h
        rw [List.length_cons, List.length_cons, argsOf_len e']
theorem argsOf_get : ∀ {δ : List Sl} {rs : List R} {as : List Sl} {j : Nat} {s : Sl}, argsOf δ rs = some as → as[j]? = some s → ∃ r, rs[j]? = some r ∧ argOf δ r = some s
  | _, [], _, _, _, h, hs => by cases h; simp at hs
  | δ, r :: rs, as, j, s, h, hs => by
    unfold argsOf at h
    revert h
    split
    · intro h; cases h
    · rename_i a e
      split
      · intro h; cases h
      · rename_i as' e'
        intro h
        cases h
        match j with
        | 0 => simp only [List.getElem?_cons_zero, Option.some.injEq] at hs; subst hs; exact ⟨r, rfl, e⟩
        | j + 1 =>
          obtain ⟨r', h1, h2⟩ := argsOf_get (j := j) e' (by simpa using hs)
          exact ⟨r', by simpa using h1, h2⟩
def isOw (δ : List Sl) (i : Nat) : Prop := ∃ b o, δ[i]? = some (.ow b o)
theorem put1_len (δ : List Sl) (r : R) (s : Sl) : (put1 δ r s).length = δ.length := by
  unfold put1
  split
  · split
    · rw [List.length_set]
    · rfl
  · rfl
theorem put1_at {δ : List Sl} {i : Nat} {b : Bool} {o o' : O} (h : δ[i]? = some (.ow b o)) : put1 δ (.at i) (.ow true o') = δ.set i (.ow b o') := by
  unfold put1
  dsimp only
  rw [h]
theorem put1_ow {δ : List Sl} {r : R} {s : Sl} {i : Nat} {b : Bool} {o : O} (h : δ[i]? = some (.ow b o)) : ∃ o', (put1 δ r s)[i]? = some (.ow b o') := by
  unfold put1
  split
  · rename_i k o'
    split
    · rename_i b' o'' e
      by_cases ei : k = i
      · subst ei
        rw [h] at e
        cases e
        exact ⟨o', List.getElem?_set_self (List.getElem?_eq_some_iff.mp h).1⟩
      · exact ⟨o, by rw [List.getElem?_set_ne ei]; exact h⟩
    · exact ⟨o, h⟩
  · exact ⟨o, h⟩
theorem put1_ne {δ : List Sl} {r : R} {s : Sl} {i : Nat} (h : r ≠ .at i) : (put1 δ r s)[i]? = δ[i]? := by
  unfold put1
  split
  · rename_i k o'
    split
    · exact List.getElem?_set_ne fun z => h (by rw [z])
    · rfl
  · rfl
theorem put1_nw {δ : List Sl} {r : R} {s : Sl} {i : Nat} (h : ¬ isOw δ i) : (put1 δ r s)[i]? = δ[i]? := by
  unfold put1
  split
  · rename_i k o'
    split
    · rename_i b o e
      exact List.getElem?_set_ne fun z => h ⟨b, o, by rw [← z]; exact e⟩
    · rfl
  · rfl
theorem isOw_put {δ : List Sl} {r : R} {s : Sl} {i : Nat} : isOw (put1 δ r s) i ↔ isOw δ i := by
  constructor
  · intro h
    by_cases hw : isOw δ i
    · exact hw
    · obtain ⟨b, o, e⟩ := h
      rw [put1_nw hw] at e
      exact ⟨b, o, e⟩
  · rintro ⟨b, o, e⟩
    obtain ⟨o', e'⟩ := put1_ow (r := r) (s := s) e
    exact ⟨b, o', e'⟩
theorem mem_atIx : ∀ {δ : List Sl} {rs : List R} {i : Nat}, i ∈ atIx δ rs ↔ isOw δ i ∧ R.at i ∈ rs
  | δ, [], i => by simp [atIx]
  | δ, .im d :: rs, i => by simp [atIx, mem_atIx (δ := δ) (rs := rs) (i := i)]
  | δ, .ow o :: rs, i => by simp [atIx, mem_atIx (δ := δ) (rs := rs) (i := i)]
  | δ, .at k :: rs, i => by
    unfold atIx
    split
    · rename_i b o e
      rw [List.mem_cons, mem_atIx (δ := δ) (rs := rs) (i := i), List.mem_cons]
      constructor
      · rintro (rfl | ⟨h1, h2⟩)
        · exact ⟨⟨b, o, e⟩, .inl rfl⟩
        · exact ⟨h1, .inr h2⟩
      · rintro ⟨h1, h2 | h2⟩
        · cases h2; exact .inl rfl
        · exact .inr ⟨h1, h2⟩
    · rename_i hn
      rw [mem_atIx (δ := δ) (rs := rs) (i := i), List.mem_cons]
      constructor
      · rintro ⟨h1, h2⟩; exact ⟨h1, .inr h2⟩
      · rintro ⟨h1, h2 | h2⟩
        · cases h2
          obtain ⟨b, o, e⟩ := h1
          exact absurd e (hn b o)
        · exact ⟨h1, h2⟩
theorem putB_len : ∀ {rs : List R} {δ : List Sl} {ss : List Sl}, (putB δ rs ss).length = δ.length
  | [], _, _ => by simp [putB]
  | _ :: _, _, [] => by simp [putB]
  | r :: rs, δ, s :: ss => by
    show (putB (put1 δ r s) rs ss).length = _
    rw [putB_len, put1_len]
theorem putB_ne : ∀ {rs : List R} {δ ss : List Sl} {k : Nat}, (¬ isOw δ k ∨ R.at k ∉ rs) → (putB δ rs ss)[k]? = δ[k]?
  | [], _, _, _, _ => by simp [putB]
  | _ :: _, _, [], _, _ => by simp [putB]
  | r :: rs, δ, s :: ss, k, h => by
    show (putB (put1 δ r s) rs ss)[k]? = _
    rcases h with h | h
    · rw [putB_ne (.inl fun z => h (isOw_put.mp z)), put1_nw h]
    · simp only [List.mem_cons, not_or] at h
      rw [putB_ne (.inr h.2), put1_ne (Ne.symm h.1)]
theorem putB_at : ∀ {rs : List R} {δ ss : List Sl} {j k : Nat} {b : Bool} {o o' : O}, (∀ (i j : Nat) k, isOw δ k → rs[i]? = some (.at k) → rs[j]? = some (.at k) → i = j) → rs[j]? = some (.at k) → δ[k]? = some (.ow b o) → ss[j]? = some (.ow true o') → (putB δ rs ss)[k]? = some (.ow b o')
  | [], _, _, _, _, _, _, _, _, h, _, _ => by simp at h
  | _ :: _, _, [], _, _, _, _, _, _, _, _, h => by simp at h
  | r :: rs, δ, s :: ss, 0, k, b, o, o', hu, h, hk, hs => by
    simp only [List.getElem?_cons_zero, Option.some.injEq] at h hs
    subst h hs
    show (putB (put1 δ (.at k) (.ow true o')) rs ss)[k]? = _
    have hn : R.at k ∉ rs := fun z => by
      obtain ⟨j, hj⟩ := List.mem_iff_getElem?.mp z
      have := hu 0 (j + 1) k ⟨b, o, hk⟩ rfl (by simpa using hj)
      omega
    rw [putB_ne (.inr hn), put1_at hk, List.getElem?_set_self (List.getElem?_eq_some_iff.mp hk).1]
  | r :: rs, δ, s :: ss, j + 1, k, b, o, o', hu, h, hk, hs => by
    show (putB (put1 δ r s) rs ss)[k]? = _
    have hr : r ≠ .at k := fun z => by
      have := hu 0 (j + 1) k ⟨b, o, hk⟩ (by simp [z]) h
      omega
    exact putB_at (j := j) (fun i j' k' hw h1 h2 => by
      have := hu (i + 1) (j' + 1) k' (isOw_put.mp hw) (by simpa using h1) (by simpa using h2)
      omega) (by simpa using h) (by rw [put1_ne hr]; exact hk) (by simpa using hs)
theorem uniq_of_nodup : ∀ {δ : List Sl} {rs : List R}, (atIx δ rs).Nodup → ∀ (i j : Nat) k, isOw δ k → rs[i]? = some (.at k) → rs[j]? = some (.at k) → i = j
  | δ, [], _, i, j, k, _, h, _ => by simp at h
  | δ, r :: rs, hn, i, j, k, hw, h1, h2 => by
    have tail : (atIx δ rs).Nodup := by
      cases r with
      | im d => exact hn
      | ow o => exact hn
      | «at» m =>
        unfold atIx at hn
        revert hn
        split
        · intro hn; exact (List.nodup_cons.mp hn).2
        · intro hn; exact hn
    have noHead : r = .at k → R.at k ∉ rs := fun e z => by
      subst e
      obtain ⟨b, o, e⟩ := hw
      have e2 : atIx δ (.at k :: rs) = k :: atIx δ rs := by simp only [atIx, e]
      rw [e2] at hn
      exact (List.nodup_cons.mp hn).1 (mem_atIx.mpr ⟨⟨b, o, e⟩, z⟩)
    match i, j with
    | 0, 0 => rfl
    | 0, j + 1 => exact absurd (List.mem_of_getElem? (show rs[j]? = some (.at k) by simpa using h2)) (noHead (by simpa using h1))
    | i + 1, 0 => exact absurd (List.mem_of_getElem? (show rs[i]? = some (.at k) by simpa using h1)) (noHead (by simpa using h2))
    | i + 1, j + 1 => rw [uniq_of_nodup tail i j k hw (by simpa using h1) (by simpa using h2)]
/-- where slot i is handed on -/
def idxAt (i : Nat) : List R → Option Nat
  | [] => none
  | .at k :: rs => if k = i then some 0 else (idxAt i rs).map (· + 1)
  | _ :: rs => (idxAt i rs).map (· + 1)
theorem idxAt_some : ∀ {rs : List R} {i j : Nat}, idxAt i rs = some j → rs[j]? = some (.at i)
  | [], _, _, h => by cases h
  | .at k :: rs, i, j, h => by
    unfold idxAt at h
    split at h
    · rename_i e; cases h; subst e; rfl
    · obtain ⟨m, h1, rfl⟩ := Option.map_eq_some_iff.mp h
      simpa using idxAt_some h1
  | .im d :: rs, i, j, h => by
    obtain ⟨m, h1, rfl⟩ := Option.map_eq_some_iff.mp (show (idxAt i rs).map (· + 1) = some j from h)
    simpa using idxAt_some h1
  | .ow o :: rs, i, j, h => by
    obtain ⟨m, h1, rfl⟩ := Option.map_eq_some_iff.mp (show (idxAt i rs).map (· + 1) = some j from h)
    simpa using idxAt_some h1
theorem idxAt_mem : ∀ {rs : List R} {i : Nat}, R.at i ∈ rs → ∃ j, idxAt i rs = some j
  | [], _, h => by cases h
  | .at k :: rs, i, h => by
    unfold idxAt
    split
    · exact ⟨0, rfl⟩
    · rename_i hk
      have : R.at i ∈ rs := by
        rcases List.mem_cons.mp h with z | z
        · cases z; exact absurd rfl hk
        · exact z
      obtain ⟨j, e⟩ := idxAt_mem this
      exact ⟨j + 1, by rw [e]; rfl⟩
  | .im d :: rs, i, h => by
    have : R.at i ∈ rs := by
      rcases List.mem_cons.mp h with z | z
      · cases z
      · exact z
    obtain ⟨j, e⟩ := idxAt_mem this
    exact ⟨j + 1, by show (idxAt i rs).map (· + 1) = _; rw [e]; rfl⟩
  | .ow o :: rs, i, h => by
    have : R.at i ∈ rs := by
      rcases List.mem_cons.mp h with z | z
      · cases z
      · exact z
    obtain ⟨j, e⟩ := idxAt_mem this
    exact ⟨j + 1, by show (idxAt i rs).map (· + 1) = _; rw [e]; rfl⟩
def wcOf (rs : List R) (w : Addr → Option Nat) (a : Addr) : Option Nat := match w a with
  | none => none
  | some n => if n % 2 = 1 then some (n - 1) else (idxAt (n / 2) rs).map (2 * ·)
def wbOf (rs : List R) (w w' : Addr → Option Nat) (a : Addr) : Option Nat := match w' a with
  | some m => if m % 2 = 1 then some m else match rs[m / 2]? with
    | some (.at i) => some (2 * i)
    | _ => none
  | none => match wcOf rs w a with
    | none => evn (w a)
    | some _ => none
theorem call_lift {K : PySem.W.Frag} {ps : PSp} {pa : PL} {Ep : EX} {E : XK} {n : Nat} {σ : St} {H : Hp} {Q : VK} (hx : XOk K B Ep E) (h : LE K B (pCall ps pa Ep) σ H Q) : tCall (LSp K B.T ps) [] E (LA K B n pa) σ H Q := by
  obtain ⟨G, w, δ, Qp, rep, q, k⟩ := h
  refine ⟨G, w, δ, _, rep, q, fun rs δ1 vs H1 G1 w1 q1 _ s1 rep1 => ?_⟩
  obtain ⟨as, ha, hnd, q1⟩ := q1
  have uq := uniq_of_nodup hnd
  have la : vs.length = as.length := rep1.tlen.trans (argsOf_len ha).symm
  have wc_some : ∀ a m, wcOf rs w1 a = some m → ∃ n, w1 a = some n := fun a m hm => by
    unfold wcOf at hm
    cases e : w1 a with
    | none => rw [e] at hm; cases hm
    | some n => exact ⟨n, rfl⟩
  have wc_odd : ∀ a (j : Nat), w1 a = some (2 * j + 1) → wcOf rs w1 a = some (2 * j) := fun a j h => by
    unfold wcOf
    rw [h]
    dsimp only
    rw [if_pos (by omega)]
    congr 1
  have wc_at : ∀ a (i j : Nat), isOw δ1 i → rs[j]? = some (.at i) → w1 a = some (2 * i) → wcOf rs w1 a = some (2 * j) := fun a i j hw hj h => by
    obtain ⟨j', e⟩ := idxAt_mem (List.mem_of_getElem? hj)
    have := uq j j' i hw hj (idxAt_some e)
    subst this
    unfold wcOf
    rw [h]
    dsimp only
    rw [if_neg (by omega), show 2 * i / 2 = i by omega, e]
    rfl
  have toB : ∀ a o, B a = some o → B0 B.T H1 (wcOf rs w1) a = some o := fun a o ho => by
    have := rep1.bs.to a o ho
    show B0h H1 (wcOf rs w1) a = some o
    unfold B0h
    have e : wcOf rs w1 a = none := by unfold wcOf; rw [this.2.1]
    rw [e]
    exact nTb_of this.1 this.2.2
  have noB : ∀ d, B0 B.T H1 (wcOf rs w1) d = none → B d = none := fun d h => by
    cases e : B d with
    | none => rfl
    | some o => rw [toB d o e] at h; cases h
  rw [List.append_nil]
  refine ⟨G1, wcOf rs w1, as, _, Ep, ⟨rep1.sub, fun a m hm => ?_, by rw [List.length_map]; exact la, fun j s hs => ?_, rfl, fun j v r hv => by simp at hv, ⟨fun a o ho => B0_some ho, .refl, rep1.bs.tt.ts rep1.bs.ta, rep1.bs.gt⟩⟩, fun s hs => ?_, q1, fun r os v H2 G2 w2 hq hr st rp => ?_, fun C fs us d H2 he hs htb hbd hd hf => hx C fs us d H2 he (fun a o ho => hs a o (toB a o ho)) (rep1.bs.tt.trans htb) (noB d hbd) hd hf⟩
  · obtain ⟨n, hn⟩ := wc_some a m hm
    exact rep1.out a n hn
  · obtain ⟨r, hr, he⟩ := argsOf_get ha hs
    have hj : j < vs.length := by rw [la]; exact (List.getElem?_eq_some_iff.mp hs).1
    have hv : vs[j]? = some vs[j] := List.getElem?_eq_getElem hj
    have hm : (vs.map some)[j]? = some (some vs[j]) := by rw [List.getElem?_map, hv]; rfl
    have t := rep1.tm j _ r hv hr
    cases r with
    | im d => cases he; exact ⟨_, hm, t⟩
    | ow o => cases he; exact ⟨_, hm, RO.mono (fun _ _ h => h) (fun _ _ _ h => h) (fun a u ma _ => wc_odd a j ma) t⟩
    | «at» i =>
      have t' : σ[i]? = some (some vs[j]) := t
      simp only [argOf] at he
      revert he
      split
      · rename_i d e
        intro he
        cases he
        obtain ⟨v, hv', hd⟩ := rep1.sl i _ e
        rw [t'] at hv'
        cases hv'
        exact ⟨_, hm, hd⟩
      · rename_i b o e
        intro he
        cases he
        obtain ⟨v, hv', hd⟩ := rep1.sl i _ e
        rw [t'] at hv'
        cases hv'
        exact ⟨_, hm, RO.mono (fun _ _ h => h) (fun _ _ _ h => h) (fun a u ma _ => wc_at a i j ⟨b, o, e⟩ hr ma) hd⟩
      · intro he; cases he
  · obtain ⟨j, hj⟩ := List.mem_iff_getElem?.mp hs
    obtain ⟨r, hr, he⟩ := argsOf_get ha hj
    cases r with
    | im d => cases he; exact .inr (.inl ⟨d, rfl⟩)
    | ow o => cases he; exact .inr (.inr ⟨o, rfl⟩)
    | «at» i =>
      simp only [argOf] at he
      revert he
      split
      · intro he; cases he; exact .inr (.inl ⟨_, rfl⟩)
      · intro he; cases he; exact .inr (.inr ⟨_, rfl⟩)
      · intro he; cases he
  · -- behind the call
    have nw : ∀ a m n, w2 a = some m → wcOf rs w1 a = none → w1 a = some n → False := fun a m n h1 h2 h3 => by
      rcases st.n a m h1 with z | z
      · exact z h2
      · exact (rep1.out a n h3).2.1 z
    have st' : Stp B.T G1 H1 w1 δ1 G2 H2 (wbOf rs w1 w2) (putB δ1 rs os) := by
      refine ⟨st.g, fun a o hw ho => st.b a o (by unfold wcOf; rw [hw]) ho, fun a m hm => ?_, fun a o ho => ?_, fun i o hi => ?_, st.t, st.q⟩
      · cases e : w1 a with
        | some n => exact .inl (Option.some_ne_none _)
        | none =>
          cases e2 : w2 a with
          | none =>
            unfold wbOf at hm
            have e3 : wcOf rs w1 a = none := by unfold wcOf; rw [e]
            rw [e2, e3, e] at hm
            cases hm
          | some m2 =>
            rcases st.n a m2 e2 with z | z
            · exact absurd (by unfold wcOf; rw [e]) z
            · exact .inr z
      · rcases st.p a o ho with z | z | z | z
        · exact .inl z
        · exact .inr (.inl z)
        · refine .inr (.inr (.inl fun e => z ?_))
          unfold wcOf
          rw [e]
        · exact .inr (.inr (.inr z))
      · by_cases hm : R.at i ∈ rs
        · obtain ⟨j, hj⟩ := List.mem_iff_getElem?.mp hm
          have hja : j < as.length := by rw [argsOf_len ha]; exact (List.getElem?_eq_some_iff.mp hj).1
          obtain ⟨r, hr', he⟩ := argsOf_get ha (List.getElem?_eq_getElem hja)
          rw [hj] at hr'
          cases hr'
          simp only [argOf, hi, Option.some.injEq] at he
          obtain ⟨o', ho'⟩ := st.pn j o (by rw [List.getElem?_eq_getElem hja, he])
          exact ⟨o', putB_at uq hj hi ho'⟩
        · exact ⟨o, by rw [putB_ne (.inr hm)]; exact hi⟩
    refine k r _ v H2 G2 _ hq (s1.trans st') ⟨rp.sub, fun a m hm => ?_, by rw [putB_len]; exact rep1.len, fun i s hs => ?_, rfl, fun j u p hu hp => ?_, st'.bs rep1.bs⟩
    · cases e2 : w2 a with
      | some m2 => exact rp.out a m2 e2
      | none =>
        unfold wbOf at hm
        rw [e2] at hm
        dsimp only at hm
        revert hm
        split
        · rename_i e3
          intro hm
          have hn := (evn_some.mp hm).1
          obtain ⟨g0, h0, n0⟩ := rep1.out a m hn
          refine ⟨?_, st.nn a e3 h0 n0⟩
          cases e6 : G2 a with
          | none => rfl
          | some o =>
            rcases st.p a o e6 with z | z | z | ⟨xs, z⟩
            · rw [g0] at z; cases z
            · exact absurd z h0
            · exact absurd e3 z
            · exact absurd z (n0 xs)
        · intro hm; cases hm
    · by_cases hm : isOw δ1 i ∧ R.at i ∈ rs
      · obtain ⟨⟨b, o, e⟩, hm⟩ := hm
        obtain ⟨j, hj⟩ := List.mem_iff_getElem?.mp hm
        have hja : j < as.length := by rw [argsOf_len ha]; exact (List.getElem?_eq_some_iff.mp hj).1
        obtain ⟨r', hr', he⟩ := argsOf_get ha (List.getElem?_eq_getElem hja)
        rw [hj] at hr'
        cases hr'
        simp only [argOf, e, Option.some.injEq] at he
        obtain ⟨o', ho'⟩ := st.pn j o (by rw [List.getElem?_eq_getElem hja, he])
        rw [putB_at uq hj e ho'] at hs
        cases hs
        obtain ⟨v', hv', hd⟩ := rp.sl j _ ho'
        have hjv : j < vs.length := by rw [la]; exact hja
        rw [List.getElem?_map, List.getElem?_eq_getElem hjv] at hv'
        cases hv'
        have t : σ[i]? = some (some vs[j]) := rep1.tm j _ (.at i) (List.getElem?_eq_getElem hjv) hj
        refine ⟨_, t, RO.mono (fun _ _ h => h) (fun _ _ _ h => h) (fun a u ma _ => ?_) hd⟩
        show wbOf rs w1 w2 a = _
        unfold wbOf
        rw [ma]
        dsimp only
        rw [if_neg (by omega), show 2 * j / 2 = j by omega, hj]
      · have hne : ¬ isOw δ1 i ∨ R.at i ∉ rs := by
          by_cases z : isOw δ1 i
          · exact .inr fun z2 => hm ⟨z, z2⟩
          · exact .inl z
        rw [putB_ne hne] at hs
        have sl := rep1.sl i s hs
        cases s with
        | un => trivial
        | im d =>
          obtain ⟨v', hv', hd⟩ := sl
          exact ⟨v', hv', dp_mono st.g _ _ hd⟩
        | ex a dd C fs =>
          obtain ⟨h1, us, h2, h3⟩ := sl
          exact ⟨h1, us, st.g _ _ h2, h3.mono st.g⟩
        | ow b o =>
          have hni : R.at i ∉ rs := hne.elim (fun z => absurd ⟨b, o, hs⟩ z) id
          have wcn : ∀ a, w1 a = some (2 * i) → wcOf rs w1 a = none := fun a h => by
            unfold wcOf
            rw [h]
            dsimp only
            rw [if_neg (by omega), show 2 * i / 2 = i by omega]
            cases e : idxAt i rs with
            | none => rfl
            | some j => exact absurd (List.mem_of_getElem? (idxAt_some e)) hni
          obtain ⟨v', hv', hd⟩ := sl
          refine ⟨v', hv', RO.monoN st.g (fun a u hnt ma hu => st.bN a u hnt (wcn a ma) hu) (fun a u ma hu => ?_) hd⟩
          show wbOf rs w1 w2 a = _
          unfold wbOf
          cases e2 : w2 a with
          | some m => exact (nw a m _ e2 (wcn a ma) ma).elim
          | none =>
            dsimp only
            rw [wcn a ma]
            exact evn_some.mpr ⟨ma, by omega⟩
    · match j with
      | 0 =>
        simp only [List.getElem?_cons_zero, Option.some.injEq] at hu hp
        subst hu hp
        have t := rp.tm 0 v r rfl rfl
        cases r with
        | im d => exact t
        | ow o =>
          refine RO.mono (fun _ _ h => h) (fun _ _ _ h => h) (fun a u ma _ => ?_) t
          show wbOf rs w1 w2 a = _
          unfold wbOf
          rw [ma]
          rfl
        | «at» i => cases hr
      | j + 1 => simp at hu
end Pv
namespace Pv
open PySem PySem.Spec L2 Wf
variable {B : Bas}
section
variable {X : Cx} {tg l a b e e2 : Expr} {es : List Expr} {pl pa pb : PX} {p pos : Pos}
/-! ### words -/
theorem jv (i : Nat) {x : Str} {pos : Pos} (hN : X.N[i]? = some x := by rfl) (hv : Vis X.env.scope x := by first | exact Or.inl rfl | exact Or.inr (Or.inl rfl) | exact Or.inr (Or.inr rfl)) (hd : (x == ("__debug__" : Str)) = false := by decide)
    (hcd : (x == ("__classdict__" : Str)) = false := by decide) : JE X B (.Name x pos) (pVar i) := je_var hN hv hd hcd
/-- as data for good -/
def pFz (p : PX) : PX := fun δ Q => p δ fun r δ1 => ∃ d δ2, fz δ1 r = some (d, δ2) ∧ Q (.im d) δ2
theorem je_fz (h : JE X B e pa) : JE X B e (pFz pa) := PE_wk h fun σ H Q ⟨G, w, δ, Qp, rep, q, k⟩ => ⟨G, w, δ, _, rep, q, fun r δ1 v H1 G1 w1 q1 s1 rep1 => by
  obtain ⟨d, δ2, hz, q1⟩ := q1
  obtain ⟨G2, w2, s2, r2⟩ := rep1.fz1 (j := 0) rfl rfl hz
  exact k _ _ v H1 G2 w2 q1 (s1.trans s2) r2⟩
/-! ### enumerate -/
def iEnumU (K : PySem.W.Frag) (ta : TA) : TI := fun σ H R => ta σ H fun vs H1 => ∃ a xs, vs = [.ref a] ∧ ((SqL K H1 a xs ∧ R (Ite K a) H1) ∨ (SqT K H1 a xs ∧ R (ItT K a) H1))
open PyProof.Rows in
theorem pi_enumU {ta : TA} {tpos : Pos} {elts : List Expr} {kk : Nat} (hg : Gl X "enumerate") (hm : X.mg "enumerate" = none) (ha : PA X [e] ta) (hs : starEach [e] X.env = [(false, eval e X.env)] := by rfl) :
    PI X (.Tuple elts kk tpos) (.Call (.Name "enumerate" p) [e] [] pos) (iEnumU X.K ta) := by
  refine ⟨fun pins s σ H R I h => ?_⟩
  refine Call_ (ld_blt I hg hm boot_enumerate (PyProof.Rows.callWith_type1 (thn (ha.run pos pins s σ H _ I h) fun us s1 ⟨vs, H1, I1, r1, q1⟩ => ?_) hs rfl))
  obtain ⟨a, xs, ex, ⟨hq, q⟩ | ⟨hq, q⟩⟩ := q1
  · subst ex
    cases r1 with
    | cons r rr =>
      cases rr
      cases r
      obtain ⟨its, rv, p', hz⟩ := I1.list hq
      refine call_enumerate_list p'.isList fun h' he hit hsz hk => wpAny_pyIter_enum he ?_
      have I2 : Inv X pins σ H1 { s1 with heap := h' } := I1.kept (t' := s1.toks) hk
      refine ⟨s1.heap.objs.size + 1, [s1.heap.objs.size + 1, s1.heap.objs.size], _, _, H1, rfl, I2, turn_enum a (s1.heap.objs.size + 1) s1.heap.objs.size, ⟨⟨.none, he⟩, hit, Nat.succ_ne_self _⟩, fun b hb => ?_, q⟩
      have e' : b = s1.heap.objs.size + 1 ∨ b = s1.heap.objs.size := by simpa using hb
      have hle : s1.heap.objs.size ≤ b := by
        rcases e' with z | z
        · rw [z]; exact Nat.le_add_right _ _
        · rw [z]; exact Nat.le_refl _
      exact I1.fpOk hle (I1.hok.fresh hle)
  · subst ex
    cases r1 with
    | cons r rr =>
      cases rr
      cases r
      obtain ⟨its, rv, pt, hz⟩ := I1.tuple hq
      refine call_enumT (show s1.heap.IsTuple a its.toArray from pt) fun h' en hit hsz hk => wpAny_pyIter_enum en ?_
      have I2 : Inv X pins σ H1 { s1 with heap := h' } := I1.kept (t' := s1.toks) hk
      refine ⟨s1.heap.objs.size + 1, [s1.heap.objs.size + 1, s1.heap.objs.size], _, _, H1, rfl, I2, turn_enumT a (s1.heap.objs.size + 1) s1.heap.objs.size, ⟨⟨.none, en⟩, hit, Nat.succ_ne_self _⟩, fun b hb => ?_, q⟩
      have le : s1.heap.objs.size ≤ b := by
        have eb : b = s1.heap.objs.size + 1 ∨ b = s1.heap.objs.size := by simpa using hb
        rcases eb with rfl | rfl
        · exact Nat.le_add_right _ _
        · exact Nat.le_refl _
      exact I1.fpOk le (I1.hok.fresh le)
/-! ### zip -/
/-! ### defs of the module -/
def noX : EX := fun _ _ => False
theorem xok_no {K : PySem.W.Frag} {E : XK} : XOk K B noX E := fun _ _ _ _ _ h => h.elim
theorem je_cal {k j : Nat} {x : Str} {pn : List Str} {psp : PSp} {ps : PL} (C : Cal X.prog X.w X.K X.mg X.base CX0 k x pn (LSp X.K B.T psp)) (hr : Room j X.A) (hg : Gl X x) (ha : JA X B (e :: es) ps) (hk : k ≤ j := by decide)
    (hdb : (x == ("__debug__" : Str)) = false := by decide) (he : starEach (e :: es) X.env = (false, eval e X.env) :: starEach es X.env := by rfl) (hpl : (backTo pos (starEach es X.env)).any (·.1) = false := by rfl) :
    JE X B (.Call (.Name x p) (e :: es) [] pos) (pCall psp ps noX) := PE_wk (pe_cal C hr hg ha hk hdb he hpl) fun σ H Q h => call_lift xok_no h
/-! ### repr -/
end
/-! ### a def keeps its promise -/
theorem fn_ok {T : List NdefX.NTab} {P : Program} {w : World} {K : PySem.W.Frag} {mg : Str → Option Value} {base : Heap} {CX : CXT} {k : Nat} {f : Addr} {fd : FuncData} {x qual : Str} {params : Arguments} {body : List Stmt} {scope : Scope} {dvs : List V} {kws : List (Str × V)} {N prm : List Str} {psp : PSp} {p : EX → PSx} {m n : Nat}
    (F : FunD K x qual params body scope dvs kws f fd) (S : FnScope N prm scope) (hN : N.length = m) (hn : prm.length = n) (hnm : n ≤ m) (hlen : ∀ as Qp Ep, psp as Qp Ep → as.length = n)
    (hb : ∀ (cdv : Value) (A : Around) (outer : List Env) (s : Shared) (H : Hp) (E : XK) (Bh Bt : Hp) (Ep : EX), Room k (A.deeper (PyProof.Rows.envOfC qual scope s.heap.objs.size f cdv)) → XOk K ⟨Bh, Bt, T⟩ Ep E → JSs (cxOf CX P w K mg base N qual scope f cdv A outer s H E) ⟨Bh, Bt, T⟩ body (p Ep))
    (hp : ∀ as Qp Ep, psp as Qp Ep → p Ep (endsP as Qp) (as ++ List.replicate (m - n) .un)) : FnOk P w K mg base CX (k + 1) f fd prm (LSp K T psp) := by
  have ln : ∀ vs H Q E, LSp K T psp vs H Q E → vs.length = n := fun vs H Q E ⟨G, w, as, Qp, Ep, rep, _, h, _⟩ => by
    have := rep.len
    rw [List.length_map, hlen as Qp Ep h] at this
    exact this
  refine F.ok S (fun vs H Q E h => by rw [hn]; exact ln vs H Q E h) fun cdv A outer s H vs Q E hr h => ?_
  obtain ⟨Bh, Bt, Ep, hx, hl⟩ := fn_lift (N := N) (p := p) hN (fun as Qp Ep h => by rw [hlen as Qp Ep h]; exact hp as Qp Ep h) h (by rw [ln vs H Q E h]; exact hnm)
  exact ⟨_, hb cdv A outer s H E Bh Bt Ep hr hx, hl⟩
theorem JSs.nox {X : Cx} {st : List Stmt} {p : PSx} (h : JSs X.nox B st p) : JSs X B st p := PSs.nox h
end Pv
/-! errors of one field -/
namespace Wf
open PySem PySem.Spec PyProof.Rows L2
def sp_init1 (K : PySem.W.Frag) (C : Addr) (f1 : Str) : Sp := fun vs H Q _ => ∃ (a : Addr) (w : V), vs = [.ref a, w] ∧ H a = some (exo a C none) ∧
  ∀ dx, H dx = none → dx ≠ a → Q .non (upd (upd H dx (exd dx [(f1, w)])) a (exo a C (some dx)))
def t_init1 (K : PySem.W.Frag) (f1 txt : Str) : TS := tSeq (tDrop (tVeI K (tCons (tVar 0) (tCons (tC (.str txt)) tNil)))) (tOst K f1 (tVar 0) (tVar 1))
theorem pure_init1 {K : PySem.W.Frag} {C : Addr} {f1 txt : Str} (O : OexC K C) (n1 : PySem.W.findIn K (.ref C) f1 = some none) (vs : List V) (H : Hp) (Q : VK) (E : XK) (h : sp_init1 K C f1 vs H Q E) :
    t_init1 K f1 txt (EndsQ Q) (sN 2 vs) H := by
  obtain ⟨a, w, rfl, ha, k⟩ := h
  show t_init1 K f1 txt _ [some (.ref a), some w] H
  refine ⟨_, rfl, a, C, [.str txt], rfl, (by show 1 ≤ 1000; decide), O, ha, ?_⟩
  exact ⟨_, rfl, _, rfl, a, C, rfl, O, n1, .inl ⟨ha, fun dx hd ne => k dx hd ne⟩⟩
structure Err1 (P : Program) (w : World) (K : PySem.W.Frag) (mg : Str → Option Value) (base : Heap) (x f1 : Str) (C : Addr) : Prop where
  g : mg x = some (.ref C)
  o : OexC K C
  ini : ∃ fI fd, PySem.W.findIn K (.ref C) "__init__" = some (some (.ref fI)) ∧ PySem.W.typeIn K (.ref fI) = some (.type "function") ∧ FnOk P w K mg base CX0 1 fI fd ["self", f1] (sp_init1 K C f1) ∧ Binds K fd ["self", f1] []
def tRz1 (C : Addr) (f1 : Str) (W : WX) (ta : TA) : TS := fun _ σ H => ta σ H fun vs H1 => ∃ w, vs = [w] ∧ ∀ d, H1 d = none → W (.ref C) (some d) σ (upd H1 d (.xd [(f1, w)]))
theorem ps_rz1 {X : Cx} {x f1 : Str} {C : Addr} {W : WX} {e1 : Expr} {ta : TA} {p pos pos2 : Pos} {j : Nat} (T : Err1 X.prog X.w X.K X.mg X.base x f1 C) (hr : Room j X.A) (hc : X.calm = true) (tk : Takes X W) (hg : Gl X x) (ha : PA X [e1] ta) (hk : 2 ≤ j := by decide)
    (hdb : (x == ("__debug__" : Str)) = false := by decide) (he : starEach (e1 :: []) X.env = (false, eval e1 X.env) :: starEach [] X.env := by rfl) (hpl : (backTo pos (starEach [] X.env)).any (·.1) = false := by rfl) :
    PS X (.Raise (some (.Call (.Name x p) [e1] [] pos)) none pos2) (tRz1 C f1 W ta) := by
  obtain ⟨fI, fd, iC, tI, F, hb⟩ := T.ini
  have R := ps_raise (pos := pos2) hc tk (pmk_oex (p := p) (pos := pos) T.o iC tI F (hr.mono hk) hb .nil pass0 hg T.g (pa_up ha) hdb he hpl)
  refine ⟨fun pins s σ H D I h => R.run pins s σ H D I ⟨_, h, fun vs H1 q => ?_⟩⟩
  obtain ⟨w, rfl, q⟩ := q
  refine ⟨by show 1 ≤ 1000; decide, fun a ha1 => ⟨a, w, rfl, upd_same, fun dx hd ne => ⟨rfl, dx, [(f1, w)], upd_same, ?_, ?_, ?_⟩⟩⟩
  · rw [upd_ne ne, upd_same]
  · rw [upd_ne ne] at hd
    exact hd
  · have hd1 : H1 dx = none := by
      rw [upd_ne ne] at hd
      exact hd
    have ef : upd (del (upd (upd (upd H1 a (exo a C none)) dx (exd dx [(f1, w)])) a (exo a C (some dx))) a) dx (.xd [(f1, w)]) = upd H1 dx (.xd [(f1, w)]) := by
      funext b
      by_cases h1 : b = dx
      · rw [h1, upd_same, upd_same]
      · rw [upd_ne h1, upd_ne h1]
        by_cases h2 : b = a
        · rw [h2, del_same, ha1]
        · rw [del_ne h2, upd_ne h2, upd_ne h1, upd_ne h2]
    rw [ef]
    exact q dx hd1
end Wf
namespace Pv
open PySem PySem.Spec L2 Wf
/-! ### raise -/
/-! ### all tuples are public -/
/-! ### try: name = an expression with one call that may raise -/
end Pv
namespace Pv
open PySem PySem.Spec L2 Wf
variable {B : Bas}
/-! ### what is asked of the caught error -/
section
variable {X : Cx} {a : Addr} {oe : Obj} {cls : Value} {d : Option Addr} {pn : List (Addr × Obj)} {e : Expr} {p pos pt : Pos}
theorem rep_ex {K : PySem.W.Frag} {G H : Hp} {σ : St} {δ : List Sl} {vs : List V} {rs : List R} {w : Addr → Option Nat} (r : Rep K B G H σ δ vs rs w) {i : Nat} {a dd C : Addr} {fs : List (Str × PyData)} (h : δ[i]? = some (.ex a dd C fs)) : σ[i]? = some (some (.ref a)) ∧ ∃ us, H dd = some (.xd us) ∧ Fl K G us fs := by
  obtain ⟨h1, us, h2, h3⟩ := r.sl i _ h
  exact ⟨h1, us, r.sub _ _ h2, h3⟩
/-- n.f -/
def pXf (C : Addr) (a : Addr) (cls : Value) (d : Option Addr) (i : Nat) (f : Str) : PX := fun δ Q => ∃ dd fs v, δ[i]? = some (.ex a dd C fs) ∧ cls = .ref C ∧ d = some dd ∧ fs.lookup f = some v ∧ Q (.im v) δ
theorem fl_lookup {K : PySem.W.Frag} {G : Hp} {f : Str} : ∀ {us : List (Str × V)} {fs : List (Str × PyData)} {x : PyData}, Fl K G us fs → fs.lookup f = some x → ∃ v, us.lookup f = some v ∧ Dq K G v x
  | _, _, _, .nil, h => by cases h
  | _, _, x, .cons (x := y) h1 h2, h => by
    simp only [List.lookup_cons] at h ⊢
    split at h
    · cases h; exact ⟨_, rfl, h1⟩
    · exact fl_lookup h2 h
theorem je_xf {i : Nat} {n f : Str} {C : Addr} {pn2 : Pos} (T : XfC X.K C) (hno : PySem.W.findIn X.K (.ref C) f = some none) (hz : Zc cls d oe) (hf : ∃ vs, oe.data = .fields vs) (hn : PE (X.suite a ((a, oe) :: pn)) (.Name n pn2) (tVar i)) (hb : attributeBase (.Name n pn2) f X.env (eval (.Name n pn2) X.env) = eval (.Name n pn2) X.env := by rfl) :
    JE (X.suite a ((a, oe) :: pn)) B (.Attribute (.Name n pn2) f pos) (pXf C a cls d i f) := by
  refine PE_wk (pe_xf T hno hz hf hn hb) fun σ H Q ⟨G, w, δ, Qp, rep, q, k⟩ => ?_
  obtain ⟨dd, fs, v, h1, h2, h3, h4, q⟩ := q
  obtain ⟨e1, us, e2, e3⟩ := rep_ex rep h1
  obtain ⟨u, f1, f2⟩ := fl_lookup e3 h4
  exact ⟨_, e1, rfl, h2, dd, us, u, h3, e2, f1, k _ δ _ H G _ q .drop (rep.ret f2)⟩
end
end Pv
namespace Pv
open PySem PySem.Spec L2 Wf
variable {B : Bas}
theorem _root_.Wf.Cal.imp {P : Program} {w : World} {K : PySem.W.Frag} {mg : Str → Option Value} {base : Heap} {CX : CXT} {k : Nat} {x : Str} {ps : List Str} {sp sp' : Sp} (C : Wf.Cal P w K mg base CX k x ps sp) (h : ∀ vs H Q E, sp' vs H Q E → sp vs H Q E) : Wf.Cal P w K mg base CX k x ps sp' := by
  obtain ⟨f, fd, F, r⟩ := C.ex
  exact ⟨f, fd, F.imp h, r⟩
section
variable {K : PySem.W.Frag} {G H H' : Hp} {σ : St} {δ : List Sl} {vs : List V} {rs : List R} {w : Addr → Option Nat}
theorem noT_same {H H' : Hp} {a : Addr} {u : HO} (e : H a = some u) (e2 : H' a = some u) (n : NoX H a) : NoX H' a := n.same e e2
theorem noT_deal {H : Hp} {d l : Addr} (h : Deal H d l) : NoX H d ∧ NoX H l ∧ H d ≠ none ∧ H l ≠ none := by
  obtain ⟨s, m, n, ns, h1, h2, _⟩ := h.ex
  exact ⟨NoX.of h1 (fun _ z => by cases z) (fun _ _ z => by cases z) (fun _ z => by cases z), NoX.lst h2, by rw [h1]; exact Option.some_ne_none _, by rw [h2]; exact Option.some_ne_none _⟩
theorem tabs_deal {T : List NdefX.NTab} {H H' : Hp} {d l : Addr} (but : But [d, l] H H') (dl : Deal H d l) : TbG T H H' := by
  obtain ⟨s, m, n, ns, h1, h2, _⟩ := dl.ex
  have ne : ∀ x o, (∀ xs, o ≠ .lst xs) → (∀ xs, o ≠ .dK xs) → H x = some o → H' x = some o := fun x o n1 n2 hx => but x o (fun z => by
    simp only [List.mem_cons, List.not_mem_nil, or_false] at z
    rcases z with rfl | rfl
    · rw [h1] at hx; cases hx; exact n2 _ rfl
    · rw [h2] at hx; cases hx; exact n1 _ rfl) hx
  refine ⟨fun t p hp => ?_, fun a ps h => ⟨ps, ne _ _ nofun nofun h⟩⟩
  obtain ⟨ps, e1, e2, e3⟩ := t p hp
  refine ⟨ps, ne _ _ nofun nofun e1, e2, fun pos cv hc => ?_⟩
  obtain ⟨c, f1, f2⟩ := e3 pos cv hc
  exact ⟨c, f1, ne _ _ (fun xs z => by unfold LamX.CodeO at z; cases z) (fun xs z => by unfold LamX.CodeO at z; cases z) f2⟩
/-- the deal goes on -/
theorem Rep.deal (r : Rep K B G H σ δ vs rs w) {i : Nat} {b : Bool} {d l : Addr} (h : δ[i]? = some (.ow b .deal)) (hσ : σ[i]? = some (some (.ref d))) (wd : w d = some (2 * i)) (wl : w l = some (2 * i)) (dl0 : Deal H d l) (but : But [d, l] H H') (dl : Deal H' d l) :
    Stp B.T G H w δ G H' w δ ∧ Rep K B G H' σ δ vs rs w := by
  have nin : ∀ x, w x ≠ some (2 * i) → x ∉ [d, l] := fun x hx z => by
    simp only [List.mem_cons, List.not_mem_nil, or_false] at z
    rcases z with rfl | rfl
    · exact hx wd
    · exact hx wl
  obtain ⟨nd, nl, ed, el⟩ := noT_deal dl
  have st : Stp B.T G H w δ G H' w δ := .of ⟨fun _ _ h => h, fun x o hx ho => but x o (nin x (by rw [hx]; exact nofun)) ho, fun x n hx => .inl (by rw [hx]; exact Option.some_ne_none _), fun _ _ h => .inl h, .refl _⟩ (tabs_deal but dl0)
  refine ⟨st, fun x o hx => ?_, fun x n hx => ?_, r.len, fun k s hk => ?_, r.tlen, fun j v q hv hq => ?_, st.bs r.bs⟩
  · refine but x o (nin x fun z => ?_) (r.sub x o hx)
    rw [(r.out x _ z).1] at hx
    cases hx
  · obtain ⟨h1, h2, h3⟩ := r.out x n hx
    by_cases e : x ∈ [d, l]
    · simp only [List.mem_cons, List.not_mem_nil, or_false] at e
      rcases e with rfl | rfl
      · exact ⟨h1, ed, nd⟩
      · exact ⟨h1, el, nl⟩
    · cases e2 : H x with
      | none => exact absurd e2 h2
      | some u => exact ⟨h1, by rw [but x u e e2]; exact Option.some_ne_none _, noT_same e2 (but x u e e2) h3⟩
  · by_cases e : i = k
    · subst e
      rw [h] at hk
      cases hk
      exact ⟨_, hσ, d, l, rfl, wd, wl, dl⟩
    · refine (r.sl k s hk).mono (fun _ _ h => h) (fun x u mx hu => but x u (nin x ?_) hu) fun x u mx _ => mx
      rw [mx]
      exact fun z => e (by have := Option.some.inj z; omega)
  · refine (r.tm j v q hv hq).mono (fun _ _ h => h) (fun x u mx hu => but x u (nin x ?_) hu) fun x u mx _ => mx
    rw [mx]
    exact fun z => by have := Option.some.inj z; omega
/-- a new deal is told -/
theorem Rep.newDeal (r : Rep K B G H σ δ [] [] w) {d l : Addr} (s : Same H H') (hd : H d = none) (hl : H l = none) (dl : Deal H' d l) :
    ∃ w', Stp B.T G H w δ G H' w' δ ∧ Rep K B G H' σ δ [.ref d] [.ow .deal] w' := by
  obtain ⟨nd, nl, ed, el⟩ := noT_deal dl
  have g0 : ∀ x, H x = none → G x = none := fun x hx => by
    cases e : G x with
    | none => rfl
    | some o => have := r.sub x o e; rw [hx] at this; cases this
  have st : Stp B.T G H w δ G H' (fun a => if a = d ∨ a = l then some 1 else w a) δ := by
    refine .of ⟨fun _ _ h => h, fun x o hx ho => s x o ho, fun x n hx => ?_, fun _ _ h => .inl h, .refl _⟩ (.same s)
    split at hx
    · rename_i e
      rcases e with rfl | rfl
      · exact .inr hd
      · exact .inr hl
    · exact .inl (by rw [hx]; exact Option.some_ne_none _)
  have wn : ∀ x n, w x = some n → ¬ (x = d ∨ x = l) := fun x n hx z => by
    rcases z with rfl | rfl
    · exact (r.out _ n hx).2.1 hd
    · exact (r.out _ n hx).2.1 hl
  refine ⟨_, st, fun x o hx => s x o (r.sub x o hx), fun x n hx => ?_, r.len, fun k sl hk => ?_, rfl, fun j v q hv hq => ?_, st.bs r.bs⟩
  · split at hx
    · rename_i e
      rcases e with rfl | rfl
      · exact ⟨g0 _ hd, ed, nd⟩
      · exact ⟨g0 _ hl, el, nl⟩
    · obtain ⟨h1, h2, h3⟩ := r.out x n hx
      cases e2 : H x with
      | none => exact absurd e2 h2
      | some u => exact ⟨h1, by rw [s x u e2]; exact Option.some_ne_none _, noT_same e2 (s x u e2) h3⟩
  · refine (r.sl k sl hk).mono (fun _ _ h => h) (fun x u mx hu => s x u hu) fun x u mx _ => ?_
    show (if x = d ∨ x = l then some 1 else w x) = _
    rw [if_neg (wn x _ mx)]
    exact mx
  · cases j with
    | succ j => simp at hv
    | zero =>
      cases hv
      cases hq
      exact ⟨d, l, rfl, if_pos (.inl rfl), if_pos (.inr rfl), dl⟩
end
/-! ### what a draw does, by value -/
def psp_draw : PSp := fun as Q _ => ∃ n : Int, as = [.ow true .deal, .im (.int n)] ∧ 0 < n ∧ n < 2 ^ 200 ∧ ∀ k : Nat, (k : Int) < n → Q (.im (.int k)) as
theorem two_of {vs : List V} {as : List Sl} {a b : Sl} (hl : (vs.map some).length = as.length) (ha : as = [a, b]) : ∃ x y, vs = [x, y] := by
  subst ha
  match vs, hl with
  | [x, y], _ => exact ⟨x, y, rfl⟩
theorem conv_draw {K : PySem.W.Frag} {T : List NdefX.NTab} (vs : List V) (H : Hp) (Q : VK) (E : XK) (h : LSp K T psp_draw vs H Q E) : sp_draw vs H Q E := by
  obtain ⟨G, w, as, Qp, Ep, rep, _, ⟨n, rfl, h0, h1, hq⟩, k, _⟩ := h
  obtain ⟨x, y, rfl⟩ := two_of rep.len rfl
  obtain ⟨v, hv, d, l, rfl, wd, wl, dl⟩ := rep.sl 0 _ rfl
  obtain ⟨u, hu, dq⟩ := rep.sl 1 _ rfl
  cases hv
  cases hu
  cases dq
  refine ⟨d, l, n, rfl, h0, h1, dl, fun j H' j0 j1 but dl' => ?_⟩
  obtain ⟨st, r2⟩ := rep.deal (i := 0) rfl rfl wd wl dl but dl'
  obtain ⟨m, rfl⟩ := Int.eq_ofNat_of_zero_le j0
  exact k _ _ _ _ _ _ (hq m j1) rfl (st.trans .drop) (r2.ret (.int _))
def psp_deal : PSp := fun as Q _ => ∃ (b : Int) (ns : List Int), as = [.ow true (.scr ns), .im (.int b)] ∧ 0 ≤ b ∧ b ≤ 63 ∧ ns.length ≤ 1000 ∧ Q (.ow .deal) as
theorem conv_deal {K : PySem.W.Frag} {T : List NdefX.NTab} (vs : List V) (H : Hp) (Q : VK) (E : XK) (h : LSp K T psp_deal vs H Q E) : sp_deal K vs H Q E := by
  obtain ⟨G, w, as, Qp, Ep, rep, _, ⟨b, ns, rfl, h0, h1, hn, hq⟩, k, _⟩ := h
  obtain ⟨x, y, rfl⟩ := two_of rep.len rfl
  obtain ⟨v, hv, a, rfl, hs⟩ := rep.sl 0 _ rfl
  obtain ⟨u, hu, dq⟩ := rep.sl 1 _ rfl
  cases hv
  cases hu
  cases dq
  have sq : SqL K H a (ns.map V.int) := by
    rcases hs with ⟨o, _, ho⟩ | hs
    · exact .inl (.inr ⟨o, ho⟩)
    · exact hs H
  refine ⟨a, b, ns, rfl, sq, h0, h1, hn, fun d l H' s hd hl dl => ?_⟩
  obtain ⟨w', st, r2⟩ := rep.newDeal s hd hl dl
  exact k _ _ _ _ _ _ hq rfl st r2
/-! ### loops over range(n) -/
theorem rgD_get {a b : Int} {i : Nat} {d : PyData} (h : (rgD a b)[i]? = some d) : d = .int (a + (i : Nat)) ∧ i < (b - a).toNat := by
  unfold rgD at h
  rw [List.getElem?_map] at h
  obtain ⟨j, h1, h2⟩ := Option.map_eq_some_iff.mp h
  obtain ⟨h3, h4⟩ := List.getElem?_eq_some_iff.mp h1
  rw [List.getElem_range] at h4
  rw [List.length_range] at h3
  subst h4
  exact ⟨h2.symm, h3⟩
theorem rgD_len (a b : Int) : (rgD a b).length = (b - a).toNat := by unfold rgD; rw [List.length_map, List.length_range]
/-- for i in range(a, n): I at each turn -/
theorem for_rg2 {step : PyData → PSx} {ts : List Nat} {E : PEn} {n : Int} (a m : Nat) {δ : List Sl} (hn : n = m) (ham : a ≤ m) (I : Nat → List Sl → Prop) (h0 : I a δ) (hs : ∀ (i : Nat) δ, a ≤ i → i < m → I i δ → step (.int (i : Int)) ⟨fun δ' => I (i + 1) (wipeT δ' ts), E.rt, fun δ' => E.nx (wipeT δ' ts), fun δ' => I (i + 1) (wipeT δ' ts)⟩ δ) (he : ∀ δ, I m δ → E.nx δ) : loopI step ts E (rgD a n) δ := by
  subst hn
  refine ⟨fun i δ => I (a + i) δ, h0, fun i d δ hd hi => ?_, fun δ h => he δ ?_⟩
  · obtain ⟨rfl, hl⟩ := rgD_get hd
    have := hs (a + i) δ (by omega) (by omega) hi
    rw [Int.natCast_add] at this
    exact this
  · rw [rgD_len] at h
    have e : a + ((m : Int) - a).toNat = m := by omega
    rw [e] at h
    exact h
theorem for_rg {step : PyData → PSx} {ts : List Nat} {E : PEn} {n : Int} (m : Nat) {δ : List Sl} (hn : n = m) (I : Nat → List Sl → Prop) (h0 : I 0 δ) (hs : ∀ (i : Nat) δ, i < m → I i δ → step (.int (i : Int)) ⟨fun δ' => I (i + 1) (wipeT δ' ts), E.rt, fun δ' => E.nx (wipeT δ' ts), fun δ' => I (i + 1) (wipeT δ' ts)⟩ δ) (he : ∀ δ, I m δ → E.nx δ) : loopI step ts E (rgD 0 n) δ :=
  for_rg2 0 m hn (Nat.zero_le m) I h0 (fun i δ _ => hs i δ) he
end Pv
namespace Pv
open PySem PySem.Spec L2 Wf
/-! ### plain tuples: tuple(list) whose object is known; .index of them -/
/-! ### list.index of numbers -/
end Pv
namespace Pv
open PySem PySem.Spec L2 Wf
/-! ### a law, by value: of each script it tells True -/
/-- no tables -/
abbrev TB0 : List NdefX.NTab := []
def psp_law : PSp := fun as Q _ => ∃ ns : List Int, as = [.ow true (.scr ns)] ∧ ns.length ≤ 1000 ∧ Q (.im (.bool true)) [.ow true (.scr ns)]
theorem end_law {K : PySem.W.Frag} {H : Hp} {a : Addr} {ns : List Int} (hl : ns.length ≤ 1000) (hO : Only H) (hS : SqL K H a (ns.map V.int)) : LSp K [] psp_law [.ref a] H (fun v _ => v = .bl true) fun _ _ _ => False := by
  have fin : ∀ (G : Hp) (w : Addr → Option Nat), Rep K (B0 [] H w) G H [some (.ref a)] [.ow true (.scr ns)] [] [] w → LSp K [] psp_law [.ref a] H (fun v _ => v = .bl true) fun _ _ _ => False := fun G w r => by
    refine ⟨G, w, [.ow true (.scr ns)], fun r _ => r = .im (.bool true), noX, r, fun s hs => ?_, ⟨ns, rfl, hl, rfl⟩, fun r δ' v H' G' w' hr _ _ rep => ?_, xok_no⟩
    · rw [List.mem_singleton] at hs
      exact .inr (.inr ⟨_, hs⟩)
    · subst hr
      have : Dq K G' v (.bool true) := rep.tm 0 v _ rfl rfl
      cases this
      rfl
  rcases hS with h | h
  · have ho : ∃ o, H a = some (.frz o (.lst (ns.map V.int))) := by
      rcases hO a with z | ⟨o, xs, z⟩
      · rcases h with h | ⟨o, h⟩ <;> rw [z] at h <;> cases h
      · rcases h with h | ⟨o', h⟩
        · rw [z] at h; cases h
        · rw [z] at h; cases h; exact ⟨_, z⟩
    obtain ⟨o, ho⟩ := ho
    refine fin (fun _ => none) (fun b => if b = a then some 0 else none) ⟨(fun _ _ z => by cases z), fun b i hb => ?_, rfl, fun i s hs => ?_, rfl, fun j v q hv => by simp at hv, ⟨fun b u hb => ?_, .refl, fun p hp => by simp [B0] at hp, nofun⟩⟩
    · split at hb
      · rename_i e
        subst e
        exact ⟨rfl, by rw [ho]; exact Option.some_ne_none _, NoX.of ho (fun _ z => by cases z) (fun _ _ z => by cases z) (fun _ z => by cases z)⟩
      · cases hb
    · match i, hs with
      | 0, hs =>
        cases hs
        exact ⟨.ref a, rfl, a, rfl, .inl ⟨o, if_pos rfl, ho⟩⟩
      | i + 1, hs => simp at hs
    · exact B0_some hb
  · refine fin (fun _ => none) (fun _ => none) ⟨(fun _ _ z => by cases z), (fun _ _ z => by cases z), rfl, fun i s hs => ?_, rfl, fun j v q hv => by simp at hv, ⟨fun b u hb => B0_some hb, .refl, fun p hp => by simp [B0] at hp, nofun⟩⟩
    match i, hs with
    | 0, hs =>
      cases hs
      exact ⟨.ref a, rfl, a, rfl, .inr fun H1 => .inr h⟩
    | i + 1, hs => simp at hs
/-! ### a, b = e, f with names that comprehensions read -/
end Pv
namespace Pv
open PySem PySem.Spec L2 Wf
/-! ### what is caught: errors of one class C, by the name of C0; they are none of os -/
end Pv
namespace Pv
open PySem PySem.Spec L2 Wf
/-! ### abs, all, any, sorted -/
end Pv
namespace Pv
open PySem PySem.Spec L2 Wf
/-- whole numbers from 0 on, as data -/
abbrev nD (k : Nat) : PyData := .int (k : Int)
theorem nd1 (i : Nat) : [i].Nodup := by simp
/-! ### _law_mixed -/
/-! ### _law_order -/
end Pv
/-! Good books are let by. -/
namespace Wf
open PySem PySem.Spec L2
end Wf
/-! Books by value; rows; is_whole, table_number, pair_at. -/
namespace Pv
open PySem PySem.Spec L2 Wf
variable {B : Bas}
theorem fn_okG {T : List NdefX.NTab} {P : Program} {w : World} {K : PySem.W.Frag} {mg : Str → Option Value} {base : Heap} {CX : CXT} {k : Nat} {f : Addr} {fd : FuncData} {x qual : Str} {params : Arguments} {body : List Stmt} {scope : Scope} {dvs : List V} {kws : List (Str × V)} {N prm : List Str} {psp : PSp} {p : EX → PSx} {m n : Nat}
    (F : FunD K x qual params body scope dvs kws f fd) (S : FnScope N prm scope) (hN : N.length = m) (hn : prm.length = n) (hnm : n ≤ m) (hlen : ∀ as Qp Ep, psp as Qp Ep → as.length = n)
    (hb : ∀ (cdv : Value) (A : Around), A.guards = some [] → ∀ (outer : List Env) (s : Shared) (H : Hp) (E : XK) (Bh Bt : Hp) (Ep : EX), Room k (A.deeper (PyProof.Rows.envOfC qual scope s.heap.objs.size f cdv)) → XOk K ⟨Bh, Bt, T⟩ Ep E → JSs (cxOf CX P w K mg base N qual scope f cdv A outer s H E) ⟨Bh, Bt, T⟩ body (p Ep))
    (hp : ∀ as Qp Ep, psp as Qp Ep → p Ep (endsP as Qp) (as ++ List.replicate (m - n) .un)) : FnG P w K mg base CX (k + 1) f fd prm (LSp K T psp) := by
  have ln : ∀ vs H Q E, LSp K T psp vs H Q E → vs.length = n := fun vs H Q E ⟨G, w, as, Qp, Ep, rep, _, h, _⟩ => by
    have := rep.len
    rw [List.length_map, hlen as Qp Ep h] at this
    exact this
  refine okG F S (fun vs H Q E h => by rw [hn]; exact ln vs H Q E h) fun cdv A hG outer s H vs Q E hr h => ?_
  obtain ⟨Bh, Bt, Ep, hx, hl⟩ := fn_lift (N := N) (p := p) hN (fun as Qp Ep h => by rw [hlen as Qp Ep h]; exact hp as Qp Ep h) h (by rw [ln vs H Q E h]; exact hnm)
  exact ⟨_, hb cdv A hG outer s H E Bh Bt Ep hr hx, hl⟩
/-! ### books -/
end Pv
namespace Pv
open PySem PySem.Spec L2 Wf
/-! ### is_whole, is_letter -/
/-! ### table_number, pair_at -/
/-! ### rows -/
abbrev Wk := Int × Int
def RowOk (m s : Int) (r : List Wk) : Prop := ∀ p ∈ r, 0 ≤ p.1 ∧ p.1 < m ∧ 0 ≤ p.2 ∧ p.2 < s
def dK (ks : List Int) : PyData := .tuple (ks.map .int)
end Pv
namespace Pv
open PySem PySem.Spec L2 Wf
/-! ### _law_pairs -/
end Pv
namespace Pv
open PySem PySem.Spec L2 Wf
/-! ### _law_last -/
theorem noPin1 {δ : List Sl} {v : Nat} (h : ∀ o, δ[v]? ≠ some (.ow true o)) : noPin δ [v] := fun u hu o => by
  rw [List.mem_singleton] at hu
  subst hu
  exact h o
/-! ### _law_word -/
end Pv
namespace Pv
open PySem PySem.Spec L2 Wf
/-! ### orders -/
/-! ### sizes -/
end Pv
namespace Pv
open PySem PySem.Spec L2 Wf
/-! ### _law_row, _law_led -/
/-! ### data of rows, for repr and alike -/
end Pv
/-! Calls that draw: what stands in the slots stays, as it is written. -/
namespace Pv
open PySem PySem.Spec L2 Wf
/-- the deal in slot 1, or 0, stays -/
theorem pk1 {s0 s : Sl} {b : Bool} {d : PyData} {δ : List Sl} : putB (s0 :: .ow b .deal :: δ) [.at 1, .im d] [.ow true .deal, s] = s0 :: .ow b .deal :: δ := rfl
theorem pk0 {s : Sl} {b : Bool} {d : PyData} {δ : List Sl} : putB (.ow b .deal :: δ) [.at 0, .im d] [.ow true .deal, s] = .ow b .deal :: δ := rfl
end Pv
namespace Pv
open PySem PySem.Spec L2 Wf
variable {B : Bas}
/-! ### in, not in: texts or numbers in a tuple or list of such -/
/-! ### repr of a list -/
def fReprL : PyData → (PyData → Prop) → Prop
  | .list ds, k => (PyData.list ds).showable = true ∧ (PyData.list ds).depth ≤ 60 ∧ (PyData.list ds).shown.length ≤ sizeLine ∧ k (.str (PyData.list ds).shown)
  | _, _ => False
theorem lc_reprL {K : PySem.W.Frag} : LC K (q1 fReprL) (rRepr K) := by
  refine lc_im1 (fun G H v d Q s hv q => ?_) (fun d k k' hk q => ?_)
  · unfold fReprL at q
    split at q
    · obtain ⟨a, us, rfl, ha, hds⟩ := hv.seqL s
      exact ⟨a, _, rfl, hv.dp s, q.1, q.2.1, q.2.2.1, q.2.2.2 _ _ .str⟩
    · exact q.elim
  · unfold fReprL at q ⊢
    split at q
    · exact ⟨q.1, q.2.1, q.2.2.1, hk _ q.2.2.2⟩
    · exact q.elim
end Pv
/-! tuple(zip(t, u)), t and u tuples of one length -/
namespace Wf
open PySem PySem.Spec PyProof.Rows
end Wf
namespace Pv
open PySem PySem.Spec L2 Wf
/-! ### tuple(zip(t, u)) -/
end Pv
/-! Texts by value: their methods, str of a number, int of a text, f'..', join, split. -/
namespace Pv
open PySem PySem.Spec PyProof.Rows L2 Wf
end Pv
namespace Pv
open PySem PySem.Spec PyProof.Rows L2 Wf
/-! ### str(n), int(text) -/
end Pv
namespace Pv
open PySem PySem.Spec PyProof.Rows L2 Wf
end Pv
/-! x in t, x not in t: t a tuple of data of any depth. -/
namespace L2
open PySem PySem.Spec PyProof.Rows
end L2
namespace Pv
open PySem PySem.Spec L2 Wf
end Pv
/-! Tuples whose objects are known, also within: written ones, parts, sums; loops over them. -/
namespace Pv
open PySem PySem.Spec L2 Wf
/-! ### targets -/
/-! ### a written tuple of known things -/
end Pv
/-! Parts and sums of known tuples are known tuples. -/
namespace Pv
open PySem PySem.Spec L2 Wf
/-! ### a call that may raise, in a try, handed known tuples too -/
end Pv
/-! Texts by value, further: an item, a part, for over a text, x not in a text, list(text), text * n. -/
namespace L2
open PySem PySem.Spec PyProof.Rows
end L2
namespace Pv
open PySem PySem.Spec PyProof.Rows L2 Wf
end Pv
/-! Calls with keywords, and defs with a default for a keyword. -/
namespace Wf
open PySem PySem.Spec L2
theorem vals_app : ∀ {vs : List V} {us : List Value} {zs : List V} {ws : List Value}, Vals vs us → Vals zs ws → Vals (vs ++ zs) (us ++ ws)
  | _, _, _, _, .nil, h => h
  | _, _, _, _, .cons r t, h => .cons r (vals_app t h)
theorem kb_of {K : PySem.W.Frag} {x qual : Str} {params : Arguments} {body : List Stmt} {scope : Scope} {kws : List (Str × V)} {f : Addr} {fd : FuncData} {ps ks : List Str} {n : Nat} (F : FunD K x qual params body scope [] kws f fd)
    (h : ∀ (kV doc pm : Value) (an : Option Addr) (cdv ct : Value) (us ws : List Value), us.length = n → ws.length = ks.length → bindArgs (PySem.W.fnOf x qual params body scope .none kV doc pm an cdv ct) ⟨us, ks.zip ws⟩ = pure (ps.zip (us ++ ws))) : KBn K fd ps n ks (fun us ws => us ++ ws) (fun vs zs => vs ++ zs) := by
  obtain ⟨oc, od, dV, kV, doc, pm, an, cdv, ct, osl, rfl, lk, hcd, hD, hK⟩ := F.ex
  rcases hD with ⟨_, rfl⟩ | ⟨e, _⟩
  · exact ⟨fun s us ws _ h1 h2 => .of_eq (h kV doc pm an cdv ct us ws h1 h2), fun r1 r2 => vals_app r1 r2⟩
  · exact absurd rfl e
end Wf
namespace Pv
open PySem PySem.Spec L2 Wf
variable {B : Bas}
def JK (X : Cx) (B : Bas) (kws : List Keyword) (p : PL) : Prop := PK X kws (LA X.K B kws.length p)
theorem PK_wk {X : Cx} {kws : List Keyword} {t t' : TA} (h : PK X kws t) (k : ∀ σ H Q, t' σ H Q → t σ H Q) : PK X kws t' := ⟨fun pos pins s σ H Q I q => h.run pos pins s σ H Q I (k σ H Q q)⟩
section
variable {X : Cx}
theorem jk_nil : JK X B [] pNil := PK_wk pk_nil fun σ H Q ⟨G, w, δ, Qp, rep, q, k⟩ => k [] δ [] H G _ q rfl .drop rep.drop
theorem jk_cons {e : Expr} {kws : List Keyword} {nm : Option Str} {kpos : Pos} {p : PX} {ps : PL} (h : JE X B e p) (hs : JK X B kws ps) : JK X B (⟨nm, e, kpos⟩ :: kws) (pCons p ps) := by
  refine PK_wk (pk_cons h hs) fun σ H Q ⟨G, w, δ, Qp, rep, q, k⟩ => ?_
  refine ⟨G, w, δ, _, rep, q, fun r δ1 v H1 G1 w1 q1 s1 rep1 => ?_⟩
  refine ⟨G1, _, δ1, _, rep1.drop, q1, fun rs δ2 vs H2 G2 w2 q2 l2 s2 rep2 => ?_⟩
  obtain ⟨w3, s3, rep3⟩ := rep1.frame s2 rep2
  exact k _ δ2 _ H2 G2 w3 q2 (congrArg (· + 1) l2) (s1.trans s3) rep3
end
end Pv
/-! t[::-1] of a tuple, in the model. -/
namespace Wf
open PySem PySem.Spec PyProof.Rows
end Wf
namespace Pv
open PySem PySem.Spec L2 Wf
/-! ### isinstance(caught error, a built-in class) -/
/-! ### t[::-1] of a tuple -/
end Pv
/-! A def that is handed the caught error. -/
namespace Wf
open PySem PySem.Spec PyProof.Rows L2
/-! ### what is asked of an error that the base holds -/
end Wf
namespace L2
open PySem PySem.Spec PyProof.Rows
end L2
namespace Pv
open PySem PySem.Spec L2 Wf
/-! ### the def that is handed the caught error, and its call -/
end Pv
/-! Errors that are held as values: made, their fields, isinstance (for k01; first stones). -/
namespace Wf
open PySem PySem.Spec PyProof.Rows L2
section
variable {X : Cx}
/-- what makes an error that is raised makes one that is kept -/
theorem pe_of_pmk {e : Expr} {t : L2.St → Hp → XK → Prop} (he : PMk X e t) : PE X e (fun σ H Q => t σ H fun cls d H' => ∃ dd, d = some dd ∧ ∀ a, H' a = none → Q (.ref a) (upd H' a (ExD cls dd a))) := by
  refine ⟨fun pins s σ H Q I h => wpAny_mono (he pins s σ H _ I h) (fun u s1 hu => ?_) fun _ _ x => x⟩
  obtain ⟨a, oe, vs, sI, H', cls, d, rfl, J, k, hne, ha, hz, hd, h1, na, os, ag, _, dd, rfl, q⟩ := hu
  have J2 := J.laidN (h' := s1.heap) (t' := s1.toks) (o := ExD cls dd a) k hne na (exD_ok ha hz hd h1)
  exact ⟨.ref a, _, ⟨J2.ok, os.trans J.os, ag, J2.base, J2.loc, J2.cell, J2.free, J2.freeC, J2.pin, J2.hok, J2.len⟩, rfl, q a na⟩
/-- isinstance of a kept error -/
def rIsV (K : PySem.W.Frag) : List V → Hp → VK → Prop := fun xs H Q => ∃ (a C dd : Addr) (fs : List (Str × V)) (c : V) (b : Bool), H a = some (ExD (.ref C) dd a) ∧ IsC K C ∧ H dd = some (.xd fs) ∧
  ((∃ u, xs = [.ref a, c] ∧ ClsV c u ∧ PySem.W.kitOne K (.ref C) u = some b) ∨ ∃ tp cs us, xs = [.ref a, .ref tp] ∧ H tp = some (.tup cs) ∧ Paired ClsV cs us ∧ PySem.W.kitAny K (.ref C) us = some b) ∧ Q (.bl b) H
theorem call_isV : CallR X (.builtin "isinstance") (rIsV X.K) := by
  intro pins s σ H xs us Q I r h
  obtain ⟨a, C, dd, fs, c, b, hA, T, hdd, alt, q⟩ := h
  obtain ⟨⟨oe, vs, ha, hz, hd, _⟩, _, _⟩ := I.hok a _ hA
  have hx : ObjOk X.prog X.w H s.heap dd (.xd fs) := I.hok dd _ hdd
  obtain ⟨mA, hns, hr⟩ := hx
  obtain ⟨od, ho, hl⟩ := lookIn_ns hns
  have J : PySem.W.InstAt s.heap a oe C (some od) := ⟨ha, hz.1, by unfold PySem.W.notCls; rw [hd] <;> rfl, by rw [hz.2]; exact ho⟩
  have Z := PySem.W.kitx_exc (x := a) (ox := oe) (od := some od) T.cl T.ga T.gg T.su T.ha T.hn T.ht T.hm
  rcases alt with ⟨u, rfl, kc, e⟩ | ⟨tp, cs, ws, rfl, hT, kc, e⟩
  · obtain ⟨u1, u2, rfl, r1, r2⟩ := vals2 r
    cases (show u1 = Value.ref a from r1)
    have e2 := kc.eq r2
    subst e2
    exact PySem.W.kia_one Z I.kIn J e (fun z => nomatch z) fun tk => ⟨.bl b, H, I.tok tk, rfl, q⟩
  · obtain ⟨u1, u2, rfl, r1, r2⟩ := vals2 r
    cases (show u1 = Value.ref a from r1)
    cases (show u2 = Value.ref tp from r2)
    obtain ⟨_, its, rv, o, h1, h2, n, h3⟩ := (show ObjOk X.prog X.w H s.heap tp (.tup cs) from I.hok tp _ hT)
    have e3 := ClsV.all kc rv
    subst e3
    obtain ⟨oc, odd, dt, sl⟩ := o
    simp only at h2 h3
    subst h2 h3
    exact PySem.W.kia_tup Z I.kIn J h1 e (fun z => nomatch z) fun tk => ⟨.bl b, H, I.tok tk, rfl, q⟩
end
end Wf
/-! An own error made by a call with keywords only. -/
namespace PySem
namespace HandSPX
open PySem.Spec PyProof.Rows
section
variable {M : Model} {A : Around} {E : Value → Shared → Prop} {h : Heap} {g : Array GenState} {d : Drawn} {t : Nat} {os : OsState}
variable {nm q : Str} {C N : Addr} {bs bm bmB : List Value} {hdct : Bool} {sn : List Str} {sub : List Value} {ab : Bool} {col : Option Bool} {dd : Option Addr} {k0 k1 k2 k3 k5 : Option Value} {B newId initId : String}
theorem check_new_ownK (F : ExcBaseFacts B newId initId bmB) (hT : ∀ X : String, bm.contains (.type X) = bmB.contains (.type X)) {kw : List (Str × Value)} {Q : Unit → Shared → Prop}
    (hC : h.get? C = some (excClassObj nm q C N bs bm hdct sn sub ab col dd k0 k1 k2 k3 k5 newId)) (hq : Q () ⟨h, g, d, t, os⟩) : wpAny M A (checkBuiltinCall newId ⟨[.ref C], kw⟩) Q E ⟨h, g, d, t, os⟩ := by
  have hcont : (Value.ref C :: bm).contains (.type B) = true := by rw [List.contains_cons, hT, F.hasB, Bool.or_true]
  have hstar := F.noStar
  simp only [checkBuiltinCall, F.newKind, F.newSplit, F.newRow]
  repeat (first | refine wpAny_loadPart_at hC ?_ | (refine wpAny_isSubtype_exc hC ?_; rw [hcont]) | refine wpAny_staticBase_exc hC ?_ | refine wpAny_madeBy_exc hC ?_ | simp only [bne_self_eq_false, Bool.false_eq_true, if_false] | wp_step)
  exact hq
end
section
variable {prog : Program} {w : World} {A : Around} {E : Value → Shared → Prop} {R : Result → Shared → Prop} {h : Heap} {g : Array GenState} {d : Drawn} {t : Nat} {os : OsState}
variable {nm q : Str} {C N : Addr} {bs bm bmB : List Value} {hdct : Bool} {sn : List Str} {sub : List Value} {ab : Bool} {col : Option Bool} {dd : Option Addr} {k0 k1 k2 k3 k5 : Option Value} {B newId initId : String}
theorem new_ownK (F : ExcBaseFacts B newId initId bmB) (hT : ∀ X : String, bm.contains (.type X) = bmB.contains (.type X)) {kw : List (Str × Value)}
    (hC : h.get? C = some (excClassObj nm q C N bs bm hdct sn sub ab col dd k0 k1 k2 k3 k5 newId))
    (hq : R (.ok (.ret (.ref (h.objs.size + 1)))) ⟨(h.push { cls := .type "tuple", data := .seq #[] }).push
      { cls := .ref C, data := .fields #[.ref h.objs.size, .none, .none, .none, .bool false, .none] }, g, d, t, os⟩) :
    codeAny (model prog w) A (.builtin newId ⟨[.ref C], kw⟩) R ⟨h, g, d, t, os⟩ := by
  have hends := F.ends
  have hcB : (Value.ref C :: bm).contains (.type B) = true := by rw [List.contains_cons, hT, F.hasB, Bool.or_true]
  have hcA : (Value.ref C :: bm).contains (.type "AttributeError") = false := by rw [List.contains_cons, hT, F.noAttr]; rfl
  have hcN : (Value.ref C :: bm).contains (.type "NameError") = false := by rw [List.contains_cons, hT, F.noName]; rfl
  refine codeAny_builtinAt F.entry ?_
  unfold Builtin.«BaseException.__new__»
  refine wpAt_bind ?_
  show wpAt _ _ _ (stack >>= _) _ _ _
  refine wpAt_bind (wpAt_stack fun p below => wpAt_of_wpAny ?_)
  wp_walk
  refine wpAt_of_wpAny ?_
  rw [F.owner]
  repeat (first | with_reducible refine wpAny_madeHere_exc F.canon hC ?_ | with_reducible refine wpAny_loadPart_at hC ?_ | (with_reducible refine wpAny_isSubtype_exc hC ?_; first | rw [hcB] | rw [hcA] | rw [hcN]) | wp_step)
  show R _ _
  rw [Heap.size_push]
  exact hq
theorem check_tc_K {M : Model} {A : Around} {E : Value → Shared → Prop} {kw : List (Str × Value)} {Q : Unit → Shared → Prop} (hC : h.get? C = some (excClassObj nm q C N bs bm hdct sn sub ab col dd k0 k1 k2 k3 k5 newId))
    (hq : Q () ⟨h, g, d, t, os⟩) : wpAny M A (checkBuiltinCall "type.__call__" ⟨[.ref C], kw⟩) Q E ⟨h, g, d, t, os⟩ := by
  have f3 := tc_sub
  have hT : (⟨h, g, d, t, os⟩ : Shared).TypeIs (.ref C) "type" := ⟨_, hC, rfl⟩
  simp only [checkBuiltinCall, tc_kind, tc_split]
  repeat (any_goals (first | assumption | with_reducible refine wpAny_loadPart_at hC ?_ | with_reducible refine wpAny_onRaise ?_ | with_reducible refine wpAny_map ?_ | wp_step))
theorem type_call_ownK (F : ExcBaseFacts B newId initId bmB) (hT : ∀ X : String, bm.contains (.type X) = bmB.contains (.type X)) {kw : List (Str × Value)} {fI : Addr} {Q : Fin → Shared → Prop}
    (hC : h.get? C = some (excClassObj nm q C N bs bm hdct sn sub ab col dd k0 k1 k2 k3 k5 newId))
    (hi : W.Looks (model prog w) h (typeLookup (.ref C) "__init__") (some (.ref fI))) (hb : ∀ self, W.Looks (model prog w) h (bindSpecial (.ref fI) self) (.ref fI, [self]))
    (hq : codeAny (model prog w) A (.call (.ref fI) ⟨[.ref (h.objs.size + 1)], kw⟩)
      (fun r s' => match r with | .ok (.ret v) => v = .none ∧ Q (.done (.ret (.ref (h.objs.size + 1)))) s' | .ok _ => False | .error e => E e s')
      ⟨(h.push (W.kdv_tup [])).push (excO C h.objs.size), g, d, t, os⟩) :
    wpAny (model prog w) A (Builtin.«type.__call__» ⟨[.ref C], kw⟩) Q E ⟨h, g, d, t, os⟩ := by
  repeat (first | with_reducible refine wpAny_loadPart_at hC ?_ | with_reducible refine wpAny_madeBy_exc hC ?_ | wp_step)
  refine codeAny_call_builtin_code (Code.quiet_builtin _ F.quiet) (check_new_ownK F hT hC ?_)
  refine new_ownK F hT hC ?_
  show wpAny _ _ _ _ _ _
  have k : ∀ b o, h.get? b = some o → ((h.push (W.kdv_tup [])).push (excO C h.objs.size)).get? b = some o := fun b o e => Heap.get?_push_of_some _ (Heap.get?_push_of_some _ e)
  have hC₁ := k _ _ hC
  have hget : ((h.push (W.kdv_tup [])).push (excO C h.objs.size)).get? (h.objs.size + 1) = some (excO C h.objs.size) := by heap_get
  have hcC : (Value.ref C :: bm).contains (.ref C) = true := by simp
  have i1 := hi.keeps k
  have b1 := (hb (.ref (h.objs.size + 1))).keeps k
  unfold isInstance
  repeat (first | with_reducible refine wpAny_loadPart_at hget ?_ | (with_reducible refine wpAny_isSubtype_exc hC₁ ?_; rw [hcC]) | wp_step)
  show wpAny _ _ (typeLookup (.ref C) _) _ _ _
  refine i1.at ?_
  refine wpAny_holding (wpAny_bind (b1.at ?_))
  refine wpAny_bind (wpAny_call (codeAny_mono hq fun r s' z => ?_))
  rcases r with e | (v | _ | _ | _) <;> first | exact z | exact z.elim | skip
  obtain ⟨rfl, z⟩ := z
  first
    | exact wpAny_pure (wpAny_pure z)
    | (wp_walk; exact z)
theorem call_ownK (F : ExcBaseFacts B newId initId bmB) (hT : ∀ X : String, bm.contains (.type X) = bmB.contains (.type X)) {kw : List (Str × Value)} {fI : Addr}
    (hC : h.get? C = some (excClassObj nm q C N bs bm hdct sn sub ab col dd k0 k1 k2 k3 k5 newId))
    (hi : W.Looks (model prog w) h (typeLookup (.ref C) "__init__") (some (.ref fI))) (hb : ∀ self, W.Looks (model prog w) h (bindSpecial (.ref fI) self) (.ref fI, [self]))
    (hq : codeAny (model prog w) (A.under (.builtin "type.__call__" ⟨[.ref C], kw⟩)) (.call (.ref fI) ⟨[.ref (h.objs.size + 1)], kw⟩) (W.InitBack (h.objs.size + 1) R)
      ⟨(h.push (W.kdv_tup [])).push (excO C h.objs.size), g, d, t, os⟩) :
    codeAny (model prog w) A (.call (.ref C) ⟨[], kw⟩) R ⟨h, g, d, t, os⟩ := by
  have f1 := tc_lookup
  have f2 := tc_bind (.ref C)
  have hTy : (⟨h, g, d, t, os⟩ : Shared).TypeIs (.ref C) "type" := ⟨_, hC, rfl⟩
  refine codeAny_of_tree ?_
  show wpAny _ _ (callAny (.ref C) _) _ _ _
  repeat (any_goals (first | assumption | with_reducible refine wpAny_loadPart_at hC ?_ | wp_step))
  refine ⟨rfl, ?_⟩
  refine codeAny_call_builtin_at (Code.quiet_builtin _ (by decide +kernel)) entry_typeCall (check_tc_K hC (type_call_ownK F hT hC hi hb ?_))
  refine codeAny_mono hq fun r s' z => ?_
  rcases r with e | (v | _ | _ | _) <;> exact z
end
end HandSPX
end PySem
/-! C(k = e, ..), C an own error class with its own __init__: made, and kept as a value. -/
namespace L2
open PySem PySem.Spec PyProof.Rows
def tMkK (C : Addr) (m : Nat) (sp : Sp) (gV : List V → List V → List V) (tk : TA) : St → Hp → XK → Prop := fun σ H Q => tk σ H fun zs H1 => zs.length = m ∧ ∀ a, H1 a = none → sp (gV [.ref a] zs) (upd H1 a (exo a C none))
  (fun v H2 => v = .non ∧ ∃ (d : Addr) (fs : List (Str × V)), H2 a = some (exo a C (some d)) ∧ H2 d = some (exd d fs) ∧ H1 d = none ∧ Q (.ref C) (some d) (upd (del H2 a) d (.xd fs))) (fun _ _ _ => False)
section
variable {X : Cx} {CX : CXT} {x : Str} {C fI : Addr} {k : Nat} {fd : FuncData} {ps ks : List Str} {sp : Sp} {kws : List Keyword} {tk : TA} {p pos : Pos} {g : List Value → List Value → List Value} {gV : List V → List V → List V}
theorem pmk_oexK (T : OexC X.K C) (iC : PySem.W.findIn X.K (.ref C) "__init__" = some (some (.ref fI))) (tI : PySem.W.typeIn X.K (.ref fI) = some (.type "function"))
    (F1 : FnOk X.prog X.w X.K X.mg X.base CX k fI fd ps sp) (hr : Room (k + 1) X.A) (hb : KBn X.K fd ps 1 ks g gV) (hx : Passes CX X (fun _ _ _ => False)) (hg : Gl X x) (hm : X.mg x = some (.ref C))
    (hkw : PK X kws tk) (hall : (backToKw pos (keywordEach kws X.env)).all (·.1.isSome) = true := by rfl) (hks : (backToKw pos (keywordEach kws X.env)).filterMap (·.1) = ks := by rfl)
    (hdb : (x == ("__debug__" : Str)) = false := by decide) (hpl : ((backTo pos (starEach [] X.env)).any (·.1) || (backToKw pos (keywordEach kws X.env)).any (·.1.isNone)) = false := by rfl) :
    PMk X (.Call (.Name x p) [] kws pos) (tMkK C ks.length sp gV tk) := by
  intro pins s σ H Q I h
  obtain ⟨nm, q, N, bs, bm, sn, sub, ab, col, dd, k0, k1, k2, k3, k5, hC, hbm⟩ := T.cls
  refine wpAny_Call_Name_kw (ld_glob I hg hm ?_ hdb)
  refine PySem.W.callWith_KW0 (h₀ := X.base) I.ok.mod.kin T.kC hall (thn (hkw.run pos pins s σ H _ I h) fun ws s1 ⟨zs, H1, I1, rz, l2, q1⟩ => ⟨I1.kIn, ?_⟩) hpl
  rw [hks]
  show wpAny _ _ (call (.ref C) [] (ks.zip ws)) _ _ _
  obtain ⟨hp, g', dr, tk', os⟩ := s1
  have hsz : hp.objs.size ≤ hp.objs.size + 1 := Nat.le_succ _
  have hn : H1 (hp.objs.size + 1) = none := I1.hok.fresh hsz
  have hq := q1 (hp.objs.size + 1) hn
  have kk : ∀ b o, hp.get? b = some o → ((hp.push (PySem.W.kdv_tup [])).push (PySem.HandSPX.excO C hp.objs.size)).get? b = some o := fun b o e => Heap.get?_push_of_some _ (Heap.get?_push_of_some _ e)
  have hget : ((hp.push (PySem.W.kdv_tup [])).push (PySem.HandSPX.excO C hp.objs.size)).get? (hp.objs.size + 1) = some (PySem.HandSPX.excO C hp.objs.size) := by heap_get
  have I2 : Inv X pins σ (upd H1 (hp.objs.size + 1) (exo (hp.objs.size + 1) C none)) ⟨(hp.push (PySem.W.kdv_tup [])).push (PySem.HandSPX.excO C hp.objs.size), g', dr, tk', os⟩ :=
    I1.laid (t' := tk') (a := hp.objs.size + 1) (o := exo (hp.objs.size + 1) C none) (h' := (hp.push (PySem.W.kdv_tup [])).push (PySem.HandSPX.excO C hp.objs.size)) kk hsz (exo_ok hget)
  have r1 : Vals [V.ref (hp.objs.size + 1)] [Value.ref (hp.objs.size + 1)] := .cons rfl .nil
  have r2 := hb.rel r1 rz
  have e2 : ws.length = ks.length := rz.length.symm.trans l2
  refine wpAny_call (PySem.HandSPX.call_ownK F.excBase_ValueError (fun Y => PySem.HandSPX.refsVE_contains Y bm hbm) (I1.kIn _ _ hC) (PySem.W.looks_findIn I1.kIn iC) (fun self => PySem.W.bind_fn I1.kIn self tI)
    (codeAny_mono (F1.run _ X.stack _ _ ⟨[Value.ref (hp.objs.size + 1)], ks.zip ws⟩ (g [Value.ref (hp.objs.size + 1)] ws) _ _ (fun _ _ _ => False) (hr.make C [] (ks.zip ws)) (I2.env0.make C [] (ks.zip ws)) (hb.to _ [Value.ref (hp.objs.size + 1)] ws I2.kIn rfl e2) r2 hq) fun r s' hq' => ?_))
  cases r with
  | error er => exact hx pins σ _ _ er s' I2 hq'
  | ok fl =>
    cases fl with
    | ret u =>
      obtain ⟨v, H2, os2, bare2, un2, hok2, rv, ev, d, fs, ea, ed, hd1, q2⟩ := hq'
      subst ev
      obtain ⟨h2, g2, d2, t2, os'⟩ := s'
      exact ⟨rv, mk_end (raises_own T.exC T.tyC) I1 hsz kk un2 hok2 os2 bare2 ea ed hd1 q2⟩
    | next => exact False.elim hq'
    | brk => exact False.elim hq'
    | cont => exact False.elim hq'
end
end L2
/-! An own error right under IndexError: one field, made and raised. -/
namespace Wf
open PySem PySem.Spec PyProof.Rows L2 PySem.Builtin PySem.Builtin.ObjectAttr
abbrev ieTail : List Value := [.type "IndexError", .type "LookupError", .type "Exception", .type "BaseException", .type "object"]
structure OexI (K : PySem.W.Frag) (C : Addr) : Prop where
  cls : ∃ nm q N bs sn sub ab col dd k0 k1 k2 k3 k5, K.lookup C = some (excClassObj nm q C N bs ieTail true sn sub ab col dd k0 k1 k2 k3 k5 "IndexError.__new__")
  ov : PySem.W.excOver K C ieTail = true
  sa : PySem.W.findIn K (.ref C) "__setattr__" = some (some (.builtin "object.__setattr__"))
  exC : PySem.W.subIn K (.ref C) (.type "BaseException") = some true
  tyC : PySem.W.typeIn K (.ref C) = some (.type "type")
  kC : PySem.W.keepIn K (.ref C) = true
section
variable {X : Cx} {pins : List (Addr × Obj)} {σ : L2.St} {H : Hp} {s : Shared} {a C : Addr} {f : Str} {y : V} {u : Value} {E : Value → Shared → Prop} {A : Around}
/-- what the first store of a field leaves -/
theorem store_first {Q : Unit → Shared → Prop} (T : OexI X.K C) (I : Inv X pins σ H s) (e : H a = some (exo a C none)) (ht : PySem.W.takerIn X.K C f = some none)
    (h : ∀ (dx t1 : Addr) (h' : Heap) (t' : Nat), (∀ b o, b ≠ a → s.heap.get? b = some o → h'.get? b = some o) → s.heap.objs.size ≤ dx → dx ≠ a →
      h'.get? a = some { cls := .ref C, dict := some dx, data := .fields #[.ref t1, .none, .none, .none, .bool false, .none] } → h'.Ns1 dx (fun z => if z = f then some u else none) → Q () { s with heap := h', toks := t' }) :
    wpAny (model X.prog X.w) A (setAttr (.ref a) f u) Q E s := by
  obtain ⟨nm, q, N, bs, sn, sub, ab, col, dd, k0, k1, k2, k3, k5, hC⟩ := T.cls
  obtain ⟨t1, ho⟩ := exo_at I.hok e
  obtain ⟨hp, g, d, t, os⟩ := s
  have J : PySem.W.InstAt hp a { cls := .ref C, data := .fields #[.ref t1, .none, .none, .none, .bool false, .none] } C none := ⟨ho, rfl, rfl, trivial⟩
  have ne : a ≠ hp.objs.size := Nat.ne_of_lt (Heap.lt_size ho)
  have hcd : PySem.W.clsIn X.K C = some { name := nm, bases := bs, mro := .ref C :: ieTail, ns := N, qualname := q, hasDict := true, slotNames := sn, subclasses := sub, abstract := ab, collection := col, hasDel := false } := by unfold PySem.W.clsIn; rw [hC] <;> rfl
  have look : PySem.W.Looks (model X.prog X.w) hp (classData C) _ := PySem.W.looks_clsIn I.kIn hcd
  refine PySem.W.set_plain I.kIn J T.sa (PySem.W.osa_openX PySem.F.store_IndexError I.kIn J T.ov ht fun b => ?_)
  show wpAny _ _ (storeInOwnDict (.ref a) (.ref C) (.str f _) f u b) _ _ _
  unfold storeInOwnDict ownDictForStores
  repeat (first | with_reducible refine PySem.HandSPX.store_in_new ?empty ?next | with_reducible refine wpAny_loadPart_at ho ?_ | with_reducible refine look.at ?_ | wp_step)
  case empty => exact ⟨_, #[], _, (Heap.get?_update_ne _ _ _ _ ne.symm).trans (Heap.get?_push_at rfl rfl), rfl, fun e he => absurd he (by simp), fun _ => rfl⟩
  case next =>
    intro h' t2 hn hs
    have old : (hp.push { cls := .type "dict", data := .dict #[] }).get? a = some { cls := .ref C, data := .fields #[.ref t1, .none, .none, .none, .bool false, .none] } := Heap.get?_push_of_some _ ho
    have at_ : ((hp.push { cls := .type "dict", data := .dict #[] }).update a fun o => { cls := o.cls, dict := some hp.objs.size, data := o.data, slots := o.slots }).get? a = some { cls := .ref C, dict := some hp.objs.size, data := .fields #[.ref t1, .none, .none, .none, .bool false, .none] } := Heap.get?_update_self _ old rfl
    refine h hp.objs.size t1 h' t2 (fun b o hb ho => ?_) (Nat.le_refl _) ne.symm ((hs.2 a ne).trans at_) hn
    rw [hs.2 b (Nat.ne_of_lt (Heap.lt_size ho)), Heap.get?_update_ne _ _ _ _ hb]
    exact Heap.get?_push_of_some _ ho
/-- self.f = y, the first field -/
theorem ost_first {Q : Unit → Shared → Prop} (T : OexI X.K C) (I : Inv X pins σ H s) (e : H a = some (exo a C none)) (ht : PySem.W.takerIn X.K C f = some none) (ry : RelV y u)
    (h : ∀ dx s', H dx = none → dx ≠ a → Inv X pins σ (upd (upd H dx (exd dx [(f, y)])) a (exo a C (some dx))) s' → Q () s') : wpAny (model X.prog X.w) A (setAttr (.ref a) f u) Q E s := by
  refine store_first T I e ht fun dx t1 h' t' keep big ne hx hn => ?_
  have fresh : H dx = none := I.hok.fresh big
  have lt : ∀ {b : Addr} {o : Obj}, s.heap.get? b = some o → b ≠ dx := fun q => Nat.ne_of_lt (Nat.lt_of_lt_of_le (Heap.lt_size q) big)
  have no : ∀ {b : Addr} {o : HO}, H b = some o → o ≠ exo a C none → b ≠ a := fun {b o} q z w => by
    rw [w, e] at q
    exact z (Option.some.inj q).symm
  have to : ∀ {b : Addr} {o : HO}, H b = some o → o ≠ exo a C none → upd (upd H dx (exd dx [(f, y)])) a (exo a C (some dx)) b = some o := fun {b o} q z => by
    rw [upd_ne (no q z), upd_ne (fun w => by rw [w, fresh] at q; cases q), q]
  have U : Un X.fs [] H (upd (upd H dx (exd dx [(f, y)])) a (exo a C (some dx))) s.heap h' := by
    constructor
    · exact fun b o q n _ _ => keep b o (fun w => by rw [w, e] at n; cases n) q
    · exact fun b o q n _ _ => ⟨o.slots, keep b o (fun w => by rw [w, e] at n; cases n) q⟩
    · intro b o q n _
      have hb : b ≠ a := fun w => by rw [w, e] at n; cases n
      rw [upd_ne hb, upd_ne (lt q), n]
    · intro b o q _
      by_cases hb : b = a
      · exact ⟨_, hb ▸ hx⟩
      · exact ⟨o, keep b o hb q⟩
    · exact fun b xs q => to q exo_tup.symm
    · exact fun b o v q => to q exo_frz.symm
    · exact fun b ps q => ⟨#[], by rw [to q exo_tbl.symm]; simp⟩
  have ok : HOk X.prog X.w (upd (upd H dx (exd dx [(f, y)])) a (exo a C (some dx))) h' := by
    intro b o q
    by_cases hb : b = a
    · subst hb
      rw [upd_same] at q
      cases q
      exact exo_ok hx
    rw [upd_ne hb] at q
    by_cases hd : b = dx
    · subst hd
      rw [upd_same] at q
      cases q
      exact exd_ok hn (relO_put (fs := []) (mA := fun _ => none) ry fun _ => True.intro)
    rw [upd_ne hd] at q
    refine (I.hok b o q).stay (fun c v hc z => keep c v ?_ z) (fun c hc => to hc exo_own.symm) (fun c xs hc => to hc exo_tup.symm)
    rcases hc with hc | hc
    · rw [hc]; exact hb
    · exact no hc exo_own.symm
  exact h dx _ fresh ne (I.un (t' := t') U ok)
/-- IndexError.__init__(self, ..) -/
theorem first_init {us : List Value} {Q : Value → Shared → Prop} (T : OexI X.K C) (I : Inv X pins σ H s) (e : H a = some (exo a C none)) (hl : us.length ≤ sizeLine) (h : ∀ s', Inv X pins σ H s' → Q .none s') :
    wpAny (model X.prog X.w) A (call (.builtin "IndexError.__init__") (.ref a :: us)) Q E s := by
  obtain ⟨nm, q, N, bs, sn, sub, ab, col, dd, k0, k1, k2, k3, k5, hC⟩ := T.cls
  obtain ⟨t1, ho⟩ := exo_at I.hok e
  obtain ⟨hp, g, d, t, os⟩ := s
  refine wpAny_call (PySem.HandSPX.init_base F.excBase_IndexError (fun _ => rfl) (I.kIn _ _ hC) ho hl fun h' t2 keep hx => h _ ?_)
  have same : upd H a (exo a C none) = H := funext fun b => by
    by_cases hb : b = a
    · rw [hb, upd_same, e]
    · rw [upd_ne hb]
  have J := I.write (t' := t) (x := a) (e := a) (o := exo a C none) (by rw [e]; exact True.intro) (.inl rfl) keep ⟨_, hx⟩ (exo_ok hx)
  rw [same] at J
  exact J
end
/-! ### readings -/
def tFi (K : PySem.W.Frag) (ta : TA) : TE := fun σ H Q => ta σ H fun vs H1 => ∃ (a C : Addr) (ws : List V), vs = .ref a :: ws ∧ ws.length ≤ 1000 ∧ OexI K C ∧ H1 a = some (exo a C none) ∧ Q .non H1
def tFs (K : PySem.W.Frag) (f : Str) (to te : TE) : TS := fun D σ H => te σ H fun y H1 => to σ H1 fun x H2 => ∃ a C : Addr, x = .ref a ∧ OexI K C ∧ PySem.W.takerIn K C f = some none ∧ H2 a = some (exo a C none) ∧ ∀ dx, H2 dx = none → dx ≠ a → D.nx σ (upd (upd H2 dx (exd dx [(f, y)])) a (exo a C (some dx)))
theorem typ_IE : typeOf (.type "IndexError") = pure (.type "type") := by kernel_rfl
section
variable {X : Cx} {o e : Expr} {es : List Expr} {to te : TE} {ta : TA} {f : Str} {p' p1 p2 pos : Pos}
theorem pe_fi {pl : Sem Bool} (hg : Gl X "IndexError") (hm : X.mg "IndexError" = none) (vI : PySem.W.findCls X.K (.type "IndexError") (.type "type") "__init__" = some (.val (.builtin "IndexError.__init__"))) (ha : PA X (e :: es) ta)
    (hc : eval (.Call (.Attribute (.Name "IndexError" p1) "__init__" p2) (e :: es) [] pos) X.env = (do
      let ov ← eval (.Name "IndexError" p1) X.env
      standAt p2.atName
      let (f, first) ← holding [ov] (getMethod ov "__init__" pl)
      callWith pos f first (backTo pos (starEach (e :: es) X.env)) (backToKw pos (keywordEach [] X.env))) := by rfl)
    (he : starEach (e :: es) X.env = (false, eval e X.env) :: starEach es X.env := by rfl) (hpl : (backTo pos (starEach es X.env)).any (·.1) = false := by rfl) :
    PE X (.Call (.Attribute (.Name "IndexError" p1) "__init__" p2) (e :: es) [] pos) (tFi X.K ta) := by
  refine ⟨fun pins s σ H Q I h => PySem.W.methodCall_KW (ld_blt I hg hm (show bootBuiltins "IndexError" = some (.type "IndexError") by decide +kernel) ?_ (by decide) (by decide)) hc⟩
  obtain ⟨m, fr⟩ := I.fr
  refine PySem.W.method_type fr I.ok.mod.kin typ_IE (by decide +kernel) vI (by decide +kernel) ?_
  show wpAny _ _ (callWith pos (Value.builtin "IndexError.__init__") [] (backTo pos (starEach (e :: es) X.env)) []) _ _ _
  refine PyProof.Rows.callWith_method1 (thn (ha.run pos pins _ σ H _ (I.tok _) h) fun us s1 ⟨vs, H1, I1, r1, a, C, ws, ev, hl, T, ea, q⟩ => ?_) he hpl
  subst ev
  cases r1 with
  | @cons _ u0 _ ur ra rw' =>
    cases (show u0 = Value.ref a from ra)
    have len : ur.length ≤ sizeLine := by have := Paired.length rw'; have := sizeLine_eq; omega
    exact first_init T I1 ea len fun s' J => ⟨.non, H1, J, rfl, q⟩
theorem ps_fs (ho : PE X o to) (he : PE X e te) (hs : swapsWith e (some (.Attribute o f p')) pos.line X.env = pure false := by rfl) : PS X (.Assign [.Attribute o f p'] e pos) (tFs X.K f to te) := by
  refine ⟨fun pins s σ H D I h => plainObj_wpAny_Assign_Attribute (thn (he.run pins s σ H _ I h) fun v s1 ⟨y, H1, I1, r1, q1⟩ => thn (ho.run pins s1 σ H1 _ I1 q1) fun u s2 ⟨x, H2, I2, r2, a, C, ex, T, ht, ea, q⟩ => ?_) hs⟩
  subst ex
  cases (show u = Value.ref a from r2)
  exact ost_first T I2 ea ht r1 fun dx s' n ne J => ⟨σ, _, J, q dx n ne⟩
end
def t_fi1 (K : PySem.W.Frag) (f1 txt : Str) : TS := tSeq (tDrop (tFi K (tCons (tVar 0) (tCons (tC (.str txt)) tNil)))) (tFs K f1 (tVar 0) (tVar 1))
theorem pure_fi1 {K : PySem.W.Frag} {C : Addr} {f1 txt : Str} (O : OexI K C) (n1 : PySem.W.takerIn K C f1 = some none) (vs : List V) (H : Hp) (Q : VK) (E : XK) (h : sp_init1 K C f1 vs H Q E) : t_fi1 K f1 txt (EndsQ Q) (sN 2 vs) H := by
  obtain ⟨a, w, rfl, ha, k⟩ := h
  show t_fi1 K f1 txt _ [some (.ref a), some w] H
  exact ⟨_, rfl, a, C, [.str txt], rfl, (by show 1 ≤ 1000; decide), O, ha, _, rfl, _, rfl, a, C, rfl, O, n1, ha, fun dx hd ne => k dx hd ne⟩
structure Err1I (P : Program) (w : World) (K : PySem.W.Frag) (mg : Str → Option Value) (base : Heap) (x f1 : Str) (C : Addr) : Prop where
  g : mg x = some (.ref C)
  o : OexI K C
  ini : ∃ fI fd, PySem.W.findIn K (.ref C) "__init__" = some (some (.ref fI)) ∧ PySem.W.typeIn K (.ref fI) = some (.type "function") ∧ FnOk P w K mg base CX0 1 fI fd ["self", f1] (sp_init1 K C f1) ∧ Binds K fd ["self", f1] []
section
variable {X : Cx} {e : Expr} {es : List Expr} {ta : TA} {p pos pos2 : Pos}
/-- x(e, ..), x's own __init__ keeping sp -/
theorem pmk_first {CX : CXT} {x : Str} {C fI : Addr} {k : Nat} {fd : FuncData} {ps : List Str} {sp : Sp} (T : OexI X.K C) (iC : PySem.W.findIn X.K (.ref C) "__init__" = some (some (.ref fI))) (tI : PySem.W.typeIn X.K (.ref fI) = some (.type "function"))
    (F1 : FnOk X.prog X.w X.K X.mg X.base CX k fI fd ps sp) (hr : Room (k + 1) X.A) (hb : Binds X.K fd ps []) (hx : Passes CX X (fun _ _ _ => False)) (hg : Gl X x) (hm : X.mg x = some (.ref C)) (ha : PA X (e :: es) ta)
    (hdb : (x == ("__debug__" : Str)) = false := by decide) (he : starEach (e :: es) X.env = (false, eval e X.env) :: starEach es X.env := by rfl) (hpl : (backTo pos (starEach es X.env)).any (·.1) = false := by rfl) :
    PMk X (.Call (.Name x p) (e :: es) [] pos) (tMkO C sp [] ta) := by
  intro pins s σ H Q I h
  obtain ⟨nm, q, N, bs, sn, sub, ab, col, dd, k0, k1, k2, k3, k5, hC⟩ := T.cls
  refine wpAny_Call_Name_kw (ld_glob I hg hm ?_ hdb)
  refine PySem.W.callWith_K (h₀ := X.base) I.ok.mod.kin T.kC (thn (ha.run pos pins s σ H _ I h) fun us s1 ⟨vs, H1, I1, r1, hz, q1⟩ => ⟨I1.kIn, ?_⟩) he hpl
  show wpAny _ _ (call (.ref C) us) _ _ _
  obtain ⟨hp, g, dr, tk, os⟩ := s1
  have n := I1.hok.fresh (Nat.le_succ hp.objs.size)
  have run := q1 _ n
  have old : ∀ b o, hp.get? b = some o → ((hp.push (PySem.W.kdv_tup us)).push (PySem.HandSPX.excO C hp.objs.size)).get? b = some o := fun b o z => Heap.get?_push_of_some _ (Heap.get?_push_of_some _ z)
  have here : ((hp.push (PySem.W.kdv_tup us)).push (PySem.HandSPX.excO C hp.objs.size)).get? (hp.objs.size + 1) = some (PySem.HandSPX.excO C hp.objs.size) := by heap_get
  have I2 := I1.laid (t' := tk) (a := hp.objs.size + 1) (o := exo (hp.objs.size + 1) C none) old (Nat.le_succ _) (exo_ok here)
  rw [List.append_nil] at run
  have lv := F1.len _ _ _ _ run
  have lu := r1.length
  have lp : (Value.ref (hp.objs.size + 1) :: us ++ []).length = ps.length := by
    rw [← lv, List.append_nil, List.length_cons, List.length_cons, lu]
  have lz : us.length ≤ sizeLine := by have := sizeLine_eq; omega
  have rv : Vals (V.ref (hp.objs.size + 1) :: vs) (Value.ref (hp.objs.size + 1) :: us) := .cons rfl r1
  have bt := hb _ (Value.ref (hp.objs.size + 1) :: us) I2.kIn lp
  rw [List.append_nil] at bt
  have body := F1.run _ X.stack _ _ ⟨Value.ref (hp.objs.size + 1) :: us, []⟩ (Value.ref (hp.objs.size + 1) :: us) _ _ (fun _ _ _ => False) (hr.make C us []) (I2.env0.make C us []) bt rv run
  refine wpAny_call (PySem.HandSPX.call_own F.excBase_IndexError (fun _ => rfl) (I1.kIn _ _ hC) (PySem.W.looks_findIn I1.kIn iC) (fun self => PySem.W.bind_fn I1.kIn self tI) lz (codeAny_mono body fun r s' hq => ?_))
  match r, hq with
  | .error er, hq => exact hx pins σ _ _ er s' I2 hq
  | .ok (.ret u), ⟨v, H2, os2, bare2, un2, hok2, rv2, ev, d, fs, ea, ed, hd, q2⟩ =>
    subst ev
    obtain ⟨h2, g2, d2, t2, os'⟩ := s'
    exact ⟨rv2, mk_end (raises_own T.exC T.tyC) I1 (Nat.le_succ _) old un2 hok2 os2 bare2 ea ed hd q2⟩
/-- raise x(e) -/
theorem ps_rzI {x f1 : Str} {C : Addr} {W : WX} {e1 : Expr} {j : Nat} (T : Err1I X.prog X.w X.K X.mg X.base x f1 C) (hr : Room j X.A) (hc : X.calm = true) (tk : Takes X W) (hg : Gl X x) (ha : PA X [e1] ta) (hk : 2 ≤ j := by decide)
    (hdb : (x == ("__debug__" : Str)) = false := by decide) (he : starEach (e1 :: []) X.env = (false, eval e1 X.env) :: starEach [] X.env := by rfl) (hpl : (backTo pos (starEach [] X.env)).any (·.1) = false := by rfl) :
    PS X (.Raise (some (.Call (.Name x p) [e1] [] pos)) none pos2) (tRz1 C f1 W ta) := by
  obtain ⟨fI, fd, iC, tI, F, hb⟩ := T.ini
  have R := ps_raise (pos := pos2) hc tk (pmk_first (p := p) (pos := pos) T.o iC tI F (hr.mono hk) hb pass0 hg T.g (pa_up ha) hdb he hpl)
  refine ⟨fun pins s σ H D I h => R.run pins s σ H D I ⟨_, h, fun vs H1 ⟨w, e, q⟩ => ?_⟩⟩
  subst e
  refine ⟨by show 1 ≤ 1000; decide, fun a na => ⟨a, w, rfl, upd_same, fun dx hd ne => ?_⟩⟩
  have nd : H1 dx = none := by rw [← hd, upd_ne ne]
  refine ⟨rfl, dx, [(f1, w)], upd_same, by rw [upd_ne ne, upd_same], nd, ?_⟩
  have same : upd (del (upd (upd (upd H1 a (exo a C none)) dx (exd dx [(f1, w)])) a (exo a C (some dx))) a) dx (.xd [(f1, w)]) = upd H1 dx (.xd [(f1, w)]) := funext fun b => by
    unfold upd del
    by_cases h1 : b = dx
    · simp [h1]
    · by_cases h2 : b = a
      · simp [h1, h2, na]
      · simp [h1, h2]
  rw [same]
  exact q dx nd
end
end Wf
/-! Errors kept as values: made by place and by name, of one field and of two; those under IndexError too. -/
namespace Wf
open PySem PySem.Spec PyProof.Rows L2
section
variable {X : Cx} {p pos : Pos}
theorem pk_up {kws : List Keyword} {ta : TA} (h : PK X kws ta) : PK X kws (up ta) := by
  refine ⟨fun pos pins s σ H Q I q => ?_⟩
  obtain ⟨Q', h1, h2⟩ := q
  exact thn (h.run pos pins s σ H Q' I h1) fun us s1 ⟨vs, H1, I1, r1, q1⟩ => ⟨vs, H1, I1, r1, h2 vs H1 q1⟩
theorem del2 {H1 : Hp} {a dx C : Addr} {f1 f2 : Str} {w n : V} (ha : H1 a = none) : upd (del (upd (upd (upd (upd H1 a (exo a C none)) dx (exd dx [(f1, w)])) a (exo a C (some dx))) dx (exd dx [(f2, n), (f1, w)])) a) dx (.xd [(f2, n), (f1, w)]) = upd H1 dx (.xd [(f2, n), (f1, w)]) := by
  funext b
  by_cases h1 : b = dx
  · rw [h1, upd_same, upd_same]
  · rw [upd_ne h1, upd_ne h1]
    by_cases h2 : b = a
    · rw [h2, del_same, ha]
    · rw [del_ne h2, upd_ne h1, upd_ne h2, upd_ne h1, upd_ne h2]
theorem del1 {H1 : Hp} {a dx C : Addr} {f1 : Str} {w : V} (ha : H1 a = none) : upd (del (upd (upd (upd H1 a (exo a C none)) dx (exd dx [(f1, w)])) a (exo a C (some dx))) a) dx (.xd [(f1, w)]) = upd H1 dx (.xd [(f1, w)]) := by
  funext b
  by_cases h1 : b = dx
  · rw [h1, upd_same, upd_same]
  · rw [upd_ne h1, upd_ne h1]
    by_cases h2 : b = a
    · rw [h2, del_same, ha]
    · rw [del_ne h2, upd_ne h2, upd_ne h1, upd_ne h2]
/-- the kept error and its dict -/
def Kept (C : Addr) (fs : List (Str × V)) (H1 : Hp) (Q : VK) : Prop := ∀ a dx, H1 dx = none → H1 a = none → a ≠ dx → Q (.ref a) (upd (upd H1 dx (.xd fs)) a (ExD (.ref C) dx a))
theorem kept_of {C : Addr} {fs : List (Str × V)} {H1 : Hp} {Q : VK} {dx : Addr} (hd : H1 dx = none) (h : Kept C fs H1 Q) : ∃ dd, some dx = some dd ∧ ∀ a, upd H1 dx (.xd fs) a = none → Q (.ref a) (upd (upd H1 dx (.xd fs)) a (ExD (.ref C) dd a)) := by
  refine ⟨dx, rfl, fun a ha => ?_⟩
  have ne : a ≠ dx := fun z => by rw [z, upd_same] at ha; cases ha
  rw [upd_ne ne] at ha
  exact h a dx hd ha ne
/-- x(e, e2), kept -/
def tKp2 (C : Addr) (f1 f2 : Str) (ta : TA) : TE := fun σ H Q => ta σ H fun vs H1 => ∃ w n, vs = [w, n] ∧ Kept C [(f2, n), (f1, w)] H1 Q
theorem pe_kp2 {x f1 f2 : Str} {C : Addr} {e1 e2 : Expr} {ta : TA} {j : Nat} (T : Err2 X.prog X.w X.K X.mg X.base x f1 f2 C) (hr : Room j X.A) (hg : Gl X x) (ha : PA X [e1, e2] ta) (hk : 2 ≤ j := by decide)
    (hdb : (x == ("__debug__" : Str)) = false := by decide) (he : starEach (e1 :: [e2]) X.env = (false, eval e1 X.env) :: starEach [e2] X.env := by rfl) (hpl : (backTo pos (starEach [e2] X.env)).any (·.1) = false := by rfl) :
    PE X (.Call (.Name x p) [e1, e2] [] pos) (tKp2 C f1 f2 ta) := by
  obtain ⟨fI, fd, iC, tI, F, hb⟩ := T.ini
  have R := pe_of_pmk (pmk_oex (p := p) (pos := pos) T.o iC tI F (hr.mono hk) hb .nil pass0 hg T.g (pa_up ha) hdb he hpl)
  refine ⟨fun pins s σ H Q I h => R.run pins s σ H Q I ⟨_, h, fun vs H1 q => ?_⟩⟩
  obtain ⟨w, n, rfl, q⟩ := q
  refine ⟨by show 2 ≤ 1000; decide, fun a ha1 => ⟨a, w, n, rfl, upd_same, fun dx hd ne => ⟨rfl, dx, [(f2, n), (f1, w)], ?_, upd_same, ?_, ?_⟩⟩⟩
  · rw [upd_ne (Ne.symm ne), upd_same]
  · rw [upd_ne ne] at hd
    exact hd
  · rw [upd_ne ne] at hd
    rw [del2 ha1]
    exact kept_of hd q
/-- x(f2 = e2, f1 = e1), kept: g puts the names in their order -/
def tKp2K (C : Addr) (f1 f2 : Str) (gV : List V → List V → List V) (ta : TA) : TE := fun σ H Q => ta σ H fun zs H1 => zs.length = 2 ∧ ∃ w n, (∀ a, gV [.ref a] zs = [.ref a, w, n]) ∧ Kept C [(f2, n), (f1, w)] H1 Q
theorem pe_kp2K {x f1 f2 : Str} {C fI : Addr} {fd : FuncData} {ks : List Str} {kws : List Keyword} {tk : TA} {j : Nat} {g : List Value → List Value → List Value} {gV : List V → List V → List V} (T : OexC X.K C) (gm : X.mg x = some (.ref C)) (iC : PySem.W.findIn X.K (.ref C) "__init__" = some (some (.ref fI))) (tI : PySem.W.typeIn X.K (.ref fI) = some (.type "function"))
    (F : FnOk X.prog X.w X.K X.mg X.base CX0 1 fI fd ["self", f1, f2] (sp_init2 X.K C f1 f2)) (hb : KBn X.K fd ["self", f1, f2] 1 ks g gV) (h2 : ks.length = 2) (hr : Room j X.A) (hg : Gl X x) (hkw : PK X kws tk) (hk : 2 ≤ j := by decide)
    (hall : (backToKw pos (keywordEach kws X.env)).all (·.1.isSome) = true := by rfl) (hks : (backToKw pos (keywordEach kws X.env)).filterMap (·.1) = ks := by rfl)
    (hdb : (x == ("__debug__" : Str)) = false := by decide) (hpl : ((backTo pos (starEach [] X.env)).any (·.1) || (backToKw pos (keywordEach kws X.env)).any (·.1.isNone)) = false := by rfl) :
    PE X (.Call (.Name x p) [] kws pos) (tKp2K C f1 f2 gV tk) := by
  have R := pe_of_pmk (pmk_oexK (p := p) (pos := pos) T iC tI F (hr.mono hk) hb pass0 hg gm (pk_up hkw) hall hks hdb hpl)
  refine ⟨fun pins s σ H Q I h => R.run pins s σ H Q I ⟨_, h, fun zs H1 q => ?_⟩⟩
  obtain ⟨l2, w, n, eg, q⟩ := q
  refine ⟨l2.trans h2.symm, fun a ha1 => ?_⟩
  rw [eg a]
  refine ⟨a, w, n, rfl, upd_same, fun dx hd ne => ⟨rfl, dx, [(f2, n), (f1, w)], ?_, upd_same, ?_, ?_⟩⟩
  · rw [upd_ne (Ne.symm ne), upd_same]
  · rw [upd_ne ne] at hd
    exact hd
  · rw [upd_ne ne] at hd
    rw [del2 ha1]
    exact kept_of hd q
/-- x(e), kept -/
def tKp1 (C : Addr) (f1 : Str) (ta : TA) : TE := fun σ H Q => ta σ H fun vs H1 => ∃ w, vs = [w] ∧ Kept C [(f1, w)] H1 Q
theorem mid1 {C a : Addr} {f1 : Str} {w : V} {H1 : Hp} {Q : VK} {K : PySem.W.Frag} (ha1 : H1 a = none) (q : Kept C [(f1, w)] H1 Q) : sp_init1 K C f1 [.ref a, w] (upd H1 a (exo a C none))
    (fun v H2 => v = .non ∧ ∃ (d : Addr) (fs : List (Str × V)), H2 a = some (exo a C (some d)) ∧ H2 d = some (exd d fs) ∧ H1 d = none ∧ ∃ dd, some d = some dd ∧ ∀ b, upd (del H2 a) d (.xd fs) b = none → Q (.ref b) (upd (upd (del H2 a) d (.xd fs)) b (ExD (.ref C) dd b))) fun _ _ _ => False := by
  refine ⟨a, w, rfl, upd_same, fun dx hd ne => ⟨rfl, dx, [(f1, w)], upd_same, ?_, ?_, ?_⟩⟩
  · rw [upd_ne ne, upd_same]
  · rw [upd_ne ne] at hd
    exact hd
  · rw [upd_ne ne] at hd
    rw [del1 ha1]
    exact kept_of hd q
theorem pe_kp1 {x f1 : Str} {C : Addr} {e1 : Expr} {ta : TA} {j : Nat} (T : Err1 X.prog X.w X.K X.mg X.base x f1 C) (hr : Room j X.A) (hg : Gl X x) (ha : PA X [e1] ta) (hk : 2 ≤ j := by decide)
    (hdb : (x == ("__debug__" : Str)) = false := by decide) (he : starEach (e1 :: []) X.env = (false, eval e1 X.env) :: starEach [] X.env := by rfl) (hpl : (backTo pos (starEach [] X.env)).any (·.1) = false := by rfl) :
    PE X (.Call (.Name x p) [e1] [] pos) (tKp1 C f1 ta) := by
  obtain ⟨fI, fd, iC, tI, F, hb⟩ := T.ini
  have R := pe_of_pmk (pmk_oex (p := p) (pos := pos) T.o iC tI F (hr.mono hk) hb .nil pass0 hg T.g (pa_up ha) hdb he hpl)
  refine ⟨fun pins s σ H Q I h => R.run pins s σ H Q I ⟨_, h, fun vs H1 q => ?_⟩⟩
  obtain ⟨w, rfl, q⟩ := q
  exact ⟨by show 1 ≤ 1000; decide, fun a ha1 => mid1 ha1 q⟩
theorem pe_kp1I {x f1 : Str} {C : Addr} {e1 : Expr} {ta : TA} {j : Nat} (T : Err1I X.prog X.w X.K X.mg X.base x f1 C) (hr : Room j X.A) (hg : Gl X x) (ha : PA X [e1] ta) (hk : 2 ≤ j := by decide)
    (hdb : (x == ("__debug__" : Str)) = false := by decide) (he : starEach (e1 :: []) X.env = (false, eval e1 X.env) :: starEach [] X.env := by rfl) (hpl : (backTo pos (starEach [] X.env)).any (·.1) = false := by rfl) :
    PE X (.Call (.Name x p) [e1] [] pos) (tKp1 C f1 ta) := by
  obtain ⟨fI, fd, iC, tI, F, hb⟩ := T.ini
  have R := pe_of_pmk (pmk_first (p := p) (pos := pos) T.o iC tI F (hr.mono hk) hb pass0 hg T.g (pa_up ha) hdb he hpl)
  refine ⟨fun pins s σ H Q I h => R.run pins s σ H Q I ⟨_, h, fun vs H1 q => ?_⟩⟩
  obtain ⟨w, rfl, q⟩ := q
  exact ⟨by show 1 ≤ 1000; decide, fun a ha1 => mid1 ha1 q⟩
/-- x(f1 = e), kept -/
def tKp1K (C : Addr) (f1 : Str) (gV : List V → List V → List V) (ta : TA) : TE := fun σ H Q => ta σ H fun zs H1 => zs.length = 1 ∧ ∃ w, (∀ a, gV [.ref a] zs = [.ref a, w]) ∧ Kept C [(f1, w)] H1 Q
theorem pe_kp1K {x f1 : Str} {C fI : Addr} {fd : FuncData} {ks : List Str} {kws : List Keyword} {tk : TA} {j : Nat} {g : List Value → List Value → List Value} {gV : List V → List V → List V} (T : OexC X.K C) (gm : X.mg x = some (.ref C)) (iC : PySem.W.findIn X.K (.ref C) "__init__" = some (some (.ref fI))) (tI : PySem.W.typeIn X.K (.ref fI) = some (.type "function"))
    (F : FnOk X.prog X.w X.K X.mg X.base CX0 1 fI fd ["self", f1] (sp_init1 X.K C f1)) (hb : KBn X.K fd ["self", f1] 1 ks g gV) (h1 : ks.length = 1) (hr : Room j X.A) (hg : Gl X x) (hkw : PK X kws tk) (hk : 2 ≤ j := by decide)
    (hall : (backToKw pos (keywordEach kws X.env)).all (·.1.isSome) = true := by rfl) (hks : (backToKw pos (keywordEach kws X.env)).filterMap (·.1) = ks := by rfl)
    (hdb : (x == ("__debug__" : Str)) = false := by decide) (hpl : ((backTo pos (starEach [] X.env)).any (·.1) || (backToKw pos (keywordEach kws X.env)).any (·.1.isNone)) = false := by rfl) :
    PE X (.Call (.Name x p) [] kws pos) (tKp1K C f1 gV tk) := by
  have R := pe_of_pmk (pmk_oexK (p := p) (pos := pos) T iC tI F (hr.mono hk) hb pass0 hg gm (pk_up hkw) hall hks hdb hpl)
  refine ⟨fun pins s σ H Q I h => R.run pins s σ H Q I ⟨_, h, fun zs H1 q => ?_⟩⟩
  obtain ⟨l1, w, eg, q⟩ := q
  refine ⟨l1.trans h1.symm, fun a ha1 => ?_⟩
  rw [eg a]
  exact mid1 ha1 q
end
end Wf
/-! x(f = e), x an own class under IndexError: made by name, kept; isinstance of an error of a class without __init__. -/
namespace Wf
open PySem PySem.Spec PyProof.Rows L2
section
variable {X : Cx} {p pos : Pos}
theorem pmk_firstK {CX : CXT} {x : Str} {C fI : Addr} {k : Nat} {fd : FuncData} {ps ks : List Str} {sp : Sp} {kws : List Keyword} {tk : TA} {g : List Value → List Value → List Value} {gV : List V → List V → List V}
    (T : OexI X.K C) (iC : PySem.W.findIn X.K (.ref C) "__init__" = some (some (.ref fI))) (tI : PySem.W.typeIn X.K (.ref fI) = some (.type "function"))
    (F1 : FnOk X.prog X.w X.K X.mg X.base CX k fI fd ps sp) (hr : Room (k + 1) X.A) (hb : KBn X.K fd ps 1 ks g gV) (hx : Passes CX X (fun _ _ _ => False)) (hg : Gl X x) (hm : X.mg x = some (.ref C))
    (hkw : PK X kws tk) (hall : (backToKw pos (keywordEach kws X.env)).all (·.1.isSome) = true := by rfl) (hks : (backToKw pos (keywordEach kws X.env)).filterMap (·.1) = ks := by rfl)
    (hdb : (x == ("__debug__" : Str)) = false := by decide) (hpl : ((backTo pos (starEach [] X.env)).any (·.1) || (backToKw pos (keywordEach kws X.env)).any (·.1.isNone)) = false := by rfl) :
    PMk X (.Call (.Name x p) [] kws pos) (tMkK C ks.length sp gV tk) := by
  intro pins s σ H Q I h
  obtain ⟨nm, q, N, bs, sn, sub, ab, col, dd, k0, k1, k2, k3, k5, hC⟩ := T.cls
  refine wpAny_Call_Name_kw (ld_glob I hg hm ?_ hdb)
  refine PySem.W.callWith_KW0 (h₀ := X.base) I.ok.mod.kin T.kC hall (thn (hkw.run pos pins s σ H _ I h) fun ws s1 ⟨zs, H1, I1, rz, l2, q1⟩ => ⟨I1.kIn, ?_⟩) hpl
  rw [hks]
  show wpAny _ _ (call (.ref C) [] (ks.zip ws)) _ _ _
  obtain ⟨hp, g', dr, tk', os⟩ := s1
  have n := I1.hok.fresh (Nat.le_succ hp.objs.size)
  have run := q1 _ n
  have old : ∀ b o, hp.get? b = some o → ((hp.push (PySem.W.kdv_tup [])).push (PySem.HandSPX.excO C hp.objs.size)).get? b = some o := fun b o z => Heap.get?_push_of_some _ (Heap.get?_push_of_some _ z)
  have here : ((hp.push (PySem.W.kdv_tup [])).push (PySem.HandSPX.excO C hp.objs.size)).get? (hp.objs.size + 1) = some (PySem.HandSPX.excO C hp.objs.size) := by heap_get
  have I2 := I1.laid (t' := tk') (a := hp.objs.size + 1) (o := exo (hp.objs.size + 1) C none) old (Nat.le_succ _) (exo_ok here)
  have r1 : Vals [V.ref (hp.objs.size + 1)] [Value.ref (hp.objs.size + 1)] := .cons rfl .nil
  have e2 : ws.length = ks.length := rz.length.symm.trans l2
  have body := F1.run _ X.stack _ _ ⟨[Value.ref (hp.objs.size + 1)], ks.zip ws⟩ (g [Value.ref (hp.objs.size + 1)] ws) _ _ (fun _ _ _ => False) (hr.make C [] (ks.zip ws)) (I2.env0.make C [] (ks.zip ws)) (hb.to _ [Value.ref (hp.objs.size + 1)] ws I2.kIn rfl e2) (hb.rel r1 rz) run
  refine wpAny_call (PySem.HandSPX.call_ownK F.excBase_IndexError (fun _ => rfl) (I1.kIn _ _ hC) (PySem.W.looks_findIn I1.kIn iC) (fun self => PySem.W.bind_fn I1.kIn self tI) (codeAny_mono body fun r s' hq => ?_))
  match r, hq with
  | .error er, hq => exact hx pins σ _ _ er s' I2 hq
  | .ok (.ret u), ⟨v, H2, os2, bare2, un2, hok2, rv2, ev, d, fs, ea, ed, hd, q2⟩ =>
    subst ev
    obtain ⟨h2, g2, d2, t2, os'⟩ := s'
    exact ⟨rv2, mk_end (raises_own T.exC T.tyC) I1 (Nat.le_succ _) old un2 hok2 os2 bare2 ea ed hd q2⟩
theorem pe_kp1KI {x f1 : Str} {C fI : Addr} {fd : FuncData} {ks : List Str} {kws : List Keyword} {tk : TA} {j : Nat} {g : List Value → List Value → List Value} {gV : List V → List V → List V} (T : OexI X.K C) (gm : X.mg x = some (.ref C)) (iC : PySem.W.findIn X.K (.ref C) "__init__" = some (some (.ref fI))) (tI : PySem.W.typeIn X.K (.ref fI) = some (.type "function"))
    (F : FnOk X.prog X.w X.K X.mg X.base CX0 1 fI fd ["self", f1] (sp_init1 X.K C f1)) (hb : KBn X.K fd ["self", f1] 1 ks g gV) (h1 : ks.length = 1) (hr : Room j X.A) (hg : Gl X x) (hkw : PK X kws tk) (hk : 2 ≤ j := by decide)
    (hall : (backToKw pos (keywordEach kws X.env)).all (·.1.isSome) = true := by rfl) (hks : (backToKw pos (keywordEach kws X.env)).filterMap (·.1) = ks := by rfl)
    (hdb : (x == ("__debug__" : Str)) = false := by decide) (hpl : ((backTo pos (starEach [] X.env)).any (·.1) || (backToKw pos (keywordEach kws X.env)).any (·.1.isNone)) = false := by rfl) :
    PE X (.Call (.Name x p) [] kws pos) (tKp1K C f1 gV tk) := by
  have R := pe_of_pmk (pmk_firstK (p := p) (pos := pos) T iC tI F (hr.mono hk) hb pass0 hg gm (pk_up hkw) hall hks hdb hpl)
  refine ⟨fun pins s σ H Q I h => R.run pins s σ H Q I ⟨_, h, fun zs H1 q => ?_⟩⟩
  obtain ⟨l1, w, eg, q⟩ := q
  refine ⟨l1.trans h1.symm, fun a ha1 => ?_⟩
  rw [eg a]
  exact mid1 ha1 q
/-- isinstance of a kept error that has no dict (its class has no __init__ of its own) -/
def rIsV0 (K : PySem.W.Frag) : List V → Hp → VK → Prop := fun xs H Q => ∃ (a C : Addr) (c : V) (b : Bool) (u : Value), H a = some (ExO (.ref C) a) ∧ IsC K C ∧ xs = [.ref a, c] ∧ ClsV c u ∧ PySem.W.kitOne K (.ref C) u = some b ∧ Q (.bl b) H
theorem call_isV0 : CallR X (.builtin "isinstance") (rIsV0 X.K) := by
  intro pins s σ H xs us Q I r h
  obtain ⟨a, C, c, b, u, hA, T, rfl, kc, e, q⟩ := h
  obtain ⟨⟨oe, vs, ha, hz, hd, _⟩, _, _⟩ := I.hok a _ hA
  have J : PySem.W.InstAt s.heap a oe C none := ⟨ha, hz.1, by unfold PySem.W.notCls; rw [hd] <;> rfl, by rw [hz.2]; trivial⟩
  have Z := PySem.W.kitx_exc (x := a) (ox := oe) (od := none) T.cl T.ga T.gg T.su T.ha T.hn T.ht T.hm
  obtain ⟨u1, u2, rfl, r1, r2⟩ := vals2 r
  cases (show u1 = Value.ref a from r1)
  have e2 := kc.eq r2
  subst e2
  exact PySem.W.kia_one Z I.kIn J e (fun z => nomatch z) fun tk => ⟨.bl b, H, I.tok tk, rfl, q⟩
end
end Wf
/-! Comprehensions with any number of fors: a clause's turn over a body. -/
namespace Wf
open PySem PySem.Spec L2 PyProof.Rows
end Wf
/-! A clause over a body is a body. -/
namespace Wf
open PySem PySem.Spec L2 PyProof.Rows
end Wf
/-! The first for of a comprehension over any body. -/
namespace Wf
open PySem PySem.Spec L2 PyProof.Rows
end Wf
/-! dicts whose keys are tuples of numbers or rows, whatever the keys' objects are: asked, written, listed -/
namespace Wf
open PySem PySem.Spec L2 PyProof.Rows
/-- v is an object that is this key -/
def KeyV (K : PySem.W.Frag) (H : Hp) : (r : Bool) → KyT r → V → Prop
  | false, l, v => ∃ b, v = .ref b ∧ SqT K H b (l.map V.int)
  | true, ks, v => ∃ b cs, v = .ref b ∧ SqT K H b (cs.map V.ref) ∧ Paired (fun (l : List Int) c => SqT K H c (l.map V.int)) ks cs
structure DctF (K : PySem.W.Frag) (H : Hp) (a : Addr) (r : Bool) (ks : List (KyT r)) (bs : List Addr) (us : List V) : Prop where
  ob : H a = some (DctO a r ks bs us)
  sm : (a == sysModules) = false
  z : ks.length ≤ sizeLine
  nd : ks.Nodup
  l1 : us.length = ks.length
  l2 : bs.length = ks.length
  kv : ∀ (i : Nat) (k : KyT r) (b : Addr), ks[i]? = some k → bs[i]? = some b → KeyV K H r k (.ref b)
section
variable {X : Cx} {pins : List (Addr × Obj)} {σ : L2.St} {H : Hp} {s : Shared}
theorem KeyV.ref : ∀ {K : PySem.W.Frag} {r : Bool} {k : KyT r} {v : V}, KeyV K H r k v → ∃ b, v = .ref b
  | _, false, _, _, ⟨b, e, _⟩ => ⟨b, e⟩
  | _, true, _, _, ⟨b, _, e, _⟩ => ⟨b, e⟩
variable {A : Around} {E : Value → Shared → Prop}
end
/-- a dict's object may be a dict's in some heap -/
theorem heap_at (o : Obj) (ho : o.isFreed = false) : ∀ n : Nat, ∃ h : Heap, h.objs.size = n ∧ ∀ i < n, h.get? i = some o
  | 0 => ⟨{}, rfl, fun i h => absurd h (Nat.not_lt_zero i)⟩
  | n + 1 => by
    obtain ⟨h, hs, hh⟩ := heap_at o ho n
    refine ⟨h.push o, by rw [Heap.size_push, hs], fun i hi => ?_⟩
    by_cases e : i = n
    · subst e
      rw [← hs]
      exact Heap.get?_push_size _ ho
    · exact Heap.get?_push_of_some _ (hh i (by omega))
theorem valEx : ∀ v : V, ∃ u : Value, RelV v u
  | .non => ⟨_, rfl⟩
  | .bl _ => ⟨_, rfl⟩
  | .int i => ⟨.int i default, default, rfl⟩
  | .str x => ⟨.str x default, default, rfl⟩
  | .byt x => ⟨.bytes x default, default, rfl⟩
  | .flt x => ⟨.float x default, default, rfl⟩
  | .ref _ => ⟨_, rfl⟩
  | .ty _ => ⟨_, rfl⟩
theorem valsEx : ∀ us : List V, ∃ ws, Vals us ws
  | [] => ⟨[], .nil⟩
  | v :: us => by
    obtain ⟨u, h⟩ := valEx v
    obtain ⟨ws, hs⟩ := valsEx us
    exact ⟨u :: ws, .cons h hs⟩
theorem dct_own {a : Addr} {r : Bool} {ks : List (KyT r)} {bs : List Addr} {us : List V} {φ : Heap → Prop} (e : DctO a r ks bs us = .ext φ) : OwnD φ a := by
  unfold DctO at e
  cases e
  obtain ⟨ws, rv⟩ := valsEx us
  obtain ⟨h, hs, hh⟩ := heap_at { cls := .type "dict", data := .dict ((ks.zip (bs.zip ws)).map (entD r)).toArray } rfl (a + 1)
  exact ⟨h, ⟨ws, rv, _, _, _, hh a (Nat.lt_succ_self a), ⟨rfl, rfl, rfl⟩, rfl, by simp⟩, _, _, _, hh a (Nat.lt_succ_self a), rfl⟩
end Wf
/-! {k: v for ..} with keys that are tuples. -/
namespace Wf
open PySem PySem.Spec L2 PyProof.Rows
end Wf
/-! tuple(d), d a dict whose keys are tuples -/
namespace Wf
open PySem PySem.Spec PyProof.Rows
end Wf
/-! Dicts by tuples of numbers, by value. -/
namespace Pv
open PySem PySem.Spec L2 Wf
variable {B : Bas}
theorem NoX.dT {H : Hp} {a : Addr} {kvs : List (List Key × V)} (e : H a = some (.dT kvs)) : NoX H a := NoX.of e (fun _ z => by cases z) (fun _ _ z => by cases z) fun _ z => by cases z
end Pv
/-! Dicts by tuples of numbers or by rows, by value, whatever objects the keys are. -/
namespace Pv
open PySem PySem.Spec L2 Wf
variable {B : Bas}
theorem dqAll_get36 {K : PySem.W.Frag} {G : Hp} : ∀ {us : List V} {ds : List PyData} {i : Nat} {d : PyData}, DqAll K G us ds → ds[i]? = some d → ∃ u, us[i]? = some u ∧ Dq K G u d
  | _, _, _, _, .nil, h => by simp at h
  | _, _, 0, _, .cons h1 _, h => by
    simp only [List.getElem?_cons_zero, Option.some.injEq] at h
    subst h
    exact ⟨_, rfl, h1⟩
  | _, _, i + 1, _, .cons _ h2, h => by
    obtain ⟨u, e, q⟩ := dqAll_get36 (i := i) h2 (by simpa using h)
    exact ⟨u, by simpa using e, q⟩
theorem dqAll_ints36 {K : PySem.W.Frag} {G : Hp} : ∀ {l : List Int} {vs : List V}, DqAll K G vs (l.map .int) → vs = l.map V.int
  | [], _, .nil => rfl
  | _ :: _, _, .cons h1 h2 => by cases h1; rw [dqAll_ints36 h2]; rfl
theorem dqAll_rows36 {K : PySem.W.Frag} {G : Hp} : ∀ {ks : List (List Int)} {vs : List V}, DqAll K G vs (ks.map fun l => .tuple (l.map .int)) → ∃ cs : List Addr, vs = cs.map V.ref ∧ Paired (fun (l : List Int) c => SqT K G c (l.map V.int)) ks cs
  | [], _, .nil => ⟨[], rfl, .nil⟩
  | l :: ks, _, .cons h1 h2 => by
    obtain ⟨cs, rfl, p⟩ := dqAll_rows36 h2
    cases h1 with
    | tup hs ha =>
      cases dqAll_ints36 ha
      exact ⟨_ :: cs, rfl, .cons hs p⟩
theorem keyV_dq {K : PySem.W.Frag} {G H : Hp} (s : Same G H) : ∀ {r : Bool} {k : KyT r} {v : V}, Dq K G v (kyD r k) → KeyV K H r k v
  | false, l, v, h => by
    cases (show Dq K G v (.tuple (l.map .int)) from h) with
    | tup hs ha =>
      cases dqAll_ints36 ha
      exact ⟨_, rfl, Same.tp s _ _ hs⟩
  | true, ks, v, h => by
    cases (show Dq K G v (.tuple (ks.map fun l => .tuple (l.map .int))) from h) with
    | tup hs ha =>
      obtain ⟨cs, rfl, p⟩ := dqAll_rows36 ha
      exact ⟨_, cs, rfl, Same.tp s _ _ hs, Paired.mapP p fun _ _ z => Same.tp s _ _ z⟩
theorem NoX.dct {H : Hp} {a : Addr} {r : Bool} {ks : List (KyT r)} {bs : List Addr} {us : List V} (e : H a = some (DctO a r ks bs us)) : NoX H a := NoX.own (φ := _) e (dct_own rfl)
end Pv
/-! {k: v for ..} by value, keys that are tuples. -/
namespace Pv
open PySem PySem.Spec L2 Wf
end Pv
/-! Own lists of dicts by tuples, by value. -/
namespace Pv
open PySem PySem.Spec L2 Wf
variable {B : Bas}
section
variable {K : PySem.W.Frag} {G H : Hp} {σ : St} {δ : List Sl} {vs : List V} {rs : List R} {w : Addr → Option Nat}
theorem PdAll.len {q : Bool} {us : List V} {kss : List (List (KyT q))} (h : PdAll K G q us kss) : us.length = kss.length := by
  induction h with
  | nil => rfl
  | cons _ _ ih => rw [List.length_cons, List.length_cons, ih]
theorem PdAll.get {q : Bool} : ∀ {us : List V} {kss : List (List (KyT q))} {i : Nat} {ks : List (KyT q)}, PdAll K G q us kss → kss[i]? = some ks → ∃ u, us[i]? = some u ∧ PdR K G u q ks
  | _, _, _, _, .nil, h => by simp at h
  | _, _, 0, _, .cons h1 _, h => by
    simp only [List.getElem?_cons_zero, Option.some.injEq] at h
    subst h
    exact ⟨_, rfl, h1⟩
  | _, _, i + 1, _, .cons _ h2, h => by
    obtain ⟨u, e, p⟩ := PdAll.get (i := i) h2 (by simpa using h)
    exact ⟨u, by simpa using e, p⟩
theorem PdAll.app {q : Bool} {us us' : List V} {kss kss' : List (List (KyT q))} (h : PdAll K G q us kss) (h' : PdAll K G q us' kss') : PdAll K G q (us ++ us') (kss ++ kss') := by
  induction h with
  | nil => exact h'
  | cons h1 _ ih => exact .cons h1 ih
/-- what stands of a dict that stands for good -/
theorem PdR.F {v : V} {q : Bool} {ks : List (KyT q)} (s : Same G H) (h : PdR K G v q ks) : ∃ a bs us, v = .ref a ∧ DctF K H a q ks bs us := by
  obtain ⟨a, bs, us, rfl, ha, ⟨sm, z, nd, l1, l2⟩, hk⟩ := h
  refine ⟨a, bs, us, rfl, ⟨s _ _ ha, sm, z, nd, l1, l2, fun i k b e1 e2 => ?_⟩⟩
  obtain ⟨u, e3, qq⟩ := dqAll_get36 hk (i := i) (d := kyD q k) (by rw [List.getElem?_map, e1]; rfl)
  rw [List.getElem?_map, e2] at e3
  cases e3
  exact keyV_dq s qq
end
end Pv
/-! Errors kept as values, by value: made, asked, their fields (own kind .per; a list of them is .ler). First stones for k01. -/
namespace Wf
open PySem PySem.Spec PyProof.Rows L2
section
variable {X : Cx}
/-- a field of a kept error of one of some classes -/
def tXg (good : Addr → Prop) (f : Str) (te : TE) : TE := fun σ H Q => te σ H fun x H1 => ∃ (a C dd : Addr) (fs : List (Str × V)) (v : V), x = .ref a ∧ good C ∧ H1 a = some (ExD (.ref C) dd a) ∧ H1 dd = some (.xd fs) ∧ fs.lookup f = some v ∧ Q v H1
theorem pe_xfg {good : Addr → Prop} {e : Expr} {te : TE} {pos : Pos} {n : Str} (T : ∀ C, good C → XfC X.K C ∧ PySem.W.findIn X.K (.ref C) n = some none) (he : PE X e te) (hb : attributeBase e n X.env (eval e X.env) = eval e X.env := by rfl) : PE X (.Attribute e n pos) (tXg good n te) := by
  refine ⟨fun pins s σ H Q I h => attr_of hb (thn (he.run pins s σ H _ I h) fun u s1 hh => ?_)⟩
  obtain ⟨x, H1, I1, rx, a, C, dd, fs, v, rfl, gd, eA, ea, l, q⟩ := hh
  obtain ⟨T, hno⟩ := T C gd
  obtain rfl : u = Value.ref a := rx
  obtain ⟨⟨oe, vs, ha, hz, hd, _⟩, _, _⟩ := I1.hok a _ eA
  obtain ⟨mA, hns, hr⟩ := (show ObjOk X.prog X.w H1 s1.heap dd (.xd fs) from I1.hok dd _ ea)
  obtain ⟨od, ho, hl⟩ := lookIn_ns hns
  obtain ⟨u, hu, ru⟩ := RelO.some_of (v := v) (o := mA n) (by rw [← l]; exact hr n)
  have J : PySem.W.InstAt s1.heap a oe C (some od) := ⟨ha, hz.1, by unfold PySem.W.notCls; rw [hd] <;> rfl, by rw [hz.2]; exact ho⟩
  exact HandSPX.exc_get I1.kIn J T.ga T.gg T.exC (PySem.W.findObj_own T.hdC hno rfl (by rw [hl, hu])) (handed_of ru) ⟨v, H1, I1.tok _, ru, q⟩
end
end Wf
namespace Pv
open PySem PySem.Spec L2 Wf
variable {B : Bas}
section
variable {K : PySem.W.Frag} {G H : Hp} {σ : St} {δ : List Sl} {vs : List V} {rs : List R} {w : Addr → Option Nat}
theorem Rep.retE (r : Rep K B G H σ δ vs rs w) {v : V} {C : Addr} {fs : List (Str × PyData)} (h : ErR K G v C fs) : Rep K B G H σ δ [v] [.ow (.per C fs)] fun a => evn (w a) := by
  have r0 := r.drop
  refine ⟨r0.sub, r0.out, r0.len, r0.sl, rfl, fun j u q hu hq => ?_, r0.bs⟩
  match j with
  | 0 =>
    simp only [List.getElem?_cons_zero, Option.some.injEq] at hu hq
    subst hu hq
    exact h
  | j + 1 => simp at hu
theorem Rep.keepE (r : Rep K B G H σ δ vs rs w) {C a dx : Addr} {us : List (Str × V)} {fs : List (Str × PyData)} (hf : Fl K G us fs) (hd : H dx = none) (ha : H a = none) (ne : a ≠ dx) :
    ∃ G', Stp B.T G H w δ G' (upd (upd H dx (.xd us)) a (ExD (.ref C) dx a)) (fun a => evn (w a)) δ ∧ Rep K B G' (upd (upd H dx (.xd us)) a (ExD (.ref C) dx a)) σ δ [.ref a] [.ow (.per C fs)] fun a => evn (w a) := by
  obtain ⟨s1, r1⟩ := r.lay (o := .xd us) hd
  obtain ⟨s2, r2⟩ := r1.lay (p := a) (o := ExD (.ref C) dx a) (by rw [upd_ne ne]; exact ha) (by intro ps z; unfold ExD at z; cases z)
  exact ⟨_, (s1.trans s2).trans .drop, r2.retE ⟨a, dx, us, rfl, upd_same, by rw [upd_ne (Ne.symm ne), upd_same], (hf.mono s1.g).mono s2.g⟩⟩
end
section
variable {X : Cx} {p pos : Pos}
/-- C(e1, e2) and C(e1), kept -/
def pKeep2 (C : Addr) (f1 f2 : Str) (ps : PL) : PX := fun δ Q => ps δ fun rs δ1 => ∃ d e δ2, fzAll δ1 rs = some ([d, e], δ2) ∧ Q (.ow (.per C [(f2, e), (f1, d)])) δ2
def pKeep1 (C : Addr) (f1 : Str) (ps : PL) : PX := fun δ Q => ps δ fun rs δ1 => ∃ d δ2, fzAll δ1 rs = some ([d], δ2) ∧ Q (.ow (.per C [(f1, d)])) δ2
theorem je_keep2 {x f1 f2 : Str} {C : Addr} {e1 e2 : Expr} {ps : PL} {j : Nat} (T : Err2 X.prog X.w X.K X.mg X.base x f1 f2 C) (hr : Room j X.A) (hg : Gl X x) (ha : JA X B [e1, e2] ps) (hk : 2 ≤ j := by decide)
    (hdb : (x == ("__debug__" : Str)) = false := by decide) (he : starEach (e1 :: [e2]) X.env = (false, eval e1 X.env) :: starEach [e2] X.env := by rfl) (hpl : (backTo pos (starEach [e2] X.env)).any (·.1) = false := by rfl) :
    JE X B (.Call (.Name x p) [e1, e2] [] pos) (pKeep2 C f1 f2 ps) := PE_wk (pe_kp2 T hr hg ha hk hdb he hpl) fun σ H Q ⟨G, w, δ, Qp, rep, q, k⟩ =>
  ⟨G, w, δ, _, rep, q, fun rs δ1 vs H1 G1 w1 q1 l1 s1 rep1 => by
    obtain ⟨d, e, δ2, hz, q1⟩ := q1
    obtain ⟨G2, w2, s2, r2⟩ := rep1.fzs hz
    have hd := r2.ims
    match vs, hd with
    | [v, u], .cons h1 (.cons h2 .nil) =>
      refine ⟨v, u, rfl, fun a dx hdx hax ne => ?_⟩
      obtain ⟨G3, s3, r3⟩ := r2.keepE (C := C) (us := [(f2, u), (f1, v)]) (fs := [(f2, e), (f1, d)]) (.cons h2 (.cons h1 .nil)) hdx hax ne
      exact k _ δ2 _ _ G3 _ q1 ((s1.trans s2).trans s3) r3⟩
theorem je_keep1 {x f1 : Str} {C : Addr} {e1 : Expr} {ps : PL} {j : Nat} (T : Err1 X.prog X.w X.K X.mg X.base x f1 C) (hr : Room j X.A) (hg : Gl X x) (ha : JA X B [e1] ps) (hk : 2 ≤ j := by decide)
    (hdb : (x == ("__debug__" : Str)) = false := by decide) (he : starEach (e1 :: []) X.env = (false, eval e1 X.env) :: starEach [] X.env := by rfl) (hpl : (backTo pos (starEach [] X.env)).any (·.1) = false := by rfl) :
    JE X B (.Call (.Name x p) [e1] [] pos) (pKeep1 C f1 ps) := PE_wk (pe_kp1 T hr hg ha hk hdb he hpl) fun σ H Q ⟨G, w, δ, Qp, rep, q, k⟩ =>
  ⟨G, w, δ, _, rep, q, fun rs δ1 vs H1 G1 w1 q1 l1 s1 rep1 => by
    obtain ⟨d, δ2, hz, q1⟩ := q1
    obtain ⟨G2, w2, s2, r2⟩ := rep1.fzs hz
    have hd := r2.ims
    match vs, hd with
    | [v], .cons h1 .nil =>
      refine ⟨v, rfl, fun a dx hdx hax ne => ?_⟩
      obtain ⟨G3, s3, r3⟩ := r2.keepE (C := C) (us := [(f1, v)]) (fs := [(f1, d)]) (.cons h1 .nil) hdx hax ne
      exact k _ δ2 _ _ G3 _ q1 ((s1.trans s2).trans s3) r3⟩
theorem je_keep1I {x f1 : Str} {C : Addr} {e1 : Expr} {ps : PL} {j : Nat} (T : Err1I X.prog X.w X.K X.mg X.base x f1 C) (hr : Room j X.A) (hg : Gl X x) (ha : JA X B [e1] ps) (hk : 2 ≤ j := by decide)
    (hdb : (x == ("__debug__" : Str)) = false := by decide) (he : starEach (e1 :: []) X.env = (false, eval e1 X.env) :: starEach [] X.env := by rfl) (hpl : (backTo pos (starEach [] X.env)).any (·.1) = false := by rfl) :
    JE X B (.Call (.Name x p) [e1] [] pos) (pKeep1 C f1 ps) := PE_wk (pe_kp1I T hr hg ha hk hdb he hpl) fun σ H Q ⟨G, w, δ, Qp, rep, q, k⟩ =>
  ⟨G, w, δ, _, rep, q, fun rs δ1 vs H1 G1 w1 q1 l1 s1 rep1 => by
    obtain ⟨d, δ2, hz, q1⟩ := q1
    obtain ⟨G2, w2, s2, r2⟩ := rep1.fzs hz
    have hd := r2.ims
    match vs, hd with
    | [v], .cons h1 .nil =>
      refine ⟨v, rfl, fun a dx hdx hax ne => ?_⟩
      obtain ⟨G3, s3, r3⟩ := r2.keepE (C := C) (us := [(f1, v)]) (fs := [(f1, d)]) (.cons h1 .nil) hdx hax ne
      exact k _ δ2 _ _ G3 _ q1 ((s1.trans s2).trans s3) r3⟩
/-- the kept error that a value is -/
def perOf (δ : List Sl) : R → Option (Addr × List (Str × PyData))
  | .ow (.per C fs) => some (C, fs)
  | .at i => match δ[i]? with
    | some (.ow _ (.per C fs)) => some (C, fs)
    | _ => none
  | _ => none
theorem Rep.per {K : PySem.W.Frag} {G H : Hp} {σ : St} {δ : List Sl} {w : Addr → Option Nat} {v : V} {r : R} {C : Addr} {fs : List (Str × PyData)} (rep : Rep K B G H σ δ [v] [r] w) (h : perOf δ r = some (C, fs)) : ErR K G v C fs := by
  have t := rep.tm 0 v r rfl rfl
  unfold perOf at h
  split at h
  · cases h
    exact t
  · rename_i i
    split at h
    · rename_i b C' fs' e
      cases h
      obtain ⟨u, hu, er⟩ := rep.sl i _ e
      have hx : σ[i]? = some (some v) := t
      rw [hx] at hu
      cases hu
      exact er
    · cases h
  · cases h
/-- p.f, p a kept error -/
def pXg (good : Addr → Prop) (f : Str) (p : PX) : PX := fun δ Q => p δ fun r δ1 => ∃ C fs d, perOf δ1 r = some (C, fs) ∧ good C ∧ fs.lookup f = some d ∧ Q (.im d) δ1
theorem je_xg {good : Addr → Prop} {e : Expr} {pe : PX} {n : Str} (T : ∀ C, good C → XfC X.K C ∧ PySem.W.findIn X.K (.ref C) n = some none) (he : JE X B e pe) (hb : attributeBase e n X.env (eval e X.env) = eval e X.env := by rfl) : JE X B (.Attribute e n pos) (pXg good n pe) :=
  PE_wk (pe_xfg T he hb) fun σ H Q ⟨G, w, δ, Qp, rep, q, k⟩ => ⟨G, w, δ, _, rep, q, fun r δ1 v H1 G1 w1 q1 s1 rep1 => by
    obtain ⟨C, fs, d, hp, gd, hl, q1⟩ := q1
    obtain ⟨a, dd, us, rfl, h1, h2, h3⟩ := rep1.per hp
    obtain ⟨u, f1, f2⟩ := fl_lookup h3 hl
    exact ⟨a, C, dd, us, u, rfl, gd, rep1.sub _ _ h1, rep1.sub _ _ h2, f1, k _ δ1 _ H1 G1 _ q1 (s1.trans .drop) (rep1.ret f2)⟩⟩
end
end Pv
/-! Own lists of kept errors, by value: written, put together. -/
namespace Pv
open PySem PySem.Spec L2 Wf
variable {B : Bas}
section
variable {K : PySem.W.Frag} {G H : Hp} {σ : St} {δ : List Sl} {vs : List V} {rs : List R} {w : Addr → Option Nat}
theorem Rep.retLer (r : Rep K B G H σ δ vs rs w) {p : Addr} {us : List V} {ess : List (Addr × List (Str × PyData))} (hp : H p = none) (h : ErAll K G us ess) :
    ∃ w', Stp B.T G H w δ G (upd H p (.lst us)) w' δ ∧ Rep K B G (upd H p (.lst us)) σ δ [.ref p] [.ow (.ler ess)] w' := by
  have gp : G p = none := by
    cases e : G p with
    | none => rfl
    | some u => rw [r.sub p u e] at hp; cases hp
  have r0 := r.drop
  have st : Stp B.T G H w δ G (upd H p (.lst us)) (fun a => if a = p then some 1 else evn (w a)) δ := by
    refine .of ⟨fun _ _ h => h, fun a u _ ha => by rw [upd_ne (ne_of_none ha hp)]; exact ha, fun a i h => ?_, fun a u ha => .inl ha, .refl _⟩ (tabs_new hp)
    by_cases e : a = p
    · subst e; exact .inr hp
    · simp only [e, if_false] at h
      exact .inl (by rw [(evn_some.mp h).1]; exact Option.some_ne_none _)
  refine ⟨_, st, fun a u ha => ?_, fun a i h => ?_, r0.len, fun i s h => ?_, rfl, fun j u q hu hq => ?_, st.bs r.bs⟩
  · by_cases e : a = p
    · subst e; rw [gp] at ha; cases ha
    · rw [upd_ne e]; exact r.sub a u ha
  · by_cases e : a = p
    · subst e; rw [upd_same]; exact ⟨gp, Option.some_ne_none _, NoX.lst upd_same⟩
    · simp only [e, if_false] at h
      have ho := r0.out a i h
      rw [upd_ne e]
      exact ⟨ho.1, ho.2.1, noT_upd e ho.2.2⟩
  · refine (r0.sl i s h).mono (fun _ _ h => h) (fun a u ma hu => by rw [upd_ne (ne_of_none hu hp)]; exact hu) fun a u ma hu => ?_
    rw [if_neg (ne_of_none hu hp)]
    exact ma
  · match j with
    | 0 =>
      simp only [List.getElem?_cons_zero, Option.some.injEq] at hu hq
      subst hu hq
      exact ⟨p, us, rfl, by simp, upd_same, h⟩
    | j + 1 => simp at hu
theorem ErAll.app {us vs : List V} {a b : List (Addr × List (Str × PyData))} (h : ErAll K G us a) (h' : ErAll K G vs b) : ErAll K G (us ++ vs) (a ++ b) := by
  induction h with
  | nil => exact h'
  | cons h1 _ ih => exact .cons h1 ih
theorem ErAll.len {us : List V} {a : List (Addr × List (Str × PyData))} (h : ErAll K G us a) : us.length = a.length := by
  induction h with
  | nil => rfl
  | cons _ _ ih => rw [List.length_cons, List.length_cons, ih]
theorem ErAll.get : ∀ {us : List V} {ess : List (Addr × List (Str × PyData))} {i : Nat} {C : Addr} {fs : List (Str × PyData)}, ErAll K G us ess → ess[i]? = some (C, fs) → ∃ u, us[i]? = some u ∧ ErR K G u C fs
  | _, _, _, _, _, .nil, h => by simp at h
  | _, _, 0, _, _, .cons h1 _, h => by
    simp only [List.getElem?_cons_zero, Option.some.injEq, Prod.mk.injEq] at h
    obtain ⟨rfl, rfl⟩ := h
    exact ⟨_, rfl, h1⟩
  | _, _, i + 1, _, _, .cons _ h2, h => by
    obtain ⟨u, e, p⟩ := ErAll.get (i := i) h2 (by simpa using h)
    exact ⟨u, by simpa using e, p⟩
theorem ErAll.drop : ∀ (n : Nat) {us : List V} {ess : List (Addr × List (Str × PyData))}, ErAll K G us ess → ErAll K G (us.drop n) (ess.drop n)
  | 0, _, _, h => h
  | n + 1, _, _, .nil => .nil
  | n + 1, _, _, .cons _ h2 => ErAll.drop n h2
theorem ErAll.take : ∀ (n : Nat) {us : List V} {ess : List (Addr × List (Str × PyData))}, ErAll K G us ess → ErAll K G (us.take n) (ess.take n)
  | 0, _, _, _ => .nil
  | n + 1, _, _, .nil => .nil
  | n + 1, _, _, .cons h1 h2 => .cons h1 (ErAll.take n h2)
/-- values that are kept errors -/
def persOf (δ : List Sl) : List R → Option (List (Addr × List (Str × PyData)))
  | [] => some []
  | r :: rs => match perOf δ r, persOf δ rs with
    | some e, some es => some (e :: es)
    | _, _ => none
theorem perR {r : R} {v : V} {C : Addr} {fs : List (Str × PyData)} (hsl : ∀ i s, δ[i]? = some s → SlR K G H (fun a => w a = some (2 * i)) σ[i]? s) {m : Addr → Prop} (t : RR K G H σ m v r) (h : perOf δ r = some (C, fs)) : ErR K G v C fs := by
  unfold perOf at h
  split at h
  · cases h
    exact t
  · rename_i i
    split at h
    · rename_i b C' fs' e
      cases h
      obtain ⟨u, hu, er⟩ := hsl i _ e
      have hx : σ[i]? = some (some v) := t
      rw [hx] at hu
      cases hu
      exact er
    · cases h
  · cases h
theorem persR (hsl : ∀ i s, δ[i]? = some s → SlR K G H (fun a => w a = some (2 * i)) σ[i]? s) : ∀ {rs : List R} {vs : List V} {ess : List (Addr × List (Str × PyData))}, vs.length = rs.length → (∀ (j : Nat) v r, vs[j]? = some v → rs[j]? = some r → ∃ m, RR K G H σ m v r) → persOf δ rs = some ess → ErAll K G vs ess
  | [], [], ess, _, _, h => by
    cases h
    exact .nil
  | [], _ :: _, _, h, _, _ => by simp at h
  | _ :: _, [], _, h, _, _ => by simp at h
  | r :: rs, v :: vs, ess, hl, t, h => by
    unfold persOf at h
    split at h
    · rename_i e es h1 h2
      cases h
      obtain ⟨C, fs⟩ := e
      obtain ⟨m, t0⟩ := t 0 v r rfl rfl
      exact .cons (perR hsl t0 h1) (persR hsl (by simpa using hl) (fun j v r a b => t (j + 1) v r a b) h2)
    · cases h
theorem Rep.pers (rep : Rep K B G H σ δ vs rs w) {ess : List (Addr × List (Str × PyData))} (h : persOf δ rs = some ess) : ErAll K G vs ess :=
  persR rep.sl rep.tlen (fun j v r a b => ⟨_, rep.tm j v r a b⟩) h
end
section
variable {X : Cx} {pos : Pos}
/-- [e, ..], all kept errors -/
def pLstE (ps : PL) : PX := fun δ Q => ps δ fun rs δ1 => ∃ ess, persOf δ1 rs = some ess ∧ Q (.ow (.ler ess)) δ1
theorem je_lstE {es : List Expr} {ps : PL} (h : JA X B es ps) (hl : es.length ≤ sizeLine := by decide) : JE X B (.List es pos) (pLstE ps) := by
  refine PE_wk (pe_lst h) fun σ H Q ⟨G, w, δ, Qp, rep, q, k⟩ => ?_
  refine ⟨G, w, δ, _, rep, q, fun rs δ1 vs H1 G1 w1 q1 l1 s1 rep1 => ?_⟩
  obtain ⟨ess, hp, q1⟩ := q1
  refine ⟨by rw [rep1.tlen, l1]; exact hl, fun p hp2 => ?_⟩
  obtain ⟨w3, s3, r3⟩ := rep1.retLer hp2 (rep1.pers hp)
  exact k _ _ _ _ _ _ q1 (s1.trans s3) r3
/-- the list of kept errors that a value is -/
def lerOf (δ : List Sl) : R → Option (List (Addr × List (Str × PyData)))
  | .ow (.ler ess) => some ess
  | .ow (.gle ess) => some ess
  | .at i => match δ[i]? with
    | some (.ow _ (.ler ess)) => some ess
    | some (.ow _ (.gle ess)) => some ess
    | _ => none
  | _ => none
theorem lerR {K : PySem.W.Frag} {G H : Hp} {σ : St} {δ : List Sl} {w : Addr → Option Nat} (sg : Same G H) (hsl : ∀ i s, δ[i]? = some s → SlR K G H (fun a => w a = some (2 * i)) σ[i]? s) {r : R} {v : V} {ess : List (Addr × List (Str × PyData))} {m : Addr → Prop} (t : RR K G H σ m v r) (h : lerOf δ r = some ess) : ∃ a us, v = .ref a ∧ H a = some (.lst us) ∧ ErAll K G us ess := by
  unfold lerOf at h
  split at h
  · cases h
    obtain ⟨a, us, e, _, ha, hd⟩ := t
    exact ⟨a, us, e, ha, hd⟩
  · cases h
    obtain ⟨a, us, e, ha, hd⟩ := t
    exact ⟨a, us, e, sg _ _ ha, hd⟩
  · rename_i i
    split at h
    · rename_i b ess' e
      cases h
      obtain ⟨u, hu, a, us, ev, _, ha, hd⟩ := hsl i _ e
      have hx : σ[i]? = some (some v) := t
      rw [hx] at hu
      cases hu
      exact ⟨a, us, ev, ha, hd⟩
    · rename_i b ess' e
      cases h
      obtain ⟨u, hu, a, us, ev, ha, hd⟩ := hsl i _ e
      have hx : σ[i]? = some (some v) := t
      rw [hx] at hu
      cases hu
      exact ⟨a, us, ev, sg _ _ ha, hd⟩
    · cases h
  · cases h
/-- a + b, two lists of kept errors -/
def qAddE : List R → PX := fun rs δ Q => match rs with
  | [ra, rb] => ∃ ea eb, lerOf δ ra = some ea ∧ lerOf δ rb = some eb ∧ ea.length + eb.length ≤ sizeLine ∧ Q (.ow (.ler (ea ++ eb))) δ
  | _ => False
theorem lc_addE {K : PySem.W.Frag} : LC K qAddE (ap2 rCat) := by
  intro B G H σ δ vs rs w Qp Q rep q k
  unfold qAddE at q
  split at q
  · rename_i ra rb
    obtain ⟨ea, eb, h1, h2, hz, q⟩ := q
    have l := rep.tlen
    match vs, l with
    | [x, y], _ =>
      obtain ⟨a, us, rfl, ha, hd⟩ := lerR rep.sub rep.sl (rep.tm 0 x ra rfl rfl) h1
      obtain ⟨b, ws, rfl, hb, he⟩ := lerR rep.sub rep.sl (rep.tm 1 y rb rfl rfl) h2
      have l1 := hd.len
      have l2 := he.len
      refine ⟨a, b, us, ws, rfl, rfl, ha, hb, by omega, fun p hp => ?_⟩
      obtain ⟨w3, s3, r3⟩ := rep.retLer hp (hd.app he)
      exact k _ _ _ _ _ _ q s3 r3
  · exact q.elim
def pAddE (pa pb : PX) : PX := pC qAddE (pCons pa (pCons pb pNil))
theorem je_addE {a b : Expr} {pa pb : PX} (ha : JE X B a pa) (hb : JE X B b pb) : JE X B (.BinOp a .Add b pos) (pAddE pa pb) := je_op op_cat lc_addE ha hb
end
end Pv
/-! Kept errors: isinstance; parts and items of a list of them. -/
namespace Pv
open PySem PySem.Spec L2 Wf
variable {B : Bas}
section
variable {X : Cx} {p pos pt : Pos}
def pIsV (sb : Addr → Option Bool) (i : Nat) : PX := fun δ Q => ∃ b0 C fs b, δ[i]? = some (.ow b0 (.per C fs)) ∧ sb C = some b ∧ Q (.im (.bool b)) δ
theorem je_isV {i : Nat} {n x2 : Str} {u2 : V} {w2 : Value} {sb : Addr → Option Bool} {pn2 : Pos} (hsb : ∀ C b, sb C = some b → IsC X.K C ∧ PySem.W.kitOne X.K (.ref C) w2 = some b) (hcv : ClsV u2 w2) (hg : Gl X "isinstance") (hm : X.mg "isinstance" = none)
    (hn : PE X (.Name n pn2) (tVar i)) (ht : PE X (.Name x2 pt) (tC u2)) (he : starEach [.Name n pn2, .Name x2 pt] X.env = (false, eval (.Name n pn2) X.env) :: starEach [.Name x2 pt] X.env := by rfl) (he2 : starEach [.Name x2 pt] X.env = (false, eval (.Name x2 pt) X.env) :: starEach [] X.env := by rfl) (hpl : (backTo pos (starEach [.Name x2 pt] X.env)).any (·.1) = false := by rfl) :
    JE X B (.Call (.Name "isinstance" p) [.Name n pn2, .Name x2 pt] [] pos) (pIsV sb i) := by
  refine PE_wk (pe_callB call_isV hg hm (by decide +kernel) (pa_cons hn (pa_cons ht pa_nil he2) he) (by decide) (by decide) he hpl) fun σ H Q ⟨G, w, δ, Qp, rep, q, k⟩ => ?_
  obtain ⟨b0, C, fs, b, h1, h2, q⟩ := q
  obtain ⟨v, hv, a, dd, us, rfl, g1, g2, g3⟩ := rep.sl i _ h1
  obtain ⟨f1, f2⟩ := hsb C b h2
  exact ⟨_, hv, a, C, dd, us, u2, b, rep.sub _ _ g1, f1, rep.sub _ _ g2, .inl ⟨_, rfl, hcv, f2⟩, k _ δ _ H G _ q .drop (rep.ret (.bl b))⟩
theorem erAll_cut {K : PySem.W.Frag} {G : Hp} {us : List V} {ess : List (Addr × List (Str × PyData))} {lo hi : Option Int} (h : ErAll K G us ess) : ErAll K G (cutV us lo hi) (cutD ess lo hi) := by
  unfold cutV cutD
  rw [h.len]
  exact (h.drop _).take _
/-- l[lo:hi] -/
def pSliceE (pa : PX) (lo hi : POx) : PX := fun δ Q => pa δ fun ra δ1 => lo δ1 fun l δ2 => hi δ2 fun u δ3 => ∃ ess, lerOf δ3 ra = some ess ∧ Q (.ow (.ler (cutD ess l u))) δ3
theorem je_sliceE {a : Expr} {pa : PX} {lo hi : Option Expr} {pl ph : POx} {p2 : Pos} (ha : JE X B a pa) (hl : JO X B lo pl) (hh : JO X B hi ph) : JE X B (.Subscript a (.Slice lo hi none p2) pos) (pSliceE pa pl ph) := by
  refine PE_wk (pe_slice sl_list ha hl hh) fun σ H Q ⟨G, w, δ, Qp, rep, h, k⟩ => ?_
  refine ⟨G, w, δ, _, rep, h, fun ra δ1 x H1 G1 w1 q1 s1 rep1 => ?_⟩
  refine ⟨G1, _, δ1, _, rep1.drop, q1, fun l δ2 H2 G2 w2 q2 s2 rep2 => ?_⟩
  obtain ⟨w3, s3, rep3⟩ := rep1.frame s2 rep2
  refine ⟨G2, _, δ2, _, rep3.drop, q2, fun u δ3 H3 G3 w4 q3 s4 rep4 => ?_⟩
  obtain ⟨w5, s5, rep5⟩ := rep3.frame s4 rep4
  have s6 := (s1.trans s3).trans s5
  obtain ⟨ess, hl2, q3⟩ := q3
  obtain ⟨p1, u1, rfl, t1, d1⟩ := lerR rep5.sub rep5.sl (rep5.tm 0 x ra rfl rfl) hl2
  refine ⟨p1, u1, rfl, SqL.of t1, fun p hp => ?_⟩
  obtain ⟨w7, s7, r7⟩ := rep5.retLer hp (erAll_cut (lo := l) (hi := u) d1)
  exact k _ δ3 _ _ _ _ q3 (s6.trans s7) r7
/-- l[i] -/
def qIxE : List R → PX := fun rs δ Q => match rs with
  | [ra, rb] => ∃ ess i C fs, lerOf δ ra = some ess ∧ dat δ rb = some (.int i) ∧ atI ess i = some (C, fs) ∧ Q (.ow (.per C fs)) δ
  | _ => False
theorem erAll_at {K : PySem.W.Frag} {G : Hp} {us : List V} {ess : List (Addr × List (Str × PyData))} {i : Int} {C : Addr} {fs : List (Str × PyData)} (h : ErAll K G us ess) (e : atI ess i = some (C, fs)) : ∃ v, atI us i = some v ∧ ErR K G v C fs := by
  unfold atI at e ⊢
  rw [h.len]
  obtain ⟨j, hj, e⟩ := Option.bind_eq_some_iff.mp e
  obtain ⟨u, hu, er⟩ := h.get e
  exact ⟨u, by rw [hj]; exact hu, er⟩
theorem lc_ixE {K : PySem.W.Frag} : LC K qIxE (ap2 (rIxL K)) := by
  intro B G H σ δ vs rs w Qp Q rep q k
  unfold qIxE at q
  split at q
  · rename_i ra rb
    obtain ⟨ess, i, C, fs, h1, h2, h3, q⟩ := q
    have l := rep.tlen
    match vs, l with
    | [x, y], _ =>
      obtain ⟨a, us, rfl, ha, hd⟩ := lerR rep.sub rep.sl (rep.tm 0 x ra rfl rfl) h1
      obtain ⟨v, hv, er⟩ := erAll_at hd h3
      have ei := dp_int (rep.dpH (j := 1) rfl rfl h2)
      subst ei
      exact ⟨a, us, i, v, rfl, rfl, SqL.of ha, hv, k _ δ _ H G _ q .drop (rep.retE er)⟩
  · exact q.elim
def pIxE (pa pb : PX) : PX := pC qIxE (pCons pa (pCons pb pNil))
theorem je_ixE {a b : Expr} {pa pb : PX} (ha : JE X B a pa) (hb : JE X B b pb) (hs : PlainIx b) : JE X B (.Subscript a b pos) (pIxE pa pb) := PE_wk (pe_ix ix_list ha hb hs) fun σ H Q h => lc_two lc_ixE h
end
end Pv
/-! Kept errors made by names. -/
namespace Pv
open PySem PySem.Spec L2 Wf
variable {B : Bas}
section
variable {X : Cx} {p pos : Pos}
/-- C(f2 = e, f1 = d) -/
def pKeep2K (C : Addr) (f1 f2 : Str) (ps : PL) : PX := fun δ Q => ps δ fun rs δ1 => ∃ d e δ2, fzAll δ1 rs = some ([e, d], δ2) ∧ Q (.ow (.per C [(f2, e), (f1, d)])) δ2
theorem je_keep2K {x f1 f2 : Str} {C fI : Addr} {fd : FuncData} {ks : List Str} {kws : List Keyword} {ps : PL} {j : Nat} {g : List Value → List Value → List Value} {gV : List V → List V → List V} (T : OexC X.K C) (gm : X.mg x = some (.ref C)) (iC : PySem.W.findIn X.K (.ref C) "__init__" = some (some (.ref fI))) (tI : PySem.W.typeIn X.K (.ref fI) = some (.type "function"))
    (F : FnOk X.prog X.w X.K X.mg X.base CX0 1 fI fd ["self", f1, f2] (sp_init2 X.K C f1 f2)) (hb : KBn X.K fd ["self", f1, f2] 1 ks g gV) (h2 : ks.length = 2) (hgV : ∀ a z0 z1, gV [.ref a] [z0, z1] = [.ref a, z1, z0]) (hr : Room j X.A) (hg : Gl X x) (hkw : JK X B kws ps) (hk : 2 ≤ j := by decide)
    (hall : (backToKw pos (keywordEach kws X.env)).all (·.1.isSome) = true := by rfl) (hks : (backToKw pos (keywordEach kws X.env)).filterMap (·.1) = ks := by rfl)
    (hdb : (x == ("__debug__" : Str)) = false := by decide) (hpl : ((backTo pos (starEach [] X.env)).any (·.1) || (backToKw pos (keywordEach kws X.env)).any (·.1.isNone)) = false := by rfl) :
    JE X B (.Call (.Name x p) [] kws pos) (pKeep2K C f1 f2 ps) := PE_wk (pe_kp2K T gm iC tI F hb h2 hr hg hkw hk hall hks hdb hpl) fun σ H Q ⟨G, w, δ, Qp, rep, q, k⟩ =>
  ⟨G, w, δ, _, rep, q, fun rs δ1 vs H1 G1 w1 q1 l1 s1 rep1 => by
    obtain ⟨d, e, δ2, hz, q1⟩ := q1
    obtain ⟨G2, w2, s2, r2⟩ := rep1.fzs hz
    have hd := r2.ims
    match vs, hd with
    | [u, v], .cons h2 (.cons h1 .nil) =>
      refine ⟨rfl, v, u, fun a => hgV a u v, fun a dx hdx hax ne => ?_⟩
      obtain ⟨G3, s3, r3⟩ := r2.keepE (C := C) (us := [(f2, u), (f1, v)]) (fs := [(f2, e), (f1, d)]) (.cons h2 (.cons h1 .nil)) hdx hax ne
      exact k _ δ2 _ _ G3 _ q1 ((s1.trans s2).trans s3) r3⟩
theorem je_keep1K {x f1 : Str} {C fI : Addr} {fd : FuncData} {ks : List Str} {kws : List Keyword} {ps : PL} {j : Nat} {g : List Value → List Value → List Value} {gV : List V → List V → List V} (T : OexC X.K C) (gm : X.mg x = some (.ref C)) (iC : PySem.W.findIn X.K (.ref C) "__init__" = some (some (.ref fI))) (tI : PySem.W.typeIn X.K (.ref fI) = some (.type "function"))
    (F : FnOk X.prog X.w X.K X.mg X.base CX0 1 fI fd ["self", f1] (sp_init1 X.K C f1)) (hb : KBn X.K fd ["self", f1] 1 ks g gV) (h1 : ks.length = 1) (hgV : ∀ a z, gV [.ref a] [z] = [.ref a, z]) (hr : Room j X.A) (hg : Gl X x) (hkw : JK X B kws ps) (hk : 2 ≤ j := by decide)
    (hall : (backToKw pos (keywordEach kws X.env)).all (·.1.isSome) = true := by rfl) (hks : (backToKw pos (keywordEach kws X.env)).filterMap (·.1) = ks := by rfl)
    (hdb : (x == ("__debug__" : Str)) = false := by decide) (hpl : ((backTo pos (starEach [] X.env)).any (·.1) || (backToKw pos (keywordEach kws X.env)).any (·.1.isNone)) = false := by rfl) :
    JE X B (.Call (.Name x p) [] kws pos) (pKeep1 C f1 ps) := PE_wk (pe_kp1K T gm iC tI F hb h1 hr hg hkw hk hall hks hdb hpl) fun σ H Q ⟨G, w, δ, Qp, rep, q, k⟩ =>
  ⟨G, w, δ, _, rep, q, fun rs δ1 vs H1 G1 w1 q1 l1 s1 rep1 => by
    obtain ⟨d, δ2, hz, q1⟩ := q1
    obtain ⟨G2, w2, s2, r2⟩ := rep1.fzs hz
    have hd := r2.ims
    match vs, hd with
    | [v], .cons h1 .nil =>
      refine ⟨rfl, v, fun a => hgV a v, fun a dx hdx hax ne => ?_⟩
      obtain ⟨G3, s3, r3⟩ := r2.keepE (C := C) (us := [(f1, v)]) (fs := [(f1, d)]) (.cons h1 .nil) hdx hax ne
      exact k _ δ2 _ _ G3 _ q1 ((s1.trans s2).trans s3) r3⟩
theorem je_keep1KI {x f1 : Str} {C fI : Addr} {fd : FuncData} {ks : List Str} {kws : List Keyword} {ps : PL} {j : Nat} {g : List Value → List Value → List Value} {gV : List V → List V → List V} (T : OexI X.K C) (gm : X.mg x = some (.ref C)) (iC : PySem.W.findIn X.K (.ref C) "__init__" = some (some (.ref fI))) (tI : PySem.W.typeIn X.K (.ref fI) = some (.type "function"))
    (F : FnOk X.prog X.w X.K X.mg X.base CX0 1 fI fd ["self", f1] (sp_init1 X.K C f1)) (hb : KBn X.K fd ["self", f1] 1 ks g gV) (h1 : ks.length = 1) (hgV : ∀ a z, gV [.ref a] [z] = [.ref a, z]) (hr : Room j X.A) (hg : Gl X x) (hkw : JK X B kws ps) (hk : 2 ≤ j := by decide)
    (hall : (backToKw pos (keywordEach kws X.env)).all (·.1.isSome) = true := by rfl) (hks : (backToKw pos (keywordEach kws X.env)).filterMap (·.1) = ks := by rfl)
    (hdb : (x == ("__debug__" : Str)) = false := by decide) (hpl : ((backTo pos (starEach [] X.env)).any (·.1) || (backToKw pos (keywordEach kws X.env)).any (·.1.isNone)) = false := by rfl) :
    JE X B (.Call (.Name x p) [] kws pos) (pKeep1 C f1 ps) := PE_wk (pe_kp1KI T gm iC tI F hb h1 hr hg hkw hk hall hks hdb hpl) fun σ H Q ⟨G, w, δ, Qp, rep, q, k⟩ =>
  ⟨G, w, δ, _, rep, q, fun rs δ1 vs H1 G1 w1 q1 l1 s1 rep1 => by
    obtain ⟨d, δ2, hz, q1⟩ := q1
    obtain ⟨G2, w2, s2, r2⟩ := rep1.fzs hz
    have hd := r2.ims
    match vs, hd with
    | [v], .cons h1 .nil =>
      refine ⟨rfl, v, fun a => hgV a v, fun a dx hdx hax ne => ?_⟩
      obtain ⟨G3, s3, r3⟩ := r2.keepE (C := C) (us := [(f1, v)]) (fs := [(f1, d)]) (.cons h1 .nil) hdx hax ne
      exact k _ δ2 _ _ G3 _ q1 ((s1.trans s2).trans s3) r3⟩
end
end Pv
/-! (a, b, ..) = a list. -/
namespace Pv
open PySem PySem.Spec L2 Wf PyProof.Rows
end Pv
/-! a, b, c = a list of kept errors. -/
namespace Pv
open PySem PySem.Spec L2 Wf PyProof.Rows
variable {B : Bas}
abbrev Er := Addr × List (Str × PyData)
abbrev PGe := Er → List Sl → (List Sl → Prop) → Prop
abbrev PGes := List Er → List Sl → (List Sl → Prop) → Prop
def geN (i : Nat) : PGe := fun e δ Q => setS i (.ow (.per e.1 e.2)) δ Q
def gesN : PGes := fun es δ Q => es = [] ∧ Q δ
def gesC (g : PGe) (gs : PGes) : PGes := fun es δ Q => ∃ e r, es = e :: r ∧ g e δ fun δ1 => gs r δ1 Q
def LGe (K : PySem.W.Frag) (B : Bas) (ts : List Nat) (g : PGe) : TG := fun v σ H Q => ∃ G w δ e Qp, Rep K B G H σ δ [] [] w ∧ ErR K G v e.1 e.2 ∧ g e δ Qp ∧ ∀ δ' σ' H' G' w', Qp δ' → Stp B.T G H w δ G' H' w' δ' → Rep K B G' H' σ' δ' [] [] w' → Pin σ δ σ' → Tch ts σ σ' → Q σ' H'
def LGes (K : PySem.W.Frag) (B : Bas) (ts : List Nat) (g : PGes) : TGs := fun vs σ H Q => ∃ G w δ es Qp, Rep K B G H σ δ [] [] w ∧ ErAll K G vs es ∧ g es δ Qp ∧ ∀ δ' σ' H' G' w', Qp δ' → Stp B.T G H w δ G' H' w' δ' → Rep K B G' H' σ' δ' [] [] w' → Pin σ δ σ' → Tch ts σ σ' → Q σ' H'
section
variable {X : Cx} {pos : Pos}
def JGe (X : Cx) (B : Bas) (e : Expr) (ts : List Nat) (g : PGe) : Prop := PG X e (LGe X.K B ts g)
def JGes (X : Cx) (B : Bas) (es : List Expr) (ts : List Nat) (g : PGes) : Prop := PGs X es (LGes X.K B ts g)
theorem jge_name {i : Nat} {x : Str} (hN : X.N.Nodup) (hi : X.N[i]? = some x) (hx : Loc X.env.scope x) (hf : X.fn x = true ∨ X.env.scope.names.lookup x = some .local := by first | exact .inl rfl | exact .inr rfl | assumption) : JGe X B (.Name x pos) [i] (geN i) :=
  PG_wk (pg_name hN hi hx hf) fun v σ H Q ⟨G, w, δ, e, Qp, rep, hd, h, k⟩ => by
    obtain ⟨w3, q3, s3, r3, p3⟩ := (rep.retE hd).sto (show setS i (.ow (.per e.1 e.2)) δ Qp from h) rfl (fun p hp => by cases hp)
    exact k _ _ H G w3 q3 (Stp.drop.trans s3) r3 p3 ⟨List.length_set, fun k hk => List.getElem?_set_ne fun z => hk (by rw [z]; exact List.mem_singleton.mpr rfl)⟩
theorem jges_nil : JGes X B [] [] gesN := PGs_wk pgs_nil fun vs σ H Q ⟨G, w, δ, ds, Qp, rep, hd, h, k⟩ => by
  obtain ⟨rfl, h⟩ := h
  cases hd
  exact ⟨rfl, k δ σ H G w h .refl rep .refl .refl⟩
theorem jges_cons {e : Expr} {es : List Expr} {ts us : List Nat} {g : PGe} {gs : PGes} (h1 : JGe X B e ts g) (h2 : JGes X B es us gs)
    (hs : (assignEach (e :: es) X.env).map (·.2) = assign e X.env :: (assignEach es X.env).map (·.2) := by rfl) : JGes X B (e :: es) (ts ++ us) (gesC g gs) := PGs_wk (pgs_cons h1 h2 hs) fun vs σ H Q ⟨G, w, δ, ds, Qp, rep, hd, h, k⟩ => by
  obtain ⟨e0, r0, rfl, h⟩ := h
  cases hd with
  | cons h1 h2 =>
    exact ⟨_, _, rfl, G, w, δ, (_, _), _, rep, h1, h, fun δ' σ' H' G' w' hq s r p t => ⟨G', w', δ', _, Qp, r, h2.mono s.g, hq, fun δ2 σ2 H2 G2 w2 hq2 s2 r2 p2 t2 => k δ2 σ2 H2 G2 w2 hq2 (s.trans s2) r2 (p.trans s.pn p2) (t.trans t2)⟩⟩
/-- a, b, .. = p, a list of kept errors -/
def pUnE (n : Nat) (p : PX) (gs : PGes) : PSx := fun E δ => p δ fun r δ1 => ∃ ess, lerOf δ1 r = some ess ∧ ess.length = n ∧ gs ess δ1 E.nx
theorem js_unE {es : List Expr} {k n : Nat} {e : Expr} {p : PX} {ts : List Nat} {gs : PGes} {tp : Pos} (hc : X.calm = true) (he : JE X B e p) (h : JGes X B es ts gs) (hn : (assignEach es X.env).length = n := by rfl) (hst : (assignEach es X.env).findIdx? (·.1) = none := by rfl)
    (hs : swapsWithSole [.Tuple es k tp] e pos.line X.env = pure false := by rfl) (hw : swappedStores [.Tuple es k tp] e X.env = pure none := by rfl)
    (h1 : (assignEach [.Tuple es k tp] X.env).map (·.2) = [assign (.Tuple es k tp) X.env] := by rfl) : JS X B (.Assign [.Tuple es k tp] e pos) (pUnE n p gs) := PS_wk (ps_asg he (pg_unl hc h hn hst) hs hw h1) fun D σ H ⟨G, w, δ, E, rep, h, ek⟩ =>
  ⟨G, w, δ, _, rep, h, fun r δ1 v H1 G1 w1 q1 s1 rep1 => by
    obtain ⟨ess, hl, hn2, q1⟩ := q1
    obtain ⟨a, us, rfl, ha, hd⟩ := lerR rep1.sub rep1.sl (rep1.tm 0 v r rfl rfl) hl
    exact ⟨a, us, rfl, SqL.of ha, hd.len.trans hn2, G1, _, δ1, ess, _, rep1.drop, hd, q1, fun δ' σ' H' G' w' hq s r p _ => ek.nx δ' σ' H' G' w' hq ((s1.trans .drop).trans s) r ((Pin.refl (σ := σ)).trans (s1.trans .drop).pn p)⟩⟩
end
end Pv
/-! Lists of kept errors: made public; for over them. -/
namespace Pv
open PySem PySem.Spec L2 Wf
variable {B : Bas}
section
variable {K : PySem.W.Frag} {G H : Hp} {σ : St} {δ : List Sl} {w : Addr → Option Nat}
/-- a list of kept errors that stands for good -/
def GlR (K : PySem.W.Frag) (G : Hp) (v : V) (ess : List Er) : Prop := ∃ a us, v = .ref a ∧ G a = some (.lst us) ∧ ErAll K G us ess
theorem Rep.pubLer {v : V} {ess : List Er} (r : Rep K B G H σ δ [v] [.ow (.ler ess)] w) : ∃ G', Stp B.T G H w δ G' H (fun a => evn (w a)) δ ∧ Rep K B G' H σ δ [] [] (fun a => evn (w a)) ∧ GlR K G' v ess := by
  obtain ⟨D, us, rfl, hw, ha, hd⟩ := r.tm 0 v (.ow (.ler ess)) rfl rfl
  have hw : w D = some 1 := hw
  have gp : G D = none := (r.out D _ hw).1
  have r0 := r.drop
  have st0 : Stp B.T G H w δ G H (fun a => evn (w a)) δ := .drop
  have sg : Same G (upd G D (.lst us)) := same_new gp
  have eD : evn (w D) = none := by rw [hw]; rfl
  refine ⟨upd G D (.lst us), ⟨fun a o h => sg a o h, st0.b, st0.n, fun a o h => ?_, st0.pn, st0.t, fun a ps h => ?_⟩, ⟨fun a u hu => ?_, fun a i h => ?_, r0.len, fun i s h => (r0.sl i s h).mono sg (fun _ _ _ h => h) (fun a u ma _ => ma), rfl, fun j v q hv hq => by simp at hv, ⟨r0.bs.to, r0.bs.tt, r0.bs.ta, fun a ps e => ?_⟩⟩, D, us, rfl, upd_same, hd.mono sg⟩
  · by_cases z : a = D
    · subst z; exact .inr (.inr (.inl (by rw [hw]; exact Option.some_ne_none _)))
    · rw [upd_ne z] at h; exact .inl h
  · by_cases z : a = D
    · subst z; rw [upd_same] at h; cases h
    · rw [upd_ne z] at h; exact st0.q a ps h
  · by_cases e : a = D
    · subst e; rw [upd_same] at hu; cases hu; exact ha
    · rw [upd_ne e] at hu; exact r0.sub a u hu
  · have ho := r0.out a i h
    rw [upd_ne (fun z => by rw [z] at h; rw [eD] at h; cases h)]
    exact ho
  · by_cases z : a = D
    · subst z; rw [upd_same] at e; cases e
    · rw [upd_ne z] at e; exact r0.bs.gt a ps e
/-- a value that is a list of kept errors, own or for good, stands for good from now on -/
def iseOf (δ : List Sl) : R → Option (List Er)
  | .ow (.ler ess) => some ess
  | .ow (.gle ess) => some ess
  | .at i => match δ[i]? with
    | some (.ow _ (.gle ess)) => some ess
    | _ => none
  | _ => none
theorem Rep.ise {v : V} {r : R} {ess : List Er} (rep : Rep K B G H σ δ [v] [r] w) (h : iseOf δ r = some ess) : ∃ G', Stp B.T G H w δ G' H (fun a => evn (w a)) δ ∧ Rep K B G' H σ δ [] [] (fun a => evn (w a)) ∧ GlR K G' v ess := by
  unfold iseOf at h
  split at h
  · cases h
    exact rep.pubLer
  · cases h
    exact ⟨G, .drop, rep.drop, rep.tm 0 v _ rfl rfl⟩
  · rename_i i
    split at h
    · rename_i b ess' e
      cases h
      obtain ⟨u, hu, g⟩ := rep.sl i _ e
      have hx : σ[i]? = some (some v) := rep.tm 0 v (.at i) rfl rfl
      rw [hx] at hu
      cases hu
      exact ⟨G, .drop, rep.drop, g⟩
    · cases h
  · cases h
end
end Pv
/-! for x in (f(..), g(..)), both lists of kept errors. -/
namespace Pv
open PySem PySem.Spec L2 Wf
variable {B : Bas}
section
variable {K : PySem.W.Frag} {G H : Hp} {σ : St} {δ : List Sl} {w : Addr → Option Nat}
theorem Rep.pubLer2 {v1 v2 : V} {e1 e2 : List Er} (r : Rep K B G H σ δ [v1, v2] [.ow (.ler e1), .ow (.ler e2)] w) : ∃ G', Stp B.T G H w δ G' H (fun a => evn (w a)) δ ∧ Rep K B G' H σ δ [] [] (fun a => evn (w a)) ∧ GlR K G' v1 e1 ∧ GlR K G' v2 e2 := by
  obtain ⟨D, us, rfl, hw, ha, hd⟩ := r.tm 0 v1 (.ow (.ler e1)) rfl rfl
  obtain ⟨F, ws, rfl, kw, ka, kd⟩ := r.tm 1 v2 (.ow (.ler e2)) rfl rfl
  have hw : w D = some 1 := hw
  have kw : w F = some 3 := kw
  have ne : F ≠ D := fun z => by rw [z, hw] at kw; cases kw
  have gD : G D = none := (r.out D _ hw).1
  have gF : G F = none := (r.out F _ kw).1
  have r0 := r.drop
  have st0 : Stp B.T G H w δ G H (fun a => evn (w a)) δ := .drop
  have s1 : Same G (upd G D (.lst us)) := same_new gD
  have s2 : Same (upd G D (.lst us)) (upd (upd G D (.lst us)) F (.lst ws)) := same_new (by rw [upd_ne ne]; exact gF)
  have sg : Same G (upd (upd G D (.lst us)) F (.lst ws)) := fun a o h => s2 a o (s1 a o h)
  have eD : evn (w D) = none := by rw [hw]; rfl
  have eF : evn (w F) = none := by rw [kw]; rfl
  have cs : ∀ {a : Addr} {o : HO}, upd (upd G D (.lst us)) F (.lst ws) a = some o → G a = some o ∨ (a = D ∧ o = .lst us) ∨ (a = F ∧ o = .lst ws) := fun {a o} h => by
    by_cases z : a = F
    · subst z; rw [upd_same] at h; cases h; exact .inr (.inr ⟨rfl, rfl⟩)
    · rw [upd_ne z] at h
      by_cases y : a = D
      · subst y; rw [upd_same] at h; cases h; exact .inr (.inl ⟨rfl, rfl⟩)
      · rw [upd_ne y] at h; exact .inl h
  refine ⟨_, ⟨fun a o h => sg a o h, st0.b, st0.n, fun a o h => ?_, st0.pn, st0.t, fun a ps h => ?_⟩, ⟨fun a u hu => ?_, fun a i h => ?_, r0.len, fun i s h => (r0.sl i s h).mono sg (fun _ _ _ h => h) (fun a u ma _ => ma), rfl, fun j v q hv hq => by simp at hv, ⟨r0.bs.to, r0.bs.tt, r0.bs.ta, fun a ps e => ?_⟩⟩, ⟨D, us, rfl, by rw [upd_ne (Ne.symm ne), upd_same], hd.mono sg⟩, F, ws, rfl, upd_same, kd.mono sg⟩
  · rcases cs h with z | ⟨rfl, _⟩ | ⟨rfl, _⟩
    · exact .inl z
    · exact .inr (.inr (.inl (by rw [hw]; exact Option.some_ne_none _)))
    · exact .inr (.inr (.inl (by rw [kw]; exact Option.some_ne_none _)))
  · rcases cs h with z | ⟨_, z⟩ | ⟨_, z⟩
    · exact st0.q a ps z
    · cases z
    · cases z
  · rcases cs hu with z | ⟨rfl, rfl⟩ | ⟨rfl, rfl⟩
    · exact r0.sub a u z
    · exact ha
    · exact ka
  · have ho := r0.out a i h
    have nD : a ≠ D := fun z => by rw [z] at h; rw [eD] at h; cases h
    have nF : a ≠ F := fun z => by rw [z] at h; rw [eF] at h; cases h
    rw [upd_ne nF, upd_ne nD]
    exact ho
  · rcases cs e with z | ⟨_, z⟩ | ⟨_, z⟩
    · exact r0.bs.gt a ps z
    · cases z
    · cases z
theorem Rep.retG {vs : List V} {rs : List R} (r : Rep K B G H σ δ vs rs w) {v : V} {ess : List Er} (h : GlR K G v ess) : Rep K B G H σ δ [v] [.ow (.gle ess)] fun a => evn (w a) := by
  have r0 := r.drop
  refine ⟨r0.sub, r0.out, r0.len, r0.sl, rfl, fun j u q hu hq => ?_, r0.bs⟩
  match j with
  | 0 =>
    simp only [List.getElem?_cons_zero, Option.some.injEq] at hu hq
    subst hu hq
    exact h
  | j + 1 => simp at hu
end
section
variable {X : Cx}
/-- for slot k in (p1, p2): body -/
def pForE2 (ts : List Nat) (k : Nat) (p1 p2 : PX) (body : PSx) : PSx := fun E δ => pCons p1 (pCons p2 pNil) δ fun rs δ1 => ∃ e1 e2, rs = [.ow (.ler e1), .ow (.ler e2)] ∧ ∃ I : Nat → List Sl → Prop, I 0 (wipeT δ1 ts) ∧ (∀ i ess δ, [e1, e2][i]? = some ess → I i δ → setS k (.ow (.gle ess)) δ fun δ' => body ⟨fun δ' => I (i + 1) (wipeT δ' ts), E.rt, fun δ' => E.nx (wipeT δ' ts), fun δ' => I (i + 1) (wipeT δ' ts)⟩ δ') ∧ ∀ δ, I 2 δ → E.nx δ
theorem js_forE2 {x : Str} {a b : Expr} {x1} {k : Nat} {body : List Stmt} {p1 p2 : PX} {ts : List Nat} {pb : PSx} {np tp spos : Pos} (hp : PassesOwn (model X.prog X.w) X.A X.env X.xe) (hc : X.calm = true) (ha : JE X B a p1) (hb2 : JE X B b p2) (hN : X.N.Nodup) (hi : X.N[k]? = some x) (hx : Loc X.env.scope x) (hb : JSs X B body pb)
    (hs : ∀ y, foldedSetIterable (.Tuple [a, b] x1 tp) X.env y = pure y := by intro _; rfl) (hf : X.fn x = true ∨ X.env.scope.names.lookup x = some .local := by first | exact .inl rfl | exact .inr rfl | assumption)
    (h1 : starEach [a, b] X.env = (false, eval a X.env) :: starEach [b] X.env := by rfl) (h2 : starEach [b] X.env = (false, eval b X.env) :: starEach [] X.env := by rfl) : JS X B (.For (.Name x np) (.Tuple [a, b] x1 tp) body [] spos) (pForE2 ts k p1 p2 pb) := by
  have hA : JA X B [a, b] (pCons p1 (pCons p2 pNil)) := ja_cons ha (ja_cons hb2 ja_nil h2) h1
  refine PS_wk (ps_for hp hc (pi_seqU (pe_tup hA)) (pg_name hN hi hx hf) hb (by assumption)) fun D σ H ⟨G, w, δ, E, rep, h, ek⟩ => ?_
  refine ⟨G, w, δ, _, rep, h, fun rs δ1 vs H1 G1 w1 q1 l1 s1 rep1 => ?_⟩
  obtain ⟨e1, e2, rfl, I, i0, is, ie⟩ := q1
  have hl : vs.length = 2 := rep1.tlen
  match vs, hl with
  | [v1, v2], _ =>
    obtain ⟨G2, sp, rep2, g1, g2⟩ := rep1.pubLer2
    refine ⟨by show 2 ≤ sizeLine; decide, fun t ht => ?_⟩
    obtain ⟨s3, rep3⟩ := rep2.lay (o := .tup [v1, v2]) ht
    have s4 := (s1.trans sp).trans s3
    have sg3 : Same G2 (upd G2 t (.tup [v1, v2])) := s3.g
    have ga : upd G2 t (.tup [v1, v2]) t = some (.tup [v1, v2]) := upd_same
    have gl : ∀ i ess, [e1, e2][i]? = some ess → ∃ v, [v1, v2][i]? = some v ∧ GlR X.K (upd G2 t (.tup [v1, v2])) v ess := fun i ess hi => by
      have mono : ∀ v ess, GlR X.K G2 v ess → GlR X.K (upd G2 t (.tup [v1, v2])) v ess := fun v ess ⟨a, us, e, h1, h2⟩ => ⟨a, us, e, sg3 _ _ h1, h2.mono sg3⟩
      have : i < 2 := (List.getElem?_eq_some_iff.mp hi).1
      have : i = 0 ∨ i = 1 := by omega
      rcases this with rfl | rfl
      · cases hi; exact ⟨v1, rfl, mono _ _ g1⟩
      · cases hi; exact ⟨v2, rfl, mono _ _ g2⟩
    generalize upd G2 t (.tup [v1, v2]) = G4 at *
    generalize (fun a => evn (w1 a)) = w2 at *
    have sq : ∀ {G' H' : Hp}, Same G4 G' → Same G' H' → SqT X.K H' t [v1, v2] := fun sg sh => .inl (.inl (sh _ _ (sg _ _ ga)))
    refine ⟨t, rfl, .inr ⟨⟨[v1, v2], sq (fun _ _ z => z) rep3.sub⟩, ?_⟩⟩
    refine ⟨fun i m σ' H' => m = 2 - i ∧ i ≤ 2 ∧ ∃ G' w' δ', Stp B.T G H w δ G' H' w' δ' ∧ Same G4 G' ∧ Rep X.K B G' H' σ' δ' [] [] w' ∧ Pin σ δ σ' ∧ I i δ', ⟨2, rfl, Nat.zero_le _, G4, w2, _, s4.wipe ts, fun _ _ h => h, rep3.wipe ts, .refl, i0⟩, ?_⟩
    rintro i m σ' H' ⟨rfl, hi2, G', w', δ', st, sg, rp, pn, q⟩
    by_cases hlt : i < 2
    · obtain ⟨ess, he0⟩ : ∃ e, [e1, e2][i]? = some e := ⟨_, List.getElem?_eq_getElem hlt⟩
      have q := is i ess δ' he0 q
      refine .inr ⟨⟨[v1, v2], [v1, v2][i]'hlt, sq sg rp.sub, by simp⟩, fun σ2 H2 => i + 1 ≤ 2 ∧ ∃ G' w' δ', Stp B.T G H w δ G' H2 w' δ' ∧ Same G4 G' ∧ Rep X.K B G' H2 σ2 δ' [] [] w' ∧ Pin σ δ σ2 ∧ I (i + 1) δ', fun σ2 H2 z => ⟨2 - (i + 1), by omega, rfl, z⟩, fun x H2 y => ?_⟩
      obtain ⟨rfl, y⟩ := y
      have ex := y [v1, v2] (sq sg rp.sub)
      obtain ⟨v, hv2, a, us, e, gg1, gg2⟩ := gl i ess he0
      rw [hv2] at ex
      cases ex
      obtain ⟨w5, q5, s5, r5, p5⟩ := (rp.retG (ess := ess) ⟨a, us, e, sg _ _ gg1, gg2.mono sg⟩).sto q rfl (fun p hp => by cases hp)
      have st5 := st.trans (Stp.drop.trans s5)
      have pn5 : Pin σ δ _ := pn.trans st.pn p5
      have nx : ∀ δ4 σ4 H4 G5 w4, I (i + 1) (wipeT δ4 ts) → Stp B.T G' _ w5 _ G5 H4 w4 δ4 → Rep X.K B G5 H4 σ4 δ4 [] [] w4 → Pin _ _ σ4 → i + 1 ≤ 2 ∧ ∃ G' w' δ', Stp B.T G H w δ G' H4 w' δ' ∧ Same G4 G' ∧ Rep X.K B G' H4 σ4 δ' [] [] w' ∧ Pin σ δ σ4 ∧ I (i + 1) δ' :=
        fun δ4 σ4 H4 G5 w4 hl s6 r6 p6 => ⟨hlt, G5, w4, _, (st5.trans s6).wipe ts, fun a o ha => s6.g a o (sg a o ha), r6.wipe ts, pn5.trans st5.pn p6, hl⟩
      exact ⟨G', w5, _, _, r5, q5, ⟨nx, (ek.later st5 pn5).rt, fun δ4 σ4 H4 G5 w4 hl s6 r6 p6 => ek.nx _ σ4 H4 G5 w4 hl ((st5.trans s6).wipe ts) (r6.wipe ts) (pn5.trans st5.pn p6), nx⟩⟩
    · have ei : i = 2 := by omega
      subst ei
      exact .inl ⟨⟨[v1, v2], sq sg rp.sub, Nat.le_refl _⟩, ek.nx δ' σ' H' G' w' (ie δ' q) st rp pn⟩
end
end Pv
/-! for k, e in enumerate(a list of kept errors). -/
namespace Pv
open PySem PySem.Spec L2 Wf
variable {B : Bas}
section
variable {X : Cx} {p pos : Pos}
/-- for slot i, slot j in enumerate(q): body -/
def pForEn (ts : List Nat) (i j : Nat) (ps : PL) (body : PSx) : PSx := fun E δ => ps δ fun rs δ1 => ∃ r es, rs = [r] ∧ iseOf δ1 r = some es ∧ ∃ I : Nat → List Sl → Prop, I 0 (wipeT δ1 ts) ∧ (∀ (n : Nat) e δ, es[n]? = some e → I n δ → setS i (.im (.int (n : Int))) δ fun δ2 => setS j (.ow (.per e.1 e.2)) δ2 fun δ' => body ⟨fun δ' => I (n + 1) (wipeT δ' ts), E.rt, fun δ' => E.nx (wipeT δ' ts), fun δ' => I (n + 1) (wipeT δ' ts)⟩ δ') ∧ ∀ δ, I es.length δ → E.nx δ
theorem js_forEn {x y : Str} {e : Expr} {i j kk : Nat} {body : List Stmt} {ps : PL} {ts : List Nat} {pb : PSx} {p1 p2 tp spos : Pos} (hp : PassesOwn (model X.prog X.w) X.A X.env X.xe) (hc : X.calm = true) (hg : Gl X "enumerate") (hm : X.mg "enumerate" = none) (ha : JA X B [e] ps) (hN : X.N.Nodup) (hi : X.N[i]? = some x) (hj : X.N[j]? = some y) (hx : Loc X.env.scope x) (hy : Loc X.env.scope y) (hb : JSs X B body pb)
    (hs : ∀ z, foldedSetIterable (.Call (.Name "enumerate" p) [e] [] pos) X.env z = pure z := by intro _; rfl) (hf1 : X.fn x = true ∨ X.env.scope.names.lookup x = some .local := by first | exact .inl rfl | exact .inr rfl | assumption) (hf2 : X.fn y = true ∨ X.env.scope.names.lookup y = some .local := by first | exact .inl rfl | exact .inr rfl | assumption)
    (h1 : starEach [e] X.env = [(false, eval e X.env)] := by rfl) : JS X B (.For (.Tuple [.Name x p1, .Name y p2] kk tp) (.Call (.Name "enumerate" p) [e] [] pos) body [] spos) (pForEn ts i j ps pb) := by
  refine PS_wk (ps_for hp hc (pi_enumU hg hm ha h1) (pg_tup hc (pgs_cons (pg_name hN hi hx hf1) (pgs_cons (pg_name hN hj hy hf2) pgs_nil))) hb (by assumption)) fun D σ H ⟨G, w, δ, E, rep, h, ek⟩ => ?_
  refine ⟨G, w, δ, _, rep, h, fun rs δ1 vs H1 G1 w1 q1 l1 s1 rep1 => ?_⟩
  obtain ⟨r, ds, rfl, hr, I, i0, is, ie⟩ := q1
  have hl : vs.length = 1 := rep1.tlen
  match vs, hl with
  | [v0], _ =>
    obtain ⟨G2, sp, rep2, pa, us, rfl, ga, hd⟩ := rep1.ise hr
    have s1' := s1.trans sp
    generalize (fun a => evn (w1 a)) = w2 at rep2 s1'
    have sq : ∀ {G' H' : Hp}, Same G2 G' → Same G' H' → SqL X.K H' pa us := fun sg sh => SqL.of (sh _ _ (sg _ _ ga))
    have hlen : us.length = ds.length := hd.len
    refine ⟨pa, us, rfl, .inl ⟨sq (fun _ _ z => z) rep2.sub, ?_⟩⟩
    refine ⟨fun i m σ' H' => m = ds.length - i ∧ i ≤ ds.length ∧ ∃ G' w' δ', Stp B.T G H w δ G' H' w' δ' ∧ Same G2 G' ∧ Rep X.K B G' H' σ' δ' [] [] w' ∧ Pin σ δ σ' ∧ I i δ', ⟨ds.length, rfl, Nat.zero_le _, G2, w2, _, s1'.wipe ts, fun _ _ h => h, rep2.wipe ts, .refl, i0⟩, ?_⟩
    rintro n m σ' H' ⟨rfl, hn, G', w', δ', st, sg, rp, pn, q⟩
    by_cases hlt : n < ds.length
    · obtain ⟨e0, he0⟩ : ∃ e, ds[n]? = some e := ⟨_, List.getElem?_eq_getElem hlt⟩
      have q := is n e0 δ' he0 q
      refine .inr ⟨⟨us, us[n]'(by omega), sq sg rp.sub, by simp⟩, fun σ2 H2 => n + 1 ≤ ds.length ∧ ∃ G' w' δ', Stp B.T G H w δ G' H2 w' δ' ∧ Same G2 G' ∧ Rep X.K B G' H2 σ2 δ' [] [] w' ∧ Pin σ δ σ2 ∧ I (n + 1) δ', fun σ2 H2 z => ⟨ds.length - (n + 1), by omega, rfl, z⟩, fun x H2 y => ?_⟩
      obtain ⟨T, z, rfl, hT, rfl, yy⟩ := y
      have ex := yy us (sq sg rp.sub)
      obtain ⟨v2, hv2, pl2⟩ := hd.get (C := e0.1) (fs := e0.2) he0
      rw [hv2] at ex
      cases ex
      obtain ⟨s5, r5⟩ := rp.lay (o := .tup [.int ((n : Nat) : Int), z]) hT
      have sg5 : Same G2 (upd G' T (.tup [.int ((n : Nat) : Int), z])) := fun a o h => s5.g a o (sg a o h)
      obtain ⟨w6, q6, s6, r6, p6⟩ := (r5.ret (v := .int ((n : Nat) : Int)) (d := .int ((n : Nat) : Int)) (.int _)).sto q rfl (fun p hp => by cases hp)
      obtain ⟨w7, q7, s7, r7, p7⟩ := (r6.retE (pl2.mono sg5)).sto q6 rfl (fun p hp => by cases hp)
      have st6 := (st.trans s5).trans (Stp.drop.trans s6)
      have pn6 : Pin σ δ _ := pn.trans (st.trans s5).pn p6
      have st7 := st6.trans (Stp.drop.trans s7)
      have pn7 : Pin σ δ _ := pn6.trans st6.pn p7
      refine ⟨T, _, rfl, .inl (.inl upd_same), rfl, _, _, rfl, _, _, rfl, rfl, ?_⟩
      have nx : ∀ δ4 σ4 H4 G5 w4, I (n + 1) (wipeT δ4 ts) → Stp B.T _ _ w7 _ G5 H4 w4 δ4 → Rep X.K B G5 H4 σ4 δ4 [] [] w4 → Pin _ _ σ4 → n + 1 ≤ ds.length ∧ ∃ G' w' δ', Stp B.T G H w δ G' H4 w' δ' ∧ Same G2 G' ∧ Rep X.K B G' H4 σ4 δ' [] [] w' ∧ Pin σ δ σ4 ∧ I (n + 1) δ' :=
        fun δ4 σ4 H4 G5 w4 hl s8 r8 p8 => ⟨hlt, G5, w4, _, (st7.trans s8).wipe ts, fun a o ha => s8.g a o (sg5 a o ha), r8.wipe ts, pn7.trans st7.pn p8, hl⟩
      exact ⟨_, w7, _, _, r7, q7, ⟨nx, (ek.later st7 pn7).rt, fun δ4 σ4 H4 G5 w4 hl s8 r8 p8 => ek.nx _ σ4 H4 G5 w4 hl ((st7.trans s8).wipe ts) (r8.wipe ts) (pn7.trans st7.pn p8), nx⟩⟩
    · have ei : n = ds.length := by omega
      subst ei
      exact .inl ⟨⟨us, sq sg rp.sub, by rw [hlen]; exact Nat.le_refl _⟩, ek.nx δ' σ' H' G' w' (ie δ' q) st rp pn⟩
end
end Pv
/-! A comprehension over a list of one's own that stays one's own. -/
namespace Pv
open PySem PySem.Spec L2 Wf
end Pv
/-! A comprehension over a list of kept errors. -/
namespace Pv
open PySem PySem.Spec L2 Wf
variable {B : Bas}
def pCompE (p : PX) (g : PGe) (tt : PB) (elt : PX) (vs : List Nat) : PX := fun δ Q => p δ fun r δ1 => ∃ es, iseOf δ1 r = some es ∧ noPin δ1 vs ∧ ∃ I : Nat → List PyData → List Sl → Prop, I 0 [] (wipeS δ1 vs) ∧
  (∀ (i : Nat) e acc δ, es[i]? = some e → I i acc δ → g e δ fun δ2 => tt δ2 fun b δ3 => if b = true then elt δ3 fun r δ4 => ∃ e δ5, fz δ4 r = some (e, δ5) ∧ acc.length < sizeLine ∧ I (i + 1) (acc ++ [e]) (wipeS δ5 vs) else I (i + 1) acc (wipeS δ3 vs)) ∧ ∀ acc δ', I es.length acc δ' → Q (.ow (.lst acc)) (restS δ1 δ' vs)
theorem lc_liftE {K : PySem.W.Frag} {p : PX} {ts vs : List Nat} {g : PGe} {tt : PB} {elt : PX} {σ : St} {H0 : Hp} {Q : VK} (hts : ∀ i ∈ ts, i ∈ vs) (h : LE K B (pCompE p g tt elt vs) σ H0 Q) : tLc (iSeqU K (LE K B p)) (LGe K B ts g) (LB K B tt) (LE K B elt) vs σ H0 Q := by
  obtain ⟨G0, w0, δ0, Qp, rep0, q, k0⟩ := h
  refine ⟨G0, w0, δ0, _, rep0, q, fun r δ v0 H G w q s0 repv => ?_⟩
  obtain ⟨ds, hr, np, I, i0, is, ie⟩ := q
  obtain ⟨G1, sp, rep1, a0, us0, rfl, ga, hd⟩ := repv.ise hr
  have s1 := s0.trans sp
  generalize (fun a => evn (w a)) = w1 at rep1 s1
  have k : ∀ r δ' v H' G' w', Qp r δ' → Stp B.T G0 H0 w0 δ0 G' H' w' δ' → Rep K B G' H' σ δ' [v] [r] w' → Q v H' := k0
  have sq : ∀ {G' H' : Hp}, Same G1 G' → Same G' H' → SqL K H' a0 us0 := fun sg sh => SqL.of (sh _ _ (sg _ _ ga))
  refine ⟨a0, rfl, .inl ⟨⟨us0, sq (fun _ _ z => z) rep1.sub⟩, fun D hD => ?_⟩⟩
  obtain ⟨w2, s2, r2⟩ := rep1.retLst (us := []) (ds := []) hD .nil
  have noA : ∀ acc : List PyData, ∀ p ∈ [R.ow (.lst acc)], isAt p = false := fun acc p hp => by rw [List.mem_singleton.mp hp]; rfl
  have ni : ∀ (i : Nat) o, δ0[i]? = some (Sl.ow true o) → i ∉ vs := fun i o hi => by
    obtain ⟨o1, h1⟩ := s1.pn i o hi
    exact fun z => np i z o1 h1
  have pnw : ∀ {G' H' : Hp} {w' : Addr → Option Nat} {δ' : List Sl}, Stp B.T G0 H0 w0 δ0 G' H' w' δ' → Stp B.T G0 H0 w0 δ0 G' H' w' (wipeS δ' vs) := fun s => s.reδ fun i o hi => by
    obtain ⟨o1, h1⟩ := s.pn i o hi
    exact ⟨o1, by rw [wipeS_ne (ni i o hi)]; exact h1⟩
  refine ⟨fun i m H' => m = ds.length - i ∧ i ≤ ds.length ∧ ∃ G' w' δ' acc, Stp B.T G0 H0 w0 δ0 G' H' w' δ' ∧ Same G1 G' ∧ Rep K B G' H' (wipe σ vs) δ' [.ref D] [.ow (.lst acc)] w' ∧ I i acc δ', ⟨ds.length, rfl, Nat.zero_le _, G1, w2, wipeS δ vs, [], pnw (s1.trans s2), fun _ _ h => h, r2.reσ (by rw [wipe_length, wipeS_len]; exact r2.len) (fun i s hi => ?_) (noA _), i0⟩, ?_⟩
  · rcases wipeS_get hi with e | ⟨e1, e2⟩
    · exact .inl e
    · exact .inr ⟨e1, wipe_ne e2⟩
  rintro i m H' ⟨rfl, hi, G', w', δ', acc, st, sg, rp, q⟩
  by_cases hlt : i < ds.length
  · obtain ⟨e0, he0⟩ : ∃ e, ds[i]? = some e := ⟨_, List.getElem?_eq_getElem hlt⟩
    have q := is i e0 acc δ' he0 q
    have hl0 := hd.len
    refine .inr ⟨⟨us0, us0[i]'(by omega), sq sg rp.sub, by simp⟩, fun H2 => i + 1 ≤ ds.length ∧ ∃ G' w' δ' acc, Stp B.T G0 H0 w0 δ0 G' H2 w' δ' ∧ Same G1 G' ∧ Rep K B G' H2 (wipe σ vs) δ' [.ref D] [.ow (.lst acc)] w' ∧ I (i + 1) acc δ', fun H2 z => ⟨ds.length - (i + 1), by omega, rfl, z⟩, fun x H2 y => ?_⟩
    obtain ⟨rfl, y⟩ := y
    have ev := y us0 (sq sg rp.sub)
    obtain ⟨v, hv, pl2⟩ := hd.get (C := e0.1) (fs := e0.2) he0
    rw [hv] at ev
    cases ev
    refine ⟨G', _, δ', e0, _, rp.drop, pl2.mono sg, q, fun δ3 σ3 H3 G3 w3 q3 s3 r3 p3 t3 => ⟨wipe_eq t3 hts, ?_⟩⟩
    obtain ⟨w4, s4, r4⟩ := rp.frameS (noA _) s3 r3
    have back : ∀ {G9 H9 : Hp} {w9 : Addr → Option Nat} {δ9 : List Sl} {acc9 : List PyData}, Rep K B G9 H9 σ3 δ9 [.ref D] [.ow (.lst acc9)] w9 → Rep K B G9 H9 (wipe σ vs) (wipeS δ9 vs) [.ref D] [.ow (.lst acc9)] w9 := fun {G9 H9 w9 δ9 acc9} r9 => by
      refine r9.reσ ?_ (fun k s hk => ?_) (noA _)
      · rw [wipe_length, wipeS_len, ← r9.len, t3.1, wipe_length]
      · rcases wipeS_get hk with e | ⟨e1, e2⟩
        · exact .inl e
        · exact .inr ⟨e1, (t3.2 k fun z => e2 (hts k z)).symm⟩
    refine ⟨G3, _, δ3, _, r4.drop, q3, fun b δ5 H5 G5 w5 q5 s5 r5 => ?_⟩
    obtain ⟨w6, s6, r6⟩ := r4.frame s5 r5
    have st6 := (st.trans s4).trans s6
    have sg6 : Same G1 G5 := fun a o ha => s6.g a o (s4.g a o (sg a o ha))
    cases b with
    | false => exact ⟨hlt, G5, w6, _, acc, pnw st6, sg6, back r6, q5⟩
    | true =>
      refine ⟨G5, _, δ5, _, r6.drop, q5, fun r δ7 y H7 G7 w7 q7 s7 r7 => ?_⟩
      obtain ⟨w8, s8, r8⟩ := r6.frame s7 r7
      obtain ⟨e, δ9, hz, hl, q7⟩ := q7
      obtain ⟨G9, w9, s9, r9⟩ := r8.fz1 (j := 1) rfl rfl hz
      have r9' : Rep K B G9 H7 σ3 δ9 [.ref D, y] [.ow (.lst acc), .im e] w9 := r9
      have hy : Dq K G9 y e := r9'.tm 1 y (.im e) rfl rfl
      obtain ⟨a, us, ea, ma, ha, hus⟩ := r9'.tm 0 (.ref D) (.ow (.lst acc)) rfl rfl
      cases ea
      obtain ⟨us2, h2, h3, s10, r10⟩ := r9'.wrT (dqAll_append hus (.cons hy .nil))
      refine ⟨us, ha, by rw [dqAll_len hus]; exact hl, hlt, G9, w9, _, acc ++ [e], pnw (((st6.trans s8).trans s9).trans s10), fun a o h => s9.g a o (s8.g a o (sg6 a o h)), back r10.first, q7⟩
  · have ei : i = ds.length := by omega
    subst ei
    have hl0 := hd.len
    refine .inl ⟨⟨us0, sq sg rp.sub, by rw [hl0]; exact Nat.le_refl _⟩, k _ _ _ H' G' w' (ie acc δ' q) (st.reδ fun j o hj => ?_) ⟨rp.sub, rp.out, by rw [restS_len, ← rp.len, wipe_length], fun j s hj => ?_, rp.tlen, fun j v p hv hp => (rp.tm j v p hv hp).noAt (noA _ p (List.mem_of_getElem? hp)), rp.bs⟩⟩
    · obtain ⟨o1, h1⟩ := st.pn j o hj
      exact ⟨o1, by rw [restS_ne (ni j o hj)]; exact h1⟩
    · by_cases hm : j ∈ vs
      · rcases restS_in hm hj with rfl | ⟨d, rfl, e0⟩
        · trivial
        · obtain ⟨v, hv, hd⟩ := rep1.sl j _ e0
          exact ⟨v, hv, dp_mono sg _ _ hd⟩
      · rw [restS_ne hm] at hj
        have := rp.sl j s hj
        rwa [wipe_ne hm] at this
section
variable {X : Cx}
theorem je_lcE {elt tg iter : Expr} {ifs : List Expr} {scope : Scope} {own : List (Str × Nat)} {pos : Pos} {p : PX} {ts : List Nat} {g : PGe} {tt : PB} {pe : PX} (hc : X.calm = true) (hN : X.N.Nodup) (hi : JE X B iter p) (ok : BlkOk X.N X.env.scope scope own)
    (hg : ∀ (s : Shared) (H : Hp) (C : Addr) (cl : List (Str × Addr)) (fp : List Addr), JGe (X.blk s H scope (compEnvC scope cl C X.env) fp) B tg ts g) (ht : ∀ (s : Shared) (H : Hp) (C : Addr) (cl : List (Str × Addr)) (fp : List Addr), JTs (X.blk s H scope (compEnvC scope cl C X.env) fp) B ifs tt)
    (he : ∀ (s : Shared) (H : Hp) (C : Addr) (cl : List (Str × Addr)) (fp : List Addr), JE (X.blk s H scope (compEnvC scope cl C X.env) fp) B elt pe) (hts : ∀ i ∈ ts, i ∈ own.map (·.2) := by decide) (hs : ∀ x, foldedSetIterable iter X.env x = pure x := by intro _; rfl) :
    JE X B (.ListComp elt [⟨tg, iter, ifs, 0⟩] scope pos) (pCompE p g tt pe (own.map (·.2))) := PE_wk (pe_lc (g := LGe X.K B ts g) (tt := LB X.K B tt) (te := LE X.K B pe) hc hN (pi_seqU hi) ok hg ht he hs) fun σ H Q h => lc_liftE hts h
end
end Pv
/-! What the head tells of error classes; whole numbers by their names. -/
namespace Wf
open PySem PySem.Spec PyProof.Rows L2
/-- a def that is never called so -/
theorem cal_no {P : Program} {w : World} {K : PySem.W.Frag} {mg : Str → Option Value} {base : Heap} {k : Nat} {x : Str} {ps : List Str} {f : Addr} {fd : FuncData} (m : mg x = some (.ref f)) (kp : PySem.W.keepIn K (.ref f) = true) (b : Binds K fd ps []) : Cal P w K mg base CX0 k x ps (fun _ _ _ _ => False) :=
  ⟨f, fd, ⟨fun _ _ _ _ h => h.elim, fun _ _ _ _ _ _ _ _ _ _ _ _ _ h => h.elim⟩, m, kp, b⟩
/-! ### classes of errors -/
def oexB (K : PySem.W.Frag) (C : Addr) : Bool := match K.lookup C with
  | some ⟨.type "type", _, .cls cd, sl⟩ => (match cd.mro, sl.toList with
    | .ref C' :: bm, [_, _, _, _, some (.builtin n), _] => C' == C && n == "ValueError.__new__" && !cd.hasDel && cd.hasDict && PySem.HandSPX.refsVE bm
    | _, _ => false)
  | _ => false
theorem oexB_ok {K : PySem.W.Frag} {C : Addr} (q : oexB K C = true) : ∃ nm qn N bs bm sn sub ab col dd k0 k1 k2 k3 k5, K.lookup C = some (excClassObj nm qn C N bs bm true sn sub ab col dd k0 k1 k2 k3 k5 "ValueError.__new__") ∧ PySem.HandSPX.refsVE bm = true := by
  unfold oexB at q
  split at q
  · rename_i dd cd sl ho
    split at q
    · rename_i C' bm k0 k1 k2 k3 n k5 hm hs
      simp only [Bool.and_eq_true, beq_iff_eq, Bool.not_eq_true'] at q
      obtain ⟨⟨⟨⟨rfl, rfl⟩, hdel⟩, hdc⟩, hbm⟩ := q
      obtain ⟨nm, bs, mro, ns, qn, hd, sn, sub, ab, col, del⟩ := cd
      dsimp only at hm hdel hdc
      subst hm hdel hdc
      have hsl : sl = #[k0, k1, k2, k3, some (.builtin "ValueError.__new__"), k5] := by
        obtain ⟨z⟩ := sl
        simp only at hs
        rw [hs]
      subst hsl
      exact ⟨nm, qn, ns, bs, bm, sn, sub, ab, col, dd, k0, k1, k2, k3, k5, ho, hbm⟩
    · cases q
  · cases q
/-- the error class named x, its fields fs -/
def errB (K : PySem.W.Frag) (x : Str) (fs : List Str) : Bool :=
  oexB K (He.ga K x) && (decide (PySem.W.findIn K (.ref (He.ga K x)) "__setattr__" = some (some (.builtin "object.__setattr__"))) && (decide (PySem.W.subIn K (.ref (He.ga K x)) (.type "BaseException") = some true) && (decide (PySem.W.typeIn K (.ref (He.ga K x)) = some (.type "type")) && (PySem.W.keepIn K (.ref (He.ga K x)) &&
  (decide (PySem.W.findIn K (.ref (He.ga K x)) "__init__" = some (some (.ref (He.ma K (He.ga K x) "__init__")))) && (decide (PySem.W.typeIn K (.ref (He.ma K (He.ga K x) "__init__")) = some (.type "function")) && ((fs.all fun f => decide (PySem.W.findIn K (.ref (He.ga K x)) f = some none)) && (xfB K (He.ga K x) &&
  ((PySem.W.clsIn K (He.ga K x)).isSome && (decide (PySem.W.findIn K (.ref (He.ga K x)) "__class__" = some (some (.builtin "object.__class__"))) && (decide (PySem.W.specialIn K (.builtin "object.__class__") "__get__" = some (some (.builtin "getset_descriptor.__get__"))) &&
  (decide (PySem.W.takesIn K (.builtin "object.__class__") = some true) && decide (PySem.W.mroIn K (He.ga K x) (.type "object") = some true)))))))))))))
structure ErrF (K : PySem.W.Frag) (C fI : Addr) (fs : List Str) : Prop where
  o : OexC K C
  i : PySem.W.findIn K (.ref C) "__init__" = some (some (.ref fI))
  ti : PySem.W.typeIn K (.ref fI) = some (.type "function")
  no : ∀ f ∈ fs, PySem.W.findIn K (.ref C) f = some none
  xf : XfC K C
  is_ : IsC K C
theorem errB_ok {K : PySem.W.Frag} {x : Str} {fs : List Str} (h : errB K x fs = true) : ErrF K (He.ga K x) (He.ma K (He.ga K x) "__init__") fs := by
  unfold errB at h
  simp only [Bool.and_eq_true, decide_eq_true_eq, List.all_eq_true] at h
  obtain ⟨h1, h2, h3, h4, h5, h6, h7, h8, h9, h10, h11, h12, h13, h14⟩ := h
  have X := xfB_ok h9
  exact ⟨⟨oexB_ok h1, h2, h3, h4, h5⟩, h6, h7, h8, X, ⟨h10, X.ga, X.gg, X.exC, h11, h12, h13, h14⟩⟩
def baseB (K : PySem.W.Frag) (x : Str) : Bool := PySem.W.readsIn K (He.ga K x) (.type "type") && (decide (PySem.W.specialIn K (.ref (He.ga K x)) "__getattribute__" = some (some (.builtin "type.__getattribute__"))) && (match PySem.W.findCls K (.ref (He.ga K x)) (.type "type") "__init__" with
  | some (.val (.builtin z)) => z == "ValueError.__init__"
  | _ => false))
theorem baseB_ok {K : PySem.W.Frag} {mg : Str → Option Value} {x : Str} (h : baseB K x = true) (g : mg x = some (.ref (He.ga K x))) : BaseC K mg x (He.ga K x) := by
  unfold baseB at h
  simp only [Bool.and_eq_true, decide_eq_true_eq] at h
  obtain ⟨h1, h2, h3⟩ := h
  refine ⟨g, h1, h2, ?_⟩
  split at h3
  · rename_i z e
    rw [e, beq_iff_eq.mp h3]
  · cases h3
/-! ### a hook: what the module's names reach, and the runtime's own names -/
def frW (n : Nat) (g : Addr → Option Obj) : PySem.W.Frag := He.frT g (cStatics :: He.asD g n)
def obsW (n : Nat) (fa : List He.Fa) (fn : List He.DefD) (ex : PySem.W.Frag → Bool) (g : Addr → Option Obj) : He.AlD × Bool := (He.obsD fa fn (frW n g), ex (frW n g))
def hookW (n : Nat) (fa : List He.Fa) (fn : List He.DefD) (ex : PySem.W.Frag → Bool) : PySem.W.Hook where
  α := He.AlD × Bool
  obs := fun s => obsW n fa fn ex s.heap.get?
  val := fun _ => (He.valD fn, true)
  says := fun _ h => ∃ K : PySem.W.Frag, K.In h ∧ He.SaysD fa fn K ∧ ex K = true
  of := fun _ _ e => ⟨_, He.frT_in, congrArg (fun z : He.AlD × Bool => z.1) e, congrArg (fun z : He.AlD × Bool => z.2) e⟩
  keeps := fun _ _ _ ⟨K, hK, c⟩ k => ⟨K, PySem.W.Frag.In.keeps hK k, c⟩
theorem obsW_eq {n : Nat} {fa : List He.Fa} {fn : List He.DefD} {ex : PySem.W.Frag → Bool} {g : Addr → Option Obj} {s : Shared} (h : ∀ a, g a = s.heap.get? a) : obsW n fa fn ex g = (hookW n fa fn ex).obs s := by
  have e : g = s.heap.get? := funext h
  rw [e] <;> rfl
end Wf
/-! An own error right under IndexError: raised in a def, told by the head. -/
namespace Wf
open PySem PySem.Spec PyProof.Rows L2
def oexIB (K : PySem.W.Frag) (C : Addr) : Bool := match K.lookup C with
  | some ⟨.type "type", _, .cls cd, sl⟩ => (match cd.mro, sl.toList with
    | .ref C' :: bm, [_, _, _, _, some (.builtin n), _] => C' == C && (n == "IndexError.__new__" && (!cd.hasDel && (cd.hasDict && bm == ieTail)))
    | _, _ => false)
  | _ => false
theorem oexIB_ok {K : PySem.W.Frag} {C : Addr} (q : oexIB K C = true) : ∃ nm qn N bs sn sub ab col dd k0 k1 k2 k3 k5, K.lookup C = some (excClassObj nm qn C N bs ieTail true sn sub ab col dd k0 k1 k2 k3 k5 "IndexError.__new__") := by
  unfold oexIB at q
  split at q
  case h_1 dd cd sl ho =>
    split at q
    case h_1 C' bm k0 k1 k2 k3 n k5 hm hs =>
      simp only [Bool.and_eq_true, beq_iff_eq, Bool.not_eq_true'] at q
      obtain ⟨e1, e2, e3, e4, e5⟩ := q
      subst e1 e2 e5
      cases cd with
      | mk nm bs mro ns qn hd sn sub ab col del =>
        simp only at hm e3 e4
        subst hm e3 e4
        cases sl with
        | mk z =>
          simp only at hs
          subst hs
          exact ⟨nm, qn, ns, bs, sn, sub, ab, col, dd, k0, k1, k2, k3, k5, ho⟩
    case h_2 => cases q
  case h_2 => cases q
def ieB (K : PySem.W.Frag) : Bool := match PySem.W.findCls K (.type "IndexError") (.type "type") "__init__" with
  | some (.val (.builtin z)) => z == "IndexError.__init__"
  | _ => false
theorem ieB_ok {K : PySem.W.Frag} (h : ieB K = true) : PySem.W.findCls K (.type "IndexError") (.type "type") "__init__" = some (.val (.builtin "IndexError.__init__")) := by
  unfold ieB at h
  split at h
  · rename_i z e
    rw [e, beq_iff_eq.mp h]
  · cases h
/-- the error class named x, right under IndexError, its one field f -/
def errIB (K : PySem.W.Frag) (x f : Str) : Bool :=
  oexIB K (He.ga K x) && (PySem.W.excOver K (He.ga K x) ieTail && (decide (PySem.W.findIn K (.ref (He.ga K x)) "__setattr__" = some (some (.builtin "object.__setattr__"))) && (decide (PySem.W.subIn K (.ref (He.ga K x)) (.type "BaseException") = some true) && (decide (PySem.W.typeIn K (.ref (He.ga K x)) = some (.type "type")) && (PySem.W.keepIn K (.ref (He.ga K x)) &&
  (decide (PySem.W.findIn K (.ref (He.ga K x)) "__init__" = some (some (.ref (He.ma K (He.ga K x) "__init__")))) && (decide (PySem.W.typeIn K (.ref (He.ma K (He.ga K x) "__init__")) = some (.type "function")) && (decide (PySem.W.takerIn K (He.ga K x) f = some none) && (decide (PySem.W.findIn K (.ref (He.ga K x)) f = some none) && (xfB K (He.ga K x) &&
  ((PySem.W.clsIn K (He.ga K x)).isSome && (decide (PySem.W.findIn K (.ref (He.ga K x)) "__class__" = some (some (.builtin "object.__class__"))) && (decide (PySem.W.specialIn K (.builtin "object.__class__") "__get__" = some (some (.builtin "getset_descriptor.__get__"))) &&
  (decide (PySem.W.takesIn K (.builtin "object.__class__") = some true) && (decide (PySem.W.mroIn K (He.ga K x) (.type "object") = some true) && ieB K)))))))))))))))
structure ErrIF (K : PySem.W.Frag) (C fI : Addr) (f : Str) : Prop where
  o : OexI K C
  i : PySem.W.findIn K (.ref C) "__init__" = some (some (.ref fI))
  ti : PySem.W.typeIn K (.ref fI) = some (.type "function")
  tk : PySem.W.takerIn K C f = some none
  no : PySem.W.findIn K (.ref C) f = some none
  xf : XfC K C
  is_ : IsC K C
  vi : PySem.W.findCls K (.type "IndexError") (.type "type") "__init__" = some (.val (.builtin "IndexError.__init__"))
theorem errIB_ok {K : PySem.W.Frag} {x f : Str} (h : errIB K x f = true) : ErrIF K (He.ga K x) (He.ma K (He.ga K x) "__init__") f := by
  unfold errIB at h
  simp only [Bool.and_eq_true, decide_eq_true_eq] at h
  obtain ⟨h1, hv, h2, h3, h4, h5, h6, h7, ht, h8, h9, h10, h11, h12, h13, h14, h15⟩ := h
  have X := xfB_ok h9
  exact ⟨⟨oexIB_ok h1, hv, h2, h3, h4, h5⟩, h6, h7, ht, h8, X, ⟨h10, X.ga, X.gg, X.exC, h11, h12, h13, h14⟩, ieB_ok h15⟩
end Wf
namespace Pv
open PySem PySem.Spec L2 Wf
end Pv
/-! try: raise C(e) / except C as n. -/
namespace Pv
open PySem PySem.Spec L2 Wf
variable {B : Bas}
def pTryR (i : Nat) (C : Addr) (f1 : Str) (ps : PL) (su : Addr → Value → Option Addr → PSx) : PSx := fun E δ => ps δ fun rs δ1 => ∃ d δ', fzAll δ1 rs = some ([d], δ') ∧ match δ'[i]? with
  | none => False
  | some (.ow true _) => False
  | _ => ∀ a dd, su a (.ref C) (some dd) ⟨fun δ2 => E.nx (δ2.set i .un), E.rt, fun δ2 => E.bk (δ2.set i .un), fun δ2 => E.ct (δ2.set i .un)⟩ (δ'.set i (.ex a dd C [(f1, d)]))
theorem js_tryR {X : Cx} {i : Nat} {x n : Str} {C : Addr} {c : Value} {f1 : Str} {ps : PL} {su : Addr → Value → Option Addr → PSx} {sr : Stmt} {b₀ : Stmt} {suite : List Stmt} {np pos pos' : Pos} (hs : X.stack = X.env :: X.outer) (hf : X.env.frame = some X.env.locals) (hN : X.N.Nodup) (hi : X.N[i]? = some n) (hln : X.env.kindOf n = some .local) (hc : Names X x c)
    (hcat : PySem.W.exmOne X.K (.ref C) c = some true)
    (hb : ∀ (W : WX) (pn : List (Addr × Obj)) (xe : Value → Shared → Prop), Takes (X.tr pn xe) W → PS (X.tr pn xe) sr (tRz1 C f1 W (LA X.K B 1 ps)))
    (hsu : ∀ (a : Addr) (oe : Obj) (cls : Value) (d : Option Addr) (pn : List (Addr × Obj)), Zc cls d oe → (∃ vs, oe.data = .fields vs) → JSs (X.suite a ((a, oe) :: pn)) B (b₀ :: suite) (su a cls d)) :
    JS X B (.Try [sr] [.ExceptHandler (some (.Name x np)) (some n) (b₀ :: suite) pos'] [] [] pos) (pTryR i C f1 ps su) := by
  refine PS_wk (ps_try_as (i := i) (tb := fun W => tRz1 C f1 W (LA X.K B 1 ps)) (ts := fun a cls d => LS X.K B (su a cls d)) (Wout := fun _ _ _ _ => False) hs hf hN hi hln hc L2.takes0 (fun W pn xe tk _ => pss_one (hb W pn xe tk)) hsu) fun D σ H ⟨G, w, δ, E, rep, h, ek⟩ => ?_
  refine ⟨G, w, δ, _, rep, h, fun rs δ1 vs H1 G1 w1 q1 l1 s1 rep1 => ?_⟩
  obtain ⟨d0, δ', hz, hd⟩ := q1
  obtain ⟨G2, w2, s2, r2⟩ := rep1.fzs hz
  have hdd := r2.ims
  match vs, hdd with
  | [v], .cons h1 .nil =>
    refine ⟨v, rfl, fun d hdn => ?_⟩
    obtain ⟨s3, rp⟩ := r2.drop.lay (o := .xd [(f1, v)]) hdn
    have st := ((s1.trans s2).trans .drop).trans s3
    have hg : (upd G2 d (.xd [(f1, v)])) d = some (.xd [(f1, v)]) := upd_same
    have hfl : Fl X.K (upd G2 d (.xd [(f1, v)])) [(f1, v)] [(f1, d0)] := .cons (dp_mono s3.g _ _ h1) .nil
    generalize upd G2 d (.xd [(f1, v)]) = G' at *
    generalize upd H1 d (.xd [(f1, v)]) = H' at *
    generalize (fun a => evn (w2 a)) = w' at *
    refine ⟨true, hcat, fun _ a ha => ?_, fun z => nomatch z⟩
    have hdi : ∃ s, δ'[i]? = some s ∧ (∀ o, s ≠ .ow true o) ∧ ∀ a dd, su a (.ref C) (some dd) ⟨fun δ2 => E.nx (δ2.set i .un), E.rt, fun δ2 => E.bk (δ2.set i .un), fun δ2 => E.ct (δ2.set i .un)⟩ (δ'.set i (.ex a dd C [(f1, d0)])) := by
      revert hd
      split
      · intro h; exact h.elim
      · intro h; exact h.elim
      · rename_i hn0 hn
        intro h
        cases e2 : δ'[i]? with
        | none => exact absurd e2 hn0
        | some s' => exact ⟨s', rfl, fun o z => hn o (by rw [e2, z]), h⟩
    obtain ⟨s, e1, e2, hsu'⟩ := hdi
    have hil : i < δ'.length := (List.getElem?_eq_some_iff.mp e1).1
    have hiσ : i < σ.length := by rw [rp.len]; exact hil
    have np' : ∀ o, δ'[i]? ≠ some (.ow true o) := fun o z => by rw [e1] at z; cases z; exact e2 o rfl
    have np0 : ∀ (k : Nat) o, δ[k]? = some (Sl.ow true o) → i ≠ k := fun k o hk z => by
      subst z
      obtain ⟨o', h'⟩ := st.pn i o hk
      exact np' o' h'
    have stx : Stp B.T G H w δ G' H' w' (δ'.set i (.ex a d C [(f1, d0)])) := st.reδ (st.pn.trans (pn_set np'))
    have rx : Rep X.K B G' H' (σ.set i (some (.ref a))) (δ'.set i (.ex a d C [(f1, d0)])) [] [] w' := ⟨rp.sub, rp.out, by rw [List.length_set, List.length_set]; exact rp.len, fun k s' hk => by
      by_cases ek' : i = k
      · subst ek'
        rw [List.getElem?_set_self hil] at hk
        cases hk
        exact ⟨List.getElem?_set_self hiσ, _, hg, hfl⟩
      · rw [List.getElem?_set_ne ek'] at hk
        rw [List.getElem?_set_ne ek']
        exact rp.sl k s' hk, rfl, fun j v q hv => by simp at hv, rp.bs⟩
    have pinx : Pin σ δ (σ.set i (some (.ref a))) := fun k o hk => List.getElem?_set_ne (np0 k o hk)
    have fin : ∀ {G2 H2 : Hp} {w2 : Addr → Option Nat} {δ2 : List Sl} {σ2 : St}, Stp B.T G' H' w' (δ'.set i (.ex a d C [(f1, d0)])) G2 H2 w2 δ2 → Rep X.K B G2 H2 σ2 δ2 [] [] w2 → Pin (σ.set i (some (.ref a))) (δ'.set i (.ex a d C [(f1, d0)])) σ2 → Stp B.T G H w δ G2 H2 w2 (δ2.set i .un) ∧ Rep X.K B G2 H2 (σ2.set i none) (δ2.set i .un) [] [] w2 ∧ Pin σ δ (σ2.set i none) := fun {G2 H2 w2 δ2 σ2} s2 r2 p2 => by
      have sa := stx.trans s2
      refine ⟨sa.reδ fun k o hk => ?_, ⟨r2.sub, r2.out, by rw [List.length_set, List.length_set]; exact r2.len, fun k s' hk => ?_, rfl, fun j v q hv => by simp at hv, r2.bs⟩, fun k o hk => ?_⟩
      · obtain ⟨o', h'⟩ := sa.pn k o hk
        exact ⟨o', by rw [List.getElem?_set_ne (np0 k o hk)]; exact h'⟩
      · by_cases ek' : i = k
        · subst ek'
          by_cases hb : i < δ2.length
          · rw [List.getElem?_set_self hb] at hk
            cases hk
            trivial
          · rw [List.getElem?_eq_none (by rw [List.length_set]; omega)] at hk; cases hk
        · rw [List.getElem?_set_ne ek'] at hk
          rw [List.getElem?_set_ne ek']
          exact r2.sl k s' hk
      · rw [List.getElem?_set_ne (np0 k o hk)]
        exact (pinx.trans stx.pn p2) k o hk
    refine ⟨G', w', _, _, rx, hsu' a d, ⟨fun δ2 σ2 H2 G2 w2 h2 s2 r2 p2 => ?_, fun r δ2 v σ2 H2 G2 w2 h2 ha2 s2 r2 p2 => ?_, fun δ2 σ2 H2 G2 w2 h2 s2 r2 p2 => ?_, fun δ2 σ2 H2 G2 w2 h2 s2 r2 p2 => ?_⟩⟩
    · obtain ⟨f1, f2, f3⟩ := fin s2 r2 p2
      exact ek.nx _ _ H2 G2 w2 h2 f1 f2 f3
    · exact ek.rt r δ2 v σ2 H2 G2 w2 h2 ha2 (stx.trans s2) r2 (pinx.trans stx.pn p2)
    · obtain ⟨f1, f2, f3⟩ := fin s2 r2 p2
      exact ek.bk _ _ H2 G2 w2 h2 f1 f2 f3
    · obtain ⟨f1, f2, f3⟩ := fin s2 r2 p2
      exact ek.ct _ _ H2 G2 w2 h2 f1 f2 f3
end Pv
/-! Kept errors: classes by number; made by keywords; an error without fields at the law's end. -/
namespace Wf
open PySem PySem.Spec PyProof.Rows L2
structure Err2K (P : Program) (w : World) (K : PySem.W.Frag) (mg : Str → Option Value) (base : Heap) (x f1 f2 : Str) (C : Addr) : Prop where
  g : mg x = some (.ref C)
  o : OexC K C
  ini : ∃ fI fd g gV, PySem.W.findIn K (.ref C) "__init__" = some (some (.ref fI)) ∧ PySem.W.typeIn K (.ref fI) = some (.type "function") ∧ FnOk P w K mg base CX0 1 fI fd ["self", f1, f2] (sp_init2 K C f1 f2) ∧ KBn K fd ["self", f1, f2] 1 [f2, f1] g gV ∧ ∀ a z0 z1, gV [.ref a] [z0, z1] = [.ref a, z1, z0]
structure Err1K (P : Program) (w : World) (K : PySem.W.Frag) (mg : Str → Option Value) (base : Heap) (x f1 : Str) (C : Addr) : Prop where
  g : mg x = some (.ref C)
  o : OexC K C
  ini : ∃ fI fd g gV, PySem.W.findIn K (.ref C) "__init__" = some (some (.ref fI)) ∧ PySem.W.typeIn K (.ref fI) = some (.type "function") ∧ FnOk P w K mg base CX0 1 fI fd ["self", f1] (sp_init1 K C f1) ∧ KBn K fd ["self", f1] 1 [f1] g gV ∧ ∀ a z0, gV [.ref a] [z0] = [.ref a, z0]
structure Err1KI (P : Program) (w : World) (K : PySem.W.Frag) (mg : Str → Option Value) (base : Heap) (x f1 : Str) (C : Addr) : Prop where
  g : mg x = some (.ref C)
  o : OexI K C
  ini : ∃ fI fd g gV, PySem.W.findIn K (.ref C) "__init__" = some (some (.ref fI)) ∧ PySem.W.typeIn K (.ref fI) = some (.type "function") ∧ FnOk P w K mg base CX0 1 fI fd ["self", f1] (sp_init1 K C f1) ∧ KBn K fd ["self", f1] 1 [f1] g gV ∧ ∀ a z0, gV [.ref a] [z0] = [.ref a, z0]
/-- as kb_of, the values of the keywords exchanged -/
def swV : List V → List V → List V
  | us, [a, b] => us ++ [b, a]
  | us, ws => us ++ ws
def swU : List Value → List Value → List Value
  | us, [a, b] => us ++ [b, a]
  | us, ws => us ++ ws
theorem kb_sw {K : PySem.W.Frag} {x qual : Str} {params : Arguments} {body : List Stmt} {scope : Scope} {kws : List (Str × V)} {f : Addr} {fd : FuncData} {ps ks : List Str} {n : Nat} (F : FunD K x qual params body scope [] kws f fd)
    (h : ∀ (kV doc pm : Value) (an : Option Addr) (cdv ct : Value) (us ws : List Value), us.length = n → ws.length = ks.length → bindArgs (PySem.W.fnOf x qual params body scope .none kV doc pm an cdv ct) ⟨us, ks.zip ws⟩ = pure (ps.zip (swU us ws))) : KBn K fd ps n ks swU swV := by
  obtain ⟨oc, od, dV, kV, doc, pm, an, cdv, ct, osl, rfl, lk, hcd, hD, hK⟩ := F.ex
  rcases hD with ⟨_, rfl⟩ | ⟨e, _⟩
  · refine ⟨fun s us ws _ h1 h2 => .of_eq (h kV doc pm an cdv ct us ws h1 h2), fun {vs us zs ws} r1 r2 => ?_⟩
    unfold swU swV
    match zs, ws, r2 with
    | [], [], .nil => exact vals_app r1 .nil
    | [a], [b], .cons h1 .nil => exact vals_app r1 (.cons h1 .nil)
    | [a, c], [b, d], .cons h1 (.cons h2 .nil) => exact vals_app r1 (.cons h2 (.cons h1 .nil))
    | a :: c :: e :: zs, b :: d :: f :: ws, r2 => exact vals_app r1 r2
  · exact absurd rfl e
/-- an own error class without an __init__ of its own -/
structure PlainC (K : PySem.W.Frag) (mg : Str → Option Value) (x : Str) (C : Addr) : Prop where
  g : mg x = some (.ref C)
  q : ∃ bmB B newId initId, PySem.ExcBaseFacts B newId initId bmB ∧ PySem.W.excIn K C bmB newId = true
  kC : PySem.W.keepIn K (.ref C) = true
  is_ : IsC K C
end Wf
namespace Pv
open PySem PySem.Spec L2 Wf
variable {B : Bas}
/-! ### classes by number -/
def ixA : List Addr → Addr → Option Nat
  | [], _ => none
  | c :: cs, C => if C = c then some 0 else (ixA cs C).map (· + 1)
def sbF (cs : List Addr) (f : Nat → Bool) (C : Addr) : Option Bool := (ixA cs C).map f
def fK (j k : Nat) : Bool := k == j
def fU (b : Bool) (k : Nat) : Bool := if k < 10 then b else !b
theorem ixA_get : ∀ {cs : List Addr} {C : Addr} {k : Nat}, ixA cs C = some k → cs[k]? = some C
  | [], _, _, h => by cases h
  | c :: cs, C, k, h => by
    unfold ixA at h
    split at h
    · rename_i e; cases h; rw [e]; rfl
    · obtain ⟨m, hm, rfl⟩ := Option.map_eq_some_iff.mp h
      simpa using ixA_get hm
theorem ixA_of : ∀ {cs : List Addr} {C : Addr} {k : Nat}, cs.Nodup → cs[k]? = some C → ixA cs C = some k
  | [], _, _, _, h => by simp at h
  | c :: cs, C, 0, _, h => by
    simp only [List.getElem?_cons_zero, Option.some.injEq] at h
    unfold ixA
    rw [if_pos h.symm]
  | c :: cs, C, k + 1, nd, h => by
    have h : cs[k]? = some C := by simpa using h
    obtain ⟨n1, n2⟩ := List.nodup_cons.mp nd
    unfold ixA
    rw [if_neg (fun e : C = c => n1 (by rw [← e]; exact List.mem_of_getElem? h)), ixA_of n2 h]
    rfl
theorem sbF_of {cs : List Addr} {C : Addr} {k : Nat} {f : Nat → Bool} (nd : cs.Nodup) (h : cs[k]? = some C) : sbF cs f C = some (f k) := by
  unfold sbF
  rw [ixA_of nd h]
  rfl
theorem sbF_ok {K : PySem.W.Frag} {cs : List Addr} {w2 : Value} {f : Nat → Bool} (h : ∀ (k : Nat) C, cs[k]? = some C → IsC K C ∧ PySem.W.kitOne K (.ref C) w2 = some (f k)) : ∀ C b, sbF cs f C = some b → IsC K C ∧ PySem.W.kitOne K (.ref C) w2 = some b := fun C b e => by
  obtain ⟨k, hk, rfl⟩ := Option.map_eq_some_iff.mp e
  exact h k C (ixA_get hk)
/-- what the head tells of classes and a class -/
def kitsB (K : PySem.W.Frag) (xs : List Str) (w2 : Value) (f : Nat → Bool) : Bool := (List.range xs.length).all fun k => match xs[k]? with
  | some x => decide (PySem.W.kitOne K (.ref (He.ga K x)) w2 = some (f k))
  | none => true
theorem kits_ok {K : PySem.W.Frag} {xs : List Str} {w2 : Value} {f : Nat → Bool} (h : kitsB K xs w2 f = true) (hi : ∀ x ∈ xs, IsC K (He.ga K x)) : ∀ (k : Nat) C, (xs.map (He.ga K))[k]? = some C → IsC K C ∧ PySem.W.kitOne K (.ref C) w2 = some (f k) := fun k C e => by
  rw [List.getElem?_map] at e
  obtain ⟨x, hx, rfl⟩ := Option.map_eq_some_iff.mp e
  have hk := (List.getElem?_eq_some_iff.mp hx).1
  have := List.all_eq_true.mp h k (List.mem_range.mpr hk)
  rw [hx] at this
  exact ⟨hi x (List.mem_of_getElem? hx), of_decide_eq_true this⟩
theorem xg_n {K : PySem.W.Frag} {f : Str} : ∀ C, C ∈ ([] : List Addr) → XfC K C ∧ PySem.W.findIn K (.ref C) f = some none := fun _ h => by cases h
theorem xg_c {K : PySem.W.Frag} {f : Str} {c : Addr} {cs : List Addr} (h : XfC K c ∧ PySem.W.findIn K (.ref c) f = some none) (t : ∀ C, C ∈ cs → XfC K C ∧ PySem.W.findIn K (.ref C) f = some none) : ∀ C, C ∈ c :: cs → XfC K C ∧ PySem.W.findIn K (.ref C) f = some none := fun C m => by
  rcases List.mem_cons.mp m with rfl | m
  · exact h
  · exact t C m
section
variable {X : Cx} {p pos : Pos}
theorem je_k2KT {x f1 f2 : Str} {C : Addr} {kws : List Keyword} {ps : PL} {j : Nat} (T : Err2K X.prog X.w X.K X.mg X.base x f1 f2 C) (hr : Room j X.A) (hg : Gl X x) (hkw : JK X B kws ps) (hk : 2 ≤ j := by decide)
    (hall : (backToKw pos (keywordEach kws X.env)).all (·.1.isSome) = true := by rfl) (hks : (backToKw pos (keywordEach kws X.env)).filterMap (·.1) = [f2, f1] := by rfl)
    (hdb : (x == ("__debug__" : Str)) = false := by decide) (hpl : ((backTo pos (starEach [] X.env)).any (·.1) || (backToKw pos (keywordEach kws X.env)).any (·.1.isNone)) = false := by rfl) :
    JE X B (.Call (.Name x p) [] kws pos) (pKeep2K C f1 f2 ps) := by
  obtain ⟨fI, fd, g, gV, iC, tI, F, hb, hgV⟩ := T.ini
  exact je_keep2K T.o T.g iC tI F hb rfl hgV hr hg hkw hk hall hks hdb hpl
theorem je_k1KT {x f1 : Str} {C : Addr} {kws : List Keyword} {ps : PL} {j : Nat} (T : Err1K X.prog X.w X.K X.mg X.base x f1 C) (hr : Room j X.A) (hg : Gl X x) (hkw : JK X B kws ps) (hk : 2 ≤ j := by decide)
    (hall : (backToKw pos (keywordEach kws X.env)).all (·.1.isSome) = true := by rfl) (hks : (backToKw pos (keywordEach kws X.env)).filterMap (·.1) = [f1] := by rfl)
    (hdb : (x == ("__debug__" : Str)) = false := by decide) (hpl : ((backTo pos (starEach [] X.env)).any (·.1) || (backToKw pos (keywordEach kws X.env)).any (·.1.isNone)) = false := by rfl) :
    JE X B (.Call (.Name x p) [] kws pos) (pKeep1 C f1 ps) := by
  obtain ⟨fI, fd, g, gV, iC, tI, F, hb, hgV⟩ := T.ini
  exact je_keep1K T.o T.g iC tI F hb rfl hgV hr hg hkw hk hall hks hdb hpl
theorem je_k1KTI {x f1 : Str} {C : Addr} {kws : List Keyword} {ps : PL} {j : Nat} (T : Err1KI X.prog X.w X.K X.mg X.base x f1 C) (hr : Room j X.A) (hg : Gl X x) (hkw : JK X B kws ps) (hk : 2 ≤ j := by decide)
    (hall : (backToKw pos (keywordEach kws X.env)).all (·.1.isSome) = true := by rfl) (hks : (backToKw pos (keywordEach kws X.env)).filterMap (·.1) = [f1] := by rfl)
    (hdb : (x == ("__debug__" : Str)) = false := by decide) (hpl : ((backTo pos (starEach [] X.env)).any (·.1) || (backToKw pos (keywordEach kws X.env)).any (·.1.isNone)) = false := by rfl) :
    JE X B (.Call (.Name x p) [] kws pos) (pKeep1 C f1 ps) := by
  obtain ⟨fI, fd, g, gV, iC, tI, F, hb, hgV⟩ := T.ini
  exact je_keep1KI T.o T.g iC tI F hb rfl hgV hr hg hkw hk hall hks hdb hpl
end
/-! ### an error without fields, at a def's end -/
def pPlain (i : Nat) : PSx := fun E δ => i < δ.length ∧ E.rt (.im (.bool true)) δ
theorem jss_plain {X : Cx} {i : Nat} {y x0 x1 : Str} {C0 C1 : Addr} {e : Expr} {v : V} {py p0 p1 p2 p3 p4 p5 p6 p7 p8 p9 p10 p11 q1 q2 : Pos} (PC : PlainC X.K X.mg x0 C0) (k0 : PySem.W.kitOne X.K (.ref C0) (.type "ValueError") = some true) (k1 : PySem.W.kitOne X.K (.ref C0) (.ref C1) = some false)
    (hN : X.N.Nodup) (hi : X.N[i]? = some y) (hf : X.fn y = true ∨ X.env.scope.names.lookup y = some .local) (hx : PE X (.Name y p2) (tVar i)) (hx2 : PE X (.Name y p6) (tVar i)) (hy : Loc X.env.scope y) (hg0 : Gl X x0) (he : PE X e (tC v)) (hgi : Gl X "isinstance") (mi : X.mg "isinstance" = none) (ht0 : PE X (.Name "ValueError" p3) (tC (.ty "ValueError"))) (ht1 : PE X (.Name x1 p7) (tC (.ref C1)))
    (hs0 : starEach [e] X.env = (false, eval e X.env) :: starEach [] X.env := by rfl) (hdb : (x0 == ("__debug__" : Str)) = false := by decide)
    (hsw : swapsWith (.Call (.Name x0 p0) [e] [] q1) (some (.Name y py)) q2.line X.env = pure false := by rfl)
    (s1 : starEach [.Name y p2, .Name "ValueError" p3] X.env = (false, eval (.Name y p2) X.env) :: starEach [.Name "ValueError" p3] X.env := by rfl) (s2 : starEach [.Name "ValueError" p3] X.env = (false, eval (.Name "ValueError" p3) X.env) :: starEach [] X.env := by rfl) (s3 : (backTo p4 (starEach [.Name "ValueError" p3] X.env)).any (·.1) = false := by rfl)
    (s4 : starEach [.Name y p6, .Name x1 p7] X.env = (false, eval (.Name y p6) X.env) :: starEach [.Name x1 p7] X.env := by rfl) (s5 : starEach [.Name x1 p7] X.env = (false, eval (.Name x1 p7) X.env) :: starEach [] X.env := by rfl) (s6 : (backTo p8 (starEach [.Name x1 p7] X.env)).any (·.1) = false := by rfl) :
    JSs X B [.Assign [.Name y py] (.Call (.Name x0 p0) [e] [] q1) q2, .Return (some (.BoolOp .And [.Call (.Name "isinstance" p1) [.Name y p2, .Name "ValueError" p3] [] p4, .UnaryOp .Not (.Call (.Name "isinstance" p5) [.Name y p6, .Name x1 p7] [] p8) p9] p10)) p11] (pPlain i) := by
  obtain ⟨bmB, nB, nId, iId, F, q⟩ := PC.q
  refine PSs_wk (pss_cons (ps_set hN hi hy (pe_exc1 F q PC.g PC.kC hg0 he hs0 hdb) hsw hf) (pss_one (ps_ret (pe_and (pe_callB call_isV0 hgi mi (by decide +kernel) (pa_cons hx (pa_cons ht0 pa_nil s2) s1) (by decide) (by decide) s1 s3) (pe_one (pe_not (pe_callB call_isV0 hgi mi (by decide +kernel) (pa_cons hx2 (pa_cons ht1 pa_nil s5) s4) (by decide) (by decide) s4 s6))))))) fun D σ H ⟨G, w, δ, E, rep, h, ek⟩ => ?_
  obtain ⟨hl, h⟩ := h
  intro a ha
  have g : (σ.set i (some (V.ref a)))[i]? = some (some (V.ref a)) := List.getElem?_set_self (by rw [rep.len]; exact hl)
  obtain ⟨st, r2⟩ := rep.lay (p := a) (o := ExO (.ref C0) a) ha (by intro ps z; unfold ExO at z; cases z)
  exact ⟨_, g, a, C0, _, true, _, upd_same, PC.is_, rfl, .ty _, k0, true, rfl, _, g, a, C0, _, false, _, upd_same, PC.is_, rfl, .own _, k1, false, rfl, ek.rt (.im (.bool true)) δ (.bl true) σ _ _ _ h rfl (st.trans .drop) (r2.ret (.bl true)) .refl⟩
end Pv
namespace Pv
open PySem PySem.Spec L2 Wf
/-! ### slices, equal data -/
theorem eqd_self {d : PyData} (h : SeqAt.shaped d = true) : eqd d d = true := SeqAt.eqv_refl d (SeqAt.canLay_of_shaped h)
/-! ### kinds of rows, forward words -/
end Pv
/-! law k02: what is due, by the law's own going through. -/
namespace Wf
open PySem PySem.Spec L2
section
variable {K : PySem.W.Frag} {C : Addr}
def GiveWN (K : PySem.W.Frag) (H : Hp) (Q : VK) (w : Str) (n : Int) : Prop := ∀ (q : Addr) (H' : Hp), Same H H' → H' q = some (.tup [.str w, .int n]) → Q (.ref q) H'
theorem GiveWN.go {H H1 : Hp} {Q : VK} {w : Str} {n : Int} (g : GiveWN K H Q w n) (s : Same H H1) : ∀ q, H1 q = none → Q (.ref q) (upd H1 q (.tup [.str w, .int n])) := fun q hq => g q _ (s.trans (same_new hq)) upd_same
end
end Wf
/-! law k02: due, told. -/
namespace Wf
open PySem PySem.Spec L2
end Wf
/-! law k02: things made otherwise. -/
namespace Wf
open PySem PySem.Spec L2
mutual
/-- data of None, truths, numbers, texts and tuples of at most n things -/
def fit (n : Nat) : PyData → Bool
  | .none | .bool _ | .int _ => true
  | .str x => PyData.canLay0 (.str x)
  | .tuple ds => decide (ds.length ≤ n) && fitAll n ds
  | .list _ | .dict _ => false
def fitAll (n : Nat) : List PyData → Bool
  | [] => true
  | d :: ds => fit n d && fitAll n ds
end
mutual
theorem fit_le {n m : Nat} (hm : n ≤ m) : ∀ d : PyData, fit n d = true → fit m d = true
  | .none, _ => rfl
  | .bool _, _ => rfl
  | .int _, _ => rfl
  | .str _, h => h
  | .tuple ds, h => by
    have h' := Bool.and_eq_true_iff.mp (show (decide (ds.length ≤ n) && fitAll n ds) = true from h)
    show (decide (ds.length ≤ m) && fitAll m ds) = true
    rw [decide_eq_true (Nat.le_trans (of_decide_eq_true h'.1) hm), fitAll_le hm ds h'.2]
    rfl
  | .list _, h => nomatch h
  | .dict _, h => nomatch h
theorem fitAll_le {n m : Nat} (hm : n ≤ m) : ∀ ds : List PyData, fitAll n ds = true → fitAll m ds = true
  | [], _ => rfl
  | d :: ds, h => by
    have h' := Bool.and_eq_true_iff.mp (show (fit n d && fitAll n ds) = true from h)
    show (fit m d && fitAll m ds) = true
    rw [fit_le hm d h'.1, fitAll_le hm ds h'.2]
    rfl
end
theorem fitAll_all {n : Nat} : ∀ {ds : List PyData}, fitAll n ds = true ↔ ∀ d ∈ ds, fit n d = true
  | [] => ⟨fun _ d h => (List.not_mem_nil h).elim, fun _ => rfl⟩
  | d :: ds => by
    show (fit n d && fitAll n ds) = true ↔ _
    rw [Bool.and_eq_true, fitAll_all (ds := ds)]
    simp
theorem fit_tup {n : Nat} {ds : List PyData} (h : fit n (.tuple ds) = true) : ds.length ≤ n ∧ ∀ d ∈ ds, fit n d = true := by
  have h' := Bool.and_eq_true_iff.mp (show (decide (ds.length ≤ n) && fitAll n ds) = true from h)
  exact ⟨of_decide_eq_true h'.1, fitAll_all.mp h'.2⟩
end Wf
namespace Wf
open PySem PySem.Spec L2 Pv
theorem cal_no2 {P : Program} {w : World} {K : PySem.W.Frag} {mg : Str → Option Value} {base : Heap} {k : Nat} {x : Str} {ps : List Str} {f : Addr} {fd : FuncData} {psp : PSp} {T : List NdefX.NTab} (m : mg x = some (.ref f)) (kp : PySem.W.keepIn K (.ref f) = true) (b : Binds K fd ps []) (h : ∀ as Q E, psp as Q E → False := by intro _ _ _ h; exact h) : Cal P w K mg base CX0 k x ps (LSp K T psp) :=
  (cal_no m kp b).imp fun _ _ _ _ ⟨_, _, _, _, _, _, _, q, _⟩ => h _ _ _ q
end Wf
namespace Pv
open PySem PySem.Spec L2 Wf
/-! ### things of any form -/
/-! ### is_tuple_of -/
end Pv
namespace Pv
open PySem PySem.Spec L2 Wf
/-! ### words and moves -/
def ab (x : Int) : Int := if x < 0 then -x else x
/-! ### one move -/
/-! ### moves one behind the other -/
end Pv
namespace Pv
open PySem PySem.Spec L2 Wf
/-! ### _law_behind_move -/
end Pv
namespace Pv
open PySem PySem.Spec L2 Wf
/-! ### _law_letters -/
/-! ### _law_whole, _law_is_form -/
end Pv
namespace Pv
open PySem PySem.Spec L2 Wf
/-! ### things of bounded depth -/
mutual
theorem fit_lay {n : Nat} : ∀ d : PyData, fit n d = true → d.canLay0 = true
  | .none, _ => rfl
  | .bool _, _ => rfl
  | .int _, _ => rfl
  | .str _, h => by unfold fit at h; exact h
  | .tuple ds, h => fitAll_lay ds (Bool.and_eq_true_iff.mp (show (decide (ds.length ≤ n) && fitAll n ds) = true by unfold fit at h; exact h)).2
  | .list _, h => by unfold fit at h; cases h
  | .dict _, h => by unfold fit at h; cases h
theorem fitAll_lay {n : Nat} : ∀ ds : List PyData, fitAll n ds = true → PyData.canLayAll0 ds = true
  | [], _ => rfl
  | d :: ds, h => by
    have h' := Bool.and_eq_true_iff.mp (show (fit n d && fitAll n ds) = true by unfold fitAll at h; exact h)
    show (d.canLay0 && PyData.canLayAll0 ds) = true
    rw [fit_lay d h'.1, fitAll_lay ds h'.2]
    rfl
end
theorem depth_mem : ∀ {ds : List PyData} {d : PyData}, d ∈ ds → d.depth ≤ PyData.depthAll ds
  | x :: ds, d, h => by
    show d.depth ≤ max x.depth (PyData.depthAll ds)
    rcases List.mem_cons.mp h with rfl | h
    · exact Nat.le_max_left _ _
    · exact Nat.le_trans (depth_mem h) (Nat.le_max_right _ _)
structure OkX (n D : Nat) (x : PyData) : Prop where
  fit : fit n x = true
  dep : x.depth ≤ D
theorem OkX.shaped {n D : Nat} {x : PyData} (h : OkX n D x) (hD : D ≤ 60) : SeqAt.shaped x = true := by
  unfold SeqAt.shaped
  rw [fit_lay x h.fit]
  have := h.dep
  simp
  omega
theorem OkX.tup {n D : Nat} {ds : List PyData} (h : OkX n D (.tuple ds)) : ds.length ≤ n ∧ 1 ≤ D ∧ ∀ d ∈ ds, OkX n (D - 1) d := by
  obtain ⟨h1, h2⟩ := fit_tup h.fit
  have hd : PyData.depthAll ds + 1 ≤ D := h.dep
  refine ⟨h1, by omega, fun d hd2 => ⟨h2 d hd2, ?_⟩⟩
  have := depth_mem hd2
  omega
theorem OkX.le {n D n' D' : Nat} {x : PyData} (h : OkX n D x) (hn : n ≤ n') (hD : D ≤ D') : OkX n' D' x := ⟨fit_le hn x h.fit, Nat.le_trans h.dep hD⟩
end Pv
namespace Pv
open PySem PySem.Spec L2 Wf
/-! ### moves that are shown -/
end Pv
namespace Pv
open PySem PySem.Spec L2 Wf
/-! ### the law -/
end Pv
namespace Pv
/-! Roads: which passing is sooner, and that each is of neighbours. Numbers alone. -/
abbrev Ev := Nat × Nat
def wy (s : Nat → Int) (e : Ev) : Int := s e.2 - s e.1
def gp (p : Nat → Int) (e : Ev) : Int := p e.1 - p e.2
/-- by kinds, then by numbers -/
def soonK (k : Nat → Nat) (e f : Ev) : Prop := k f.1 < k e.1 ∨ k e.1 = k f.1 ∧ (k f.2 < k e.2 ∨ k e.2 = k f.2 ∧ (e.1 < f.1 ∨ e.1 = f.1 ∧ e.2 < f.2))
def soon (k : Nat → Nat) (p s : Nat → Int) (e f : Ev) : Prop := wy s e * gp p f < wy s f * gp p e ∨ wy s e * gp p f = wy s f * gp p e ∧ soonK k e f
end Pv
namespace Pv
open PySem PySem.Spec L2 Wf
/-! ### what the program's three defs are to do -/
end Pv
/-! x += list; sorted(list of tuples of numbers). -/
namespace Pv
open PySem PySem.Spec L2 Wf
/-! ### sorted(list of tuples of d numbers in [0, B)) -/
end Pv
/-! Comprehensions with two fors, by value. -/
namespace Pv
open PySem PySem.Spec L2 Wf
end Pv
/-! A def within a def, told with how the tables of code grow. -/
namespace Pv
open PySem PySem.Spec PyProof.Rows L2 LamX NdefX Wf
end Pv
/-! The end of a law whose defs make defs: tables of code objects, no guard. -/
namespace Wf
open PySem PySem.Spec PyProof.Rows L2 LamX
/-! ### a hook that tells of tables -/
end Wf
/-! A law whose program makes defs: its beginning, by value; old contracts that let tables grow, by value. -/
namespace Pv
open PySem PySem.Spec L2 LamX NdefX Wf
end Pv
/-! Lambdas that hold nothing: made, handed on, called; by value. -/
namespace Pv
open PySem PySem.Spec PyProof.Rows L2 LamX NdefX Wf
end Pv
/-! Lambdas called. -/
namespace Pv
open PySem PySem.Spec PyProof.Rows L2 LamX NdefX Wf
end Pv
/-! sorted(range(n), key=a lambda that holds a name). -/
namespace Pv
open PySem PySem.Spec PyProof.Rows L2 LamX NdefX Wf SrtO Srt
/-! ### a lambda that holds names, called -/
/-! ### list.sort(key=f) -/
section
variable {X : Cx} {A : Around} {pins : List (Addr × Obj)} {σ : L2.St} {H : Hp} {s : Shared} {a kS f : Addr} {e e1 : Nat} {P : PySem.Fin → Shared → Prop} {E : Value → Shared → Prop}
def KeysAt (H : Hp) (kf : Int → Int × Int) (us : List Value) (ns : List Int) : Prop := ∃ ps : List Addr, us = ps.map Value.ref ∧ ps.length = ns.length ∧ ∀ (j : Nat) p n, ps[j]? = some p → ns[j]? = some n → H p = some (.tup [.int (kf n).1, .int (kf n).2])
theorem KeysAt.mono {H H' : Hp} {kf : Int → Int × Int} {us : List Value} {ns : List Int} (k : KeysAt H kf us ns) (h : ∀ b xs, H b = some (.tup xs) → H' b = some (.tup xs)) : KeysAt H' kf us ns := by
  obtain ⟨ps, e, hl, hk⟩ := k
  exact ⟨ps, e, hl, fun j q m hq hm => h _ _ (hk j q m hq hm)⟩
end
section
variable {X : Cx} {pins : List (Addr × Obj)} {σ : L2.St} {H : Hp} {s : Shared} {f r : Addr} {E : Value → Shared → Prop} {Q : Value → Shared → Prop}
theorem vals_ints : ∀ {ns : List Int} {us : List Value}, IntsAre us ns → Vals (ns.map V.int) us
  | _, _, .nil => .nil
  | _, _, .cons n t h => .cons ⟨t, rfl⟩ (vals_ints h)
end
end Pv
/-! A def whose code object is known, by value; the lambda of a def. -/
namespace Pv
open PySem PySem.Spec PyProof.Rows L2 LamX NdefX Wf
end Pv
/-! sorted(range(n), key=lambda i: (x[i], i)), by value. -/
namespace Pv
open PySem PySem.Spec PyProof.Rows L2 LamX NdefX Wf SrtO Srt
end Pv
namespace Pv
open PySem PySem.Spec L2 Wf
/-! ### burdens_of -/
/-! ### both_ways -/
structure Tri (m : Int) (s u v w a b c : Int) : Prop where
  w0 : 0 ≤ w
  wv : w < v
  vu : v < u
  um : u < m
  a0 : 0 ≤ a
  a1 : a < s
  b0 : 0 ≤ b
  b1 : b < s
  c0 : 0 ≤ c
  c1 : c < s
abbrev tri (u v w a b c : Int) : List Wk := [(u, a), (v, b), (w, c)]
theorem Tri.ok {m s u v w a b c : Int} (h : Tri m s u v w a b c) : RowOk m s (tri u v w a b c) := fun p hp => by
  have := h.w0; have := h.wv; have := h.vu; have := h.um
  have := h.a0; have := h.a1; have := h.b0; have := h.b1; have := h.c0; have := h.c1
  simp only [List.mem_cons, List.not_mem_nil, or_false] at hp
  rcases hp with rfl | rfl | rfl
  · exact ⟨by show 0 ≤ u; omega, by show u < m; omega, by show 0 ≤ a; omega, by show a < s; omega⟩
  · exact ⟨by show 0 ≤ v; omega, by show v < m; omega, by show 0 ≤ b; omega, by show b < s; omega⟩
  · exact ⟨by show 0 ≤ w; omega, by show w < m; omega, by show 0 ≤ c; omega, by show c < s; omega⟩
end Pv
namespace Pv
open PySem PySem.Spec L2 Wf
/-! ### pairs_passed, is_forward, last_order -/
end Pv
/-! Normal words: they lead to their order, forward where the order is. -/
namespace Pv
open PySem PySem.Spec L2 Wf
/-! ### an order, walker by walker -/
def resN (os : List Nat) (m : Nat) : List Nat := os.filter fun i => decide (i < m)
structure Spl (os : List Nat) (m : Nat) (X Y : List Nat) : Prop where
  eq : os = X ++ m :: Y
  nX : m ∉ X
  nY : m ∉ Y
  ix : os.idxOf m = X.length
  af : ∀ i, i ≠ m → i ∈ os → (i ∈ Y ↔ X.length < os.idxOf i)
theorem Spl.res {os X Y : List Nat} {m : Nat} (s : Spl os m X Y) : resN os m = X.filter (fun i => decide (i < m)) ++ Y.filter fun i => decide (i < m) := by
  unfold resN
  rw [s.eq, List.filter_append, List.filter_cons, if_neg (by simp)]
/-! ### kinds -/
end Pv
namespace Pv
open PySem PySem.Spec L2 Wf SrtO
/-! ### last_order -/
end Pv
namespace Pv
open PySem PySem.Spec L2 Wf
/-! ### kinds_of -/
/-! ### look_order -/
/-! ### normal_word -/
end Pv
namespace Pv
open PySem PySem.Spec L2 Wf
/-! ### look_forward, of a forward order -/
/-! ### borne_in, last_row -/
end Pv
namespace Pv
open PySem PySem.Spec L2 Wf
/-! ### k13: _law_due, _law_told, law -/
-- def law N ['_law_script', '_law_deal_here', '_law_book_here', '_law_row_here', '_law_some', '_law_k', '_law_kept', '_law_far', '_law_due_here', '_law_wanted'] calls ['_law_deal', '_law_book', '_law_draw', '_law_row', '_law_due', '_law_alike', '_law_told'] takes []
end Pv
namespace Pv
open PySem PySem.Spec L2 Wf
/-! ### numbers that are an order -/
/-! ### _law_due -/
/-! ### _law_told -/
/-! ### _law_changed -/
/-! ### k11 -/
end Pv
/-! [a, b, ..][i] of known things. -/
namespace Pv
open PySem PySem.Spec L2 Wf
end Pv
namespace Pv
open PySem PySem.Spec L2 Wf
end Pv
namespace Pv
open PySem PySem.Spec L2 LamX NdefX Wf
/-! ### orders led -/
structure OkO (n : Nat) (o : List Nat) : Prop where
  len : o.length = n
  lt : ∀ x ∈ o, x < n
theorem OkO.get {n j : Nat} {o : List Nat} (h : OkO n o) (hj : j < o.length) : o.getD j 0 < n := by
  rw [List.getD_eq_getElem?_getD, List.getElem?_eq_getElem hj]
  exact h.lt _ (List.getElem_mem hj)
end Pv
/-! Words of runs. -/
namespace Pv
open PySem PySem.Spec L2 Wf
/-! ### as many letters as pairs -/
/-! ### falling kinds -/
end Pv
namespace Pv
open PySem PySem.Spec L2 Wf
/-! ### the order behind a forward word is forward -/
/-! ### the first place of one who has passed wrongly -/
/-! ### look_forward -/
end Pv
namespace Pv
/-! Roads: each passing is of neighbours; the word, and the order behind it. -/
/-- o: an order of n walkers in which j stands behind i, i < j, just where D i j -/
structure InvO (n : Nat) (o : List Nat) (D : Nat → Nat → Prop) : Prop where
  pm : o.Perm (List.range n)
  iv : ∀ a b, a < b → b < n → (o.idxOf b < o.idxOf a ↔ D a b)
theorem InvO.nd {n : Nat} {o : List Nat} {D : Nat → Nat → Prop} (h : InvO n o D) : o.Nodup := h.pm.nodup_iff.mpr List.nodup_range
/-! ### letters of passings -/
/-! ### one list alone -/
end Pv
namespace Pv
/-! Roads: letters by counting; what is done by a beat; who stands where then. -/
end Pv
namespace Pv
/-! Roads: the list of all passings, made by putting each where it is due. -/
section
variable {n : Nat} {k : Nat → Nat} {p s : Nat → Int}
instance soonDec (k : Nat → Nat) (p s : Nat → Int) (e f : Ev) : Decidable (soon k p s e f) := by
  unfold soon soonK; infer_instance
end
end Pv
/-! sorted(list of tuples of d ints), any ints, any number of them. -/
namespace L2
open PySem PySem.Spec PyProof.Rows
end L2
namespace Pv
open PySem PySem.Spec L2 Wf
end Pv
namespace Pv
open PySem PySem.Spec L2 Wf
/-! Roads: what passings does. -/
/-! ### common_divisor -/
-- DEF common_divisor N ['one', 'other'] calls [] takes []
/-! ### common_multiple -/
-- DEF common_multiple N ['numbers', 'multiple', 'number'] calls ['common_divisor'] takes []
/-! ### moment_of -/
-- DEF moment_of N ['upper', 'lower', 'divisor'] calls ['common_divisor'] takes []
/-! ### in_told_order -/
-- DEF in_told_order N ['kinds', 'meetings', 'parts', 'turns', 'way', 'gap', 'i', 'j', 'when', 'less_u', 'less_v'] calls ['common_multiple', 'moment_of'] takes []
/-! ### passings -/
-- DEF passings N ['book', 'kinds', 'spots', 'paces', 'many', 'meetings', 'i', 'j'] calls ['in_told_order'] takes []
abbrev kf (ks : List Nat) : Nat → Nat := fun i => ks.getD i 0
/-- rising spots; at one spot the quicker ones are ahead -/
structure UpK (ks : List Nat) (ss : List Int) : Prop where
  up : ∀ i j, i < j → j < ks.length → j < ss.length → ss.getD i 0 < ss.getD j 0 ∨ ss.getD i 0 = ss.getD j 0 ∧ ks.getD i 0 < ks.getD j 0
structure RdOk (m : Int) (ps : List Int) (ks : List Nat) (ss : List Int) : Prop where
  pac : PacesOk m ps
  m5 : m ≤ 5
  kl : ∀ k ∈ ks, (k : Int) < m
  n10 : ks.length ≤ 10
  sl : ss.length = ks.length
  up : UpK ks ss
  lo : ∀ x ∈ ss, -(2 ^ 103) ≤ x ∧ x < 2 ^ 103
theorem getDm {α : Type} {l : List α} {i : Nat} {d : α} (h : i < l.length) : l.getD i d ∈ l := by
  rw [List.getD_eq_getElem?_getD, List.getElem?_eq_getElem h]
  exact List.getElem_mem h
theorem up_get {l : List Int} (h : l.Pairwise (· < ·)) {i j : Nat} (hij : i < j) (hj : j < l.length) : l.getD i 0 < l.getD j 0 := by
  have := List.pairwise_iff_getElem.mp h i j (by omega) hj hij
  rw [List.getD_eq_getElem?_getD, List.getD_eq_getElem?_getD, List.getElem?_eq_getElem hj, List.getElem?_eq_getElem (show i < l.length by omega)]
  exact this
theorem UpK.of {ks : List Nat} {ss : List Int} (h : ss.Pairwise (· < ·)) : UpK ks ss := ⟨fun i j hij _ hj => .inl (up_get h hij hj)⟩
instance {ks : List Nat} {ss : List Int} : Coe (ss.Pairwise (· < ·)) (UpK ks ss) := ⟨UpK.of⟩
theorem RdOk.kp {m : Int} {ps ss : List Int} {ks : List Nat} (h : RdOk m ps ks ss) {i : Nat} (hi : i < ks.length) : ks.getD i 0 < ps.length := by
  have := h.kl _ (getDm (d := 0) hi)
  have := h.pac.len
  omega
end Pv
/-! What repr asks of: numbers, and tuples and lists of such, to any depth. -/
namespace Pv
open PySem PySem.Spec L2 Wf
structure Shw (n p : Nat) (d : PyData) : Prop where
  sh : d.showable = true
  ls : d.leavesShort 30 = true
  bk : d.bulk ≤ n
  dp : d.depth ≤ p
theorem Shw.le {n p n' p' : Nat} {d : PyData} (h : Shw n p d) (hn : n ≤ n') (hp : p ≤ p') : Shw n' p' d := ⟨h.sh, h.ls, Nat.le_trans h.bk hn, Nat.le_trans h.dp hp⟩
end Pv
/-! What the head tells of classes whose errors are kept. -/
namespace Wf
open PySem PySem.Spec PyProof.Rows L2
def veTail : List Value := [.type "ValueError", .type "Exception", .type "BaseException", .type "object"]
def plainB (K : PySem.W.Frag) (x : Str) : Bool :=
  PySem.W.excIn K (He.ga K x) veTail "ValueError.__new__" && (PySem.W.keepIn K (.ref (He.ga K x)) && (xfB K (He.ga K x) &&
  ((PySem.W.clsIn K (He.ga K x)).isSome && (decide (PySem.W.findIn K (.ref (He.ga K x)) "__class__" = some (some (.builtin "object.__class__"))) && (decide (PySem.W.specialIn K (.builtin "object.__class__") "__get__" = some (some (.builtin "getset_descriptor.__get__"))) &&
  (decide (PySem.W.takesIn K (.builtin "object.__class__") = some true) && decide (PySem.W.mroIn K (He.ga K x) (.type "object") = some true)))))))
theorem plainB_ok {K : PySem.W.Frag} {mg : Str → Option Value} {x : Str} (h : plainB K x = true) (g : mg x = some (.ref (He.ga K x))) : PlainC K mg x (He.ga K x) := by
  unfold plainB at h
  simp only [Bool.and_eq_true, decide_eq_true_eq] at h
  obtain ⟨h1, h5, h9, h10, h11, h12, h13, h14⟩ := h
  have X := xfB_ok h9
  exact ⟨g, ⟨veTail, _, _, _, PySem.F.excBase_ValueError, h1⟩, h5, ⟨h10, X.ga, X.gg, X.exC, h11, h12, h13, h14⟩⟩
theorem isc_n {K : PySem.W.Frag} : ∀ x ∈ ([] : List Str), IsC K (He.ga K x) := fun _ h => by cases h
theorem isc_c {K : PySem.W.Frag} {x : Str} {xs : List Str} (h : IsC K (He.ga K x)) (t : ∀ y ∈ xs, IsC K (He.ga K y)) : ∀ y ∈ x :: xs, IsC K (He.ga K y) := fun y m => by
  rcases List.mem_cons.mp m with rfl | m
  · exact h
  · exact t y m
end Wf
/-! k01: refusals kept as values. -/
namespace Pv
open PySem PySem.Spec L2 Wf
/-! ### things -/
def Leaf01 (d : PyData) : Prop := (∃ i : Int, d = .int i ∧ i.natAbs ≤ 10 ^ 30) ∨ d = .str "word" ∨ d = .str "" ∨ d = .bool true ∨ d = .none
def Th : Nat → PyData → Prop
  | 0, d => Leaf01 d
  | m + 1, d => Leaf01 d ∨ ∃ ds, d = .tuple ds ∧ ds.length ≤ 3 ∧ ∀ x ∈ ds, Th m x
theorem th_leaf {m : Nat} {d : PyData} (h : Leaf01 d) : Th m d := by
  cases m with
  | zero => exact h
  | succ m => exact .inl h
theorem noL_leaf01 {d : PyData} (h : Leaf01 d) : noL d = true := by
  rcases h with ⟨i, rfl, _⟩ | rfl | rfl | rfl | rfl <;> first | rfl | decide +kernel
theorem noL_th : ∀ {m : Nat} {d : PyData}, Th m d → noL d = true
  | 0, _, h => noL_leaf01 h
  | m + 1, d, h => by
    rcases h with h | ⟨ds, rfl, _, h⟩
    · exact noL_leaf01 h
    · show noLAll ds = true
      have : ∀ es : List PyData, (∀ x ∈ es, Th m x) → noLAll es = true := fun es => by
        induction es with
        | nil => intro _; rfl
        | cons x es ih =>
          intro h
          show (noL x && noLAll es) = true
          rw [noL_th (h x List.mem_cons_self), ih fun y hy => h y (List.mem_cons_of_mem _ hy)]
          rfl
      exact this ds h
/-- what repr asks of -/
structure Shx (n p : Nat) (d : PyData) : Prop where
  sh : d.showable = true
  ls : d.leavesShort 40 = true
  bk : d.bulk ≤ n
  dp : d.depth ≤ p
theorem shx_all {n p : Nat} : ∀ {ds : List PyData}, (∀ d ∈ ds, Shx n p d) → PyData.showableAll ds = true ∧ PyData.leavesShortAll 40 ds = true ∧ PyData.bulkAll ds ≤ (n + 1) * ds.length ∧ PyData.depthAll ds ≤ p
  | [], _ => ⟨rfl, rfl, Nat.zero_le _, Nat.zero_le _⟩
  | a :: ds, h => by
    have h1 := h a List.mem_cons_self
    have h2 := shx_all fun b hb => h b (List.mem_cons_of_mem _ hb)
    refine ⟨?_, ?_, ?_, ?_⟩
    · show (a.showable && PyData.showableAll ds) = true
      rw [h1.sh, h2.1]; rfl
    · show (a.leavesShort 40 && PyData.leavesShortAll 40 ds) = true
      rw [h1.ls, h2.2.1]; rfl
    · show a.bulk + 1 + PyData.bulkAll ds ≤ (n + 1) * (ds.length + 1)
      have := h1.bk
      have := h2.2.2.1
      rw [Nat.mul_add]
      omega
    · show max a.depth (PyData.depthAll ds) ≤ p
      exact Nat.max_le.mpr ⟨h1.dp, h2.2.2.2⟩
theorem shx_list {n p : Nat} {ds : List PyData} (h : ∀ d ∈ ds, Shx n p d) : Shx ((n + 1) * ds.length) (p + 1) (.list ds) := by
  have a := shx_all h
  exact ⟨a.1, a.2.1, a.2.2.1, Nat.succ_le_succ a.2.2.2⟩
theorem shx_tup {n p : Nat} {ds : List PyData} (h : ∀ d ∈ ds, Shx n p d) : Shx ((n + 1) * ds.length) (p + 1) (.tuple ds) := by
  have a := shx_all h
  exact ⟨a.1, a.2.1, a.2.2.1, Nat.succ_le_succ a.2.2.2⟩
theorem Shx.le {n p n' p' : Nat} {d : PyData} (h : Shx n p d) (hn : n ≤ n') (hp : p ≤ p') : Shx n' p' d := ⟨h.sh, h.ls, Nat.le_trans h.bk hn, Nat.le_trans h.dp hp⟩
theorem shx_leaf {d : PyData} (h : Leaf01 d) : Shx 10 0 d := by
  rcases h with ⟨i, rfl, hi⟩ | rfl | rfl | rfl | rfl
  · have hl : i.natAbs.log2 < 120 := by
      by_cases h0 : i.natAbs = 0
      · rw [h0]; decide
      · exact (Nat.log2_lt h0 (k := 120)).mpr (Nat.lt_of_le_of_lt hi (by decide))
    refine ⟨?_, ?_, Nat.zero_le _, Nat.le_refl _⟩
    · show decide (i.natAbs.log2 < 1920) = true
      exact decide_eq_true (by omega)
    · show decide ((PyData.shown (.int i)).length ≤ 40) = true
      refine decide_eq_true ?_
      have e := int_text_length_le10 (k := 31) (by decide) (Nat.lt_of_le_of_lt hi (by decide))
      show (Str.ofString (toString i)).length ≤ 40
      rw [ofString_length]
      omega
  all_goals exact ⟨by decide +kernel, by decide +kernel, by decide +kernel, by decide +kernel⟩
theorem shx_th : ∀ {m : Nat} {d : PyData}, Th m d → Shx (50 * 4 ^ m) m d
  | 0, d, h => (shx_leaf h).le (by decide) (Nat.le_refl _)
  | m + 1, d, h => by
    have p4 : 1 ≤ 4 ^ m := Nat.one_le_pow _ _ (by decide)
    rcases h with h | ⟨ds, rfl, hl, h⟩
    · exact (shx_leaf h).le (by rw [Nat.pow_succ]; omega) (Nat.zero_le _)
    · refine (shx_tup fun x hx => shx_th (h x hx)).le ?_ (Nat.le_refl _)
      have : (50 * 4 ^ m + 1) * ds.length ≤ (50 * 4 ^ m + 1) * 3 := Nat.mul_le_mul_left _ hl
      rw [Nat.pow_succ]
      omega
-- DEF _law_thing N ['_law_deal_here', '_law_deep', '_law_form', '_law_great', '_law_k'] calls ['_law_draw', '_law_thing'] takes ['PREV']
def pr_thing01_1 : PSx :=
    pRet (pIx (pLst (pCons (pVar 3) (pCons (pVar 3) (pCons (pK (.str "word")) (pCons (pK (.str "")) (pCons (pK (.bool true)) (pCons (pK .none) (pNil)))))))) (pVar 2))
def pe_thing01_2 (PREV : PSp) : PX :=
    pCall PREV (pCons (pVar 0) (pCons (pFz (pSub (pVar 1) (pK (.int 1)))) (pNil))) noX
def pr_thing01_2 (PREV : PSp) : PSx :=
    pRet (pC (q1 fTupleOf) (pCons (pComp (iRg (pCons (pCall psp_draw (pCons (pVar 0) (pCons (pFz (pK (.int 4))) (pNil))) noX) (pNil))) (gN 4) (pYes) (pe_thing01_2 PREV) [4]) (pNil)))
def pr_thing01_3 (PREV : PSp) : PSx :=
    pSeq (pIf (pT (pLt (pVar 2) (pK (.int 6)))) (pSeq (pSet 3 (pIx (pLst (pCons (pCall psp_draw (pCons (pVar 0) (pCons (pFz (pK (.int 9))) (pNil))) noX) (pCons (pCall psp_draw (pCons (pVar 0) (pCons (pFz (pPow (pK (.int 10)) (pK (.int 19)))) (pNil))) noX) (pCons (pSub (pK (.int 0)) (pCall psp_draw (pCons (pVar 0) (pCons (pFz (pPow (pK (.int 10)) (pK (.int 30)))) (pNil))) noX)) (pNil))))) (pCall psp_draw (pCons (pVar 0) (pCons (pFz (pK (.int 3))) (pNil))) noX)))
    (pr_thing01_1)) (pNext))
    (pr_thing01_2 PREV)
def p_thing01 (PREV : PSp) : PSx :=
    pSeq (pSet 2 (pCall psp_draw (pCons (pVar 0) (pCons (pFz (pAdd (pK (.int 6)) (pC (q1 fInt1) (pCons (pGt (pVar 1) (pK (.int 0))) (pNil))))) (pNil))) noX))
    (pr_thing01_3 PREV)
def psp_thing01 (m : Nat) : PSp := fun as Q _ => as = [.ow true .deal, .im (.int (m : Int))] ∧ ∀ d, Th m d → Q (.im d) [.ow true .deal, .un]
def psp_prev_thing01 : Nat → PSp
  | 0 => fun _ _ _ => False
  | m + 1 => psp_thing01 m
theorem hp_thing01 (m : Nat) (as : List Sl) (Qp : QE) (Ep : EX) (h : psp_thing01 m as Qp Ep) : p_thing01 (psp_prev_thing01 m) (endsP as Qp) (as ++ List.replicate 3 .un) := by
  obtain ⟨rfl, q⟩ := h
  show p_thing01 _ _ [.ow true .deal, .im (.int m), .un, .un, .un]
  have hn : ∃ n : Nat, (6 : Int) + (if decide ((m : Int) > 0) = true then 1 else 0) = (n : Int) ∧ n ≤ 7 ∧ (m = 0 → n = 6) := by
    by_cases c : m = 0
    · exact ⟨6, by subst c; rfl, by decide, fun _ => rfl⟩
    · exact ⟨7, by rw [if_pos (decide_eq_true (by omega))]; rfl, by decide, fun h => absurd h c⟩
  obtain ⟨n, en, n7, n0⟩ := hn
  refine ⟨trivial, _, _, rfl, _, rfl, nd1 0, _, rfl, ?_, ?_, fun f hf => ?_⟩
  · show 0 < 6 + if decide ((m : Int) > 0) = true then 1 else 0
    omega
  · show (6 + if decide ((m : Int) > 0) = true then 1 else 0) < 2 ^ 200
    omega
  have hf : (f : Int) < 6 + if decide ((m : Int) > 0) = true then 1 else 0 := hf
  simp only [pk0]
  refine ⟨_, _, rfl, ?_⟩
  show pr_thing01_3 (psp_prev_thing01 m) _ [.ow true .deal, .im (.int m), .im (.int f), .un, .un]
  refine ⟨trivial, _, rfl, ?_⟩
  show if decide ((f : Int) < 6) = true then _ else _
  by_cases c : f < 6
  · rw [if_pos (decide_eq_true (by omega))]
    refine ⟨_, _, rfl, _, rfl, nd1 0, _, rfl, by decide, by decide, fun a ha => ?_⟩
    simp only [pk0]
    refine ⟨⟨by decide, by decide, by decide⟩, _, _, rfl, _, rfl, nd1 0, _, rfl, by decide, by decide, fun b hb => ?_⟩
    simp only [pk0]
    refine ⟨⟨by decide, by decide, by decide⟩, _, _, rfl, _, rfl, nd1 0, _, rfl, by decide, by decide, fun g hg => ?_⟩
    simp only [pk0]
    refine ⟨trivial, _, _, rfl, _, rfl, nd1 0, _, rfl, by decide, by decide, fun h hh => ?_⟩
    simp only [pk0]
    have e19 : (10 : Int) ^ Int.toNat 19 ≤ 10 ^ 30 := by decide
    have e30 : (10 : Int) ^ Int.toNat 30 = 10 ^ 30 := by decide
    obtain ⟨i, ei, hi⟩ : ∃ i : Int, atI [PyData.int (a : Int), .int (b : Int), .int (0 - (g : Int))] (h : Int) = some (.int i) ∧ i.natAbs ≤ 10 ^ 30 := by
      have : h = 0 ∨ h = 1 ∨ h = 2 := by omega
      rcases this with rfl | rfl | rfl
      · exact ⟨_, rfl, by omega⟩
      · exact ⟨_, rfl, by omega⟩
      · exact ⟨_, rfl, by omega⟩
    refine ⟨_, ei, _, _, rfl, ?_⟩
    show pr_thing01_1 _ [.ow true .deal, .im (.int m), .im (.int f), .im (.int i), .un]
    obtain ⟨dd, ed, hd⟩ : ∃ d, atI [PyData.int i, .int i, .str "word", .str "", .bool true, .none] (f : Int) = some d ∧ Leaf01 d := by
      have : f = 0 ∨ f = 1 ∨ f = 2 ∨ f = 3 ∨ f = 4 ∨ f = 5 := by omega
      rcases this with rfl | rfl | rfl | rfl | rfl | rfl
      · exact ⟨_, rfl, .inl ⟨_, rfl, hi⟩⟩
      · exact ⟨_, rfl, .inl ⟨_, rfl, hi⟩⟩
      · exact ⟨_, rfl, .inr (.inl rfl)⟩
      · exact ⟨_, rfl, .inr (.inr (.inl rfl))⟩
      · exact ⟨_, rfl, .inr (.inr (.inr (.inl rfl)))⟩
      · exact ⟨_, rfl, .inr (.inr (.inr (.inr rfl)))⟩
    exact ⟨_, ed, _, _, rfl, q _ (th_leaf hd)⟩
  · rw [if_neg (by simp only [decide_eq_true_eq]; omega)]
    have hm : m ≠ 0 := fun h => by have := n0 h; omega
    obtain ⟨m, rfl⟩ : ∃ k, m = k + 1 := ⟨m - 1, by omega⟩
    show pr_thing01_2 (psp_thing01 m) _ [.ow true .deal, .im (.int ((m + 1 : Nat) : Int)), .im (.int f), .un, .un]
    refine ⟨_, _, rfl, _, rfl, nd1 0, _, rfl, by decide, by decide, fun a ha => ?_⟩
    simp only [pk0]
    have z : (100 : Nat) < sizeLine := by decide
    refine ⟨by omega, by omega, noPin1 (fun o => nofun), fun i acc δ => acc.length = i ∧ (∀ x ∈ acc, Th m x) ∧ δ = [.ow true .deal, .im (.int ((m + 1 : Nat) : Int)), .im (.int f), .un, .un], ⟨rfl, nofun, rfl⟩, ?_, ?_⟩
    · rintro i x acc δ hx ⟨rfl, hacc, rfl⟩
      have hi : acc.length < a := by
        have := (List.getElem?_eq_some_iff.mp hx).1
        rw [rgD_len] at this
        omega
      refine ⟨trivial, _, _, rfl, _, rfl, nd1 0, ⟨?_, fun y hy => ?_⟩⟩
      · show [Sl.ow true .deal, .im (.int (((m + 1 : Nat) : Int) - 1))] = [.ow true .deal, .im (.int (m : Int))]
        congr 4
        omega
      · simp only [pk0]
        refine ⟨_, _, rfl, by omega, by simp, ?_, rfl⟩
        intro w hw
        rcases List.mem_append.mp hw with hw | hw
        · exact hacc w hw
        · rw [List.mem_singleton.mp hw]; exact hy
    · rintro acc δ ⟨hl, hacc, rfl⟩
      rw [rgD_len] at hl
      exact ⟨_, _, rfl, q _ (.inr ⟨acc, rfl, by omega, hacc⟩)⟩
/-! ### errors -/
section
variable (cNoBook cNoRow cNoWay cNoPassing cNoOrder cNoMove cNoSpots cNoSpot cNoText cFull cNoWalker : Addr)
def errs01 (d e : PyData) : List Er := [(cNoBook, [("at", e), ("word", d)]), (cNoRow, [("at", e), ("word", d)]), (cNoWay, [("v", e), ("u", d)]), (cNoPassing, [("at", d)]), (cNoOrder, [("at", d)]), (cNoMove, [("at", d)]), (cNoSpots, [("at", d)]), (cNoSpot, [("spot", d)]), (cNoText, [("at", d)]), (cFull, [("most", d)]), (cNoWalker, [("place", d)])]
def psp_made01 : PSp := fun as Q _ => ∃ d e, as = [.im d, .im e] ∧ Q (.ow (.ler (errs01 cNoBook cNoRow cNoWay cNoPassing cNoOrder cNoMove cNoSpots cNoSpot cNoText cFull cNoWalker d e))) [.un, .un]
def psp_named01 : PSp := fun as Q _ => ∃ d e, as = [.im d, .im e] ∧ Q (.ow (.ler (errs01 cNoBook cNoRow cNoWay cNoPassing cNoOrder cNoMove cNoSpots cNoSpot cNoText cFull cNoWalker d e))) [.un, .un]
def due01 (d e : PyData) : List PyData := [d, e, d, e, d, e, d, d, d, d, d, d, d, d]
def psp_kept01 : PSp := fun as Q _ => ∃ d e, as = [.ow true (.gle (errs01 cNoBook cNoRow cNoWay cNoPassing cNoOrder cNoMove cNoSpots cNoSpot cNoText cFull cNoWalker d e))] ∧ Q (.ow (.lst (due01 d e))) as
def sorts01 (k : Nat) : PyData := .tuple [.list ((List.range 11).map fun j => .bool (fK j k)), .list [.bool (fU true k), .bool (fU true k), .bool (fU false k)]]
def psp_sorts01 : PSp := fun as Q _ => ∃ C fs k, as = [.ow true (.per C fs)] ∧ [cNoBook, cNoRow, cNoWay, cNoPassing, cNoOrder, cNoMove, cNoSpots, cNoSpot, cNoText, cFull, cNoWalker][k]? = some C ∧ Q (.im (sorts01 k)) as
end
def psp_taken01 : PSp := fun as Q _ => ∃ d, as = [.im d] ∧ noL d = true ∧ Q (.ow (.lst [d, d])) [.un]
-- DEF _law_made N ['_law_one', '_law_other', '_law_found'] calls [] takes ['cNoBook', 'cNoRow', 'cNoWay', 'cNoPassing', 'cNoOrder', 'cNoMove', 'cNoSpots', 'cNoSpot', 'cNoText', 'cFull', 'cNoWalker']
def pr_made01_1 (cNoSpots : Addr) (cNoSpot : Addr) (cNoText : Addr) (cFull : Addr) (cNoWalker : Addr) : PSx :=
    pRet (pAddE (pVar 2) (pLstE (pCons (pKeep1 cNoSpots "at" (pCons (pVar 0) (pNil))) (pCons (pKeep1 cNoSpot "spot" (pCons (pVar 0) (pNil))) (pCons (pKeep1 cNoText "at" (pCons (pVar 0) (pNil))) (pCons (pKeep1 cFull "most" (pCons (pVar 0) (pNil))) (pCons (pKeep1 cNoWalker "place" (pCons (pVar 0) (pNil))) (pNil))))))))
def p_made01 (cNoBook : Addr) (cNoRow : Addr) (cNoWay : Addr) (cNoPassing : Addr) (cNoOrder : Addr) (cNoMove : Addr) (cNoSpots : Addr) (cNoSpot : Addr) (cNoText : Addr) (cFull : Addr) (cNoWalker : Addr) : PSx :=
    pSeq (pSet 2 (pLstE (pCons (pKeep2 cNoBook "word" "at" (pCons (pVar 0) (pCons (pVar 1) (pNil)))) (pCons (pKeep2 cNoRow "word" "at" (pCons (pVar 0) (pCons (pVar 1) (pNil)))) (pCons (pKeep2 cNoWay "u" "v" (pCons (pVar 0) (pCons (pVar 1) (pNil)))) (pCons (pKeep1 cNoPassing "at" (pCons (pVar 0) (pNil))) (pCons (pKeep1 cNoOrder "at" (pCons (pVar 0) (pNil))) (pCons (pKeep1 cNoMove "at" (pCons (pVar 0) (pNil))) (pNil)))))))))
    (pr_made01_1 cNoSpots cNoSpot cNoText cFull cNoWalker)
-- DEF _law_named N ['_law_one', '_law_other', '_law_found'] calls [] takes ['cNoBook', 'cNoRow', 'cNoWay', 'cNoPassing', 'cNoOrder', 'cNoMove', 'cNoSpots', 'cNoSpot', 'cNoText', 'cFull', 'cNoWalker']
def pr_named01_1 (cFull : Addr) (cNoWalker : Addr) : PSx :=
    pRet (pAddE (pVar 2) (pLstE (pCons (pKeep1 cFull "most" (pCons (pVar 0) (pNil))) (pCons (pKeep1 cNoWalker "place" (pCons (pVar 0) (pNil))) (pNil)))))
def pr_named01_2 (cNoOrder : Addr) (cNoMove : Addr) (cNoSpots : Addr) (cNoSpot : Addr) (cNoText : Addr) (cFull : Addr) (cNoWalker : Addr) : PSx :=
    pSeq (pSet 2 (pAddE (pVar 2) (pLstE (pCons (pKeep1 cNoOrder "at" (pCons (pVar 0) (pNil))) (pCons (pKeep1 cNoMove "at" (pCons (pVar 0) (pNil))) (pCons (pKeep1 cNoSpots "at" (pCons (pVar 0) (pNil))) (pCons (pKeep1 cNoSpot "spot" (pCons (pVar 0) (pNil))) (pCons (pKeep1 cNoText "at" (pCons (pVar 0) (pNil))) (pNil)))))))))
    (pr_named01_1 cFull cNoWalker)
def p_named01 (cNoBook : Addr) (cNoRow : Addr) (cNoWay : Addr) (cNoPassing : Addr) (cNoOrder : Addr) (cNoMove : Addr) (cNoSpots : Addr) (cNoSpot : Addr) (cNoText : Addr) (cFull : Addr) (cNoWalker : Addr) : PSx :=
    pSeq (pSet 2 (pLstE (pCons (pKeep2K cNoBook "word" "at" (pCons (pVar 1) (pCons (pVar 0) (pNil)))) (pCons (pKeep2K cNoRow "word" "at" (pCons (pVar 1) (pCons (pVar 0) (pNil)))) (pCons (pKeep2K cNoWay "u" "v" (pCons (pVar 1) (pCons (pVar 0) (pNil)))) (pCons (pKeep1 cNoPassing "at" (pCons (pVar 0) (pNil))) (pNil)))))))
    (pr_named01_2 cNoOrder cNoMove cNoSpots cNoSpot cNoText cFull cNoWalker)
-- DEF _law_kept N ['_law_made_here', '_law_found', '_law_some', '_law_row', '_law_way', '_law_e'] calls [] takes ['cNoBook', 'cNoRow', 'cNoPassing', 'cNoOrder', 'cNoMove', 'cNoSpots', 'cNoText', 'cNoWay', 'cNoSpot', 'cFull', 'cNoWalker']
def pe_kept01_1 (cNoBook : Addr) (cNoRow : Addr) (cNoPassing : Addr) (cNoOrder : Addr) (cNoMove : Addr) (cNoSpots : Addr) (cNoText : Addr) : PX :=
    pXg (fun C => C ∈ [cNoBook, cNoRow, cNoPassing, cNoOrder, cNoMove, cNoSpots, cNoText]) "at" (pVar 5)
def pr_kept01_1 (cNoSpot : Addr) (cNoBook : Addr) (cNoRow : Addr) (cNoPassing : Addr) (cNoOrder : Addr) (cNoMove : Addr) (cNoSpots : Addr) (cNoText : Addr) (cFull : Addr) (cNoWalker : Addr) : PSx :=
    pRet (pAdd (pVar 1) (pLst (pCons (pXg (fun C => C ∈ [cNoSpot]) "spot" (pIxE (pVar 0) (pK (.int 7)))) (pCons (pXg (fun C => C ∈ [cNoBook, cNoRow, cNoPassing, cNoOrder, cNoMove, cNoSpots, cNoText]) "at" (pIxE (pVar 0) (pK (.int 8)))) (pCons (pXg (fun C => C ∈ [cFull]) "most" (pIxE (pVar 0) (pK (.int 9)))) (pCons (pXg (fun C => C ∈ [cNoWalker]) "place" (pIxE (pVar 0) (pK (.int 10)))) (pNil)))))))
def pr_kept01_2 (cNoBook : Addr) (cNoRow : Addr) (cNoPassing : Addr) (cNoOrder : Addr) (cNoMove : Addr) (cNoSpots : Addr) (cNoText : Addr) (cNoWay : Addr) (cNoSpot : Addr) (cFull : Addr) (cNoWalker : Addr) : PSx :=
    pSeq (pSet 1 (pAdd (pLst (pCons (pXg (fun C => C ∈ [cNoBook, cNoRow]) "word" (pVar 2)) (pCons (pXg (fun C => C ∈ [cNoBook, cNoRow, cNoPassing, cNoOrder, cNoMove, cNoSpots, cNoText]) "at" (pVar 2)) (pCons (pXg (fun C => C ∈ [cNoBook, cNoRow]) "word" (pVar 3)) (pCons (pXg (fun C => C ∈ [cNoBook, cNoRow, cNoPassing, cNoOrder, cNoMove, cNoSpots, cNoText]) "at" (pVar 3)) (pCons (pXg (fun C => C ∈ [cNoWay]) "u" (pVar 4)) (pCons (pXg (fun C => C ∈ [cNoWay]) "v" (pVar 4)) (pNil)))))))) (pCompE (pSliceE (pVar 0) (oSome (pK (.int 3))) (oSome (pK (.int 7)))) (geN 5) (pYes) (pe_kept01_1 cNoBook cNoRow cNoPassing cNoOrder cNoMove cNoSpots cNoText) [5])))
    (pr_kept01_1 cNoSpot cNoBook cNoRow cNoPassing cNoOrder cNoMove cNoSpots cNoText cFull cNoWalker)
def p_kept01 (cNoBook : Addr) (cNoRow : Addr) (cNoPassing : Addr) (cNoOrder : Addr) (cNoMove : Addr) (cNoSpots : Addr) (cNoText : Addr) (cNoWay : Addr) (cNoSpot : Addr) (cFull : Addr) (cNoWalker : Addr) : PSx :=
    pSeq (pUnE 3 (pSliceE (pVar 0) (oNone) (oSome (pK (.int 3)))) (gesC (geN 2) (gesC (geN 3) (gesC (geN 4) (gesN)))))
    (pr_kept01_2 cNoBook cNoRow cNoPassing cNoOrder cNoMove cNoSpots cNoText cNoWay cNoSpot cFull cNoWalker)
-- DEF _law_sorts N ['_law_e', '_law_found'] calls [] takes ['cNoBook', 'cNoRow', 'cNoWay', 'cNoPassing', 'cNoOrder', 'cNoMove', 'cNoSpots', 'cNoSpot', 'cNoText', 'cFull', 'cNoWalker']
def pr_sorts01_1 (cNoBook : Addr) (cNoRow : Addr) (cNoWay : Addr) (cNoPassing : Addr) (cNoOrder : Addr) (cNoMove : Addr) (cNoSpots : Addr) (cNoSpot : Addr) (cNoText : Addr) (cFull : Addr) (cNoWalker : Addr) : PSx :=
    pRet (pTup (pCons (pVar 1) (pCons (pLst (pCons (pIsV (sbF [cNoBook, cNoRow, cNoWay, cNoPassing, cNoOrder, cNoMove, cNoSpots, cNoSpot, cNoText, cFull, cNoWalker] (fU true)) 0) (pCons (pIsV (sbF [cNoBook, cNoRow, cNoWay, cNoPassing, cNoOrder, cNoMove, cNoSpots, cNoSpot, cNoText, cFull, cNoWalker] (fU true)) 0) (pCons (pIsV (sbF [cNoBook, cNoRow, cNoWay, cNoPassing, cNoOrder, cNoMove, cNoSpots, cNoSpot, cNoText, cFull, cNoWalker] (fU false)) 0) (pNil))))) (pNil))))
def pr_sorts01_2 (cNoBook : Addr) (cNoRow : Addr) (cNoWay : Addr) (cNoPassing : Addr) (cNoOrder : Addr) (cNoMove : Addr) (cNoSpots : Addr) (cNoSpot : Addr) (cNoText : Addr) (cFull : Addr) (cNoWalker : Addr) : PSx :=
    pSeq (pSet 1 (pAdd (pVar 1) (pLst (pCons (pIsV (sbF [cNoBook, cNoRow, cNoWay, cNoPassing, cNoOrder, cNoMove, cNoSpots, cNoSpot, cNoText, cFull, cNoWalker] (fK 8)) 0) (pCons (pIsV (sbF [cNoBook, cNoRow, cNoWay, cNoPassing, cNoOrder, cNoMove, cNoSpots, cNoSpot, cNoText, cFull, cNoWalker] (fK 9)) 0) (pCons (pIsV (sbF [cNoBook, cNoRow, cNoWay, cNoPassing, cNoOrder, cNoMove, cNoSpots, cNoSpot, cNoText, cFull, cNoWalker] (fK 10)) 0) (pNil)))))))
    (pr_sorts01_1 cNoBook cNoRow cNoWay cNoPassing cNoOrder cNoMove cNoSpots cNoSpot cNoText cFull cNoWalker)
def pr_sorts01_3 (cNoBook : Addr) (cNoRow : Addr) (cNoWay : Addr) (cNoPassing : Addr) (cNoOrder : Addr) (cNoMove : Addr) (cNoSpots : Addr) (cNoSpot : Addr) (cNoText : Addr) (cFull : Addr) (cNoWalker : Addr) : PSx :=
    pSeq (pSet 1 (pAdd (pVar 1) (pLst (pCons (pIsV (sbF [cNoBook, cNoRow, cNoWay, cNoPassing, cNoOrder, cNoMove, cNoSpots, cNoSpot, cNoText, cFull, cNoWalker] (fK 4)) 0) (pCons (pIsV (sbF [cNoBook, cNoRow, cNoWay, cNoPassing, cNoOrder, cNoMove, cNoSpots, cNoSpot, cNoText, cFull, cNoWalker] (fK 5)) 0) (pCons (pIsV (sbF [cNoBook, cNoRow, cNoWay, cNoPassing, cNoOrder, cNoMove, cNoSpots, cNoSpot, cNoText, cFull, cNoWalker] (fK 6)) 0) (pCons (pIsV (sbF [cNoBook, cNoRow, cNoWay, cNoPassing, cNoOrder, cNoMove, cNoSpots, cNoSpot, cNoText, cFull, cNoWalker] (fK 7)) 0) (pNil))))))))
    (pr_sorts01_2 cNoBook cNoRow cNoWay cNoPassing cNoOrder cNoMove cNoSpots cNoSpot cNoText cFull cNoWalker)
def p_sorts01 (cNoBook : Addr) (cNoRow : Addr) (cNoWay : Addr) (cNoPassing : Addr) (cNoOrder : Addr) (cNoMove : Addr) (cNoSpots : Addr) (cNoSpot : Addr) (cNoText : Addr) (cFull : Addr) (cNoWalker : Addr) : PSx :=
    pSeq (pSet 1 (pLst (pCons (pIsV (sbF [cNoBook, cNoRow, cNoWay, cNoPassing, cNoOrder, cNoMove, cNoSpots, cNoSpot, cNoText, cFull, cNoWalker] (fK 0)) 0) (pCons (pIsV (sbF [cNoBook, cNoRow, cNoWay, cNoPassing, cNoOrder, cNoMove, cNoSpots, cNoSpot, cNoText, cFull, cNoWalker] (fK 1)) 0) (pCons (pIsV (sbF [cNoBook, cNoRow, cNoWay, cNoPassing, cNoOrder, cNoMove, cNoSpots, cNoSpot, cNoText, cFull, cNoWalker] (fK 2)) 0) (pCons (pIsV (sbF [cNoBook, cNoRow, cNoWay, cNoPassing, cNoOrder, cNoMove, cNoSpots, cNoSpot, cNoText, cFull, cNoWalker] (fK 3)) 0) (pNil)))))))
    (pr_sorts01_3 cNoBook cNoRow cNoWay cNoPassing cNoOrder cNoMove cNoSpots cNoSpot cNoText cFull cNoWalker)
-- DEF _law_taken N ['_law_one', '_law_found', '_law_e'] calls [] takes ['cNoText', 'cNoWalker']
def pr_taken01_1 : PSx :=
    pRet (pVar 1)
def pr_taken01_2 (cNoWalker : Addr) : PSx :=
    pSeq (pTryR 2 cNoWalker "place" (pCons (pFz (pVar 0)) (pNil)) (fun a cls d => pExpr (pMt mAppend (pVar 1) (pCons (pXf cNoWalker a cls d 2 "place") (pNil)))))
    (pr_taken01_1)
def pr_taken01_3 (cNoText : Addr) (cNoWalker : Addr) : PSx :=
    pSeq (pTryR 2 cNoText "at" (pCons (pFz (pVar 0)) (pNil)) (fun a cls d => pExpr (pMt mAppend (pVar 1) (pCons (pXf cNoText a cls d 2 "at") (pNil)))))
    (pr_taken01_2 cNoWalker)
def p_taken01 (cNoText : Addr) (cNoWalker : Addr) : PSx :=
    pSeq (pSet 1 (pLst (pNil)))
    (pr_taken01_3 cNoText cNoWalker)
section
variable (cNoBook cNoRow cNoWay cNoPassing cNoOrder cNoMove cNoSpots cNoSpot cNoText cFull cNoWalker : Addr)
theorem hp_made01 (as : List Sl) (Qp : QE) (Ep : EX) (h : psp_made01 cNoBook cNoRow cNoWay cNoPassing cNoOrder cNoMove cNoSpots cNoSpot cNoText cFull cNoWalker as Qp Ep) : p_made01 cNoBook cNoRow cNoWay cNoPassing cNoOrder cNoMove cNoSpots cNoSpot cNoText cFull cNoWalker (endsP as Qp) (as ++ List.replicate 1 .un) := by
  obtain ⟨d, e, rfl, q⟩ := h
  have z : (100 : Nat) < sizeLine := by decide
  refine ⟨_, _, _, rfl, _, _, _, rfl, _, _, _, rfl, _, _, rfl, _, _, rfl, _, _, rfl, _, rfl, _, _, rfl, ?_⟩
  refine ⟨_, _, rfl, _, _, rfl, _, _, rfl, _, _, rfl, _, _, rfl, _, rfl, _, _, rfl, rfl, ?_, _, _, rfl, q⟩
  show 6 + 5 ≤ sizeLine
  omega
theorem hp_named01 (as : List Sl) (Qp : QE) (Ep : EX) (h : psp_named01 cNoBook cNoRow cNoWay cNoPassing cNoOrder cNoMove cNoSpots cNoSpot cNoText cFull cNoWalker as Qp Ep) : p_named01 cNoBook cNoRow cNoWay cNoPassing cNoOrder cNoMove cNoSpots cNoSpot cNoText cFull cNoWalker (endsP as Qp) (as ++ List.replicate 1 .un) := by
  obtain ⟨d, e, rfl, q⟩ := h
  have z : (100 : Nat) < sizeLine := by decide
  refine ⟨_, _, _, rfl, _, _, _, rfl, _, _, _, rfl, _, _, rfl, _, rfl, _, _, rfl, ?_⟩
  refine ⟨_, _, rfl, _, _, rfl, _, _, rfl, _, _, rfl, _, _, rfl, _, rfl, _, _, rfl, rfl, ?_, _, _, rfl, ?_⟩
  · show 4 + 5 ≤ sizeLine
    omega
  refine ⟨_, _, rfl, _, _, rfl, _, rfl, _, _, rfl, rfl, ?_, _, _, rfl, q⟩
  show 9 + 2 ≤ sizeLine
  omega
theorem hp_kept01 (as : List Sl) (Qp : QE) (Ep : EX) (h : psp_kept01 cNoBook cNoRow cNoWay cNoPassing cNoOrder cNoMove cNoSpots cNoSpot cNoText cFull cNoWalker as Qp Ep) : p_kept01 cNoBook cNoRow cNoPassing cNoOrder cNoMove cNoSpots cNoText cNoWay cNoSpot cFull cNoWalker (endsP as Qp) (as ++ List.replicate 5 .un) := by
  obtain ⟨d, e, rfl, q⟩ := h
  have z : (100 : Nat) < sizeLine := by decide
  refine ⟨_, rfl, _, rfl, _, rfl, rfl, _, _, rfl, _, _, rfl, _, _, rfl, rfl, ?_⟩
  show pr_kept01_2 cNoBook cNoRow cNoPassing cNoOrder cNoMove cNoSpots cNoText cNoWay cNoSpot cFull cNoWalker _ [.ow true (.gle (errs01 cNoBook cNoRow cNoWay cNoPassing cNoOrder cNoMove cNoSpots cNoSpot cNoText cFull cNoWalker d e)), .un, .ow false (.per cNoBook [("at", e), ("word", d)]), .ow false (.per cNoRow [("at", e), ("word", d)]), .ow false (.per cNoWay [("v", e), ("u", d)]), .un]
  have lw : List.lookup (Str.ofString "word") [(Str.ofString "at", e), (Str.ofString "word", d)] = some d := rfl
  have lu : List.lookup (Str.ofString "u") [(Str.ofString "v", e), (Str.ofString "u", d)] = some d := rfl
  refine ⟨_, _, _, rfl, by simp, lw, _, _, _, rfl, by simp, rfl, _, _, _, rfl, by simp, lw, _, _, _, rfl, by simp, rfl, _, _, _, rfl, by simp, lu, _, _, _, rfl, by simp, rfl, ?_⟩
  refine ⟨_, rfl, _, rfl, _, rfl, _, rfl, noPin1 (fun o => nofun), fun i acc δ => acc = List.replicate i d ∧ δ = [.ow true (.gle (errs01 cNoBook cNoRow cNoWay cNoPassing cNoOrder cNoMove cNoSpots cNoSpot cNoText cFull cNoWalker d e)), .un, .ow false (.per cNoBook [("at", e), ("word", d)]), .ow false (.per cNoRow [("at", e), ("word", d)]), .ow false (.per cNoWay [("v", e), ("u", d)]), .un], ⟨rfl, rfl⟩, ?_, ?_⟩
  · rintro i er acc δ he ⟨rfl, rfl⟩
    have hi : i < 4 := (List.getElem?_eq_some_iff.mp he).1
    have er4 : ∃ C, er = (C, [(Str.ofString "at", d)]) ∧ C ∈ [cNoBook, cNoRow, cNoPassing, cNoOrder, cNoMove, cNoSpots, cNoText] := by
      have : i = 0 ∨ i = 1 ∨ i = 2 ∨ i = 3 := by omega
      rcases this with rfl | rfl | rfl | rfl <;> (cases he; exact ⟨_, rfl, by simp⟩)
    obtain ⟨C, rfl, hC⟩ := er4
    refine ⟨_, _, _, rfl, hC, rfl, _, _, rfl, ?_, ?_, rfl⟩
    · rw [List.length_replicate]; omega
    · rw [List.replicate_succ']
  · rintro acc δ ⟨rfl, rfl⟩
    refine ⟨by show 6 + 4 ≤ sizeLine; omega, _, _, rfl, ?_⟩
    show pr_kept01_1 cNoSpot cNoBook cNoRow cNoPassing cNoOrder cNoMove cNoSpots cNoText cFull cNoWalker _ [.ow true (.gle (errs01 cNoBook cNoRow cNoWay cNoPassing cNoOrder cNoMove cNoSpots cNoSpot cNoText cFull cNoWalker d e)), .ow false (.lst [d, e, d, e, d, e, d, d, d, d]), .ow false (.per cNoBook [("at", e), ("word", d)]), .ow false (.per cNoRow [("at", e), ("word", d)]), .ow false (.per cNoWay [("v", e), ("u", d)]), .un]
    refine ⟨_, _, _, _, rfl, rfl, rfl, _, _, _, rfl, by simp, rfl, ?_⟩
    refine ⟨_, _, _, _, rfl, rfl, rfl, _, _, _, rfl, by simp, rfl, ?_⟩
    refine ⟨_, _, _, _, rfl, rfl, rfl, _, _, _, rfl, by simp, rfl, ?_⟩
    refine ⟨_, _, _, _, rfl, rfl, rfl, _, _, _, rfl, by simp, rfl, ?_⟩
    exact ⟨by show 10 + 4 ≤ sizeLine; omega, _, _, rfl, q⟩
theorem hp_sorts01 (cRoadError : Addr) (nd : [cNoBook, cNoRow, cNoWay, cNoPassing, cNoOrder, cNoMove, cNoSpots, cNoSpot, cNoText, cFull, cNoWalker].Nodup) (as : List Sl) (Qp : QE) (Ep : EX) (h : psp_sorts01 cNoBook cNoRow cNoWay cNoPassing cNoOrder cNoMove cNoSpots cNoSpot cNoText cFull cNoWalker as Qp Ep) : p_sorts01 cNoBook cNoRow cNoWay cNoPassing cNoOrder cNoMove cNoSpots cNoSpot cNoText cFull cNoWalker (endsP as Qp) (as ++ List.replicate 1 .un) := by
  obtain ⟨C, fs, k, rfl, hk, q⟩ := h
  have z : (100 : Nat) < sizeLine := by decide
  have S : ∀ f, sbF [cNoBook, cNoRow, cNoWay, cNoPassing, cNoOrder, cNoMove, cNoSpots, cNoSpot, cNoText, cFull, cNoWalker] f C = some (f k) := fun f => sbF_of nd hk
  refine ⟨_, _, _, _, rfl, S _, _, _, _, _, rfl, S _, _, _, _, _, rfl, S _, _, _, _, _, rfl, S _, _, _, rfl, ?_⟩
  show pr_sorts01_3 cNoBook cNoRow cNoWay cNoPassing cNoOrder cNoMove cNoSpots cNoSpot cNoText cFull cNoWalker _ [.ow true (.per C fs), .ow false (.lst [.bool (fK 0 k), .bool (fK 1 k), .bool (fK 2 k), .bool (fK 3 k)])]
  refine ⟨_, _, _, _, rfl, S _, _, _, _, _, rfl, S _, _, _, _, _, rfl, S _, _, _, _, _, rfl, S _, by show 4 + 4 ≤ sizeLine; omega, _, _, rfl, ?_⟩
  show pr_sorts01_2 cNoBook cNoRow cNoWay cNoPassing cNoOrder cNoMove cNoSpots cNoSpot cNoText cFull cNoWalker _ [.ow true (.per C fs), .ow false (.lst [.bool (fK 0 k), .bool (fK 1 k), .bool (fK 2 k), .bool (fK 3 k), .bool (fK 4 k), .bool (fK 5 k), .bool (fK 6 k), .bool (fK 7 k)])]
  refine ⟨_, _, _, _, rfl, S _, _, _, _, _, rfl, S _, _, _, _, _, rfl, S _, by show 8 + 3 ≤ sizeLine; omega, _, _, rfl, ?_⟩
  show pr_sorts01_1 cNoBook cNoRow cNoWay cNoPassing cNoOrder cNoMove cNoSpots cNoSpot cNoText cFull cNoWalker _ [.ow true (.per C fs), .ow false (.lst [.bool (fK 0 k), .bool (fK 1 k), .bool (fK 2 k), .bool (fK 3 k), .bool (fK 4 k), .bool (fK 5 k), .bool (fK 6 k), .bool (fK 7 k), .bool (fK 8 k), .bool (fK 9 k), .bool (fK 10 k)])]
  refine ⟨_, _, _, _, rfl, S _, _, _, _, _, rfl, S _, _, _, _, _, rfl, S _, _, _, rfl, ?_⟩
  exact q
end
theorem hp_taken01 (cNoText cNoWalker : Addr) (as : List Sl) (Qp : QE) (Ep : EX) (h : psp_taken01 as Qp Ep) : p_taken01 cNoText cNoWalker (endsP as Qp) (as ++ List.replicate 2 .un) := by
  obtain ⟨d, rfl, hd, q⟩ := h
  have z : (100 : Nat) < sizeLine := by decide
  refine ⟨_, _, rfl, ?_⟩
  show pr_taken01_3 cNoText cNoWalker _ [.im d, .ow false (.lst []), .un]
  refine ⟨_, _, rfl, _, _, rfl, fun a dd => ?_⟩
  refine ⟨_, _, _, rfl, rfl, _, _, _, rfl, rfl, rfl, rfl, _, _, _, _, rfl, rfl, by show 0 < sizeLine; omega, ?_⟩
  show pr_taken01_2 cNoWalker _ [.im d, .ow false (.lst [d]), .un]
  refine ⟨_, _, rfl, _, _, rfl, fun a dd => ?_⟩
  refine ⟨_, _, _, rfl, rfl, _, _, _, rfl, rfl, rfl, rfl, _, _, _, _, rfl, rfl, by show 1 < sizeLine; omega, ?_⟩
  show pr_taken01_1 _ [.im d, .ow false (.lst [d, d]), .un]
  exact ⟨_, _, rfl, q⟩
-- DEF law N ['_law_script', '_law_deal_here', '_law_turn', '_law_plain', '_law_due', '_law_made_here', '_law_one', '_law_other', '_law_k', '_law_e', '_law_under', '_law_j'] calls ['_law_deal', '_law_thing', '_law_made', '_law_named', '_law_kept', '_law_sorts', '_law_taken'] takes ['cNoBook', 'cNoRow', 'cNoWay', 'cNoPassing', 'cNoOrder', 'cNoMove', 'cNoSpots', 'cNoSpot', 'cNoText', 'cFull', 'cNoWalker']
def pe_law01_1 : PX :=
    pEq false (pVar 8) (pVar 11)
def pr_law01_1 (cNoBook : Addr) (cNoRow : Addr) (cNoWay : Addr) (cNoPassing : Addr) (cNoOrder : Addr) (cNoMove : Addr) (cNoSpots : Addr) (cNoSpot : Addr) (cNoText : Addr) (cFull : Addr) (cNoWalker : Addr) : PSx :=
    pIf (pT (pEq true (pCall (psp_sorts01 cNoBook cNoRow cNoWay cNoPassing cNoOrder cNoMove cNoSpots cNoSpot cNoText cFull cNoWalker) (pCons (pVar 9) (pNil)) noX) (pTup (pCons (pComp (iRg (pCons (pK (.int 11)) (pNil))) (gN 11) (pYes) (pe_law01_1) [11]) (pCons (pVar 10) (pNil)))))) (pRet (pK (.bool false))) (pNext)
def pb_law01_3 (cNoBook : Addr) (cNoRow : Addr) (cNoWay : Addr) (cNoPassing : Addr) (cNoOrder : Addr) (cNoMove : Addr) (cNoSpots : Addr) (cNoSpot : Addr) (cNoText : Addr) (cFull : Addr) (cNoWalker : Addr) : PSx :=
    pSeq (pSet 10 (pLst (pCons (pLt (pVar 8) (pK (.int 10))) (pCons (pLt (pVar 8) (pK (.int 10))) (pCons (pEq false (pVar 8) (pK (.int 10))) (pNil))))))
    (pr_law01_1 cNoBook cNoRow cNoWay cNoPassing cNoOrder cNoMove cNoSpots cNoSpot cNoText cFull cNoWalker)
def pr_law01_2 (cNoBook : Addr) (cNoRow : Addr) (cNoWay : Addr) (cNoPassing : Addr) (cNoOrder : Addr) (cNoMove : Addr) (cNoSpots : Addr) (cNoSpot : Addr) (cNoText : Addr) (cFull : Addr) (cNoWalker : Addr) : PSx :=
    pForEn [8, 9, 10] 8 9 (pCons (pVar 5) (pNil)) (pb_law01_3 cNoBook cNoRow cNoWay cNoPassing cNoOrder cNoMove cNoSpots cNoSpot cNoText cFull cNoWalker)
def pb_law01_5 (cNoBook : Addr) (cNoRow : Addr) (cNoWay : Addr) (cNoPassing : Addr) (cNoOrder : Addr) (cNoMove : Addr) (cNoSpots : Addr) (cNoSpot : Addr) (cNoText : Addr) (cFull : Addr) (cNoWalker : Addr) : PSx :=
    pSeq (pIf (pT (pEq true (pC (q1 fReprL) (pCons (pCall (psp_kept01 cNoBook cNoRow cNoWay cNoPassing cNoOrder cNoMove cNoSpots cNoSpot cNoText cFull cNoWalker) (pCons (pVar 5) (pNil)) noX) (pNil))) (pC (q1 fReprL) (pCons (pVar 4) (pNil))))) (pRet (pK (.bool false))) (pNext))
    (pr_law01_2 cNoBook cNoRow cNoWay cNoPassing cNoOrder cNoMove cNoSpots cNoSpot cNoText cFull cNoWalker)
def pr_law01_3 : PSx :=
    pIf (pT (pEq true (pC (q1 fReprL) (pCons (pCall psp_taken01 (pCons (pFz (pVar 6)) (pNil)) noX) (pNil))) (pC (q1 fReprL) (pCons (pMul (pLst (pCons (pVar 6) (pNil))) (pK (.int 2))) (pNil))))) (pRet (pK (.bool false))) (pNext)
def pr_law01_4 (cNoBook : Addr) (cNoRow : Addr) (cNoWay : Addr) (cNoPassing : Addr) (cNoOrder : Addr) (cNoMove : Addr) (cNoSpots : Addr) (cNoSpot : Addr) (cNoText : Addr) (cFull : Addr) (cNoWalker : Addr) : PSx :=
    pSeq (pForE2 [5, 8, 9, 10] 5 (pCall (psp_made01 cNoBook cNoRow cNoWay cNoPassing cNoOrder cNoMove cNoSpots cNoSpot cNoText cFull cNoWalker) (pCons (pFz (pVar 6)) (pCons (pFz (pVar 7)) (pNil))) noX) (pCall (psp_named01 cNoBook cNoRow cNoWay cNoPassing cNoOrder cNoMove cNoSpots cNoSpot cNoText cFull cNoWalker) (pCons (pFz (pVar 6)) (pCons (pFz (pVar 7)) (pNil))) noX) (pb_law01_5 cNoBook cNoRow cNoWay cNoPassing cNoOrder cNoMove cNoSpots cNoSpot cNoText cFull cNoWalker))
    (pr_law01_3)
def pr_law01_5 (cNoBook : Addr) (cNoRow : Addr) (cNoWay : Addr) (cNoPassing : Addr) (cNoOrder : Addr) (cNoMove : Addr) (cNoSpots : Addr) (cNoSpot : Addr) (cNoText : Addr) (cFull : Addr) (cNoWalker : Addr) : PSx :=
    pSeq (pSet 4 (pAdd (pLst (pCons (pVar 6) (pCons (pVar 7) (pCons (pVar 6) (pCons (pVar 7) (pCons (pVar 6) (pCons (pVar 7) (pNil)))))))) (pMul (pLst (pCons (pVar 6) (pNil))) (pK (.int 8)))))
    (pr_law01_4 cNoBook cNoRow cNoWay cNoPassing cNoOrder cNoMove cNoSpots cNoSpot cNoText cFull cNoWalker)
def pb_law01_9 (cNoBook : Addr) (cNoRow : Addr) (cNoWay : Addr) (cNoPassing : Addr) (cNoOrder : Addr) (cNoMove : Addr) (cNoSpots : Addr) (cNoSpot : Addr) (cNoText : Addr) (cFull : Addr) (cNoWalker : Addr) : PSx :=
    pSeq (pPar [6, 7] (pCons (pCall (psp_thing01 2) (pCons (pVar 1) (pCons (pFz (pK (.int 2))) (pNil))) noX) (pCons (pCall (psp_thing01 2) (pCons (pVar 1) (pCons (pFz (pK (.int 2))) (pNil))) noX) (pNil))))
    (pr_law01_5 cNoBook cNoRow cNoWay cNoPassing cNoOrder cNoMove cNoSpots cNoSpot cNoText cFull cNoWalker)
def pr_law01_6 : PSx :=
    pPlain 3
def pr_law01_7 (cNoBook : Addr) (cNoRow : Addr) (cNoWay : Addr) (cNoPassing : Addr) (cNoOrder : Addr) (cNoMove : Addr) (cNoSpots : Addr) (cNoSpot : Addr) (cNoText : Addr) (cFull : Addr) (cNoWalker : Addr) : PSx :=
    pSeq (pFor [2, 4, 5, 6, 7, 8, 9, 10] (iRg (pCons (pK (.int 3)) (pNil))) (gN 2) (pb_law01_9 cNoBook cNoRow cNoWay cNoPassing cNoOrder cNoMove cNoSpots cNoSpot cNoText cFull cNoWalker))
    (pr_law01_6)
def p_law01 (cNoBook : Addr) (cNoRow : Addr) (cNoWay : Addr) (cNoPassing : Addr) (cNoOrder : Addr) (cNoMove : Addr) (cNoSpots : Addr) (cNoSpot : Addr) (cNoText : Addr) (cFull : Addr) (cNoWalker : Addr) : PSx :=
    pSeq (pSet 1 (pCall psp_deal (pCons (pVar 0) (pCons (pFz (pK (.int 0))) (pNil))) noX))
    (pr_law01_7 cNoBook cNoRow cNoWay cNoPassing cNoOrder cNoMove cNoSpots cNoSpot cNoText cFull cNoWalker)
section
variable (cNoBook cNoRow cNoWay cNoPassing cNoOrder cNoMove cNoSpots cNoSpot cNoText cFull cNoWalker : Addr)
theorem rep01 {ds : List PyData} (hl : ds.length ≤ 20) (h : ∀ x ∈ ds, Th 2 x) : (PyData.list ds).showable = true ∧ (PyData.list ds).depth ≤ 60 ∧ (PyData.list ds).shown.length ≤ sizeLine := by
  have s := shx_list fun x hx => shx_th (h x hx)
  refine ⟨s.sh, Nat.le_trans s.dp (by decide), ?_⟩
  have l := PyData.shown_le_bulk 40 (by decide) _ s.ls
  have b := s.bk
  have b2 : (50 * 4 ^ 2 + 1) * ds.length ≤ (50 * 4 ^ 2 + 1) * 20 := Nat.mul_le_mul_left _ hl
  have z : (40 + 2) * ((50 * 4 ^ 2 + 1) * 20) + 40 ≤ sizeLine := by decide
  have b3 : (40 + 2) * (PyData.list ds).bulk ≤ (40 + 2) * ((50 * 4 ^ 2 + 1) * 20) := Nat.mul_le_mul_left _ (Nat.le_trans b b2)
  omega
theorem errs01_get (d e : PyData) {n : Nat} {er : Er} (h : (errs01 cNoBook cNoRow cNoWay cNoPassing cNoOrder cNoMove cNoSpots cNoSpot cNoText cFull cNoWalker d e)[n]? = some er) : n < 11 ∧ [cNoBook, cNoRow, cNoWay, cNoPassing, cNoOrder, cNoMove, cNoSpots, cNoSpot, cNoText, cFull, cNoWalker][n]? = some er.1 := by
  have hn : n < 11 := (List.getElem?_eq_some_iff.mp h).1
  refine ⟨hn, ?_⟩
  have e2 : [cNoBook, cNoRow, cNoWay, cNoPassing, cNoOrder, cNoMove, cNoSpots, cNoSpot, cNoText, cFull, cNoWalker] = (errs01 cNoBook cNoRow cNoWay cNoPassing cNoOrder cNoMove cNoSpots cNoSpot cNoText cFull cNoWalker d e).map (·.1) := rfl
  rw [e2, List.getElem?_map, h]
  rfl
theorem hp_inner01 (nd : [cNoBook, cNoRow, cNoWay, cNoPassing, cNoOrder, cNoMove, cNoSpots, cNoSpot, cNoText, cFull, cNoWalker].Nodup) {E : PEn} {C : Addr} {fs : List (Str × PyData)} {k : Nat} {s0 s1 s2 s4 s5 s6 s7 : Sl} (k11 : k < 11) (hk : [cNoBook, cNoRow, cNoWay, cNoPassing, cNoOrder, cNoMove, cNoSpots, cNoSpot, cNoText, cFull, cNoWalker][k]? = some C)
    (q : ∀ s10, E.nx [s0, s1, s2, .un, s4, s5, s6, s7, .im (.int (k : Int)), .ow false (.per C fs), .im s10, .un]) :
    pb_law01_3 cNoBook cNoRow cNoWay cNoPassing cNoOrder cNoMove cNoSpots cNoSpot cNoText cFull cNoWalker E [s0, s1, s2, .un, s4, s5, s6, s7, .im (.int (k : Int)), .ow false (.per C fs), .un, .un] := by
  have z : (100 : Nat) < sizeLine := by decide
  refine ⟨trivial, trivial, _, _, rfl, ?_⟩
  show pr_law01_1 cNoBook cNoRow cNoWay cNoPassing cNoOrder cNoMove cNoSpots cNoSpot cNoText cFull cNoWalker E [s0, s1, s2, .un, s4, s5, s6, s7, .im (.int (k : Int)), .ow false (.per C fs), .ow false (.lst [.bool (decide ((k : Int) < 10)), .bool (decide ((k : Int) < 10)), .bool (decide ((k : Int) = 10))]), .un]
  have e1 : decide ((k : Int) < 10) = fU true k := by
    unfold fU
    by_cases c : k < 10
    · rw [decide_eq_true (by omega), if_pos c]
    · rw [decide_eq_false (by omega), if_neg c]; rfl
  have e2 : decide ((k : Int) = 10) = fU false k := by
    unfold fU
    by_cases c : k < 10
    · rw [decide_eq_false (by omega), if_pos c]
    · rw [decide_eq_true (by omega), if_neg c]; rfl
  rw [e1, e2]
  refine ⟨_, rfl, nd1 9, C, fs, k, rfl, hk, ?_⟩
  refine ⟨by decide, by decide, noPin1 (fun o => nofun), fun j acc δ => acc = (List.range j).map (fun x => PyData.bool (fK x k)) ∧ δ = [s0, s1, s2, .un, s4, s5, s6, s7, .im (.int (k : Int)), .ow false (.per C fs), .ow false (.lst [.bool (fU true k), .bool (fU true k), .bool (fU false k)]), .un], ⟨rfl, rfl⟩, ?_, ?_⟩
  · rintro j x acc δ hx ⟨rfl, rfl⟩
    obtain ⟨rfl, hj⟩ := rgD_get hx
    refine ⟨_, _, rfl, by rw [List.length_map, List.length_range]; omega, ?_, rfl⟩
    rw [List.range_succ, List.map_append]
    congr 3
    show decide ((k : Int) = 0 + (j : Int)) = (k == j)
    by_cases c : k = j
    · subst c; simp
    · rw [decide_eq_false (by omega)]; simp [c]
  · rintro acc δ ⟨rfl, rfl⟩
    rw [rgD_len]
    refine ⟨rfl, rfl, _, rfl, ?_⟩
    show if (!eqd (sorts01 k) (sorts01 k)) = true then _ else _
    rw [eqd_self (show SeqAt.shaped (sorts01 k) = true from rfl)]
    exact q _
theorem hp_turn01 (nd : [cNoBook, cNoRow, cNoWay, cNoPassing, cNoOrder, cNoMove, cNoSpots, cNoSpot, cNoText, cFull, cNoWalker].Nodup) {E : PEn} {ns : List Int} {i : Nat} (q : ∀ due d e, E.nx [.ow true (.scr ns), .ow false .deal, .im (.int (i : Int)), .un, .ow false (.lst due), .un, .im d, .im e, .un, .un, .un, .un]) :
    pb_law01_9 cNoBook cNoRow cNoWay cNoPassing cNoOrder cNoMove cNoSpots cNoSpot cNoText cFull cNoWalker E [.ow true (.scr ns), .ow false .deal, .im (.int (i : Int)), .un, .un, .un, .un, .un, .un, .un, .un, .un] := by
  have z : (100 : Nat) < sizeLine := by decide
  refine ⟨_, _, rfl, _, rfl, nd1 1, rfl, fun d hd => ?_⟩
  simp only [pk1]
  refine ⟨_, _, rfl, _, rfl, nd1 1, rfl, fun e he => ?_⟩
  simp only [pk1]
  refine ⟨_, _, rfl, ?_⟩
  show pr_law01_5 cNoBook cNoRow cNoWay cNoPassing cNoOrder cNoMove cNoSpots cNoSpot cNoText cFull cNoWalker _ [.ow true (.scr ns), .ow false .deal, .im (.int (i : Int)), .un, .un, .un, .im d, .im e, .un, .un, .un, .un]
  refine ⟨by decide, by decide, by show 1 * 8 ≤ sizeLine; omega, by show 6 + 8 ≤ sizeLine; omega, _, _, rfl, ?_⟩
  show pr_law01_4 cNoBook cNoRow cNoWay cNoPassing cNoOrder cNoMove cNoSpots cNoSpot cNoText cFull cNoWalker _ [.ow true (.scr ns), .ow false .deal, .im (.int (i : Int)), .un, .ow false (.lst (due01 d e)), .un, .im d, .im e, .un, .un, .un, .un]
  have R := rep01 (ds := due01 d e) (by show 14 ≤ 20; decide) fun x hx => by
    unfold due01 at hx
    simp only [List.mem_cons, List.not_mem_nil, or_false] at hx
    rcases hx with rfl | rfl | rfl | rfl | rfl | rfl | rfl | rfl | rfl | rfl | rfl | rfl | rfl | rfl <;> assumption
  have R2 := rep01 (ds := [d, d]) (by show 2 ≤ 20; decide) fun x hx => by
    simp only [List.mem_cons, List.not_mem_nil, or_false] at hx
    rcases hx with rfl | rfl <;> assumption
  refine ⟨_, _, rfl, _, _, rfl, _, rfl, List.nodup_nil, d, e, rfl, ?_⟩
  refine ⟨_, _, rfl, _, _, rfl, _, rfl, List.nodup_nil, d, e, rfl, ?_⟩
  refine ⟨_, _, rfl, fun n δ => δ = [.ow true (.scr ns), .ow false .deal, .im (.int (i : Int)), .un, .ow false (.lst (due01 d e)), .un, .im d, .im e, .un, .un, .un, .un], rfl, ?_, ?_⟩
  · rintro n ess δ hess rfl
    have : ess = errs01 cNoBook cNoRow cNoWay cNoPassing cNoOrder cNoMove cNoSpots cNoSpot cNoText cFull cNoWalker d e := by
      have h2 : n < 2 := (List.getElem?_eq_some_iff.mp hess).1
      have : n = 0 ∨ n = 1 := by omega
      rcases this with rfl | rfl <;> (cases hess; rfl)
    subst this
    show pb_law01_5 cNoBook cNoRow cNoWay cNoPassing cNoOrder cNoMove cNoSpots cNoSpot cNoText cFull cNoWalker _ [.ow true (.scr ns), .ow false .deal, .im (.int (i : Int)), .un, .ow false (.lst (due01 d e)), .ow false (.gle (errs01 cNoBook cNoRow cNoWay cNoPassing cNoOrder cNoMove cNoSpots cNoSpot cNoText cFull cNoWalker d e)), .im d, .im e, .un, .un, .un, .un]
    refine ⟨_, rfl, nd1 5, d, e, rfl, ?_⟩
    refine ⟨R.1, R.2.1, R.2.2, R.1, R.2.1, R.2.2, ?_⟩
    generalize (PyData.list (due01 d e)).shown = t
    refine ⟨_, rfl, ?_⟩
    show if (!decide (t = t)) = true then _ else _
    rw [if_neg (by simp)]
    show pr_law01_2 cNoBook cNoRow cNoWay cNoPassing cNoOrder cNoMove cNoSpots cNoSpot cNoText cFull cNoWalker _ [.ow true (.scr ns), .ow false .deal, .im (.int (i : Int)), .un, .ow false (.lst (due01 d e)), .ow false (.gle (errs01 cNoBook cNoRow cNoWay cNoPassing cNoOrder cNoMove cNoSpots cNoSpot cNoText cFull cNoWalker d e)), .im d, .im e, .un, .un, .un, .un]
    refine ⟨_, _, rfl, rfl, fun n δ => δ = [.ow true (.scr ns), .ow false .deal, .im (.int (i : Int)), .un, .ow false (.lst (due01 d e)), .ow false (.gle (errs01 cNoBook cNoRow cNoWay cNoPassing cNoOrder cNoMove cNoSpots cNoSpot cNoText cFull cNoWalker d e)), .im d, .im e, .un, .un, .un, .un], rfl, ?_, ?_⟩
    · rintro n er δ her rfl
      obtain ⟨h1, h2⟩ := errs01_get cNoBook cNoRow cNoWay cNoPassing cNoOrder cNoMove cNoSpots cNoSpot cNoText cFull cNoWalker d e her
      exact hp_inner01 cNoBook cNoRow cNoWay cNoPassing cNoOrder cNoMove cNoSpots cNoSpot cNoText cFull cNoWalker nd h1 h2 fun _ => rfl
    · rintro δ rfl
      rfl
  · rintro δ rfl
    show pr_law01_3 E [.ow true (.scr ns), .ow false .deal, .im (.int (i : Int)), .un, .ow false (.lst (due01 d e)), .un, .im d, .im e, .un, .un, .un, .un]
    refine ⟨_, _, rfl, _, rfl, List.nodup_nil, d, rfl, noL_th hd, ?_⟩
    refine ⟨R2.1, R2.2.1, R2.2.2, by decide, by decide, by show 1 * 2 ≤ sizeLine; omega, R2.1, R2.2.1, R2.2.2, ?_⟩
    show ∃ b, dat _ (Pv.R.im (.bool (!decide ((PyData.list [d, d]).shown = (PyData.list [d, d]).shown)))) = some (.bool b) ∧ _
    generalize (PyData.list [d, d]).shown = t
    refine ⟨_, rfl, ?_⟩
    show if (!decide (t = t)) = true then _ else _
    rw [if_neg (by simp)]
    exact q _ _ _
theorem hp_law01 (nd : [cNoBook, cNoRow, cNoWay, cNoPassing, cNoOrder, cNoMove, cNoSpots, cNoSpot, cNoText, cFull, cNoWalker].Nodup) (as : List Sl) (Qp : QE) (Ep : EX) (h : psp_law as Qp Ep) : p_law01 cNoBook cNoRow cNoWay cNoPassing cNoOrder cNoMove cNoSpots cNoSpot cNoText cFull cNoWalker (endsP as Qp) (as ++ List.replicate 11 .un) := by
  obtain ⟨ns, rfl, hn, q⟩ := h
  refine ⟨_, _, rfl, _, rfl, nd1 0, 0, ns, rfl, by omega, by omega, hn, _, _, rfl, ?_⟩
  show pr_law01_7 cNoBook cNoRow cNoWay cNoPassing cNoOrder cNoMove cNoSpots cNoSpot cNoText cFull cNoWalker _ [.ow true (.scr ns), .ow false .deal, .un, .un, .un, .un, .un, .un, .un, .un, .un, .un]
  refine ⟨by decide, by decide, ?_⟩
  refine for_rg 3 rfl (fun i δ => δ = [.ow true (.scr ns), .ow false .deal, .un, .un, .un, .un, .un, .un, .un, .un, .un, .un]) rfl ?_ ?_
  · rintro i δ hi rfl
    exact hp_turn01 cNoBook cNoRow cNoWay cNoPassing cNoOrder cNoMove cNoSpots cNoSpot cNoText cFull cNoWalker nd fun _ _ _ => rfl
  · rintro δ rfl
    refine ⟨by show 3 < 12; decide, ?_⟩
    exact q
end
end Pv
namespace Wf
open PySem PySem.Spec L2 Pv
/-- the rows of the linked text -/
def topS (i : Nat) : Stmt := PySem.Challenge.pw_wherefrom_k01_refusals.main.body.getD i (.Pass ⟨0, 0, 0, 0⟩)
def clsS (i : Nat) : Stmt := match topS i with
  | .ClassDef _ _ _ body _ _ _ _ _ _ _ => body.getD 0 (.Pass ⟨0, 0, 0, 0⟩)
  | x => x
section
variable {P : Program} {w : World} {K : PySem.W.Frag} {mg : Str → Option Value} {base : Heap} {f : Addr} {fd : FuncData} {cNoBook cNoRow cNoWay cNoPassing cNoOrder cNoMove cNoSpots cNoSpot cNoText cFull cNoWalker cRoadError : Addr}
abbrev s_init_NoBook : Stmt := clsS 2
theorem sc_init_NoBook : FnScope ["self", "word", "at"] ["self", "word", "at"] (defScope s_init_NoBook) := ⟨rfl, rfl, rfl, by decide +kernel, rfl, by decide +kernel, by decide +kernel⟩
theorem ok_init_NoBook (F : FunD K "__init__" "NoBook.__init__" (defArgs s_init_NoBook) (defBody s_init_NoBook) (defScope s_init_NoBook) [] [] f fd) (BC : BaseC K mg "RoadError" cRoadError) (O : OexC K cNoBook) (n0 : PySem.W.findIn K (.ref cNoBook) "word" = some none) (n1 : PySem.W.findIn K (.ref cNoBook) "at" = some none) : FnOk P w K mg base CX0 1 f fd ["self", "word", "at"] (sp_init2 K cNoBook "word" "at") := by
  refine F.ok sc_init_NoBook (fun vs H Q E h => ?_) (fun cdv A outer s H vs Q E hr h => ⟨_, PSs.nox ?_, pure_init2 (txt := "no such book") O n0 n1 vs H Q E h⟩)
  · obtain ⟨_, _, _, rfl, _⟩ := h
    rfl
  · exact pss_cons (ps_expr (pe_binit (pl := _) BC (by rfl) (pa_cons (pv 0) (pa_cons (pe_str) (pa_nil))))) (pss_cons (ps_ost (pv 0) (pv 1)) (pss_one (ps_ost (pv 0) (pv 2))))
abbrev s_init_NoRow : Stmt := clsS 3
theorem sc_init_NoRow : FnScope ["self", "word", "at"] ["self", "word", "at"] (defScope s_init_NoRow) := ⟨rfl, rfl, rfl, by decide +kernel, rfl, by decide +kernel, by decide +kernel⟩
theorem ok_init_NoRow (F : FunD K "__init__" "NoRow.__init__" (defArgs s_init_NoRow) (defBody s_init_NoRow) (defScope s_init_NoRow) [] [] f fd) (BC : BaseC K mg "RoadError" cRoadError) (O : OexC K cNoRow) (n0 : PySem.W.findIn K (.ref cNoRow) "word" = some none) (n1 : PySem.W.findIn K (.ref cNoRow) "at" = some none) : FnOk P w K mg base CX0 1 f fd ["self", "word", "at"] (sp_init2 K cNoRow "word" "at") := by
  refine F.ok sc_init_NoRow (fun vs H Q E h => ?_) (fun cdv A outer s H vs Q E hr h => ⟨_, PSs.nox ?_, pure_init2 (txt := "no such row") O n0 n1 vs H Q E h⟩)
  · obtain ⟨_, _, _, rfl, _⟩ := h
    rfl
  · exact pss_cons (ps_expr (pe_binit (pl := _) BC (by rfl) (pa_cons (pv 0) (pa_cons (pe_str) (pa_nil))))) (pss_cons (ps_ost (pv 0) (pv 1)) (pss_one (ps_ost (pv 0) (pv 2))))
abbrev s_init_NoWay : Stmt := clsS 9
theorem sc_init_NoWay : FnScope ["self", "u", "v"] ["self", "u", "v"] (defScope s_init_NoWay) := ⟨rfl, rfl, rfl, by decide +kernel, rfl, by decide +kernel, by decide +kernel⟩
theorem ok_init_NoWay (F : FunD K "__init__" "NoWay.__init__" (defArgs s_init_NoWay) (defBody s_init_NoWay) (defScope s_init_NoWay) [] [] f fd) (BC : BaseC K mg "RoadError" cRoadError) (O : OexC K cNoWay) (n0 : PySem.W.findIn K (.ref cNoWay) "u" = some none) (n1 : PySem.W.findIn K (.ref cNoWay) "v" = some none) : FnOk P w K mg base CX0 1 f fd ["self", "u", "v"] (sp_init2 K cNoWay "u" "v") := by
  refine F.ok sc_init_NoWay (fun vs H Q E h => ?_) (fun cdv A outer s H vs Q E hr h => ⟨_, PSs.nox ?_, pure_init2 (txt := "no way back") O n0 n1 vs H Q E h⟩)
  · obtain ⟨_, _, _, rfl, _⟩ := h
    rfl
  · exact pss_cons (ps_expr (pe_binit (pl := _) BC (by rfl) (pa_cons (pv 0) (pa_cons (pe_str) (pa_nil))))) (pss_cons (ps_ost (pv 0) (pv 1)) (pss_one (ps_ost (pv 0) (pv 2))))
abbrev s_init_NoPassing : Stmt := clsS 4
theorem sc_init_NoPassing : FnScope ["self", "at"] ["self", "at"] (defScope s_init_NoPassing) := ⟨rfl, rfl, rfl, by decide +kernel, rfl, by decide +kernel, by decide +kernel⟩
theorem ok_init_NoPassing (F : FunD K "__init__" "NoPassing.__init__" (defArgs s_init_NoPassing) (defBody s_init_NoPassing) (defScope s_init_NoPassing) [] [] f fd) (BC : BaseC K mg "RoadError" cRoadError) (O : OexC K cNoPassing) (n0 : PySem.W.findIn K (.ref cNoPassing) "at" = some none) : FnOk P w K mg base CX0 1 f fd ["self", "at"] (sp_init1 K cNoPassing "at") := by
  refine F.ok sc_init_NoPassing (fun vs H Q E h => ?_) (fun cdv A outer s H vs Q E hr h => ⟨_, PSs.nox ?_, pure_init1 (txt := "no passing there") O n0 vs H Q E h⟩)
  · obtain ⟨_, _, rfl, _⟩ := h
    rfl
  · exact pss_cons (ps_expr (pe_binit (pl := _) BC (by rfl) (pa_cons (pv 0) (pa_cons (pe_str) (pa_nil))))) (pss_one (ps_ost (pv 0) (pv 1)))
abbrev s_init_NoOrder : Stmt := clsS 5
theorem sc_init_NoOrder : FnScope ["self", "at"] ["self", "at"] (defScope s_init_NoOrder) := ⟨rfl, rfl, rfl, by decide +kernel, rfl, by decide +kernel, by decide +kernel⟩
theorem ok_init_NoOrder (F : FunD K "__init__" "NoOrder.__init__" (defArgs s_init_NoOrder) (defBody s_init_NoOrder) (defScope s_init_NoOrder) [] [] f fd) (BC : BaseC K mg "RoadError" cRoadError) (O : OexC K cNoOrder) (n0 : PySem.W.findIn K (.ref cNoOrder) "at" = some none) : FnOk P w K mg base CX0 1 f fd ["self", "at"] (sp_init1 K cNoOrder "at") := by
  refine F.ok sc_init_NoOrder (fun vs H Q E h => ?_) (fun cdv A outer s H vs Q E hr h => ⟨_, PSs.nox ?_, pure_init1 (txt := "no such order") O n0 vs H Q E h⟩)
  · obtain ⟨_, _, rfl, _⟩ := h
    rfl
  · exact pss_cons (ps_expr (pe_binit (pl := _) BC (by rfl) (pa_cons (pv 0) (pa_cons (pe_str) (pa_nil))))) (pss_one (ps_ost (pv 0) (pv 1)))
abbrev s_init_NoMove : Stmt := clsS 6
theorem sc_init_NoMove : FnScope ["self", "at"] ["self", "at"] (defScope s_init_NoMove) := ⟨rfl, rfl, rfl, by decide +kernel, rfl, by decide +kernel, by decide +kernel⟩
theorem ok_init_NoMove (F : FunD K "__init__" "NoMove.__init__" (defArgs s_init_NoMove) (defBody s_init_NoMove) (defScope s_init_NoMove) [] [] f fd) (BC : BaseC K mg "RoadError" cRoadError) (O : OexC K cNoMove) (n0 : PySem.W.findIn K (.ref cNoMove) "at" = some none) : FnOk P w K mg base CX0 1 f fd ["self", "at"] (sp_init1 K cNoMove "at") := by
  refine F.ok sc_init_NoMove (fun vs H Q E h => ?_) (fun cdv A outer s H vs Q E hr h => ⟨_, PSs.nox ?_, pure_init1 (txt := "no such move") O n0 vs H Q E h⟩)
  · obtain ⟨_, _, rfl, _⟩ := h
    rfl
  · exact pss_cons (ps_expr (pe_binit (pl := _) BC (by rfl) (pa_cons (pv 0) (pa_cons (pe_str) (pa_nil))))) (pss_one (ps_ost (pv 0) (pv 1)))
abbrev s_init_NoSpots : Stmt := clsS 7
theorem sc_init_NoSpots : FnScope ["self", "at"] ["self", "at"] (defScope s_init_NoSpots) := ⟨rfl, rfl, rfl, by decide +kernel, rfl, by decide +kernel, by decide +kernel⟩
theorem ok_init_NoSpots (F : FunD K "__init__" "NoSpots.__init__" (defArgs s_init_NoSpots) (defBody s_init_NoSpots) (defScope s_init_NoSpots) [] [] f fd) (BC : BaseC K mg "RoadError" cRoadError) (O : OexC K cNoSpots) (n0 : PySem.W.findIn K (.ref cNoSpots) "at" = some none) : FnOk P w K mg base CX0 1 f fd ["self", "at"] (sp_init1 K cNoSpots "at") := by
  refine F.ok sc_init_NoSpots (fun vs H Q E h => ?_) (fun cdv A outer s H vs Q E hr h => ⟨_, PSs.nox ?_, pure_init1 (txt := "no such spots") O n0 vs H Q E h⟩)
  · obtain ⟨_, _, rfl, _⟩ := h
    rfl
  · exact pss_cons (ps_expr (pe_binit (pl := _) BC (by rfl) (pa_cons (pv 0) (pa_cons (pe_str) (pa_nil))))) (pss_one (ps_ost (pv 0) (pv 1)))
abbrev s_init_NoSpot : Stmt := clsS 8
theorem sc_init_NoSpot : FnScope ["self", "spot"] ["self", "spot"] (defScope s_init_NoSpot) := ⟨rfl, rfl, rfl, by decide +kernel, rfl, by decide +kernel, by decide +kernel⟩
theorem ok_init_NoSpot (F : FunD K "__init__" "NoSpot.__init__" (defArgs s_init_NoSpot) (defBody s_init_NoSpot) (defScope s_init_NoSpot) [] [] f fd) (BC : BaseC K mg "RoadError" cRoadError) (O : OexC K cNoSpot) (n0 : PySem.W.findIn K (.ref cNoSpot) "spot" = some none) : FnOk P w K mg base CX0 1 f fd ["self", "spot"] (sp_init1 K cNoSpot "spot") := by
  refine F.ok sc_init_NoSpot (fun vs H Q E h => ?_) (fun cdv A outer s H vs Q E hr h => ⟨_, PSs.nox ?_, pure_init1 (txt := "no such spot") O n0 vs H Q E h⟩)
  · obtain ⟨_, _, rfl, _⟩ := h
    rfl
  · exact pss_cons (ps_expr (pe_binit (pl := _) BC (by rfl) (pa_cons (pv 0) (pa_cons (pe_str) (pa_nil))))) (pss_one (ps_ost (pv 0) (pv 1)))
abbrev s_init_NoText : Stmt := clsS 10
theorem sc_init_NoText : FnScope ["self", "at"] ["self", "at"] (defScope s_init_NoText) := ⟨rfl, rfl, rfl, by decide +kernel, rfl, by decide +kernel, by decide +kernel⟩
theorem ok_init_NoText (F : FunD K "__init__" "NoText.__init__" (defArgs s_init_NoText) (defBody s_init_NoText) (defScope s_init_NoText) [] [] f fd) (BC : BaseC K mg "RoadError" cRoadError) (O : OexC K cNoText) (n0 : PySem.W.findIn K (.ref cNoText) "at" = some none) : FnOk P w K mg base CX0 1 f fd ["self", "at"] (sp_init1 K cNoText "at") := by
  refine F.ok sc_init_NoText (fun vs H Q E h => ?_) (fun cdv A outer s H vs Q E hr h => ⟨_, PSs.nox ?_, pure_init1 (txt := "no such text") O n0 vs H Q E h⟩)
  · obtain ⟨_, _, rfl, _⟩ := h
    rfl
  · exact pss_cons (ps_expr (pe_binit (pl := _) BC (by rfl) (pa_cons (pv 0) (pa_cons (pe_str) (pa_nil))))) (pss_one (ps_ost (pv 0) (pv 1)))
abbrev s_init_Full : Stmt := clsS 11
theorem sc_init_Full : FnScope ["self", "most"] ["self", "most"] (defScope s_init_Full) := ⟨rfl, rfl, rfl, by decide +kernel, rfl, by decide +kernel, by decide +kernel⟩
theorem ok_init_Full (F : FunD K "__init__" "Full.__init__" (defArgs s_init_Full) (defBody s_init_Full) (defScope s_init_Full) [] [] f fd) (BC : BaseC K mg "RoadError" cRoadError) (O : OexC K cFull) (n0 : PySem.W.findIn K (.ref cFull) "most" = some none) : FnOk P w K mg base CX0 1 f fd ["self", "most"] (sp_init1 K cFull "most") := by
  refine F.ok sc_init_Full (fun vs H Q E h => ?_) (fun cdv A outer s H vs Q E hr h => ⟨_, PSs.nox ?_, pure_init1 (txt := "the road is full") O n0 vs H Q E h⟩)
  · obtain ⟨_, _, rfl, _⟩ := h
    rfl
  · exact pss_cons (ps_expr (pe_binit (pl := _) BC (by rfl) (pa_cons (pv 0) (pa_cons (pe_str) (pa_nil))))) (pss_one (ps_ost (pv 0) (pv 1)))
abbrev s_init_NoWalker : Stmt := clsS 12
theorem sc_init_NoWalker : FnScope ["self", "place"] ["self", "place"] (defScope s_init_NoWalker) := ⟨rfl, rfl, rfl, by decide +kernel, rfl, by decide +kernel, by decide +kernel⟩
theorem ok_init_NoWalker (F : FunD K "__init__" "NoWalker.__init__" (defArgs s_init_NoWalker) (defBody s_init_NoWalker) (defScope s_init_NoWalker) [] [] f fd) (hm : mg "IndexError" = none) (vI : PySem.W.findCls K (.type "IndexError") (.type "type") "__init__" = some (.val (.builtin "IndexError.__init__"))) (O : OexI K cNoWalker) (n0 : PySem.W.takerIn K cNoWalker "place" = some none) : FnOk P w K mg base CX0 1 f fd ["self", "place"] (sp_init1 K cNoWalker "place") := by
  refine F.ok sc_init_NoWalker (fun vs H Q E h => ?_) (fun cdv A outer s H vs Q E hr h => ⟨_, PSs.nox ?_, pure_fi1 (txt := "no walker there") O n0 vs H Q E h⟩)
  · obtain ⟨_, _, rfl, _⟩ := h
    rfl
  · exact pss_cons (ps_expr (pe_fi (pl := _) (by rfl) hm vI (pa_cons (pv 0) (pa_cons (pe_str) (pa_nil))))) (pss_one (ps_fs (pv 0) (pv 1)))
abbrev s_draw : Stmt := topS 15
abbrev N_draw : List Str := ["_law_deal_here", "_law_many", "_law_one", "_law_other", "_law_digit"]
theorem sc_draw : FnScope N_draw ["_law_deal_here", "_law_many"] (defScope s_draw) := ⟨rfl, rfl, rfl, by decide +kernel, rfl, by decide +kernel, by decide +kernel⟩
theorem ok_draw (F : FnP K "_law_draw" s_draw f fd) (B : Bl mg)  : FnOk P w K mg base CX0 1 f fd ["_law_deal_here", "_law_many"] sp_draw := by
  refine F.ok sc_draw (fun vs H Q E h => ?_) (fun cdv A outer s H vs Q E hr h => ⟨_, PSs.nox ?_, pure_draw (K := K) vs H Q E h⟩)
  · obtain ⟨_, _, _, rfl, _⟩ := h
    rfl
  · exact pss_cons (ps_while PassesOwn.never (PW.pt (pw_and (pt_cmpR op_eq (pe_dget (hu_of hr) (pv 0) (pe_str) (fun _ _ => rfl)) (pe_int) (nomark _)) (pw_and1 (pt_cmpR op_gt (pe_callB call_len (by rfl) B.b_len (by decide +kernel) (pa_cons (pe_dget (hu_of hr) (pv 0) (pe_str) (fun _ _ => rfl)) (pa_nil))) (pe_int) (nomark _))))) (pss_one (ps_dput (hu_of hr) (pv 0) (pe_str) (pe_bm0 PySem.F.plainAttrs_list PySem.F.slot_list_pop PySem.F.type_list_pop mt_pop (pe_dget (hu_of hr) (pv 0) (pe_str) (fun _ _ => rfl))) rfl)))
          (pss_cons (ps_if (pt_cmpR op_gt (pe_dget (hu_of hr) (pv 0) (pe_str) (fun _ _ => rfl)) (pe_int) (nomark _)) (pss_cons (ps_set (i := 4) sc_draw.nd rfl (by first | exact Or.inl rfl | exact Or.inr rfl) (pe_op op_mod (pe_dget (hu_of hr) (pv 0) (pe_str) (fun _ _ => rfl)) (pv 1)))
          (pss_cons (ps_dput (hu_of hr) (pv 0) (pe_str) (pe_op op_fdivW (pe_dget (hu_of hr) (pv 0) (pe_str) (fun _ _ => rfl)) (pv 1)) rfl)
          (pss_one (ps_ret (pv 4))))) (pss_nil))
          (pss_cons (ps_dput (hu_of hr) (pv 0) (pe_str) (pe_op op_add (pe_dget (hu_of hr) (pv 0) (pe_str) (fun _ _ => rfl)) (pe_int)) rfl)
          (pss_cons (ps_set (i := 2) sc_draw.nd rfl (by first | exact Or.inl rfl | exact Or.inr rfl) (pe_op op_mod (pe_op op_mul (pe_op op_add (pe_dget (hu_of hr) (pv 0) (pe_str) (fun _ _ => rfl)) (pe_op op_mul (pe_int) (pe_dget (hu_of hr) (pv 0) (pe_str) (fun _ _ => rfl)))) (pe_int)) (pe_int)))
          (pss_cons (ps_set (i := 3) sc_draw.nd rfl (by first | exact Or.inl rfl | exact Or.inr rfl) (pe_op op_mod (pe_op op_add (pe_op op_add (pe_op op_mul (pv 2) (pv 2)) (pe_op op_mul (pe_int) (pe_dget (hu_of hr) (pv 0) (pe_str) (fun _ _ => rfl)))) (pe_dget (hu_of hr) (pv 0) (pe_str) (fun _ _ => rfl))) (pe_int)))
          (pss_one (ps_ret (pe_op op_mod (pe_op op_fdiv (pe_op op_add (pe_op op_mul (pe_op op_mod (pe_op op_mul (pv 3) (pv 3)) (pe_int)) (pe_int)) (pv 2)) (pe_int)) (pv 1))))))))
abbrev s_deal : Stmt := topS 14
abbrev N_deal : List Str := ["_law_script", "_law_base", "_law_some", "_law_seed", "_law_one"]
theorem sc_deal : FnScope N_deal ["_law_script", "_law_base"] (defScope s_deal) := ⟨rfl, rfl, rfl, by decide +kernel, rfl, by decide +kernel, by decide +kernel⟩
theorem ok_deal (F : FnP K "_law_deal" s_deal f fd) (B : Bl mg)  : FnOk P w K mg base CX0 1 f fd ["_law_script", "_law_base"] (sp_deal K) := by
  refine F.ok sc_deal (fun vs H Q E h => ?_) (fun cdv A outer s H vs Q E hr h => ⟨_, PSs.nox ?_, pure_deal (K := K) vs H Q E h⟩)
  · obtain ⟨_, _, _, rfl, _⟩ := h
    rfl
  · exact pss_cons (ps_setLc (i := 2) (own := [("_law_one", 4)]) rfl sc_deal.nd rfl rfl (sw_true rfl rfl rfl (by decide +kernel)) (pi_list (pe_slice sl_list (pv 0) (po_some (pv 1)) (po_some (pe_int)))) (blkOk_by (N := N_deal) (sc := defScope s_deal) (by decide +kernel)) (fun _ _ _ _ _ => pg_name (i := 4) sc_deal.nd rfl (by first | exact Or.inl rfl | exact Or.inr rfl)) (fun _ _ _ _ _ => pts_nil) (fun _ _ _ _ _ => pe_callB (call_max2 rfl) (by rfl) B.b_max (by decide +kernel) (pa_cons (pv 4) (pa_cons (pe_op op_sub (pe_int) (pv 4)) (pa_nil)))))
          (pss_cons (ps_set (i := 3) sc_deal.nd rfl (by first | exact Or.inl rfl | exact Or.inr rfl) (pe_op op_add (pe_int) (pe_op op_mul (pe_int) (pv 1))))
          (pss_cons (ps_for PassesOwn.never rfl (pi_list (pv 2)) (pg_name (i := 4) sc_deal.nd rfl (by first | exact Or.inl rfl | exact Or.inr rfl)) (pss_one (ps_set (i := 3) sc_deal.nd rfl (by first | exact Or.inl rfl | exact Or.inr rfl) (pe_op op_mod (pe_op op_add (pe_op op_add (pe_op op_mul (pv 3) (pe_int)) (pe_op op_mod (pv 4) (pe_int))) (pe_int)) (pe_int)))))
          (pss_one (ps_ret (pe_disp (pps_cons (pe_str) (pe_op op_add (pv 3) (pe_int)) (pps_cons (pe_str) (pe_int) (pps_cons (pe_str) (pe_int) (pps_cons (pe_str) (Wf.pe_lstRev rfl (by rfl) B.b_list (by rfl) B.b_reversed (pe_lc (own := [("_law_one", 4)]) rfl sc_deal.nd (pi_list (pv 2)) (blkOk_by (N := N_deal) (sc := defScope s_deal) (by decide +kernel)) (fun _ _ _ _ _ => pg_name (i := 4) sc_deal.nd rfl (by first | exact Or.inl rfl | exact Or.inr rfl)) (fun _ _ _ _ _ => pts_one (pt_cmpR op_ge (pv 4) (pe_op op_pow (pe_int) (pe_int)) (nomark _))) (fun _ _ _ _ _ => pv 4))) (pps_nil))))) (by rfl) (by rfl) (fun z => by cases z) (by decide))))))
abbrev s_thing01 : Stmt := topS 16
abbrev N_thing01 : List Str := ["_law_deal_here", "_law_deep", "_law_form", "_law_great", "_law_k"]
theorem sc_thing01 : FnScope N_thing01 ["_law_deal_here", "_law_deep"] (defScope s_thing01) := ⟨rfl, rfl, rfl, by decide +kernel, rfl, by decide +kernel, by decide +kernel⟩
theorem ok_thing01_0 (F : FnP K "_law_thing" s_thing01 f fd) (B : Bl mg) (C_draw : Cal P w K mg base CX0 1 "_law_draw" ["_law_deal_here", "_law_many"] (LSp K TB0 psp_draw)) (C_thing01 : Cal P w K mg base CX0 1 "_law_thing" ["_law_deal_here", "_law_deep"] (LSp K TB0 (psp_prev_thing01 0))) : FnOk P w K mg base CX0 2 f fd ["_law_deal_here", "_law_deep"] (LSp K TB0 (psp_thing01 0)) := by
  refine fn_ok (p := fun _ => p_thing01 (psp_prev_thing01 0)) F sc_thing01 rfl rfl (by decide) (fun as Qp Ep h => by obtain ⟨rfl, _⟩ := h; rfl) (fun cdv A outer s H E Bh Bt Ep hr hx => JSs.nox ?_) (hp_thing01 0)
  exact jss_cons (js_set (i := 2) sc_thing01.nd rfl (by first | exact Or.inl rfl | exact Or.inr rfl) (je_cal C_draw hr (by rfl) (ja_cons (jv 0) (ja_cons (je_fz (je_add (je_int) (je_ct call_int1 lc_int1 (by rfl) B.b_int (by decide +kernel) (ja_cons (je_gt (jv 1) (je_int)) (ja_nil))))) (ja_nil)))))
    (jss_cons (js_if (jb_lt (jv 2) (je_int)) (jss_cons (js_set (i := 3) sc_thing01.nd rfl (by first | exact Or.inl rfl | exact Or.inr rfl) (je_ix (je_lst (ja_cons (je_cal C_draw hr (by rfl) (ja_cons (jv 0) (ja_cons (je_fz (je_int)) (ja_nil)))) (ja_cons (je_cal C_draw hr (by rfl) (ja_cons (jv 0) (ja_cons (je_fz (je_pow (je_int) (je_int))) (ja_nil)))) (ja_cons (je_sub (je_int) (je_cal C_draw hr (by rfl) (ja_cons (jv 0) (ja_cons (je_fz (je_pow (je_int) (je_int))) (ja_nil))))) (ja_nil))))) (je_cal C_draw hr (by rfl) (ja_cons (jv 0) (ja_cons (je_fz (je_int)) (ja_nil)))) (fun _ _ => rfl)))
    (jss_one (js_ret (je_ix (je_lst (ja_cons (jv 3) (ja_cons (jv 3) (ja_cons (je_str) (ja_cons (je_str) (ja_cons (je_bl) (ja_cons (je_non) (ja_nil)))))))) (jv 2) (fun _ _ => rfl))))) (jss_nil))
    (jss_one (js_ret (je_ct call_tuple_of lc_tupleOf (by rfl) B.b_tuple (by decide +kernel) (ja_cons (je_lc (own := [("_law_k", 4)]) rfl sc_thing01.nd (ji_rng1 (by rfl) B.b_range (ja_cons (je_cal C_draw hr (by rfl) (ja_cons (jv 0) (ja_cons (je_fz (je_int)) (ja_nil)))) (ja_nil))) (blkOk_by (N := N_thing01) (sc := defScope s_thing01) (by decide +kernel)) (fun _ _ _ _ _ => jg_name (i := 4) sc_thing01.nd rfl (by first | exact Or.inl rfl | exact Or.inr rfl)) (fun _ _ _ _ _ => jts_nil) (fun _ _ _ _ _ => je_cal C_thing01 hr (by rfl) (ja_cons (jv 0) (ja_cons (je_fz (je_sub (jv 1) (je_int))) (ja_nil))))) (ja_nil))))))
theorem ok_thing01_1 (F : FnP K "_law_thing" s_thing01 f fd) (B : Bl mg) (C_draw : Cal P w K mg base CX0 1 "_law_draw" ["_law_deal_here", "_law_many"] (LSp K TB0 psp_draw)) (C_thing01 : Cal P w K mg base CX0 2 "_law_thing" ["_law_deal_here", "_law_deep"] (LSp K TB0 (psp_prev_thing01 1))) : FnOk P w K mg base CX0 3 f fd ["_law_deal_here", "_law_deep"] (LSp K TB0 (psp_thing01 1)) := by
  refine fn_ok (p := fun _ => p_thing01 (psp_prev_thing01 1)) F sc_thing01 rfl rfl (by decide) (fun as Qp Ep h => by obtain ⟨rfl, _⟩ := h; rfl) (fun cdv A outer s H E Bh Bt Ep hr hx => JSs.nox ?_) (hp_thing01 1)
  exact jss_cons (js_set (i := 2) sc_thing01.nd rfl (by first | exact Or.inl rfl | exact Or.inr rfl) (je_cal C_draw hr (by rfl) (ja_cons (jv 0) (ja_cons (je_fz (je_add (je_int) (je_ct call_int1 lc_int1 (by rfl) B.b_int (by decide +kernel) (ja_cons (je_gt (jv 1) (je_int)) (ja_nil))))) (ja_nil)))))
    (jss_cons (js_if (jb_lt (jv 2) (je_int)) (jss_cons (js_set (i := 3) sc_thing01.nd rfl (by first | exact Or.inl rfl | exact Or.inr rfl) (je_ix (je_lst (ja_cons (je_cal C_draw hr (by rfl) (ja_cons (jv 0) (ja_cons (je_fz (je_int)) (ja_nil)))) (ja_cons (je_cal C_draw hr (by rfl) (ja_cons (jv 0) (ja_cons (je_fz (je_pow (je_int) (je_int))) (ja_nil)))) (ja_cons (je_sub (je_int) (je_cal C_draw hr (by rfl) (ja_cons (jv 0) (ja_cons (je_fz (je_pow (je_int) (je_int))) (ja_nil))))) (ja_nil))))) (je_cal C_draw hr (by rfl) (ja_cons (jv 0) (ja_cons (je_fz (je_int)) (ja_nil)))) (fun _ _ => rfl)))
    (jss_one (js_ret (je_ix (je_lst (ja_cons (jv 3) (ja_cons (jv 3) (ja_cons (je_str) (ja_cons (je_str) (ja_cons (je_bl) (ja_cons (je_non) (ja_nil)))))))) (jv 2) (fun _ _ => rfl))))) (jss_nil))
    (jss_one (js_ret (je_ct call_tuple_of lc_tupleOf (by rfl) B.b_tuple (by decide +kernel) (ja_cons (je_lc (own := [("_law_k", 4)]) rfl sc_thing01.nd (ji_rng1 (by rfl) B.b_range (ja_cons (je_cal C_draw hr (by rfl) (ja_cons (jv 0) (ja_cons (je_fz (je_int)) (ja_nil)))) (ja_nil))) (blkOk_by (N := N_thing01) (sc := defScope s_thing01) (by decide +kernel)) (fun _ _ _ _ _ => jg_name (i := 4) sc_thing01.nd rfl (by first | exact Or.inl rfl | exact Or.inr rfl)) (fun _ _ _ _ _ => jts_nil) (fun _ _ _ _ _ => je_cal C_thing01 hr (by rfl) (ja_cons (jv 0) (ja_cons (je_fz (je_sub (jv 1) (je_int))) (ja_nil))))) (ja_nil))))))
theorem ok_thing01_2 (F : FnP K "_law_thing" s_thing01 f fd) (B : Bl mg) (C_draw : Cal P w K mg base CX0 1 "_law_draw" ["_law_deal_here", "_law_many"] (LSp K TB0 psp_draw)) (C_thing01 : Cal P w K mg base CX0 3 "_law_thing" ["_law_deal_here", "_law_deep"] (LSp K TB0 (psp_prev_thing01 2))) : FnOk P w K mg base CX0 4 f fd ["_law_deal_here", "_law_deep"] (LSp K TB0 (psp_thing01 2)) := by
  refine fn_ok (p := fun _ => p_thing01 (psp_prev_thing01 2)) F sc_thing01 rfl rfl (by decide) (fun as Qp Ep h => by obtain ⟨rfl, _⟩ := h; rfl) (fun cdv A outer s H E Bh Bt Ep hr hx => JSs.nox ?_) (hp_thing01 2)
  exact jss_cons (js_set (i := 2) sc_thing01.nd rfl (by first | exact Or.inl rfl | exact Or.inr rfl) (je_cal C_draw hr (by rfl) (ja_cons (jv 0) (ja_cons (je_fz (je_add (je_int) (je_ct call_int1 lc_int1 (by rfl) B.b_int (by decide +kernel) (ja_cons (je_gt (jv 1) (je_int)) (ja_nil))))) (ja_nil)))))
    (jss_cons (js_if (jb_lt (jv 2) (je_int)) (jss_cons (js_set (i := 3) sc_thing01.nd rfl (by first | exact Or.inl rfl | exact Or.inr rfl) (je_ix (je_lst (ja_cons (je_cal C_draw hr (by rfl) (ja_cons (jv 0) (ja_cons (je_fz (je_int)) (ja_nil)))) (ja_cons (je_cal C_draw hr (by rfl) (ja_cons (jv 0) (ja_cons (je_fz (je_pow (je_int) (je_int))) (ja_nil)))) (ja_cons (je_sub (je_int) (je_cal C_draw hr (by rfl) (ja_cons (jv 0) (ja_cons (je_fz (je_pow (je_int) (je_int))) (ja_nil))))) (ja_nil))))) (je_cal C_draw hr (by rfl) (ja_cons (jv 0) (ja_cons (je_fz (je_int)) (ja_nil)))) (fun _ _ => rfl)))
    (jss_one (js_ret (je_ix (je_lst (ja_cons (jv 3) (ja_cons (jv 3) (ja_cons (je_str) (ja_cons (je_str) (ja_cons (je_bl) (ja_cons (je_non) (ja_nil)))))))) (jv 2) (fun _ _ => rfl))))) (jss_nil))
    (jss_one (js_ret (je_ct call_tuple_of lc_tupleOf (by rfl) B.b_tuple (by decide +kernel) (ja_cons (je_lc (own := [("_law_k", 4)]) rfl sc_thing01.nd (ji_rng1 (by rfl) B.b_range (ja_cons (je_cal C_draw hr (by rfl) (ja_cons (jv 0) (ja_cons (je_fz (je_int)) (ja_nil)))) (ja_nil))) (blkOk_by (N := N_thing01) (sc := defScope s_thing01) (by decide +kernel)) (fun _ _ _ _ _ => jg_name (i := 4) sc_thing01.nd rfl (by first | exact Or.inl rfl | exact Or.inr rfl)) (fun _ _ _ _ _ => jts_nil) (fun _ _ _ _ _ => je_cal C_thing01 hr (by rfl) (ja_cons (jv 0) (ja_cons (je_fz (je_sub (jv 1) (je_int))) (ja_nil))))) (ja_nil))))))
abbrev s_made01 : Stmt := topS 17
abbrev N_made01 : List Str := ["_law_one", "_law_other", "_law_found"]
theorem sc_made01 : FnScope N_made01 ["_law_one", "_law_other"] (defScope s_made01) := ⟨rfl, rfl, rfl, by decide +kernel, rfl, by decide +kernel, by decide +kernel⟩
theorem ok_made01 (F : FnP K "_law_made" s_made01 f fd) (B : Bl mg) (T_NoMove : Err1 P w K mg base "NoMove" "at" cNoMove) (T_NoOrder : Err1 P w K mg base "NoOrder" "at" cNoOrder) (T_NoPassing : Err1 P w K mg base "NoPassing" "at" cNoPassing) (T_NoWay : Err2 P w K mg base "NoWay" "u" "v" cNoWay) (T_NoRow : Err2 P w K mg base "NoRow" "word" "at" cNoRow) (T_NoBook : Err2 P w K mg base "NoBook" "word" "at" cNoBook) (T_NoWalker : Err1I P w K mg base "NoWalker" "place" cNoWalker) (T_Full : Err1 P w K mg base "Full" "most" cFull) (T_NoText : Err1 P w K mg base "NoText" "at" cNoText) (T_NoSpot : Err1 P w K mg base "NoSpot" "spot" cNoSpot) (T_NoSpots : Err1 P w K mg base "NoSpots" "at" cNoSpots) : FnOk P w K mg base CX0 3 f fd ["_law_one", "_law_other"] (LSp K TB0 (psp_made01 cNoBook cNoRow cNoWay cNoPassing cNoOrder cNoMove cNoSpots cNoSpot cNoText cFull cNoWalker)) := by
  refine fn_ok (p := fun _ => p_made01 cNoBook cNoRow cNoWay cNoPassing cNoOrder cNoMove cNoSpots cNoSpot cNoText cFull cNoWalker) F sc_made01 rfl rfl (by decide) (fun as Qp Ep h => by obtain ⟨_, _, rfl, _⟩ := h; rfl) (fun cdv A outer s H E Bh Bt Ep hr hx => JSs.nox ?_) (hp_made01 cNoBook cNoRow cNoWay cNoPassing cNoOrder cNoMove cNoSpots cNoSpot cNoText cFull cNoWalker)
  exact jss_cons (js_set (i := 2) sc_made01.nd rfl (by first | exact Or.inl rfl | exact Or.inr rfl) (je_lstE (ja_cons (je_keep2 T_NoBook hr (by rfl) (ja_cons (jv 0) (ja_cons (jv 1) (ja_nil)))) (ja_cons (je_keep2 T_NoRow hr (by rfl) (ja_cons (jv 0) (ja_cons (jv 1) (ja_nil)))) (ja_cons (je_keep2 T_NoWay hr (by rfl) (ja_cons (jv 0) (ja_cons (jv 1) (ja_nil)))) (ja_cons (je_keep1 T_NoPassing hr (by rfl) (ja_cons (jv 0) (ja_nil))) (ja_cons (je_keep1 T_NoOrder hr (by rfl) (ja_cons (jv 0) (ja_nil))) (ja_cons (je_keep1 T_NoMove hr (by rfl) (ja_cons (jv 0) (ja_nil))) (ja_nil)))))))))
    (jss_one (js_ret (je_addE (jv 2) (je_lstE (ja_cons (je_keep1 T_NoSpots hr (by rfl) (ja_cons (jv 0) (ja_nil))) (ja_cons (je_keep1 T_NoSpot hr (by rfl) (ja_cons (jv 0) (ja_nil))) (ja_cons (je_keep1 T_NoText hr (by rfl) (ja_cons (jv 0) (ja_nil))) (ja_cons (je_keep1 T_Full hr (by rfl) (ja_cons (jv 0) (ja_nil))) (ja_cons (je_keep1I T_NoWalker hr (by rfl) (ja_cons (jv 0) (ja_nil))) (ja_nil))))))))))
abbrev s_named01 : Stmt := topS 18
abbrev N_named01 : List Str := ["_law_one", "_law_other", "_law_found"]
theorem sc_named01 : FnScope N_named01 ["_law_one", "_law_other"] (defScope s_named01) := ⟨rfl, rfl, rfl, by decide +kernel, rfl, by decide +kernel, by decide +kernel⟩
theorem ok_named01 (F : FnP K "_law_named" s_named01 f fd) (B : Bl mg) (KT_NoPassing : Err1K P w K mg base "NoPassing" "at" cNoPassing) (KT_NoWay : Err2K P w K mg base "NoWay" "u" "v" cNoWay) (KT_NoRow : Err2K P w K mg base "NoRow" "word" "at" cNoRow) (KT_NoBook : Err2K P w K mg base "NoBook" "word" "at" cNoBook) (KT_NoText : Err1K P w K mg base "NoText" "at" cNoText) (KT_NoSpot : Err1K P w K mg base "NoSpot" "spot" cNoSpot) (KT_NoSpots : Err1K P w K mg base "NoSpots" "at" cNoSpots) (KT_NoMove : Err1K P w K mg base "NoMove" "at" cNoMove) (KT_NoOrder : Err1K P w K mg base "NoOrder" "at" cNoOrder) (KT_NoWalker : Err1KI P w K mg base "NoWalker" "place" cNoWalker) (KT_Full : Err1K P w K mg base "Full" "most" cFull) : FnOk P w K mg base CX0 3 f fd ["_law_one", "_law_other"] (LSp K TB0 (psp_named01 cNoBook cNoRow cNoWay cNoPassing cNoOrder cNoMove cNoSpots cNoSpot cNoText cFull cNoWalker)) := by
  refine fn_ok (p := fun _ => p_named01 cNoBook cNoRow cNoWay cNoPassing cNoOrder cNoMove cNoSpots cNoSpot cNoText cFull cNoWalker) F sc_named01 rfl rfl (by decide) (fun as Qp Ep h => by obtain ⟨_, _, rfl, _⟩ := h; rfl) (fun cdv A outer s H E Bh Bt Ep hr hx => JSs.nox ?_) (hp_named01 cNoBook cNoRow cNoWay cNoPassing cNoOrder cNoMove cNoSpots cNoSpot cNoText cFull cNoWalker)
  exact jss_cons (js_set (i := 2) sc_named01.nd rfl (by first | exact Or.inl rfl | exact Or.inr rfl) (je_lstE (ja_cons (je_k2KT KT_NoBook hr (by rfl) (jk_cons (jv 1) (jk_cons (jv 0) (jk_nil)))) (ja_cons (je_k2KT KT_NoRow hr (by rfl) (jk_cons (jv 1) (jk_cons (jv 0) (jk_nil)))) (ja_cons (je_k2KT KT_NoWay hr (by rfl) (jk_cons (jv 1) (jk_cons (jv 0) (jk_nil)))) (ja_cons (je_k1KT KT_NoPassing hr (by rfl) (jk_cons (jv 0) (jk_nil))) (ja_nil)))))))
    (jss_cons (js_set (i := 2) sc_named01.nd rfl (by first | exact Or.inl rfl | exact Or.inr rfl) (je_addE (jv 2) (je_lstE (ja_cons (je_k1KT KT_NoOrder hr (by rfl) (jk_cons (jv 0) (jk_nil))) (ja_cons (je_k1KT KT_NoMove hr (by rfl) (jk_cons (jv 0) (jk_nil))) (ja_cons (je_k1KT KT_NoSpots hr (by rfl) (jk_cons (jv 0) (jk_nil))) (ja_cons (je_k1KT KT_NoSpot hr (by rfl) (jk_cons (jv 0) (jk_nil))) (ja_cons (je_k1KT KT_NoText hr (by rfl) (jk_cons (jv 0) (jk_nil))) (ja_nil)))))))))
    (jss_one (js_ret (je_addE (jv 2) (je_lstE (ja_cons (je_k1KT KT_Full hr (by rfl) (jk_cons (jv 0) (jk_nil))) (ja_cons (je_k1KTI KT_NoWalker hr (by rfl) (jk_cons (jv 0) (jk_nil))) (ja_nil))))))))
abbrev s_kept01 : Stmt := topS 19
abbrev N_kept01 : List Str := ["_law_made_here", "_law_found", "_law_some", "_law_row", "_law_way", "_law_e"]
theorem sc_kept01 : FnScope N_kept01 ["_law_made_here"] (defScope s_kept01) := ⟨rfl, rfl, rfl, by decide +kernel, rfl, by decide +kernel, by decide +kernel⟩
theorem ok_kept01 (F : FnP K "_law_kept" s_kept01 f fd) (B : Bl mg) (XG_v : ∀ C, C ∈ [cNoWay] → XfC K C ∧ PySem.W.findIn K (.ref C) "v" = some none) (XG_u : ∀ C, C ∈ [cNoWay] → XfC K C ∧ PySem.W.findIn K (.ref C) "u" = some none) (XG_at : ∀ C, C ∈ [cNoBook, cNoRow, cNoPassing, cNoOrder, cNoMove, cNoSpots, cNoText] → XfC K C ∧ PySem.W.findIn K (.ref C) "at" = some none) (XG_word : ∀ C, C ∈ [cNoBook, cNoRow] → XfC K C ∧ PySem.W.findIn K (.ref C) "word" = some none) (XG_place : ∀ C, C ∈ [cNoWalker] → XfC K C ∧ PySem.W.findIn K (.ref C) "place" = some none) (XG_most : ∀ C, C ∈ [cFull] → XfC K C ∧ PySem.W.findIn K (.ref C) "most" = some none) (XG_spot : ∀ C, C ∈ [cNoSpot] → XfC K C ∧ PySem.W.findIn K (.ref C) "spot" = some none) : FnOk P w K mg base CX0 1 f fd ["_law_made_here"] (LSp K TB0 (psp_kept01 cNoBook cNoRow cNoWay cNoPassing cNoOrder cNoMove cNoSpots cNoSpot cNoText cFull cNoWalker)) := by
  refine fn_ok (p := fun _ => p_kept01 cNoBook cNoRow cNoPassing cNoOrder cNoMove cNoSpots cNoText cNoWay cNoSpot cFull cNoWalker) F sc_kept01 rfl rfl (by decide) (fun as Qp Ep h => by obtain ⟨_, _, rfl, _⟩ := h; rfl) (fun cdv A outer s H E Bh Bt Ep hr hx => JSs.nox ?_) (hp_kept01 cNoBook cNoRow cNoWay cNoPassing cNoOrder cNoMove cNoSpots cNoSpot cNoText cFull cNoWalker)
  exact jss_cons (js_unE rfl (je_sliceE (jv 0) (jo_none) (jo_some (je_int))) (jges_cons (jge_name (i := 2) sc_kept01.nd rfl (by first | exact Or.inl rfl | exact Or.inr rfl)) (jges_cons (jge_name (i := 3) sc_kept01.nd rfl (by first | exact Or.inl rfl | exact Or.inr rfl)) (jges_cons (jge_name (i := 4) sc_kept01.nd rfl (by first | exact Or.inl rfl | exact Or.inr rfl)) (jges_nil)))))
    (jss_cons (js_set (i := 1) sc_kept01.nd rfl (by first | exact Or.inl rfl | exact Or.inr rfl) (je_add (je_lst (ja_cons (je_xg XG_word (jv 2)) (ja_cons (je_xg XG_at (jv 2)) (ja_cons (je_xg XG_word (jv 3)) (ja_cons (je_xg XG_at (jv 3)) (ja_cons (je_xg XG_u (jv 4)) (ja_cons (je_xg XG_v (jv 4)) (ja_nil)))))))) (je_lcE (own := [("_law_e", 5)]) rfl sc_kept01.nd (je_sliceE (jv 0) (jo_some (je_int)) (jo_some (je_int))) (blkOk_by (N := N_kept01) (sc := defScope s_kept01) (by decide +kernel)) (fun _ _ _ _ _ => jge_name (i := 5) sc_kept01.nd rfl (by first | exact Or.inl rfl | exact Or.inr rfl)) (fun _ _ _ _ _ => jts_nil) (fun _ _ _ _ _ => je_xg XG_at (jv 5)))))
    (jss_one (js_ret (je_add (jv 1) (je_lst (ja_cons (je_xg XG_spot (je_ixE (jv 0) (je_int) (fun _ _ => rfl))) (ja_cons (je_xg XG_at (je_ixE (jv 0) (je_int) (fun _ _ => rfl))) (ja_cons (je_xg XG_most (je_ixE (jv 0) (je_int) (fun _ _ => rfl))) (ja_cons (je_xg XG_place (je_ixE (jv 0) (je_int) (fun _ _ => rfl))) (ja_nil))))))))))
abbrev s_sorts01 : Stmt := topS 20
abbrev N_sorts01 : List Str := ["_law_e", "_law_found"]
theorem sc_sorts01 : FnScope N_sorts01 ["_law_e"] (defScope s_sorts01) := ⟨rfl, rfl, rfl, by decide +kernel, rfl, by decide +kernel, by decide +kernel⟩
theorem ok_sorts01 (F : FnP K "_law_sorts" s_sorts01 f fd) (B : Bl mg) (KI_NoPassing : ∀ (k : Nat) C, [cNoBook, cNoRow, cNoWay, cNoPassing, cNoOrder, cNoMove, cNoSpots, cNoSpot, cNoText, cFull, cNoWalker][k]? = some C → IsC K C ∧ PySem.W.kitOne K (.ref C) (.ref cNoPassing) = some (fK 3 k)) (K_NoPassing : mg "NoPassing" = some (.ref cNoPassing)) (KI_NoWay : ∀ (k : Nat) C, [cNoBook, cNoRow, cNoWay, cNoPassing, cNoOrder, cNoMove, cNoSpots, cNoSpot, cNoText, cFull, cNoWalker][k]? = some C → IsC K C ∧ PySem.W.kitOne K (.ref C) (.ref cNoWay) = some (fK 2 k)) (K_NoWay : mg "NoWay" = some (.ref cNoWay)) (KI_NoRow : ∀ (k : Nat) C, [cNoBook, cNoRow, cNoWay, cNoPassing, cNoOrder, cNoMove, cNoSpots, cNoSpot, cNoText, cFull, cNoWalker][k]? = some C → IsC K C ∧ PySem.W.kitOne K (.ref C) (.ref cNoRow) = some (fK 1 k)) (K_NoRow : mg "NoRow" = some (.ref cNoRow)) (KI_NoBook : ∀ (k : Nat) C, [cNoBook, cNoRow, cNoWay, cNoPassing, cNoOrder, cNoMove, cNoSpots, cNoSpot, cNoText, cFull, cNoWalker][k]? = some C → IsC K C ∧ PySem.W.kitOne K (.ref C) (.ref cNoBook) = some (fK 0 k)) (K_NoBook : mg "NoBook" = some (.ref cNoBook)) (KI_NoSpot : ∀ (k : Nat) C, [cNoBook, cNoRow, cNoWay, cNoPassing, cNoOrder, cNoMove, cNoSpots, cNoSpot, cNoText, cFull, cNoWalker][k]? = some C → IsC K C ∧ PySem.W.kitOne K (.ref C) (.ref cNoSpot) = some (fK 7 k)) (K_NoSpot : mg "NoSpot" = some (.ref cNoSpot)) (KI_NoSpots : ∀ (k : Nat) C, [cNoBook, cNoRow, cNoWay, cNoPassing, cNoOrder, cNoMove, cNoSpots, cNoSpot, cNoText, cFull, cNoWalker][k]? = some C → IsC K C ∧ PySem.W.kitOne K (.ref C) (.ref cNoSpots) = some (fK 6 k)) (K_NoSpots : mg "NoSpots" = some (.ref cNoSpots)) (KI_NoMove : ∀ (k : Nat) C, [cNoBook, cNoRow, cNoWay, cNoPassing, cNoOrder, cNoMove, cNoSpots, cNoSpot, cNoText, cFull, cNoWalker][k]? = some C → IsC K C ∧ PySem.W.kitOne K (.ref C) (.ref cNoMove) = some (fK 5 k)) (K_NoMove : mg "NoMove" = some (.ref cNoMove)) (KI_NoOrder : ∀ (k : Nat) C, [cNoBook, cNoRow, cNoWay, cNoPassing, cNoOrder, cNoMove, cNoSpots, cNoSpot, cNoText, cFull, cNoWalker][k]? = some C → IsC K C ∧ PySem.W.kitOne K (.ref C) (.ref cNoOrder) = some (fK 4 k)) (K_NoOrder : mg "NoOrder" = some (.ref cNoOrder)) (KI_NoWalker : ∀ (k : Nat) C, [cNoBook, cNoRow, cNoWay, cNoPassing, cNoOrder, cNoMove, cNoSpots, cNoSpot, cNoText, cFull, cNoWalker][k]? = some C → IsC K C ∧ PySem.W.kitOne K (.ref C) (.ref cNoWalker) = some (fK 10 k)) (K_NoWalker : mg "NoWalker" = some (.ref cNoWalker)) (KI_Full : ∀ (k : Nat) C, [cNoBook, cNoRow, cNoWay, cNoPassing, cNoOrder, cNoMove, cNoSpots, cNoSpot, cNoText, cFull, cNoWalker][k]? = some C → IsC K C ∧ PySem.W.kitOne K (.ref C) (.ref cFull) = some (fK 9 k)) (K_Full : mg "Full" = some (.ref cFull)) (KI_NoText : ∀ (k : Nat) C, [cNoBook, cNoRow, cNoWay, cNoPassing, cNoOrder, cNoMove, cNoSpots, cNoSpot, cNoText, cFull, cNoWalker][k]? = some C → IsC K C ∧ PySem.W.kitOne K (.ref C) (.ref cNoText) = some (fK 8 k)) (K_NoText : mg "NoText" = some (.ref cNoText)) (KI_IndexError : ∀ (k : Nat) C, [cNoBook, cNoRow, cNoWay, cNoPassing, cNoOrder, cNoMove, cNoSpots, cNoSpot, cNoText, cFull, cNoWalker][k]? = some C → IsC K C ∧ PySem.W.kitOne K (.ref C) (.type "IndexError") = some (fU false k)) (KI_ValueError : ∀ (k : Nat) C, [cNoBook, cNoRow, cNoWay, cNoPassing, cNoOrder, cNoMove, cNoSpots, cNoSpot, cNoText, cFull, cNoWalker][k]? = some C → IsC K C ∧ PySem.W.kitOne K (.ref C) (.type "ValueError") = some (fU true k)) (KI_RoadError : ∀ (k : Nat) C, [cNoBook, cNoRow, cNoWay, cNoPassing, cNoOrder, cNoMove, cNoSpots, cNoSpot, cNoText, cFull, cNoWalker][k]? = some C → IsC K C ∧ PySem.W.kitOne K (.ref C) (.ref cRoadError) = some (fU true k)) (K_RoadError : mg "RoadError" = some (.ref cRoadError)) (ND : [cNoBook, cNoRow, cNoWay, cNoPassing, cNoOrder, cNoMove, cNoSpots, cNoSpot, cNoText, cFull, cNoWalker].Nodup) : FnOk P w K mg base CX0 1 f fd ["_law_e"] (LSp K TB0 (psp_sorts01 cNoBook cNoRow cNoWay cNoPassing cNoOrder cNoMove cNoSpots cNoSpot cNoText cFull cNoWalker)) := by
  refine fn_ok (p := fun _ => p_sorts01 cNoBook cNoRow cNoWay cNoPassing cNoOrder cNoMove cNoSpots cNoSpot cNoText cFull cNoWalker) F sc_sorts01 rfl rfl (by decide) (fun as Qp Ep h => by obtain ⟨_, _, _, rfl, _⟩ := h; rfl) (fun cdv A outer s H E Bh Bt Ep hr hx => JSs.nox ?_) (hp_sorts01 cNoBook cNoRow cNoWay cNoPassing cNoOrder cNoMove cNoSpots cNoSpot cNoText cFull cNoWalker cRoadError ND)
  exact jss_cons (js_set (i := 1) sc_sorts01.nd rfl (by first | exact Or.inl rfl | exact Or.inr rfl) (je_lst (ja_cons (je_isV (sbF_ok KI_NoBook) (.own _) (by rfl) B.b_isinstance (pv 0) (pe_glob (v := .ref cNoBook) (by rfl) K_NoBook rfl)) (ja_cons (je_isV (sbF_ok KI_NoRow) (.own _) (by rfl) B.b_isinstance (pv 0) (pe_glob (v := .ref cNoRow) (by rfl) K_NoRow rfl)) (ja_cons (je_isV (sbF_ok KI_NoWay) (.own _) (by rfl) B.b_isinstance (pv 0) (pe_glob (v := .ref cNoWay) (by rfl) K_NoWay rfl)) (ja_cons (je_isV (sbF_ok KI_NoPassing) (.own _) (by rfl) B.b_isinstance (pv 0) (pe_glob (v := .ref cNoPassing) (by rfl) K_NoPassing rfl)) (ja_nil)))))))
    (jss_cons (js_set (i := 1) sc_sorts01.nd rfl (by first | exact Or.inl rfl | exact Or.inr rfl) (je_add (jv 1) (je_lst (ja_cons (je_isV (sbF_ok KI_NoOrder) (.own _) (by rfl) B.b_isinstance (pv 0) (pe_glob (v := .ref cNoOrder) (by rfl) K_NoOrder rfl)) (ja_cons (je_isV (sbF_ok KI_NoMove) (.own _) (by rfl) B.b_isinstance (pv 0) (pe_glob (v := .ref cNoMove) (by rfl) K_NoMove rfl)) (ja_cons (je_isV (sbF_ok KI_NoSpots) (.own _) (by rfl) B.b_isinstance (pv 0) (pe_glob (v := .ref cNoSpots) (by rfl) K_NoSpots rfl)) (ja_cons (je_isV (sbF_ok KI_NoSpot) (.own _) (by rfl) B.b_isinstance (pv 0) (pe_glob (v := .ref cNoSpot) (by rfl) K_NoSpot rfl)) (ja_nil))))))))
    (jss_cons (js_set (i := 1) sc_sorts01.nd rfl (by first | exact Or.inl rfl | exact Or.inr rfl) (je_add (jv 1) (je_lst (ja_cons (je_isV (sbF_ok KI_NoText) (.own _) (by rfl) B.b_isinstance (pv 0) (pe_glob (v := .ref cNoText) (by rfl) K_NoText rfl)) (ja_cons (je_isV (sbF_ok KI_Full) (.own _) (by rfl) B.b_isinstance (pv 0) (pe_glob (v := .ref cFull) (by rfl) K_Full rfl)) (ja_cons (je_isV (sbF_ok KI_NoWalker) (.own _) (by rfl) B.b_isinstance (pv 0) (pe_glob (v := .ref cNoWalker) (by rfl) K_NoWalker rfl)) (ja_nil)))))))
    (jss_one (js_ret (je_tup (ja_cons (jv 1) (ja_cons (je_lst (ja_cons (je_isV (sbF_ok KI_RoadError) (.own _) (by rfl) B.b_isinstance (pv 0) (pe_glob (v := .ref cRoadError) (by rfl) K_RoadError rfl)) (ja_cons (je_isV (sbF_ok KI_ValueError) (.ty _) (by rfl) B.b_isinstance (pv 0) (pe_bltn (v := .ty "ValueError") (by rfl) B.b_ValueError (by decide +kernel) rfl)) (ja_cons (je_isV (sbF_ok KI_IndexError) (.ty _) (by rfl) B.b_isinstance (pv 0) (pe_bltn (v := .ty "IndexError") (by rfl) B.b_IndexError (by decide +kernel) rfl)) (ja_nil))))) (ja_nil))))))))
abbrev s_taken01 : Stmt := topS 21
abbrev N_taken01 : List Str := ["_law_one", "_law_found", "_law_e"]
theorem sc_taken01 : FnScope N_taken01 ["_law_one"] (defScope s_taken01) := ⟨rfl, rfl, rfl, by decide +kernel, rfl, by decide +kernel, by decide +kernel⟩
theorem ok_taken01 (F : FnP K "_law_taken" s_taken01 f fd) (B : Bl mg) (T_NoText : Err1 P w K mg base "NoText" "at" cNoText) (T_NoWalker : Err1I P w K mg base "NoWalker" "place" cNoWalker) (K_NoText : mg "NoText" = some (.ref cNoText)) (XS_NoText : PySem.W.exmOne K (.ref cNoText) (.ref cNoText) = some true) (XF_NoText : XfC K cNoText) (NO_NoText_at : PySem.W.findIn K (.ref cNoText) "at" = some none) (K_NoWalker : mg "NoWalker" = some (.ref cNoWalker)) (XS_NoWalker : PySem.W.exmOne K (.ref cNoWalker) (.ref cNoWalker) = some true) (XF_NoWalker : XfC K cNoWalker) (NO_NoWalker_place : PySem.W.findIn K (.ref cNoWalker) "place" = some none) : FnOk P w K mg base CX0 3 f fd ["_law_one"] (LSp K TB0 psp_taken01) := by
  refine fn_ok (p := fun _ => p_taken01 cNoText cNoWalker) F sc_taken01 rfl rfl (by decide) (fun as Qp Ep h => by obtain ⟨_, rfl, _⟩ := h; rfl) (fun cdv A outer s H E Bh Bt Ep hr hx => ?_) (hp_taken01 cNoText cNoWalker)
  exact jss_cons (js_set (i := 1) sc_taken01.nd rfl (by first | exact Or.inl rfl | exact Or.inr rfl) (je_lst (ja_nil)))
    (jss_cons (js_tryR (i := 2) rfl rfl sc_taken01.nd rfl rfl ⟨rfl, by decide, Or.inl K_NoText⟩ XS_NoText (fun W pn xe tk => ps_rz1 T_NoText hr rfl tk (by rfl) (ja_cons (je_fz (jv 0)) (ja_nil))) (fun a oe cls d pn hz hf => jss_one (js_expr (je_mt PySem.F.plainAttrs_list PySem.F.slot_list_append PySem.F.type_list_append mt_append mv_append (jv 1) (ja_cons (je_xf XF_NoText NO_NoText_at hz hf (pv 2)) (ja_nil))))))
    (jss_cons (js_tryR (i := 2) rfl rfl sc_taken01.nd rfl rfl ⟨rfl, by decide, Or.inl K_NoWalker⟩ XS_NoWalker (fun W pn xe tk => ps_rzI T_NoWalker hr rfl tk (by rfl) (ja_cons (je_fz (jv 0)) (ja_nil))) (fun a oe cls d pn hz hf => jss_one (js_expr (je_mt PySem.F.plainAttrs_list PySem.F.slot_list_append PySem.F.type_list_append mt_append mv_append (jv 1) (ja_cons (je_xf XF_NoWalker NO_NoWalker_place hz hf (pv 2)) (ja_nil))))))
    (jss_one (js_ret (jv 1)))))
abbrev s_law01 : Stmt := topS 22
abbrev N_law01 : List Str := ["_law_script", "_law_deal_here", "_law_turn", "_law_plain", "_law_due", "_law_made_here", "_law_one", "_law_other", "_law_k", "_law_e", "_law_under", "_law_j"]
theorem sc_law01 : FnScope N_law01 ["_law_script"] (defScope s_law01) := ⟨rfl, rfl, rfl, by decide +kernel, rfl, by decide +kernel, by decide +kernel⟩
theorem ok_law01 (F : FnP K "law" s_law01 f fd) (B : Bl mg) (C_deal : Cal P w K mg base CX0 1 "_law_deal" ["_law_script", "_law_base"] (LSp K TB0 psp_deal)) (C_thing01 : Cal P w K mg base CX0 4 "_law_thing" ["_law_deal_here", "_law_deep"] (LSp K TB0 (psp_thing01 2))) (C_made01 : Cal P w K mg base CX0 3 "_law_made" ["_law_one", "_law_other"] (LSp K TB0 (psp_made01 cNoBook cNoRow cNoWay cNoPassing cNoOrder cNoMove cNoSpots cNoSpot cNoText cFull cNoWalker))) (C_named01 : Cal P w K mg base CX0 3 "_law_named" ["_law_one", "_law_other"] (LSp K TB0 (psp_named01 cNoBook cNoRow cNoWay cNoPassing cNoOrder cNoMove cNoSpots cNoSpot cNoText cFull cNoWalker))) (C_kept01 : Cal P w K mg base CX0 1 "_law_kept" ["_law_made_here"] (LSp K TB0 (psp_kept01 cNoBook cNoRow cNoWay cNoPassing cNoOrder cNoMove cNoSpots cNoSpot cNoText cFull cNoWalker))) (C_sorts01 : Cal P w K mg base CX0 1 "_law_sorts" ["_law_e"] (LSp K TB0 (psp_sorts01 cNoBook cNoRow cNoWay cNoPassing cNoOrder cNoMove cNoSpots cNoSpot cNoText cFull cNoWalker))) (C_taken01 : Cal P w K mg base CX0 3 "_law_taken" ["_law_one"] (LSp K TB0 psp_taken01)) (K_NoBook : mg "NoBook" = some (.ref cNoBook)) (PC : PlainC K mg "RoadError" cRoadError) (PK0 : PySem.W.kitOne K (.ref cRoadError) (.type "ValueError") = some true) (PV0 : PySem.W.kitOne K (.ref cRoadError) (.ref cNoBook) = some false) (ND : [cNoBook, cNoRow, cNoWay, cNoPassing, cNoOrder, cNoMove, cNoSpots, cNoSpot, cNoText, cFull, cNoWalker].Nodup) : FnG P w K mg base CX0 5 f fd ["_law_script"] (LSp K TB0 psp_law) := by
  refine fn_okG (p := fun _ => p_law01 cNoBook cNoRow cNoWay cNoPassing cNoOrder cNoMove cNoSpots cNoSpot cNoText cFull cNoWalker) F sc_law01 rfl rfl (by decide) (fun as Qp Ep h => by obtain ⟨_, rfl, _⟩ := h; rfl) (fun cdv A hG outer s H E Bh Bt Ep hr hx => JSs.nox ?_) (hp_law01 cNoBook cNoRow cNoWay cNoPassing cNoOrder cNoMove cNoSpots cNoSpot cNoText cFull cNoWalker ND)
  exact jss_cons (js_set (i := 1) sc_law01.nd rfl (by first | exact Or.inl rfl | exact Or.inr rfl) (je_cal C_deal hr (by rfl) (ja_cons (jv 0) (ja_cons (je_fz (je_int)) (ja_nil)))))
    (jss_cons (js_for PassesOwn.never rfl (ji_rng1 (by rfl) B.b_range (ja_cons (je_int) (ja_nil))) (jg_name (i := 2) sc_law01.nd rfl (by first | exact Or.inl rfl | exact Or.inr rfl)) (jss_cons (js_par2 rfl sc_law01.nd rfl rfl (by decide) rfl rfl (ja_cons (je_cal C_thing01 hr (by rfl) (ja_cons (jv 1) (ja_cons (je_fz (je_int)) (ja_nil)))) (ja_cons (je_cal C_thing01 hr (by rfl) (ja_cons (jv 1) (ja_cons (je_fz (je_int)) (ja_nil)))) (ja_nil))) (by rfl))
    (jss_cons (js_set (i := 4) sc_law01.nd rfl (by first | exact Or.inl rfl | exact Or.inr rfl) (je_add (je_lst (ja_cons (jv 6) (ja_cons (jv 7) (ja_cons (jv 6) (ja_cons (jv 7) (ja_cons (jv 6) (ja_cons (jv 7) (ja_nil)))))))) (je_mul (je_lst (ja_cons (jv 6) (ja_nil))) (je_int))))
    (jss_cons (js_forE2 (k := 5) PassesOwn.never rfl (je_cal C_made01 hr (by rfl) (ja_cons (je_fz (jv 6)) (ja_cons (je_fz (jv 7)) (ja_nil)))) (je_cal C_named01 hr (by rfl) (ja_cons (je_fz (jv 6)) (ja_cons (je_fz (jv 7)) (ja_nil)))) sc_law01.nd rfl (by first | exact Or.inl rfl | exact Or.inr rfl) (jss_cons (js_if (jb_ne hr (je_cb (Wf.call_repr hr hG) lc_reprL (by rfl) B.b_repr (by decide +kernel) (ja_cons (je_cal C_kept01 hr (by rfl) (ja_cons (jv 5) (ja_nil))) (ja_nil))) (je_cb (Wf.call_repr hr hG) lc_reprL (by rfl) B.b_repr (by decide +kernel) (ja_cons (jv 4) (ja_nil)))) (jss_one (js_ret (je_bl))) (jss_nil))
    (jss_one (js_forEn (i := 8) (j := 9) PassesOwn.never rfl (by rfl) B.b_enumerate (ja_cons (jv 5) (ja_nil)) sc_law01.nd rfl rfl (by first | exact Or.inl rfl | exact Or.inr rfl) (by first | exact Or.inl rfl | exact Or.inr rfl) (jss_cons (js_set (i := 10) sc_law01.nd rfl (by first | exact Or.inl rfl | exact Or.inr rfl) (je_lst (ja_cons (je_lt (jv 8) (je_int)) (ja_cons (je_lt (jv 8) (je_int)) (ja_cons (je_eq hr (jv 8) (je_int)) (ja_nil))))))
    (jss_one (js_if (jb_ne hr (je_cal C_sorts01 hr (by rfl) (ja_cons (jv 9) (ja_nil))) (je_tup (ja_cons (je_lc (own := [("_law_j", 11)]) rfl sc_law01.nd (ji_rng1 (by rfl) B.b_range (ja_cons (je_int) (ja_nil))) (blkOk_by (N := N_law01) (sc := defScope s_law01) (by decide +kernel)) (fun _ _ _ _ _ => jg_name (i := 11) sc_law01.nd rfl (by first | exact Or.inl rfl | exact Or.inr rfl)) (fun _ _ _ _ _ => jts_nil) (fun _ _ _ _ _ => je_eq hr (jv 8) (jv 11))) (ja_cons (jv 10) (ja_nil))))) (jss_one (js_ret (je_bl))) (jss_nil))))))))
    (jss_one (js_if (jb_ne hr (je_cb (Wf.call_repr hr hG) lc_reprL (by rfl) B.b_repr (by decide +kernel) (ja_cons (je_cal C_taken01 hr (by rfl) (ja_cons (je_fz (jv 6)) (ja_nil))) (ja_nil))) (je_cb (Wf.call_repr hr hG) lc_reprL (by rfl) B.b_repr (by decide +kernel) (ja_cons (je_mul (je_lst (ja_cons (jv 6) (ja_nil))) (je_int)) (ja_nil)))) (jss_one (js_ret (je_bl))) (jss_nil)))))))
    (jss_plain (i := 3) PC PK0 PV0 sc_law01.nd rfl (by first | exact .inl rfl | exact .inr rfl) (pv 3) (pv 3) (by first | exact Or.inl rfl | exact Or.inr rfl) (by rfl) (pe_str) (by rfl) B.b_isinstance (pe_bltn (v := .ty "ValueError") (by rfl) B.b_ValueError (by decide +kernel) rfl) (pe_glob (v := .ref cNoBook) (by rfl) K_NoBook rfl)))
end
def dd_init_NoBook : He.DefD := ⟨("NoBook", some "__init__"), "__init__", "NoBook.__init__", defArgs s_init_NoBook, defBody s_init_NoBook, defScope s_init_NoBook, [], []⟩
def dd_init_NoRow : He.DefD := ⟨("NoRow", some "__init__"), "__init__", "NoRow.__init__", defArgs s_init_NoRow, defBody s_init_NoRow, defScope s_init_NoRow, [], []⟩
def dd_init_NoWay : He.DefD := ⟨("NoWay", some "__init__"), "__init__", "NoWay.__init__", defArgs s_init_NoWay, defBody s_init_NoWay, defScope s_init_NoWay, [], []⟩
def dd_init_NoPassing : He.DefD := ⟨("NoPassing", some "__init__"), "__init__", "NoPassing.__init__", defArgs s_init_NoPassing, defBody s_init_NoPassing, defScope s_init_NoPassing, [], []⟩
def dd_init_NoOrder : He.DefD := ⟨("NoOrder", some "__init__"), "__init__", "NoOrder.__init__", defArgs s_init_NoOrder, defBody s_init_NoOrder, defScope s_init_NoOrder, [], []⟩
def dd_init_NoMove : He.DefD := ⟨("NoMove", some "__init__"), "__init__", "NoMove.__init__", defArgs s_init_NoMove, defBody s_init_NoMove, defScope s_init_NoMove, [], []⟩
def dd_init_NoSpots : He.DefD := ⟨("NoSpots", some "__init__"), "__init__", "NoSpots.__init__", defArgs s_init_NoSpots, defBody s_init_NoSpots, defScope s_init_NoSpots, [], []⟩
def dd_init_NoSpot : He.DefD := ⟨("NoSpot", some "__init__"), "__init__", "NoSpot.__init__", defArgs s_init_NoSpot, defBody s_init_NoSpot, defScope s_init_NoSpot, [], []⟩
def dd_init_NoText : He.DefD := ⟨("NoText", some "__init__"), "__init__", "NoText.__init__", defArgs s_init_NoText, defBody s_init_NoText, defScope s_init_NoText, [], []⟩
def dd_init_Full : He.DefD := ⟨("Full", some "__init__"), "__init__", "Full.__init__", defArgs s_init_Full, defBody s_init_Full, defScope s_init_Full, [], []⟩
def dd_init_NoWalker : He.DefD := ⟨("NoWalker", some "__init__"), "__init__", "NoWalker.__init__", defArgs s_init_NoWalker, defBody s_init_NoWalker, defScope s_init_NoWalker, [], []⟩
def dd_draw : He.DefD := ⟨("_law_draw", none), "_law_draw", "_law_draw", defArgs s_draw, defBody s_draw, defScope s_draw, [], []⟩
def dd_deal : He.DefD := ⟨("_law_deal", none), "_law_deal", "_law_deal", defArgs s_deal, defBody s_deal, defScope s_deal, [], []⟩
def dd_thing01 : He.DefD := ⟨("_law_thing", none), "_law_thing", "_law_thing", defArgs s_thing01, defBody s_thing01, defScope s_thing01, [], []⟩
def dd_made01 : He.DefD := ⟨("_law_made", none), "_law_made", "_law_made", defArgs s_made01, defBody s_made01, defScope s_made01, [], []⟩
def dd_named01 : He.DefD := ⟨("_law_named", none), "_law_named", "_law_named", defArgs s_named01, defBody s_named01, defScope s_named01, [], []⟩
def dd_kept01 : He.DefD := ⟨("_law_kept", none), "_law_kept", "_law_kept", defArgs s_kept01, defBody s_kept01, defScope s_kept01, [], []⟩
def dd_sorts01 : He.DefD := ⟨("_law_sorts", none), "_law_sorts", "_law_sorts", defArgs s_sorts01, defBody s_sorts01, defScope s_sorts01, [], []⟩
def dd_taken01 : He.DefD := ⟨("_law_taken", none), "_law_taken", "_law_taken", defArgs s_taken01, defBody s_taken01, defScope s_taken01, [], []⟩
def dd_law01 : He.DefD := ⟨("law", none), "law", "law", defArgs s_law01, defBody s_law01, defScope s_law01, [], []⟩
def fns : List He.DefD := [dd_init_NoBook, dd_init_NoRow, dd_init_NoWay, dd_init_NoPassing, dd_init_NoOrder, dd_init_NoMove, dd_init_NoSpots, dd_init_NoSpot, dd_init_NoText, dd_init_Full, dd_init_NoWalker, dd_draw, dd_deal, dd_thing01, dd_made01, dd_named01, dd_kept01, dd_sorts01, dd_taken01, dd_law01]
def facs : List He.Fa := [.glo "_law_draw", .glo "_law_deal", .glo "_law_thing", .glo "_law_made", .glo "_law_named", .glo "_law_kept", .glo "_law_sorts", .glo "_law_taken", .glo "law", .free "len", .free "list", .free "tuple", .free "reversed", .free "range", .free "max", .free "min", .free "sum", .free "all", .free "any", .free "zip", .free "enumerate", .free "isinstance", .free "int", .free "bool", .free "str", .free "repr", .free "divmod", .free "abs", .free "sorted", .free "set", .free "dict", .free "pow", .free "ValueError", .free "IndexError", .glo "RoadError", .glo "NoBook", .glo "NoRow", .glo "NoPassing", .glo "NoOrder", .glo "NoMove", .glo "NoSpots", .glo "NoSpot", .glo "NoWay", .glo "NoText", .glo "Full", .glo "NoWalker"]
def exB (K : PySem.W.Frag) : Bool := plainB K "RoadError" && (decide ((["NoBook", "NoRow", "NoWay", "NoPassing", "NoOrder", "NoMove", "NoSpots", "NoSpot", "NoText", "Full", "NoWalker"] : List Str).map (He.ga K)).Nodup && (kitsB K ["NoBook", "NoRow", "NoWay", "NoPassing", "NoOrder", "NoMove", "NoSpots", "NoSpot", "NoText", "Full", "NoWalker"] (.ref (He.ga K "NoBook")) (fK 0) && (kitsB K ["NoBook", "NoRow", "NoWay", "NoPassing", "NoOrder", "NoMove", "NoSpots", "NoSpot", "NoText", "Full", "NoWalker"] (.ref (He.ga K "NoRow")) (fK 1) && (kitsB K ["NoBook", "NoRow", "NoWay", "NoPassing", "NoOrder", "NoMove", "NoSpots", "NoSpot", "NoText", "Full", "NoWalker"] (.ref (He.ga K "NoWay")) (fK 2) && (kitsB K ["NoBook", "NoRow", "NoWay", "NoPassing", "NoOrder", "NoMove", "NoSpots", "NoSpot", "NoText", "Full", "NoWalker"] (.ref (He.ga K "NoPassing")) (fK 3) && (kitsB K ["NoBook", "NoRow", "NoWay", "NoPassing", "NoOrder", "NoMove", "NoSpots", "NoSpot", "NoText", "Full", "NoWalker"] (.ref (He.ga K "NoOrder")) (fK 4) && (kitsB K ["NoBook", "NoRow", "NoWay", "NoPassing", "NoOrder", "NoMove", "NoSpots", "NoSpot", "NoText", "Full", "NoWalker"] (.ref (He.ga K "NoMove")) (fK 5) && (kitsB K ["NoBook", "NoRow", "NoWay", "NoPassing", "NoOrder", "NoMove", "NoSpots", "NoSpot", "NoText", "Full", "NoWalker"] (.ref (He.ga K "NoSpots")) (fK 6) && (kitsB K ["NoBook", "NoRow", "NoWay", "NoPassing", "NoOrder", "NoMove", "NoSpots", "NoSpot", "NoText", "Full", "NoWalker"] (.ref (He.ga K "NoSpot")) (fK 7) && (kitsB K ["NoBook", "NoRow", "NoWay", "NoPassing", "NoOrder", "NoMove", "NoSpots", "NoSpot", "NoText", "Full", "NoWalker"] (.ref (He.ga K "NoText")) (fK 8) && (kitsB K ["NoBook", "NoRow", "NoWay", "NoPassing", "NoOrder", "NoMove", "NoSpots", "NoSpot", "NoText", "Full", "NoWalker"] (.ref (He.ga K "Full")) (fK 9) && (kitsB K ["NoBook", "NoRow", "NoWay", "NoPassing", "NoOrder", "NoMove", "NoSpots", "NoSpot", "NoText", "Full", "NoWalker"] (.ref (He.ga K "NoWalker")) (fK 10) && (kitsB K ["NoBook", "NoRow", "NoWay", "NoPassing", "NoOrder", "NoMove", "NoSpots", "NoSpot", "NoText", "Full", "NoWalker"] (.ref (He.ga K "RoadError")) (fU true) && (kitsB K ["NoBook", "NoRow", "NoWay", "NoPassing", "NoOrder", "NoMove", "NoSpots", "NoSpot", "NoText", "Full", "NoWalker"] (.type "ValueError") (fU true) && (kitsB K ["NoBook", "NoRow", "NoWay", "NoPassing", "NoOrder", "NoMove", "NoSpots", "NoSpot", "NoText", "Full", "NoWalker"] (.type "IndexError") (fU false) && (decide (PySem.W.kitOne K (.ref (He.ga K "RoadError")) (.type "ValueError") = some true) && (decide (PySem.W.kitOne K (.ref (He.ga K "RoadError")) (.ref (He.ga K "NoBook")) = some false) && (decide (PySem.W.exmOne K (.ref (He.ga K "NoText")) (.ref (He.ga K "NoText")) = some true) && (decide (PySem.W.exmOne K (.ref (He.ga K "NoWalker")) (.ref (He.ga K "NoWalker")) = some true) && (errB K "NoBook" ["word", "at"] && errB K "NoRow" ["word", "at"] && errB K "NoWay" ["u", "v"] && errB K "NoPassing" ["at"] && errB K "NoOrder" ["at"] && errB K "NoMove" ["at"] && errB K "NoSpots" ["at"] && errB K "NoSpot" ["spot"] && errB K "NoText" ["at"] && errB K "Full" ["most"] && errIB K "NoWalker" "place" && baseB K "RoadError"))))))))))))))))))))
abbrev rowR : PySem.W.OpenRow := PySem.W.OpenLaw.row PySem.Challenge.rw_wherefrom_k01_refusals
abbrev hk : PySem.W.Hook := Wf.hookW 6 facs fns exB
def obA (s : PySem.W.SharedT) : He.AlD × Bool := Wf.obsW 6 facs fns exB (HandSHeadRun.getT s)
theorem ob_eq (s : PySem.W.SharedT) : obA s = hk.obs s.abs := Wf.obsW_eq (HandSHeadRun.getT_eq s)
abbrev loose0 : List Str := ["RoadError", "NoBook", "NoRow", "NoPassing", "NoOrder", "NoMove", "NoSpots", "NoSpot", "NoWay", "NoText", "Full", "NoWalker", "_law_deal", "_law_draw", "_law_thing", "_law_made", "_law_named", "_law_kept", "_law_sorts", "_law_taken"]
abbrev looseL : List Str := loose0
theorem run_eq (w : World) : HandSHeadRun.RunEq rowR (PySem.W.view rowR.prog [22]) hk obA 4800 looseL w := by
  intro os
  kernel_rfl
theorem facts {P : Program} {w : World} {K : PySem.W.Frag} {h : Heap} {mg : Str → Option Value} {f : Addr} (X : K.In h) (G : h.Ns mainGlobals mg) (hfa : mg ("law" : Str) = some (.ref f)) (c : He.SaysD facs fns K ∧ exB K = true) :
    ∃ fd : FuncData, (∀ (s : Shared) (v : Value), BindsTo s fd ⟨[v], []⟩ [("_law_script", v)]) ∧ ∀ base : Heap, K.In base → base.Ns mainGlobals mg → FnG P w K mg base CX0 5 f fd ["_law_script"] (LSp K TB0 psp_law) := by
  have cd := c.1
  have cm := c.2
  obtain ⟨fd_init_NoBook, F_init_NoBook⟩ := cd.def_ 0 (d := dd_init_NoBook) rfl
  obtain ⟨fd_init_NoRow, F_init_NoRow⟩ := cd.def_ 1 (d := dd_init_NoRow) rfl
  obtain ⟨fd_init_NoWay, F_init_NoWay⟩ := cd.def_ 2 (d := dd_init_NoWay) rfl
  obtain ⟨fd_init_NoPassing, F_init_NoPassing⟩ := cd.def_ 3 (d := dd_init_NoPassing) rfl
  obtain ⟨fd_init_NoOrder, F_init_NoOrder⟩ := cd.def_ 4 (d := dd_init_NoOrder) rfl
  obtain ⟨fd_init_NoMove, F_init_NoMove⟩ := cd.def_ 5 (d := dd_init_NoMove) rfl
  obtain ⟨fd_init_NoSpots, F_init_NoSpots⟩ := cd.def_ 6 (d := dd_init_NoSpots) rfl
  obtain ⟨fd_init_NoSpot, F_init_NoSpot⟩ := cd.def_ 7 (d := dd_init_NoSpot) rfl
  obtain ⟨fd_init_NoText, F_init_NoText⟩ := cd.def_ 8 (d := dd_init_NoText) rfl
  obtain ⟨fd_init_Full, F_init_Full⟩ := cd.def_ 9 (d := dd_init_Full) rfl
  obtain ⟨fd_init_NoWalker, F_init_NoWalker⟩ := cd.def_ 10 (d := dd_init_NoWalker) rfl
  obtain ⟨fd_draw, F_draw⟩ := cd.def_ 11 (d := dd_draw) rfl
  have g_draw := He.glo_ok X G (cd.fact 0 (f := .glo "_law_draw") rfl)
  obtain ⟨fd_deal, F_deal⟩ := cd.def_ 12 (d := dd_deal) rfl
  have g_deal := He.glo_ok X G (cd.fact 1 (f := .glo "_law_deal") rfl)
  obtain ⟨fd_thing01, F_thing01⟩ := cd.def_ 13 (d := dd_thing01) rfl
  have g_thing01 := He.glo_ok X G (cd.fact 2 (f := .glo "_law_thing") rfl)
  obtain ⟨fd_made01, F_made01⟩ := cd.def_ 14 (d := dd_made01) rfl
  have g_made01 := He.glo_ok X G (cd.fact 3 (f := .glo "_law_made") rfl)
  obtain ⟨fd_named01, F_named01⟩ := cd.def_ 15 (d := dd_named01) rfl
  have g_named01 := He.glo_ok X G (cd.fact 4 (f := .glo "_law_named") rfl)
  obtain ⟨fd_kept01, F_kept01⟩ := cd.def_ 16 (d := dd_kept01) rfl
  have g_kept01 := He.glo_ok X G (cd.fact 5 (f := .glo "_law_kept") rfl)
  obtain ⟨fd_sorts01, F_sorts01⟩ := cd.def_ 17 (d := dd_sorts01) rfl
  have g_sorts01 := He.glo_ok X G (cd.fact 6 (f := .glo "_law_sorts") rfl)
  obtain ⟨fd_taken01, F_taken01⟩ := cd.def_ 18 (d := dd_taken01) rfl
  have g_taken01 := He.glo_ok X G (cd.fact 7 (f := .glo "_law_taken") rfl)
  obtain ⟨fd_law01, F_law01⟩ := cd.def_ 19 (d := dd_law01) rfl
  have eq := hfa.symm.trans (He.glo_ok X G (cd.fact 8 (f := .glo "law") rfl))
  cases eq
  have B : Bl mg := ⟨He.free_ok X G (cd.fact 9 (f := .free "len") rfl), He.free_ok X G (cd.fact 10 (f := .free "list") rfl), He.free_ok X G (cd.fact 11 (f := .free "tuple") rfl), He.free_ok X G (cd.fact 12 (f := .free "reversed") rfl), He.free_ok X G (cd.fact 13 (f := .free "range") rfl), He.free_ok X G (cd.fact 14 (f := .free "max") rfl), He.free_ok X G (cd.fact 15 (f := .free "min") rfl), He.free_ok X G (cd.fact 16 (f := .free "sum") rfl), He.free_ok X G (cd.fact 17 (f := .free "all") rfl), He.free_ok X G (cd.fact 18 (f := .free "any") rfl), He.free_ok X G (cd.fact 19 (f := .free "zip") rfl), He.free_ok X G (cd.fact 20 (f := .free "enumerate") rfl), He.free_ok X G (cd.fact 21 (f := .free "isinstance") rfl), He.free_ok X G (cd.fact 22 (f := .free "int") rfl), He.free_ok X G (cd.fact 23 (f := .free "bool") rfl), He.free_ok X G (cd.fact 24 (f := .free "str") rfl), He.free_ok X G (cd.fact 25 (f := .free "repr") rfl), He.free_ok X G (cd.fact 26 (f := .free "divmod") rfl), He.free_ok X G (cd.fact 27 (f := .free "abs") rfl), He.free_ok X G (cd.fact 28 (f := .free "sorted") rfl), He.free_ok X G (cd.fact 29 (f := .free "set") rfl), He.free_ok X G (cd.fact 30 (f := .free "dict") rfl), He.free_ok X G (cd.fact 31 (f := .free "pow") rfl), He.free_ok X G (cd.fact 32 (f := .free "ValueError") rfl), He.free_ok X G (cd.fact 33 (f := .free "IndexError") rfl)⟩
  have K_RoadError := He.glo_ok X G (cd.fact 34 (f := .glo "RoadError") rfl)
  have K_NoBook := He.glo_ok X G (cd.fact 35 (f := .glo "NoBook") rfl)
  have K_NoRow := He.glo_ok X G (cd.fact 36 (f := .glo "NoRow") rfl)
  have K_NoPassing := He.glo_ok X G (cd.fact 37 (f := .glo "NoPassing") rfl)
  have K_NoOrder := He.glo_ok X G (cd.fact 38 (f := .glo "NoOrder") rfl)
  have K_NoMove := He.glo_ok X G (cd.fact 39 (f := .glo "NoMove") rfl)
  have K_NoSpots := He.glo_ok X G (cd.fact 40 (f := .glo "NoSpots") rfl)
  have K_NoSpot := He.glo_ok X G (cd.fact 41 (f := .glo "NoSpot") rfl)
  have K_NoWay := He.glo_ok X G (cd.fact 42 (f := .glo "NoWay") rfl)
  have K_NoText := He.glo_ok X G (cd.fact 43 (f := .glo "NoText") rfl)
  have K_Full := He.glo_ok X G (cd.fact 44 (f := .glo "Full") rfl)
  have K_NoWalker := He.glo_ok X G (cd.fact 45 (f := .glo "NoWalker") rfl)
  unfold exB at cm
  simp only [Bool.and_eq_true, decide_eq_true_eq] at cm
  obtain ⟨mPC, ND0, mk_NoBook, mk_NoRow, mk_NoWay, mk_NoPassing, mk_NoOrder, mk_NoMove, mk_NoSpots, mk_NoSpot, mk_NoText, mk_Full, mk_NoWalker, mk_RoadError, mk_ValueError, mk_IndexError, PK0, PV0, XS_NoText, XS_NoWalker, ⟨⟨⟨⟨⟨⟨⟨⟨⟨⟨⟨m0, m1⟩, m2⟩, m3⟩, m4⟩, m5⟩, m6⟩, m7⟩, m8⟩, m9⟩, m10⟩, mz⟩⟩ := cm
  have EF_NoBook := errB_ok m0
  have EF_NoRow := errB_ok m1
  have EF_NoWay := errB_ok m2
  have EF_NoPassing := errB_ok m3
  have EF_NoOrder := errB_ok m4
  have EF_NoMove := errB_ok m5
  have EF_NoSpots := errB_ok m6
  have EF_NoSpot := errB_ok m7
  have EF_NoText := errB_ok m8
  have EF_Full := errB_ok m9
  have EF_NoWalker := errIB_ok m10
  have BC := baseB_ok mz K_RoadError
  have ISA : ∀ x ∈ (["NoBook", "NoRow", "NoWay", "NoPassing", "NoOrder", "NoMove", "NoSpots", "NoSpot", "NoText", "Full", "NoWalker"] : List Str), IsC K (He.ga K x) := isc_c EF_NoBook.is_ (isc_c EF_NoRow.is_ (isc_c EF_NoWay.is_ (isc_c EF_NoPassing.is_ (isc_c EF_NoOrder.is_ (isc_c EF_NoMove.is_ (isc_c EF_NoSpots.is_ (isc_c EF_NoSpot.is_ (isc_c EF_NoText.is_ (isc_c EF_Full.is_ (isc_c EF_NoWalker.is_ (isc_n)))))))))))
  have ND : [He.ga K "NoBook", He.ga K "NoRow", He.ga K "NoWay", He.ga K "NoPassing", He.ga K "NoOrder", He.ga K "NoMove", He.ga K "NoSpots", He.ga K "NoSpot", He.ga K "NoText", He.ga K "Full", He.ga K "NoWalker"].Nodup := ND0
  have KI_NoBook : ∀ (k : Nat) C, [He.ga K "NoBook", He.ga K "NoRow", He.ga K "NoWay", He.ga K "NoPassing", He.ga K "NoOrder", He.ga K "NoMove", He.ga K "NoSpots", He.ga K "NoSpot", He.ga K "NoText", He.ga K "Full", He.ga K "NoWalker"][k]? = some C → IsC K C ∧ PySem.W.kitOne K (.ref C) (.ref (He.ga K "NoBook")) = some (fK 0 k) := kits_ok mk_NoBook ISA
  have KI_NoRow : ∀ (k : Nat) C, [He.ga K "NoBook", He.ga K "NoRow", He.ga K "NoWay", He.ga K "NoPassing", He.ga K "NoOrder", He.ga K "NoMove", He.ga K "NoSpots", He.ga K "NoSpot", He.ga K "NoText", He.ga K "Full", He.ga K "NoWalker"][k]? = some C → IsC K C ∧ PySem.W.kitOne K (.ref C) (.ref (He.ga K "NoRow")) = some (fK 1 k) := kits_ok mk_NoRow ISA
  have KI_NoWay : ∀ (k : Nat) C, [He.ga K "NoBook", He.ga K "NoRow", He.ga K "NoWay", He.ga K "NoPassing", He.ga K "NoOrder", He.ga K "NoMove", He.ga K "NoSpots", He.ga K "NoSpot", He.ga K "NoText", He.ga K "Full", He.ga K "NoWalker"][k]? = some C → IsC K C ∧ PySem.W.kitOne K (.ref C) (.ref (He.ga K "NoWay")) = some (fK 2 k) := kits_ok mk_NoWay ISA
  have KI_NoPassing : ∀ (k : Nat) C, [He.ga K "NoBook", He.ga K "NoRow", He.ga K "NoWay", He.ga K "NoPassing", He.ga K "NoOrder", He.ga K "NoMove", He.ga K "NoSpots", He.ga K "NoSpot", He.ga K "NoText", He.ga K "Full", He.ga K "NoWalker"][k]? = some C → IsC K C ∧ PySem.W.kitOne K (.ref C) (.ref (He.ga K "NoPassing")) = some (fK 3 k) := kits_ok mk_NoPassing ISA
  have KI_NoOrder : ∀ (k : Nat) C, [He.ga K "NoBook", He.ga K "NoRow", He.ga K "NoWay", He.ga K "NoPassing", He.ga K "NoOrder", He.ga K "NoMove", He.ga K "NoSpots", He.ga K "NoSpot", He.ga K "NoText", He.ga K "Full", He.ga K "NoWalker"][k]? = some C → IsC K C ∧ PySem.W.kitOne K (.ref C) (.ref (He.ga K "NoOrder")) = some (fK 4 k) := kits_ok mk_NoOrder ISA
  have KI_NoMove : ∀ (k : Nat) C, [He.ga K "NoBook", He.ga K "NoRow", He.ga K "NoWay", He.ga K "NoPassing", He.ga K "NoOrder", He.ga K "NoMove", He.ga K "NoSpots", He.ga K "NoSpot", He.ga K "NoText", He.ga K "Full", He.ga K "NoWalker"][k]? = some C → IsC K C ∧ PySem.W.kitOne K (.ref C) (.ref (He.ga K "NoMove")) = some (fK 5 k) := kits_ok mk_NoMove ISA
  have KI_NoSpots : ∀ (k : Nat) C, [He.ga K "NoBook", He.ga K "NoRow", He.ga K "NoWay", He.ga K "NoPassing", He.ga K "NoOrder", He.ga K "NoMove", He.ga K "NoSpots", He.ga K "NoSpot", He.ga K "NoText", He.ga K "Full", He.ga K "NoWalker"][k]? = some C → IsC K C ∧ PySem.W.kitOne K (.ref C) (.ref (He.ga K "NoSpots")) = some (fK 6 k) := kits_ok mk_NoSpots ISA
  have KI_NoSpot : ∀ (k : Nat) C, [He.ga K "NoBook", He.ga K "NoRow", He.ga K "NoWay", He.ga K "NoPassing", He.ga K "NoOrder", He.ga K "NoMove", He.ga K "NoSpots", He.ga K "NoSpot", He.ga K "NoText", He.ga K "Full", He.ga K "NoWalker"][k]? = some C → IsC K C ∧ PySem.W.kitOne K (.ref C) (.ref (He.ga K "NoSpot")) = some (fK 7 k) := kits_ok mk_NoSpot ISA
  have KI_NoText : ∀ (k : Nat) C, [He.ga K "NoBook", He.ga K "NoRow", He.ga K "NoWay", He.ga K "NoPassing", He.ga K "NoOrder", He.ga K "NoMove", He.ga K "NoSpots", He.ga K "NoSpot", He.ga K "NoText", He.ga K "Full", He.ga K "NoWalker"][k]? = some C → IsC K C ∧ PySem.W.kitOne K (.ref C) (.ref (He.ga K "NoText")) = some (fK 8 k) := kits_ok mk_NoText ISA
  have KI_Full : ∀ (k : Nat) C, [He.ga K "NoBook", He.ga K "NoRow", He.ga K "NoWay", He.ga K "NoPassing", He.ga K "NoOrder", He.ga K "NoMove", He.ga K "NoSpots", He.ga K "NoSpot", He.ga K "NoText", He.ga K "Full", He.ga K "NoWalker"][k]? = some C → IsC K C ∧ PySem.W.kitOne K (.ref C) (.ref (He.ga K "Full")) = some (fK 9 k) := kits_ok mk_Full ISA
  have KI_NoWalker : ∀ (k : Nat) C, [He.ga K "NoBook", He.ga K "NoRow", He.ga K "NoWay", He.ga K "NoPassing", He.ga K "NoOrder", He.ga K "NoMove", He.ga K "NoSpots", He.ga K "NoSpot", He.ga K "NoText", He.ga K "Full", He.ga K "NoWalker"][k]? = some C → IsC K C ∧ PySem.W.kitOne K (.ref C) (.ref (He.ga K "NoWalker")) = some (fK 10 k) := kits_ok mk_NoWalker ISA
  have KI_RoadError : ∀ (k : Nat) C, [He.ga K "NoBook", He.ga K "NoRow", He.ga K "NoWay", He.ga K "NoPassing", He.ga K "NoOrder", He.ga K "NoMove", He.ga K "NoSpots", He.ga K "NoSpot", He.ga K "NoText", He.ga K "Full", He.ga K "NoWalker"][k]? = some C → IsC K C ∧ PySem.W.kitOne K (.ref C) (.ref (He.ga K "RoadError")) = some (fU true k) := kits_ok mk_RoadError ISA
  have KI_ValueError : ∀ (k : Nat) C, [He.ga K "NoBook", He.ga K "NoRow", He.ga K "NoWay", He.ga K "NoPassing", He.ga K "NoOrder", He.ga K "NoMove", He.ga K "NoSpots", He.ga K "NoSpot", He.ga K "NoText", He.ga K "Full", He.ga K "NoWalker"][k]? = some C → IsC K C ∧ PySem.W.kitOne K (.ref C) (.type "ValueError") = some (fU true k) := kits_ok mk_ValueError ISA
  have KI_IndexError : ∀ (k : Nat) C, [He.ga K "NoBook", He.ga K "NoRow", He.ga K "NoWay", He.ga K "NoPassing", He.ga K "NoOrder", He.ga K "NoMove", He.ga K "NoSpots", He.ga K "NoSpot", He.ga K "NoText", He.ga K "Full", He.ga K "NoWalker"][k]? = some C → IsC K C ∧ PySem.W.kitOne K (.ref C) (.type "IndexError") = some (fU false k) := kits_ok mk_IndexError ISA
  have PC := plainB_ok mPC K_RoadError
  have b := FunD.bindsA (ps := ["_law_script"]) F_law01 fun _ _ _ _ _ _ us hl => match us, hl with | [_], _ => rfl
  refine ⟨fd_law01, fun s v => b s [v] rfl, fun base _ _ => ?_⟩
  have T_NoBook : Err2 P w K mg base "NoBook" "word" "at" (He.ga K "NoBook") := ⟨K_NoBook, EF_NoBook.o, _, fd_init_NoBook, EF_NoBook.i, EF_NoBook.ti, ok_init_NoBook F_init_NoBook BC EF_NoBook.o (EF_NoBook.no "word" (by decide)) (EF_NoBook.no "at" (by decide)), F_init_NoBook.bindsN fun _ _ _ _ _ _ us hl => match us, hl with | [_, _, _], _ => rfl⟩
  have T_NoRow : Err2 P w K mg base "NoRow" "word" "at" (He.ga K "NoRow") := ⟨K_NoRow, EF_NoRow.o, _, fd_init_NoRow, EF_NoRow.i, EF_NoRow.ti, ok_init_NoRow F_init_NoRow BC EF_NoRow.o (EF_NoRow.no "word" (by decide)) (EF_NoRow.no "at" (by decide)), F_init_NoRow.bindsN fun _ _ _ _ _ _ us hl => match us, hl with | [_, _, _], _ => rfl⟩
  have T_NoWay : Err2 P w K mg base "NoWay" "u" "v" (He.ga K "NoWay") := ⟨K_NoWay, EF_NoWay.o, _, fd_init_NoWay, EF_NoWay.i, EF_NoWay.ti, ok_init_NoWay F_init_NoWay BC EF_NoWay.o (EF_NoWay.no "u" (by decide)) (EF_NoWay.no "v" (by decide)), F_init_NoWay.bindsN fun _ _ _ _ _ _ us hl => match us, hl with | [_, _, _], _ => rfl⟩
  have T_NoPassing : Err1 P w K mg base "NoPassing" "at" (He.ga K "NoPassing") := ⟨K_NoPassing, EF_NoPassing.o, _, fd_init_NoPassing, EF_NoPassing.i, EF_NoPassing.ti, ok_init_NoPassing F_init_NoPassing BC EF_NoPassing.o (EF_NoPassing.no "at" (by decide)), F_init_NoPassing.bindsN fun _ _ _ _ _ _ us hl => match us, hl with | [_, _], _ => rfl⟩
  have T_NoOrder : Err1 P w K mg base "NoOrder" "at" (He.ga K "NoOrder") := ⟨K_NoOrder, EF_NoOrder.o, _, fd_init_NoOrder, EF_NoOrder.i, EF_NoOrder.ti, ok_init_NoOrder F_init_NoOrder BC EF_NoOrder.o (EF_NoOrder.no "at" (by decide)), F_init_NoOrder.bindsN fun _ _ _ _ _ _ us hl => match us, hl with | [_, _], _ => rfl⟩
  have T_NoMove : Err1 P w K mg base "NoMove" "at" (He.ga K "NoMove") := ⟨K_NoMove, EF_NoMove.o, _, fd_init_NoMove, EF_NoMove.i, EF_NoMove.ti, ok_init_NoMove F_init_NoMove BC EF_NoMove.o (EF_NoMove.no "at" (by decide)), F_init_NoMove.bindsN fun _ _ _ _ _ _ us hl => match us, hl with | [_, _], _ => rfl⟩
  have T_NoSpots : Err1 P w K mg base "NoSpots" "at" (He.ga K "NoSpots") := ⟨K_NoSpots, EF_NoSpots.o, _, fd_init_NoSpots, EF_NoSpots.i, EF_NoSpots.ti, ok_init_NoSpots F_init_NoSpots BC EF_NoSpots.o (EF_NoSpots.no "at" (by decide)), F_init_NoSpots.bindsN fun _ _ _ _ _ _ us hl => match us, hl with | [_, _], _ => rfl⟩
  have T_NoSpot : Err1 P w K mg base "NoSpot" "spot" (He.ga K "NoSpot") := ⟨K_NoSpot, EF_NoSpot.o, _, fd_init_NoSpot, EF_NoSpot.i, EF_NoSpot.ti, ok_init_NoSpot F_init_NoSpot BC EF_NoSpot.o (EF_NoSpot.no "spot" (by decide)), F_init_NoSpot.bindsN fun _ _ _ _ _ _ us hl => match us, hl with | [_, _], _ => rfl⟩
  have T_NoText : Err1 P w K mg base "NoText" "at" (He.ga K "NoText") := ⟨K_NoText, EF_NoText.o, _, fd_init_NoText, EF_NoText.i, EF_NoText.ti, ok_init_NoText F_init_NoText BC EF_NoText.o (EF_NoText.no "at" (by decide)), F_init_NoText.bindsN fun _ _ _ _ _ _ us hl => match us, hl with | [_, _], _ => rfl⟩
  have T_Full : Err1 P w K mg base "Full" "most" (He.ga K "Full") := ⟨K_Full, EF_Full.o, _, fd_init_Full, EF_Full.i, EF_Full.ti, ok_init_Full F_init_Full BC EF_Full.o (EF_Full.no "most" (by decide)), F_init_Full.bindsN fun _ _ _ _ _ _ us hl => match us, hl with | [_, _], _ => rfl⟩
  have T_NoWalker : Err1I P w K mg base "NoWalker" "place" (He.ga K "NoWalker") := ⟨K_NoWalker, EF_NoWalker.o, _, fd_init_NoWalker, EF_NoWalker.i, EF_NoWalker.ti, ok_init_NoWalker F_init_NoWalker B.b_IndexError EF_NoWalker.vi EF_NoWalker.o EF_NoWalker.tk, F_init_NoWalker.bindsN fun _ _ _ _ _ _ us hl => match us, hl with | [_, _], _ => rfl⟩
  have KT_NoBook : Err2K P w K mg base "NoBook" "word" "at" (He.ga K "NoBook") := ⟨K_NoBook, EF_NoBook.o, _, fd_init_NoBook, swU, swV, EF_NoBook.i, EF_NoBook.ti, ok_init_NoBook F_init_NoBook BC EF_NoBook.o (EF_NoBook.no "word" (by decide)) (EF_NoBook.no "at" (by decide)), kb_sw F_init_NoBook fun _ _ _ _ _ _ us ws h1 h2 => match us, ws, h1, h2 with | [_], [_, _], _, _ => rfl, fun _ _ _ => rfl⟩
  have KT_NoRow : Err2K P w K mg base "NoRow" "word" "at" (He.ga K "NoRow") := ⟨K_NoRow, EF_NoRow.o, _, fd_init_NoRow, swU, swV, EF_NoRow.i, EF_NoRow.ti, ok_init_NoRow F_init_NoRow BC EF_NoRow.o (EF_NoRow.no "word" (by decide)) (EF_NoRow.no "at" (by decide)), kb_sw F_init_NoRow fun _ _ _ _ _ _ us ws h1 h2 => match us, ws, h1, h2 with | [_], [_, _], _, _ => rfl, fun _ _ _ => rfl⟩
  have KT_NoWay : Err2K P w K mg base "NoWay" "u" "v" (He.ga K "NoWay") := ⟨K_NoWay, EF_NoWay.o, _, fd_init_NoWay, swU, swV, EF_NoWay.i, EF_NoWay.ti, ok_init_NoWay F_init_NoWay BC EF_NoWay.o (EF_NoWay.no "u" (by decide)) (EF_NoWay.no "v" (by decide)), kb_sw F_init_NoWay fun _ _ _ _ _ _ us ws h1 h2 => match us, ws, h1, h2 with | [_], [_, _], _, _ => rfl, fun _ _ _ => rfl⟩
  have KT_NoPassing : Err1K P w K mg base "NoPassing" "at" (He.ga K "NoPassing") := ⟨K_NoPassing, EF_NoPassing.o, _, fd_init_NoPassing, _, _, EF_NoPassing.i, EF_NoPassing.ti, ok_init_NoPassing F_init_NoPassing BC EF_NoPassing.o (EF_NoPassing.no "at" (by decide)), kb_of F_init_NoPassing fun _ _ _ _ _ _ us ws h1 h2 => match us, ws, h1, h2 with | [_], [_], _, _ => rfl, fun _ _ => rfl⟩
  have KT_NoOrder : Err1K P w K mg base "NoOrder" "at" (He.ga K "NoOrder") := ⟨K_NoOrder, EF_NoOrder.o, _, fd_init_NoOrder, _, _, EF_NoOrder.i, EF_NoOrder.ti, ok_init_NoOrder F_init_NoOrder BC EF_NoOrder.o (EF_NoOrder.no "at" (by decide)), kb_of F_init_NoOrder fun _ _ _ _ _ _ us ws h1 h2 => match us, ws, h1, h2 with | [_], [_], _, _ => rfl, fun _ _ => rfl⟩
  have KT_NoMove : Err1K P w K mg base "NoMove" "at" (He.ga K "NoMove") := ⟨K_NoMove, EF_NoMove.o, _, fd_init_NoMove, _, _, EF_NoMove.i, EF_NoMove.ti, ok_init_NoMove F_init_NoMove BC EF_NoMove.o (EF_NoMove.no "at" (by decide)), kb_of F_init_NoMove fun _ _ _ _ _ _ us ws h1 h2 => match us, ws, h1, h2 with | [_], [_], _, _ => rfl, fun _ _ => rfl⟩
  have KT_NoSpots : Err1K P w K mg base "NoSpots" "at" (He.ga K "NoSpots") := ⟨K_NoSpots, EF_NoSpots.o, _, fd_init_NoSpots, _, _, EF_NoSpots.i, EF_NoSpots.ti, ok_init_NoSpots F_init_NoSpots BC EF_NoSpots.o (EF_NoSpots.no "at" (by decide)), kb_of F_init_NoSpots fun _ _ _ _ _ _ us ws h1 h2 => match us, ws, h1, h2 with | [_], [_], _, _ => rfl, fun _ _ => rfl⟩
  have KT_NoSpot : Err1K P w K mg base "NoSpot" "spot" (He.ga K "NoSpot") := ⟨K_NoSpot, EF_NoSpot.o, _, fd_init_NoSpot, _, _, EF_NoSpot.i, EF_NoSpot.ti, ok_init_NoSpot F_init_NoSpot BC EF_NoSpot.o (EF_NoSpot.no "spot" (by decide)), kb_of F_init_NoSpot fun _ _ _ _ _ _ us ws h1 h2 => match us, ws, h1, h2 with | [_], [_], _, _ => rfl, fun _ _ => rfl⟩
  have KT_NoText : Err1K P w K mg base "NoText" "at" (He.ga K "NoText") := ⟨K_NoText, EF_NoText.o, _, fd_init_NoText, _, _, EF_NoText.i, EF_NoText.ti, ok_init_NoText F_init_NoText BC EF_NoText.o (EF_NoText.no "at" (by decide)), kb_of F_init_NoText fun _ _ _ _ _ _ us ws h1 h2 => match us, ws, h1, h2 with | [_], [_], _, _ => rfl, fun _ _ => rfl⟩
  have KT_Full : Err1K P w K mg base "Full" "most" (He.ga K "Full") := ⟨K_Full, EF_Full.o, _, fd_init_Full, _, _, EF_Full.i, EF_Full.ti, ok_init_Full F_init_Full BC EF_Full.o (EF_Full.no "most" (by decide)), kb_of F_init_Full fun _ _ _ _ _ _ us ws h1 h2 => match us, ws, h1, h2 with | [_], [_], _, _ => rfl, fun _ _ => rfl⟩
  have KT_NoWalker : Err1KI P w K mg base "NoWalker" "place" (He.ga K "NoWalker") := ⟨K_NoWalker, EF_NoWalker.o, _, fd_init_NoWalker, _, _, EF_NoWalker.i, EF_NoWalker.ti, ok_init_NoWalker F_init_NoWalker B.b_IndexError EF_NoWalker.vi EF_NoWalker.o EF_NoWalker.tk, kb_of F_init_NoWalker fun _ _ _ _ _ _ us ws h1 h2 => match us, ws, h1, h2 with | [_], [_], _, _ => rfl, fun _ _ => rfl⟩
  have C_draw : Cal P w K mg base CX0 1 "_law_draw" ["_law_deal_here", "_law_many"] sp_draw := ⟨_, fd_draw, ok_draw F_draw B , g_draw, F_draw.kp, F_draw.bindsN fun _ _ _ _ _ _ us hl => match us, hl with | [_, _], _ => rfl⟩
  have C_deal : Cal P w K mg base CX0 1 "_law_deal" ["_law_script", "_law_base"] (sp_deal K) := ⟨_, fd_deal, ok_deal F_deal B , g_deal, F_deal.kp, F_deal.bindsN fun _ _ _ _ _ _ us hl => match us, hl with | [_, _], _ => rfl⟩
  have C_thing01_no : Cal P w K mg base CX0 1 "_law_thing" ["_law_deal_here", "_law_deep"] (LSp K TB0 (psp_prev_thing01 0)) := cal_no2 g_thing01 F_thing01.kp (F_thing01.bindsN fun _ _ _ _ _ _ us hl => match us, hl with | [_, _], _ => rfl)
  have C_thing01_0 : Cal P w K mg base CX0 2 "_law_thing" ["_law_deal_here", "_law_deep"] (LSp K TB0 (psp_thing01 0)) := ⟨_, fd_thing01, ok_thing01_0 F_thing01 B (C_draw.imp conv_draw) C_thing01_no, g_thing01, F_thing01.kp, F_thing01.bindsN fun _ _ _ _ _ _ us hl => match us, hl with | [_, _], _ => rfl⟩
  have C_thing01_1 : Cal P w K mg base CX0 3 "_law_thing" ["_law_deal_here", "_law_deep"] (LSp K TB0 (psp_thing01 1)) := ⟨_, fd_thing01, ok_thing01_1 F_thing01 B (C_draw.imp conv_draw) C_thing01_0, g_thing01, F_thing01.kp, F_thing01.bindsN fun _ _ _ _ _ _ us hl => match us, hl with | [_, _], _ => rfl⟩
  have C_thing01 : Cal P w K mg base CX0 4 "_law_thing" ["_law_deal_here", "_law_deep"] (LSp K TB0 (psp_thing01 2)) := ⟨_, fd_thing01, ok_thing01_2 F_thing01 B (C_draw.imp conv_draw) C_thing01_1, g_thing01, F_thing01.kp, F_thing01.bindsN fun _ _ _ _ _ _ us hl => match us, hl with | [_, _], _ => rfl⟩
  have C_made01 : Cal P w K mg base CX0 3 "_law_made" ["_law_one", "_law_other"] (LSp K TB0 (psp_made01 (He.ga K "NoBook") (He.ga K "NoRow") (He.ga K "NoWay") (He.ga K "NoPassing") (He.ga K "NoOrder") (He.ga K "NoMove") (He.ga K "NoSpots") (He.ga K "NoSpot") (He.ga K "NoText") (He.ga K "Full") (He.ga K "NoWalker"))) := ⟨_, fd_made01, ok_made01 F_made01 B T_NoMove T_NoOrder T_NoPassing T_NoWay T_NoRow T_NoBook T_NoWalker T_Full T_NoText T_NoSpot T_NoSpots, g_made01, F_made01.kp, F_made01.bindsN fun _ _ _ _ _ _ us hl => match us, hl with | [_, _], _ => rfl⟩
  have C_named01 : Cal P w K mg base CX0 3 "_law_named" ["_law_one", "_law_other"] (LSp K TB0 (psp_named01 (He.ga K "NoBook") (He.ga K "NoRow") (He.ga K "NoWay") (He.ga K "NoPassing") (He.ga K "NoOrder") (He.ga K "NoMove") (He.ga K "NoSpots") (He.ga K "NoSpot") (He.ga K "NoText") (He.ga K "Full") (He.ga K "NoWalker"))) := ⟨_, fd_named01, ok_named01 F_named01 B KT_NoPassing KT_NoWay KT_NoRow KT_NoBook KT_NoText KT_NoSpot KT_NoSpots KT_NoMove KT_NoOrder KT_NoWalker KT_Full, g_named01, F_named01.kp, F_named01.bindsN fun _ _ _ _ _ _ us hl => match us, hl with | [_, _], _ => rfl⟩
  have C_kept01 : Cal P w K mg base CX0 1 "_law_kept" ["_law_made_here"] (LSp K TB0 (psp_kept01 (He.ga K "NoBook") (He.ga K "NoRow") (He.ga K "NoWay") (He.ga K "NoPassing") (He.ga K "NoOrder") (He.ga K "NoMove") (He.ga K "NoSpots") (He.ga K "NoSpot") (He.ga K "NoText") (He.ga K "Full") (He.ga K "NoWalker"))) := ⟨_, fd_kept01, ok_kept01 F_kept01 B (xg_c ⟨EF_NoWay.xf, EF_NoWay.no "v" (by decide)⟩ (xg_n)) (xg_c ⟨EF_NoWay.xf, EF_NoWay.no "u" (by decide)⟩ (xg_n)) (xg_c ⟨EF_NoBook.xf, EF_NoBook.no "at" (by decide)⟩ (xg_c ⟨EF_NoRow.xf, EF_NoRow.no "at" (by decide)⟩ (xg_c ⟨EF_NoPassing.xf, EF_NoPassing.no "at" (by decide)⟩ (xg_c ⟨EF_NoOrder.xf, EF_NoOrder.no "at" (by decide)⟩ (xg_c ⟨EF_NoMove.xf, EF_NoMove.no "at" (by decide)⟩ (xg_c ⟨EF_NoSpots.xf, EF_NoSpots.no "at" (by decide)⟩ (xg_c ⟨EF_NoText.xf, EF_NoText.no "at" (by decide)⟩ (xg_n)))))))) (xg_c ⟨EF_NoBook.xf, EF_NoBook.no "word" (by decide)⟩ (xg_c ⟨EF_NoRow.xf, EF_NoRow.no "word" (by decide)⟩ (xg_n))) (xg_c ⟨EF_NoWalker.xf, EF_NoWalker.no⟩ (xg_n)) (xg_c ⟨EF_Full.xf, EF_Full.no "most" (by decide)⟩ (xg_n)) (xg_c ⟨EF_NoSpot.xf, EF_NoSpot.no "spot" (by decide)⟩ (xg_n)), g_kept01, F_kept01.kp, F_kept01.bindsN fun _ _ _ _ _ _ us hl => match us, hl with | [_], _ => rfl⟩
  have C_sorts01 : Cal P w K mg base CX0 1 "_law_sorts" ["_law_e"] (LSp K TB0 (psp_sorts01 (He.ga K "NoBook") (He.ga K "NoRow") (He.ga K "NoWay") (He.ga K "NoPassing") (He.ga K "NoOrder") (He.ga K "NoMove") (He.ga K "NoSpots") (He.ga K "NoSpot") (He.ga K "NoText") (He.ga K "Full") (He.ga K "NoWalker"))) := ⟨_, fd_sorts01, ok_sorts01 F_sorts01 B KI_NoPassing K_NoPassing KI_NoWay K_NoWay KI_NoRow K_NoRow KI_NoBook K_NoBook KI_NoSpot K_NoSpot KI_NoSpots K_NoSpots KI_NoMove K_NoMove KI_NoOrder K_NoOrder KI_NoWalker K_NoWalker KI_Full K_Full KI_NoText K_NoText KI_IndexError KI_ValueError KI_RoadError K_RoadError ND, g_sorts01, F_sorts01.kp, F_sorts01.bindsN fun _ _ _ _ _ _ us hl => match us, hl with | [_], _ => rfl⟩
  have C_taken01 : Cal P w K mg base CX0 3 "_law_taken" ["_law_one"] (LSp K TB0 psp_taken01) := ⟨_, fd_taken01, ok_taken01 F_taken01 B T_NoText T_NoWalker K_NoText XS_NoText EF_NoText.xf (EF_NoText.no "at" (by decide)) K_NoWalker XS_NoWalker EF_NoWalker.xf EF_NoWalker.no, g_taken01, F_taken01.kp, F_taken01.bindsN fun _ _ _ _ _ _ us hl => match us, hl with | [_], _ => rfl⟩
  exact ok_law01 F_law01 B (C_deal.imp conv_deal) C_thing01 C_made01 C_named01 C_kept01 C_sorts01 C_taken01 K_NoBook PC PK0 PV0 ND
end Wf
open PySem PySem.W PySem.Calls PyProof.Rows
theorem PySem.Challenge.cw_wherefrom_k01_refusals_holds : PySem.Challenge.rw_wherefrom_k01_refusals.Holds := by
  w_on; o_law
  refine HandSHeadRun.head_any (r := OpenLaw.row PySem.Challenge.rw_wherefrom_k01_refusals) (q := view (OpenLaw.row PySem.Challenge.rw_wherefrom_k01_refusals).prog [22]) (H := Wf.hk) (ob := Wf.obA) (M := 4800) (loose := Wf.looseL) (d := HandSHeadRun.topDef (OpenLaw.row PySem.Challenge.rw_wherefrom_k01_refusals).prog 22) (kwd := []) Wf.ob_eq
    (by kernel_rfl) (fun s => by kernel_rfl) Wf.run_eq (by kernel_rfl) (by kernel_rfl) (by kernel_rfl) (by rfl) (by first | assumption | decide +kernel) (by decide +kernel) ⟨rfl, rfl, rfl, rfl, rfl, by decide +kernel⟩ ?hw ?hc
  case hw => w_witness2
  case hc =>
    refine Wf.walkG (l := PySem.Challenge.rw_wherefrom_k01_refusals) (n := 63) (k := 5) (x := "_law_script") rfl (by decide) (by kernel_rfl) ⟨rfl, by decide, by decide⟩ ?F
    intro w mg fa h Y G hmg0
    obtain ⟨K, KX, c⟩ := Y
    have hmg : mg ("law" : PySem.Str) = some (.ref fa) := by
      have e : (HandSHeadRun.topDef (OpenLaw.row PySem.Challenge.rw_wherefrom_k01_refusals).prog 22).name = ("law" : PySem.Str) := by kernel_rfl
      rw [← e]
      exact hmg0
    obtain ⟨fd, hb, hF⟩ := Wf.facts (P := (PySem.Challenge.rw_wherefrom_k01_refusals).prog) (w := w) KX G hmg c
    exact ⟨K, fd, Pv.LSp K Pv.TB0 Pv.psp_law, KX, hb, fun H a ns hl hO hS => Pv.end_law (by omega) hO hS, hF⟩
