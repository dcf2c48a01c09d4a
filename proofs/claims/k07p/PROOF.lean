import PyProof.Rows.All
import Wide.All
import OpenK.AllK
import Wide.FinOn
import KE.KStateDown
import Lean
import HandS.ForMost
import HandS.More
import HandS.Codes
import HandS.Defaults
import HandS.WordsExc
import HandS.RaiseMore
import HandS.IsInst
import HandS.Walk
import HandS.Head0
import HandS.Head1
import HandS.Head2
import HandS.HeadEnd
import HandS.HeadHook1
import HandS.HeadHook2
import HandS.HeadHook4
import HandS.ExcValue
import HandS.ExcIs
import HandS.ExcField
import HandS.ExcInit
import HandS.EndTab
import HandS.Property
import HandS.ClsMeth
import HandS.MakeKw
import HandS.MakeKwOnly
import HandS.FStr
import HandS.StrMore
import HandS.Flow
import HandS.TupLe
import HandS.Lambda
import PyProof.Rows.Range3
import PyProof.CallStr
import PyProof.Rows.RegFStrParts
import HandS.IterVal
import HandS.Set
import HandS.SetFor
import HandS.Strs
import PyProof.Rows.SortShellAny
import HandS.Star
import HandS.Style
import HandS.Deep
import PyProof.P3In
import HandS.SuiteRaise
import HandS.RaiseFrom
import HandS.ExcInitHot
import HandS.NoneIn
import KE.DataCmp
import KE.DatumOrd
import KE.GoesEnum
import HandS.Zip0
import HandS.OwnEq
import PyProof.P3Eq
import HandS.ReplaceLit
import HandS.GenBody
import HandS.GenList
import KE.GoesSet
import KE.KDictList
import KE.KDictWalk
import HandS.DictSubView
import HandS.TupMul
import PySem.Challenge.RW_seenframes_k07_histories_put_together
set_option Elab.async false
set_option linter.all false
set_option maxRecDepth 100000
set_option maxHeartbeats 8000000
namespace Z
open PySem PySem.Spec PyProof.Rows L2
/-! ### rules that name the written part by a letter -/
section
variable {X : Cx} {K : PySem.W.Frag}
theorem kix_list (hK : X.K = K := by rfl) : IxR X (rIxL K) := by subst hK; exact ix_list
theorem kix_tup (hK : X.K = K := by rfl) : IxR X (rIxT K) := by subst hK; exact ix_tup
theorem ksl_list (hK : X.K = K := by rfl) : SlR X (rSlL K) := by subst hK; exact sl_list
theorem ksl_tup (hK : X.K = K := by rfl) : SlR X (rSlT K) := by subst hK; exact sl_tup
def rLen (K : PySem.W.Frag) : List V → Hp → VK → Prop := fun xs H Q => ∃ p ys, xs = [.ref p] ∧ (SqL K H p ys ∨ SqT K H p ys) ∧ Q (.int ys.length) H
theorem kcall_len_seq (hK : X.K = K := by rfl) : CallR X (.builtin "len") (rLen K) := by subst hK; exact call_len_seq
def rListOf (K : PySem.W.Frag) : List V → Hp → VK → Prop := fun xs H Q => ∃ p ys, xs = [.ref p] ∧ (SqL K H p ys ∨ SqT K H p ys) ∧ ∀ l, H l = none → Q (.ref l) (upd H l (.lst ys))
theorem kcall_list_of (hK : X.K = K := by rfl) : CallR X (.type "list") (rListOf K) := by subst hK; exact call_list_of
def rTupleOf (K : PySem.W.Frag) : List V → Hp → VK → Prop := fun xs H Q => ∃ p ys, xs = [.ref p] ∧ ((SqL K H p ys ∧ ∀ l, H l = none → Q (.ref l) (upd H l (.tup ys))) ∨ (SqT K H p ys ∧ Q (.ref p) H))
theorem kcall_tuple_of (hK : X.K = K := by rfl) : CallR X (.type "tuple") (rTupleOf K) := by subst hK; exact call_tuple_of
theorem kop_eqD (hu : X.A.units + 64 < cLine) (hK : X.K = K := by rfl) : OpR X (compareOp .Eq) (rEqD K) := by subst hK; exact op_eqD hu
theorem kop_neD (hu : X.A.units + 64 < cLine) (hK : X.K = K := by rfl) : OpR X (compareOp .NotEq) (rNeD K) := by subst hK; exact op_neD hu
theorem kop_in_seq (hK : X.K = K := by rfl) : OpR X (compareOp .In) (rIn K false) := by subst hK; exact op_in_seq
theorem kop_notIn_seq (hK : X.K = K := by rfl) : OpR X (compareOp .NotIn) (rIn K true) := by subst hK; exact op_notIn_seq
theorem kcr_sortedS (hK : X.K = K := by rfl) : CallR X (.builtin "sorted") (rSortedS K) := by subst hK; exact cr_sortedS
theorem kcr_sorted (hK : X.K = K := by rfl) : CallR X (.builtin "sorted") (rSorted K) := by subst hK; exact cr_sorted
theorem kcr_sum (hc : X.calm = true) (hK : X.K = K := by rfl) : CallR X (.builtin "sum") (rSum K) := by subst hK; exact cr_sum hc
theorem kcr_all (hc : X.calm = true) (hK : X.K = K := by rfl) : CallR X (.builtin "all") (rAll K) := by subst hK; exact cr_all hc
theorem kcr_any (hc : X.calm = true) (hK : X.K = K := by rfl) : CallR X (.builtin "any") (rAny K) := by subst hK; exact cr_any hc
theorem kcall_isi (hK : X.K = K := by rfl) : CallR X (.builtin "isinstance") (rIsi K) := by subst hK; exact call_isi
theorem kcall_isiT (hK : X.K = K := by rfl) : CallR X (.builtin "isinstance") (rIsiT K) := by subst hK; exact call_isiT
theorem kop_catT (hK : X.K = K := by rfl) : OpR X (binaryOp .Add) (rCatT K) := by subst hK; exact op_catT
theorem kpi_list {tg l : Expr} {tl : TE} (hl : PE X l tl) (hK : X.K = K := by rfl) : PI X tg l (iList K tl) := by subst hK; exact pi_list hl
theorem kpi_tup {tg l : Expr} {tl : TE} (hl : PE X l tl) (hK : X.K = K := by rfl) : PI X tg l (iTup K tl) := by subst hK; exact pi_tup hl
theorem kpi_enum {e : Expr} {ta : TA} {p pos tpos : Pos} {elts : List Expr} {kk : Nat} (hg : Gl X "enumerate") (hm : X.mg "enumerate" = none) (ha : PA X [e] ta) (hs : starEach [e] X.env = [(false, eval e X.env)] := by rfl) (hK : X.K = K := by rfl) :
    PI X (.Tuple elts kk tpos) (.Call (.Name "enumerate" p) [e] [] pos) (iEnum K ta) := by subst hK; exact pi_enum hg hm ha hs
def rJoin (K : PySem.W.Frag) : V → List V → Hp → VK → Prop := fun x xs H Q => ∃ a p, ∃ ys : List Str, x = .str a ∧ xs = [.ref p] ∧ (SqL K H p (ys.map V.str) ∨ SqT K H p (ys.map V.str)) ∧
      (ys.map (·.length)).sum + ys.length * a.length ≤ 16777216 ∧ Q (.str (Txt.join a ys)) H
theorem kpe_join {o e : Expr} {to te : TE} {apos pos : Pos} (ho : PE X o to) (he : PE X e te) (hs : starEach [e] X.env = [(false, eval e X.env)] := by rfl) (hbase : attributeBase o "join" X.env (eval o X.env) = eval o X.env := by rfl) (hline : (apos.endLine == pos.line) = true := by rfl) (hK : X.K = K := by rfl) :
    PE X (.Call (.Attribute o "join" apos) [e] [] pos) (tM1 (rJoin K) to te) := by subst hK; exact pe_join ho he hs hbase hline
theorem kpe_bm {o e : Expr} {es : List Expr} {to : TE} {t : TA} {name : Str} {apos cpos : Pos} {T id : String} {r : V → List V → Hp → VK → Prop} (pa : PlainAttrs T) (slot : Slot T name id) (hty : typeOf (.builtin id) = pure (.type "method_descriptor")) (hm : MtR X id r) (ho : PE X o to) (ha : PA X (e :: es) t)
    (hbase : attributeBase o name X.env (eval o X.env) = eval o X.env := by rfl)
    (hfew : ((backTo cpos (starEach (e :: es) X.env)).all (fun x => !x.1) && (backToKw cpos (keywordEach [] X.env)).all (fun x => x.1.isSome)
      && decide ((e :: es).length + ([] : List Keyword).length + (if ([] : List Keyword).isEmpty then 0 else 1) < 30)) = true := by rfl)
    (hline : (apos.endLine == cpos.line) = true := by rfl) (hs : starEach (e :: es) X.env = (false, eval e X.env) :: starEach es X.env := by rfl) (hplain : (backTo cpos (starEach es X.env)).any (·.1) = false := by rfl) (hK : X.K = K := by rfl) :
    PE X (.Call (.Attribute o name apos) (e :: es) [] cpos) (tBM K T r to t) := by subst hK; exact pe_bm pa slot hty hm ho ha hbase hfew hline hs hplain
theorem kpe_bm0 {o : Expr} {to : TE} {name : Str} {apos cpos : Pos} {T id : String} {r : V → List V → Hp → VK → Prop} (pa : PlainAttrs T) (slot : Slot T name id) (hty : typeOf (.builtin id) = pure (.type "method_descriptor")) (hm : MtR X id r) (ho : PE X o to)
    (hbase : attributeBase o name X.env (eval o X.env) = eval o X.env := by rfl) (hline : (apos.endLine == cpos.line) = true := by rfl) (hK : X.K = K := by rfl) : PE X (.Call (.Attribute o name apos) [] [] cpos) (tBM0 K T r to) := by subst hK; exact pe_bm0 pa slot hty hm ho hbase hline
end
/-- the pen stands at p, its cells at c; t draws so far, z is left of a great one -/
structure Pen (H : Hp) (p c : Addr) (ms : List Int) (t : Nat) (z : Int) : Prop where
  a : H p = some (.lst [.ref c, .int t, .int z])
  b : H c = some (.lst (ms.map .int))
/-- all but what stands at p stands -/
def But (p : Addr) (H H' : Hp) : Prop := ∀ b o, b ≠ p → H b = some o → H' b = some o
theorem But.refl (p : Addr) (H : Hp) : But p H H := fun _ _ _ h => h
theorem But.trans {p : Addr} {H H1 H2 : Hp} (a : But p H H1) (b : But p H1 H2) : But p H H2 := fun c o n h => b c o n (a c o n h)
theorem Same.but {p : Addr} {H H' : Hp} (a : Same H H') : But p H H' := fun c o _ h => a c o h
theorem same_new {H : Hp} {q : Addr} {o : HO} (h : H q = none) : Same H (upd H q o) := fun b u e => by rw [upd_ne (ne_of_none e h)]; exact e
theorem but_upd {H : Hp} {p : Addr} {o : HO} : But p H (upd H p o) := fun b u n e => by rw [upd_ne n]; exact e
theorem But.new {p q : Addr} {H H' : Hp} {o : HO} (b : But p H H') (h : H' q = none) : But p H (upd H' q o) := fun a u n e => by rw [upd_ne (ne_of_none (b a u n e) h)]; exact b a u n e
theorem But.free {p q : Addr} {H H' : Hp} (b : But p H H') (n : q ≠ p) (h : H' q = none) : H q = none := by
  cases e : H q with
  | none => rfl
  | some o => rw [b q o n e] at h; cases h
theorem But.upn {p q : Addr} {H H' : Hp} {o : HO} (b : But p H H') (h : H q = none) : But p H (upd H' q o) := fun a u n e => by rw [upd_ne (ne_of_none e h)]; exact b a u n e
theorem dp_ints {K : PySem.W.Frag} {H : Hp} : ∀ ms : List Int, DpAll K H (ms.map V.int) (ms.map PyData.int)
  | [] => .nil
  | _ :: r => .cons (.int _) (dp_ints r)
theorem lay_ints : ∀ ms : List Int, PyData.canLayAll0 (ms.map PyData.int) = true
  | [] => by simp [PyData.canLayAll0]
  | _ :: r => by simp [PyData.canLayAll0, PyData.canLay0, lay_ints r]
theorem deep_ints : ∀ ms : List Int, PyData.depthAll (ms.map PyData.int) = 0
  | [] => by simp [PyData.depthAll]
  | _ :: r => by simp [PyData.depthAll, PyData.depth, deep_ints r]
theorem shaped_ints (ms : List Int) : SeqAt.shaped (.list (ms.map PyData.int)) = true := by
  unfold SeqAt.shaped
  simp [PyData.canLay0, lay_ints, PyData.depth, deep_ints]
theorem eqv_nil (ms : List Int) : PyData.eqv (.list (ms.map PyData.int)) (.list []) = ms.isEmpty := by
  cases ms <;> simp [PyData.eqv, PyData.eqvAll]
theorem mod_lo (a : Int) {m : Int} (h : 1 ≤ m) : 0 ≤ a.fmod m ∧ a.fmod m < m := ⟨Int.fmod_nonneg_of_pos a (by omega), Int.fmod_lt_of_pos a (by omega)⟩
theorem But.seq {K : PySem.W.Frag} {p : Addr} {H H' : Hp} {a : Addr} {xs : List V} (e : But p H H') (n : a ≠ p) (h : SqL K H a xs) : SqL K H' a xs := by
  rcases h with (h | ⟨o, h⟩) | h
  · exact .inl (.inl (e _ _ n h))
  · exact .inl (.inr ⟨o, e _ _ n h⟩)
  · exact .inr h
/-- a def of the module keeps its promise -/
structure DefN (P : Program) (w : World) (K : PySem.W.Frag) (mg : Str → Option Value) (base : Heap) (k : Nat) (x : Str) (ps : List Str) (sp : Sp) : Prop where
  ex : ∃ fd, FnOk P w K mg base CX0 k (He.ga K x) fd ps sp ∧ Binds K fd ps []
  kp : PySem.W.keepIn K (.ref (He.ga K x)) = true
  at_ : mg x = some (.ref (He.ga K x))
theorem pe_def {X : Cx} {k : Nat} {x : Str} {ps : List Str} {sp : Sp} {e : Expr} {es : List Expr} {p pos : Pos} {t : TA} (D : DefN X.prog X.w X.K X.mg X.base k x ps sp) (hr : Room k X.A) (hg : Gl X x) (ha : PA X (e :: es) t)
    (hdb : (x == ("__debug__" : Str)) = false := by decide) (he : starEach (e :: es) X.env = (false, eval e X.env) :: starEach es X.env := by rfl) (hpl : (backTo pos (starEach es X.env)).any (·.1) = false := by rfl) :
    PE X (.Call (.Name x p) (e :: es) [] pos) (tCall sp [] E0 t) := by
  obtain ⟨fd, F, b⟩ := D.ex
  exact pe_call F hr hg D.at_ D.kp b .nil pass0 ha hdb he hpl
def spPen (K : PySem.W.Frag) : Sp := fun vs H Q _ => ∃ (a : Addr) (ns : List Int), vs = [.ref a] ∧ SqL K H a (ns.map V.int) ∧ ns.length ≤ 63 ∧
  ∀ (H' : Hp) (p c : Addr) (ms : List Int), Same H H' → H p = none → H c = none → p ≠ c → ms.length ≤ 63 → Pen H' p c ms 0 0 → Q (.ref p) H'
def spDraw : Sp := fun vs H Q _ => ∃ (p c : Addr) (ms : List Int) (t : Nat) (z m : Int), vs = [.ref p, .int m] ∧ Pen H p c ms t z ∧ t < 1000000 ∧ 1 ≤ m ∧ m < 1000000 ∧
  ∀ (d : Int) (H' : Hp) (t' : Nat) (z' : Int), 0 ≤ d → d < m → But p H H' → Pen H' p c ms t' z' → t' ≤ t + 1 → Q (.int d) H'
/-- one of a list's items is picked -/
def spPick (K : PySem.W.Frag) : Sp := fun vs H Q _ => ∃ (p c a : Addr) (ms : List Int) (t : Nat) (z : Int) (xs : List V), vs = [.ref p, .ref a] ∧ Pen H p c ms t z ∧ t < 1000000 ∧ SqL K H a xs ∧ a ≠ p ∧ xs ≠ [] ∧ xs.length < 1000000 ∧
  ∀ (x : V) (H' : Hp) (t' : Nat) (z' : Int), x ∈ xs → But p H H' → Pen H' p c ms t' z' → t' ≤ t + 1 → Q x H'
end Z
namespace Z
open PySem PySem.Spec PyProof.Rows L2
/-! ### heaps step by step -/
theorem gen_new {H H1 : Hp} {p : Addr} {o : HO} (g : upd H p o = H1) (n : H p = none) : Same H H1 ∧ H1 p = some o := by
  subst g
  exact ⟨same_new n, upd_same⟩
theorem gen_mut {H H1 : Hp} {p : Addr} {o : HO} (g : upd H p o = H1) : But p H H1 ∧ H1 p = some o := by
  subst g
  exact ⟨but_upd, upd_same⟩
theorem Same.skip {A B C : Hp} {q : Addr} (s : Same A B) (b : But q B C) (n : A q = none) : Same A C := fun x o h => b _ _ (ne_of_none h n) (s _ _ h)
theorem But.skip {A B C : Hp} {p q : Addr} (s : But p A B) (b : But q B C) (n : A q = none) : But p A C := fun x o k h => b _ _ (ne_of_none h n) (s _ _ k h)
theorem ite_yes {c A B : Prop} [Decidable c] (h : c) (a : A) : if c then A else B := by rw [if_pos h]; exact a
theorem ite_no {c A B : Prop} [Decidable c] (h : ¬ c) (b : B) : if c then A else B := by rw [if_neg h]; exact b
theorem fit {n : Nat} (h : n ≤ 1000000) : n ≤ sizeLine := Nat.le_trans h (by decide)
theorem fits {n : Nat} (h : n ≤ 1000000) : n < sizeLine := Nat.lt_of_le_of_lt h (by decide)
theorem not_same {p : Prop} [Decidable p] (h : p) : ¬ (!decide p) = true := by rw [decide_eq_true h]; exact Bool.false_ne_true
theorem of_ndec {p : Prop} [Decidable p] (h : (!decide p) = true) : ¬ p := fun q => by rw [decide_eq_true q] at h; exact Bool.false_ne_true h
theorem of_nndec {p : Prop} [Decidable p] (h : ¬ (!decide p) = true) : p := Classical.byContradiction fun q => h (by rw [decide_eq_false q]; rfl)
theorem ndec_false {p : Prop} [Decidable p] (h : p) : (!decide p) = false := by rw [decide_eq_true h]; rfl
theorem ndec_true {p : Prop} [Decidable p] (h : ¬ p) : (!decide p) = true := by rw [decide_eq_false h]; rfl
theorem strs_app (a b : List Str) : a.map V.str ++ b.map V.str = (a ++ b).map V.str := by rw [List.map_append]
theorem strs_snoc (a : List Str) (x : Str) : a.map V.str ++ [V.str x] = (a ++ [x]).map V.str := by rw [List.map_append]; rfl
theorem ite_same {α : Type} [DecidableEq α] {x : α} {A B : Prop} (a : A) : if decide (x = x) = true then A else B := by rw [if_pos (decide_eq_true rfl)]; exact a
theorem ite_diff {α : Type} [DecidableEq α] {x : α} {A B : Prop} (b : B) : if (!decide (x = x)) = true then A else B := by rw [if_neg (not_same rfl)]; exact b
theorem not_self (b : Bool) : ¬ decide (V.bl (!b) = V.bl b) = true := by cases b <;> decide
theorem of_dec {p : Prop} [Decidable p] (h : ¬ decide p = true) : ¬ p := fun q => h (decide_eq_true q)
theorem Pen.alike {H H' : Hp} {p c : Addr} {ms : List Int} {t : Nat} {z : Int} (P : Pen H p c ms t z) (s : Same H H') : Pen H' p c ms t z := ⟨s _ _ P.a, s _ _ P.b⟩
end Z
namespace Z
open PySem PySem.Spec PyProof.Rows L2 TL
/-- a name: one to eight letters -/
structure IsNm (x : Str) : Prop where
  lo : 1 ≤ x.length
  hi : x.length ≤ 8
  az : ∀ c ∈ x.cps.toList, 97 ≤ c ∧ c ≤ 122
/-- the text of one sign -/
def sg (c : Nat) : Str := ⟨#[c]⟩
theorem join_signs (cs : List Nat) : (Txt.join (Str.ofString "") (cs.map sg)).cps.toList = cs := by
  show (PySem.Builtin.Str.glued (Str.ofString "") (cs.map sg)).cps.toList = cs
  rw [StrLaws.glued_eq_join]
  have h := tl_join (Str.ofString "") (cs.map sg)
  have e0 : tl (Str.ofString "") = [] := by decide +kernel
  rw [e0] at h
  have : ∀ l : List Nat, joinL [] ((l.map sg).map tl) = l := by
    intro l
    induction l with
    | nil => rfl
    | cons a r ih =>
      cases r with
      | nil => rfl
      | cons b q =>
        show tl (sg a) ++ ([] ++ joinL [] (((b :: q).map sg).map tl)) = a :: b :: q
        rw [ih]
        rfl
  rw [this] at h
  exact h
theorem letters_at {j : Nat} (h : j < 26) : (Str.ofString "abcdefghijklmnopqrstuvwxyz").cps.toList[j]? = some (97 + j) := by
  have : ∀ j, j < 26 → (Str.ofString "abcdefghijklmnopqrstuvwxyz").cps.toList[j]? = some (97 + j) := by decide +kernel
  exact this j h
theorem Pen.same {H H' : Hp} {p c : Addr} {ms : List Int} {t : Nat} {z : Int} (P : Pen H p c ms t z) (s : Same H H') : Pen H' p c ms t z := ⟨s _ _ P.a, s _ _ P.b⟩
theorem Pen.ne {H : Hp} {p c : Addr} {ms : List Int} {t : Nat} {z : Int} (P : Pen H p c ms t z) : p ≠ c := ne_of P.a P.b (by intro e; injection e with e; cases ms with | nil => cases e | cons x r => cases e)
def spName : Sp := fun vs H Q _ => ∃ (p c : Addr) (ms : List Int) (t : Nat) (z : Int), vs = [.ref p] ∧ Pen H p c ms t z ∧ t < 900000 ∧
  ∀ (x : Str) (H' : Hp) (t' : Nat) (z' : Int), IsNm x → But p H H' → Pen H' p c ms t' z' → t' ≤ t + 10 → Q (.str x) H'
end Z
namespace Z
open PySem PySem.Spec PyProof.Rows L2 TL
theorem But.same_upd {H H' : Hp} {D : Addr} {o : HO} (s : Same H H') (h : H D = none) : Same H (upd H' D o) := fun b u e => by rw [upd_ne (ne_of_none e h)]; exact s b u e
theorem filterMap_take {α β : Type} (F : α → Option β) (xs : List α) {i : Nat} {x : α} (h : xs[i]? = some x) : (xs.take (i + 1)).filterMap F = (xs.take i).filterMap F ++ (F x).toList := by
  have e : xs.take (i + 1) = xs.take i ++ [x] := by
    rw [List.take_succ, h]
    rfl
  rw [e, List.filterMap_append]
  cases e2 : F x <;> simp [e2]
/-- a comprehension whose elements make nothing: F of each item, none where it is left out -/
theorem lc_fm {J : It} {n : Nat} {G : Hp → Prop} {Y : Nat → Hp → V → Hp → Prop} (w : Walk J n G Y) {g : TG} {tt : TT} {te : TE} {vs : List Nat} {σ : L2.St} {H1 : Hp} {D : Addr} {Qd : Hp → Prop} (xs : List V) (F : V → Option V)
    (hn : n = xs.length) (hY : ∀ i H x H', i < n → Y i H x H' → H' = H ∧ xs[i]? = some x) (hD : H1 D = none) (hG : ∀ H', Same H1 H' → G H') (hz : xs.length < sizeLine)
    (hs : ∀ x ∈ xs, ∀ H', Same H1 H' → ∀ (Kt : V → Hp → Prop) (Kf : Hp → Prop), (∀ y, F x = some y → Kt y H') → (F x = none → Kf H') →
      g x (wipe σ vs) H' fun σ2 H2 => wipe σ2 vs = wipe σ vs ∧ tt σ2 H2 fun b H3 => if b = true then te σ2 H3 Kt else Kf H3)
    (hd : Qd (upd H1 D (.lst (xs.filterMap F)))) :
    ∃ W : Nat → Nat → Hp → Prop, (∃ m, W 0 m (upd H1 D (.lst []))) ∧ ∀ i m H, W i m H →
      (J.stop i H ∧ Qd H) ∨ (J.go i H ∧ ∃ Nx : Hp → Prop, (∀ H', Nx H' → ∃ m', m' < m ∧ W (i + 1) m' H') ∧ ∀ x H', J.yld i H x H' → g x (wipe σ vs) H' fun σ2 H2 => wipe σ2 vs = wipe σ vs ∧ tt σ2 H2 fun b H3 =>
        if b = true then te σ2 H3 fun y H4 => ∃ acc, H4 D = some (.lst acc) ∧ acc.length < sizeLine ∧ Nx (upd H4 D (.lst (acc ++ [y]))) else Nx H3) := by
  refine lc_it w (fun i H => H = upd H1 D (.lst ((xs.take i).filterMap F))) rfl (fun i H _ e => by subst e; exact hG _ (same_new hD)) ?_ ?_
  · rintro i x H H' hi rfl y
    obtain ⟨rfl, hx⟩ := hY i _ x H' hi y
    refine hs x (List.mem_of_getElem? hx) _ (same_new hD) _ _ (fun y e => ?_) fun e => ?_
    · refine ⟨_, upd_same, ?_, ?_⟩
      · have h1 : ((xs.take i).filterMap F).length ≤ (xs.take i).length := List.length_filterMap_le ..
        have h2 : (xs.take i).length ≤ xs.length := by rw [List.length_take]; omega
        omega
      · rw [upd_upd, filterMap_take F xs hx, e]
        rfl
    · show _ = _
      rw [filterMap_take F xs hx, e]
      simp
  · rintro H rfl
    rw [hn, List.take_length]
    exact hd
theorem yat (xs : List V) : ∀ i H x H', i < xs.length → YAt xs i H x H' → H' = H ∧ xs[i]? = some x := fun _ _ _ _ _ h => h
/-- the signs of a text as values -/
def sgV (z : Str) : List V := z.cps.toList.map fun c => V.str (sg c)
theorem ystr (z : Str) : ∀ i (H : Hp) (x : V) (H' : Hp), i < z.cps.size → (H' = H ∧ ∃ c, z.cps[i]? = some c ∧ x = .str ⟨#[c]⟩) → H' = H ∧ (sgV z)[i]? = some x := by
  rintro i H x H' hi ⟨rfl, c, hc, rfl⟩
  refine ⟨rfl, ?_⟩
  unfold sgV
  rw [List.getElem?_map, Array.getElem?_toList, hc]
  rfl
theorem yrange (lo : Int) (n : Nat) : ∀ i (H : Hp) (x : V) (H' : Hp), i < n → YFn (fun i => .int (lo + i)) i H x H' → H' = H ∧ ((List.range n).map fun i => V.int (lo + (i : Nat)))[i]? = some x := by
  rintro i H x H' hi ⟨rfl, rfl⟩
  refine ⟨rfl, ?_⟩
  rw [List.getElem?_map, List.getElem?_range hi]
  rfl
/-! ### texts as data -/
theorem IsNm.ok {x : Str} (h : IsNm x) : PyData.strOk x = true := by
  unfold PyData.strOk
  rw [Array.all_eq_true_iff_forall_mem]
  intro c hc
  have := h.az c (Array.mem_toList_iff.mpr hc)
  simp
  omega
theorem dp_strs {K : PySem.W.Frag} {H : Hp} : ∀ xs : List Str, DpAll K H (xs.map V.str) (xs.map PyData.str)
  | [] => .nil
  | _ :: r => .cons (.str _) (dp_strs r)
theorem lay_strs : ∀ xs : List Str, (∀ x ∈ xs, PyData.strOk x = true) → PyData.canLayAll0 (xs.map PyData.str) = true
  | [], _ => by simp [PyData.canLayAll0]
  | x :: r, h => by
    simp only [List.map_cons, PyData.canLayAll0, PyData.canLay0, Bool.and_eq_true]
    exact ⟨h x (List.mem_cons_self ..), lay_strs r fun y hy => h y (List.mem_cons_of_mem _ hy)⟩
theorem deep_strs : ∀ xs : List Str, PyData.depthAll (xs.map PyData.str) = 0
  | [] => by simp [PyData.depthAll]
  | _ :: r => by simp [PyData.depthAll, PyData.depth, deep_strs r]
theorem shaped_strs {xs : List Str} (h : ∀ x ∈ xs, PyData.strOk x = true) : SeqAt.shaped (.list (xs.map PyData.str)) = true := by
  unfold SeqAt.shaped
  simp [PyData.canLay0, lay_strs xs h, PyData.depth, deep_strs]
theorem eqv_list_nil (ds : List PyData) : PyData.eqv (.list ds) (.list []) = ds.isEmpty := by
  cases ds <;> simp [PyData.eqv, PyData.eqvAll]
theorem inV_str (x : Str) (xs : List Str) : inV (.str x) (xs.map V.str) = decide (x ∈ xs) := by
  unfold inV
  induction xs with
  | nil => rfl
  | cons a r ih =>
    rw [List.map_cons, List.any_cons, ih]
    show (a == x || _) = _
    by_cases h : a = x
    · subst h; simp
    · have h' : ¬ x = a := fun e => h e.symm
      simp [h, h']
theorem flat_strs (xs : List Str) : (xs.map V.str).all flatV = true := by
  rw [List.all_eq_true]
  intro v hv
  obtain ⟨x, _, rfl⟩ := List.mem_map.mp hv
  rfl
/-! ### slices of names -/
theorem cut_to (x : Str) (k : Nat) : (cutS x none (some (k : Int))).cps.toList = x.cps.toList.take k := by
  unfold cutS
  show (x.cps.toList.drop 0).take (HT.sIx x.length x.length (some (k : Int)) - 0) = _
  have e : HT.sIx x.length x.length (some (k : Int)) = min k x.length := by
    exact HT.sIx_nat _ _ _
  rw [e, List.drop_zero, Nat.sub_zero]
  have e2 : x.length = x.cps.toList.length := TL.len_tl x
  rw [e2, ← List.take_eq_take_min]
theorem app_tl (x y : Str) : (x ++ y).cps.toList = x.cps.toList ++ y.cps.toList := TL.tl_append x y
/-! ### a name that is not there yet -/
theorem len_le_of_sub {α : Type} [BEq α] [LawfulBEq α] : ∀ {l m : List α}, l.Nodup → (∀ x ∈ l, x ∈ m) → l.length ≤ m.length
  | [], _, _, _ => Nat.zero_le _
  | a :: r, m, nd, h => by
    have ha := h a (List.mem_cons_self ..)
    have nd' := List.nodup_cons.mp nd
    have := len_le_of_sub (l := r) (m := m.erase a) nd'.2 fun x hx => by
      have hne : x ≠ a := fun e => nd'.1 (e ▸ hx)
      exact (List.mem_erase_of_ne hne).mpr (h x (List.mem_cons_of_mem _ hx))
    rw [List.length_erase_of_mem ha] at this
    have hp : 0 < m.length := List.length_pos_of_mem ha
    show r.length + 1 ≤ m.length
    omega
/-- the candidates: the word, its first seven signs and each letter -/
def nearOf (x : Str) : List Str := x :: (Str.ofString "abcdefghijklmnopqrstuvwxyz").cps.toList.map fun c => cutS x none (some 7) ++ sg c
theorem letters_all : ∀ c ∈ (Str.ofString "abcdefghijklmnopqrstuvwxyz").cps.toList, 97 ≤ c ∧ c ≤ 122 := by decide +kernel
theorem letters_nd : (Str.ofString "abcdefghijklmnopqrstuvwxyz").cps.toList.Nodup := by decide +kernel
theorem letters_len : (Str.ofString "abcdefghijklmnopqrstuvwxyz").cps.toList.length = 26 := by decide +kernel
theorem nm_len {x : Str} : x.length = x.cps.toList.length := TL.len_tl x
theorem nm_cut {x y : Str} (hx : IsNm x) (hy : ∀ c ∈ y.cps.toList, 97 ≤ c ∧ c ≤ 122) (h1 : y.cps.toList.length = 1) : IsNm (cutS x none (some 7) ++ y) := by
  have e : (cutS x none (some 7) ++ y).cps.toList = x.cps.toList.take 7 ++ y.cps.toList := by
    rw [app_tl]
    exact congrArg (· ++ _) (cut_to x 7)
  refine ⟨?_, ?_, fun c hc => ?_⟩
  · rw [nm_len, e, List.length_append]; omega
  · rw [nm_len, e, List.length_append, List.length_take]; omega
  · rw [e] at hc
    rcases List.mem_append.mp hc with h | h
    · exact hx.az c (List.mem_of_mem_take h)
    · exact hy c h
theorem near_nm {x : Str} (hx : IsNm x) : ∀ y ∈ nearOf x, IsNm y := by
  intro y hy
  rcases List.mem_cons.mp hy with rfl | hy
  · exact hx
  · obtain ⟨c, hc, rfl⟩ := List.mem_map.mp hy
    refine nm_cut hx (fun d hd => ?_) rfl
    have : d = c := by simpa [sg] using hd
    rw [this]
    exact letters_all c hc
theorem sg_inj {a : Str} {c d : Nat} (h : a ++ sg c = a ++ sg d) : c = d := by
  have e := congrArg (fun z : Str => z.cps.toList) h
  have e2 : a.cps.toList ++ (sg c).cps.toList = a.cps.toList ++ (sg d).cps.toList := by rw [← app_tl, ← app_tl]; exact e
  have e3 := List.append_cancel_left e2
  simpa [sg] using e3
theorem near_new {x : Str} {xs : List Str} (h : xs.length ≤ 25) : (nearOf x).filterMap (fun y => if y ∈ xs then none else some y) ≠ [] := by
  intro e
  have all : ∀ y ∈ nearOf x, y ∈ xs := fun y hy => by
    by_cases hm : y ∈ xs
    · exact hm
    · have := List.filterMap_eq_nil_iff.mp e y hy
      rw [if_neg hm] at this
      cases this
  have nd : ((Str.ofString "abcdefghijklmnopqrstuvwxyz").cps.toList.map fun c => cutS x none (some 7) ++ sg c).Nodup := by
    rw [List.nodup_iff_pairwise_ne, List.pairwise_map]
    exact List.Pairwise.imp (fun {a b} hne he => hne (sg_inj he)) (List.nodup_iff_pairwise_ne.mp letters_nd)
  have := len_le_of_sub nd fun y hy => all y (List.mem_cons_of_mem _ hy)
  rw [List.length_map, letters_len] at this
  omega
theorem IsNm.fit {x : Str} (h : IsNm x) : x.length ≤ sizeLine := Nat.le_trans h.hi (by decide)
theorem nm_both {x y : Str} (hx : IsNm x) (hy : IsNm y) : IsNm (cutS x none (some 7) ++ cutS y none (some 1)) := by
  have e : (cutS y none (some 1)).cps.toList = y.cps.toList.take 1 := cut_to y 1
  refine nm_cut hx (fun c hc => ?_) ?_
  · rw [e] at hc
    exact hy.az c (List.mem_of_mem_take hc)
  · rw [e, List.length_take]
    have := hy.lo
    rw [nm_len] at this
    omega
theorem cut_len (x : Str) (k : Nat) : (cutS x none (some (k : Int))).length ≤ k := by
  rw [nm_len, cut_to, List.length_take]
  omega
abbrev alpha : Str := Str.ofString "abcdefghijklmnopqrstuvwxyz"
def glue7 (y : Str) (v : V) : Option V := match v with
  | .str s => some (.str (cutS y none (some 7) ++ s))
  | _ => none
theorem near_map (y : Str) : [V.str y] ++ (sgV alpha).filterMap (glue7 y) = (nearOf y).map V.str := by
  unfold nearOf sgV
  rw [List.map_cons, List.map_map]
  show V.str y :: _ = V.str y :: _
  refine congrArg (V.str y :: ·) ?_
  generalize alpha.cps.toList = l
  induction l with
  | nil => rfl
  | cons a r ih =>
    rw [List.map_cons, List.map_cons, List.filterMap_cons]
    exact congrArg (V.str _ :: ·) ih
def leftOut (xs : List Str) (v : V) : Option V := if inV v (xs.map V.str) = true then none else some v
theorem left_map (xs : List Str) (l : List Str) : (l.map V.str).filterMap (leftOut xs) = (l.filterMap fun s => if s ∈ xs then none else some s).map V.str := by
  induction l with
  | nil => rfl
  | cons a r ih =>
    rw [List.map_cons, List.filterMap_cons, List.filterMap_cons, ih]
    unfold leftOut
    rw [inV_str]
    by_cases h : a ∈ xs
    · simp [h]
    · simp [h]
theorem sgV_len : (sgV alpha).length = 26 := by decide +kernel
def spNames (K : PySem.W.Frag) : Sp := fun vs H Q _ => ∃ (p c : Addr) (ms : List Int) (t : Nat) (z n : Int), vs = [.ref p, .int n] ∧ Pen H p c ms t z ∧ t < 800000 ∧ 0 ≤ n ∧ n ≤ 25 ∧
  ∀ (xs : List Str) (f : Addr) (H' : Hp) (t' : Nat) (z' : Int), xs.length = n.toNat → (∀ x ∈ xs, IsNm x) → xs.Nodup → H f = none → H' f = some (.lst (xs.map V.str)) → But p H H' → Pen H' p c ms t' z' → t' ≤ t + 12 * n.toNat → Q (.ref f) H'
/-- whether a text is a name -/
def nmB (x : Str) : Bool := decide (1 ≤ x.length) && (decide (x.length ≤ 8) && x.cps.toList.all fun c => decide (c ∈ alpha.cps.toList))
theorem letter_iff {c : Nat} : c ∈ alpha.cps.toList ↔ 97 ≤ c ∧ c ≤ 122 := by
  refine ⟨letters_all c, fun h => ?_⟩
  have e := letters_at (j := c - 97) (by omega)
  rw [show 97 + (c - 97) = c by omega] at e
  exact List.mem_of_getElem? e
theorem nmB_iff {x : Str} : nmB x = true ↔ IsNm x := by
  unfold nmB
  rw [Bool.and_eq_true, Bool.and_eq_true, decide_eq_true_eq, decide_eq_true_eq, List.all_eq_true]
  constructor
  · rintro ⟨h1, h2, h3⟩
    exact ⟨h1, h2, fun c hc => letter_iff.mp (of_decide_eq_true (h3 c hc))⟩
  · intro h
    exact ⟨h.lo, h.hi, fun c hc => decide_eq_true (letter_iff.mpr (h.az c hc))⟩
def spIsName (K : PySem.W.Frag) : Sp := fun vs H Q _ => ∃ (v : V), vs = [v] ∧ ((∃ x, v = .str x ∧ x.length ≤ sizeLine ∧ ∀ H', Same H H' → Q (.bl (nmB x)) H') ∨
  ∃ t, TyX K H v t ∧ PySem.W.kitOne K t (.type "str") = some false ∧ Q (.bl false) H)
end Z
namespace Z
open PySem PySem.Spec PyProof.Rows L2
/-! ### defs that may ask for a repr: nothing is being shown around them -/
structure FnG (P : Program) (w : World) (K : PySem.W.Frag) (mg : Str → Option Value) (base : Heap) (CX : CXT) (k : Nat) (f : Addr) (fd : FuncData) (ps : List Str) (sp : Sp) : Prop where
  len : ∀ vs H Q E, sp vs H Q E → vs.length = ps.length
  run : ∀ (A : Around) (outer : List Env) (s : Shared) (H : Hp) (args : Args) (us : List Value) (vs : List V) (Q : VK) (E : XK), A.guards = some [] → Room k A → Env0 P w K mg base A outer s H → BindsTo s fd args (ps.zip us) → Vals vs us → sp vs H Q E → codeAny (model P w) A (.call (.ref f) args) (CR CX outer P w H s Q E) s
theorem FnG.of {P : Program} {w : World} {K : PySem.W.Frag} {mg : Str → Option Value} {base : Heap} {CX : CXT} {k : Nat} {f : Addr} {fd : FuncData} {ps : List Str} {sp : Sp} (F : FnOk P w K mg base CX k f fd ps sp) : FnG P w K mg base CX k f fd ps sp :=
  ⟨F.len, fun A outer s H args us vs Q E _ hr => F.run A outer s H args us vs Q E hr⟩
theorem FnG.mono {P : Program} {w : World} {K : PySem.W.Frag} {mg : Str → Option Value} {base : Heap} {CX : CXT} {j k : Nat} {f : Addr} {fd : FuncData} {ps : List Str} {sp : Sp} (F : FnG P w K mg base CX j f fd ps sp) (h : j ≤ k) : FnG P w K mg base CX k f fd ps sp :=
  ⟨F.len, fun A outer s H args us vs Q E hg hr => F.run A outer s H args us vs Q E hg (hr.mono h)⟩
section
variable {P : Program} {w : World} {K : PySem.W.Frag} {mg : Str → Option Value} {base : Heap} {x qual : Str} {params : Arguments} {body : List Stmt} {scope : Scope} {dvs : List V} {kws : List (Str × V)} {f : Addr} {fd : FuncData}
theorem okG {CX : CXT} {N ps : List Str} {k : Nat} {sp : Sp} (F : FunD K x qual params body scope dvs kws f fd) (S : FnScope N ps scope) (len : ∀ vs H Q E, sp vs H Q E → vs.length = ps.length)
    (hbody : ∀ (cdv : Value) (A : Around) (outer : List Env) (s : Shared) (H : Hp) (vs : List V) (Q : VK) (E : XK), A.guards = some [] → Room k (A.deeper (envOfC qual scope s.heap.objs.size f cdv)) → sp vs H Q E →
      ∃ t, PSs (cxOf CX P w K mg base N qual scope f cdv A outer s H E) body t ∧ t { nx := fun _ H' => Q .non H', rt := Q } (start N vs) H) : FnG P w K mg base CX (k + 1) f fd ps sp := by
  obtain ⟨oc, od, dV, kV, doc, pm, an, cdv, ct, osl, rfl, lk, hcd, _, _⟩ := F.ex
  constructor
  · exact len
  intro A outer s H args us vs Q E hgu hr e0 hb r hsp
  have hlen := len _ _ _ _ hsp
  have kx : K.In s.heap := e0.mod.kin.keeps (fun b o e => (e0.bs b o e).1)
  have nol : s.heap.NoLimit := e0.mod.nolimit.keeps (fun b o e => (e0.bs b o e).1)
  have kinds : ∀ y ∈ ps.zip us, scope.names.lookup y.1 = some .local ∨ (scope.names.lookup y.1 = some .cell ∧ ((cellsFrom (s.heap.objs.size + 1) scope.names []).lookup y.1).isSome = true) := by
    rintro ⟨n, v⟩ hy
    cases S.par n (List.of_mem_zip hy).1 with
    | inl q => exact Or.inl q
    | inr q => exact Or.inr ⟨q, PySem.W.cellsFrom_some _ _ _ (Or.inl q)⟩
  refine codeAny_call_function hr.depth (kx _ _ lk) rfl S.co S.gen rfl (PySem.W.codeRec_of kx hcd) ?_
  refine hb _ _ _ _ (wpAny_newFunctionEnv_cells S.kind kinds ?_)
  rintro env rfl s1 x1
  refine ⟨nol.keeps x1.toInCall.keep, ?_⟩
  obtain ⟨t, ht, hq⟩ := hbody cdv A outer s H vs Q E hgu (hr.deeper _) hsp
  have I : Inv (cxOf CX P w K mg base N qual scope f cdv A outer s H E) [] (start N vs) H s1 := inv_start S hr.hd e0 hlen r x1
  refine codeAny_func (wpAny_mono (ht.run [] s1 (start N vs) H _ I hq) (fun fl s' hs => ?_) (fun _ _ z => z))
  have ends : ∀ {σ' : L2.St} {H' : Hp} {v : V} {u : Value}, Inv (cxOf CX P w K mg base N qual scope f cdv A outer s H E) [] σ' H' s' → RelV v u → Q v H' → CE outer P w H s Q u s' := by
    intro σ' H' v u J rv q
    exact ⟨v, H', J.os, J.bare, J.base, J.hok, rv, q⟩
  match fl, hs with
  | .ret u, ⟨v, σ', H', J, rv, q⟩ => exact ends J rv q
  | .next, ⟨σ', H', J, q⟩ => exact ends (v := .non) (u := .none) J rfl q
  | .brk, ⟨_, _, _, q⟩ => exact q.elim
  | .cont, ⟨_, _, _, q⟩ => exact q.elim
end
/-- a def of the module that may show things -/
structure DefG (P : Program) (w : World) (K : PySem.W.Frag) (mg : Str → Option Value) (base : Heap) (k : Nat) (x : Str) (ps : List Str) (sp : Sp) : Prop where
  ex : ∃ fd, FnG P w K mg base CX0 k (He.ga K x) fd ps sp ∧ Binds K fd ps []
  kp : PySem.W.keepIn K (.ref (He.ga K x)) = true
  at_ : mg x = some (.ref (He.ga K x))
theorem run_fnG {X : Cx} {CX : CXT} {k : Nat} {f : Addr} {fd : FuncData} {ps : List Str} {sp : Sp} {ds : List Value} {dvs : List V} {E : XK} {pins : List (Addr × Obj)} {σ : L2.St} {H : Hp} {s : Shared} {Q : VK} {us : List Value} {vs : List V}
    (F : FnG X.prog X.w X.K X.mg X.base CX k f fd ps sp) (hgu : X.A.guards = some []) (hr : Room k X.A) (hb : Binds X.K fd ps ds) (hd : Vals dvs ds) (hx : Passes CX X E) (I : Inv X pins σ H s) (r : Vals vs us) (h : sp (vs ++ dvs) H Q E) :
    wpAny (model X.prog X.w) X.A (call (.ref f) us) (EP X pins σ Q) X.xe s := by
  have both : Vals (vs ++ dvs) (us ++ ds) := r.append hd
  have hlen : (us ++ ds).length = ps.length := (both.length.symm).trans (F.len _ _ _ _ h)
  refine wpAny_call ?_
  refine codeAny_mono (F.run X.A X.stack s H ⟨us, []⟩ (us ++ ds) (vs ++ dvs) Q E hgu hr I.env0 (hb s us I.kIn hlen) both h) ?_
  intro res s' hq
  match res, hq with
  | .error e, hq => exact hx pins σ H s e s' I hq
  | .ok (.ret u), hq => exact I.after hq
  | .ok .next, hq => exact hq.elim
  | .ok .brk, hq => exact hq.elim
  | .ok .cont, hq => exact hq.elim
theorem pe_defG {X : Cx} {k : Nat} {x : Str} {ps : List Str} {sp : Sp} {e : Expr} {es : List Expr} {p pos : Pos} {t : TA} (D : DefG X.prog X.w X.K X.mg X.base k x ps sp) (hgu : X.A.guards = some []) (hr : Room k X.A) (hg : Gl X x) (ha : PA X (e :: es) t)
    (hdb : (x == ("__debug__" : Str)) = false := by decide) (he : starEach (e :: es) X.env = (false, eval e X.env) :: starEach es X.env := by rfl) (hpl : (backTo pos (starEach es X.env)).any (·.1) = false := by rfl) :
    PE X (.Call (.Name x p) (e :: es) [] pos) (tCall sp [] E0 t) := by
  obtain ⟨fd, F, b⟩ := D.ex
  exact ⟨fun pins s σ H Q I h => wpAny_Call_Name_kw (ld_glob I hg D.at_ (PySem.W.callWith_K (h₀ := X.base) I.ok.mod.kin D.kp
    (thn (ha.run pos pins s σ H _ I h) fun us s1 ⟨vs, H1, I1, r, q⟩ => ⟨I1.kIn, run_fnG F hgu hr b .nil pass0 I1 r q⟩) he hpl) hdb)⟩
/-! ### repr of data -/
def rRepr (K : PySem.W.Frag) : List V → Hp → VK → Prop := fun xs H Q => ∃ x d, xs = [x] ∧ Dp K H x d ∧ PyData.showable d = true ∧ PyData.hasDict d = false ∧ d.depth ≤ 64 ∧ d.shown.length ≤ sizeLine ∧ Q (.str d.shown) H
theorem kcall_repr {X : Cx} {K : PySem.W.Frag} (hgu : X.A.guards = some []) (hu : X.A.units + 70 < cLine) (hK : X.K = K := by rfl) : CallR X (.builtin "repr") (rRepr K) := by
  subst hK
  rintro pins s σ H xs us Q I r ⟨x, d, rfl, hd, hs, hn, hdep, hz, q⟩
  cases r with
  | cons r1 rs =>
    cases rs
    rename_i u
    have fin : ∀ (h' : Heap) (y : Tok) (tk : Nat), (∀ b o, s.heap.get? b = some o → h'.get? b = some o) → EP X pins σ Q (.str d.shown y) { s with heap := h', toks := tk } := fun h' y tk hk => ⟨.str d.shown, H, I.kept hk, ⟨y, rfl⟩, q⟩
    have fin0 : ∀ (y : Tok) (tk : Nat), EP X pins σ Q (.str d.shown y) { s with toks := tk } := fun y tk => fin s.heap y tk fun _ _ e => e
    cases hd with
    | non => cases r1; exact PySem.P.repr_of_none (fin0 _ _)
    | bl b => cases r1; exact PySem.P.repr_of_bool (fin0 _ _)
    | int i =>
      obtain ⟨t, rfl⟩ := r1
      exact PySem.P.repr_of_int (by simpa [PyData.showable] using hs) (fin0 _ _)
    | str z =>
      obtain ⟨t, rfl⟩ := r1
      exact PySem.P.repr_of_str (fin0 _ _) hz
    | lst hq ha =>
      obtain ⟨as, rd⟩ := Dp.reads I _ _ _ (Dp.lst hq ha) r1
      cases r1
      exact repr_of_reads' rd hs (PyData.noDict_hsm hn) hgu (by omega) (fun _ _ e => e) (fun h' y tk hk => fin h' y tk hk) hz
    | tup hq ha =>
      obtain ⟨as, rd⟩ := Dp.reads I _ _ _ (Dp.tup hq ha) r1
      cases r1
      exact repr_of_reads' rd hs (PyData.noDict_hsm hn) hgu (by omega) (fun _ _ e => e) (fun h' y tk hk => fin h' y tk hk) hz
/-! ### a law whose def may show things -/
theorem law_callG {P : Program} {w : World} {K : PySem.W.Frag} {mg mb : Str → Option Value} {CX : CXT} {k : Nat} {fa a : Addr} {fd : FuncData} {x : Str} {sp : Sp} {s₁ : Shared} {vs : List Value} {ns : List Int}
    (KX : K.In s₁.heap) (hns : s₁.heap.Ns mainGlobals mg) (hb : s₁.heap.Ns builtinsNs mb) (hbb : ∀ x : Str, x ≠ "__name__" → mb x = bootBuiltins x) (hlim : s₁.heap.NoLimit) (hgens : s₁.gens = #[])
    (ha : s₁.heap.get? a = some { cls := .type "list", data := .seq vs.toArray }) (hi : IntsAre vs ns) (hl : ns.length ≤ sizeLine) (hr : Room k callerA)
    (F : ∀ base : Heap, K.In base → base.Ns mainGlobals mg → FnG P w K mg base CX k fa fd [x] sp) (hbind : ∀ (s : Shared) (u : Value), BindsTo s fd ⟨[u], []⟩ [(x, u)])
    (hsp : ∀ H : Hp, Only H → SqL K H a (ns.map V.int) → sp [.ref a] H (fun v _ => v = .bl true) fun _ _ _ => False) (hCX : ∀ H e s', CX [] H s₁ (fun _ _ _ => False) e s' → False) :
    codeAny (model P w) callerA (.call (.ref fa) ⟨[.ref a], []⟩) (fun r s' => r = .ok (.ret (.bool true)) ∧ OldK s₁.heap s'.heap ∧ s'.os = s₁.os ∧ AllBare s'.gens) s₁ := by
  have relV := vals_ints hi
  have sameLen := hi.length
  have main : ∀ H : Hp, Only H → SqL K H a (ns.map V.int) → HOk P w H s₁.heap → (∀ b, H b ≠ none → b = a) → (H a ≠ none → K.lookup a = none) →
      codeAny (model P w) callerA (.call (.ref fa) ⟨[.ref a], []⟩) (fun r s' => r = .ok (.ret (.bool true)) ∧ OldK s₁.heap s'.heap ∧ s'.os = s₁.os ∧ AllBare s'.gens) s₁ := by
    intro H hO hS hok onlyA freeK
    have seen : ∀ {b : Addr} {o : Obj}, s₁.heap.get? b = some o → H b = none → (hidT s₁.heap H).get? b = some o := by
      intro b o e n
      exact hidT_get e n
    have noDict : ∀ {b : Addr} {o : Obj} {es : Array DictEntry} {ep : Nat}, s₁.heap.get? b = some o → o.data = .dict es ep → H b = none := by
      intro b o es ep e d
      cases q : H b with
      | none => rfl
      | some u =>
        have eb : b = a := onlyA b (by rw [q]; simp)
        subst eb
        rw [ha] at e
        cases e
        have d2 : Data.seq vs.toArray _ = Data.dict es ep := d
        cases d2
    have nsKeep : ∀ {b : Addr} {m : Str → Option Value}, s₁.heap.Ns b m → (hidT s₁.heap H).Ns b m := by
      rintro b m ⟨o, es, ep, e, d, r⟩
      exact ⟨o, es, ep, seen e (noDict e d), d, r⟩
    have kBase : K.In (hidT s₁.heap H) := by
      intro b o e
      refine seen (KX b o e) ?_
      cases q : H b with
      | none => rfl
      | some u =>
        have eb : b = a := onlyA b (by rw [q]; simp)
        subst eb
        rw [freeK (by rw [q]; simp)] at e
        cases e
    have theMod : Mod K mg (hidT s₁.heap H) := ⟨kBase, nsKeep hns, ⟨mb, nsKeep hb, hbb⟩, let ⟨mc, h1, h2⟩ := hlim; ⟨mc, nsKeep h1, h2⟩⟩
    have start0 : Env0 P w K mg (hidT s₁.heap H) callerA [] s₁ H :=
      ⟨rfl, theMod, fun b o e => of_hidT e, Nat.le_of_eq (hidT_size _ _), trivial, fun b hb => absurd (show b ∈ ([] : List Addr) from hb) (by simp), hok, .of_eq hgens⟩
    have ran := (F _ kBase (nsKeep hns)).run callerA [] s₁ H ⟨[.ref a], []⟩ [.ref a] [.ref a] _ _ rfl hr start0 (hbind s₁ (.ref a)) (.cons rfl .nil) (hsp H hO hS)
    refine codeAny_mono ran ?_
    intro r s' h
    match r, h with
    | .error e, h => exact (hCX H e s' h).elim
    | .ok .next, h => exact h.elim
    | .ok .brk, h => exact h.elim
    | .ok .cont, h => exact h.elim
    | .ok (.ret u), ⟨v, H', os, bare, un, hok', rv, q⟩ =>
      have hv : v = .bl true := q
      subst hv
      obtain rfl : u = Value.bool true := rv
      refine ⟨rfl, OldK.of_keep (fun b o e => ?_), os, bare⟩
      cases q : H b with
      | none => exact un.keep b o e q (by intro z; exact absurd (show b ∈ ([] : List Addr) from z) (by simp)) (by simp)
      | some u =>
        cases hO b with
        | inl z => rw [q] at z; cases z
        | inr z =>
          obtain ⟨ob, xs, z⟩ := z
          obtain ⟨e1, _⟩ := hok b _ z
          obtain ⟨e2, _⟩ := hok' b _ (un.frzs b ob _ z)
          rw [e] at e1
          cases e1
          exact e2
  cases hk : K.lookup a with
  | some o =>
    have e := KX a o hk
    rw [ha] at e
    cases e
    exact main (fun _ => none) (fun _ => .inl rfl) (.inr ⟨_, vs.toArray, _, hk, rfl, rfl, rfl, by rw [List.size_toArray, sameLen]; exact hl, by simpa using relV⟩) (fun b u z => nomatch (show (none : Option HO) = some u from z)) (fun b z => absurd rfl z) (fun z => absurd rfl z)
  | none =>
    refine main (fun b => if b = a then some (.frz { cls := .type "list", data := .seq vs.toArray } (.lst (ns.map V.int))) else none) ?_ (.inl (.inr ⟨{ cls := .type "list", data := .seq vs.toArray }, if_pos rfl⟩)) ?_ ?_ (fun _ => hk)
    · intro b
      by_cases eb : b = a
      · exact .inr ⟨_, _, if_pos eb⟩
      · exact .inl (if_neg eb)
    · intro b u z
      by_cases eb : b = a
      · have z2 := (if_pos eb).symm.trans z
        cases z2
        subst eb
        exact ⟨ha, by rw [List.length_map]; exact hl, vs, _, relV, ha⟩
      · have z2 := (if_neg eb).symm.trans z
        cases z2
    · intro b z
      by_cases eb : b = a
      · exact eb
      · exact absurd (if_neg eb) z
/-- the end over a head by facts -/
theorem walk_G {l : PySem.W.OpenLaw} {n k : Nat} {q : Program} {loose : List Str} {XP : (Str → Option Value) → Heap → Prop} {YP : World → Heap → Prop} {d : DefRec} {CX : CXT} {x : Str} (hn : l.most = some n) (hn2 : n ≤ sizeLine) (hdf : d.params.defaults = []) (hr : Room k callerA)
    (F : ∀ (w : World) (mg : Str → Option Value) (fa : Addr) (h : Heap), YP w h → h.Ns mainGlobals mg → mg d.name = some (.ref fa) → ∃ (K : PySem.W.Frag) (fd : FuncData) (sp : Sp), K.In h ∧ (∀ (s : Shared) (u : Value), BindsTo s fd ⟨[u], []⟩ [(x, u)]) ∧
        (∀ (H : Hp) (a : Addr) (ns : List Int), ns.length ≤ n → Only H → SqL K H a (ns.map V.int) → sp [.ref a] H (fun v _ => v = .bl true) fun _ _ _ => False) ∧ ∀ base : Heap, K.In base → base.Ns mainGlobals mg → FnG l.prog w K mg base CX k fa fd [x] sp)
    (hCX : ∀ (H : Hp) (s : Shared) (e : Value) (s' : Shared), CX [] H s (fun _ _ _ => False) e s' → False) : PySem.W.WalkO q loose XP YP l.row.toRowW d [] (fun f vs => PySem.call f vs) := by
  refine Att.attach_call hn hdf ?_
  intro w s₀ s₁ mg mb fa o pm cd doc a vs ns G Y ho hd hcd hmg hobj hints hlen hg
  obtain ⟨K, fd, sp, kx, hbd, hsp, hF⟩ := F w mg fa _ Y G.T.g hmg
  exact law_callG kx G.T.g G.T.b G.T.builtins G.T.nolimit hg hobj hints (Nat.le_trans hlen hn2) hr hF hbd (fun H hO hS => hsp H a ns hlen hO hS) (fun H e s' => hCX H s₁ e s')
end Z
namespace Z
open PySem PySem.Spec PyProof.Rows L2
/-! ### comparisons by an own method -/
/-- a method of an own class keeps its promise -/
structure DefM (P : Program) (w : World) (K : PySem.W.Frag) (mg : Str → Option Value) (base : Heap) (k : Nat) (f : Addr) (ps : List Str) (sp : Sp) : Prop where
  ex : ∃ fd, FnOk P w K mg base CX0 k f fd ps sp ∧ Binds K fd ps []
/-- x op y by the method of x's class: what it is handed, what it gives back (a truth value) -/
def rOwn (K : PySem.W.Frag) (C : Addr) (sp : Sp) : R2 := fun x y H Q => ∃ (a dx : Addr) (fs : List (Str × V)) (tb : Value), x = .ref a ∧ H a = some (.ins C dx fs) ∧ TyX K H y tb ∧ PySem.W.notFirst K C tb = true ∧ sp [.ref a, y] H (fun v H' => ∃ b, v = .bl b ∧ Q (.bl b) H') E0
theorem op_own {X : Cx} {K : PySem.W.Frag} {op : CmpOp} {C f : Addr} {k : Nat} {ps : List Str} {sp : Sp} (D : DefM X.prog X.w K X.mg X.base k f ps sp) (hr : Room k X.A) (hs : PySem.W.findIn K (.ref C) (cmpInfo op).2.1 = some (some (.ref f))) (hf : PySem.W.isFn K (.ref f) = true)
    (ho : ∀ u v, compareOp op u v = richCompare op u v := by intro _ _; rfl) (hK : X.K = K := by rfl) : OpR X (compareOp op) (rOwn K C sp) := by
  subst hK
  obtain ⟨fd, F, hb⟩ := D.ex
  rintro pins s σ H x y v u Q I rx ry ⟨a, dx, fs, tb, rfl, ha, ty, hnf, hq⟩
  cases rx
  obtain ⟨mA, J, _⟩ := ins_get I.hok ha
  obtain ⟨od, J, _⟩ := J.look
  obtain ⟨m, hF⟩ := I.fr
  obtain ⟨Pk, Z1, pk, _⟩ := kit_of I ry ty
  rw [ho]
  refine PySem.W.cmp_K (op := op) (tb := tb) hr.units0 hF I.ok.mod.kin J (Z1.ty (model X.prog X.w) s.heap I.kIn pk) hnf hs hf ?_
  have hv : Vals [V.ref a, y] [Value.ref a, u] := .cons rfl (.cons ry .nil)
  refine wpAny_mono (run_fn F hr hb .nil pass0 I hv hq) (fun r s' z => ?_) (fun _ _ z => z)
  obtain ⟨v', H', I', rv, b, rfl, q⟩ := z
  cases rv
  exact ⟨.bl b, H', I', rfl, q⟩
section
variable {prog : Program} {w : World} {A : Around} {E : Value → Shared → Prop} {s : Shared} {K : PySem.W.Frag} {x C f : Addr} {ox : Obj} {od : Option Obj} {u : Value}
theorem ne_body {Q : Fin → Shared → Prop} (X : K.In s.heap) (I : PySem.W.InstAt s.heap x ox C od) (hs : PySem.W.findIn K (.ref C) "__eq__" = some (some (.ref f))) (hf : PySem.W.isFn K (.ref f) = true) (hu : A.units < cLine)
    (hc : wpAny (model prog w) A (call (.ref f) [.ref x, u]) (fun v s' => ∃ b, v = .bool b ∧ Q (.done (.ret (.bool (!b)))) s') E s) : wpAny (model prog w) A (Builtin.«object.__ne__» ⟨[.ref x, u], []⟩) Q E s := by
  unfold Builtin.«object.__ne__»
  repeat (first
    | (with_reducible refine wpAny_cRoomFor hu ?_)
    | (refine wpAny_bind (m := callSpecialIfBound? (.ref x) (Str.ofString "__eq__") [u]) (PySem.W.ifBound_K X I hs hf (wpAny_mono hc (fun r s' hr => ?_) fun _ _ e => e)))
    | wp_step)
  obtain ⟨b, rfl, hq⟩ := hr
  repeat (first | exact hq | exact wpAny_pure hq | exact wpAny_truthy_bool hq | (refine wpAny_bind (m := truthy (.bool _)) (wpAny_truthy_bool ?_)) | wp_step)
theorem ne_bound {M : Model} {args : List Value} {Q : Option Value → Shared → Prop} (X : K.In s.heap) (I : PySem.W.InstAt s.heap x ox C od) (hn : PySem.W.findIn K (.ref C) "__ne__" = some (some (.builtin "object.__ne__")))
    (h : wpAny M A (call (.builtin "object.__ne__") (.ref x :: args)) (fun v => Q (some v)) E s) : wpAny M A (callSpecialIfBound? (.ref x) "__ne__" args) Q E s := by
  have done : wpAny M A (call (.builtin "object.__ne__") ([.ref x] ++ args) >>= fun v => pure (some v)) Q E s := wpAny_bind (wpAny_mono h (fun v s' h' => wpAny_pure h') fun _ _ h' => h')
  simp only [callSpecialIfBound?, bindSpecialIfBound?]
  refine wpAny_holding (wpAny_bind (wpAny_bind (wpAny_bind (I.type.here ((PySem.W.looks_findIn X hn).here (wpAny_bind (wpAny_askSetting (wpAny_ite ?_))))))))
  split
  · exact wpAny_bind (wpAny_of_eq (F.cmp_object.ne.bind _) (wpAny_pure (by exact done)))
  · exact wpAny_tryCatch (wpAny_bind (wpAny_of_eq (F.cmp_object.ne.bind _) (wpAny_pure (by exact done))))
theorem ne_rich {tb : Value} {Q : Value → Shared → Prop} (hu : A.units + 1 < cLine) (X : K.In s.heap) (I : PySem.W.InstAt s.heap x ox C od) (hm : PySem.W.mroIn K C (.type "object") = some true) (hb : PySem.W.Looks (model prog w) s.heap (typeOf u) tb) (hnf : PySem.W.notFirst K C tb = true)
    (hs : PySem.W.findIn K (.ref C) "__eq__" = some (some (.ref f))) (hf : PySem.W.isFn K (.ref f) = true) (hn : PySem.W.findIn K (.ref C) "__ne__" = some (some (.builtin "object.__ne__")))
    (hc : wpAny (model prog w) A.in1 (call (.ref f) [.ref x, u]) (fun v s' => ∃ b, v = .bool b ∧ Q (.bool (!b)) s') E s) : wpAny (model prog w) A (richCompare .NotEq (.ref x) u) Q E s := by
  have one : wpAny (model prog w) A (tryCompare (.ref x) "__ne__" u) (fun r s' => ∃ v, r = some v ∧ Q v s') E s := by
    unfold tryCompare
    refine wpAny_bind (ne_bound X I hn (wpAny_call (codeAny_call_builtin F.cmp_object.ne.plain F.cmpEntry_ne (PySem.W.check_slot F.cmpKind_ne F.cmpSplit_ne (I.type.andThen (PySem.W.looks_mroIn X hm)) (F.cmpArgs_ne _ _) (ne_body (A := A.in1) X I hs hf hu (wpAny_mono hc (fun v s' hv => ?_) fun _ _ e => e))))))
    obtain ⟨b, rfl, hq⟩ := hv
    first | exact ⟨b, rfl, wpAny_pure ⟨_, rfl, hq⟩⟩ | exact ⟨b, rfl, wpAny_pure (wpAny_pure ⟨_, rfl, hq⟩)⟩ | exact ⟨b, rfl, ⟨_, rfl, hq⟩⟩
  unfold richCompare
  simp only [oneThing_ref]
  refine wpAny_holding (wpAny_bind (wpAny_cRoomFor (by omega) (wpAny_bind (I.type.here (wpAny_bind (hb.here ?_))))))
  split
  · rename_i q
    have e : PySem.W.subIn K tb (.ref C) = some false := by
      cases Bool.or_eq_true_iff.mp hnf with
      | inl e => rw [beq_iff_eq.mp e] at q; simp at q
      | inr e => exact beq_iff_eq.mp e
    refine wpAny_bind ((PySem.W.looks_subIn X e).here ?_)
    simp only [Bool.false_eq_true, if_false]
    refine wpAny_bind (wpAny_mono one (fun r s' z => ?_) (fun _ _ z => z))
    obtain ⟨v, rfl, hq⟩ := z
    exact wpAny_pure hq
  · refine wpAny_bind (wpAny_pure ?_)
    simp only [Bool.false_eq_true, if_false]
    refine wpAny_bind (wpAny_mono one (fun r s' z => ?_) (fun _ _ z => z))
    obtain ⟨v, rfl, hq⟩ := z
    exact wpAny_pure hq
end
/-- x != y by the own == of x's class -/
def rOwnNe (K : PySem.W.Frag) (C : Addr) (sp : Sp) : R2 := fun x y H Q => ∃ (a dx : Addr) (fs : List (Str × V)) (tb : Value), x = .ref a ∧ H a = some (.ins C dx fs) ∧ TyX K H y tb ∧ PySem.W.notFirst K C tb = true ∧ sp [.ref a, y] H (fun v H' => ∃ b, v = .bl b ∧ Q (.bl (!b)) H') E0
theorem op_ownNe {X : Cx} {K : PySem.W.Frag} {C f : Addr} {k : Nat} {ps : List Str} {sp : Sp} (D : DefM X.prog X.w K X.mg X.base k f ps sp) (hr : Room (k + 1) X.A) (hm : PySem.W.mroIn K C (.type "object") = some true)
    (hs : PySem.W.findIn K (.ref C) "__eq__" = some (some (.ref f))) (hf : PySem.W.isFn K (.ref f) = true) (hn : PySem.W.findIn K (.ref C) "__ne__" = some (some (.builtin "object.__ne__"))) (hK : X.K = K := by rfl) : OpR X (compareOp .NotEq) (rOwnNe K C sp) := by
  subst hK
  obtain ⟨fd, F, hb⟩ := D.ex
  rintro pins s σ H x y v u Q I rx ry ⟨a, dx, fs, tb, rfl, ha, ty, hnf, hq⟩
  cases rx
  obtain ⟨mA, J, _⟩ := ins_get I.hok ha
  obtain ⟨od, J, _⟩ := J.look
  obtain ⟨Pk, Z1, pk, _⟩ := kit_of I ry ty
  show wpAny (model X.prog X.w) X.A (richCompare .NotEq (.ref a) u) (EP X pins σ Q) X.xe s
  have hun := hr.units0
  refine ne_rich (by have := hr.un; omega) I.kIn J hm (Z1.ty (model X.prog X.w) s.heap I.kIn pk) hnf hs hf hn ?_
  have e0 : Env0 X.prog X.w X.K X.mg X.base X.A.in1 X.stack s H := by
    have e := I.env0
    exact ⟨e.frames, e.mod, e.bs, e.bsz, e.funs, e.frf, e.hok, e.bare⟩
  have hv : Vals [V.ref a, y] [Value.ref a, u] := .cons rfl (.cons ry .nil)
  have hl : [V.ref a, y].length = ps.length := F.len _ _ _ _ hq
  have bt : BindsTo s fd ⟨[.ref a, u], []⟩ (ps.zip [.ref a, u]) := by
    have := hb s [.ref a, u] I.kIn (by simpa using hl)
    simpa using this
  refine wpAny_call (codeAny_mono (F.run X.A.in1 X.stack s H ⟨[.ref a, u], []⟩ [.ref a, u] [.ref a, y] _ E0 hr.in1 e0 bt hv hq) (fun r s' hq => ?_))
  match r, hq with
  | .error e, hq => exact (show False from hq).elim
  | .ok .next, hq => exact hq.elim
  | .ok .brk, hq => exact hq.elim
  | .ok .cont, hq => exact hq.elim
  | .ok (.ret w), hq =>
    obtain ⟨z, H', I', rz, b, rfl, q⟩ := I.after hq
    cases rz
    exact ⟨b, rfl, .bl (!b), H', I', rfl, q⟩
end Z
namespace Z
open PySem PySem.Spec PyProof.Rows L2
/-! ### a caught exception that is kept -/
/-- a caught exception of the class cls stands at a, its own dict at d -/
def ExK (cls : Value) (d : Option Addr) (a : Addr) : HO := .ext fun h => ∃ (oe : Obj) (vs : Array Value), h.get? a = some oe ∧ Zc cls d oe ∧ oe.data = .fields vs
theorem exK_ok {P : Program} {w : World} {H : Hp} {h : Heap} {a : Addr} {cls : Value} {d : Option Addr} {oe : Obj} {vs : Array Value} (e : h.get? a = some oe) (z : Zc cls d oe) (f : oe.data = .fields vs) : ObjOk P w H h a (ExK cls d a) :=
  ⟨⟨oe, vs, e, z, f⟩, ⟨oe, e⟩, fun h1 h2 ⟨o1, v1, e1, z1, f1⟩ k => ⟨o1, v1, k o1 e1, z1, f1⟩⟩
theorem adopt {X : Cx} {pins : List (Addr × Obj)} {σ : L2.St} {H : Hp} {s : Shared} {a : Addr} {oe : Obj} {o : HO} (I : Inv X ((a, oe) :: pins) σ H s) (hnew : X.s_0.heap.get? a = none) (hp : ∀ p ∈ X.pn ++ pins, p.1 ≠ a) (ok : ObjOk X.prog X.w (upd H a o) s.heap a o) : Inv X pins σ (upd H a o) s := by
  obtain ⟨hget, hna, hnl, hnf, hnc⟩ := I.pin (a, oe) (List.mem_append_right _ (List.mem_cons_self ..))
  have other : ∀ b u, H b = some u → b ≠ a := by
    intro b u e z
    rw [z, hna] at e
    cases e
  have up : ∀ b u, H b = some u → upd H a o b = some u := fun b u e => by rw [upd_ne (other b u e)]; exact e
  refine ⟨I.ok, I.os, I.bare, ⟨I.base.keep, I.base.slot, ?_, I.base.there, ?_, ?_, ?_⟩, I.loc, I.cell, ?_, ?_, ?_, I.hok.laidN (fun _ _ e => e) hna ok, I.len⟩
  · intro b ob e n hx
    have nb : b ≠ a := by
      intro z
      rw [z, hnew] at e
      cases e
    rw [upd_ne nb]
    exact I.base.free b ob e n hx
  · exact fun b xs e => up b _ (I.base.tups b xs e)
  · exact fun b ob u e => up b _ (I.base.frzs b ob u e)
  · intro b ps e
    obtain ⟨more, e2⟩ := I.base.tbls b ps e
    exact ⟨more, up b _ e2⟩
  · rw [upd_ne (Ne.symm hnl)]
    exact I.free
  · intro x c e
    have nc : c ≠ a := by
      rintro rfl
      obtain ⟨v, ob, e2, d2⟩ := I.cell x c e
      have e3 : some oe = some ob := hget.symm.trans e2
      cases e3
      exact hnc v d2
    rw [upd_ne nc]
    exact I.freeC x c e
  · intro p hpp
    obtain ⟨q1, q2, q3⟩ := I.pin p (by
      rcases List.mem_append.mp hpp with z | z
      · exact List.mem_append_left _ z
      · exact List.mem_append_right _ (List.mem_cons_of_mem _ z))
    exact ⟨q1, by rw [upd_ne (hp p hpp)]; exact q2, q3⟩
/-- what the clause wishes: behind the suite the name is gone, and the exception is kept -/
def wKeep (K : PySem.W.Frag) (c : Value) (i : Nat) (ts : Addr → Value → Option Addr → TS) (Wout : WX) (D : Ends) : WX := fun cls d σ H =>
  ∃ b, PySem.W.exmOne K cls c = some b ∧ (b = false → Wout cls d σ H) ∧ (b = true → ∀ a, H a = none → ts a cls d { nx := fun σ' H' => D.nx (σ'.set i none) (upd H' a (ExK cls d a)), rt := fun _ _ => False } (σ.set i (some (.ref a))) H)
theorem ps_try_keep {X : Cx} (hex : X.ex = []) {x n : Str} {c : Value} {i : Nat} {body suite : List Stmt} {b₀ : Stmt} {np pos pos' : Pos} {tb : WX → TS} {ts : Addr → Value → Option Addr → TS} {Wout : WX} (hs : X.stack = X.env :: X.outer) (hf : X.env.frame = some X.env.locals) (hN : X.N.Nodup) (hi : X.N[i]? = some n)
    (hln : X.env.kindOf n = some .local) (hc : Names X x c) (tk : Takes X Wout) (hb : ∀ (W : WX) (pn : List (Addr × Obj)) (xe : Value → Shared → Prop), Takes (X.tr pn xe) W → PassesOwn (model X.prog X.w) X.A X.env xe → PSs (X.tr pn xe) body (tb W))
    (hsu : ∀ (a : Addr) (oe : Obj) (cls : Value) (d : Option Addr) (pn : List (Addr × Obj)), Zc cls d oe → (∃ vs, oe.data = .fields vs) → PSs (X.suite a ((a, oe) :: pn)) (b₀ :: suite) (ts a cls d)) :
    PS X (.Try body [.ExceptHandler (some (.Name x np)) (some n) (b₀ :: suite) pos'] [] [] pos) (fun D σ H => tb (wKeep X.K c i ts Wout D) D σ H) := by
  constructor
  intro pins s σ H D I h
  have okX := I.ok
  have frs0 : X.A.frames = some (X.env :: X.outer) := by rw [okX.frames, hs]
  have locn : Loc X.env.scope n := Or.inl hln
  apply wpAny_Try_except
  have whole := (hb (wKeep X.K c i ts Wout D) (X.pn ++ pins) (fun e s₁ => wpAny (model X.prog X.w) X.A (noteFrame e X.env) (fun _ s₂ => wpAny (model X.prog X.w) X.A (setFlight e none) (fun _ s₃ => wpAny (model X.prog X.w) X.A (handleBy e X.env [.ExceptHandler (some (.Name x np)) (some n) (b₀ :: suite) pos']) (SP X pins D) X.xe s₃) X.xe s₂) X.xe s₁) ?caught PassesOwn.looking).run [] s σ H D (I.toTry _) h
  case caught =>
    rintro u s' ⟨a, B, sI, pins', σ', H', cls, d, rfl, J', nb, up, sky, na, os, ag, b, hb1, hno, hyes⟩
    have J : Inv X pins σ' H' sI := J'.ofTry okX
    have sky' : Sky B (X.env :: X.outer) a (Zc cls d) X.env.locals s'.heap := by rw [← hs]; exact sky
    show wpAny (model X.prog X.w) X.A (noteFrame (.ref a) X.env) _ _ _
    apply Sky.land Zc.steady frs0 hf sky'
    intro h3 fl3 up3
    have J3 : Inv X pins σ' H' { s' with heap := h3 } := J.landed nb fl3.1 (up.trans up3) os ag
    obtain ⟨oe3, vs3, he3, hz3, hd3⟩ := fl3.there
    have noFrame : ∀ {g : Heap} {o : Obj} {vs : Array Value}, g.FunFrames B (X.env :: X.outer) → g.get? a = some o → o.data = .fields vs → a ∉ frs (X.env :: X.outer) := by
      intro g o vs ff e dd hm
      obtain ⟨_, o', e', hnf⟩ := ff.mem hm
      rw [e] at e'
      cases e'
      exact hnf _ dd
    have nfr := noFrame fl3.2.2.1 he3 hd3
    have nL : a ≠ X.env.locals := fun z => nfr (List.mem_filterMap.mpr ⟨X.env, List.mem_cons_self, by rw [hf, z]⟩)
    have nF : a ∉ X.fs := by
      intro hm
      obtain ⟨e, he, q⟩ := List.mem_filterMap.mp hm
      exact nfr (List.mem_filterMap.mpr ⟨e, List.mem_cons_of_mem _ he, q⟩)
    -- the exception was not there ahead of the call
    have ground : B.get? a = none := fl3.2.1
    have notI : sI.heap.get? a = none := by
      cases q : sI.heap.get? a with
      | none => rfl
      | some o =>
        have hfr : a ∉ frs X.stack := by rw [hs]; exact nfr
        rw [nb a o q hfr] at ground
        cases ground
    have not0 : X.ex = [] → X.s_0.heap.get? a = none := by
      intro hex
      cases q : X.s_0.heap.get? a with
      | none => rfl
      | some o =>
        obtain ⟨o', q'⟩ := J.base.there a o q (by rw [hex]; simp)
        rw [notI] at q'
        cases q'
    have apartPins : ∀ p ∈ X.pn ++ pins, p.1 ≠ a := by
      intro p hp z
      have := (J.pin p hp).1
      rw [z, notI] at this
      cases this
    have S3 := J3.suite he3 hd3 na nL nF
    refine wpAny_handleBy_cons (codeAny_handlers_test ?_) (by intro q; cases q)
    have LT : PySem.W.Looks (model X.prog X.w) h3 (typeOf (.ref a)) cls := fun A Q E s k q => wpAny_typeOf_ref (k _ _ he3) (by rw [hz3.1]; exact q)
    have LM := PySem.W.exm_one (M := model X.prog X.w) (J3.kIn) LT hb1
    have asked : ∀ {Q : Value → Shared → Prop} {E : Value → Shared → Prop}, Q c { s' with heap := h3 } → wpAny (model X.prog X.w) (X.A.mark (some (.ref a))) (eval (.Name x np) X.env) Q E { s' with heap := h3 } := by
      intro Q E q
      obtain ⟨hg, hdbg, hm⟩ := hc
      rcases hm with hm | ⟨hm, hv, hnn⟩
      · exact ld_glob (X := X.suite a ((a, oe3) :: (X.pn ++ pins))) S3 hg hm q hdbg
      · exact ld_blt (X := X.suite a ((a, oe3) :: (X.pn ++ pins))) S3 hg hm hv q hnn hdbg
    refine asked (LM.here ?_)
    cases b with
    | true =>
      refine codeAny_handlers_suite_as (HandSPX.lands_againZ fl3 ?_)
      intro h4 fl4 up4
      have J4 : Inv X pins σ' H' { s' with heap := h4 } := J.landed nb fl4.1 ((up.trans up3).trans up4) os ag
      obtain ⟨oe4, vs4, he4, hz4, hd4⟩ := fl4.there
      have S4 := J4.suite he4 hd4 na nL nF
      refine store_ok (X := X.suite a ((a, oe4) :: (X.pn ++ pins))) (v := .ref a) S4 hN hi locn rfl (fun s5 S5 => ?_) (Or.inr hln)
      refine wpAny_mono ((hsu a oe4 cls d (X.pn ++ pins) hz4 ⟨_, hd4⟩).run [] s5 _ H' _ S5 (hyes rfl a na)) ?_ (fun _ _ z => z.elim)
      intro f s6 hsp
      match f, hsp with
      | .brk, ⟨_, _, _, q⟩ => exact q.elim
      | .cont, ⟨_, _, _, q⟩ => exact q.elim
      | .ret _, ⟨_, _, _, _, _, q⟩ => exact q.elim
      | .next, ⟨σ6, H6, S6, q6⟩ =>
        have held : Inv X ((a, oe4) :: pins) σ6 H6 s6 := (S6.unsuite okX).pins_of (by
          intro p hp
          rcases List.mem_cons.mp hp with z | z
          · rw [z]; exact S6.pin (a, oe4) (List.mem_append_left _ (List.mem_cons_self ..))
          · exact S6.pin p (List.mem_append_left _ (List.mem_cons_of_mem _ (List.mem_append_right _ z))))
        refine gone_ok held hN hi hln (fun s7 J7 => ?_)
        have e7 := (J7.pin (a, oe4) (List.mem_append_right _ (List.mem_cons_self ..))).1
        refine ⟨_, _, adopt J7 (not0 hex) apartPins (exK_ok e7 hz4 hd4), q6⟩
    | false =>
      show wpAny _ X.A (handleBy (.ref a) X.env []) _ _ _
      refine wpAny_handleBy_nil ?_
      obtain ⟨k1, k2, k3, oe, vs, T, oT, ts', he, hz, hd, h1, hr⟩ := id fl3
      have go : wpAny (model X.prog X.w) X.A (setFlight (.ref a) X.env.frame) (fun _ s4 => wpAny (model X.prog X.w) X.A (throw (.ref a) : Sem Flow) (SP X pins D) X.xe s4) X.xe { s' with heap := h3 } := by
        rw [hf]
        refine HandSPX.setFlight_upZ fl3 (fun h4 hh4 up4 => wpAny_throw (tk _ _ ?_))
        exact ⟨a, B, sI, pins, σ', H', cls, d, rfl, J, nb, (up.trans up3).trans up4, Or.inr (Or.inr (by rw [hs]; exact hh4)), na, os, ag, hno rfl⟩
      unfold PySem.passOn
      refine wpAny_bind (wpAny_field he hd h1 ?_)
      rw [if_neg (show ¬ ((Value.ref T == Value.none) = true) from by simp)]
      first
        | exact wpAny_bind (wpAny_pure (wpAny_bind go))
        | exact wpAny_bind go
  refine wpAny_mono whole ?_ (fun e s1 he => he)
  intro f s1 hsp
  match f, hsp with
  | .next, ⟨σ', H', J', q⟩ => exact wpAny_execs_nil ⟨σ', H', J'.ofTry okX, q⟩
  | .brk, ⟨σ', H', J', q⟩ => exact ⟨σ', H', J'.ofTry okX, q⟩
  | .cont, ⟨σ', H', J', q⟩ => exact ⟨σ', H', J'.ofTry okX, q⟩
  | .ret u, ⟨v, σ', H', J', r, q⟩ => exact ⟨v, σ', H', J'.ofTry okX, r, q⟩
/-! ### isinstance of a kept exception, and its fields -/
section
variable {prog : Program} {w : World} {A : Around} {E : Value → Shared → Prop} {s : Shared} {K : PySem.W.Frag} {x D : Addr} {ox : Obj} {od : Option Obj}
open PySem.W PySem.Calls in
theorem its_class {Q : Option Value → Shared → Prop} (C : ExcC K D) (hf : findObj K D od "__class__" = some (.bind (.builtin "getset_descriptor.__get__") (.builtin "object.__class__"))) (X : K.In s.heap) (I : PySem.W.InstAt s.heap x ox D od)
    (h : Q (some (.ref D)) { s with toks := s.toks + 1 }) : wpAny (model prog w) A (getAttr? (.ref x) "__class__") Q E s := by
  obtain ⟨hp, g, d, t, os⟩ := s
  have k0 := I.type (M := model prog w)
  have k1 := looks_findIn (M := model prog w) X C.hg
  have k2 := looks_findIn (M := model prog w) X C.hk
  have k3 := looks_find (M := model prog w) X I hf
  have below : Looks (model prog w) hp (isInstance (.ref x) (.type "BaseException")) true := k0.andThen (looks_subIn X C.hs)
  have n0 : (false && onTheHeap (Value.builtin "BaseException.__getattribute__")) = false := rfl
  have n2 : (Value.builtin "BaseException.__getattribute__" == Value.builtin "object.__getattribute__") = false := by decide +kernel
  have n1 : (onTheHeap (Value.ref D) && Value.builtin "BaseException.__getattribute__" == Value.builtin "object.__getattribute__") = false := by rw [n2]; rfl
  unfold getAttr? getAttrBy? getAttrBy
  refine wpAny_bind (wpAny_mkText (wpAny_bind (wpAny_attempt (wpAny_holding (wpAny_bind (k0.at (wpAny_bind (k1.at ?_))))))))
  show wpAny (model prog w) _ (if (onTheHeap (Value.ref D) && Value.builtin "BaseException.__getattribute__" == Value.builtin "object.__getattribute__") = true then _ else _) _ _ _
  (rw [n1, if_neg Bool.false_ne_true]; unfold getAttrByItsOwn hookBefore; refine wpAny_bind ?_)
  (rw [if_pos (show onTheHeap (Value.ref D) = true from rfl)]; refine k2.at (wpAny_bind (wpAny_attempt (wpAny_holding ?_))))
  (unfold callGetattribute; rw [n0, if_neg Bool.false_ne_true]; unfold boundAndCalled; rw [PySem.F.excAttr_ValueError.ga.bind (.ref x)]; refine wpAny_bind (wpAny_pure ?_))
  show wpAny (model prog w) _ (call (.builtin "BaseException.__getattribute__") [.ref x, .str "__class__" t]) _ _ _
  refine wpAny_call (codeAny_call_builtin PySem.F.excAttr_ValueError.ga.plain PySem.F.entry_bexc_ga (@check_slot (model prog w) _ _ ⟨hp, g, d, t + 1, os⟩ "BaseException.__getattribute__" "BaseException" "__getattribute__" (.ref x) [.str "__class__" t] [] _ (by decide +kernel) (by decide +kernel) below (PySem.F.args_bexc_ga (.ref x) (.str "__class__" t)) ?_))
  (unfold Builtin.«object.__getattribute__»; refine wpAny_bind (wpAny_of_eq (a := ((Value.ref x : Value), [Value.str "__class__" t])) (by first | rfl | (simp only [slotArgs]; rfl)) (wpAny_bind (wpAny_pure (wpAny_bind (k0.at (wpAny_bind (k3.at ?_))))))))
  show wpAny (model prog w) _ (holding [Value.builtin "object.__class__"] (call (.builtin "getset_descriptor.__get__") [.builtin "object.__class__", .ref x, .ref D]) >>= ret) _ _ _
  refine wpAny_bind (wpAny_holding (wpAny_call (class_get (s := ⟨hp, g, d, t + 1, os⟩) (ox := ox) (od := od) X I C.hm (wpAny_pure ?_))))
  show wpAny (model prog w) _ (handedOut (.ref D)) _ _ _
  rw [handedOut_of (v := .ref D) rfl]
  first
    | exact wpAny_pure (wpAny_pure h)
    | exact wpAny_pure h
    | exact wpAny_pure (wpAny_bind (wpAny_pure (wpAny_pure h)))
open PySem.W in
theorem kit_kept (C : ExcC K D) (hf : findObj K D od "__class__" = some (.bind (.builtin "getset_descriptor.__get__") (.builtin "object.__class__"))) : KitX K (.ref x) (.ref D) (fun h => InstAt h x ox D od) := by
  obtain ⟨cdD, hcD, _⟩ := any_some C.hd
  unfold clsIn at hcD
  split at hcD
  · rename_i c' d' cd' sl' ho
    refine ⟨fun _ _ _ I => I.type, fun _ _ X _ => ?_, fun h tp dd its n sl X htp => ?_, fun X I k => its_class C hf X I k⟩
    · intro A' Q' E' s' k q
      unfold isType loadHead
      exact wpAny_bind (wpAny_loadPart (k _ _ (X _ _ ho)) (wpAny_pure q))
    · refine Bool.eq_false_iff.mpr (fun q => ?_)
      have e : D = tp := Value.ref.inj (beq_iff_eq.mp q)
      subst e
      have two := (X _ _ ho).symm.trans htp
      cases two
  · cases hcD
end
theorem kept_at {X : Cx} {pins : List (Addr × Obj)} {σ : L2.St} {H : Hp} {s : Shared} {a D : Addr} {d : Option Addr} (I : Inv X pins σ H s) (ha : H a = some (ExK (.ref D) d a)) (hd : ∀ dd, d = some dd → ∃ fs, H dd = some (.xd fs)) :
    ∃ (oe : Obj) (od : Option Obj), PySem.W.InstAt s.heap a oe D od ∧ (od.isSome = d.isSome) ∧ ∀ dd, d = some dd → ∃ o, od = some o ∧ s.heap.get? dd = some o := by
  obtain ⟨⟨oe, vs, hg, hz, hv⟩, _, _⟩ := I.hok a _ ha
  have nc : PySem.W.notCls oe = true := by unfold PySem.W.notCls; rw [hv]
  cases d with
  | none => exact ⟨oe, none, ⟨hg, hz.1, nc, by rw [hz.2]; trivial⟩, rfl, fun _ z => nomatch z⟩
  | some dd =>
    obtain ⟨fs, hx⟩ := hd dd rfl
    obtain ⟨mA, ⟨o, es, ep, ho, r⟩, _⟩ := (show ObjOk X.prog X.w H s.heap dd (.xd fs) from I.hok dd _ hx)
    exact ⟨oe, some o, ⟨hg, hz.1, nc, by rw [hz.2]; exact ho⟩, rfl, fun d2 z => by cases z; exact ⟨o, rfl, ho⟩⟩
/-- isinstance(e, C), e a kept exception; or any other value -/
def rIsX (K : PySem.W.Frag) : List V → Hp → VK → Prop := fun xs H Q => rIsi K xs H Q ∨ ∃ (a D : Addr) (d : Option Addr) (c : V) (u : Value) (b : Bool), xs = [.ref a, c] ∧ H a = some (ExK (.ref D) d a) ∧ (∀ dd, d = some dd → ∃ fs, H dd = some (.xd fs)) ∧ ExcC K D ∧ ClsV c u ∧ PySem.W.kitOne K (.ref D) u = some b ∧ Q (.bl b) H
theorem kcall_isX {X : Cx} {K : PySem.W.Frag} (hK : X.K = K := by rfl) : CallR X (.builtin "isinstance") (rIsX K) := by
  subst hK
  rintro pins s σ H xs us Q I r (h | ⟨a, D, d, c, u, b, rfl, ha, hd, C, hc, hk, q⟩)
  · exact call_isi pins s σ H xs us Q I r h
  cases r with
  | cons r1 rr =>
    cases rr with
    | cons r2 rr =>
      cases rr
      cases r1
      have e2 := hc.eq r2
      subst e2
      obtain ⟨oe, od, J, hs, _⟩ := kept_at I ha hd
      have hcls : (PySem.W.clsIn X.K D).isSome = true := by
        obtain ⟨cd, h1, _⟩ := PySem.W.any_some C.hd
        rw [h1]; rfl
      have hf : PySem.W.findObj X.K D od "__class__" = some (.bind (.builtin "getset_descriptor.__get__") (.builtin "object.__class__")) := by
        cases od with
        | none => exact PySem.W.findObj_dataN hcls C.ha C.hn C.ht
        | some o => exact PySem.W.findObj_data hcls C.ha C.hn C.ht
      exact PySem.W.kia_one (kit_kept C hf) I.kIn J hk (fun z => nomatch z) (fun tk => ⟨.bl b, H, I.tok tk, rfl, q⟩)
/-- e.f, e a kept exception -/
def tXk (K : PySem.W.Frag) (f : Str) (te : TE) : TE := fun σ H Q => te σ H fun x H1 => ∃ (a D dd : Addr) (fs : List (Str × V)) (v : V), x = .ref a ∧ H1 a = some (ExK (.ref D) (some dd) a) ∧ H1 dd = some (.xd fs) ∧ XfC K D ∧ PySem.W.findIn K (.ref D) f = some none ∧ fs.lookup f = some v ∧ Q v H1
theorem pe_xk {X : Cx} {K : PySem.W.Frag} {e : Expr} {te : TE} {pos : Pos} {n : Str} (he : PE X e te) (hb : attributeBase e n X.env (eval e X.env) = eval e X.env := by rfl) (hK : X.K = K := by rfl) : PE X (.Attribute e n pos) (tXk K n te) := by
  subst hK
  constructor
  intro pins s σ H Q I h
  refine attr_of hb (thn (he.run pins s σ H _ I h) (fun u s1 hh => ?_))
  obtain ⟨x, H1, I1, rx, a, D, dd, fs, v, rfl, ha, hx, T, hno, l, q⟩ := hh
  obtain rfl : u = Value.ref a := rx
  obtain ⟨oe, od, J, _, hod⟩ := kept_at I1 ha (fun d2 z => by cases z; exact ⟨fs, hx⟩)
  obtain ⟨o, rfl, ho⟩ := hod dd rfl
  obtain ⟨mA, hns, hr⟩ := (show ObjOk X.prog X.w H1 s1.heap dd (.xd fs) from I1.hok dd _ hx)
  obtain ⟨o2, ho2, hl⟩ := lookIn_ns hns
  have e2 : o = o2 := Option.some.inj (ho.symm.trans ho2)
  subst e2
  obtain ⟨u, hu, ru⟩ := RelO.some_of (v := v) (o := mA n) (by rw [← l]; exact hr n)
  exact HandSPX.exc_get I1.kIn J T.ga T.gg T.exC (PySem.W.findObj_own T.hdC hno rfl (by rw [hl, hu])) (handed_of ru) ⟨v, H1, I1.tok _, ru, q⟩
end Z
namespace Z
open PySem PySem.Spec PyProof.Rows L2
/-! ### own errors: an __init__ that keeps its arguments -/
def spErr1 (K : PySem.W.Frag) (C : Addr) (f : Str) : Sp := fun vs H Q _ => ∃ (a : Addr) (v : V), vs = [.ref a, v] ∧ H a = some (exo a C none) ∧ ∀ dx, H dx = none → dx ≠ a → Q .non (upd (upd H dx (exd dx [(f, v)])) a (exo a C (some dx)))
def spErr2 (K : PySem.W.Frag) (C : Addr) (f g : Str) : Sp := fun vs H Q _ => ∃ (a : Addr) (u v : V), vs = [.ref a, u, v] ∧ H a = some (exo a C none) ∧ ∀ dx H', H dx = none → dx ≠ a → H' a = some (exo a C (some dx)) → H' dx = some (exd dx [(g, v), (f, u)]) → (∀ b, b ≠ a → b ≠ dx → H' b = H b) → Q .non H'
theorem raised1 {K : PySem.W.Frag} {C : Addr} {f : Str} {v : V} {H : Hp} {a : Addr} {R : XK} (ha : H a = none) (k : ∀ d H', Same H H' → H d = none → H' d = some (.xd [(f, v)]) → R (.ref C) (some d) H') :
    spErr1 K C f [.ref a, v] (upd H a (exo a C none)) (fun z H2 => z = .non ∧ ∃ (d : Addr) (fs : List (Str × V)), H2 a = some (exo a C (some d)) ∧ H2 d = some (exd d fs) ∧ H d = none ∧ R (.ref C) (some d) (upd (del H2 a) d (.xd fs))) (fun _ _ _ => False) := by
  refine ⟨a, v, rfl, upd_same, fun dx h1 h2 => ⟨rfl, dx, [(f, v)], upd_same, by rw [upd_ne h2, upd_same], by rw [upd_ne h2] at h1; exact h1, k dx _ (fun b o e => ?_) (by rw [upd_ne h2] at h1; exact h1) upd_same⟩⟩
  have n1 : b ≠ dx := ne_of_none e (by rw [upd_ne h2] at h1; exact h1)
  have n2 : b ≠ a := ne_of_none e ha
  rw [upd_ne n1, del_ne n2, upd_ne n2, upd_ne n1, upd_ne n2]
  exact e
/-- no exception at all -/
theorem passNo {X : Cx} : Passes (CX X.prog X.w) X (fun _ _ _ => False) := by
  rintro pins σ H s e s' I ⟨_, _, _, _, _, _, _, _, _, _, _, _, z⟩
  exact z.elim
/-! ### frames -/
/-- what is_name may be asked of -/
def Kind (K : PySem.W.Frag) (H : Hp) (v : V) : Prop := (∃ z, v = .str z ∧ z.length ≤ sizeLine) ∨ ∃ t, TyX K H v t ∧ PySem.W.kitOne K t (.type "str") = some false
theorem tyOf_same {K : PySem.W.Frag} {H H' : Hp} {v : V} {t : Value} (s : Same H H') (h : TyOf K H v t) : TyOf K H' v t := by
  cases h with
  | non => exact .non
  | bl b => exact .bl b
  | int i => exact .int i
  | str z => exact .str z
  | flt b => exact .flt b
  | lst e => exact .lst (s _ _ e)
  | frz e => exact .frz (s _ _ e)
  | tup e => exact .tup (s _ _ e)
  | dK e => exact .dK (s _ _ e)
  | dT e => exact .dT (s _ _ e)
  | ins e a b c d f => exact .ins (s _ _ e) a b c d f
theorem tyX_same {K : PySem.W.Frag} {H H' : Hp} {v : V} {t : Value} (s : Same H H') (h : TyX K H v t) : TyX K H' v t := by
  cases h with
  | base b => exact .base (tyOf_same s b)
  | byt b => exact .byt b
  | set e => exact .set (s _ _ e)
  | kList e c => exact .kList e c
  | kTuple e c => exact .kTuple e c
  | kDict e c => exact .kDict e c
  | fTuple e => exact .fTuple (s _ _ e)
  | fDict e => exact .fDict (s _ _ e)
theorem Kind.same {K : PySem.W.Frag} {H H' : Hp} {v : V} (s : Same H H') (h : Kind K H v) : Kind K H' v := h.imp id fun ⟨t, a, b⟩ => ⟨t, tyX_same s a, b⟩
theorem Kind.str {K : PySem.W.Frag} {H : Hp} {z : Str} (h : IsNm z) : Kind K H (.str z) := .inl ⟨z, rfl, h.fit⟩
theorem Kind.non {K : PySem.W.Frag} {H : Hp} : Kind K H .non := .inr ⟨_, .base .non, kit_ty (by decide +kernel)⟩
def vnm : V → Bool
  | .str z => nmB z
  | _ => false
/-- whether a value may be the target of a frame of x -/
def tgt (x y : V) : Bool := decide (y = .non) || (vnm y && !decide (y = x))
theorem not_str {K : PySem.W.Frag} {H : Hp} {v : V} {t : Value} (h : TyX K H v t) (k : PySem.W.kitOne K t (.type "str") = some false) : vnm v = false := by
  cases v with
  | str z =>
    cases h with
    | base b =>
      cases b
      have e : PySem.W.kitOne K (.type "str") (.type "str") = some true := kit_ty (by decide +kernel)
      rw [e] at k
      cases k
  | _ => rfl
theorem is_named {K : PySem.W.Frag} {H : Hp} {v : V} {Q : VK} {E : XK} (h : Kind K H v) (k : ∀ H', Same H H' → Q (.bl (vnm v)) H') : spIsName K [v] H Q E := by
  refine ⟨v, rfl, ?_⟩
  rcases h with ⟨z, rfl, hz⟩ | ⟨t, a, b⟩
  · exact .inl ⟨z, rfl, hz, k⟩
  · have e := not_str a b
    refine .inr ⟨t, a, b, ?_⟩
    have := k H (Same.refl H)
    rw [e] at this
    exact this
def fFields (x y : V) : List (Str × V) := [("sender", x), ("target", y)]
/-- Frame(x, y) is made at p -/
def spFrame (K : PySem.W.Frag) : Sp := fun vs H Q E => ∃ (p dx : Addr) (x y : V), vs = [.ref p, x, y] ∧ H p = some (.ins (He.ga K "Frame") dx []) ∧ Kind K H x ∧ Kind K H y ∧
  (vnm x = false → ∀ d H', Same H H' → H d = none → H' d = some (.xd [("part", .str "sender")]) → E (.ref (He.ga K "BadFrame")) (some d) H') ∧
  (vnm x = true → tgt x y = false → ∀ d H', Same H H' → H d = none → H' d = some (.xd [("part", .str "target")]) → E (.ref (He.ga K "BadFrame")) (some d) H') ∧
  (vnm x = true → tgt x y = true → ∀ H', But p H H' → H' p = some (.ins (He.ga K "Frame") dx (fFields x y)) → Q .non H')
/-- a method of an own class that may raise -/
structure DefX (P : Program) (w : World) (K : PySem.W.Frag) (mg : Str → Option Value) (base : Heap) (k : Nat) (f : Addr) (ps : List Str) (dvs : List V) (sp : Sp) : Prop where
  ex : ∃ fd, FnOk P w K mg base (CX P w) k f fd ps sp ∧ ∀ j, j ≤ dvs.length → ∃ ds, Vals (dvs.drop j) ds ∧ Binds K fd ps ds
end Z
namespace Z
open PySem PySem.Spec PyProof.Rows L2
/-! ### a law whose def may show things, with tables of code objects -/
abbrev tab0 : Obj := { cls := .none, data := .fields #[] }
/-- the tracked part at the law's start: the tables, and the script where K doesn't hold it -/
def startT (T : List Addr) (a : Addr) (one : Option HO) : Hp := fun b => if b ∈ T then some (.tbl #[]) else if b = a then one else none
theorem law_callTG {P : Program} {w : World} {K : PySem.W.Frag} {mg mb : Str → Option Value} {CX : CXT} {k : Nat} {fa a : Addr} {cs : List (Addr × Addr)} {fd : FuncData} {x : Str} {sp : Sp} {s₁ : Shared} {vs : List Value} {ns : List Int}
    (KX : K.In s₁.heap) (hns : s₁.heap.Ns mainGlobals mg) (hb : s₁.heap.Ns builtinsNs mb) (hbb : ∀ x : Str, x ≠ "__name__" → mb x = bootBuiltins x) (hlim : s₁.heap.NoLimit) (hgens : s₁.gens = #[])
    (tabs : ∀ p ∈ cs, s₁.heap.get? p.2 = some tab0) (outK : ∀ p ∈ cs, K.lookup p.2 = none) (codes : ∀ p ∈ cs, PySem.W.CodeHd s₁.heap p.1 p.2)
    (bmain : ∃ (bm : Addr) (om : Obj), mg "__builtins__" = some (.ref bm) ∧ bm ≠ builtinsNs ∧ s₁.heap.get? bm = some om ∧ om.cls = .type "module" ∧ om.dict = some builtinsNs ∧ om.data = .plain)
    (ha : s₁.heap.get? a = some { cls := .type "list", data := .seq vs.toArray }) (hi : IntsAre vs ns) (hl : ns.length ≤ sizeLine) (hr : Room k callerA)
    (F : ∀ base : Heap, K.In base → base.Ns mainGlobals mg → (∀ p ∈ cs, LamX.TabB base mg p.1 p.2) → FnG P w K mg base CX k fa fd [x] sp) (hbind : ∀ (s : Shared) (u : Value), BindsTo s fd ⟨[u], []⟩ [(x, u)])
    (hsp : ∀ H : Hp, (∀ p ∈ cs, H p.2 = some (.tbl #[])) → SqL K H a (ns.map V.int) → sp [.ref a] H (fun v _ => v = .bl true) fun _ _ _ => False) (hCX : ∀ H e s', CX [] H s₁ (fun _ _ _ => False) e s' → False) :
    codeAny (model P w) callerA (.call (.ref fa) ⟨[.ref a], []⟩) (fun r s' => r = .ok (.ret (.bool true)) ∧ OldK s₁.heap s'.heap ∧ s'.os = s₁.os ∧ AllBare s'.gens) s₁ := by
  have relV := vals_ints hi
  have sameLen := hi.length
  generalize hT : cs.map (·.2) = T
  have inT : ∀ p ∈ cs, p.2 ∈ T := fun p hp => hT ▸ List.mem_map.mpr ⟨p, hp, rfl⟩
  have ofT : ∀ b ∈ T, ∃ p ∈ cs, p.2 = b := fun b hb => List.mem_map.mp (hT ▸ hb)
  have empty : ∀ b ∈ T, s₁.heap.get? b = some tab0 := by
    intro b hb
    obtain ⟨p, hp, rfl⟩ := ofT b hb
    exact tabs p hp
  have aOut : a ∉ T := by
    intro m
    have e := (empty a m).symm.trans ha
    cases e
  have main : ∀ one : Option HO, (∀ u, one = some u → K.lookup a = none ∧ (∃ xs, u = .frz { cls := .type "list", data := .seq vs.toArray } xs) ∧ ObjOk P w (startT T a one) s₁.heap a u) → SqL K (startT T a one) a (ns.map V.int) →
      codeAny (model P w) callerA (.call (.ref fa) ⟨[.ref a], []⟩) (fun r s' => r = .ok (.ret (.bool true)) ∧ OldK s₁.heap s'.heap ∧ s'.os = s₁.os ∧ AllBare s'.gens) s₁ := by
    intro one hone hS
    generalize hH : startT T a one = H at hone hS
    have atT : ∀ b ∈ T, H b = some (.tbl #[]) := fun b m => by rw [← hH]; exact if_pos m
    have atA : H a = one := by rw [← hH]; exact (if_neg aOut).trans (if_pos rfl)
    have off : ∀ b, b ∉ T → b ≠ a → H b = none := fun b m n => by rw [← hH]; exact (if_neg m).trans (if_neg n)
    have cases3 : ∀ {b : Addr} {u : HO}, H b = some u → (b ∈ T ∧ u = .tbl #[]) ∨ (b = a ∧ one = some u) := by
      intro b u e
      by_cases m : b ∈ T
      · rw [atT b m] at e
        exact .inl ⟨m, (Option.some.inj e).symm⟩
      · by_cases n : b = a
        · subst n
          exact .inr ⟨rfl, atA.symm.trans e⟩
        · rw [off b m n] at e
          cases e
    have seen : ∀ {b : Addr} {o : Obj}, s₁.heap.get? b = some o → H b = none → (hidT s₁.heap H).get? b = some o := fun e n => hidT_get e n
    have unseen : ∀ {b : Addr} {o : Obj}, s₁.heap.get? b = some o → (∀ us n, o.data ≠ .seq us n) → o.data ≠ .fields #[] → H b = none := by
      intro b o e d1 d2
      cases q : H b with
      | none => rfl
      | some u =>
        rcases cases3 q with ⟨m, _⟩ | ⟨rfl, _⟩
        · rw [empty b m] at e
          cases e
          exact (d2 rfl).elim
        · rw [ha] at e
          cases e
          exact (d1 _ _ rfl).elim
    have dictUnseen : ∀ {b : Addr} {o : Obj} {es : Array DictEntry} {ep : Nat}, s₁.heap.get? b = some o → o.data = .dict es ep → H b = none := fun e d => unseen e (fun _ _ z => by rw [d] at z; cases z) (fun z => by rw [d] at z; cases z)
    have nsKeep : ∀ {b : Addr} {m : Str → Option Value}, s₁.heap.Ns b m → (hidT s₁.heap H).Ns b m := by
      rintro b m ⟨o, es, ep, e, d, r⟩
      exact ⟨o, es, ep, seen e (dictUnseen e d), d, r⟩
    have kBase : K.In (hidT s₁.heap H) := by
      intro b o e
      refine seen (KX b o e) ?_
      cases q : H b with
      | none => rfl
      | some u =>
        rcases cases3 q with ⟨m, _⟩ | ⟨rfl, h1⟩
        · obtain ⟨p, hp, rfl⟩ := ofT b m
          rw [outK p hp] at e
          cases e
        · rw [(hone u h1).1] at e
          cases e
    have hok : HOk P w H s₁.heap := by
      intro b u e
      rcases cases3 e with ⟨m, rfl⟩ | ⟨rfl, h1⟩
      · exact empty b m
      · exact (hone u h1).2.2
    have theMod : L2.Mod K mg (hidT s₁.heap H) := ⟨kBase, nsKeep hns, ⟨mb, nsKeep hb, hbb⟩, let ⟨mc, h1, h2⟩ := hlim; ⟨mc, nsKeep h1, h2⟩⟩
    have theTabs : ∀ p ∈ cs, LamX.TabB (hidT s₁.heap H) mg p.1 p.2 := by
      intro p hp
      refine ⟨?_, ?_, ?_⟩
      · obtain ⟨o, us, file, tf, flags, tg, inF, text, tt, e1, r1, r2, r3, rest⟩ := codes p hp
        refine ⟨o, us, file, tf, flags, tg, inF, text, tt, seen e1 (unseen e1 (fun _ _ z => ?_) fun z => ?_), r1, r2, r3, rest⟩
        · rw [r2] at z
          cases z
        · rw [r2] at z
          cases z
          simp at r3
      · obtain ⟨bm, om, c1, c2, c3, c4, c5, c6⟩ := bmain
        refine ⟨bm, om, c1, c2, ?_, ?_, seen c3 (unseen c3 (fun _ _ z => ?_) fun z => ?_), c4, c5, c6⟩
        · rintro rfl
          obtain ⟨o, es, ep, e, hd, _⟩ := hns
          rw [c3] at e
          cases e
          rw [c6] at hd
          cases hd
        · rintro rfl
          rw [tabs p hp] at c3
          cases c3
          cases c6
        · rw [c6] at z
          cases z
        · rw [c6] at z
          cases z
      · intro z
        obtain ⟨o, es, ep, e, hd, _⟩ := hns
        rw [z, tabs p hp] at e
        cases e
        cases hd
    have start0 : Env0 P w K mg (hidT s₁.heap H) callerA [] s₁ H :=
      ⟨rfl, theMod, fun b o e => of_hidT e, Nat.le_of_eq (hidT_size _ _), trivial, fun b hb => absurd (show b ∈ ([] : List Addr) from hb) (by simp), hok, .of_eq hgens⟩
    have ran := (F _ kBase (nsKeep hns) theTabs).run callerA [] s₁ H ⟨[.ref a], []⟩ [.ref a] [.ref a] _ _ rfl hr start0 (hbind s₁ (.ref a)) (.cons rfl .nil) (hsp H (fun p hp => atT _ (inT p hp)) hS)
    refine codeAny_mono ran ?_
    intro r s' h
    match r, h with
    | .error e, h => exact (hCX H e s' h).elim
    | .ok .next, h => exact h.elim
    | .ok .brk, h => exact h.elim
    | .ok .cont, h => exact h.elim
    | .ok (.ret u), ⟨v, H', os, bare, un, hok', rv, q⟩ =>
      have hv : v = .bl true := q
      subst hv
      obtain rfl : u = Value.bool true := rv
      have stays : ∀ b o, b ∉ T → s₁.heap.get? b = some o → s'.heap.get? b = some o := by
        intro b o nb e
        cases z : H b with
        | none => exact un.keep b o e z (by intro y; exact absurd (show b ∈ ([] : List Addr) from y) (by simp)) (by simp)
        | some u =>
          rcases cases3 z with ⟨m, _⟩ | ⟨rfl, h1⟩
          · exact (nb m).elim
          · obtain ⟨_, ⟨xs, rfl⟩, _⟩ := hone u h1
            have z2 := un.frzs b _ _ z
            obtain ⟨e2, _⟩ := hok' b _ z2
            rw [ha] at e
            cases e
            exact e2
      have grows : ∀ p ∈ cs, ∃ more : Array Value, s'.heap.get? p.2 = some { cls := .none, data := .fields more } := by
        intro p hp
        obtain ⟨more, z⟩ := un.tbls p.2 #[] (atT _ (inT p hp))
        exact ⟨_, hok' p.2 _ z⟩
      refine ⟨rfl, ⟨fun b o e => ?_, fun b o e => ?_⟩, os, bare⟩
      · by_cases m : b ∈ T
        · obtain ⟨p, hp, rfl⟩ := ofT b m
          obtain ⟨more, hm⟩ := grows p hp
          rw [tabs p hp] at e
          cases e
          refine .inr (.inl ⟨((codes p hp).tab (tabs p hp)).isCodeTable, rfl, #[], more, rfl, ?_⟩)
          rw [Array.empty_append]
          exact hm
        · exact .inl (stays b o m e)
      · by_cases m : b ∈ T
        · obtain ⟨p, hp, rfl⟩ := ofT b m
          obtain ⟨more, hm⟩ := grows p hp
          exact ⟨_, hm⟩
        · exact ⟨o, stays b o m e⟩
  cases hk : K.lookup a with
  | some o =>
    have e := KX a o hk
    rw [ha] at e
    cases e
    refine main none (fun u z => nomatch z) (.inr ⟨_, vs.toArray, _, hk, rfl, rfl, rfl, ?_, ?_⟩)
    · rw [List.size_toArray, sameLen]; exact hl
    · simpa using relV
  | none =>
    refine main (some (.frz { cls := .type "list", data := .seq vs.toArray } (.lst (ns.map V.int)))) (fun u z => ?_) (.inl (.inr ⟨{ cls := .type "list", data := .seq vs.toArray }, (if_neg aOut).trans (if_pos rfl)⟩))
    cases z
    exact ⟨hk, ⟨_, rfl⟩, ha, by rw [List.length_map]; exact hl, vs, _, relV, ha⟩
/-- the end over a head by facts, with tables -/
theorem walk_TG {l : PySem.W.OpenLaw} {n k : Nat} {q : Program} {loose : List Str} {XP : (Str → Option Value) → Heap → Prop} {YP : World → Heap → Prop} {d : DefRec} {CX : CXT} {x : Str} (hn : l.most = some n) (hn2 : n ≤ sizeLine) (hdf : d.params.defaults = []) (hr : Room k callerA)
    (F : ∀ (w : World) (mg : Str → Option Value) (fa : Addr) (h : Heap), YP w h → h.Ns mainGlobals mg → mg d.name = some (.ref fa) → ∃ (K : PySem.W.Frag) (fd : FuncData) (sp : Sp) (cs : List (Addr × Addr)), K.In h ∧ (∀ (s : Shared) (u : Value), BindsTo s fd ⟨[u], []⟩ [(x, u)]) ∧
        (∀ p ∈ cs, h.get? p.2 = some tab0) ∧ (∀ p ∈ cs, K.lookup p.2 = none) ∧ (∀ p ∈ cs, PySem.W.CodeHd h p.1 p.2) ∧
        (∀ (H : Hp) (a : Addr) (ns : List Int), ns.length ≤ n → (∀ p ∈ cs, H p.2 = some (.tbl #[])) → SqL K H a (ns.map V.int) → sp [.ref a] H (fun v _ => v = .bl true) fun _ _ _ => False) ∧ ∀ base : Heap, K.In base → base.Ns mainGlobals mg → (∀ p ∈ cs, LamX.TabB base mg p.1 p.2) → FnG l.prog w K mg base CX k fa fd [x] sp)
    (hCX : ∀ (H : Hp) (s : Shared) (e : Value) (s' : Shared), CX [] H s (fun _ _ _ => False) e s' → False) : PySem.W.WalkO q loose XP YP l.row.toRowW d [] (fun f vs => PySem.call f vs) := by
  refine Att.attach_call hn hdf ?_
  intro w s₀ s₁ mg mb fa o pm cd doc a vs ns G Y ho hd hcd hmg hobj hints hlen hg
  obtain ⟨K, fd, sp, cs, kx, hbd, h1, h2, h3, hsp, hF⟩ := F w mg fa _ Y G.T.g hmg
  exact law_callTG kx G.T.g G.T.b G.T.builtins G.T.nolimit hg h1 h2 h3 G.T.bmain hobj hints (Nat.le_trans hlen hn2) hr hF hbd (fun H hO hS => hsp H a ns hlen hO hS) (fun H e s' => hCX H s₁ e s')
end Z
namespace Z
open PySem PySem.Spec PyProof.Rows L2
/-! ### facts of own errors, of own classes, by a Bool over K -/
def isO (a b : Option (Option Value)) : Bool := decide (a = b)
/-- an own error over ValueError whose __init__ is a def -/
structure ErrF (K : PySem.W.Frag) (x : Str) : Prop where
  o : OexC K (He.ga K x)
  iC : PySem.W.findIn K (.ref (He.ga K x)) "__init__" = some (some (.ref (He.ma K (He.ga K x) "__init__")))
  tI : PySem.W.typeIn K (.ref (He.ma K (He.ga K x) "__init__")) = some (.type "function")
  xf : XfC K (He.ga K x)
  xc : ExcC K (He.ga K x)
def oexB (K : PySem.W.Frag) (C : Addr) : Bool := match K.lookup C with
  | some ⟨.type t, _, .cls cd, sl⟩ => decide (t = "type") && (match cd.mro, sl.toList with
    | .ref D :: bm, [_, _, _, _, some (.builtin n), _] => decide (D = C) && (decide (n = "ValueError.__new__") && (!cd.hasDel && (cd.hasDict && PySem.HandSPX.refsVE bm)))
    | _, _ => false)
  | _ => false
theorem oexB_ok {K : PySem.W.Frag} {C : Addr} (h : oexB K C = true) : ∃ nm q N bs bm sn sub ab col dd k0 k1 k2 k3 k5, K.lookup C = some (excClassObj nm q C N bs bm true sn sub ab col dd k0 k1 k2 k3 k5 "ValueError.__new__") ∧ PySem.HandSPX.refsVE bm = true := by
  unfold oexB at h
  split at h
  · rename_i t dd cd sl ho
    obtain ⟨h1, h⟩ := He.ba h
    have et := of_decide_eq_true h1
    split at h
    · rename_i D bm k0 k1 k2 k3 n k5 hm hs
      obtain ⟨h2, h⟩ := He.ba h
      obtain ⟨h3, h⟩ := He.ba h
      obtain ⟨h4, h⟩ := He.ba h
      obtain ⟨h5, h6⟩ := He.ba h
      have eD := of_decide_eq_true h2
      have en := of_decide_eq_true h3
      obtain ⟨nm, bs, mro, ns, qn, hd, sn, sub, ab, col, del⟩ := cd
      dsimp only at hm h4 h5
      have ed : del = false := by cases del <;> simp_all
      have hsl : sl = #[k0, k1, k2, k3, some (.builtin n), k5] := by
        obtain ⟨l⟩ := sl
        simp only at hs
        rw [hs]
      subst et eD en hm ed hsl h5
      exact ⟨nm, qn, ns, bs, bm, sn, sub, ab, col, dd, k0, k1, k2, k3, k5, ho, h6⟩
    · cases h
  · cases h
def classB (K : PySem.W.Frag) (D : Addr) : Bool := isO (PySem.W.findIn K (.ref D) "__class__") (some (some (.builtin "object.__class__"))) && (isO (PySem.W.specialIn K (.builtin "object.__class__") "__get__") (some (some (.builtin "getset_descriptor.__get__"))) &&
  (decide (PySem.W.takesIn K (.builtin "object.__class__") = some true) && decide (PySem.W.mroIn K D (.type "object") = some true)))
structure ClassF (K : PySem.W.Frag) (D : Addr) : Prop where
  ha : PySem.W.findIn K (.ref D) "__class__" = some (some (.builtin "object.__class__"))
  hn : PySem.W.specialIn K (.builtin "object.__class__") "__get__" = some (some (.builtin "getset_descriptor.__get__"))
  ht : PySem.W.takesIn K (.builtin "object.__class__") = some true
  hm : PySem.W.mroIn K D (.type "object") = some true
theorem classB_ok {K : PySem.W.Frag} {D : Addr} (h : classB K D = true) : ClassF K D := by
  obtain ⟨h1, h⟩ := He.ba h
  obtain ⟨h2, h⟩ := He.ba h
  obtain ⟨h3, h4⟩ := He.ba h
  exact ⟨of_decide_eq_true h1, of_decide_eq_true h2, of_decide_eq_true h3, of_decide_eq_true h4⟩
def errB (x : Str) (K : PySem.W.Frag) : Bool := oexB K (He.ga K x) && (isO (PySem.W.findIn K (.ref (He.ga K x)) "__setattr__") (some (some (.builtin "object.__setattr__"))) && (decide (PySem.W.typeIn K (.ref (He.ga K x)) = some (.type "type")) && (PySem.W.keepIn K (.ref (He.ga K x)) &&
  (isO (PySem.W.findIn K (.ref (He.ga K x)) "__init__") (some (some (.ref (He.ma K (He.ga K x) "__init__")))) && (decide (PySem.W.typeIn K (.ref (He.ma K (He.ga K x) "__init__")) = some (.type "function")) && (xfB K (He.ga K x) && classB K (He.ga K x)))))))
theorem errB_ok {K : PySem.W.Frag} {x : Str} (h : errB x K = true) : ErrF K x := by
  obtain ⟨h1, h⟩ := He.ba h
  obtain ⟨h2, h⟩ := He.ba h
  obtain ⟨h3, h⟩ := He.ba h
  obtain ⟨h4, h⟩ := He.ba h
  obtain ⟨h5, h⟩ := He.ba h
  obtain ⟨h6, h⟩ := He.ba h
  obtain ⟨h7, h8⟩ := He.ba h
  have xf := xfB_ok h7
  have cf := classB_ok h8
  exact ⟨⟨oexB_ok h1, of_decide_eq_true h2, xf.exC, of_decide_eq_true h3, h4⟩, of_decide_eq_true h5, of_decide_eq_true h6, xf, ⟨xf.ga, xf.gg, xf.exC, xf.hdC, cf.ha, cf.hn, cf.ht, cf.hm⟩⟩
/-- types of Python's own -/
def kinds : List Value := [.type "NoneType", .type "bool", .type "int", .type "str", .type "list", .type "tuple", .type "dict"]
/-- an own class: its instances are told from all else -/
structure ClsF (K : PySem.W.Frag) (x : Str) : Prop where
  c : ClassF K (He.ga K x)
  ne : PySem.W.findIn K (.ref (He.ga K x)) "__ne__" = some (some (.builtin "object.__ne__"))
  nf : ∀ t ∈ kinds, PySem.W.notFirst K (He.ga K x) t = true
  ki : ∀ t ∈ kinds, PySem.W.kitOne K t (.ref (He.ga K x)) = some false
  ik : ∀ t ∈ kinds, PySem.W.kitOne K (.ref (He.ga K x)) t = some false
def clsB (x : Str) (K : PySem.W.Frag) : Bool := classB K (He.ga K x) && (isO (PySem.W.findIn K (.ref (He.ga K x)) "__ne__") (some (some (.builtin "object.__ne__"))) && (kinds.all (fun t => PySem.W.notFirst K (He.ga K x) t) &&
  (kinds.all (fun t => decide (PySem.W.kitOne K t (.ref (He.ga K x)) = some false)) && kinds.all (fun t => decide (PySem.W.kitOne K (.ref (He.ga K x)) t = some false)))))
theorem clsB_ok {K : PySem.W.Frag} {x : Str} (h : clsB x K = true) : ClsF K x := by
  obtain ⟨h1, h⟩ := He.ba h
  obtain ⟨h2, h⟩ := He.ba h
  obtain ⟨h3, h⟩ := He.ba h
  obtain ⟨h4, h5⟩ := He.ba h
  exact ⟨classB_ok h1, of_decide_eq_true h2, fun t m => List.all_eq_true.mp h3 t m, fun t m => of_decide_eq_true (List.all_eq_true.mp h4 t m), fun t m => of_decide_eq_true (List.all_eq_true.mp h5 t m)⟩
theorem ClsF.ty {K : PySem.W.Frag} {x : Str} (c : ClsF K x) (k : Cls K (He.ga K x)) {H : Hp} {a dx : Addr} {fs : List (Str × V)} (h : H a = some (.ins (He.ga K x) dx fs)) : TyX K H (.ref a) (.ref (He.ga K x)) := .base (.ins h k c.c.ha c.c.hn c.c.ht c.c.hm)
theorem kit_same {K : PySem.W.Frag} {t : Value} (h : (t == t) = true := by simp) : PySem.W.kitOne K t t = some true := by
  unfold PySem.W.kitOne
  rw [if_pos h]
theorem first_same {K : PySem.W.Frag} {C : Addr} : PySem.W.notFirst K C (.ref C) = true := by
  unfold PySem.W.notFirst
  simp
/-! ### a property's getter -/
/-- where the getter of a class's property stands; the property itself -/
def prA (K : PySem.W.Frag) (c f : Str) : Addr := match PySem.W.findIn K (.ref (He.ga K c)) f with
  | some (some (.ref p)) => p
  | _ => 0
def geA (K : PySem.W.Frag) (c f : Str) : Addr := match PySem.W.recIn K (prA K c f) "property" with
  | some (.ref g :: _) => g
  | _ => match PySem.W.recIn K (prA K c f) "classmethod" with
    | some (.ref g :: _) => g
    | _ => 0
structure GetD where
  c : Str
  f : Str
  qual : Str
  params : Arguments
  body : List Stmt
  scope : Scope
  cm : Bool := false
abbrev FnU : Type := Option (Str × Str × Arguments × FuncBody × Scope × Addr × List (Str × Addr) × Addr)
def fnU (K : PySem.W.Frag) (a : Addr) : FnU := match K.lookup a with
  | some ⟨_, _, .func fd, _⟩ => some (fd.name, fd.qualname, fd.params, fd.body, fd.scope, fd.globals, fd.closure, fd.builtins)
  | _ => none
def GetD.val (d : GetD) : FnU := some (d.f, d.qual, d.params, .stmts d.body, d.scope, mainGlobals, [], builtinsNs)
def prB (K : PySem.W.Frag) (c f : Str) : Bool := isO (PySem.W.findIn K (.ref (He.ga K c)) f) (some (some (.ref (prA K c f)))) && (isO (PySem.W.specialIn K (.ref (prA K c f)) "__get__") (some (some (.builtin "property.__get__"))) &&
  (decide (PySem.W.takesIn K (.ref (prA K c f)) = some true) && (match PySem.W.recIn K (prA K c f) "property" with
    | some (.ref g :: _) => true
    | _ => false)))
/-- a classmethod -/
structure CmOf (K : PySem.W.Frag) (C : Addr) (m : Str) (p g : Addr) : Prop where
  r : ClX.CRead K C (.type "type")
  c : ClX.CMet K C (.type "type") m p g
def cmB (K : PySem.W.Frag) (c f : Str) : Bool := PySem.W.readsIn K (He.ga K c) (.type "type") && (isO (PySem.W.specialIn K (.ref (He.ga K c)) "__getattribute__") (some (some (.builtin "type.__getattribute__"))) && ((match PySem.W.findCls K (.ref (He.ga K c)) (.type "type") f with
    | some (.get (.builtin b) (.ref p) .none (.ref C)) => decide (b = "classmethod.__get__") && (decide (p = prA K c f) && decide (C = He.ga K c))
    | _ => false) && ((match PySem.W.recIn K (prA K c f) "property" with
    | some (.ref _ :: _) => false
    | _ => true) && ((match PySem.W.recIn K (prA K c f) "classmethod" with
    | some (.ref _ :: _) => true
    | _ => false) && PySem.W.fnIn K (geA K c f)))))
theorem prB_ok {K : PySem.W.Frag} {c f : Str} (h : prB K c f = true) : PropOf K (He.ga K c) f (prA K c f) (geA K c f) := by
  obtain ⟨h1, h⟩ := He.ba h
  obtain ⟨h2, h⟩ := He.ba h
  obtain ⟨h3, h4⟩ := He.ba h
  refine ⟨of_decide_eq_true h1, of_decide_eq_true h2, of_decide_eq_true h3, ?_⟩
  unfold geA
  split at h4
  · rename_i g r e
    rw [e]
    exact ⟨r, rfl⟩
  · cases h4
theorem cmB_ok {K : PySem.W.Frag} {c f : Str} (h : cmB K c f = true) : CmOf K (He.ga K c) f (prA K c f) (geA K c f) := by
  obtain ⟨h1, h⟩ := He.ba h
  obtain ⟨h2, h⟩ := He.ba h
  obtain ⟨h3, h⟩ := He.ba h
  obtain ⟨h4, h⟩ := He.ba h
  obtain ⟨h5, h6⟩ := He.ba h
  refine ⟨⟨h1, of_decide_eq_true h2⟩, ⟨?_, ?_, h6⟩⟩
  · split at h3
    · rename_i b p C e
      obtain ⟨a1, h3⟩ := He.ba h3
      obtain ⟨a2, a3⟩ := He.ba h3
      rw [e, of_decide_eq_true a1, of_decide_eq_true a2, of_decide_eq_true a3]
    · cases h3
  · split at h4
    · cases h4
    · rename_i n1
      have hg : ∀ g r, PySem.W.recIn K (prA K c f) "classmethod" = some (.ref g :: r) → geA K c f = g := by
        intro g r e
        unfold geA
        rw [e]
        split
        · rename_i g' r' e'
          exact (n1 g' r' e').elim
        · rfl
      split at h5
      · rename_i g r e
        exact ⟨r, by rw [e, hg _ _ e]⟩
      · cases h5
def GetD.ok (d : GetD) (K : PySem.W.Frag) : Bool := (if d.cm then cmB K d.c d.f else prB K d.c d.f) && (PySem.W.keepIn K (.ref (geA K d.c d.f)) && (match K.lookup (geA K d.c d.f) with
    | some ⟨_, _, .func fd, _⟩ => PySem.W.codeIn K fd.code d.qual && decide (fd.defaults = .none)
    | _ => false))
theorem GetD.prop {d : GetD} {K : PySem.W.Frag} (h : d.ok K = true) (n : d.cm = false) : PropOf K (He.ga K d.c) d.f (prA K d.c d.f) (geA K d.c d.f) := by
  obtain ⟨h1, h⟩ := He.ba h
  rw [n] at h1
  exact prB_ok h1
theorem GetD.clsm {d : GetD} {K : PySem.W.Frag} (h : d.ok K = true) (n : d.cm = true) : CmOf K (He.ga K d.c) d.f (prA K d.c d.f) (geA K d.c d.f) := by
  obtain ⟨h1, h⟩ := He.ba h
  rw [n] at h1
  exact cmB_ok h1
theorem GetD.fun_ {d : GetD} {K : PySem.W.Frag} (e : fnU K (geA K d.c d.f) = d.val) (h : d.ok K = true) : ∃ fd, FunD K d.f d.qual d.params d.body d.scope [] [] (geA K d.c d.f) fd := by
  obtain ⟨_, h⟩ := He.ba h
  obtain ⟨kp, h⟩ := He.ba h
  unfold fnU GetD.val at e
  generalize geA K d.c d.f = a at *
  split at h
  · rename_i oc od fd osl ho
    rw [ho] at e
    obtain ⟨n1, n2, n3, n4, n5, n6, n7, n8, n9, n10, n11, n12, n13, n14, n15⟩ := fd
    obtain ⟨hc, hd0⟩ := He.ba h
    have hd : n8 = .none := of_decide_eq_true hd0
    simp only [Option.some.injEq, Prod.mk.injEq] at e
    obtain ⟨u1, u2, u3, u4, u5, u6, u7, u8⟩ := e
    clear hd0
    subst u1 u2 u3 u4 u5 u6 u7 u8 hd
    exact ⟨_, ⟨_, _, _, _, _, _, _, _, _, _, rfl, ho, hc, .inl ⟨rfl, rfl⟩, .inl rfl⟩, kp⟩
  · cases h
/-! ### the Hook: facts, defs, tables, getters, a Bool -/
abbrev AlZ : Type := He.AlX × List FnU
structure SaysZ (fa : List He.Fa) (fn : List He.DefD) (tf : List He.Defn) (gs : List GetD) (ex : PySem.W.Frag → Bool) (w : World) (h : Heap) (K : PySem.W.Frag) : Prop where
  x : He.SaysX fa fn [] tf (fun K => ex K && gs.all fun d => d.ok K) w h K
  g : gs.map (fun d => fnU K (geA K d.c d.f)) = gs.map GetD.val
/-- what the names reach in n steps, and the interpreter's statics -/
def asS (n : Nat) (g : Addr → Option Obj) : List Addr := He.asD g n ++ [cStatics]
def frS (n : Nat) (g : Addr → Option Obj) : PySem.W.Frag := He.frT g (asS n g)
def obsZ (n : Nat) (fa : List He.Fa) (fn : List He.DefD) (tf : List He.Defn) (gs : List GetD) (ex : PySem.W.Frag → Bool) (g : Addr → Option Obj) : AlZ :=
  ((He.obsT fa fn [] (frS n g), (ex (frS n g) && gs.all fun d => d.ok (frS n g)) && He.tabsB g tf (frS n g)), gs.map fun d => fnU (frS n g) (geA (frS n g) d.c d.f))
theorem says_at {as : List Addr} {fa : List He.Fa} {fn : List He.DefD} {tf : List He.Defn} {ex : PySem.W.Frag → Bool} {w : World} {h : Heap} (e1 : He.obsT fa fn [] (He.frT h.get? as) = He.valT fn [] w) (e2 : (ex (He.frT h.get? as) && He.tabsB h.get? tf (He.frT h.get? as)) = true) : He.SaysX fa fn [] tf ex w h (He.frT h.get? as) := by
  obtain ⟨h1, h2⟩ := He.ba e2
  have each : ∀ p, p ∈ tf → ∃ o, h.get? (He.cT (He.frT h.get? as) p).2 = some o ∧ He.emptyTab o = true ∧ PySem.W.codeHdIn (He.frT h.get? as) (He.cT (He.frT h.get? as) p).1 (He.cT (He.frT h.get? as) p).2 = true := by
    intro p hp
    obtain ⟨h3, h4⟩ := He.ba (List.all_eq_true.mp h2 p hp)
    split at h4
    · rename_i o q
      exact ⟨o, q, h4, h3⟩
    · cases h4
  refine { t := e1, more := h1, hd := ?_, out := ?_, empty := ?_ } <;> intro p hp <;> obtain ⟨o, a, b, c⟩ := each p hp
  · exact c
  · exact He.frT_none a b
  · exact a.trans (congrArg some (He.emptyTab_eq b))
def hookZ (n : Nat) (fa : List He.Fa) (fn : List He.DefD) (tf : List He.Defn) (gs : List GetD) (ex : PySem.W.Frag → Bool) : PySem.W.Hook where
  α := AlZ
  obs := fun s => obsZ n fa fn tf gs ex s.heap.get?
  val := fun w => (He.valX fn [] w, gs.map GetD.val)
  says := fun w h => ∃ K : PySem.W.Frag, K.In h ∧ SaysZ fa fn tf gs ex w h K
  of := fun _ _ e => ⟨_, He.frT_in, says_at (congrArg (fun z : AlZ => z.1.1) e) (congrArg (fun z : AlZ => z.1.2) e), congrArg (fun z : AlZ => z.2) e⟩
  keeps := fun _ _ _ ⟨K, hK, c⟩ k => ⟨K, PySem.W.Frag.In.keeps hK k, ⟨c.x.t, c.x.more, c.x.hd, c.x.out, fun p hp => k _ _ (c.x.empty p hp)⟩, c.g⟩
theorem obsZ_eq {n : Nat} {fa : List He.Fa} {fn : List He.DefD} {tf : List He.Defn} {gs : List GetD} {ex : PySem.W.Frag → Bool} {g : Addr → Option Obj} {s : Shared} (h : ∀ a, g a = s.heap.get? a) : obsZ n fa fn tf gs ex g = (hookZ n fa fn tf gs ex).obs s := by
  have e : g = s.heap.get? := funext h
  rw [e] <;> rfl
theorem SaysZ.more {fa : List He.Fa} {fn : List He.DefD} {tf : List He.Defn} {gs : List GetD} {ex : PySem.W.Frag → Bool} {w : World} {h : Heap} {K : PySem.W.Frag} (c : SaysZ fa fn tf gs ex w h K) : ex K = true := (He.ba c.x.more).1
theorem SaysZ.get {fa : List He.Fa} {fn : List He.DefD} {tf : List He.Defn} {gs : List GetD} {ex : PySem.W.Frag → Bool} {w : World} {h : Heap} {K : PySem.W.Frag} (c : SaysZ fa fn tf gs ex w h K) (i : Nat) {d : GetD} (hi : gs[i]? = some d := by rfl) :
    (d.cm = false → PropOf K (He.ga K d.c) d.f (prA K d.c d.f) (geA K d.c d.f)) ∧ (d.cm = true → CmOf K (He.ga K d.c) d.f (prA K d.c d.f) (geA K d.c d.f)) ∧ ∃ fd, FunD K d.f d.qual d.params d.body d.scope [] [] (geA K d.c d.f) fd := by
  have ok := List.all_eq_true.mp (He.ba c.x.more).2 d (List.mem_of_getElem? hi)
  refine ⟨GetD.prop ok, GetD.clsm ok, GetD.fun_ ?_ ok⟩
  have e := congrArg (fun l => l[i]?) c.g
  simp only [List.getElem?_map, hi, Option.map_some] at e
  exact Option.some.inj e
/-- the defs' tables, at the law's start -/
theorem SaysZ.tabs {fa : List He.Fa} {fn : List He.DefD} {tf : List He.Defn} {gs : List GetD} {ex : PySem.W.Frag → Bool} {w : World} {h : Heap} {K : PySem.W.Frag} (c : SaysZ fa fn tf gs ex w h K) (hK : K.In h) :
    (∀ p ∈ tf.map (He.cT K), h.get? p.2 = some tab0) ∧ (∀ p ∈ tf.map (He.cT K), K.lookup p.2 = none) ∧ ∀ p ∈ tf.map (He.cT K), PySem.W.CodeHd h p.1 p.2 := by
  refine ⟨?_, ?_, ?_⟩ <;> intro p hp <;> obtain ⟨q, hq, rfl⟩ := List.mem_map.mp hp
  · exact c.x.empty q hq
  · exact c.x.out q hq
  · exact PySem.W.codeHd_of_K hK (c.x.hd q hq)
/-! ### a def that may show things and makes lambdas: its code object is named -/
theorem okGC {P : Program} {w : World} {K : PySem.W.Frag} {mg : Str → Option Value} {base : Heap} {x qual : Str} {params : Arguments} {body : List Stmt} {scope : Scope} {dvs : List V} {kws : List (Str × V)} {fd : FuncData} {CX : CXT} {N ps : List Str} {k : Nat} {sp : Sp} {p : He.Defn} {f : Addr} (hf : f = He.fAd K p) (F : FunD K x qual params body scope dvs kws f fd) (S : FnScope N ps scope) (len : ∀ vs H Q E, sp vs H Q E → vs.length = ps.length)
    (hbody : ∀ (A : Around) (outer : List Env) (s : Shared) (H : Hp) (vs : List V) (Q : VK) (E : XK), A.guards = some [] → Room k (A.deeper (envOfC qual scope s.heap.objs.size f (.ref (He.codeOf K p)))) → sp vs H Q E →
      ∃ t, PSs (cxOf CX P w K mg base N qual scope f (.ref (He.codeOf K p)) A outer s H E) body t ∧ t { nx := fun _ H' => Q .non H', rt := Q } (start N vs) H) : FnG P w K mg base CX (k + 1) f fd ps sp := by
  obtain ⟨oc, od, dV, kV, doc, pm, an, cdv, ct, osl, hfd, lk, hcd, _, _⟩ := F.ex
  obtain ⟨c, rfl⟩ := He.codeIn_ref hcd
  have ec : He.codeOf K p = c := He.codeOf_eq (hf ▸ lk) (by rw [hfd])
  rw [ec] at hbody
  subst hfd
  constructor
  · exact len
  intro A outer s H args us vs Q E hgu hr e0 hb r hsp
  have hlen := len _ _ _ _ hsp
  have kx : K.In s.heap := e0.mod.kin.keeps (fun b o e => (e0.bs b o e).1)
  have nol : s.heap.NoLimit := e0.mod.nolimit.keeps (fun b o e => (e0.bs b o e).1)
  have kinds : ∀ y ∈ ps.zip us, scope.names.lookup y.1 = some .local ∨ (scope.names.lookup y.1 = some .cell ∧ ((cellsFrom (s.heap.objs.size + 1) scope.names []).lookup y.1).isSome = true) := by
    rintro ⟨n, v⟩ hy
    cases S.par n (List.of_mem_zip hy).1 with
    | inl q => exact Or.inl q
    | inr q => exact Or.inr ⟨q, PySem.W.cellsFrom_some _ _ _ (Or.inl q)⟩
  refine codeAny_call_function hr.depth (kx _ _ lk) rfl S.co S.gen rfl (PySem.W.codeRec_of kx hcd) ?_
  refine hb _ _ _ _ (wpAny_newFunctionEnv_cells S.kind kinds ?_)
  rintro env rfl s1 x1
  refine ⟨nol.keeps x1.toInCall.keep, ?_⟩
  obtain ⟨t, ht, hq⟩ := hbody A outer s H vs Q E hgu (hr.deeper _) hsp
  have I : Inv (cxOf CX P w K mg base N qual scope f (.ref c) A outer s H E) [] (start N vs) H s1 := inv_start S hr.hd e0 hlen r x1
  refine codeAny_func (wpAny_mono (ht.run [] s1 (start N vs) H _ I hq) (fun fl s' hs => ?_) (fun _ _ z => z))
  have ends : ∀ {σ' : L2.St} {H' : Hp} {v : V} {u : Value}, Inv (cxOf CX P w K mg base N qual scope f (.ref c) A outer s H E) [] σ' H' s' → RelV v u → Q v H' → CE outer P w H s Q u s' := by
    intro σ' H' v u J rv q
    exact ⟨v, H', J.os, J.bare, J.base, J.hok, rv, q⟩
  match fl, hs with
  | .ret u, ⟨v, σ', H', J, rv, q⟩ => exact ends J rv q
  | .next, ⟨σ', H', J, q⟩ => exact ends (v := .non) (u := .none) J rfl q
  | .brk, ⟨_, _, _, q⟩ => exact q.elim
  | .cont, ⟨_, _, _, q⟩ => exact q.elim
end Z
namespace Z
open PySem PySem.Spec PyProof.Rows L2
/-! ### raising own errors -/
def tUp (ta : TA) : TA := fun σ H Q => ∃ Q0 : List V → Hp → Prop, ta σ H Q0 ∧ ∀ vs H1, Q0 vs H1 → Q vs H1
theorem pa_up {X : Cx} {es : List Expr} {ta : TA} (h : PA X es ta) : PA X es (tUp ta) := by
  constructor
  rintro pos pins s σ H Q I ⟨Q0, h0, h1⟩
  refine wpAny_mono (h.run pos pins s σ H Q0 I h0) ?_ (fun _ _ z => z)
  rintro us s' ⟨vs, H1, I1, r, q⟩
  exact ⟨vs, H1, I1, r, h1 _ _ q⟩
/-- raise x(e): x keeps one value as f -/
def tRaise1 (C : Addr) (f : Str) (W : WX) (ta : TA) : TS := fun _ σ H => ta σ H fun vs H1 => ∃ v, vs = [v] ∧ ∀ d H', Same H1 H' → H1 d = none → H' d = some (.xd [(f, v)]) → W (.ref C) (some d) σ H'
theorem ps_raise1 {X : Cx} {W : WX} {x f : Str} {k : Nat} {e : Expr} {es : List Expr} {ta : TA} {p pos pos2 : Pos} (E : ErrF X.K x) (D : DefM X.prog X.w X.K X.mg X.base k (He.ma X.K (He.ga X.K x) "__init__") ["self", f] (spErr1 X.K (He.ga X.K x) f)) (hr : Room (k + 1) X.A) (hc : X.calm = true) (tk : Takes X W) (hg : Gl X x) (hm : X.mg x = some (.ref (He.ga X.K x))) (ha : PA X (e :: es) ta)
    (hdb : (x == ("__debug__" : Str)) = false := by decide) (he : starEach (e :: es) X.env = (false, eval e X.env) :: starEach es X.env := by rfl) (hpl : (backTo pos (starEach es X.env)).any (·.1) = false := by rfl) :
    PS X (.Raise (some (.Call (.Name x p) (e :: es) [] pos)) none pos2) (tRaise1 (He.ga X.K x) f W ta) := by
  obtain ⟨fd, F, b⟩ := D.ex
  constructor
  intro pins s σ H D I h
  refine (ps_raise hc tk (pmk_oex (p := p) (pos := pos) E.o E.iC E.tI F hr b .nil pass0 hg hm (pa_up ha) hdb he hpl)).run pins s σ H D I ⟨_, h, ?_⟩
  rintro vs H1 ⟨v, rfl, k⟩
  exact ⟨by show 1 ≤ 1000; decide, fun a ha => raised1 (R := fun cls d H' => W cls d σ H') ha k⟩
theorem raised2 {K : PySem.W.Frag} {C : Addr} {f g : Str} {u v : V} {H : Hp} {a : Addr} {R : XK} (ha : H a = none) (k : ∀ d H', Same H H' → H d = none → H' d = some (.xd [(g, v), (f, u)]) → R (.ref C) (some d) H') :
    spErr2 K C f g [.ref a, u, v] (upd H a (exo a C none)) (fun z H2 => z = .non ∧ ∃ (d : Addr) (fs : List (Str × V)), H2 a = some (exo a C (some d)) ∧ H2 d = some (exd d fs) ∧ H d = none ∧ R (.ref C) (some d) (upd (del H2 a) d (.xd fs))) (fun _ _ _ => False) := by
  refine ⟨a, u, v, rfl, upd_same, fun dx H' h1 h2 e1 e2 e3 => ?_⟩
  have h1' : H dx = none := by rw [upd_ne h2] at h1; exact h1
  refine ⟨rfl, dx, _, e1, e2, h1', k dx _ (fun b o e => ?_) h1' upd_same⟩
  have n1 : b ≠ dx := ne_of_none e h1'
  have n2 : b ≠ a := ne_of_none e ha
  rw [upd_ne n1, del_ne n2, e3 b n2 n1, upd_ne n2]
  exact e
/-- raise x(e, e'): x keeps two values as f, g -/
def tRaise2 (C : Addr) (f g : Str) (W : WX) (ta : TA) : TS := fun _ σ H => ta σ H fun vs H1 => ∃ u v, vs = [u, v] ∧ ∀ d H', Same H1 H' → H1 d = none → H' d = some (.xd [(g, v), (f, u)]) → W (.ref C) (some d) σ H'
theorem ps_raise2 {X : Cx} {W : WX} {x f g : Str} {k : Nat} {e : Expr} {es : List Expr} {ta : TA} {p pos pos2 : Pos} (E : ErrF X.K x) (D : DefM X.prog X.w X.K X.mg X.base k (He.ma X.K (He.ga X.K x) "__init__") ["self", f, g] (spErr2 X.K (He.ga X.K x) f g)) (hr : Room (k + 1) X.A) (hc : X.calm = true) (tk : Takes X W) (hg : Gl X x) (hm : X.mg x = some (.ref (He.ga X.K x))) (ha : PA X (e :: es) ta)
    (hdb : (x == ("__debug__" : Str)) = false := by decide) (he : starEach (e :: es) X.env = (false, eval e X.env) :: starEach es X.env := by rfl) (hpl : (backTo pos (starEach es X.env)).any (·.1) = false := by rfl) :
    PS X (.Raise (some (.Call (.Name x p) (e :: es) [] pos)) none pos2) (tRaise2 (He.ga X.K x) f g W ta) := by
  obtain ⟨fd, F, b⟩ := D.ex
  constructor
  intro pins s σ H D I h
  refine (ps_raise hc tk (pmk_oex (p := p) (pos := pos) E.o E.iC E.tI F hr b .nil pass0 hg hm (pa_up ha) hdb he hpl)).run pins s σ H D I ⟨_, h, ?_⟩
  rintro vs H1 ⟨u, v, rfl, k⟩
  exact ⟨by show 2 ≤ 1000; decide, fun a ha => raised2 (R := fun cls d H' => W cls d σ H') ha k⟩
theorem same_none {H H' : Hp} {d : Addr} (s : Same H H') (h : H' d = none) : H d = none := by
  cases e : H d with
  | none => rfl
  | some o => rw [s d o e] at h; cases h
theorem vnm_str {v : V} (h : vnm v = true) : ∃ z, v = .str z := by
  cases v with
  | str z => exact ⟨z, rfl⟩
  | _ => cases h
theorem tgt_non {x y : V} (h : y = .non) : tgt x y = true := by subst h; rfl
theorem tgt_bad {x y : V} (h : y ≠ .non) (v : vnm y = false) : tgt x y = false := by
  unfold tgt
  rw [v, decide_eq_false h]
  rfl
theorem tgt_self {x : V} (v : vnm x = true) : tgt x x = false := by
  obtain ⟨z, rfl⟩ := vnm_str v
  unfold tgt
  simp
theorem tgt_two {x y : V} (v : vnm y = true) (h : y ≠ x) : tgt x y = true := by
  unfold tgt
  rw [v, decide_eq_false h]
  simp
/-! ### new frames -/
def tNew (C : Addr) (sp : Sp) (E : XK) (ta : TA) : TE := fun σ H Q => ta σ H fun vs H1 => ∀ p dx, H1 p = none → H1 dx = none → dx ≠ p → sp (.ref p :: vs) (upd (upd H1 dx (.own p)) p (.ins C dx [])) (fun v H2 => v = .non ∧ Q (.ref p) H2) E
/-- a def of the module that may raise -/
structure DefC (P : Program) (w : World) (K : PySem.W.Frag) (mg : Str → Option Value) (base : Heap) (k : Nat) (x : Str) (ps : List Str) (sp : Sp) : Prop where
  ex : ∃ fd, FnOk P w K mg base (CX P w) k (He.ga K x) fd ps sp ∧ Binds K fd ps []
  kp : PySem.W.keepIn K (.ref (He.ga K x)) = true
  at_ : mg x = some (.ref (He.ga K x))
theorem pe_defC {X : Cx} {k : Nat} {x : Str} {ps : List Str} {sp : Sp} {E : XK} {e : Expr} {es : List Expr} {p pos : Pos} {t : TA} (D : DefC X.prog X.w X.K X.mg X.base k x ps sp) (hr : Room k X.A) (hg : Gl X x) (hx : Passes (CX X.prog X.w) X E) (ha : PA X (e :: es) t)
    (hdb : (x == ("__debug__" : Str)) = false := by decide) (he : starEach (e :: es) X.env = (false, eval e X.env) :: starEach es X.env := by rfl) (hpl : (backTo pos (starEach es X.env)).any (·.1) = false := by rfl) :
    PE X (.Call (.Name x p) (e :: es) [] pos) (tCall sp [] E t) := by
  obtain ⟨fd, F, b⟩ := D.ex
  exact pe_call F hr hg D.at_ D.kp b .nil hx ha hdb he hpl
end Z
namespace Z
open PySem PySem.Spec PyProof.Rows L2
/-! ### the order of pairs of texts -/
def sLt (a b : Str) : Bool := decide (a.cps.toList < b.cps.toList)
def cmpS : CmpOp → Str → Str → Bool
  | .Lt, a, b => sLt a b
  | .LtE, a, b => !sLt b a
  | .Gt, a, b => sLt b a
  | .GtE, a, b => !sLt a b
  | _, _, _ => false
def endS : CmpOp → Bool
  | .LtE => true
  | .GtE => true
  | _ => false
def ord2 (op : CmpOp) (a1 a2 b1 b2 : Str) : Bool := if a1 = b1 then (if a2 = b2 then endS op else cmpS op a2 b2) else cmpS op a1 b1
def rOrd2 (K : PySem.W.Frag) (op : CmpOp) : R2 := fun x y H Q => ∃ (p q : Addr) (a1 a2 b1 b2 : Str), x = .ref p ∧ y = .ref q ∧ SqT K H p [.str a1, .str a2] ∧ SqT K H q [.str b1, .str b2] ∧ Q (.bl (ord2 op a1 a2 b1 b2)) H
theorem op_ord2 {X : Cx} {K : PySem.W.Frag} {op : CmpOp} (he : ∀ u v, compareOp op u v = richCompare op u v)
    (tuples : ∀ {A : Around} {s : Shared} {l b : Addr} {items items2 : Array Value} {e r : Nat → Bool}, s.heap.IsTuple l items → s.heap.IsTuple b items2 → A.units < cLine → (∀ j (h1 : j < items.size) (h2 : j < items2.size), SeqAt.EqAt A.in1 s items[j] items2[j] (e j)) →
      (∀ j (h1 : j < items.size) (h2 : j < items2.size), e j = false → Ob.RcOp op A.in1 s items[j] items2[j] (r j)) → ∃ z, (items.size = items2.size → z = endS op) ∧ Ob.RcOp op A s (.ref l) (.ref b) (Ob.lexAt e r z 0 (min items.size items2.size)))
    (text : ∀ {A : Around} {s : Shared} {a b : Str} {t u : Tok}, Ob.RcOp op A s (.str a t) (.str b u) (cmpS op a b))
    (hu : X.A.units < cLine) (hK : X.K = K := by rfl) : OpR X (compareOp op) (rOrd2 K op) := by
  subst hK
  rintro pins s σ H x y v u Q I rx ry ⟨p, q, a1, a2, b1, b2, rfl, rfl, hp, hq, k⟩
  cases rx
  cases ry
  obtain ⟨its, r1, p1, _⟩ := I.tuple hp
  obtain ⟨its2, r2, p2, _⟩ := I.tuple hq
  cases r1 with
  | cons e1 r1 =>
  cases r1 with
  | cons e2 r1 =>
  cases r1
  cases r2 with
  | cons g1 r2 =>
  cases r2 with
  | cons g2 r2 =>
  cases r2
  obtain ⟨t1, rfl⟩ := e1
  obtain ⟨t2, rfl⟩ := e2
  obtain ⟨u1, rfl⟩ := g1
  obtain ⟨u2, rfl⟩ := g2
  have eqs : ∀ {A : Around} {a b : Str} {t u : Tok}, SeqAt.EqAt A s (.str a t) (.str b u) (decide (a = b)) := by
    intro A a b t u
    have z : (a == b) = decide (a = b) := by
      by_cases q : a = b
      · rw [decide_eq_true q]; exact beq_iff_eq.mpr q
      · rw [decide_eq_false q]; exact beq_eq_false_iff_ne.mpr q
    rw [← z]
    exact SeqAt.EqAt.str_str _ _ _ _
  obtain ⟨z, hz, R⟩ := tuples (A := X.A) (s := s) (e := fun j => decide ([a1, a2].getD j "" = [b1, b2].getD j "")) (r := fun j => cmpS op ([a1, a2].getD j "") ([b1, b2].getD j "")) p1 p2 hu
    (fun j h1 h2 => match j, h1, h2 with
      | 0, _, _ => eqs
      | 1, _, _ => eqs
      | n + 2, h1, _ => absurd h1 (by simp)) (fun j h1 h2 _ => match j, h1, h2 with
      | 0, _, _ => text
      | 1, _, _ => text
      | n + 2, h1, _ => absurd h1 (by simp))
  have hz := hz rfl
  subst hz
  have el : Ob.lexAt (fun j => decide ([a1, a2].getD j "" = [b1, b2].getD j "")) (fun j => cmpS op ([a1, a2].getD j "") ([b1, b2].getD j "")) (endS op) 0 2 = ord2 op a1 a2 b1 b2 := by
    show (if decide (a1 = b1) = true then (if decide (a2 = b2) = true then endS op else cmpS op a2 b2) else cmpS op a1 b1) = _
    unfold ord2
    simp only [decide_eq_true_eq]
  have R2 : Ob.RcOp op X.A s (.ref p) (.ref q) (ord2 op a1 a2 b1 b2) := el ▸ R
  rw [he]
  exact R2 X.prog X.w X.xe (EP X pins σ Q) ⟨.bl _, H, I, rfl, k⟩
section
variable {X : Cx} {K : PySem.W.Frag}
theorem op_lt2 (hu : X.A.units < cLine) (hK : X.K = K := by rfl) : OpR X (compareOp .Lt) (rOrd2 K .Lt) := op_ord2 (fun _ _ => rfl) (fun h1 h2 h3 h4 h5 => ⟨_, fun e => by rw [e]; simp [endS], Ob.RcOp.tuples_lt h1 h2 h3 h4 h5⟩) (fun _ _ _ _ h => PyProof.Rows.lt_str h) hu hK
theorem op_le2 (hu : X.A.units < cLine) (hK : X.K = K := by rfl) : OpR X (compareOp .LtE) (rOrd2 K .LtE) := op_ord2 (fun _ _ => rfl) (fun h1 h2 h3 h4 h5 => ⟨_, fun e => by rw [e]; simp [endS], Ob.RcOp.tuples_le h1 h2 h3 h4 h5⟩) (fun _ _ _ _ h => PySem.P.le_str h) hu hK
theorem op_gt2 (hu : X.A.units < cLine) (hK : X.K = K := by rfl) : OpR X (compareOp .Gt) (rOrd2 K .Gt) := op_ord2 (fun _ _ => rfl) (fun h1 h2 h3 h4 h5 => ⟨_, fun e => by rw [e]; simp [endS], Ob.RcOp.tuples_gt h1 h2 h3 h4 h5⟩) (fun _ _ _ _ h => PySem.P.gt_str h) hu hK
theorem op_ge2 (hu : X.A.units < cLine) (hK : X.K = K := by rfl) : OpR X (compareOp .GtE) (rOrd2 K .GtE) := op_ord2 (fun _ _ => rfl) (fun h1 h2 h3 h4 h5 => ⟨_, fun e => by rw [e]; simp [endS], Ob.RcOp.tuples_ge h1 h2 h3 h4 h5⟩) (fun _ _ _ _ h => PySem.P.ge_str h) hu hK
end
/-- a row that is not reached -/
theorem ps_never {X : Cx} {st : Stmt} : PS X st (fun _ _ _ => False) := ⟨fun _ _ _ _ _ _ h => h.elim⟩
theorem shaped2 {a b : Str} (ha : PyData.strOk a = true) (hb : PyData.strOk b = true) : SeqAt.shaped (.tuple [.str a, .str b]) = true := by
  unfold SeqAt.shaped
  simp [PyData.canLay0, PyData.canLayAll0, PyData.depth, PyData.depthAll, ha, hb]
/-! ### frames -/
def optV : Option Str → V
  | none => .non
  | some z => .str z
def kOf (o : Option Str) : Str := o.getD ""
/-- p is a frame from a to o -/
structure FrOk (a : Str) (o : Option Str) : Prop where
  a : IsNm a
  o : ∀ z, o = some z → IsNm z
theorem FrOk.k {a : Str} {o : Option Str} (h : FrOk a o) : PyData.strOk (kOf o) = true := by
  cases o with
  | none => decide +kernel
  | some z => exact (h.o z rfl).ok
def IsFr (K : PySem.W.Frag) (H : Hp) (p : Addr) (a : Str) (o : Option Str) : Prop := FrOk a o ∧ ∃ dx, H p = some (.ins (He.ga K "Frame") dx (fFields (.str a) (optV o)))
theorem IsFr.same {K : PySem.W.Frag} {H H' : Hp} {p : Addr} {a : Str} {o : Option Str} (s : Same H H') (h : IsFr K H p a o) : IsFr K H' p a o := let ⟨f, dx, e⟩ := h; ⟨f, dx, s _ _ e⟩
def spKey (K : PySem.W.Frag) : Sp := fun vs H Q _ => ∃ (p : Addr) (a : Str) (o : Option Str), vs = [.ref p] ∧ IsFr K H p a o ∧ ∀ t, H t = none → Q (.ref t) (upd H t (.tup [.str a, .str (kOf o)]))
def spOrd (K : PySem.W.Frag) (op : CmpOp) : Sp := fun vs H Q _ => ∃ (p q : Addr) (a b : Str) (o r : Option Str), vs = [.ref p, .ref q] ∧ IsFr K H p a o ∧ IsFr K H q b r ∧ ∀ H', Same H H' → Q (.bl (ord2 op a (kOf o) b (kOf r))) H'
def eq2 (a1 a2 b1 b2 : Str) : Bool := PyData.eqv (.tuple [.str a1, .str a2]) (.tuple [.str b1, .str b2])
def spEqF (K : PySem.W.Frag) : Sp := fun vs H Q _ => ∃ (p : Addr) (y : V) (a : Str) (o : Option Str), vs = [.ref p, y] ∧ IsFr K H p a o ∧
  ((∃ (q : Addr) (b : Str) (r : Option Str), y = .ref q ∧ IsFr K H q b r ∧ ∀ H', Same H H' → Q (.bl (eq2 a (kOf o) b (kOf r))) H') ∨ ∃ t, t ∈ kinds ∧ TyX K H y t ∧ Q (.bl false) H)
def starOf : Option Str → Str
  | none => "*"
  | some z => z
def textF (a : Str) (o : Option Str) : Str := a ++ " " ++ starOf o
theorem str_ext {a b : Str} (h : a.cps.toList = b.cps.toList) : a = b := by
  obtain ⟨⟨x⟩⟩ := a
  obtain ⟨⟨y⟩⟩ := b
  simp only at h
  rw [h]
theorem str_app (a b : Str) : (a ++ b).cps.toList = a.cps.toList ++ b.cps.toList := by
  show (a.cps ++ b.cps).toList = _
  simp
theorem str_nil (a : Str) : Str.empty ++ a = a := str_ext (by rw [str_app]; rfl)
theorem str_len (a : Str) : a.length = a.cps.toList.length := by
  show a.cps.size = _
  simp
theorem str_len_le {a b : Str} (h : IsNm a) {n : Nat} (hb : b.length ≤ n) : (a ++ b).length ≤ 8 + n := by
  have := h.hi
  rw [str_len, str_app, List.length_append, ← str_len, ← str_len]
  omega
theorem FrOk.text_none {a : Str} (_ : FrOk a none) : a ++ " *" = textF a none := str_ext (by
  unfold textF starOf
  rw [str_app, str_app, str_app, List.append_assoc]
  rfl)
theorem FrOk.text_fit {a z : Str} (h : FrOk a (some z)) : (a ++ " " ++ z).length ≤ sizeLine := by
  have h1 := h.a.hi
  have h2 := (h.o z rfl).hi
  have e : (a ++ " " ++ z).length = a.length + 1 + z.length := by
    rw [str_len, str_app, str_app, List.length_append, List.length_append, ← str_len, ← str_len]
    rfl
  rw [e]
  exact Nat.le_trans (show a.length + 1 + z.length ≤ 100 by omega) (by decide)
def spStrF (K : PySem.W.Frag) : Sp := fun vs H Q _ => ∃ (p : Addr) (a : Str) (o : Option Str), vs = [.ref p] ∧ IsFr K H p a o ∧ Q (.str (textF a o)) H
def spAllF (K : PySem.W.Frag) : Sp := fun vs H Q _ => ∃ (p : Addr) (a : Str) (o : Option Str), vs = [.ref p] ∧ IsFr K H p a o ∧ Q (.bl (decide (optV o = .non))) H
theorem nm_v {a : Str} (h : IsNm a) : vnm (.str a) = true := nmB_iff.mpr h
theorem tgt_ok {a : Str} {o : Option Str} (f : FrOk a o) (ne : ∀ z, o = some z → z ≠ a) : tgt (.str a) (optV o) = true := by
  cases o with
  | none => exact tgt_non rfl
  | some z => exact tgt_two (nm_v (f.o z rfl)) (fun e => ne z rfl (V.str.inj e))
theorem kind_opt {K : PySem.W.Frag} {H : Hp} {a : Str} {o : Option Str} (f : FrOk a o) : Kind K H (optV o) := by
  cases o with
  | none => exact .non
  | some z => exact .str (f.o z rfl)
/-- Frame(a, o) is made, at p -/
theorem frame_new {K : PySem.W.Frag} {H : Hp} {a : Str} {o : Option Str} {Q : Addr → Hp → Prop} {E : XK} (f : FrOk a o) (ne : ∀ z, o = some z → z ≠ a) (k : ∀ p H', Same H H' → H p = none → IsFr K H' p a o → Q p H') :
    ∀ x dx, H x = none → H dx = none → dx ≠ x → spFrame K [.ref x, .str a, optV o] (upd (upd H dx (.own x)) x (.ins (He.ga K "Frame") dx [])) (fun v H2 => v = .non ∧ Q x H2) E := by
  intro x dx h1 h2 h3
  refine ⟨x, dx, _, _, rfl, upd_same, .str f.a, kind_opt f, fun z => ?_, fun _ z => ?_, fun _ _ H' b e => ⟨rfl, k x H' (fun c u ec => ?_) h1 ⟨f, dx, e⟩⟩⟩
  · rw [nm_v f.a] at z
    cases z
  · rw [tgt_ok f ne] at z
    cases z
  · have n1 := ne_of_none ec h1
    have n2 := ne_of_none ec h2
    exact b c u n1 (by rw [upd_ne n1, upd_ne n2]; exact ec)
/-- Frame(x, y) is made, or refused -/
theorem frame_bad {K : PySem.W.Frag} {H : Hp} {u v : V} {Q : Addr → Hp → Prop} {E : XK} (ku : Kind K H u) (kv : Kind K H v) (h : vnm u = false ∨ tgt u v = false)
    (k1 : vnm u = false → ∀ d H', Same H H' → H d = none → H' d = some (.xd [("part", .str "sender")]) → E (.ref (He.ga K "BadFrame")) (some d) H')
    (k2 : vnm u = true → tgt u v = false → ∀ d H', Same H H' → H d = none → H' d = some (.xd [("part", .str "target")]) → E (.ref (He.ga K "BadFrame")) (some d) H') :
    ∀ x dx, H x = none → H dx = none → dx ≠ x → spFrame K [.ref x, u, v] (upd (upd H dx (.own x)) x (.ins (He.ga K "Frame") dx [])) (fun v H2 => v = .non ∧ Q x H2) E := by
  intro x dx h1 h2 h3
  have sm : Same H (upd (upd H dx (.own x)) x (.ins (He.ga K "Frame") dx [])) := fun c u ec => by
    rw [upd_ne (ne_of_none ec h1), upd_ne (ne_of_none ec h2)]
    exact ec
  refine ⟨x, dx, _, _, rfl, upd_same, ku.same sm, kv.same sm, fun z d H' s n e => k1 z d H' (sm.trans s) (same_none sm n) e, fun z t d H' s n e => k2 z t d H' (sm.trans s) (same_none sm n) e, fun z t => ?_⟩
  rcases h with h | h
  · rw [h] at z
    cases z
  · rw [h] at t
    cases t
theorem ne_pen {H H' : Hp} {p c q : Addr} {ms : List Int} {t : Nat} {z : Int} (P : Pen H p c ms t z) (s : Same H H') (h : H' q = none) : q ≠ p := (ne_of_none (s _ _ P.a) h).symm
theorem cut7 {x y : Str} (_ : IsNm x) (k : Nat) (hy : y.length ≤ 2) (hk : k ≤ 7 := by decide) : (cutS x none (some (k : Int))).length + y.length ≤ sizeLine := by
  have h2 := cut_len x k
  exact Nat.le_trans (show _ ≤ 10 by omega) (by decide)
theorem kind_cut {K : PySem.W.Frag} {H : Hp} {x y : Str} (hx : IsNm x) (k : Nat) (hy : y.length ≤ 2) (hk : k ≤ 7 := by decide) : Kind K H (.str (cutS x none (some (k : Int)) ++ y)) := by
  refine .inl ⟨_, rfl, ?_⟩
  rw [str_len, str_app, List.length_append, ← str_len, ← str_len]
  exact cut7 hx k hy hk
theorem not_nm {x y : Str} {b : Nat} (hb : b ∈ y.cps.toList) (hn : ¬ (97 ≤ b ∧ b ≤ 122)) : vnm (.str (x ++ y)) = false := by
  cases e : vnm (.str (x ++ y)) with
  | false => rfl
  | true =>
    have h := (nmB_iff.mp e).az b (by rw [str_app]; exact List.mem_append_right _ hb)
    exact absurd h hn
theorem kind_t {K : PySem.W.Frag} {H : Hp} {v : V} {a : String} (h : TyOf K H v (.type a)) (k : kitB a "str" = some false) : Kind K H v := .inr ⟨_, .base h, kit_ty k⟩
end Z
namespace Z
open PySem PySem.Spec PyProof.Rows L2
/-! ### a def that calls what it is handed, within a try -/
theorem takes_len {X : Cx} {W : WX} (t : Takes X W) : Takes X (fun cls d σ H => σ.length = X.N.length → W cls d σ H) := by
  rintro u s' ⟨a, B, sI, pins, σ, H, cls, d, e, I, nb, up, sky, na, os, ag, w⟩
  exact t u s' ⟨a, B, sI, pins, σ, H, cls, d, e, I, nb, up, sky, na, os, ag, w I.len⟩
theorem pe_up {X : Cx} {e : Expr} {te : TE} (h : PE X e te) : PE X e (fun σ H Q => ∃ Q0 : VK, te σ H Q0 ∧ ∀ v H1, Q0 v H1 → Q v H1) := by
  constructor
  rintro pins s σ H Q I ⟨Q0, h0, h1⟩
  refine wpAny_mono (h.run pins s σ H Q0 I h0) ?_ (fun _ _ z => z)
  rintro u s' ⟨v, H1, I1, r, q⟩
  exact ⟨v, H1, I1, r, h1 _ _ q⟩
/-- found = ask() -/
def tAsk (n j : Nat) (f c' : Addr) (q : Str) (tl : XK → Hp → VK → Prop) (W : WX) : TS := fun D σ H => ∃ (E : XK) (Q0 : VK), (∀ cls d σ' H', E cls d H' → σ'.length = n → W cls d σ' H') ∧ σ[0]? = some (some (.ref f)) ∧ H c' = some (LamX.CodeO c' q) ∧ tl E H Q0 ∧ ∀ v H1, Q0 v H1 → D.nx (σ.set j (some v)) H1
theorem ps_ask {Z : Cx} {W : WX} {n : Nat} {f c' : Addr} {q nm a : Str} {tl : XK → Hp → VK → Prop} {j : Nat} {p1 p2 p3 p4 : Pos} (hn : Z.N.length = n)
    (set_ : ∀ te, PE Z (.Call (.Name a p1) [] [] p2) te → PS Z (.Assign [.Name nm p3] (.Call (.Name a p1) [] [] p2) p4) (tAsg te (gName j)))
    (act : ∀ E : XK, (∀ cls d σ' H', E cls d H' → σ'.length = Z.N.length → W cls d σ' H') → PE Z (.Call (.Name a p1) [] [] p2) (fun σZ HZ Q => σZ[0]? = some (some (.ref f)) ∧ HZ c' = some (LamX.CodeO c' q) ∧ tl E HZ Q)) :
    PSs Z [.Assign [.Name nm p3] (.Call (.Name a p1) [] [] p2) p4] (tAsk n j f c' q tl W) := by
  constructor
  rintro pins s σ H D I ⟨E, Q0, hW, h1, h2, h3, h4⟩
  exact (pss_one (set_ _ (pe_up (act E (fun cls d σ' H' e l => hW cls d σ' H' e (l.trans hn)))))).run pins s σ H D I ⟨Q0, ⟨h1, h2, h3⟩, h4⟩
/-- what a law's _law_heard makes of a call that may raise x, whose only value is its field f -/
def TTheard (K : PySem.W.Frag) (x f : Str) : (XK → Hp → VK → Prop) → Hp → VK → Prop := fun tl H Q => ∀ H1, Same H H1 → ∃ (E : XK) (Q0 : VK), tl E H1 Q0 ∧
  (∀ cls d H', E cls d H' → cls = .ref (He.ga K x) ∧ ∃ (dd : Addr) (v : V), d = some dd ∧ H' dd = some (.xd [(f, v)]) ∧ ∀ H'', Same H' H'' → Q v H'') ∧ ∀ v H', Q0 v H' → ∀ l, H' l = none → Q (.ref l) (upd H' l (.lst [v]))
/-! ### all but the tables stays -/
theorem tyOf_ext {K : PySem.W.Frag} {H H' : Hp} {v : V} {t : Value} (s : LamX.ExtN H H') (h : TyOf K H v t) : TyOf K H' v t := by
  cases h with
  | non => exact .non
  | bl b => exact .bl b
  | int i => exact .int i
  | str z => exact .str z
  | flt b => exact .flt b
  | lst e => exact .lst (s _ _ e nofun)
  | frz e => exact .frz (s _ _ e nofun)
  | tup e => exact .tup (s _ _ e nofun)
  | dK e => exact .dK (s _ _ e nofun)
  | dT e => exact .dT (s _ _ e nofun)
  | ins e a b c d f => exact .ins (s _ _ e nofun) a b c d f
theorem tyX_ext {K : PySem.W.Frag} {H H' : Hp} {v : V} {t : Value} (s : LamX.ExtN H H') (h : TyX K H v t) : TyX K H' v t := by
  cases h with
  | base b => exact .base (tyOf_ext s b)
  | byt b => exact .byt b
  | set e => exact .set (s _ _ e nofun)
  | kList e c => exact .kList e c
  | kTuple e c => exact .kTuple e c
  | kDict e c => exact .kDict e c
  | fTuple e => exact .fTuple (s _ _ e nofun)
  | fDict e => exact .fDict (s _ _ e nofun)
theorem Kind.ext {K : PySem.W.Frag} {H H' : Hp} {v : V} (s : LamX.ExtN H H') (h : Kind K H v) : Kind K H' v := h.imp id fun ⟨t, a, b⟩ => ⟨t, tyX_ext s a, b⟩
/-- all but p and the tables stays -/
def ButT (p : Addr) (H H' : Hp) : Prop := ∀ b o, b ≠ p → H b = some o → (∀ ps, o ≠ .tbl ps) → H' b = some o
theorem ButT.refl {p : Addr} {H : Hp} : ButT p H H := fun _ _ _ h _ => h
theorem ButT.trans {p : Addr} {H H1 H2 : Hp} (a : ButT p H H1) (b : ButT p H1 H2) : ButT p H H2 := fun c o n h k => b c o n (a c o n h k) k
theorem ButT.of {p : Addr} {H H' : Hp} (b : But p H H') : ButT p H H' := fun c o n h _ => b c o n h
theorem ButT.ofS {p : Addr} {H H' : Hp} (b : Same H H') : ButT p H H' := fun c o _ h _ => b c o h
theorem ButT.ofN {p : Addr} {H H' : Hp} (b : LamX.ExtN H H') : ButT p H H' := fun c o _ h k => b c o h k
theorem Pen.ext {H H' : Hp} {p c : Addr} {ms : List Int} {t : Nat} {z : Int} (P : Pen H p c ms t z) (s : LamX.ExtN H H') : Pen H' p c ms t z := ⟨s _ _ P.a nofun, s _ _ P.b nofun⟩
theorem extS {H H' : Hp} (s : Same H H') : LamX.ExtN H H' := LamX.ExtN.of s
/-- _law_heard(lambda: Frame(..)), refused -/
theorem heard_bad {K : PySem.W.Frag} {T : List (Addr × Str)} {t : XK → TE} {σ : L2.St} {H : Hp} {Q : VK} {u v : V} (part : Str) (hT : LamX.Tabs T H)
    (rd : ∀ E H2, (∀ x dx, H2 x = none → H2 dx = none → dx ≠ x → spFrame K [.ref x, u, v] (upd (upd H2 dx (.own x)) x (.ins (He.ga K "Frame") dx [])) (fun v _ => v = .non ∧ False) E) → t E σ H2 (fun _ _ => False))
    (ku : Kind K H u) (kv : Kind K H v) (bad : (part = "sender" ∧ vnm u = false) ∨ (part = "target" ∧ vnm u = true ∧ tgt u v = false)) (k : ∀ H', LamX.ExtN H H' → LamX.Tabs T H' → Q (.str part) H') :
    LamX.tLam T (TTheard K "BadFrame" "part") t σ H Q := by
  refine ⟨hT, fun H1 eN T1 H2 s2 => ⟨fun cls d H' => cls = .ref (He.ga K "BadFrame") ∧ ∃ dd, d = some dd ∧ H' dd = some (.xd [("part", .str part)]) ∧ Same H2 H', fun _ _ => False, ?_, ?_, fun _ _ z => z.elim⟩⟩
  · have e2 : LamX.ExtN H H2 := eN.trans (extS s2)
    refine rd _ H2 (frame_bad (Q := fun _ _ => False) (ku.ext e2) (kv.ext e2) ?_ (fun z d H' s n e => ?_) (fun z zt d H' s n e => ?_))
    · rcases bad with ⟨_, b⟩ | ⟨_, _, b⟩
      · exact .inl b
      · exact .inr b
    · rcases bad with ⟨rfl, b⟩ | ⟨_, b, _⟩
      · exact ⟨rfl, d, rfl, e, s⟩
      · rw [b] at z
        cases z
    · rcases bad with ⟨_, b⟩ | ⟨rfl, _, _⟩
      · rw [b] at z
        cases z
      · exact ⟨rfl, d, rfl, e, s⟩
  · rintro cls d H' ⟨rfl, dd, rfl, hdd, sm⟩
    exact ⟨rfl, dd, _, rfl, hdd, fun H'' s => k H'' (((eN.trans (extS s2)).trans (extS sm)).trans (extS s)) (((T1.ext s2).ext sm).ext s)⟩
theorem tyX_gen {K : PySem.W.Frag} {H H' : Hp} {v : V} {t : Value} (s : ∀ b o, v = .ref b → H b = some o → (∀ ps, o ≠ .tbl ps) → H' b = some o) (h : TyX K H v t) : TyX K H' v t := by
  cases h with
  | base b =>
    refine .base ?_
    cases b with
    | non => exact .non
    | bl b => exact .bl b
    | int i => exact .int i
    | str z => exact .str z
    | flt b => exact .flt b
    | lst e => exact .lst (s _ _ rfl e nofun)
    | frz e => exact .frz (s _ _ rfl e nofun)
    | tup e => exact .tup (s _ _ rfl e nofun)
    | dK e => exact .dK (s _ _ rfl e nofun)
    | dT e => exact .dT (s _ _ rfl e nofun)
    | ins e a b c d f => exact .ins (s _ _ rfl e nofun) a b c d f
  | byt b => exact .byt b
  | set e => exact .set (s _ _ rfl e nofun)
  | kList e c => exact .kList e c
  | kTuple e c => exact .kTuple e c
  | kDict e c => exact .kDict e c
  | fTuple e => exact .fTuple (s _ _ rfl e nofun)
  | fDict e => exact .fDict (s _ _ rfl e nofun)
theorem Kind.but {K : PySem.W.Frag} {p : Addr} {H H' : Hp} {v : V} (s : But p H H') (n : v ≠ .ref p) (h : Kind K H v) : Kind K H' v :=
  h.imp id fun ⟨t, a, b⟩ => ⟨t, tyX_gen (fun b o e h _ => s b o (fun z => n (by rw [e, z])) h) a, b⟩
theorem tabs_upd {T : List (Addr × Str)} {H : Hp} {l : Addr} {xs ys : List V} (t : LamX.Tabs T H) (h : H l = some (.lst xs)) : LamX.Tabs T (upd H l (.lst ys)) := by
  intro p hp
  obtain ⟨ps, h1, h2, h3⟩ := t p hp
  have n1 : p.1 ≠ l := ne_of h1 h nofun
  refine ⟨ps, by rw [upd_ne n1]; exact h1, h2, fun pos cv hc => ?_⟩
  obtain ⟨c, e1, e2⟩ := h3 pos cv hc
  have n2 : c ≠ l := ne_of e2 h (fun z => by unfold LamX.CodeO at z; cases z)
  exact ⟨c, e1, by rw [upd_ne n2]; exact e2⟩
/-- a list of what was heard grows -/
structure Heard (T : List (Addr × Str)) (H Hk : Hp) (l : Addr) (xs : List V) : Prop where
  e : LamX.ExtN H Hk
  t : LamX.Tabs T Hk
  n : ∀ o, H l = some o → ∃ ps, o = .tbl ps
  a : Hk l = some (.lst xs)
theorem Heard.go {T : List (Addr × Str)} {H Hk H' : Hp} {l : Addr} {xs ys : List V} (h : Heard T H Hk l xs) (e : LamX.ExtN Hk H') (t : LamX.Tabs T H') : Heard T H (upd H' l (.lst ys)) l ys :=
  ⟨fun b o hb nb => by
    have n1 : b ≠ l := by
      rintro rfl
      obtain ⟨ps, rfl⟩ := h.n o hb
      exact nb ps rfl
    rw [upd_ne n1]
    exact e _ _ (h.e _ _ hb nb) nb, tabs_upd t (e _ _ h.a nofun), h.n, upd_same⟩
theorem Heard.new {T : List (Addr × Str)} {H H' : Hp} {l : Addr} {xs : List V} (e : LamX.ExtN H H') (t : LamX.Tabs T H') (n : H' l = none) : Heard T H (upd H' l (.lst xs)) l xs := by
  refine ⟨e.trans (extS (same_new n)), t.ext (same_new n), fun o q => ?_, upd_same⟩
  cases o with
  | tbl ps => exact ⟨ps, rfl⟩
  | _ =>
    have := e l _ q nofun
    rw [n] at this
    cases this
theorem tabs_but {T : List (Addr × Str)} {H H' : Hp} {p c : Addr} {ms : List Int} {n : Nat} {z : Int} (t : LamX.Tabs T H) (P : Pen H p c ms n z) (b : But p H H') : LamX.Tabs T H' := by
  intro q hq
  obtain ⟨ps, h1, h2, h3⟩ := t q hq
  refine ⟨ps, b _ _ (ne_of h1 P.a nofun) h1, h2, fun pos cv hc => ?_⟩
  obtain ⟨d, e1, e2⟩ := h3 pos cv hc
  exact ⟨d, e1, b _ _ (ne_of e2 P.a (fun z => by unfold LamX.CodeO at z; cases z)) e2⟩
def three (z : Str) : List V := [.str z, .str z, .str z]
def threeD (z : Str) : PyData := .list [.str z, .str z, .str z]
theorem three_dp {K : PySem.W.Frag} {H : Hp} {l : Addr} {z : Str} (h : H l = some (.lst (three z))) : Dp K H (.ref l) (threeD z) := .lst (SqL.of h) (.cons (.str _) (.cons (.str _) (.cons (.str _) .nil)))
end Z
namespace Z
open PySem PySem.Spec PyProof.Rows L2
/-! ### str(x) by an own __str__ -/
section
variable {prog : Program} {w : World} {A : Around} {E : Value → Shared → Prop} {s : Shared} {K : PySem.W.Frag} {x C f : Addr} {ox : Obj} {od : Option Obj}
theorem shown_own {R : Value → Shared → Prop} (hu : A.units < cLine) (X : K.In s.heap) (I : PySem.W.InstAt s.heap x ox C od) (hs : PySem.W.findIn K (.ref C) "__str__" = some (some (.ref f))) (hf : PySem.W.isFn K (.ref f) = true)
    (h : wpAny (model prog w) A (call (.ref f) [.ref x]) (fun v s' => ∃ y t, v = .str y t ∧ R v s') E s) : wpAny (model prog w) A (PySem.Builtin.Str.strOf (.ref x)) R E s := by
  unfold PySem.Builtin.Str.strOf
  rw [show Builtin.Str.isExactStr (.ref x) = false from rfl]
  refine wpAny_bind (m := cRoomFor _ _) (wpAny_cRoomFor hu ?_)
  refine wpAny_bind (m := callSpecial? (.ref x) (Str.ofString "__str__")) (PySem.W.special_fn X I hs (beq_iff_eq.mp hf) (wpAny_mono h (fun r s' z => ?_) fun _ _ y => y))
  obtain ⟨y, t, rfl, q⟩ := z
  exact wpAny_pure q
theorem str_own {Q : Value → Shared → Prop} (hu : A.in1.in1.units < cLine) (X : K.In s.heap) (I : PySem.W.InstAt s.heap x ox C od) (hs : PySem.W.findIn K (.ref C) "__str__" = some (some (.ref f))) (hf : PySem.W.isFn K (.ref f) = true)
    (h : wpAny (model prog w) A.in1.in1 (call (.ref f) [.ref x]) (fun v s' => ∃ y t, v = .str y t ∧ Q v s') E s) : wpAny (model prog w) A (call (.type "str") [.ref x]) Q E s := by
  refine callType_newIn PySem.F.called_str (by decide) (PySem.F.typeCall_str_1 _) (PySem.F.newCall_str_1 _) (fun obj => PySem.F.args_object_init_2 obj _) PySem.F.entry_str_new
    (S := fun A1 R s1 => A1 = A.in1 ∧ s1 = s ∧ (∀ y t s2, Q (.str y t) s2 → R (.ok (.ret (.str y t))) s2) ∧ ∀ er s2, E er s2 → R (.error er) s2) ?_ ⟨rfl, rfl, fun y t s2 q => ⟨typeIs_str _ _ _, q⟩, fun _ _ q => q⟩
  rintro A1 R s1 ⟨rfl, rfl, hR, hE⟩
  rw [str_new_tree]
  refine wpAny_bind (wpAny_pure ?_)
  refine wpAny_bind (wpAny_of_eq isSubtype_str_str ?_)
  refine wpAny_bind (wpAny_mono (shown_own (R := fun r s2 => ∃ y t, r = .str y t ∧ Q r s2) hu X I hs hf (wpAny_mono h (fun v s2 ⟨y, t, e, q⟩ => ⟨y, t, e, y, t, e, q⟩) fun _ _ z => z)) (fun r s2 hr => ?_) fun _ _ z => hE _ _ z)
  obtain ⟨y, t, rfl, q⟩ := hr
  exact wpAny_pure (hR y t s2 q)
end
def rStrOwn (C : Addr) (sp : Sp) : List V → Hp → VK → Prop := fun xs H Q => ∃ (a dx : Addr) (fs : List (Str × V)), xs = [.ref a] ∧ H a = some (.ins C dx fs) ∧ sp [.ref a] H (fun v H' => ∃ z, v = .str z ∧ Q (.str z) H') E0
theorem call_strOwn {X : Cx} {C f : Addr} {k : Nat} {ps : List Str} {sp : Sp} (D : DefM X.prog X.w X.K X.mg X.base k f ps sp) (hr : Room (k + 2) X.A) (hs : PySem.W.findIn X.K (.ref C) "__str__" = some (some (.ref f))) (hf : PySem.W.isFn X.K (.ref f) = true) : CallR X (.type "str") (rStrOwn C sp) := by
  obtain ⟨fd, F, hb⟩ := D.ex
  rintro pins s σ H xs us Q I r ⟨a, dx, fs, rfl, ha, hq⟩
  obtain ⟨u, rfl, e⟩ := vals1 r
  cases e
  obtain ⟨mA, J, _⟩ := ins_get I.hok ha
  obtain ⟨od, J, _⟩ := J.look
  have hun := hr.un
  refine str_own (by show X.A.units + 1 + 1 < cLine; omega) I.kIn J hs hf ?_
  have e0 : Env0 X.prog X.w X.K X.mg X.base X.A.in1.in1 X.stack s H := by
    have e := I.env0
    exact ⟨e.frames, e.mod, e.bs, e.bsz, e.funs, e.frf, e.hok, e.bare⟩
  have bt : BindsTo s fd ⟨[.ref a], []⟩ (ps.zip [.ref a]) := by
    have hl : [V.ref a].length = ps.length := F.len _ _ _ _ hq
    have := hb s [.ref a] I.kIn (by simpa using hl)
    simpa using this
  refine wpAny_call (codeAny_mono (F.run X.A.in1.in1 X.stack s H ⟨[.ref a], []⟩ [.ref a] [.ref a] _ E0 ?_ e0 bt r hq) (fun r s' hq => ?_))
  · exact hr.in1.in1
  match r, hq with
  | .error e, hq => exact (show False from hq).elim
  | .ok .next, hq => exact hq.elim
  | .ok .brk, hq => exact hq.elim
  | .ok .cont, hq => exact hq.elim
  | .ok (.ret w), hq =>
    obtain ⟨z, H', I', rz, y, rfl, q⟩ := I.after hq
    obtain ⟨t, rfl⟩ := rz
    exact ⟨y, t, rfl, .str y, H', I', ⟨t, rfl⟩, q⟩
/-! ### what is shown of frames -/
def optD : Option Str → PyData
  | none => .none
  | some z => .str z
def frD (a : Str) (o : Option Str) (b : Bool) (z : Str) : PyData := .list [.str a, optD o, .bool b, .str z, .str z, optD o]
def sixD (b1 b2 b3 b4 b5 b6 : Bool) : PyData := .list [.bool b1, .bool b2, .bool b3, .bool b4, .bool b5, .bool b6]
theorem shown_fit {d : PyData} (h : d.layable0 = true) (i : d.intsShort 13 = true) : d.shown.length ≤ sizeLine := Nat.le_trans (PyProof.Rows.shown_le13 h i) (by decide)
theorem textF_ok {a : Str} {o : Option Str} (f : FrOk a o) : PyData.strOk (textF a o) = true ∧ (textF a o).length ≤ 100 := by
  have h1 := f.a
  have h2 : ∀ c ∈ (starOf o).cps.toList, c ≤ 122 := by
    cases o with
    | none => decide +kernel
    | some z => exact fun c hc => ((f.o z rfl).az c hc).2
  have h3 : (starOf o).length ≤ 8 := by
    cases o with
    | none => decide +kernel
    | some z => exact (f.o z rfl).hi
  have hl : (textF a o).length ≤ 100 := by
    unfold textF
    have := h1.hi
    rw [str_len, str_app, str_app, List.length_append, List.length_append, ← str_len, ← str_len, ← str_len]
    have e : (Str.ofString " ").length = 1 := by decide +kernel
    omega
  refine ⟨?_, hl⟩
  have hc : ∀ c ∈ (textF a o).cps.toList, c ≤ 122 := by
    intro c hc
    unfold textF at hc
    rw [str_app, str_app] at hc
    rcases List.mem_append.mp hc with hc | hc
    · rcases List.mem_append.mp hc with hc | hc
      · exact (h1.az c hc).2
      · have e : (Str.ofString " ").cps.toList = [32] := by decide +kernel
        rw [e] at hc
        simp at hc
        omega
    · exact h2 c hc
  unfold PyData.strOk
  rw [Array.all_eq_true_iff_forall_mem]
  intro c h
  have := hc c (Array.mem_toList_iff.mpr h)
  simp
  omega
theorem frD_lay {a z : Str} {o : Option Str} {b : Bool} (f : FrOk a o) (hz : PyData.strOk z = true) (l2 : z.length ≤ 100) : (frD a o b z).layable0 = true := by
  have ha := f.a.ok
  have l1 : a.cps.size ≤ 8 := f.a.hi
  have l2 : z.cps.size ≤ 100 := l2
  unfold PyData.layable0 frD optD
  cases o with
  | none =>
    simp [PyData.canLay0, PyData.canLayAll0, PyData.depth, PyData.depthAll, PyData.weight, PyData.weightAll, ha, hz]
    omega
  | some y =>
    have hy := (f.o y rfl).ok
    have l3 : y.cps.size ≤ 8 := (f.o y rfl).hi
    simp [PyData.canLay0, PyData.canLayAll0, PyData.depth, PyData.depthAll, PyData.weight, PyData.weightAll, ha, hz, hy]
    omega
theorem frD_short {a z : Str} {o : Option Str} {b : Bool} : (frD a o b z).intsShort 13 = true := by
  unfold frD optD
  cases o <;> simp [PyData.intsShort, PyData.intsShortAll]
theorem frD_show {a z : Str} {o : Option Str} {b : Bool} : (frD a o b z).showable = true := by
  unfold frD optD
  cases o <;> simp [PyData.showable, PyData.showableAll]
theorem frD_dict {a z : Str} {o : Option Str} {b : Bool} : (frD a o b z).hasDict = false := by
  unfold frD optD
  cases o <;> simp [PyData.hasDict, PyData.hasDictAll]
theorem frD_deep {a z : Str} {o : Option Str} {b : Bool} : (frD a o b z).depth ≤ 64 := by
  unfold frD optD
  cases o <;> simp [PyData.depth, PyData.depthAll]
theorem six_ok : ∀ b1 b2 b3 b4 b5 b6 : Bool, (sixD b1 b2 b3 b4 b5 b6).showable = true ∧ (sixD b1 b2 b3 b4 b5 b6).hasDict = false ∧ (sixD b1 b2 b3 b4 b5 b6).depth ≤ 64 ∧ (sixD b1 b2 b3 b4 b5 b6).shown.length ≤ sizeLine := by
  intro b1 b2 b3 b4 b5 b6
  refine ⟨by simp [sixD, PyData.showable, PyData.showableAll], by simp [sixD, PyData.hasDict, PyData.hasDictAll], by simp [sixD, PyData.depth, PyData.depthAll], shown_fit ?_ ?_⟩
  · unfold PyData.layable0 sixD
    simp [PyData.canLay0, PyData.canLayAll0, PyData.depth, PyData.depthAll, PyData.weight, PyData.weightAll]
  · simp [sixD, PyData.intsShort, PyData.intsShortAll]
theorem dp_opt {K : PySem.W.Frag} {H : Hp} {o : Option Str} : Dp K H (optV o) (optD o) := by
  cases o with
  | none => exact .non
  | some z => exact .str z
def spTextP (K : PySem.W.Frag) : Sp := fun vs H Q _ => ∃ (q : Addr) (a : Str) (o : Option Str), vs = [.ref q] ∧ SqT K H q [.str a, optV o] ∧ FrOk a o ∧ Q (.str (textF a o)) H
/-- a pair of which a frame can be made -/
structure PairOk (a : Str) (o : Option Str) : Prop where
  f : FrOk a o
  n : ∀ z, o = some z → z ≠ a
def spFR (K : PySem.W.Frag) : Sp := fun vs H Q _ => ∃ (q : Addr) (a : Str) (o : Option Str), vs = [.ref q] ∧ SqT K H q [.str a, optV o] ∧ PairOk a o ∧ ∀ H', Same H H' → Q (.bl true) H'
theorem seqT_same {K : PySem.W.Frag} {H H' : Hp} {a : Addr} {xs : List V} (s : Same H H') (h : SqT K H a xs) : SqT K H' a xs := by
  rcases h with (h | ⟨o, h⟩) | h
  · exact .inl (.inl (s _ _ h))
  · exact .inl (.inr ⟨o, s _ _ h⟩)
  · exact .inr h
theorem seqT_ext {K : PySem.W.Frag} {H H' : Hp} {a : Addr} {xs : List V} (s : LamX.ExtN H H') (h : SqT K H a xs) : SqT K H' a xs := by
  rcases h with (h | ⟨o, h⟩) | h
  · exact .inl (.inl (s _ _ h nofun))
  · exact .inl (.inr ⟨o, s _ _ h nofun⟩)
  · exact .inr h
theorem eq2_refl (a b : Str) : eq2 a b a b = true := by
  unfold eq2
  simp [PyData.eqv, PyData.eqvAll]
theorem u70 {k : Nat} {A : Around} (h : Room k A) : A.units + 70 < cLine := by
  have := h.un
  omega
/-- a list of pairs of which frames can be made -/
def Pairs (K : PySem.W.Frag) (H : Hp) (qs : List Addr) : Prop := ∀ q ∈ qs, ∃ a o, SqT K H q [.str a, optV o] ∧ PairOk a o
theorem Pairs.same {K : PySem.W.Frag} {H H' : Hp} {qs : List Addr} (h : Pairs K H qs) (s : Same H H') : Pairs K H' qs := fun q hq => let ⟨a, o, e, p⟩ := h q hq; ⟨a, o, seqT_same s e, p⟩
theorem seqL_same {K : PySem.W.Frag} {H H' : Hp} {a : Addr} {xs : List V} (s : Same H H') (h : SqL K H a xs) : SqL K H' a xs := by
  rcases h with (h | ⟨o, h⟩) | h
  · exact .inl (.inl (s _ _ h))
  · exact .inl (.inr ⟨o, s _ _ h⟩)
  · exact .inr h
def spOR (K : PySem.W.Frag) : Sp := fun vs H Q _ => ∃ (l : Addr) (qs : List Addr), vs = [.ref l] ∧ SqL K H l (qs.map V.ref) ∧ Pairs K H qs ∧ ∀ H', Same H H' → Q (.bl true) H'
/-- x or '', x a target -/
theorem pe_orKey {X : Cx} {e : Expr} {ta : TE} {p1 p2 : Pos} {j : Nat} (he : PE X e ta) : PE X (.BoolOp .Or [e, .Constant (.str "") j p1] p2) (fun σ H Q => ta σ H fun x H1 => ∃ a o, x = optV o ∧ FrOk a o ∧ Q (.str (kOf o)) H1) := by
  constructor
  intro pins s σ H Q I h
  refine (pe_orT (pe_up he) (pe_one pe_str)).run pins s σ H Q I ⟨_, h, ?_⟩
  rintro v H1 ⟨a, o, rfl, f, q⟩
  cases o with
  | none => exact ⟨false, rfl, iteF q⟩
  | some z =>
    have h1 := (f.o z rfl).lo
    refine ⟨true, ⟨(f.o z rfl).fit, ?_⟩, iteT q⟩
    simp
    omega
theorem six_dp {K : PySem.W.Frag} {H : Hp} {l : Addr} {b1 b2 b3 b4 b5 b6 : Bool} (h : H l = some (.lst [.bl b1, .bl b2, .bl b3, .bl b4, .bl b5, .bl b6])) : Dp K H (.ref l) (sixD b1 b2 b3 b4 b5 b6) :=
  .lst (SqL.of h) (.cons (.bl _) (.cons (.bl _) (.cons (.bl _) (.cons (.bl _) (.cons (.bl _) (.cons (.bl _) .nil))))))
/-- a comprehension that leaves all out, whose tests may make things -/
theorem lc_none {J : It} {n : Nat} {G : Hp → Prop} {Y : Nat → Hp → V → Hp → Prop} (w : Walk J n G Y) {g : TG} {tt : TT} {te : TE} {vs : List Nat} {σ : L2.St} {H1 : Hp} {D : Addr} {Qd : Hp → Prop} (xs : List V)
    (hn : n = xs.length) (hY : ∀ i H x H', i < n → Y i H x H' → H' = H ∧ xs[i]? = some x) (hD : H1 D = none) (hG : ∀ H', Same H1 H' → G H')
    (hs : ∀ x ∈ xs, ∀ H', Same H1 H' → ∀ (Kt : V → Hp → Prop) (Kf : Hp → Prop), (∀ H'', Same H' H'' → Kf H'') →
      g x (wipe σ vs) H' fun σ2 H2 => wipe σ2 vs = wipe σ vs ∧ tt σ2 H2 fun b H3 => if b = true then te σ2 H3 Kt else Kf H3)
    (hd : ∀ H', Same (upd H1 D (.lst [])) H' → Qd H') :
    ∃ W : Nat → Nat → Hp → Prop, (∃ m, W 0 m (upd H1 D (.lst []))) ∧ ∀ i m H, W i m H →
      (J.stop i H ∧ Qd H) ∨ (J.go i H ∧ ∃ Nx : Hp → Prop, (∀ H', Nx H' → ∃ m', m' < m ∧ W (i + 1) m' H') ∧ ∀ x H', J.yld i H x H' → g x (wipe σ vs) H' fun σ2 H2 => wipe σ2 vs = wipe σ vs ∧ tt σ2 H2 fun b H3 =>
        if b = true then te σ2 H3 fun y H4 => ∃ acc, H4 D = some (.lst acc) ∧ acc.length < sizeLine ∧ Nx (upd H4 D (.lst (acc ++ [y]))) else Nx H3) := by
  refine lc_it w (fun i H => Same (upd H1 D (.lst [])) H) (Same.refl _) (fun i H _ e => hG _ ((same_new hD).trans e)) ?_ ?_
  · rintro i x H H' hi s y
    obtain ⟨rfl, hx⟩ := hY i _ x H' hi y
    exact hs x (List.mem_of_getElem? hx) _ ((same_new hD).trans s) _ _ fun H'' s2 => s.trans s2
  · intro H s
    exact hd H s
/-- tuples of which frames can be made -/
def Tups (H : Hp) (qs : List Addr) : Prop := ∀ q ∈ qs, ∃ a o, H q = some (.tup [.str a, optV o]) ∧ PairOk a o
theorem Tups.pairs {K : PySem.W.Frag} {H : Hp} {qs : List Addr} (h : Tups H qs) : Pairs K H qs := fun q hq => let ⟨a, o, e, p⟩ := h q hq; ⟨a, o, SqT.of e, p⟩
theorem Tups.same {H H' : Hp} {qs : List Addr} (h : Tups H qs) (s : Same H H') : Tups H' qs := fun q hq => let ⟨a, o, e, p⟩ := h q hq; ⟨a, o, s _ _ e, p⟩
theorem Tups.ext {H H' : Hp} {p c : Addr} {ms : List Int} {t : Nat} {z : Int} {qs : List Addr} (h : Tups H qs) (P : Pen H p c ms t z) (s : ButT p H H') : Tups H' qs := fun q hq => let ⟨a, o, e, k⟩ := h q hq; ⟨a, o, s _ _ (ne_of e P.a nofun) e nofun, k⟩
theorem Tups.but {H H' : Hp} {p c : Addr} {ms : List Int} {t : Nat} {z : Int} {qs : List Addr} (h : Tups H qs) (P : Pen H p c ms t z) (s : But p H H') : Tups H' qs := h.ext P (ButT.of s)
theorem Tups.grow {H : Hp} {l q : Addr} {xs ys : List V} {qs : List Addr} {a : Str} {o : Option Str} (h : Tups H qs) (hl : H l = some (.lst xs)) (hq : H q = some (.tup [.str a, optV o])) (pk : PairOk a o) : Tups (upd H l (.lst ys)) (qs ++ [q]) := by
  intro r hr
  rcases List.mem_append.mp hr with hr | hr
  · obtain ⟨a, o, e, k⟩ := h r hr
    exact ⟨a, o, by rw [upd_ne (ne_of e hl nofun)]; exact e, k⟩
  · simp at hr
    subst hr
    exact ⟨a, o, by rw [upd_ne (ne_of hq hl nofun)]; exact hq, pk⟩
/-! ### reading texts of frames -/
/-- what an error of BadText(0, n) keeps -/
def btF (n : Int) : List (Str × V) := [("word", .int n), ("line", .int 0)]
def spWords (K : PySem.W.Frag) : Sp := fun vs H Q E => ∃ v : V, vs = [v] ∧
  ((∃ z : Str, v = .str z ∧ z.length + 2 ≤ sizeLine ∧ ∀ l, H l = none → Q (.ref l) (upd H l (.lst ((Txt.split z " ").map V.str)))) ∨
   ∃ t, TyX K H v t ∧ PySem.W.kitOne K t (.type "str") = some false ∧ ∀ d H', Same H H' → H d = none → H' d = some (.xd (btF 0)) → E (.ref (He.ga K "BadText")) (some d) H')
/-- the hosts that stand at i in a row of words: the place of the first wrong word, or the two -/
def hostsT (ws : List Str) (i : Nat) (b : Str) : Sum Nat (Str × Option Str) := match ws[i]? with
  | none => .inl i
  | some w => if nmB w = false then .inl i else match ws[i + 1]? with
    | none => .inl (i + 1)
    | some y => if Txt.removesuffix y b = "*" then .inr (w, none) else if nmB (Txt.removesuffix y b) = false ∨ Txt.removesuffix y b = w then .inl (i + 1) else .inr (w, some (Txt.removesuffix y b))
theorem rs_len (a b : Str) : (Txt.removesuffix a b).length ≤ a.length := by
  unfold Txt.removesuffix
  split
  · unfold Txt.affix
    simp only
    split
    · exact Nat.le_refl _
    · show (Array.extract _ _ _).size ≤ a.cps.size
      rw [Array.size_extract]
      omega
  · exact Nat.le_refl _
def spTold (K : PySem.W.Frag) : Sp := fun vs H Q E => ∃ (l : Addr) (ws : List Str) (i : Nat) (b : Str), vs = [.ref l, .int i, .str b] ∧ SqL K H l (ws.map V.str) ∧ i < 1000000 ∧ (∀ w ∈ ws, w.length ≤ sizeLine) ∧
  (∀ n, hostsT ws i b = .inl n → ∀ d H', Same H H' → H d = none → H' d = some (.xd (btF n)) → E (.ref (He.ga K "BadText")) (some d) H') ∧
  ∀ a o, hostsT ws i b = .inr (a, o) → ∀ t H', Same H H' → H t = none → H' t = some (.tup [.str a, optV o]) → Q (.ref t) H'
end Z
namespace Z
open PySem PySem.Spec PyProof.Rows L2
/-! ### a class held in a local name is called -/
def tClsV (i : Nat) (C : Addr) (sp : Sp) (dvs : List V) (E : XK) (t : TA) : TE := fun σ H Q => σ[i]? = some (some (.ref C)) ∧ t σ H fun vs H1 => ∀ x dx, H1 x = none → H1 dx = none → dx ≠ x → sp (.ref x :: (vs ++ dvs)) (upd (upd H1 dx (.own x)) x (.ins C dx [])) (fun v H2 => v = .non ∧ Q (.ref x) H2) E
theorem pe_clsV {X : Cx} {CX : CXT} {k i : Nat} {C f : Addr} {fd : FuncData} {ps : List Str} {sp : Sp} {ds : List Value} {dvs : List V} {E : XK} {x : Str} {e : Expr} {es : List Expr} {t : TA} {p pos : Pos} (M : Mk X.K C f) (F : FnOk X.prog X.w X.K X.mg X.base CX k f fd ps sp) (hr : Room (k + 1) X.A) (hb : Binds X.K fd ps ds) (hdv : Vals dvs ds) (hx : Passes CX X E) (hN : X.N[i]? = some x) (hv : Vis X.env.scope x) (ha : PA X (e :: es) t)
    (hd : (x == ("__debug__" : Str)) = false := by decide) (hcd : (x == ("__classdict__" : Str)) = false := by decide)
    (he : starEach (e :: es) X.env = (false, eval e X.env) :: starEach es X.env := by rfl) (hpl : (backTo pos (starEach es X.env)).any (·.1) = false := by rfl) : PE X (.Call (.Name x p) (e :: es) [] pos) (tClsV i C sp dvs E t) := by
  refine ⟨fun pins s σ H Q I h => ?_⟩
  obtain ⟨hs, h⟩ := h
  refine wpAny_Call_Name_kw (thn ((pe_var (pos := p) (i := i) hN hv hd hcd).run pins s σ H (fun v H1 => v = .ref C ∧ H1 = H) I ⟨.ref C, hs, rfl, rfl⟩) fun u s1 ⟨v, H1, I1, r1, ev, eH⟩ => ?_)
  subst ev
  rw [eH] at I1
  cases r1
  refine PySem.W.callWith_K (h₀ := X.base) I.ok.mod.kin M.kp (thn (ha.run pos pins s1 σ H _ I1 h) fun us s2 ⟨vs, H2, I2, r, q⟩ => ⟨I2.kIn, ?_⟩) he hpl
  exact run_make M F hr hb hdv hx I2 r q
/-! ### class methods -/
theorem FunD.kbindsN {K : PySem.W.Frag} {x qual : Str} {params : Arguments} {body : List Stmt} {scope : Scope} {kws : List (Str × V)} {f : Addr} {fd : FuncData} {ps : List Str} (F : FunD K x qual params body scope [] kws f fd) (n : Nat) (ks : List Str)
    (h : ∀ (kV doc pm : Value) (an : Option Addr) (cdv ct : Value) (us ws : List Value), us.length = n → ws.length = ks.length → bindArgs (PySem.W.fnOf x qual params body scope .none kV doc pm an cdv ct) ⟨us, ks.zip ws⟩ = pure (ps.zip (us ++ ws))) : KBn K fd ps n ks (fun us ws => us ++ ws) (fun us ws => us ++ ws) := by
  obtain ⟨oc, od, dV, kV, doc, pm, an, cdv, ct, osl, rfl, lk, hcd, hD, hK⟩ := F.ex
  rcases hD with ⟨_, rfl⟩ | ⟨e, _⟩
  · exact ⟨fun s us ws X l1 l2 => .of_eq (h kV doc pm an cdv ct us ws l1 l2), fun r1 r2 => r1.append r2⟩
  · exact absurd rfl e
/-- a class method of a class of the module, of one parameter behind the class -/
structure DefK (P : Program) (w : World) (K : PySem.W.Frag) (mg : Str → Option Value) (base : Heap) (CX : CXT) (k : Nat) (c m : Str) (ps : List Str) (ks : List Str) (sp : Sp) : Prop where
  cm : CmOf K (He.ga K c) m (prA K c m) (geA K c m)
  ex : ∃ fd, FnOk P w K mg base CX k (geA K c m) fd ps sp ∧ Binds K fd ps [] ∧ KBn K fd ps 1 ks (fun us ws => us ++ ws) (fun us ws => us ++ ws)
theorem pe_clm {X : Cx} {CX : CXT} {k : Nat} {c m : Str} {ps ks : List Str} {sp : Sp} {E : XK} {o e : Expr} {es : List Expr} {ta : TE} {t : TA} {pos apos : Pos} {pl : Sem Bool} (D : DefK X.prog X.w X.K X.mg X.base CX k c m ps ks sp) (hr : Room k X.A) (hx : Passes CX X E) (he : PE X o ta) (ha : PA X (e :: es) t)
    (hst : starEach (e :: es) X.env = (false, eval e X.env) :: starEach es X.env := by rfl) (hpl : (backTo pos (starEach es X.env)).any (·.1) = false := by rfl)
    (ht : eval (.Call (.Attribute o m apos) (e :: es) [] pos) X.env = (do
      let ov ← eval o X.env
      standAt apos.atName
      let (f, first) ← holding [ov] (getMethod ov m pl)
      callWith pos f first (backTo pos (starEach (e :: es) X.env)) (backToKw pos (keywordEach [] X.env))) := by rfl) :
    PE X (.Call (.Attribute o m apos) (e :: es) [] pos) (ClX.tCMeth (He.ga X.K c) (fun vs H Q E => sp (vs ++ []) H Q E) E ta t) := by
  obtain ⟨fd, F, b, _⟩ := D.ex
  exact ClX.pe_cmeth he D.cm.r D.cm.c (F.raw b .nil) hr hx ha hst hpl ht
def tCMethK (C : Addr) (n : Nat) (sp : Sp) (E : XK) (ta : TE) (t : TA) : TE := fun σ H Q => ta σ H fun x H1 => x = .ref C ∧ t σ H1 fun zs H2 => zs.length = n ∧ sp (.ref C :: zs) H2 Q E
theorem pe_clmK {X : Cx} {CX : CXT} {k : Nat} {c m : Str} {ps ks : List Str} {sp : Sp} {E : XK} {o : Expr} {kws : List Keyword} {ta : TE} {tk : TA} {pos apos : Pos} {pl : Sem Bool} (D : DefK X.prog X.w X.K X.mg X.base CX k c m ps ks sp) (hr : Room k X.A) (hx : Passes CX X E) (he : PE X o ta) (hkw : PK X kws tk)
    (hall : (backToKw pos (keywordEach kws X.env)).all (·.1.isSome) = true := by rfl) (hks : (backToKw pos (keywordEach kws X.env)).filterMap (·.1) = ks := by rfl)
    (hpl : ((backTo pos (starEach [] X.env)).any (·.1) || (backToKw pos (keywordEach kws X.env)).any (·.1.isNone)) = false := by rfl)
    (ht : eval (.Call (.Attribute o m apos) [] kws pos) X.env = (do
      let ov ← eval o X.env
      standAt apos.atName
      let (f, first) ← holding [ov] (getMethod ov m pl)
      callWith pos f first (backTo pos (starEach [] X.env)) (backToKw pos (keywordEach kws X.env))) := by rfl) :
    PE X (.Call (.Attribute o m apos) [] kws pos) (tCMethK (He.ga X.K c) ks.length sp E ta tk) := by
  obtain ⟨fd, F, _, hb⟩ := D.ex
  refine ⟨fun pins s σ H Q I h => ?_⟩
  refine PySem.W.methodCall_KW (pl := pl) (thn (he.run pins s σ H _ I h) fun u s1 ⟨x, H1, I1, rx, ex, q⟩ => ?_) ht
  subst ex
  obtain rfl : u = Value.ref (He.ga X.K c) := rx
  refine ClX.getmethcm_ok I1 D.cm.r D.cm.c fun s2 I2 => ?_
  refine PySem.W.callWith_of (P := PySem.W.MethP X.K s1.heap.objs.size (geA X.K c m) (.ref (He.ga X.K c))) hpl (PySem.W.keeps_M D.cm.c.fi) (evalArgs_kw2_nil hall ?_)
  refine thn (hkw.run pos _ s2 σ H1 _ I2 q) fun ws s3 ⟨zs, H2, I3, rz, l2, hsp⟩ => ⟨⟨ClX.pin_at I3, I3.kIn⟩, ?_⟩
  rw [hks]
  have l1 : ws.length = ks.length := rz.length.symm.trans l2
  have z : wpAny (model X.prog X.w) X.A (call (.ref s1.heap.objs.size) [] (ks.zip ws)) (EP X ((s1.heap.objs.size, PySem.W.methodObj (.ref (geA X.K c m)) (.ref (He.ga X.K c))) :: pins) σ Q) X.xe s3 := by
    refine wpAny_call (PySem.W.method_call (ClX.pin_at I3) ?_)
    refine codeAny_mono (F.run X.A X.stack s3 H2 ⟨[.ref (He.ga X.K c)], ks.zip ws⟩ ([Value.ref (He.ga X.K c)] ++ ws) ([V.ref (He.ga X.K c)] ++ zs) Q E hr I3.env0 (hb.to _ [.ref (He.ga X.K c)] ws I3.kIn rfl l1) (hb.rel (.cons rfl .nil) rz) hsp) fun r s' hq => ?_
    cases r with
    | error e => exact hx _ σ H2 s3 e s' I3 hq
    | ok fl =>
      cases fl with
      | ret u => exact I3.after hq
      | next => exact False.elim hq
      | brk => exact False.elim hq
      | cont => exact False.elim hq
  exact thn z fun _ _ y => ClX.unpinE y
end Z
namespace Z
open PySem PySem.Spec PyProof.Rows L2
/-! ### Frame.read -/
theorem hostsT_ok {ws : List Str} {i : Nat} {b a : Str} {o : Option Str} (h : hostsT ws i b = .inr (a, o)) : FrOk a o ∧ ∀ z, o = some z → z ≠ a := by
  unfold hostsT at h
  split at h
  · cases h
  · rename_i w e0
    split at h
    · cases h
    · rename_i hw
      have nw : IsNm w := nmB_iff.mp (by simpa using hw)
      split at h
      · cases h
      · rename_i y e1
        split at h
        · cases h
          exact ⟨⟨nw, nofun⟩, nofun⟩
        · split at h
          · cases h
          · rename_i hn
            cases h
            have hn1 : nmB (Txt.removesuffix y b) = true := by
              cases e : nmB (Txt.removesuffix y b) with
              | true => rfl
              | false => exact absurd (.inl e) hn
            refine ⟨⟨nw, fun z hz => ?_⟩, fun z hz => ?_⟩
            · cases hz
              exact nmB_iff.mp hn1
            · cases hz
              exact fun q => hn (.inr q)
/-- what Frame.read makes of a text: the place of the first wrong word, or the two hosts -/
def readT (z : Str) : Sum Nat (Str × Option Str) := match hostsT (Txt.split z " ") 0 "" with
  | .inl n => .inl n
  | .inr r => if 2 < (Txt.split z " ").length then .inl 2 else .inr r
theorem readT_ok {z a : Str} {o : Option Str} (h : readT z = .inr (a, o)) : FrOk a o ∧ ∀ z, o = some z → z ≠ a := by
  unfold readT at h
  split at h
  · cases h
  · rename_i r e
    split at h
    · cases h
    · cases h
      exact hostsT_ok e
/-- what is asked of a reader of texts, where it reads a text as T tells -/
def spReads {α : Type} (K : PySem.W.Frag) (C : Addr) (T : Str → Sum Nat α) (R : Hp → Addr → α → Prop) : Sp := fun vs H Q E => ∃ v : V, vs = [.ref C, v] ∧
  ((∃ z : Str, v = .str z ∧ z.length + 2 ≤ sizeLine ∧ (∀ n, T z = .inl n → ∀ d H', Same H H' → H d = none → H' d = some (.xd (btF n)) → E (.ref (He.ga K "BadText")) (some d) H') ∧
      ∀ r, T z = .inr r → ∀ p H', Same H H' → H p = none → R H' p r → Q (.ref p) H') ∨
   ∃ t, TyX K H v t ∧ PySem.W.kitOne K t (.type "str") = some false ∧ ∀ d H', Same H H' → H d = none → H' d = some (.xd (btF 0)) → E (.ref (He.ga K "BadText")) (some d) H')
def spRead (K : PySem.W.Frag) : Sp := spReads K (He.ga K "Frame") readT fun H p r => IsFr K H p r.1 r.2
/-! ### plain texts -/
def Plain (z : Str) : Prop := ∀ c ∈ z.cps.toList, c < 128
theorem Plain.ok {z : Str} (h : Plain z) : PyData.strOk z = true := by
  unfold PyData.strOk
  rw [Array.all_eq_true_iff_forall_mem]
  intro c hc
  have := h c (Array.mem_toList_iff.mpr hc)
  simp
  omega
theorem plain_nm {x : Str} (h : IsNm x) : Plain x := fun c hc => by have := h.az c hc; omega
theorem plain_app {a b : Str} (ha : Plain a) (hb : Plain b) : Plain (a ++ b) := by
  intro c hc
  rw [str_app] at hc
  rcases List.mem_append.mp hc with h | h
  · exact ha c h
  · exact hb c h
theorem mem_joinL {S : List Nat} {c : Nat} : ∀ (ps : List (List Nat)) (w : List Nat), w ∈ ps → c ∈ w → c ∈ TL.joinL S ps
  | [], _, h, _ => by cases h
  | [p], w, h, hc => by
    rw [List.mem_singleton.mp h] at hc
    exact hc
  | p :: q :: r, w, h, hc => by
    show c ∈ p ++ (S ++ TL.joinL S (q :: r))
    rcases List.mem_cons.mp h with rfl | h
    · exact List.mem_append_left _ hc
    · exact List.mem_append_right _ (List.mem_append_right _ (mem_joinL (q :: r) w h hc))
theorem of_joinL {S : List Nat} {c : Nat} : ∀ (ps : List (List Nat)), c ∈ TL.joinL S ps → c ∈ S ∨ ∃ w ∈ ps, c ∈ w
  | [], h => by cases h
  | [p], h => .inr ⟨p, List.mem_singleton.mpr rfl, h⟩
  | p :: q :: r, h => by
    have h : c ∈ p ++ (S ++ TL.joinL S (q :: r)) := h
    rcases List.mem_append.mp h with h | h
    · exact .inr ⟨p, List.mem_cons_self .., h⟩
    · rcases List.mem_append.mp h with h | h
      · exact .inl h
      · rcases of_joinL (q :: r) h with h | ⟨w, hw, hc⟩
        · exact .inl h
        · exact .inr ⟨w, List.mem_cons_of_mem _ hw, hc⟩
theorem plain_split {z y : Str} (h : Plain z) : ∀ w ∈ Txt.split z y, Plain w := by
  intro w hw c hc
  refine h c ?_
  have e := PySem.StrLaws.join_split z y
  rw [← e]
  show c ∈ TL.tl (Str.join y (Txt.split z y))
  rw [TL.tl_join]
  exact mem_joinL _ _ (List.mem_map.mpr ⟨w, hw, rfl⟩) hc
theorem plain_join {y : Str} {ws : List Str} (hy : Plain y) (h : ∀ w ∈ ws, Plain w) : Plain (Txt.join y ws) := by
  intro c hc
  rw [TL.join_eq] at hc
  have hc : c ∈ TL.tl (Str.join y ws) := hc
  rw [TL.tl_join] at hc
  rcases of_joinL _ hc with hc | ⟨w, hw, hc⟩
  · exact hy c hc
  · obtain ⟨v, hv, rfl⟩ := List.mem_map.mp hw
    exact h v hv c hc
theorem rs_nil (y : Str) : Txt.removesuffix y "" = y := by
  have e : (Str.ofString "").length = 0 := rfl
  unfold Txt.removesuffix
  split
  · unfold Txt.affix
    simp only
    split
    · rfl
    · rename_i h
      exact absurd (by rw [e]; simp) h
  · rfl
/-- a word that a law takes for a name -/
def spLnm : Sp := fun vs H Q _ => ∃ x : Str, vs = [.str x] ∧ x.length ≤ sizeLine ∧ Plain x ∧ ∀ H', Same H H' → Q (.bl (nmB x)) H'
def offAbc : V → Option V := fun v => match v with
  | .str s => if s.cps.toList.all (fun c => decide (c ∈ alpha.cps.toList)) = true then none else some v
  | _ => none
theorem off_map (x : Str) : (sgV x).filterMap offAbc = ((x.cps.toList.filter fun c => !decide (c ∈ alpha.cps.toList)).map sg).map V.str := by
  unfold sgV
  generalize x.cps.toList = l
  induction l with
  | nil => rfl
  | cons a r ih =>
    rw [List.map_cons, List.filterMap_cons, ih, List.filter_cons]
    have o : offAbc (V.str (sg a)) = if decide (a ∈ alpha.cps.toList) = true then none else some (V.str (sg a)) := by
      show (if ([a].all fun c => decide (c ∈ alpha.cps.toList)) = true then none else some (V.str (sg a))) = _
      rw [List.all_cons, List.all_nil, Bool.and_true]
    rw [o]
    by_cases h : a ∈ alpha.cps.toList
    · rw [decide_eq_true h]
      rfl
    · rw [decide_eq_false h]
      rfl
theorem off_nil {x : Str} : (x.cps.toList.filter fun c => !decide (c ∈ alpha.cps.toList)).isEmpty = x.cps.toList.all fun c => decide (c ∈ alpha.cps.toList) := by
  generalize x.cps.toList = l
  induction l with
  | nil => rfl
  | cons a r ih =>
    rw [List.filter_cons, List.all_cons]
    by_cases h : a ∈ alpha.cps.toList
    · simp only [h, decide_true, Bool.not_true, Bool.false_eq_true, if_false, Bool.true_and]
      exact ih
    · simp [h]
def spDue (K : PySem.W.Frag) : Sp := fun vs H Q _ => ∃ v : V, vs = [v] ∧
  ((∃ z : Str, v = .str z ∧ z.length + 2 ≤ sizeLine ∧ Plain z ∧ (∀ n, readT z = .inl n → ∀ H', Same H H' → Q (.int n) H') ∧
      ∀ a o, readT z = .inr (a, o) → ∀ t H', Same H H' → H t = none → H' t = some (.tup [.str a, optV o]) → Q (.ref t) H') ∨
   ∃ t, TyX K H v t ∧ PySem.W.kitOne K t (.type "str") = some false ∧ Q (.int 0) H)
end Z
namespace Z
open PySem PySem.Spec PyProof.Rows L2
/-! ### what a law hears of Frame.read -/
def OutV (H : Hp) (v : V) : Sum Nat (Str × Option Str) → Prop
  | .inl n => v = .int n
  | .inr (a, o) => ∃ t, v = .ref t ∧ H t = some (.tup [.str a, optV o])
def dueOf : V → Sum Nat (Str × Option Str)
  | .str z => readT z
  | _ => .inl 0
def outD : Sum Nat (Str × Option Str) → PyData
  | .inl n => .int n
  | .inr (a, o) => .tuple [.str a, optD o]
theorem OutV.ext {H H' : Hp} {v : V} {r : Sum Nat (Str × Option Str)} (e : LamX.ExtN H H') (h : OutV H v r) : OutV H' v r := by
  cases r with
  | inl n => exact h
  | inr r => exact let ⟨t, a, b⟩ := h; ⟨t, a, e _ _ b nofun⟩
theorem OutV.same {H H' : Hp} {v : V} {r : Sum Nat (Str × Option Str)} (s : Same H H') (h : OutV H v r) : OutV H' v r := h.ext (extS s)
theorem OutV.dp {K : PySem.W.Frag} {H : Hp} {v : V} {r : Sum Nat (Str × Option Str)} (h : OutV H v r) : Dp K H v (outD r) := by
  cases r with
  | inl n => obtain rfl := h; exact .int _
  | inr r =>
    obtain ⟨t, rfl, e⟩ := h
    exact .tup (SqT.of e) (.cons (.str _) (.cons dp_opt .nil))
theorem readT_le {z : Str} {n : Nat} (h : readT z = .inl n) : n ≤ 2 := by
  unfold readT hostsT at h
  split at h
  · rename_i m e
    cases h
    split at e
    · cases e; omega
    · split at e
      · cases e; omega
      · split at e
        · cases e; omega
        · split at e
          · cases e
          · split at e
            · cases e; omega
            · cases e
  · split at h
    · cases h; omega
    · cases h
/-- right answers -/
def OutOk : Sum Nat (Str × Option Str) → Prop
  | .inl n => n ≤ 2
  | .inr (a, o) => FrOk a o
theorem outOk_of (v : V) : OutOk (dueOf v) := by
  cases v with
  | str z =>
    show OutOk (readT z)
    cases e : readT z with
    | inl n => exact readT_le e
    | inr r => exact (readT_ok (a := r.1) (o := r.2) e).1
  | _ => exact Nat.zero_le 2
theorem out_show {r : Sum Nat (Str × Option Str)} (h : OutOk r) : (outD r).showable = true ∧ (outD r).hasDict = false ∧ (outD r).depth ≤ 64 ∧ (outD r).shown.length ≤ sizeLine := by
  cases r with
  | inl n =>
    have h : n ≤ 2 := h
    have : ∀ n : Nat, n ≤ 2 → (outD (.inl n)).showable = true ∧ (outD (.inl n)).hasDict = false ∧ (outD (.inl n)).depth ≤ 64 ∧ (outD (.inl n)).shown.length ≤ sizeLine := by
      intro n hn
      match n, hn with
      | 0, _ => exact ⟨by decide +kernel, by decide +kernel, by decide +kernel, by decide +kernel⟩
      | 1, _ => exact ⟨by decide +kernel, by decide +kernel, by decide +kernel, by decide +kernel⟩
      | 2, _ => exact ⟨by decide +kernel, by decide +kernel, by decide +kernel, by decide +kernel⟩
    exact this n h
  | inr r =>
    obtain ⟨a, o⟩ := r
    have f : FrOk a o := h
    have ha := f.a.ok
    have l1 : a.cps.size ≤ 8 := f.a.hi
    cases o with
    | none =>
      refine ⟨by simp [outD, optD, PyData.showable, PyData.showableAll], by simp [outD, optD, PyData.hasDict, PyData.hasDictAll], by simp [outD, optD, PyData.depth, PyData.depthAll], shown_fit ?_ (by simp [outD, optD, PyData.intsShort, PyData.intsShortAll])⟩
      unfold PyData.layable0 outD optD
      simp [PyData.canLay0, PyData.canLayAll0, PyData.depth, PyData.depthAll, PyData.weight, PyData.weightAll, ha]
      omega
    | some y =>
      have hy := (f.o y rfl).ok
      have l3 : y.cps.size ≤ 8 := (f.o y rfl).hi
      refine ⟨by simp [outD, optD, PyData.showable, PyData.showableAll], by simp [outD, optD, PyData.hasDict, PyData.hasDictAll], by simp [outD, optD, PyData.depth, PyData.depthAll], shown_fit ?_ (by simp [outD, optD, PyData.intsShort, PyData.intsShortAll])⟩
      unfold PyData.layable0 outD optD
      simp [PyData.canLay0, PyData.canLayAll0, PyData.depth, PyData.depthAll, PyData.weight, PyData.weightAll, ha, hy]
      exact decide_eq_true (by omega)
theorem out_shaped {r : Sum Nat (Str × Option Str)} (h : OutOk r) : SeqAt.shaped (outD r) = true := by
  cases r with
  | inl n => unfold SeqAt.shaped outD; simp [PyData.canLay0, PyData.depth]
  | inr r =>
    obtain ⟨a, o⟩ := r
    have f : FrOk a o := h
    have ha := f.a.ok
    cases o with
    | none => unfold SeqAt.shaped outD optD; simp [PyData.canLay0, PyData.canLayAll0, PyData.depth, PyData.depthAll, ha]
    | some y =>
      have hy := (f.o y rfl).ok
      unfold SeqAt.shaped outD optD
      simp [PyData.canLay0, PyData.canLayAll0, PyData.depth, PyData.depthAll, ha, hy]
theorem out_eqv (r : Sum Nat (Str × Option Str)) : (outD r).eqv (outD r) = true := by
  cases r with
  | inl n => simp [outD, PyData.eqv]
  | inr r =>
    obtain ⟨a, o⟩ := r
    cases o <;> simp [outD, optD, PyData.eqv, PyData.eqvAll]
/-- what a law's _law_heard makes of a call that reads a frame, or raises BadText(0, n) -/
def TTold (K : PySem.W.Frag) : (XK → Hp → VK → Prop) → Hp → VK → Prop := fun tl H Q => ∀ H1, Same H H1 → ∃ (E : XK) (Q0 : VK), tl E H1 Q0 ∧
  (∀ cls d H', E cls d H' → cls = .ref (He.ga K "BadText") ∧ ∃ (dd : Addr) (n : Int), d = some dd ∧ H' dd = some (.xd (btF n)) ∧ ∀ H'', Same H' H'' → Q (.int n) H'') ∧
  ∀ v H', Q0 v H' → ∃ (p : Addr) (a : Str) (o : Option Str), v = .ref p ∧ IsFr K H' p a o ∧ ∀ t H'', Same H' H'' → H' t = none → H'' t = some (.tup [.str a, optV o]) → Q (.ref t) H''
theorem told_read {K : PySem.W.Frag} {T : List (Addr × Str)} {t : XK → TE} {σ : L2.St} {H : Hp} {Q : VK} {v : V} (hT : LamX.Tabs T H) (rd : ∀ E H2 Q0, spRead K [.ref (He.ga K "Frame"), v] H2 Q0 E → t E σ H2 Q0)
    (kv : (∃ z : Str, v = .str z ∧ z.length + 2 ≤ sizeLine) ∨ ∃ t, TyX K H v t ∧ PySem.W.kitOne K t (.type "str") = some false) (nd : (∀ z, v ≠ .str z) → dueOf v = .inl 0)
    (k : ∀ v' H', LamX.ExtN H H' → LamX.Tabs T H' → OutV H' v' (dueOf v) → Q v' H') : LamX.tLam T (TTold K) t σ H Q := by
  refine ⟨hT, fun H1 eN T1 H2 s2 => ⟨fun cls d H' => cls = .ref (He.ga K "BadText") ∧ ∃ dd n, d = some dd ∧ H' dd = some (.xd (btF (n : Nat))) ∧ Same H2 H' ∧ dueOf v = .inl n,
    fun v' H' => ∃ p a o, v' = .ref p ∧ IsFr K H' p a o ∧ Same H2 H' ∧ dueOf v = .inr (a, o), ?_, ?_, ?_⟩⟩
  · have e2 : LamX.ExtN H H2 := eN.trans (extS s2)
    refine rd _ H2 _ ⟨v, rfl, ?_⟩
    rcases kv with ⟨z, rfl, hz⟩ | ⟨t, ty, kt⟩
    · exact .inl ⟨z, rfl, hz, fun n hn d H' s nn e => ⟨rfl, d, n, rfl, e, s, hn⟩, fun r hr p H' s nn fr => ⟨p, r.1, r.2, rfl, fr, s, hr⟩⟩
    · refine .inr ⟨t, tyX_ext e2 ty, kt, fun d H' s nn e => ⟨rfl, d, 0, rfl, e, s, nd ?_⟩⟩
      rintro z rfl
      cases ty with
      | base b =>
        cases b
        rw [kit_same] at kt
        cases kt
  · rintro cls d H' ⟨rfl, dd, n, rfl, hdd, sm, hn⟩
    exact ⟨rfl, dd, n, rfl, hdd, fun H'' s => k _ H'' (((eN.trans (extS s2)).trans (extS sm)).trans (extS s)) (((T1.ext s2).ext sm).ext s) (by rw [hn]; rfl)⟩
  · rintro v' H' ⟨p, a, o, rfl, fr, sm, hr⟩
    exact ⟨p, a, o, rfl, fr, fun t H'' s nn e => k _ H'' (((eN.trans (extS s2)).trans (extS sm)).trans (extS s)) (((T1.ext s2).ext sm).ext s) (by rw [hr]; exact ⟨t, rfl, e⟩)⟩
end Z
namespace Z
open PySem PySem.Spec PyProof.Rows L2
/-! ### words bent -/
theorem cutV_strs (ws : List Str) (lo hi : Option Int) : ∃ us : List Str, cutV (ws.map V.str) lo hi = us.map V.str ∧ us.length ≤ ws.length ∧ ∀ u ∈ us, u ∈ ws := by
  refine ⟨(ws.drop (HT.sIx (ws.map V.str).length 0 lo)).take (HT.sIx (ws.map V.str).length (ws.map V.str).length hi - HT.sIx (ws.map V.str).length 0 lo), ?_, ?_, ?_⟩
  · unfold cutV
    rw [List.map_take, List.map_drop]
  · rw [List.length_take, List.length_drop]
    omega
  · exact fun u hu => List.mem_of_mem_drop (List.mem_of_mem_take hu)
/-- a plain text of at most n signs -/
structure Word (n : Nat) (x : Str) : Prop where
  p : Plain x
  l : x.length ≤ n
theorem Word.mono {m n : Nat} {x : Str} (h : Word m x) (k : m ≤ n) : Word n x := ⟨h.p, Nat.le_trans h.l k⟩
def wordB (n : Nat) (x : Str) : Bool := (x.cps.toList.all fun c => decide (c < 128)) && decide (x.length ≤ n)
theorem word_of {n : Nat} {x : Str} (h : wordB n x = true) : Word n x := by
  obtain ⟨a, b⟩ := He.ba h
  exact ⟨fun c hc => of_decide_eq_true (List.all_eq_true.mp a c hc), of_decide_eq_true b⟩
theorem Word.app {m n : Nat} {x y : Str} (h : Word m x) (k : Word n y) : Word (m + n) (x ++ y) := ⟨plain_app h.p k.p, by rw [Str.length_append]; exact Nat.add_le_add h.l k.l⟩
theorem sum_le {n : Nat} : ∀ ws : List Str, (∀ w ∈ ws, w.length ≤ n) → (ws.map (·.length)).sum ≤ ws.length * n
  | [], _ => Nat.zero_le _
  | a :: r, h => by
    have h1 := h a (List.mem_cons_self ..)
    have h2 := sum_le r fun w hw => h w (List.mem_cons_of_mem _ hw)
    simp only [List.map_cons, List.sum_cons, List.length_cons, Nat.succ_mul]
    omega
theorem Word.join {m n k : Nat} {y : Str} {ws : List Str} (hy : Word m y) (hw : ∀ w ∈ ws, Word n w) (hl : ws.length ≤ k) : Word (k * n + k * m) (Txt.join y ws) := by
  refine ⟨plain_join hy.p fun w h => (hw w h).p, ?_⟩
  rw [TL.join_eq]
  refine Nat.le_trans (StrLaws.join_length_le y ws) ?_
  have h1 := sum_le (n := n) ws fun w h => (hw w h).l
  have h2 := hy.l
  have h3 : ws.length * n ≤ k * n := Nat.mul_le_mul_right _ hl
  have h4 : ws.length * y.length ≤ k * m := Nat.mul_le_mul hl h2
  omega
theorem pick_word {n : Nat} {L : List Str} {v : V} (h : v ∈ L.map V.str) (hL : ∀ x ∈ L, Word n x) : ∃ x, v = .str x ∧ Word n x := by
  obtain ⟨x, hx, rfl⟩ := List.mem_map.mp h
  exact ⟨x, rfl, hL x hx⟩
def bentOf (a : Str) : List Str := ["", "*", "-", "**", "*,", a ++ ",", "A", "a1", "abcdefghi", "a\n", a, "\n", "a*", "to", "all"]
def tailOf (y : Str) : List Str := [" ", " " ++ y, ",", "\n", " *"]
def headOf : List Str := [" ", "\n", "- ", "* "]
def spBent (K : PySem.W.Frag) : Sp := fun vs H Q _ => ∃ (p c : Addr) (ms : List Int) (t : Nat) (z : Int) (x : Str), vs = [.ref p, .str x] ∧ Pen H p c ms t z ∧ t < 900000 ∧ Word 100 x ∧
  ∀ (y : Str) (H' : Hp) (t' : Nat) (z' : Int), Word 50000 y → But p H H' → Pen H' p c ms t' z' → t' ≤ t + 5 → Q (.str y) H'
/-! ### the text of a frame, read -/
theorem word_nm {x : Str} (h : IsNm x) : Word 8 x := ⟨plain_nm h, h.hi⟩
theorem word_star {a : Str} {o : Option Str} (f : FrOk a o) : Word 8 (starOf o) := by
  cases o with
  | none => exact word_of (by decide +kernel)
  | some z => exact word_nm (f.o z rfl)
theorem word_text {a : Str} {o : Option Str} (f : FrOk a o) : Word 17 (textF a o) := ((word_nm f.a).app (word_of (n := 1) (x := " ") (by decide +kernel))).app (word_star f)
theorem star_free {a : Str} {o : Option Str} (f : FrOk a o) : 32 ∉ (starOf o).cps.toList := by
  cases o with
  | none => decide +kernel
  | some z =>
    intro h
    have := (f.o z rfl).az _ h
    omega
theorem split_text {a : Str} {o : Option Str} (f : FrOk a o) : Txt.split (textF a o) " " = [a, starOf o] := by
  have e : textF a o = Txt.join " " [a, starOf o] := by
    rw [TL.join_eq]
    rfl
  rw [e]
  refine TL.split_join (s := 32) (S := []) (by decide +kernel) (by decide +kernel) (by simp) fun p hp => ?_
  simp only [List.mem_cons, List.not_mem_nil, or_false] at hp
  rcases hp with rfl | rfl
  · intro h
    have := f.a.az _ h
    omega
  · exact star_free f
theorem nm_true {x : Str} (h : IsNm x) : nmB x = true := nmB_iff.mpr h
theorem nm_no_star {z : Str} (h : IsNm z) : ¬ z = "*" := by
  intro e
  have h1 : (42 : Nat) ∈ z.cps.toList := by rw [e]; decide +kernel
  have := h.az _ h1
  omega
theorem readT_text {a : Str} {o : Option Str} (pk : PairOk a o) : readT (textF a o) = .inr (a, o) := by
  unfold readT
  rw [split_text pk.f]
  unfold hostsT
  cases o with
  | none => simp [nm_true pk.f.a, rs_nil, starOf]
  | some z =>
    have hz := pk.f.o z rfl
    have h1 := nm_no_star hz
    have h2 := pk.n z rfl
    simp [nm_true pk.f.a, nm_true hz, rs_nil, starOf, h1, h2]
theorem last_cut (x : Str) (c : Nat) (y : Str) (e : x = y ++ sg c) : cutS x (some (-1)) none = sg c := by
  refine str_ext ?_
  have l : x.cps.toList = y.cps.toList ++ [c] := by rw [e, str_app]; rfl
  have n : x.length = y.cps.toList.length + 1 := by rw [str_len, l, List.length_append]; rfl
  unfold cutS
  show (x.cps.toList.drop (HT.sIx x.length 0 (some (-1)))).take (HT.sIx x.length x.length none - HT.sIx x.length 0 (some (-1))) = [c]
  have e1 : HT.sIx x.length 0 (some (-1)) = y.cps.toList.length := by
    show (if (-1 : Int) < 0 then ((-1 : Int) + (x.length : Int)).toNat else min ((-1 : Int)).toNat x.length) = _
    rw [if_pos (by decide), n]
    omega
  have e2 : HT.sIx x.length x.length none = x.length := rfl
  rw [e1, e2, l, n, List.drop_left]
  have e3 : y.cps.toList.length + 1 - y.cps.toList.length = 1 := by omega
  rw [e3]
  rfl
theorem last_text {a : Str} {o : Option Str} (f : FrOk a o) : ∃ c, cutS (textF a o) (some (-1)) none = sg c ∧ (o = none → c = 42) ∧ (∀ z, o = some z → c ≠ 42) := by
  cases o with
  | none =>
    refine ⟨42, last_cut _ 42 (a ++ " ") ?_, fun _ => rfl, nofun⟩
    unfold textF starOf
    exact congrArg _ (show Str.ofString "*" = sg 42 by decide +kernel)
  | some z =>
    have hz := f.o z rfl
    have hl := hz.lo
    rw [str_len] at hl
    have hne : z.cps.toList ≠ [] := by intro e; rw [e] at hl; exact absurd hl (by decide)
    have el := List.dropLast_concat_getLast hne
    refine ⟨z.cps.toList.getLast hne, last_cut _ _ (a ++ " " ++ ⟨z.cps.toList.dropLast.toArray⟩) ?_, nofun, fun w hw => ?_⟩
    · unfold textF starOf
      refine str_ext ?_
      rw [str_app, str_app, str_app, str_app, str_app]
      show _ = a.cps.toList ++ _ ++ z.cps.toList.dropLast ++ [z.cps.toList.getLast hne]
      rw [List.append_assoc _ z.cps.toList.dropLast, el]
    · have := hz.az _ (List.getLast_mem hne)
      omega
theorem last_eq {a : Str} {o : Option Str} (f : FrOk a o) : (cutS (textF a o) (some (-1)) none = "*") ↔ o = none := by
  obtain ⟨c, e, h1, h2⟩ := last_text f
  rw [e]
  constructor
  · intro h
    cases o with
    | none => rfl
    | some z =>
      have : (sg c).cps.toList = [42] := by rw [h]; decide +kernel
      exact absurd (by simpa [sg] using this) (h2 z rfl)
  · intro h
    rw [h1 h]
    decide +kernel
/-- what stands while a law reads frames: the pen, the tables, two names, a frame -/
structure KL (K : PySem.W.Frag) (T : List (Addr × Str)) (p c : Addr) (ms : List Int) (f q : Addr) (a b : Str) (o : Option Str) (t : Nat) (z : Int) (H : Hp) : Prop where
  pen : Pen H p c ms t z
  tabs : LamX.Tabs T H
  names : H f = some (.lst [.str a, .str b])
  fr : IsFr K H q a o
theorem IsFr.ext {K : PySem.W.Frag} {H H' : Hp} {q : Addr} {a : Str} {o : Option Str} (h : IsFr K H q a o) (e : LamX.ExtN H H') : IsFr K H' q a o := let ⟨f, dx, hq⟩ := h; ⟨f, dx, e _ _ hq nofun⟩
theorem KL.ext {K : PySem.W.Frag} {T : List (Addr × Str)} {p c : Addr} {ms : List Int} {f q : Addr} {a b : Str} {o : Option Str} {t : Nat} {z : Int} {H H' : Hp} (h : KL K T p c ms f q a b o t z H) (e : LamX.ExtN H H') (k : LamX.Tabs T H') : KL K T p c ms f q a b o t z H' :=
  ⟨h.pen.ext e, k, e _ _ h.names nofun, h.fr.ext e⟩
theorem KL.same {K : PySem.W.Frag} {T : List (Addr × Str)} {p c : Addr} {ms : List Int} {f q : Addr} {a b : Str} {o : Option Str} {t : Nat} {z : Int} {H H' : Hp} (h : KL K T p c ms f q a b o t z H) (s : Same H H') : KL K T p c ms f q a b o t z H' := h.ext (extS s) (h.tabs.ext s)
theorem KL.nfp {K : PySem.W.Frag} {T : List (Addr × Str)} {p c : Addr} {ms : List Int} {f q : Addr} {a b : Str} {o : Option Str} {t : Nat} {z : Int} {H : Hp} (h : KL K T p c ms f q a b o t z H) : f ≠ p := ne_of h.names h.pen.a (fun e => by injection e with e; cases e)
theorem KL.but {K : PySem.W.Frag} {T : List (Addr × Str)} {p c : Addr} {ms : List Int} {f q : Addr} {a b : Str} {o : Option Str} {t t' : Nat} {z z' : Int} {H H' : Hp} (h : KL K T p c ms f q a b o t z H) (s : But p H H') (P : Pen H' p c ms t' z') : KL K T p c ms f q a b o t' z' H' :=
  ⟨P, tabs_but h.tabs h.pen s, s _ _ h.nfp h.names, let ⟨k, dx, hq⟩ := h.fr; ⟨k, dx, s _ _ (ne_of hq h.pen.a nofun) hq⟩⟩
theorem pow59 : CPow 10 59 := ⟨by decide, by decide, by decide⟩
def bad0 (z : Str) : Bool := match Txt.split z " " with
  | [] => false
  | w :: _ => !nmB w
theorem readT0 (z : Str) (h : bad0 z = true) : dueOf (.str z) = .inl 0 := by
  show readT z = _
  unfold bad0 at h
  unfold readT hostsT
  split at h
  · cases h
  · rename_i w r e
    rw [e]
    simp only [Bool.not_eq_true'] at h
    simp [h]
end Z
namespace Z
open PySem PySem.Spec PyProof.Rows L2
/-! ### sets of texts -/
/-- a row of a set's table that is a text's -/
def TxE (w : World) (e : Int × Value) : Prop := ∃ (x : Str) (tk : Tok), e.2 = .str x tk ∧ e.1 = hashStr w x
def txK (e : Int × Value) : Str := match e.2 with
  | .str x _ => x
  | _ => Str.empty
/-- the set of the texts S, n of them, at a -/
structure TxS (w : World) (h : Heap) (a : Addr) (S : Str → Bool) (n : Nat) (o : Obj) (es : Array (Int × Value)) (ep : Nat) (t : SetTable) : Prop where
  get : h.get? a = some o
  ex : o.ExactSet
  dat : o.data = .set es ep t
  good : ∀ e ∈ es.toList, TxE w e
  nd : (es.toList.map txK).Nodup
  mem : ∀ x, S x = true ↔ x ∈ es.toList.map txK
  few : es.size < scanBound
  fit : t.fits es.size = true
  num : es.size = n
  ris : Ris t.place.toList
  ord : w.params.followText "set-order" = true ∨ t.led = true
def TxR (w : World) (h : Heap) (a : Addr) (S : Str → Bool) (n : Nat) : Prop := ∃ o es ep t, TxS w h a S n o es ep t
theorem TxR.at {w : World} {h h' : Heap} {a : Addr} {S : Str → Bool} {n : Nat} (R : TxR w h a S n) (k : ∀ o, h.get? a = some o → h'.get? a = some o) : TxR w h' a S n := let ⟨o, es, ep, t, r⟩ := R; ⟨o, es, ep, t, { r with get := k o r.get }⟩
theorem TxR.congr {w : World} {h : Heap} {a : Addr} {S S' : Str → Bool} {n : Nat} (R : TxR w h a S n) (e : ∀ x, S' x = S x) : TxR w h a S' n := by
  rw [show S' = S from funext e]
  exact R
section
variable {P : Program} {w : World} {A : Around} {E : Value → Shared → Prop} {s : Shared} {a : Addr} {S : Str → Bool} {n : Nat}
theorem tx_is {e : Int × Value} (g : TxE w e) (x : Str) : (strKind P w).is x e.2 = true ↔ txK e = x := by
  obtain ⟨y, tk, h1, _⟩ := g
  unfold txK
  rw [h1]
  exact beq_iff_eq (a := y) (b := x)
theorem tx_mem {l : List (Int × Value)} (g : ∀ e ∈ l, TxE w e) (x : Str) : x ∈ l.map txK ↔ ∃ e ∈ l, (strKind P w).is x e.2 = true := by
  constructor <;> intro h
  · obtain ⟨e, he, q⟩ := List.mem_map.mp h; exact ⟨e, he, (tx_is (g e he) x).mpr q⟩
  · obtain ⟨e, he, q⟩ := h; exact List.mem_map.mpr ⟨e, he, (tx_is (g e he) x).mp q⟩
theorem tx_elems {l : List (Int × Value)} (g : ∀ e ∈ l, TxE w e) : ElemsOf (strKind P w) l := by
  intro e he
  obtain ⟨x, tk, h1, h2⟩ := g e he
  refine ⟨⟨x, ?_, h2⟩, ?_⟩ <;> rw [h1]
  · exact beq_self_eq_true x
  · rfl
theorem TxR.setOf (R : TxR w s.heap a S n) : s.heap.SetOf (strKind P w) a S n := by
  obtain ⟨o, es, ep, t, r⟩ := R
  exact ⟨o, es, ep, t, r.get, r.ex, r.dat, tx_elems r.good, fun x => (r.mem x).trans (tx_mem r.good x), r.few, r.fit, r.num⟩
/-- the rest of an adding, behind the new row -/
theorem tx_rest {g : Bool → Sem Unit} (hg : ∀ (b : Bool) (z : Shared) (R : Unit → Shared → Prop), R () z → wpAny (model P w) A (g b) R E z) {o : Obj} {es es1 : Array (Int × Value)} {ep : Nat} {t t2 : SetTable} {S' : Str → Bool} (r0 : s.heap.get? a = some o) (r1 : o.ExactSet) (r2 : o.data = .set es ep t)
    (q1 : ∀ e ∈ es1.toList, TxE w e) (q2 : (es1.toList.map txK).Nodup) (q3 : ∀ x, S' x = true ↔ x ∈ es1.toList.map txK) (q4 : es1.size < scanBound) (q5 : t2.fits es1.size = true) (q6 : Ris t2.place.toList) (q7 : w.params.followText "set-order" = true ∨ t2.led = true) {old : Bool} {R : Option Bool → Shared → Prop}
    (fin : ∀ h', Heap.SameBut a s.heap h' → TxR w h' a S' es1.size → R (some true) { s with heap := h' }) :
    wpAny (model P w) A (storeSet a es1 t2 >>= fun _ => if (!old && t2.tooFull) = true then (g (relayAll t2 es1 (SetTable.grown es1.size)).2.2 >>= fun _ => storeSet a (relayAll t2 es1 (SetTable.grown es1.size)).1 (relayAll t2 es1 (SetTable.grown es1.size)).2.1 >>= fun _ => pure (some true)) else pure (some true)) R E s := by
  have st1 := store_at (es' := es1) (t' := t2) r0 r2
  have same1 := Heap.SameBut.update s.heap a (Obj.putSet es1 t2)
  refine wpAny_bind (wpAny_storeSet_of r0 r2 ?_ (fits_of_scanBound q4))
  by_cases full : (!old && t2.tooFull) = true
  · rw [if_pos full]
    have pp := relayAll_perm t2 es1 (SetTable.grown es1.size); have pf := relayAll_fits t2 es1 (SetTable.grown es1.size)
    have pr := relayAll_ris t2 es1 (SetTable.grown es1.size); have pl := relayAll_led t2 es1 (SetTable.grown es1.size)
    generalize relayAll t2 es1 (SetTable.grown es1.size) = N at *
    obtain ⟨es2, t3, gave⟩ := N
    have sz : es2.size = es1.size := by simpa using pp.length_eq
    have few2 : es2.size < scanBound := sz ▸ q4
    have st2 := store_at (es' := es2) (t' := t3) st1 rfl
    refine wpAny_bind (hg gave _ _ (wpAny_bind (wpAny_storeSet_of st1 rfl (wpAny_pure (fin _ (same1.trans (Heap.SameBut.update _ a _)) ?_)) (fits_of_scanBound few2))))
    have mm := pp.map txK
    exact ⟨_, es2, _, t3, { get := st2, ex := r1, dat := rfl, good := fun e he => q1 e (pp.mem_iff.mp he), nd := mm.nodup_iff.mpr q2, mem := fun x => (q3 x).trans mm.mem_iff.symm, few := few2, fit := pf, num := sz, ris := pr, ord := q7.imp id fun z => pl.trans z }⟩
  · rw [if_neg full]
    exact wpAny_pure (fin _ same1 ⟨_, es1, _, t2, { get := st1, ex := r1, dat := rfl, good := q1, nd := q2, mem := q3, few := q4, fit := q5, num := rfl, ris := q6, ord := q7 }⟩)
theorem tx_put {x : Str} {tk : Tok} {Q : Bool → Shared → Prop} (R : TxR w s.heap a S n) (room : n + 1 < scanBound)
    (fin : ∀ h', Heap.SameBut a s.heap h' → TxR w h' a (fun y => S y || decide (y = x)) (if S x = true then n else n + 1) → Q (!S x) { s with heap := h' }) :
    wpAny (model P w) A (setAddHashed a (.str x tk) ((strKind P w).hash x)) Q E s := by
  obtain ⟨o, es, ep, t, r⟩ := R
  have key : (strKind P w).is x (.str x tk) = true := beq_self_eq_true x
  have scan : (Value.str x tk).scannable = true := rfl
  have el := tx_elems (P := P) r.good
  unfold setAddHashed setAddHashedIn
  refine wpAny_holding (wpAny_bind (wpAny_setState_of r.get r.dat r.fit ?_))
  dsimp only
  rw [byScan_of scan r.few el]
  simp only [↓reduceIte]
  unfold setAddByScan
  refine wpAny_bind (wpAny_bind (wpAny_rule (wpAny_bind (wpAny_setScan_of key r.get r.dat r.fit el ?_))))
  cases found : es.toList.findIdx? (fun e => (strKind P w).is x e.2) with
  | some j =>
    obtain ⟨lt, pj, _⟩ := List.findIdx?_eq_some_iff_getElem.mp found
    have inS : S x = true := (r.mem x).mpr ((tx_mem (P := P) r.good x).mpr ⟨_, List.getElem_mem lt, pj⟩)
    have q := fin s.heap (Heap.SameBut.refl a _) ⟨o, es, ep, t, { r with
      mem := fun y => by
        rw [← r.mem y, Bool.or_eq_true, decide_eq_true_eq]
        exact ⟨fun z => z.elim id fun e => e ▸ inS, .inl⟩
      num := by rw [if_pos inS]; exact r.num }⟩
    rw [inS] at q
    exact wpAny_pure (wpAny_pure q)
  | none =>
    have out : x ∉ es.toList.map txK := by
      intro z
      obtain ⟨e, he, q⟩ := (tx_mem (P := P) r.good x).mp z
      exact Bool.false_ne_true ((List.findIdx?_eq_none_iff.mp found e he).symm.trans q)
    have offS : S x = false := by
      cases q : S x
      · rfl
      · exact absurd ((r.mem x).mp q) out
    dsimp only
    have pp := layNew_perm t es ((strKind P w).hash x) (.str x tk); have pf := layNew_fits t es ((strKind P w).hash x) (.str x tk)
    have pr := layNew_ris t es ((strKind P w).hash x) (.str x tk) r.ris; have pl := layNew_led t es ((strKind P w).hash x) (.str x tk)
    generalize layNew t es ((strKind P w).hash x) (.str x tk) = N at *
    obtain ⟨es1, t1, old, gave⟩ := N
    dsimp only at pp pf pr pl ⊢
    have pc : es1.toList.Perm (((strKind P w).hash x, Value.str x tk) :: es.toList) := by
      rw [Array.toList_push] at pp
      exact pp.trans (List.perm_append_singleton _ _)
    have pk : (es1.toList.map txK).Perm (x :: es.toList.map txK) := pc.map txK
    have q1 : ∀ e ∈ es1.toList, TxE w e := fun e he => (List.mem_cons.mp (pc.mem_iff.mp he)).elim (fun z => z ▸ ⟨x, tk, rfl, rfl⟩) (r.good e)
    have q2 := pk.nodup_iff.mpr (List.nodup_cons.mpr ⟨out, r.nd⟩)
    have q3 : ∀ y, (S y || decide (y = x)) = true ↔ y ∈ es1.toList.map txK := fun y => by
      rw [pk.mem_iff, List.mem_cons, ← r.mem y, Bool.or_eq_true, decide_eq_true_eq]
      exact Or.comm
    have sz : es1.size = n + 1 := by
      have := pc.length_eq
      rw [← r.num]
      simpa using this
    have q4 : es1.size < scanBound := sz ▸ room
    have q7 : w.params.followText "set-order" = true ∨ t1.led = true := r.ord.imp id fun z => pl.trans z
    have last : ∀ h', Heap.SameBut a s.heap h' → TxR w h' a (fun y => S y || decide (y = x)) es1.size → Q true { s with heap := h' } := fun h' sb k => by
      have q := fin h' sb
      rw [offS] at q
      exact q (sz ▸ k)
    refine wpAny_bind ?_
    have quiet : ∀ (b : Bool) (z : Shared) (R : Unit → Shared → Prop), R () z → wpAny (model P w) A (match b with | true => rule "set.scan.the-table-gave-way" | false => pure ()) R E z := fun b z R q => by
      cases b
      · exact wpAny_pure q
      · exact wpAny_rule q
    refine quiet _ _ _ ?_
    split
    · refine wpAny_bind ?_
      rw [hashByValue_scannable 8 scan]
      refine wpAny_pure (tx_rest quiet r.get r.ex r.dat q1 q2 q3 q4 ?_ ?_ ?_ fun h' sb k => wpAny_pure (last h' sb k))
      · split
        · exact pf
        · exact SetTable.fits_plain_off pf
      · split <;> exact pr
      · split <;> exact q7
    · exact wpAny_bind (wpAny_pure (tx_rest quiet r.get r.ex r.dat q1 q2 q3 q4 pf pr q7 fun h' sb k => wpAny_pure (last h' sb k)))
/-- the texts of a row, each once -/
def inS (xs : List Str) : Str → Bool := fun y => decide (y ∈ xs)
theorem tx_loop {I : Addr} {fp wr : List Addr} {G : Array GenState → Array GenState → Prop} {m : Nat} {Pv : Nat → Value → Prop} {St : Nat → Shared → Prop} {R : Result → Shared → Prop} (W : WalksS P w A.in1 I fp wr G m Pv St) (D : Addr) (off : D ∉ fp) (xs : List Str) (hm : m = xs.length) (hb : xs.length + 1 < scanBound)
    (val : ∀ i v, Pv i v → ∃ x tk, xs[i]? = some x ∧ v = .str x tk) : ∀ (k i : Nat) (s : Shared), m - i = k → i ≤ m → St i s → (∃ c, c ≤ i ∧ TxR w s.heap D (inS (xs.take i)) c) →
      (∀ s' c, Moved (D :: wr) G s s' → c ≤ m → TxR w s'.heap D (inS xs) c → R (.ok (.ret .none)) s') → codeAny (model P w) A (.builtin "set.update.loop" ⟨[.ref D, .ref I], []⟩) R s := by
  have offw : D ∉ wr := fun h => off (W.sub _ h)
  have up : ∀ b ∈ wr, b ∈ D :: wr := fun _ h => .tail _ h
  intro k
  induction k with
  | zero =>
    rintro i s hk hi st ⟨c, hc, T⟩ fin
    obtain rfl : i = m := by omega
    refine codeAny_builtin F.entry_set_update_loop ?_
    rw [Around.under_plainId F.plain_set_update_loop _]
    refine wpAny_bind (m := pyNext (.ref I)) (W.done s _ _ st fun s' mv => wpAny_pure ?_)
    rw [List.take_of_length_le (by omega)] at T
    exact fin s' c (mv.mono up) hc (T.at fun o e => mv.heap D o offw e)
  | succ k ih =>
    rintro i s hk hi st ⟨c, hc, T⟩ fin
    have lt : i < m := by omega
    refine codeAny_builtin F.entry_set_update_loop ?_
    rw [Around.under_plainId F.plain_set_update_loop _]
    refine wpAny_bind (m := pyNext (.ref I)) (W.item i s _ _ lt st fun v s' pv st' mv => ?_)
    obtain ⟨x, tk, hx, rfl⟩ := val i v pv
    have T' := T.at (h' := s'.heap) fun o e => mv.heap D o offw e
    refine wpAny_bind (m := holding [Value.str x tk] (setAdd D (.str x tk))) (wpAny_holding ?_)
    unfold setAdd
    refine wpAny_holding (wpAny_bind ((strKind P w).pyHash (k := x) (beq_self_eq_true x) (tx_put (s := { s' with toks := s'.toks + 1 }) T' (by omega) fun h' sb T2 => ?_)))
    have T3 : TxR w h' D (inS (xs.take (i + 1))) (if inS (xs.take i) x = true then c else c + 1) := T2.congr fun y => by
      unfold inS
      rw [List.take_add_one, hx]
      simp [List.mem_append]
    have c3 : (if inS (xs.take i) x = true then c else c + 1) ≤ i + 1 := by
      cases inS (xs.take i) x
      · show c + 1 ≤ i + 1; omega
      · show c ≤ i + 1; omega
    have still : ∀ b, b ≠ D → ∀ o, s'.heap.get? b = some o → h'.get? b = some o := fun b nb o e => (sb.2 b nb).trans e
    refine wpAny_pure ⟨plainId_quiet F.plain_set_update_loop _, ih (i + 1) _ (by omega) lt (W.frame _ s' _ _ st' (Nat.le_succ _) fun b hb o e => still b (fun z => off (z ▸ hb)) o e) ⟨_, c3, T3⟩ fun s2 c2 mv2 hc2 T4 => fin s2 c2 ?_ hc2 T4⟩
    exact Moved.trans W.gtrans ((mv.mono up).then_heap (Nat.le_succ _) fun b o nb e => still b (fun z => nb (z ▸ .head _)) o e) mv2
theorem tx_fresh {h : Heap} {D : Addr} {xs : List Str} (e : h.get? D = some { cls := .type "set", dict := none, data := .set #[] 0 (.fresh 0 0 (!w.params.followText "set-order")) }) : TxR w h D (inS (xs.take 0)) 0 := by
  refine ⟨_, #[], 0, _, { get := e, ex := ⟨rfl, rfl, rfl⟩, dat := rfl, good := nofun, nd := .nil, mem := fun x => by simp [inS], few := by decide, fit := by rfl, num := rfl, ris := .nil, ord := ?_ }⟩
  cases w.params.followText "set-order"
  · exact .inr rfl
  · exact .inl rfl
/-- a set being made -/
abbrev newSet (w : World) : Obj := { cls := .type "set", dict := none, data := .set #[] 0 (.fresh 0 0 (!w.params.followText "set-order")) }
/-- set(xs), xs a list of texts -/
theorem set_of_list {l : Addr} {items : Array Value} (xs : List Str) {Q : Value → Shared → Prop} (calm : A.handled = none) (hl : s.heap.IsList l items) (num : items.size = xs.length) (val : ∀ (i : Nat) (v : Value), items[i]? = some v → ∃ x tk, xs[i]? = some x ∧ v = Value.str x tk) (hb : xs.length + 1 < scanBound)
    (fin : ∀ (h' : Heap) (tk c : Nat), TxR w h' s.heap.objs.size (inS xs) c → c ≤ xs.length → (∀ b o, s.heap.get? b = some o → h'.get? b = some o) → Q (.ref s.heap.objs.size) { s with heap := h', toks := tk }) : wpAny (model P w) A (call (.type "set") [.ref l]) Q E s := by
  obtain ⟨c0, tl, hmro⟩ := F.called_set.mro
  have a1 := F.called_set.made; have a2 := F.called_set.sub; have a3 := F.called_set.notType; have a4 := F.called_set.canCreate; have a5 := F.typeCall_set_1 (.ref l)
  refine wpAny_call (codeAny_of_tree ?_)
  show wpAny _ _ (callAny (.type "set") _) _ _ _
  refine wpAny_pure ⟨Code.quiet_builtin _ (by decide +kernel), codeAny_builtin F.entry_type_call ?_⟩
  rw [Around.under_plain (weight_type_call_type "set" [.ref l] []) rfl]
  repeat (any_goals (first | assumption | wp_step))
  refine codeAny_mono (code_set_led1 (.ref l) (E := E) (Q₁ := fun u z => u = .ref s.heap.objs.size ∧ z = { s with heap := s.heap.push (newSet w) }) ⟨rfl, rfl⟩) fun res s1 hres => ?_
  cases res with
  | error e => exact hres
  | ok fl =>
    cases fl with
    | next => exact hres.elim
    | brk => exact hres.elim
    | cont => exact hres.elim
    | ret u =>
      obtain ⟨rfl, rfl⟩ := hres
      have hD : (s.heap.push (newSet w)).get? s.heap.objs.size = some (newSet w) := Heap.get?_push_size _ rfl
      have hT : Shared.TypeIs { s with heap := s.heap.push (newSet w) } (.ref s.heap.objs.size) "set" := ⟨_, hD, rfl⟩
      have b1 := F.called_set.init.lookup; have b2 := F.called_set.init.bind (.ref s.heap.objs.size)
      repeat (any_goals (first | assumption | wp_step))
      refine codeAny_mono (codeAny_call_builtin (R := wants (fun r z => r = .none ∧ ∃ h' tk c, z = { s with heap := h', toks := tk } ∧ TxR w h' s.heap.objs.size (inS xs) c ∧ c ≤ xs.length ∧ ∀ b o, s.heap.get? b = some o → h'.get? b = some o) E) F.called_set.init.plain F.entry_set_init (check_set_init_1 hT ?_)) fun r2 s2 h2 => ?_
      · obtain ⟨ol, hol, hcl, nl, hdl⟩ := hl
        obtain ⟨oc, od, ot, osl⟩ := ol
        simp only at hcl hdl
        subst hcl hdl
        have at1 : (s.heap.push (newSet w)).get? l = some { cls := .type "list", dict := od, data := .seq items nl, slots := osl } := Heap.get?_push_of_some _ hol
        have d1 := F.sub_list_set; have d2 := F.sub_list_frozenset
        have d3 : (Value.type "list" == Value.type "dict") = false := by decide
        have is1 : (s.heap.push (newSet w)).IsList l items := ⟨_, at1, rfl, nl, rfl⟩
        unfold Builtin.«set.__init__» noKeywords Builtin.Frozenset.updateFrom
        generalize hPI : pyIter = PI
        wp_walk
        subst hPI
        refine wpAny_pyIter_list is1 (wpAny_bind (wpAny_runValue ?_))
        have lt : l < s.heap.objs.size := Heap.lt_size hol
        have cal3 : A.in1.in1.in1.handled = none := by simp [calm]
        have ne1 : l ≠ (s.heap.push (newSet w)).objs.size := by
          rw [Heap.size_push]
          exact Nat.ne_of_lt (Nat.lt_succ_of_lt lt)
        have off : s.heap.objs.size ∉ [(s.heap.push (newSet w)).objs.size, l] := by
          rw [Heap.size_push]
          simp only [List.mem_cons, List.not_mem_nil, or_false, not_or]
          exact ⟨Nat.ne_of_lt (Nat.lt_succ_self _), Nat.ne_of_gt lt⟩
        refine tx_loop ((Walks.list cal3 _ l ne1 items).toS) s.heap.objs.size off xs num hb val (items.size - 0) 0 _ (by omega) (Nat.zero_le _) ⟨⟨_, Heap.get?_push_size _ rfl, rfl, rfl⟩, is1.push _⟩ ⟨0, Nat.le_refl 0, tx_fresh (Heap.get?_push_of_some _ hD)⟩ ?_
        rintro ⟨h', g2, r2, tk', os'⟩ c' mv hc' T
        obtain rfl : g2 = s.gens := mv.gens; obtain rfl : r2 = s.drawn := mv.drawn; obtain rfl : os' = s.os := mv.os
        rw [num] at hc'
        refine wpAny_pure (wpAny_pure ⟨rfl, h', tk', c', rfl, T, hc', fun b o e => ?_⟩)
        have lb : b < s.heap.objs.size := Heap.lt_size e
        refine mv.heap b o ?_ (Heap.get?_push_of_some _ (Heap.get?_push_of_some _ e))
        rw [Heap.size_push]
        simp only [List.mem_cons, List.not_mem_nil, or_false, not_or]
        exact ⟨Nat.ne_of_lt lb, Nat.ne_of_lt (Nat.lt_succ_of_lt lb)⟩
      · cases r2 with
        | error e => exact h2
        | ok fl2 =>
          cases fl2 with
          | ret r =>
            obtain ⟨rfl, h', tk, c', rfl, T, hc', keep⟩ := h2
            repeat (any_goals (first | assumption | wp_step))
            exact fin _ _ _ T hc' keep
          | next => exact h2.elim
          | brk => exact h2.elim
          | cont => exact h2.elim
/-- set(xs), xs a tuple of texts -/
theorem set_of_tuple {l : Addr} {items : Array Value} (xs : List Str) {Q : Value → Shared → Prop} (calm : A.handled = none) (hl : s.heap.IsTuple l items) (num : items.size = xs.length) (val : ∀ (i : Nat) (v : Value), items[i]? = some v → ∃ x tk, xs[i]? = some x ∧ v = Value.str x tk) (hb : xs.length + 1 < scanBound)
    (fin : ∀ (h' : Heap) (tk c : Nat), TxR w h' s.heap.objs.size (inS xs) c → c ≤ xs.length → (∀ b o, s.heap.get? b = some o → h'.get? b = some o) → Q (.ref s.heap.objs.size) { s with heap := h', toks := tk }) : wpAny (model P w) A (call (.type "set") [.ref l]) Q E s := by
  obtain ⟨c0, tl, hmro⟩ := F.called_set.mro
  have a1 := F.called_set.made; have a2 := F.called_set.sub; have a3 := F.called_set.notType; have a4 := F.called_set.canCreate; have a5 := F.typeCall_set_1 (.ref l)
  refine wpAny_call (codeAny_of_tree ?_)
  show wpAny _ _ (callAny (.type "set") _) _ _ _
  refine wpAny_pure ⟨Code.quiet_builtin _ (by decide +kernel), codeAny_builtin F.entry_type_call ?_⟩
  rw [Around.under_plain (weight_type_call_type "set" [.ref l] []) rfl]
  repeat (any_goals (first | assumption | wp_step))
  refine codeAny_mono (code_set_led1 (.ref l) (E := E) (Q₁ := fun u z => u = .ref s.heap.objs.size ∧ z = { s with heap := s.heap.push (newSet w) }) ⟨rfl, rfl⟩) fun res s1 hres => ?_
  cases res with
  | error e => exact hres
  | ok fl =>
    cases fl with
    | next => exact hres.elim
    | brk => exact hres.elim
    | cont => exact hres.elim
    | ret u =>
      obtain ⟨rfl, rfl⟩ := hres
      have hD : (s.heap.push (newSet w)).get? s.heap.objs.size = some (newSet w) := Heap.get?_push_size _ rfl
      have hT : Shared.TypeIs { s with heap := s.heap.push (newSet w) } (.ref s.heap.objs.size) "set" := ⟨_, hD, rfl⟩
      have b1 := F.called_set.init.lookup; have b2 := F.called_set.init.bind (.ref s.heap.objs.size)
      repeat (any_goals (first | assumption | wp_step))
      refine codeAny_mono (codeAny_call_builtin (R := wants (fun r z => r = .none ∧ ∃ h' tk c, z = { s with heap := h', toks := tk } ∧ TxR w h' s.heap.objs.size (inS xs) c ∧ c ≤ xs.length ∧ ∀ b o, s.heap.get? b = some o → h'.get? b = some o) E) F.called_set.init.plain F.entry_set_init (check_set_init_1 hT ?_)) fun r2 s2 h2 => ?_
      · obtain ⟨ol, hol, hcl, nl, hdl⟩ := hl
        obtain ⟨oc, od, ot, osl⟩ := ol
        simp only at hcl hdl
        subst hcl hdl
        have at1 : (s.heap.push (newSet w)).get? l = some { cls := .type "tuple", dict := od, data := .seq items nl, slots := osl } := Heap.get?_push_of_some _ hol
        have d1 := F.sub_tuple_set; have d2 := F.sub_tuple_frozenset
        have d3 : (Value.type "tuple" == Value.type "dict") = false := by decide
        have is1 : (s.heap.push (newSet w)).IsTuple l items := ⟨_, at1, rfl, nl, rfl⟩
        unfold Builtin.«set.__init__» noKeywords Builtin.Frozenset.updateFrom
        generalize hPI : pyIter = PI
        wp_walk
        subst hPI
        refine wpAny_pyIter_tuple is1 (wpAny_bind (wpAny_runValue ?_))
        have lt : l < s.heap.objs.size := Heap.lt_size hol
        have cal3 : A.in1.in1.in1.handled = none := by simp [calm]
        have ne1 : l ≠ (s.heap.push (newSet w)).objs.size := by
          rw [Heap.size_push]
          exact Nat.ne_of_lt (Nat.lt_succ_of_lt lt)
        have off : s.heap.objs.size ∉ [(s.heap.push (newSet w)).objs.size, l] := by
          rw [Heap.size_push]
          simp only [List.mem_cons, List.not_mem_nil, or_false, not_or]
          exact ⟨Nat.ne_of_lt (Nat.lt_succ_self _), Nat.ne_of_gt lt⟩
        refine tx_loop ((Walks.tuple cal3 _ l ne1 items).toS) s.heap.objs.size off xs num hb val (items.size - 0) 0 _ (by omega) (Nat.zero_le _) ⟨⟨_, Heap.get?_push_size _ rfl, rfl, rfl⟩, is1.push _⟩ ⟨0, Nat.le_refl 0, tx_fresh (Heap.get?_push_of_some _ hD)⟩ ?_
        rintro ⟨h', g2, r2, tk', os'⟩ c' mv hc' T
        obtain rfl : g2 = s.gens := mv.gens; obtain rfl : r2 = s.drawn := mv.drawn; obtain rfl : os' = s.os := mv.os
        rw [num] at hc'
        refine wpAny_pure (wpAny_pure ⟨rfl, h', tk', c', rfl, T, hc', fun b o e => ?_⟩)
        have lb : b < s.heap.objs.size := Heap.lt_size e
        refine mv.heap b o ?_ (Heap.get?_push_of_some _ (Heap.get?_push_of_some _ e))
        rw [Heap.size_push]
        simp only [List.mem_cons, List.not_mem_nil, or_false, not_or]
        exact ⟨Nat.ne_of_lt lb, Nat.ne_of_lt (Nat.lt_succ_of_lt lb)⟩
      · cases r2 with
        | error e => exact h2
        | ok fl2 =>
          cases fl2 with
          | ret r =>
            obtain ⟨rfl, h', tk, c', rfl, T, hc', keep⟩ := h2
            repeat (any_goals (first | assumption | wp_step))
            exact fin _ _ _ T hc' keep
          | next => exact h2.elim
          | brk => exact h2.elim
          | cont => exact h2.elim
end
end Z
namespace Z
open PySem PySem.Spec PyProof.Rows L2
/-! ### sets of texts: what is asked of them -/
section
variable {P : Program} {w : World} {A : Around} {E : Value → Shared → Prop} {s : Shared} {a : Addr} {S : Str → Bool} {n : Nat}
theorem strs_of {l : List Value} (h : ∀ v ∈ l, ∃ x tk, v = Value.str x tk) : ∃ xs, StrsAre l xs ∧ xs = l.map fun v => txK (0, v) := by
  induction l with
  | nil => exact ⟨[], .nil, rfl⟩
  | cons v r ih =>
    obtain ⟨x, tk, rfl⟩ := h v (.head _)
    obtain ⟨xs, h1, h2⟩ := ih fun u hu => h u (.tail _ hu)
    exact ⟨x :: xs, .cons x tk h1, by rw [h2]; rfl⟩
theorem tx_sorted {Q : Value → Shared → Prop} (R : TxR w s.heap a S n) (calm : A.handled = none)
    (fin : ∀ s' p (out : Array Value) (c : Nat) (ys : List Str), (∀ b o, s.heap.get? b = some o → s'.heap.get? b = some o) → s'.gens = s.gens → s'.os = s.os → s.heap.objs.size ≤ p → s'.heap.get? p = some (seqObj "list" out c) → StrsAre out.toList ys → sortedS ys = true → ys.Nodup → (∀ y, y ∈ ys ↔ S y = true) → ys.length = n → n ≤ sizeLine → Q (.ref p) s') :
    wpAny (model P w) A (call (.builtin "sorted") [.ref a]) Q E s := by
  obtain ⟨o, es, ep, t, r⟩ := R
  refine Calls.call_function_entry kind_sorted plain_sorted entry_sorted (args_sorted1 _) ?_
  unfold Builtin.«sorted»
  refine wpAny_bind (m := checkCount "sorted" 1 1 _) (wpAny_pure (wpAny_bind (collect_set (A := A.in1) calm ⟨o, r.get, r.ex.1, r.dat⟩ r.fit r.few r.ris r.ord fun s1 vs k1 hz g1 o1 pm => ?_)))
  have len : vs.length = n := by
    have := pm.length_eq
    rw [← r.num]
    simpa using this
  have small : n ≤ sizeLine := r.num ▸ fits_of_scanBound r.few
  obtain ⟨xs, hxs, ex⟩ := strs_of (l := vs) fun v hv => by
    obtain ⟨e, he, q⟩ := List.mem_map.mp (pm.mem_iff.mp hv)
    obtain ⟨x, tk, h1, _⟩ := r.good e he
    exact ⟨x, tk, q ▸ h1⟩
  have px : xs.Perm (es.toList.map txK) := by
    have q := pm.map fun v => txK (0, v)
    rw [List.map_map, ← ex] at q
    exact q
  refine wpAny_bind (wpAny_newList ?_ (len ▸ small))
  have hoL : (s1.heap.push (seqObj "list" vs.toArray 0)).get? s1.heap.objs.size = some (seqObj "list" vs.toArray 0) := Heap.get?_push_size _ rfl
  refine wpAny_bind (wpAny_holding (wpAny_call_entry slot_list_sort ⟨_, hoL, rfl⟩ entry_list_sort (list_sort_treeKAny strKind_oneLt hoL hxs.keysOf (fun v₁ v₂ rest e => keyKind_strs (by rw [← e]; exact hxs)) (len ▸ small) fun st hp hs => ⟨_, rfl, ?_⟩) (args_list_sort _)))
  obtain ⟨ys, h1, h2, h3⟩ := sorted_out_str hxs hp hs
  obtain ⟨c, hc⟩ := sortedHeap_at (vs := vs) (out := (arrOf st).map (·.2)) hoL
  have py := h2.trans px
  refine wpAny_pure ⟨_, rfl, fin _ s1.heap.objs.size _ c ys (fun b u e => ?_) g1 o1 hz hc h1 h3 (py.nodup_iff.mpr r.nd) (fun y => py.mem_iff.trans (r.mem y).symm) ?_ small⟩
  · have q := k1 b u e
    have lt := Heap.lt_size q
    show (sortedHeap (s1.heap.push (seqObj "list" vs.toArray 0)) s1.heap.objs.size vs _).get? b = some u
    rw [sortedHeap_old (Nat.ne_of_lt lt) (by rw [size_push']; exact Nat.lt_succ_of_lt lt)]
    exact Heap.get?_push_of_some _ q
  · have := py.length_eq
    rw [← r.num]
    simpa using this
end
/-- the set of the texts S, n of them -/
def TxO (w : World) (a : Addr) (S : Str → Bool) (n : Nat) : HO := .ext fun h => TxR w h a S n
theorem txO_new {w : World} {P : Program} {H : Hp} {h : Heap} {a : Addr} {S : Str → Bool} {n : Nat} (R : TxR w h a S n) : ObjOk P w H h a (TxO w a S n) := ⟨R, let ⟨o, _, _, _, r⟩ := R; ⟨o, r.get⟩, fun _ _ p k => p.at k⟩
section
variable {X : Cx} {K : PySem.W.Frag}
theorem txO_get {pins : List (Addr × Obj)} {σ : L2.St} {H : Hp} {s : Shared} {a : Addr} {S : Str → Bool} {n : Nat} (I : Inv X pins σ H s) (ha : H a = some (TxO X.w a S n)) : TxR X.w s.heap a S n := (I.hok a _ ha).1
/-- n is how many texts stand in xs, each once -/
def ManyS (xs : List Str) (n : Nat) : Prop := ∃ L : List Str, L.Nodup ∧ (∀ y, y ∈ L ↔ y ∈ xs) ∧ L.length = n
theorem ManyS.le {xs : List Str} {n : Nat} (h : ManyS xs n) : n ≤ xs.length := by
  obtain ⟨L, h1, h2, rfl⟩ := h
  exact len_le_of_sub h1 fun x hx => (h2 x).mp hx
/-- set(xs), xs a list or a tuple of texts -/
def rSetS (K : PySem.W.Frag) (w : World) : List V → Hp → VK → Prop := fun vs H Q => ∃ (l : Addr) (xs : List Str), vs = [.ref l] ∧ (SqL K H l (xs.map V.str) ∨ SqT K H l (xs.map V.str)) ∧ xs.length + 1 < scanBound ∧
  ∀ a n, H a = none → ManyS xs n → Q (.ref a) (upd H a (TxO w a (inS xs) n))
theorem strs_at {xs : List Str} {its : List Value} (r : Vals (xs.map V.str) its) : ∀ (i : Nat) (v : Value), its.toArray[i]? = some v → ∃ x tk, xs[i]? = some x ∧ v = Value.str x tk := by
  intro i v h
  rw [List.getElem?_toArray] at h
  have len := r.length
  rw [List.length_map] at len
  have lt : i < xs.length := by
    rw [len]
    exact (List.getElem?_eq_some_iff.mp h).1
  obtain ⟨u, hu, tk, e⟩ := r.get (i := i) (x := .str xs[i]) (by simp [lt])
  rw [hu] at h
  exact ⟨xs[i], tk, List.getElem?_eq_getElem lt, (Option.some.inj h).symm.trans e⟩
theorem TxR.many {w : World} {h : Heap} {a : Addr} {xs : List Str} {n : Nat} (R : TxR w h a (inS xs) n) : ManyS xs n := by
  obtain ⟨o, es, ep, t, r⟩ := R
  refine ⟨es.toList.map txK, r.nd, fun y => ?_, ?_⟩
  · rw [← r.mem y]
    exact decide_eq_true_iff
  · rw [List.length_map, Array.length_toList, r.num]
theorem cr_setS (hc : X.calm = true) (hK : X.K = K := by rfl) : CallR X (.type "set") (rSetS K X.w) := by
  subst hK
  rintro pins s σ H vs us Q I r ⟨l, xs, rfl, hl, hb, q⟩
  rw [Vals.ref1 r]
  have fr : H s.heap.objs.size = none := I.hok.fresh (Nat.le_refl _)
  have fin : ∀ (h' : Heap) (tk c : Nat), TxR X.w h' s.heap.objs.size (inS xs) c → c ≤ xs.length → (∀ b o, s.heap.get? b = some o → h'.get? b = some o) → EP X pins σ Q (.ref s.heap.objs.size) { s with heap := h', toks := tk } := fun h' tk c T _ k =>
    ⟨.ref s.heap.objs.size, upd H s.heap.objs.size (TxO X.w s.heap.objs.size (inS xs) c), I.laid (t' := tk) k (Nat.le_refl _) (txO_new T), rfl, q _ c fr T.many⟩
  rcases hl with hl | hl
  · obtain ⟨its, rv, pl, hz⟩ := I.list hl
    exact set_of_list xs (I.ok.hd hc) pl.isList (by have := rv.length; simpa using this.symm) (strs_at rv) hb fin
  · obtain ⟨its, rv, pl, hz⟩ := I.tuple hl
    exact set_of_tuple xs (I.ok.hd hc) pl (by have := rv.length; simpa using this.symm) (strs_at rv) hb fin
/-- len(set) -/
def rLenX (w : World) : List V → Hp → VK → Prop := fun vs H Q => ∃ (a : Addr) (S : Str → Bool) (n : Nat), vs = [.ref a] ∧ H a = some (TxO w a S n) ∧ Q (.int n) H
theorem cr_lenX : CallR X (.builtin "len") (rLenX X.w) := by
  rintro pins s σ H vs us Q I r ⟨a, S, n, rfl, ha, q⟩
  rw [Vals.ref1 r]
  obtain ⟨o, es, ep, t, k⟩ := txO_get I ha
  have big : (es.size : Int) < 2 ^ 63 := by
    have h1 : es.size ≤ sizeLine := fits_of_scanBound k.few
    have h2 : sizeLine = 16777216 := by decide
    omega
  exact call_len_set k.get k.ex k.dat k.fit big ⟨.int n, H, I.tok _, ⟨_, by rw [k.num]⟩, q⟩
/-- sorted(set) -/
def rSortX (w : World) : List V → Hp → VK → Prop := fun vs H Q => ∃ (a : Addr) (S : Str → Bool) (n : Nat), vs = [.ref a] ∧ H a = some (TxO w a S n) ∧ ∀ (ys : List Str) (p : Addr), sortedS ys = true → ys.Nodup → (∀ y, y ∈ ys ↔ S y = true) → ys.length = n → H p = none → Q (.ref p) (upd H p (.lst (ys.map V.str)))
theorem cr_sortX (hc : X.calm = true) : CallR X (.builtin "sorted") (rSortX X.w) := by
  rintro pins s σ H vs us Q I r ⟨a, S, n, rfl, ha, q⟩
  rw [Vals.ref1 r]
  refine tx_sorted (txO_get I ha) (I.ok.hd hc) fun s' p out c ys k g o hp hg hi hs nd mem len small => ?_
  have fr : H p = none := I.hok.fresh hp
  have fit : (ys.map V.str).length ≤ sizeLine := by
    rw [List.length_map, len]
    exact small
  have J : Inv X pins σ (upd H p (.lst (ys.map V.str))) { s with heap := s'.heap, gens := s'.gens, drawn := s'.drawn, toks := s'.toks } := I.call (ch := []) (Un.laid k hp fr) (I.hok.laid k hp ⟨fit, out.toList, c, vals_of_strs hi, hg⟩) (by rw [g]; exact I.bare) nofun
  obtain ⟨h1, h2, h3, h4, h5⟩ := s'
  obtain rfl : h5 = s.os := o
  exact ⟨.ref p, _, J, rfl, q ys p hs nd mem len fr⟩
end
/-! ### the ascending texts of a row -/
/-- the ascending texts of xs, each once -/
def AscOf (xs ys : List Str) : Prop := sortedS ys = true ∧ ys.Nodup ∧ ∀ y, y ∈ ys ↔ y ∈ xs
end Z
namespace Z
open PySem PySem.Spec PyProof.Rows L2
/-! ### lists or tuples -/
theorem pi_or {X : Cx} {tg l : Expr} {w1 w2 : TI} (h1 : PI X tg l w1) (h2 : PI X tg l w2) : PI X tg l (fun σ H R => w1 σ H R ∨ w2 σ H R) := by
  refine ⟨fun pins s σ H R I h => ?_⟩
  rcases h with h | h
  · exact h1.run pins s σ H R I h
  · exact h2.run pins s σ H R I h
/-- the row xs stands at p, a list or a tuple -/
def RowA (H : Hp) (p : Addr) (xs : List V) : Prop := H p = some (.lst xs) ∨ H p = some (.tup xs)
theorem RowA.same {H H' : Hp} {p : Addr} {xs : List V} (s : Same H H') (h : RowA H p xs) : RowA H' p xs := h.imp (s _ _) (s _ _)
theorem RowA.seq {K : PySem.W.Frag} {H : Hp} {p : Addr} {xs : List V} (h : RowA H p xs) : SqL K H p xs ∨ SqT K H p xs := h.imp SqL.of SqT.of
theorem RowA.isi {K : PySem.W.Frag} {H : Hp} {p : Addr} {xs : List V} (h : RowA H p xs) : ∃ t, TyX K H (.ref p) t ∧ PySem.W.kitAny K t [.type "list", .type "tuple"] = some true := by
  rcases h with h | h
  · refine ⟨_, .base (.lst h), ?_⟩
    unfold PySem.W.kitAny
    rw [kit_same]
  · refine ⟨_, .base (.tup h), ?_⟩
    unfold PySem.W.kitAny
    rw [kit_ty (show kitB "tuple" "list" = some false by decide +kernel)]
    unfold PySem.W.kitAny
    rw [kit_same]
/-- what may be told for a row of names -/
def RowK (K : PySem.W.Frag) (H : Hp) (v : V) : Prop := (∃ p xs, v = .ref p ∧ RowA H p xs ∧ xs.length ≤ 1000 ∧ ∀ x ∈ xs, Kind K H x) ∨ ∃ t, TyX K H v t ∧ PySem.W.kitAny K t [.type "list", .type "tuple"] = some false
/-- the texts among some values -/
def strsV (xs : List V) : List Str := xs.filterMap fun v => match v with
  | .str z => some z
  | _ => none
/-- the names of a row that has no others, each once; none for any other row -/
def rowN (xs : List V) : Option (List Str) := if xs.all vnm = true ∧ (strsV xs).Nodup then some (strsV xs) else none
theorem strsV_map (ns : List Str) : strsV (ns.map V.str) = ns := by
  unfold strsV
  rw [List.filterMap_map]
  induction ns with
  | nil => rfl
  | cons a r ih => simpa using ih
theorem all_strs {xs : List V} (h : xs.all vnm = true) : xs = (strsV xs).map V.str ∧ ∀ n ∈ strsV xs, IsNm n := by
  induction xs with
  | nil => exact ⟨rfl, nofun⟩
  | cons v r ih =>
    rw [List.all_cons, Bool.and_eq_true] at h
    obtain ⟨z, rfl⟩ := vnm_str h.1
    obtain ⟨h1, h2⟩ := ih h.2
    have e : strsV (V.str z :: r) = z :: strsV r := rfl
    rw [e]
    refine ⟨by rw [List.map_cons, ← h1], fun n hn => ?_⟩
    rcases List.mem_cons.mp hn with rfl | hn
    · exact nmB_iff.mp h.1
    · exact h2 n hn
theorem rowN_some {xs : List V} {ns : List Str} (h : rowN xs = some ns) : xs = ns.map V.str ∧ (∀ n ∈ ns, IsNm n) ∧ ns.Nodup := by
  unfold rowN at h
  split at h
  · rename_i c
    cases h
    exact ⟨(all_strs c.1).1, (all_strs c.1).2, c.2⟩
  · cases h
theorem rowN_of {ns : List Str} (h : ∀ n ∈ ns, IsNm n) (d : ns.Nodup) : rowN (ns.map V.str) = some ns := by
  have a : (ns.map V.str).all vnm = true := by
    rw [List.all_map, List.all_eq_true]
    exact fun n hn => nmB_iff.mpr (h n hn)
  unfold rowN
  rw [strsV_map, if_pos ⟨a, d⟩]
theorem perm_full : ∀ (L xs : List Str), L.Nodup → (∀ x ∈ L, x ∈ xs) → xs.length ≤ L.length → L.Perm xs
  | [], xs, _, _, h => by
    rw [List.length_eq_zero_iff.mp (Nat.le_zero.mp h)]
  | a :: r, xs, d, m, h => by
    obtain ⟨d1, d2⟩ := List.nodup_cons.mp d
    have ha := m a (.head _)
    have pe := List.perm_cons_erase ha
    have le : (xs.erase a).length ≤ r.length := by
      have := pe.length_eq
      simp only [List.length_cons] at this h
      omega
    refine .trans (.cons a (perm_full r (xs.erase a) d2 (fun x hx => ?_) le)) pe.symm
    exact (List.mem_erase_of_ne (by intro e; subst e; exact d1 hx)).mpr (m x (.tail _ hx))
theorem many_eq {xs : List Str} {n : Nat} (h : ManyS xs n) : decide ((n : Int) = (xs.length : Int)) = decide xs.Nodup := by
  obtain ⟨L, h1, h2, rfl⟩ := h
  have key : L.length = xs.length ↔ xs.Nodup := by
    constructor
    · intro e
      exact (perm_full L xs h1 (fun x hx => (h2 x).mp hx) (Nat.le_of_eq e.symm)).nodup_iff.mp h1
    · intro d
      exact Nat.le_antisymm (len_le_of_sub h1 fun x hx => (h2 x).mp hx) (len_le_of_sub d fun x hx => (h2 x).mpr hx)
  by_cases d : xs.Nodup
  · rw [decide_eq_true d, decide_eq_true (by have := key.mpr d; omega)]
  · rw [decide_eq_false d, decide_eq_false (fun e => d (key.mp (by omega)))]
def spAreN (K : PySem.W.Frag) : Sp := fun vs H Q _ => ∃ v : V, vs = [v] ∧
  ((∃ p xs, v = .ref p ∧ RowA H p xs ∧ xs.length ≤ 1000 ∧ (∀ x ∈ xs, Kind K H x) ∧ ∀ H', Same H H' → Q (.bl (rowN xs).isSome) H') ∨
   ∃ t, TyX K H v t ∧ PySem.W.kitAny K t [.type "list", .type "tuple"] = some false ∧ ∀ H', Same H H' → Q (.bl false) H')
def spAsc (K : PySem.W.Frag) : Sp := fun vs H Q _ => ∃ (p : Addr) (xs : List Str), vs = [.ref p] ∧ (SqL K H p (xs.map V.str) ∨ SqT K H p (xs.map V.str)) ∧ xs.length ≤ 3000 ∧
  ∀ ys t H', AscOf xs ys → Same H H' → H t = none → H' t = some (.tup (ys.map V.str)) → Q (.ref t) H'
/-- a comprehension whose elements may make things -/
theorem lc_same {J : It} {n : Nat} {G : Hp → Prop} {Y : Nat → Hp → V → Hp → Prop} (w : Walk J n G Y) {g : TG} {tt : TT} {te : TE} {vs : List Nat} {σ : L2.St} {H1 : Hp} {D : Addr} {Qd : Hp → Prop} (xs : List V) (F : V → Option V) (hn : n = xs.length) (hY : ∀ i H x H', i < n → Y i H x H' → H' = H ∧ xs[i]? = some x) (hD : H1 D = none) (hG : ∀ H', Same H1 H' → G H') (hz : xs.length < sizeLine)
    (hs : ∀ x ∈ xs, ∀ H', Same H1 H' → ∀ (Kt : V → Hp → Prop) (Kf : Hp → Prop), (∀ y H2, F x = some y → Same H' H2 → Kt y H2) → (∀ H2, F x = none → Same H' H2 → Kf H2) → g x (wipe σ vs) H' fun σ2 H2 => wipe σ2 vs = wipe σ vs ∧ tt σ2 H2 fun b H3 => if b = true then te σ2 H3 Kt else Kf H3)
    (hd : ∀ H', Same H1 H' → H' D = some (.lst (xs.filterMap F)) → Qd H') :
    ∃ W : Nat → Nat → Hp → Prop, (∃ m, W 0 m (upd H1 D (.lst []))) ∧ ∀ i m H, W i m H → (J.stop i H ∧ Qd H) ∨ (J.go i H ∧ ∃ Nx : Hp → Prop, (∀ H', Nx H' → ∃ m', m' < m ∧ W (i + 1) m' H') ∧ ∀ x H', J.yld i H x H' → g x (wipe σ vs) H' fun σ2 H2 => wipe σ2 vs = wipe σ vs ∧ tt σ2 H2 fun b H3 => if b = true then te σ2 H3 fun y H4 => ∃ acc, H4 D = some (.lst acc) ∧ acc.length < sizeLine ∧ Nx (upd H4 D (.lst (acc ++ [y]))) else Nx H3) := by
  refine lc_it w (fun i H => Same H1 H ∧ H D = some (.lst ((xs.take i).filterMap F))) ⟨same_new hD, upd_same⟩ (fun i H _ k => hG _ k.1) ?_ ?_
  · rintro i x H H' hi ⟨sm, at_⟩ y
    obtain ⟨rfl, hx⟩ := hY i _ x H' hi y
    refine hs x (List.mem_of_getElem? hx) _ sm _ _ (fun y H2 e s2 => ⟨_, s2 _ _ at_, ?_, ?_, ?_⟩) fun H2 e s2 => ⟨sm.trans s2, ?_⟩
    · have a := List.length_filterMap_le F (xs.take i)
      have b : (xs.take i).length ≤ xs.length := by rw [List.length_take]; omega
      omega
    · exact fun b o h => by rw [upd_ne (ne_of_none h hD)]; exact s2 _ _ (sm _ _ h)
    · rw [upd_same, filterMap_take F xs hx, e]
      rfl
    · rw [filterMap_take F xs hx, e]
      simpa using s2 _ _ at_
  · rintro H ⟨sm, at_⟩
    rw [hn, List.take_length] at at_
    exact hd H sm at_
/-- a walk over a list or a tuple -/
theorem row_walk {K : PySem.W.Frag} {H : Hp} {p : Addr} {xs : List V} (h : RowA H p xs) {R : It → Hp → Prop} {σ : L2.St} {i : Nat} (hi : σ[i]? = some (some (.ref p)))
    (k : ∀ (J : It) (G : Hp → Prop), Walk J xs.length G (YAt xs) → (∀ H', Same H H' → G H') → R J H) : (iList K (tVar i)) σ H R ∨ (iTup K (tVar i)) σ H R := by
  rcases h with h | h
  · exact .inl ⟨_, hi, p, rfl, ⟨_, SqL.of h⟩, k _ _ walk_list fun H' s => SqL.of (s _ _ h)⟩
  · exact .inr ⟨_, hi, p, rfl, ⟨_, SqT.of h⟩, k _ _ walk_tup fun H' s => SqT.of (s _ _ h)⟩
theorem bools_of (xs : List V) : xs.filterMap (fun v => some (V.bl (vnm v))) = (xs.map vnm).map V.bl := by
  induction xs with
  | nil => rfl
  | cons a r ih => simp [ih]
end Z
namespace Z
open PySem PySem.Spec PyProof.Rows L2
/-! ### ascending rows are told by what they have -/
def leS (a b : Str) : Prop := ltCps b.cps.toList a.cps.toList = false
theorem leS_iff {a b : Str} : leS a b ↔ a.cps.toList ≤ b.cps.toList := by
  unfold leS
  rw [ltCps_eq, decide_eq_false_iff_not]
  exact List.not_lt
theorem leS_trans {a b c : Str} (h : leS a b) (k : leS b c) : leS a c := leS_iff.mpr (List.le_trans (leS_iff.mp h) (leS_iff.mp k))
theorem leS_anti {a b : Str} (h : leS a b) (k : leS b a) : a = b := str_ext (List.le_antisymm (leS_iff.mp h) (leS_iff.mp k))
theorem rising_all : ∀ (l : List Str) (p : Str), risingS p l = true → (∀ x ∈ l, leS p x) ∧ l.Pairwise leS
  | [], _, _ => ⟨nofun, .nil⟩
  | x :: r, p, h => by
    have h : (!ltCps x.cps.toList p.cps.toList && risingS x r) = true := h
    rw [Bool.and_eq_true, Bool.not_eq_true'] at h
    obtain ⟨h1, h2⟩ := rising_all r x h.2
    refine ⟨fun y hy => ?_, .cons h1 h2⟩
    rcases List.mem_cons.mp hy with rfl | hy
    · exact h.1
    · exact leS_trans h.1 (h1 y hy)
theorem sorted_pair {l : List Str} (h : sortedS l = true) : l.Pairwise leS := by
  cases l with
  | nil => exact .nil
  | cons x r => exact .cons (rising_all r x h).1 (rising_all r x h).2
theorem pair_unique : ∀ (ys zs : List Str), ys.Pairwise leS → zs.Pairwise leS → ys.Nodup → zs.Nodup → (∀ y, y ∈ ys ↔ y ∈ zs) → ys = zs
  | [], zs, _, _, _, _, m => by
    cases zs with
    | nil => rfl
    | cons b r => exact absurd ((m b).mpr (.head _)) nofun
  | a :: r, [], _, _, _, _, m => absurd ((m a).mp (.head _)) nofun
  | a :: r, b :: q, p1, p2, d1, d2, m => by
    obtain ⟨a1, a2⟩ := List.pairwise_cons.mp p1
    obtain ⟨b1, b2⟩ := List.pairwise_cons.mp p2
    obtain ⟨c1, c2⟩ := List.nodup_cons.mp d1
    obtain ⟨e1, e2⟩ := List.nodup_cons.mp d2
    have e : a = b := by
      rcases List.mem_cons.mp ((m a).mp (.head _)) with h | h
      · exact h
      · rcases List.mem_cons.mp ((m b).mpr (.head _)) with k | k
        · exact k.symm
        · exact leS_anti (a1 b k) (b1 a h)
    subst e
    rw [pair_unique r q a2 b2 c2 e2 fun y => ?_]
    constructor
    · intro h
      rcases List.mem_cons.mp ((m y).mp (.tail _ h)) with k | k
      · subst k; exact absurd h c1
      · exact k
    · intro h
      rcases List.mem_cons.mp ((m y).mpr (.tail _ h)) with k | k
      · subst k; exact absurd h e1
      · exact k
theorem AscOf.unique {xs ys zs : List Str} (h : AscOf xs ys) (k : AscOf xs zs) : ys = zs := pair_unique ys zs (sorted_pair h.1) (sorted_pair k.1) h.2.1 k.2.1 fun y => (h.2.2 y).trans (k.2.2 y).symm
theorem AscOf.perm {xs ys : List Str} (p : ys.Perm xs) (s : sortedS ys = true) (d : xs.Nodup) : AscOf xs ys := ⟨s, p.nodup_iff.mpr d, fun _ => p.mem_iff⟩
theorem AscOf.swap {xs zs ys : List Str} (h : AscOf xs ys) (e : ∀ y, y ∈ xs ↔ y ∈ zs) : AscOf zs ys := ⟨h.1, h.2.1, fun y => (h.2.2 y).trans (e y)⟩
theorem AscOf.len {xs ys : List Str} (h : AscOf xs ys) (d : xs.Nodup) : ys.length = xs.length := Nat.le_antisymm (len_le_of_sub h.2.1 fun x hx => (h.2.2 x).mp hx) (len_le_of_sub d fun x hx => (h.2.2 x).mpr hx)
theorem AscOf.le {xs ys : List Str} (h : AscOf xs ys) : ys.length ≤ xs.length := len_le_of_sub h.2.1 fun x hx => (h.2.2 x).mp hx
/-! ### what a value is as a row of unlike names -/
def RowD (K : PySem.W.Frag) (H : Hp) (v : V) (d : Option (List Str)) : Prop := (∃ p xs, v = .ref p ∧ RowA H p xs ∧ xs.length ≤ 1000 ∧ (∀ x ∈ xs, Kind K H x) ∧ d = rowN xs) ∨ (d = none ∧ ∃ t, TyX K H v t ∧ PySem.W.kitAny K t [.type "list", .type "tuple"] = some false)
theorem RowD.same {K : PySem.W.Frag} {H H' : Hp} {v : V} {d : Option (List Str)} (s : Same H H') (h : RowD K H v d) : RowD K H' v d := by
  rcases h with ⟨p, xs, e, a, l, k, ed⟩ | ⟨e, t, ty, kt⟩
  · exact .inl ⟨p, xs, e, a.same s, l, fun x hx => (k x hx).same s, ed⟩
  · exact .inr ⟨e, t, tyX_same s ty, kt⟩
theorem are_n {K : PySem.W.Frag} {H : Hp} {v : V} {d : Option (List Str)} {Q : VK} {E : XK} (h : RowD K H v d) (k : ∀ H', Same H H' → Q (.bl d.isSome) H') : spAreN K [v] H Q E := by
  rcases h with ⟨p, xs, rfl, a, l, kk, rfl⟩ | ⟨rfl, t, ty, kt⟩
  · exact ⟨_, rfl, .inl ⟨p, xs, rfl, a, l, kk, k⟩⟩
  · exact ⟨_, rfl, .inr ⟨t, ty, kt, k⟩⟩
/-- the row of the names ns -/
structure RowS (H : Hp) (v : V) (ns : List Str) : Prop where
  at_ : ∃ p, v = .ref p ∧ RowA H p (ns.map V.str)
  nm : ∀ n ∈ ns, IsNm n
  nd : ns.Nodup
  few : ns.length ≤ 1000
theorem RowD.row {K : PySem.W.Frag} {H : Hp} {v : V} {ns : List Str} (h : RowD K H v (some ns)) : RowS H v ns := by
  rcases h with ⟨p, xs, rfl, a, l, kk, e⟩ | ⟨e, _⟩
  · obtain ⟨rfl, h2, h3⟩ := rowN_some e.symm
    exact ⟨⟨p, rfl, a⟩, h2, h3, by rwa [List.length_map] at l⟩
  · cases e
def sideD : Option (List Str) → Bool
  | none => false
  | some ns => decide (2 ≤ ns.length)
theorem sideD_some (ns : List Str) : sideD (some ns) = decide ((2 : Int) ≤ (ns.length : Int)) := by
  show decide (2 ≤ ns.length) = _
  by_cases c : 2 ≤ ns.length
  · rw [decide_eq_true c, decide_eq_true (by omega)]
  · rw [decide_eq_false c, decide_eq_false (by omega)]
theorem sideD_true {d : Option (List Str)} (h : sideD d = true) : ∃ ns, d = some ns ∧ 2 ≤ ns.length := by
  cases d with
  | none => cases h
  | some ns => exact ⟨ns, rfl, of_decide_eq_true h⟩
def spSide (K : PySem.W.Frag) : Sp := fun vs H Q _ => ∃ (v : V) (d : Option (List Str)), vs = [v] ∧ RowD K H v d ∧ ∀ H', Same H H' → Q (.bl (sideD d)) H'
theorem RowS.same {H H' : Hp} {v : V} {ns : List Str} (s : Same H H') (h : RowS H v ns) : RowS H' v ns := ⟨let ⟨p, e, a⟩ := h.at_; ⟨p, e, a.same s⟩, h.nm, h.nd, h.few⟩
/-! ### cuts -/
def apartS (a b : List Str) : Prop := ∀ x ∈ a, x ∉ b
/-- what a cut of the sides a, b keeps -/
structure CutOf (a b hs ny fy : List Str) : Prop where
  hosts : AscOf (a ++ b) hs
  sides : ∃ ya yb, AscOf a ya ∧ AscOf b yb ∧ ((hs.head? = ya.head? ∧ ny = ya ∧ fy = yb) ∨ (hs.head? ≠ ya.head? ∧ ny = yb ∧ fy = ya))
def cutF (t1 t2 t3 : Addr) : List (Str × V) := [("hosts", .ref t1), ("near", .ref t2), ("far", .ref t3)]
def IsCut (K : PySem.W.Frag) (H : Hp) (p : Addr) (hs ny fy : List Str) : Prop := ∃ dx t1 t2 t3, H p = some (.ins (He.ga K "Cut") dx (cutF t1 t2 t3)) ∧ H t1 = some (.tup (hs.map V.str)) ∧ H t2 = some (.tup (ny.map V.str)) ∧ H t3 = some (.tup (fy.map V.str))
/-- the part of a refused cut that is told -/
def cutBad (part : Str) (du dv : Option (List Str)) : Prop := (part = "one" ∧ sideD du = false) ∨ (part = "other" ∧ sideD du = true ∧ (sideD dv = false ∨ ∃ a b, du = some a ∧ dv = some b ∧ ¬ apartS a b))
def spCut (K : PySem.W.Frag) : Sp := fun vs H Q E => ∃ (p dx : Addr) (u v : V) (du dv : Option (List Str)), vs = [.ref p, u, v] ∧ H p = some (.ins (He.ga K "Cut") dx []) ∧ RowD K H u du ∧ RowD K H v dv ∧
  (∀ part d H', cutBad part du dv → But p H H' → H d = none → H' d = some (.xd [("part", .str part)]) → E (.ref (He.ga K "BadCut")) (some d) H') ∧
  ∀ a b hs ny fy H', du = some a → dv = some b → 2 ≤ a.length → 2 ≤ b.length → apartS a b → CutOf a b hs ny fy → But p H H' → IsCut K H' p hs ny fy → Q .non H'
theorem RowS.but {H H' : Hp} {v : V} {ns : List Str} {p C dx : Addr} {fs : List (Str × V)} (s : But p H H') (hp : H p = some (.ins C dx fs)) (h : RowS H v ns) : RowS H' v ns := by
  obtain ⟨⟨q, e, a⟩, h2, h3, h4⟩ := h
  refine ⟨⟨q, e, ?_⟩, h2, h3, h4⟩
  rcases a with a | a
  · exact .inl (s _ _ (ne_of a hp nofun) a)
  · exact .inr (s _ _ (ne_of a hp nofun) a)
theorem apart_len {a b hs : List Str} (h : AscOf (a ++ b) hs) (da : a.Nodup) (db : b.Nodup) : apartS a b ↔ hs.length = a.length + b.length := by
  constructor
  · intro ap
    rw [h.len (List.nodup_append.mpr ⟨da, db, fun x hx y hy e => ap x hx (e ▸ hy)⟩), List.length_append]
  · intro e
    have d := (perm_full hs (a ++ b) h.2.1 (fun x hx => (h.2.2 x).mp hx) (by rw [List.length_append]; omega)).nodup_iff.mp h.2.1
    exact fun x hx hy => (List.nodup_append.mp d).2.2 x hx x hy rfl
theorem eqv_strs : ∀ a b : List Str, PyData.eqvAll (a.map PyData.str) (b.map PyData.str) = decide (a = b)
  | [], [] => by simp [PyData.eqvAll]
  | [], _ :: _ => by simp [PyData.eqvAll]
  | _ :: _, [] => by simp [PyData.eqvAll]
  | x :: r, y :: q => by
    simp only [List.map_cons, PyData.eqvAll, eqv_strs r q, PyData.eqv]
    by_cases h : x = y
    · by_cases k : r = q
      · simp [h, k]
      · simp [h, k]
    · simp [h]
theorem eqv_tup (a b : List Str) : PyData.eqv (.tuple (a.map PyData.str)) (.tuple (b.map PyData.str)) = decide (a = b) := by
  rw [← eqv_strs]
  simp [PyData.eqv]
theorem shaped_tup {xs : List Str} (h : ∀ x ∈ xs, PyData.strOk x = true) : SeqAt.shaped (.tuple (xs.map PyData.str)) = true := by
  unfold SeqAt.shaped
  simp [PyData.canLay0, lay_strs xs h, PyData.depth, deep_strs]
theorem tup_dp {K : PySem.W.Frag} {H : Hp} {t : Addr} {ns : List Str} (h : H t = some (.tup (ns.map V.str))) : Dp K H (.ref t) (.tuple (ns.map PyData.str)) := .tup (SqT.of h) (dp_strs ns)
/-- a cut whose sides are names -/
structure CutAt (K : PySem.W.Frag) (H : Hp) (p : Addr) (hs ny fy : List Str) : Prop where
  c : IsCut K H p hs ny fy
  h : ∀ n ∈ hs, IsNm n
  n : ∀ n ∈ ny, IsNm n
  f : ∀ n ∈ fy, IsNm n
theorem IsCut.same {K : PySem.W.Frag} {H H' : Hp} {p : Addr} {hs ny fy : List Str} (s : Same H H') (h : IsCut K H p hs ny fy) : IsCut K H' p hs ny fy := let ⟨dx, t1, t2, t3, a, b, c, d⟩ := h; ⟨dx, t1, t2, t3, s _ _ a, s _ _ b, s _ _ c, s _ _ d⟩
theorem CutAt.same {K : PySem.W.Frag} {H H' : Hp} {p : Addr} {hs ny fy : List Str} (s : Same H H') (h : CutAt K H p hs ny fy) : CutAt K H' p hs ny fy := ⟨h.c.same s, h.h, h.n, h.f⟩
def spEqC (K : PySem.W.Frag) : Sp := fun vs H Q _ => ∃ (p : Addr) (y : V) (hs ny fy : List Str), vs = [.ref p, y] ∧ CutAt K H p hs ny fy ∧
  ((∃ (q : Addr) (ks my gy : List Str), y = .ref q ∧ CutAt K H q ks my gy ∧ ∀ H', Same H H' → Q (.bl (decide (ny = my) && decide (fy = gy))) H') ∨ ∃ t, t ∈ kinds ∧ TyX K H y t ∧ Q (.bl false) H)
/-- texts are told in another order -/
def spMixed (K : PySem.W.Frag) : Sp := fun vs H Q _ => ∃ (p c l : Addr) (ms : List Int) (t : Nat) (z : Int) (xs : List Str), vs = [.ref p, .ref l] ∧ Pen H p c ms t z ∧ t < 800000 ∧ SqL K H l (xs.map V.str) ∧ xs.length ≤ 100 ∧
  ∀ (ys : List Str) (f : Addr) (H' : Hp) (t' : Nat) (z' : Int), ys.Perm xs → H f = none → H' f = some (.lst (ys.map V.str)) → But p H H' → Pen H' p c ms t' z' → t' ≤ t + xs.length → Q (.ref f) H'
theorem perm_erase {α : Type} : ∀ (l : List α) (j : Nat) (h : j < l.length), l.Perm (l[j] :: l.eraseIdx j)
  | a :: r, 0, _ => .refl _
  | a :: r, j + 1, h => by
    have ih := perm_erase r j (Nat.lt_of_succ_lt_succ h)
    exact (List.Perm.cons a ih).trans (.swap _ _ _)
theorem map_erase {α β : Type} (f : α → β) : ∀ (l : List α) (j : Nat), (l.map f).eraseIdx j = (l.eraseIdx j).map f
  | [], _ => rfl
  | _ :: _, 0 => rfl
  | a :: r, j + 1 => congrArg (f a :: ·) (map_erase f r j)
end Z
namespace Z
open PySem PySem.Spec PyProof.Rows L2
/-! ### the two sides that a law draws -/
theorem cut_take (ns : List Str) (n : Nat) (h : n ≤ ns.length) : cutV (ns.map V.str) none (some (n : Int)) = (ns.take n).map V.str := by
  have e : HT.sIx (ns.map V.str).length (ns.map V.str).length (some (n : Int)) = n := by
    unfold HT.sIx
    simp only [List.length_map]
    split <;> omega
  unfold cutV
  rw [e]
  simp [HT.sIx, List.map_take]
theorem cut_drop (ns : List Str) (n : Nat) (h : n ≤ ns.length) : cutV (ns.map V.str) (some (n : Int)) none = (ns.drop n).map V.str := by
  have e : HT.sIx (ns.map V.str).length 0 (some (n : Int)) = n := by
    unfold HT.sIx
    simp only [List.length_map]
    split <;> omega
  unfold cutV
  rw [e]
  have e2 : HT.sIx (ns.map V.str).length (ns.map V.str).length none - n = (ns.drop n).length := by
    simp [HT.sIx]
  rw [e2, ← List.map_drop]
  exact List.take_of_length_le (by simp)
def L12 : List Str := ["a", "b", "c", "d", "e", "f", "h", "ab", "zz", "m", "switch", "abcdefgh"]
structure Sides (xs ys : List Str) : Prop where
  sub : ∀ n ∈ xs ++ ys, n ∈ L12
  nd : (xs ++ ys).Nodup
  lx : 2 ≤ xs.length
  ly : 2 ≤ ys.length
  few : xs.length + ys.length ≤ 8
theorem L12_nm : ∀ n ∈ L12, IsNm n := by
  have h : (L12.all nmB) = true := by decide +kernel
  exact fun n hn => nmB_iff.mp (List.all_eq_true.mp h n hn)
theorem Sides.nm {xs ys : List Str} (h : Sides xs ys) : ∀ n ∈ xs ++ ys, IsNm n := fun n hn => L12_nm n (h.sub n hn)
def spSides (K : PySem.W.Frag) : Sp := fun vs H Q _ => ∃ (p c : Addr) (ms : List Int) (t : Nat) (z : Int), vs = [.ref p] ∧ Pen H p c ms t z ∧ t < 700000 ∧
  ∀ (xs ys : List Str) (f a b : Addr) (H' : Hp) (t' : Nat) (z' : Int), Sides xs ys → a ≠ b → a ≠ p → b ≠ p → H' f = some (.tup [.ref a, .ref b]) → H' a = some (.lst (xs.map V.str)) → H' b = some (.lst (ys.map V.str)) → But p H H' → Pen H' p c ms t' z' → t' ≤ t + 20 → Q (.ref f) H'
/-- names are told in their order -/
def spUp (K : PySem.W.Frag) : Sp := fun vs H Q _ => ∃ (p : Addr) (xs : List Str), vs = [.ref p] ∧ SqL K H p (xs.map V.str) ∧ xs.length ≤ 50 ∧ (∀ x ∈ xs, IsNm x) ∧ xs.Nodup ∧
  ∀ ys t H', AscOf xs ys → Same H H' → H t = none → H' t = some (.tup (ys.map V.str)) → Q (.ref t) H'
/-- the two sides of a cut, the near one first -/
def Turned (xs ys ny fy : List Str) : Prop := ∃ ya yb, AscOf xs ya ∧ AscOf ys yb ∧ ∃ y0 z0, ya.head? = some y0 ∧ yb.head? = some z0 ∧ ((ltCps y0.cps.toList z0.cps.toList = true ∧ ny = ya ∧ fy = yb) ∨ (ltCps y0.cps.toList z0.cps.toList = false ∧ ny = yb ∧ fy = ya))
def TwoT (H : Hp) (f : Addr) (ny fy : List Str) : Prop := ∃ t1 t2, H f = some (.tup [.ref t1, .ref t2]) ∧ H t1 = some (.tup (ny.map V.str)) ∧ H t2 = some (.tup (fy.map V.str))
theorem TwoT.same {H H' : Hp} {f : Addr} {ny fy : List Str} (s : Same H H') (h : TwoT H f ny fy) : TwoT H' f ny fy := let ⟨a, b, x, y, z⟩ := h; ⟨a, b, s _ _ x, s _ _ y, s _ _ z⟩
def spTurned (K : PySem.W.Frag) : Sp := fun vs H Q _ => ∃ (p q : Addr) (xs ys : List Str), vs = [.ref p, .ref q] ∧ SqL K H p (xs.map V.str) ∧ SqL K H q (ys.map V.str) ∧ xs.length ≤ 50 ∧ ys.length ≤ 50 ∧ xs ≠ [] ∧ ys ≠ [] ∧ (∀ x ∈ xs ++ ys, IsNm x) ∧ xs.Nodup ∧ ys.Nodup ∧
  ∀ ny fy f H', Turned xs ys ny fy → Same H H' → H f = none → TwoT H' f ny fy → Q (.ref f) H'
theorem AscOf.ne {xs ys : List Str} (h : AscOf xs ys) (n : xs ≠ []) : ∃ y r, ys = y :: r := by
  cases ys with
  | nil =>
    cases xs with
    | nil => exact absurd rfl n
    | cons a r => exact absurd ((h.2.2 a).mpr (.head _)) nofun
  | cons y r => exact ⟨y, r, rfl⟩
/-- the first of the sorted: nothing is less -/
theorem AscOf.min {xs ys : List Str} {y : Str} {r : List Str} (h : AscOf xs (y :: r)) (e : ys = y :: r) : y ∈ xs ∧ ∀ x ∈ xs, leS y x := by
  refine ⟨(h.2.2 y).mp (.head _), fun x hx => ?_⟩
  obtain ⟨a1, _⟩ := List.pairwise_cons.mp (sorted_pair h.1)
  rcases List.mem_cons.mp ((h.2.2 x).mpr hx) with k | k
  · rw [k]
    exact leS_iff.mpr (List.le_refl _)
  · exact a1 x k
theorem leS_of_lt {a b : Str} (h : ltCps a.cps.toList b.cps.toList = true) : leS a b := by
  rw [ltCps_eq, decide_eq_true_eq] at h
  exact leS_iff.mpr (List.not_lt.mp (List.lt_asymm h))
theorem cut_turned {a b hs ny fy my gy : List Str} (h : CutOf a b hs ny fy) (t : Turned a b my gy) (na : a ≠ []) (nb : b ≠ []) (ap : apartS a b) : ny = my ∧ fy = gy := by
  obtain ⟨ah, ya, yb, aa, ab, side⟩ := h
  obtain ⟨za, zb, ca, cb, y0, z0, e1, e2, tn⟩ := t
  obtain rfl := aa.unique ca
  obtain rfl := ab.unique cb
  obtain ⟨y, yr, rfl⟩ := aa.ne na
  obtain ⟨z, zr, rfl⟩ := ab.ne nb
  obtain ⟨g, gr, rfl⟩ := ah.ne (by simp [na])
  obtain rfl : y = y0 := by simpa using e1
  obtain rfl : z = z0 := by simpa using e2
  obtain ⟨my, ly⟩ := aa.min rfl
  obtain ⟨mz, lz⟩ := ab.min rfl
  obtain ⟨mg, lg⟩ := ah.min rfl
  have hyz : y ≠ z := fun q => ap y my (by rw [q]; exact mz)
  rcases tn with ⟨lt, rfl, rfl⟩ | ⟨lt, rfl, rfl⟩
  · have e : g = y := by
      refine leS_anti (lg y (List.mem_append_left _ my)) ?_
      rcases List.mem_append.mp mg with k | k
      · exact ly g k
      · exact leS_trans (leS_of_lt lt) (lz g k)
    rcases side with ⟨_, rfl, rfl⟩ | ⟨n, _, _⟩
    · exact ⟨rfl, rfl⟩
    · exact absurd (by rw [e]; rfl) n
  · have e : g = z := by
      refine leS_anti (lg z (List.mem_append_right _ mz)) ?_
      rcases List.mem_append.mp mg with k | k
      · exact leS_trans (show leS z y from lt) (ly g k)
      · exact lz g k
    rcases side with ⟨n, _, _⟩ | ⟨_, rfl, rfl⟩
    · have n : g = y := by simpa using n
      exact absurd (n.symm.trans e) hyz
    · exact ⟨rfl, rfl⟩
def spToldC (K : PySem.W.Frag) : Sp := fun vs H Q _ => ∃ (p : Addr) (hs ny fy : List Str), vs = [.ref p] ∧ IsCut K H p hs ny fy ∧
  ∀ f tn tf th H', Same H H' → H f = none → H' f = some (.tup [.ref tn, .ref tf, .ref th]) → H' tn = some (.tup (ny.map V.str)) → H' tf = some (.tup (fy.map V.str)) → H' th = some (.tup (hs.map V.str)) → Q (.ref f) H'
/-- two rows of names that are the sides of a cut -/
structure Cuts (xs ys : List Str) : Prop where
  nm : ∀ n ∈ xs ++ ys, IsNm n
  nd : (xs ++ ys).Nodup
  lx : 2 ≤ xs.length
  ly : 2 ≤ ys.length
  few : xs.length + ys.length ≤ 16
theorem Sides.cuts {xs ys : List Str} (h : Sides xs ys) : Cuts xs ys := ⟨h.nm, h.nd, h.lx, h.ly, by have := h.few; omega⟩
theorem Cuts.apart {xs ys : List Str} (h : Cuts xs ys) : apartS xs ys := fun x hx hy => (List.nodup_append.mp h.nd).2.2 x hx x hy rfl
theorem Cuts.of_perm {xs ys us ws : List Str} (h : Cuts xs ys) (p : (us ++ ws).Perm (xs ++ ys)) (a : 2 ≤ us.length) (b : 2 ≤ ws.length) : Cuts us ws :=
  ⟨fun n hn => h.nm n (p.mem_iff.mp hn), p.nodup_iff.mpr h.nd, a, b, by have := p.length_eq; have := h.few; simp only [List.length_append] at *; omega⟩
theorem Cuts.sub {xs ys us ws : List Str} (h : Cuts xs ys) (p : (us ++ ws).Sublist (xs ++ ys)) (a : 2 ≤ us.length) (b : 2 ≤ ws.length) : Cuts us ws :=
  ⟨fun n hn => h.nm n (p.subset hn), p.nodup h.nd, a, b, by have := p.length_le; have := h.few; simp only [List.length_append] at *; omega⟩
theorem near0 {xs ys : List Str} (h : Sides xs ys) (j : Nat) (hj : j < xs.length) (l : 2 < xs.length) : Cuts (xs.eraseIdx j) (ys ++ [xs[j]]) := by
  have pe := perm_erase xs j hj
  refine h.cuts.of_perm ?_ (by rw [List.length_eraseIdx, if_pos hj]; omega) (by have := h.ly; rw [List.length_append]; simp; omega)
  · refine .trans ?_ (List.Perm.append_right ys pe.symm)
    rw [← List.append_assoc]
    refine .trans List.perm_append_comm ?_
    exact .refl _
theorem near1 {xs ys : List Str} (h : Sides xs ys) (j : Nat) (hj : j < ys.length) (l : 2 < ys.length) : Cuts xs (ys.eraseIdx j) :=
  h.cuts.sub ((List.Sublist.refl _).append (List.eraseIdx_sublist ..)) h.lx (by rw [List.length_eraseIdx, if_pos hj]; omega)
theorem near2 {xs ys : List Str} (h : Sides xs ys) : Cuts (xs.drop 1 ++ [Str.ofString "other"]) ys := by
  have hl := h.lx
  have sub : (xs.drop 1 ++ ys).Sublist (xs ++ ys) := (List.drop_sublist 1 xs).append (.refl _)
  have c := h.cuts
  have no : ("other" : Str) ∉ xs.drop 1 ++ ys := fun q => absurd (h.sub _ (sub.subset q)) (by decide +kernel)
  have pe : (xs.drop 1 ++ [Str.ofString "other"] ++ ys).Perm (Str.ofString "other" :: (xs.drop 1 ++ ys)) := by
    rw [List.append_assoc]
    exact List.perm_middle
  refine ⟨fun n hn => ?_, pe.nodup_iff.mpr (List.nodup_cons.mpr ⟨no, sub.nodup h.nd⟩), by rw [List.length_append, List.length_drop]; simp; omega, h.ly, by have := h.few; rw [List.length_append, List.length_drop]; simp; omega⟩
  rcases List.mem_cons.mp (pe.mem_iff.mp hn) with rfl | k
  · exact nmB_iff.mp (by decide +kernel)
  · exact h.nm n (sub.subset k)
theorem near3 {xs ys : List Str} (h : Sides xs ys) : Cuts (ys.take 1 ++ xs.drop 1) (xs.take 1 ++ ys.drop 1) := by
  have c := h.cuts
  obtain ⟨x, xr, rfl⟩ : ∃ x xr, xs = x :: xr := by
    cases xs with
    | nil => exact absurd h.lx (by simp)
    | cons a r => exact ⟨_, _, rfl⟩
  obtain ⟨y, yr, rfl⟩ : ∃ y yr, ys = y :: yr := by
    cases ys with
    | nil => exact absurd h.ly (by simp)
    | cons a r => exact ⟨_, _, rfl⟩
  refine c.of_perm ?_ h.lx h.ly
  show (y :: (xr ++ (x :: yr))).Perm (x :: (xr ++ (y :: yr)))
  refine .trans (List.Perm.cons y List.perm_middle) (.trans (.swap ..) (List.Perm.cons x List.perm_middle.symm))
/-! ### what a class is under -/
def isB (a b : Str) (K : PySem.W.Frag) : Bool := decide (PySem.W.kitOne K (.ref (He.ga K a)) (.ref (He.ga K b)) = some true)
def isT (a : Str) (t : String) (K : PySem.W.Frag) : Bool := decide (PySem.W.kitOne K (.ref (He.ga K a)) (.type t) = some true)
/-! ### return [ask()] within a try -/
def tAskR (n : Nat) (f c' : Addr) (q : Str) (tl : XK → Hp → VK → Prop) (W : WX) : TS := fun D σ H => ∃ (E : XK) (Q0 : VK), (∀ cls d σ' H', E cls d H' → σ'.length = n → W cls d σ' H') ∧ σ[0]? = some (some (.ref f)) ∧ H c' = some (LamX.CodeO c' q) ∧ tl E H Q0 ∧ ∀ v H1, Q0 v H1 → ∀ l, H1 l = none → D.rt (.ref l) (upd H1 l (.lst [v]))
theorem ps_askR {Z : Cx} {W : WX} {n : Nat} {f c' : Addr} {q a : Str} {tl : XK → Hp → VK → Prop} {p1 p2 p3 p4 : Pos} (hn : Z.N.length = n)
    (act : ∀ E : XK, (∀ cls d σ' H', E cls d H' → σ'.length = Z.N.length → W cls d σ' H') → PE Z (.Call (.Name a p1) [] [] p2) (fun σZ HZ Q => σZ[0]? = some (some (.ref f)) ∧ HZ c' = some (LamX.CodeO c' q) ∧ tl E HZ Q)) :
    PSs Z [.Return (some (.List [.Call (.Name a p1) [] [] p2] p3)) p4] (tAskR n f c' q tl W) := by
  constructor
  rintro pins s σ H D I ⟨E, Q0, hW, h1, h2, h3, h4⟩
  exact (pss_one (ps_ret (pe_lst (pa_cons (pe_up (act E (fun cls d σ' H' e l => hW cls d σ' H' e (l.trans hn)))) pa_nil)))).run pins s σ H D I ⟨Q0, ⟨h1, h2, h3⟩, fun v H1 q => ⟨by show 1 ≤ sizeLine; decide, fun l hl => h4 v H1 q l hl⟩⟩
/-- what a law's _law_heard makes of a call that always raises x, whose only value is its field f: the word w with it -/
def TTword (K : PySem.W.Frag) (x f w : Str) : (XK → Hp → VK → Prop) → Hp → VK → Prop := fun tl H Q => ∀ H1, Same H H1 → ∃ (E : XK) (Q0 : VK), tl E H1 Q0 ∧
  (∀ cls d H', E cls d H' → cls = .ref (He.ga K x) ∧ ∃ (dd : Addr) (v : V), d = some dd ∧ H' dd = some (.xd [(f, v)]) ∧ ∀ t H'', Same H' H'' → H' t = none → H'' t = some (.tup [.str w, v]) → Q (.ref t) H'') ∧ ∀ v H', Q0 v H' → ∀ l, H' l = none → Q (.ref l) (upd H' l (.lst [v]))
/-- arguments by keywords, told the other way about -/
theorem FunD.kbindsR {K : PySem.W.Frag} {x qual : Str} {params : Arguments} {body : List Stmt} {scope : Scope} {kws : List (Str × V)} {f : Addr} {fd : FuncData} {ps : List Str} (F : FunD K x qual params body scope [] kws f fd) (n : Nat) (ks : List Str)
    (h : ∀ (kV doc pm : Value) (an : Option Addr) (cdv ct : Value) (us ws : List Value), us.length = n → ws.length = ks.length → bindArgs (PySem.W.fnOf x qual params body scope .none kV doc pm an cdv ct) ⟨us, ks.zip ws⟩ = pure (ps.zip (us ++ ws.reverse))) : KBn K fd ps n ks (fun us ws => us ++ ws.reverse) (fun us ws => us ++ ws.reverse) := by
  obtain ⟨oc, od, dV, kV, doc, pm, an, cdv, ct, osl, rfl, lk, hcd, hD, hK⟩ := F.ex
  rcases hD with ⟨_, rfl⟩ | ⟨e, _⟩
  · exact ⟨fun s us ws X l1 l2 => .of_eq (h kV doc pm an cdv ct us ws l1 l2), fun r1 r2 => r1.append r2.reverse⟩
  · exact absurd rfl e
theorem RowA.ext {H H' : Hp} {p : Addr} {xs : List V} (s : LamX.ExtN H H') (h : RowA H p xs) : RowA H' p xs := h.imp (fun h => s _ _ h nofun) (fun h => s _ _ h nofun)
theorem RowD.ext {K : PySem.W.Frag} {H H' : Hp} {v : V} {d : Option (List Str)} (s : LamX.ExtN H H') (h : RowD K H v d) : RowD K H' v d := by
  rcases h with ⟨p, xs, e, a, l, k, ed⟩ | ⟨e, t, ty, kt⟩
  · exact .inl ⟨p, xs, e, a.ext s, l, fun x hx => (k x hx).ext s, ed⟩
  · exact .inr ⟨e, t, tyX_ext s ty, kt⟩
theorem cutBad_uniq {p q : Str} {du dv : Option (List Str)} (h : cutBad p du dv) (k : cutBad q du dv) : p = q := by
  rcases h with ⟨rfl, h⟩ | ⟨rfl, h, _⟩ <;> rcases k with ⟨rfl, k⟩ | ⟨rfl, k, _⟩
  · rfl
  · rw [h] at k; cases k
  · rw [h] at k; cases k
  · rfl
/-- _law_heard(lambda: Cut(..)), refused -/
theorem heard_badC {K : PySem.W.Frag} {T : List (Addr × Str)} {t : XK → TE} {σ : L2.St} {H : Hp} {Q : VK} {u v : V} {du dv : Option (List Str)} (part : Str) (hT : LamX.Tabs T H)
    (rd : ∀ E H2, (∀ x dx, H2 x = none → H2 dx = none → dx ≠ x → spCut K [.ref x, u, v] (upd (upd H2 dx (.own x)) x (.ins (He.ga K "Cut") dx [])) (fun v _ => v = .non ∧ False) E) → t E σ H2 (fun _ _ => False))
    (ku : RowD K H u du) (kv : RowD K H v dv) (bad : cutBad part du dv) (k : ∀ f H', LamX.ExtN H H' → LamX.Tabs T H' → H' f = some (.tup [.str "cut", .str part]) → Q (.ref f) H') :
    LamX.tLam T (TTword K "BadCut" "part" "cut") t σ H Q := by
  refine ⟨hT, fun H1 eN T1 H2 s2 => ⟨fun cls d H' => cls = .ref (He.ga K "BadCut") ∧ ∃ dd, d = some dd ∧ H' dd = some (.xd [("part", .str part)]) ∧ Same H2 H', fun _ _ => False, ?_, ?_, fun _ _ z => z.elim⟩⟩
  · have e2 : LamX.ExtN H H2 := eN.trans (extS s2)
    refine rd _ H2 fun x dx hx hdx ne => ?_
    have s3 : Same H2 (upd (upd H2 dx (.own x)) x (.ins (He.ga K "Cut") dx [])) := (same_new hdx).trans (same_new (by rw [upd_ne ne.symm]; exact hx))
    refine ⟨x, dx, u, v, du, dv, rfl, upd_same, (ku.ext e2).same s3, (kv.ext e2).same s3, fun pt d H' b bt n e => ?_, fun a b hs ny fy H' ea eb la lb ap _ _ _ => ?_⟩
    · obtain rfl := cutBad_uniq b bad
      exact ⟨rfl, d, rfl, e, fun c o h => bt c o (ne_of_none h hx) (s3 c o h)⟩
    · subst ea
      subst eb
      rcases bad with ⟨_, z⟩ | ⟨_, _, z | ⟨a', b', e1, e2, z⟩⟩
      · exact absurd (z.symm.trans (decide_eq_true la)) nofun
      · exact absurd (z.symm.trans (decide_eq_true lb)) nofun
      · cases e1
        cases e2
        exact (z ap).elim
  · rintro cls d H' ⟨rfl, dd, rfl, hdd, sm⟩
    exact ⟨rfl, dd, _, rfl, hdd, fun f H'' s _ ef => k f H'' (((eN.trans (extS s2)).trans (extS sm)).trans (extS s)) (((T1.ext s2).ext sm).ext s) ef⟩
theorem RowS.data {K : PySem.W.Frag} {H : Hp} {v : V} {ns : List Str} (h : RowS H v ns) : RowD K H v (some ns) := by
  obtain ⟨p, rfl, a⟩ := h.at_
  exact .inl ⟨p, _, rfl, a, by rw [List.length_map]; exact h.few, fun x hx => by
    obtain ⟨n, hn, rfl⟩ := List.mem_map.mp hx
    exact .str (h.nm n hn), (rowN_of h.nm h.nd).symm⟩
/-- a cut of two sides is made -/
theorem cut_new {K : PySem.W.Frag} {H : Hp} {u v : V} {a b : List Str} {Q : Addr → Hp → Prop} {E : XK} (ru : RowS H u a) (rv : RowS H v b) (la : 2 ≤ a.length) (lb : 2 ≤ b.length) (ap : apartS a b) (k : ∀ p hs ny fy H', Same H H' → H p = none → CutOf a b hs ny fy → IsCut K H' p hs ny fy → Q p H') :
    ∀ x dx, H x = none → H dx = none → dx ≠ x → spCut K [.ref x, u, v] (upd (upd H dx (.own x)) x (.ins (He.ga K "Cut") dx [])) (fun v H2 => v = .non ∧ Q x H2) E := by
  intro x dx hx hdx ne
  have s3 : Same H (upd (upd H dx (.own x)) x (.ins (He.ga K "Cut") dx [])) := (same_new hdx).trans (same_new (by rw [upd_ne ne.symm]; exact hx))
  refine ⟨x, dx, u, v, some a, some b, rfl, upd_same, ru.data.same s3, rv.data.same s3, fun pt d H' bad _ _ _ => ?_, fun a' b' hs ny fy H' ea eb _ _ _ co bt ic => ?_⟩
  · rcases bad with ⟨_, z⟩ | ⟨_, _, z | ⟨a', b', e1, e2, z⟩⟩
    · exact absurd (z.symm.trans (decide_eq_true la)) nofun
    · exact absurd (z.symm.trans (decide_eq_true lb)) nofun
    · cases e1
      cases e2
      exact (z ap).elim
  · cases ea
    cases eb
    exact ⟨rfl, k x hs ny fy H' (fun c o h => bt c o (ne_of_none h hx) (s3 c o h)) hx co ic⟩
/-- three rows of names, as data -/
def trioD (a b c : List Str) : PyData := .tuple [.tuple (a.map .str), .tuple (b.map .str), .tuple (c.map .str)]
theorem show_strs : ∀ xs : List Str, PyData.showableAll (xs.map PyData.str) = true
  | [] => by simp [PyData.showableAll]
  | _ :: r => by simp [PyData.showableAll, PyData.showable, show_strs r]
theorem dict_strs : ∀ xs : List Str, PyData.hasDictAll (xs.map PyData.str) = false
  | [] => by simp [PyData.hasDictAll]
  | _ :: r => by simp [PyData.hasDictAll, PyData.hasDict, dict_strs r]
theorem ints_strs : ∀ xs : List Str, PyData.intsShortAll 13 (xs.map PyData.str) = true
  | [] => by simp [PyData.intsShortAll]
  | _ :: r => by simp [PyData.intsShortAll, PyData.intsShort, ints_strs r]
theorem weight_strs : ∀ xs : List Str, (∀ x ∈ xs, x.length ≤ 8) → PyData.weightAll (xs.map PyData.str) ≤ 9 * xs.length
  | [], _ => by simp [PyData.weightAll]
  | x :: r, h => by
    have h1 := weight_strs r fun y hy => h y (List.mem_cons_of_mem _ hy)
    have h2 : x.cps.size ≤ 8 := h x (List.mem_cons_self ..)
    simp only [List.map_cons, PyData.weightAll, PyData.weight, List.length_cons]
    omega
theorem trio_ok {a b c : List Str} (ha : ∀ n ∈ a, IsNm n) (hb : ∀ n ∈ b, IsNm n) (hc : ∀ n ∈ c, IsNm n) (la : a.length ≤ 100) (lb : b.length ≤ 100) (lc : c.length ≤ 100) : (trioD a b c).showable = true ∧ (trioD a b c).hasDict = false ∧ (trioD a b c).depth ≤ 64 ∧ (trioD a b c).shown.length ≤ sizeLine := by
  have dp : (trioD a b c).depth ≤ 64 := by simp [trioD, PyData.depth, PyData.depthAll, deep_strs]
  refine ⟨by simp [trioD, PyData.showable, PyData.showableAll, show_strs], by simp [trioD, PyData.hasDict, PyData.hasDictAll, dict_strs], dp, shown_fit ?_ ?_⟩
  · unfold PyData.layable0
    rw [Bool.and_eq_true, Bool.and_eq_true]
    refine ⟨⟨?_, decide_eq_true dp⟩, decide_eq_true ?_⟩
    · simp [trioD, PyData.canLay0, PyData.canLayAll0, lay_strs a fun n h => (ha n h).ok, lay_strs b fun n h => (hb n h).ok, lay_strs c fun n h => (hc n h).ok]
    · have h1 := weight_strs a fun n h => (ha n h).hi
      have h2 := weight_strs b fun n h => (hb n h).hi
      have h3 := weight_strs c fun n h => (hc n h).hi
      simp only [trioD, PyData.weight, PyData.weightAll]
      omega
  · simp [trioD, PyData.intsShort, PyData.intsShortAll, ints_strs]
theorem trio_dp {K : PySem.W.Frag} {H : Hp} {t x y z : Addr} {a b c : List Str} (h : H t = some (.tup [.ref x, .ref y, .ref z])) (h1 : H x = some (.tup (a.map V.str))) (h2 : H y = some (.tup (b.map V.str))) (h3 : H z = some (.tup (c.map V.str))) : Dp K H (.ref t) (trioD a b c) :=
  .tup (SqT.of h) (.cons (tup_dp h1) (.cons (tup_dp h2) (.cons (tup_dp h3) .nil)))
theorem turned_ok {xs ys ny fy : List Str} (t : Turned xs ys ny fy) (nm : ∀ n ∈ xs ++ ys, IsNm n) : (∀ n ∈ ny, IsNm n) ∧ (∀ n ∈ fy, IsNm n) ∧ ny.length ≤ xs.length + ys.length ∧ fy.length ≤ xs.length + ys.length := by
  obtain ⟨ya, yb, aa, ab, _, _, _, _, h⟩ := t
  have na : ∀ n ∈ ya, IsNm n := fun n hn => nm n (List.mem_append_left _ ((aa.2.2 n).mp hn))
  have nb : ∀ n ∈ yb, IsNm n := fun n hn => nm n (List.mem_append_right _ ((ab.2.2 n).mp hn))
  have la := aa.le
  have lb := ab.le
  rcases h with ⟨_, rfl, rfl⟩ | ⟨_, rfl, rfl⟩
  · exact ⟨na, nb, by omega, by omega⟩
  · exact ⟨nb, na, by omega, by omega⟩
end Z
namespace Z
open PySem PySem.Spec PyProof.Rows L2
theorem eqv_lst (a b : List Str) : PyData.eqv (.list (a.map PyData.str)) (.list (b.map PyData.str)) = decide (a = b) := by
  rw [← eqv_strs]
  simp [PyData.eqv]
/-- a comprehension that leaves all out, told by steps -/
theorem lc_no {J : It} {n : Nat} {G : Hp → Prop} {Y : Nat → Hp → V → Hp → Prop} (w : Walk J n G Y) {g : TG} {tt : TT} {te : TE} {vs : List Nat} {σ : L2.St} {H1 : Hp} {D : Addr} {Qd : Hp → Prop} (xs : List V)
    (hn : n = xs.length) (hY : ∀ i H x H', i < n → Y i H x H' → H' = H ∧ xs[i]? = some x) (hD : H1 D = none) (hG : ∀ H', Same H1 H' → G H')
    (hs : ∀ x ∈ xs, ∀ H', Same H1 H' → ∀ (Kt : V → Hp → Prop) (Kf : Hp → Prop), (∀ H'', Same H' H'' → Kf H'') →
      g x (wipe σ vs) H' fun σ2 H2 => wipe σ2 vs = wipe σ vs ∧ tt σ2 H2 fun b H3 => if b = true then te σ2 H3 Kt else Kf H3)
    (hd : ∀ H', Same H1 H' → H' D = some (.lst []) → Qd H') :
    ∃ W : Nat → Nat → Hp → Prop, (∃ m, W 0 m (upd H1 D (.lst []))) ∧ ∀ i m H, W i m H →
      (J.stop i H ∧ Qd H) ∨ (J.go i H ∧ ∃ Nx : Hp → Prop, (∀ H', Nx H' → ∃ m', m' < m ∧ W (i + 1) m' H') ∧ ∀ x H', J.yld i H x H' → g x (wipe σ vs) H' fun σ2 H2 => wipe σ2 vs = wipe σ vs ∧ tt σ2 H2 fun b H3 =>
        if b = true then te σ2 H3 fun y H4 => ∃ acc, H4 D = some (.lst acc) ∧ acc.length < sizeLine ∧ Nx (upd H4 D (.lst (acc ++ [y]))) else Nx H3) :=
  lc_none w xs hn hY hD hG hs fun H' s => hd H' ((same_new hD).trans s) (s _ _ upd_same)
theorem turned_n {K : PySem.W.Frag} {H : Hp} {p q : Addr} {xs ys : List Str} {Q : VK} {E : XK} (hp : SqL K H p (xs.map V.str)) (hq : SqL K H q (ys.map V.str)) (cu : Cuts xs ys)
    (k : ∀ ny fy f H', Turned xs ys ny fy → Same H H' → H f = none → TwoT H' f ny fy → (∀ n ∈ ny, IsNm n) → (∀ n ∈ fy, IsNm n) → Q (.ref f) H') : spTurned K [.ref p, .ref q] H Q E := by
  have l := cu.few
  have lx := cu.lx
  have ly := cu.ly
  obtain ⟨ndx, ndy, _⟩ := List.nodup_append.mp cu.nd
  exact ⟨p, q, xs, ys, rfl, hp, hq, by omega, by omega, by rintro rfl; simp at lx, by rintro rfl; simp at ly, cu.nm, ndx, ndy, fun ny fy f H' t s n w => k ny fy f H' t s n w (turned_ok t cu.nm).1 (turned_ok t cu.nm).2.1⟩
/-- a cut whose rows are known ahead -/
theorem cut_newT {K : PySem.W.Frag} {H : Hp} {u v : V} {a b ny fy : List Str} {Q : Addr → Hp → Prop} {E : XK} (hu : ∃ q, u = .ref q ∧ RowA H q (a.map V.str)) (hv : ∃ q, v = .ref q ∧ RowA H q (b.map V.str)) (cu : Cuts a b) (tn : Turned a b ny fy)
    (k : ∀ p hs H', Same H H' → H p = none → AscOf (a ++ b) hs → CutAt K H' p hs ny fy → Q p H') :
    ∀ x dx, H x = none → H dx = none → dx ≠ x → spCut K [.ref x, u, v] (upd (upd H dx (.own x)) x (.ins (He.ga K "Cut") dx [])) (fun v H2 => v = .non ∧ Q x H2) E := by
  have l := cu.few
  have lx := cu.lx
  have ly := cu.ly
  obtain ⟨nda, ndb, _⟩ := List.nodup_append.mp cu.nd
  refine cut_new ⟨hu, fun n hn => cu.nm n (List.mem_append_left _ hn), nda, by omega⟩ ⟨hv, fun n hn => cu.nm n (List.mem_append_right _ hn), ndb, by omega⟩ lx ly cu.apart fun p hs ny' fy' H' s n co ic => ?_
  obtain ⟨rfl, rfl⟩ := cut_turned co tn (by rintro rfl; simp at lx) (by rintro rfl; simp at ly) cu.apart
  obtain ⟨nmN, nmF, _, _⟩ := turned_ok tn cu.nm
  exact k p hs H' s n co.hosts ⟨ic, fun n hn => cu.nm n ((co.hosts.2.2 n).mp hn), nmN, nmF⟩
theorem shaped_two {a b : List Str} (ha : ∀ n ∈ a, IsNm n) (hb : ∀ n ∈ b, IsNm n) : SeqAt.shaped (.tuple [.tuple (a.map PyData.str), .tuple (b.map PyData.str)]) = true := by
  unfold SeqAt.shaped
  simp [PyData.canLay0, PyData.canLayAll0, lay_strs a fun x h => (ha x h).ok, lay_strs b fun x h => (hb x h).ok, PyData.depth, PyData.depthAll, deep_strs]
theorem eqv_two (a b c d : List Str) : PyData.eqv (.tuple [.tuple (a.map PyData.str), .tuple (b.map PyData.str)]) (.tuple [.tuple (c.map PyData.str), .tuple (d.map PyData.str)]) = (decide (a = c) && decide (b = d)) := by
  rw [← eqv_strs, ← eqv_strs]
  simp [PyData.eqv, PyData.eqvAll]
end Z
namespace Z
open PySem PySem.Spec PyProof.Rows L2
/-! ### a row, whether a list or a tuple -/
def rowO (t : Bool) (xs : List V) : HO := match t with
  | true => .tup xs
  | false => .lst xs
theorem rowO_seq {K : PySem.W.Frag} {H : Hp} {q : Addr} {t : Bool} {xs : List V} (h : H q = some (rowO t xs)) : SqL K H q xs ∨ SqT K H q xs := by
  cases t
  · exact .inl (SqL.of h)
  · exact .inr (SqT.of h)
theorem rowA_of {H : Hp} {q : Addr} {t : Bool} {xs : List V} (h : H q = some (rowO t xs)) : RowA H q xs := by
  cases t
  · exact .inl h
  · exact .inr h
theorem RowA.rowO {H : Hp} {q : Addr} {xs : List V} (h : RowA H q xs) : ∃ t, H q = some (rowO t xs) := by
  rcases h with h | h
  · exact ⟨false, h⟩
  · exact ⟨true, h⟩
theorem RowS.rowO {H : Hp} {q : Addr} {ns : List Str} (h : RowS H (.ref q) ns) : ∃ t, H q = some (Z.rowO t (ns.map V.str)) := by
  obtain ⟨p, e, w⟩ := h.at_
  cases e
  exact w.rowO
theorem rowO_ne {t : Bool} {xs : List V} {o : HO} (h : ∀ ys, o ≠ .lst ys) (k : ∀ ys, o ≠ .tup ys) : rowO t xs ≠ o := by
  cases t
  · exact fun q => h xs q.symm
  · exact fun q => k xs q.symm
theorem rowO_dp {K : PySem.W.Frag} {H : Hp} {q : Addr} {xs : List V} {t : Bool} (h : H q = some (Z.rowO t xs)) : RowA H q xs := rowA_of h
end Z
namespace Z
open PySem PySem.Spec PyProof.Rows L2
/-! ### partings -/
def coupleD : Option (List Str) → Bool
  | none => false
  | some ns => decide (ns.length = 2)
theorem coupleD_some (ns : List Str) : coupleD (some ns) = decide (V.int (ns.length : Int) = V.int 2) := by
  show decide (ns.length = 2) = _
  by_cases c : ns.length = 2
  · rw [decide_eq_true c, decide_eq_true (by rw [c]; rfl)]
  · rw [decide_eq_false c, decide_eq_false (fun q => c (by injection q with q; omega))]
theorem coupleD_true {d : Option (List Str)} (h : coupleD d = true) : ∃ ns, d = some ns ∧ ns.length = 2 := by
  cases d with
  | none => cases h
  | some ns => exact ⟨ns, rfl, of_decide_eq_true h⟩
def spCouple (K : PySem.W.Frag) : Sp := fun vs H Q _ => ∃ (v : V) (d : Option (List Str)), vs = [v] ∧ RowD K H v d ∧ ∀ H', Same H H' → Q (.bl (coupleD d)) H'
def partF (t1 t2 : Addr) : List (Str × V) := [("four", .ref t1), ("pairs", .ref t2)]
/-- a parting of the four hs, its pairs ny and fy -/
def IsPart (K : PySem.W.Frag) (H : Hp) (p : Addr) (hs ny fy : List Str) : Prop := ∃ dx t1 t2 t3 t4, H p = some (.ins (He.ga K "Parting") dx (partF t1 t2)) ∧ H t1 = some (.tup (hs.map V.str)) ∧ H t2 = some (.tup [.ref t3, .ref t4]) ∧ H t3 = some (.tup (ny.map V.str)) ∧ H t4 = some (.tup (fy.map V.str))
theorem IsPart.same {K : PySem.W.Frag} {H H' : Hp} {p : Addr} {hs ny fy : List Str} (s : Same H H') (h : IsPart K H p hs ny fy) : IsPart K H' p hs ny fy := let ⟨dx, t1, t2, t3, t4, a, b, c, d, e⟩ := h; ⟨dx, t1, t2, t3, t4, s _ _ a, s _ _ b, s _ _ c, s _ _ d, s _ _ e⟩
theorem IsPart.ext {K : PySem.W.Frag} {H H' : Hp} {p : Addr} {hs ny fy : List Str} (s : LamX.ExtN H H') (h : IsPart K H p hs ny fy) : IsPart K H' p hs ny fy := let ⟨dx, t1, t2, t3, t4, a, b, c, d, e⟩ := h; ⟨dx, t1, t2, t3, t4, s _ _ a nofun, s _ _ b nofun, s _ _ c nofun, s _ _ d nofun, s _ _ e nofun⟩
theorem IsCut.ext {K : PySem.W.Frag} {H H' : Hp} {p : Addr} {hs ny fy : List Str} (s : LamX.ExtN H H') (h : IsCut K H p hs ny fy) : IsCut K H' p hs ny fy := let ⟨dx, t1, t2, t3, a, b, c, d⟩ := h; ⟨dx, t1, t2, t3, s _ _ a nofun, s _ _ b nofun, s _ _ c nofun, s _ _ d nofun⟩
/-- the part of a refused parting that is told -/
def partBad (part : Str) (du dv : Option (List Str)) : Prop := (part = "one" ∧ coupleD du = false) ∨ (part = "other" ∧ coupleD du = true ∧ (coupleD dv = false ∨ ∃ a b, du = some a ∧ dv = some b ∧ ¬ apartS a b))
def spPart (K : PySem.W.Frag) : Sp := fun vs H Q E => ∃ (p dx : Addr) (u v : V) (du dv : Option (List Str)), vs = [.ref p, u, v] ∧ H p = some (.ins (He.ga K "Parting") dx []) ∧ RowD K H u du ∧ RowD K H v dv ∧
  (∀ part d H', partBad part du dv → But p H H' → H d = none → H' d = some (.xd [("part", .str part)]) → E (.ref (He.ga K "BadParting")) (some d) H') ∧
  ∀ a b hs ny fy H', du = some a → dv = some b → a.length = 2 → b.length = 2 → apartS a b → CutOf a b hs ny fy → But p H H' → IsPart K H' p hs ny fy → Q .non H'
/-- a parting of two pairs of unlike names is made, its pairs known ahead -/
structure Two (a b : List Str) : Prop where
  nm : ∀ n ∈ a ++ b, IsNm n
  nd : (a ++ b).Nodup
  la : a.length = 2
  lb : b.length = 2
theorem Two.cuts {a b : List Str} (h : Two a b) : Cuts a b := ⟨h.nm, h.nd, by rw [h.la]; decide, by rw [h.lb]; decide, by rw [h.la, h.lb]; decide⟩
/-- a parting whose pairs are names -/
structure PartAt (K : PySem.W.Frag) (H : Hp) (p : Addr) (hs ny fy : List Str) : Prop where
  c : IsPart K H p hs ny fy
  t : Two ny fy
  h : AscOf (ny ++ fy) hs
theorem PartAt.same {K : PySem.W.Frag} {H H' : Hp} {p : Addr} {hs ny fy : List Str} (s : Same H H') (h : PartAt K H p hs ny fy) : PartAt K H' p hs ny fy := ⟨h.c.same s, h.t, h.h⟩
theorem AscOf.perm_of {a y : List Str} (h : AscOf a y) (nd : a.Nodup) : y.Perm a := (List.perm_ext_iff_of_nodup h.2.1 nd).mpr h.2.2
theorem CutOf.rows {a b hs ny fy : List Str} (c : CutOf a b hs ny fy) (t : Two a b) : Two ny fy ∧ AscOf (ny ++ fy) hs ∧ ((ny.Perm a ∧ fy.Perm b) ∨ (ny.Perm b ∧ fy.Perm a)) := by
  obtain ⟨nda, ndb, _⟩ := List.nodup_append.mp t.nd
  obtain ⟨ah, ya, yb, aa, ab, side⟩ := c
  have pa := aa.perm_of nda
  have pb := ab.perm_of ndb
  have la := pa.length_eq.trans t.la
  have lb := pb.length_eq.trans t.lb
  have key : ∀ us ws : List Str, (us ++ ws).Perm (a ++ b) → us.length = 2 → ws.length = 2 → Two us ws ∧ AscOf (us ++ ws) hs := fun us ws p l1 l2 =>
    ⟨⟨fun n hn => t.nm n (p.mem_iff.mp hn), p.nodup_iff.mpr t.nd, l1, l2⟩, ah.swap fun y => p.symm.mem_iff⟩
  rcases side with ⟨_, rfl, rfl⟩ | ⟨_, rfl, rfl⟩
  · obtain ⟨k1, k2⟩ := key _ _ (pa.append pb) la lb
    exact ⟨k1, k2, .inl ⟨pa, pb⟩⟩
  · obtain ⟨k1, k2⟩ := key _ _ ((pb.append pa).trans List.perm_append_comm) lb la
    exact ⟨k1, k2, .inr ⟨pb, pa⟩⟩
theorem part_new {K : PySem.W.Frag} {H : Hp} {u v : V} {a b : List Str} {Q : Addr → Hp → Prop} {E : XK} (hu : ∃ q, u = .ref q ∧ RowA H q (a.map V.str)) (hv : ∃ q, v = .ref q ∧ RowA H q (b.map V.str)) (t : Two a b)
    (k : ∀ p hs ny fy H', Same H H' → H p = none → CutOf a b hs ny fy → PartAt K H' p hs ny fy → Q p H') :
    ∀ x dx, H x = none → H dx = none → dx ≠ x → spPart K [.ref x, u, v] (upd (upd H dx (.own x)) x (.ins (He.ga K "Parting") dx [])) (fun v H2 => v = .non ∧ Q x H2) E := by
  intro x dx hx hdx ne
  have cu := t.cuts
  have la := t.la
  have lb := t.lb
  obtain ⟨nda, ndb, _⟩ := List.nodup_append.mp t.nd
  have ru : RowS H u a := ⟨hu, fun n hn => t.nm n (List.mem_append_left _ hn), nda, by omega⟩
  have rv : RowS H v b := ⟨hv, fun n hn => t.nm n (List.mem_append_right _ hn), ndb, by omega⟩
  have s3 : Same H (upd (upd H dx (.own x)) x (.ins (He.ga K "Parting") dx [])) := (same_new hdx).trans (same_new (by rw [upd_ne ne.symm]; exact hx))
  refine ⟨x, dx, u, v, some a, some b, rfl, upd_same, ru.data.same s3, rv.data.same s3, fun pt d H' bad _ _ _ => ?_, fun a' b' hs ny fy H' ea eb _ _ _ co bt ic => ?_⟩
  · rcases bad with ⟨_, z⟩ | ⟨_, _, z | ⟨a', b', e1, e2, z⟩⟩
    · exact absurd (z.symm.trans (decide_eq_true la)) nofun
    · exact absurd (z.symm.trans (decide_eq_true lb)) nofun
    · cases e1
      cases e2
      exact (z cu.apart).elim
  · cases ea
    cases eb
    obtain ⟨r1, r2, _⟩ := co.rows t
    exact ⟨rfl, k x hs ny fy H' (fun c o h => bt c o (ne_of_none h hx) (s3 c o h)) hx co ⟨ic, r1, r2⟩⟩
end Z
namespace Z
open PySem PySem.Spec PyProof.Rows L2
/-! ### in, of rows of data -/
section
variable {X : Cx} {K : PySem.W.Frag}
theorem kpe_fld {e : Expr} {ta : TE} {f : Str} {pos : Pos} (he : PE X e ta) (hb : attributeBase e f X.env (eval e X.env) = eval e X.env) (hK : X.K = K := by rfl) : PE X (.Attribute e f pos) (tFld K ta f) := by subst hK; exact pe_fld he hb
def rInS (K : PySem.W.Frag) : R2 := fun x y H Q => ∃ (a : Str) (p : Addr) (xs : List Str), x = .str a ∧ y = .ref p ∧ (SqL K H p (xs.map V.str) ∨ SqT K H p (xs.map V.str)) ∧ Q (.bl (decide (a ∈ xs))) H
def rNotInS (K : PySem.W.Frag) : R2 := fun x y H Q => ∃ (a : Str) (p : Addr) (xs : List Str), x = .str a ∧ y = .ref p ∧ (SqL K H p (xs.map V.str) ∨ SqT K H p (xs.map V.str)) ∧ Q (.bl (!decide (a ∈ xs))) H
theorem op_inS (hK : X.K = K := by rfl) : OpR X (compareOp .In) (rInS K) := by
  subst hK
  rintro pins s σ H x y v u Q I rx ry ⟨a, p, xs, rfl, rfl, h, q⟩
  exact op_in_seq pins s σ H _ _ v u Q I rx ry ⟨p, _, rfl, h, rfl, flat_strs xs, by rw [← inV_str] at q; exact q⟩
theorem op_notInS (hK : X.K = K := by rfl) : OpR X (compareOp .NotIn) (rNotInS K) := by
  subst hK
  rintro pins s σ H x y v u Q I rx ry ⟨a, p, xs, rfl, rfl, h, q⟩
  exact op_notIn_seq pins s σ H _ _ v u Q I rx ry ⟨p, _, rfl, h, rfl, flat_strs xs, by rw [← inV_str] at q; exact q⟩
theorem room_shaped {d : PyData} {ds : List PyData} {A : Around} (sd : SeqAt.shaped d = true) (hu : A.units + 70 < cLine) : A.units + 1 + min (PyData.depthAll ds) d.depth < cLine := by
  have : d.depth ≤ 64 := by
    unfold SeqAt.shaped at sd
    simp only [Bool.and_eq_true, decide_eq_true_eq] at sd
    omega
  have := Nat.min_le_right (PyData.depthAll ds) d.depth
  omega
theorem kop_inD (hu : X.A.units + 70 < cLine) (hK : X.K = K := by rfl) : OpR X (compareOp .In) (rInD K) := by subst hK; exact op_inD (by omega)
theorem kop_notInD (hu : X.A.units + 70 < cLine) (hK : X.K = K := by rfl) : OpR X (compareOp .NotIn) (rNotInD K) := by subst hK; exact op_notInD (by omega)
def rInT (K : PySem.W.Frag) : R2 := fun x y H Q => ∃ d ds, Dp K H x d ∧ Dp K H y (.tuple ds) ∧ SeqAt.shaped d = true ∧ SeqAt.shaped (.list ds) = true ∧ Q (.bl (ds.any fun z => PyData.eqv z d)) H
theorem kop_inT (hu : X.A.units + 70 < cLine) (hK : X.K = K := by rfl) : OpR X (compareOp .In) (rInT K) := by
  subst hK
  intro pins s σ H x y v u Q I rx ry h
  obtain ⟨d, ds, hd, he, sd, se, q⟩ := h
  obtain ⟨as, r1⟩ := Dp.reads I d x v hd rx
  obtain ⟨bs, r2⟩ := Dp.reads I (.tuple ds) y u he ry
  exact SeqAt.in_tuple_reads r2 r1 (SeqAt.canLay_of_shaped (d := .list ds) se) (SeqAt.canLay_of_shaped sd) (room_shaped sd hu) ⟨.bl _, H, I, rfl, q⟩
end
theorem dp_bools {K : PySem.W.Frag} {H : Hp} : ∀ bs : List Bool, DpAll K H (bs.map V.bl) (bs.map PyData.bool)
  | [] => .nil
  | _ :: r => .cons (.bl _) (dp_bools r)
theorem eqv_bools : ∀ a b : List Bool, PyData.eqvAll (a.map PyData.bool) (b.map PyData.bool) = decide (a = b)
  | [], [] => by simp [PyData.eqvAll]
  | [], _ :: _ => by simp [PyData.eqvAll]
  | _ :: _, [] => by simp [PyData.eqvAll]
  | x :: r, y :: q => by
    simp only [List.map_cons, PyData.eqvAll, eqv_bools r q, PyData.eqv]
    cases x <;> cases y <;> simp
theorem lay_bools : ∀ bs : List Bool, PyData.canLayAll0 (bs.map PyData.bool) = true
  | [] => by simp [PyData.canLayAll0]
  | _ :: r => by simp [PyData.canLayAll0, PyData.canLay0, lay_bools r]
theorem deep_bools : ∀ bs : List Bool, PyData.depthAll (bs.map PyData.bool) = 0
  | [] => by simp [PyData.depthAll]
  | _ :: r => by simp [PyData.depthAll, PyData.depth, deep_bools r]
theorem shaped_bools (bs : List Bool) : SeqAt.shaped (.list (bs.map PyData.bool)) = true := by
  unfold SeqAt.shaped
  simp [PyData.canLay0, lay_bools, PyData.depth, deep_bools]
theorem eqv_bl (a b : List Bool) : PyData.eqv (.list (a.map PyData.bool)) (.list (b.map PyData.bool)) = decide (a = b) := by
  rw [← eqv_bools]
  simp [PyData.eqv]
/-! ### walks over rows of texts -/
theorem fil_if {α : Type} (p : α → Bool) : ∀ xs : List α, xs.filterMap (fun v => if p v = true then some v else none) = xs.filter p
  | [] => rfl
  | a :: r => by
    rw [List.filterMap_cons, List.filter_cons, fil_if p r]
    by_cases h : p a = true <;> simp [h]
theorem row_at {xs : List Str} {i : Nat} {v : V} (h : (xs.map V.str)[i]? = some v) : ∃ x, v = .str x ∧ xs[i]? = some x := by
  rw [List.getElem?_map] at h
  cases e : xs[i]? with
  | none => rw [e] at h; cases h
  | some x => rw [e] at h; cases h; exact ⟨x, rfl, rfl⟩
theorem for_tupS {K : PySem.W.Frag} {a : Addr} {xs : List Str} {g : TG} {tb : TS} {D : Ends} {σ : L2.St} {H : Hp} (Pv : Nat → L2.St → Hp → Prop) (h0 : Pv 0 σ H) (hl : ∀ i σ H, i ≤ xs.length → Pv i σ H → SqT K H a (xs.map V.str))
    (hs : ∀ i x σ H, xs[i]? = some x → Pv i σ H → g (.str x) σ H fun σ2 H2 => tb { D with nx := Pv (i + 1), ct := Pv (i + 1), bk := D.nx } σ2 H2) (hd : ∀ σ H, Pv xs.length σ H → D.nx σ H) :
    ∃ W : Nat → Nat → L2.St → Hp → Prop, (∃ m, W 0 m σ H) ∧ ∀ i m σ H, W i m σ H →
      ((Itt K a).stop i H ∧ D.nx σ H) ∨ ((Itt K a).go i H ∧ ∃ N : L2.St → Hp → Prop, (∀ σ' H', N σ' H' → ∃ m', m' < m ∧ W (i + 1) m' σ' H') ∧ ∀ x H', (Itt K a).yld i H x H' → g x σ H' fun σ2 H2 => tb { D with nx := N, ct := N, bk := D.nx } σ2 H2) :=
  for_tup (xs := xs.map V.str) Pv h0 (fun i σ H hi p => hl i σ H (by rwa [List.length_map] at hi) p) (fun i x σ H e p => by
    obtain ⟨y, rfl, hy⟩ := row_at e
    exact hs i y σ H hy p) (fun σ H p => hd σ H (by rwa [List.length_map] at p))
theorem for_listS {K : PySem.W.Frag} {a : Addr} {xs : List Str} {g : TG} {tb : TS} {D : Ends} {σ : L2.St} {H : Hp} (Pv : Nat → L2.St → Hp → Prop) (h0 : Pv 0 σ H) (hl : ∀ i σ H, i ≤ xs.length → Pv i σ H → SqL K H a (xs.map V.str))
    (hs : ∀ i x σ H, xs[i]? = some x → Pv i σ H → g (.str x) σ H fun σ2 H2 => tb { D with nx := Pv (i + 1), ct := Pv (i + 1), bk := D.nx } σ2 H2) (hd : ∀ σ H, Pv xs.length σ H → D.nx σ H) :
    ∃ W : Nat → Nat → L2.St → Hp → Prop, (∃ m, W 0 m σ H) ∧ ∀ i m σ H, W i m σ H →
      ((Itl K a).stop i H ∧ D.nx σ H) ∨ ((Itl K a).go i H ∧ ∃ N : L2.St → Hp → Prop, (∀ σ' H', N σ' H' → ∃ m', m' < m ∧ W (i + 1) m' σ' H') ∧ ∀ x H', (Itl K a).yld i H x H' → g x σ H' fun σ2 H2 => tb { D with nx := N, ct := N, bk := D.nx } σ2 H2) :=
  for_list (xs := xs.map V.str) Pv h0 (fun i σ H hi p => hl i σ H (by rwa [List.length_map] at hi) p) (fun i x σ H e p => by
    obtain ⟨y, rfl, hy⟩ := row_at e
    exact hs i y σ H hy p) (fun σ H p => hd σ H (by rwa [List.length_map] at p))
section
variable {J : It} {n : Nat} {G : Hp → Prop} {Y : Nat → Hp → V → Hp → Prop} {g : TG} {tt : TT} {te : TE} {vs : List Nat} {σ : L2.St} {H1 : Hp} {D : Addr} {Qd : Hp → Prop}
/-- a comprehension over values: each item's own f -/
theorem lc_mapV (w : Walk J n G Y) (xs : List V) (f : V → V) (hn : n = xs.length) (hY : ∀ i H x H', i < n → Y i H x H' → H' = H ∧ xs[i]? = some x) (hD : H1 D = none) (hG : ∀ H', Same H1 H' → G H') (hz : xs.length < sizeLine)
    (hs : ∀ x ∈ xs, ∀ H', Same H1 H' → ∀ (Kt : V → Hp → Prop) (Kf : Hp → Prop), (∀ H2, Same H' H2 → Kt (f x) H2) → g x (wipe σ vs) H' fun σ2 H2 => wipe σ2 vs = wipe σ vs ∧ tt σ2 H2 fun b H3 => if b = true then te σ2 H3 Kt else Kf H3)
    (hd : ∀ H', Same H1 H' → H' D = some (.lst (xs.map f)) → Qd H') :
    ∃ W : Nat → Nat → Hp → Prop, (∃ m, W 0 m (upd H1 D (.lst []))) ∧ ∀ i m H, W i m H → (J.stop i H ∧ Qd H) ∨ (J.go i H ∧ ∃ Nx : Hp → Prop, (∀ H', Nx H' → ∃ m', m' < m ∧ W (i + 1) m' H') ∧ ∀ x H', J.yld i H x H' → g x (wipe σ vs) H' fun σ2 H2 => wipe σ2 vs = wipe σ vs ∧ tt σ2 H2 fun b H3 => if b = true then te σ2 H3 fun y H4 => ∃ acc, H4 D = some (.lst acc) ∧ acc.length < sizeLine ∧ Nx (upd H4 D (.lst (acc ++ [y]))) else Nx H3) :=
  lc_same w xs (fun v => some (f v)) hn hY hD hG hz (fun x hx H' s Kt Kf k1 _ => hs x hx H' s Kt Kf fun H2 s2 => k1 _ H2 rfl s2) fun H' s e => hd H' s (by rw [show (fun v => some (f v)) = some ∘ f from rfl, List.filterMap_eq_map] at e; exact e)
/-- a comprehension that keeps what p says -/
theorem lc_filV (w : Walk J n G Y) (xs : List V) (p : V → Bool) (hn : n = xs.length) (hY : ∀ i H x H', i < n → Y i H x H' → H' = H ∧ xs[i]? = some x) (hD : H1 D = none) (hG : ∀ H', Same H1 H' → G H') (hz : xs.length < sizeLine)
    (hs : ∀ x ∈ xs, ∀ H', Same H1 H' → ∀ (Kt : V → Hp → Prop) (Kf : Hp → Prop), (p x = true → ∀ H2, Same H' H2 → Kt x H2) → (p x = false → ∀ H2, Same H' H2 → Kf H2) → g x (wipe σ vs) H' fun σ2 H2 => wipe σ2 vs = wipe σ vs ∧ tt σ2 H2 fun b H3 => if b = true then te σ2 H3 Kt else Kf H3)
    (hd : ∀ H', Same H1 H' → H' D = some (.lst (xs.filter p)) → Qd H') :
    ∃ W : Nat → Nat → Hp → Prop, (∃ m, W 0 m (upd H1 D (.lst []))) ∧ ∀ i m H, W i m H → (J.stop i H ∧ Qd H) ∨ (J.go i H ∧ ∃ Nx : Hp → Prop, (∀ H', Nx H' → ∃ m', m' < m ∧ W (i + 1) m' H') ∧ ∀ x H', J.yld i H x H' → g x (wipe σ vs) H' fun σ2 H2 => wipe σ2 vs = wipe σ vs ∧ tt σ2 H2 fun b H3 => if b = true then te σ2 H3 fun y H4 => ∃ acc, H4 D = some (.lst acc) ∧ acc.length < sizeLine ∧ Nx (upd H4 D (.lst (acc ++ [y]))) else Nx H3) :=
  lc_same w xs (fun v => if p v = true then some v else none) hn hY hD hG hz (fun x hx H' s Kt Kf k1 k2 => hs x hx H' s Kt Kf (fun h H2 s2 => k1 _ H2 (if_pos h) s2) (fun h H2 s2 => k2 H2 (if_neg (by rw [h]; exact Bool.false_ne_true)) s2)) fun H' s e => hd H' s (by
    rw [fil_if] at e
    exact e)
/-- of texts: each its own f -/
theorem lc_mapS (w : Walk J n G Y) (xs : List Str) (f : Str → V) (hn : n = xs.length) (hY : ∀ i H x H', i < n → Y i H x H' → H' = H ∧ (xs.map V.str)[i]? = some x) (hD : H1 D = none) (hG : ∀ H', Same H1 H' → G H') (hz : xs.length < sizeLine)
    (hs : ∀ x ∈ xs, ∀ H', Same H1 H' → ∀ (Kt : V → Hp → Prop) (Kf : Hp → Prop), (∀ H2, Same H' H2 → Kt (f x) H2) → g (.str x) (wipe σ vs) H' fun σ2 H2 => wipe σ2 vs = wipe σ vs ∧ tt σ2 H2 fun b H3 => if b = true then te σ2 H3 Kt else Kf H3)
    (hd : ∀ H', Same H1 H' → H' D = some (.lst (xs.map f)) → Qd H') :
    ∃ W : Nat → Nat → Hp → Prop, (∃ m, W 0 m (upd H1 D (.lst []))) ∧ ∀ i m H, W i m H → (J.stop i H ∧ Qd H) ∨ (J.go i H ∧ ∃ Nx : Hp → Prop, (∀ H', Nx H' → ∃ m', m' < m ∧ W (i + 1) m' H') ∧ ∀ x H', J.yld i H x H' → g x (wipe σ vs) H' fun σ2 H2 => wipe σ2 vs = wipe σ vs ∧ tt σ2 H2 fun b H3 => if b = true then te σ2 H3 fun y H4 => ∃ acc, H4 D = some (.lst acc) ∧ acc.length < sizeLine ∧ Nx (upd H4 D (.lst (acc ++ [y]))) else Nx H3) :=
  lc_mapV w (xs.map V.str) (fun v => match v with | .str x => f x | v => v) (by rw [List.length_map]; exact hn) hY hD hG (by rw [List.length_map]; exact hz) (fun v hv H' s Kt Kf k => by
    obtain ⟨x, hx, rfl⟩ := List.mem_map.mp hv
    exact hs x hx H' s Kt Kf k) fun H' s e => hd H' s (by rw [List.map_map] at e; exact e)
/-- of texts: those that p keeps -/
theorem lc_filS (w : Walk J n G Y) (xs : List Str) (p : Str → Bool) (hn : n = xs.length) (hY : ∀ i H x H', i < n → Y i H x H' → H' = H ∧ (xs.map V.str)[i]? = some x) (hD : H1 D = none) (hG : ∀ H', Same H1 H' → G H') (hz : xs.length < sizeLine)
    (hs : ∀ x ∈ xs, ∀ H', Same H1 H' → ∀ (Kt : V → Hp → Prop) (Kf : Hp → Prop), (p x = true → ∀ H2, Same H' H2 → Kt (.str x) H2) → (p x = false → ∀ H2, Same H' H2 → Kf H2) → g (.str x) (wipe σ vs) H' fun σ2 H2 => wipe σ2 vs = wipe σ vs ∧ tt σ2 H2 fun b H3 => if b = true then te σ2 H3 Kt else Kf H3)
    (hd : ∀ H', Same H1 H' → H' D = some (.lst ((xs.filter p).map V.str)) → Qd H') :
    ∃ W : Nat → Nat → Hp → Prop, (∃ m, W 0 m (upd H1 D (.lst []))) ∧ ∀ i m H, W i m H → (J.stop i H ∧ Qd H) ∨ (J.go i H ∧ ∃ Nx : Hp → Prop, (∀ H', Nx H' → ∃ m', m' < m ∧ W (i + 1) m' H') ∧ ∀ x H', J.yld i H x H' → g x (wipe σ vs) H' fun σ2 H2 => wipe σ2 vs = wipe σ vs ∧ tt σ2 H2 fun b H3 => if b = true then te σ2 H3 fun y H4 => ∃ acc, H4 D = some (.lst acc) ∧ acc.length < sizeLine ∧ Nx (upd H4 D (.lst (acc ++ [y]))) else Nx H3) :=
  lc_filV w (xs.map V.str) (fun v => match v with | .str x => p x | _ => false) (by rw [List.length_map]; exact hn) hY hD hG (by rw [List.length_map]; exact hz) (fun v hv H' s Kt Kf k1 k2 => by
    obtain ⟨x, hx, rfl⟩ := List.mem_map.mp hv
    exact hs x hx H' s Kt Kf k1 k2) fun H' s e => hd H' s (by rw [List.filter_map] at e; exact e)
end
end Z
namespace Z
open PySem PySem.Spec PyProof.Rows L2
/-! ### o.m(k = v) -/
def tMethK (C : Addr) (m : Str) (n : Nat) (sp : Sp) (gV : List V → List V → List V) (E : XK) (ta : TE) (tk : TA) : TE := fun σ H Q => ta σ H fun x H1 => ∃ a dx fs, x = .ref a ∧ H1 a = some (.ins C dx fs) ∧ fs.lookup m = none ∧ tk σ H1 fun zs H2 => zs.length = n ∧ sp (gV [.ref a] zs) H2 Q E
theorem pe_methK {X : Cx} {CX : CXT} {k : Nat} {C f : Addr} {fd : FuncData} {m : Str} {ps ks : List Str} {sp : Sp} {E : XK} {o : Expr} {kws : List Keyword} {ta : TE} {tk : TA} {pos apos : Pos} {pl : Sem Bool} {g : List Value → List Value → List Value} {gV : List V → List V → List V}
    (he : PE X o ta) (c : Cls X.K C) (hm : Meth X.K C m f) (F : FnOk X.prog X.w X.K X.mg X.base CX k f fd ps sp) (hr : Room k X.A) (hb : KBn X.K fd ps 1 ks g gV) (hx : Passes CX X E) (hkw : PK X kws tk)
    (hall : (backToKw pos (keywordEach kws X.env)).all (·.1.isSome) = true := by rfl) (hks : (backToKw pos (keywordEach kws X.env)).filterMap (·.1) = ks := by rfl)
    (hpl : ((backTo pos (starEach [] X.env)).any (·.1) || (backToKw pos (keywordEach kws X.env)).any (·.1.isNone)) = false := by rfl)
    (ht : eval (.Call (.Attribute o m apos) [] kws pos) X.env = (do
      let ov ← eval o X.env
      standAt apos.atName
      let (f, first) ← holding [ov] (getMethod ov m pl)
      callWith pos f first (backTo pos (starEach [] X.env)) (backToKw pos (keywordEach kws X.env))) := by rfl) :
    PE X (.Call (.Attribute o m apos) [] kws pos) (tMethK C m ks.length sp gV E ta tk) := by
  refine ⟨fun pins s σ H Q I h => ?_⟩
  refine PySem.W.methodCall_KW (pl := pl) (thn (he.run pins s σ H _ I h) fun u s1 ⟨x, H1, I1, rx, a, dx, fs, ex, ea, l, q⟩ => ?_) ht
  subst ex
  obtain rfl : u = Value.ref a := rx
  refine getmeth_ok I1 ea c hm l ?_
  refine PySem.W.callWith_KW0 (first := [.ref a]) (h₀ := X.base) I.ok.mod.kin hm.kp hall (thn (hkw.run pos pins s1 σ H1 _ I1 q) fun ws s2 ⟨zs, H2, I2, rz, l2, hsp⟩ => ⟨I2.kIn, ?_⟩) hpl
  rw [hks]
  exact run_fnN (vs := [V.ref a]) F hr hb hx I2 (.cons rfl .nil) rz rfl l2 hsp
/-! ### xs[::-1] -/
theorem kpe_revL {X : Cx} {K : PySem.W.Frag} {e : Expr} {te : TE} {k : Nat} {p1 p2 p3 pos : Pos} (he : PE X e te) (hK : X.K = K := by rfl) : PE X (.Subscript e (.Slice none none (some (.UnaryOp .USub (.Constant (.int 1) k p1) p2)) p3) pos) (tRevL K te) := by subst hK; exact pe_revL he
end Z
namespace Z
open PySem PySem.Spec PyProof.Rows L2
theorem eqv_pair (a b c d : PyData) : PyData.eqv (.list [a, b]) (.list [c, d]) = (a.eqv c && b.eqv d) := by simp [PyData.eqv, PyData.eqvAll]
theorem eqv_pairT (a b c d : PyData) : PyData.eqv (.tuple [a, b]) (.tuple [c, d]) = (a.eqv c && b.eqv d) := by simp [PyData.eqv, PyData.eqvAll]
theorem shaped_twoB (a b : List Bool) : SeqAt.shaped (.list [.list (a.map PyData.bool), .list (b.map PyData.bool)]) = true := by
  unfold SeqAt.shaped
  simp [PyData.canLay0, PyData.canLayAll0, lay_bools, PyData.depth, PyData.depthAll, deep_bools]
end Z
namespace Z
open PySem PySem.Spec PyProof.Rows L2
/-! ### which cuts make which partings -/
def markB (xs us ws : List Str) : Bool := let mu := us.map (fun x => decide (x ∈ xs)); let mw := ws.map (fun x => decide (x ∈ xs)); (decide ([true, true] = mu) && decide ([false, false] = mw)) || (decide ([false, false] = mu) && decide ([true, true] = mw))
def makesB (fy py qy : List Str) : Bool := let bs := (py ++ qy).map fun x => decide (x ∈ fy); decide ([false, false, true, true] = bs) || decide ([true, true, false, false] = bs)
theorem all_of {α : Type} {f g : α → Bool} : ∀ {l : List α}, (∀ x ∈ l, f x = g x) → l.all f = l.all g
  | [], _ => rfl
  | a :: r, h => by rw [List.all_cons, List.all_cons, h a (.head _), all_of fun x hx => h x (.tail _ hx)]
theorem two_map {p : Str → Bool} {l : List Str} (h : l.length = 2) (b : Bool) : decide ([b, b] = l.map p) = l.all (fun x => p x == b) := by
  match l, h with
  | [a, c], _ =>
    simp only [List.map_cons, List.map_nil, List.all_cons, List.all_nil]
    cases p a <;> cases p c <;> cases b <;> rfl
theorem four_map {p : Str → Bool} {k l : List Str} (hk : k.length = 2) (h : l.length = 2) (b c : Bool) : decide ([b, b, c, c] = (k ++ l).map p) = (k.all (fun x => p x == b) && l.all (fun x => p x == c)) := by
  rw [← two_map hk, ← two_map h, List.map_append]
  match k, hk, l, h with
  | [x, y], _, [z, w], _ =>
    simp only [List.map_cons, List.map_nil, List.cons_append, List.nil_append]
    cases p x <;> cases p y <;> cases p z <;> cases p w <;> cases b <;> cases c <;> rfl
theorem makes_mark {xs ys ny fy us ws py qy : List Str} (tn : Turned xs ys ny fy) (cu : Cuts xs ys) (sub : ∀ x ∈ us ++ ws, x ∈ xs ++ ys) (t : Two us ws) (rows : (py.Perm us ∧ qy.Perm ws) ∨ (py.Perm ws ∧ qy.Perm us)) : makesB fy py qy = markB xs us ws := by
  have lu := t.la
  have lw := t.lb
  have ap := cu.apart
  have e1 : makesB fy py qy = ((us.all (fun x => decide (x ∈ fy) == false) && ws.all (fun x => decide (x ∈ fy) == true)) || (us.all (fun x => decide (x ∈ fy) == true) && ws.all (fun x => decide (x ∈ fy) == false))) := by
    show (decide ([false, false, true, true] = (py ++ qy).map fun x => decide (x ∈ fy)) || decide ([true, true, false, false] = (py ++ qy).map fun x => decide (x ∈ fy))) = _
    rcases rows with ⟨a, b⟩ | ⟨a, b⟩
    · rw [four_map (a.length_eq.trans lu) (b.length_eq.trans lw), four_map (a.length_eq.trans lu) (b.length_eq.trans lw), a.all_eq, b.all_eq, a.all_eq, b.all_eq]
    · rw [four_map (a.length_eq.trans lw) (b.length_eq.trans lu), four_map (a.length_eq.trans lw) (b.length_eq.trans lu), a.all_eq, b.all_eq, a.all_eq, b.all_eq, Bool.or_comm, Bool.and_comm, Bool.and_comm (ws.all _)]
  have e2 : markB xs us ws = ((us.all (fun x => decide (x ∈ xs) == true) && ws.all (fun x => decide (x ∈ xs) == false)) || (us.all (fun x => decide (x ∈ xs) == false) && ws.all (fun x => decide (x ∈ xs) == true))) := by
    show ((decide ([true, true] = us.map fun x => decide (x ∈ xs)) && decide ([false, false] = ws.map fun x => decide (x ∈ xs))) || (decide ([false, false] = us.map fun x => decide (x ∈ xs)) && decide ([true, true] = ws.map fun x => decide (x ∈ xs)))) = _
    rw [two_map lu, two_map lw, two_map lu, two_map lw]
  rw [e1, e2]
  obtain ⟨ya, yb, aa, ab, y0, z0, _, _, h⟩ := tn
  have su : ∀ x ∈ us, x ∈ xs ++ ys := fun x hx => sub x (List.mem_append_left _ hx)
  have sw : ∀ x ∈ ws, x ∈ xs ++ ys := fun x hx => sub x (List.mem_append_right _ hx)
  rcases h with ⟨_, rfl, rfl⟩ | ⟨_, rfl, rfl⟩
  · have k : ∀ x, x ∈ xs ++ ys → decide (x ∈ fy) = !decide (x ∈ xs) := fun x hx => by
      by_cases m : x ∈ xs
      · rw [decide_eq_true m, decide_eq_false (fun q => ap x m ((ab.2.2 x).mp q))]; rfl
      · have : x ∈ ys := (List.mem_append.mp hx).resolve_left m
        rw [decide_eq_false m, decide_eq_true ((ab.2.2 x).mpr this)]; rfl
    have c : ∀ (l : List Str) (b : Bool), (∀ x ∈ l, x ∈ xs ++ ys) → l.all (fun x => decide (x ∈ fy) == b) = l.all (fun x => decide (x ∈ xs) == !b) := fun l b hl => all_of fun x hx => by rw [k x (hl x hx)]; cases decide (x ∈ xs) <;> cases b <;> rfl
    rw [c us _ su, c us _ su, c ws _ sw, c ws _ sw]
    rfl
  · have k : ∀ x, decide (x ∈ fy) = decide (x ∈ xs) := fun x => decide_eq_decide.mpr (aa.2.2 x)
    have c : ∀ (l : List Str) (b : Bool), l.all (fun x => decide (x ∈ fy) == b) = l.all (fun x => decide (x ∈ xs) == b) := fun l b => all_of fun x hx => by rw [k x]
    rw [c us, c us, c ws, c ws, Bool.or_comm]
end Z
namespace Z
open PySem PySem.Spec PyProof.Rows L2
/-- _law_heard(lambda: ..) of a call that always raises cls(f = v) -/
theorem heard_word {K : PySem.W.Frag} {T : List (Addr × Str)} {t : XK → TE} {σ : L2.St} {H : Hp} {Q : VK} (cls f w : Str) (v : V) (hT : LamX.Tabs T H)
    (rd : ∀ H2, LamX.ExtN H H2 → t (fun c d H' => c = .ref (He.ga K cls) ∧ ∃ dd, d = some dd ∧ H' dd = some (.xd [(f, v)]) ∧ Same H2 H') σ H2 (fun _ _ => False))
    (k : ∀ g H', LamX.ExtN H H' → LamX.Tabs T H' → H' g = some (.tup [.str w, v]) → Q (.ref g) H') : LamX.tLam T (TTword K cls f w) t σ H Q := by
  refine ⟨hT, fun H1 eN T1 H2 s2 => ⟨_, fun _ _ => False, rd H2 (eN.trans (extS s2)), ?_, fun _ _ z => z.elim⟩⟩
  rintro c d H' ⟨rfl, dd, rfl, hdd, sm⟩
  exact ⟨rfl, dd, _, rfl, hdd, fun g H'' s _ ef => k g H'' (((eN.trans (extS s2)).trans (extS sm)).trans (extS s)) (((T1.ext s2).ext sm).ext s) ef⟩
end Z
namespace Z
open PySem PySem.Spec PyProof.Rows L2
theorem cutV_to (xs : List V) {k : Int} (h : 0 ≤ k) : cutV xs none (some k) = xs.take k.toNat := by
  have e : HT.sIx xs.length xs.length (some k) = min k.toNat xs.length := by
    unfold HT.sIx
    simp only []
    split <;> omega
  unfold cutV
  rw [e]
  simp only [HT.sIx, List.drop_zero, Nat.sub_zero]
  by_cases c : k.toNat ≤ xs.length
  · rw [Nat.min_eq_left c]
  · rw [Nat.min_eq_right (by omega), List.take_of_length_le (Nat.le_refl _), List.take_of_length_le (by omega)]
theorem cutV_from (xs : List V) {k : Int} (h : 0 ≤ k) : cutV xs (some k) none = xs.drop k.toNat := by
  have e : HT.sIx xs.length 0 (some k) = min k.toNat xs.length := by
    unfold HT.sIx
    simp only []
    split <;> omega
  unfold cutV
  rw [e]
  simp only [HT.sIx]
  rw [List.take_of_length_le (by rw [List.length_drop]; omega)]
  by_cases c : k.toNat ≤ xs.length
  · rw [Nat.min_eq_left c]
  · rw [Nat.min_eq_right (by omega), List.drop_of_length_le (Nat.le_refl _), List.drop_of_length_le (by omega)]
theorem lt_flip {a b : Str} (h : ltCps a.cps.toList b.cps.toList = false) (n : a ≠ b) : ltCps b.cps.toList a.cps.toList = true := by
  cases e : ltCps b.cps.toList a.cps.toList with
  | true => rfl
  | false => exact absurd (leS_anti (show leS a b from e) (show leS b a from h)) n
theorem lt_asym {a b : Str} (h : ltCps a.cps.toList b.cps.toList = true) : ltCps b.cps.toList a.cps.toList = false := leS_of_lt h
theorem Turned.swap {a b ny fy : List Str} (t : Turned a b ny fy) (ap : apartS a b) : Turned b a ny fy := by
  obtain ⟨ya, yb, aa, ab, y0, z0, e1, e2, h⟩ := t
  have n : y0 ≠ z0 := by
    rintro rfl
    exact ap y0 ((aa.2.2 _).mp (List.mem_of_mem_head? e1)) ((ab.2.2 _).mp (List.mem_of_mem_head? e2))
  refine ⟨yb, ya, ab, aa, z0, y0, e2, e1, ?_⟩
  rcases h with ⟨l, rfl, rfl⟩ | ⟨l, rfl, rfl⟩
  · exact .inr ⟨lt_asym l, rfl, rfl⟩
  · exact .inl ⟨lt_flip l n, rfl, rfl⟩
theorem AscOf.self {a y : List Str} (h : AscOf a y) : AscOf y y := ⟨h.1, h.2.1, fun _ => .rfl⟩
theorem Turned.fix {a b ny fy : List Str} (t : Turned a b ny fy) (ap : apartS a b) : Turned ny fy ny fy := by
  obtain ⟨ya, yb, aa, ab, y0, z0, e1, e2, h⟩ := t
  have n : y0 ≠ z0 := by
    rintro rfl
    exact ap y0 ((aa.2.2 _).mp (List.mem_of_mem_head? e1)) ((ab.2.2 _).mp (List.mem_of_mem_head? e2))
  rcases h with ⟨l, rfl, rfl⟩ | ⟨l, rfl, rfl⟩
  · exact ⟨_, _, aa.self, ab.self, y0, z0, e1, e2, .inl ⟨l, rfl, rfl⟩⟩
  · exact ⟨_, _, ab.self, aa.self, z0, y0, e2, e1, .inl ⟨lt_flip l n, rfl, rfl⟩⟩
theorem Turned.sides {a b ny fy : List Str} (t : Turned a b ny fy) (cu : Cuts a b) : Cuts ny fy := by
  have ap := cu.apart
  obtain ⟨nda, ndb, _⟩ := List.nodup_append.mp cu.nd
  obtain ⟨ya, yb, aa, ab, y0, z0, e1, e2, h⟩ := t
  have la := aa.len nda
  have lb := ab.len ndb
  have pa : ya.Perm a := (List.perm_ext_iff_of_nodup aa.2.1 nda).mpr aa.2.2
  have pb : yb.Perm b := (List.perm_ext_iff_of_nodup ab.2.1 ndb).mpr ab.2.2
  rcases h with ⟨l, rfl, rfl⟩ | ⟨l, rfl, rfl⟩
  · exact cu.of_perm (pa.append pb) (by rw [la]; exact cu.lx) (by rw [lb]; exact cu.ly)
  · exact cu.of_perm ((pb.append pa).trans List.perm_append_comm) (by rw [lb]; exact cu.ly) (by rw [la]; exact cu.lx)
theorem Cuts.swap {a b : List Str} (h : Cuts a b) : Cuts b a := h.of_perm List.perm_append_comm h.ly h.lx
theorem turned_of {a b hs ny fy : List Str} (h : CutOf a b hs ny fy) (na : a ≠ []) (nb : b ≠ []) (ap : apartS a b) : Turned a b ny fy := by
  obtain ⟨ah, ya, yb, aa, ab, side⟩ := id h
  obtain ⟨y0, yr, rfl⟩ := aa.ne na
  obtain ⟨z0, zr, rfl⟩ := ab.ne nb
  cases e : ltCps y0.cps.toList z0.cps.toList with
  | true =>
    have t : Turned a b (y0 :: yr) (z0 :: zr) := ⟨_, _, aa, ab, y0, z0, rfl, rfl, .inl ⟨e, rfl, rfl⟩⟩
    obtain ⟨rfl, rfl⟩ := cut_turned h t na nb ap
    exact t
  | false =>
    have t : Turned a b (z0 :: zr) (y0 :: yr) := ⟨_, _, aa, ab, y0, z0, rfl, rfl, .inr ⟨e, rfl, rfl⟩⟩
    obtain ⟨rfl, rfl⟩ := cut_turned h t na nb ap
    exact t
theorem Cuts.nx {a b : List Str} (h : Cuts a b) : a ≠ [] := by
  have := h.lx
  rintro rfl
  simp at this
theorem Cuts.ny {a b : List Str} (h : Cuts a b) : b ≠ [] := h.swap.nx
theorem cut_newC {K : PySem.W.Frag} {H : Hp} {u v : V} {a b : List Str} {Q : Addr → Hp → Prop} {E : XK} (hu : ∃ q, u = .ref q ∧ RowA H q (a.map V.str)) (hv : ∃ q, v = .ref q ∧ RowA H q (b.map V.str)) (cu : Cuts a b)
    (k : ∀ p hs ny fy H', Same H H' → H p = none → Turned a b ny fy → AscOf (a ++ b) hs → CutAt K H' p hs ny fy → Q p H') :
    ∀ x dx, H x = none → H dx = none → dx ≠ x → spCut K [.ref x, u, v] (upd (upd H dx (.own x)) x (.ins (He.ga K "Cut") dx [])) (fun v H2 => v = .non ∧ Q x H2) E := by
  have l := cu.few
  have lx := cu.lx
  have ly := cu.ly
  obtain ⟨nda, ndb, _⟩ := List.nodup_append.mp cu.nd
  refine cut_new ⟨hu, fun n hn => cu.nm n (List.mem_append_left _ hn), nda, by omega⟩ ⟨hv, fun n hn => cu.nm n (List.mem_append_right _ hn), ndb, by omega⟩ lx ly cu.apart fun p hs ny' fy' H' s n co ic => ?_
  have tn := turned_of co cu.nx cu.ny cu.apart
  obtain ⟨nmN, nmF, _, _⟩ := turned_ok tn cu.nm
  exact k p hs ny' fy' H' s n tn co.hosts ⟨ic, fun n hn => cu.nm n ((co.hosts.2.2 n).mp hn), nmN, nmF⟩
end Z
namespace Z
open PySem PySem.Spec PyProof.Rows L2
section
open L2H HotX
/-! ### an own error raised while another one is handled -/
theorem ps_raiseH2 {X : Cx} {W : WX} {x f g : Str} {k : Nat} {e : Expr} {es : List Expr} {ta : TA} {j : Nat} {p pos cpos pos2 : Pos} (E : ErrF X.K x) (D : ∃ fd, FnH X.prog X.w X.K X.mg X.base CX0 k (He.ma X.K (He.ga X.K x) "__init__") fd ["self", f, g] (spErr2 X.K (He.ga X.K x) f g) ∧ Binds X.K fd ["self", f, g] []) (hr : RoomH (k + 1) X.A) (hc : HotC X) (tk : L2.Takes X W) (hg : Gl X x) (hm : X.mg x = some (.ref (He.ga X.K x))) (ha : PA X (e :: es) ta)
    (hdb : (x == ("__debug__" : Str)) = false := by decide) (he : starEach (e :: es) X.env = (false, eval e X.env) :: starEach es X.env := by rfl) (hpl : (backTo pos (starEach es X.env)).any (·.1) = false := by rfl) :
    PS X (.Raise (some (.Call (.Name x p) (e :: es) [] pos)) (some (.Constant .none j cpos)) pos2) (tRaise2 (He.ga X.K x) f g W ta) := by
  obtain ⟨fd, F, b⟩ := D
  constructor
  intro pins s σ H D I h
  refine (ps_raiseHN hc tk (pmk5_oexH (p := p) (pos := pos) E.o E.iC E.tI F hr hc b pass0 hg hm (pa_up ha) hdb he hpl)).run pins s σ H D I ⟨_, h, ?_⟩
  rintro vs H1 ⟨u, v, rfl, k⟩
  exact ⟨by show 2 ≤ 1000; decide, fun a ha => raised2 (R := fun cls d H' => W cls d σ H') ha k⟩
end
/-! ### x = e within a try, e may raise -/
def tTrySet (n j : Nat) (t : XK → TE) (W : WX) : TS := fun D σ H => ∃ (E : XK) (Q0 : VK), (∀ cls d σ' H', E cls d H' → σ'.length = n → W cls d σ' H') ∧ t E σ H Q0 ∧ ∀ v H1, Q0 v H1 → D.nx (σ.set j (some v)) H1
theorem ps_setTry {Y : Cx} {W : WX} {n j : Nat} {x : Str} {e : Expr} {t : XK → TE} {p1 p2 : Pos} (hn : Y.N.length = n) (hN : Y.N.Nodup) (hj : Y.N[j]? = some x) (hx : Loc Y.env.scope x)
    (act : ∀ E : XK, (∀ cls d σ' H', E cls d H' → σ'.length = Y.N.length → W cls d σ' H') → PE Y e (t E)) (hs : swapsWith e (some (.Name x p1)) p2.line Y.env = pure false := by rfl) (hf : Y.fn x = true ∨ Y.env.scope.names.lookup x = some .local := by first | exact .inl rfl | exact .inr rfl | assumption) :
    PS Y (.Assign [.Name x p1] e p2) (tTrySet n j t W) := by
  constructor
  rintro pins s σ H D I ⟨E, Q0, hW, h3, h4⟩
  exact (ps_set (i := j) hN hj hx (pe_up (act E (fun cls d σ' H' e l => hW cls d σ' H' e (l.trans hn)))) hs hf).run pins s σ H D I ⟨Q0, h3, fun v H1 q => h4 v H1 q⟩
/-! ### a, b = l -/
theorem kpg_unl {X : Cx} {K : PySem.W.Frag} {pos : Pos} {es : List Expr} {k : Nat} {t : TGs} {n : Nat} (hc : X.calm = true) (h : PGs X es t)
    (hn : (assignEach es X.env).length = n := by rfl) (hst : (assignEach es X.env).findIdx? (·.1) = none := by rfl) (hK : X.K = K := by rfl) : PG X (.Tuple es k pos) (gUnl K n t) := by subst hK; exact pg_unl hc h hn hst
end Z
namespace Z
open PySem PySem.Spec PyProof.Rows L2
/-! ### own errors raised with what they are told of their context -/
section
open L2H HotX
theorem pmk_oexN {X : Cx} {CX : CXT} {e : Expr} {es : List Expr} {ta : TA} {p pos : Pos} {x : Str} {C fI : Addr} {k : Nat} {fd : FuncData} {ps : List Str} {sp : Sp} {ds : List Value} {dvs : List V} (T : OexC X.K C) (iC : PySem.W.findIn X.K (.ref C) "__init__" = some (some (.ref fI))) (tI : PySem.W.typeIn X.K (.ref fI) = some (.type "function"))
    (F1 : FnOk X.prog X.w X.K X.mg X.base CX k fI fd ps sp) (hr : Room (k + 1) X.A) (hb : Binds X.K fd ps ds) (hd : Vals dvs ds) (hx : Passes CX X (fun _ _ _ => False)) (hg : Gl X x) (hm : X.mg x = some (.ref C)) (ha : PA X (e :: es) ta)
    (hdb : (x == ("__debug__" : Str)) = false := by decide) (he : starEach (e :: es) X.env = (false, eval e X.env) :: starEach es X.env := by rfl) (hpl : (backTo pos (starEach es X.env)).any (·.1) = false := by rfl) :
    L2N.PMk X (.Call (.Name x p) (e :: es) [] pos) (tMkO C sp dvs ta) := by
  intro pins s σ H Q I h
  obtain ⟨nm, q, N, bs, bm, sn, sub, ab, col, dd, k0, k1, k2, k3, k5, hC, hbm⟩ := T.cls
  refine wpAny_Call_Name_kw (ld_glob I hg hm ?_ hdb)
  refine PySem.W.callWith_K (h₀ := X.base) I.ok.mod.kin T.kC (thn (ha.run pos pins s σ H _ I h) fun us s1 ⟨vs, H1, I1, r1, hz, q1⟩ => ⟨I1.kIn, ?_⟩) he hpl
  show wpAny _ _ (call (.ref C) us) _ _ _
  obtain ⟨hp, g, dr, tk, os⟩ := s1
  have hsz : hp.objs.size ≤ hp.objs.size + 1 := Nat.le_succ _
  have hn : H1 (hp.objs.size + 1) = none := I1.hok.fresh hsz
  have hq := q1 (hp.objs.size + 1) hn
  have kk : ∀ b o, hp.get? b = some o → ((hp.push (PySem.W.kdv_tup us)).push (PySem.HandSPX.excO C hp.objs.size)).get? b = some o := fun b o e => Heap.get?_push_of_some _ (Heap.get?_push_of_some _ e)
  have hget : ((hp.push (PySem.W.kdv_tup us)).push (PySem.HandSPX.excO C hp.objs.size)).get? (hp.objs.size + 1) = some (PySem.HandSPX.excO C hp.objs.size) := by heap_get
  have I2 : Inv X pins σ (upd H1 (hp.objs.size + 1) (exo (hp.objs.size + 1) C none)) ⟨(hp.push (PySem.W.kdv_tup us)).push (PySem.HandSPX.excO C hp.objs.size), g, dr, tk, os⟩ :=
    I1.laid (t' := tk) (a := hp.objs.size + 1) (o := exo (hp.objs.size + 1) C none) (h' := (hp.push (PySem.W.kdv_tup us)).push (PySem.HandSPX.excO C hp.objs.size)) kk hsz (exo_ok hget)
  have r2 : Vals (V.ref (hp.objs.size + 1) :: (vs ++ dvs)) (Value.ref (hp.objs.size + 1) :: (us ++ ds)) := .cons rfl (r1.append hd)
  have hl : (Value.ref (hp.objs.size + 1) :: us ++ ds).length = ps.length := by
    have e := r2.length
    rw [F1.len _ _ _ _ hq] at e
    exact e.symm
  have hus : us.length ≤ sizeLine := by
    rw [← Paired.length r1, sizeLine_eq]
    omega
  refine wpAny_call (PySem.HandSPX.call_own F.excBase_ValueError (fun Y => PySem.HandSPX.refsVE_contains Y bm hbm) (I1.kIn _ _ hC) (PySem.W.looks_findIn I1.kIn iC) (fun self => PySem.W.bind_fn I1.kIn self tI) hus
    (codeAny_mono (F1.run _ X.stack _ _ ⟨Value.ref (hp.objs.size + 1) :: us, []⟩ (Value.ref (hp.objs.size + 1) :: (us ++ ds)) _ _ (fun _ _ _ => False) (hr.make C us []) (I2.env0.make C us []) (hb _ (Value.ref (hp.objs.size + 1) :: us) I2.kIn hl) r2 hq) fun r s' hq' => ?_))
  cases r with
  | error er => exact hx pins σ _ _ er s' I2 hq'
  | ok fl =>
    cases fl with
    | ret u =>
      obtain ⟨v, H2, os2, bare2, un2, hok2, rv, ev, d, fs, ea, ed, hd1, q2⟩ := hq'
      subst ev
      obtain ⟨h2, g2, d2, t2, os'⟩ := s'
      obtain ⟨t0, G, J, kG, ge, hoe, na⟩ := mk_end0 (d2 := d2) (t2 := t2) I1 hsz kk un2 hok2 os2 bare2 ea ed hd1
      refine ⟨rv, ⟨hp.objs.size + 1, _, _, ⟨G, g2, d2, t2, os'⟩, _, .ref C, some d, rfl, J, kG, ge, hoe, ⟨rfl, rfl, fun vs hv => ?_⟩, rfl, rfl, na, rfl, bare2, raises_own T.exC T.tyC, q2⟩⟩
      cases hv
      rfl
    | next => exact False.elim hq'
    | brk => exact False.elim hq'
    | cont => exact False.elim hq'
theorem ps_raiseN1 {X : Cx} {W : WX} {x f : Str} {k : Nat} {e : Expr} {es : List Expr} {ta : TA} {p pos pos2 : Pos} (E : ErrF X.K x) (D : DefM X.prog X.w X.K X.mg X.base k (He.ma X.K (He.ga X.K x) "__init__") ["self", f] (spErr1 X.K (He.ga X.K x) f)) (hr : Room (k + 1) X.A) (hc : X.calm = true) (tk : L2N.Takes X W) (hg : Gl X x) (hm : X.mg x = some (.ref (He.ga X.K x))) (ha : PA X (e :: es) ta)
    (hdb : (x == ("__debug__" : Str)) = false := by decide) (he : starEach (e :: es) X.env = (false, eval e X.env) :: starEach es X.env := by rfl) (hpl : (backTo pos (starEach es X.env)).any (·.1) = false := by rfl) :
    PS X (.Raise (some (.Call (.Name x p) (e :: es) [] pos)) none pos2) (tRaise1 (He.ga X.K x) f W ta) := by
  obtain ⟨fd, F, b⟩ := D.ex
  constructor
  intro pins s σ H D I h
  refine (L2N.ps_raise hc tk (pmk_oexN (p := p) (pos := pos) E.o E.iC E.tI F hr b .nil pass0 hg hm (pa_up ha) hdb he hpl)).run pins s σ H D I ⟨_, h, ?_⟩
  rintro vs H1 ⟨v, rfl, k⟩
  exact ⟨by show 1 ≤ 1000; decide, fun a ha => raised1 (R := fun cls d H' => W cls d σ H') ha k⟩
theorem cxN {P : Program} {w : World} {outer : List Env} {H : Hp} {s : Shared} {E : XK} {u : Value} {s' : Shared} (h : L2N.CX P w outer H s E u s') : CX P w outer H s E u s' := by
  obtain ⟨a, B, H', cls, d, e, f, r⟩ := h
  exact ⟨a, B, H', cls, d, e, flyingZ_imp (fun _ z => z.zc) f, r⟩
theorem FnOk.ofN {P : Program} {w : World} {K : PySem.W.Frag} {mg : Str → Option Value} {base : Heap} {k : Nat} {f : Addr} {fd : FuncData} {ps : List Str} {sp : Sp} (F : FnOk P w K mg base (L2N.CX P w) k f fd ps sp) : FnOk P w K mg base (CX P w) k f fd ps sp :=
  ⟨F.len, fun A outer s H args us vs Q E hr e0 hb r h => codeAny_mono (F.run A outer s H args us vs Q E hr e0 hb r h) fun r s' q => by
    match r, q with
    | .error e, q => exact cxN q
    | .ok (.ret u), q => exact q
    | .ok .next, q => exact q
    | .ok .brk, q => exact q
    | .ok .cont, q => exact q⟩
theorem takes_lenN {X : Cx} {W : WX} (t : L2N.Takes X W) : L2N.Takes X (fun cls d σ H => σ.length = X.N.length → W cls d σ H) := by
  rintro u s' ⟨a, B, sI, pins, σ, H, cls, d, e, I, nb, up, sky, na, os, ag, w⟩
  exact t u s' ⟨a, B, sI, pins, σ, H, cls, d, e, I, nb, up, sky, na, os, ag, w I.len⟩
end
end Z
namespace Z
open PySem PySem.Spec PyProof.Rows L2 TL
/-! ### texts with bars -/
section
open PySem.Builtin.Str
theorem split_count {x y : Str} (hy : tl y ≠ []) (hk : y.cps.all (· < 256) = true) : Txt.count x y = ((Txt.split x y).length : Int) - 1 := by
  obtain ⟨f, g, hn⟩ := StrLaws.occ_tight x y (len1 hy)
  unfold Txt.count Txt.split
  split
  · rename_i h1
    have hlt : x.length < y.length := by
      simp only [Bool.or_eq_true, decide_eq_true_eq] at h1
      rcases h1 with h | h
      · exact h
      · exact absurd h (kind_ok hk)
    cases ho : occurrences x y 0 x.length (x.length + 1) with
    | nil => rfl
    | cons c r =>
      rw [ho] at g
      have hc : c + y.length ≤ x.length := g.2.1.1
      omega
  · split
    · rename_i h1 h2
      rw [List.isEmpty_iff.mp h2]
      rfl
    · rw [len_partsBetween]
      omega
end
theorem tl_bar : tl (Str.ofString " | ") = [32, 124, 32] := by decide +kernel
theorem tl_sp : tl (Str.ofString " ") = [32] := by decide +kernel
theorem split_back (x y : Str) : Txt.join y (Txt.split x y) = x := by
  rw [join_eq]
  exact StrLaws.join_split x y
theorem bars_one {a b c d : List Nat} {k : Nat} (h : a ++ k :: b = c ++ k :: d) (ha : k ∉ a) (hc : k ∉ c) : a = c ∧ b = d := by
  induction a generalizing c with
  | nil =>
    cases c with
    | nil => exact ⟨rfl, (List.cons.inj h).2⟩
    | cons x r => exact absurd (by rw [(List.cons.inj h).1]; exact .head _) hc
  | cons x r ih =>
    cases c with
    | nil => exact absurd (by rw [← (List.cons.inj h).1]; exact .head _) ha
    | cons y q =>
      obtain ⟨e1, e2⟩ := List.cons.inj h
      obtain ⟨h1, h2⟩ := ih e2 (fun m => ha (.tail _ m)) (fun m => hc (.tail _ m))
      exact ⟨by rw [e1, h1], h2⟩
theorem nm_no {x : Str} (h : IsNm x) {k : Nat} (hk : ¬ (97 ≤ k ∧ k ≤ 122)) : k ∉ tl x := fun m => hk (h.az k m)
theorem join_no {ws : List Str} (h : ∀ w ∈ ws, IsNm w) : 124 ∉ tl (Txt.join (Str.ofString " ") ws) := fun m => by
  rw [join_eq, tl_join, tl_sp] at m
  rcases of_joinL _ m with m | ⟨w, hw, m⟩
  · simp at m
  · obtain ⟨z, hz, rfl⟩ := List.mem_map.mp hw
    exact nm_no (h z hz) (by omega) m
theorem join_inj {ws us : List Str} (h : ∀ w ∈ ws, IsNm w) (k : ∀ w ∈ us, IsNm w) (hw : ws ≠ []) (hu : us ≠ []) (e : Txt.join (Str.ofString " ") ws = Txt.join (Str.ofString " ") us) : ws = us := by
  have e1 := TL.split_join (y := Str.ofString " ") tl_sp (by decide +kernel) hw (fun p hp => nm_no (h p hp) (by omega))
  have e2 := TL.split_join (y := Str.ofString " ") tl_sp (by decide +kernel) hu (fun p hp => nm_no (k p hp) (by omega))
  rw [← e1, ← e2, e]
def cutText (ny fy : List Str) : Str := Txt.join (Str.ofString " ") ny ++ Str.ofString " | " ++ Txt.join (Str.ofString " ") fy
theorem cutText_inj {a b c d : List Str} (ha : ∀ w ∈ a, IsNm w) (hb : ∀ w ∈ b, IsNm w) (hc : ∀ w ∈ c, IsNm w) (hd : ∀ w ∈ d, IsNm w) (na : a ≠ []) (nb : b ≠ []) (nc : c ≠ []) (nd : d ≠ []) (e : cutText a b = cutText c d) : a = c ∧ b = d := by
  have e := congrArg tl e
  unfold cutText at e
  rw [tl_append, tl_append, tl_append, tl_append, tl_bar, List.append_assoc, List.append_assoc] at e
  have e : (tl (Txt.join (Str.ofString " ") a) ++ [32]) ++ 124 :: ([32] ++ tl (Txt.join (Str.ofString " ") b)) = (tl (Txt.join (Str.ofString " ") c) ++ [32]) ++ 124 :: ([32] ++ tl (Txt.join (Str.ofString " ") d)) := by simpa using e
  have no : ∀ {ws : List Str}, (∀ w ∈ ws, IsNm w) → 124 ∉ tl (Txt.join (Str.ofString " ") ws) ++ [32] := fun h m => by
    rcases List.mem_append.mp m with m | m
    · exact join_no h m
    · simp at m
  obtain ⟨e1, e2⟩ := bars_one e (no ha) (no hc)
  exact ⟨join_inj ha hc na nc (str_ext (List.append_cancel_right e1)), join_inj hb hd nb nd (str_ext (List.append_cancel_left e2))⟩
theorem join_room {ws : List Str} (h : ∀ w ∈ ws, IsNm w) (l : ws.length ≤ 1000) : (List.map (fun x => x.length) ws).sum + ws.length * (Str.ofString " ").length ≤ 16777216 := by
  have := sum_le (n := 8) ws fun w hw => (h w hw).hi
  have e : (Str.ofString " ").length = 1 := rfl
  rw [e]
  omega
theorem join_word {ws : List Str} (h : ∀ w ∈ ws, IsNm w) (l : ws.length ≤ 1000) : Word 9000 (Txt.join (Str.ofString " ") ws) :=
  Word.join (m := 1) (n := 8) (k := 1000) (word_of (by decide +kernel)) (fun w hw => word_nm (h w hw)) l
/-! ### the cut that a text tells -/
/-- rising, each word above the one ahead of it -/
def riseB : List Str → Bool
  | a :: b :: r => ltCps a.cps.toList b.cps.toList && riseB (b :: r)
  | _ => true
def sideB (ws : List Str) : Bool := decide (2 ≤ ws.length) && (ws.all nmB && riseB ws)
def apartB (a b : List Str) : Bool := a.all fun x => !decide (x ∈ b)
theorem apartB_iff {a b : List Str} : apartB a b = true ↔ apartS a b := by
  unfold apartB apartS
  simp [List.all_eq_true]
def readC (z : Str) : Option (List Str × List Str) := match Txt.split z (Str.ofString " | ") with
  | [a, b] =>
    let ns := Txt.split a (Str.ofString " ")
    let ms := Txt.split b (Str.ofString " ")
    if (sideB ns && (sideB ms && (apartB ns ms && ltCps (ns.headD "").cps.toList (ms.headD "").cps.toList))) = true then some (ns, ms) else none
  | _ => none
theorem lt_iff {a b : Str} : ltCps a.cps.toList b.cps.toList = true ↔ a.cps.toList < b.cps.toList := by rw [ltCps_eq]; exact decide_eq_true_iff
theorem rise_pair : ∀ {ws : List Str}, riseB ws = true → ws.Pairwise fun a b => a.cps.toList < b.cps.toList
  | [], _ => .nil
  | [a], _ => List.pairwise_singleton ..
  | a :: b :: r, h => by
    have h : (ltCps a.cps.toList b.cps.toList && riseB (b :: r)) = true := h
    rw [Bool.and_eq_true] at h
    have ih := rise_pair h.2
    have ab := lt_iff.mp h.1
    refine List.pairwise_cons.mpr ⟨fun y hy => ?_, ih⟩
    rcases List.mem_cons.mp hy with rfl | hy
    · exact ab
    · exact List.lt_trans ab ((List.pairwise_cons.mp ih).1 y hy)
theorem asc_rise : ∀ {ws : List Str}, ws.Pairwise leS → ws.Nodup → riseB ws = true
  | [], _, _ => rfl
  | [a], _, _ => rfl
  | a :: b :: r, p, d => by
    obtain ⟨p1, p2⟩ := List.pairwise_cons.mp p
    obtain ⟨d1, d2⟩ := List.nodup_cons.mp d
    show (ltCps a.cps.toList b.cps.toList && riseB (b :: r)) = true
    rw [Bool.and_eq_true]
    refine ⟨?_, asc_rise p2 d2⟩
    cases e : ltCps a.cps.toList b.cps.toList with
    | true => rfl
    | false => exact absurd (leS_anti (p1 b (.head _)) (show leS b a from e)) fun q => d1 (by rw [q]; exact .head _)
theorem rising_of : ∀ {l : List Str} {p : Str}, (p :: l).Pairwise leS → risingS p l = true
  | [], _, _ => rfl
  | x :: r, p, h => by
    obtain ⟨h1, h2⟩ := List.pairwise_cons.mp h
    show (!ltCps x.cps.toList p.cps.toList && risingS x r) = true
    rw [Bool.and_eq_true, Bool.not_eq_true']
    exact ⟨h1 x (.head _), rising_of h2⟩
theorem sorted_of {l : List Str} (h : l.Pairwise leS) : sortedS l = true := by
  cases l with
  | nil => rfl
  | cons x r => exact rising_of h
theorem rise_asc {ws : List Str} (h : riseB ws = true) : AscOf ws ws := by
  have p := rise_pair h
  refine ⟨sorted_of (p.imp fun {a b} q => leS_iff.mpr (List.le_of_lt q)), List.nodup_iff_pairwise_ne.mpr (p.imp fun {a b} q (e : a = b) => by rw [e] at q; exact List.lt_irrefl _ q), fun _ => .rfl⟩
theorem rise_iff {ws : List Str} : riseB ws = true ↔ AscOf ws ws := ⟨rise_asc, fun h => asc_rise (sorted_pair h.1) h.2.1⟩
theorem sideB_iff {ws : List Str} : sideB ws = true ↔ 2 ≤ ws.length ∧ (∀ w ∈ ws, IsNm w) ∧ AscOf ws ws := by
  unfold sideB
  rw [Bool.and_eq_true, Bool.and_eq_true, decide_eq_true_iff, rise_iff, List.all_eq_true]
  exact ⟨fun ⟨a, b, c⟩ => ⟨a, fun w h => nmB_iff.mp (b w h), c⟩, fun ⟨a, b, c⟩ => ⟨a, fun w h => nmB_iff.mpr (b w h), c⟩⟩
theorem split_two {z a b : Str} (e : Txt.split z (Str.ofString " | ") = [a, b]) : z = cutText (Txt.split a (Str.ofString " ")) (Txt.split b (Str.ofString " ")) := by
  unfold cutText
  rw [split_back, split_back]
  have := split_back z (Str.ofString " | ")
  rw [e] at this
  exact this.symm
/-- a cut of the words of a text has this text exactly if the text is read -/
theorem read_iff {z a b : Str} {ns ms hs ny fy : List Str} (e : Txt.split z (Str.ofString " | ") = [a, b]) (en : ns = Txt.split a (Str.ofString " ")) (em : ms = Txt.split b (Str.ofString " ")) (cn : CutOf ns ms hs ny fy) (nn : ∀ w ∈ ns, IsNm w) (nm : ∀ w ∈ ms, IsNm w) (ln : 2 ≤ ns.length) (lm : 2 ≤ ms.length) (ap : apartS ns ms) :
    (cutText ny fy = z → readC z = some (ny, fy)) ∧ (cutText ny fy ≠ z → readC z = none) := by
  have ez := split_two e
  rw [← en, ← em] at ez
  have hn : ns ≠ [] := by rintro rfl; simp at ln
  have hm : ms ≠ [] := by rintro rfl; simp at lm
  have tn := turned_of cn hn hm ap
  obtain ⟨ya, yb, aa, ab, y0, z0, ey, ez0, h⟩ := id tn
  have nya : ∀ w ∈ ya, IsNm w := fun w hw => nn w ((aa.2.2 w).mp hw)
  have nyb : ∀ w ∈ yb, IsNm w := fun w hw => nm w ((ab.2.2 w).mp hw)
  have hya : ya ≠ [] := by rintro rfl; cases ey
  have hyb : yb ≠ [] := by rintro rfl; cases ez0
  have hd : ∀ {l : List Str} {x : Str}, l.head? = some x → l.headD "" = x := fun {l x} q => by cases l with | nil => cases q | cons a r => cases q; rfl
  have fwd : cutText ny fy = z → ny = ns ∧ fy = ms ∧ ya = ns ∧ yb = ms ∧ ltCps y0.cps.toList z0.cps.toList = true := fun q => by
    rw [ez] at q
    rcases h with ⟨lt, rfl, rfl⟩ | ⟨lt, rfl, rfl⟩
    · obtain ⟨q1, q2⟩ := cutText_inj nya nyb nn nm hya hyb hn hm q
      exact ⟨q1, q2, q1, q2, lt⟩
    · obtain ⟨q1, q2⟩ := cutText_inj nyb nya nn nm hyb hya hn hm q
      refine absurd ?_ (ap z0 ?_)
      · exact (ab.2.2 z0).mp (List.mem_of_mem_head? ez0)
      · rw [← q1]; exact List.mem_of_mem_head? ez0
  have rd : readC z = if (sideB ns && (sideB ms && (apartB ns ms && ltCps (ns.headD "").cps.toList (ms.headD "").cps.toList))) = true then some (ns, ms) else none := by
    unfold readC
    rw [e, en, em]
  constructor
  · intro q
    obtain ⟨rfl, rfl, r1, r2, lt⟩ := fwd q
    rw [rd, if_pos]
    rw [Bool.and_eq_true, Bool.and_eq_true, Bool.and_eq_true]
    refine ⟨sideB_iff.mpr ⟨ln, nn, r1 ▸ aa.self⟩, sideB_iff.mpr ⟨lm, nm, r2 ▸ ab.self⟩, apartB_iff.mpr ap, ?_⟩
    rw [← r1, ← r2, hd ey, hd ez0]
    exact lt
  · intro q
    rw [rd, if_neg]
    intro c
    rw [Bool.and_eq_true, Bool.and_eq_true, Bool.and_eq_true] at c
    obtain ⟨c1, c2, _, c4⟩ := c
    obtain ⟨_, _, a1⟩ := sideB_iff.mp c1
    obtain ⟨_, _, a2⟩ := sideB_iff.mp c2
    have r1 := aa.unique a1
    have r2 := ab.unique a2
    rw [← r1, ← r2, hd ey, hd ez0] at c4
    rcases h with ⟨lt, rfl, rfl⟩ | ⟨lt, rfl, rfl⟩
    · exact q (by rw [ez, r1, r2])
    · rw [c4] at lt
      cases lt
theorem read_none {z a b : Str} (e : Txt.split z (Str.ofString " | ") = [a, b]) (h : ¬ ((2 ≤ (Txt.split a (Str.ofString " ")).length ∧ (∀ w ∈ Txt.split a (Str.ofString " "), IsNm w) ∧ (Txt.split a (Str.ofString " ")).Nodup) ∧ (2 ≤ (Txt.split b (Str.ofString " ")).length ∧ (∀ w ∈ Txt.split b (Str.ofString " "), IsNm w) ∧ (Txt.split b (Str.ofString " ")).Nodup) ∧ apartS (Txt.split a (Str.ofString " ")) (Txt.split b (Str.ofString " ")))) : readC z = none := by
  unfold readC
  rw [e]
  refine if_neg fun c => h ?_
  rw [Bool.and_eq_true, Bool.and_eq_true, Bool.and_eq_true] at c
  obtain ⟨c1, c2, c3, _⟩ := c
  obtain ⟨l1, n1, a1⟩ := sideB_iff.mp c1
  obtain ⟨l2, n2, a2⟩ := sideB_iff.mp c2
  exact ⟨⟨l1, n1, a1.2.1⟩, ⟨l2, n2, a2.2.1⟩, apartB_iff.mp c3⟩
end Z
namespace Z
open PySem PySem.Spec PyProof.Rows L2 TL
theorem rowN_side {ns : List Str} (l : 2 ≤ ns.length) (h : ∀ n ∈ ns, IsNm n) (d : ns.Nodup) : sideD (rowN (ns.map V.str)) = true := by
  rw [rowN_of h d]
  exact decide_eq_true l
/-- words that make no cut -/
theorem bad_none {z a b part : Str} (e : Txt.split z (Str.ofString " | ") = [a, b]) (h : cutBad part (rowN ((Txt.split a (Str.ofString " ")).map V.str)) (rowN ((Txt.split b (Str.ofString " ")).map V.str))) : readC z = none := by
  refine read_none e ?_
  rintro ⟨⟨l1, n1, d1⟩, ⟨l2, n2, d2⟩, ap⟩
  rcases h with ⟨_, q⟩ | ⟨_, _, q | ⟨x, y, q1, q2, q⟩⟩
  · rw [rowN_side l1 n1 d1] at q
    cases q
  · rw [rowN_side l2 n2 d2] at q
    cases q
  · rw [rowN_of n1 d1] at q1
    rw [rowN_of n2 d2] at q2
    cases q1
    cases q2
    exact q ap
theorem read_three {z : Str} (h : ∀ a b, Txt.split z (Str.ofString " | ") ≠ [a, b]) : readC z = none := by
  unfold readC
  split
  · rename_i a b e
    exact absurd e (h a b)
  · rfl
theorem kind_words {K : PySem.W.Frag} {H : Hp} {ws : List Str} {n : Nat} (h : ∀ w ∈ ws, w.length ≤ n) (hn : n ≤ 1000000) : ∀ v ∈ ws.map V.str, Kind K H v := fun v hv => by
  obtain ⟨w, hw, rfl⟩ := List.mem_map.mp hv
  exact .inl ⟨w, rfl, fit (Nat.le_trans (h w hw) hn)⟩
end Z
namespace Z
open PySem PySem.Spec PyProof.Rows L2 TL
/-! ### texts with a slash -/
theorem tl_slash : tl (Str.ofString " / ") = [32, 47, 32] := by decide +kernel
theorem join_noP {ws : List Str} (h : ∀ w ∈ ws, IsNm w) : 47 ∉ tl (Txt.join (Str.ofString " ") ws) := fun m => by
  rw [join_eq, tl_join, tl_sp] at m
  rcases of_joinL _ m with m | ⟨w, hw, m⟩
  · simp at m
  · obtain ⟨z, hz, rfl⟩ := List.mem_map.mp hw
    exact nm_no (h z hz) (by omega) m
def partText (ny fy : List Str) : Str := Txt.join (Str.ofString " ") ny ++ Str.ofString " / " ++ Txt.join (Str.ofString " ") fy
theorem partText_inj {a b c d : List Str} (ha : ∀ w ∈ a, IsNm w) (hb : ∀ w ∈ b, IsNm w) (hc : ∀ w ∈ c, IsNm w) (hd : ∀ w ∈ d, IsNm w) (na : a ≠ []) (nb : b ≠ []) (nc : c ≠ []) (nd : d ≠ []) (e : partText a b = partText c d) : a = c ∧ b = d := by
  have e := congrArg tl e
  unfold partText at e
  rw [tl_append, tl_append, tl_append, tl_append, tl_slash, List.append_assoc, List.append_assoc] at e
  have e : (tl (Txt.join (Str.ofString " ") a) ++ [32]) ++ 47 :: ([32] ++ tl (Txt.join (Str.ofString " ") b)) = (tl (Txt.join (Str.ofString " ") c) ++ [32]) ++ 47 :: ([32] ++ tl (Txt.join (Str.ofString " ") d)) := by simpa using e
  have no : ∀ {ws : List Str}, (∀ w ∈ ws, IsNm w) → 47 ∉ tl (Txt.join (Str.ofString " ") ws) ++ [32] := fun h m => by
    rcases List.mem_append.mp m with m | m
    · exact join_noP h m
    · simp at m
  obtain ⟨e1, e2⟩ := bars_one e (no ha) (no hc)
  exact ⟨join_inj ha hc na nc (str_ext (List.append_cancel_right e1)), join_inj hb hd nb nd (str_ext (List.append_cancel_left e2))⟩
def coupB (ws : List Str) : Bool := decide (ws.length = 2) && (ws.all nmB && riseB ws)
def readP (z : Str) : Option (List Str × List Str) := match Txt.split z (Str.ofString " / ") with
  | [a, b] =>
    let ns := Txt.split a (Str.ofString " ")
    let ms := Txt.split b (Str.ofString " ")
    if (coupB ns && (coupB ms && (apartB ns ms && ltCps (ns.headD "").cps.toList (ms.headD "").cps.toList))) = true then some (ns, ms) else none
  | _ => none
theorem coupB_iff {ws : List Str} : coupB ws = true ↔ ws.length = 2 ∧ (∀ w ∈ ws, IsNm w) ∧ AscOf ws ws := by
  unfold coupB
  rw [Bool.and_eq_true, Bool.and_eq_true, decide_eq_true_iff, rise_iff, List.all_eq_true]
  exact ⟨fun ⟨a, b, c⟩ => ⟨a, fun w h => nmB_iff.mp (b w h), c⟩, fun ⟨a, b, c⟩ => ⟨a, fun w h => nmB_iff.mpr (b w h), c⟩⟩
theorem split_twoP {z a b : Str} (e : Txt.split z (Str.ofString " / ") = [a, b]) : z = partText (Txt.split a (Str.ofString " ")) (Txt.split b (Str.ofString " ")) := by
  unfold partText
  rw [split_back, split_back]
  have := split_back z (Str.ofString " / ")
  rw [e] at this
  exact this.symm
theorem read_iffP {z a b : Str} {ns ms hs ny fy : List Str} (e : Txt.split z (Str.ofString " / ") = [a, b]) (en : ns = Txt.split a (Str.ofString " ")) (em : ms = Txt.split b (Str.ofString " ")) (cn : CutOf ns ms hs ny fy) (nn : ∀ w ∈ ns, IsNm w) (nm : ∀ w ∈ ms, IsNm w) (ln : ns.length = 2) (lm : ms.length = 2) (ap : apartS ns ms) :
    (partText ny fy = z → readP z = some (ny, fy)) ∧ (partText ny fy ≠ z → readP z = none) := by
  have ez := split_twoP e
  rw [← en, ← em] at ez
  have hn : ns ≠ [] := by rintro rfl; simp at ln
  have hm : ms ≠ [] := by rintro rfl; simp at lm
  have tn := turned_of cn hn hm ap
  obtain ⟨ya, yb, aa, ab, y0, z0, ey, ez0, h⟩ := id tn
  have nya : ∀ w ∈ ya, IsNm w := fun w hw => nn w ((aa.2.2 w).mp hw)
  have nyb : ∀ w ∈ yb, IsNm w := fun w hw => nm w ((ab.2.2 w).mp hw)
  have hya : ya ≠ [] := by rintro rfl; cases ey
  have hyb : yb ≠ [] := by rintro rfl; cases ez0
  have hd : ∀ {l : List Str} {x : Str}, l.head? = some x → l.headD "" = x := fun {l x} q => by cases l with | nil => cases q | cons a r => cases q; rfl
  have fwd : partText ny fy = z → ny = ns ∧ fy = ms ∧ ya = ns ∧ yb = ms ∧ ltCps y0.cps.toList z0.cps.toList = true := fun q => by
    rw [ez] at q
    rcases h with ⟨lt, rfl, rfl⟩ | ⟨lt, rfl, rfl⟩
    · obtain ⟨q1, q2⟩ := partText_inj nya nyb nn nm hya hyb hn hm q
      exact ⟨q1, q2, q1, q2, lt⟩
    · obtain ⟨q1, q2⟩ := partText_inj nyb nya nn nm hyb hya hn hm q
      refine absurd ?_ (ap z0 ?_)
      · exact (ab.2.2 z0).mp (List.mem_of_mem_head? ez0)
      · rw [← q1]; exact List.mem_of_mem_head? ez0
  have rd : readP z = if (coupB ns && (coupB ms && (apartB ns ms && ltCps (ns.headD "").cps.toList (ms.headD "").cps.toList))) = true then some (ns, ms) else none := by
    unfold readP
    rw [e, en, em]
  constructor
  · intro q
    obtain ⟨rfl, rfl, r1, r2, lt⟩ := fwd q
    rw [rd, if_pos]
    rw [Bool.and_eq_true, Bool.and_eq_true, Bool.and_eq_true]
    refine ⟨coupB_iff.mpr ⟨ln, nn, r1 ▸ aa.self⟩, coupB_iff.mpr ⟨lm, nm, r2 ▸ ab.self⟩, apartB_iff.mpr ap, ?_⟩
    rw [← r1, ← r2, hd ey, hd ez0]
    exact lt
  · intro q
    rw [rd, if_neg]
    intro c
    rw [Bool.and_eq_true, Bool.and_eq_true, Bool.and_eq_true] at c
    obtain ⟨c1, c2, _, c4⟩ := c
    obtain ⟨_, _, a1⟩ := coupB_iff.mp c1
    obtain ⟨_, _, a2⟩ := coupB_iff.mp c2
    have r1 := aa.unique a1
    have r2 := ab.unique a2
    rw [← r1, ← r2, hd ey, hd ez0] at c4
    rcases h with ⟨lt, rfl, rfl⟩ | ⟨lt, rfl, rfl⟩
    · exact q (by rw [ez, r1, r2])
    · rw [c4] at lt
      cases lt
theorem read_noneP {z a b : Str} (e : Txt.split z (Str.ofString " / ") = [a, b]) (h : ¬ (((Txt.split a (Str.ofString " ")).length = 2 ∧ (∀ w ∈ Txt.split a (Str.ofString " "), IsNm w) ∧ (Txt.split a (Str.ofString " ")).Nodup) ∧ ((Txt.split b (Str.ofString " ")).length = 2 ∧ (∀ w ∈ Txt.split b (Str.ofString " "), IsNm w) ∧ (Txt.split b (Str.ofString " ")).Nodup) ∧ apartS (Txt.split a (Str.ofString " ")) (Txt.split b (Str.ofString " ")))) : readP z = none := by
  unfold readP
  rw [e]
  refine if_neg fun c => h ?_
  rw [Bool.and_eq_true, Bool.and_eq_true, Bool.and_eq_true] at c
  obtain ⟨c1, c2, c3, _⟩ := c
  obtain ⟨l1, n1, a1⟩ := coupB_iff.mp c1
  obtain ⟨l2, n2, a2⟩ := coupB_iff.mp c2
  exact ⟨⟨l1, n1, a1.2.1⟩, ⟨l2, n2, a2.2.1⟩, apartB_iff.mp c3⟩
theorem rowN_coup {ns : List Str} (l : ns.length = 2) (h : ∀ n ∈ ns, IsNm n) (d : ns.Nodup) : coupleD (rowN (ns.map V.str)) = true := by
  rw [rowN_of h d]
  exact decide_eq_true l
theorem bad_noneP {z a b part : Str} (e : Txt.split z (Str.ofString " / ") = [a, b]) (h : partBad part (rowN ((Txt.split a (Str.ofString " ")).map V.str)) (rowN ((Txt.split b (Str.ofString " ")).map V.str))) : readP z = none := by
  refine read_noneP e ?_
  rintro ⟨⟨l1, n1, d1⟩, ⟨l2, n2, d2⟩, ap⟩
  rcases h with ⟨_, q⟩ | ⟨_, _, q | ⟨x, y, q1, q2, q⟩⟩
  · rw [rowN_coup l1 n1 d1] at q
    cases q
  · rw [rowN_coup l2 n2 d2] at q
    cases q
  · rw [rowN_of n1 d1] at q1
    rw [rowN_of n2 d2] at q2
    cases q1
    cases q2
    exact q ap
theorem read_threeP {z : Str} (h : ∀ a b, Txt.split z (Str.ofString " / ") ≠ [a, b]) : readP z = none := by
  unfold readP
  split
  · rename_i a b e
    exact absurd e (h a b)
  · rfl
end Z
namespace Z
open PySem PySem.Spec PyProof.Rows L2
/-! ### the order of data -/
def rOrdD (K : PySem.W.Frag) (f : PyData → PyData → Bool) : R2 := fun x y H Q => ∃ d e, Dp K H x d ∧ Dp K H y e ∧ PySem.W.alike d e = true ∧ d ≠ .none ∧ d.depth ≤ 64 ∧ Q (.bl (f d e)) H
section
variable {X : Cx} {K : PySem.W.Frag}
theorem room_ord {A : Around} {d e : PyData} (hu : A.units + 70 < cLine) (h : d.depth ≤ 64) : A.units + min d.depth e.depth < cLine := by omega
theorem kop_ltD (hu : X.A.units + 70 < cLine) (hK : X.K = K := by rfl) : OpR X (compareOp .Lt) (rOrdD K fun d e => PySem.W.dataLt d e) := by
  subst hK
  rintro pins s σ H x y v u Q I rx ry ⟨d, e, hd, he, al, nn, dp, q⟩
  obtain ⟨as, r1⟩ := Dp.reads I d x v hd rx
  obtain ⟨bs, r2⟩ := Dp.reads I e y u he ry
  exact PySem.W.lt_data r1 r2 al nn (room_ord hu dp) ⟨.bl _, H, I, rfl, q⟩
theorem kop_gtD (hu : X.A.units + 70 < cLine) (hK : X.K = K := by rfl) : OpR X (compareOp .Gt) (rOrdD K fun d e => PySem.W.dataLt e d) := by
  subst hK
  rintro pins s σ H x y v u Q I rx ry ⟨d, e, hd, he, al, nn, dp, q⟩
  obtain ⟨as, r1⟩ := Dp.reads I d x v hd rx
  obtain ⟨bs, r2⟩ := Dp.reads I e y u he ry
  exact PySem.W.gt_data r1 r2 al nn (room_ord hu dp) ⟨.bl _, H, I, rfl, q⟩
theorem kop_leD (hu : X.A.units + 70 < cLine) (hK : X.K = K := by rfl) : OpR X (compareOp .LtE) (rOrdD K fun d e => !PySem.W.dataLt e d) := by
  subst hK
  rintro pins s σ H x y v u Q I rx ry ⟨d, e, hd, he, al, nn, dp, q⟩
  obtain ⟨as, r1⟩ := Dp.reads I d x v hd rx
  obtain ⟨bs, r2⟩ := Dp.reads I e y u he ry
  exact PySem.W.le_data r1 r2 al nn (room_ord hu dp) ⟨.bl _, H, I, rfl, q⟩
theorem kop_geD (hu : X.A.units + 70 < cLine) (hK : X.K = K := by rfl) : OpR X (compareOp .GtE) (rOrdD K fun d e => !PySem.W.dataLt d e) := by
  subst hK
  rintro pins s σ H x y v u Q I rx ry ⟨d, e, hd, he, al, nn, dp, q⟩
  obtain ⟨as, r1⟩ := Dp.reads I d x v hd rx
  obtain ⟨bs, r2⟩ := Dp.reads I e y u he ry
  exact PySem.W.ge_data r1 r2 al nn (room_ord hu dp) ⟨.bl _, H, I, rfl, q⟩
end
/-- rows of texts, by the first place at which they differ -/
def lexS : List Str → List Str → Bool
  | [], [] => false
  | [], _ :: _ => true
  | _ :: _, [] => false
  | x :: xs, y :: ys => if x = y then lexS xs ys else sLt x y
theorem alike_strs : ∀ xs ys : List Str, PySem.W.alikeAll (xs.map PyData.str) (ys.map PyData.str) = true
  | [], _ => by simp only [List.map_nil, PySem.W.alikeAll]
  | _ :: _, [] => by simp only [List.map_cons, List.map_nil, PySem.W.alikeAll]
  | x :: xs, y :: ys => by
    simp only [List.map_cons, PySem.W.alikeAll, PySem.W.alike, Bool.true_and]
    exact alike_strs xs ys
theorem lex_strs : ∀ xs ys : List Str, PyProof.Rows.lexLt PyProof.Rows.itemOrd (PySem.W.keyToksAll (xs.map PyData.str)) (PySem.W.keyToksAll (ys.map PyData.str)) = lexS xs ys
  | [], [] => by simp only [List.map_nil, PySem.W.keyToksAll, lexS]; rfl
  | [], _ :: _ => by simp only [List.map_nil, List.map_cons, PySem.W.keyToksAll, lexS]; rfl
  | _ :: _, [] => by simp only [List.map_nil, List.map_cons, PySem.W.keyToksAll, lexS]; rfl
  | x :: xs, y :: ys => by
    have al : PySem.W.alike (.str x) (.str y) = true := by simp only [PySem.W.alike]
    have eq : PyData.eqv (.str x) (.str y) = decide (x = y) := by
      have := eqv_strs [x] [y]
      simp only [List.map_cons, List.map_nil, PyData.eqvAll, Bool.and_true] at this
      rw [this]
      simp
    show PyProof.Rows.lexLt PyProof.Rows.itemOrd (PySem.W.keyToksAll (PyData.str x :: xs.map PyData.str)) (PySem.W.keyToksAll (PyData.str y :: ys.map PyData.str)) = if x = y then lexS xs ys else sLt x y
    by_cases h : x = y
    · rw [PySem.W.dataLt_all_yes al (by rw [eq, decide_eq_true h]), if_pos h, lex_strs xs ys]
    · rw [PySem.W.dataLt_all_no al (by rw [eq, decide_eq_false h]), if_neg h, PySem.W.dataLt_str]
      rfl
theorem lt_strs (xs ys : List Str) : PySem.W.dataLt (.tuple (xs.map PyData.str)) (.tuple (ys.map PyData.str)) = lexS xs ys := by rw [PySem.W.dataLt_tuple, lex_strs]
theorem alike_tup (xs ys : List Str) : PySem.W.alike (.tuple (xs.map PyData.str)) (.tuple (ys.map PyData.str)) = true := by
  simp only [PySem.W.alike]
  exact alike_strs xs ys
theorem lex_two {a b c d : PyData} (h1 : PySem.W.alike a c = true) (h2 : PySem.W.alike b d = true) : PySem.W.dataLt (.tuple [a, b]) (.tuple [c, d]) = if PyData.eqv a c = true then PySem.W.dataLt b d else PySem.W.dataLt a c := by
  rw [PySem.W.dataLt_tuple]
  cases e : PyData.eqv a c with
  | true =>
    rw [PySem.W.dataLt_all_yes h1 e, if_pos rfl]
    cases e2 : PyData.eqv b d with
    | true =>
      rw [PySem.W.dataLt_all_yes h2 e2]
      have k : PySem.W.keyToks b = PySem.W.keyToks d := (PySem.W.toks_eqv b d h2).1 e2
      unfold PySem.W.dataLt
      rw [k]
      refine Eq.trans ?_ (PySem.W.dataLt_self d).symm
      simp only [PySem.W.keyToksAll]; rfl
    | false => rw [PySem.W.dataLt_all_no h2 e2]
  | false => rw [PySem.W.dataLt_all_no h1 e, if_neg Bool.false_ne_true]
theorem alike_two {a b c d : PyData} (h1 : PySem.W.alike a c = true) (h2 : PySem.W.alike b d = true) : PySem.W.alike (.tuple [a, b]) (.tuple [c, d]) = true := by
  simp only [PySem.W.alike, PySem.W.alikeAll, h1, h2, Bool.and_true]
/-! ### partings by their order -/
def pKey (a : List Str × List Str × List Str) : PyData := .tuple [.tuple (a.1.map .str), .tuple [.tuple (a.2.1.map .str), .tuple (a.2.2.map .str)]]
def ltP (a b : List Str × List Str × List Str) : Bool := if a.1 = b.1 then (if a.2.1 = b.2.1 then lexS a.2.2 b.2.2 else lexS a.2.1 b.2.1) else lexS a.1 b.1
theorem alike_pKey (a b : List Str × List Str × List Str) : PySem.W.alike (pKey a) (pKey b) = true := alike_two (alike_tup _ _) (alike_two (alike_tup _ _) (alike_tup _ _))
theorem lt_pKey (a b : List Str × List Str × List Str) : PySem.W.dataLt (pKey a) (pKey b) = ltP a b := by
  unfold pKey ltP
  rw [lex_two (alike_tup _ _) (alike_two (alike_tup _ _) (alike_tup _ _)), lex_two (alike_tup _ _) (alike_tup _ _), eqv_tup, eqv_tup, lt_strs, lt_strs, lt_strs]
  simp only [decide_eq_true_eq]
theorem depth_pKey (a : List Str × List Str × List Str) : (pKey a).depth ≤ 64 := by simp [pKey, PyData.depth, PyData.depthAll, deep_strs]
end Z
namespace Z
open PySem PySem.Spec PyProof.Rows L2
/-! ### enumerate of a tuple -/
section
abbrev enumO (it : Addr) : Obj := { cls := .type "enumerate", data := .fields #[.none, .bool false, .ref it, rawInt 0, .none, .none] }
theorem enum_made {v : Value} {o : Obj} {L : Heap → Prop} (B : Begins v o L) : Meets (Builtin.«enumerate.__new__» ⟨[.type "enumerate", v], []⟩) (fun _ R s => L s.heap ∧ R (.ok (.ret (.ref (s.heap.push o).objs.size))) { s with heap := (s.heap.push o).push (enumO s.heap.objs.size) }) :=
  .of_wp fun prog w A R s h => by
    obtain ⟨hp, g, d, tk, os⟩ := s; obtain ⟨l, k⟩ := h
    have u := sub_enumerate
    have it : ∀ {A' : Around} {E Q : Value → Shared → Prop}, Q (.ref hp.objs.size) ⟨hp.push o, g, d, tk, os⟩ → wpAny (model prog w) A' (pyIter v) Q E ⟨hp, g, d, tk, os⟩ := fun q => B.iter prog w _ _ ⟨hp, g, d, tk, os⟩ _ l q
    wp_walk using it
    refine wpAny_stack_any (fun x => (wpAny_pure ?_)); split
    · rename_i c _ _ _ _ _; cases (c == Value.type "enumerate") <;> (wp_walk using it; exact ⟨_, rfl, k⟩)
    · wp_walk using it; exact ⟨_, rfl, k⟩
variable {prog : Program} {w : World} {A : Around} {E : Value → Shared → Prop} {s : Shared}
theorem call_enumB {v : Value} {o : Obj} {L : Heap → Prop} {Q : Value → Shared → Prop} (B : Begins v o L) (l : L s.heap)
    (h : ∀ h', IsEnum h' (s.heap.objs.size + 1) s.heap.objs.size 0 .none → h'.get? s.heap.objs.size = some o → (∀ b o, s.heap.get? b = some o → h'.get? b = some o) → Q (.ref (s.heap.objs.size + 1)) { s with heap := h' }) : wpAny (model prog w) A (call (.type "enumerate") [v]) Q E s := by
  have z : (s.heap.push o).objs.size = s.heap.objs.size + 1 := Heap.size_push ..
  refine callType_new F.called_enumerate (by decide) (F.typeCall_enumerate_1 _) (F.newCall_enumerate_1 _) (fun q => F.args_object_init_2 q _) F.entry_enumerate_new (enum_made B) ⟨l, ?_⟩
  show _ ∧ _; rw [z]
  have e : IsEnum ((s.heap.push o).push (enumO s.heap.objs.size)) (s.heap.objs.size + 1) s.heap.objs.size 0 .none := by have q := Heap.get?_push_size (s.heap.push o) (o := enumO s.heap.objs.size) rfl; rw [z] at q; exact q
  exact ⟨⟨_, e, rfl⟩, h _ e (Heap.get?_push_of_some _ (Heap.get?_push_size _ B.free)) fun b o x => Heap.get?_push_of_some _ (Heap.get?_push_of_some _ x)⟩
end
/-- the items of the tuple at a in new pairs -/
def IteT (K : PySem.W.Frag) (a : Addr) : It := ⟨fun i H => ∃ (xs : List V) (x : V), SqT K H a xs ∧ xs[i]? = some x,
  fun i H v H' => ∃ T x, v = .ref T ∧ H T = none ∧ H' = upd H T (.tup [.int (i : Nat), x]) ∧ ∀ xs, SqT K H a xs → xs[i]? = some x, fun i H => ∃ xs : List V, SqT K H a xs ∧ xs.length ≤ i⟩
theorem enum_apart {h : Heap} {e it a : Addr} {i : Int} {old : Value} {its : Array Value} (he : IsEnum h e it i old) (ht : h.IsTuple a its) : e ≠ a := fun q => by
  subst q; obtain ⟨o, e1, c, _⟩ := ht; have e2 := he.symm.trans e1; cases e2; simp at c
theorem iter_apart {h : Heap} {it a : Addr} {i : Nat} {its : Array Value} (hi : h.IsTupleIter it a i) (ht : h.IsTuple a its) : a ≠ it := fun q => by
  subst q; obtain ⟨o, e1, c, _⟩ := ht; obtain ⟨o2, e2, c2, _⟩ := hi; rw [e1] at e2; cases e2; rw [c] at c2; simp at c2
theorem turn_enumT {P : Program} {w : World} {K : PySem.W.Frag} {elts : List Expr} {kk : Nat} {tpos : Pos} (a e it : Addr) :
    Turn P w K (.Tuple elts kk tpos) (IteT K a) [e, it] e (fun i h => (∃ old, IsEnum h e it ((i : Nat) : Int) old) ∧ h.IsTupleIter it a i ∧ e ≠ it) where
  mem := List.mem_cons_self ..
  obj := fun i h st b hb => by
    obtain ⟨⟨old, he⟩, ⟨o, ho, hc, hd⟩, _⟩ := st
    rcases List.mem_cons.mp hb with z | z
    · subst z; exact ⟨_, he, fun v q => nomatch q⟩
    · obtain rfl := List.mem_singleton.mp z; exact ⟨o, ho, fun v q => by rw [hd] at q; cases q⟩
  keep := fun i h h' ⟨⟨old, he⟩, hi, ne⟩ k => ⟨⟨old, k e (by simp) _ he⟩, hi.at fun o q => k it (by simp) o q, ne⟩
  item := by
    intro X hP hw hK hc i pins s σ H E I hf st hg
    subst hP hw hK
    obtain ⟨⟨old, he⟩, hit, ne⟩ := st; obtain ⟨xs, x, hq, hx⟩ := hg
    obtain ⟨its, rv, p, hz⟩ := I.tuple hq; obtain ⟨u, hu, ru⟩ := rv.get hx
    have le : e < s.heap.objs.size := Heap.lt_size he
    have li : it < s.heap.objs.size := by obtain ⟨_, q, _⟩ := hit; exact Heap.lt_size q
    have nea := enum_apart he p
    have nai := iter_apart hit p
    have lt : i < its.toArray.size := by have := (List.getElem?_eq_some_iff.mp hu).1; simpa using this
    refine wpAny_pyNext_enum_itemD (Draws.tuple (A := X.A.in1) (show X.A.in1.handled = none from I.ok.hd hc) it a nai its.toArray) he ⟨hit, p⟩ lt ne (by simp [ne, nea]) (fun y h' tk hy ho st' hT _ hk => ?_)
    have ey : y = u := by have q : its.toArray[i]? = some u := by simpa using hu
                          exact Option.some.inj (hy.symm.trans q)
    subst ey
    refine ⟨_, rfl, wpAny_letOwnedTupleGo_enum (s := { s with heap := h', toks := tk + 1 }) ho (fun h'' he' sb => ?_)⟩
    have T2 : h''.get? s.heap.objs.size = some { cls := .type "tuple", data := .seq #[.int i tk, y] } := (sb.2 _ (Nat.ne_of_gt le)).trans hT
    have I1 := I.turnedNew (t' := tk + 1) (ch := [e, it]) (T := s.heap.objs.size) (ob := .tup [.int (i : Nat), x]) (fun b ob hb q => (sb.2 b (fun z => hb (by simp [z]))).trans (hk b ob (fun z => hb (by simp [z])) (fun z => hb (by simp [z])) q)) hf (Nat.le_refl _)
      ⟨by show 2 ≤ sizeLine; decide, [.int i tk, y], .cons ⟨_, rfl⟩ (.cons ru .nil), ⟨_, T2, rfl, _, rfl⟩⟩
    refine ⟨.ref s.heap.objs.size, _, I1, rfl, ⟨_, x, rfl, I.hok.fresh (Nat.le_refl _), rfl, fun ys hy => by rw [I.tuple_inj hy hq]; exact hx⟩, ⟨⟨y, ?_⟩, st'.1.at fun o q => (sb.2 it (Ne.symm ne)).trans q, ne⟩, fun b hb => ?_⟩
    · rw [show ((i + 1 : Nat) : Int) = (i : Int) + 1 by omega]; exact he'
    · have lb : b < s.heap.objs.size := by
        rcases List.mem_cons.mp hb with z | z
        · rw [z]; exact le
        · rw [List.mem_singleton.mp z]; exact li
      rw [upd_ne (Nat.ne_of_lt lb)]; exact (hf b hb).1
  done := by
    intro X hP hw hK hc i pins s σ H E I hf st hg
    subst hP hw hK
    obtain ⟨⟨old, he⟩, hit, ne⟩ := st; obtain ⟨xs, hq, hx⟩ := hg
    obtain ⟨its, rv, p, hz⟩ := I.tuple hq; obtain ⟨f0, f1, f2, f3, f4, f5⟩ := hf it (by simp)
    have nai := iter_apart hit p
    have hl := rv.length
    unfold pyNext
    have T : s.TypeIs (.ref e) "enumerate" := ⟨_, he, rfl⟩
    refine wpAny_bind (wpAny_attempt (wpAny_callSpecial?_slot (name := "__next__") T F.slot_enumerate_next (wpAny_call_entry F.slot_enumerate_next T F.entry_enumerate_next ?_ (F.args_enumerate_next_1 _))))
    show wpAny _ _ (field (.ref e) 2 >>= _) _ _ _
    refine wpAny_bind (wpAny_field he rfl (x := .ref it) rfl (wpAny_bind (RZ.nextOf_tuple_end (I.ok.hd hc) hit p (by simp; omega) fun h' x eb hx' => ?_)))
    obtain ⟨o, ho, c⟩ := hx'
    exact wpAny_bind (wpAny_isInstance (T := "StopIteration") (b := true) ⟨o, ho, c⟩ isSubtype_stop (wpAny_pure ⟨rfl, I.turned (t' := s.toks) (fun b o hb q => eb b o hb q) f0 f1 f3 f4 f5⟩))
  self := fun A i s Q E ⟨⟨_, he⟩, _⟩ h => wpAny_pyIter_enum he h
def iEnumT (K : PySem.W.Frag) (ta : TA) : TI := fun σ H R => ta σ H fun vs H1 => ∃ a xs, vs = [.ref a] ∧ SqT K H1 a xs ∧ R (IteT K a) H1
theorem kpi_enumT {X : Cx} {K : PySem.W.Frag} {e : Expr} {ta : TA} {p pos tpos : Pos} {elts : List Expr} {kk : Nat} (hg : Gl X "enumerate") (hm : X.mg "enumerate" = none) (ha : PA X [e] ta) (hs : starEach [e] X.env = [(false, eval e X.env)] := by rfl) (hK : X.K = K := by rfl) :
    PI X (.Tuple elts kk tpos) (.Call (.Name "enumerate" p) [e] [] pos) (iEnumT K ta) := by
  subst hK
  refine ⟨fun pins s σ H R I h => Call_ (ld_blt I hg hm boot_enumerate (PyProof.Rows.callWith_type1 (thn (ha.run pos pins s σ H _ I h) fun us s1 ⟨vs, H1, I1, r1, q1⟩ => ?_) hs rfl))⟩
  obtain ⟨a, xs, rfl, hq, q⟩ := q1
  cases r1 with
  | cons r rr =>
    cases rr; cases r
    obtain ⟨its, rv, p', hz⟩ := I1.tuple hq
    refine call_enumB (begins_tuple a its.toArray) p' fun h' he hi hk => wpAny_pyIter_enum he ?_
    refine ⟨s1.heap.objs.size + 1, [s1.heap.objs.size + 1, s1.heap.objs.size], _, _, H1, rfl, I1.kept (t' := s1.toks) hk, turn_enumT a (s1.heap.objs.size + 1) s1.heap.objs.size, ⟨⟨.none, he⟩, ⟨_, hi, rfl, rfl⟩, Nat.succ_ne_self _⟩, fun b hb => ?_, q⟩
    have le : s1.heap.objs.size ≤ b := by
      rcases List.mem_cons.mp hb with z | z
      · rw [z]; exact Nat.le_add_right _ _
      · rw [List.mem_singleton.mp z]; exact Nat.le_refl _
    exact I1.fpOk le (I1.hok.fresh le)
theorem walk_enumT {K : PySem.W.Frag} {a : Addr} {xs : List V} : Walk (IteT K a) xs.length (fun H => SqT K H a xs) (YPair (fun i => some (.int (i : Nat))) (fun i => xs[i]?)) := by
  refine ⟨fun i _ hi q => ⟨xs, xs[i], q, by simp [hi]⟩, fun _ q => ⟨xs, q, Nat.le_refl _⟩, fun i H v H' _ q ⟨T, x, h1, h2, h3, h4⟩ => ⟨T, .int (i : Nat), x, h1, h2, h3, rfl, h4 xs q⟩⟩
end Z
namespace Z
open PySem PySem.Spec PyProof.Rows L2
/-! ### comprehensions whose items are new things -/
def RowsV (R : V → V → Hp → Prop) (H : Hp) : List V → List V → Prop
  | [], [] => True
  | r :: rs, x :: xs => R x r H ∧ RowsV R H rs xs
  | _, _ => False
theorem RowsV.len {R : V → V → Hp → Prop} {H : Hp} : ∀ {rs xs : List V}, RowsV R H rs xs → rs.length = xs.length
  | [], [], _ => rfl
  | _ :: rs, _ :: xs, h => by rw [List.length_cons, List.length_cons, RowsV.len (rs := rs) (xs := xs) h.2]
theorem RowsV.imp {R S : V → V → Hp → Prop} {H H' : Hp} : ∀ {rs xs : List V}, (∀ x r, R x r H → S x r H') → RowsV R H rs xs → RowsV S H' rs xs
  | [], [], _, _ => trivial
  | _ :: rs, _ :: xs, k, h => ⟨k _ _ h.1, RowsV.imp (rs := rs) (xs := xs) k h.2⟩
theorem RowsV.snoc {R : V → V → Hp → Prop} {H : Hp} {r x : V} (e : R x r H) : ∀ {rs xs : List V}, RowsV R H rs xs → RowsV R H (rs ++ [r]) (xs ++ [x])
  | [], [], _ => ⟨e, trivial⟩
  | _ :: rs, _ :: xs, h => ⟨h.1, RowsV.snoc e (rs := rs) (xs := xs) h.2⟩
theorem RowsV.app {R : V → V → Hp → Prop} {H : Hp} {rs2 xs2 : List V} (e : RowsV R H rs2 xs2) : ∀ {rs xs : List V}, RowsV R H rs xs → RowsV R H (rs ++ rs2) (xs ++ xs2)
  | [], [], _ => e
  | _ :: rs, _ :: xs, h => ⟨h.1, RowsV.app e (rs := rs) (xs := xs) h.2⟩
theorem RowsV.at {R : V → V → Hp → Prop} {H : Hp} : ∀ {rs xs : List V} {i : Nat} {x : V}, RowsV R H rs xs → xs[i]? = some x → ∃ r, rs[i]? = some r ∧ R x r H := by
  intro rs
  induction rs with
  | nil => intro xs i x h e; cases xs with
    | nil => cases e
    | cons _ _ => exact h.elim
  | cons r rs ih => intro xs i x h e; cases xs with
    | nil => exact h.elim
    | cons y xs => cases i with
      | zero => cases e; exact ⟨r, rfl, h.1⟩
      | succ i => exact ih (xs := xs) (i := i) h.2 e
theorem RowsV.at2 {R : V → V → Hp → Prop} {H : Hp} : ∀ {rs xs : List V} {i : Nat} {r : V}, RowsV R H rs xs → rs[i]? = some r → ∃ x, xs[i]? = some x ∧ R x r H := by
  intro rs
  induction rs with
  | nil => intro xs i x h e; cases e
  | cons r rs ih => intro xs i x h e; cases xs with
    | nil => exact h.elim
    | cons y xs => cases i with
      | zero => cases e; exact ⟨y, rfl, h.1⟩
      | succ i => exact ih (xs := xs) (i := i) h.2 e
structure Stays (R : V → V → Hp → Prop) : Prop where
  same : ∀ x r H H', Same H H' → R x r H → R x r H'
  lst : ∀ x r H a ys zs, H a = some (.lst ys) → R x r H → R x r (upd H a (.lst zs))
theorem Stays.but {R : V → V → Hp → Prop} (st : Stays R) {H H' : Hp} {p : Addr} {ys zs : List V} (hp : H p = some (.lst ys)) (hp' : H' p = some (.lst zs)) (b : But p H H') {x r : V} (h : R x r H) : R x r H' := by
  refine st.same x r _ _ (fun q o e => ?_) (st.lst x r H p ys zs hp h)
  by_cases z : q = p
  · rw [z] at e ⊢; rw [upd_same] at e; rw [hp']; exact e
  · rw [upd_ne z] at e; exact b _ _ z e
section
variable {J : It} {n : Nat} {G : Hp → Prop} {Y : Nat → Hp → V → Hp → Prop} {g : TG} {tt : TT} {te : TE} {vs : List Nat} {σ : L2.St} {H1 : Hp} {D : Addr} {Qd : Hp → Prop}
theorem lc_newV (w : Walk J n G Y) (xs : List V) (R : V → V → Hp → Prop) (st : Stays R) (hn : n = xs.length) (hY : ∀ i H x H', i < n → Y i H x H' → H' = H ∧ xs[i]? = some x) (hD : H1 D = none) (hG : ∀ H', Same H1 H' → G H') (hz : xs.length < sizeLine)
    (hs : ∀ x ∈ xs, ∀ H', Same H1 H' → ∀ (Kt : V → Hp → Prop) (Kf : Hp → Prop), (∀ r H2, Same H' H2 → R x r H2 → Kt r H2) → g x (wipe σ vs) H' fun σ2 H2 => wipe σ2 vs = wipe σ vs ∧ tt σ2 H2 fun b H3 => if b = true then te σ2 H3 Kt else Kf H3)
    (hd : ∀ H' rs, Same H1 H' → H' D = some (.lst rs) → RowsV R H' rs xs → Qd H') :
    ∃ W : Nat → Nat → Hp → Prop, (∃ m, W 0 m (upd H1 D (.lst []))) ∧ ∀ i m H, W i m H → (J.stop i H ∧ Qd H) ∨ (J.go i H ∧ ∃ Nx : Hp → Prop, (∀ H', Nx H' → ∃ m', m' < m ∧ W (i + 1) m' H') ∧ ∀ x H', J.yld i H x H' → g x (wipe σ vs) H' fun σ2 H2 => wipe σ2 vs = wipe σ vs ∧ tt σ2 H2 fun b H3 => if b = true then te σ2 H3 fun y H4 => ∃ acc, H4 D = some (.lst acc) ∧ acc.length < sizeLine ∧ Nx (upd H4 D (.lst (acc ++ [y]))) else Nx H3) := by
  refine lc_it w (fun i H => Same H1 H ∧ ∃ rs : List V, H D = some (.lst rs) ∧ RowsV R H rs (xs.take i)) ⟨same_new hD, [], upd_same, trivial⟩ (fun i H _ k => hG _ k.1) ?_ ?_
  · rintro i x H H' hi ⟨sm, rs, at_, fa⟩ y
    obtain ⟨rfl, hx⟩ := hY i _ x H' hi y
    refine hs x (List.mem_of_getElem? hx) _ sm _ _ (fun r H2 s2 re => ⟨_, s2 _ _ at_, ?_, fun b o h => by rw [upd_ne (ne_of_none h hD)]; exact s2 _ _ (sm _ _ h), rs ++ [r], upd_same, ?_⟩)
    · have := fa.len
      have b : (xs.take i).length ≤ xs.length := by rw [List.length_take]; omega
      omega
    · rw [show xs.take (i + 1) = xs.take i ++ [x] by rw [List.take_add_one, hx]; rfl]
      exact RowsV.snoc (st.lst _ _ _ _ _ _ (s2 _ _ at_) re) (fa.imp fun x r q => st.lst _ _ _ _ _ _ (s2 _ _ at_) (st.same _ _ _ _ s2 q))
  · rintro H ⟨sm, rs, at_, fa⟩
    rw [hn, List.take_length] at fa
    exact hd H rs sm at_ fa
end
/-! ### items with their places -/
def idxF (p : Nat → Bool) : Nat → List Str → List Str
  | _, [] => []
  | i, x :: xs => if p i = true then x :: idxF p (i + 1) xs else idxF p (i + 1) xs
theorem idxF_snoc (p : Nat → Bool) (x : Str) : ∀ (l : List Str) (k : Nat), idxF p k (l ++ [x]) = idxF p k l ++ if p (k + l.length) = true then [x] else []
  | [], k => by simp only [List.nil_append, idxF, List.length_nil, Nat.add_zero]
  | y :: l, k => by
    have ih := idxF_snoc p x l (k + 1)
    rw [show k + 1 + l.length = k + (y :: l).length by rw [List.length_cons]; omega] at ih
    simp only [List.cons_append, idxF, ih]
    split <;> rfl
section
variable {J : It} {n : Nat} {G : Hp → Prop} {g : TG} {tt : TT} {te : TE} {vs : List Nat} {σ : L2.St} {H1 : Hp} {D : Addr} {Qd : Hp → Prop}
theorem lc_enumF {xs : List Str} (w : Walk J n G (YPair (fun i => some (.int (i : Nat))) (fun i => (xs.map V.str)[i]?))) (p : Nat → Bool) (hn : n = xs.length) (hD : H1 D = none) (hG : ∀ H', Same H1 H' → G H') (hz : xs.length < sizeLine)
    (hs : ∀ i x T H', xs[i]? = some x → Same H1 H' → H' T = some (.tup [.int (i : Nat), .str x]) → ∀ (Kt : V → Hp → Prop) (Kf : Hp → Prop), (p i = true → ∀ H2, Same H' H2 → Kt (.str x) H2) → (p i = false → ∀ H2, Same H' H2 → Kf H2) → g (.ref T) (wipe σ vs) H' fun σ2 H2 => wipe σ2 vs = wipe σ vs ∧ tt σ2 H2 fun b H3 => if b = true then te σ2 H3 Kt else Kf H3)
    (hd : ∀ H', Same H1 H' → H' D = some (.lst ((idxF p 0 xs).map V.str)) → Qd H') :
    ∃ W : Nat → Nat → Hp → Prop, (∃ m, W 0 m (upd H1 D (.lst []))) ∧ ∀ i m H, W i m H → (J.stop i H ∧ Qd H) ∨ (J.go i H ∧ ∃ Nx : Hp → Prop, (∀ H', Nx H' → ∃ m', m' < m ∧ W (i + 1) m' H') ∧ ∀ x H', J.yld i H x H' → g x (wipe σ vs) H' fun σ2 H2 => wipe σ2 vs = wipe σ vs ∧ tt σ2 H2 fun b H3 => if b = true then te σ2 H3 fun y H4 => ∃ acc, H4 D = some (.lst acc) ∧ acc.length < sizeLine ∧ Nx (upd H4 D (.lst (acc ++ [y]))) else Nx H3) := by
  refine lc_it w (fun i H => Same H1 H ∧ H D = some (.lst ((idxF p 0 (xs.take i)).map V.str)) ∧ (idxF p 0 (xs.take i)).length ≤ i) ⟨same_new hD, upd_same, Nat.le_refl _⟩ (fun i H _ k => hG _ k.1) ?_ ?_
  · rintro i y H H' hi ⟨sm, at_, ln⟩ ⟨T, u, x, rfl, hT, rfl, e1, e2⟩
    obtain rfl : V.int (i : Nat) = u := Option.some.inj e1
    have e2 : (xs.map V.str)[i]? = some x := e2
    rw [List.getElem?_map] at e2
    obtain ⟨x, hx, rfl⟩ := Option.map_eq_some_iff.mp e2
    have sT := same_new (o := .tup [.int (i : Nat), .str x]) hT
    have lt : i < xs.length := by omega
    have ti : xs.take (i + 1) = xs.take i ++ [x] := by rw [List.take_add_one, hx]; rfl
    have li : (xs.take i).length = i := by rw [List.length_take]; omega
    have nx : idxF p 0 (xs.take (i + 1)) = idxF p 0 (xs.take i) ++ if p i = true then [x] else [] := by rw [ti, idxF_snoc, li, Nat.zero_add]
    refine hs i x T _ hx (sm.trans sT) upd_same _ _ (fun pt H2 s2 => ⟨_, s2 _ _ (sT _ _ at_), ?_, fun b o h => by rw [upd_ne (ne_of_none h hD)]; exact s2 _ _ (sT _ _ (sm _ _ h)), ?_, ?_⟩) fun pf H2 s2 => ⟨(sm.trans sT).trans s2, ?_, ?_⟩
    · rw [List.length_map]; omega
    · rw [upd_same, nx, if_pos pt, List.map_append]; rfl
    · rw [nx, if_pos pt, List.length_append, List.length_singleton]; omega
    · rw [nx, pf, if_neg Bool.false_ne_true, List.append_nil]; exact s2 _ _ (sT _ _ at_)
    · rw [nx, pf, if_neg Bool.false_ne_true, List.append_nil]; omega
  · rintro H ⟨sm, at_, _⟩
    rw [hn, List.take_length] at at_
    exact hd H sm at_
end
/-! ### data that can be shown and compared -/
structure Lit (n k : Nat) (d : PyData) : Prop where
  c : d.canLay0 = true
  w : d.weight ≤ n
  s : d.showable = true
  i : d.intsShort 13 = true
  d : d.depth ≤ k
structure LitAll (n k : Nat) (ds : List PyData) : Prop where
  c : PyData.canLayAll0 ds = true
  w : PyData.weightAll ds ≤ n
  s : PyData.showableAll ds = true
  i : PyData.intsShortAll 13 ds = true
  d : PyData.depthAll ds ≤ k
theorem Lit.str {x : Str} (h : IsNm x) : Lit 8 0 (.str x) := ⟨by simp only [PyData.canLay0]; exact h.ok, by simp only [PyData.weight]; exact h.hi, by simp only [PyData.showable], by simp only [PyData.intsShort], by simp [PyData.depth]⟩
theorem Lit.word {x : Str} {n : Nat} (h : Word n x) : Lit n 0 (.str x) := ⟨by simp only [PyData.canLay0]; exact h.p.ok, by simp only [PyData.weight]; exact h.l, by simp only [PyData.showable], by simp only [PyData.intsShort], by simp [PyData.depth]⟩
theorem Lit.bl (b : Bool) : Lit 0 0 (.bool b) := ⟨by simp only [PyData.canLay0], by simp only [PyData.weight]; omega, by simp only [PyData.showable], by simp only [PyData.intsShort], by simp [PyData.depth]⟩
theorem Lit.non : Lit 0 0 .none := ⟨by simp only [PyData.canLay0], by simp only [PyData.weight]; omega, by simp only [PyData.showable], by simp only [PyData.intsShort], by simp [PyData.depth]⟩
theorem Lit.mono {n m k l : Nat} {d : PyData} (h : Lit n k d) (a : n ≤ m) (b : k ≤ l) : Lit m l d := ⟨h.c, Nat.le_trans h.w a, h.s, h.i, Nat.le_trans h.d b⟩
theorem LitAll.nil : LitAll 0 0 [] := ⟨by simp only [PyData.canLayAll0], by simp only [PyData.weightAll]; omega, by simp only [PyData.showableAll], by simp only [PyData.intsShortAll], by simp [PyData.depthAll]⟩
theorem LitAll.cons {n m k l : Nat} {d : PyData} {ds : List PyData} (h : Lit n k d) (t : LitAll m l ds) : LitAll (n + 1 + m) (max k l) (d :: ds) :=
  ⟨by simp only [PyData.canLayAll0, h.c, t.c, Bool.and_self], by have := h.w; have := t.w; simp only [PyData.weightAll]; omega, by simp only [PyData.showableAll, h.s, t.s, Bool.and_self], by simp only [PyData.intsShortAll, h.i, t.i, Bool.and_self], by have := h.d; have := t.d; simp only [PyData.depthAll]; omega⟩
theorem LitAll.mono {n m k l : Nat} {ds : List PyData} (h : LitAll n k ds) (a : n ≤ m) (b : k ≤ l) : LitAll m l ds := ⟨h.c, Nat.le_trans h.w a, h.s, h.i, Nat.le_trans h.d b⟩
theorem Lit.list {n k : Nat} {ds : List PyData} (h : LitAll n k ds) : Lit n (k + 1) (.list ds) := ⟨by simp only [PyData.canLay0]; exact h.c, by simp only [PyData.weight]; exact h.w, by simp only [PyData.showable]; exact h.s, by simp only [PyData.intsShort]; exact h.i, by have := h.d; simp only [PyData.depth]; omega⟩
theorem Lit.tup {n k : Nat} {ds : List PyData} (h : LitAll n k ds) : Lit n (k + 1) (.tuple ds) := ⟨by simp only [PyData.canLay0]; exact h.c, by simp only [PyData.weight]; exact h.w, by simp only [PyData.showable]; exact h.s, by simp only [PyData.intsShort]; exact h.i, by have := h.d; simp only [PyData.depth]; omega⟩
theorem LitAll.of {n k : Nat} : ∀ {ds : List PyData}, (∀ d ∈ ds, Lit n k d) → LitAll ((n + 1) * ds.length) k ds
  | [], _ => by have := LitAll.nil.mono (Nat.le_refl 0) (Nat.zero_le k); simpa using this
  | d :: ds, h => by
    have := LitAll.cons (h d (.head _)) (LitAll.of fun x hx => h x (.tail _ hx))
    refine this.mono ?_ (by omega)
    rw [List.length_cons, Nat.mul_succ]; omega
theorem LitAll.strs {xs : List Str} (h : ∀ x ∈ xs, IsNm x) : LitAll (9 * xs.length) 0 (xs.map PyData.str) := by
  have := LitAll.of (n := 8) (k := 0) (ds := xs.map PyData.str) fun d hd => by obtain ⟨x, hx, rfl⟩ := List.mem_map.mp hd; exact .str (h x hx)
  rw [List.length_map] at this
  exact this
theorem LitAll.bools (bs : List Bool) : LitAll bs.length 0 (bs.map PyData.bool) := by
  have := LitAll.of (n := 0) (k := 0) (ds := bs.map PyData.bool) fun d hd => by obtain ⟨x, hx, rfl⟩ := List.mem_map.mp hd; exact .bl x
  rw [List.length_map] at this
  exact this.mono (by omega) (Nat.le_refl _)
theorem Lit.strs {xs : List Str} (h : ∀ x ∈ xs, IsNm x) : Lit (9 * xs.length) 1 (.tuple (xs.map PyData.str)) := .tup (.strs h)
theorem Lit.strsL {xs : List Str} (h : ∀ x ∈ xs, IsNm x) : Lit (9 * xs.length) 1 (.list (xs.map PyData.str)) := .list (.strs h)
theorem Lit.shaped {n k : Nat} {d : PyData} (h : Lit n k d) (b : k ≤ 64 := by omega) : SeqAt.shaped d = true := by
  unfold SeqAt.shaped
  rw [h.c, decide_eq_true (Nat.le_trans h.d b)]; rfl
theorem Lit.dict {n k : Nat} {d : PyData} (h : Lit n k d) : d.hasDict = false := PyData.hasDict_of_canLay d h.c
theorem Lit.ok {n k : Nat} {d : PyData} (h : Lit n k d) (a : n ≤ 1000000 := by omega) (b : k ≤ 64 := by omega) : d.showable = true ∧ d.hasDict = false ∧ d.depth ≤ 64 ∧ d.shown.length ≤ sizeLine := by
  refine ⟨h.s, h.dict, Nat.le_trans h.d b, shown_fit ?_ h.i⟩
  unfold PyData.layable0
  have w := h.w
  rw [h.c, decide_eq_true (Nat.le_trans h.d b), decide_eq_true (show d.weight ≤ 2 ^ 20 by omega)]; rfl
theorem kpg_tup {X : Cx} {K : PySem.W.Frag} {es : List Expr} {k : Nat} {pos : Pos} {t : TGs} {n : Nat} (hc : X.calm = true) (h : PGs X es t) (hn : (assignEach es X.env).length = n := by rfl) (hst : (assignEach es X.env).findIdx? (·.1) = none := by rfl) (hK : X.K = K := by rfl) : PG X (.Tuple es k pos) (gTup K n t) := by
  subst hK
  exact pg_tup hc h hn hst
/-! ### hosts that a law draws -/
structure Hosts (n : Nat) (hs : List Str) : Prop where
  len : hs.length = n
  nm : ∀ x ∈ hs, IsNm x
  nd : hs.Nodup
  so : sortedS hs = true
theorem names_of {L : List Str} (h : L.all nmB = true) : ∀ n ∈ L, IsNm n := fun n hn => nmB_iff.mp (List.all_eq_true.mp h n hn)
theorem Hosts.pair {n : Nat} {hs : List Str} (h : Hosts n hs) : hs.Pairwise leS := sorted_pair h.so
end Z
namespace Z
open PySem PySem.Spec PyProof.Rows L2 TL
/-! ### the text of a parting, read -/
theorem slash_pre {l : List Nat} (h : pre [32, 47, 32] l = true) : l[1]? = some 47 := by
  match l, h with
  | [], h => exact absurd h (by decide)
  | [a], h => simp [pre] at h
  | a :: b :: r, h =>
    simp [pre] at h
    simp [h]
theorem slash_free {p q : List Nat} (h : 47 ∉ p) (hq : q = [] ∨ ∃ r, q = 32 :: r) : ∀ i, i < p.length → pre [32, 47, 32] ((p ++ q).drop i) = false := fun i hi => by
  cases e : pre [32, 47, 32] ((p ++ q).drop i) with
  | false => rfl
  | true =>
    have e := slash_pre e
    rw [List.getElem?_drop] at e
    by_cases hl : i + 1 < p.length
    · rw [List.getElem?_append_left hl] at e
      exact absurd (List.mem_of_getElem? e) h
    · have q0 : i + 1 = p.length := by omega
      rw [q0, List.getElem?_append_right (Nat.le_refl _), Nat.sub_self] at e
      rcases hq with rfl | ⟨r, rfl⟩
      · simp at e
      · simp at e
theorem split_slash {a b : Str} (ha : 47 ∉ tl a) (hb : 47 ∉ tl b) : Txt.split (a ++ Str.ofString " / " ++ b) (Str.ofString " / ") = [a, b] := by
  refine map_tl_inj ?_
  rw [split_spl _ _ (by rw [tl_slash]; simp) (kind_ok (by decide +kernel)), tl_append, tl_append, tl_slash, List.append_assoc, spl_part (by simp) (slash_free ha (.inr ⟨_, rfl⟩)), spl_last (fun i hi => by
    have z := slash_free (q := []) hb (.inl rfl) i hi
    rw [List.append_nil] at z
    exact z)]
  rfl
theorem split_sps {ws : List Str} (hn : ws ≠ []) (h : ∀ w ∈ ws, IsNm w) : Txt.split (Txt.join (Str.ofString " ") ws) (Str.ofString " ") = ws :=
  split_join tl_sp (by decide +kernel) hn fun w hw => nm_no (h w hw) (by omega)
theorem readP_text {a b : List Str} (t : Two a b) (ha : AscOf a a) (hb : AscOf b b) {x y : Str} (ea : a.head? = some x) (eb : b.head? = some y) (lt : ltCps x.cps.toList y.cps.toList = true) : readP (partText a b) = some (a, b) := by
  have nmA : ∀ n ∈ a, IsNm n := fun n hn => t.nm n (List.mem_append_left _ hn)
  have nmB : ∀ n ∈ b, IsNm n := fun n hn => t.nm n (List.mem_append_right _ hn)
  have hN : a ≠ [] := by rintro rfl; cases ea
  have hF : b ≠ [] := by rintro rfl; cases eb
  have hd : ∀ {l : List Str} {x : Str}, l.head? = some x → l.headD "" = x := fun {l x} q => by cases l with | nil => cases q | cons a r => cases q; rfl
  unfold readP
  rw [show partText a b = Txt.join (Str.ofString " ") a ++ Str.ofString " / " ++ Txt.join (Str.ofString " ") b from rfl, split_slash (join_noP nmA) (join_noP nmB)]
  show (if (coupB (Txt.split (Txt.join (Str.ofString " ") a) (Str.ofString " ")) && _) = true then _ else _) = _
  rw [split_sps hN nmA, split_sps hF nmB, coupB_iff.mpr ⟨t.la, nmA, ha⟩, coupB_iff.mpr ⟨t.lb, nmB, hb⟩, apartB_iff.mpr t.cuts.apart, hd ea, hd eb, lt]
  rfl
theorem partText_len {a b : List Str} (t : Two a b) : (partText a b).length ≤ 900 := by
  have wn := Word.join (m := 1) (n := 8) (k := 2) (y := Str.ofString " ") (word_of (by decide +kernel)) (fun w hw => word_nm (t.nm w (List.mem_append_left _ hw))) (Nat.le_of_eq t.la)
  have wf := Word.join (m := 1) (n := 8) (k := 2) (y := Str.ofString " ") (word_of (by decide +kernel)) (fun w hw => word_nm (t.nm w (List.mem_append_right _ hw))) (Nat.le_of_eq t.lb)
  exact Nat.le_trans ((wn.app (word_of (n := 3) (x := Str.ofString " / ") (by decide +kernel))).app wf).l (by decide)
/-- four hosts in their order, and one of their partings -/
structure RowOk (f0 f1 f2 f3 m u v : Str) : Prop where
  two : Two [f0, m] [u, v]
  a1 : AscOf [f0, m] [f0, m]
  a2 : AscOf [u, v] [u, v]
  a4 : AscOf ([f0, m] ++ [u, v]) [f0, f1, f2, f3]
  lt : ltCps f0.cps.toList u.cps.toList = true
theorem AscOf.of_perm {xs zs ys : List Str} (p : xs.Perm zs) (h : AscOf xs ys) : AscOf zs ys := h.swap fun y => p.mem_iff
theorem RowOk.part {f0 f1 f2 f3 m u v : Str} {us ws hs ny fy : List Str} (ok : RowOk f0 f1 f2 f3 m u v) (pm : (us.Perm [f0, m] ∧ ws.Perm [u, v]) ∨ (us.Perm [u, v] ∧ ws.Perm [f0, m])) (c : CutOf us ws hs ny fy) : hs = [f0, f1, f2, f3] ∧ ny = [f0, m] ∧ fy = [u, v] := by
  have ne : f0 ≠ u := fun q => by have := ok.two.nd; rw [q] at this; simp at this
  have hh : hs = [f0, f1, f2, f3] := by
    refine (c.hosts.of_perm ?_).unique ok.a4
    rcases pm with ⟨a, b⟩ | ⟨a, b⟩
    · exact a.append b
    · exact (a.append b).trans List.perm_append_comm
  refine ⟨hh, ?_⟩
  obtain ⟨ya, yb, aa, ab, side⟩ := c.sides
  rw [hh] at side
  rcases pm with ⟨a, b⟩ | ⟨a, b⟩
  · obtain rfl := (aa.of_perm a).unique ok.a1
    obtain rfl := (ab.of_perm b).unique ok.a2
    rcases side with ⟨_, e1, e2⟩ | ⟨q, _, _⟩
    · exact ⟨e1, e2⟩
    · exact absurd rfl q
  · obtain rfl := (aa.of_perm a).unique ok.a2
    obtain rfl := (ab.of_perm b).unique ok.a1
    rcases side with ⟨q, _, _⟩ | ⟨_, e1, e2⟩
    · exact absurd (Option.some.inj q) ne
    · exact ⟨e1, e2⟩
theorem RowOk.turn {f0 f1 f2 f3 m u v : Str} {us ws : List Str} (ok : RowOk f0 f1 f2 f3 m u v) (pm : (us.Perm [f0, m] ∧ ws.Perm [u, v]) ∨ (us.Perm [u, v] ∧ ws.Perm [f0, m])) : Two us ws := by
  rcases pm with ⟨a, b⟩ | ⟨a, b⟩
  · exact ⟨fun n hn => ok.two.nm n ((a.append b).mem_iff.mp hn), (a.append b).nodup_iff.mpr ok.two.nd, a.length_eq, b.length_eq⟩
  · have p := (a.append b).trans List.perm_append_comm
    exact ⟨fun n hn => ok.two.nm n (p.mem_iff.mp hn), p.nodup_iff.mpr ok.two.nd, a.length_eq, b.length_eq⟩
/-! ### methods of own things, called by place -/
theorem pe_methB {X : Cx} {CX : CXT} {k : Nat} {C m : Str} {ps : List Str} {sp : Sp} {E : XK} {o e : Expr} {es : List Expr} {to : TE} {ta : TA} {apos pos : Pos} {pl : Sem Bool} (D : ∃ fd, FnOk X.prog X.w X.K X.mg X.base CX k (He.ma X.K (He.ga X.K C) m) fd ps sp ∧ Binds X.K fd ps []) (c : Cls X.K (He.ga X.K C)) (hm : Meth X.K (He.ga X.K C) m (He.ma X.K (He.ga X.K C) m)) (hr : Room k X.A) (hx : Passes CX X E) (ho : PE X o to) (ha : PA X (e :: es) ta)
    (hst : starEach (e :: es) X.env = (false, eval e X.env) :: starEach es X.env := by rfl) (hpl : (backTo pos (starEach es X.env)).any (·.1) = false := by rfl)
    (ht : eval (.Call (.Attribute o m apos) (e :: es) [] pos) X.env = (do
      let v ← eval o X.env
      standAt apos.atName
      let (g, first) ← holding [v] (getMethod v m pl)
      callWith pos g first (backTo pos (starEach (e :: es) X.env)) (backToKw pos (keywordEach [] X.env))) := by rfl) :
    PE X (.Call (.Attribute o m apos) (e :: es) [] pos) (tMeth (He.ga X.K C) m sp [] E to ta) := by
  obtain ⟨fd, F, b⟩ := D
  exact pe_meth ho c hm F hr b .nil hx ha hst hpl ht
theorem pe_methB0 {X : Cx} {CX : CXT} {k : Nat} {C m : Str} {ps : List Str} {sp : Sp} {E : XK} {o : Expr} {to : TE} {apos pos : Pos} {pl : Sem Bool} (D : ∃ fd, FnOk X.prog X.w X.K X.mg X.base CX k (He.ma X.K (He.ga X.K C) m) fd ps sp ∧ Binds X.K fd ps []) (c : Cls X.K (He.ga X.K C)) (hm : Meth X.K (He.ga X.K C) m (He.ma X.K (He.ga X.K C) m)) (hr : Room k X.A) (hx : Passes CX X E) (ho : PE X o to)
    (ht : eval (.Call (.Attribute o m apos) [] [] pos) X.env = (do
      let v ← eval o X.env
      standAt apos.atName
      let (g, first) ← holding [v] (getMethod v m pl)
      callWith pos g first (backTo pos (starEach [] X.env)) (backToKw pos (keywordEach [] X.env))) := by rfl) :
    PE X (.Call (.Attribute o m apos) [] [] pos) (tMeth (He.ga X.K C) m sp [] E to tNil) := by
  obtain ⟨fd, F, b⟩ := D
  exact pe_meth0 ho c hm F hr b .nil hx ht
end Z
namespace Z
open PySem PySem.Spec PyProof.Rows L2 TL
/-! ### hosts told by their places in an ascending row -/
def hAt (hs : List Str) (l : List Nat) : List Str := l.map fun i => hs.getD i ""
theorem getD_at {hs : List Str} {i : Nat} (h : i < hs.length) : hs.getD i "" = hs[i] := by rw [List.getD_eq_getElem?_getD, List.getElem?_eq_getElem h]; rfl
theorem Hosts.lt {n : Nat} {hs : List Str} (h : Hosts n hs) {i j : Nat} (ij : i < j) (jn : j < n) : ltCps (hs.getD i "").cps.toList (hs.getD j "").cps.toList = true := by
  have lj : j < hs.length := by rw [h.len]; exact jn
  have li : i < hs.length := by omega
  rw [getD_at lj, getD_at li]
  have le := List.pairwise_iff_getElem.mp h.pair i j li lj ij
  cases e : ltCps hs[i].cps.toList hs[j].cps.toList with
  | true => rfl
  | false => exact absurd (leS_anti le (show leS hs[j] hs[i] from e)) (List.pairwise_iff_getElem.mp (List.nodup_iff_pairwise_ne.mp h.nd) i j li lj ij)
theorem Hosts.inj {n : Nat} {hs : List Str} (h : Hosts n hs) {i j : Nat} (hi : i < n) (hj : j < n) (e : hs.getD i "" = hs.getD j "") : i = j := by
  rcases Nat.lt_trichotomy i j with q | q | q
  · have := h.lt q hj
    rw [e] at this
    exact absurd (lt_iff.mp this) (List.lt_irrefl _)
  · exact q
  · have := h.lt q hi
    rw [e] at this
    exact absurd (lt_iff.mp this) (List.lt_irrefl _)
theorem Hosts.mem {n : Nat} {hs : List Str} (h : Hosts n hs) {i : Nat} (hi : i < n) : hs.getD i "" ∈ hs := by rw [getD_at (by rw [h.len]; exact hi)]; exact List.getElem_mem _
theorem Hosts.nmAt {n : Nat} {hs : List Str} (h : Hosts n hs) {l : List Nat} (hl : ∀ i ∈ l, i < n) : ∀ x ∈ hAt hs l, IsNm x := fun x hx => by
  obtain ⟨i, hi, rfl⟩ := List.mem_map.mp hx
  exact h.nm _ (h.mem (hl i hi))
theorem Hosts.memAt {n : Nat} {hs : List Str} (h : Hosts n hs) {l : List Nat} (hl : ∀ i ∈ l, i < n) {i : Nat} (hi : i < n) : hs.getD i "" ∈ hAt hs l ↔ i ∈ l := by
  refine ⟨fun m => ?_, fun m => List.mem_map.mpr ⟨i, m, rfl⟩⟩
  obtain ⟨j, hj, e⟩ := List.mem_map.mp m
  exact h.inj (hl j hj) hi e ▸ hj
theorem Hosts.ndAt {n : Nat} {hs : List Str} (h : Hosts n hs) : ∀ {l : List Nat}, (∀ i ∈ l, i < n) → l.Nodup → (hAt hs l).Nodup
  | [], _, _ => List.nodup_nil
  | i :: l, hl, nd => by
    obtain ⟨a, b⟩ := List.nodup_cons.mp nd
    refine List.nodup_cons.mpr ⟨fun m => a ?_, h.ndAt (fun j hj => hl j (.tail _ hj)) b⟩
    exact (h.memAt (fun j hj => hl j (.tail _ hj)) (hl i (.head _))).mp m
theorem Hosts.riseAt {n : Nat} {hs : List Str} (h : Hosts n hs) : ∀ {l : List Nat}, (∀ i ∈ l, i < n) → l.Pairwise (· < ·) → riseB (hAt hs l) = true
  | [], _, _ => rfl
  | [_], _, _ => rfl
  | i :: j :: l, hl, p => by
    obtain ⟨a, b⟩ := List.pairwise_cons.mp p
    have ih := h.riseAt (l := j :: l) (fun k hk => hl k (.tail _ hk)) b
    show (ltCps (hs.getD i "").cps.toList (hs.getD j "").cps.toList && riseB (hAt hs (j :: l))) = true
    rw [h.lt (a j (.head _)) (hl j (.tail _ (.head _))), ih]
    rfl
theorem Hosts.ascAt {n : Nat} {hs : List Str} (h : Hosts n hs) {l : List Nat} (hl : ∀ i ∈ l, i < n) (p : l.Pairwise (· < ·)) : AscOf (hAt hs l) (hAt hs l) := rise_asc (h.riseAt hl p)
theorem Hosts.ascTo {n : Nat} {hs : List Str} (h : Hosts n hs) {l m : List Nat} (hl : ∀ i ∈ l, i < n) (p : l.Pairwise (· < ·)) (e : ∀ i, i ∈ l ↔ i ∈ m) : AscOf (hAt hs m) (hAt hs l) :=
  (h.ascAt hl p).swap fun y => ⟨fun q => by obtain ⟨i, hi, rfl⟩ := List.mem_map.mp q; exact List.mem_map.mpr ⟨i, (e i).mp hi, rfl⟩, fun q => by obtain ⟨i, hi, rfl⟩ := List.mem_map.mp q; exact List.mem_map.mpr ⟨i, (e i).mpr hi, rfl⟩⟩
theorem Hosts.eqAt {n : Nat} {hs : List Str} (h : Hosts n hs) : ∀ {l m : List Nat}, (∀ i ∈ l, i < n) → (∀ i ∈ m, i < n) → (hAt hs l = hAt hs m ↔ l = m)
  | [], [], _, _ => ⟨fun _ => rfl, fun _ => rfl⟩
  | [], _ :: _, _, _ => ⟨fun e => (List.cons_ne_nil _ _ e.symm).elim, fun e => (List.cons_ne_nil _ _ e.symm).elim⟩
  | _ :: _, [], _, _ => ⟨fun e => (List.cons_ne_nil _ _ e).elim, fun e => (List.cons_ne_nil _ _ e).elim⟩
  | i :: l, j :: m, hl, hm => by
    have ih := h.eqAt (l := l) (m := m) (fun k hk => hl k (.tail _ hk)) fun k hk => hm k (.tail _ hk)
    refine ⟨fun e => ?_, fun e => by rw [e]⟩
    obtain ⟨e1, e2⟩ := List.cons.inj e
    rw [h.inj (hl i (.head _)) (hm j (.head _)) e1, ih.mp e2]
def lexN : List Nat → List Nat → Bool
  | [], [] => false
  | [], _ :: _ => true
  | _ :: _, [] => false
  | x :: xs, y :: ys => if x = y then lexN xs ys else decide (x < y)
theorem Hosts.sLt {n : Nat} {hs : List Str} (h : Hosts n hs) {i j : Nat} (hi : i < n) (hj : j < n) : Z.sLt (hs.getD i "") (hs.getD j "") = decide (i < j) := by
  unfold Z.sLt
  rcases Nat.lt_trichotomy i j with q | q | q
  · rw [decide_eq_true q, decide_eq_true (lt_iff.mp (h.lt q hj))]
  · rw [q, decide_eq_false (List.lt_irrefl _), decide_eq_false (Nat.lt_irrefl _)]
  · rw [decide_eq_false (Nat.not_lt.mpr (Nat.le_of_lt q)), decide_eq_false (List.lt_asymm (lt_iff.mp (h.lt q hi)))]
theorem Hosts.lexAt {n : Nat} {hs : List Str} (h : Hosts n hs) : ∀ {l m : List Nat}, (∀ i ∈ l, i < n) → (∀ i ∈ m, i < n) → lexS (hAt hs l) (hAt hs m) = lexN l m
  | [], [], _, _ => rfl
  | [], _ :: _, _, _ => rfl
  | _ :: _, [], _, _ => rfl
  | i :: l, j :: m, hl, hm => by
    have ih := h.lexAt (l := l) (m := m) (fun k hk => hl k (.tail _ hk)) fun k hk => hm k (.tail _ hk)
    show (if hs.getD i "" = hs.getD j "" then lexS (hAt hs l) (hAt hs m) else Z.sLt (hs.getD i "") (hs.getD j "")) = if i = j then lexN l m else decide (i < j)
    by_cases q : i = j
    · rw [if_pos q, if_pos (by rw [q]), ih]
    · rw [if_neg q, if_neg fun e => q (h.inj (hl i (.head _)) (hm j (.head _)) e), h.sLt (hl i (.head _)) (hm j (.head _))]
/-- four places, told as a parting -/
def ltI (a b : List Nat × List Nat × List Nat) : Bool := if a.1 = b.1 then (if a.2.1 = b.2.1 then lexN a.2.2 b.2.2 else lexN a.2.1 b.2.1) else lexN a.1 b.1
structure InI (n : Nat) (a : List Nat × List Nat × List Nat) : Prop where
  f : ∀ i ∈ a.1, i < n
  p : ∀ i ∈ a.2.1, i < n
  q : ∀ i ∈ a.2.2, i < n
def hAt3 (hs : List Str) (a : List Nat × List Nat × List Nat) : List Str × List Str × List Str := (hAt hs a.1, hAt hs a.2.1, hAt hs a.2.2)
theorem Hosts.ltAt {n : Nat} {hs : List Str} (h : Hosts n hs) {a b : List Nat × List Nat × List Nat} (ha : InI n a) (hb : InI n b) : ltP (hAt3 hs a) (hAt3 hs b) = ltI a b := by
  unfold ltP ltI hAt3
  simp only [h.eqAt ha.f hb.f, h.eqAt ha.p hb.p, h.lexAt ha.f hb.f, h.lexAt ha.p hb.p, h.lexAt ha.q hb.q]
/-- what a parting of an ascending row of places keeps -/
theorem Hosts.rowOk {n : Nat} {hs : List Str} (h : Hosts n hs) {a b c d m u v : Nat} (i4 : [a, b, c, d].Pairwise (· < ·)) (dn : d < n) (p1 : a < m) (p2 : u < v) (p3 : a < u) (nd : ([a, m] ++ [u, v]).Nodup) (e : ∀ i, i ∈ [a, b, c, d] ↔ i ∈ [a, m] ++ [u, v]) : RowOk (hs.getD a "") (hs.getD b "") (hs.getD c "") (hs.getD d "") (hs.getD m "") (hs.getD u "") (hs.getD v "") := by
  have f4 : ∀ i ∈ [a, b, c, d], i < n := by
    simp only [List.pairwise_cons, List.mem_cons, List.not_mem_nil, or_false, forall_eq_or_imp, forall_eq] at i4
    intro i hi
    simp only [List.mem_cons, List.not_mem_nil, or_false] at hi
    omega
  have fa : ∀ i ∈ [a, m] ++ [u, v], i < n := fun i hi => f4 i ((e i).mpr hi)
  have f1 : ∀ i ∈ [a, m], i < n := fun i hi => fa i (List.mem_append_left _ hi)
  have f2 : ∀ i ∈ [u, v], i < n := fun i hi => fa i (List.mem_append_right _ hi)
  refine ⟨⟨?_, ?_, rfl, rfl⟩, h.ascAt f1 (by simpa using p1), h.ascAt f2 (by simpa using p2), ?_, h.lt p3 (f2 u (.head _))⟩
  · exact h.nmAt fa
  · exact h.ndAt fa nd
  · exact h.ascTo f4 i4 e
end Z
namespace Z
open PySem PySem.Spec PyProof.Rows L2
open AutoSeq1 (wpAny_loadPart')
open MeetsSeq MeetsSeq2 MeetsSeq3 SeqRoads2 SeqAt
/-! ### == and != of rows, item by item, each item by its own rule, to both ends -/
def allFrom (e : Nat → Bool) : Nat → Nat → Bool
  | _, 0 => true
  | i, k + 1 => e i && allFrom e (i + 1) k
section
variable {prog : Program} {w : World} {A : Around} {R : Result → Shared → Prop}
abbrev lObj (its : Array Value) (n : Nat) : Obj := { cls := .type "list", data := .seq its n }
/-- what a comparison of two lists keeps -/
structure LKeep (prog : Program) (w : World) (A : Around) (E : Value → Shared → Prop) (l b : Addr) (N : Nat) (e : Nat → Bool) (I : Shared → Prop) : Prop where
  at_ : ∀ s, I s → ∃ (xs ys : Array Value) (n m : Nat), s.heap.get? l = some (lObj xs n) ∧ s.heap.get? b = some (lObj ys m) ∧ xs.size = N ∧ ys.size = N ∧
    ∀ i (h1 : i < xs.size) (h2 : i < ys.size), wpAny (model prog w) A.in1 (eqBool xs[i] ys[i]) (fun r s' => r = e i ∧ I s') E s
theorem loopB (c : Nat) (f : Bool → Bool) (hc : (c = 2 ∧ f = id) ∨ (c = 3 ∧ f = not)) (l b : Addr) (N : Nat) (e : Nat → Bool) (I : Shared → Prop) (L : LKeep prog w A (fun e s' => R (.error e) s') l b N e I) (k : Nat) :
    ∀ i : Nat, N - i = k → i ≤ N → (∀ s, I s → R (.ok (.ret (.bool (f (allFrom e i k))))) s) → ∀ s, I s →
      wpAny (model prog w) A.in1 (Builtin.«list.__eq__.loop» ⟨[.ref l, .ref b, rawInt i, rawInt c], []⟩) (GQ.FinOf prog w A R) (fun e s' => R (.error e) s') s := by
  induction k with
  | zero =>
    intro i hk hi fin s h
    obtain ⟨xs, ys, n, m, q1, q2, z1, z2, _⟩ := L.at_ _ h
    have r := fin s h
    obtain ⟨hp, g, d, tk, os⟩ := s
    have x1 : xs[((i : Nat) : Int).toNat]? = none := by simp; omega
    have x2 : ys[((i : Nat) : Int).toNat]? = none := by simp; omega
    rcases hc with ⟨rfl, rfl⟩ | ⟨rfl, rfl⟩
    · wp_walk using wpAny_loadPart' q1, wpAny_loadPart' q2
      rw [x1, x2]; wp_walk using wpAny_loadPart' q1, wpAny_loadPart' q2
      show R (.ok (.ret (.bool (xs.size == ys.size)))) _
      rw [z1, z2]; simpa [allFrom] using r
    · wp_walk using wpAny_loadPart' q1, wpAny_loadPart' q2
      rw [x1, x2]; wp_walk using wpAny_loadPart' q1, wpAny_loadPart' q2
      show R (.ok (.ret (.bool (xs.size != ys.size)))) _
      rw [z1, z2]; simpa [allFrom] using r
  | succ k ih =>
    intro i hk hi fin s h
    obtain ⟨xs, ys, n, m, q1, q2, z1, z2, turn⟩ := L.at_ _ h
    have l1 : i < xs.size := by omega
    have l2 : i < ys.size := by omega
    have t := turn i l1 l2
    obtain ⟨hp, g, d, tk, os⟩ := s
    have x1 : xs[((i : Nat) : Int).toNat]? = some xs[i] := by simp [l1]
    have x2 : ys[((i : Nat) : Int).toNat]? = some ys[i] := by simp [l2]
    have up : ((i : Int) + 1) = ((i + 1 : Nat) : Int) := by omega
    rcases hc with ⟨rfl, rfl⟩ | ⟨rfl, rfl⟩
    · wp_walk using wpAny_loadPart' q1, wpAny_loadPart' q2
      rw [x1, x2]
      refine wpAny_bind (wpAny_mono t (fun r s2 h2 => ?_) (fun _ _ x => x))
      obtain ⟨rfl, h2⟩ := h2
      cases ei : e i with
      | true =>
        have rec_ := ih (i + 1) (by omega) (by omega) (fun s q => by have := fin s q; simp only [allFrom, ei, Bool.true_and] at this; exact this) s2 h2
        obtain ⟨hp2, g2, d2, tk2, os2⟩ := s2
        wp_walk
        rw [up]; exact ⟨plainId_quiet plain_eq_loop _, codeAny_builtin entry_eq_loop (by rw [Around.under_plainId plain_eq_loop _]; exact rec_)⟩
      | false =>
        have r := fin s2 h2
        simp only [allFrom, ei, Bool.false_and] at r
        obtain ⟨us, vs, n', m', p1, p2, y1, y2, _⟩ := L.at_ _ h2
        obtain ⟨hp2, g2, d2, tk2, os2⟩ := s2
        have x3 : us[((i : Nat) : Int).toNat]? = some (us[i]'(by omega)) := by simp [show i < us.size by omega]
        have x4 : vs[((i : Nat) : Int).toNat]? = some (vs[i]'(by omega)) := by simp [show i < vs.size by omega]
        wp_walk using wpAny_loadPart' p1, wpAny_loadPart' p2
        rw [x3, x4]; wp_walk
        exact r
    · wp_walk using wpAny_loadPart' q1, wpAny_loadPart' q2
      rw [x1, x2]
      refine wpAny_bind (wpAny_mono t (fun r s2 h2 => ?_) (fun _ _ x => x))
      obtain ⟨rfl, h2⟩ := h2
      cases ei : e i with
      | true =>
        have rec_ := ih (i + 1) (by omega) (by omega) (fun s q => by have := fin s q; simp only [allFrom, ei, Bool.true_and] at this; exact this) s2 h2
        obtain ⟨hp2, g2, d2, tk2, os2⟩ := s2
        wp_walk
        rw [up]; exact ⟨plainId_quiet plain_eq_loop _, codeAny_builtin entry_eq_loop (by rw [Around.under_plainId plain_eq_loop _]; exact rec_)⟩
      | false =>
        have r := fin s2 h2
        simp only [allFrom, ei, Bool.false_and] at r
        obtain ⟨us, vs, n', m', p1, p2, y1, y2, _⟩ := L.at_ _ h2
        obtain ⟨hp2, g2, d2, tk2, os2⟩ := s2
        have x3 : us[((i : Nat) : Int).toNat]? = some (us[i]'(by omega)) := by simp [show i < us.size by omega]
        have x4 : vs[((i : Nat) : Int).toNat]? = some (vs[i]'(by omega)) := by simp [show i < vs.size by omega]
        wp_walk using wpAny_loadPart' p1, wpAny_loadPart' p2
        rw [x3, x4]; wp_walk
        exact r
theorem list_eqB {l b : Addr} {N : Nat} {e : Nat → Bool} {I : Shared → Prop} (L : LKeep prog w A (fun e s' => R (.error e) s') l b N e I) (fin : ∀ s, I s → R (.ok (.ret (.bool (id (allFrom e 0 N))))) s) {s : Shared} (h : I s) :
    wpAny (model prog w) A.in1 (Builtin.«list.__eq__» ⟨[.ref l, .ref b], []⟩) (GQ.FinOf prog w A R) (fun e s' => R (.error e) s') s := by
  obtain ⟨xs, ys, n, m, q1, q2, z1, z2, _⟩ := L.at_ _ h
  have rec_ := loopB 2 id (.inl ⟨rfl, rfl⟩) l b N e I L N 0 (by omega) (by omega) fin s h
  obtain ⟨hp, g, d, tk, os⟩ := s
  have f3 := AutoSeq1.sub_list_list
  have ne : ¬ (xs.size != ys.size) = true := by simp [z1, z2]
  wp_walk using wpAny_loadPart' q1, wpAny_loadPart' q2
  exact ⟨plainId_quiet plain_eq_loop _, codeAny_builtin entry_eq_loop (by rw [Around.under_plainId plain_eq_loop _]; exact rec_)⟩
theorem list_eqS {l b : Addr} {xs ys : Array Value} {n m : Nat} {s : Shared} (q1 : s.heap.get? l = some (lObj xs n)) (q2 : s.heap.get? b = some (lObj ys m)) (z : xs.size ≠ ys.size) (r : R (.ok (.ret (.bool (id false)))) s) :
    wpAny (model prog w) A.in1 (Builtin.«list.__eq__» ⟨[.ref l, .ref b], []⟩) (GQ.FinOf prog w A R) (fun e s' => R (.error e) s') s := by
  obtain ⟨hp, g, d, tk, os⟩ := s
  have f3 := AutoSeq1.sub_list_list
  have ne : (xs.size != ys.size) = true := by simp [z]
  wp_walk using wpAny_loadPart' q1, wpAny_loadPart' q2
  exact r
theorem rc_list_eq {E : Value → Shared → Prop} {s : Shared} {l b : Addr} {N : Nat} {e : Nat → Bool} {Q : Value → Shared → Prop} (hu : A.units < cLine) (I : Shared → Prop) (L : LKeep prog w A E l b N e I) (fin : ∀ s, I s → Q (.bool (id (allFrom e 0 N))) s) (h : I s) : wpAny (model prog w) A (richCompare .Eq (.ref l) (.ref b)) Q E s := by
  obtain ⟨xs, ys, n, m, q1, q2, z1, z2, _⟩ := L.at_ _ h
  refine wpAny_richCompare_same_room (op := .Eq) ⟨_, q1, rfl⟩ ⟨_, q2, rfl⟩ F.slot_list_eq (GQ.call_here F.slot_list_eq ⟨_, q1, rfl⟩ F.entry_list_eq (F.args_list_eq_2 _ _) ?_) hu
  exact list_eqB (R := wants (fun v s' => v ≠ .notImplemented ∧ Q v s') E) L (fun s' q => ⟨(fun x => nomatch x), fin s' q⟩) h
theorem rc_list_eqS {E : Value → Shared → Prop} {s : Shared} {l b : Addr} {xs ys : Array Value} {n m : Nat} {Q : Value → Shared → Prop} (hu : A.units < cLine) (q1 : s.heap.get? l = some (lObj xs n)) (q2 : s.heap.get? b = some (lObj ys m)) (z : xs.size ≠ ys.size) (h : Q (.bool (id false)) s) : wpAny (model prog w) A (richCompare .Eq (.ref l) (.ref b)) Q E s := by
  refine wpAny_richCompare_same_room (op := .Eq) ⟨_, q1, rfl⟩ ⟨_, q2, rfl⟩ F.slot_list_eq (GQ.call_here F.slot_list_eq ⟨_, q1, rfl⟩ F.entry_list_eq (F.args_list_eq_2 _ _) ?_) hu
  exact list_eqS (R := wants (fun v s' => v ≠ .notImplemented ∧ Q v s') E) q1 q2 z ⟨(fun x => nomatch x), h⟩
theorem list_neB {l b : Addr} {N : Nat} {e : Nat → Bool} {I : Shared → Prop} (L : LKeep prog w A (fun e s' => R (.error e) s') l b N e I) (fin : ∀ s, I s → R (.ok (.ret (.bool (not (allFrom e 0 N))))) s) {s : Shared} (h : I s) :
    wpAny (model prog w) A.in1 (Builtin.«list.__ne__» ⟨[.ref l, .ref b], []⟩) (GQ.FinOf prog w A R) (fun e s' => R (.error e) s') s := by
  obtain ⟨xs, ys, n, m, q1, q2, z1, z2, _⟩ := L.at_ _ h
  have rec_ := loopB 3 not (.inr ⟨rfl, rfl⟩) l b N e I L N 0 (by omega) (by omega) fin s h
  obtain ⟨hp, g, d, tk, os⟩ := s
  have f3 := AutoSeq1.sub_list_list
  have ne : ¬ (xs.size != ys.size) = true := by simp [z1, z2]
  wp_walk using wpAny_loadPart' q1, wpAny_loadPart' q2
  exact ⟨plainId_quiet plain_eq_loop _, codeAny_builtin entry_eq_loop (by rw [Around.under_plainId plain_eq_loop _]; exact rec_)⟩
theorem list_neS {l b : Addr} {xs ys : Array Value} {n m : Nat} {s : Shared} (q1 : s.heap.get? l = some (lObj xs n)) (q2 : s.heap.get? b = some (lObj ys m)) (z : xs.size ≠ ys.size) (r : R (.ok (.ret (.bool (not false)))) s) :
    wpAny (model prog w) A.in1 (Builtin.«list.__ne__» ⟨[.ref l, .ref b], []⟩) (GQ.FinOf prog w A R) (fun e s' => R (.error e) s') s := by
  obtain ⟨hp, g, d, tk, os⟩ := s
  have f3 := AutoSeq1.sub_list_list
  have ne : (xs.size != ys.size) = true := by simp [z]
  wp_walk using wpAny_loadPart' q1, wpAny_loadPart' q2
  exact r
theorem rc_list_ne {E : Value → Shared → Prop} {s : Shared} {l b : Addr} {N : Nat} {e : Nat → Bool} {Q : Value → Shared → Prop} (hu : A.units < cLine) (I : Shared → Prop) (L : LKeep prog w A E l b N e I) (fin : ∀ s, I s → Q (.bool (not (allFrom e 0 N))) s) (h : I s) : wpAny (model prog w) A (richCompare .NotEq (.ref l) (.ref b)) Q E s := by
  obtain ⟨xs, ys, n, m, q1, q2, z1, z2, _⟩ := L.at_ _ h
  refine wpAny_richCompare_same_room (op := .NotEq) ⟨_, q1, rfl⟩ ⟨_, q2, rfl⟩ F.slot_list_ne (GQ.call_here F.slot_list_ne ⟨_, q1, rfl⟩ F.entry_list_ne (F.args_list_ne_2 _ _) ?_) hu
  exact list_neB (R := wants (fun v s' => v ≠ .notImplemented ∧ Q v s') E) L (fun s' q => ⟨(fun x => nomatch x), fin s' q⟩) h
theorem rc_list_neS {E : Value → Shared → Prop} {s : Shared} {l b : Addr} {xs ys : Array Value} {n m : Nat} {Q : Value → Shared → Prop} (hu : A.units < cLine) (q1 : s.heap.get? l = some (lObj xs n)) (q2 : s.heap.get? b = some (lObj ys m)) (z : xs.size ≠ ys.size) (h : Q (.bool (not false)) s) : wpAny (model prog w) A (richCompare .NotEq (.ref l) (.ref b)) Q E s := by
  refine wpAny_richCompare_same_room (op := .NotEq) ⟨_, q1, rfl⟩ ⟨_, q2, rfl⟩ F.slot_list_ne (GQ.call_here F.slot_list_ne ⟨_, q1, rfl⟩ F.entry_list_ne (F.args_list_ne_2 _ _) ?_) hu
  exact list_neS (R := wants (fun v s' => v ≠ .notImplemented ∧ Q v s') E) q1 q2 z ⟨(fun x => nomatch x), h⟩
theorem tup_eqB {l b : Addr} {xs ys : Array Value} {n m : Nat} {dd dd2 : Option Addr} {sl sl2 : Array (Option Value)} {e : Nat → Bool} {I : Shared → Prop} (z : xs.size = ys.size)
    (turn : ∀ i (h1 : i < xs.size) (h2 : i < ys.size) s, I s → wpAny (model prog w) A.in1 (eqBool xs[i] ys[i]) (fun r s' => r = e i ∧ I s') (fun e s' => R (.error e) s') s) (fin : ∀ s, I s → R (.ok (.ret (.bool (id (allFrom e 0 xs.size))))) s)
    {s : Shared} (q1 : s.heap.get? l = some { cls := .type "tuple", dict := dd, data := .seq xs n, slots := sl }) (q2 : s.heap.get? b = some { cls := .type "tuple", dict := dd2, data := .seq ys m, slots := sl2 }) (h : I s) :
    wpAny (model prog w) A.in1 (Builtin.«tuple.__eq__» ⟨[.ref l, .ref b], []⟩) (GQ.FinOf prog w A R) (fun e s' => R (.error e) s') s := by
  have f2 := AutoSeq1.sub_tuple_tuple
  have zl : (xs.toList.zip ys.toList).length = xs.size := by simp [z]
  have h0 := h
  obtain ⟨hp, g, d, tk, os⟩ := s
  wp_walk using wpAny_loadPart' q1, wpAny_loadPart' q2, wpAny_forIn_list _ (fun rest b s' => b.1 = none ∧ ∃ i, rest = (xs.toList.zip ys.toList).drop i ∧ i ≤ xs.size ∧ I s' ∧ allFrom e 0 xs.size = allFrom e i (xs.size - i)) _
  case turn =>
    rintro ⟨y, x⟩ rest b s' ⟨hb, i, hz, hi, hI, al⟩
    have lt : i < (xs.toList.zip ys.toList).length := by
      rcases Nat.lt_or_ge i (xs.toList.zip ys.toList).length with q | q
      · exact q
      · rw [List.drop_of_length_le q] at hz; cases hz
    have h1 : i < xs.size := zl ▸ lt
    have h2 : i < ys.size := z ▸ h1
    rw [List.drop_eq_getElem_cons lt] at hz
    injection hz with e1 e2
    have ey : y = xs[i] := by have := congrArg Prod.fst e1; simpa using this
    have ex : x = ys[i] := by have := congrArg Prod.snd e1; simpa using this
    subst ey ex
    rw [show xs.size - i = (xs.size - (i + 1)) + 1 by omega, allFrom] at al
    refine wpAny_bind (wpAny_mono (turn i h1 h2 s' hI) (fun r s2 k2 => ?_) (fun _ _ x => x))
    obtain ⟨rfl, k2⟩ := k2
    cases ei : e i with
    | true =>
      rw [ei, Bool.true_and] at al; wp_walk
      exact ⟨rfl, i + 1, e2, h1, k2, al⟩
    | false =>
      rw [ei, Bool.false_and] at al
      have r := fin s2 k2
      rw [al] at r; wp_walk
      exact r
  case fin =>
    rintro ⟨b1, b2⟩ s' ⟨hb, i, hz, hi, hI, al⟩
    simp only at hb
    subst hb
    have ge : xs.size ≤ i := by
      rcases Nat.lt_or_ge i (xs.toList.zip ys.toList).length with q | q
      · rw [List.drop_eq_getElem_cons q] at hz; cases hz
      · exact zl ▸ q
    have r := fin s' hI
    rw [al, Nat.sub_eq_zero_of_le ge] at r; wp_walk
    simpa [Builtin.Tuple.tupleCompareSizes, z, allFrom] using r
  case h =>
    exact ⟨rfl, 0, rfl, Nat.zero_le _, h0, rfl⟩
theorem rc_tup_eq {E : Value → Shared → Prop} {s : Shared} {l b : Addr} {xs ys : Array Value} {e : Nat → Bool} {Q : Value → Shared → Prop} (z : xs.size = ys.size) (hu : A.units < cLine) (I : Shared → Prop) (hl : s.heap.IsTuple l xs) (hb : s.heap.IsTuple b ys)
    (turn : ∀ i (h1 : i < xs.size) (h2 : i < ys.size) s, I s → wpAny (model prog w) A.in1 (eqBool xs[i] ys[i]) (fun r s' => r = e i ∧ I s') E s) (fin : ∀ s, I s → Q (.bool (id (allFrom e 0 xs.size))) s) (h : I s) : wpAny (model prog w) A (richCompare .Eq (.ref l) (.ref b)) Q E s := by
  obtain ⟨⟨cls, dd, data, sl⟩, ho, hc, n, hd⟩ := id hl; obtain ⟨⟨cls2, dd2, data2, sl2⟩, ho2, hc2, n2, hd2⟩ := id hb
  simp only at hc hd hc2 hd2; subst hc hd hc2 hd2
  refine wpAny_richCompare_same_room (op := .Eq) ⟨_, ho, rfl⟩ ⟨_, ho2, rfl⟩ F.slot_tuple_eq (GQ.call_here F.slot_tuple_eq ⟨_, ho, rfl⟩ F.entry_tuple_eq (F.args_tuple_eq_2 _ _) ?_) hu
  exact tup_eqB (R := wants (fun v s' => v ≠ .notImplemented ∧ Q v s') E) z turn (fun s' q => ⟨(fun x => nomatch x), fin s' q⟩) ho ho2 h
theorem tup_neB {l b : Addr} {xs ys : Array Value} {n m : Nat} {dd dd2 : Option Addr} {sl sl2 : Array (Option Value)} {e : Nat → Bool} {I : Shared → Prop} (z : xs.size = ys.size)
    (turn : ∀ i (h1 : i < xs.size) (h2 : i < ys.size) s, I s → wpAny (model prog w) A.in1 (eqBool xs[i] ys[i]) (fun r s' => r = e i ∧ I s') (fun e s' => R (.error e) s') s) (fin : ∀ s, I s → R (.ok (.ret (.bool (not (allFrom e 0 xs.size))))) s)
    {s : Shared} (q1 : s.heap.get? l = some { cls := .type "tuple", dict := dd, data := .seq xs n, slots := sl }) (q2 : s.heap.get? b = some { cls := .type "tuple", dict := dd2, data := .seq ys m, slots := sl2 }) (h : I s) :
    wpAny (model prog w) A.in1 (Builtin.«tuple.__ne__» ⟨[.ref l, .ref b], []⟩) (GQ.FinOf prog w A R) (fun e s' => R (.error e) s') s := by
  have f2 := AutoSeq1.sub_tuple_tuple
  have zl : (xs.toList.zip ys.toList).length = xs.size := by simp [z]
  have h0 := h
  obtain ⟨hp, g, d, tk, os⟩ := s
  wp_walk using wpAny_loadPart' q1, wpAny_loadPart' q2, wpAny_forIn_list _ (fun rest b s' => b.1 = none ∧ ∃ i, rest = (xs.toList.zip ys.toList).drop i ∧ i ≤ xs.size ∧ I s' ∧ allFrom e 0 xs.size = allFrom e i (xs.size - i)) _
  case turn =>
    rintro ⟨y, x⟩ rest b s' ⟨hb, i, hz, hi, hI, al⟩
    have lt : i < (xs.toList.zip ys.toList).length := by
      rcases Nat.lt_or_ge i (xs.toList.zip ys.toList).length with q | q
      · exact q
      · rw [List.drop_of_length_le q] at hz; cases hz
    have h1 : i < xs.size := zl ▸ lt
    have h2 : i < ys.size := z ▸ h1
    rw [List.drop_eq_getElem_cons lt] at hz
    injection hz with e1 e2
    have ey : y = xs[i] := by have := congrArg Prod.fst e1; simpa using this
    have ex : x = ys[i] := by have := congrArg Prod.snd e1; simpa using this
    subst ey ex
    rw [show xs.size - i = (xs.size - (i + 1)) + 1 by omega, allFrom] at al
    refine wpAny_bind (wpAny_mono (turn i h1 h2 s' hI) (fun r s2 k2 => ?_) (fun _ _ x => x))
    obtain ⟨rfl, k2⟩ := k2
    cases ei : e i with
    | true =>
      rw [ei, Bool.true_and] at al; wp_walk
      exact ⟨rfl, i + 1, e2, h1, k2, al⟩
    | false =>
      rw [ei, Bool.false_and] at al
      have r := fin s2 k2
      rw [al] at r; wp_walk
      exact r
  case fin =>
    rintro ⟨b1, b2⟩ s' ⟨hb, i, hz, hi, hI, al⟩
    simp only at hb
    subst hb
    have ge : xs.size ≤ i := by
      rcases Nat.lt_or_ge i (xs.toList.zip ys.toList).length with q | q
      · rw [List.drop_eq_getElem_cons q] at hz; cases hz
      · exact zl ▸ q
    have r := fin s' hI
    rw [al, Nat.sub_eq_zero_of_le ge] at r; wp_walk
    simpa [Builtin.Tuple.tupleCompareSizes, z, allFrom] using r
  case h =>
    exact ⟨rfl, 0, rfl, Nat.zero_le _, h0, rfl⟩
theorem rc_tup_ne {E : Value → Shared → Prop} {s : Shared} {l b : Addr} {xs ys : Array Value} {e : Nat → Bool} {Q : Value → Shared → Prop} (z : xs.size = ys.size) (hu : A.units < cLine) (I : Shared → Prop) (hl : s.heap.IsTuple l xs) (hb : s.heap.IsTuple b ys)
    (turn : ∀ i (h1 : i < xs.size) (h2 : i < ys.size) s, I s → wpAny (model prog w) A.in1 (eqBool xs[i] ys[i]) (fun r s' => r = e i ∧ I s') E s) (fin : ∀ s, I s → Q (.bool (not (allFrom e 0 xs.size))) s) (h : I s) : wpAny (model prog w) A (richCompare .NotEq (.ref l) (.ref b)) Q E s := by
  obtain ⟨⟨cls, dd, data, sl⟩, ho, hc, n, hd⟩ := id hl; obtain ⟨⟨cls2, dd2, data2, sl2⟩, ho2, hc2, n2, hd2⟩ := id hb
  simp only at hc hd hc2 hd2; subst hc hd hc2 hd2
  refine wpAny_richCompare_same_room (op := .NotEq) ⟨_, ho, rfl⟩ ⟨_, ho2, rfl⟩ F.slot_tuple_ne (GQ.call_here F.slot_tuple_ne ⟨_, ho, rfl⟩ F.entry_tuple_ne (F.args_tuple_ne_2 _ _) ?_) hu
  exact tup_neB (R := wants (fun v s' => v ≠ .notImplemented ∧ Q v s') E) z turn (fun s' q => ⟨(fun x => nomatch x), fin s' q⟩) ho ho2 h
end
end Z
namespace Z
open PySem PySem.Spec PyProof.Rows L2
abbrev EqvB := V → V → Bool → Hp → Prop
def MonB (D : EqvB) : Prop := ∀ x y b H H', Same H H' → D x y b H → D x y b H'
/-- == of two items gives the Bool that D says, and only makes things -/
def EqB (X : Cx) (n : Nat) (D : EqvB) : Prop := ∀ (A : Around) (pins : List (Addr × Obj)) (s : Shared) (σ : L2.St) (H : Hp) (x y : V) (u v : Value) (b : Bool), Sub X n A → Inv X pins σ H s → RelV x u → RelV y v → D x y b H →
  wpAny (model X.prog X.w) A (eqBool u v) (fun r s' => r = b ∧ ∃ H', Inv X pins σ H' s' ∧ Same H H') X.xe s
section
variable {X : Cx} {n m : Nat} {D D' : EqvB}
theorem EqB.mono (h : EqB X n D) (l : n ≤ m) : EqB X m D := fun A pins s σ H x y u v b sb => h A pins s σ H x y u v b (sb.mono l)
theorem EqB.or (h : EqB X n D) (k : EqB X n D') : EqB X n (fun x y b H => D x y b H ∨ D' x y b H) := fun A pins s σ H x y u v b sb I rx ry d => d.elim (h A pins s σ H x y u v b sb I rx ry) (k A pins s σ H x y u v b sb I rx ry)
theorem MonB.or (h : MonB D) (k : MonB D') : MonB (fun x y b H => D x y b H ∨ D' x y b H) := fun x y b H H' s d => d.imp (h x y b H H' s) (k x y b H H' s)
def BFlat : EqvB := fun x y b _ => flatV x = true ∧ flatV y = true ∧ eqV x y = b
theorem monB_flat : MonB BFlat := fun _ _ _ _ _ _ d => d
theorem eqB_flat : EqB X 0 BFlat := fun A pins s σ H x y u v b sb I rx ry ⟨fx, fy, e⟩ => by
  have q := eqAt_V (A := A) (s := s) rx ry fx fy
  rw [e] at q; exact q X.prog X.w X.xe _ ⟨rfl, H, I, Same.refl _⟩
def BSelf : EqvB := fun x y b _ => ∃ a, x = .ref a ∧ y = .ref a ∧ b = true
theorem monB_self : MonB BSelf := fun _ _ _ _ _ _ d => d
theorem eqB_self : EqB X 0 BSelf := fun A pins s σ H x y u v b sb I rx ry ⟨a, e1, e2, e3⟩ => by
  subst e1 e2 e3
  cases rx; cases ry
  exact SeqAt.EqAt.same (A := A) (s := s) (.ref a) X.prog X.w X.xe _ ⟨rfl, H, I, Same.refl _⟩
def BData (K : PySem.W.Frag) : EqvB := fun x y b H => ∃ d e, (∀ H', Same H H' → Dp K H' x d) ∧ (∀ H', Same H H' → Dp K H' y e) ∧ SeqAt.shaped d = true ∧ SeqAt.shaped e = true ∧ PyData.eqv d e = b
theorem monB_data (K : PySem.W.Frag) : MonB (BData K) := fun x y b H H' s ⟨d, e, h1, h2, r⟩ => ⟨d, e, fun H2 s2 => h1 H2 (s.trans s2), fun H2 s2 => h2 H2 (s.trans s2), r⟩
theorem eqB_data {K : PySem.W.Frag} (hK : X.K = K := by rfl) : EqB X 0 (BData K) := fun A pins s σ H x y u v b sb I rx ry ⟨d, e, h1, h2, c1, c2, eb⟩ => by
  subst hK
  obtain ⟨as, r1⟩ := Dp.reads I d x u (h1 H (Same.refl _)) rx
  obtain ⟨bs, r2⟩ := Dp.reads I e y v (h2 H (Same.refl _)) ry
  have hu := u70 sb.room
  have dd := SeqAt.depth_of_shaped c1
  exact SeqAt.eqAt_reads d e A s u v as bs r1 r2 (SeqAt.canLay_of_shaped c1) (SeqAt.canLay_of_shaped c2) (by omega) X.prog X.w X.xe _ ⟨eb, H, I, Same.refl _⟩
/-- two instances of one class with its own == -/
def BOwn (C : Addr) (sp : Sp) : EqvB := fun x y b H => ∃ a c dx dy fs gs, x = .ref a ∧ y = .ref c ∧ H a = some (.ins C dx fs) ∧ H c = some (.ins C dy gs) ∧ (a = c → b = true) ∧ ∀ H', Same H H' → sp [.ref a, .ref c] H' (fun v H2 => v = .bl b ∧ Same H' H2) E0
theorem monB_own {C : Addr} {sp : Sp} : MonB (BOwn C sp) := fun x y b H H' s ⟨a, c, dx, dy, fs, gs, e1, e2, h1, h2, i, k⟩ => ⟨a, c, dx, dy, fs, gs, e1, e2, s _ _ h1, s _ _ h2, i, fun H2 s2 => k H2 (s.trans s2)⟩
theorem eqB_own {C f : Addr} {ps : List Str} {sp : Sp} {K : PySem.W.Frag} (M : DefM X.prog X.w K X.mg X.base n f ps sp) (hs : PySem.W.findIn K (.ref C) "__eq__" = some (some (.ref f))) (hf : PySem.W.isFn K (.ref f) = true) (hK : X.K = K := by rfl) : EqB X n (BOwn C sp) := by
  subst hK
  obtain ⟨fd, F, hb⟩ := M.ex
  rintro A pins s σ H x y u v b sb I rx ry ⟨a, c, dx, dy, fs, gs, rfl, rfl, ha, hc, same, k⟩
  cases rx; cases ry
  by_cases ac : a = c
  · subst ac
    rw [same rfl]
    exact SeqAt.EqAt.same (A := A) (s := s) (.ref a) X.prog X.w X.xe _ ⟨rfl, H, I, Same.refl _⟩
  refine GQ.eqBool_refG ac ?_
  obtain ⟨mA, J, _⟩ := ins_get I.hok ha
  obtain ⟨mB, J2, _⟩ := ins_get I.hok hc
  obtain ⟨od, J, _⟩ := J.look; obtain ⟨od2, J2, _⟩ := J2.look; obtain ⟨mF, hF⟩ := I.fr
  refine PySem.W.cmp_K (op := .Eq) (tb := .ref C) sb.room.units0 hF I.ok.mod.kin J J2.type (by simp [PySem.W.notFirst]) hs hf ?_
  have q := k H (Same.refl _)
  have e0 : Env0 X.prog X.w X.K X.mg X.base A X.stack s H := by have e := I.env0; exact ⟨by rw [sb.fr]; exact e.frames, e.mod, e.bs, e.bsz, e.funs, e.frf, e.hok, e.bare⟩
  have hl := F.len _ _ _ _ q
  refine wpAny_call (codeAny_mono (F.run A X.stack s H ⟨[.ref a, .ref c], []⟩ [.ref a, .ref c] [.ref a, .ref c] _ E0 sb.room e0 (by have := hb s [.ref a, .ref c] I.kIn (by simpa using hl); simpa using this) (.cons rfl (.cons rfl .nil)) q) (fun r s' hq => ?_))
  cases r with
  | error e => exact absurd hq (fun q => q.elim)
  | ok fl =>
    cases fl with
    | ret w =>
      obtain ⟨z, H2, I2, rz, ez, ex⟩ := I.after hq
      subst ez; cases rz
      exact ⟨b, rfl, rfl, H2, I2, ex⟩
    | next => exact hq.elim
    | brk => exact hq.elim
    | cont => exact hq.elim
/-! ### rows -/
def PrsB (D : EqvB) (xs ys : List V) (e : Nat → Bool) (H : Hp) : Prop := xs.length = ys.length ∧ ∀ (i : Nat) x y, xs[i]? = some x → ys[i]? = some y → D x y (e i) H
theorem turnB (hD : MonB D) (h : EqB X n D) {A : Around} (sb : Sub X (n + 1) A) {pins : List (Addr × Obj)} {σ : L2.St} {H : Hp} {xs ys : List V} {its ots : List Value} {e : Nat → Bool} (p : PrsB D xs ys e H) (r : Vals xs its) (r2 : Vals ys ots)
    (i : Nat) (h1 : i < its.toArray.size) (h2 : i < ots.toArray.size) (s' : Shared) (l : ∃ H', Inv X pins σ H' s' ∧ Same H H') :
    wpAny (model X.prog X.w) A.in1 (eqBool its.toArray[i] ots.toArray[i]) (fun r s2 => r = e i ∧ ∃ H', Inv X pins σ H' s2 ∧ Same H H') X.xe s' := by
  obtain ⟨H1, I1, s1⟩ := l
  have i1 : i < its.length := by simpa using h1
  have i2 : i < ots.length := by simpa using h2
  have k1 : i < xs.length := by rw [r.length]; exact i1
  have k2 : i < ys.length := by rw [r2.length]; exact i2
  obtain ⟨u, hu, ru⟩ := r.get (List.getElem?_eq_getElem k1); obtain ⟨v, hv, rv⟩ := r2.get (List.getElem?_eq_getElem k2)
  have g1 : its[i]? = some its.toArray[i] := by rw [List.getElem?_eq_getElem i1]; simp
  have g2 : ots[i]? = some ots.toArray[i] := by rw [List.getElem?_eq_getElem i2]; simp
  rw [g1] at hu; rw [g2] at hv
  rw [Option.some.inj hu, Option.some.inj hv]
  refine wpAny_mono (h A.in1 pins s' σ H1 _ _ u v _ sb.in1 I1 ru rv (hD _ _ _ _ _ s1 (p.2 i _ _ (List.getElem?_eq_getElem k1) (List.getElem?_eq_getElem k2)))) (fun r s2 q => ?_) (fun _ _ x => x)
  obtain ⟨hr, H2, I2, s2'⟩ := q
  exact ⟨hr, H2, I2, s1.trans s2'⟩
def rRowB (K : PySem.W.Frag) (f : Bool → Bool) (D : EqvB) : R2 := fun x y H Q => ∃ (a b : Addr) (xs ys : List V) (e : Nat → Bool), x = .ref a ∧ y = .ref b ∧ ((H a = some (.lst xs) ∧ H b = some (.lst ys)) ∨ (SqT K H a xs ∧ SqT K H b ys)) ∧ PrsB D xs ys e H ∧ ∀ H', Same H H' → Q (.bl (f (allFrom e 0 xs.length))) H'
theorem keepB (hD : MonB D) (h : EqB X n D) {A : Around} (sb : Sub X (n + 1) A) {pins : List (Addr × Obj)} {σ : L2.St} {H : Hp} {xs ys : List V} {e : Nat → Bool} {a b : Addr} (p : PrsB D xs ys e H) (ha : H a = some (.lst xs)) (hb : H b = some (.lst ys)) : LKeep X.prog X.w A X.xe a b xs.length e (fun s' => ∃ H', Inv X pins σ H' s' ∧ Same H H') := by
  refine ⟨fun s' q => ?_⟩
  obtain ⟨H1, I1, s1⟩ := id q
  obtain ⟨z, its, k, r, e1⟩ := I1.hok a _ (s1 _ _ ha); obtain ⟨z2, ots, k2, r2, e2⟩ := I1.hok b _ (s1 _ _ hb)
  exact ⟨its.toArray, ots.toArray, k, k2, e1, e2, by rw [List.size_toArray, ← r.length], by rw [List.size_toArray, ← r2.length, ← p.1], fun i h1 h2 => turnB hD h sb p r r2 i h1 h2 s' q⟩
theorem op_rowEq {K : PySem.W.Frag} (hD : MonB D) (h : EqB X n D) (hr : Room (n + 1) X.A) (hK : X.K = K := by rfl) : OpR X (compareOp .Eq) (rRowB K id D) := by
  subst hK
  rintro pins s σ H x y v u Q I rx ry ⟨a, b, xs, ys, e, rfl, rfl, hs, p, q⟩
  cases rx; cases ry
  show wpAny (model X.prog X.w) X.A (richCompare .Eq _ _) (EP X pins σ Q) X.xe s
  rcases hs with ⟨ha, hb⟩ | ⟨ha, hb⟩
  · exact rc_list_eq hr.units0 _ (keepB hD h ⟨hr, rfl⟩ p ha hb) (fun s' ⟨H', I', s1⟩ => ⟨.bl _, H', I', rfl, q H' s1⟩) ⟨H, I, Same.refl _⟩
  · obtain ⟨its, r, e1, z⟩ := I.tuple ha; obtain ⟨ots, r2, e2, z2⟩ := I.tuple hb
    have l1 : its.toArray.size = xs.length := by rw [List.size_toArray, ← r.length]
    refine rc_tup_eq (e := e) (by rw [l1, List.size_toArray, ← r2.length]; exact p.1) hr.units0 (fun s' => ∃ H', Inv X pins σ H' s' ∧ Same H H') e1 e2 (fun i h1 h2 s' k => turnB hD h ⟨hr, rfl⟩ p r r2 i h1 h2 s' k) (fun s' ⟨H', I', s1⟩ => ⟨.bl _, H', I', rfl, by rw [l1]; exact q H' s1⟩) ⟨H, I, Same.refl _⟩
theorem op_rowNe {K : PySem.W.Frag} (hD : MonB D) (h : EqB X n D) (hr : Room (n + 1) X.A) (hK : X.K = K := by rfl) : OpR X (compareOp .NotEq) (rRowB K not D) := by
  subst hK
  rintro pins s σ H x y v u Q I rx ry ⟨a, b, xs, ys, e, rfl, rfl, hs, p, q⟩
  cases rx; cases ry
  show wpAny (model X.prog X.w) X.A (richCompare .NotEq _ _) (EP X pins σ Q) X.xe s
  rcases hs with ⟨ha, hb⟩ | ⟨ha, hb⟩
  · exact rc_list_ne hr.units0 _ (keepB hD h ⟨hr, rfl⟩ p ha hb) (fun s' ⟨H', I', s1⟩ => ⟨.bl _, H', I', rfl, q H' s1⟩) ⟨H, I, Same.refl _⟩
  · obtain ⟨its, r, e1, z⟩ := I.tuple ha; obtain ⟨ots, r2, e2, z2⟩ := I.tuple hb
    have l1 : its.toArray.size = xs.length := by rw [List.size_toArray, ← r.length]
    refine rc_tup_ne (e := e) (by rw [l1, List.size_toArray, ← r2.length]; exact p.1) hr.units0 (fun s' => ∃ H', Inv X pins σ H' s' ∧ Same H H') e1 e2 (fun i h1 h2 s' k => turnB hD h ⟨hr, rfl⟩ p r r2 i h1 h2 s' k) (fun s' ⟨H', I', s1⟩ => ⟨.bl _, H', I', rfl, by rw [l1]; exact q H' s1⟩) ⟨H, I, Same.refl _⟩
/-- one rule or another -/
theorem op_or2 {f : Value → Value → Sem Value} {r1 r2 : R2} (h1 : OpR X f r1) (h2 : OpR X f r2) : OpR X f (fun x y H Q => r1 x y H Q ∨ r2 x y H Q) := fun pins s σ H x y v u Q I rx ry q => q.elim (h1 pins s σ H x y v u Q I rx ry) (h2 pins s σ H x y v u Q I rx ry)
end
end Z
namespace Z
open PySem PySem.Spec PyProof.Rows L2
open AutoSeq1 (wpAny_loadPart')
open MeetsSeq MeetsSeq2 MeetsSeq3 SeqRoads2 SeqAt
/-! ### a dict is no text -/
abbrev dObj (dd : Option Addr) (es : Array DictEntry) (ep : Nat) (sl : Array (Option Value)) : Obj := { cls := .type "dict", dict := dd, data := .dict es ep, slots := sl }
theorem dict_no_str (l : Addr) (dd : Option Addr) (es : Array DictEntry) (ep : Nat) (sl : Array (Option Value)) (b : Str) (u : Tok) : Meets (Builtin.«dict.__eq__» ⟨[.ref l, .str b u], []⟩) (fun _ R s => s.heap.get? l = some (dObj dd es ep sl) ∧ R (.ok (.ret .notImplemented)) s) :=
  .of_wp fun prog w A R s h => by
    obtain ⟨hp, g, d, tk, os⟩ := s; obtain ⟨q, k⟩ := h
    have f1 := F.sub_str_dict; wp_walk using wpAny_loadPart' q
    exact ⟨_, rfl, k⟩
theorem str_no_dict (l : Addr) (dd : Option Addr) (es : Array DictEntry) (ep : Nat) (sl : Array (Option Value)) (b : Str) (u : Tok) : Meets (Builtin.«str.__eq__» ⟨[.str b u, .ref l], []⟩) (fun _ R s => s.heap.get? l = some (dObj dd es ep sl) ∧ R (.ok (.ret .notImplemented)) s) :=
  .of_wp fun prog w A R s h => by
    obtain ⟨hp, g, d, tk, os⟩ := s; obtain ⟨q, k⟩ := h
    wp_walk using wpAny_loadPart' q, wpAny_load q; exact ⟨_, rfl, k⟩
theorem rc_dict_str {A : Around} {s : Shared} {l : Addr} {dd : Option Addr} {es : Array DictEntry} {ep : Nat} {sl : Array (Option Value)} (ho : s.heap.get? l = some (dObj dd es ep sl)) (b : Str) (u : Tok) (hu : A.units < cLine) : RcAt A s (.ref l) (.str b u) false := fun prog w E Q h =>
  rc_eq_decline_or (k := false) ⟨_, ho, rfl⟩ (typeIs_str s b u) (by decide) F.sub_str_dict F.slot_dict_eq F.slot_str_eq_refl
    (fun _ k => call_meets F.slot_dict_eq ⟨_, ho, rfl⟩ F.entry_dict_eq (F.args_dict_eq_2 _ _) (dict_no_str l dd es ep sl b u) ⟨ho, k⟩)
    (fun _ k => call_meets F.slot_str_eq_refl (typeIs_str s b u) F.entry_str_eq (F.args_str_eq_2 _ _) (str_no_dict l dd es ep sl b u) ⟨ho, k⟩)
    (fun _ k => wpAny_of_eq (rfl : isSame (.ref l) (.str b u) = pure false) k) (.inr hu) h
def rDictStr : R2 := fun x y H Q => ∃ (a : Addr) (kvs : List (Key × V)) (z : Str), x = .ref a ∧ y = .str z ∧ H a = some (.dK kvs) ∧ Q (.bl false) H
theorem op_dictStr {X : Cx} (hu : X.A.units < cLine) : OpR X (compareOp .Eq) rDictStr := by
  rintro pins s σ H x y v u Q I rx ry ⟨a, kvs, z, rfl, rfl, ha, q⟩
  cases rx; obtain ⟨t, rfl⟩ := ry
  obtain ⟨_, _, vs, _, ⟨cls, dd, dat, sl⟩, es, ep, ho, ex, hd, _⟩ := I.hok a _ ha
  have hc : cls = .type "dict" := ex.1
  subst hc
  simp only at hd
  subst hd
  exact rc_dict_str ho z t hu X.prog X.w X.xe _ ⟨.bl _, H, I, rfl, q⟩
def isN (a b : Str) (K : PySem.W.Frag) : Bool := decide (PySem.W.kitOne K (.ref (He.ga K a)) (.ref (He.ga K b)) = some false)
theorem part_ok {K : PySem.W.Frag} {H : Hp} {u v : V} {f0 f1 f2 f3 m a b : Str} {Q : Addr → Hp → Prop} {E : XK} (hu : ∃ q, u = .ref q ∧ RowA H q ([f0, m].map V.str)) (hv : ∃ q, v = .ref q ∧ RowA H q ([a, b].map V.str)) (ok : RowOk f0 f1 f2 f3 m a b)
    (k : ∀ p H', Same H H' → H p = none → PartAt K H' p [f0, f1, f2, f3] [f0, m] [a, b] → Q p H') :
    ∀ x dx, H x = none → H dx = none → dx ≠ x → spPart K [.ref x, u, v] (upd (upd H dx (.own x)) x (.ins (He.ga K "Parting") dx [])) (fun v H2 => v = .non ∧ Q x H2) E :=
  part_new hu hv ok.two fun p hs ny fy H' s n c h => by
    obtain ⟨rfl, rfl, rfl⟩ := ok.part (.inl ⟨.refl _, .refl _⟩) c
    exact k p H' s n h
def tabN (a b : Str) (K : PySem.W.Frag) : Bool := decide ((He.cT K (a, none)).2 ≠ (He.cT K (b, none)).2)
end Z
namespace Z
open PySem PySem.Spec PyProof.Rows L2 TL
/-! ### the text of a parting, told by its words -/
def fourB (a b s c d : Str) : Bool := decide (s = Str.ofString "/") && ([a, b, c, d].all nmB && (decide [a, b, c, d].Nodup && (!ltCps b.cps.toList a.cps.toList && (!ltCps d.cps.toList c.cps.toList && !ltCps c.cps.toList a.cps.toList))))
def readL (ws : List Str) : Option (List Str × List Str) := match ws with
  | [a, b, s, c, d] => if fourB a b s c d = true then some ([a, b], [c, d]) else none
  | _ => none
theorem join_five (a b c d : Str) : Txt.join (Str.ofString " ") [a, b, Str.ofString "/", c, d] = partText [a, b] [c, d] := by
  refine str_ext ?_
  show tl _ = tl _
  unfold partText
  rw [tl_append, tl_append, join_eq, join_eq, join_eq, tl_join, tl_join, tl_join, tl_sp, tl_slash]
  simp [joinL, show tl (Str.ofString "/") = [47] by decide +kernel]
theorem lt_of_n {a b : Str} (n : a ≠ b) (h : ltCps b.cps.toList a.cps.toList = false) : ltCps a.cps.toList b.cps.toList = true := by
  cases e : ltCps a.cps.toList b.cps.toList with
  | true => rfl
  | false => exact absurd (leS_anti h e) n
theorem n_of_lt {a b : Str} (h : ltCps a.cps.toList b.cps.toList = true) : ltCps b.cps.toList a.cps.toList = false := by
  cases e : ltCps b.cps.toList a.cps.toList with
  | false => rfl
  | true => exact absurd (lt_iff.mp e) (List.lt_asymm (lt_iff.mp h))
theorem readL_to {z : Str} {ns ms : List Str} (h : readL (Txt.split z (Str.ofString " ")) = some (ns, ms)) : readP z = some (ns, ms) := by
  have eb := split_back z (Str.ofString " ")
  generalize Txt.split z (Str.ofString " ") = ws at h eb
  unfold readL at h
  split at h
  · rename_i a b s c d
    split at h
    · rename_i f
      cases h
      unfold fourB at f
      simp only [Bool.and_eq_true, decide_eq_true_eq, Bool.not_eq_true'] at f
      obtain ⟨rfl, nm, nd, f1, f2, f3⟩ := f
      have nm : ∀ w ∈ [a, b, c, d], IsNm w := fun w hw => nmB_iff.mp (List.all_eq_true.mp nm w hw)
      have nd' := nd
      simp only [List.nodup_cons, List.mem_cons, List.not_mem_nil, or_false, not_or] at nd'
      obtain ⟨⟨n1, n2, n3⟩, _, n4, _⟩ := nd'
      rw [← eb, join_five]
      exact readP_text (x := a) (y := c) ⟨nm, nd, rfl, rfl⟩ (rise_asc (by show (ltCps a.cps.toList b.cps.toList && true) = true; rw [lt_of_n n1 f1]; rfl)) (rise_asc (by show (ltCps c.cps.toList d.cps.toList && true) = true; rw [lt_of_n n4 f2]; rfl)) rfl rfl (lt_of_n n2 f3)
    · cases h
  · cases h
theorem readP_to {z : Str} {ns ms : List Str} (h : readP z = some (ns, ms)) : readL (Txt.split z (Str.ofString " ")) = some (ns, ms) := by
  unfold readP at h
  split at h
  · rename_i a b e
    dsimp only at h
    have ez := split_twoP e
    split at h
    · rename_i f
      cases h
      rw [Bool.and_eq_true, Bool.and_eq_true, Bool.and_eq_true] at f
      obtain ⟨f1, f2, f3, f4⟩ := f
      obtain ⟨l1, m1, a1⟩ := coupB_iff.mp f1
      obtain ⟨l2, m2, a2⟩ := coupB_iff.mp f2
      have ap := apartB_iff.mp f3
      generalize Txt.split a (Str.ofString " ") = ns at ez l1 m1 a1 ap f4 ⊢
      generalize Txt.split b (Str.ofString " ") = ms at ez l2 m2 a2 ap f4 ⊢
      obtain ⟨x, y, rfl⟩ : ∃ x y, ns = [x, y] := by
        match ns, l1 with
        | [x, y], _ => exact ⟨x, y, rfl⟩
      obtain ⟨u, v, rfl⟩ : ∃ u v, ms = [u, v] := by
        match ms, l2 with
        | [u, v], _ => exact ⟨u, v, rfl⟩
      have f4 : ltCps x.cps.toList u.cps.toList = true := f4
      have r1 : ltCps x.cps.toList y.cps.toList = true := by
        have q : (ltCps x.cps.toList y.cps.toList && true) = true := rise_iff.mpr a1
        rw [Bool.and_true] at q
        exact q
      have r2 : ltCps u.cps.toList v.cps.toList = true := by
        have q : (ltCps u.cps.toList v.cps.toList && true) = true := rise_iff.mpr a2
        rw [Bool.and_true] at q
        exact q
      have nd : [x, y, u, v].Nodup := List.nodup_append.mpr ⟨a1.2.1, a2.2.1, fun p hp q hq e => ap p hp (e ▸ hq)⟩
      have es : Txt.split z (Str.ofString " ") = [x, y, Str.ofString "/", u, v] := by
        rw [ez, ← join_five]
        refine split_join tl_sp (by decide +kernel) (by simp) fun w hw => ?_
        simp only [List.mem_cons, List.not_mem_nil, or_false] at hw
        rcases hw with rfl | rfl | rfl | rfl | rfl
        · exact nm_no (m1 _ (by simp)) (by omega)
        · exact nm_no (m1 _ (by simp)) (by omega)
        · decide +kernel
        · exact nm_no (m2 _ (by simp)) (by omega)
        · exact nm_no (m2 _ (by simp)) (by omega)
      rw [es]
      show (if fourB x y (Str.ofString "/") u v = true then _ else _) = _
      rw [if_pos]
      unfold fourB
      simp only [Bool.and_eq_true, decide_eq_true_eq, Bool.not_eq_true']
      refine ⟨trivial, List.all_eq_true.mpr fun w hw => nmB_iff.mpr ?_, nd, n_of_lt r1, n_of_lt r2, n_of_lt f4⟩
      rcases List.mem_append.mp (show w ∈ [x, y] ++ [u, v] from hw) with hw | hw
      · exact m1 w hw
      · exact m2 w hw
    · cases h
  · cases h
theorem readP_words (z : Str) : readP z = readL (Txt.split z (Str.ofString " ")) := by
  cases e : readP z with
  | some q => exact (readP_to e).symm
  | none =>
    cases e2 : readL (Txt.split z (Str.ofString " ")) with
    | none => rfl
    | some q =>
      rw [readL_to e2] at e
      cases e
end Z
/-! ### text.replace, also with a count; statements behind which a token is out -/
namespace Z
open PySem PySem.Spec PyProof.Rows L2 TL Builtin Builtin.Str
theorem fold_mem (z : Str) : ∀ (rest : List Str) (acc : Array Nat) (c : Nat), c ∈ (rest.foldl (fun acc p => acc ++ z.cps ++ p.cps) acc).toList → c ∈ acc.toList ∨ c ∈ z.cps.toList ∨ ∃ p ∈ rest, c ∈ p.cps.toList
  | [], acc, c, h => .inl h
  | p :: r, acc, c, h => by
    rcases fold_mem z r _ c h with h | h | ⟨q, hq, h⟩
    · rw [Array.toList_append, Array.toList_append] at h
      rcases List.mem_append.mp h with h | h
      · rcases List.mem_append.mp h with h | h
        · exact .inl h
        · exact .inr (.inl h)
      · exact .inr (.inr ⟨p, .head _, h⟩)
    · exact .inr (.inl h)
    · exact .inr (.inr ⟨q, .tail _ hq, h⟩)
theorem glued_mem {z : Str} : ∀ {parts : List Str} {c : Nat}, c ∈ (glued z parts).cps.toList → c ∈ z.cps.toList ∨ ∃ p ∈ parts, c ∈ p.cps.toList
  | [], c, h => by simp [glued, Str.empty] at h
  | p :: r, c, h => by
    rcases fold_mem z r _ c h with h | h | ⟨q, hq, h⟩
    · exact .inr ⟨p, .head _, h⟩
    · exact .inl h
    · exact .inr ⟨q, .tail _ hq, h⟩
theorem parts_mem {x p : Str} {cuts : List Nat} {w : Nat} (hp : p ∈ partsBetween x cuts w) {c : Nat} (h : c ∈ p.cps.toList) : c ∈ x.cps.toList := by
  unfold partsBetween at hp
  obtain ⟨⟨i, j⟩, _, rfl⟩ := List.mem_map.mp hp
  have h : c ∈ (x.cps.extract i j).toList := h
  rw [Array.toList_extract] at h
  exact List.mem_of_mem_drop (List.mem_of_mem_take h)
/-- a text of letters of x and z, not longer than each place widened -/
def RepOf (x z r : Str) : Prop := (∀ c ∈ r.cps.toList, c ∈ x.cps.toList ∨ c ∈ z.cps.toList) ∧ r.length ≤ x.length + (x.length + 1) * z.length
theorem repOf_self (x z : Str) : RepOf x z x := ⟨fun c h => .inl h, Nat.le_add_right _ _⟩
theorem repOf_glued (x y z : Str) (l : Nat) (hl : l ≤ x.length + 1) : RepOf x z (glued z (partsBetween x (occurrences x y 0 x.length l) y.length)) := by
  refine ⟨fun c h => ?_, ?_⟩
  · rcases glued_mem h with h | ⟨p, hp, h⟩
    · exact .inr h
    · exact .inl (parts_mem hp h)
  · have h1 := StrLaws.occ_length_le x y 0 x.length l
    have hy : (glued y (partsBetween x (occurrences x y 0 x.length l) y.length)).length = x.length := by rw [StrLaws.glued_between_self]
    rw [size_glued, length_partsBetween, Nat.add_sub_cancel] at hy
    rw [size_glued, length_partsBetween, Nat.add_sub_cancel]
    have h2 : (occurrences x y 0 x.length l).length * z.length ≤ (x.length + 1) * z.length := Nat.mul_le_mul_right _ (Nat.le_trans h1 hl)
    omega
theorem repOf_txt (x y z : Str) : RepOf x z (Txt.replace x y z) := by
  unfold Txt.replace
  split
  · exact repOf_self _ _
  · exact repOf_glued _ _ _ _ (Nat.le_refl _)
theorem gives_replace1 (x y z : Str) (t u v w : Tok) (hu : u ≠ 0) (hv : v ≠ 0) (huv : u ≠ v) (hyz : (y == z) = false) (hb : x.length + (x.length + 1) * z.length ≤ 16777216) :
    Gives («str.replace» ⟨[.str x t, .str y u, .str z v, .int 1 w], []⟩) (if ((occurrences x y 0 x.length 1).isEmpty || (y.length == 0 && z.length == 0)) = true then .val (.str x t) else .str (glued z (partsBetween x (occurrences x y 0 x.length 1) y.length))) := by
  have e : (2 : Nat) ^ 24 = 16777216 := by decide
  have hl : tooLong (x.length + (occurrences x y 0 x.length 1).length * z.length) = false := by
    have h1 := StrLaws.occ_length_le x y 0 x.length 1
    have h2 : (occurrences x y 0 x.length 1).length * z.length ≤ (x.length + 1) * z.length := Nat.mul_le_mul_right _ (by omega)
    unfold tooLong sizeLine
    exact decide_eq_false (by omega)
  show Gives (do
      let limit ← countLimit "str.replace" (some (.int 1 w)) (x.length + 1)
      if ((occurrences x y 0 x.length limit).isEmpty || (y.length == 0 && z.length == 0)) = true then (do rule "str.replace.nothing"; ret (.str x t)) else
          (do let same ← isSame (.str y u) (.str z v)
              if same = true then (do rule "str.replace.old-is-new"; ret (.str x t)) else
              if tooLong (x.length + (occurrences x y 0 x.length limit).length * z.length) = true then unsupported "str.replace:memory" else
              retStr (glued z (partsBetween x (occurrences x y 0 x.length limit) y.length)))) _
  rw [countLimit_int "str.replace" 1 w (x.length + 1) (by decide)]
  show Gives (if ((occurrences x y 0 x.length 1).isEmpty || (y.length == 0 && z.length == 0)) = true then (do rule "str.replace.nothing"; ret (.str x t)) else
          (do let same ← isSame (.str y u) (.str z v)
              if same = true then (do rule "str.replace.old-is-new"; ret (.str x t)) else
              if tooLong (x.length + (occurrences x y 0 x.length 1).length * z.length) = true then unsupported "str.replace:memory" else
              retStr (glued z (partsBetween x (occurrences x y 0 x.length 1) y.length)))) _
  cases hc : ((occurrences x y 0 x.length 1).isEmpty || (y.length == 0 && z.length == 0))
  · rw [isSame_str_other y z u v (by simp [hu, hv]) (by simp [huv]) hyz, hl]
    exact .of_eq rfl
  · exact .rule (.of_eq rfl)
theorem replace1 {prog : Program} {w : World} {A : Around} {E : Value → Shared → Prop} {s : Shared} {x y z : Str} {t u v k : Tok} {Q : Value → Shared → Prop} (hu : u ≠ 0) (hv : v ≠ 0) (huv : u ≠ v) (hyz : (y == z) = false) (hb : x.length + (x.length + 1) * z.length ≤ 16777216)
    (hq : ∀ r t' n, RepOf x z r → Q (.str r t') { s with toks := n }) : wpAny (model prog w) A (call (.builtin "str.replace") [.str x t, .str y u, .str z v, .int 1 k]) Q E s := by
  refine call_gives F.slot_str_replace (typeIs_str _ _ _) F.entry_str_replace (F.args_str_replace_4 _ _ _ _) (gives_replace1 x y z t u v k hu hv huv hyz hb) ?_
  split
  · exact hq x t s.toks (repOf_self _ _)
  · exact ⟨by have h := (repOf_glued x y z 1 (by omega)).2; rw [sizeLine_eq]; omega, hq _ _ _ (repOf_glued x y z 1 (by omega))⟩
theorem Call_method3 {prog : Program} {w : World} {A : Around} {E : Value → Shared → Prop} {s : Shared} {env : Env} {o e₁ e₂ e₃ : Expr} {name : Str} {apos pos : Pos} {Q : Value → Shared → Prop}
    (hbase : attributeBase o name env (PySem.eval o env) = PySem.eval o env) (hs : starEach [e₁, e₂, e₃] env = [(false, PySem.eval e₁ env), (false, PySem.eval e₂ env), (false, PySem.eval e₃ env)]) (hline : (apos.endLine == pos.line) = true)
    (h : wpAny (model prog w) A (PySem.eval o env) (fun ov s₁ => MethodOnS prog w A E name ov pos [(false, PySem.eval e₁ env), (false, PySem.eval e₂ env), (false, PySem.eval e₃ env)] Q s₁) E s) :
    wpAny (model prog w) A (PySem.eval (.Call (.Attribute o name apos) [e₁, e₂, e₃] [] pos) env) Q E s := by
  refine wpAny_Call_method_lateS hbase (by rw [hs]; rfl) hline ?_
  rw [hs]; exact h
def tRepA (to : TE) (z : Str) : TE := fun σ H Q => to σ H fun v H1 => ∃ x, v = .str x ∧ x.length + (x.length + 1) * z.length ≤ 16777216 ∧ ∀ r, RepOf x z r → Q (.str r) H1
section
variable {X : Cx} {o e : Expr} {te : TE} {to : TE} {ta : TA} {y z : Str} {j k l : Nat} {c0 c1 c2 apos pos p p' : Pos} {st : Stmt} {rest a b : List Stmt} {t u : TS}
theorem pet_rep2 (ho : PE X o to) (hyz : (y == z) = false := by decide)
    (hst : starEach [.Constant (.str y) j c0, .Constant (.str z) k c1] X.env = [(false, eval (.Constant (.str y) j c0) X.env), (false, eval (.Constant (.str z) k c1) X.env)] := by rfl)
    (hbase : attributeBase o "replace" X.env (eval o X.env) = eval o X.env := by rfl) (hline : (apos.endLine == pos.line) = true := by rfl) :
    PET X (.Call (.Attribute o "replace" apos) [.Constant (.str y) j c0, .Constant (.str z) k c1] [] pos) (tRepA to z) := by
  intro pins s σ H Q h0 I h
  refine PySem.Call_method2 hbase hst hline (wpAny_mono (PySem.wpAny_toks (ho.run pins s σ H _ I h)) (fun v s1 q => ?_) fun _ _ z => z.2)
  obtain ⟨hk, v', H1, I1, r1, x, e1, hb, q⟩ := q
  subst e1
  obtain ⟨tx, e2⟩ := r1
  subst e2
  refine ⟨"str", _, PySem.F.plainAttrs_str, PySem.F.slot_str_replace, PySem.F.type_str_replace, typeIs_str _ _ _, (fun _ e => nomatch e), Calls.callWith_builtin rfl (Calls.evalArgs_plain (Calls.spliced_cons ?_))⟩
  refine Calls.Constant_str (Calls.spliced_cons (Calls.Constant_str (Calls.spliced_nil ?_)))
  exact PySem.SC.replace (by show s1.toks ≠ 0; omega) (by show s1.toks + 1 ≠ 0; omega) (by show s1.toks ≠ s1.toks + 1; omega) hyz hb fun t' k => ⟨.str (Txt.replace x y z), H1, I1.tok k, ⟨t', rfl⟩, q _ (repOf_txt x y z)⟩
theorem pet_rep3 (ho : PE X o to) (hyz : (y == z) = false := by decide)
    (hst : starEach [.Constant (.str y) j c0, .Constant (.str z) k c1, .Constant (.int 1) l c2] X.env = [(false, eval (.Constant (.str y) j c0) X.env), (false, eval (.Constant (.str z) k c1) X.env), (false, eval (.Constant (.int 1) l c2) X.env)] := by rfl)
    (hbase : attributeBase o "replace" X.env (eval o X.env) = eval o X.env := by rfl) (hline : (apos.endLine == pos.line) = true := by rfl) :
    PET X (.Call (.Attribute o "replace" apos) [.Constant (.str y) j c0, .Constant (.str z) k c1, .Constant (.int 1) l c2] [] pos) (tRepA to z) := by
  intro pins s σ H Q h0 I h
  refine Call_method3 hbase hst hline (wpAny_mono (PySem.wpAny_toks (ho.run pins s σ H _ I h)) (fun v s1 q => ?_) fun _ _ z => z.2)
  obtain ⟨hk, v', H1, I1, r1, x, e1, hb, q⟩ := q
  subst e1
  obtain ⟨tx, e2⟩ := r1
  subst e2
  refine ⟨"str", _, PySem.F.plainAttrs_str, PySem.F.slot_str_replace, PySem.F.type_str_replace, typeIs_str _ _ _, (fun _ e => nomatch e), Calls.callWith_builtin rfl (Calls.evalArgs_plain (Calls.spliced_cons ?_))⟩
  refine Calls.Constant_str (Calls.spliced_cons (Calls.Constant_str (Calls.spliced_cons (wpAny_Constant_int (Calls.spliced_nil ?_)))))
  exact replace1 (by show s1.toks ≠ 0; omega) (by show s1.toks + 1 ≠ 0; omega) (by show s1.toks ≠ s1.toks + 1; omega) hyz hb fun r t' n hr => ⟨.str r, H1, I1.tok n, ⟨t', rfl⟩, q _ hr⟩
theorem PET.of (h : PE X e te) : PET X e te := fun pins s σ H Q _ I q => h.run pins s σ H Q I q
theorem pet_def {k : Nat} {x : Str} {ps : List Str} {sp : Sp} {e : Expr} {es : List Expr} {p pos : Pos} {t : TA} (D : DefN X.prog X.w X.K X.mg X.base k x ps sp) (hr : Room k X.A) (hg : Gl X x) (ha : PAT X (e :: es) t)
    (hdb : (x == ("__debug__" : Str)) = false := by decide) (he : starEach (e :: es) X.env = (false, eval e X.env) :: starEach es X.env := by rfl) (hpl : (backTo pos (starEach es X.env)).any (·.1) = false := by rfl) :
    PET X (.Call (.Name x p) (e :: es) [] pos) (tCall sp [] E0 t) := by
  obtain ⟨fd, F, b⟩ := D.ex
  intro pins s σ H Q h0 I h
  refine wpAny_Call_Name_kw (ld_glob I hg D.at_ ?_ hdb)
  refine PySem.W.callWith_K (h₀ := X.base) I.ok.mod.kin D.kp (thn (ha pos pins s σ H _ h0 I h) fun us s1 ⟨vs, H1, I1, r, q⟩ => ⟨I1.kIn, ?_⟩) he hpl
  exact run_fn F hr b .nil pass0 I1 r q
theorem pst_set {i : Nat} {x : Str} {e : Expr} {te : TE} {pos' : Pos} (hN : X.N.Nodup) (hi : X.N[i]? = some x) (hx : Loc X.env.scope x) (he : PET X e te) (hs : swapsWith e (some (.Name x pos')) pos.line X.env = pure false := by rfl) (hf : X.fn x = true ∨ X.env.scope.names.lookup x = some .local := by first | exact .inl rfl | exact .inr rfl | assumption) :
    PST X (.Assign [.Name x pos'] e pos) (tAsg te (gName i)) := by
  intro pins s σ H D h0 I h
  refine wpAny_Assign_Name (thn (he pins s σ H _ h0 I h) fun v s1 ⟨y, H1, I1, r1, q1⟩ => ?_) hs
  exact store_ok I1 hN hi hx r1 (fun s2 I2 => ⟨_, H1, I2, q1⟩) hf
/-- behind the test of a number a token is out -/
theorem ps_ifI {c : Expr} {op : CmpOp} {r : R2} {ta : TE} {n : Int} (ho : OpR X (compareOp op) r) (ha : PE X c ta) (hm : behindInMarks op (.Constant (.int n) j c0) = false) (ht : PSsT X a t) (hf : PSsT X b u) :
    PS X (.If (.Compare c [op] [.Constant (.int n) j c0] pos) a b p) (tIfS (tTest (tOp r ta (tC (.int n)))) t u) := by
  refine ⟨fun pins s σ H D I h => ?_⟩
  have h : tTest (tOp r ta (tC (.int n))) σ H (fun d H1 => if d = true then t D σ H1 else u D σ H1) := h
  refine wpAny_If (Q := fun d s1 => _) (wpAny_isTrue_Compare1 (thn (ha.run pins s σ H _ I h) fun v s1 ⟨x, H1, I1, r1, q1⟩ => wpAny_Constant_int ?_) hm)
  have I2 := I1.tok (s1.toks + 1)
  refine wpAny_mono (PySem.wpAny_toks (ho pins _ σ H1 x (.int n) v _ _ I2 r1 ⟨_, rfl⟩ q1)) (fun c s3 w => ?_) fun _ _ z => z.2
  obtain ⟨hk, z, H3, I3, r3, k, e, q3⟩ := w
  have hk : s1.toks + 1 ≤ s3.toks := hk
  subst e
  cases r3
  refine wpAny_truthy_bool ?_
  cases k with
  | true => exact ht pins s3 σ H3 D (by omega) I3 q3
  | false => exact hf pins s3 σ H3 D (by omega) I3 q3
end
end Z
/-! ### if and for within a generator's body -/
namespace Z
open PySem PySem.Spec PyProof.Rows L2
def tGIf (tc : TT) (ta tb : TGn) : TGn := fun D ys σ H => tc σ H fun d H1 => if d = true then ta D ys σ H1 else tb D ys σ H1
theorem gs_if {X : Cx} {c : Expr} {a b : List Stmt} {pos : Pos} {tc : TT} {ta tb : TGn} (hc : PT X c tc) (ha : GSs X a ta) (hb : GSs X b tb) : GS X (.If c a b pos) (tGIf tc ta tb) := by
  refine ⟨fun A S ip R n ys s₀ cc fs K J gd lv s σ H D g hn k hI ht => ?_⟩
  obtain ⟨acc, c0, r, I⟩ := hI
  have ht : tc σ H (fun d H1 => if d = true then ta D ys σ H1 else tb D ys σ H1) := ht
  rw [exec_If]
  refine seg_at ?_
  show Seg _ _ _ _ _ _ _ ((isTrue c X.env (PySem.eval c X.env) >>= fun d => if d = true then execs a X.env else execs b X.env).wrap K J gd lv) _ _
  refine seg_bind_wrap ?_
  rw [g.over]
  refine wpAny_mono (hc.run _ s σ H _ I ht) (fun d s' h' => ?_) fun x s' hx => k.exc n s₀ x s' hx
  obtain ⟨H1, I1, q⟩ := h'
  cases d with
  | true => exact ha.run A S ip R n ys s₀ cc fs K J gd lv s' σ H1 D g hn k ⟨acc, c0, r, I1⟩ q
  | false => exact hb.run A S ip R n ys s₀ cc fs K J gd lv s' σ H1 D g hn k ⟨acc, c0, r, I1⟩ q
end Z

/-! ### for within a generator's body -/
namespace Z
open PySem PySem.Spec PyProof.Rows L2
section
variable {prog : Program} {w : World} {A : Around} {R : GenEnd} {Y : Protocol} {n : Nat} {s₀ : Shared} {fs : List Frame} {s : Shared} {env : Env}
def noted (env : Env) (x : Value) : Sem PySem.Fin := (do noteFrame x env; theTreesLotGoes x : Sem Unit).wrap (fun _ => .raise x) .raise id id
def forEnds (target : Expr) (it : Value) (body : List Stmt) (env : Env) (f : Flow) : Sem PySem.Fin := match f with
  | .next | .cont => .pure (.again (.forLoop target it body [] env))
  | .brk => .pure (.done .next)
  | .ret v => .pure (.done (.ret v))
theorem seg_forLoop {target : Expr} {it : Value} {body : List Stmt}
    (h : wpAny (model prog w) (A.over (.forLoop target it body [] env) fs) (pyNext it) (fun r s1 => match r with
        | none => Seg (model prog w) A R Y n s₀ (.forLoop target it body [] env) (.pure (.again (.block [] env))) fs s1
        | some v => wpAny (model prog w) (A.over (.forLoop target it body [] env) fs) (letOwnedTupleGo target it v) (fun _ s2 =>
            wpAny (model prog w) (A.over (.forLoop target it body [] env) fs) (assign target env v) (fun _ s3 =>
              Seg (model prog w) A R Y n s₀ (.forLoop target it body [] env) ((execs body env).wrap (forEnds target it body env) (noted env) id id) fs s3)
              (fun x s' => Seg (model prog w) A R Y n s₀ (.forLoop target it body [] env) (noted env x) fs s') s2)
            (fun x s' => Seg (model prog w) A R Y n s₀ (.forLoop target it body [] env) (noted env x) fs s') s1)
      (fun x s' => Seg (model prog w) A R Y n s₀ (.forLoop target it body [] env) (noted env x) fs s') s) :
    Seg (model prog w) A R Y n s₀ (.forLoop target it body [] env) ((model prog w).den (.forLoop target it body [] env)) fs s := by
  have hx : ∀ x s', Seg (model prog w) A R Y n s₀ (.forLoop target it body [] env) (noted env x) fs s' → Seg (model prog w) A R Y n s₀ (.forLoop target it body [] env) ((do noteFrame x env; theTreesLotGoes x : Sem Unit).bind fun _ => .raise x) fs s' := fun x s' q => by
    rw [Sem.bind_eq_wrap]
    exact q
  show Seg _ A R Y n s₀ _ ((forTurn target it body [] env).onRaise (fun x => do noteFrame x env; theTreesLotGoes x)) fs s
  unfold forTurn
  rw [Sem.onRaise_eq_wrap]
  refine seg_at ?_
  refine seg_bind_wrap (wpAny_pure ?_)
  refine seg_bind_wrap ?_
  refine wpAny_onRaise (wpAny_mono h (fun r s1 h1 => ?_) fun x s' q => wpAny_standAt ?_)
  · cases r with
    | none => exact h1
    | some v =>
      refine seg_bind_wrap (wpAny_mono h1 (fun _ s2 h2 => ?_) fun x s' q => hx x s' q)
      refine seg_bind_wrap (wpAny_mono h2 (fun _ s3 h3 => ?_) fun x s' q => hx x s' q)
      rw [Sem.bind_eq_wrap', Sem.wrap_wrap]
      rw [Sem.wrap_congr (execs body env) _ _ (K' := forEnds target it body env) (H' := noted env) (fun f => by cases f <;> rfl) (fun e => by first | exact Sem.bind_eq_wrap _ _ | (show (do noteFrame e env; theTreesLotGoes e : Sem Unit).bind (fun _ => .raise e) = _; rw [Sem.bind_eq_wrap]; rfl))]
      exact h3
  · exact hx x s' q
end
end Z

/-! ### for within a generator's body, over any walk -/
namespace Z
open PySem PySem.Spec PyProof.Rows L2
theorem seg_For {M : Model} {A : Around} {R : GenEnd} {Y : Protocol} {n : Nat} {s₀ : Shared} {c : Code} {fs : List Frame} {s : Shared} {env : Env} {K : Flow → Sem PySem.Fin} {H : Value → Sem PySem.Fin} {gd : Bool → Bool} {lv : List Value → List Value} {target iter : Expr} {body : List Stmt} {pos : Pos}
    (hs : ∀ x, foldedSetIterable iter env x = pure x)
    (h : wpAny M (A.over c fs) (eval iter env) (fun v s1 => wpAny M (A.over c fs) (pyIter v) (fun itv s2 => ∀ p, Seg M A R Y n s₀ (.forLoop target itv body [] env) (M.den (.forLoop target itv body [] env))
      (.ret (fun r => ((match r with | .ok f => (.pure f : Sem Flow) | .error e => .raise e).onRaise (cameBack env)).wrap K H gd lv) none (gd false) (lv []) c p [] :: fs) s2)
      (fun x s' => Seg M A R Y n s₀ c (H x) fs s') s1) (fun x s' => Seg M A R Y n s₀ c (H x) fs s') s) :
    Seg M A R Y n s₀ c ((exec (.For target iter body [] pos) env).wrap K H gd lv) fs s := by
  rw [exec_For]
  refine seg_at ?_
  refine seg_bind_wrap (wpAny_pure ?_)
  refine seg_bind_wrap (wpAny_mono h (fun v s1 h1 => ?_) fun x s' q => q)
  rw [hs v]
  refine seg_bind_wrap (wpAny_pure ?_)
  refine seg_at ?_
  refine seg_bind_wrap (wpAny_pure ?_)
  refine seg_bind_wrap (wpAny_holding (wpAny_mono h1 (fun itv s2 h2 => ?_) fun x s' q => q))
  exact seg_call h2
end Z

namespace Z
open PySem PySem.Spec PyProof.Rows L2
def tGFor (wi : TI) (g : TG) (tb : TGn) : TGn := fun D ys σ H => wi σ H fun J H1 => ∃ W : Nat → Nat → List V → L2.St → Hp → Prop, (∃ m, W 0 m ys σ H1) ∧ ∀ i m ys σ H, W i m ys σ H →
  (J.stop i H ∧ D.nx ys σ H) ∨ (J.go i H ∧ ∃ N : List V → L2.St → Hp → Prop, (∀ ys' σ' H', N ys' σ' H' → ∃ m', m' < m ∧ W (i + 1) m' ys' σ' H') ∧ ∀ x H', J.yld i H x H' → g x σ H' fun σ2 H2 => tb { D with nx := N, ct := N, bk := D.nx } ys σ2 H2)
theorem gs_for {X : Cx} {tg iter : Expr} {body : List Stmt} {wi : TI} {gt : TG} {tb : TGn} {pos : Pos} (hp : PassesOwn (model X.prog X.w) X.A X.env X.xe) (hc : X.calm = true) (hi : PI X tg iter wi) (hg : PG X tg gt) (hb : GSs X body tb)
    (hs : ∀ x, foldedSetIterable iter X.env x = pure x := by intro _; rfl) : GS X (.For tg iter body [] pos) (tGFor wi gt tb) := by
  refine ⟨fun A S ip R n ys s₀ c fs K J gd lv s σ H D g hn k hI ht => ?_⟩
  obtain ⟨acc, cc, r, I⟩ := hI
  refine seg_For hs ?_
  rw [g.over]
  have ex : ∀ (x : Value) (s' : Shared), X.xe x s' → Seg (model X.prog X.w) A R (GY X S) n s₀ c (J x) fs s' := fun x s' hx => k.exc n s₀ x s' hx
  refine wpAny_mono (hi.run _ s σ H _ I ht) (fun v s1 h1 => wpAny_mono h1 (fun itv s2 h2 p => ?_) ex) ex
  obtain ⟨it, fp, tn, Jt, H2, e, I2, T, st2, f2, W, ⟨m0, w0⟩, turn⟩ := h2
  subst e
  have gl := fun (kk : Result → Sem PySem.Fin) => gc_loop (k := kk) (c' := .forLoop tg (.ref it) body [] X.env) (l := lv []) (kp := []) (p := p) g rfl rfl
  have frS : ∀ b ∈ fp, S ≠ b := fun b hb => (f2 b hb).2.2.2.2.2 (S, lstObj acc cc) (List.mem_append_right _ (.head _))
  have stat : ∀ {acc' : Array Value} {cc' : Nat} {H' : Hp}, (∀ b ∈ fp, H' b = none) → ∀ b ∈ fp, FpOk X ((S, lstObj acc' cc') :: ip) H' b := fun hn b hb => by
    obtain ⟨_, f3, f4, f5, f6, f7⟩ := f2 b hb
    refine ⟨hn b hb, f3, f4, f5, f6, fun q hq => ?_⟩
    rcases List.mem_append.mp hq with hq | hq
    · exact f7 q (List.mem_append_left _ hq)
    · rcases List.mem_cons.mp hq with rfl | hq
      · exact frS b hb
      · exact f7 q (List.mem_append_right _ (.tail _ hq))
  have loop : ∀ (m i n : Nat) (ys : List V) (s₀ s : Shared) (σ : L2.St) (H : Hp), n + ys.length = sizeLine → W i m ys σ H → GI X S ip ys σ H s → tn i s.heap → (∀ b ∈ fp, H b = none) →
      Seg (model X.prog X.w) A R (GY X S) n s₀ (.forLoop tg (.ref it) body [] X.env) ((model X.prog X.w).den (.forLoop tg (.ref it) body [] X.env))
        (.ret (fun r => ((match r with | .ok f => (.pure f : Sem Flow) | .error e => .raise e).onRaise (cameBack X.env)).wrap K J gd lv) none (gd false) (lv []) c p [] :: fs) s := by
    intro m
    induction m using Nat.strongRecOn with
    | ind m ih =>
      intro i n ys s₀ s σ H hn w hI st fr
      have ee : ∀ (n : Nat) (s₀ : Shared) (x : Value) (s' : Shared), X.xe x s' → Seg (model X.prog X.w) A R (GY X S) n s₀ (.forLoop tg (.ref it) body [] X.env) (noted X.env x)
          (.ret (fun r => ((match r with | .ok f => (.pure f : Sem Flow) | .error e => .raise e).onRaise (cameBack X.env)).wrap K J gd lv) none (gd false) (lv []) c p [] :: fs) s' := fun n s₀ x s' hx => by
        unfold noted
        refine seg_wrap ?_
        rw [(gl _).over]
        refine wpAny_bind (wpAny_mono (hp x s' hx) (fun _ s'' hcb => wpAny_theTreesLotGoes ?_) fun y s'' hcb => ?_)
        · exact seg_leaf (.error x) (seg_cameBack g k hcb)
        · exact seg_leaf (.error y) (seg_cameBack g k hcb)
      refine seg_forLoop ?_
      rw [(gl _).over]
      obtain ⟨acc, cc, r, I⟩ := hI
      rcases turn i m ys σ H w with ⟨stop, qn⟩ | ⟨go, N, hN, step⟩
      · refine wpAny_mono (T.done X rfl rfl rfl hc i _ s σ H X.xe I (stat fr) st stop) (fun r' s4 ⟨hr, I4⟩ => ?_) fun x s' hx => ee n s₀ x s' hx
        subst hr
        refine seg_again rfl ?_
        exact seg_leaf (.ok .next) (k.ok n ys s₀ s4 .next hn ⟨σ, H, ⟨acc, cc, r, I4⟩, qn⟩)
      · refine wpAny_mono (T.item X rfl rfl rfl hc i _ s σ H X.xe I (stat fr) st go) (fun r' s4 ⟨u, hr, h4⟩ => ?_) fun x s' hx => ee n s₀ x s' hx
        subst hr
        refine wpAny_mono h4 (fun _ s5 ⟨x, H5, I5, r5, y5, st5, fr5⟩ => ?_) fun x s' hx => ee n s₀ x s' hx
        have I5' := I5.pinned (stat fr5) (T.obj _ _ st5)
        refine wpAny_mono (hg.run _ s5 σ H5 x u _ I5' r5 (step x H5 y5)) (fun _ s6 ⟨σ6, H6, I6, q6⟩ => ?_) fun x s' hx => ee n s₀ x s' hx
        have ipS : ∀ q ∈ ip ++ pinsAt fp s5.heap, q.1 ≠ S := fun q hq => by
          rcases List.mem_append.mp hq with hq | hq
          · exact g.ip q hq
          · exact (frS _ (of_pinsAt hq).1).symm
        refine hb.run A S (ip ++ pinsAt fp s5.heap) R n ys s₀ _ _ _ _ id id s6 σ6 H6 { D with nx := N, ct := N, bk := D.nx } { gl _ with ip := ipS } hn ⟨fun n' ys' s₀' s7 f hn' hs => ?_, fun n' s₀' x s7 hx => ee n' s₀' x s7 hx⟩ ⟨acc, cc, r, I6⟩ q6
        have again : ∀ {σ7 : L2.St} {H7 : Hp}, GI X S (ip ++ pinsAt fp s5.heap) ys' σ7 H7 s7 → N ys' σ7 H7 → Seg (model X.prog X.w) A R (GY X S) n' s₀' (.forLoop tg (.ref it) body [] X.env) (.pure (.again (.forLoop tg (.ref it) body [] X.env)))
            (.ret (fun r => ((match r with | .ok f => (.pure f : Sem Flow) | .error e => .raise e).onRaise (cameBack X.env)).wrap K J gd lv) none (gd false) (lv []) c p [] :: fs) s7 := fun {σ7 H7} I7 n7 => by
          obtain ⟨acc7, cc7, r7, I7⟩ := I7
          have I7 : Inv X (((S, lstObj acc7 cc7) :: ip) ++ pinsAt fp s5.heap) σ7 H7 s7 := I7
          obtain ⟨m', hm, w7⟩ := hN ys' σ7 H7 n7
          refine seg_again rfl (ih m' hm (i + 1) n' ys' s₀' s7 σ7 H7 hn' w7 ⟨acc7, cc7, r7, I7.unpinned⟩ (T.keep _ _ _ st5 fun b hb o e => (I7.pin (b, o) (List.mem_append_right _ (List.mem_append_right _ (mem_pinsAt hb e)))).1) fun b hb => ?_)
          obtain ⟨o, e, d⟩ := T.obj _ _ st5 b hb
          exact (I7.pin (b, o) (List.mem_append_right _ (List.mem_append_right _ (mem_pinsAt hb e)))).2.1
        have down : ∀ {σ7 : L2.St} {H7 : Hp}, GI X S (ip ++ pinsAt fp s5.heap) ys' σ7 H7 s7 → GI X S ip ys' σ7 H7 s7 := fun {σ7 H7} I7 => by
          obtain ⟨acc7, cc7, r7, I7⟩ := I7
          have I7 : Inv X (((S, lstObj acc7 cc7) :: ip) ++ pinsAt fp s5.heap) σ7 H7 s7 := I7
          exact ⟨acc7, cc7, r7, I7.unpinned⟩
        cases f with
        | next =>
          obtain ⟨σ7, H7, I7, n7⟩ := hs
          exact again I7 n7
        | cont =>
          obtain ⟨σ7, H7, I7, n7⟩ := hs
          exact again I7 n7
        | brk =>
          obtain ⟨σ7, H7, I7, q7⟩ := hs
          exact seg_leaf (.ok .next) (k.ok n' ys' s₀' s7 .next hn' ⟨σ7, H7, down I7, q7⟩)
        | ret v =>
          obtain ⟨x7, σ7, H7, I7, r7, q7⟩ := hs
          exact seg_leaf (.ok (.ret v)) (k.ok n' ys' s₀' s7 (.ret v) hn' ⟨x7, σ7, H7, down I7, r7, q7⟩)
  exact loop m0 0 n ys s₀ s2 σ H2 hn w0 ⟨acc, cc, r, I2⟩ st2 fun b hb => (f2 b hb).1
end Z

/-! ### a generator's def called with keywords -/
namespace Z
open PySem PySem.Spec PyProof.Rows L2
section
variable {X : Cx} {K : PySem.W.Frag} {k : Nat} {f : Addr} {fd : FuncData} {ps ks : List Str} {sp : SpG} {g : List Value → List Value → List Value} {gV : List V → List V → List V} {x : Str} {p pos : Pos} {kws : List Keyword} {t tk : TA}
theorem run_gfnK {pins : List (Addr × Obj)} {σ : L2.St} {H : Hp} {s : Shared} {us ws : List Value} {vs zs : List V} {cont : List V → Hp → Prop} {E : XK} {E1 : Value → Shared → Prop} (F : GFn X.prog X.w X.K X.mg X.base k f fd ps sp) (hr : Room k X.A) (hb : KBinds X.K fd ps ks g gV)
    (I : Inv X pins σ H s) (r : Vals vs us) (rz : Vals zs ws) (h : sp (gV vs zs) H cont E) :
    wpAny (model X.prog X.w) X.A (call (.ref f) us (ks.zip ws)) (fun u s' => ∃ H1 sc ex, Inv X pins σ H1 sc ∧ ExOk X pins ex ∧ GMade X.prog X.w k X.stack H1 sc ex cont E u s') E1 s := by
  have r2 := hb.rel r rz
  have hl : (g us ws).length = ps.length := by rw [← r2.length]; exact F.len _ _ _ _ h
  refine wpAny_call (codeAny_mono (F.run X.A X.stack s H ⟨us, ks.zip ws⟩ (g us ws) (gV vs zs) cont E hr I.env0 (hb.to s us ws I.kIn hl) r2 h) fun r s' hq => ?_)
  cases r with
  | error e => exact False.elim hq
  | ok fl =>
    cases fl with
    | ret u => exact ⟨H, s, [], I, .nil, hq⟩
    | next => exact False.elim hq
    | brk => exact False.elim hq
    | cont => exact False.elim hq
def tCallGK (sp : SpG) (gV : List V → List V → List V) (E : XK) (t tk : TA) : TGen := fun σ H cont => t σ H fun vs H1 => tk σ H1 fun zs H2 => sp (gV vs zs) H2 cont E
/-- f(e, .., k = v, ..) of a generator's def -/
theorem pgen_callK {E : XK} {e : Expr} {es : List Expr} (F : GFn X.prog X.w X.K X.mg X.base k f fd ps sp) (hr : Room k X.A) (hg : Gl X x) (hm : X.mg x = some (.ref f)) (hk : PySem.W.keepIn X.K (.ref f) = true) (hb : KBinds X.K fd ps ks g gV)
    (ha : PA X (e :: es) t) (hkw : PK X kws tk) (hall : (backToKw pos (keywordEach kws X.env)).all (·.1.isSome) = true := by rfl) (hks : (backToKw pos (keywordEach kws X.env)).filterMap (·.1) = ks := by rfl)
    (hdb : (x == ("__debug__" : Str)) = false := by decide) (he : starEach (e :: es) X.env = (false, eval e X.env) :: starEach es X.env := by rfl)
    (hpl : ((backTo pos (starEach (e :: es) X.env)).any (·.1) || (backToKw pos (keywordEach kws X.env)).any (·.1.isNone)) = false := by rfl) :
    PGen X k (.Call (.Name x p) (e :: es) kws pos) (tCallGK sp gV E t tk) E := by
  refine ⟨fun pins s σ H cont I h => ?_⟩
  refine wpAny_Call_Name_kw (ld_glob I hg hm ?_ hdb)
  refine PySem.W.callWith_KW (h₀ := X.base) I.ok.mod.kin hk hall (thn (ha.run pos pins s σ H _ I h) fun us s1 ⟨vs, H1, I1, r, q⟩ => ?_) hpl he
  refine thn (hkw.run pos pins s1 σ H1 _ I1 q) fun ws s2 ⟨zs, H2, I2, rz, q2⟩ => ⟨I2.kIn, ?_⟩
  rw [hks]
  exact run_gfnK F hr hb I2 r rz q2
def tCallGK0 (sp : SpG) (gV : List V → List V → List V) (E : XK) (tk : TA) : TGen := fun σ H cont => tk σ H fun zs H2 => sp (gV [] zs) H2 cont E
/-- f(k = v, ..) of a generator's def -/
theorem pgen_callK0 {E : XK} (F : GFn X.prog X.w X.K X.mg X.base k f fd ps sp) (hr : Room k X.A) (hg : Gl X x) (hm : X.mg x = some (.ref f)) (hk : PySem.W.keepIn X.K (.ref f) = true) (hb : KBinds X.K fd ps ks g gV)
    (hkw : PK X kws tk) (hall : (backToKw pos (keywordEach kws X.env)).all (·.1.isSome) = true := by rfl) (hks : (backToKw pos (keywordEach kws X.env)).filterMap (·.1) = ks := by rfl)
    (hdb : (x == ("__debug__" : Str)) = false := by decide)
    (hpl : ((backTo pos (starEach [] X.env)).any (·.1) || (backToKw pos (keywordEach kws X.env)).any (·.1.isNone)) = false := by rfl) :
    PGen X k (.Call (.Name x p) [] kws pos) (tCallGK0 sp gV E tk) E := by
  refine ⟨fun pins s σ H cont I h => ?_⟩
  refine wpAny_Call_Name_kw (ld_glob I hg hm ?_ hdb)
  refine PySem.W.callWith_KW0 (h₀ := X.base) I.ok.mod.kin hk hall (thn (hkw.run pos pins s σ H _ I h) fun ws s2 ⟨zs, H2, I2, rz, q2⟩ => ⟨I2.kIn, ?_⟩) hpl
  rw [hks]
  exact run_gfnK (us := []) F hr hb I2 .nil rz q2
end
end Z
/-! ### set & set, of texts -/
namespace Z
open PySem PySem.Spec PyProof.Rows L2
section
variable {P : Program} {w : World} {A : Around} {E : Value → Shared → Prop} {s : Shared} {a b : Addr} {S T : Str → Bool} {n m : Nat}
theorem any_set {o : Obj} {Q : Bool → Shared → Prop} (ho : s.heap.get? a = some o) (hc : o.cls = .type "set") (h : Q true s) : wpAny (model P w) A (Builtin.Frozenset.isAnySet (.ref a)) Q E s := by
  unfold Builtin.Frozenset.isAnySet orM
  refine wpAny_bind (wpAny_isInstance (T := "set") (b := true) ⟨o, ho, hc⟩ PySem.F.sub_set_set ?_)
  exact wpAny_pure h
theorem base_set {o : Obj} {Q : Value → Shared → Prop} (ho : s.heap.get? a = some o) (hc : o.cls = .type "set") (h : Q (.type "set") s) : wpAny (model P w) A (Builtin.Frozenset.baseOf a) Q E s := by
  unfold Builtin.Frozenset.baseOf
  refine wpAny_bind (wpAny_isInstance (T := "set") (b := true) ⟨o, ho, hc⟩ PySem.F.sub_set_set ?_)
  exact wpAny_pure h
theorem TxR.congrN {h : Heap} {n' : Nat} (R : TxR w h a S n) (e : n = n') : TxR w h a S n' := e ▸ R
/-- how many of the elements stand in another set, too -/
def bothN (S : Str → Bool) (l : List Str) : Nat := (l.filter S).length
theorem size_set {Q : Nat → Shared → Prop} (R : TxR w s.heap a S n) (h : Q n s) : wpAny (model P w) A (Builtin.Frozenset.sizeOf a) Q E s := by
  obtain ⟨o, es, ep, t, r⟩ := R
  unfold Builtin.Frozenset.sizeOf
  refine wpAny_bind (wpAny_setEntries_of r.get r.dat r.fit (wpAny_pure ?_))
  rw [r.num]
  exact h
theorem walk_set {o : Obj} {es : Array (Int × Value)} {ep : Nat} {t : SetTable} {Q : Array (Int × Value) → Shared → Prop} (get : s.heap.get? a = some o) (dat : o.data = .set es ep t) (fit : t.fits es.size = true) (ord : w.params.followText "set-order" = true ∨ t.led = true)
    (k : ∀ out d, out.toList.Perm es.toList → Q out { s with drawn := d }) : wpAny (model P w) A (setWalk a) Q E s := by
  unfold setWalk
  refine wpAny_bind (wpAny_setState_of get dat fit ?_)
  dsimp only
  refine wpAny_bind (wpAny_byText ?_)
  by_cases bt : w.params.followText "set-order" = true
  · rw [if_pos bt]
    exact wpAny_bind (wpAny_askSetting (wpAny_pure (k _ s.drawn (pick_perm _ _))))
  · rw [if_neg bt]
    have led : t.led = true := ord.resolve_left bt
    refine wpAny_ite_split (fun _ => ?_) fun _ => ?_
    · exact wpAny_bind (drawOrder_at _ _ _ _ (Nat.le_of_eq Array.length_toList) fun ys d p => wpAny_pure (k _ d (by rw [List.toList_toArray]; exact p)))
    · show wpAny _ _ ((if (!t.led && decide (es.size > 1)) = true then unsupported "set:maker-not-led" else pure ()) >>= fun _ => pure es) _ _ _
      rw [led]
      exact wpAny_bind (wpAny_pure (wpAny_pure (k es s.drawn (.refl _))))
theorem row_list {l : List (Int × Value)} (g : ∀ e ∈ l, TxE w e) {F : Int × Value → Option Bool × Unit → Sem (ForInStep (Option Bool × Unit))} (hF : ∀ h x tk r, F (h, Value.str x tk) r = pure (.yield (none, ()))) : forIn l ((none : Option Bool), ()) F = pure (none, ()) := by
  induction l with
  | nil => rfl
  | cons e r ih =>
    obtain ⟨x, tk, h1, _⟩ := g e (.head _)
    obtain ⟨e1, e2⟩ := e
    obtain rfl : e2 = Value.str x tk := h1
    rw [List.forIn_cons, hF, pure_bind]
    exact ih fun z hz => g z (.tail _ hz)
theorem row_quiet {es : Array (Int × Value)} (g : ∀ e ∈ es.toList, TxE w e) {F : Int × Value → Option Bool × Unit → Sem (ForInStep (Option Bool × Unit))} (hF : ∀ h x tk r, F (h, Value.str x tk) r = pure (.yield (none, ()))) : forIn es ((none : Option Bool), ()) F = pure (none, ()) := by
  rw [← Array.forIn_toList]
  exact row_list g hF
/-- a set of texts that stands at b -/
def TxAt (w : World) (h : Heap) (b : Addr) : Prop := ∃ o es ep t, h.get? b = some o ∧ o.data = .set es ep t ∧ t.fits es.size = true ∧ ∀ e ∈ es.toList, TxE w e
theorem TxR.tx {h : Heap} (R : TxR w h a S n) : TxAt w h a := let ⟨o, es, ep, t, r⟩ := R; ⟨o, es, ep, t, r.get, r.dat, r.fit, r.good⟩
theorem sets_quiet {l : List Addr} (h : ∀ b ∈ l, TxAt w s.heap b) {Q : Bool → Shared → Prop} (k : Q true s) : wpAny (model P w) A (setsQuiet l) Q E s := by
  have go : ∀ (l : List Addr) (F : Addr → Option Bool × Unit → Sem (ForInStep (Option Bool × Unit))), (∀ b ∈ l, ∀ (r : Option Bool × Unit) (R : ForInStep (Option Bool × Unit) → Shared → Prop), R (.yield (none, ())) s → wpAny (model P w) A (F b r) R E s) → ∀ R : Option Bool × Unit → Shared → Prop, R (none, ()) s → wpAny (model P w) A (forIn l ((none : Option Bool), ()) F) R E s := by
    intro l
    induction l with
    | nil => intro F _ R r; exact wpAny_pure r
    | cons b q ih =>
      intro F hF R r
      rw [List.forIn_cons]
      refine wpAny_bind (hF b (.head _) _ _ ?_)
      exact ih F (fun c hc => hF c (.tail _ hc)) R r
  unfold setsQuiet
  refine wpAny_bind (go l _ (fun b hb r R q => ?_) _ (wpAny_pure k))
  obtain ⟨o, es, ep, t, h1, h2, h3, h4⟩ := h b hb
  refine wpAny_bind (wpAny_setEntries_of h1 h2 h3 ?_)
  rw [row_quiet h4 (fun _ _ _ _ => rfl)]
  exact wpAny_bind (wpAny_pure (wpAny_pure q))
/-- the elements of a set of texts in some order; the set that is to be filled, still empty, may be marked -/
theorem walk_unseen {o : Obj} {es : Array (Int × Value)} {ep : Nat} {t : SetTable} {l : List Addr} {f : Addr} {Q : Array (Int × Value) → Shared → Prop} (get : s.heap.get? a = some o) (dat : o.data = .set es ep t) (fit : t.fits es.size = true) (good : ∀ e ∈ es.toList, TxE w e) (ord : w.params.followText "set-order" = true ∨ t.led = true)
    (others : ∀ b ∈ l, TxAt w s.heap b) (new : TxR w s.heap f T m)
    (k : ∀ out h' d, out.toList.Perm es.toList → Heap.SameBut f s.heap h' → TxR w h' f T m → Q out { s with heap := h', drawn := d }) : wpAny (model P w) A (setWalkUnseen a l (some f)) Q E s := by
  have plain : ∀ out d, out.toList.Perm es.toList → Q out { s with drawn := d } := fun out d p => k out s.heap d p (Heap.SameBut.refl f _) new
  unfold setWalkUnseen
  refine wpAny_bind (wpAny_setState_of get dat fit ?_)
  dsimp only
  refine wpAny_bind (wpAny_byText ?_)
  refine wpAny_ite_split (fun _ => walk_set get dat fit ord plain) fun no => ?_
  refine wpAny_bind (sets_quiet (fun b hb => ?_) ?_)
  · rcases List.mem_cons.mp hb with rfl | hb
    · exact ⟨o, es, ep, t, get, dat, fit, good⟩
    · exact others b hb
  rw [if_neg (by simp)]
  refine wpAny_bind (wpAny_rule ?_)
  obtain ⟨o2, es2, ep2, t2, r⟩ := new
  try dsimp only
  refine wpAny_bind (wpAny_setState_of r.get r.dat r.fit ?_)
  dsimp only
  refine wpAny_ite_split (fun _ => ?_) fun _ => wpAny_pure (plain es s.drawn (.refl _))
  have led : w.params.followText "set-order" = true ∨ t.led = true := ord
  refine wpAny_bind (wpAny_storeSet_of r.get r.dat ?_ (fits_of_scanBound r.few))
  have st := store_at (es' := es2) (t' := { t2 with led := t2.led && t.led, plain := t2.plain && t.plain }) r.get r.dat
  refine wpAny_pure (k es _ s.drawn (.refl _) (Heap.SameBut.update ..) ⟨_, es2, _, _, { get := st, ex := r.ex, dat := rfl, good := r.good, nd := r.nd, mem := r.mem, few := r.few, fit := ?_, num := r.num, ris := r.ris, ord := ?_ }⟩)
  · have := r.fit
    cases t2
    exact this
  · rcases ord with q | q
    · exact .inl q
    · rcases r.ord with z | z
      · exact .inl z
      · exact .inr (by show (t2.led && t.led) = true; rw [z, q]; rfl)
theorem one_more {α : Type} {l : List α} {x y : α} (h : y ≠ x) : y ∈ l ++ [x] ↔ y ∈ l := by
  rw [List.mem_append, List.mem_singleton]
  exact ⟨fun z => z.resolve_right h, .inl⟩
/-- the filling of the new set -/
theorem fill_loop {id0 : String} {Q : PUnit → Shared → Prop} {asked r : Addr} (hr : asked ≠ r) {F : Int × Value → PUnit → Sem (ForInStep PUnit)} {walked : Addr} {was : Nat} (hw : walked ≠ r)
    (hF : ∀ h v u, F (h, v) u = (holding [v] (setFind asked v h >>= fun z => if z.isSome = true then setAddHashed r v h >>= fun _ => pure () else pure ()) >>= fun _ => Builtin.Frozenset.unchanged id0 walked was >>= fun _ => pure (.yield PUnit.unit)))
    {o : Obj} {es : Array (Int × Value)} {t : SetTable} (dat : o.data = .set es was t) (fit : t.fits es.size = true) : ∀ (l done : List (Int × Value)) (s : Shared), s.heap.get? walked = some o → (∀ e ∈ l, TxE w e) → ((done ++ l).map txK).Nodup → (done ++ l).length + 1 < scanBound → TxR w s.heap asked S n →
      (∃ c, c ≤ done.length ∧ TxR w s.heap r (fun y => S y && decide (y ∈ done.map txK)) c) →
      (∀ h' c, Heap.SameBut r s.heap h' → TxR w h' r (fun y => S y && decide (y ∈ (done ++ l).map txK)) c → Q PUnit.unit { s with heap := h' }) →
      wpAny (model P w) A (forIn l PUnit.unit F) Q E s := by
  intro l
  induction l with
  | nil =>
    intro done s hw0 _ _ _ R ⟨c, _, T⟩ k
    rw [List.append_nil] at k
    exact wpAny_pure (k s.heap c (Heap.SameBut.refl r _) T)
  | cons e q ih =>
    intro done s hw0 g nd few R ⟨c, hc, T⟩ k
    obtain ⟨x, tk, h1, h2⟩ := g e (.head _)
    obtain ⟨e1, e2⟩ := e
    obtain rfl : e2 = Value.str x tk := h1
    obtain rfl : e1 = hashStr w x := h2
    rw [List.forIn_cons, hF]
    have key : txK (hashStr w x, Value.str x tk) = x := rfl
    have asc : done ++ (hashStr w x, Value.str x tk) :: q = (done ++ [(hashStr w x, Value.str x tk)]) ++ q := by simp
    refine wpAny_bind (wpAny_bind (wpAny_holding (wpAny_bind (wpAny_setFind_of (knd := strKind P w) (k := x) (beq_self_eq_true x) rfl R.setOf fun z hz => ?_))))
    have step : ∀ h' c', Heap.SameBut r s.heap h' → c' ≤ done.length + 1 → TxR w h' r (fun y => S y && decide (y ∈ (done ++ [(hashStr w x, Value.str x tk)]).map txK)) c' →
        ∀ G : ForInStep PUnit → Shared → Prop, (∀ s', wpAny (model P w) A (forIn q PUnit.unit F) Q E s' → G (.yield PUnit.unit) s') → wpAny (model P w) A (Builtin.Frozenset.unchanged id0 walked was >>= fun _ => (pure (.yield PUnit.unit) : Sem (ForInStep PUnit))) G E { s with heap := h' } := by
      intro h' c' sb hc' T' G hG
      have w1 : h'.get? walked = some o := (sb.2 _ hw).trans hw0
      unfold Builtin.Frozenset.unchanged
      refine wpAny_bind (wpAny_bind (wpAny_setEpoch_of (s := { s with heap := h' }) w1 dat fit ?_))
      rw [if_neg (by simp)]
      refine wpAny_pure (wpAny_pure (hG _ ?_))
      refine ih _ { s with heap := h' } w1 (fun z hz => g z (.tail _ hz)) (by rw [← asc]; exact nd) (by rw [← asc]; exact few) (R.at fun o' e' => (sb.2 _ hr).trans e') ⟨c', by rw [List.length_append]; exact hc', T'⟩ fun h2 c2 sb2 T2 => ?_
      rw [← asc] at T2
      exact k h2 c2 (sb.trans sb2) T2
    by_cases hS : S x = true
    · rw [hz, if_pos hS]
      refine wpAny_bind (tx_put T (by have := few; simp only [List.length_append, List.length_cons] at this; omega) fun h' sb T' => ?_)
      refine wpAny_pure ?_
      refine step h' _ sb ?_ (T'.congr fun y => ?_) _ fun _ z => z
      · split <;> omega
      · rw [List.map_append, List.map_cons, List.map_nil, key]
        by_cases hy : y = x
        · subst hy
          rw [hS, decide_eq_true rfl, decide_eq_true (List.mem_append_right _ (.head _)), Bool.or_true]
          rfl
        · rw [decide_eq_false hy, Bool.or_false, decide_eq_decide.mpr (one_more hy)]
    · rw [hz, if_neg hS]
      refine wpAny_pure ?_
      refine step s.heap c (Heap.SameBut.refl r _) (by omega) (T.congr fun y => ?_) _ fun _ z => z
      rw [List.map_append, List.map_cons, List.map_nil, key]
      by_cases hy : y = x
      · subst hy
        rw [eq_false_of_ne_true hS]
        rfl
      · rw [decide_eq_decide.mpr (one_more hy)]
theorem unseen_fill {id0 : String} {asked r walked : Addr} {U : Str → Bool} {Q : PUnit → Shared → Prop} (hr : asked ≠ r) (hw : walked ≠ r) {F : Int × Value → PUnit → Sem (ForInStep PUnit)} {was : Nat}
    (hF : ∀ h v u, F (h, v) u = (holding [v] (setFind asked v h >>= fun z => if z.isSome = true then setAddHashed r v h >>= fun _ => pure () else pure ()) >>= fun _ => Builtin.Frozenset.unchanged id0 walked was >>= fun _ => pure (.yield PUnit.unit)))
    {o : Obj} {es : Array (Int × Value)} {t : SetTable} (W : TxS w s.heap walked U m o es was t) (R : TxR w s.heap asked S n) (N : TxR w s.heap r (fun _ => false) 0) (few : m + 1 < scanBound)
    (k : ∀ h' d c, Heap.SameBut r s.heap h' → TxR w h' r (fun y => S y && U y) c → Q PUnit.unit { s with heap := h', drawn := d }) :
    wpAny (model P w) A (setWalkUnseen walked [asked, r] (some r) >>= fun es => forIn es PUnit.unit F >>= fun _ => pure PUnit.unit) Q E s := by
  refine wpAny_bind (walk_unseen W.get W.dat W.fit W.good W.ord (fun b hb => ?_) N fun out h' d p sb T => ?_)
  · rcases List.mem_cons.mp hb with rfl | hb
    · exact R.tx
    · rw [List.mem_singleton.mp hb]
      exact N.tx
  refine wpAny_bind ?_
  rw [← Array.forIn_toList]
  have pk := p.map txK
  have len := p.length_eq
  refine fill_loop (s := { s with heap := h', drawn := d }) hr hw hF W.dat W.fit out.toList [] ((sb.2 _ hw).trans W.get) (fun e he => W.good e (p.mem_iff.mp he)) (by rw [List.nil_append]; exact pk.nodup_iff.mpr W.nd) ?_ (R.at fun o' e' => (sb.2 _ hr).trans e') ⟨0, Nat.le_refl _, T.congr fun y => by simp⟩ fun h2 c sb2 T2 => ?_
  · rw [List.nil_append, len, Array.length_toList, W.num]
    exact few
  · refine wpAny_pure ?_
    refine k h2 d c (sb.trans sb2) (T2.congr fun y => ?_)
    rw [List.nil_append]
    congr 1
    rw [Bool.eq_iff_iff, decide_eq_true_iff]
    exact ((W.mem y).trans pk.mem_iff.symm)
theorem entry_and : entryFor table "set.__and__" = some Builtin.«frozenset.__and__» := entryFor_alias (id' := "frozenset.__and__") (by kernel_rfl) rfl (by decide +kernel) (by kernel_rfl)
theorem set_and {Q : Value → Shared → Prop} (R1 : TxR w s.heap a S n) (R2 : TxR w s.heap b T m) (ne : a ≠ b) (f1 : n + 1 < scanBound) (f2 : m + 1 < scanBound)
    (k : ∀ h' d c, (∀ x o, s.heap.get? x = some o → h'.get? x = some o) → TxR w h' s.heap.objs.size (fun y => S y && T y) c → Q (.ref s.heap.objs.size) { s with heap := h', drawn := d }) :
    wpAny (model P w) A (call (.builtin "set.__and__") [.ref a, .ref b]) Q E s := by
  obtain ⟨o1, es1, ep1, t1, r1⟩ := id R1
  obtain ⟨o2, es2, ep2, t2, r2⟩ := id R2
  refine wpAny_call_entry F.slot_set_and ⟨o1, r1.get, r1.ex.1⟩ entry_and ?_ (F.args_set_and_2 _ _)
  unfold Builtin.«frozenset.__and__»
  refine wpAny_bind (m := Builtin.Frozenset.slot1 "__and__" ⟨[.ref a, .ref b], []⟩) (wpAny_bind (wpAny_pure (wpAny_pure ?_)))
  dsimp only
  simp only [Bool.false_eq_true, if_false]
  refine wpAny_bind (wpAny_bind (any_set r1.get r1.ex.1 ?_))
  refine any_set r2.get r2.ex.1 ?_
  simp only [Bool.not_true, Bool.false_eq_true, if_false]
  refine wpAny_bind (wpAny_pure ?_)
  unfold Builtin.Frozenset.intersection
  have nb : (Value.ref b == Value.ref a) = false := by simp [Ne.symm ne]
  rw [nb, if_neg Bool.false_ne_true]
  refine wpAny_bind (wpAny_bind (base_set r1.get r1.ex.1 (wpAny_bind (PySem.wpAny_newSet_raw fun led hled => ?_))))
  subst hled
  refine wpAny_bind (wpAny_pure ?_)
  have at0 : (s.heap.push (newSet w)).get? s.heap.objs.size = some (newSet w) := Heap.get?_push_size _ rfl
  have keep : ∀ x o, s.heap.get? x = some o → (s.heap.push (newSet w)).get? x = some o := fun x o e => Heap.get?_push_of_some _ e
  have N : TxR w (s.heap.push (newSet w)) s.heap.objs.size (fun _ => false) 0 := (tx_fresh (xs := []) at0).congr fun y => by simp [inS]
  have R1' := R1.at (h' := s.heap.push (newSet w)) fun o e => keep a o e
  have R2' := R2.at (h' := s.heap.push (newSet w)) fun o e => keep b o e
  have na : a ≠ s.heap.objs.size := Nat.ne_of_lt (Heap.lt_size r1.get)
  have nb2 : b ≠ s.heap.objs.size := Nat.ne_of_lt (Heap.lt_size r2.get)
  refine wpAny_bind (wpAny_holding (wpAny_bind (any_set (s := { s with heap := s.heap.push (newSet w) }) (keep b _ r2.get) r2.ex.1 ?_)))
  rw [if_pos rfl]
  refine wpAny_bind (wpAny_pure ?_)
  refine wpAny_bind (size_set (s := { s with heap := s.heap.push (newSet w) }) R2' ?_)
  refine wpAny_bind (size_set (s := { s with heap := s.heap.push (newSet w) }) R1' ?_)
  have fin : ∀ h' d c, Heap.SameBut s.heap.objs.size (s.heap.push (newSet w)) h' → TxR w h' s.heap.objs.size (fun y => S y && T y) c → Q (.ref s.heap.objs.size) { s with heap := h', drawn := d } := fun h' d c sb R =>
    k h' d c (fun x o e => (sb.2 x (Nat.ne_of_lt (Heap.lt_size e))).trans (keep x o e)) R
  by_cases lt : m > n
  · rw [if_pos lt]
    dsimp only
    refine wpAny_bind (wpAny_setEpoch_of (s := { s with heap := s.heap.push (newSet w) }) (keep a _ r1.get) r1.dat r1.fit ?_)
    refine unseen_fill (s := { s with heap := s.heap.push (newSet w) }) (asked := b) (walked := a) (S := T) (U := S) nb2 na (fun _ _ _ => rfl) { r1 with get := keep a _ r1.get } R2' N f1 fun h' d c sb R => ?_
    exact wpAny_pure (wpAny_pure ⟨_, rfl, fin h' d c sb (R.congr fun y => Bool.and_comm ..)⟩)
  · rw [if_neg lt]
    dsimp only
    refine wpAny_bind (wpAny_setEpoch_of (s := { s with heap := s.heap.push (newSet w) }) (keep b _ r2.get) r2.dat r2.fit ?_)
    refine unseen_fill (s := { s with heap := s.heap.push (newSet w) }) (asked := a) (walked := b) (S := S) (U := T) na nb2 (fun _ _ _ => rfl) { r2 with get := keep b _ r2.get } R1' N f2 fun h' d c sb R => ?_
    exact wpAny_pure (wpAny_pure ⟨_, rfl, fin h' d c sb R⟩)
end
/-- how many texts S tells -/
def ManyB (S : Str → Bool) (n : Nat) : Prop := ∃ L : List Str, L.Nodup ∧ (∀ y, y ∈ L ↔ S y = true) ∧ L.length = n
theorem TxR.manyB {w : World} {h : Heap} {a : Addr} {S : Str → Bool} {n : Nat} (R : TxR w h a S n) : ManyB S n := by
  obtain ⟨o, es, ep, t, r⟩ := R
  exact ⟨es.toList.map txK, r.nd, fun y => (r.mem y).symm, by rw [List.length_map, Array.length_toList, r.num]⟩
theorem ManyB.filter {xs ys : List Str} {n : Nat} (d : xs.Nodup) (h : ManyB (fun y => inS xs y && inS ys y) n) : n = (xs.filter fun x => decide (x ∈ ys)).length := by
  obtain ⟨L, h1, h2, rfl⟩ := h
  have d2 : (xs.filter fun x => decide (x ∈ ys)).Nodup := d.sublist List.filter_sublist
  have sub : ∀ y, y ∈ L ↔ y ∈ xs.filter fun x => decide (x ∈ ys) := fun y => by
    rw [h2 y, List.mem_filter, Bool.and_eq_true]
    unfold inS
    rw [decide_eq_true_iff]
  exact Nat.le_antisymm (len_le_of_sub h1 fun x hx => (sub x).mp hx) (len_le_of_sub d2 fun x hx => (sub x).mpr hx)
/-- a & b, sets of texts -/
def rAndX (w : World) : R2 := fun x y H Q => ∃ (a b : Addr) (S T : Str → Bool) (n m : Nat), x = .ref a ∧ y = .ref b ∧ a ≠ b ∧ H a = some (TxO w a S n) ∧ H b = some (TxO w b T m) ∧ n + 1 < scanBound ∧ m + 1 < scanBound ∧
  ∀ c k, H c = none → ManyB (fun y => S y && T y) k → Q (.ref c) (upd H c (TxO w c (fun y => S y && T y) k))
theorem op_andX {X : Cx} : OpR X (binaryOp .BitAnd) (rAndX X.w) := by
  rintro pins s σ H x y v u Q I rx ry ⟨a, b, S, T, n, m, rfl, rfl, ne, ha, hb, f1, f2, k⟩
  cases (show v = Value.ref a from rx)
  cases (show u = Value.ref b from ry)
  have R1 := txO_get I ha
  have R2 := txO_get I hb
  obtain ⟨o1, es1, ep1, t1, r1⟩ := id R1
  obtain ⟨o2, es2, ep2, t2, r2⟩ := id R2
  refine wpAny_binaryOp_same (T := "set") (id := "set.__and__") ⟨o1, r1.get, r1.ex.1⟩ ⟨o2, r2.get, r2.ex.1⟩ F.fills_set_and F.slot_set_and ?_
  refine set_and R1 R2 ne f1 f2 fun h' d c keep R => ⟨nofun, ?_⟩
  have fr : H s.heap.objs.size = none := I.hok.fresh (Nat.le_refl _)
  have J : Inv X pins σ (upd H s.heap.objs.size (TxO X.w s.heap.objs.size (fun y => S y && T y) c)) { s with heap := h', gens := s.gens, drawn := d, toks := s.toks } := I.call (ch := []) (Un.laid keep (Nat.le_refl _) fr) (I.hok.laid keep (Nat.le_refl _) (txO_new R)) I.bare nofun
  exact ⟨.ref s.heap.objs.size, _, J, rfl, k _ c fr R.manyB⟩
end Z
/-! ### own errors that have no __init__ of their own -/
namespace Z
open PySem PySem.Spec PyProof.Rows L2
abbrev tailVE : List Value := [.type "ValueError", .type "Exception", .type "BaseException", .type "object"]
structure Err0 (K : PySem.W.Frag) (x : Str) : Prop where
  ex : PySem.W.excIn K (He.ga K x) tailVE "ValueError.__new__" = true
  t : PySem.W.typeIn K (.ref (He.ga K x)) = some (.type "type")
  k : PySem.W.keepIn K (.ref (He.ga K x)) = true
  c : ExcC K (He.ga K x)
def err0B (x : Str) (K : PySem.W.Frag) : Bool := PySem.W.excIn K (He.ga K x) tailVE "ValueError.__new__" && (decide (PySem.W.typeIn K (.ref (He.ga K x)) = some (.type "type")) && (PySem.W.keepIn K (.ref (He.ga K x)) && (xfB K (He.ga K x) && classB K (He.ga K x))))
theorem err0B_ok {K : PySem.W.Frag} {x : Str} (h : err0B x K = true) : Err0 K x := by
  obtain ⟨h1, h⟩ := He.ba h
  obtain ⟨h2, h⟩ := He.ba h
  obtain ⟨h3, h⟩ := He.ba h
  obtain ⟨h4, h5⟩ := He.ba h
  have xf := xfB_ok h4
  have cf := classB_ok h5
  exact ⟨h1, of_decide_eq_true h2, h3, ⟨xf.ga, xf.gg, xf.exC, xf.hdC, cf.ha, cf.hn, cf.ht, cf.hm⟩⟩
section
variable {X : Cx} {W : WX} {x : Str} {p pos pos2 : Pos}
theorem pmk_err0 (E : Err0 X.K x) (hg : Gl X x) (hm : X.mg x = some (.ref (He.ga X.K x))) (hdb : (x == ("__debug__" : Str)) = false := by decide) : PMk X (.Call (.Name x p) [] [] pos) (fun _ H Q => Q (.ref (He.ga X.K x)) none H) := by
  intro pins s σ H Q I h
  refine wpAny_Call_Name_kw (ld_glob I hg hm ?_ hdb)
  refine PySem.W.callWith_K0 (first := []) I.kIn E.k ?_
  obtain ⟨bm, N, nm, qn, bs, hd, sn, sub, ab, col, dd, k0, k1, k2, k3, k5, mN, hC, hN, hni, T⟩ := exc_obj I.kIn E.ex
  obtain ⟨hp, g, d, t, os⟩ := s
  refine wpAny_call_exc_subT PySem.F.excBase_ValueError T hC hN hni (fun h' e made => ?_) (Nat.zero_le _)
  exact mk_of I made (raises_own E.c.hs E.t) h (I.hok.gone made.new)
/-- raise x() -/
theorem ps_raise0 (E : Err0 X.K x) (hc : X.calm = true) (tk : Takes X W) (hg : Gl X x) (hm : X.mg x = some (.ref (He.ga X.K x))) (hdb : (x == ("__debug__" : Str)) = false := by decide) :
    PS X (.Raise (some (.Call (.Name x p) [] [] pos)) none pos2) (fun _ σ H => W (.ref (He.ga X.K x)) none σ H) := ps_raise hc tk (pmk_err0 E hg hm hdb)
end
/-! ### a statement `ask()` within a try -/
def tAskE (n : Nat) (f c' : Addr) (q : Str) (tl : XK → Hp → VK → Prop) (W : WX) : TS := fun D σ H => ∃ (E : XK) (Q0 : VK), (∀ cls d σ' H', E cls d H' → σ'.length = n → W cls d σ' H') ∧ σ[0]? = some (some (.ref f)) ∧ H c' = some (LamX.CodeO c' q) ∧ tl E H Q0 ∧ ∀ v H1, Q0 v H1 → D.nx σ H1
theorem ps_askE {Z : Cx} {W : WX} {n : Nat} {f c' : Addr} {q a : Str} {tl : XK → Hp → VK → Prop} {p1 p2 p4 : Pos} (hn : Z.N.length = n)
    (expr_ : ∀ te, PE Z (.Call (.Name a p1) [] [] p2) te → PS Z (.Expr (.Call (.Name a p1) [] [] p2) p4) (tDrop te))
    (act : ∀ E : XK, (∀ cls d σ' H', E cls d H' → σ'.length = Z.N.length → W cls d σ' H') → PE Z (.Call (.Name a p1) [] [] p2) (fun σZ HZ Q => σZ[0]? = some (some (.ref f)) ∧ HZ c' = some (LamX.CodeO c' q) ∧ tl E HZ Q)) :
    PSs Z [.Expr (.Call (.Name a p1) [] [] p2) p4] (tAskE n f c' q tl W) := by
  constructor
  rintro pins s σ H D I ⟨E, Q0, hW, h1, h2, h3, h4⟩
  exact (pss_one (expr_ _ (pe_up (act E (fun cls d σ' H' e l => hW cls d σ' H' e (l.trans hn)))))).run pins s σ H D I ⟨Q0, ⟨h1, h2, h3⟩, h4⟩
/-- what a law makes of a call that raises x, which keeps nothing -/
def TTun (K : PySem.W.Frag) (x : Str) : (XK → Hp → VK → Prop) → Hp → VK → Prop := fun tl H Q => ∀ H1, Same H H1 → ∃ E : XK, tl E H1 (fun _ _ => False) ∧
  ∀ cls d H', E cls d H' → cls = .ref (He.ga K x) ∧ d = none ∧ ∀ H'', Same H' H'' → Q (.bl true) H''
theorem heard_un {K : PySem.W.Frag} {T : List (Addr × Str)} {t : XK → TE} {σ : L2.St} {H : Hp} {Q : VK} (cls : Str) (hT : LamX.Tabs T H)
    (rd : ∀ H2, LamX.ExtN H H2 → t (fun c d H' => c = .ref (He.ga K cls) ∧ d = none ∧ Same H2 H') σ H2 (fun _ _ => False))
    (k : ∀ H', LamX.ExtN H H' → LamX.Tabs T H' → Q (.bl true) H') : LamX.tLam T (TTun K cls) t σ H Q := by
  refine ⟨hT, fun H1 eN T1 H2 s2 => ⟨_, rd H2 (eN.trans (extS s2)), ?_⟩⟩
  rintro c d H' ⟨rfl, rfl, sm⟩
  exact ⟨rfl, rfl, fun H'' s => k H'' (((eN.trans (extS s2)).trans (extS sm)).trans (extS s)) (((T1.ext s2).ext sm).ext s)⟩
end Z
/-! ### list(d.values()) -/
namespace Z
open PySem PySem.Spec PyProof.Rows L2
/-- a dict whose values are vs, in their order -/
def DVals (H : Hp) (d : Addr) (vs : List V) : Prop := (∃ kvs : List (Key × V), H d = some (.dK kvs) ∧ vs = kvs.map (·.2)) ∨ ∃ kvs : List (List Key × V), H d = some (.dT kvs) ∧ vs = kvs.map (·.2)
def tListVals (te : TE) : TE := fun σ H Q => te σ H fun x H1 => ∃ (d : Addr) (vs : List V), x = .ref d ∧ DVals H1 d vs ∧ ∀ p, H1 p = none → Q (.ref p) (upd H1 p (.lst vs))
section
variable {prog : Program} {w : World} {d r : Addr} {ob : Obj} {es : Array DictEntry} {ep : Nat}
theorem src_vals (dat : ob.data = .dict es ep) : PySem.W.KdlSrc prog w "dict_values" r d es.size (fun i v => ∃ x, es[i]? = some x ∧ x.val = v) (fun h => h.get? r = some (DSub.viewOb "dict_values" d) ∧ h.get? d = some ob) where
  type := fun _ k => ⟨_, k.1, rfl⟩
  there := fun _ k => ⟨Heap.lt_size k.1, Heap.lt_size k.2⟩
  keep := fun _ _ k m => ⟨m r (.inl rfl) _ k.1, m d (.inr rfl) _ k.2⟩
  notList := by decide
  notTuple := by decide
  hint := fun _ _ _ _ k q => PySem.W.kdl_hint_values ⟨_, k.1, rfl⟩ q
  iter := fun A s calm k => ⟨_, _, fun _ _ q => DSub.iter_vals k.1 k.2 dat q, DSub.walksVal (I := s.heap.objs.size) calm (Nat.ne_of_lt (Heap.lt_size k.2)) dat (fun i x hx => ⟨x, hx, rfl⟩), ⟨Heap.get?_push_size _ rfl, Heap.get?_push_of_some _ k.2⟩⟩
end
section
variable {X : Cx} {e : Expr} {te : TE} {p apos cpos pos : Pos}
theorem pairs_vals {K : Type} [DecidableEq K] {P : Program} {w : World} {knd : KeyKind P w K} {es : List DictEntry} {vs : List (K × Value)} (h : PySem.Pairs knd es vs) : es.map (·.val) = vs.map (·.2) := by
  induction h with
  | nil => rfl
  | cons _ e _ ih => rw [List.map_cons, List.map_cons, ih, e]
theorem kv_vals {κ : Type} {kvs : List (κ × V)} {vs : List (κ × Value)} (h : KV kvs vs) : Vals (kvs.map (·.2)) (vs.map (·.2)) := by
  induction h with
  | nil => exact .nil
  | cons r _ ih => exact .cons r.2 ih
theorem kvT_vals {R : List Key × V → List Key × Addr × Value → Prop} {f : List Key × Addr × Value → DictEntry} (hf : ∀ z, (f z).val = z.2.2) (hR : ∀ a b, R a b → RelV a.2 b.2.2) {kvs : List (List Key × V)} {xs : List (List Key × Addr × Value)} (h : Paired R kvs xs) : Vals (kvs.map (·.2)) ((xs.map f).map (·.val)) := by
  induction h with
  | nil => exact .nil
  | cons r _ ih => exact .cons (by show RelV _ _; have q := hR _ _ r; rw [← hf] at q; exact q) ih
/-- the dict's object: its entries' values stand for vs -/
theorem dvals_at {pins : List (Addr × Obj)} {σ : L2.St} {H : Hp} {s : Shared} {d : Addr} {vs : List V} (I : Inv X pins σ H s) (h : DVals H d vs) :
    ∃ (ob : Obj) (es : Array DictEntry) (ep : Nat), s.heap.get? d = some ob ∧ ob.ExactDict ∧ ob.data = .dict es ep ∧ (d == sysModules) = false ∧ vs.length ≤ sizeLine ∧ Vals vs (es.toList.map (·.val)) := by
  rcases h with ⟨kvs, hd, rfl⟩ | ⟨kvs, hd, rfl⟩
  · obtain ⟨hz, hs, ps, kv, ob, es, ep, h1, h2, h3, _, h5, _⟩ := I.hok d _ hd
    refine ⟨ob, es, ep, h1, h2, h3, hs, by rw [List.length_map]; exact hz, ?_⟩
    rw [pairs_vals h5]
    exact kv_vals kv
  · obtain ⟨hz, hs, xs, pr, ob, es, ep, h1, h2, h3, h4, _⟩ := I.hok d _ hd
    refine ⟨ob, es, ep, h1, h2, h3, hs, by rw [List.length_map]; exact hz, ?_⟩
    rw [h4]
    exact kvT_vals (fun _ => rfl) (fun _ _ r => r.2.2) pr
/-- list(e.values()) -/
theorem pe_listVals (calm : X.calm = true) (he : PE X e te) (hg : Gl X "list") (free : X.mg "list" = none) (boot : bootBuiltins "list" = some (.type "list")) (base : attributeBase e "values" X.env (eval e X.env) = eval e X.env := by rfl) (line : (apos.endLine == cpos.line) = true := by rfl)
    (star : starEach [.Call (.Attribute e "values" apos) [] [] cpos] X.env = (false, eval (.Call (.Attribute e "values" apos) [] [] cpos) X.env) :: starEach [] X.env := by rfl) :
    PE X (.Call (.Name "list" p) [.Call (.Attribute e "values" apos) [] [] cpos] [] pos) (tListVals te) := by
  constructor
  intro pins s σ H Q I want
  refine wpAny_Call_Name_kw (ld_blt I hg free boot ?_)
  refine PyProof.Rows.callWith_type1 ?_ star rfl
  rw [star]
  show wpAny _ _ (spliced ((false, eval (.Call (.Attribute e "values" apos) [] [] cpos) X.env) :: backTo pos (starEach [] X.env))) _ _ s
  refine Calls.spliced_cons ?_
  refine wpAny_Call_method (T := "dict") (id := "dict.values") base rfl line F.plainAttrs_dict F.slot_dict_values F.type_dict_values (thn (he.run pins s σ H _ I want) ?_)
  rintro u s1 ⟨x, H1, J, rx, d, vs, rfl, dv, k⟩
  cases (show u = Value.ref d from rx)
  obtain ⟨ob, es, ep, g1, g2, g3, low, few, rel⟩ := dvals_at J dv
  have raw : Heap.DictRaw s1.heap d es ep := ⟨ob, g1, g2, g3⟩
  refine ⟨⟨ob, g1, g2.1⟩, fun a q => ?_, ?_⟩
  · cases q
    exact ⟨ob, g1, g2.2.1⟩
  refine method_meetsIn F.slot_dict_values F.entry_dict_values rfl (PySem.evalArgs_none ⟨rfl, ⟨ob, g1, g2.1⟩, F.args_dict_values_1 _, _, meets_dict_values_raw d low, ⟨es, ep, raw⟩, ?_⟩)
  refine Calls.spliced_nil ?_
  have len : es.size = vs.length := by
    have := rel.length
    rw [List.length_map, Array.length_toList] at this
    exact this.symm
  have J2 : Inv X pins σ H1 { s1 with heap := s1.heap.push (DSub.viewOb "dict_values" d) } := J.kept (t' := s1.toks) fun b o q => Heap.get?_push_of_some _ q
  refine PySem.W.kdl_call (src_vals (r := s1.heap.objs.size) g3) (J.ok.hd calm) ⟨Heap.get?_push_size _ rfl, Heap.get?_push_of_some _ g1⟩ (by omega) fun h' tk acc c keep at_ its => ?_
  have items : Vals vs acc.toList := by
    have e : acc.toList = es.toList.map (·.val) := by
      refine List.ext_getElem? fun i => ?_
      rw [List.getElem?_map, Array.getElem?_toList, Array.getElem?_toList]
      cases q : acc[i]? with
      | some v =>
        obtain ⟨x, hx, rfl⟩ := its.2 i v q
        rw [hx]
        rfl
      | none =>
        have := Array.getElem?_eq_none_iff.mp q
        rw [its.1] at this
        rw [Array.getElem?_eq_none this]
        rfl
    rw [e]
    exact rel
  have fr := J2.hok.fresh (Nat.le_refl _)
  exact ⟨.ref _, _, J2.laid (o := .lst vs) (t' := tk) keep (Nat.le_refl _) ⟨few, acc.toList, c, items, by rw [show acc.toList.toArray = acc from Array.toArray_toList]; exact at_⟩, rfl, k _ fr⟩
end
end Z
/-! ### cuts that cross -/
namespace Z
open PySem PySem.Spec PyProof.Rows L2
def crossN (fy gy : List Str) : Nat := (fy.filter fun x => decide (x ∈ gy)).length
def crossB (fy gy : List Str) : Bool := decide (0 < crossN fy gy) && decide (crossN fy gy < min fy.length gy.length)
def meetB (a b : List Str) : Bool := a.any fun x => decide (x ∈ b)
def meet4 (xs ys us ws : List Str) : Bool := meetB xs us && (meetB xs ws && (meetB ys us && meetB ys ws))
theorem meetB_iff {a b : List Str} : meetB a b = true ↔ ∃ x, x ∈ a ∧ x ∈ b := by
  unfold meetB
  rw [List.any_eq_true]
  exact ⟨fun ⟨x, h, k⟩ => ⟨x, h, of_decide_eq_true k⟩, fun ⟨x, h, k⟩ => ⟨x, h, decide_eq_true k⟩⟩
theorem crossN_comm {a b : List Str} (ha : a.Nodup) (hb : b.Nodup) : crossN a b = crossN b a := by
  unfold crossN
  refine Nat.le_antisymm (len_le_of_sub (ha.sublist List.filter_sublist) fun x hx => ?_) (len_le_of_sub (hb.sublist List.filter_sublist) fun x hx => ?_) <;>
  · rw [List.mem_filter] at hx ⊢
    exact ⟨of_decide_eq_true hx.2, decide_eq_true hx.1⟩
theorem crossN_pos {a b : List Str} : 0 < crossN a b ↔ ∃ x, x ∈ a ∧ x ∈ b := by
  unfold crossN
  rw [List.length_pos_iff_exists_mem]
  exact ⟨fun ⟨x, h⟩ => ⟨x, (List.mem_filter.mp h).1, of_decide_eq_true (List.mem_filter.mp h).2⟩, fun ⟨x, h, k⟩ => ⟨x, List.mem_filter.mpr ⟨h, decide_eq_true k⟩⟩⟩
theorem crossN_lt {a b : List Str} : crossN a b < a.length ↔ ∃ x, x ∈ a ∧ x ∉ b := by
  unfold crossN
  constructor
  · intro h
    by_cases all : ∀ x ∈ a, x ∈ b
    · rw [List.filter_eq_self.mpr fun x hx => decide_eq_true (all x hx)] at h
      exact absurd h (Nat.lt_irrefl _)
    · simp only [Classical.not_forall] at all
      obtain ⟨x, h1, h2⟩ := all
      exact ⟨x, h1, h2⟩
  · rintro ⟨x, h1, h2⟩
    refine Nat.lt_of_le_of_ne (List.length_filter_le ..) fun e => h2 ?_
    have q := List.filter_sublist.eq_of_length e
    have h1' : x ∈ a.filter fun x => decide (x ∈ b) := by rw [q]; exact h1
    exact of_decide_eq_true (List.mem_filter.mp h1').2
theorem crossB_iff {a b : List Str} (ha : a.Nodup) (hb : b.Nodup) : crossB a b = true ↔ (∃ x, x ∈ a ∧ x ∈ b) ∧ (∃ x, x ∈ a ∧ x ∉ b) ∧ ∃ x, x ∈ b ∧ x ∉ a := by
  unfold crossB
  rw [Bool.and_eq_true, decide_eq_true_iff, decide_eq_true_iff, Nat.lt_min, crossN_pos, crossN_lt, crossN_comm ha hb, crossN_lt]
theorem crossB_comm {a b : List Str} (ha : a.Nodup) (hb : b.Nodup) : crossB a b = crossB b a := by
  rw [Bool.eq_iff_iff, crossB_iff ha hb, crossB_iff hb ha]
  exact ⟨fun ⟨⟨x, h, k⟩, p, q⟩ => ⟨⟨x, k, h⟩, q, p⟩, fun ⟨⟨x, h, k⟩, p, q⟩ => ⟨⟨x, k, h⟩, q, p⟩⟩
theorem crossB_self {a : List Str} (ha : a.Nodup) : crossB a a = false := by
  cases e : crossB a a with
  | false => rfl
  | true =>
    obtain ⟨_, ⟨x, h, k⟩, _⟩ := (crossB_iff ha ha).mp e
    exact absurd h k
/-- what the sides of a cut, the near one first, have to do with its rows -/
theorem Turned.sets {xs ys ny fy : List Str} (t : Turned xs ys ny fy) : ((∀ x, x ∈ ny ↔ x ∈ xs) ∧ ∀ x, x ∈ fy ↔ x ∈ ys) ∨ ((∀ x, x ∈ ny ↔ x ∈ ys) ∧ ∀ x, x ∈ fy ↔ x ∈ xs) := by
  obtain ⟨ya, yb, h1, h2, y0, z0, _, _, ⟨_, rfl, rfl⟩ | ⟨_, rfl, rfl⟩⟩ := t
  · exact .inl ⟨h1.2.2, h2.2.2⟩
  · exact .inr ⟨h2.2.2, h1.2.2⟩
theorem Turned.nds {xs ys ny fy : List Str} (t : Turned xs ys ny fy) : ny.Nodup ∧ fy.Nodup := by
  obtain ⟨ya, yb, h1, h2, y0, z0, _, _, ⟨_, rfl, rfl⟩ | ⟨_, rfl, rfl⟩⟩ := t
  · exact ⟨h1.2.1, h2.2.1⟩
  · exact ⟨h2.2.1, h1.2.1⟩
/-- the least name of all stands on the near side -/
theorem Turned.least {xs ys ny fy : List Str} (t : Turned xs ys ny fy) : ∃ x, x ∈ ny ∧ ∀ y ∈ xs ++ ys, leS x y := by
  obtain ⟨ya, yb, h1, h2, y0, z0, e1, e2, c⟩ := t
  obtain ⟨r1, rfl⟩ : ∃ r, ya = y0 :: r := by cases ya with
    | nil => cases e1
    | cons a r => cases e1; exact ⟨r, rfl⟩
  obtain ⟨r2, rfl⟩ : ∃ r, yb = z0 :: r := by cases yb with
    | nil => cases e2
    | cons a r => cases e2; exact ⟨r, rfl⟩
  have m1 := (h1.min rfl).2
  have m2 := (h2.min rfl).2
  rcases c with ⟨lt, rfl, rfl⟩ | ⟨ge, rfl, rfl⟩
  · refine ⟨y0, .head _, fun y hy => ?_⟩
    rcases List.mem_append.mp hy with h | h
    · exact m1 y h
    · exact leS_trans (leS_of_lt lt) (m2 y h)
  · refine ⟨z0, .head _, fun y hy => ?_⟩
    rcases List.mem_append.mp hy with h | h
    · exact leS_trans ge (m1 y h)
    · exact m2 y h
theorem cross_meet {xs ys ny fy us ws my gy : List Str} (t : Turned xs ys ny fy) (u : Turned us ws my gy) (a1 : apartS xs ys) (a2 : apartS us ws) (same : ∀ x, x ∈ xs ++ ys ↔ x ∈ us ++ ws) : crossB fy gy = meet4 xs ys us ws := by
  have s1 := t.sets
  have s2 := u.sets
  obtain ⟨x0, h0, l0⟩ := t.least
  obtain ⟨y0, g0, m0⟩ := u.least
  have in1 : ∀ x, x ∈ xs ++ ys ↔ x ∈ ny ∨ x ∈ fy := fun x => by
    rw [List.mem_append]
    rcases s1 with ⟨p, q⟩ | ⟨p, q⟩
    · rw [p, q]
    · rw [p, q]; exact Or.comm
  have in2 : ∀ x, x ∈ us ++ ws ↔ x ∈ my ∨ x ∈ gy := fun x => by
    rw [List.mem_append]
    rcases s2 with ⟨p, q⟩ | ⟨p, q⟩
    · rw [p, q]
    · rw [p, q]; exact Or.comm
  have ap1 : ∀ x, x ∈ ny → x ∉ fy := fun x => by
    rcases s1 with ⟨p, q⟩ | ⟨p, q⟩
    · rw [p, q]; exact a1 x
    · rw [p, q]; exact fun h k => a1 x k h
  have ap2 : ∀ x, x ∈ my → x ∉ gy := fun x => by
    rcases s2 with ⟨p, q⟩ | ⟨p, q⟩
    · rw [p, q]; exact a2 x
    · rw [p, q]; exact fun h k => a2 x k h
  have e0 : x0 = y0 := leS_anti (l0 y0 ((same y0).mpr ((in2 y0).mpr (.inl g0)))) (m0 x0 ((same x0).mp ((in1 x0).mpr (.inl h0))))
  subst e0
  have out1 : ∀ x, x ∈ fy → (x ∉ gy ↔ x ∈ my) := fun x hx => ⟨fun h => ((in2 x).mp ((same x).mp ((in1 x).mpr (.inr hx)))).resolve_right h, ap2 x⟩
  have out2 : ∀ x, x ∈ gy → (x ∉ fy ↔ x ∈ ny) := fun x hx => ⟨fun h => ((in1 x).mp ((same x).mpr ((in2 x).mpr (.inr hx)))).resolve_right h, ap1 x⟩
  rw [Bool.eq_iff_iff, crossB_iff t.nds.2 u.nds.2]
  unfold meet4
  simp only [Bool.and_eq_true, meetB_iff]
  have base : ((∃ x, x ∈ fy ∧ x ∈ gy) ∧ (∃ x, x ∈ fy ∧ x ∉ gy) ∧ ∃ x, x ∈ gy ∧ x ∉ fy) ↔ (∃ x, x ∈ ny ∧ x ∈ my) ∧ (∃ x, x ∈ ny ∧ x ∈ gy) ∧ (∃ x, x ∈ fy ∧ x ∈ my) ∧ ∃ x, x ∈ fy ∧ x ∈ gy := by
    constructor
    · rintro ⟨p, ⟨x, h1, h2⟩, ⟨y, h3, h4⟩⟩
      exact ⟨⟨x0, h0, g0⟩, ⟨y, (out2 y h3).mp h4, h3⟩, ⟨x, h1, (out1 x h1).mp h2⟩, p⟩
    · rintro ⟨_, ⟨y, h3, h4⟩, ⟨x, h1, h2⟩, p⟩
      exact ⟨p, ⟨x, h1, ap2 x h2⟩, ⟨y, h4, ap1 y h3⟩⟩
  rw [base]
  rcases s1 with ⟨p, q⟩ | ⟨p, q⟩ <;> rcases s2 with ⟨p', q'⟩ | ⟨p', q'⟩ <;> simp only [p, q, p', q'] <;> constructor <;> rintro ⟨A, B, C, D⟩ <;> first | exact ⟨A, B, C, D⟩ | exact ⟨B, A, D, C⟩ | exact ⟨C, D, A, B⟩ | exact ⟨D, C, B, A⟩
/-! ### the first two of a row that stand in a relation -/
def firstPair {α : Type} (R : α → α → Bool) : List α → Option (α × α)
  | [] => none
  | a :: r => match r.find? (R a) with
    | some b => some (a, b)
    | none => firstPair R r
/-- each key once, with what it comes with first -/
def firstsK {α κ : Type} [DecidableEq κ] (key : α → κ) : List κ → List α → List α
  | _, [] => []
  | seen, a :: r => if key a ∈ seen then firstsK key seen r else a :: firstsK key (key a :: seen) r
section
variable {α κ : Type} [DecidableEq κ] {key : α → κ}
theorem firsts_find {P : κ → Bool} : ∀ (l : List α) (seen : List κ), (∀ k ∈ seen, P k = false) → (firstsK key seen l).find? (fun a => P (key a)) = l.find? fun a => P (key a)
  | [], _, _ => rfl
  | a :: r, seen, h => by
    unfold firstsK
    by_cases m : key a ∈ seen
    · rw [if_pos m, List.find?_cons_of_neg (by rw [h _ m]; exact Bool.false_ne_true)]
      exact firsts_find r seen h
    · rw [if_neg m]
      cases e : P (key a) with
      | true => rw [List.find?_cons_of_pos (p := fun a => P (key a)) e, List.find?_cons_of_pos (p := fun a => P (key a)) e]
      | false =>
        rw [List.find?_cons_of_neg (by rw [e]; exact Bool.false_ne_true), List.find?_cons_of_neg (by rw [e]; exact Bool.false_ne_true)]
        exact firsts_find r _ fun k hk => by
          rcases List.mem_cons.mp hk with rfl | hk
          · exact e
          · exact h k hk
theorem firsts_pair {R : κ → κ → Bool} {O : κ → Prop} (sym : ∀ a b, O a → O b → R a b = R b a) (irr : ∀ a, O a → R a a = false) : ∀ (l : List α) (seen : List κ), (∀ a ∈ l, O (key a)) → (∀ k ∈ seen, O k) → (∀ k ∈ seen, ∀ a ∈ l, R k (key a) = false) →
    firstPair (fun a b => R (key a) (key b)) (firstsK key seen l) = firstPair (fun a b => R (key a) (key b)) l
  | [], _, _, _, _ => rfl
  | a :: r, seen, o1, o2, h => by
    have oa := o1 a (.head _)
    have o1' : ∀ b ∈ r, O (key b) := fun b hb => o1 b (.tail _ hb)
    unfold firstsK
    by_cases m : key a ∈ seen
    · rw [if_pos m, firsts_pair sym irr r seen o1' o2 fun k hk b hb => h k hk b (.tail _ hb)]
      have no : r.find? (fun b => R (key a) (key b)) = none := List.find?_eq_none.mpr fun b hb => by rw [h _ m b (.tail _ hb)]; exact Bool.false_ne_true
      show _ = match r.find? (fun b => R (key a) (key b)) with | some b => some (a, b) | none => firstPair _ r
      rw [no]
    · rw [if_neg m]
      have ff := firsts_find (P := R (key a)) (key := key) r (key a :: seen) fun k hk => by
        rcases List.mem_cons.mp hk with rfl | hk
        · exact irr _ oa
        · rw [sym _ _ oa (o2 k hk)]; exact h k hk a (.head _)
      show (match (firstsK key (key a :: seen) r).find? (fun b => R (key a) (key b)) with | some b => some (a, b) | none => firstPair _ (firstsK key (key a :: seen) r)) = match r.find? (fun b => R (key a) (key b)) with | some b => some (a, b) | none => firstPair _ r
      rw [ff]
      cases e : r.find? (fun b => R (key a) (key b)) with
      | some b => rfl
      | none =>
        exact firsts_pair sym irr r _ o1' (fun k hk => by rcases List.mem_cons.mp hk with rfl | hk; exact oa; exact o2 k hk) fun k hk b hb => by
          rcases List.mem_cons.mp hk with rfl | hk
          · exact eq_false_of_ne_true (List.find?_eq_none.mp e b hb)
          · exact h k hk b (.tail _ hb)
theorem firsts_mem {l : List α} : ∀ {seen : List κ} {k : κ}, (k ∈ (firstsK key seen l).map key ∨ k ∈ seen) ↔ (k ∈ l.map key ∨ k ∈ seen) := by
  induction l with
  | nil => exact .rfl
  | cons a r ih =>
    intro seen k
    unfold firstsK
    by_cases m : key a ∈ seen
    · rw [if_pos m, ih, List.map_cons, List.mem_cons]
      constructor
      · rintro (h | h)
        · exact .inl (.inr h)
        · exact .inr h
      · rintro ((rfl | h) | h)
        · exact .inr m
        · exact .inl h
        · exact .inr h
    · rw [if_neg m, List.map_cons, List.map_cons, List.mem_cons, List.mem_cons]
      have := @ih (key a :: seen) k
      rw [List.mem_cons] at this
      constructor
      · rintro ((h | h) | h)
        · exact .inl (.inl h)
        · rcases this.mp (.inl h) with q | q | q
          · exact .inl (.inr q)
          · exact .inl (.inl q)
          · exact .inr q
        · exact .inr h
      · rintro ((h | h) | h)
        · exact .inl (.inl h)
        · rcases this.mpr (.inl h) with q | q | q
          · exact .inl (.inr q)
          · exact .inl (.inl q)
          · exact .inr q
        · exact .inr h
/-- one more at the end -/
theorem firsts_snoc {x : α} : ∀ (l : List α) (seen : List κ), firstsK key seen (l ++ [x]) = firstsK key seen l ++ if key x ∈ seen ∨ key x ∈ (firstsK key seen l).map key then [] else [x]
  | [], seen => by
    show (if key x ∈ seen then firstsK key seen [] else x :: firstsK key (key x :: seen) []) = [] ++ _
    by_cases m : key x ∈ seen
    · rw [if_pos m, if_pos (.inl m)]; rfl
    · rw [if_neg m, if_neg (by rintro (h | h); exact m h; cases h)]; rfl
  | a :: r, seen => by
    show (if key a ∈ seen then firstsK key seen (r ++ [x]) else a :: firstsK key (key a :: seen) (r ++ [x])) = (if key a ∈ seen then firstsK key seen r else a :: firstsK key (key a :: seen) r) ++ if key x ∈ seen ∨ key x ∈ (if key a ∈ seen then firstsK key seen r else a :: firstsK key (key a :: seen) r).map key then [] else [x]
    by_cases m : key a ∈ seen
    · simp only [if_pos m]
      exact firsts_snoc r seen
    · simp only [if_neg m]
      rw [firsts_snoc r, List.cons_append]
      congr 2
      simp only [List.mem_cons, List.map_cons]
      by_cases q : key x ∈ seen ∨ key x = key a ∨ key x ∈ (firstsK key (key a :: seen) r).map key
      · rw [if_pos q, if_pos (by rcases q with h | h | h; exact .inl (.inr h); exact .inl (.inl h); exact .inr h)]
      · rw [if_neg q, if_neg (fun h => q (by rcases h with (h | h) | h; exact .inr (.inl h); exact .inl h; exact .inr (.inr h)))]
theorem firsts_sub {l : List α} : ∀ {seen : List κ} {a : α}, a ∈ firstsK key seen l → a ∈ l := by
  induction l with
  | nil => intro _ _ h; cases h
  | cons b r ih =>
    intro seen a h
    unfold firstsK at h
    by_cases m : key b ∈ seen
    · rw [if_pos m] at h
      exact .tail _ (ih h)
    · rw [if_neg m] at h
      rcases List.mem_cons.mp h with rfl | h
      · exact .head _
      · exact .tail _ (ih h)
theorem firsts_len {l : List α} : ∀ {seen : List κ}, (firstsK key seen l).length ≤ l.length := by
  induction l with
  | nil => intro _; exact Nat.le_refl _
  | cons b r ih =>
    intro seen
    unfold firstsK
    split
    · exact Nat.le_succ_of_le ih
    · exact Nat.succ_le_succ ih
end
theorem firstPair_map {α β : Type} {R : β → β → Bool} (f : α → β) : ∀ l : List α, firstPair R (l.map f) = (firstPair (fun a b => R (f a) (f b)) l).map fun p => (f p.1, f p.2)
  | [] => rfl
  | a :: r => by
    show (match (r.map f).find? (R (f a)) with | some b => some (f a, b) | none => firstPair R (r.map f)) = Option.map _ (match r.find? (fun b => R (f a) (f b)) with | some b => some (a, b) | none => firstPair _ r)
    rw [List.find?_map]
    show (match Option.map f (r.find? (fun b => R (f a) (f b))) with | some b => some (f a, b) | none => firstPair R (r.map f)) = _
    cases r.find? (fun b => R (f a) (f b)) with
    | some b => rfl
    | none => exact firstPair_map f r
end Z
namespace Z
open PySem PySem.Spec PyProof.Rows L2
theorem crossB_no {fy gy : List Str} {n : Nat} (d : fy.Nodup) (m : ManyB (fun y => inS fy y && inS gy y) n) (h : ¬ (0 : Int) < (n : Int)) : crossB fy gy = false := by
  have e : n = crossN fy gy := m.filter d
  unfold crossB
  rw [decide_eq_false (by omega), Bool.false_and]
theorem crossB_at {fy gy : List Str} {n : Nat} (d : fy.Nodup) (m : ManyB (fun y => inS fy y && inS gy y) n) (h : (0 : Int) < (n : Int)) : crossB fy gy = decide ((n : Int) < if ((gy.map V.str).length : Int) < ((fy.map V.str).length : Int) then ((gy.map V.str).length : Int) else ((fy.map V.str).length : Int)) := by
  have e : n = crossN fy gy := m.filter d
  unfold crossB
  rw [decide_eq_true (by omega), Bool.true_and, ← e, List.length_map, List.length_map]
  refine decide_eq_decide.mpr ?_
  split <;> omega
end Z
namespace Z
open PySem PySem.Spec PyProof.Rows L2
theorem depth_tup (xs : List Str) : (PyData.tuple (xs.map PyData.str)).depth ≤ 64 := by
  simp [PyData.depth, deep_strs]
end Z
namespace Z
open PySem PySem.Spec PyProof.Rows L2
/-- a cut that stands somewhere -/
structure CutD where
  p : Addr
  hs : List Str
  ny : List Str
  fy : List Str
def firstX (cs : List CutD) : Option (CutD × CutD) := firstPair (fun a b => crossB a.fy b.fy) cs
theorem firstX_firsts {cs : List CutD} (h : ∀ c ∈ cs, c.fy.Nodup) : firstX (firstsK CutD.fy [] cs) = firstX cs :=
  firsts_pair (R := crossB) (O := List.Nodup) (fun _ _ => crossB_comm) (fun _ => crossB_self) cs [] h nofun nofun
def farKey (l : List Str) : List Key := l.map Sum.inr
theorem farKey_map (l : List Str) : (farKey l).map kV = l.map V.str := by
  unfold farKey
  rw [List.map_map]
  rfl
theorem farKey_inj : ∀ {a b : List Str}, farKey a = farKey b → a = b
  | [], [], _ => rfl
  | [], _ :: _, h => nomatch h
  | _ :: _, [], h => nomatch h
  | _ :: _, _ :: _, h => by
    have h1 := (List.cons.inj h).1
    have h2 := farKey_inj (List.cons.inj h).2
    rw [Sum.inr.inj h1, h2]
def farD (cs : List CutD) : List (List Key × V) := cs.map fun c => (farKey c.fy, V.ref c.p)
theorem farD_vals (cs : List CutD) : (farD cs).map (·.2) = cs.map fun c => V.ref c.p := by
  unfold farD
  rw [List.map_map]
  rfl
theorem farD_none {cs : List CutD} {f : List Str} (h : f ∉ cs.map CutD.fy) : valV (farD cs) (farKey f) = none := by
  induction cs with
  | nil => rfl
  | cons c r ih =>
    rw [List.map_cons, List.mem_cons, not_or] at h
    show valV ((farKey c.fy, V.ref c.p) :: farD r) _ = none
    rw [valV_neg fun e => h.1 (farKey_inj e).symm]
    exact ih h.2
theorem farD_some {cs : List CutD} {f : List Str} (h : f ∈ cs.map CutD.fy) : ∃ v, valV (farD cs) (farKey f) = some v := by
  induction cs with
  | nil => cases h
  | cons c r ih =>
    show ∃ v, valV ((farKey c.fy, V.ref c.p) :: farD r) _ = some v
    by_cases e : c.fy = f
    · exact ⟨_, valV_pos (by rw [e])⟩
    · rw [List.map_cons, List.mem_cons] at h
      rw [valV_neg fun q => e (farKey_inj q)]
      exact ih (h.resolve_left fun q => e q.symm)
theorem farD_put {cs : List CutD} {c : CutD} (h : c.fy ∉ cs.map CutD.fy) : putK (farD cs) (farKey c.fy) (V.ref c.p) = farD (cs ++ [c]) := by
  unfold putK
  rw [valV_any, farD_none h, if_neg (by simp)]
  unfold farD
  rw [List.map_append]
  rfl
theorem firsts_next {cs : List CutD} {i : Nat} {c : CutD} (h : cs[i]? = some c) : firstsK CutD.fy [] (cs.take (i + 1)) = firstsK CutD.fy [] (cs.take i) ++ if c.fy ∈ (firstsK CutD.fy [] (cs.take i)).map CutD.fy then [] else [c] := by
  rw [List.take_add_one, h]
  show firstsK CutD.fy [] (cs.take i ++ [c]) = _
  rw [firsts_snoc]
  congr 1
  by_cases m : c.fy ∈ (firstsK CutD.fy [] (cs.take i)).map CutD.fy
  · rw [if_pos (.inr m), if_pos m]
  · rw [if_neg (by rintro (q | q); cases q; exact m q), if_neg m]
theorem row_walkE {K : PySem.W.Frag} {H : Hp} {p : Addr} {xs : List V} (h : RowA H p xs) {R : It → Hp → Prop} {σ : L2.St} {i : Nat} (hi : σ[i]? = some (some (.ref p))) (k : ∀ (J : It) (G : Hp → Prop), Walk J xs.length G (YAt xs) → (∀ H', H' p = H p → G H') → R J H) :
    (iList K (tVar i)) σ H R ∨ (iTup K (tVar i)) σ H R := by
  rcases h with h | h
  · exact .inl ⟨_, hi, p, rfl, ⟨xs, SqL.of h⟩, k _ _ walk_list fun H' e => SqL.of (e.trans h)⟩
  · exact .inr ⟨_, hi, p, rfl, ⟨xs, SqT.of h⟩, k _ _ walk_tup fun H' e => SqT.of (e.trans h)⟩
theorem firstX_cons (a : CutD) (r : List CutD) : firstX (a :: r) = match r.find? (fun b => crossB a.fy b.fy) with | some b => some (a, b) | none => firstX r := by
  unfold firstX
  rw [firstPair]
  cases r.find? (fun b => crossB a.fy b.fy) <;> rfl
end Z
namespace Z
open PySem PySem.Spec PyProof.Rows L2
theorem at_ref {cs : List CutD} {i : Nat} {x : V} (hx : (cs.map fun c => V.ref c.p)[i]? = some x) : ∃ c, cs[i]? = some c ∧ x = .ref c.p := by
  rw [List.getElem?_map] at hx
  cases q : cs[i]? with
  | none => rw [q] at hx; cases hx
  | some c => rw [q] at hx; cases hx; exact ⟨c, rfl, rfl⟩
theorem drop_cons {α : Type} {l : List α} {i : Nat} {a : α} (h : l[i]? = some a) : l.drop i = a :: l.drop (i + 1) := by
  obtain ⟨lt, rfl⟩ := List.getElem?_eq_some_iff.mp h
  exact List.drop_eq_getElem_cons lt
end Z
namespace Z
open PySem PySem.Spec PyProof.Rows L2
theorem meetB_fil (a b : List Str) : (a.filter fun x => decide (x ∈ b)).isEmpty = !meetB a b := by
  unfold meetB
  induction a with
  | nil => rfl
  | cons x r ih =>
    rw [List.any_cons]
    by_cases h : x ∈ b
    · rw [List.filter_cons_of_pos (by simpa using h), decide_eq_true h]; rfl
    · rw [List.filter_cons_of_neg (by simpa using h), decide_eq_false h, Bool.false_or, ih]
theorem meet4_all (xs ys us ws : List Str) : meet4 xs ys us ws = [xs, ys].all fun a => [us, ws].all fun b => meetB a b := by
  unfold meet4
  simp only [List.all_cons, List.all_nil, Bool.and_true, Bool.and_assoc]
theorem meet4_no {xs ys us ws a b : List Str} (ha : a ∈ [xs, ys]) (hb : b ∈ [us, ws]) (h : meetB a b = false) : meet4 xs ys us ws = false := by
  rw [meet4_all]
  refine eq_false_of_ne_true fun q => ?_
  have := List.all_eq_true.mp (List.all_eq_true.mp q a ha) b hb
  rw [h] at this
  cases this
theorem all_next {α : Type} {p : α → Bool} {l : List α} {i : Nat} {a : α} (h : l[i]? = some a) (k : (l.take i).all p = true) (ha : p a = true) : (l.take (i + 1)).all p = true := by
  rw [List.take_add_one, h, List.all_append, k]
  simp [ha]
/-- two of a row that stand each for a row of texts -/
theorem two_at {l1 l2 : Addr} {xs ys : List Str} {H : Hp} (h1 : H l1 = some (.lst (xs.map V.str))) (h2 : H l2 = some (.lst (ys.map V.str))) {i : Nat} {x : V} (h : [V.ref l1, V.ref l2][i]? = some x) : ∃ (l : Addr) (zs : List Str), x = .ref l ∧ [xs, ys][i]? = some zs ∧ H l = some (.lst (zs.map V.str)) := by
  match i, h with
  | 0, h => cases h; exact ⟨l1, xs, rfl, rfl, h1⟩
  | 1, h => cases h; exact ⟨l2, ys, rfl, rfl, h2⟩
  | n + 2, h => cases h
end Z
namespace Z
open PySem PySem.Spec PyProof.Rows L2
theorem Turned.eq {xs ys a b c d : List Str} (h : Turned xs ys a b) (k : Turned xs ys c d) : a = c ∧ b = d := by
  obtain ⟨ya, yb, h1, h2, y0, z0, e1, e2, h3⟩ := h
  obtain ⟨ya', yb', k1, k2, y0', z0', e1', e2', k3⟩ := k
  obtain rfl := h1.unique k1
  obtain rfl := h2.unique k2
  rw [e1] at e1'
  rw [e2] at e2'
  cases e1'
  cases e2'
  rcases h3 with ⟨l, rfl, rfl⟩ | ⟨l, rfl, rfl⟩ <;> rcases k3 with ⟨m, rfl, rfl⟩ | ⟨m, rfl, rfl⟩
  · exact ⟨rfl, rfl⟩
  · rw [l] at m; cases m
  · rw [l] at m; cases m
  · exact ⟨rfl, rfl⟩
theorem depth_b4 (a b c d : Bool) : (PyData.list [PyData.bool a, PyData.bool b, PyData.bool c, PyData.bool d]).depth ≤ 64 := by cases a <;> cases b <;> cases c <;> cases d <;> decide +kernel
theorem shown_b4 (a b c d : Bool) : (PyData.list [PyData.bool a, PyData.bool b, PyData.bool c, PyData.bool d]).shown.length ≤ sizeLine := by cases a <;> cases b <;> cases c <;> cases d <;> decide +kernel
end Z
namespace Z
open PySem PySem.Spec PyProof.Rows L2
theorem q_same {Q : VK} {H : Hp} {a b : PyData} (e : a = b) (q : Q (.bl true) H) : Q (V.bl (decide (V.str a.shown = V.str b.shown))) H := by
  subst e
  rw [decide_eq_true rfl]
  exact q
end Z
namespace Z
open PySem PySem.Spec PyProof.Rows L2
theorem firstPair_congr {α : Type} {R S : α → α → Bool} : ∀ {l : List α}, (∀ a ∈ l, ∀ b ∈ l, R a b = S a b) → firstPair R l = firstPair S l
  | [], _ => rfl
  | a :: r, h => by
    have e : r.find? (R a) = r.find? (S a) := by
      have : ∀ q : List α, (∀ b ∈ q, R a b = S a b) → q.find? (R a) = q.find? (S a) := by
        intro q
        induction q with
        | nil => intro _; rfl
        | cons b t ih =>
          intro k
          rw [List.find?_cons, List.find?_cons, k b (.head _), ih fun c hc => k c (.tail _ hc)]
      exact this r fun b hb => h a (.head _) b (.tail _ hb)
    rw [firstPair, firstPair, e, firstPair_congr fun b hb c hc => h b (.tail _ hb) c (.tail _ hc)]
theorem strs_inj : ∀ {a b : List Str}, a.map V.str = b.map V.str → a = b
  | [], [], _ => rfl
  | [], _ :: _, h => nomatch h
  | _ :: _, [], h => nomatch h
  | x :: a, y :: b, h => by
    have h1 := (List.cons.inj h).1
    rw [strs_inj (List.cons.inj h).2, V.str.inj h1]
theorem firstPair_mem {α : Type} {R : α → α → Bool} : ∀ {l : List α} {a b : α}, firstPair R l = some (a, b) → a ∈ l ∧ b ∈ l
  | [], _, _, h => nomatch h
  | x :: r, a, b, h => by
    rw [firstPair] at h
    cases e : r.find? (R x) with
    | some y => rw [e] at h; cases h; exact ⟨.head _, .tail _ (List.mem_of_find?_eq_some e)⟩
    | none => rw [e] at h; exact ⟨.tail _ (firstPair_mem h).1, .tail _ (firstPair_mem h).2⟩
theorem eq_cutC {K : PySem.W.Frag} {H : Hp} {p q : Addr} {hs ny fy ks : List Str} (hp : CutAt K H p hs ny fy) (hq : CutAt K H q ks ny fy) : BOwn (He.ga K "Cut") (spEqC K) (.ref p) (.ref q) true H := by
  obtain ⟨dx, t1, t2, t3, g1, _, _, _⟩ := hp.c
  obtain ⟨dy, u1, u2, u3, k1, _, _, _⟩ := hq.c
  refine ⟨p, q, dx, dy, _, _, rfl, rfl, g1, k1, fun _ => rfl, fun H' s => ?_⟩
  refine ⟨p, .ref q, hs, ny, fy, rfl, hp.same s, .inl ⟨q, ks, ny, fy, rfl, hq.same s, fun H2 s2 => ⟨?_, s2⟩⟩⟩
  rw [decide_eq_true rfl, decide_eq_true rfl]
  rfl
end Z
namespace Z
open PySem PySem.Spec PyProof.Rows L2
theorem prs_two {D : EqvB} {H : Hp} {a b c d : V} (h1 : D a c true H) (h2 : D b d true H) : PrsB D [a, b] [c, d] (fun _ => true) H := by
  refine ⟨rfl, fun i x y hx hy => ?_⟩
  match i, hx, hy with
  | 0, hx, hy => cases hx; cases hy; exact h1
  | 1, hx, hy => cases hx; cases hy; exact h2
  | n + 2, hx, hy => cases hx
theorem prs_self {H : Hp} {α : Type} {f : α → Addr} {l : List α} : PrsB BSelf (l.map fun z => V.ref (f z)) (l.map fun z => V.ref (f z)) (fun _ => true) H := by
  refine ⟨rfl, fun i x y hx hy => ?_⟩
  rw [hx] at hy
  cases hy
  rw [List.getElem?_map] at hx
  cases q : l[i]? with
  | none => rw [q] at hx; cases hx
  | some z => rw [q] at hx; cases hx; exact ⟨_, rfl, rfl, rfl⟩
theorem all_true : ∀ i n : Nat, allFrom (fun _ => true) i n = true
  | _, 0 => rfl
  | i, n + 1 => all_true (i + 1) n
end Z
/-! ### defs of the module called by keywords -/
namespace Z
open PySem PySem.Spec PyProof.Rows L2
/-- the keywords' values in the parameters' order: as they are written, or the other way about -/
def kwG {α : Type} (rev : Bool) (us ws : List α) : List α := us ++ if rev then ws.reverse else ws
structure DefW (P : Program) (w : World) (K : PySem.W.Frag) (mg : Str → Option Value) (base : Heap) (CX : CXT) (k : Nat) (x : Str) (ps : List Str) (n : Nat) (ks : List Str) (rev : Bool) (sp : Sp) : Prop where
  ex : ∃ fd, FnOk P w K mg base CX k (He.ga K x) fd ps sp ∧ KBn K fd ps n ks (kwG rev) (kwG rev)
  kp : PySem.W.keepIn K (.ref (He.ga K x)) = true
  at_ : mg x = some (.ref (He.ga K x))
theorem kbn_rev {K : PySem.W.Frag} {fd : FuncData} {ps ks : List Str} {n : Nat} (h : KBn K fd ps n ks (fun us ws => us ++ ws.reverse) (fun us ws => us ++ ws.reverse)) : KBn K fd ps n ks (kwG true) (kwG true) := h
theorem kbn_fwd {K : PySem.W.Frag} {fd : FuncData} {ps ks : List Str} {n : Nat} (h : KBn K fd ps n ks (fun us ws => us ++ ws) (fun us ws => us ++ ws)) : KBn K fd ps n ks (kwG false) (kwG false) := h
section
variable {X : Cx} {CX : CXT} {k n : Nat} {ps ks : List Str} {sp : Sp} {E : XK} {x : Str} {p pos : Pos} {e : Expr} {es : List Expr} {kws : List Keyword} {t tk : TA} {rev : Bool}
def tCallW (n m : Nat) (sp : Sp) (rev : Bool) (E : XK) (t tk : TA) : TE := fun σ H Q => t σ H fun vs H1 => tk σ H1 fun zs H2 => vs.length = n ∧ zs.length = m ∧ sp (kwG rev vs zs) H2 Q E
def tCallW0 (m : Nat) (sp : Sp) (rev : Bool) (E : XK) (tk : TA) : TE := fun σ H Q => tk σ H fun zs H2 => zs.length = m ∧ sp (kwG rev [] zs) H2 Q E
theorem pe_defW (D : DefW X.prog X.w X.K X.mg X.base CX k x ps n ks rev sp) (hr : Room k X.A) (hg : Gl X x) (hx : Passes CX X E) (ha : PA X (e :: es) t) (hkw : PK X kws tk) (named : (backToKw pos (keywordEach kws X.env)).all (·.1.isSome) = true := by rfl) (names : (backToKw pos (keywordEach kws X.env)).filterMap (·.1) = ks := by rfl)
    (hdb : (x == ("__debug__" : Str)) = false := by decide) (star : starEach (e :: es) X.env = (false, eval e X.env) :: starEach es X.env := by rfl)
    (plain : ((backTo pos (starEach (e :: es) X.env)).any (·.1) || (backToKw pos (keywordEach kws X.env)).any (·.1.isNone)) = false := by rfl) :
    PE X (.Call (.Name x p) (e :: es) kws pos) (tCallW n ks.length sp rev E t tk) := by
  obtain ⟨fd, F, b⟩ := D.ex
  exact pe_callN F hr hg D.at_ D.kp b hx ha hkw named names hdb star plain
theorem pe_defW0 (D : DefW X.prog X.w X.K X.mg X.base CX k x ps 0 ks rev sp) (hr : Room k X.A) (hg : Gl X x) (hx : Passes CX X E) (hkw : PK X kws tk) (named : (backToKw pos (keywordEach kws X.env)).all (·.1.isSome) = true := by rfl) (names : (backToKw pos (keywordEach kws X.env)).filterMap (·.1) = ks := by rfl)
    (hdb : (x == ("__debug__" : Str)) = false := by decide) (plain : ((backTo pos (starEach [] X.env)).any (·.1) || (backToKw pos (keywordEach kws X.env)).any (·.1.isNone)) = false := by rfl) :
    PE X (.Call (.Name x p) [] kws pos) (tCallW0 ks.length sp rev E tk) := by
  obtain ⟨fd, F, b⟩ := D.ex
  constructor
  intro pins s σ H Q I want
  refine wpAny_Call_Name_kw (ld_glob I hg D.at_ ?_ hdb)
  refine PySem.W.callWith_KW0 (h₀ := X.base) I.ok.mod.kin D.kp named (thn (hkw.run pos pins s σ H _ I want) ?_) plain
  rintro ws s2 ⟨zs, H2, J, rz, l, q⟩
  refine ⟨J.kIn, ?_⟩
  rw [names]
  exact run_fnN (us := []) (vs := []) F hr b hx J .nil rz rfl l q
end
/-! ### methods called by keywords alone -/
section
variable {X : Cx} {CX : CXT} {k : Nat} {C f : Addr} {m : Str} {ps ks : List Str} {sp : Sp} {E : XK} {o : Expr} {kws : List Keyword} {ta : TE} {tk : TA} {pos apos : Pos} {pl : Sem Bool} {rev : Bool}
theorem pe_methW (D : ∃ fd, FnOk X.prog X.w X.K X.mg X.base CX k f fd ps sp ∧ KBn X.K fd ps 1 ks (kwG rev) (kwG rev)) (c : Cls X.K C) (hm : Meth X.K C m f) (hr : Room k X.A) (hx : Passes CX X E) (he : PE X o ta) (hkw : PK X kws tk) (named : (backToKw pos (keywordEach kws X.env)).all (·.1.isSome) = true := by rfl) (names : (backToKw pos (keywordEach kws X.env)).filterMap (·.1) = ks := by rfl)
    (plain : ((backTo pos (starEach [] X.env)).any (·.1) || (backToKw pos (keywordEach kws X.env)).any (·.1.isNone)) = false := by rfl)
    (ht : eval (.Call (.Attribute o m apos) [] kws pos) X.env = (do
      let ov ← eval o X.env
      standAt apos.atName
      let (f, first) ← holding [ov] (getMethod ov m pl)
      callWith pos f first (backTo pos (starEach [] X.env)) (backToKw pos (keywordEach kws X.env))) := by rfl) :
    PE X (.Call (.Attribute o m apos) [] kws pos) (tMethK C m ks.length sp (kwG rev) E ta tk) := by
  obtain ⟨fd, F, b⟩ := D
  exact pe_methK he c hm F hr b hx hkw named names plain ht
end
end Z
/-! ### comprehensions whose items are new things; comprehensions that draw -/
namespace Z
open PySem PySem.Spec PyProof.Rows L2
/-- things that stand at the addresses, one by one -/
def RowsA {α : Type} (H : Hp) (f : α → HO) : List Addr → List α → Prop
  | [], [] => True
  | r :: rs, x :: xs => H r = some (f x) ∧ RowsA H f rs xs
  | _, _ => False
section
variable {α : Type}
theorem RowsA.len {H : Hp} {f : α → HO} : ∀ {rs : List Addr} {xs : List α}, RowsA H f rs xs → rs.length = xs.length
  | [], [], _ => rfl
  | _ :: rs, _ :: xs, h => by rw [List.length_cons, List.length_cons, RowsA.len (rs := rs) (xs := xs) h.2]
theorem RowsA.imp {H H' : Hp} {f : α → HO} : ∀ {rs : List Addr} {xs : List α}, (∀ r ∈ rs, ∀ o, H r = some o → H' r = some o) → RowsA H f rs xs → RowsA H' f rs xs
  | [], [], _, _ => trivial
  | _ :: rs, _ :: xs, k, h => ⟨k _ (.head _) _ h.1, RowsA.imp (rs := rs) (xs := xs) (fun r hr => k r (.tail _ hr)) h.2⟩
theorem RowsA.snoc {H : Hp} {f : α → HO} {r : Addr} {x : α} (e : H r = some (f x)) : ∀ {rs : List Addr} {xs : List α}, RowsA H f rs xs → RowsA H f (rs ++ [r]) (xs ++ [x])
  | [], [], _ => ⟨e, trivial⟩
  | _ :: rs, _ :: xs, h => ⟨h.1, RowsA.snoc e (rs := rs) (xs := xs) h.2⟩
theorem RowsA.two {H : Hp} {f : α → HO} {rs : List Addr} {x y : α} (h : RowsA H f rs [x, y]) : ∃ a b, rs = [a, b] ∧ H a = some (f x) ∧ H b = some (f y) := by
  match rs, h with
  | [a, b], ⟨h1, h2, _⟩ => exact ⟨a, b, rfl, h1, h2⟩
theorem RowsA.get {H : Hp} {f : α → HO} : ∀ {rs : List Addr} {xs : List α} {i : Nat} {x : α}, RowsA H f rs xs → xs[i]? = some x → ∃ r, rs[i]? = some r ∧ H r = some (f x)
  | [], [], _, _, _, h => nomatch h
  | r :: _, x :: _, 0, _, h, e => by cases e; exact ⟨r, rfl, h.1⟩
  | _ :: rs, _ :: xs, i + 1, _, h, e => RowsA.get (rs := rs) (xs := xs) (i := i) h.2 e
variable {J : It} {n : Nat} {G : Hp → Prop} {Y : Nat → Hp → V → Hp → Prop} {g : TG} {tt : TT} {te : TE} {vs : List Nat} {σ : L2.St} {H1 : Hp} {D : Addr} {Qd : Hp → Prop}
/-- each item a new thing -/
theorem lc_newA (w : Walk J n G Y) (xs : List α) (inj : α → V) (f : α → HO) (hn : n = xs.length) (hY : ∀ i H x H', i < n → Y i H x H' → H' = H ∧ (xs.map inj)[i]? = some x) (hD : H1 D = none) (hG : ∀ H', Same H1 H' → G H') (hz : xs.length < sizeLine)
    (hs : ∀ x ∈ xs, ∀ H', Same H1 H' → ∀ (Kt : V → Hp → Prop) (Kf : Hp → Prop), (∀ r H2, Same H' H2 → H' r = none → H2 r = some (f x) → Kt (.ref r) H2) → g (inj x) (wipe σ vs) H' fun σ2 H2 => wipe σ2 vs = wipe σ vs ∧ tt σ2 H2 fun b H3 => if b = true then te σ2 H3 Kt else Kf H3)
    (hd : ∀ H' rs, Same H1 H' → H' D = some (.lst (rs.map V.ref)) → RowsA H' f rs xs → Qd H') :
    ∃ W : Nat → Nat → Hp → Prop, (∃ m, W 0 m (upd H1 D (.lst []))) ∧ ∀ i m H, W i m H → (J.stop i H ∧ Qd H) ∨ (J.go i H ∧ ∃ Nx : Hp → Prop, (∀ H', Nx H' → ∃ m', m' < m ∧ W (i + 1) m' H') ∧ ∀ x H', J.yld i H x H' → g x (wipe σ vs) H' fun σ2 H2 => wipe σ2 vs = wipe σ vs ∧ tt σ2 H2 fun b H3 =>
      if b = true then te σ2 H3 fun y H4 => ∃ acc, H4 D = some (.lst acc) ∧ acc.length < sizeLine ∧ Nx (upd H4 D (.lst (acc ++ [y]))) else Nx H3) := by
  refine lc_it w (fun i H => Same H1 H ∧ ∃ rs : List Addr, H D = some (.lst (rs.map V.ref)) ∧ D ∉ rs ∧ RowsA H f rs (xs.take i)) ⟨same_new hD, [], upd_same, nofun, trivial⟩ (fun i H _ k => hG _ k.1) ?_ ?_
  · rintro i x H H' hi ⟨sm, rs, at_, nd, fa⟩ y
    obtain ⟨rfl, hx⟩ := hY i _ x H' hi y
    rw [List.getElem?_map] at hx
    obtain ⟨z, hz', rfl⟩ := Option.map_eq_some_iff.mp hx
    refine hs z (List.mem_of_getElem? hz') _ sm _ _ (fun r H2 s2 nr er => ⟨_, s2 _ _ at_, ?_, ?_, rs ++ [r], ?_, ?_, ?_⟩)
    · have := fa.len
      have b : (xs.take i).length ≤ xs.length := by rw [List.length_take]; omega
      rw [List.length_map, this]
      omega
    · exact fun b o h => by rw [upd_ne (ne_of_none h hD)]; exact s2 _ _ (sm _ _ h)
    · rw [upd_same, List.map_append]
      rfl
    · intro m
      rcases List.mem_append.mp m with m | m
      · exact nd m
      · rw [List.mem_singleton.mp m] at at_
        rw [nr] at at_
        exact absurd at_ nofun
    · have rD : r ≠ D := fun q => by rw [q, at_] at nr; exact absurd nr nofun
      rw [show xs.take (i + 1) = xs.take i ++ [z] by rw [List.take_add_one, hz']; rfl]
      refine RowsA.snoc (by rw [upd_ne rD]; exact er) (fa.imp fun a ha o q => ?_)
      rw [upd_ne (fun q => nd (by rw [← q]; exact ha))]
      exact s2 _ _ q
  · rintro H ⟨sm, rs, at_, _, fa⟩
    rw [hn, List.take_length] at fa
    exact hd H rs sm at_ fa
end
/-- a row of texts thinned by the pen -/
theorem lc_pen {J : It} {n : Nat} {G : Hp → Prop} {Y : Nat → Hp → V → Hp → Prop} {g : TG} {tt : TT} {te : TE} {vs : List Nat} {σ : L2.St} {H1 : Hp} {D : Addr} {Qd : Hp → Prop} {p c : Addr} {ms : List Int} {t : Nat} {z : Int} (w : Walk J n G Y) (xs : List Str) (hn : n = xs.length) (hY : ∀ i H x H', i < n → Y i H x H' → H' = H ∧ (xs.map V.str)[i]? = some x) (P : Pen H1 p c ms t z) (hD : H1 D = none) (hG : ∀ H', But p H1 H' → G H') (hz : xs.length < sizeLine)
    (hs : ∀ x ∈ xs, ∀ H' t' z', But p H1 H' → Pen H' p c ms t' z' → t' ≤ t + xs.length → ∀ (Kt : V → Hp → Prop) (Kf : Hp → Prop), (∀ H2 t2 z2, But p H' H2 → Pen H2 p c ms t2 z2 → t2 ≤ t' + 1 → Kt (.str x) H2) → (∀ H2 t2 z2, But p H' H2 → Pen H2 p c ms t2 z2 → t2 ≤ t' + 1 → Kf H2) → g (.str x) (wipe σ vs) H' fun σ2 H2 => wipe σ2 vs = wipe σ vs ∧ tt σ2 H2 fun b H3 => if b = true then te σ2 H3 Kt else Kf H3)
    (hd : ∀ (H' : Hp) (zs : List Str) (t' : Nat) (z' : Int), zs.Sublist xs → But p H1 H' → Pen H' p c ms t' z' → t' ≤ t + xs.length → H' D = some (.lst (zs.map V.str)) → Qd H') :
    ∃ W : Nat → Nat → Hp → Prop, (∃ m, W 0 m (upd H1 D (.lst []))) ∧ ∀ i m H, W i m H → (J.stop i H ∧ Qd H) ∨ (J.go i H ∧ ∃ Nx : Hp → Prop, (∀ H', Nx H' → ∃ m', m' < m ∧ W (i + 1) m' H') ∧ ∀ x H', J.yld i H x H' → g x (wipe σ vs) H' fun σ2 H2 => wipe σ2 vs = wipe σ vs ∧ tt σ2 H2 fun b H3 =>
      if b = true then te σ2 H3 fun y H4 => ∃ acc, H4 D = some (.lst acc) ∧ acc.length < sizeLine ∧ Nx (upd H4 D (.lst (acc ++ [y]))) else Nx H3) := by
  have nDp : D ≠ p := (ne_of_none P.a hD).symm
  refine lc_it w (fun i H => But p H1 H ∧ ∃ (zs : List Str) (t' : Nat) (z' : Int), zs.Sublist (xs.take i) ∧ Pen H p c ms t' z' ∧ t' ≤ t + i ∧ H D = some (.lst (zs.map V.str))) ⟨Same.but (same_new hD), [], t, z, List.Sublist.refl _, P.same (same_new hD), Nat.le_refl _, upd_same⟩ (fun i H _ k => hG _ k.1) ?_ ?_
  · rintro i x H H' hi ⟨b1, zs, t1, z1, sub, P1, ht, at_⟩ y
    obtain ⟨rfl, hx⟩ := hY i _ x H' hi y
    rw [List.getElem?_map] at hx
    obtain ⟨u, hu, rfl⟩ := Option.map_eq_some_iff.mp hx
    have next : xs.take (i + 1) = xs.take i ++ [u] := by rw [List.take_add_one, hu]; rfl
    refine hs u (List.mem_of_getElem? hu) _ t1 z1 b1 P1 (by omega) _ _ (fun H2 t2 z2 b2 P2 l2 => ?_) fun H2 t2 z2 b2 P2 l2 => ?_
    · have e2 := b2 _ _ nDp at_
      have len : zs.length ≤ xs.length := Nat.le_trans sub.length_le (by rw [List.length_take]; omega)
      refine ⟨_, e2, by rw [List.length_map]; omega, fun b o nb h => ?_, zs ++ [u], t2, z2, by rw [next]; exact sub.append (List.Sublist.refl _), ?_, by omega, by rw [upd_same, List.map_append]; rfl⟩
      · rw [upd_ne (ne_of_none h hD)]
        exact b2 _ _ nb (b1 _ _ nb h)
      · exact ⟨by rw [upd_ne nDp.symm]; exact P2.a, by rw [upd_ne (ne_of_none P.b hD)]; exact P2.b⟩
    · exact ⟨b1.trans b2, zs, t2, z2, by rw [next]; exact sub.trans (List.sublist_append_left ..), P2, by omega, b2 _ _ nDp at_⟩
  · rintro H ⟨b1, zs, t1, z1, sub, P1, ht, at_⟩
    rw [hn, List.take_length] at sub
    exact hd H zs t1 z1 sub b1 P1 (by omega) at_
/-- each item drawn anew -/
theorem lc_draw {α : Type} {J : It} {n : Nat} {G : Hp → Prop} {Y : Nat → Hp → V → Hp → Prop} {g : TG} {tt : TT} {te : TE} {vs : List Nat} {σ : L2.St} {H1 : Hp} {D : Addr} {Qd : Hp → Prop} {p c : Addr} {ms : List Int} {t : Nat} {z : Int} (w : Walk J n G Y) (xs : List V) (inj : α → V) (R : α → Hp → Prop) (M : Nat) (hn : n = xs.length) (hY : ∀ i H x H', i < n → Y i H x H' → H' = H ∧ xs[i]? = some x) (P : Pen H1 p c ms t z) (hD : H1 D = none) (hG : ∀ H', But p H1 H' → G H') (hz : xs.length < sizeLine)
    (st : ∀ x H H', (∀ b o, b ≠ p → b ≠ D → H b = some o → H' b = some o) → R x H → R x H')
    (hs : ∀ x ∈ xs, ∀ H' t' z', But p H1 H' → H' D ≠ none → Pen H' p c ms t' z' → t' ≤ t + M * xs.length → ∀ (Kt : V → Hp → Prop) (Kf : Hp → Prop), (∀ (r : α) H2 t2 z2, But p H' H2 → R r H2 → Pen H2 p c ms t2 z2 → t2 ≤ t' + M → Kt (inj r) H2) → g x (wipe σ vs) H' fun σ2 H2 => wipe σ2 vs = wipe σ vs ∧ tt σ2 H2 fun b H3 => if b = true then te σ2 H3 Kt else Kf H3)
    (hd : ∀ (H' : Hp) (rs : List α) (t' : Nat) (z' : Int), rs.length = xs.length → (∀ r ∈ rs, R r H') → But p H1 H' → Pen H' p c ms t' z' → t' ≤ t + M * xs.length → H' D = some (.lst (rs.map inj)) → Qd H') :
    ∃ W : Nat → Nat → Hp → Prop, (∃ m, W 0 m (upd H1 D (.lst []))) ∧ ∀ i m H, W i m H → (J.stop i H ∧ Qd H) ∨ (J.go i H ∧ ∃ Nx : Hp → Prop, (∀ H', Nx H' → ∃ m', m' < m ∧ W (i + 1) m' H') ∧ ∀ x H', J.yld i H x H' → g x (wipe σ vs) H' fun σ2 H2 => wipe σ2 vs = wipe σ vs ∧ tt σ2 H2 fun b H3 =>
      if b = true then te σ2 H3 fun y H4 => ∃ acc, H4 D = some (.lst acc) ∧ acc.length < sizeLine ∧ Nx (upd H4 D (.lst (acc ++ [y]))) else Nx H3) := by
  have nDp : D ≠ p := (ne_of_none P.a hD).symm
  refine lc_it w (fun i H => i ≤ n ∧ But p H1 H ∧ ∃ (rs : List α) (t' : Nat) (z' : Int), rs.length = i ∧ (∀ r ∈ rs, R r H) ∧ Pen H p c ms t' z' ∧ t' ≤ t + M * i ∧ H D = some (.lst (rs.map inj))) ⟨Nat.zero_le _, Same.but (same_new hD), [], t, z, rfl, nofun, P.same (same_new hD), Nat.le_refl _, upd_same⟩ (fun i H _ k => hG _ k.2.1) ?_ ?_
  · rintro i x H H' hi ⟨_, b1, rs, t1, z1, ln, ok, P1, ht, at_⟩ y
    obtain ⟨rfl, hx⟩ := hY i _ x H' hi y
    have le : M * i ≤ M * xs.length := Nat.mul_le_mul_left _ (by omega)
    refine hs x (List.mem_of_getElem? hx) _ t1 z1 b1 (by rw [at_]; exact nofun) P1 (by omega) _ _ (fun r H2 t2 z2 b2 R2 P2 l2 => ?_)
    have e2 := b2 _ _ nDp at_
    refine ⟨_, e2, by rw [List.length_map]; omega, by omega, fun b o nb h => ?_, rs ++ [r], t2, z2, by rw [List.length_append, ln]; rfl, fun q hq => ?_, ?_, by rw [Nat.mul_succ]; omega, by rw [upd_same, List.map_append]; rfl⟩
    · rw [upd_ne (ne_of_none h hD)]
      exact b2 _ _ nb (b1 _ _ nb h)
    · refine st q H2 _ (fun b o _ nD h => by rw [upd_ne nD]; exact h) ?_
      rcases List.mem_append.mp hq with hq | hq
      · exact st q _ H2 (fun b o nb _ h => b2 _ _ nb h) (ok q hq)
      · rw [List.mem_singleton.mp hq]; exact R2
    · exact ⟨by rw [upd_ne nDp.symm]; exact P2.a, by rw [upd_ne (ne_of_none P.b hD)]; exact P2.b⟩
  · rintro H ⟨_, b1, rs, t1, z1, ln, ok, P1, ht, at_⟩
    exact hd H rs t1 z1 (ln.trans hn) ok b1 P1 (by rw [hn] at ht; exact ht) at_
end Z
/-! ### classes whose __init__ takes a row of arguments; numbers that stand in a class -/
namespace Z
open PySem PySem.Spec PyProof.Rows L2
/-- a promise over the tuple that the star parameter makes of what is left over -/
def starSp (n : Nat) (sp : Sp) : Sp := fun vs H Q E => ∃ ws rest, vs = ws ++ rest ∧ ws.length = n ∧ rest.length ≤ sizeLine ∧ ∀ p, H p = none → sp (ws ++ [V.ref p]) (upd H p (.tup rest)) Q E
/-- the instance and the tuple of the arguments behind it: a promise over both -/
def newSp (C : Addr) (sp : Sp) (xs : List V) (H : Hp) (Q : Addr → Hp → Prop) (E : XK) : Prop := ∀ x dx, H x = none → H dx = none → dx ≠ x → sp (V.ref x :: xs) (upd (upd H dx (.own x)) x (.ins C dx [])) (fun v H2 => v = .non ∧ Q x H2) E
/-- the same behind the tuple -/
theorem new_star {C : Addr} {sp : Sp} {xs : List V} {H : Hp} {Q : Addr → Hp → Prop} {E : XK} (hl : xs.length ≤ sizeLine)
    (k : ∀ x t dx H1, Same H H1 → H x = none → H1 x = some (.ins C dx []) → H1 t = some (.tup xs) → t ≠ x → sp [V.ref x, V.ref t] H1 (fun v H2 => v = .non ∧ Q x H2) E) : newSp C (starSp 1 sp) xs H Q E := by
  intro x dx h1 h2 h3
  refine ⟨[V.ref x], xs, rfl, rfl, hl, fun p hp => ?_⟩
  have s1 : Same H (upd (upd H dx (.own x)) x (.ins C dx [])) := (same_new h2).trans (same_new (by rw [upd_ne h3.symm]; exact h1))
  have ex : upd (upd H dx (.own x)) x (.ins C dx []) x = some (.ins C dx []) := upd_same
  generalize upd (upd H dx (.own x)) x (.ins C dx []) = H1 at hp s1 ex
  have np : p ≠ x := fun q => by rw [q, ex] at hp; cases hp
  exact k x p dx _ (s1.trans (same_new hp)) h1 (by rw [upd_ne np.symm]; exact ex) upd_same np
section
variable {X : Cx} {CX : CXT} {k : Nat} {f C : Addr} {sp : Sp} {E : XK} {x : Str} {e : Expr} {te : TE} {p sq pos : Pos}
def tNewS (K : PySem.W.Frag) (C : Addr) (sp : Sp) (E : XK) (te : TE) : TE := fun σ H Q => te σ H fun y H1 => ∃ a xs, y = V.ref a ∧ (SqT K H1 a xs ∨ SqL K H1 a xs) ∧ newSp C sp xs H1 (fun x H2 => Q (.ref x) H2) E
/-- C(*y) -/
theorem pe_newS (M : Mk X.K C f) (F : FnR X.prog X.w X.K X.mg X.base CX k f sp) (hr : Room (k + 1) X.A) (hg : Gl X x) (hm : X.mg x = some (.ref C)) (hx : Passes CX X E) (he : PE X e te) (hdb : (x == ("__debug__" : Str)) = false := by decide)
    (lone : starEach [.Starred e sq] X.env = [(true, eval e X.env)] := by rfl) : PE X (.Call (.Name x p) [.Starred e sq] [] pos) (tNewS X.K C sp E te) := by
  constructor
  intro pins s σ H Q I h
  refine wpAny_Call_Name_kw (ld_glob I hg hm ?_ hdb)
  refine PySem.W.callWith_S (h₀ := X.base) I.ok.mod.kin M.kp ?_ lone
  refine thn (he.run pins s σ H _ I h) ?_
  rintro v s1 ⟨_, H1, I1, ry, a, xs, rfl, hxs, q⟩
  cases ry
  exact StX.star_any I1 hxs fun us s2 I2 rv => ⟨I2.kIn, StX.run_makeR M F hr hx I2 rv q⟩
def tNew0 (C : Addr) (sp : Sp) (E : XK) : TE := fun σ H Q => newSp C sp [] H (fun x H2 => Q (.ref x) H2) E
/-- C() -/
theorem pe_new0 (M : Mk X.K C f) (F : FnR X.prog X.w X.K X.mg X.base CX k f sp) (hr : Room (k + 1) X.A) (hg : Gl X x) (hm : X.mg x = some (.ref C)) (hx : Passes CX X E) (hdb : (x == ("__debug__" : Str)) = false := by decide) :
    PE X (.Call (.Name x p) [] [] pos) (tNew0 C sp E) := by
  constructor
  intro pins s σ H Q I h
  refine wpAny_Call_Name_kw (ld_glob I hg hm ?_ hdb)
  exact PySem.W.callWith_K0 I.kIn M.kp (StX.run_makeR (us := []) M F hr hx I .nil h)
end
/-- a comprehension that keeps some of what it makes, over rows of anything -/
theorem lc_fmA {α : Type} {J : It} {n : Nat} {G : Hp → Prop} {Y : Nat → Hp → V → Hp → Prop} {g : TG} {tt : TT} {te : TE} {vs : List Nat} {σ : L2.St} {H1 : Hp} {D : Addr} {Qd : Hp → Prop} (w : Walk J n G Y) (xs : List α) (inj : α → V) (F : α → Option V) (hn : n = xs.length) (hY : ∀ i H x H', i < n → Y i H x H' → H' = H ∧ (xs.map inj)[i]? = some x) (hD : H1 D = none) (hG : ∀ H', Same H1 H' → G H') (hz : xs.length < sizeLine)
    (hs : ∀ x ∈ xs, ∀ H', Same H1 H' → ∀ (Kt : V → Hp → Prop) (Kf : Hp → Prop), (∀ v H2, F x = some v → Same H' H2 → Kt v H2) → (∀ H2, F x = none → Same H' H2 → Kf H2) → g (inj x) (wipe σ vs) H' fun σ2 H2 => wipe σ2 vs = wipe σ vs ∧ tt σ2 H2 fun b H3 => if b = true then te σ2 H3 Kt else Kf H3)
    (hd : ∀ H', Same H1 H' → H' D = some (.lst (xs.filterMap F)) → Qd H') :
    ∃ W : Nat → Nat → Hp → Prop, (∃ m, W 0 m (upd H1 D (.lst []))) ∧ ∀ i m H, W i m H → (J.stop i H ∧ Qd H) ∨ (J.go i H ∧ ∃ Nx : Hp → Prop, (∀ H', Nx H' → ∃ m', m' < m ∧ W (i + 1) m' H') ∧ ∀ x H', J.yld i H x H' → g x (wipe σ vs) H' fun σ2 H2 => wipe σ2 vs = wipe σ vs ∧ tt σ2 H2 fun b H3 =>
      if b = true then te σ2 H3 fun y H4 => ∃ acc, H4 D = some (.lst acc) ∧ acc.length < sizeLine ∧ Nx (upd H4 D (.lst (acc ++ [y]))) else Nx H3) := by
  refine lc_it w (fun i H => Same H1 H ∧ H D = some (.lst ((xs.take i).filterMap F))) ⟨same_new hD, upd_same⟩ (fun i H _ k => hG _ k.1) ?_ ?_
  · rintro i x H H' hi ⟨sm, at_⟩ y
    obtain ⟨rfl, hx⟩ := hY i _ x H' hi y
    rw [List.getElem?_map] at hx
    obtain ⟨z, hz', rfl⟩ := Option.map_eq_some_iff.mp hx
    have next : xs.take (i + 1) = xs.take i ++ [z] := by rw [List.take_add_one, hz']; rfl
    have len : ((xs.take i).filterMap F).length < sizeLine := by
      have l1 := List.length_filterMap_le F (xs.take i)
      have l2 : (xs.take i).length ≤ xs.length := by rw [List.length_take]; omega
      omega
    refine hs z (List.mem_of_getElem? hz') _ sm _ _ (fun v H2 ev s2 => ?_) fun H2 ev s2 => ?_
    · refine ⟨_, s2 _ _ at_, len, fun b o h => ?_, ?_⟩
      · rw [upd_ne (ne_of_none h hD)]
        exact s2 _ _ (sm _ _ h)
      · rw [upd_same, next, List.filterMap_append]
        simp [ev]
    · refine ⟨sm.trans s2, ?_⟩
      rw [next, List.filterMap_append]
      simp only [List.filterMap_cons, ev, List.filterMap_nil, List.append_nil]
      exact s2 _ _ at_
  · rintro H ⟨sm, at_⟩
    rw [hn, List.take_length] at at_
    exact hd H sm at_
/-- a number that stands in a class -/
def conB (c f : Str) (i : Int) (K : PySem.W.Frag) : Bool := match PySem.W.findIn K (.ref (He.ga K c)) f with
  | some (some (.int j t)) => decide (j = i) && (decide (PySem.W.specialIn K (.int j t) "__get__" = some none) && !PySem.W.copiedNames.contains f)
  | _ => false
theorem conB_ok {K : PySem.W.Frag} {c f : Str} {i : Int} (h : conB c f i K = true) : ∃ u, Con K (He.ga K c) f (.int i) u := by
  unfold conB at h
  split at h
  · rename_i j t e
    obtain ⟨h1, h⟩ := He.ba h
    obtain ⟨h2, h3⟩ := He.ba h
    have e1 := of_decide_eq_true h1
    subst e1
    exact ⟨_, e, ⟨t, rfl⟩, of_decide_eq_true h2, by simpa using h3⟩
  · cases h
/-- what such an instance tells of it -/
theorem kpe_con {X : Cx} {K : PySem.W.Frag} {e : Expr} {ta : TE} {f : Str} {pos : Pos} (he : PE X e ta) (hb : attributeBase e f X.env (eval e X.env) = eval e X.env) (hK : X.K = K := by rfl) : PE X (.Attribute e f pos) (tCon K ta f) := by
  subst hK
  exact pe_con he hb
end Z
/-! ### texts that end by a sign -/
namespace Z
open PySem PySem.Spec PyProof.Rows L2
theorem snoc_of (x : Str) : x = "" ∨ ∃ y c, x = y ++ sg c := by
  rcases List.eq_nil_or_concat x.cps.toList with h | ⟨l, c, h⟩
  · exact .inl (str_ext h)
  · refine .inr ⟨⟨l.toArray⟩, c, str_ext ?_⟩
    rw [h, str_app]
    simp [sg, List.concat_eq_append]
theorem sg_inj1 {a b : Nat} (h : sg a = sg b) : a = b := by
  have := congrArg (fun s : Str => s.cps.toList) h
  simpa [sg] using this
theorem last_is {y : Str} {c d : Nat} : (cutS (y ++ sg c) (some (-1)) none = sg d) ↔ c = d := by
  rw [last_cut _ c y rfl]
  exact ⟨sg_inj1, fun h => by rw [h]⟩
theorem last_empty (d : Nat) : ¬ cutS "" (some (-1)) none = sg d := by
  intro h
  have := congrArg (fun s : Str => s.cps.toList.length) h
  have l := cutS_length "" (some (-1)) none
  rw [h] at l
  have e1 : (sg d).length = 1 := rfl
  rw [e1] at l
  exact absurd l (by decide)
theorem ends_is (y : Str) (c d : Nat) : Txt.endswith (y ++ sg c) (sg d) = decide (c = d) := by
  have n : (y ++ sg c).length = y.cps.toList.length + 1 := by rw [str_len, str_app, List.length_append]; rfl
  have l : (y ++ sg c).cps.toList = y.cps.toList ++ [c] := by rw [str_app]; rfl
  unfold Txt.endswith Builtin.Str.subAt
  have e1 : (sg d).length = 1 := rfl
  rw [e1, n]
  have e2 : y.cps.toList.length + 1 - 1 = y.cps.toList.length := by omega
  rw [e2]
  have e3 : ((y ++ sg c).cps.extract y.cps.toList.length (y.cps.toList.length + 1)) = #[c] := by
    apply Array.toList_inj.mp
    rw [Array.toList_extract, l]
    simp [List.extract, List.drop_left]
  rw [e3]
  have e4 : (sg d).cps = #[d] := rfl
  rw [e4]
  by_cases h : c = d
  · subst h; simp
  · simp [h]
theorem ends_empty (d : Nat) : Txt.endswith "" (sg d) = false := by
  unfold Txt.endswith
  have e1 : (sg d).length = 1 := rfl
  rw [e1]
  rfl
/-- the text without its last sign -/
theorem cut_init (y : Str) (c : Nat) : cutS (y ++ sg c) none (some (-1)) = y := by
  refine str_ext ?_
  have l : (y ++ sg c).cps.toList = y.cps.toList ++ [c] := by rw [str_app]; rfl
  have n : (y ++ sg c).length = y.cps.toList.length + 1 := by rw [str_len, l, List.length_append]; rfl
  unfold cutS
  show (((y ++ sg c).cps.toList.drop (HT.sIx (y ++ sg c).length 0 none)).take (HT.sIx (y ++ sg c).length (y ++ sg c).length (some (-1)) - HT.sIx (y ++ sg c).length 0 none)) = _
  have e1 : HT.sIx (y ++ sg c).length 0 none = 0 := rfl
  have e2 : HT.sIx (y ++ sg c).length (y ++ sg c).length (some (-1)) = y.cps.toList.length := by
    show (if (-1 : Int) < 0 then ((-1 : Int) + ((y ++ sg c).length : Int)).toNat else min ((-1 : Int)).toNat (y ++ sg c).length) = _
    rw [if_pos (by decide), n]
    omega
  rw [e1, e2, l]
  simp
theorem rs_is (y : Str) (d : Nat) : Txt.removesuffix (y ++ sg d) (sg d) = y := by
  rw [StrLaws.removesuffix_eq]
  have h := ends_is y d d
  unfold Txt.endswith at h
  have l : (y ++ sg d).cps.toList = y.cps.toList ++ [d] := by rw [str_app]; rfl
  have n : (y ++ sg d).length = y.cps.toList.length + 1 := by rw [str_len, l, List.length_append]; rfl
  rw [if_pos (by rw [h]; simp)]
  refine str_ext ?_
  have e1 : (sg d).length = 1 := rfl
  rw [l, e1, n]
  simp
theorem rs_not {x : Str} {d : Nat} (h : Txt.endswith x (sg d) = false) : Txt.removesuffix x (sg d) = x := by
  rw [StrLaws.removesuffix_eq]
  unfold Txt.endswith at h
  rw [if_neg (by rw [h]; exact Bool.false_ne_true)]
/-- the two ways to take a last sign off -/
theorem end_sign (x : Str) (d : Nat) : (cutS x (some (-1)) none = sg d ↔ Txt.endswith x (sg d) = true) ∧ (Txt.endswith x (sg d) = true → Txt.removesuffix x (sg d) = cutS x none (some (-1))) ∧ (Txt.endswith x (sg d) = false → Txt.removesuffix x (sg d) = x) := by
  refine ⟨?_, ?_, rs_not⟩
  · rcases snoc_of x with rfl | ⟨y, c, rfl⟩
    · rw [ends_empty]
      exact ⟨fun h => absurd h (last_empty d), nofun⟩
    · rw [ends_is, decide_eq_true_iff]
      exact last_is
  · rcases snoc_of x with rfl | ⟨y, c, rfl⟩
    · rw [ends_empty]
      nofun
    · rw [ends_is, decide_eq_true_iff]
      rintro rfl
      rw [rs_is, cut_init]
end Z
/-! ### joined texts: plain and short -/
namespace Z
open PySem PySem.Spec PyProof.Rows L2
theorem word_cut {n : Nat} {x : Str} (w : Word n x) (lo hi : Option Int) : Word n (cutS x lo hi) :=
  ⟨fun c hc => w.p c (List.mem_of_mem_drop (List.mem_of_mem_take hc)), Nat.le_trans (cutS_length x lo hi) w.l⟩
theorem join_least (y : Str) : ∀ ws : List Str, (ws.map (·.length)).sum + ws.length * y.length ≤ (Txt.join y ws).length + y.length
  | [] => by simp
  | [a] => by
    rw [TL.join_eq]
    show a.length + 0 + 1 * y.length ≤ a.length + y.length
    omega
  | a :: b :: r => by
    have ih := join_least y (b :: r)
    rw [TL.join_eq] at ih ⊢
    show a.length + ((b :: r).map (·.length)).sum + ((b :: r).length + 1) * y.length ≤ (a ++ y ++ Str.join y (b :: r)).length + y.length
    rw [Str.length_append, Str.length_append, Nat.succ_mul]
    omega
/-- the words of a text are no longer than it -/
theorem words_sum (x y : Str) : ((Txt.split x y).map (·.length)).sum + (Txt.split x y).length * y.length ≤ x.length + y.length := by
  have h := join_least y (Txt.split x y)
  rw [split_back] at h
  exact h
theorem word_joined {y : Str} {us : List Str} {n : Nat} (hy : Plain y) (hu : ∀ u ∈ us, Plain u) (h : (us.map (·.length)).sum + us.length * y.length ≤ n) : Word n (Txt.join y us) := by
  refine ⟨plain_join hy hu, ?_⟩
  rw [TL.join_eq]
  exact Nat.le_trans (StrLaws.join_length_le y us) h
theorem sum_take_drop (ws : List Str) (k m : Nat) (h : k ≤ m) : ((ws.take k).map (·.length)).sum + ((ws.drop m).map (·.length)).sum ≤ (ws.map (·.length)).sum := by
  have e : ws = ws.take k ++ ws.drop k := (List.take_append_drop k ws).symm
  have d : ((ws.drop m).map (·.length)).sum ≤ ((ws.drop k).map (·.length)).sum := by
    have e2 : ws.drop k = (ws.drop k).take (m - k) ++ ws.drop m := by
      have : ws.drop m = (ws.drop k).drop (m - k) := by rw [List.drop_drop]; congr 1; omega
      rw [this, List.take_append_drop]
    rw [e2, List.map_append, List.sum_append]
    omega
  have e3 : (ws.map (·.length)).sum = ((ws.take k).map (·.length)).sum + ((ws.drop k).map (·.length)).sum := by
    conv => lhs; rw [e, List.map_append, List.sum_append]
  omega
end Z
/-! ### own binary operators -/
namespace Z
open PySem PySem.Spec PyProof.Rows L2
section
variable {K : PySem.W.Frag} {M : Model} {h : Heap} {D : Addr} {nm : String}
def plainMro (K : PySem.W.Frag) (D : Addr) : Bool := (PySem.W.clsIn K D).any fun cd => cd.mro == [.ref D, .type "object"]
theorem plainMro_ok (e : plainMro K D = true) : ∃ cd, PySem.W.clsIn K D = some cd ∧ cd.mro = [.ref D, .type "object"] := by
  unfold plainMro at e
  cases c : PySem.W.clsIn K D with
  | none => rw [c] at e; cases e
  | some cd => rw [c] at e; exact ⟨cd, rfl, eq_of_beq e⟩
theorem looks_mro (X : K.In h) (e : plainMro K D = true) : PySem.W.Looks M h (mroOf (.ref D)) [.ref D, .type "object"] := by
  obtain ⟨cd, h1, h2⟩ := plainMro_ok e
  rw [← h2]
  exact (PySem.W.looks_clsIn X h1).andThen .now
theorem fills_none (X : K.In h) (e : plainMro K D = true) (h1 : PySem.W.findIn K (.ref D) (dunder nm) = some none) (h2 : PySem.W.findIn K (.ref D) (dunderR nm) = some none) (ho : fillsNumberSlot (.type "object") nm = pure false) : PySem.W.Looks M h (fillsNumberSlot (.ref D) nm) false := by
  unfold fillsNumberSlot at ho ⊢
  refine (looks_mro X e).andThen ?_
  simp only [List.anyM]
  exact .andThen (a := false) (.andThen (a := false) (.andThen (PySem.W.looks_findIn X h1) .now) (.andThen (a := false) (.andThen (PySem.W.looks_findIn X h2) .now) .now)) (.andThen (a := false) (.of_pure ho) .now)
theorem fillsI_none {add : Bool} (X : K.In h) (e : plainMro K D = true) (h1 : PySem.W.findIn K (.ref D) (dunderI nm) = some none) (ho : typeLookup (.type "object") (dunderI nm) = pure none) : PySem.W.Looks M h (fillsInplaceSlot (.ref D) nm add) false := by
  unfold fillsInplaceSlot
  refine (looks_mro X e).andThen ?_
  simp only [List.anyM]
  exact .andThen (a := false) (.andThen (PySem.W.looks_findIn X h1) .now) (.andThen (a := false) (.andThen (.of_pure ho) .now) .now)
theorem inPy {C f : Addr} (X : K.In h) (h1 : PySem.W.findIn K (.ref C) (dunder nm) = some (some (.ref f))) (h2 : PySem.W.findIn K (.ref C) (dunderR nm) = some none) : PySem.W.Looks M h (numberSlotInPython (.ref C) nm) true := by
  unfold numberSlotInPython
  exact .andThen (PySem.W.looks_findIn X h1) (.andThen (a := true) (.of_pure rfl) (.andThen (PySem.W.looks_findIn X h2) (.andThen (a := false) (.of_pure rfl) .now)))
end
section
variable {prog : Program} {w : World} {A : Around} {E : Value → Shared → Prop} {s : Shared} {K : PySem.W.Frag} {x C f : Addr} {ox : Obj} {od : Option Obj} {b tb : Value} {nm : String}
/-- what the right operand's class says of the operator: the left one's method is asked first -/
inductive Left (K : PySem.W.Frag) (M : Model) (h : Heap) (C : Addr) (nm : String) : Value → Prop
  | same : Left K M h C nm (.ref C)
  | none {tb : Value} : (Value.ref C == tb) = false → PySem.W.Looks M h (fillsNumberSlot tb nm) false → Left K M h C nm tb
  | some {tb : Value} {r : Option Value} : (Value.ref C == tb) = false → PySem.W.Looks M h (fillsNumberSlot tb nm) true → PySem.W.Looks M h (isSubtype tb (.ref C)) false → PySem.W.Looks M h (numberSlotInPython (.ref C) nm) true → PySem.W.Looks M h (numberSlotInPython tb nm) false → PySem.W.Looks M h (typeLookup tb (dunderR nm)) r → Left K M h C nm tb
theorem bin1_own {Q : Value → Shared → Prop} (X : K.In s.heap) (I : PySem.W.InstAt s.heap x ox C od) (hb : PySem.W.Looks (model prog w) s.heap (typeOf b) tb) (hs : PySem.W.findIn K (.ref C) (dunder nm) = some (some (.ref f))) (hf : PySem.W.isFn K (.ref f) = true)
    (hl : PySem.W.Looks (model prog w) s.heap (fillsNumberSlot (.ref C) nm) true) (L : Left K (model prog w) s.heap C nm tb) (hc : wpAny (model prog w) A (call (.ref f) [.ref x, b]) (PySem.W.CmpBack Q) E s) :
    wpAny (model prog w) A (binaryOp1 nm (.ref x) b) (fun r s' => ∃ v, r = some v ∧ Q v s') E s := by
  have one := PySem.W.ksp_try X I hs hf hc
  have fin : ∀ {g : Option Value → Sem (Option Value)}, (∀ v, g (some v) = pure (some v)) → wpAny (model prog w) A (tryMethod (.ref x) (dunder nm) b >>= g) (fun r s' => ∃ v, r = some v ∧ Q v s') E s := fun hg => wpAny_bind (wpAny_mono one (fun r s' z => by
    obtain ⟨v, rfl, q⟩ := z
    rw [hg]
    exact wpAny_pure ⟨v, rfl, q⟩) fun _ _ z => z)
  unfold binaryOp1
  refine wpAny_bind (I.type.here (wpAny_bind (hb.here (wpAny_bind (hl.here ?_)))))
  cases L with
  | same =>
    rw [if_pos (beq_self_eq_true _)]
    refine wpAny_bind (wpAny_pure ?_)
    simp only [Bool.and_false, Bool.false_eq_true, if_false, Bool.and_true, Bool.not_false, Bool.true_and, Bool.false_and, if_true]
    refine wpAny_bind (wpAny_pure ?_)
    simp only [Bool.false_eq_true, if_false]
    exact fin fun _ => rfl
  | none e h1 =>
    rw [if_neg (by rw [e]; exact Bool.false_ne_true)]
    refine wpAny_bind (h1.here ?_)
    simp only [Bool.and_false, Bool.false_eq_true, if_false, Bool.and_true, Bool.not_false, Bool.true_and, Bool.false_and, if_true]
    refine wpAny_bind (wpAny_pure ?_)
    simp only [Bool.false_eq_true, if_false]
    exact fin fun _ => rfl
  | some e h1 h2 h3 h4 h5 =>
    rw [if_neg (by rw [e]; exact Bool.false_ne_true)]
    refine wpAny_bind (h1.here ?_)
    simp only [Bool.and_self, if_true]
    refine wpAny_bind (h2.here ?_)
    simp only [Bool.false_eq_true, if_false, Bool.not_false, Bool.true_and, if_true]
    refine wpAny_bind (h3.here ?_)
    simp only [if_true]
    refine wpAny_bind (h4.here ?_)
    simp only [Bool.not_false, if_true]
    refine wpAny_bind (h5.here ?_)
    exact fin fun _ => rfl
theorem bin_own {Q : Value → Shared → Prop} {op : Operator} (X : K.In s.heap) (I : PySem.W.InstAt s.heap x ox C od) (hb : PySem.W.Looks (model prog w) s.heap (typeOf b) tb) (hs : PySem.W.findIn K (.ref C) (dunder op.info.2) = some (some (.ref f))) (hf : PySem.W.isFn K (.ref f) = true)
    (hl : PySem.W.Looks (model prog w) s.heap (fillsNumberSlot (.ref C) op.info.2) true) (L : Left K (model prog w) s.heap C op.info.2 tb) (hc : wpAny (model prog w) A (call (.ref f) [.ref x, b]) (PySem.W.CmpBack Q) E s) :
    wpAny (model prog w) A (binaryOp op (.ref x) b) Q E s := by
  unfold binaryOp
  refine wpAny_holding (wpAny_bind (wpAny_mono (bin1_own X I hb hs hf hl L hc) (fun r s' z => ?_) fun _ _ z => z))
  obtain ⟨v, rfl, q⟩ := z
  exact wpAny_pure q
theorem inp_own {Q : Value → Shared → Prop} {op : Operator} (X : K.In s.heap) (I : PySem.W.InstAt s.heap x ox C od) (hb : PySem.W.Looks (model prog w) s.heap (typeOf b) tb) (hs : PySem.W.findIn K (.ref C) (dunder op.info.2) = some (some (.ref f))) (hf : PySem.W.isFn K (.ref f) = true)
    (hl : PySem.W.Looks (model prog w) s.heap (fillsNumberSlot (.ref C) op.info.2) true) (hi : PySem.W.Looks (model prog w) s.heap (fillsInplaceSlot (.ref C) op.info.2 (op == .Add)) false) (L : Left K (model prog w) s.heap C op.info.2 tb) (hc : wpAny (model prog w) A (call (.ref f) [.ref x, b]) (PySem.W.CmpBack Q) E s) :
    wpAny (model prog w) A (inplaceOp op (.ref x) b) Q E s := by
  unfold inplaceOp
  refine wpAny_holding (wpAny_bind (I.type.here (wpAny_bind (hi.here ?_))))
  simp only [Bool.false_eq_true, if_false]
  refine wpAny_bind (wpAny_mono (bin1_own X I hb hs hf hl L hc) (fun r s' z => ?_) fun _ _ z => z)
  obtain ⟨v, rfl, q⟩ := z
  exact wpAny_pure q
end
/-- what stands at the right of an own operator -/
def RightOp (K : PySem.W.Frag) (H : Hp) (C : Addr) (nm : String) (y : V) : Prop := (∃ (b dx : Addr) (fs : List (Str × V)), y = .ref b ∧ H b = some (.ins C dx fs)) ∨
  (∃ (b D dx : Addr) (fs : List (Str × V)), y = .ref b ∧ H b = some (.ins D dx fs) ∧ (Value.ref C == Value.ref D) = false ∧ plainMro K D = true ∧ PySem.W.findIn K (.ref D) (dunder nm) = some none ∧ PySem.W.findIn K (.ref D) (dunderR nm) = some none) ∨
  ∃ i : Int, y = .int i ∧ fillsNumberSlot (.type "int") nm = pure true ∧ PySem.W.subIn K (.type "int") (.ref C) = some false ∧ ∃ r, typeLookup (.type "int") (dunderR nm) = pure r
def rBin (K : PySem.W.Frag) (C : Addr) (nm : String) (sp : Sp) (E : XK) : R2 := fun x y H Q => ∃ (a dx : Addr) (fs : List (Str × V)), x = .ref a ∧ H a = some (.ins C dx fs) ∧ RightOp K H C nm y ∧ sp [.ref a, y] H (fun v H' => ∃ q, v = .ref q ∧ Q (.ref q) H') E
section
variable {X : Cx} {K : PySem.W.Frag} {CX : CXT} {op : Operator} {C f : Addr} {k : Nat} {ps : List Str} {sp : Sp} {E : XK}
theorem right_left {pins : List (Addr × Obj)} {s : Shared} {σ : L2.St} {H : Hp} {y : V} {u : Value} {nm : String} (I : L2.Inv X pins σ H s) (ry : RelV y u) (h : RightOp X.K H C nm y) (hs : PySem.W.findIn X.K (.ref C) (dunder nm) = some (some (.ref f))) (hR : PySem.W.findIn X.K (.ref C) (dunderR nm) = some none) (ho : fillsNumberSlot (.type "object") nm = pure false) :
    ∃ tb, PySem.W.Looks (model X.prog X.w) s.heap (typeOf u) tb ∧ Left X.K (model X.prog X.w) s.heap C nm tb := by
  rcases h with ⟨b, dx, fs, rfl, hb⟩ | ⟨b, D, dx, fs, rfl, hb, ne, hm, h1, h2⟩ | ⟨i, rfl, h1, h2, r, h3⟩
  · cases ry
    obtain ⟨_, J, _⟩ := ins_get I.hok hb
    obtain ⟨_, J, _⟩ := J.look
    exact ⟨_, J.type, .same⟩
  · cases ry
    obtain ⟨_, J, _⟩ := ins_get I.hok hb
    obtain ⟨_, J, _⟩ := J.look
    exact ⟨_, J.type, .none ne (fills_none I.kIn hm h1 h2 ho)⟩
  · obtain ⟨t, rfl⟩ := ry
    exact ⟨.type "int", .of_pure rfl, .some rfl (.of_pure h1) (PySem.W.looks_subIn I.kIn h2) (inPy I.kIn hs hR) (.of_pure rfl) (.of_pure h3)⟩
theorem op_bin (D : ∃ fd, FnOk X.prog X.w K X.mg X.base CX k f fd ps sp ∧ Binds K fd ps []) (hr : Room k X.A) (hx : Passes CX X E) (hm : plainMro K C = true) (hs : PySem.W.findIn K (.ref C) (dunder op.info.2) = some (some (.ref f))) (hf : PySem.W.isFn K (.ref f) = true) (hR : PySem.W.findIn K (.ref C) (dunderR op.info.2) = some none)
    (ho : fillsNumberSlot (.type "object") op.info.2 = pure false := by rfl) (hK : X.K = K := by rfl) : OpR X (binaryOp op) (rBin K C op.info.2 sp E) := by
  subst hK
  obtain ⟨fd, F, hb⟩ := D
  rintro pins s σ H x y v u Q I rx ry ⟨a, dx, fs, rfl, ha, hy, hq⟩
  cases rx
  obtain ⟨mA, J, _⟩ := ins_get I.hok ha
  obtain ⟨od, J, _⟩ := J.look
  obtain ⟨tb, ht, L⟩ := right_left I ry hy hs hR ho
  obtain ⟨cd, c1, c2⟩ := plainMro_ok hm
  refine bin_own I.kIn J ht hs hf (PySem.W.fills_K I.kIn c1 c2 hs) L ?_
  have hv : Vals [V.ref a, y] [Value.ref a, u] := .cons rfl (.cons ry .nil)
  refine wpAny_mono (run_fn F hr hb .nil hx I hv hq) (fun r s' z => ?_) (fun _ _ z => z)
  obtain ⟨v', H', I', rv, q, rfl, hq⟩ := z
  cases rv
  exact ⟨.ref q, H', I', rfl, hq⟩
theorem pip_bin (D : ∃ fd, FnOk X.prog X.w K X.mg X.base CX k f fd ps sp ∧ Binds K fd ps []) (hr : Room k X.A) (hx : Passes CX X E) (hm : plainMro K C = true) (hs : PySem.W.findIn K (.ref C) (dunder op.info.2) = some (some (.ref f))) (hf : PySem.W.isFn K (.ref f) = true) (hR : PySem.W.findIn K (.ref C) (dunderR op.info.2) = some none) (hI : PySem.W.findIn K (.ref C) (dunderI op.info.2) = some none)
    (ho : fillsNumberSlot (.type "object") op.info.2 = pure false := by rfl) (hoi : typeLookup (.type "object") (dunderI op.info.2) = pure none := by rfl) (hK : X.K = K := by rfl) : PIp X op (rBin K C op.info.2 sp E) := by
  subst hK
  obtain ⟨fd, F, hb⟩ := D
  rintro pins s σ H x y v u Q I rx ry ⟨a, dx, fs, rfl, ha, hy, hq⟩
  cases rx
  obtain ⟨mA, J, _⟩ := ins_get I.hok ha
  obtain ⟨od, J, _⟩ := J.look
  obtain ⟨tb, ht, L⟩ := right_left I ry hy hs hR ho
  obtain ⟨cd, c1, c2⟩ := plainMro_ok hm
  refine inp_own I.kIn J ht hs hf (PySem.W.fills_K I.kIn c1 c2 hs) (fillsI_none I.kIn hm hI hoi) L ?_
  have hv : Vals [V.ref a, y] [Value.ref a, u] := .cons rfl (.cons ry .nil)
  refine wpAny_mono (run_fn F hr hb .nil hx I hv hq) (fun r s' z => ?_) (fun _ _ z => z)
  obtain ⟨v', H', I', rv, q, rfl, hq⟩ := z
  cases rv
  exact ⟨.ref q, H', I', rfl, hq⟩
end
/-- facts of a class of operators, by a Bool -/
def opB (x : Str) (nm : String) (K : PySem.W.Frag) : Bool := plainMro K (He.ga K x) && (decide (PySem.W.findIn K (.ref (He.ga K x)) (dunderR nm) = some none) && (decide (PySem.W.findIn K (.ref (He.ga K x)) (dunderI nm) = some none) && decide (PySem.W.subIn K (.type "int") (.ref (He.ga K x)) = some false)))
structure OpF (K : PySem.W.Frag) (x : Str) (nm : String) : Prop where
  m : plainMro K (He.ga K x) = true
  r : PySem.W.findIn K (.ref (He.ga K x)) (dunderR nm) = some none
  i : PySem.W.findIn K (.ref (He.ga K x)) (dunderI nm) = some none
  s : PySem.W.subIn K (.type "int") (.ref (He.ga K x)) = some false
theorem opB_ok {K : PySem.W.Frag} {x : Str} {nm : String} (h : opB x nm K = true) : OpF K x nm := by
  obtain ⟨h1, h⟩ := He.ba h
  obtain ⟨h2, h⟩ := He.ba h
  obtain ⟨h3, h4⟩ := He.ba h
  exact ⟨h1, of_decide_eq_true h2, of_decide_eq_true h3, of_decide_eq_true h4⟩
/-- y of class D stands right of an operator of C, which D doesn't know -/
def noOpB (x y : Str) (nm : String) (K : PySem.W.Frag) : Bool := plainMro K (He.ga K y) && (decide (PySem.W.findIn K (.ref (He.ga K y)) (dunder nm) = some none) && (decide (PySem.W.findIn K (.ref (He.ga K y)) (dunderR nm) = some none) && !(Value.ref (He.ga K x) == Value.ref (He.ga K y))))
theorem noOpB_ok {K : PySem.W.Frag} {x y : Str} {nm : String} (h : noOpB x y nm K = true) {H : Hp} {b dx : Addr} {fs : List (Str × V)} (hb : H b = some (.ins (He.ga K y) dx fs)) : RightOp K H (He.ga K x) nm (.ref b) := by
  obtain ⟨h1, h⟩ := He.ba h
  obtain ⟨h2, h⟩ := He.ba h
  obtain ⟨h3, h4⟩ := He.ba h
  exact .inr (.inl ⟨b, _, dx, fs, rfl, hb, by simpa using h4, h1, of_decide_eq_true h2, of_decide_eq_true h3⟩)
theorem right_same {K : PySem.W.Frag} {C : Addr} {nm : String} {H : Hp} {b dx : Addr} {fs : List (Str × V)} (hb : H b = some (.ins C dx fs)) : RightOp K H C nm (.ref b) := .inl ⟨b, dx, fs, rfl, hb⟩
theorem right_int {K : PySem.W.Frag} {x : Str} {H : Hp} {i : Int} (o : OpF K x "mul") : RightOp K H (He.ga K x) "mul" (.int i) := .inr (.inr ⟨i, rfl, rfl, o.s, _, rfl⟩)
end Z
/-! ### tuples added and repeated: the empty one, once, no times -/
namespace Z
open PySem PySem.Spec PyProof.Rows L2
section
variable (l b : Addr) (items its2 : Array Value) (n m : Nat) (dd d2 : Option Addr) (sl sl2 : Array (Option Value)) (x : Int) (u : Tok)
theorem tup_mul_same (h1 : (decide (x < -2 ^ 63) || decide (x ≥ 2 ^ 63)) = false) (h2 : (items.isEmpty || x == 1) = true) :
    Meets (Builtin.«tuple.__mul__» { pos := [.ref l, .int x u] }) fun _ R s => s.heap.get? l = some { cls := .type "tuple", dict := dd, data := .seq items n, slots := sl } ∧ R (.ok (.ret (.ref l))) s := by
  rintro prog w A R s ⟨hg, hr⟩
  unfold Builtin.«tuple.__mul__»
  repeat wp_step
  rw [if_neg (by rw [h1]; exact Bool.false_ne_true)]
  unfold Builtin.Tuple.tupleItemsOf Builtin.Tuple.tupleIsExact
  dsimp only
  refine wpAny_bind (wpAny_bind ?_)
  repeat wp_step
  exact hr
theorem tup_mul_zero (h1 : (decide (x < -2 ^ 63) || decide (x ≥ 2 ^ 63)) = false) (h2 : (items.isEmpty || x == 1) = false) (h3 : (decide (x ≤ 0) || items.isEmpty) = true) :
    Meets (Builtin.«tuple.__mul__» { pos := [.ref l, .int x u] }) fun _ R s => s.heap.get? l = some { cls := .type "tuple", dict := dd, data := .seq items n, slots := sl } ∧ R (.ok (.ret (.ref s.heap.objs.size))) { s with heap := s.heap.push { cls := .type "tuple", data := .seq #[] } } := by
  rintro prog w A R s ⟨hg, hr⟩
  unfold Builtin.«tuple.__mul__»
  repeat wp_step
  rw [if_neg (by rw [h1]; exact Bool.false_ne_true)]
  unfold Builtin.Tuple.tupleItemsOf Builtin.Tuple.tupleIsExact Builtin.Tuple.tupleExact
  dsimp only
  refine wpAny_bind (wpAny_bind ?_)
  repeat wp_step
  exact hr
theorem tup_add_left (h1 : items.isEmpty = true) :
    Meets (Builtin.«tuple.__add__» { pos := [.ref l, .ref b] }) fun _ R s => s.heap.get? l = some { cls := .type "tuple", dict := dd, data := .seq items n, slots := sl } ∧ s.heap.get? b = some { cls := .type "tuple", dict := d2, data := .seq its2 m, slots := sl2 } ∧ R (.ok (.ret (.ref b))) s := by
  rintro prog w A R s ⟨hg, hb, hr⟩
  unfold Builtin.«tuple.__add__»
  unfold Builtin.Tuple.tupleItemsOf Builtin.Tuple.tupleIsExact Builtin.Tuple.tupleExact
  repeat wp_step
  refine wpAny_of_eq PySem.W.KPt.sub_tt ?_
  simp only [Bool.not_true, Bool.false_eq_true, if_false]
  refine wpAny_bind (wpAny_bind ?_)
  repeat wp_step
  exact hr
end
section
variable {X : Cx}
theorem isTup_get {h : Heap} {a : Addr} {its : Array Value} (t : IsTup h a its) : ∃ dd n sl, h.get? a = some { cls := .type "tuple", dict := dd, data := .seq its n, slots := sl } := by
  obtain ⟨⟨c, dd, dt, sl⟩, h1, h2, n, h3⟩ := t
  cases h2
  cases h3
  exact ⟨dd, n, sl, h1⟩
theorem isTup_type {s : Shared} {a : Addr} {its : Array Value} (t : IsTup s.heap a its) : s.TypeIs (.ref a) "tuple" := by
  obtain ⟨dd, n, sl, h⟩ := isTup_get t
  exact ⟨_, h, rfl⟩
/-- t + u, the left one empty -/
def rCatT0 (K : PySem.W.Frag) : R2 := fun x y H Q => ∃ (a b : Addr) (ys : List V), x = .ref a ∧ y = .ref b ∧ SqT K H a [] ∧ SqT K H b ys ∧ Q (.ref b) H
theorem op_catT0 : OpR X (binaryOp .Add) (rCatT0 X.K) := by
  rintro pins s σ H x y v u Q I rx ry ⟨a, b, ys, rfl, rfl, ha, hb, q⟩
  cases rx
  cases ry
  obtain ⟨i1, v1, t1, _⟩ := I.tuple ha
  obtain ⟨i2, v2, t2, _⟩ := I.tuple hb
  cases v1
  obtain ⟨dd, n, sl, g1⟩ := isTup_get t1
  obtain ⟨d2, m, s2, g2⟩ := isTup_get t2
  exact concat_meets (isTup_type t1) (isTup_type t2) noFill_tuple_add (by first | exact PySem.concat_tuple | rfl) PySem.F.slot_tuple_add (by first | exact PySem.F.entry_tuple_add | rfl) (by first | exact PySem.F.args_tuple_add _ _ | decide | trivial) (tup_add_left a b _ _ n m dd d2 sl s2 rfl) ⟨g1, g2, .ref b, H, I, rfl, q⟩
/-- t * k where t is empty or k is 1 (t itself), or k isn't positive (an empty one) -/
def rRep0 (K : PySem.W.Frag) : R2 := fun x y H Q => ∃ (l : Addr) (k : Int) (xs : List V), x = .ref l ∧ y = .int k ∧ SqT K H l xs ∧ -(2 ^ 63) ≤ k ∧ k < 2 ^ 63 ∧ (((xs = [] ∨ k = 1) ∧ Q (.ref l) H) ∨ (xs ≠ [] ∧ k ≤ 0 ∧ ∀ p, H p = none → Q (.ref p) (upd H p (.tup []))))
theorem op_rep0 : OpR X (binaryOp .Mult) (rRep0 X.K) := by
  rintro pins s σ H x y v u Q I rx ry ⟨l, k, xs, rfl, rfl, hl, lo, hi, h⟩
  cases rx
  obtain ⟨t, rfl⟩ := ry
  obtain ⟨its, v1, t1, _⟩ := I.tuple hl
  obtain ⟨dd, n, sl, g1⟩ := isTup_get t1
  have h1 : (decide (k < -2 ^ 63) || decide (k ≥ 2 ^ 63)) = false := by
    rw [decide_eq_false (by omega), decide_eq_false (by omega)]; rfl
  refine wpAny_binaryOp_repeat_ref (T := "tuple") (U := "int") rfl (isTup_type t1) (fun _ => rfl) noFill_tuple_mul (by rfl) PySem.F.slot_int_rmul repeat_tuple (by rfl) ?_
  refine call_meets PySem.F.slot_int_rmul (rfl) (by first | exact PySem.F.entry_int_rmul | rfl) (by first | exact PySem.F.args_int_rmul _ _ | decide | trivial | rfl) (int_rmul_tuple k t l its.toArray n dd sl) ⟨g1, rfl, isTup_type t1, ?_⟩
  have ie : its.toArray.isEmpty = its.isEmpty := by cases its <;> rfl
  have xe : xs = [] ↔ its = [] := by cases v1 <;> simp
  rcases h with ⟨h2, q⟩ | ⟨h2, h3, q⟩
  · refine call_meets PySem.F.slot_tuple_mul (isTup_type t1) PySem.F.entry_tuple_mul (by first | exact PySem.F.args_tuple_mul _ _ | decide | trivial | rfl) (tup_mul_same l its.toArray n dd sl k t h1 ?_) ⟨g1, .ref l, H, I, rfl, q⟩
    rcases h2 with h2 | h2
    · rw [ie, xe.mp h2]; rfl
    · rw [h2]; simp
  · have e0 : its ≠ [] := fun z => h2 (xe.mpr z)
    have e1 : its.toArray.isEmpty = false := by rw [ie]; cases its with
      | nil => exact absurd rfl e0
      | cons a b => rfl
    refine call_meets PySem.F.slot_tuple_mul (isTup_type t1) PySem.F.entry_tuple_mul (by first | exact PySem.F.args_tuple_mul _ _ | decide | trivial | rfl) (tup_mul_zero l its.toArray n dd sl k t h1 (by rw [e1]; simp; omega) (by rw [decide_eq_true h3]; rfl)) ⟨g1, .ref s.heap.objs.size, upd H s.heap.objs.size (.tup []), ?_, rfl, q _ ?_⟩
    · refine I.laid (fun b u e => Heap.get?_push_of_some _ e) (Nat.le_refl _) ?_
      have e : IsTup (s.heap.push { cls := .type "tuple", data := .seq #[] }) s.heap.objs.size #[] := ⟨_, Heap.get?_push_size _ rfl, rfl, _, rfl⟩
      unfold ObjOk
      exact ⟨Nat.zero_le _, [], .nil, e⟩
    · exact I.fresh
/-- t + u for any two -/
def rCatA (K : PySem.W.Frag) : R2 := fun x y H Q => rCatT K x y H Q ∨ rCatT0 K x y H Q
theorem op_catA {K : PySem.W.Frag} (hK : X.K = K := by rfl) : OpR X (binaryOp .Add) (rCatA K) := by
  subst hK
  rintro pins s σ H x y v u Q I rx ry (h | h)
  · exact op_catT pins s σ H x y v u Q I rx ry h
  · exact op_catT0 pins s σ H x y v u Q I rx ry h
theorem catA_of {K : PySem.W.Frag} {H : Hp} {a b : Addr} {xs ys : List V} {Q : VK} (ha : SqT K H a xs) (hb : SqT K H b ys) (hl : xs.length + ys.length ≤ sizeLine) (k : ∀ p H', Same H H' → SqT K H' p (xs ++ ys) → Q (.ref p) H') : rCatA K (.ref a) (.ref b) H Q := by
  by_cases e : xs = []
  · subst e
    exact .inr ⟨a, b, ys, rfl, rfl, ha, hb, k b H (Same.refl _) hb⟩
  · refine .inl ⟨a, b, xs, ys, rfl, rfl, ha, hb, e, hl, fun z => ?_, fun _ p np => k p _ (same_new np) (SqT.of upd_same)⟩
    subst z
    exact k a H (Same.refl _) (by rw [List.append_nil]; exact ha)
/-- t * k for any small k -/
def rRepA (K : PySem.W.Frag) : R2 := fun x y H Q => rRepT K x y H Q ∨ rRep0 K x y H Q
theorem op_repA {K : PySem.W.Frag} (hK : X.K = K := by rfl) : OpR X (binaryOp .Mult) (rRepA K) := by
  subst hK
  rintro pins s σ H x y v u Q I rx ry (h | h)
  · exact op_repT pins s σ H x y v u Q I rx ry h
  · exact op_rep0 pins s σ H x y v u Q I rx ry h
theorem repA_of {K : PySem.W.Frag} {H : Hp} {a : Addr} {xs : List V} {n : Nat} {Q : VK} (ha : SqT K H a xs) (hx : xs.length ≤ 1000) (hn : n ≤ 1000) (k : ∀ p H', Same H H' → SqT K H' p (List.replicate n xs).flatten → Q (.ref p) H') : rRepA K (.ref a) (.int (n : Nat)) H Q := by
  by_cases e : xs = []
  · subst e
    refine .inr ⟨a, _, [], rfl, rfl, ha, by omega, by omega, .inl ⟨.inl rfl, k a H (Same.refl _) ?_⟩⟩
    rw [show (List.replicate n ([] : List V)).flatten = [] by simp]
    exact ha
  · match n, hn, k with
    | 0, _, k => exact .inr ⟨a, _, xs, rfl, rfl, ha, by omega, by omega, .inr ⟨e, by omega, fun p np => k p _ (same_new np) (SqT.of upd_same)⟩⟩
    | 1, _, k =>
      refine .inr ⟨a, _, xs, rfl, rfl, ha, by omega, by omega, .inl ⟨.inr rfl, k a H (Same.refl _) ?_⟩⟩
      rw [show (List.replicate 1 xs).flatten = xs by simp]
      exact ha
    | n + 2, hn, k => exact .inl ⟨a, _, xs, rfl, rfl, ha, e, by omega, by omega, hx, fun p np => k p _ (same_new np) (SqT.of (by rw [show ((n + 2 : Nat) : Int).toNat = n + 2 from rfl]; exact upd_same))⟩
end
end Z
/-! ### repr of an empty dict -/
namespace Z
open PySem PySem.Spec PyProof.Rows L2
theorem empty_reads {P : Program} {w : World} {H : Hp} {h : Heap} {a : Addr} (ok : HOk P w H h) (ha : H a = some (.dK [])) : a ≠ sysModules ∧ Reads h (.ref a) (.dict []) [a] := by
  obtain ⟨_, ne, vs, kv, o, es, ep, h1, h2, h3, h4, h5, h6⟩ := dk_of ok ha
  cases kv
  have e0 : es.toList = [] := by cases h : es.toList with
    | nil => rfl
    | cons a b => rw [h] at h5; cases h5
  refine ⟨fun q => by rw [q] at ne; simp at ne, ?_⟩
  have r := Reads.dict (h := h) (a := a) (kvs := []) (as := []) (bs := []) h1 h2.1 h3 (by rw [e0]; exact .nil) (by rw [e0]; exact .nil)
  exact r
/-- repr of data, or of an empty dict -/
def rReprX (K : PySem.W.Frag) : List V → Hp → VK → Prop := fun xs H Q => rRepr K xs H Q ∨ ∃ a, xs = [.ref a] ∧ H a = some (.dK []) ∧ Q (.str "{}") H
theorem kcall_reprX {X : Cx} {K : PySem.W.Frag} (hgu : X.A.guards = some []) (hu : X.A.units + 70 < cLine) (hK : X.K = K := by rfl) : CallR X (.builtin "repr") (rReprX K) := by
  rintro pins s σ H xs us Q I r (h | ⟨a, rfl, ha, q⟩)
  · exact kcall_repr hgu hu hK pins s σ H xs us Q I r h
  · cases r with
    | cons r1 rs =>
      cases rs
      cases r1
      obtain ⟨ne, rd⟩ := empty_reads I.hok ha
      have sh : (PyData.dict []).shown = ("{}" : Str) := by decide +kernel
      refine repr_of_reads' rd (by decide +kernel) (fun _ m => ne (List.mem_singleton.mp m).symm) hgu (by rw [show (PyData.dict []).depth = 1 by decide +kernel]; omega) (fun _ _ e => e) (fun h' y tk hk => ?_) (by rw [sh]; decide)
      rw [sh]
      exact ⟨.str "{}", H, I.kept hk, ⟨y, rfl⟩, q⟩
end Z
/-! ### t[:len(t)]: the tuple itself -/
namespace Z
open PySem PySem.Spec PyProof.Rows L2
theorem tup_whole (l sl : Addr) (items : Array Value) (n : Nat) (dd d2 : Option Addr) (s1 s2 : Array (Option Value)) (k : Int) (u : Tok) (hk : k = items.size) :
    Meets (Builtin.«tuple.__getitem__» { pos := [.ref l, .ref sl] }) fun _ R s => s.heap.get? l = some { cls := .type "tuple", dict := dd, data := .seq items n, slots := s1 } ∧ s.heap.get? sl = some { cls := .type "slice", dict := d2, data := .fields #[.none, .int k u, .none], slots := s2 } ∧ R (.ok (.ret (.ref l))) s := by
  rintro prog w A R s ⟨hg, hs, hr⟩
  unfold Builtin.«tuple.__getitem__»
  unfold Builtin.Tuple.tupleItemsOf Builtin.Tuple.tupleIsExact Builtin.Tuple.tupleExact Builtin.Slice.sliceApplied Builtin.Slice.sliceFields Builtin.Slice.slicePartIndex
  repeat wp_step
  refine wpAny_of_eq (show typeLookup (.type "int") (Str.ofString "__index__") = pure (some (.builtin "int.__index__")) from rfl) ?_
  simp only [Option.isNone_some, Bool.false_eq_true, if_false]
  refine wpAny_bind ?_
  show wpAny _ _ (asIndex (.int k u)) _ _ _
  repeat wp_step
  subst hk
  have e1 : Builtin.Slice.sliceAdjust none (some (items.size : Int)) 1 (items.size : Int) = (0, (items.size : Int)) := by
    simp [Builtin.Slice.sliceAdjust]
    omega
  have e2 : Builtin.Slice.slicePlaces 0 (items.size : Int) 1 = items.size := by
    simp [Builtin.Slice.slicePlaces]
    split <;> omega
  have e0 : (none : Option Int).getD 1 = 1 := rfl
  simp only [e0, e1, e2]
  rw [if_pos (by simp)]
  repeat wp_step
  exact hr
/-- t[:k] for a k up to the length -/
def rSlTo (K : PySem.W.Frag) : V → Option Int → Option Int → Hp → VK → Prop := fun x lo hi H Q => ∃ (a : Addr) (xs : List V) (k : Nat), x = .ref a ∧ lo = none ∧ hi = some (k : Int) ∧ SqT K H a xs ∧ k ≤ xs.length ∧ ∀ p H', Same H H' → SqT K H' p (xs.take k) → Q (.ref p) H'
theorem ksl_to {X : Cx} {K : PySem.W.Frag} (hK : X.K = K := by rfl) : SlR X (rSlTo K) := by
  subst hK
  rintro pins s σ H x v vl vu lo hi sl Q I rx hs hl hu ⟨a, xs, k, rfl, rfl, rfl, ha, hk, q⟩
  cases rx
  obtain ⟨its, v1, t1, _⟩ := I.tuple ha
  have lx : xs.length = its.length := by first | exact v1.length | exact v1.len | exact Vals.len v1 | exact Paired.len v1 | exact Paired.length v1
  by_cases w : k = xs.length
  · obtain ⟨dd, n, s1, g1⟩ := isTup_get t1
    obtain ⟨⟨c, d2, dt, s2⟩, o1, o2, o3⟩ := hs
    cases o2
    cases o3
    refine ⟨"tuple", "tuple.__getitem__", rfl, isTup_type t1, ?_⟩
    cases hl
    cases hu
    refine getItem_meets (isTup_type t1) (by decide) PySem.F.slot_tuple_getitem (by first | exact PySem.F.entry_tuple_getitem | rfl) (by first | exact PySem.F.args_tuple_getitem _ _ | decide | trivial | rfl) (tup_whole a sl its.toArray n dd d2 s1 s2 _ _ (by rw [w, lx]; simp)) ⟨g1, o1, .ref a, H, I, rfl, q a H (Same.refl _) ?_⟩
    rw [w, List.take_length]
    exact ha
  · refine sl_tup pins s σ H (.ref a) _ vl vu none (some (k : Int)) sl Q I rfl hs hl hu ⟨a, xs, rfl, ha, fun z => ?_, fun p np => q p _ (same_new np) (SqT.of ?_)⟩
    · have := z.2
      rw [HT.sIx_nat] at this
      omega
    · rw [cutV_to _ (by omega)]
      exact upd_same
end Z
/-! ### data stays; what repr shows of a value -/
namespace Z
open PySem PySem.Spec PyProof.Rows L2
theorem rd_ext {H H' : Hp} {a : Addr} {u : HO} (s : LamX.ExtN H H') (nt : ∀ ps, u ≠ .tbl ps) (h : Rd H a u) : Rd H' a u := h.imp (fun e => s _ _ e nt) fun ⟨o, e⟩ => ⟨o, s _ _ e nofun⟩
mutual
theorem dp_ext {K : PySem.W.Frag} {H H' : Hp} (s : LamX.ExtN H H') {v : V} {d : PyData} (h : Dp K H v d) : Dp K H' v d := by
  cases h with
  | non => exact .non
  | bl b => exact .bl b
  | int i => exact .int i
  | str z => exact .str z
  | lst hq ha => exact .lst (hq.imp (rd_ext s nofun) id) (dpAll_ext s ha)
  | tup hq ha => exact .tup (hq.imp (rd_ext s nofun) id) (dpAll_ext s ha)
theorem dpAll_ext {K : PySem.W.Frag} {H H' : Hp} (s : LamX.ExtN H H') {vs : List V} {ds : List PyData} (h : DpAll K H vs ds) : DpAll K H' vs ds := by
  cases h with
  | nil => exact .nil
  | cons h1 h2 => exact .cons (dp_ext s h1) (dpAll_ext s h2)
end
/-- z is what repr shows of v -/
def ReprV (K : PySem.W.Frag) (H : Hp) (v : V) (z : Str) : Prop := z.length ≤ sizeLine ∧ PyData.strOk z = true ∧ ((∃ d, d.showable = true ∧ d.hasDict = false ∧ d.depth ≤ 64 ∧ Dp K H v d ∧ z = d.shown) ∨ ∃ a, v = .ref a ∧ H a = some (.dK []) ∧ z = "{}")
theorem ReprV.ext {K : PySem.W.Frag} {H H' : Hp} {v : V} {z : Str} (s : LamX.ExtN H H') (h : ReprV K H v z) : ReprV K H' v z :=
  ⟨h.1, h.2.1, h.2.2.imp (fun ⟨d, a, b, c, e, q⟩ => ⟨d, a, b, c, dp_ext s e, q⟩) fun ⟨a, e, h1, q⟩ => ⟨a, e, s _ _ h1 nofun, q⟩⟩
theorem ReprV.go {K : PySem.W.Frag} {H : Hp} {v : V} {z : Str} {Q : VK} (h : ReprV K H v z) (q : Q (.str z) H) : rReprX K [v] H Q := by
  rcases h.2.2 with ⟨d, a, b, c, e, rfl⟩ | ⟨a, rfl, h1, rfl⟩
  · exact .inl ⟨v, d, rfl, e, a, b, c, h.1, q⟩
  · exact .inr ⟨a, rfl, h1, q⟩
/-- data written out: what repr shows of it, by looking -/
theorem ReprV.of {K : PySem.W.Frag} {H : Hp} {v : V} {d : PyData} (e : Dp K H v d) (h : (d.showable && (!d.hasDict && (decide (d.depth ≤ 64) && (decide (d.shown.length ≤ 16777216) && PyData.strOk d.shown)))) = true) : ReprV K H v d.shown := by
  obtain ⟨h1, h⟩ := He.ba h
  obtain ⟨h2, h⟩ := He.ba h
  obtain ⟨h3, h⟩ := He.ba h
  obtain ⟨h4, h5⟩ := He.ba h
  exact ⟨by have := of_decide_eq_true h4; rw [sizeLine_eq]; exact this, h5, .inl ⟨d, h1, by simpa using h2, of_decide_eq_true h3, e, rfl⟩⟩
theorem ReprV.nat {K : PySem.W.Frag} {H : Hp} {i : Nat} (h : i ≤ 110) : ReprV K H (.int (i : Nat)) (PyData.int (i : Nat)).shown := by
  have all : ∀ j : Fin 111, ((PyData.int (j.val : Nat)).showable && (!(PyData.int (j.val : Nat)).hasDict && (decide ((PyData.int (j.val : Nat)).depth ≤ 64) && (decide ((PyData.int (j.val : Nat)).shown.length ≤ 16777216) && PyData.strOk (PyData.int (j.val : Nat)).shown)))) = true := by decide +kernel
  exact .of (.int _) (all ⟨i, by omega⟩)
theorem ReprV.dict {K : PySem.W.Frag} {H : Hp} {a : Addr} (h : H a = some (.dK [])) : ReprV K H (.ref a) "{}" := ⟨by rw [sizeLine_eq]; decide +kernel, by decide +kernel, .inr ⟨a, rfl, h, rfl⟩⟩
end Z
namespace Z
open PySem PySem.Spec PyProof.Rows L2
def top (i : Nat) : Stmt := PySem.Challenge.pw_seenframes_k07_histories_put_together.main.body.getD i (.Pass ⟨0, 0, 0, 0⟩)
def dd (x : Str) (i : Nat) (dfl : List He.Dv := []) : He.DefD := ⟨(x, none), x, x, defArgs (top i), defBody (top i), defScope (top i), dfl, []⟩
def dm (c m q : Str) (i j : Nat) (dfl : List He.Dv := []) : He.DefD := ⟨(c, some m), m, q, defArgs (inClass (top i) j), defBody (inClass (top i) j), defScope (inClass (top i) j), dfl, []⟩
def gd (c m q : Str) (i j : Nat) (cm : Bool := false) : GetD := ⟨c, m, q, defArgs (inClass (top i) j), defBody (inClass (top i) j), defScope (inClass (top i) j), cm⟩
def fn : List He.DefD := [dd "_law_pen" 24, dd "_law_draw" 25, dd "_law_pick" 26, dd "_law_name" 27, dd "_law_names" 28, dd "is_name" 11, dd "ascending" 12, dm "BadFrame" "__init__" "BadFrame.__init__" 5 0, dm "Frame" "__init__" "Frame.__init__" 17 0 [.non], dd "frame_key" 18, dm "Frame" "__lt__" "Frame.__lt__" 17 3, dm "Frame" "__le__" "Frame.__le__" 17 4, dm "Frame" "__gt__" "Frame.__gt__" 17 5, dm "Frame" "__ge__" "Frame.__ge__" 17 6, dm "Frame" "__eq__" "Frame.__eq__" 17 2, dm "Frame" "__str__" "Frame.__str__" 17 7, dm "BadText" "__init__" "BadText.__init__" 8 0, dd "words_in" 19, dd "hosts_told" 20, dm "TooMany" "__init__" "TooMany.__init__" 9 0, dm "History" "__init__" "History.__init__" 22 1, dd "frames_told" 21, dm "History" "__eq__" "History.__eq__" 22 9, dm "History" "__str__" "History.__str__" 22 15, dd "_law_pairs" 29, dd "_law_frame" 30, dd "_law_shown" 32, dm "BadIndex" "__init__" "BadIndex.__init__" 7 0, dd "is_whole" 14, dd "is_index" 15, dm "History" "without" "History.without" 22 12, dm "History" "upto" "History.upto" 22 14, dm "History" "swapped" "History.swapped" 22 13, dm "History" "__add__" "History.__add__" 22 10, dm "History" "__mul__" "History.__mul__" 22 11, dd "_law_heard" 34, dd "_law_made" 33, dd "_law_few" 35, dd "_law_is_index" 39, dd "_law_index" 38, dd "_law_joined_right" 36, dd "_law_times_right" 37, dd "_law_cuts_right" 40, dd "law" 41]
def fa : List He.Fa := [.free "list", .glo "_law_pen", .free "int", .free "len", .free "abs", .glo "_law_draw", .glo "_law_pick", .free "range", .glo "_law_name", .glo "_law_names", .free "str", .free "isinstance", .glo "is_name", .free "set", .free "sorted", .free "tuple", .glo "ascending", .glo "BadFrame", .glo "SeenError", .glo "Frame", .free "repr", .noat "BadFrame" "part", .exm "BadFrame" "SeenError" true, .cls "Frame", .mkr "Frame", .noat "Frame" "sender", .noat "Frame" "target", .meth "Frame" "__eq__", .meth "Frame" "__lt__", .meth "Frame" "__le__", .meth "Frame" "__gt__", .meth "Frame" "__ge__", .meth "Frame" "__str__", .glo "frame_key", .glo "BadText", .noat "BadText" "line", .noat "BadText" "word", .exm "BadText" "SeenError" true, .glo "words_in", .glo "hosts_told", .free "min", .glo "TooMany", .glo "History", .cls "History", .mkr "History", .noat "TooMany" "what", .noat "TooMany" "most", .exm "TooMany" "SeenError" true, .noat "History" "_frames", .noat "History" "hosts", .free "enumerate", .glo "frames_told", .glo "_law_pairs", .glo "_law_frame", .glo "_law_shown", .glo "BadIndex", .noat "BadIndex" "value", .exm "BadIndex" "SeenError" true, .meth "History" "__add__", .meth "History" "__mul__", .meth "History" "without", .meth "History" "swapped", .meth "History" "upto", .free "bool", .glo "is_whole", .glo "is_index", .glo "_law_heard", .glo "_law_made", .glo "_law_few", .glo "_law_is_index", .glo "_law_index", .glo "_law_joined_right", .glo "_law_times_right", .glo "_law_cuts_right", .glo "law"]
def tf : List He.Defn := [("_law_joined_right", none), ("_law_times_right", none), ("_law_cuts_right", none), ("law", none)]
def gs : List GetD := [gd "History" "frames" "History.frames" 22 2, gd "History" "read" "History.read" 22 4 true, gd "History" "of" "History.of" 22 3 true]
def exs : List (PySem.W.Frag → Bool) := [errB "BadFrame", clsB "Frame", errB "BadText", errB "TooMany", clsB "History", conB "History" "MOST" 60, errB "BadIndex", isN "TooMany" "BadIndex", isN "History" "Frame", opB "History" "add", opB "History" "mul", noOpB "History" "Frame" "add", tabN "_law_joined_right" "_law_times_right", tabN "_law_joined_right" "_law_cuts_right", tabN "_law_times_right" "_law_cuts_right"]
structure Ev (K : PySem.W.Frag) (mg : Str → Option Value) (base : Heap) : Prop where
  c : He.SaysD fa fn K
  X : K.In base
  G : base.Ns mainGlobals mg
  m : (exs.all fun f => f K) = true
  g : ∀ (i : Nat) (d : GetD), gs[i]? = some d → (d.cm = false → PropOf K (He.ga K d.c) d.f (prA K d.c d.f) (geA K d.c d.f)) ∧ (d.cm = true → CmOf K (He.ga K d.c) d.f (prA K d.c d.f) (geA K d.c d.f)) ∧ ∃ fd, FunD K d.f d.qual d.params d.body d.scope [] [] (geA K d.c d.f) fd
  tb : ∀ p ∈ tf.map (He.cT K), LamX.TabB base mg p.1 p.2
section
variable {K : PySem.W.Frag} {mg : Str → Option Value} {base : Heap}
theorem err_BadFrame (e : Ev K mg base) : ErrF K "BadFrame" := errB_ok (List.all_eq_true.mp e.m _ (List.mem_of_getElem? (l := exs) (i := 0) rfl))
theorem own_Frame (e : Ev K mg base) : ClsF K "Frame" := clsB_ok (List.all_eq_true.mp e.m _ (List.mem_of_getElem? (l := exs) (i := 1) rfl))
theorem err_BadText (e : Ev K mg base) : ErrF K "BadText" := errB_ok (List.all_eq_true.mp e.m _ (List.mem_of_getElem? (l := exs) (i := 2) rfl))
theorem err_TooMany (e : Ev K mg base) : ErrF K "TooMany" := errB_ok (List.all_eq_true.mp e.m _ (List.mem_of_getElem? (l := exs) (i := 3) rfl))
theorem own_History (e : Ev K mg base) : ClsF K "History" := clsB_ok (List.all_eq_true.mp e.m _ (List.mem_of_getElem? (l := exs) (i := 4) rfl))
theorem con_History_MOST (e : Ev K mg base) : ∃ u, Con K (He.ga K "History") "MOST" (.int 60) u := conB_ok (List.all_eq_true.mp e.m _ (List.mem_of_getElem? (l := exs) (i := 5) rfl))
theorem err_BadIndex (e : Ev K mg base) : ErrF K "BadIndex" := errB_ok (List.all_eq_true.mp e.m _ (List.mem_of_getElem? (l := exs) (i := 6) rfl))
theorem isn_TooMany_BadIndex (e : Ev K mg base) : PySem.W.kitOne K (.ref (He.ga K "TooMany")) (.ref (He.ga K "BadIndex")) = some false := of_decide_eq_true (List.all_eq_true.mp e.m _ (List.mem_of_getElem? (l := exs) (i := 7) rfl))
theorem isn_History_Frame (e : Ev K mg base) : PySem.W.kitOne K (.ref (He.ga K "History")) (.ref (He.ga K "Frame")) = some false := of_decide_eq_true (List.all_eq_true.mp e.m _ (List.mem_of_getElem? (l := exs) (i := 8) rfl))
theorem op_History_add (e : Ev K mg base) : OpF K "History" "add" := opB_ok (List.all_eq_true.mp e.m _ (List.mem_of_getElem? (l := exs) (i := 9) rfl))
theorem op_History_mul (e : Ev K mg base) : OpF K "History" "mul" := opB_ok (List.all_eq_true.mp e.m _ (List.mem_of_getElem? (l := exs) (i := 10) rfl))
theorem noop_History_Frame_add (e : Ev K mg base) {H : Hp} {b dx : Addr} {fs : List (Str × V)} (hb : H b = some (.ins (He.ga K "Frame") dx fs)) : RightOp K H (He.ga K "History") "add" (.ref b) := noOpB_ok (List.all_eq_true.mp e.m _ (List.mem_of_getElem? (l := exs) (i := 11) rfl)) hb
theorem tabn__law_joined_right__law_times_right (e : Ev K mg base) : (He.cT K ("_law_joined_right", none)).2 ≠ (He.cT K ("_law_times_right", none)).2 := of_decide_eq_true (List.all_eq_true.mp e.m _ (List.mem_of_getElem? (l := exs) (i := 12) rfl))
theorem tabn__law_joined_right__law_cuts_right (e : Ev K mg base) : (He.cT K ("_law_joined_right", none)).2 ≠ (He.cT K ("_law_cuts_right", none)).2 := of_decide_eq_true (List.all_eq_true.mp e.m _ (List.mem_of_getElem? (l := exs) (i := 13) rfl))
theorem tabn__law_times_right__law_cuts_right (e : Ev K mg base) : (He.cT K ("_law_times_right", none)).2 ≠ (He.cT K ("_law_cuts_right", none)).2 := of_decide_eq_true (List.all_eq_true.mp e.m _ (List.mem_of_getElem? (l := exs) (i := 14) rfl))
theorem f_list (e : Ev K mg base) : mg "list" = none := He.free_ok e.X e.G (e.c.fact 0 rfl)
theorem g_law_pen (e : Ev K mg base) : mg "_law_pen" = some (.ref (He.ga K "_law_pen")) := He.glo_ok e.X e.G (e.c.fact 1 rfl)
theorem f_int (e : Ev K mg base) : mg "int" = none := He.free_ok e.X e.G (e.c.fact 2 rfl)
theorem f_len (e : Ev K mg base) : mg "len" = none := He.free_ok e.X e.G (e.c.fact 3 rfl)
theorem f_abs (e : Ev K mg base) : mg "abs" = none := He.free_ok e.X e.G (e.c.fact 4 rfl)
theorem g_law_draw (e : Ev K mg base) : mg "_law_draw" = some (.ref (He.ga K "_law_draw")) := He.glo_ok e.X e.G (e.c.fact 5 rfl)
theorem g_law_pick (e : Ev K mg base) : mg "_law_pick" = some (.ref (He.ga K "_law_pick")) := He.glo_ok e.X e.G (e.c.fact 6 rfl)
theorem f_range (e : Ev K mg base) : mg "range" = none := He.free_ok e.X e.G (e.c.fact 7 rfl)
theorem g_law_name (e : Ev K mg base) : mg "_law_name" = some (.ref (He.ga K "_law_name")) := He.glo_ok e.X e.G (e.c.fact 8 rfl)
theorem g_law_names (e : Ev K mg base) : mg "_law_names" = some (.ref (He.ga K "_law_names")) := He.glo_ok e.X e.G (e.c.fact 9 rfl)
theorem f_str (e : Ev K mg base) : mg "str" = none := He.free_ok e.X e.G (e.c.fact 10 rfl)
theorem f_isinstance (e : Ev K mg base) : mg "isinstance" = none := He.free_ok e.X e.G (e.c.fact 11 rfl)
theorem g_is_name (e : Ev K mg base) : mg "is_name" = some (.ref (He.ga K "is_name")) := He.glo_ok e.X e.G (e.c.fact 12 rfl)
theorem f_set (e : Ev K mg base) : mg "set" = none := He.free_ok e.X e.G (e.c.fact 13 rfl)
theorem f_sorted (e : Ev K mg base) : mg "sorted" = none := He.free_ok e.X e.G (e.c.fact 14 rfl)
theorem f_tuple (e : Ev K mg base) : mg "tuple" = none := He.free_ok e.X e.G (e.c.fact 15 rfl)
theorem g_ascending (e : Ev K mg base) : mg "ascending" = some (.ref (He.ga K "ascending")) := He.glo_ok e.X e.G (e.c.fact 16 rfl)
theorem g_BadFrame (e : Ev K mg base) : mg "BadFrame" = some (.ref (He.ga K "BadFrame")) := He.glo_ok e.X e.G (e.c.fact 17 rfl)
theorem g_SeenError (e : Ev K mg base) : mg "SeenError" = some (.ref (He.ga K "SeenError")) := He.glo_ok e.X e.G (e.c.fact 18 rfl)
theorem g_Frame (e : Ev K mg base) : mg "Frame" = some (.ref (He.ga K "Frame")) := He.glo_ok e.X e.G (e.c.fact 19 rfl)
theorem f_repr (e : Ev K mg base) : mg "repr" = none := He.free_ok e.X e.G (e.c.fact 20 rfl)
theorem no_BadFrame_part (e : Ev K mg base) : NoAttr K (He.ga K "BadFrame") "part" := He.noat_ok (e.c.fact 21 rfl)
theorem exm_BadFrame_SeenError (e : Ev K mg base) : PySem.W.exmOne K (.ref (He.ga K "BadFrame")) (.ref (He.ga K "SeenError")) = some true := He.exm_ok (e.c.fact 22 rfl)
theorem cls_Frame (e : Ev K mg base) : Cls K (He.ga K "Frame") := He.cls_ok (e.c.fact 23 rfl)
theorem mk_Frame (e : Ev K mg base) : Mk K (He.ga K "Frame") (He.ma K (He.ga K "Frame") "__init__") := He.mkr_ok (e.c.fact 24 rfl)
theorem no_Frame_sender (e : Ev K mg base) : NoAttr K (He.ga K "Frame") "sender" := He.noat_ok (e.c.fact 25 rfl)
theorem no_Frame_target (e : Ev K mg base) : NoAttr K (He.ga K "Frame") "target" := He.noat_ok (e.c.fact 26 rfl)
theorem me_Frame___eq__ (e : Ev K mg base) : Meth K (He.ga K "Frame") "__eq__" (He.ma K (He.ga K "Frame") "__eq__") := He.meth_ok (e.c.fact 27 rfl)
theorem me_Frame___lt__ (e : Ev K mg base) : Meth K (He.ga K "Frame") "__lt__" (He.ma K (He.ga K "Frame") "__lt__") := He.meth_ok (e.c.fact 28 rfl)
theorem me_Frame___le__ (e : Ev K mg base) : Meth K (He.ga K "Frame") "__le__" (He.ma K (He.ga K "Frame") "__le__") := He.meth_ok (e.c.fact 29 rfl)
theorem me_Frame___gt__ (e : Ev K mg base) : Meth K (He.ga K "Frame") "__gt__" (He.ma K (He.ga K "Frame") "__gt__") := He.meth_ok (e.c.fact 30 rfl)
theorem me_Frame___ge__ (e : Ev K mg base) : Meth K (He.ga K "Frame") "__ge__" (He.ma K (He.ga K "Frame") "__ge__") := He.meth_ok (e.c.fact 31 rfl)
theorem me_Frame___str__ (e : Ev K mg base) : Meth K (He.ga K "Frame") "__str__" (He.ma K (He.ga K "Frame") "__str__") := He.meth_ok (e.c.fact 32 rfl)
theorem g_frame_key (e : Ev K mg base) : mg "frame_key" = some (.ref (He.ga K "frame_key")) := He.glo_ok e.X e.G (e.c.fact 33 rfl)
theorem g_BadText (e : Ev K mg base) : mg "BadText" = some (.ref (He.ga K "BadText")) := He.glo_ok e.X e.G (e.c.fact 34 rfl)
theorem no_BadText_line (e : Ev K mg base) : NoAttr K (He.ga K "BadText") "line" := He.noat_ok (e.c.fact 35 rfl)
theorem no_BadText_word (e : Ev K mg base) : NoAttr K (He.ga K "BadText") "word" := He.noat_ok (e.c.fact 36 rfl)
theorem exm_BadText_SeenError (e : Ev K mg base) : PySem.W.exmOne K (.ref (He.ga K "BadText")) (.ref (He.ga K "SeenError")) = some true := He.exm_ok (e.c.fact 37 rfl)
theorem g_words_in (e : Ev K mg base) : mg "words_in" = some (.ref (He.ga K "words_in")) := He.glo_ok e.X e.G (e.c.fact 38 rfl)
theorem g_hosts_told (e : Ev K mg base) : mg "hosts_told" = some (.ref (He.ga K "hosts_told")) := He.glo_ok e.X e.G (e.c.fact 39 rfl)
theorem f_min (e : Ev K mg base) : mg "min" = none := He.free_ok e.X e.G (e.c.fact 40 rfl)
theorem g_TooMany (e : Ev K mg base) : mg "TooMany" = some (.ref (He.ga K "TooMany")) := He.glo_ok e.X e.G (e.c.fact 41 rfl)
theorem g_History (e : Ev K mg base) : mg "History" = some (.ref (He.ga K "History")) := He.glo_ok e.X e.G (e.c.fact 42 rfl)
theorem cls_History (e : Ev K mg base) : Cls K (He.ga K "History") := He.cls_ok (e.c.fact 43 rfl)
theorem mk_History (e : Ev K mg base) : Mk K (He.ga K "History") (He.ma K (He.ga K "History") "__init__") := He.mkr_ok (e.c.fact 44 rfl)
theorem no_TooMany_what (e : Ev K mg base) : NoAttr K (He.ga K "TooMany") "what" := He.noat_ok (e.c.fact 45 rfl)
theorem no_TooMany_most (e : Ev K mg base) : NoAttr K (He.ga K "TooMany") "most" := He.noat_ok (e.c.fact 46 rfl)
theorem exm_TooMany_SeenError (e : Ev K mg base) : PySem.W.exmOne K (.ref (He.ga K "TooMany")) (.ref (He.ga K "SeenError")) = some true := He.exm_ok (e.c.fact 47 rfl)
theorem no_History__frames (e : Ev K mg base) : NoAttr K (He.ga K "History") "_frames" := He.noat_ok (e.c.fact 48 rfl)
theorem no_History_hosts (e : Ev K mg base) : NoAttr K (He.ga K "History") "hosts" := He.noat_ok (e.c.fact 49 rfl)
theorem f_enumerate (e : Ev K mg base) : mg "enumerate" = none := He.free_ok e.X e.G (e.c.fact 50 rfl)
theorem g_frames_told (e : Ev K mg base) : mg "frames_told" = some (.ref (He.ga K "frames_told")) := He.glo_ok e.X e.G (e.c.fact 51 rfl)
theorem g_law_pairs (e : Ev K mg base) : mg "_law_pairs" = some (.ref (He.ga K "_law_pairs")) := He.glo_ok e.X e.G (e.c.fact 52 rfl)
theorem g_law_frame (e : Ev K mg base) : mg "_law_frame" = some (.ref (He.ga K "_law_frame")) := He.glo_ok e.X e.G (e.c.fact 53 rfl)
theorem g_law_shown (e : Ev K mg base) : mg "_law_shown" = some (.ref (He.ga K "_law_shown")) := He.glo_ok e.X e.G (e.c.fact 54 rfl)
theorem g_BadIndex (e : Ev K mg base) : mg "BadIndex" = some (.ref (He.ga K "BadIndex")) := He.glo_ok e.X e.G (e.c.fact 55 rfl)
theorem no_BadIndex_value (e : Ev K mg base) : NoAttr K (He.ga K "BadIndex") "value" := He.noat_ok (e.c.fact 56 rfl)
theorem exm_BadIndex_SeenError (e : Ev K mg base) : PySem.W.exmOne K (.ref (He.ga K "BadIndex")) (.ref (He.ga K "SeenError")) = some true := He.exm_ok (e.c.fact 57 rfl)
theorem me_History___add__ (e : Ev K mg base) : Meth K (He.ga K "History") "__add__" (He.ma K (He.ga K "History") "__add__") := He.meth_ok (e.c.fact 58 rfl)
theorem me_History___mul__ (e : Ev K mg base) : Meth K (He.ga K "History") "__mul__" (He.ma K (He.ga K "History") "__mul__") := He.meth_ok (e.c.fact 59 rfl)
theorem me_History_without (e : Ev K mg base) : Meth K (He.ga K "History") "without" (He.ma K (He.ga K "History") "without") := He.meth_ok (e.c.fact 60 rfl)
theorem me_History_swapped (e : Ev K mg base) : Meth K (He.ga K "History") "swapped" (He.ma K (He.ga K "History") "swapped") := He.meth_ok (e.c.fact 61 rfl)
theorem me_History_upto (e : Ev K mg base) : Meth K (He.ga K "History") "upto" (He.ma K (He.ga K "History") "upto") := He.meth_ok (e.c.fact 62 rfl)
theorem f_bool (e : Ev K mg base) : mg "bool" = none := He.free_ok e.X e.G (e.c.fact 63 rfl)
theorem g_is_whole (e : Ev K mg base) : mg "is_whole" = some (.ref (He.ga K "is_whole")) := He.glo_ok e.X e.G (e.c.fact 64 rfl)
theorem g_is_index (e : Ev K mg base) : mg "is_index" = some (.ref (He.ga K "is_index")) := He.glo_ok e.X e.G (e.c.fact 65 rfl)
theorem g_law_heard (e : Ev K mg base) : mg "_law_heard" = some (.ref (He.ga K "_law_heard")) := He.glo_ok e.X e.G (e.c.fact 66 rfl)
theorem g_law_made (e : Ev K mg base) : mg "_law_made" = some (.ref (He.ga K "_law_made")) := He.glo_ok e.X e.G (e.c.fact 67 rfl)
theorem g_law_few (e : Ev K mg base) : mg "_law_few" = some (.ref (He.ga K "_law_few")) := He.glo_ok e.X e.G (e.c.fact 68 rfl)
theorem g_law_is_index (e : Ev K mg base) : mg "_law_is_index" = some (.ref (He.ga K "_law_is_index")) := He.glo_ok e.X e.G (e.c.fact 69 rfl)
theorem g_law_index (e : Ev K mg base) : mg "_law_index" = some (.ref (He.ga K "_law_index")) := He.glo_ok e.X e.G (e.c.fact 70 rfl)
theorem g_law_joined_right (e : Ev K mg base) : mg "_law_joined_right" = some (.ref (He.ga K "_law_joined_right")) := He.glo_ok e.X e.G (e.c.fact 71 rfl)
theorem g_law_times_right (e : Ev K mg base) : mg "_law_times_right" = some (.ref (He.ga K "_law_times_right")) := He.glo_ok e.X e.G (e.c.fact 72 rfl)
theorem g_law_cuts_right (e : Ev K mg base) : mg "_law_cuts_right" = some (.ref (He.ga K "_law_cuts_right")) := He.glo_ok e.X e.G (e.c.fact 73 rfl)
theorem g_law (e : Ev K mg base) : mg "law" = some (.ref (He.ga K "law")) := He.glo_ok e.X e.G (e.c.fact 74 rfl)
end
section
variable {P : Program} {w : World} {K : PySem.W.Frag} {mg : Str → Option Value} {base : Heap}
theorem sc_law_pen : FnScope ["script"] ["script"] (defScope (top 24)) := ⟨rfl, rfl, rfl, by decide +kernel, rfl, by decide +kernel, by decide +kernel⟩
theorem ok_law_pen {fd : FuncData} (F : FunD K "_law_pen" "_law_pen" (defArgs (top 24)) (defBody (top 24)) (defScope (top 24)) [] [] (He.ga K "_law_pen") fd) (e : Ev K mg base) : FnOk P w K mg base CX0 1 (He.ga K "_law_pen") fd ["script"] (spPen K) := by
  refine F.ok sc_law_pen (fun vs H Q E h => ?_) (fun cdv A outer s H vs Q E hr h => ?_)
  · obtain ⟨_, _, rfl, _⟩ := h
    rfl
  · skip
    refine ⟨_, PSs.nox ((pss_one (ps_ret (pe_lst (pa_cons (pe_callTy (kcall_list_of (K := K)) (by rfl) (f_list e) (by decide +kernel) (pa_cons (pe_slice (ksl_list (K := K)) (pv 0) po_none (po_some pe_int)) pa_nil)) (pa_cons pe_int (pa_cons pe_int pa_nil))))))), ?_⟩
    obtain ⟨a, ns, rfl, hS, hl, k⟩ := h
    refine ⟨_, rfl, 63, rfl, a, _, rfl, hS, fun q hq => ?_⟩
    refine ⟨q, _, rfl, .inl (SqL.of upd_same), fun c hc => ?_⟩
    refine ⟨by show 3 ≤ sizeLine; decide, fun p hp => ?_⟩
    have n1 : c ≠ q := fun e => by rw [e, upd_same] at hc; cases hc
    have hc0 : H c = none := by rw [upd_ne n1] at hc; exact hc
    have n2 : p ≠ c := fun e => by rw [e, upd_same] at hp; cases hp
    rw [upd_ne n2] at hp
    have n3 : p ≠ q := fun e => by rw [e, upd_same] at hp; cases hp
    rw [upd_ne n3] at hp
    have e : ∃ ms : List Int, cutV (ns.map V.int) none (some 63) = ms.map V.int ∧ ms.length ≤ 63 := by
      unfold cutV
      refine ⟨(ns.drop _).take _, by rw [List.map_take, List.map_drop], ?_⟩
      rw [List.length_take, List.length_drop]
      omega
    obtain ⟨ms, e1, e2⟩ := e
    refine k _ p c ms (fun b o h => ?_) hp hc0 n2 e2 ⟨upd_same, ?_⟩
    · rw [upd_ne (ne_of_none h hp), upd_ne (ne_of_none h hc0), upd_ne (ne_of_none h hq)]
      exact h
    · rw [upd_ne n2.symm, upd_same, e1]
theorem d_law_pen (e : Ev K mg base) : DefN P w K mg base 1 "_law_pen" ["script"] (spPen K) := by
  obtain ⟨fd, F⟩ := e.c.def_ 0 (d := dd "_law_pen" 24) rfl
  exact ⟨⟨fd, ok_law_pen F e, FunD.bindsN F fun _ _ _ _ _ _ us hl => match us, hl with | [_], _ => rfl⟩, F.kp, He.glo_ok e.X e.G (e.c.fact 1 rfl)⟩
theorem sc_law_draw : FnScope ["pen", "many", "digit", "turn", "cell", "great", "mixed"] ["pen", "many"] (defScope (top 25)) := ⟨rfl, rfl, rfl, by decide +kernel, rfl, by decide +kernel, by decide +kernel⟩
theorem ok_law_draw {fd : FuncData} (F : FunD K "_law_draw" "_law_draw" (defArgs (top 25)) (defBody (top 25)) (defScope (top 25)) [] [] (He.ga K "_law_draw") fd) (e : Ev K mg base) : FnOk P w K mg base CX0 1 (He.ga K "_law_draw") fd ["pen", "many"] (spDraw) := by
  refine F.ok sc_law_draw (fun vs H Q E h => ?_) (fun cdv A outer s H vs Q E hr h => ?_)
  · obtain ⟨_, _, _, _, _, _, rfl, _⟩ := h
    rfl
  · skip
    refine ⟨_, PSs.nox ((pss_cons (ps_if (pt_cmpR op_gt (pe_ix (kix_list (K := K)) (pv 0) pe_int (fun _ _ => rfl)) pe_int (nomark _))
      (pss_cons (ps_set (i := 2) sc_law_draw.nd rfl (Or.inl rfl) (pe_op op_modN (pe_callTy call_int1 (by rfl) (f_int e) (by decide +kernel) (pa_cons (pe_ix (kix_list (K := K)) (pv 0) pe_int (fun _ _ => rfl)) pa_nil)) (pv 1)))
      (pss_cons (ps_asg (pe_op op_fdivN (pe_callTy call_int1 (by rfl) (f_int e) (by decide +kernel) (pa_cons (pe_ix (kix_list (K := K)) (pv 0) pe_int (fun _ _ => rfl)) pa_nil)) (pv 1)) (pg_sub (pv 0) pe_int set_list))
      (pss_one (ps_ret (pv 2))))) pss_nil)
      (pss_cons (ps_set (i := 3) sc_law_draw.nd rfl (Or.inl rfl) (pe_ix (kix_list (K := K)) (pv 0) pe_int (fun _ _ => rfl)))
      (pss_cons (ps_asg (pe_op op_add (pv 3) pe_int) (pg_sub (pv 0) pe_int set_list))
      (pss_cons (ps_set (i := 4) sc_law_draw.nd rfl (Or.inl rfl) (pe_op op_add (pe_op op_mul pe_int (pv 3)) pe_int))
      (C8.pss_cut (ps_if (pt_cmpR (kop_neD (K := K) hr.units) (pe_ix (kix_list (K := K)) (pv 0) pe_int (fun _ _ => rfl)) (pe_lst pa_nil) (nomark _))
      (pss_one (ps_set (i := 4) sc_law_draw.nd rfl (Or.inl rfl) (pe_ix (kix_list (K := K)) (pe_ix (kix_list (K := K)) (pv 0) pe_int (fun _ _ => rfl)) (pe_op op_modN (pe_callTy call_int1 (by rfl) (f_int e) (by decide +kernel) (pa_cons (pv 3) pa_nil)) (pe_callB (kcall_len_seq (K := K)) (by rfl) (f_len e) (by decide +kernel) (pa_cons (pe_ix (kix_list (K := K)) (pv 0) pe_int (fun _ _ => rfl)) pa_nil))) (fun _ _ => rfl)))) pss_nil)
      (C8.pss_cut (ps_if (PW.pt (pw_and (pt_cmpR op_lt (pv 3) (pe_callB (kcall_len_seq (K := K)) (by rfl) (f_len e) (by decide +kernel) (pa_cons (pe_ix (kix_list (K := K)) (pv 0) pe_int (fun _ _ => rfl)) pa_nil)) (nomark _)) (pw_and1 (pt_cmpR op_ge (pe_callB call_abs (by rfl) (f_abs e) (by decide +kernel) (pa_cons (pv 4) pa_nil)) (pe_op op_pow pe_int pe_int) (nomark _)))))
      (pss_cons (ps_set (i := 5) sc_law_draw.nd rfl (Or.inl rfl) (pe_op op_add (pe_op op_mul pe_int (pe_op op_sub (pe_callB call_abs (by rfl) (f_abs e) (by decide +kernel) (pa_cons (pv 4) pa_nil)) (pe_op op_pow pe_int pe_int))) (pe_callTy call_int1 (by rfl) (f_int e) (by decide +kernel) (pa_cons (pe_cmpR op_lt (pv 4) pe_int (nomark _)) pa_nil))))
      (pss_cons (ps_asg (pe_op op_fdivN (pe_callTy call_int1 (by rfl) (f_int e) (by decide +kernel) (pa_cons (pv 5) pa_nil)) (pv 1)) (pg_sub (pv 0) pe_int set_list))
      (pss_one (ps_ret (pe_op op_modN (pe_callTy call_int1 (by rfl) (f_int e) (by decide +kernel) (pa_cons (pv 5) pa_nil)) (pv 1)))))) pss_nil)
      (pss_cons (ps_set (i := 6) sc_law_draw.nd rfl (Or.inl rfl) (pe_op op_modN (pe_callTy call_int1 (by rfl) (f_int e) (by decide +kernel) (pa_cons (pe_op op_pow (pe_op op_add (pe_op op_add (pe_op op_modN (pe_callTy call_int1 (by rfl) (f_int e) (by decide +kernel) (pa_cons (pv 4) pa_nil)) pe_int) (pe_op op_mul pe_int (pv 3))) pe_int) pe_int) pa_nil)) pe_int))
      (pss_cons (ps_set (i := 6) sc_law_draw.nd rfl (Or.inl rfl) (pe_op op_modN (pe_callTy call_int1 (by rfl) (f_int e) (by decide +kernel) (pa_cons (pe_op op_pow (pe_op op_add (pe_op op_add (pe_op op_mul (pv 6) (pe_op op_add (pe_op op_mul pe_int (pv 3)) pe_int)) (pe_op op_mul (pe_op op_mul pe_int (pv 3)) (pv 3))) pe_int) pe_int) pa_nil)) pe_int))
      (pss_one (ps_ret (pe_op op_modN (pe_callTy call_int1 (by rfl) (f_int e) (by decide +kernel) (pa_cons (pe_op op_fdivN (pv 6) pe_int) pa_nil)) (pv 1))))))))))))), ?_⟩
    obtain ⟨p, c, ms, t, z, m, rfl, hP, ht, hm, hm2, k⟩ := h
    have i0 : atI [V.ref c, V.int t, V.int z] 0 = some (.ref c) := rfl
    have i1 : atI [V.ref c, V.int t, V.int z] 1 = some (.int t) := rfl
    have i2 : atI [V.ref c, V.int t, V.int z] 2 = some (.int z) := rfl
    -- pen[2] > 0
    refine ⟨_, rfl, p, _, _, _, rfl, rfl, SqL.of hP.a, i2, _, _, rfl, rfl, _, rfl, ?_⟩
    have npc : p ≠ c := ne_of hP.a hP.b (by intro e; injection e with e; cases ms with | nil => cases e | cons x r => cases e)
    refine ite2 (fun _ => ?_) fun _ => ?_
    · refine ⟨_, rfl, p, _, _, _, rfl, rfl, SqL.of hP.a, i2, .inl ⟨_, rfl, ?_⟩⟩
      refine ⟨_, rfl, _, _, rfl, rfl, by omega, ?_⟩
      refine ⟨_, rfl, p, _, _, _, rfl, rfl, SqL.of hP.a, i2, .inl ⟨_, rfl, ?_⟩⟩
      refine ⟨_, rfl, _, _, rfl, rfl, ⟨by omega, by omega⟩, ?_⟩
      refine ⟨_, rfl, p, _, _, 2, rfl, rfl, hP.a, rfl, ?_⟩
      refine ⟨_, rfl, ?_⟩
      obtain ⟨a1, a2⟩ := mod_lo z hm
      exact k _ _ t _ a1 a2 (fun b o n h => by rw [upd_ne n]; exact h) ⟨upd_same, by rw [upd_ne npc.symm]; exact hP.b⟩ (Nat.le_succ _)
    · -- turn = pen[1]; pen[1] = turn + 1; cell = ..
      refine ⟨_, rfl, p, _, _, _, rfl, rfl, SqL.of hP.a, i1, ?_⟩
      refine ⟨_, rfl, _, _, rfl, rfl, _, rfl, p, _, _, 1, rfl, rfl, hP.a, rfl, ?_⟩
      refine ⟨_, rfl, _, _, rfl, rfl, .inl ⟨by decide, by decide⟩, _, _, rfl, rfl, ?_⟩
      -- the rows behind the if: once, for any cell
      have hb1 : (upd H p (.lst [.ref c, .int ((t : Int) + 1), .int z])) c = some (.lst (ms.map .int)) := by rw [upd_ne npc.symm]; exact hP.b
      refine ⟨fun σ' H' => ∃ cell : Int, σ' = [some (.ref p), some (.int m), none, some (.int t), some (.int cell), none, none] ∧ But p H H' ∧ Pen H' p c ms (t + 1) z, ?_, ?_⟩
      · refine ⟨_, rfl, p, _, _, .ref c, rfl, rfl, SqL.of upd_same, rfl, ?_⟩
        refine ⟨by show 0 ≤ sizeLine; decide, fun q hq => ?_⟩
        have hpq : p ≠ q := ne_of_none upd_same hq
        have hcq : c ≠ q := ne_of_none hb1 hq
        have P2 : Pen (upd (upd H p (.lst [.ref c, .int ((t : Int) + 1), .int z])) q (.lst [])) p c ms (t + 1) z := ⟨by rw [upd_ne hpq, upd_same]; rfl, by rw [upd_ne hcq]; exact hb1⟩
        have B2 : But p H (upd (upd H p (.lst [.ref c, .int ((t : Int) + 1), .int z])) q (.lst [])) := fun b o n h => by
          have h1 : (upd H p (.lst [.ref c, .int ((t : Int) + 1), .int z])) b = some o := by rw [upd_ne n]; exact h
          rw [upd_ne (ne_of_none h1 hq)]
          exact h1
        refine ⟨.list (ms.map .int), .list [], .lst (SqL.of P2.b) (dp_ints ms), .lst (SqL.of upd_same) .nil, shaped_ints ms, by decide +kernel, _, rfl, ?_⟩
        rw [eqv_nil]
        cases ems : ms.isEmpty with
        | true => exact iteF ⟨_, rfl, B2, P2⟩
        | false =>
          refine iteT ?_
          have hl0 : 0 < ms.length := by cases ms with | nil => cases ems | cons x r => exact Nat.succ_pos _
          have hl1 : (0 : Int) < ((ms.map V.int).length : Int) := by rw [List.length_map]; omega
          have hl2 := mod_lo (t : Int) (m := ((ms.map V.int).length : Int)) (by omega)
          have hix : ∃ y, atI (ms.map V.int) ((t : Int).fmod ((ms.map V.int).length : Int)) = some (V.int y) := by
            obtain ⟨j, hj⟩ : ∃ j : Nat, (t : Int).fmod ((ms.map V.int).length : Int) = (j : Int) := ⟨_, (Int.toNat_of_nonneg hl2.1).symm⟩
            rw [hj]
            have hjl : j < ms.length := by
              have e9 : (ms.map V.int).length = ms.length := List.length_map ..
              omega
            exact ⟨ms[j], atI_nat (by rw [List.getElem?_map, List.getElem?_eq_getElem hjl]; rfl)⟩
          obtain ⟨y, hy⟩ := hix
          refine ⟨_, rfl, p, _, _, .ref c, rfl, rfl, SqL.of P2.a, rfl, ?_⟩
          refine ⟨_, rfl, .inl ⟨_, rfl, ?_⟩⟩
          refine ⟨_, rfl, p, _, _, .ref c, rfl, rfl, SqL.of P2.a, rfl, ?_⟩
          refine ⟨c, _, rfl, .inl (SqL.of P2.b), ?_⟩
          refine ⟨_, _, rfl, rfl, by omega, ?_⟩
          refine ⟨c, _, _, _, rfl, rfl, SqL.of P2.b, hy, ?_⟩
          exact ⟨y, rfl, B2, P2⟩
      · rintro σ' H' ⟨cell, rfl, B2, P2⟩
        refine ⟨fun σ'' H'' => σ'' = [some (.ref p), some (.int m), none, some (.int t), some (.int cell), none, none] ∧ H'' = H', ?_, ?_⟩
        · refine ⟨_, rfl, _, rfl, p, _, _, .ref c, rfl, rfl, SqL.of P2.a, rfl, c, _, rfl, .inl (SqL.of P2.b), _, _, rfl, rfl, _, rfl, ?_⟩
          refine ite2 (fun h1 => ?_) fun h1 => iteF ⟨rfl, rfl⟩
          refine ⟨_, rfl, _, rfl, _, _, rfl, rfl, ⟨by decide, by decide, by decide⟩, _, _, rfl, rfl, _, rfl, ?_⟩
          refine ite2 (fun h2 => ?_) fun h2 => ⟨rfl, rfl⟩
          refine ⟨_, rfl, _, rfl, _, _, rfl, rfl, ⟨by decide, by decide, by decide⟩, _, _, rfl, rfl, ?_⟩
          refine ⟨_, _, rfl, rfl, .inl ⟨by decide, by decide⟩, _, rfl, _, _, rfl, rfl, .inr ⟨_, rfl, ?_⟩⟩
          refine ⟨_, _, rfl, rfl, ?_⟩
          refine ⟨_, rfl, .inl ⟨_, rfl, _, rfl, _, _, rfl, rfl, ⟨by omega, by omega⟩, ?_⟩⟩
          refine ⟨_, rfl, p, _, _, 2, rfl, rfl, P2.a, rfl, ?_⟩
          refine ⟨_, rfl, .inl ⟨_, rfl, _, rfl, _, _, rfl, rfl, by omega, ?_⟩⟩
          obtain ⟨a1, a2⟩ := mod_lo (2 * ((if cell < 0 then -cell else cell) - 10 ^ (18 : Int).toNat) + (if decide (cell < 0) = true then 1 else 0)) hm
          exact k _ _ (t + 1) _ a1 a2 (fun b o n h => by rw [upd_ne n]; exact B2 b o n h) ⟨upd_same, by rw [upd_ne npc.symm]; exact P2.b⟩ (Nat.le_refl _)
        · rintro σ'' H'' ⟨rfl, rfl⟩
          have m1 := mod_lo cell (m := 2147483629) (by decide)
          refine ⟨_, rfl, .inl ⟨_, rfl, _, _, rfl, rfl, (by show (_ : Int) ≠ 0; decide), ?_⟩⟩
          refine ⟨_, rfl, _, _, rfl, rfl, .inl ⟨by decide, by decide⟩, _, _, rfl, rfl, _, _, rfl, rfl, ?_⟩
          refine ⟨_, _, rfl, rfl, ⟨by decide, by decide, ?_⟩, .inl ⟨_, rfl, _, _, rfl, rfl, (by show (_ : Int) ≠ 0; decide), ?_⟩⟩
          · show (cell.fmod 2147483629 + 53780 * (t : Int) + 302).natAbs < 2 ^ 64
            omega
          generalize hmx : ((cell.fmod 2147483629 + 53780 * (t : Int) + 302) ^ (5 : Int).toNat) = big
          have m2 := mod_lo big (m := 2147483587) (by decide)
          generalize hmy : big.fmod 2147483587 = b2 at m2
          have hmul : 0 ≤ b2 * (2 * (t : Int) + 181) ∧ b2 * (2 * (t : Int) + 181) ≤ 2147483587 * (2000000 + 181) := ⟨Int.mul_nonneg m2.1 (by omega), Int.mul_le_mul (by omega) (by omega) (by omega) (by decide)⟩
          have hsq : 0 ≤ 61708 * (t : Int) * (t : Int) ∧ 61708 * (t : Int) * (t : Int) ≤ 61708 * 1000000 * 1000000 := ⟨Int.mul_nonneg (by omega) (by omega), Int.mul_le_mul (by omega) (by omega) (by omega) (by decide)⟩
          refine ⟨_, rfl, _, rfl, _, _, rfl, rfl, .inl ⟨by decide, by decide⟩, _, _, rfl, rfl, _, _, rfl, rfl, .inl ⟨?_, ?_⟩, ?_⟩
          · show -(2 ^ 64) < big.fmod 2147483587
            omega
          · show big.fmod 2147483587 < 2 ^ 64
            omega
          refine ⟨_, rfl, _, _, rfl, rfl, .inl ⟨by decide, by decide⟩, _, rfl, _, _, rfl, rfl, .inl ⟨?_, ?_⟩, _, _, rfl, rfl, _, _, rfl, rfl, ?_⟩
          · show -(2 ^ 64) < 61708 * (t : Int)
            omega
          · show 61708 * (t : Int) < 2 ^ 64
            omega
          refine ⟨_, _, rfl, rfl, ⟨by decide, by decide, ?_⟩, .inl ⟨_, rfl, _, _, rfl, rfl, (by show (_ : Int) ≠ 0; decide), ?_⟩⟩
          · show (big.fmod 2147483587 * (2 * (t : Int) + 181) + 61708 * (t : Int) * (t : Int) + 80).natAbs < 2 ^ 64
            rw [hmy]
            omega
          refine ⟨_, rfl, _, _, rfl, rfl, ⟨by show (_ : Int) ≠ 0; decide, by decide⟩, .inl ⟨_, rfl, _, rfl, _, _, rfl, rfl, by omega, ?_⟩⟩
          obtain ⟨a1, a2⟩ := mod_lo (Int.fdiv (((big.fmod 2147483587 * (2 * (t : Int) + 181) + 61708 * (t : Int) * (t : Int) + 80) ^ (3 : Int).toNat).fmod 2147483579) 32) hm
          exact k _ _ (t + 1) z a1 a2 B2 P2 (Nat.le_refl _)
theorem d_law_draw (e : Ev K mg base) : DefN P w K mg base 1 "_law_draw" ["pen", "many"] (spDraw) := by
  obtain ⟨fd, F⟩ := e.c.def_ 1 (d := dd "_law_draw" 25) rfl
  exact ⟨⟨fd, ok_law_draw F e, FunD.bindsN F fun _ _ _ _ _ _ us hl => match us, hl with | [_, _], _ => rfl⟩, F.kp, He.glo_ok e.X e.G (e.c.fact 5 rfl)⟩
theorem sc_law_pick : FnScope ["pen", "some"] ["pen", "some"] (defScope (top 26)) := ⟨rfl, rfl, rfl, by decide +kernel, rfl, by decide +kernel, by decide +kernel⟩
theorem ok_law_pick {fd : FuncData} (F : FunD K "_law_pick" "_law_pick" (defArgs (top 26)) (defBody (top 26)) (defScope (top 26)) [] [] (He.ga K "_law_pick") fd) (e : Ev K mg base) : FnOk P w K mg base CX0 2 (He.ga K "_law_pick") fd ["pen", "some"] (spPick K) := by
  refine F.ok sc_law_pick (fun vs H Q E h => ?_) (fun cdv A outer s H vs Q E hr h => ?_)
  · obtain ⟨_, _, _, _, _, _, _, rfl, _⟩ := h
    rfl
  · skip
    refine ⟨_, PSs.nox ((pss_one (ps_ret (pe_ix (kix_list (K := K)) (pv 1) (pe_def (d_law_draw (P := P) (w := w) (K := K) (mg := mg) (base := base) e) (hr.mono (by decide)) (by rfl) (pa_cons (pv 0) (pa_cons (pe_callB (kcall_len_seq (K := K)) (by rfl) (f_len e) (by decide +kernel) (pa_cons (pv 1) pa_nil)) pa_nil))) (fun _ _ => rfl))))), ?_⟩
    obtain ⟨p, c, a, ms, t, z, xs, rfl, hP, ht, hS, nap, hx, hx2, k⟩ := h
    have hpos : 0 < xs.length := List.length_pos_iff.mpr hx
    refine ⟨_, rfl, _, rfl, _, rfl, a, _, rfl, .inl hS, p, c, ms, t, z, _, rfl, hP, ht, by omega, by omega, fun d H' t' z' h0 h1 hb hP' ht' => ?_⟩
    obtain ⟨j, rfl⟩ : ∃ j : Nat, d = (j : Int) := ⟨_, (Int.toNat_of_nonneg h0).symm⟩
    have hj : j < xs.length := by omega
    exact ⟨a, xs, _, xs[j], rfl, rfl, hb.seq nap hS, atI_nat (List.getElem?_eq_getElem hj), k _ H' t' z' (List.getElem_mem hj) hb hP' ht'⟩
theorem d_law_pick (e : Ev K mg base) : DefN P w K mg base 2 "_law_pick" ["pen", "some"] (spPick K) := by
  obtain ⟨fd, F⟩ := e.c.def_ 2 (d := dd "_law_pick" 26) rfl
  exact ⟨⟨fd, ok_law_pick F e, FunD.bindsN F fun _ _ _ _ _ _ us hl => match us, hl with | [_, _], _ => rfl⟩, F.kp, He.glo_ok e.X e.G (e.c.fact 6 rfl)⟩
theorem sc_law_name : FnScope ["pen", "signs", "size", "k"] ["pen"] (defScope (top 27)) := ⟨rfl, rfl, rfl, by decide +kernel, rfl, by decide +kernel, by decide +kernel⟩
theorem ok_law_name {fd : FuncData} (F : FunD K "_law_name" "_law_name" (defArgs (top 27)) (defBody (top 27)) (defScope (top 27)) [] [] (He.ga K "_law_name") fd) (e : Ev K mg base) : FnOk P w K mg base CX0 3 (He.ga K "_law_name") fd ["pen"] (spName) := by
  refine F.ok sc_law_name (fun vs H Q E h => ?_) (fun cdv A outer s H vs Q E hr h => ?_)
  · obtain ⟨_, _, _, _, _, rfl, _⟩ := h
    rfl
  · skip
    refine ⟨_, PSs.nox ((pss_cons (ps_set (i := 1) sc_law_name.nd rfl (Or.inr rfl) pe_str)
      (pss_cons (ps_set (i := 2) sc_law_name.nd rfl (Or.inl rfl) (pe_op op_add pe_int (pe_def (d_law_draw (P := P) (w := w) (K := K) (mg := mg) (base := base) e) (hr.mono (by decide)) (by rfl) (pa_cons (pv 0) (pa_cons (pe_def (d_law_pick (P := P) (w := w) (K := K) (mg := mg) (base := base) e) (hr.mono (by decide)) (by rfl) (pa_cons (pv 0) (pa_cons (pe_lst (pa_cons pe_int (pa_cons pe_int (pa_cons pe_int (pa_cons pe_int pa_nil))))) pa_nil))) pa_nil)))))
      (pss_one (ps_ret (kpe_join (K := K) pe_str (pe_lc (own := [("k", 3)]) (by rfl) sc_law_name.nd (pi_range1 (by rfl) (f_range e) (pa_cons (pv 2) pa_nil)) (blkOk_by (own := [("k", 3)]) (N := ["pen", "signs", "size", "k"]) (sc := defScope (top 27)) (by decide +kernel)) (fun _ _ _ _ _ => (pg_name (i := 3) sc_law_name.nd rfl (Or.inl rfl))) (fun _ _ _ _ _ => pts_nil) (fun _ _ _ _ _ => (pe_ix ix_str (pv 1) (pe_def (d_law_draw (P := P) (w := w) (K := K) (mg := mg) (base := base) e) (hr.mono (by decide)) (by rfl) (pa_cons (pv 0) (pa_cons pe_int pa_nil))) (fun _ _ => rfl)))))))))), ?_⟩
    obtain ⟨p, c, ms, t, z, rfl, hP, ht, k⟩ := h
    refine ⟨_, rfl, _, rfl, (by show 4 ≤ sizeLine; decide), fun l hl => ?_⟩
    have P1 := hP.same (same_new (o := .lst [.int 1, .int 1, .int 2, .int 8]) hl)
    refine ⟨p, c, l, ms, t, z, _, rfl, P1, by omega, SqL.of upd_same, (ne_of_none hP.a hl).symm, by simp, by decide, fun x H1 t1 z1 hx b1 P2 ht1 => ?_⟩
    obtain ⟨m, rfl, hm1, hm2⟩ : ∃ m : Int, x = .int m ∧ 1 ≤ m ∧ m ≤ 8 := by
      simp at hx
      rcases hx with rfl | rfl | rfl <;> exact ⟨_, rfl, by decide, by decide⟩
    refine ⟨p, c, ms, t1, z1, m, rfl, P2, by omega, hm1, by omega, fun d H2 t2 z2 h0 h1 b2 P3 ht2 => ?_⟩
    refine ⟨_, _, rfl, rfl, ?_⟩
    have b4 : But p H H2 := ((Same.but (same_new hl)).trans b1).trans b2
    refine ⟨⟨_, rfl⟩, _, rfl, _, rfl, by show -(2 ^ 62) ≤ 1 + d; omega, by show 1 + d < 2 ^ 62; omega, fun D hD => ?_⟩
    have npD : p ≠ D := ne_of_none P3.a hD
    have ncD : c ≠ D := ne_of_none P3.b hD
    have hD0 : H D = none := b4.free npD.symm hD
    refine lc_range (lo := 0) (n := (1 + d).toNat) (fun i H' => ∃ (cs : List Nat) (t' : Nat) (z' : Int), cs.length = i ∧ (∀ x ∈ cs, 97 ≤ x ∧ x ≤ 122) ∧ H' D = some (.lst ((cs.map sg).map V.str)) ∧ But p H H' ∧ Pen H' p c ms t' z' ∧ t' ≤ t2 + i)
      ⟨[], t2, z2, rfl, by simp, upd_same, b4.upn hD0, P3.same (same_new hD), by omega⟩ ?_ ?_
    · rintro i H3 hi ⟨cs, t3, z3, hl3, haz, hD3, b3, P4, ht3⟩
      refine ⟨rfl, ?_⟩
      refine ⟨_, rfl, _, rfl, p, c, ms, t3, z3, 26, rfl, P4, by omega, by decide, by decide, fun d' H4 t4 z4 h0' h1' b5 P5 ht4 => ?_⟩
      obtain ⟨j, rfl⟩ : ∃ j : Nat, d' = (j : Int) := ⟨_, (Int.toNat_of_nonneg h0').symm⟩
      have hD4 := b5 _ _ npD.symm hD3
      refine ⟨_, _, 97 + j, rfl, rfl, by decide +kernel, atI_nat (letters_at (by omega)), _, hD4, small1000 (by simp; omega), cs ++ [97 + j], t4, z4, by simp [hl3], fun x hx => ?_, ?_, (b3.trans b5).upn hD0, ⟨by rw [upd_ne npD]; exact P5.a, by rw [upd_ne ncD]; exact P5.b⟩, by omega⟩
      · rcases List.mem_append.mp hx with h | h
        · exact haz x h
        · simp at h
          omega
      · rw [upd_same]
        simp [sg]
    · rintro H3 ⟨cs, t3, z3, hl3, haz, hD3, b3, P4, ht3⟩
      refine ⟨_, D, cs.map sg, rfl, rfl, .inl (SqL.of hD3), ?_, ?_⟩
      · have e1 : ((cs.map sg).map (·.length)).sum = cs.length := by
          clear hl3 haz hD3
          induction cs with
          | nil => rfl
          | cons a r ih => simp only [List.map_cons, List.sum_cons, ih, List.length_cons]; show 1 + _ = _; omega
        have e2 : (Str.ofString "").length = 0 := by decide +kernel
        rw [e1, e2]
        omega
      · have ec := join_signs cs
        have el : (Txt.join (Str.ofString "") (cs.map sg)).length = cs.length := by rw [TL.len_tl]; exact congrArg List.length ec
        exact k _ H3 t3 z3 ⟨by omega, by omega, fun x hx => haz x (by rw [← ec]; exact hx)⟩ b3 P4 (by omega)
theorem d_law_name (e : Ev K mg base) : DefN P w K mg base 3 "_law_name" ["pen"] (spName) := by
  obtain ⟨fd, F⟩ := e.c.def_ 3 (d := dd "_law_name" 27) rfl
  exact ⟨⟨fd, ok_law_name F e, FunD.bindsN F fun _ _ _ _ _ _ us hl => match us, hl with | [_], _ => rfl⟩, F.kp, He.glo_ok e.X e.G (e.c.fact 8 rfl)⟩
theorem sc_law_names : FnScope ["pen", "many", "found", "k", "word", "near", "sign", "one"] ["pen", "many"] (defScope (top 28)) := ⟨rfl, rfl, rfl, by decide +kernel, rfl, by decide +kernel, by decide +kernel⟩
theorem ok_law_names {fd : FuncData} (F : FunD K "_law_names" "_law_names" (defArgs (top 28)) (defBody (top 28)) (defScope (top 28)) [] [] (He.ga K "_law_names") fd) (e : Ev K mg base) : FnOk P w K mg base CX0 4 (He.ga K "_law_names") fd ["pen", "many"] (spNames K) := by
  refine F.ok sc_law_names (fun vs H Q E h => ?_) (fun cdv A outer s H vs Q E hr h => ?_)
  · obtain ⟨_, _, _, _, _, _, rfl, _⟩ := h
    rfl
  · skip
    refine ⟨_, PSs.nox ((pss_cons (ps_set (i := 2) sc_law_names.nd rfl (Or.inr rfl) (pe_lst pa_nil))
      (pss_cons (ps_for PassesOwn.never rfl (pi_range1 (by rfl) (f_range e) (pa_cons (pv 1) pa_nil)) (pg_name (i := 3) sc_law_names.nd rfl (Or.inl rfl))
      (pss_cons (ps_set (i := 4) sc_law_names.nd rfl (Or.inr rfl) (pe_def (d_law_name (P := P) (w := w) (K := K) (mg := mg) (base := base) e) (hr.mono (by decide)) (by rfl) (pa_cons (pv 0) pa_nil)))
      (C8.pss_cut (ps_if (PW.pt (pw_and (pt_cmpR (kop_neD (K := K) hr.units) (pv 2) (pe_lst pa_nil) (nomark _)) (pw_and1 (pt_cmpR op_eq (pe_def (d_law_draw (P := P) (w := w) (K := K) (mg := mg) (base := base) e) (hr.mono (by decide)) (by rfl) (pa_cons (pv 0) (pa_cons pe_int pa_nil))) pe_int (nomark _)))))
      (pss_one (ps_set (i := 4) sc_law_names.nd rfl (Or.inr rfl) (pe_op op_add_str (pe_slice sl_str (pe_def (d_law_pick (P := P) (w := w) (K := K) (mg := mg) (base := base) e) (hr.mono (by decide)) (by rfl) (pa_cons (pv 0) (pa_cons (pv 2) pa_nil))) po_none (po_some pe_int)) (pe_slice sl_str (pv 4) po_none (po_some pe_int))))) pss_nil)
      (pss_cons (ps_set (i := 5) sc_law_names.nd rfl (Or.inl rfl) (pe_op op_cat (pe_lst (pa_cons (pv 4) pa_nil)) (pe_lc (own := [("sign", 6)]) (by rfl) sc_law_names.nd (pi_str pe_str) (blkOk_by (own := [("sign", 6)]) (N := ["pen", "many", "found", "k", "word", "near", "sign", "one"]) (sc := defScope (top 28)) (by decide +kernel)) (fun _ _ _ _ _ => (pg_name (i := 6) sc_law_names.nd rfl (Or.inl rfl))) (fun _ _ _ _ _ => pts_nil) (fun _ _ _ _ _ => (pe_op op_add_str (pe_slice sl_str (pv 4) po_none (po_some pe_int)) (pv 6))))))
      (pss_one (ps_expr (kpe_bm (K := K) PySem.F.plainAttrs_list PySem.F.slot_list_append PySem.F.type_list_append mt_append (pv 2) (pa_cons (pe_ix (kix_list (K := K)) (pe_lc (own := [("one", 7)]) (by rfl) sc_law_names.nd (kpi_list (K := K) (pv 5)) (blkOk_by (own := [("one", 7)]) (N := ["pen", "many", "found", "k", "word", "near", "sign", "one"]) (sc := defScope (top 28)) (by decide +kernel)) (fun _ _ _ _ _ => (pg_name (i := 7) sc_law_names.nd rfl (Or.inl rfl))) (fun _ _ _ _ _ => (pts_one (pt_cmpR (op_notInS (K := K)) (pv 7) (pv 2) (by rfl)))) (fun _ _ _ _ _ => (pv 7))) pe_int (fun _ _ => rfl)) pa_nil))))))))
      (pss_one (ps_ret (pv 2)))))), ?_⟩
    obtain ⟨p, c, ms, t, z, n, rfl, hP, ht, hn0, hn, k⟩ := h
    refine ⟨by show 0 ≤ sizeLine; decide, fun f hf => ?_⟩
    have npf : p ≠ f := ne_of_none hP.a hf
    have ncf : c ≠ f := ne_of_none hP.b hf
    refine ⟨_, rfl, n, rfl, by show -(2 ^ 62) ≤ n; omega, by show n < 2 ^ 62; omega, for_range (lo := 0) (n := n.toNat) (fun i σ H' => ∃ (xs : List Str) (t' : Nat) (z' : Int) (a b d g h : Option V), xs.length = i ∧ (∀ x ∈ xs, IsNm x) ∧ xs.Nodup ∧
        σ = [some (.ref p), some (.int n), some (.ref f), a, b, d, g, h] ∧ H' f = some (.lst (xs.map V.str)) ∧ But p H H' ∧ Pen H' p c ms t' z' ∧ t' ≤ t + 12 * i)
      ⟨[], t, z, none, none, none, none, none, rfl, by simp, List.nodup_nil, rfl, upd_same, Same.but (same_new hf), hP.same (same_new hf), Nat.le_refl _⟩ ?_ ?_⟩
    · rintro i σ H3 hi ⟨xs, t3, z3, a, b, d, g, h, hl3, hnm, hnd, rfl, hf3, b3, P3, ht3⟩
      -- word = _law_name(pen)
      refine ⟨_, rfl, p, c, ms, t3, z3, rfl, P3, by omega, fun x H4 t4 z4 hx b4 P4 ht4 => ?_⟩
      have hf4 := b4 _ _ npf.symm hf3
      refine ⟨fun σ' H' => ∃ (y : Str) (t' : Nat) (z' : Int), IsNm y ∧ σ' = [some (.ref p), some (.int n), some (.ref f), some (.int (0 + (i : Nat))), some (.str y), d, g, h] ∧ But p H3 H' ∧ Pen H' p c ms t' z' ∧ t' ≤ t4 + 2, ?_, ?_⟩
      · refine ⟨_, rfl, by show 0 ≤ sizeLine; decide, fun q hq => ?_⟩
        have hf5 : (upd H4 q (.lst [])) f = some (.lst (xs.map V.str)) := by rw [upd_ne (ne_of_none hf4 hq)]; exact hf4
        have P5 := P4.same (same_new (o := .lst []) hq)
        have b5 : But p H3 (upd H4 q (.lst [])) := b4.new hq
        refine ⟨.list (xs.map .str), .list [], .lst (SqL.of hf5) (dp_strs xs), .lst (SqL.of upd_same) .nil, shaped_strs fun x hx => (hnm x hx).ok, by decide +kernel, _, rfl, ?_⟩
        rw [eqv_list_nil]
        cases em : (xs.map PyData.str).isEmpty with
        | true => exact iteF (iteF ⟨x, t4, z4, hx, rfl, b5, P5, by omega⟩)
        | false =>
          refine iteT ?_
          have hne : xs.map V.str ≠ [] := by
            cases xs with
            | nil => cases em
            | cons a r => simp
          refine ⟨_, rfl, p, c, ms, t4, z4, 3, rfl, P5, by omega, by decide, by decide, fun e3 H6 t6 z6 h60 h61 b6 P6 ht6 => ?_⟩
          have hf6 := b6 _ _ npf.symm hf5
          refine ⟨rfl, _, rfl, ite2 (fun he => ?_) fun he => ⟨x, t6, z6, hx, rfl, b5.trans b6, P6, by omega⟩⟩
          refine ⟨_, rfl, _, rfl, p, c, f, ms, t6, z6, _, rfl, P6, by omega, SqL.of hf6, npf.symm, hne, by rw [List.length_map]; omega, fun v H7 t7 z7 hv b7 P7 ht7 => ?_⟩
          obtain ⟨u, hu, rfl⟩ := List.mem_map.mp hv
          have nu := hnm u hu
          refine ⟨7, rfl, u, rfl, nu.fit, _, rfl, 1, rfl, x, rfl, hx.fit, _, _, rfl, rfl, ?_, _, t7, z7, nm_both nu hx, rfl, (b5.trans b6).trans b7, P7, by omega⟩
          have l1 := cut_len u 7
          have l2 := cut_len x 1
          exact Nat.le_trans (Nat.add_le_add l1 l2) (by decide)
      · rintro σ' H5 ⟨y, t5, z5, hy, rfl, b5, P5, ht5⟩
        have hf5 := b5 _ _ npf.symm hf3
        -- near = [word] + [..]
        refine ⟨_, rfl, by show 1 ≤ sizeLine; decide, fun q hq => ?_⟩
        have npq : p ≠ q := ne_of_none P5.a hq
        have nfq : f ≠ q := ne_of_none hf5 hq
        refine ⟨_, rfl, fun D hD => lc_fm walk_str (sgV alpha) (glue7 y) (by rw [sgV_len]; decide +kernel) (ystr alpha) hD (fun _ _ => trivial) (by rw [sgV_len]; decide) ?_ ?_⟩
        · rintro v hv H' hS Kt Kf k1 k2
          obtain ⟨o, ho, rfl⟩ := List.mem_map.mp hv
          refine ⟨rfl, ?_⟩
          refine ⟨_, rfl, 7, rfl, y, rfl, hy.fit, _, rfl, _, _, rfl, rfl, ?_, k1 _ rfl⟩
          have l1 := cut_len y 7
          exact Nat.le_trans (Nat.add_le_add l1 (Nat.le_refl 1)) (by decide)
        have nqD : q ≠ D := ne_of_none upd_same hD
        refine ⟨q, D, _, _, rfl, rfl, by rw [upd_ne nqD]; exact upd_same, upd_same, ?_, fun r hr => ?_⟩
        · have : ((sgV alpha).filterMap (glue7 y)).length ≤ (sgV alpha).length := List.length_filterMap_le ..
          rw [sgV_len] at this
          exact Nat.le_trans (Nat.add_le_add (Nat.le_refl 1) this) (by decide)
        rw [near_map]
        generalize hH6 : upd (upd (upd H5 q (HO.lst [V.str y])) D (HO.lst ((sgV alpha).filterMap (glue7 y)))) r (HO.lst ((nearOf y).map V.str)) = H6
        have s6 : Same H5 H6 := by
          rw [← hH6]
          exact ((same_new hq).trans (same_new hD)).trans (same_new hr)
        have hr6 : H6 r = some (.lst ((nearOf y).map V.str)) := by rw [← hH6]; exact upd_same
        have hf6 := s6 _ _ hf5
        have P6 := P5.same s6
        have b6 : But p H3 H6 := b5.trans (Same.but s6)
        -- found.append(..)
        refine ⟨_, rfl, .inl ⟨rfl, _, SqL.of hf6⟩, _, rfl, r, rfl, ⟨_, SqL.of hr6⟩, fun D2 hD2 => lc_fm (walk_list (K := K) (a := r) (xs := (nearOf y).map V.str)) _ (leftOut xs) rfl (yat _) hD2 (fun H' hS => SqL.of (hS _ _ hr6)) (by rw [List.length_map]; show 27 < _; decide) ?_ ?_⟩
        · rintro v hv H' hS Kt Kf k1 k2
          obtain ⟨o, ho, rfl⟩ := List.mem_map.mp hv
          refine ⟨rfl, ?_⟩
          refine ⟨_, rfl, _, rfl, o, f, xs, rfl, rfl, .inl (SqL.of (hS _ _ hf6)), _, rfl, ?_⟩
          rw [← inV_str]
          show if (!inV (V.str o) (xs.map V.str)) = true then _ else _
          cases ei : inV (V.str o) (xs.map V.str) with
          | true => exact iteF (k2 (by unfold leftOut; rw [ei]; rfl))
          | false => exact iteT ⟨_, rfl, k1 _ (by unfold leftOut; rw [ei]; rfl)⟩
        rw [left_map]
        cases el : (nearOf y).filterMap (fun s => if s ∈ xs then none else some s) with
        | nil => exact absurd el (near_new (by omega))
        | cons a2 r2 =>
          have ha : a2 ∈ (nearOf y).filterMap (fun s => if s ∈ xs then none else some s) := by rw [el]; exact List.mem_cons_self ..
          obtain ⟨s2, hs2, he2⟩ := List.mem_filterMap.mp ha
          have hs3 : s2 ∉ xs ∧ s2 = a2 := by
            by_cases hm : s2 ∈ xs
            · rw [if_pos hm] at he2; cases he2
            · rw [if_neg hm] at he2; exact ⟨hm, Option.some.inj he2⟩
          obtain ⟨hn3, rfl⟩ := hs3
          have na := near_nm hy _ hs2
          have hfD : f ≠ D2 := ne_of_none hf6 hD2
          refine ⟨D2, _, 0, V.str s2, rfl, rfl, SqL.of upd_same, atI_nat (j := 0) rfl, f, xs.map V.str, _, rfl, rfl, by rw [upd_ne hfD]; exact hf6, by rw [List.length_map]; exact Nat.lt_of_le_of_lt (show xs.length ≤ 25 by omega) (by decide), ?_⟩
          have hf0 : H f = none := hf
          refine ⟨xs ++ [s2], t5, z5, _, _, _, _, _, by rw [List.length_append, hl3]; rfl, fun x hx => ?_, ?_, rfl, by rw [upd_same]; simp, ?_, ?_, by omega⟩
          · rcases List.mem_append.mp hx with h | h
            · exact hnm x h
            · simp at h; rw [h]; exact na
          · rw [List.nodup_append]
            exact ⟨hnd, by simp, fun a ha b hb => by simp at hb; rw [hb]; intro e; rw [e] at ha; exact hn3 ha⟩
          · exact ((b3.trans b6).new hD2).upn hf0
          · have P7 := P6.same (same_new (o := .lst ((s2 :: r2).map V.str)) hD2)
            exact ⟨by rw [upd_ne npf]; exact P7.a, by rw [upd_ne ncf]; exact P7.b⟩
    · rintro σ H3 ⟨xs, t3, z3, a, b, d, g, h, hl3, hnm, hnd, rfl, hf3, b3, P3, ht3⟩
      exact ⟨_, rfl, k xs f H3 t3 z3 hl3 hnm hnd hf hf3 b3 P3 (by omega)⟩
theorem d_law_names (e : Ev K mg base) : DefN P w K mg base 4 "_law_names" ["pen", "many"] (spNames K) := by
  obtain ⟨fd, F⟩ := e.c.def_ 4 (d := dd "_law_names" 28) rfl
  exact ⟨⟨fd, ok_law_names F e, FunD.bindsN F fun _ _ _ _ _ _ us hl => match us, hl with | [_, _], _ => rfl⟩, F.kp, He.glo_ok e.X e.G (e.c.fact 9 rfl)⟩
theorem sc_is_name : FnScope ["value"] ["value"] (defScope (top 11)) := ⟨rfl, rfl, rfl, by decide +kernel, rfl, by decide +kernel, by decide +kernel⟩
theorem az_all : ∀ c, c < 128 → (PySem.Unicode.isLower c = true → PySem.Unicode.isAlpha c = true) ∧ (PySem.Unicode.isLower c = true → (PySem.Unicode.isUpper c || PySem.Unicode.isTitle c) = false) ∧ (PySem.Unicode.isAlpha c = true → PySem.Unicode.isLower c = false → (PySem.Unicode.isUpper c || PySem.Unicode.isTitle c) = true) ∧ (PySem.Unicode.isLower c = decide (c ∈ alpha.cps.toList)) := by decide +kernel
theorem az_small : ∀ c ∈ alpha.cps.toList, c < 128 := by decide +kernel
theorem nm3 {x : Str} (h : 1 ≤ x.length) : (Txt.isascii x && (Txt.isalpha x && Txt.islower x)) = x.cps.toList.all fun c => decide (c ∈ alpha.cps.toList) := by
  rw [Bool.eq_iff_iff]
  unfold Txt.isascii Txt.isalpha Txt.islower
  have hl : x.cps.toList ≠ [] := by
    intro e
    have : x.length = 0 := by show x.cps.size = 0; rw [← Array.length_toList, e]; rfl
    omega
  simp only [Bool.and_eq_true, Bool.not_eq_true', List.all_eq_true, decide_eq_true_eq, ← Array.all_toList, ← Array.any_toList]
  constructor
  · rintro ⟨h1, ⟨-, h2⟩, -, h4⟩ c hc
    obtain ⟨a1, a2, a3, a4⟩ := az_all c (h1 c hc)
    cases e : PySem.Unicode.isLower c with
    | true => rw [e] at a4; exact of_decide_eq_true a4.symm
    | false =>
      have h5 := a3 (h2 c hc) e
      rw [List.any_eq_false] at h4
      exact absurd h5 (h4 c hc)
  · intro k
    have kk : ∀ c ∈ x.cps.toList, c < 128 ∧ PySem.Unicode.isLower c = true := fun c hc => by
      have hs := az_small c (k c hc)
      exact ⟨hs, by rw [(az_all c hs).2.2.2]; exact decide_eq_true (k c hc)⟩
    refine ⟨fun c hc => (kk c hc).1, ⟨h, fun c hc => (az_all c (kk c hc).1).1 (kk c hc).2⟩, ?_, ?_⟩
    · obtain ⟨c, hc⟩ := List.exists_mem_of_ne_nil _ hl
      rw [List.any_eq_true]
      exact ⟨c, hc, (kk c hc).2⟩
    · rw [List.any_eq_false]
      intro c hc
      have := (az_all c (kk c hc).1).2.1 (kk c hc).2
      rw [this]
      simp
theorem ok_is_name {fd : FuncData} (F : FunD K "is_name" "is_name" (defArgs (top 11)) (defBody (top 11)) (defScope (top 11)) [] [] (He.ga K "is_name") fd) (e : Ev K mg base) : FnOk P w K mg base CX0 1 (He.ga K "is_name") fd ["value"] (spIsName K) := by
  refine F.ok sc_is_name (fun vs H Q E h => ?_) (fun cdv A outer s H vs Q E hr h => ?_)
  · obtain ⟨_, rfl, _⟩ := h
    rfl
  · skip
    refine ⟨_, PSs.nox ((pss_cons (ps_if (PW.pt (pw_or (pt_not (pt_val (pe_callB (kcall_isi (K := K)) (by rfl) (f_isinstance e) (by decide +kernel) (pa_cons (pv 0) (pa_cons (pe_bltn (by rfl) (f_str e) (by decide +kernel) (show RelV (.ty "str") (.type "str") from rfl)) pa_nil))))) (pw_or1 (pt_not (pt_chain op_le op_le pe_int (pe_callB call_len_str (by rfl) (f_len e) (by decide +kernel) (pa_cons (pv 0) pa_nil)) pe_int)))))
      (pss_one (ps_ret pe_bl)) pss_nil)
      (pss_one (ps_ret (pe_and (kpe_bm0 (K := K) PySem.F.plainAttrs_str PySem.F.slot_str_isascii PySem.F.type_str_isascii mt_isascii (pv 0)) (pe_and (kpe_bm0 (K := K) PySem.F.plainAttrs_str PySem.F.slot_str_isalpha PySem.F.type_str_isalpha mt_isalpha (pv 0)) (pe_one (kpe_bm0 (K := K) PySem.F.plainAttrs_str PySem.F.slot_str_islower PySem.F.type_str_islower mt_islower (pv 0))))))))), ?_⟩
    obtain ⟨v, rfl, hv⟩ := h
    refine ⟨_, rfl, ?_⟩
    rcases hv with ⟨x, rfl, hx, k⟩ | ⟨t, ty, hk, q⟩
    · have kf : ¬ IsNm x → Q (.bl false) H := fun hn => by
        have e1 : nmB x = false := by
          cases e2 : nmB x with
          | false => rfl
          | true => exact absurd (nmB_iff.mp e2) hn
        have := k H (Same.refl H)
        rw [e1] at this
        exact this
      refine ⟨.str x, _, _, _, true, rfl, .ty "str", .base (.str x), kit_ty (by decide +kernel), _, rfl, iteF ?_⟩
      refine ⟨_, rfl, x, rfl, hx, _, _, rfl, rfl, _, rfl, ?_⟩
      refine ite2 (fun h1 => ?_) fun h1 => ⟨_, rfl, kf fun n => h1 (decide_eq_true (by have := n.lo; omega))⟩
      refine ⟨_, _, rfl, rfl, _, rfl, ?_⟩
      have h1' := of_decide_eq_true h1
      by_cases h2 : ((x.length : Int) ≤ 8)
      · rw [decide_eq_true h2]
        refine iteF ?_
        have fin : (Txt.isascii x && (Txt.isalpha x && Txt.islower x)) = nmB x := by
          rw [nm3 (show 1 ≤ x.length by omega)]
          unfold nmB
          rw [decide_eq_true (show 1 ≤ x.length by omega), decide_eq_true (show x.length ≤ 8 by omega)]
          rfl
        have k' := k H (Same.refl H)
        rw [← fin] at k'
        refine ⟨_, rfl, rfl, x, rfl, rfl, trivial, _, rfl, ?_⟩
        cases e1 : Txt.isascii x with
        | false =>
          rw [e1] at k'
          exact iteF (by exact k')
        | true =>
          rw [e1] at k'
          refine iteT ⟨_, rfl, rfl, x, rfl, rfl, trivial, _, rfl, ?_⟩
          cases e2 : Txt.isalpha x with
          | false =>
            rw [e2] at k'
            exact iteF (by exact k')
          | true =>
            rw [e2] at k'
            exact iteT ⟨_, rfl, rfl, x, rfl, rfl, trivial, by exact k'⟩
      · rw [decide_eq_false h2]
        exact iteT (kf fun n => h2 (by have := n.hi; omega))
    · refine ⟨v, _, t, _, false, rfl, .ty "str", ty, hk, _, rfl, ?_⟩
      exact q
theorem d_is_name (e : Ev K mg base) : DefN P w K mg base 1 "is_name" ["value"] (spIsName K) := by
  obtain ⟨fd, F⟩ := e.c.def_ 5 (d := dd "is_name" 11) rfl
  exact ⟨⟨fd, ok_is_name F e, FunD.bindsN F fun _ _ _ _ _ _ us hl => match us, hl with | [_], _ => rfl⟩, F.kp, He.glo_ok e.X e.G (e.c.fact 12 rfl)⟩
theorem sc_ascending : FnScope ["names"] ["names"] (defScope (top 12)) := ⟨rfl, rfl, rfl, by decide +kernel, rfl, by decide +kernel, by decide +kernel⟩
theorem ok_ascending {fd : FuncData} (F : FunD K "ascending" "ascending" (defArgs (top 12)) (defBody (top 12)) (defScope (top 12)) [] [] (He.ga K "ascending") fd) (e : Ev K mg base) : FnOk P w K mg base CX0 1 (He.ga K "ascending") fd ["names"] (spAsc K) := by
  refine F.ok sc_ascending (fun vs H Q E h => ?_) (fun cdv A outer s H vs Q E hr h => ?_)
  · obtain ⟨_, _, rfl, _⟩ := h
    rfl
  · skip
    refine ⟨_, PSs.nox ((pss_one (ps_ret (pe_callTy (kcall_tuple_of (K := K)) (by rfl) (f_tuple e) (by decide +kernel) (pa_cons (pe_callB (cr_sortX rfl) (by rfl) (f_sorted e) (by decide +kernel) (pa_cons (pe_callTy (cr_setS (K := K) rfl) (by rfl) (f_set e) (by decide +kernel) (pa_cons (pv 0) pa_nil)) pa_nil)) pa_nil))))), ?_⟩
    obtain ⟨p, xs, rfl, hx, hl, k⟩ := h
    refine ⟨_, rfl, p, xs, rfl, hx, Nat.lt_of_le_of_lt (Nat.add_le_add_right hl 1) (by decide), fun a n ha hm => ?_⟩
    refine ⟨a, _, n, rfl, upd_same, fun ys q hs nd mem len hq => ?_⟩
    refine ⟨q, _, rfl, .inl ⟨SqL.of upd_same, fun t ht => ?_⟩⟩
    refine k ys t _ ⟨hs, nd, fun y => (mem y).trans decide_eq_true_iff⟩ ?_ ?_ upd_same
    · exact ((same_new ha).trans (same_new hq)).trans (same_new ht)
    · exact same_none ((same_new ha).trans (same_new hq)) ht
theorem d_ascending (e : Ev K mg base) : DefN P w K mg base 1 "ascending" ["names"] (spAsc K) := by
  obtain ⟨fd, F⟩ := e.c.def_ 6 (d := dd "ascending" 12) rfl
  exact ⟨⟨fd, ok_ascending F e, FunD.bindsN F fun _ _ _ _ _ _ us hl => match us, hl with | [_], _ => rfl⟩, F.kp, He.glo_ok e.X e.G (e.c.fact 16 rfl)⟩
theorem sc_BadFrame___init__ : FnScope ["self", "part"] ["self", "part"] (defScope (inClass (top 5) 0)) := ⟨rfl, rfl, rfl, by decide +kernel, rfl, by decide +kernel, by decide +kernel⟩
theorem ok_BadFrame___init__ {fd : FuncData} (F : FunD K "__init__" "BadFrame.__init__" (defArgs (inClass (top 5) 0)) (defBody (inClass (top 5) 0)) (defScope (inClass (top 5) 0)) [] [] (He.ma K (He.ga K "BadFrame") "__init__") fd) (e : Ev K mg base) : FnOk P w K mg base CX0 1 (He.ma K (He.ga K "BadFrame") "__init__") fd ["self", "part"] (spErr1 K (He.ga K "BadFrame") "part") := by
  refine F.ok sc_BadFrame___init__ (fun vs H Q E h => ?_) (fun cdv A outer s H vs Q E hr h => ?_)
  · obtain ⟨_, _, rfl, _⟩ := h
    rfl
  · skip
    refine ⟨_, PSs.nox ((pss_one (ps_ost (pv 0) (pv 1)))), ?_⟩
    obtain ⟨a, v, rfl, ha, k⟩ := h
    refine ⟨_, rfl, _, rfl, a, _, rfl, (err_BadFrame e).o, (no_BadFrame_part e), .inl ⟨ha, fun dx h1 h2 => ?_⟩⟩
    exact k dx h1 h2
theorem d_BadFrame___init__ (e : Ev K mg base) : DefM P w K mg base 1 (He.ma K (He.ga K "BadFrame") "__init__") ["self", "part"] (spErr1 K (He.ga K "BadFrame") "part") := by
  obtain ⟨fd, F⟩ := e.c.def_ 7 (d := dm "BadFrame" "__init__" "BadFrame.__init__" 5 0) rfl
  exact ⟨fd, ok_BadFrame___init__ F e, FunD.bindsN F fun _ _ _ _ _ _ us hl => match us, hl with | [_, _], _ => rfl⟩
theorem sc_Frame___init__ : FnScope ["self", "sender", "target"] ["self", "sender", "target"] (defScope (inClass (top 17) 0)) := ⟨rfl, rfl, rfl, by decide +kernel, rfl, by decide +kernel, by decide +kernel⟩
theorem ok_Frame___init__ {fd : FuncData} (F : FunD K "__init__" "Frame.__init__" (defArgs (inClass (top 17) 0)) (defBody (inClass (top 17) 0)) (defScope (inClass (top 17) 0)) [(.non : He.Dv).v K] [] (He.ma K (He.ga K "Frame") "__init__") fd) (e : Ev K mg base) : FnOk P w K mg base (CX P w) 3 (He.ma K (He.ga K "Frame") "__init__") fd ["self", "sender", "target"] (spFrame K) := by
  refine F.ok sc_Frame___init__ (fun vs H Q E h => ?_) (fun cdv A outer s H vs Q E hr h => ?_)
  · obtain ⟨_, _, _, _, rfl, _⟩ := h
    rfl
  · skip
    refine ⟨_, ((pss_cons (ps_if (pt_not (pt_val (pe_def (d_is_name (P := P) (w := w) (K := K) (mg := mg) (base := base) e) (hr.mono (by decide)) (by rfl) (pa_cons (pv 1) pa_nil))))
      (pss_one (ps_raise1 (err_BadFrame e) (d_BadFrame___init__ e) (hr.mono (by decide)) rfl (takes_of rfl rfl rfl rfl) rfl (g_BadFrame e) (pa_cons pe_str pa_nil))) pss_nil)
      (C8.pss_cut (ps_if (PW.pt (pw_and (pt_cmpR op_notN (pv 2) pe_non (nomark _)) (pw_and1 (PW.pt (pw_or (pt_not (pt_val (pe_def (d_is_name (P := P) (w := w) (K := K) (mg := mg) (base := base) e) (hr.mono (by decide)) (by rfl) (pa_cons (pv 2) pa_nil)))) (pw_or1 (pt_cmpR op_eq (pv 2) (pv 1) (nomark _))))))))
      (pss_one (ps_raise1 (err_BadFrame e) (d_BadFrame___init__ e) (hr.mono (by decide)) rfl (takes_of rfl rfl rfl rfl) rfl (g_BadFrame e) (pa_cons pe_str pa_nil))) pss_nil)
      (pss_cons (ps_fld (pv 0) (pv 1) rfl)
      (pss_one (ps_fld (pv 0) (pv 2) rfl)))))), ?_⟩
    obtain ⟨p, dx, x, y, rfl, hp, hx, hy, k1, k2, k3⟩ := h
    refine ⟨_, rfl, ?_⟩
    dsimp only [tNil]
    refine is_named hx fun H1 s1 => ⟨_, rfl, ?_⟩
    cases vx : vnm x with
    | false => exact iteT ⟨_, rfl, fun d H' h1 h2 h3 => k1 vx d H' (s1.trans h1) (same_none s1 h2) h3⟩
    | true =>
      refine iteF ?_
      have hp1 := s1 _ _ hp
      refine ⟨fun σ' H' => σ' = start ["self", "sender", "target"] [V.ref p, x, y] ∧ Same H H' ∧ tgt x y = true, ?_, ?_⟩
      · refine ⟨_, rfl, rfl, _, rfl, ?_⟩
        refine ite2 (fun hn => ?_) fun hn => iteF ⟨rfl, s1, tgt_non (by simpa using hn)⟩
        have hn : y ≠ .non := by simpa using hn
        refine ⟨_, rfl, ?_⟩
        dsimp only [tNil]
        refine is_named (hy.same s1) fun H2 s2 => ⟨_, rfl, ?_⟩
        cases vy : vnm y with
        | false => exact iteT (iteT ⟨_, rfl, fun d H' h1 h2 h3 => k2 vx (tgt_bad hn vy) d H' ((s1.trans s2).trans h1) (same_none (s1.trans s2) h2) h3⟩)
        | true =>
          obtain ⟨a, rfl⟩ := vnm_str vx
          obtain ⟨b, rfl⟩ := vnm_str vy
          refine iteF ⟨_, rfl, _, rfl, rfl, _, rfl, ite2 (fun he => ?_) fun he => ?_⟩
          · have he : b = a := by simpa using he
            subst he
            exact ⟨_, rfl, fun d H' h1 h2 h3 => k2 vx (tgt_self vy) d H' ((s1.trans s2).trans h1) (same_none (s1.trans s2) h2) h3⟩
          · exact ⟨rfl, s1.trans s2, tgt_two vy (by intro q; cases q; simp at he)⟩
      · rintro σ' H' ⟨rfl, s2, ht⟩
        have hp2 := s2 _ _ hp
        refine ⟨_, rfl, _, rfl, p, _, dx, _, rfl, hp2, (cls_Frame e), (no_Frame_sender e), (by decide), ?_⟩
        refine ⟨_, rfl, _, rfl, p, _, dx, _, rfl, upd_same, (cls_Frame e), (no_Frame_target e), (by show 1 < 1000; decide), ?_⟩
        refine k3 vx ht _ (fun b o n h => ?_) ?_
        · rw [upd_ne n, upd_ne n]; exact s2 _ _ h
        · exact upd_same
theorem d_Frame___init__ (e : Ev K mg base) : ∃ fd, FnOk P w K mg base (CX P w) 3 (He.ma K (He.ga K "Frame") "__init__") fd ["self", "sender", "target"] (spFrame K) ∧ FunD K "__init__" "Frame.__init__" (defArgs (inClass (top 17) 0)) (defBody (inClass (top 17) 0)) (defScope (inClass (top 17) 0)) [(.non : He.Dv).v K] [] (He.ma K (He.ga K "Frame") "__init__") fd := by
  obtain ⟨fd, F⟩ := e.c.def_ 8 (d := dm "Frame" "__init__" "Frame.__init__" 17 0 [.non]) rfl
  exact ⟨fd, ok_Frame___init__ F e, F⟩
theorem sc_frame_key : FnScope ["frame"] ["frame"] (defScope (top 18)) := ⟨rfl, rfl, rfl, by decide +kernel, rfl, by decide +kernel, by decide +kernel⟩
theorem ok_frame_key {fd : FuncData} (F : FunD K "frame_key" "frame_key" (defArgs (top 18)) (defBody (top 18)) (defScope (top 18)) [] [] (He.ga K "frame_key") fd) (e : Ev K mg base) : FnOk P w K mg base CX0 1 (He.ga K "frame_key") fd ["frame"] (spKey K) := by
  refine F.ok sc_frame_key (fun vs H Q E h => ?_) (fun cdv A outer s H vs Q E hr h => ?_)
  · obtain ⟨_, _, _, rfl, _⟩ := h
    rfl
  · skip
    refine ⟨_, PSs.nox ((pss_one (ps_ret (pe_tup (pa_cons (kpe_fld (K := K) (pv 0) rfl) (pa_cons (pe_ifExp (pt_cmpR op_isN (kpe_fld (K := K) (pv 0) rfl) pe_non (nomark _)) pe_str (kpe_fld (K := K) (pv 0) rfl)) pa_nil)))))), ?_⟩
    obtain ⟨p, a, o, rfl, ⟨fp, dx, hp⟩, k⟩ := h
    refine ⟨_, rfl, p, _, dx, _, _, rfl, hp, cls_Frame e, no_Frame_sender e, rfl, ?_⟩
    refine ⟨_, rfl, p, _, dx, _, _, rfl, hp, cls_Frame e, no_Frame_target e, rfl, rfl, _, rfl, ?_⟩
    cases o with
    | none => exact iteT ⟨by show 2 ≤ sizeLine; decide, k⟩
    | some z => exact iteF ⟨_, rfl, p, _, dx, _, _, rfl, hp, cls_Frame e, no_Frame_target e, rfl, by show 2 ≤ sizeLine; decide, k⟩
theorem d_frame_key (e : Ev K mg base) : DefN P w K mg base 1 "frame_key" ["frame"] (spKey K) := by
  obtain ⟨fd, F⟩ := e.c.def_ 9 (d := dd "frame_key" 18) rfl
  exact ⟨⟨fd, ok_frame_key F e, FunD.bindsN F fun _ _ _ _ _ _ us hl => match us, hl with | [_], _ => rfl⟩, F.kp, He.glo_ok e.X e.G (e.c.fact 33 rfl)⟩
theorem sc_Frame___lt__ : FnScope ["self", "other"] ["self", "other"] (defScope (inClass (top 17) 3)) := ⟨rfl, rfl, rfl, by decide +kernel, rfl, by decide +kernel, by decide +kernel⟩
theorem ok_Frame___lt__ {fd : FuncData} (F : FunD K "__lt__" "Frame.__lt__" (defArgs (inClass (top 17) 3)) (defBody (inClass (top 17) 3)) (defScope (inClass (top 17) 3)) [] [] (He.ma K (He.ga K "Frame") "__lt__") fd) (e : Ev K mg base) : FnOk P w K mg base CX0 2 (He.ma K (He.ga K "Frame") "__lt__") fd ["self", "other"] (spOrd K .Lt) := by
  refine F.ok sc_Frame___lt__ (fun vs H Q E h => ?_) (fun cdv A outer s H vs Q E hr h => ?_)
  · obtain ⟨_, _, _, _, _, _, rfl, _⟩ := h
    rfl
  · skip
    refine ⟨_, PSs.nox ((pss_cons (ps_if (pt_not (pt_val (pe_callB (kcall_isi (K := K)) (by rfl) (f_isinstance e) (by decide +kernel) (pa_cons (pv 1) (pa_cons (pe_glob (by rfl) (g_Frame e) (show RelV (.ref (He.ga K "Frame")) (.ref (He.ga K "Frame")) from rfl)) pa_nil)))))
      (pss_one ps_never) pss_nil)
      (pss_one (ps_ret (pe_cmpR (op_lt2 (K := K) hr.units0) (pe_def (d_frame_key (P := P) (w := w) (K := K) (mg := mg) (base := base) e) (hr.mono (by decide)) (by rfl) (pa_cons (pv 0) pa_nil)) (pe_def (d_frame_key (P := P) (w := w) (K := K) (mg := mg) (base := base) e) (hr.mono (by decide)) (by rfl) (pa_cons (pv 1) pa_nil)) (nomark _)))))), ?_⟩
    obtain ⟨p, q, a, b, o, r, rfl, ⟨fp, dx, hp⟩, ⟨fq, dy, hq⟩, k⟩ := h
    refine ⟨_, rfl, _, _, _, _, true, rfl, .own _, (own_Frame e).ty (cls_Frame e) hq, kit_same, _, rfl, iteF ?_⟩
    refine ⟨_, rfl, p, a, o, rfl, ⟨fp, dx, hp⟩, fun t ht => ?_⟩
    refine ⟨_, rfl, q, b, r, rfl, ⟨fq, dy, same_new ht _ _ hq⟩, fun u hu => ?_⟩
    refine ⟨t, u, a, kOf o, b, kOf r, rfl, rfl, SqT.of (by rw [upd_ne (ne_of_none upd_same hu)]; exact upd_same), SqT.of upd_same, k _ ((same_new ht).trans (same_new hu))⟩
theorem d_Frame___lt__ (e : Ev K mg base) : DefM P w K mg base 2 (He.ma K (He.ga K "Frame") "__lt__") ["self", "other"] (spOrd K .Lt) := by
  obtain ⟨fd, F⟩ := e.c.def_ 10 (d := dm "Frame" "__lt__" "Frame.__lt__" 17 3) rfl
  exact ⟨fd, ok_Frame___lt__ F e, FunD.bindsN F fun _ _ _ _ _ _ us hl => match us, hl with | [_, _], _ => rfl⟩
theorem sc_Frame___le__ : FnScope ["self", "other"] ["self", "other"] (defScope (inClass (top 17) 4)) := ⟨rfl, rfl, rfl, by decide +kernel, rfl, by decide +kernel, by decide +kernel⟩
theorem ok_Frame___le__ {fd : FuncData} (F : FunD K "__le__" "Frame.__le__" (defArgs (inClass (top 17) 4)) (defBody (inClass (top 17) 4)) (defScope (inClass (top 17) 4)) [] [] (He.ma K (He.ga K "Frame") "__le__") fd) (e : Ev K mg base) : FnOk P w K mg base CX0 2 (He.ma K (He.ga K "Frame") "__le__") fd ["self", "other"] (spOrd K .LtE) := by
  refine F.ok sc_Frame___le__ (fun vs H Q E h => ?_) (fun cdv A outer s H vs Q E hr h => ?_)
  · obtain ⟨_, _, _, _, _, _, rfl, _⟩ := h
    rfl
  · skip
    refine ⟨_, PSs.nox ((pss_cons (ps_if (pt_not (pt_val (pe_callB (kcall_isi (K := K)) (by rfl) (f_isinstance e) (by decide +kernel) (pa_cons (pv 1) (pa_cons (pe_glob (by rfl) (g_Frame e) (show RelV (.ref (He.ga K "Frame")) (.ref (He.ga K "Frame")) from rfl)) pa_nil)))))
      (pss_one ps_never) pss_nil)
      (pss_one (ps_ret (pe_cmpR (op_le2 (K := K) hr.units0) (pe_def (d_frame_key (P := P) (w := w) (K := K) (mg := mg) (base := base) e) (hr.mono (by decide)) (by rfl) (pa_cons (pv 0) pa_nil)) (pe_def (d_frame_key (P := P) (w := w) (K := K) (mg := mg) (base := base) e) (hr.mono (by decide)) (by rfl) (pa_cons (pv 1) pa_nil)) (nomark _)))))), ?_⟩
    obtain ⟨p, q, a, b, o, r, rfl, ⟨fp, dx, hp⟩, ⟨fq, dy, hq⟩, k⟩ := h
    refine ⟨_, rfl, _, _, _, _, true, rfl, .own _, (own_Frame e).ty (cls_Frame e) hq, kit_same, _, rfl, iteF ?_⟩
    refine ⟨_, rfl, p, a, o, rfl, ⟨fp, dx, hp⟩, fun t ht => ?_⟩
    refine ⟨_, rfl, q, b, r, rfl, ⟨fq, dy, same_new ht _ _ hq⟩, fun u hu => ?_⟩
    refine ⟨t, u, a, kOf o, b, kOf r, rfl, rfl, SqT.of (by rw [upd_ne (ne_of_none upd_same hu)]; exact upd_same), SqT.of upd_same, k _ ((same_new ht).trans (same_new hu))⟩
theorem d_Frame___le__ (e : Ev K mg base) : DefM P w K mg base 2 (He.ma K (He.ga K "Frame") "__le__") ["self", "other"] (spOrd K .LtE) := by
  obtain ⟨fd, F⟩ := e.c.def_ 11 (d := dm "Frame" "__le__" "Frame.__le__" 17 4) rfl
  exact ⟨fd, ok_Frame___le__ F e, FunD.bindsN F fun _ _ _ _ _ _ us hl => match us, hl with | [_, _], _ => rfl⟩
theorem sc_Frame___gt__ : FnScope ["self", "other"] ["self", "other"] (defScope (inClass (top 17) 5)) := ⟨rfl, rfl, rfl, by decide +kernel, rfl, by decide +kernel, by decide +kernel⟩
theorem ok_Frame___gt__ {fd : FuncData} (F : FunD K "__gt__" "Frame.__gt__" (defArgs (inClass (top 17) 5)) (defBody (inClass (top 17) 5)) (defScope (inClass (top 17) 5)) [] [] (He.ma K (He.ga K "Frame") "__gt__") fd) (e : Ev K mg base) : FnOk P w K mg base CX0 2 (He.ma K (He.ga K "Frame") "__gt__") fd ["self", "other"] (spOrd K .Gt) := by
  refine F.ok sc_Frame___gt__ (fun vs H Q E h => ?_) (fun cdv A outer s H vs Q E hr h => ?_)
  · obtain ⟨_, _, _, _, _, _, rfl, _⟩ := h
    rfl
  · skip
    refine ⟨_, PSs.nox ((pss_cons (ps_if (pt_not (pt_val (pe_callB (kcall_isi (K := K)) (by rfl) (f_isinstance e) (by decide +kernel) (pa_cons (pv 1) (pa_cons (pe_glob (by rfl) (g_Frame e) (show RelV (.ref (He.ga K "Frame")) (.ref (He.ga K "Frame")) from rfl)) pa_nil)))))
      (pss_one ps_never) pss_nil)
      (pss_one (ps_ret (pe_cmpR (op_gt2 (K := K) hr.units0) (pe_def (d_frame_key (P := P) (w := w) (K := K) (mg := mg) (base := base) e) (hr.mono (by decide)) (by rfl) (pa_cons (pv 0) pa_nil)) (pe_def (d_frame_key (P := P) (w := w) (K := K) (mg := mg) (base := base) e) (hr.mono (by decide)) (by rfl) (pa_cons (pv 1) pa_nil)) (nomark _)))))), ?_⟩
    obtain ⟨p, q, a, b, o, r, rfl, ⟨fp, dx, hp⟩, ⟨fq, dy, hq⟩, k⟩ := h
    refine ⟨_, rfl, _, _, _, _, true, rfl, .own _, (own_Frame e).ty (cls_Frame e) hq, kit_same, _, rfl, iteF ?_⟩
    refine ⟨_, rfl, p, a, o, rfl, ⟨fp, dx, hp⟩, fun t ht => ?_⟩
    refine ⟨_, rfl, q, b, r, rfl, ⟨fq, dy, same_new ht _ _ hq⟩, fun u hu => ?_⟩
    refine ⟨t, u, a, kOf o, b, kOf r, rfl, rfl, SqT.of (by rw [upd_ne (ne_of_none upd_same hu)]; exact upd_same), SqT.of upd_same, k _ ((same_new ht).trans (same_new hu))⟩
theorem d_Frame___gt__ (e : Ev K mg base) : DefM P w K mg base 2 (He.ma K (He.ga K "Frame") "__gt__") ["self", "other"] (spOrd K .Gt) := by
  obtain ⟨fd, F⟩ := e.c.def_ 12 (d := dm "Frame" "__gt__" "Frame.__gt__" 17 5) rfl
  exact ⟨fd, ok_Frame___gt__ F e, FunD.bindsN F fun _ _ _ _ _ _ us hl => match us, hl with | [_, _], _ => rfl⟩
theorem sc_Frame___ge__ : FnScope ["self", "other"] ["self", "other"] (defScope (inClass (top 17) 6)) := ⟨rfl, rfl, rfl, by decide +kernel, rfl, by decide +kernel, by decide +kernel⟩
theorem ok_Frame___ge__ {fd : FuncData} (F : FunD K "__ge__" "Frame.__ge__" (defArgs (inClass (top 17) 6)) (defBody (inClass (top 17) 6)) (defScope (inClass (top 17) 6)) [] [] (He.ma K (He.ga K "Frame") "__ge__") fd) (e : Ev K mg base) : FnOk P w K mg base CX0 2 (He.ma K (He.ga K "Frame") "__ge__") fd ["self", "other"] (spOrd K .GtE) := by
  refine F.ok sc_Frame___ge__ (fun vs H Q E h => ?_) (fun cdv A outer s H vs Q E hr h => ?_)
  · obtain ⟨_, _, _, _, _, _, rfl, _⟩ := h
    rfl
  · skip
    refine ⟨_, PSs.nox ((pss_cons (ps_if (pt_not (pt_val (pe_callB (kcall_isi (K := K)) (by rfl) (f_isinstance e) (by decide +kernel) (pa_cons (pv 1) (pa_cons (pe_glob (by rfl) (g_Frame e) (show RelV (.ref (He.ga K "Frame")) (.ref (He.ga K "Frame")) from rfl)) pa_nil)))))
      (pss_one ps_never) pss_nil)
      (pss_one (ps_ret (pe_cmpR (op_ge2 (K := K) hr.units0) (pe_def (d_frame_key (P := P) (w := w) (K := K) (mg := mg) (base := base) e) (hr.mono (by decide)) (by rfl) (pa_cons (pv 0) pa_nil)) (pe_def (d_frame_key (P := P) (w := w) (K := K) (mg := mg) (base := base) e) (hr.mono (by decide)) (by rfl) (pa_cons (pv 1) pa_nil)) (nomark _)))))), ?_⟩
    obtain ⟨p, q, a, b, o, r, rfl, ⟨fp, dx, hp⟩, ⟨fq, dy, hq⟩, k⟩ := h
    refine ⟨_, rfl, _, _, _, _, true, rfl, .own _, (own_Frame e).ty (cls_Frame e) hq, kit_same, _, rfl, iteF ?_⟩
    refine ⟨_, rfl, p, a, o, rfl, ⟨fp, dx, hp⟩, fun t ht => ?_⟩
    refine ⟨_, rfl, q, b, r, rfl, ⟨fq, dy, same_new ht _ _ hq⟩, fun u hu => ?_⟩
    refine ⟨t, u, a, kOf o, b, kOf r, rfl, rfl, SqT.of (by rw [upd_ne (ne_of_none upd_same hu)]; exact upd_same), SqT.of upd_same, k _ ((same_new ht).trans (same_new hu))⟩
theorem d_Frame___ge__ (e : Ev K mg base) : DefM P w K mg base 2 (He.ma K (He.ga K "Frame") "__ge__") ["self", "other"] (spOrd K .GtE) := by
  obtain ⟨fd, F⟩ := e.c.def_ 13 (d := dm "Frame" "__ge__" "Frame.__ge__" 17 6) rfl
  exact ⟨fd, ok_Frame___ge__ F e, FunD.bindsN F fun _ _ _ _ _ _ us hl => match us, hl with | [_, _], _ => rfl⟩
theorem sc_Frame___eq__ : FnScope ["self", "other"] ["self", "other"] (defScope (inClass (top 17) 2)) := ⟨rfl, rfl, rfl, by decide +kernel, rfl, by decide +kernel, by decide +kernel⟩
theorem ok_Frame___eq__ {fd : FuncData} (F : FunD K "__eq__" "Frame.__eq__" (defArgs (inClass (top 17) 2)) (defBody (inClass (top 17) 2)) (defScope (inClass (top 17) 2)) [] [] (He.ma K (He.ga K "Frame") "__eq__") fd) (e : Ev K mg base) : FnOk P w K mg base CX0 2 (He.ma K (He.ga K "Frame") "__eq__") fd ["self", "other"] (spEqF K) := by
  refine F.ok sc_Frame___eq__ (fun vs H Q E h => ?_) (fun cdv A outer s H vs Q E hr h => ?_)
  · obtain ⟨_, _, _, _, rfl, _⟩ := h
    rfl
  · skip
    refine ⟨_, PSs.nox ((pss_cons (ps_if (pt_not (pt_val (pe_callB (kcall_isi (K := K)) (by rfl) (f_isinstance e) (by decide +kernel) (pa_cons (pv 1) (pa_cons (pe_glob (by rfl) (g_Frame e) (show RelV (.ref (He.ga K "Frame")) (.ref (He.ga K "Frame")) from rfl)) pa_nil)))))
      (pss_one (ps_ret pe_bl)) pss_nil)
      (pss_one (ps_ret (pe_cmpR (kop_eqD (K := K) hr.units) (pe_def (d_frame_key (P := P) (w := w) (K := K) (mg := mg) (base := base) e) (hr.mono (by decide)) (by rfl) (pa_cons (pv 0) pa_nil)) (pe_def (d_frame_key (P := P) (w := w) (K := K) (mg := mg) (base := base) e) (hr.mono (by decide)) (by rfl) (pa_cons (pv 1) pa_nil)) (nomark _)))))), ?_⟩
    obtain ⟨p, y, a, o, rfl, ⟨fp, dx, hp⟩, h⟩ := h
    rcases h with ⟨q, b, r, rfl, ⟨fq, dy, hq⟩, k⟩ | ⟨t, ht, ty, k⟩
    · refine ⟨_, rfl, _, _, _, _, true, rfl, .own _, (own_Frame e).ty (cls_Frame e) hq, kit_same, _, rfl, iteF ?_⟩
      refine ⟨_, rfl, p, a, o, rfl, ⟨fp, dx, hp⟩, fun t ht => ?_⟩
      refine ⟨_, rfl, q, b, r, rfl, ⟨fq, dy, same_new ht _ _ hq⟩, fun u hu => ?_⟩
      refine ⟨_, _, .tup (SqT.of (by rw [upd_ne (ne_of_none upd_same hu)]; exact upd_same)) (.cons (.str _) (.cons (.str _) .nil)), .tup (SqT.of upd_same) (.cons (.str _) (.cons (.str _) .nil)), shaped2 fp.a.ok fp.k, shaped2 fq.a.ok fq.k, ?_⟩
      exact k _ ((same_new ht).trans (same_new hu))
    · exact ⟨_, rfl, _, _, _, _, false, rfl, .own _, ty, (own_Frame e).ki t ht, _, rfl, iteT k⟩
theorem d_Frame___eq__ (e : Ev K mg base) : DefM P w K mg base 2 (He.ma K (He.ga K "Frame") "__eq__") ["self", "other"] (spEqF K) := by
  obtain ⟨fd, F⟩ := e.c.def_ 14 (d := dm "Frame" "__eq__" "Frame.__eq__" 17 2) rfl
  exact ⟨fd, ok_Frame___eq__ F e, FunD.bindsN F fun _ _ _ _ _ _ us hl => match us, hl with | [_, _], _ => rfl⟩
theorem sc_Frame___str__ : FnScope ["self"] ["self"] (defScope (inClass (top 17) 7)) := ⟨rfl, rfl, rfl, by decide +kernel, rfl, by decide +kernel, by decide +kernel⟩
theorem ok_Frame___str__ {fd : FuncData} (F : FunD K "__str__" "Frame.__str__" (defArgs (inClass (top 17) 7)) (defBody (inClass (top 17) 7)) (defScope (inClass (top 17) 7)) [] [] (He.ma K (He.ga K "Frame") "__str__") fd) (e : Ev K mg base) : FnOk P w K mg base CX0 1 (He.ma K (He.ga K "Frame") "__str__") fd ["self"] (spStrF K) := by
  refine F.ok sc_Frame___str__ (fun vs H Q E h => ?_) (fun cdv A outer s H vs Q E hr h => ?_)
  · obtain ⟨_, _, _, rfl, _⟩ := h
    rfl
  · skip
    refine ⟨_, PSs.nox ((pss_cons (ps_if (pt_cmpR op_isN (kpe_fld (K := K) (pv 0) rfl) pe_non (nomark _))
      (pss_one (ps_ret (pe_joined (.cons (pe_fmt (kpe_fld (K := K) (pv 0) rfl)) (.cons pe_str .nil))))) pss_nil)
      (pss_one (ps_ret (pe_joined (.cons (pe_fmt (kpe_fld (K := K) (pv 0) rfl)) (.cons pe_str (.cons (pe_fmt (kpe_fld (K := K) (pv 0) rfl)) .nil)))))))), ?_⟩
    obtain ⟨p, a, o, rfl, ⟨fp, dx, hp⟩, k⟩ := h
    refine ⟨_, rfl, p, _, dx, _, _, rfl, hp, cls_Frame e, no_Frame_target e, rfl, rfl, _, rfl, ?_⟩
    cases o with
    | none =>
      refine iteT ⟨_, rfl, p, _, dx, _, _, rfl, hp, cls_Frame e, no_Frame_sender e, rfl, .inl ⟨a, rfl, fp.a.fit, a, rfl, ?_, _, rfl, ?_, ?_⟩⟩
      all_goals rw [str_nil]
      · exact fp.a.fit
      · exact Nat.le_trans (str_len_le (n := 2) fp.a (by decide +kernel)) (by decide)
      · rw [fp.text_none]; exact k
    | some z =>
      refine iteF ⟨_, rfl, p, _, dx, _, _, rfl, hp, cls_Frame e, no_Frame_sender e, rfl, .inl ⟨a, rfl, fp.a.fit, a, rfl, ?_, _, rfl, ?_, ?_⟩⟩
      all_goals rw [str_nil]
      · exact fp.a.fit
      · exact Nat.le_trans (str_len_le (n := 2) fp.a (by decide +kernel)) (by decide)
      · refine ⟨_, rfl, p, _, dx, _, _, rfl, hp, cls_Frame e, no_Frame_target e, rfl, .inl ⟨z, rfl, (fp.o z rfl).fit, z, rfl, ?_, ?_⟩⟩
        · exact fp.text_fit
        · exact k
theorem d_Frame___str__ (e : Ev K mg base) : DefM P w K mg base 1 (He.ma K (He.ga K "Frame") "__str__") ["self"] (spStrF K) := by
  obtain ⟨fd, F⟩ := e.c.def_ 15 (d := dm "Frame" "__str__" "Frame.__str__" 17 7) rfl
  exact ⟨fd, ok_Frame___str__ F e, FunD.bindsN F fun _ _ _ _ _ _ us hl => match us, hl with | [_], _ => rfl⟩
theorem frame_mk (e : Ev K mg base) : ∃ fd, FnOk P w K mg base (CX P w) 3 (He.ma K (He.ga K "Frame") "__init__") fd ["self", "sender", "target"] (spFrame K) ∧ Binds K fd ["self", "sender", "target"] [] ∧ Binds K fd ["self", "sender", "target"] [.none] ∧
    KBn K fd ["self", "sender", "target"] 1 ["target", "sender"] (fun us ws => us ++ ws.reverse) (fun us ws => us ++ ws.reverse) := by
  obtain ⟨fd, F, D⟩ := d_Frame___init__ (P := P) (w := w) e
  obtain ⟨ds, v, b⟩ := FunD.binds1 (ps := ["self", "sender", "target"]) D 3 1 (by simp) rfl (fun T kV doc pm an cdv ct us its h1 h2 => match us, its, h1, h2 with
    | [_, _, _], [_], _, _ => ⟨_, rfl, rfl⟩)
  obtain ⟨ds', v', b'⟩ := FunD.binds1 (ps := ["self", "sender", "target"]) D 2 0 (by simp) rfl (fun T kV doc pm an cdv ct us its h1 h2 => match us, its, h1, h2 with
    | [_, _], [_], _, _ => ⟨_, rfl, rfl⟩)
  obtain ⟨its, kb⟩ := FunD.kbindsD (ps := ["self", "sender", "target"]) D 1 ["target", "sender"] (fun us its ws => us ++ ws.reverse) (by simp) (fun r1 _ r3 => r1.append r3.reverse) (fun T kV doc pm an cdv ct us its ws h1 h2 h3 => match us, its, ws, h1, h2, h3 with
    | [_], [_], [_, _], _, _, _ => ⟨_, rfl, rfl⟩)
  cases v
  cases v' with
  | cons r1 r2 =>
    cases r2
    cases r1
    exact ⟨fd, F, b, b', kb⟩
section
variable {X : Cx} {a b : Expr} {ta : TA} {p pos : Pos} {E : XK}
/-- Frame(a, b), Frame(a), Frame(target=b, sender=a) -/
theorem pe_frame2 (e : Ev X.K X.mg X.base) (hr : Room 4 X.A) (hx : Passes (CX X.prog X.w) X E) (hg : Gl X "Frame") (ha : PA X [a, b] ta) (he : starEach [a, b] X.env = (false, eval a X.env) :: starEach [b] X.env := by rfl) (hpl : (backTo pos (starEach [b] X.env)).any (·.1) = false := by rfl) :
    PE X (.Call (.Name "Frame" p) [a, b] [] pos) (tMake (He.ga X.K "Frame") (spFrame X.K) [] E ta) := by
  obtain ⟨fd, F, b, _, _⟩ := frame_mk (P := X.prog) (w := X.w) e
  exact pe_make (mk_Frame e) F hr hg (g_Frame e) b .nil hx ha (by decide) he hpl
theorem pe_frame1 (e : Ev X.K X.mg X.base) (hr : Room 4 X.A) (hx : Passes (CX X.prog X.w) X E) (hg : Gl X "Frame") (ha : PA X [a] ta) (he : starEach [a] X.env = (false, eval a X.env) :: starEach [] X.env := by rfl) (hpl : (backTo pos (starEach [] X.env)).any (·.1) = false := by rfl) :
    PE X (.Call (.Name "Frame" p) [a] [] pos) (tMake (He.ga X.K "Frame") (spFrame X.K) [.non] E ta) := by
  obtain ⟨fd, F, _, b, _⟩ := frame_mk (P := X.prog) (w := X.w) e
  exact pe_make (mk_Frame e) F hr hg (g_Frame e) b (.cons rfl .nil) hx ha (by decide) he hpl
theorem pe_frameK (e : Ev X.K X.mg X.base) (hr : Room 4 X.A) (hx : Passes (CX X.prog X.w) X E) (hg : Gl X "Frame") {p1 p2 : Pos} (ha : PK X [⟨some "target", b, p1⟩, ⟨some "sender", a, p2⟩] ta) (hall : (backToKw pos (keywordEach [⟨some "target", b, p1⟩, ⟨some "sender", a, p2⟩] X.env)).all (·.1.isSome) = true := by rfl) (hks : (backToKw pos (keywordEach [⟨some "target", b, p1⟩, ⟨some "sender", a, p2⟩] X.env)).filterMap (·.1) = (["target", "sender"] : List Str) := by rfl)
    (hpl : ((backTo pos (starEach [] X.env)).any (·.1) || (backToKw pos (keywordEach [⟨some "target", b, p1⟩, ⟨some "sender", a, p2⟩] X.env)).any (·.1.isNone)) = false := by rfl) :
    PE X (.Call (.Name "Frame" p) [] [⟨some "target", b, p1⟩, ⟨some "sender", a, p2⟩] pos) (tMakeK (He.ga X.K "Frame") 0 2 (spFrame X.K) (fun us ws => us ++ ws.reverse) E tNil ta) := by
  obtain ⟨fd, F, _, _, kb⟩ := frame_mk (P := X.prog) (w := X.w) e
  exact pe_makeK0 (mk_Frame e) F hr hg (g_Frame e) kb hx ha hall hks (by decide) hpl
end

theorem sc_BadText___init__ : FnScope ["self", "line", "word"] ["self", "line", "word"] (defScope (inClass (top 8) 0)) := ⟨rfl, rfl, rfl, by decide +kernel, rfl, by decide +kernel, by decide +kernel⟩
theorem ok_BadText___init__ {fd : FuncData} (F : FunD K "__init__" "BadText.__init__" (defArgs (inClass (top 8) 0)) (defBody (inClass (top 8) 0)) (defScope (inClass (top 8) 0)) [] [] (He.ma K (He.ga K "BadText") "__init__") fd) (e : Ev K mg base) : FnOk P w K mg base CX0 1 (He.ma K (He.ga K "BadText") "__init__") fd ["self", "line", "word"] (spErr2 K (He.ga K "BadText") "line" "word") := by
  refine F.ok sc_BadText___init__ (fun vs H Q E h => ?_) (fun cdv A outer s H vs Q E hr h => ?_)
  · obtain ⟨_, _, _, rfl, _⟩ := h
    rfl
  · skip
    refine ⟨_, PSs.nox ((pss_cons (ps_ost (pv 0) (pv 1))
      (pss_one (ps_ost (pv 0) (pv 2))))), ?_⟩
    obtain ⟨a, u, v, rfl, ha, k⟩ := h
    refine ⟨_, rfl, _, rfl, a, _, rfl, (err_BadText e).o, (no_BadText_line e), .inl ⟨ha, fun dx h1 h2 => ?_⟩⟩
    refine ⟨_, rfl, _, rfl, a, _, rfl, (err_BadText e).o, (no_BadText_word e), .inr ⟨dx, _, upd_same, (by rw [upd_ne h2]; exact upd_same), ?_, ?_⟩⟩
    · show 1 ≤ 900
      decide
    · exact k dx _ h1 h2 (by rw [upd_ne (Ne.symm h2)]; exact upd_same) upd_same fun b n1 n2 => by rw [upd_ne n2, upd_ne n1, upd_ne n2]
theorem d_BadText___init__ (e : Ev K mg base) : DefM P w K mg base 1 (He.ma K (He.ga K "BadText") "__init__") ["self", "line", "word"] (spErr2 K (He.ga K "BadText") "line" "word") := by
  obtain ⟨fd, F⟩ := e.c.def_ 16 (d := dm "BadText" "__init__" "BadText.__init__" 8 0) rfl
  exact ⟨fd, ok_BadText___init__ F e, FunD.bindsN F fun _ _ _ _ _ _ us hl => match us, hl with | [_, _, _], _ => rfl⟩
theorem sc_words_in : FnScope ["text"] ["text"] (defScope (top 19)) := ⟨rfl, rfl, rfl, by decide +kernel, rfl, by decide +kernel, by decide +kernel⟩
theorem ok_words_in {fd : FuncData} (F : FunD K "words_in" "words_in" (defArgs (top 19)) (defBody (top 19)) (defScope (top 19)) [] [] (He.ga K "words_in") fd) (e : Ev K mg base) : FnOk P w K mg base (CX P w) 3 (He.ga K "words_in") fd ["text"] (spWords K) := by
  refine F.ok sc_words_in (fun vs H Q E h => ?_) (fun cdv A outer s H vs Q E hr h => ?_)
  · obtain ⟨_, rfl, _⟩ := h
    rfl
  · skip
    refine ⟨_, ((pss_cons (ps_if (pt_not (pt_val (pe_callB (kcall_isi (K := K)) (by rfl) (f_isinstance e) (by decide +kernel) (pa_cons (pv 0) (pa_cons (pe_bltn (by rfl) (f_str e) (by decide +kernel) (show RelV (.ty "str") (.type "str") from rfl)) pa_nil)))))
      (pss_one (ps_raise2 (err_BadText e) (d_BadText___init__ e) (hr.mono (by decide)) rfl (takes_of rfl rfl rfl rfl) rfl (g_BadText e) (pa_cons pe_int (pa_cons pe_int pa_nil)))) pss_nil)
      (pss_one (ps_ret (pe_split (pv 0) pe_str))))), ?_⟩
    obtain ⟨v, rfl, h⟩ := h
    rcases h with ⟨z, rfl, hz, k⟩ | ⟨t, ty, kt, k⟩
    · refine ⟨_, rfl, _, _, _, _, true, rfl, .ty _, .base (.str _), kit_same, _, rfl, iteF ?_⟩
      refine ⟨_, rfl, ⟨_, rfl⟩, z, _, rfl, rfl, by decide +kernel, hz, fun l hl => k l hl⟩
    · refine ⟨_, rfl, _, _, _, _, false, rfl, .ty _, ty, kt, _, rfl, iteT ?_⟩
      exact ⟨_, _, rfl, fun d H' s n e => k d H' s n e⟩
theorem d_words_in (e : Ev K mg base) : DefC P w K mg base 3 "words_in" ["text"] (spWords K) := by
  obtain ⟨fd, F⟩ := e.c.def_ 17 (d := dd "words_in" 19) rfl
  exact ⟨⟨fd, ok_words_in F e, FunD.bindsN F fun _ _ _ _ _ _ us hl => match us, hl with | [_], _ => rfl⟩, F.kp, He.glo_ok e.X e.G (e.c.fact 38 rfl)⟩
theorem sc_hosts_told : FnScope ["words", "at", "end", "target"] ["words", "at", "end"] (defScope (top 20)) := ⟨rfl, rfl, rfl, by decide +kernel, rfl, by decide +kernel, by decide +kernel⟩
theorem ok_hosts_told {fd : FuncData} (F : FunD K "hosts_told" "hosts_told" (defArgs (top 20)) (defBody (top 20)) (defScope (top 20)) [] [] (He.ga K "hosts_told") fd) (e : Ev K mg base) : FnOk P w K mg base (CX P w) 3 (He.ga K "hosts_told") fd ["words", "at", "end"] (spTold K) := by
  refine F.ok sc_hosts_told (fun vs H Q E h => ?_) (fun cdv A outer s H vs Q E hr h => ?_)
  · obtain ⟨_, _, _, _, rfl, _⟩ := h
    rfl
  · skip
    refine ⟨_, ((pss_cons (ps_if (PW.pt (pw_or (pt_cmpR op_ge (pv 1) (pe_callB (kcall_len_seq (K := K)) (by rfl) (f_len e) (by decide +kernel) (pa_cons (pv 0) pa_nil)) (nomark _)) (pw_or1 (pt_not (pt_val (pe_def (d_is_name (P := P) (w := w) (K := K) (mg := mg) (base := base) e) (hr.mono (by decide)) (by rfl) (pa_cons (pe_ix (kix_list (K := K)) (pv 0) (pv 1) (fun _ _ => rfl)) pa_nil)))))))
      (pss_one (ps_raise2 (err_BadText e) (d_BadText___init__ e) (hr.mono (by decide)) rfl (takes_of rfl rfl rfl rfl) rfl (g_BadText e) (pa_cons pe_int (pa_cons (pv 1) pa_nil)))) pss_nil)
      (pss_cons (ps_if (pt_cmpR op_ge (pe_op op_add (pv 1) pe_int) (pe_callB (kcall_len_seq (K := K)) (by rfl) (f_len e) (by decide +kernel) (pa_cons (pv 0) pa_nil)) (nomark _))
      (pss_one (ps_raise2 (err_BadText e) (d_BadText___init__ e) (hr.mono (by decide)) rfl (takes_of rfl rfl rfl rfl) rfl (g_BadText e) (pa_cons pe_int (pa_cons (pe_op op_add (pv 1) pe_int) pa_nil)))) pss_nil)
      (pss_cons (ps_set (i := 3) sc_hosts_told.nd rfl (Or.inl rfl) (kpe_bm (K := K) PySem.F.plainAttrs_str PySem.F.slot_str_removesuffix PySem.F.type_str_removesuffix mt_removesuffix (pe_ix (kix_list (K := K)) (pv 0) (pe_op op_add (pv 1) pe_int) (fun _ _ => rfl)) (pa_cons (pv 2) pa_nil)))
      (pss_cons (ps_if (pt_cmpR op_eq (pv 3) pe_str (nomark _))
      (pss_one (ps_ret (pe_tup (pa_cons (pe_ix (kix_list (K := K)) (pv 0) (pv 1) (fun _ _ => rfl)) (pa_cons pe_non pa_nil))))) pss_nil)
      (pss_cons (ps_if (PW.pt (pw_or (pt_not (pt_val (pe_def (d_is_name (P := P) (w := w) (K := K) (mg := mg) (base := base) e) (hr.mono (by decide)) (by rfl) (pa_cons (pv 3) pa_nil)))) (pw_or1 (pt_cmpR op_eq (pv 3) (pe_ix (kix_list (K := K)) (pv 0) (pv 1) (fun _ _ => rfl)) (nomark _)))))
      (pss_one (ps_raise2 (err_BadText e) (d_BadText___init__ e) (hr.mono (by decide)) rfl (takes_of rfl rfl rfl rfl) rfl (g_BadText e) (pa_cons pe_int (pa_cons (pe_op op_add (pv 1) pe_int) pa_nil)))) pss_nil)
      (pss_one (ps_ret (pe_tup (pa_cons (pe_ix (kix_list (K := K)) (pv 0) (pv 1) (fun _ _ => rfl)) (pa_cons (pv 3) pa_nil))))))))))), ?_⟩
    obtain ⟨l, ws, i, b, rfl, hl, hi, hw, k1, k2⟩ := h
    have hlen : ((ws.map V.str).length : Int) = (ws.length : Int) := by rw [List.length_map]
    refine ⟨_, rfl, _, rfl, l, _, rfl, .inl hl, _, _, rfl, rfl, _, rfl, ?_⟩
    cases e0 : ws[i]? with
    | none =>
      have h0 := List.getElem?_eq_none_iff.mp e0
      refine ite2 (fun _ => ?_) fun hn => absurd hn (by simp; omega)
      exact iteT ⟨_, rfl, _, _, rfl, fun d H' s n e => k1 i (by unfold hostsT; rw [e0]) d H' s n e⟩
    | some w =>
      obtain ⟨h0, _⟩ := List.getElem?_eq_some_iff.mp e0
      refine ite2 (fun hn => absurd hn (by simp; omega)) fun _ => ?_
      have at0 : atI (ws.map V.str) (i : Int) = some (.str w) := atI_nat (by rw [List.getElem?_map, e0]; rfl)
      refine ⟨_, rfl, _, rfl, l, _, _, .str w, rfl, rfl, hl, at0, ?_⟩
      dsimp only [tNil]
      refine is_named (.inl ⟨w, rfl, hw w (List.mem_of_getElem? e0)⟩) fun H1 s1 => ⟨_, rfl, ?_⟩
      have hl1 := seqL_same s1 hl
      cases en : nmB w with
      | false =>
        refine ite2 (fun _ => ?_) fun hn => absurd hn (by simp [vnm, en])
        exact ⟨_, rfl, _, _, rfl, fun d H' s n e => k1 i (by unfold hostsT; rw [e0]; simp [en]) d H' (s1.trans s) (same_none s1 n) e⟩
      | true =>
        refine ite2 (fun hn => absurd hn (by simp [vnm, en])) fun _ => ?_
        refine ⟨_, rfl, _, _, rfl, rfl, _, rfl, l, _, rfl, .inl hl1, _, _, rfl, rfl, _, rfl, ?_⟩
        cases e1 : ws[i + 1]? with
        | none =>
          have h1 := List.getElem?_eq_none_iff.mp e1
          refine ite2 (fun _ => ?_) fun hn => absurd hn (by simp; omega)
          exact ⟨_, rfl, _, _, rfl, rfl, _, _, rfl, fun d H' s n e => k1 (i + 1) (by unfold hostsT; rw [e0]; simp [en, e1]) d H' (s1.trans s) (same_none s1 n) e⟩
        | some y =>
          obtain ⟨h1, _⟩ := List.getElem?_eq_some_iff.mp e1
          refine ite2 (fun hn => absurd hn (by simp; omega)) fun _ => ?_
          have at1 : atI (ws.map V.str) ((i : Int) + 1) = some (.str y) := atI_nat (j := i + 1) (by rw [List.getElem?_map, e1]; rfl)
          refine ⟨_, rfl, _, rfl, _, _, rfl, rfl, l, _, _, .str y, rfl, rfl, hl1, at1, ?_⟩
          have hy := hw y (List.mem_of_getElem? e1)
          refine ⟨rfl, _, rfl, y, b, rfl, rfl, hy, ?_⟩
          have hg := Nat.le_trans (rs_len y b) hy
          have un : ∀ r, (if Txt.removesuffix y b = "*" then .inr (w, none) else if nmB (Txt.removesuffix y b) = false ∨ Txt.removesuffix y b = w then .inl (i + 1) else .inr (w, some (Txt.removesuffix y b))) = r → hostsT ws i b = r := by
            intro r e
            unfold hostsT
            rw [e0]
            simp only [en, e1]
            exact e
          generalize Txt.removesuffix y b = g at hg un
          refine ⟨_, rfl, rfl, _, rfl, ite2 (fun he => ?_) fun he => ?_⟩
          · have he : g = "*" := by simpa using he
            refine ⟨_, rfl, _, rfl, l, _, _, .str w, rfl, rfl, hl1, at0, by show 2 ≤ sizeLine; decide, fun t ht => ?_⟩
            exact k2 w none (un _ (by rw [if_pos he])) t _ (s1.trans (same_new ht)) (same_none s1 ht) upd_same
          · have he : ¬ g = "*" := by simpa using he
            refine ⟨_, rfl, ?_⟩
            dsimp only [tNil]
            refine is_named (.inl ⟨g, rfl, hg⟩) fun H2 s2 => ⟨_, rfl, ?_⟩
            have hl2 := seqL_same s2 hl1
            cases eg : nmB g with
            | false =>
              refine ite2 (fun _ => ?_) fun hn => absurd hn (by simp [vnm, eg])
              exact iteT ⟨_, rfl, _, _, rfl, rfl, _, _, rfl, fun d H' s n e => k1 (i + 1) (un _ (by rw [if_neg he, if_pos (.inl eg)])) d H' ((s1.trans s2).trans s) (same_none (s1.trans s2) n) e⟩
            | true =>
              refine ite2 (fun hn => absurd hn (by simp [vnm, eg])) fun _ => ?_
              refine ⟨_, rfl, _, rfl, _, rfl, l, _, _, .str w, rfl, rfl, hl2, at0, rfl, _, rfl, ite2 (fun hq => ?_) fun hq => ?_⟩
              · have hq : g = w := by simpa using hq
                exact ⟨_, rfl, _, _, rfl, rfl, _, _, rfl, fun d H' s n e => k1 (i + 1) (un _ (by rw [if_neg he, if_pos (.inr hq)])) d H' ((s1.trans s2).trans s) (same_none (s1.trans s2) n) e⟩
              · have hq : ¬ g = w := by simpa using hq
                refine ⟨_, rfl, _, rfl, l, _, _, .str w, rfl, rfl, hl2, at0, _, rfl, by show 2 ≤ sizeLine; decide, fun t ht => ?_⟩
                exact k2 w (some g) (un _ (by rw [if_neg he, if_neg (by simp [eg, hq])])) t _ ((s1.trans s2).trans (same_new ht)) (same_none (s1.trans s2) ht) upd_same
theorem d_hosts_told (e : Ev K mg base) : DefC P w K mg base 3 "hosts_told" ["words", "at", "end"] (spTold K) := by
  obtain ⟨fd, F⟩ := e.c.def_ 18 (d := dd "hosts_told" 20) rfl
  exact ⟨⟨fd, ok_hosts_told F e, FunD.bindsN F fun _ _ _ _ _ _ us hl => match us, hl with | [_, _, _], _ => rfl⟩, F.kp, He.glo_ok e.X e.G (e.c.fact 39 rfl)⟩
theorem sc_TooMany___init__ : FnScope ["self", "what", "most"] ["self", "what", "most"] (defScope (inClass (top 9) 0)) := ⟨rfl, rfl, rfl, by decide +kernel, rfl, by decide +kernel, by decide +kernel⟩
theorem ok_TooMany___init__ {fd : FuncData} (F : FunD K "__init__" "TooMany.__init__" (defArgs (inClass (top 9) 0)) (defBody (inClass (top 9) 0)) (defScope (inClass (top 9) 0)) [] [] (He.ma K (He.ga K "TooMany") "__init__") fd) (e : Ev K mg base) : FnOk P w K mg base CX0 1 (He.ma K (He.ga K "TooMany") "__init__") fd ["self", "what", "most"] (spErr2 K (He.ga K "TooMany") "what" "most") := by
  refine F.ok sc_TooMany___init__ (fun vs H Q E h => ?_) (fun cdv A outer s H vs Q E hr h => ?_)
  · obtain ⟨_, _, _, rfl, _⟩ := h
    rfl
  · skip
    refine ⟨_, PSs.nox ((pss_cons (ps_ost (pv 0) (pv 1))
      (pss_one (ps_ost (pv 0) (pv 2))))), ?_⟩
    obtain ⟨a, u, v, rfl, ha, k⟩ := h
    refine ⟨_, rfl, _, rfl, a, _, rfl, (err_TooMany e).o, (no_TooMany_what e), .inl ⟨ha, fun dx h1 h2 => ?_⟩⟩
    refine ⟨_, rfl, _, rfl, a, _, rfl, (err_TooMany e).o, (no_TooMany_most e), .inr ⟨dx, _, upd_same, (by rw [upd_ne h2]; exact upd_same), ?_, ?_⟩⟩
    · show 1 ≤ 900
      decide
    · exact k dx _ h1 h2 (by rw [upd_ne (Ne.symm h2)]; exact upd_same) upd_same fun b n1 n2 => by rw [upd_ne n2, upd_ne n1, upd_ne n2]
theorem d_TooMany___init__ (e : Ev K mg base) : DefM P w K mg base 1 (He.ma K (He.ga K "TooMany") "__init__") ["self", "what", "most"] (spErr2 K (He.ga K "TooMany") "what" "most") := by
  obtain ⟨fd, F⟩ := e.c.def_ 19 (d := dm "TooMany" "__init__" "TooMany.__init__" 9 0) rfl
  exact ⟨fd, ok_TooMany___init__ F e, FunD.bindsN F fun _ _ _ _ _ _ us hl => match us, hl with | [_, _, _], _ => rfl⟩
/-- a frame that stands somewhere -/
structure FrD where
  p : Addr
  a : Str
  o : Option Str
def FrD.pair (f : FrD) : Str × Option Str := (f.a, f.o)
def FrsAt (K : PySem.W.Frag) (H : Hp) (fs : List FrD) : Prop := ∀ f ∈ fs, IsFr K H f.p f.a f.o
theorem FrsAt.same {K : PySem.W.Frag} {H H' : Hp} {fs : List FrD} (s : Same H H') (h : FrsAt K H fs) : FrsAt K H' fs := fun f hf => (h f hf).same s
/-- the names that frames tell, the senders first -/
def namesF (fs : List FrD) : List Str := fs.map (·.a) ++ fs.filterMap (·.o)
def framesV (fs : List FrD) : List V := fs.map fun f => V.ref f.p
theorem fr_ref {fs : List FrD} {i : Nat} {v : V} (h : (framesV fs)[i]? = some v) : ∃ f, fs[i]? = some f ∧ V.ref f.p = v := by
  unfold framesV at h
  rw [List.getElem?_map] at h
  exact Option.map_eq_some_iff.mp h
theorem fm_some {α β : Type} (f : α → β) (l : List α) : (l.filterMap fun x => some (f x)) = l.map f := by
  induction l with
  | nil => rfl
  | cons a l ih => simp [ih]
theorem framesV_snoc (fs : List FrD) (f : FrD) : framesV (fs ++ [f]) = framesV fs ++ [V.ref f.p] := by
  unfold framesV
  rw [List.map_append]
  rfl
theorem framesV_len (fs : List FrD) : (framesV fs).length = fs.length := List.length_map ..
def HistAt (K : PySem.W.Frag) (H : Hp) (x : Addr) (fs : List FrD) : Prop := ∃ (dx t u : Addr) (hs : List Str), H x = some (.ins (He.ga K "History") dx [("_frames", .ref t), ("hosts", .ref u)]) ∧ H t = some (.tup (framesV fs)) ∧ H u = some (.tup (hs.map V.str)) ∧ AscOf (namesF fs) hs ∧ FrsAt K H fs
theorem HistAt.same {K : PySem.W.Frag} {H H' : Hp} {x : Addr} {fs : List FrD} (s : Same H H') (h : HistAt K H x fs) : HistAt K H' x fs := let ⟨dx, t, u, hs, h1, h2, h3, h4, h5⟩ := h; ⟨dx, t, u, hs, s _ _ h1, s _ _ h2, s _ _ h3, h4, h5.same s⟩
def spHist (K : PySem.W.Frag) : Sp := fun vs H Q E => ∃ (x t dx : Addr) (fs : List FrD), vs = [.ref x, .ref t] ∧ H x = some (.ins (He.ga K "History") dx []) ∧ H t = some (.tup (framesV fs)) ∧ t ≠ x ∧ FrsAt K H fs ∧
  (60 < fs.length → ∀ d H', Same H H' → H d = none → H' d = some (.xd [("most", .int 60), ("what", .str "frames")]) → E (.ref (He.ga K "TooMany")) (some d) H') ∧
  (fs.length ≤ 60 → ∀ H', But x H H' → HistAt K H' x fs → Q .non H')
theorem sc_History___init__ : FnScope ["self", "frames", "at", "frame", "targets"] ["self", "frames"] (defScope (inClass (top 22) 1)) := ⟨rfl, rfl, rfl, by decide +kernel, rfl, by decide +kernel, by decide +kernel⟩
theorem d_History___init__ (e : Ev K mg base) : FnR P w K mg base (CX P w) 4 (He.ma K (He.ga K "History") "__init__") (starSp 1 (spHist K)) := by
  obtain ⟨fd, F⟩ := e.c.def_ 20 (d := dm "History" "__init__" "History.__init__" 22 1) rfl
  obtain ⟨oc, od, dV, kV, doc, pm, an, cdv, ct, osl, rfl, lk, hcd, hD, hK⟩ := F.ex
  rcases hD with ⟨_, rfl⟩ | ⟨ne, _⟩
  rotate_left
  · exact absurd rfl ne
  refine StX.fn_star (ps := ["self"]) (pv := "frames") (sp := spHist K) lk hcd sc_History___init__ StX.cxUp (StX.bind_star1 (B := fun us => bindArgs _ ⟨us, []⟩) (fun _ => rfl) (fun _ _ _ => rfl)) (fun A outer s H vs Q E hr h => ?_)
  refine ⟨_, ((pss_cons (ps_for (passes_of rfl) rfl (kpi_enumT (K := K) (by rfl) (f_enumerate e) (pa_cons (pv 1) pa_nil)) (pg_tup (by rfl) (pgs_cons (pg_name (i := 2) sc_History___init__.nd rfl (Or.inl rfl)) (pgs_cons (pg_name (i := 3) sc_History___init__.nd rfl (Or.inl rfl)) pgs_nil)))
      (pss_one (ps_if (pt_not (pt_val (pe_callB (kcall_isi (K := K)) (by rfl) (f_isinstance e) (by decide +kernel) (pa_cons (pv 3) (pa_cons (pe_glob (by rfl) (g_Frame e) (show RelV (.ref (He.ga K "Frame")) (.ref (He.ga K "Frame")) from rfl)) pa_nil)))))
      (pss_one ps_never) pss_nil)))
      (pss_cons (ps_if (pt_cmpR op_gt (pe_callB (kcall_len_seq (K := K)) (by rfl) (f_len e) (by decide +kernel) (pa_cons (pv 1) pa_nil)) (kpe_con (K := K) (pv 0) rfl) (nomark _))
      (pss_one (ps_raise2 (err_TooMany e) (d_TooMany___init__ e) (hr.mono (by decide)) rfl (takes_of rfl rfl rfl rfl) rfl (g_TooMany e) (pa_cons pe_str (pa_cons (kpe_con (K := K) (pv 0) rfl) pa_nil)))) pss_nil)
      (pss_cons (ps_setLc (i := 4) (own := [("frame", 3)]) (by rfl) sc_History___init__.nd rfl rfl (sw_true rfl rfl rfl (by decide +kernel)) (kpi_tup (K := K) (pv 1)) (blkOk_by (own := [("frame", 3)]) (N := ["self", "frames", "at", "frame", "targets"]) (sc := defScope (inClass (top 22) 1)) (by decide +kernel)) (fun _ _ _ _ _ => (pg_name (i := 3) sc_History___init__.nd rfl (Or.inl rfl))) (fun _ _ _ _ _ => (pts_one (pt_cmpR op_notN (kpe_fld (K := K) (pv 3) rfl) pe_non (nomark _)))) (fun _ _ _ _ _ => (kpe_fld (K := K) (pv 3) rfl)))
      (pss_cons (ps_fld (pv 0) (pv 1) rfl)
      (pss_one (ps_fld (pv 0) (pe_def (d_ascending (P := P) (w := w) (K := K) (mg := mg) (base := base) e) (hr.mono (by decide)) (by rfl) (pa_cons (pe_op op_cat (pe_lc (own := [("frame", 3)]) (by rfl) sc_History___init__.nd (kpi_tup (K := K) (pv 1)) (blkOk_by (own := [("frame", 3)]) (N := ["self", "frames", "at", "frame", "targets"]) (sc := defScope (inClass (top 22) 1)) (by decide +kernel)) (fun _ _ _ _ _ => (pg_name (i := 3) sc_History___init__.nd rfl (Or.inl rfl))) (fun _ _ _ _ _ => pts_nil) (fun _ _ _ _ _ => (kpe_fld (K := K) (pv 3) rfl))) (pv 4)) pa_nil)) rfl))))))), ?_⟩
  obtain ⟨x, t, dx, fs, rfl, hx, ht, ntx, hf, k1, k2⟩ := h
  refine ⟨_, rfl, _, _, rfl, (SqT.of ht), ?_⟩
  refine for_it walk_enumT (fun i σ H' => (∃ x2 x3 x4 : Option V, σ = [some (.ref x), some (.ref t), x2, x3, x4]) ∧ Same H H') ⟨⟨_, _, _, rfl⟩, Same.refl _⟩ (fun i σ H' hi w => SqT.of (w.2 _ _ ht)) ?_ ?_
  · rintro i y σ H2 H3 hi ⟨⟨x2, x3, x4, rfl⟩, s2⟩ ⟨T, u, v, rfl, nT, rfl, hu, hv⟩
    cases hu
    obtain ⟨f, hfi, rfl⟩ := fr_ref hv
    obtain ⟨fo, dxf, ef⟩ := hf f (List.mem_of_getElem? hfi)
    generalize gb4 : upd H2 T (HO.tup [V.int (↑i : Int), V.ref f.p]) = Hb3
    obtain ⟨sb6, eb5⟩ := gen_new gb4 nT
    clear gb4
    refine ⟨_, _, rfl, (SqT.of eb5), rfl, _, _, rfl, _, _, rfl, rfl, _, rfl, _, _, _, _, _, rfl, (.own _), ((own_Frame e).ty (cls_Frame e) (sb6 _ _ (s2 _ _ ef))), kit_same, _, rfl, ?_⟩
    show @ite _ _ (_) _ _
    refine ite_no (by decide +kernel) ?_
    exact ⟨⟨_, ⟨_, ⟨_, rfl⟩⟩⟩, (s2.trans sb6)⟩
  · rintro σ H2 ⟨⟨x2, x3, x4, rfl⟩, s2⟩
    obtain ⟨uc, con⟩ := con_History_MOST e
    have hx2 := s2 _ _ hx
    have ht2 := s2 _ _ ht
    refine ⟨_, rfl, _, _, rfl, (.inr (SqT.of ht2)), _, rfl, _, _, _, _, _, _, rfl, hx2, (cls_History e), con, rfl, ?_⟩
    refine ⟨_, _, rfl, rfl, _, rfl, ?_⟩
    show @ite _ _ (_) _ _
    refine ite2 (fun cb1 => ?_) (fun cb1 => ?_)
    · have cb1 := of_decide_eq_true cb1
      refine ⟨_, rfl, _, _, _, _, _, _, rfl, hx2, (cls_History e), con, rfl, _, _, rfl, fun db7 Hb8 sb9 nb10 eb11 => ?_⟩
      exact k1 (by rw [framesV_len] at cb1; omega) _ _ (s2.trans sb9) (s2.free nb10) eb11
    · have cb1 := of_dec cb1
      refine ⟨_, rfl, _, rfl, ⟨_, (SqT.of ht2)⟩, fun Db14 nb15 => ?_⟩
      have few60 : fs.length ≤ 60 := by rw [framesV_len] at cb1; omega
      have hf2 := hf.same s2
      refine lc_fmA (walk_tup (K := K) (a := t) (xs := framesV fs)) fs (fun f => V.ref f.p) (fun f => f.o.map V.str) (by rw [framesV_len]) (yat _) nb15 (fun H' s => SqT.of (s _ _ ht2)) (fits (by omega)) (fun f hfm H3 s3 Kt Kf kt kf => ⟨rfl, ?_⟩) fun H3 s3 eD => ?_
      · obtain ⟨fo, dxf, ef⟩ := hf2 f hfm
        cases eo : f.o with
        | none =>
          rw [eo] at kf ef
          refine ⟨_, rfl, _, _, _, _, _, rfl, (s3 _ _ ef), (cls_Frame e), (no_Frame_target e), rfl, rfl, _, rfl, ?_⟩
          show @ite _ _ (_) _ _
          refine ite_diff ?_
          exact kf _ rfl (Same.refl _)
        | some g =>
          rw [eo] at kt ef
          refine ⟨_, rfl, _, _, _, _, _, rfl, (s3 _ _ ef), (cls_Frame e), (no_Frame_target e), rfl, rfl, _, rfl, ?_⟩
          show @ite _ _ (_) _ _
          refine iteT ?_
          refine ⟨_, rfl, _, _, _, _, _, rfl, (s3 _ _ ef), (cls_Frame e), (no_Frame_target e), rfl, ?_⟩
          exact kt _ _ rfl (Same.refl _)
      · have eD' : H3 Db14 = some (.lst ((fs.filterMap (·.o)).map V.str)) := by
          rw [eD, List.map_filterMap]
        refine ⟨_, rfl, _, rfl, _, _, _, _, rfl, (s3 _ _ hx2), (cls_History e), (no_History__frames e), (by simp only [List.length_map, List.length_append, List.length_cons, List.length_nil, List.length_take, List.length_drop, List.length_reverse]; omega), ?_⟩
        generalize ge2 : upd H3 x (HO.ins (He.ga K (Str.ofString "History")) dx (putF (Str.ofString "_frames") (V.ref t) [])) = He1
        obtain ⟨be4, ee3⟩ := gen_mut ge2
        clear ge2
        refine ⟨_, rfl, _, rfl, ⟨_, (SqT.of (be4 _ _ ntx (s3 _ _ ht2)))⟩, fun De7 ne8 => ?_⟩
        have eT := be4 _ _ ntx (s3 _ _ ht2)
        have eDx : He1 Db14 = some (.lst ((fs.filterMap (·.o)).map V.str)) := be4 _ _ (ne_of_none hx2 nb15).symm eD'
        have npx : ∀ f ∈ fs, f.p ≠ x := fun f hfm q => by
          obtain ⟨fo, dxf, ef⟩ := hf2 f hfm
          rw [q, hx2] at ef
          exact absurd (HO.ins.inj (Option.some.inj ef)).2.2 nofun
        have hf4 : FrsAt K He1 fs := fun f hfm => by
          obtain ⟨fo, dxf, ef⟩ := hf2 f hfm
          exact ⟨fo, dxf, be4 _ _ (npx f hfm) (s3 _ _ ef)⟩
        refine lc_fmA (walk_tup (K := K) (a := t) (xs := framesV fs)) fs (fun f => V.ref f.p) (fun f => some (.str f.a)) (by rw [framesV_len]) (yat _) ne8 (fun H' s => SqT.of (s _ _ eT)) (fits (by omega)) (fun f hfm H5 s5 Kt Kf kt kf => ⟨rfl, ?_⟩) fun H5 s5 eS => ?_
        · obtain ⟨fo, dxf, ef⟩ := hf4 f hfm
          refine ⟨_, rfl, _, _, _, _, _, rfl, (s5 _ _ ef), (cls_Frame e), (no_Frame_sender e), rfl, ?_⟩
          exact kt _ _ rfl (Same.refl _)
        · have eS' : H5 De7 = some (.lst ((fs.map (·.a)).map V.str)) := by
            rw [eS, fm_some, List.map_map]
            rfl
          have lo : (fs.filterMap (·.o)).length ≤ fs.length := List.length_filterMap_le ..
          refine ⟨_, rfl, _, _, _, _, rfl, rfl, eS', (s5 _ _ eDx), (fit (by simp only [List.length_map]; omega)), fun pg3 ng4 => ?_⟩
          generalize gg6 : upd H5 pg3 (HO.lst (List.map V.str (List.map (fun x => x.a) fs) ++ List.map V.str (List.filterMap (fun x => x.o) fs))) = Hg5
          obtain ⟨sg8, eg7⟩ := gen_new gg6 ng4
          clear gg6
          simp only [List.append_nil, strs_app, strs_snoc, ← List.map_reverse] at eg7
          refine ⟨_, _, rfl, (.inl (SqL.of eg7)), (by rw [List.length_append, List.length_map]; omega), fun ysg16 tg17 Hg18 hg19 sg20 ng21 eg22 => ?_⟩
          refine ⟨_, rfl, _, _, _, _, rfl, (sg20 _ _ (sg8 _ _ (s5 _ _ ee3))), (cls_History e), (no_History_hosts e), (by show 1 < 1000; decide), ?_⟩
          generalize gg24 : upd Hg18 x (HO.ins (He.ga K (Str.ofString "History")) dx (putF (Str.ofString "hosts") (V.ref tg17) (putF (Str.ofString "_frames") (V.ref t) []))) = Hg23
          obtain ⟨bg26, eg25⟩ := gen_mut gg24
          clear gg24
          refine k2 few60 _ (((((((Same.but s2).trans (Same.but s3)).trans be4).trans (Same.but s5)).trans (Same.but sg8)).trans (Same.but sg20)).trans bg26) ⟨dx, t, tg17, ysg16, eg25, bg26 _ _ ntx (sg20 _ _ (sg8 _ _ (s5 _ _ eT))), bg26 _ _ (ne_of eg22 (sg20 _ _ (sg8 _ _ (s5 _ _ ee3))) nofun) eg22, hg19, fun f hfm => ?_⟩
          obtain ⟨fo, dxf, ef⟩ := hf4 f hfm
          exact ⟨fo, dxf, bg26 _ _ (npx f hfm) (sg20 _ _ (sg8 _ _ (s5 _ _ ef)))⟩
def HistC (K : PySem.W.Frag) : Addr := He.ga K "History"
/-- a history of frames that stand -/
theorem hist_new {K : PySem.W.Frag} {H : Hp} {fs : List FrD} {Q : Addr → Hp → Prop} {E : XK} (hf : FrsAt K H fs) (hl : fs.length ≤ sizeLine)
    (k1 : 60 < fs.length → ∀ d H', Same H H' → H d = none → H' d = some (.xd [("most", .int 60), ("what", .str "frames")]) → E (.ref (He.ga K "TooMany")) (some d) H')
    (k2 : fs.length ≤ 60 → ∀ x H', Same H H' → H x = none → HistAt K H' x fs → Q x H') : newSp (He.ga K "History") (starSp 1 (spHist K)) (framesV fs) H Q E := by
  refine new_star (by rw [framesV_len]; exact hl) fun x t dx H1 s1 nx ex et ntx => ?_
  refine ⟨x, t, dx, fs, rfl, ex, et, ntx, hf.same s1, fun m d H' s nd e => k1 m d H' (s1.trans s) (same_none s1 nd) e, fun m H' b h => ⟨rfl, k2 m x H' (Same.skip s1 b nx) nx h⟩⟩
def spHFrames (K : PySem.W.Frag) : Sp := fun vs H Q _ => ∃ (x : Addr) (fs : List FrD), vs = [.ref x] ∧ HistAt K H x fs ∧ ∀ t, H t = some (.tup (framesV fs)) → Q (.ref t) H
theorem sc_History_frames : FnScope ["self"] ["self"] (defScope (inClass (top 22) 2)) := ⟨rfl, rfl, rfl, by decide +kernel, rfl, by decide +kernel, by decide +kernel⟩
theorem ok_History_frames {fd : FuncData} (F : FunD K "frames" "History.frames" (defArgs (inClass (top 22) 2)) (defBody (inClass (top 22) 2)) (defScope (inClass (top 22) 2)) [] [] (geA K "History" "frames") fd) (e : Ev K mg base) : FnOk P w K mg base CX0 1 (geA K "History" "frames") fd ["self"] (spHFrames K) := by
  refine F.ok sc_History_frames (fun vs H Q E h => ?_) (fun cdv A outer s H vs Q E hr h => ?_)
  · obtain ⟨_, _, rfl, _⟩ := h
    rfl
  · skip
    refine ⟨_, PSs.nox ((pss_one (ps_ret (kpe_fld (K := K) (pv 0) rfl)))), ?_⟩
    obtain ⟨x, fs, rfl, ⟨dx, t, u, hs, h1, h2, h3, h4, h5⟩, k⟩ := h
    refine ⟨_, rfl, _, _, _, _, _, rfl, h1, (cls_History e), (no_History__frames e), rfl, ?_⟩
    exact k _ h2
theorem d_History_frames (e : Ev K mg base) : PropOf K (He.ga K "History") "frames" (prA K "History" "frames") (geA K "History" "frames") ∧ DefM P w K mg base 1 (geA K "History" "frames") ["self"] (spHFrames K) := by
  obtain ⟨pr, _, fd, F⟩ := e.g 0 (gd "History" "frames" "History.frames" 22 2) rfl
  exact ⟨pr rfl, fd, ok_History_frames F e, FunD.bindsN F fun _ _ _ _ _ _ us hl => match us, hl with | [_], _ => rfl⟩
theorem pe_hframes {X : Cx} (e : Ev X.K X.mg X.base) (hr : Room 2 X.A) {x : Expr} {ta : TE} {pos : Pos} (he : PE X x ta) (hab : attributeBase x "frames" X.env (eval x X.env) = eval x X.env := by rfl) : PE X (.Attribute x "frames" pos) (tProp (He.ga X.K "History") (spHFrames X.K) [] E0 ta) := by
  obtain ⟨pr, fd, F, b⟩ := d_History_frames (P := X.prog) (w := X.w) e
  exact pe_prop he (cls_History e) pr F hr b .nil pass0 hab
/-- frames beside frames of the same hosts, one by one -/
theorem prs_frames {K : PySem.W.Frag} {H : Hp} {fs gs : List FrD} (hf : FrsAt K H fs) (hg : FrsAt K H gs) (e : fs.map FrD.pair = gs.map FrD.pair) : PrsB (BOwn (He.ga K "Frame") (spEqF K)) (framesV fs) (framesV gs) (fun _ => true) H := by
  have len : fs.length = gs.length := by simpa using congrArg List.length e
  refine ⟨by rw [framesV_len, framesV_len, len], fun i x y hx hy => ?_⟩
  obtain ⟨f, hfi, rfl⟩ := fr_ref hx
  obtain ⟨g, hgi, rfl⟩ := fr_ref hy
  have ep : f.pair = g.pair := by
    have := congrArg (·[i]?) e
    simp only [List.getElem?_map, hfi, hgi, Option.map_some] at this
    exact Option.some.inj this
  have f1 := hf f (List.mem_of_getElem? hfi)
  have g1 := hg g (List.mem_of_getElem? hgi)
  obtain ⟨fo, dx, ef⟩ := id f1
  obtain ⟨go, dy, eg⟩ := id g1
  have ea : f.a = g.a := congrArg Prod.fst ep
  have eo : f.o = g.o := congrArg Prod.snd ep
  refine ⟨f.p, g.p, dx, dy, _, _, rfl, rfl, ef, eg, fun _ => rfl, fun H' s => ⟨f.p, .ref g.p, f.a, f.o, rfl, f1.same s, .inl ⟨g.p, g.a, g.o, rfl, g1.same s, fun H2 s2 => ⟨?_, s2⟩⟩⟩⟩
  rw [← ea, ← eo]
  exact congrArg V.bl (eq2_refl _ _)
/-- the frames that a row of words tells from a place on, or the place of the first wrong word -/
def framesFrom (ws : List Str) : Nat → Nat → List (Str × Option Str) → Sum Nat (List (Str × Option Str))
  | 0, at_, _ => .inl at_
  | n + 1, at_, found => match hostsT ws at_ "," with
    | .inl k => .inl k
    | .inr p => if Txt.endswith (ws.getD (at_ + 1) "") "," = true then framesFrom ws n (at_ + 2) (found ++ [p]) else if at_ + 2 < ws.length then .inl (at_ + 2) else .inr (found ++ [p])
theorem framesFrom_step {ws : List Str} {n i : Nat} {found : List (Str × Option Str)} (h : ws.length ≤ n + i) : framesFrom ws n i found = match hostsT ws i "," with
    | .inl k => .inl k
    | .inr p => if Txt.endswith (ws.getD (i + 1) "") "," = true then framesFrom ws (n - 1) (i + 2) (found ++ [p]) else if i + 2 < ws.length then .inl (i + 2) else .inr (found ++ [p]) := by
  cases n with
  | succ n => rfl
  | zero =>
    have e : ws[i]? = none := List.getElem?_eq_none_iff.mpr (by omega)
    unfold framesFrom hostsT
    rw [e]
theorem hostsT_at {ws : List Str} {i : Nat} {b : Str} {r : Str × Option Str} (h : hostsT ws i b = .inr r) : ∃ y, ws[i + 1]? = some y := by
  unfold hostsT at h
  split at h
  · cases h
  · split at h
    · cases h
    · split at h
      · cases h
      · rename_i y e
        exact ⟨y, e⟩
def framesT (ws : List Str) : Sum Nat (List (Str × Option Str)) := if ws = [("-" : Str)] then .inr [] else if ws.head? = some ("-" : Str) then .inl 1 else framesFrom ws ws.length 0 []
def spFramesT (K : PySem.W.Frag) : Sp := fun vs H Q E => ∃ (l : Addr) (ws : List Str), vs = [.ref l] ∧ H l = some (.lst (ws.map V.str)) ∧ ws ≠ [] ∧ ws.length ≤ 200000 ∧ (∀ w ∈ ws, w.length ≤ sizeLine) ∧ (∀ w ∈ ws, PyData.strOk w = true) ∧
  (∀ n, framesT ws = .inl n → ∀ d H', Same H H' → H d = none → H' d = some (.xd (btF n)) → E (.ref (He.ga K "BadText")) (some d) H') ∧
  ∀ p fs H', framesT ws = .inr (fs.map FrD.pair) → Same H H' → H p = none → H' p = some (.lst (framesV fs)) → FrsAt K H' fs → fs.length ≤ 100000 → Q (.ref p) H'
theorem sc_frames_told : FnScope ["words", "frames", "at", "follows", "sender", "target"] ["words"] (defScope (top 21)) := ⟨rfl, rfl, rfl, by decide +kernel, rfl, by decide +kernel, by decide +kernel⟩
theorem ok_frames_told {fd : FuncData} (F : FunD K "frames_told" "frames_told" (defArgs (top 21)) (defBody (top 21)) (defScope (top 21)) [] [] (He.ga K "frames_told") fd) (e : Ev K mg base) : FnOk P w K mg base (CX P w) 6 (He.ga K "frames_told") fd ["words"] (spFramesT K) := by
  refine F.ok sc_frames_told (fun vs H Q E h => ?_) (fun cdv A outer s H vs Q E hr h => ?_)
  · obtain ⟨_, _, rfl, _⟩ := h
    rfl
  · skip
    refine ⟨_, ((pss_cons (ps_if (pt_cmpR (kop_eqD (K := K) hr.units) (pv 0) (pe_lst (pa_cons pe_str pa_nil)) (nomark _))
      (pss_one (ps_ret (pe_lst pa_nil))) pss_nil)
      (pss_cons (ps_if (pt_cmpR op_eq (pe_ix (kix_list (K := K)) (pv 0) pe_int (fun _ _ => rfl)) pe_str (nomark _))
      (pss_one (ps_raise2 (err_BadText e) (d_BadText___init__ e) (hr.mono (by decide)) rfl (takes_of rfl rfl rfl rfl) rfl (g_BadText e) (pa_cons pe_int (pa_cons pe_int pa_nil)))) pss_nil)
      (pss_cons (ps_set (i := 1) sc_frames_told.nd rfl (Or.inl rfl) (pe_lst pa_nil))
      (pss_cons (ps_set (i := 2) sc_frames_told.nd rfl (Or.inl rfl) pe_int)
      (pss_cons (ps_set (i := 3) sc_frames_told.nd rfl (Or.inl rfl) pe_bl)
      (pss_cons (ps_while (passes_of rfl) (pt_val (pv 3))
      (pss_cons (ps_asg (pe_defC (d_hosts_told (P := P) (w := w) (K := K) (mg := mg) (base := base) e) (hr.mono (by decide)) (by rfl) (by exact passes_call (takes_of rfl rfl rfl rfl) fun _ _ _ _ h => h) (pa_cons (pv 0) (pa_cons (pv 2) (pa_cons pe_str pa_nil)))) (pg_tup (by rfl) (pgs_cons (pg_name (i := 4) sc_frames_told.nd rfl (Or.inl rfl)) (pgs_cons (pg_name (i := 5) sc_frames_told.nd rfl (Or.inl rfl)) pgs_nil))))
      (pss_cons (ps_expr (kpe_bm (K := K) PySem.F.plainAttrs_list PySem.F.slot_list_append PySem.F.type_list_append mt_append (pv 1) (pa_cons (pe_frame2 e (hr.mono (by decide)) passNo (by rfl) (pa_cons (pv 4) (pa_cons (pv 5) pa_nil))) pa_nil)))
      (pss_cons (ps_set (i := 3) sc_frames_told.nd rfl (Or.inl rfl) (kpe_bm (K := K) PySem.F.plainAttrs_str PySem.F.slot_str_endswith PySem.F.type_str_endswith mt_endswith (pe_ix (kix_list (K := K)) (pv 0) (pe_op op_add (pv 2) pe_int) (fun _ _ => rfl)) (pa_cons pe_str pa_nil)))
      (pss_one (ps_set (i := 2) sc_frames_told.nd rfl (Or.inl rfl) (pe_op op_add (pv 2) pe_int)))))))
      (pss_cons (ps_if (pt_cmpR op_lt (pv 2) (pe_callB (kcall_len_seq (K := K)) (by rfl) (f_len e) (by decide +kernel) (pa_cons (pv 0) pa_nil)) (nomark _))
      (pss_one (ps_raise2 (err_BadText e) (d_BadText___init__ e) (hr.mono (by decide)) rfl (takes_of rfl rfl rfl rfl) rfl (g_BadText e) (pa_cons pe_int (pa_cons (pv 2) pa_nil)))) pss_nil)
      (pss_one (ps_ret (pv 1))))))))))), ?_⟩
    obtain ⟨l, ws, rfl, hl, hne, hlen, hw, hok, k1, k2⟩ := h
    obtain ⟨w0, wr, rfl⟩ : ∃ w0 wr, ws = w0 :: wr := by
      cases ws with
      | nil => exact absurd rfl hne
      | cons a r => exact ⟨a, r, rfl⟩
    refine ⟨_, rfl, (fit (by simp)), fun p3 n4 => ?_⟩
    generalize g6 : upd H p3 (HO.lst [V.str (Str.ofString "-")]) = H5
    obtain ⟨s8, e7⟩ := gen_new g6 n4
    clear g6
    have e7 : H5 p3 = some (HO.lst (List.map V.str [Str.ofString "-"])) := e7
    refine ⟨_, _, (.lst (SqL.of (s8 _ _ hl)) (dp_strs _)), (.lst (SqL.of e7) (dp_strs _)), (shaped_strs fun x hx => hok x hx), (by decide +kernel), _, rfl, ?_⟩
    show @ite _ _ (_) _ _
    rw [eqv_lst]
    refine ite2 (fun c9 => ?_) (fun c9 => ?_)
    · have c9 := of_decide_eq_true c9
      refine ⟨(fit (by simp)), fun p12 n13 => ?_⟩
      generalize g15 : upd H5 p12 (HO.lst []) = H14
      obtain ⟨s17, e16⟩ := gen_new g15 n13
      clear g15
      exact k2 _ [] _ (by unfold framesT; rw [if_pos c9]; rfl) (s8.trans s17) (s8.free n13) e16 nofun (by simp)
    · have c9 := of_dec c9
      refine ⟨_, rfl, _, _, _, _, rfl, rfl, (SqL.of (s8 _ _ hl)), (atI_nat (j := 0) rfl), rfl, _, rfl, ?_⟩
      show @ite _ _ (_) _ _
      refine ite2 (fun c1 => ?_) (fun c1 => ?_)
      · have c1 := of_decide_eq_true c1
        refine ⟨_, _, rfl, fun d7 H8 s9 n10 e11 => ?_⟩
        exact k1 1 (by unfold framesT; rw [if_neg c9, if_pos (by simpa using c1)]) _ _ (s8.trans s9) (s8.free n10) e11
      · have c1 := of_dec c1
        refine ⟨(fit (by simp)), fun p14 n15 => ?_⟩
        generalize g15 : upd H5 p14 (HO.lst []) = H14
        obtain ⟨s17, e16⟩ := gen_new g15 n15
        clear g15
        have e0 : framesT (w0 :: wr) = framesFrom (w0 :: wr) (w0 :: wr).length 0 [] := by
          unfold framesT
          rw [if_neg c9, if_neg (fun q => c1 (by simpa using q))]
        have hl14 := s17 _ _ (s8 _ _ hl)
        have nlp : l ≠ p14 := ne_of_none (s8 _ _ hl) n15
        have frH : H p14 = none := s8.free n15
        have s18 := s8.trans s17
        generalize (w0 :: wr) = ws at *
        obtain ⟨W, hW⟩ : ∃ W : Nat → L2.St → Hp → Prop, ∀ m σ H', W m σ H' ↔ ∃ (i : Nat) (fs : List FrD) (b : Bool) (x4 x5 : Option V), σ = [some (.ref l), some (.ref p14), some (.int i), some (.bl b), x4, x5] ∧ But p14 H H' ∧ H' p14 = some (.lst (framesV fs)) ∧ FrsAt K H' fs ∧ fs.length ≤ i / 2 ∧ i ≤ ws.length + 1 ∧
          (b = true → m = ws.length + 4 - i ∧ ∃ n, ws.length ≤ n + i ∧ framesT ws = framesFrom ws n i (fs.map FrD.pair)) ∧ (b = false → m = 0 ∧ framesT ws = if i < ws.length then .inl i else .inr (fs.map FrD.pair)) := ⟨_, fun _ _ _ => Iff.rfl⟩
        refine ⟨W, ⟨_, (hW _ _ _).mpr ⟨0, [], true, none, none, rfl, Same.but s18, e16, nofun, by simp, by omega, fun _ => ⟨rfl, _, by omega, e0⟩, nofun⟩⟩, fun m σ H6 w => ?_⟩
        obtain ⟨i, fs, b, x4, x5, rfl, b6, e6, f6, l6, i6, hT, hF⟩ := (hW _ _ _).mp w
        clear w
        have l6' := b6 _ _ nlp hl
        have s6 : Same H H6 := Same.skip (Same.refl _) b6 frH
        cases b with
        | true =>
          obtain ⟨rfl, n, hn, hT⟩ := hT rfl
          rw [framesFrom_step hn] at hT
          refine ⟨_, rfl, _, rfl, iteT ⟨fun σ' H' => ∃ m', m' < ws.length + 4 - i ∧ W m' σ' H', fun _ _ h => h, ?_⟩⟩
          refine ⟨_, rfl, _, rfl, _, _, _, _, rfl, (SqL.of l6'), (by omega), hw, (fun n eh d H2 s nd eq => k1 n (by rw [hT, eh]) d H2 (s6.trans s) (s6.free nd) eq), fun aa9 oa10 ea11 ta12 Ha13 sa14 na15 ea16 => ?_⟩
          refine ⟨_, _, rfl, (SqT.of ea16), rfl, _, _, rfl, _, _, rfl, rfl, _, rfl, (.inl ⟨rfl, ⟨_, (SqL.of (sa14 _ _ e6))⟩⟩), _, rfl, _, rfl, ?_⟩
          dsimp only [tNil]
          refine frame_new (hostsT_ok ea11).1 (hostsT_ok ea11).2 fun pa17 Ha18 sa19 na20 ha21 => ?_
          refine ⟨_, _, _, rfl, rfl, (sa19 _ _ (sa14 _ _ e6)), (fits (by rw [framesV_len]; omega)), ?_⟩
          generalize ga23 : upd Ha18 p14 (HO.lst (framesV fs ++ [V.ref pa17])) = Ha22
          obtain ⟨ba25, ea24⟩ := gen_mut ga23
          clear ga23
          obtain ⟨y, hy⟩ := hostsT_at ea11
          have hyl : i + 1 < ws.length := (List.getElem?_eq_some_iff.mp hy).1
          have at1 : atI (ws.map V.str) ((i : Int) + 1) = some (.str y) := atI_nat (j := i + 1) (by rw [List.getElem?_map, hy]; rfl)
          have e13 := sa19 _ _ (sa14 _ _ e6)
          have e22 : Ha22 p14 = some (.lst (framesV (fs ++ [⟨pa17, aa9, oa10⟩]))) := by rw [ea24, framesV_snoc]
          have l22 : Ha22 l = some (.lst (ws.map V.str)) := ba25 _ _ nlp (sa19 _ _ (sa14 _ _ l6'))
          have f22 : FrsAt K Ha22 (fs ++ [⟨pa17, aa9, oa10⟩]) := fun f hf => by
            rcases List.mem_append.mp hf with hf | hf
            · obtain ⟨fo, dxf, ef⟩ := f6 f hf
              exact ⟨fo, dxf, ba25 _ _ (ne_of ef e6 nofun) (sa19 _ _ (sa14 _ _ ef))⟩
            · rw [List.mem_singleton.mp hf]
              obtain ⟨fo, dxf, ef⟩ := ha21
              exact ⟨fo, dxf, ba25 _ _ (ne_of ef e13 nofun) ef⟩
          have gd : ws.getD (i + 1) "" = y := by rw [List.getD_eq_getElem?_getD, hy]; rfl
          rw [ea11] at hT
          simp only [gd] at hT
          have b22 : But p14 H Ha22 := ((b6.trans (Same.but sa14)).trans (Same.but sa19)).trans ba25
          have ll : (fs ++ [(⟨pa17, aa9, oa10⟩ : FrD)]).length ≤ (i + 2) / 2 := by rw [List.length_append, List.length_singleton]; omega
          have mp : (fs ++ [(⟨pa17, aa9, oa10⟩ : FrD)]).map FrD.pair = fs.map FrD.pair ++ [(aa9, oa10)] := by rw [List.map_append]; rfl
          refine ⟨_, rfl, _, rfl, _, _, rfl, rfl, l, _, _, .str y, rfl, rfl, (SqL.of l22), at1, ?_⟩
          refine ⟨rfl, y, ",", rfl, rfl, ?_⟩
          refine ⟨_, rfl, _, _, rfl, rfl, ?_⟩
          cases ey : Txt.endswith y "," with
          | true =>
            rw [ey, if_pos rfl] at hT
            exact ⟨ws.length + 4 - (i + 2), by omega, (hW _ _ _).mpr ⟨i + 2, _, true, _, _, rfl, b22, e22, f22, ll, by omega, fun _ => ⟨rfl, n - 1, by omega, by rw [hT, mp]⟩, nofun⟩⟩
          | false =>
            rw [ey, if_neg Bool.false_ne_true] at hT
            exact ⟨0, by omega, (hW _ _ _).mpr ⟨i + 2, _, false, _, _, rfl, b22, e22, f22, ll, by omega, nofun, fun _ => ⟨rfl, by rw [hT, mp]⟩⟩⟩
        | false =>
          obtain ⟨rfl, hF2⟩ := hF rfl
          refine ⟨_, rfl, _, rfl, iteF ?_⟩
          refine ⟨_, rfl, _, rfl, _, _, rfl, (.inl (SqL.of l6')), _, _, rfl, rfl, _, rfl, ?_⟩
          show @ite _ _ (_) _ _
          refine ite2 (fun cb1 => ?_) (fun cb1 => ?_)
          · have cb1 : i < ws.length := by have := of_decide_eq_true cb1; rw [List.length_map] at this; omega
            rw [if_pos cb1] at hF2
            refine ⟨_, rfl, _, _, rfl, fun db7 Hb8 sb9 nb10 eb11 => ?_⟩
            exact k1 _ hF2 _ _ (s6.trans sb9) (s6.free nb10) eb11
          · have cb1 : ¬ i < ws.length := by have := of_dec cb1; rw [List.length_map] at this; omega
            rw [if_neg cb1] at hF2
            refine ⟨_, rfl, ?_⟩
            exact k2 _ _ _ hF2 s6 frH e6 f6 (by omega)
theorem d_frames_told (e : Ev K mg base) : DefC P w K mg base 6 "frames_told" ["words"] (spFramesT K) := by
  obtain ⟨fd, F⟩ := e.c.def_ 21 (d := dd "frames_told" 21) rfl
  exact ⟨⟨fd, ok_frames_told F e, FunD.bindsN F fun _ _ _ _ _ _ us hl => match us, hl with | [_], _ => rfl⟩, F.kp, He.glo_ok e.X e.G (e.c.fact 51 rfl)⟩
def spReadH (K : PySem.W.Frag) : Sp := fun vs H Q E => ∃ v : V, vs = [.ref (He.ga K "History"), v] ∧
  ((∃ z : Str, v = .str z ∧ z.length ≤ 100000 ∧ Plain z ∧ (∀ n, framesT (Txt.split z " ") = .inl n → ∀ d H', Same H H' → H d = none → H' d = some (.xd (btF n)) → E (.ref (He.ga K "BadText")) (some d) H') ∧
      ∀ r, framesT (Txt.split z " ") = .inr r → (60 < r.length → ∀ d H', Same H H' → H d = none → H' d = some (.xd [("most", .int 60), ("what", .str "frames")]) → E (.ref (He.ga K "TooMany")) (some d) H') ∧
        (r.length ≤ 60 → ∀ p fs H', fs.map FrD.pair = r → Same H H' → H p = none → HistAt K H' p fs → Q (.ref p) H')) ∨
   ∃ t, TyX K H v t ∧ PySem.W.kitOne K t (.type "str") = some false ∧ ∀ d H', Same H H' → H d = none → H' d = some (.xd (btF 0)) → E (.ref (He.ga K "BadText")) (some d) H')
theorem sc_History_read : FnScope ["cls", "text", "frames"] ["cls", "text"] (defScope (inClass (top 22) 4)) := ⟨rfl, rfl, rfl, by decide +kernel, rfl, by decide +kernel, by decide +kernel⟩
theorem ok_History_read {fd : FuncData} (F : FunD K "read" "History.read" (defArgs (inClass (top 22) 4)) (defBody (inClass (top 22) 4)) (defScope (inClass (top 22) 4)) [] [] (geA K "History" "read") fd) (e : Ev K mg base) : FnOk P w K mg base (CX P w) 7 (geA K "History" "read") fd ["cls", "text"] (spReadH K) := by
  refine F.ok sc_History_read (fun vs H Q E h => ?_) (fun cdv A outer s H vs Q E hr h => ?_)
  · obtain ⟨_, rfl, _⟩ := h
    rfl
  · skip
    refine ⟨_, ((pss_cons (ps_set (i := 2) sc_History_read.nd rfl (Or.inl rfl) (pe_defC (d_frames_told (P := P) (w := w) (K := K) (mg := mg) (base := base) e) (hr.mono (by decide)) (by rfl) (by exact passes_call (takes_of rfl rfl rfl rfl) fun _ _ _ _ h => h) (pa_cons (pe_defC (d_words_in (P := P) (w := w) (K := K) (mg := mg) (base := base) e) (hr.mono (by decide)) (by rfl) (by exact passes_call (takes_of rfl rfl rfl rfl) fun _ _ _ _ h => h) (pa_cons (pv 1) pa_nil)) pa_nil)))
      (pss_one (ps_ret (pe_newS (mk_History e) (d_History___init__ e) (hr.mono (by decide)) (by rfl) (g_History e) (by exact passes_call (takes_of rfl rfl rfl rfl) fun _ _ _ _ h => h) (pv 2)))))), ?_⟩
    obtain ⟨v, rfl, h⟩ := h
    rcases h with ⟨z, rfl, hz, pl, k1, k2⟩ | ⟨t, ty, kt, k⟩
    · refine ⟨_, rfl, ?_⟩
      refine ⟨_, rfl, .inl ⟨z, rfl, (fit (by omega)), fun l hl => ?_⟩⟩
      have hp := split_pos z " "
      have hpl := plain_split (y := " ") pl
      have hle : ∀ w ∈ Txt.split z " ", w.length ≤ sizeLine := fun w hw => by have := part_short hw; exact fit (by omega)
      have sl := same_new (o := .lst ((Txt.split z " ").map V.str)) hl
      have el : upd H l (.lst ((Txt.split z " ").map V.str)) l = some (.lst ((Txt.split z " ").map V.str)) := upd_same
      generalize upd H l (.lst ((Txt.split z " ").map V.str)) = H1 at sl el
      obtain ⟨sp1, sp2⟩ := PyProof.Rows.fact_split z " "
      refine ⟨_, _, rfl, el, (fun q => by rw [q] at sp1; exact absurd sp1 (by decide)), (by omega), hle, (fun w hw => (hpl w hw).ok), fun n hn d H' s nd eq => k1 n hn d H' (sl.trans s) (same_none sl nd) eq, fun p10 fs11 H12 e13 s14 n15 e16 h17 h18 => ?_⟩
      refine ⟨_, rfl, _, _, rfl, (.inr (SqL.of e16)), ?_⟩
      obtain ⟨k3, k4⟩ := k2 _ e13
      rw [List.length_map] at k3 k4
      have sA := sl.trans s14
      exact hist_new h17 (fit (by omega)) (fun m d H' s nd eq => k3 m d H' (sA.trans s) (same_none sA nd) eq) fun m x H' s nx ha => k4 m x fs11 H' rfl (sA.trans s) (same_none sA nx) ha
    · exact ⟨_, rfl, _, rfl, (.inr ⟨_, ⟨ty, ⟨kt, k⟩⟩⟩)⟩
theorem d_History_read (e : Ev K mg base) : DefK P w K mg base (CX P w) 7 "History" "read" ["cls", "text"] ["text"] (spReadH K) := by
  obtain ⟨_, pr, fd, F⟩ := e.g 1 (gd "History" "read" "History.read" 22 4 true) rfl
  exact ⟨pr rfl, fd, ok_History_read F e, FunD.bindsN F fun _ _ _ _ _ _ us hl => match us, hl with | [_, _], _ => rfl, FunD.kbindsN F 1 ["text"] fun _ _ _ _ _ _ us ws h1 h2 => match us, ws, h1, h2 with | [_], [_], _, _ => rfl⟩
def spOfH (K : PySem.W.Frag) : Sp := fun vs H Q E => ∃ (a : Addr) (fs : List FrD), vs = [.ref (He.ga K "History"), .ref a] ∧ RowA H a (framesV fs) ∧ FrsAt K H fs ∧ fs.length ≤ 1000 ∧
  (60 < fs.length → ∀ d H', Same H H' → H d = none → H' d = some (.xd [("most", .int 60), ("what", .str "frames")]) → E (.ref (He.ga K "TooMany")) (some d) H') ∧
  (fs.length ≤ 60 → ∀ p H', Same H H' → H p = none → HistAt K H' p fs → Q (.ref p) H')
theorem sc_History_of : FnScope ["cls", "frames"] ["cls", "frames"] (defScope (inClass (top 22) 3)) := ⟨rfl, rfl, rfl, by decide +kernel, rfl, by decide +kernel, by decide +kernel⟩
theorem ok_History_of {fd : FuncData} (F : FunD K "of" "History.of" (defArgs (inClass (top 22) 3)) (defBody (inClass (top 22) 3)) (defScope (inClass (top 22) 3)) [] [] (geA K "History" "of") fd) (e : Ev K mg base) : FnOk P w K mg base (CX P w) 6 (geA K "History" "of") fd ["cls", "frames"] (spOfH K) := by
  refine F.ok sc_History_of (fun vs H Q E h => ?_) (fun cdv A outer s H vs Q E hr h => ?_)
  · obtain ⟨_, _, rfl, _⟩ := h
    rfl
  · skip
    refine ⟨_, ((pss_cons (ps_if (pt_not (pt_val (pe_callB (kcall_isiT (K := K)) (by rfl) (f_isinstance e) (by decide +kernel) (pa_cons (pv 1) (pa_cons (pe_tup (pa_cons (pe_bltn (by rfl) (f_list e) (by decide +kernel) (show RelV (.ty "list") (.type "list") from rfl)) (pa_cons (pe_bltn (by rfl) (f_tuple e) (by decide +kernel) (show RelV (.ty "tuple") (.type "tuple") from rfl)) pa_nil))) pa_nil)))))
      (pss_one ps_never) pss_nil)
      (pss_one (ps_ret (pe_newS (mk_History e) (d_History___init__ e) (hr.mono (by decide)) (by rfl) (g_History e) (by exact passes_call (takes_of rfl rfl rfl rfl) fun _ _ _ _ h => h) (pv 1)))))), ?_⟩
    obtain ⟨a, fs, rfl, hr, hf, few, k1, k2⟩ := h
    refine ⟨_, rfl, (fit (by simp)), fun p5 n6 => ?_⟩
    generalize g8 : upd H p5 (HO.tup [V.ty "list", V.ty "tuple"]) = H7
    obtain ⟨s10, e9⟩ := gen_new g8 n6
    clear g8
    obtain ⟨tt, ty, kt⟩ := (hr.same s10).isi (K := K)
    have rA := hr.same s10
    refine ⟨_, p5, _, tt, [.type "list", .type "tuple"], true, rfl, e9, .cons (.ty _) (.cons (.ty _) .nil), ty, kt, _, rfl, iteF ?_⟩
    refine ⟨_, rfl, _, _, rfl, rA.elim (fun q => .inr (SqL.of q)) (fun q => .inl (SqT.of q)), ?_⟩
    exact hist_new (hf.same s10) (fit (by omega)) (fun m d H' s nd eq => k1 m d H' (s10.trans s) (same_none s10 nd) eq) fun m x H' s nx ha => k2 m x H' (s10.trans s) (same_none s10 nx) ha
theorem d_History_of (e : Ev K mg base) : DefK P w K mg base (CX P w) 6 "History" "of" ["cls", "frames"] ["frames"] (spOfH K) := by
  obtain ⟨_, pr, fd, F⟩ := e.g 2 (gd "History" "of" "History.of" 22 3 true) rfl
  exact ⟨pr rfl, fd, ok_History_of F e, FunD.bindsN F fun _ _ _ _ _ _ us hl => match us, hl with | [_, _], _ => rfl, FunD.kbindsN F 1 ["frames"] fun _ _ _ _ _ _ us ws h1 h2 => match us, ws, h1, h2 with | [_], [_], _, _ => rfl⟩
def spEqH (K : PySem.W.Frag) : Sp := fun vs H Q _ => ∃ (x y : Addr) (fs gs : List FrD), vs = [.ref x, .ref y] ∧ HistAt K H x fs ∧ HistAt K H y gs ∧ fs.map FrD.pair = gs.map FrD.pair ∧ ∀ H', Same H H' → Q (.bl true) H'
theorem sc_History___eq__ : FnScope ["self", "other"] ["self", "other"] (defScope (inClass (top 22) 9)) := ⟨rfl, rfl, rfl, by decide +kernel, rfl, by decide +kernel, by decide +kernel⟩
theorem ok_History___eq__ {fd : FuncData} (F : FunD K "__eq__" "History.__eq__" (defArgs (inClass (top 22) 9)) (defBody (inClass (top 22) 9)) (defScope (inClass (top 22) 9)) [] [] (He.ma K (He.ga K "History") "__eq__") fd) (e : Ev K mg base) : FnOk P w K mg base CX0 5 (He.ma K (He.ga K "History") "__eq__") fd ["self", "other"] (spEqH K) := by
  refine F.ok sc_History___eq__ (fun vs H Q E h => ?_) (fun cdv A outer s H vs Q E hr h => ?_)
  · obtain ⟨_, _, _, _, rfl, _⟩ := h
    rfl
  · skip
    refine ⟨_, PSs.nox ((pss_cons (ps_if (pt_not (pt_val (pe_callB (kcall_isi (K := K)) (by rfl) (f_isinstance e) (by decide +kernel) (pa_cons (pv 1) (pa_cons (pe_glob (by rfl) (g_History e) (show RelV (.ref (He.ga K "History")) (.ref (He.ga K "History")) from rfl)) pa_nil)))))
      (pss_one (ps_ret pe_bl)) pss_nil)
      (pss_one (ps_ret (pe_cmpR (op_rowEq (n := 2) monB_own (eqB_own (d_Frame___eq__ e) (me_Frame___eq__ e).at_ (me_Frame___eq__ e).fn) (hr.mono (by decide))) (kpe_fld (K := K) (pv 0) rfl) (pe_hframes e (hr.mono (by decide)) (pv 1)) (nomark _)))))), ?_⟩
    obtain ⟨x, y, fs, gs, rfl, hx, hy, eq, k⟩ := h
    obtain ⟨dx, t, u, hs, h1, h2, h3, h4, h5⟩ := id hx
    obtain ⟨dy, t', u', hs', g1, g2, g3, g4, g5⟩ := id hy
    refine ⟨_, rfl, _, _, _, _, _, rfl, (.own _), ((own_History e).ty (cls_History e) g1), kit_same, _, rfl, ?_⟩
    show @ite _ _ (_) _ _
    refine ite_no (by decide +kernel) ?_
    refine ⟨_, rfl, _, _, _, _, _, rfl, h1, (cls_History e), (no_History__frames e), rfl, _, rfl, _, _, _, rfl, g1, _, _, rfl, hy, fun t3 e4 => ?_⟩
    refine ⟨t, t3, _, _, fun _ => true, rfl, rfl, .inr ⟨SqT.of h2, SqT.of e4⟩, prs_frames h5 g5 eq, fun H' s => ?_⟩
    have q := k H' s
    rw [← all_true 0 (framesV fs).length] at q
    exact q
theorem d_History___eq__ (e : Ev K mg base) : DefM P w K mg base 5 (He.ma K (He.ga K "History") "__eq__") ["self", "other"] (spEqH K) := by
  obtain ⟨fd, F⟩ := e.c.def_ 22 (d := dm "History" "__eq__" "History.__eq__" 22 9) rfl
  exact ⟨fd, ok_History___eq__ F e, FunD.bindsN F fun _ _ _ _ _ _ us hl => match us, hl with | [_, _], _ => rfl⟩
def frameS (p : Str × Option Str) : Str := textF p.1 p.2
theorem frameS_len {f : FrD} (h : FrOk f.a f.o) : (frameS f.pair).length ≤ 30 := Nat.le_trans (word_text h).l (by decide)
theorem sum_few {α : Type} {g : α → Str} {n : Nat} : ∀ {l : List α}, (∀ x ∈ l, (g x).length ≤ n) → ((l.map g).map (·.length)).sum ≤ n * l.length
  | [], _ => Nat.zero_le _
  | a :: l, h => by
    have h1 := h a (.head _)
    have h2 := sum_few (l := l) fun x hx => h x (.tail _ hx)
    simp only [List.map_cons, List.sum_cons, List.length_cons, Nat.mul_succ]
    omega
def spStrH (K : PySem.W.Frag) : Sp := fun vs H Q _ => ∃ (x : Addr) (fs : List FrD), vs = [.ref x] ∧ HistAt K H x fs ∧ fs.length ≤ 60 ∧ ∀ H', Same H H' → Q (.str (if fs = [] then "-" else Txt.join ", " (fs.map fun f => frameS f.pair))) H'
theorem sc_History___str__ : FnScope ["self", "frame"] ["self"] (defScope (inClass (top 22) 15)) := ⟨rfl, rfl, rfl, by decide +kernel, rfl, by decide +kernel, by decide +kernel⟩
theorem ok_History___str__ {fd : FuncData} (F : FunD K "__str__" "History.__str__" (defArgs (inClass (top 22) 15)) (defBody (inClass (top 22) 15)) (defScope (inClass (top 22) 15)) [] [] (He.ma K (He.ga K "History") "__str__") fd) (e : Ev K mg base) : FnOk P w K mg base CX0 4 (He.ma K (He.ga K "History") "__str__") fd ["self"] (spStrH K) := by
  refine F.ok sc_History___str__ (fun vs H Q E h => ?_) (fun cdv A outer s H vs Q E hr h => ?_)
  · obtain ⟨_, _, rfl, _⟩ := h
    rfl
  · skip
    refine ⟨_, PSs.nox ((pss_cons (ps_if (pt_not (pt_truth (kpe_fld (K := K) (pv 0) rfl) (by intro _; rfl)))
      (pss_one (ps_ret pe_str)) pss_nil)
      (pss_one (ps_ret (kpe_join (K := K) pe_str (pe_lc (own := [("frame", 1)]) (by rfl) sc_History___str__.nd (kpi_tup (K := K) (kpe_fld (K := K) (pv 0) rfl)) (blkOk_by (own := [("frame", 1)]) (N := ["self", "frame"]) (sc := defScope (inClass (top 22) 15)) (by decide +kernel)) (fun _ _ _ _ _ => (pg_name (i := 1) sc_History___str__.nd rfl (Or.inl rfl))) (fun _ _ _ _ _ => pts_nil) (fun _ _ _ _ _ => (pe_callTy (call_strOwn (d_Frame___str__ e) (hr.mono (by decide)) (me_Frame___str__ e).at_ (me_Frame___str__ e).fn) (by rfl) (f_str e) (by decide +kernel) (pa_cons (pv 1) pa_nil))))))))), ?_⟩
    obtain ⟨x, fs, rfl, hx, few, k⟩ := h
    obtain ⟨dx, t, u, hs, h1, h2, h3, h4, h5⟩ := id hx
    refine ⟨_, rfl, _, _, _, _, _, rfl, h1, (cls_History e), (no_History__frames e), rfl, _, (.inr (.inl ⟨_, ⟨(SqT.of h2), rfl⟩⟩)), ?_⟩
    show @ite _ _ (_) _ _
    refine ite2 (fun c1 => ?_) (fun c1 => ?_)
    · have c1 := c1
      have em : fs = [] := by unfold framesV at c1; simpa using c1
      have q := k H (Same.refl _)
      rw [if_pos em] at q
      exact q
    · refine ⟨⟨_, rfl⟩, _, rfl, _, _, _, _, _, rfl, h1, (cls_History e), (no_History__frames e), rfl, _, rfl, ⟨_, (SqT.of h2)⟩, fun D4 n5 => ?_⟩
      have ne : fs ≠ [] := by unfold framesV at c1; simpa using c1
      refine lc_fmA (walk_tup (K := K) (a := t) (xs := framesV fs)) fs (fun f => V.ref f.p) (fun f => some (.str (frameS f.pair))) (by rw [framesV_len]) (yat _) n5 (fun H' s => SqT.of (s _ _ h2)) (fits (by omega)) (fun f hfm H3 s3 Kt Kf kt kf => ⟨rfl, ?_⟩) fun H3 s3 eD => ?_
      · have ff := (h5 f hfm).same s3
        obtain ⟨fo, dxf, ef⟩ := id ff
        refine ⟨_, rfl, _, _, _, rfl, ef, _, _, _, rfl, ff, _, rfl, ?_⟩
        exact kt _ _ rfl (Same.refl _)
      · rw [fm_some] at eD
        have eD' : H3 D4 = some (.lst ((fs.map fun f => frameS f.pair).map V.str)) := by rw [eD, List.map_map]; rfl
        have sm : ((fs.map fun f => frameS f.pair).map (·.length)).sum ≤ 30 * fs.length := sum_few fun f hf => frameS_len (h5 f hf).1
        have q := k H3 s3
        rw [if_neg ne] at q
        exact ⟨_, _, _, rfl, rfl, (.inl (SqL.of eD')), (by rw [List.length_map, show (", " : Str).length = 2 from rfl]; omega), q⟩
theorem d_History___str__ (e : Ev K mg base) : DefM P w K mg base 4 (He.ma K (He.ga K "History") "__str__") ["self"] (spStrH K) := by
  obtain ⟨fd, F⟩ := e.c.def_ 23 (d := dm "History" "__str__" "History.__str__" 22 15) rfl
  exact ⟨fd, ok_History___str__ F e, FunD.bindsN F fun _ _ _ _ _ _ us hl => match us, hl with | [_], _ => rfl⟩
def optS (o : Option Str) : V := optV o
/-- a pair of hosts that stands somewhere -/
def PrAt (H : Hp) (f : FrD) : Prop := H f.p = some (.tup [.str f.a, optV f.o]) ∧ FrOk f.a f.o
def NeOk (fs : List FrD) : Prop := ∀ f ∈ fs, ∀ z, f.o = some z → z ≠ f.a
def PrsAt (H : Hp) (fs : List FrD) : Prop := ∀ f ∈ fs, PrAt H f
theorem PrsAt.same {H H' : Hp} {fs : List FrD} (s : Same H H') (h : PrsAt H fs) : PrsAt H' fs := fun f hf => ⟨s _ _ (h f hf).1, (h f hf).2⟩
theorem PrsAt.but {H H' : Hp} {p : Addr} {L : List V} {fs : List FrD} (h : PrsAt H fs) (e : H p = some (.lst L)) (b : But p H H') : PrsAt H' fs := fun f hf => ⟨b _ _ (ne_of (h f hf).1 e nofun) (h f hf).1, (h f hf).2⟩
def spPairs (K : PySem.W.Frag) : Sp := fun vs H Q _ => ∃ (p c l : Addr) (ms : List Int) (t : Nat) (z : Int) (xs : List Str) (n : Nat), vs = [.ref p, .ref l, .int n] ∧ Pen H p c ms t z ∧ t < 700000 ∧ H l = some (.lst (xs.map V.str)) ∧ l ≠ p ∧ xs ≠ [] ∧ xs.length ≤ 100 ∧ (∀ x ∈ xs, IsNm x) ∧ n ≤ 100 ∧
  ∀ (f : Addr) (fs : List FrD) (H' : Hp) (t' : Nat) (z' : Int), H f = none → H' f = some (.lst (framesV fs)) → PrsAt H' fs → NeOk fs → fs.length = n → But p H H' → Pen H' p c ms t' z' → t' ≤ t + 2 * n → Q (.ref f) H'
theorem sc_law_pairs : FnScope ["pen", "names", "many", "found", "k", "sender", "target"] ["pen", "names", "many"] (defScope (top 29)) := ⟨rfl, rfl, rfl, by decide +kernel, rfl, by decide +kernel, by decide +kernel⟩
theorem ok_law_pairs {fd : FuncData} (F : FunD K "_law_pairs" "_law_pairs" (defArgs (top 29)) (defBody (top 29)) (defScope (top 29)) [] [] (He.ga K "_law_pairs") fd) (e : Ev K mg base) : FnOk P w K mg base CX0 5 (He.ga K "_law_pairs") fd ["pen", "names", "many"] (spPairs K) := by
  refine F.ok sc_law_pairs (fun vs H Q E h => ?_) (fun cdv A outer s H vs Q E hr h => ?_)
  · obtain ⟨_, _, _, _, _, _, _, _, rfl, _⟩ := h
    rfl
  · skip
    refine ⟨_, PSs.nox ((pss_cons (ps_set (i := 3) sc_law_pairs.nd rfl (Or.inl rfl) (pe_lst pa_nil))
      (pss_cons (ps_for PassesOwn.never rfl (pi_range1 (by rfl) (f_range e) (pa_cons (pv 2) pa_nil)) (pg_name (i := 4) sc_law_pairs.nd rfl (Or.inl rfl))
      (pss_cons (ps_par (i := 5) (j := 6) (by rfl) sc_law_pairs.nd rfl rfl (by decide) rfl rfl (pa_cons (pe_def (d_law_pick (P := P) (w := w) (K := K) (mg := mg) (base := base) e) (hr.mono (by decide)) (by rfl) (pa_cons (pv 0) (pa_cons (pv 1) pa_nil))) (pa_cons (pe_def (d_law_pick (P := P) (w := w) (K := K) (mg := mg) (base := base) e) (hr.mono (by decide)) (by rfl) (pa_cons (pv 0) (pa_cons (pe_op op_cat (pv 1) (pe_lst (pa_cons pe_non pa_nil))) pa_nil))) pa_nil)) (by rfl))
      (pss_one (ps_expr (kpe_bm (K := K) PySem.F.plainAttrs_list PySem.F.slot_list_append PySem.F.type_list_append mt_append (pv 3) (pa_cons (pe_tup (pa_cons (pv 5) (pa_cons (pe_ifExp (pt_cmpR op_eq (pv 6) (pv 5) (nomark _)) pe_non (pv 6)) pa_nil))) pa_nil))))))
      (pss_one (ps_ret (pv 3)))))), ?_⟩
    obtain ⟨p, c, l, ms, t, z, xs, n, rfl, P0, ht, hl, nlp, ne, few, nm, hn, k⟩ := h
    refine ⟨(fit (by simp)), fun p3 n4 => ?_⟩
    generalize g6 : upd H p3 (HO.lst []) = H5
    obtain ⟨s8, e7⟩ := gen_new g6 n4
    clear g6
    refine ⟨_, rfl, _, rfl, (by omega), (by omega), ?_⟩
    have n3p : p3 ≠ p := (ne_of_none P0.a n4).symm
    have nl3 : l ≠ p3 := ne_of_none hl n4
    rw [show ((n : Int)).toNat = n from rfl]
    refine for_range (lo := 0) (n := n) (fun i σ H' => ∃ (fs : List FrD) (t' : Nat) (z' : Int) (x4 x5 x6 : Option V), σ = [some (.ref p), some (.ref l), some (.int n), some (.ref p3), x4, x5, x6] ∧ H' p3 = some (.lst (framesV fs)) ∧ PrsAt H' fs ∧ NeOk fs ∧ fs.length = i ∧ But p H H' ∧ Pen H' p c ms t' z' ∧ t' ≤ t + 2 * i) ⟨[], t, z, _, _, _, rfl, e7, nofun, nofun, rfl, Same.but s8, P0.same s8, by omega⟩ ?_ ?_
    · rintro i σ H6 hi ⟨fs, t1, z1, x4, x5, x6, rfl, e6, f6, ok6, l6, b6, P6, ht6⟩
      have hl6 := b6 _ _ nlp hl
      refine ⟨_, rfl, _, rfl, _, _, _, _, _, _, _, rfl, P6, (by omega), (SqL.of hl6), nlp, (by simpa using ne), (by simp only [List.length_map, List.length_append, List.length_cons, List.length_nil, List.length_take, List.length_drop, List.length_reverse]; omega), fun xa9 Ha10 xa11 xa12 ha13 ba14 Pa15 ha16 => ?_⟩
      obtain ⟨sd, hsd, rfl⟩ := List.mem_map.mp ha13
      refine ⟨_, rfl, _, rfl, (fit (by simp)), fun pa19 na20 => ?_⟩
      generalize ga22 : upd Ha10 pa19 (HO.lst [V.non]) = Ha21
      obtain ⟨sa24, ea23⟩ := gen_new ga22 na20
      clear ga22
      refine ⟨_, _, _, _, rfl, rfl, (sa24 _ _ (ba14 _ _ nlp hl6)), ea23, (fit (by simp only [List.length_map, List.length_append, List.length_cons, List.length_nil, List.length_take, List.length_drop, List.length_reverse]; omega)), fun pa27 na28 => ?_⟩
      generalize ga30 : upd Ha21 pa27 (HO.lst (List.map V.str xs ++ [V.non])) = Ha29
      obtain ⟨sa32, ea31⟩ := gen_new ga30 na28
      clear ga30
      refine ⟨_, _, _, _, _, _, _, rfl, (Pa15.same (sa24.trans sa32)), (by omega), (SqL.of ea31), (ne_of_none (sa24 _ _ Pa15.a) na28).symm, (by simp), (by simp only [List.length_map, List.length_append, List.length_cons, List.length_nil, List.length_take, List.length_drop, List.length_reverse]; omega), fun xa41 Ha42 xa43 xa44 ha45 ba46 Pa47 ha48 => ?_⟩
      obtain ⟨o, rfl, ho⟩ : ∃ o : Option Str, xa41 = optV o ∧ ∀ z, o = some z → z ∈ xs := by
        rcases List.mem_append.mp ha45 with h | h
        · obtain ⟨g, hg, rfl⟩ := List.mem_map.mp h
          exact ⟨some g, rfl, fun z e => by cases e; exact hg⟩
        · exact ⟨none, List.mem_singleton.mp h, nofun⟩
      have fk : FrOk sd o := ⟨nm sd hsd, fun z hz => nm z (ho z hz)⟩
      have b42 : But p H Ha42 := ((((b6.trans ba14).trans (Same.but sa24)).trans (Same.but sa32)).trans ba46)
      have e42 := ba46 _ _ n3p (sa32 _ _ (sa24 _ _ (ba14 _ _ n3p e6)))
      have f42 : PrsAt Ha42 fs := (((f6.but P6.a ba14).same sa24).same sa32).but ((Pa15.same (sa24.trans sa32)).a) ba46
      refine ⟨_, _, rfl, _, rfl, (.inl ⟨rfl, ⟨_, (SqL.of (ba46 _ _ n3p (sa32 _ _ (sa24 _ _ (ba14 _ _ n3p e6)))))⟩⟩), _, rfl, _, rfl, _, rfl, (by cases o <;> rfl), _, rfl, ?_⟩
      show @ite _ _ (_) _ _
      refine ite2 (fun ca49 => ?_) (fun ca49 => ?_)
      · have ca49 := of_decide_eq_true ca49
        refine ⟨(fit (by simp)), fun pa52 na53 => ?_⟩
        generalize ga55 : upd Ha42 pa52 (HO.tup [V.str sd, V.non]) = Ha54
        obtain ⟨sa57, ea56⟩ := gen_new ga55 na53
        clear ga55
        refine ⟨_, _, _, rfl, rfl, (sa57 _ _ (ba46 _ _ n3p (sa32 _ _ (sa24 _ _ (ba14 _ _ n3p e6))))), (fits (by rw [framesV_len]; omega)), ?_⟩
        generalize ga59 : upd Ha54 p3 (HO.lst (framesV fs ++ [V.ref pa52])) = Ha58
        obtain ⟨ba61, ea60⟩ := gen_mut ga59
        clear ga59
        have f57 := f42.same sa57
        refine ⟨fs ++ [⟨pa52, sd, none⟩], xa43, xa44, _, _, _, rfl, by rw [ea60, framesV_snoc], fun f hf => ?_, fun f hf => ?_, by rw [List.length_append, l6]; rfl, ((b42.trans (Same.but sa57)).skip ba61 n4), ?_, by omega⟩
        · rcases List.mem_append.mp hf with hf | hf
          · exact (f57.but (sa57 _ _ e42) ba61) f hf
          · rw [List.mem_singleton.mp hf]
            exact ⟨ba61 _ _ (ne_of_none e42 na53).symm ea56, fk.a, nofun⟩
        · rcases List.mem_append.mp hf with hf | hf
          · exact ok6 f hf
          · rw [List.mem_singleton.mp hf]; exact nofun
        · exact ⟨ba61 _ _ n3p.symm (sa57 _ _ Pa47.a), ba61 _ _ (ne_of_none P0.b n4) (sa57 _ _ Pa47.b)⟩
      · have ca49 := of_dec ca49
        refine ⟨_, rfl, (fit (by simp)), fun pa64 na65 => ?_⟩
        generalize ga67 : upd Ha42 pa64 (HO.tup [V.str sd, optV o]) = Ha66
        obtain ⟨sa69, ea68⟩ := gen_new ga67 na65
        clear ga67
        refine ⟨_, _, _, rfl, rfl, (sa69 _ _ (ba46 _ _ n3p (sa32 _ _ (sa24 _ _ (ba14 _ _ n3p e6))))), (fits (by rw [framesV_len]; omega)), ?_⟩
        generalize ga71 : upd Ha66 p3 (HO.lst (framesV fs ++ [V.ref pa64])) = Ha70
        obtain ⟨ba73, ea72⟩ := gen_mut ga71
        clear ga71
        have f57 := f42.same sa69
        have oo : ∀ z, o = some z → z ≠ sd := fun z hz q => ca49 (by rw [hz, q]; rfl)
        refine ⟨fs ++ [⟨pa64, sd, o⟩], xa43, xa44, _, _, _, rfl, by rw [ea72, framesV_snoc], fun f hf => ?_, fun f hf => ?_, by rw [List.length_append, l6]; rfl, ((b42.trans (Same.but sa69)).skip ba73 n4), ?_, by omega⟩
        · rcases List.mem_append.mp hf with hf | hf
          · exact (f57.but (sa69 _ _ e42) ba73) f hf
          · rw [List.mem_singleton.mp hf]
            exact ⟨ba73 _ _ (ne_of_none e42 na65).symm ea68, fk⟩
        · rcases List.mem_append.mp hf with hf | hf
          · exact ok6 f hf
          · rw [List.mem_singleton.mp hf]; exact oo
        · exact ⟨ba73 _ _ n3p.symm (sa69 _ _ Pa47.a), ba73 _ _ (ne_of_none P0.b n4) (sa69 _ _ Pa47.b)⟩
    · rintro σ H6 ⟨fs, t1, z1, x4, x5, x6, rfl, e6, f6, ok6, l6, b6, P6, ht6⟩
      refine ⟨_, rfl, ?_⟩
      exact k _ _ _ _ _ n4 e6 f6 ok6 l6 b6 P6 ht6
theorem d_law_pairs (e : Ev K mg base) : DefN P w K mg base 5 "_law_pairs" ["pen", "names", "many"] (spPairs K) := by
  obtain ⟨fd, F⟩ := e.c.def_ 24 (d := dd "_law_pairs" 29) rfl
  exact ⟨⟨fd, ok_law_pairs F e, FunD.bindsN F fun _ _ _ _ _ _ us hl => match us, hl with | [_, _, _], _ => rfl⟩, F.kp, He.glo_ok e.X e.G (e.c.fact 52 rfl)⟩
def spFrameP (K : PySem.W.Frag) : Sp := fun vs H Q _ => ∃ (f : FrD), vs = [.ref f.p] ∧ PrAt H f ∧ (∀ z, f.o = some z → z ≠ f.a) ∧ ∀ q H', Same H H' → H q = none → IsFr K H' q f.a f.o → Q (.ref q) H'
theorem sc_law_frame : FnScope ["pair"] ["pair"] (defScope (top 30)) := ⟨rfl, rfl, rfl, by decide +kernel, rfl, by decide +kernel, by decide +kernel⟩
theorem ok_law_frame {fd : FuncData} (F : FunD K "_law_frame" "_law_frame" (defArgs (top 30)) (defBody (top 30)) (defScope (top 30)) [] [] (He.ga K "_law_frame") fd) (e : Ev K mg base) : FnOk P w K mg base CX0 5 (He.ga K "_law_frame") fd ["pair"] (spFrameP K) := by
  refine F.ok sc_law_frame (fun vs H Q E h => ?_) (fun cdv A outer s H vs Q E hr h => ?_)
  · obtain ⟨_, rfl, _⟩ := h
    rfl
  · skip
    refine ⟨_, PSs.nox ((pss_one (ps_ret (pe_frame2 e (hr.mono (by decide)) passNo (by rfl) (pa_cons (pe_ix (kix_tup (K := K)) (pv 0) pe_int (fun _ _ => rfl)) (pa_cons (pe_ix (kix_tup (K := K)) (pv 0) pe_int (fun _ _ => rfl)) pa_nil)))))), ?_⟩
    obtain ⟨f, rfl, ⟨hp, fo⟩, ne, k⟩ := h
    refine ⟨_, rfl, _, _, _, _, rfl, rfl, (SqT.of hp), rfl, _, rfl, _, _, _, _, rfl, rfl, (SqT.of hp), rfl, ?_⟩
    exact frame_new fo ne fun q H' s n fr => k q H' s n fr
theorem d_law_frame (e : Ev K mg base) : DefN P w K mg base 5 "_law_frame" ["pair"] (spFrameP K) := by
  obtain ⟨fd, F⟩ := e.c.def_ 25 (d := dd "_law_frame" 30) rfl
  exact ⟨⟨fd, ok_law_frame F e, FunD.bindsN F fun _ _ _ _ _ _ us hl => match us, hl with | [_], _ => rfl⟩, F.kp, He.glo_ok e.X e.G (e.c.fact 53 rfl)⟩
def pairD (p : Str × Option Str) : PyData := .tuple [.str p.1, optD p.2]
theorem dp_pairs {K : PySem.W.Frag} {H : Hp} : ∀ {fs : List FrD}, PrsAt H fs → DpAll K H (framesV fs) ((fs.map FrD.pair).map pairD)
  | [], _ => .nil
  | f :: r, h => .cons (.tup (SqT.of (h f (.head _)).1) (.cons (.str _) (.cons (by show Dp K H (optV f.o) (optD f.o); cases f.o; exact .non; exact .str _) .nil))) (dp_pairs (fs := r) fun g hg => h g (.tail _ hg))
theorem lay_pairs {l : List (Str × Option Str)} (h : ∀ p ∈ l, FrOk p.1 p.2) : PyData.canLayAll0 (l.map pairD) = true ∧ PyData.depthAll (l.map pairD) ≤ 1 := by
  induction l with
  | nil => exact ⟨by simp [PyData.canLayAll0], by simp [PyData.depthAll]⟩
  | cons a r ih =>
    obtain ⟨i1, i2⟩ := ih fun p hp => h p (.tail _ hp)
    have f := h a (.head _)
    have k1 : PyData.strOk a.1 = true := f.a.ok
    obtain ⟨a1, o⟩ := a
    cases o with
    | none =>
      refine ⟨by simp [PyData.canLayAll0, PyData.canLay0, pairD, optD, k1, i1], ?_⟩
      simp only [List.map_cons, PyData.depthAll, pairD, optD, PyData.depth]
      omega
    | some z =>
      have k2 : PyData.strOk z = true := (f.o z rfl).ok
      refine ⟨by simp [PyData.canLayAll0, PyData.canLay0, pairD, optD, k1, k2, i1], ?_⟩
      simp only [List.map_cons, PyData.depthAll, pairD, optD, PyData.depth]
      omega
theorem shaped_pairs {l : List (Str × Option Str)} (h : ∀ p ∈ l, FrOk p.1 p.2) : SeqAt.shaped (.list (l.map pairD)) = true := by
  obtain ⟨h1, h2⟩ := lay_pairs h
  unfold SeqAt.shaped
  simp [PyData.canLay0, PyData.depth, h1]
  omega
theorem rows_prs {H : Hp} {α : Type} {a : α → Str} {o : α → Option Str} : ∀ {rs : List Addr} {fs : List α}, RowsA H (fun f => .tup [.str (a f), optV (o f)]) rs fs → (∀ f ∈ fs, FrOk (a f) (o f)) → ∃ gs : List FrD, gs.map FrD.pair = fs.map (fun f => (a f, o f)) ∧ framesV gs = rs.map V.ref ∧ PrsAt H gs
  | [], [], _, _ => ⟨[], rfl, rfl, nofun⟩
  | r :: rs, f :: fs, h, k => by
    obtain ⟨gs, g1, g2, g3⟩ := rows_prs (rs := rs) (fs := fs) h.2 fun f hf => k f (.tail _ hf)
    refine ⟨⟨r, a f, o f⟩ :: gs, by rw [List.map_cons, List.map_cons, g1]; rfl, by rw [framesV, List.map_cons, List.map_cons, ← g2]; rfl, fun g hg => ?_⟩
    rcases List.mem_cons.mp hg with rfl | hg
    · exact ⟨h.1, k f (.head _)⟩
    · exact g3 g hg

def spShown (K : PySem.W.Frag) : Sp := fun vs H Q _ => ∃ (x : Addr) (fs : List FrD), vs = [.ref x] ∧ HistAt K H x fs ∧ fs.length ≤ 1000 ∧
  ∀ (a : Addr) (gs : List FrD) (H' : Hp), gs.map FrD.pair = fs.map FrD.pair → Same H H' → H a = none → H' a = some (.lst (framesV gs)) → PrsAt H' gs → Q (.ref a) H'
theorem sc_law_shown : FnScope ["history", "frame"] ["history"] (defScope (top 32)) := ⟨rfl, rfl, rfl, by decide +kernel, rfl, by decide +kernel, by decide +kernel⟩
theorem ok_law_shown {fd : FuncData} (F : FunD K "_law_shown" "_law_shown" (defArgs (top 32)) (defBody (top 32)) (defScope (top 32)) [] [] (He.ga K "_law_shown") fd) (e : Ev K mg base) : FnOk P w K mg base CX0 3 (He.ga K "_law_shown") fd ["history"] (spShown K) := by
  refine F.ok sc_law_shown (fun vs H Q E h => ?_) (fun cdv A outer s H vs Q E hr h => ?_)
  · obtain ⟨_, _, rfl, _⟩ := h
    rfl
  · skip
    refine ⟨_, PSs.nox ((pss_cons (ps_if (PW.pt (pw_or (pt_not (pt_val (pe_callB (kcall_isi (K := K)) (by rfl) (f_isinstance e) (by decide +kernel) (pa_cons (pv 0) (pa_cons (pe_glob (by rfl) (g_History e) (show RelV (.ref (He.ga K "History")) (.ref (He.ga K "History")) from rfl)) pa_nil))))) (pw_or1 (pt_not (pt_val (pe_callB (kcall_isi (K := K)) (by rfl) (f_isinstance e) (by decide +kernel) (pa_cons (pe_hframes e (hr.mono (by decide)) (pv 0)) (pa_cons (pe_bltn (by rfl) (f_tuple e) (by decide +kernel) (show RelV (.ty "tuple") (.type "tuple") from rfl)) pa_nil))))))))
      (pss_one (ps_ret pe_non)) pss_nil)
      (pss_one (ps_ret (pe_lc (own := [("frame", 1)]) (by rfl) sc_law_shown.nd (kpi_tup (K := K) (pe_hframes e (hr.mono (by decide)) (pv 0))) (blkOk_by (own := [("frame", 1)]) (N := ["history", "frame"]) (sc := defScope (top 32)) (by decide +kernel)) (fun _ _ _ _ _ => (pg_name (i := 1) sc_law_shown.nd rfl (Or.inl rfl))) (fun _ _ _ _ _ => pts_nil) (fun _ _ _ _ _ => (pe_tup (pa_cons (kpe_fld (K := K) (pv 1) rfl) (pa_cons (kpe_fld (K := K) (pv 1) rfl) pa_nil))))))))), ?_⟩
    obtain ⟨x, fs, rfl, hx, few, k⟩ := h
    obtain ⟨dx, t, u, hs, h1, h2, h3, h4, h5⟩ := id hx
    refine ⟨_, rfl, _, _, _, _, _, rfl, (.own _), ((own_History e).ty (cls_History e) h1), kit_same, _, rfl, ?_⟩
    show @ite _ _ (_) _ _
    refine ite_no (by decide +kernel) ?_
    refine ⟨_, rfl, _, _, _, rfl, h1, _, _, rfl, hx, fun t3 e4 => ?_⟩
    refine ⟨_, _, _, _, _, rfl, (.ty _), (.base (.tup e4)), rfl, _, rfl, ?_⟩
    show @ite _ _ (_) _ _
    refine ite_no (by decide +kernel) ?_
    refine ⟨_, rfl, _, _, _, rfl, h1, _, _, rfl, hx, fun t7 e8 => ?_⟩
    refine ⟨_, rfl, ⟨_, (SqT.of e8)⟩, fun D11 n12 => ?_⟩
    refine lc_newA (walk_tup (K := K) (a := t7) (xs := framesV fs)) fs (fun f => V.ref f.p) (fun f => .tup [.str f.a, optV f.o]) (by rw [framesV_len]) (yat _) n12 (fun H' s => SqT.of (s _ _ e8)) (fits (by omega)) (fun f hfm H3 s3 Kt Kf kt => ⟨rfl, ?_⟩) fun H3 rs s3 eD ra => ?_
    · obtain ⟨fo, dxf, ef⟩ := h5 f hfm
      refine ⟨_, rfl, _, _, _, _, _, rfl, (s3 _ _ ef), (cls_Frame e), (no_Frame_sender e), rfl, _, rfl, _, _, _, _, _, rfl, (s3 _ _ ef), (cls_Frame e), (no_Frame_target e), rfl, (fit (by simp)), fun pa3 na4 => ?_⟩
      generalize ga6 : upd H3 pa3 (HO.tup [V.str f.a, optV f.o]) = Ha5
      obtain ⟨sa8, ea7⟩ := gen_new ga6 na4
      clear ga6
      exact kt _ _ sa8 na4 ea7
    · obtain ⟨gs, g1', g2', g3'⟩ := rows_prs ra fun f hf => (h5 f hf).1
      exact k _ gs _ g1' s3 n12 (by rw [g2']; exact eD) g3'
theorem d_law_shown (e : Ev K mg base) : DefN P w K mg base 3 "_law_shown" ["history"] (spShown K) := by
  obtain ⟨fd, F⟩ := e.c.def_ 26 (d := dd "_law_shown" 32) rfl
  exact ⟨⟨fd, ok_law_shown F e, FunD.bindsN F fun _ _ _ _ _ _ us hl => match us, hl with | [_], _ => rfl⟩, F.kp, He.glo_ok e.X e.G (e.c.fact 54 rfl)⟩
theorem sc_BadIndex___init__ : FnScope ["self", "value"] ["self", "value"] (defScope (inClass (top 7) 0)) := ⟨rfl, rfl, rfl, by decide +kernel, rfl, by decide +kernel, by decide +kernel⟩
theorem ok_BadIndex___init__ {fd : FuncData} (F : FunD K "__init__" "BadIndex.__init__" (defArgs (inClass (top 7) 0)) (defBody (inClass (top 7) 0)) (defScope (inClass (top 7) 0)) [] [] (He.ma K (He.ga K "BadIndex") "__init__") fd) (e : Ev K mg base) : FnOk P w K mg base CX0 1 (He.ma K (He.ga K "BadIndex") "__init__") fd ["self", "value"] (spErr1 K (He.ga K "BadIndex") "value") := by
  refine F.ok sc_BadIndex___init__ (fun vs H Q E h => ?_) (fun cdv A outer s H vs Q E hr h => ?_)
  · obtain ⟨_, _, rfl, _⟩ := h
    rfl
  · skip
    refine ⟨_, PSs.nox ((pss_one (ps_ost (pv 0) (pv 1)))), ?_⟩
    obtain ⟨a, v, rfl, ha, k⟩ := h
    refine ⟨_, rfl, _, rfl, a, _, rfl, (err_BadIndex e).o, (no_BadIndex_value e), .inl ⟨ha, fun dx h1 h2 => ?_⟩⟩
    exact k dx h1 h2
theorem d_BadIndex___init__ (e : Ev K mg base) : DefM P w K mg base 1 (He.ma K (He.ga K "BadIndex") "__init__") ["self", "value"] (spErr1 K (He.ga K "BadIndex") "value") := by
  obtain ⟨fd, F⟩ := e.c.def_ 27 (d := dm "BadIndex" "__init__" "BadIndex.__init__" 7 0) rfl
  exact ⟨fd, ok_BadIndex___init__ F e, FunD.bindsN F fun _ _ _ _ _ _ us hl => match us, hl with | [_, _], _ => rfl⟩
def NotInt (K : PySem.W.Frag) (H : Hp) (v : V) : Prop := (∃ b, v = .bl b) ∨ ∃ t, TyX K H v t ∧ PySem.W.kitOne K t (.type "int") = some false
def spWhole (K : PySem.W.Frag) : Sp := fun vs H Q _ => ∃ v, vs = [v] ∧ ((∃ i, v = .int i ∧ Q (.bl true) H) ∨ (NotInt K H v ∧ Q (.bl false) H))
theorem sc_is_whole : FnScope ["value"] ["value"] (defScope (top 14)) := ⟨rfl, rfl, rfl, by decide +kernel, rfl, by decide +kernel, by decide +kernel⟩
theorem ok_is_whole {fd : FuncData} (F : FunD K "is_whole" "is_whole" (defArgs (top 14)) (defBody (top 14)) (defScope (top 14)) [] [] (He.ga K "is_whole") fd) (e : Ev K mg base) : FnOk P w K mg base CX0 1 (He.ga K "is_whole") fd ["value"] (spWhole K) := by
  refine F.ok sc_is_whole (fun vs H Q E h => ?_) (fun cdv A outer s H vs Q E hr h => ?_)
  · obtain ⟨_, rfl, _⟩ := h
    rfl
  · skip
    refine ⟨_, PSs.nox ((pss_one (ps_ret (pe_and (pe_callB (kcall_isi (K := K)) (by rfl) (f_isinstance e) (by decide +kernel) (pa_cons (pv 0) (pa_cons (pe_bltn (by rfl) (f_int e) (by decide +kernel) (show RelV (.ty "int") (.type "int") from rfl)) pa_nil))) (pe_one (pe_not (pe_callB (kcall_isi (K := K)) (by rfl) (f_isinstance e) (by decide +kernel) (pa_cons (pv 0) (pa_cons (pe_bltn (by rfl) (f_bool e) (by decide +kernel) (show RelV (.ty "bool") (.type "bool") from rfl)) pa_nil))))))))), ?_⟩
    obtain ⟨v, rfl, h⟩ := h
    rcases h with ⟨i, rfl, k⟩ | ⟨(⟨b, rfl⟩ | ⟨t, ty, kt⟩), k⟩
    · refine ⟨_, rfl, _, _, _, _, _, rfl, (.ty _), (.base (.int _)), rfl, _, rfl, _, rfl, _, _, _, _, _, rfl, (.ty _), (.base (.int _)), rfl, _, rfl, ?_⟩
      exact k
    · refine ⟨_, rfl, _, _, _, _, _, rfl, (.ty _), (.base (.bl _)), rfl, _, rfl, ?_⟩
      refine ite_yes (by decide +kernel) ?_
      refine ⟨_, rfl, _, _, _, _, _, rfl, (.ty _), (.base (.bl _)), rfl, _, rfl, ?_⟩
      exact k
    · refine ⟨_, rfl, _, _, _, _, _, rfl, (.ty _), ty, kt, _, rfl, ?_⟩
      exact k
theorem d_is_whole (e : Ev K mg base) : DefN P w K mg base 1 "is_whole" ["value"] (spWhole K) := by
  obtain ⟨fd, F⟩ := e.c.def_ 28 (d := dd "is_whole" 14) rfl
  exact ⟨⟨fd, ok_is_whole F e, FunD.bindsN F fun _ _ _ _ _ _ us hl => match us, hl with | [_], _ => rfl⟩, F.kp, He.glo_ok e.X e.G (e.c.fact 64 rfl)⟩
def idxOf (v : V) (n : Int) : Option Nat := match v with | .int i => if 0 ≤ i ∧ i < n then some i.toNat else none | _ => none
def IntOr (K : PySem.W.Frag) (H : Hp) (v : V) : Prop := (∃ i, v = .int i) ∨ NotInt K H v
theorem idxOf_no {K : PySem.W.Frag} {H : Hp} {v : V} {n : Int} (h : NotInt K H v) : idxOf v n = none := by
  rcases h with ⟨b, rfl⟩ | ⟨t, ty, kt⟩
  · rfl
  · cases v with
    | int i =>
      cases ty with
      | base b => cases b; have e : PySem.W.kitOne K (.type "int") (.type "int") = some true := kit_ty (by decide +kernel); rw [e] at kt; cases kt
    | _ => rfl
theorem idxOf_some {v : V} {n : Int} {k : Nat} (h : idxOf v n = some k) : v = .int (k : Nat) ∧ (k : Int) < n := by
  unfold idxOf at h
  split at h
  · split at h
    · rename_i i q
      cases h
      exact ⟨by rw [Int.toNat_of_nonneg q.1], by rw [Int.toNat_of_nonneg q.1]; exact q.2⟩
    · cases h
  · cases h
def spIdx (K : PySem.W.Frag) : Sp := fun vs H Q _ => ∃ (v : V) (n : Int), vs = [v, .int n] ∧ IntOr K H v ∧ Q (.bl (idxOf v n).isSome) H
theorem sc_is_index : FnScope ["value", "many"] ["value", "many"] (defScope (top 15)) := ⟨rfl, rfl, rfl, by decide +kernel, rfl, by decide +kernel, by decide +kernel⟩
theorem ok_is_index {fd : FuncData} (F : FunD K "is_index" "is_index" (defArgs (top 15)) (defBody (top 15)) (defScope (top 15)) [] [] (He.ga K "is_index") fd) (e : Ev K mg base) : FnOk P w K mg base CX0 2 (He.ga K "is_index") fd ["value", "many"] (spIdx K) := by
  refine F.ok sc_is_index (fun vs H Q E h => ?_) (fun cdv A outer s H vs Q E hr h => ?_)
  · obtain ⟨_, _, rfl, _⟩ := h
    rfl
  · skip
    refine ⟨_, PSs.nox ((pss_one (ps_ret (pe_and (pe_def (d_is_whole (P := P) (w := w) (K := K) (mg := mg) (base := base) e) (hr.mono (by decide)) (by rfl) (pa_cons (pv 0) pa_nil)) (pe_one (pe_chain op_le op_lt pe_int (pv 0) (pv 1))))))), ?_⟩
    obtain ⟨v, n, rfl, h, k⟩ := h
    rcases h with ⟨i, rfl⟩ | h
    · refine ⟨_, rfl, _, rfl, .inl ⟨_, rfl, _, rfl, _, rfl, _, _, rfl, rfl, _, rfl, ?_⟩⟩
      unfold idxOf at k
      simp only at k
      refine ite2 (fun ca1 => ?_) (fun ca1 => ?_)
      · have ca1 := of_decide_eq_true ca1
        refine ⟨_, rfl, _, _, rfl, rfl, ?_⟩
        by_cases z : i < n
        · rw [if_pos ⟨ca1, z⟩] at k
          show Q (.bl (decide (i < n))) H
          rw [decide_eq_true z]
          exact k
        · rw [if_neg (fun q => z q.2)] at k
          show Q (.bl (decide (i < n))) H
          rw [decide_eq_false z]
          exact k
      · have ca1 := of_dec ca1
        rw [if_neg (fun q => ca1 q.1)] at k
        exact k
    · rw [idxOf_no h] at k
      refine ⟨_, rfl, ?_⟩
      refine ⟨v, rfl, .inr ⟨h, ?_⟩⟩
      exact ⟨_, rfl, iteF k⟩
theorem d_is_index (e : Ev K mg base) : DefN P w K mg base 2 "is_index" ["value", "many"] (spIdx K) := by
  obtain ⟨fd, F⟩ := e.c.def_ 29 (d := dd "is_index" 15) rfl
  exact ⟨⟨fd, ok_is_index F e, FunD.bindsN F fun _ _ _ _ _ _ us hl => match us, hl with | [_, _], _ => rfl⟩, F.kp, He.glo_ok e.X e.G (e.c.fact 65 rfl)⟩
def spHidx (K : PySem.W.Frag) (bd : Int) (res : Nat → List FrD → List FrD) : Sp := fun vs H Q E => ∃ (x : Addr) (v : V) (fs : List FrD), vs = [.ref x, v] ∧ HistAt K H x fs ∧ fs.length ≤ 60 ∧ IntOr K H v ∧
  (idxOf v (fs.length + bd) = none → ∀ d H', Same H H' → H d = none → H' d = some (.xd [("value", v)]) → E (.ref (He.ga K "BadIndex")) (some d) H') ∧
  ∀ k, idxOf v (fs.length + bd) = some k → ∀ p H', Same H H' → H p = none → HistAt K H' p (res k fs) → Q (.ref p) H'
theorem sc_History_without : FnScope ["self", "k", "frames"] ["self", "k"] (defScope (inClass (top 22) 12)) := ⟨rfl, rfl, rfl, by decide +kernel, rfl, by decide +kernel, by decide +kernel⟩
theorem ok_History_without {fd : FuncData} (F : FunD K "without" "History.without" (defArgs (inClass (top 22) 12)) (defBody (inClass (top 22) 12)) (defScope (inClass (top 22) 12)) [] [] (He.ma K (He.ga K "History") "without") fd) (e : Ev K mg base) : FnOk P w K mg base (CX P w) 6 (He.ma K (He.ga K "History") "without") fd ["self", "k"] (spHidx K 0 fun k fs => fs.take k ++ fs.drop (k + 1)) := by
  refine F.ok sc_History_without (fun vs H Q E h => ?_) (fun cdv A outer s H vs Q E hr h => ?_)
  · obtain ⟨_, _, _, rfl, _⟩ := h
    rfl
  · skip
    refine ⟨_, ((pss_cons (ps_if (pt_not (pt_val (pe_def (d_is_index (P := P) (w := w) (K := K) (mg := mg) (base := base) e) (hr.mono (by decide)) (by rfl) (pa_cons (pv 1) (pa_cons (pe_callB (kcall_len_seq (K := K)) (by rfl) (f_len e) (by decide +kernel) (pa_cons (kpe_fld (K := K) (pv 0) rfl) pa_nil)) pa_nil)))))
      (pss_one (ps_raise1 (err_BadIndex e) (d_BadIndex___init__ e) (hr.mono (by decide)) rfl (takes_of rfl rfl rfl rfl) rfl (g_BadIndex e) (pa_cons (pv 1) pa_nil))) pss_nil)
      (pss_cons (ps_set (i := 2) sc_History_without.nd rfl (Or.inl rfl) (pe_op (op_catA (K := K)) (pe_slice (ksl_tup (K := K)) (kpe_fld (K := K) (pv 0) rfl) po_none (po_some (pv 1))) (pe_slice (ksl_tup (K := K)) (kpe_fld (K := K) (pv 0) rfl) (po_some (pe_op op_add (pv 1) pe_int)) po_none)))
      (pss_one (ps_ret (pe_newS (mk_History e) (d_History___init__ e) (hr.mono (by decide)) (by rfl) (g_History e) (by exact passes_call (takes_of rfl rfl rfl rfl) fun _ _ _ _ h => h) (pv 2))))))), ?_⟩
    obtain ⟨x, v, fs, rfl, hx, few, iv, k1, k2⟩ := h
    obtain ⟨dx, t, u, hs, h1, h2, h3, h4, h5⟩ := id hx
    refine ⟨_, rfl, _, rfl, _, _, _, _, _, rfl, h1, (cls_History e), (no_History__frames e), rfl, _, _, rfl, (.inr (SqT.of h2)), ?_⟩
    refine ⟨v, _, rfl, iv, ?_⟩
    rw [framesV_len]
    have lz : ((fs.length : Nat) : Int) + 0 = (fs.length : Nat) := by omega
    rw [lz] at k1 k2
    cases ei : idxOf v ((fs.length : Nat) : Int) with
    | none =>
      refine ⟨_, rfl, ?_⟩
      show @ite _ _ (_) _ _
      refine ite_yes (by decide +kernel) ?_
      refine ⟨_, rfl, _, rfl, fun db6 Hb7 sb8 nb9 eb10 => ?_⟩
      exact k1 ei _ _ sb8 nb9 eb10
    | some k =>
      obtain ⟨rfl, lk⟩ := idxOf_some ei
      refine ⟨_, rfl, ?_⟩
      show @ite _ _ (_) _ _
      refine iteF ?_
      refine ⟨_, rfl, _, _, _, _, _, rfl, h1, (cls_History e), (no_History__frames e), rfl, _, rfl, _, rfl, _, _, rfl, (SqT.of h2), (fun q => by have := q.2; rw [framesV_len] at this; simp only [HT.sIx] at this; split at this <;> omega), fun pc3 nc4 => ?_⟩
      generalize gc6 : upd H pc3 (HO.tup (cutV (framesV fs) none (some (↑k : Int)))) = Hc5
      obtain ⟨sc8, ec7⟩ := gen_new gc6 nc4
      clear gc6
      rw [cutV_to _ (by omega)] at ec7
      refine ⟨_, rfl, _, _, _, _, _, rfl, (sc8 _ _ h1), (cls_History e), (no_History__frames e), rfl, _, rfl, _, _, rfl, rfl, _, rfl, _, _, rfl, (SqT.of (sc8 _ _ h2)), (fun q => by have := q.1; simp only [HT.sIx] at this; rw [framesV_len] at this; split at this <;> omega), fun pc11 nc12 => ?_⟩
      generalize gc14 : upd Hc5 pc11 (HO.tup (cutV (framesV fs) (some ((↑k : Int) + (1 : Int))) none)) = Hc13
      obtain ⟨sc16, ec15⟩ := gen_new gc14 nc12
      clear gc14
      rw [cutV_from _ (by omega)] at ec15
      refine catA_of (SqT.of (sc16 _ _ ec7)) (SqT.of ec15) (fit (by rw [List.length_take, List.length_drop, framesV_len]; omega)) fun pq Hq sq eq => ?_
      have e2 : (framesV fs).take (k : Int).toNat ++ (framesV fs).drop ((k : Int) + 1).toNat = framesV (fs.take k ++ fs.drop (k + 1)) := by
        unfold framesV
        rw [show ((k : Int) + 1).toNat = k + 1 by omega, show ((k : Int)).toNat = k from rfl, List.map_append, List.map_take, List.map_drop]
      rw [e2] at eq
      have sA := (sc8.trans sc16).trans sq
      have hq : FrsAt K Hq (fs.take k ++ fs.drop (k + 1)) := fun f hf => (h5.same sA) f (by
        rcases List.mem_append.mp hf with hf | hf
        · exact List.mem_of_mem_take hf
        · exact List.mem_of_mem_drop hf)
      have ln : (fs.take k ++ fs.drop (k + 1)).length ≤ 60 := by rw [List.length_append, List.length_take, List.length_drop]; omega
      refine ⟨_, rfl, _, _, rfl, .inl eq, ?_⟩
      exact hist_new hq (fit (by omega)) (fun m => absurd m (by omega)) fun _ p H' s' n' ha => k2 k ei p H' (sA.trans s') (same_none sA n') ha
theorem d_History_without (e : Ev K mg base) : ∃ fd, FnOk P w K mg base (CX P w) 6 (He.ma K (He.ga K "History") "without") fd ["self", "k"] (spHidx K 0 fun k fs => fs.take k ++ fs.drop (k + 1)) ∧ FunD K "without" "History.without" (defArgs (inClass (top 22) 12)) (defBody (inClass (top 22) 12)) (defScope (inClass (top 22) 12)) [] [] (He.ma K (He.ga K "History") "without") fd := by
  obtain ⟨fd, F⟩ := e.c.def_ 30 (d := dm "History" "without" "History.without" 22 12) rfl
  exact ⟨fd, ok_History_without F e, F⟩
theorem db_History_without (e : Ev K mg base) : ∃ fd, FnOk P w K mg base (CX P w) 6 (He.ma K (He.ga K "History") "without") fd ["self", "k"] (spHidx K 0 fun k fs => fs.take k ++ fs.drop (k + 1)) ∧ Binds K fd ["self", "k"] [] := by
  obtain ⟨fd, F, D⟩ := d_History_without (P := P) (w := w) e
  exact ⟨fd, F, FunD.bindsN (ps := ["self", "k"]) D fun _ _ _ _ _ _ us hl => match us, hl with | [_, _], _ => rfl⟩
theorem sc_History_upto : FnScope ["self", "k", "frames"] ["self", "k"] (defScope (inClass (top 22) 14)) := ⟨rfl, rfl, rfl, by decide +kernel, rfl, by decide +kernel, by decide +kernel⟩
theorem ok_History_upto {fd : FuncData} (F : FunD K "upto" "History.upto" (defArgs (inClass (top 22) 14)) (defBody (inClass (top 22) 14)) (defScope (inClass (top 22) 14)) [] [] (He.ma K (He.ga K "History") "upto") fd) (e : Ev K mg base) : FnOk P w K mg base (CX P w) 6 (He.ma K (He.ga K "History") "upto") fd ["self", "k"] (spHidx K 1 fun k fs => fs.take k) := by
  refine F.ok sc_History_upto (fun vs H Q E h => ?_) (fun cdv A outer s H vs Q E hr h => ?_)
  · obtain ⟨_, _, _, rfl, _⟩ := h
    rfl
  · skip
    refine ⟨_, ((pss_cons (ps_if (pt_not (pt_val (pe_def (d_is_index (P := P) (w := w) (K := K) (mg := mg) (base := base) e) (hr.mono (by decide)) (by rfl) (pa_cons (pv 1) (pa_cons (pe_op op_add (pe_callB (kcall_len_seq (K := K)) (by rfl) (f_len e) (by decide +kernel) (pa_cons (kpe_fld (K := K) (pv 0) rfl) pa_nil)) pe_int) pa_nil)))))
      (pss_one (ps_raise1 (err_BadIndex e) (d_BadIndex___init__ e) (hr.mono (by decide)) rfl (takes_of rfl rfl rfl rfl) rfl (g_BadIndex e) (pa_cons (pv 1) pa_nil))) pss_nil)
      (pss_cons (ps_set (i := 2) sc_History_upto.nd rfl (Or.inl rfl) (pe_slice (ksl_to (K := K)) (kpe_fld (K := K) (pv 0) rfl) po_none (po_some (pv 1))))
      (pss_one (ps_ret (pe_newS (mk_History e) (d_History___init__ e) (hr.mono (by decide)) (by rfl) (g_History e) (by exact passes_call (takes_of rfl rfl rfl rfl) fun _ _ _ _ h => h) (pv 2))))))), ?_⟩
    obtain ⟨x, v, fs, rfl, hx, few, iv, k1, k2⟩ := h
    obtain ⟨dx, t, u, hs, h1, h2, h3, h4, h5⟩ := id hx
    refine ⟨_, rfl, _, rfl, _, _, _, _, _, rfl, h1, (cls_History e), (no_History__frames e), rfl, _, _, rfl, (.inr (SqT.of h2)), ?_⟩
    refine ⟨_, _, rfl, rfl, ?_⟩
    refine ⟨v, _, rfl, iv, ?_⟩
    rw [framesV_len]
    cases ei : idxOf v ((fs.length : Nat) + 1 : Int) with
    | none =>
      refine ⟨_, rfl, ?_⟩
      show @ite _ _ (_) _ _
      refine ite_yes (by decide +kernel) ?_
      refine ⟨_, rfl, _, rfl, fun db6 Hb7 sb8 nb9 eb10 => ?_⟩
      exact k1 ei _ _ sb8 nb9 eb10
    | some k =>
      obtain ⟨rfl, lk⟩ := idxOf_some ei
      refine ⟨_, rfl, ?_⟩
      show @ite _ _ (_) _ _
      refine iteF ?_
      refine ⟨_, rfl, _, _, _, _, _, rfl, h1, (cls_History e), (no_History__frames e), rfl, _, rfl, _, rfl, ?_⟩
      refine ⟨t, framesV fs, k, rfl, rfl, rfl, SqT.of h2, by rw [framesV_len]; omega, fun pq Hq sq eq => ?_⟩
      have e2 : (framesV fs).take k = framesV (fs.take k) := by unfold framesV; rw [List.map_take]
      rw [e2] at eq
      have hq : FrsAt K Hq (fs.take k) := fun f hf => (h5.same sq) f (List.mem_of_mem_take hf)
      have ln : (fs.take k).length ≤ 60 := by rw [List.length_take]; omega
      refine ⟨_, rfl, _, _, rfl, .inl eq, ?_⟩
      exact hist_new hq (fit (by omega)) (fun m => absurd m (by omega)) fun _ p H' s' n' ha => k2 k ei p H' (sq.trans s') (same_none sq n') ha
theorem d_History_upto (e : Ev K mg base) : ∃ fd, FnOk P w K mg base (CX P w) 6 (He.ma K (He.ga K "History") "upto") fd ["self", "k"] (spHidx K 1 fun k fs => fs.take k) ∧ FunD K "upto" "History.upto" (defArgs (inClass (top 22) 14)) (defBody (inClass (top 22) 14)) (defScope (inClass (top 22) 14)) [] [] (He.ma K (He.ga K "History") "upto") fd := by
  obtain ⟨fd, F⟩ := e.c.def_ 31 (d := dm "History" "upto" "History.upto" 22 14) rfl
  exact ⟨fd, ok_History_upto F e, F⟩
theorem db_History_upto (e : Ev K mg base) : ∃ fd, FnOk P w K mg base (CX P w) 6 (He.ma K (He.ga K "History") "upto") fd ["self", "k"] (spHidx K 1 fun k fs => fs.take k) ∧ Binds K fd ["self", "k"] [] := by
  obtain ⟨fd, F, D⟩ := d_History_upto (P := P) (w := w) e
  exact ⟨fd, F, FunD.bindsN (ps := ["self", "k"]) D fun _ _ _ _ _ _ us hl => match us, hl with | [_, _], _ => rfl⟩
def swapF (k : Nat) (fs : List FrD) : List FrD := match fs[k]?, fs[k + 1]? with | some a, some b => (fs.set k b).set (k + 1) a | _, _ => fs
theorem sc_History_swapped : FnScope ["self", "k", "frames"] ["self", "k"] (defScope (inClass (top 22) 13)) := ⟨rfl, rfl, rfl, by decide +kernel, rfl, by decide +kernel, by decide +kernel⟩
theorem ok_History_swapped {fd : FuncData} (F : FunD K "swapped" "History.swapped" (defArgs (inClass (top 22) 13)) (defBody (inClass (top 22) 13)) (defScope (inClass (top 22) 13)) [] [] (He.ma K (He.ga K "History") "swapped") fd) (e : Ev K mg base) : FnOk P w K mg base (CX P w) 6 (He.ma K (He.ga K "History") "swapped") fd ["self", "k"] (spHidx K (-1) swapF) := by
  refine F.ok sc_History_swapped (fun vs H Q E h => ?_) (fun cdv A outer s H vs Q E hr h => ?_)
  · obtain ⟨_, _, _, rfl, _⟩ := h
    rfl
  · skip
    refine ⟨_, ((pss_cons (ps_if (pt_not (pt_val (pe_def (d_is_index (P := P) (w := w) (K := K) (mg := mg) (base := base) e) (hr.mono (by decide)) (by rfl) (pa_cons (pv 1) (pa_cons (pe_op op_sub (pe_callB (kcall_len_seq (K := K)) (by rfl) (f_len e) (by decide +kernel) (pa_cons (kpe_fld (K := K) (pv 0) rfl) pa_nil)) pe_int) pa_nil)))))
      (pss_one (ps_raise1 (err_BadIndex e) (d_BadIndex___init__ e) (hr.mono (by decide)) rfl (takes_of rfl rfl rfl rfl) rfl (g_BadIndex e) (pa_cons (pv 1) pa_nil))) pss_nil)
      (pss_cons (ps_set (i := 2) sc_History_swapped.nd rfl (Or.inl rfl) (pe_callTy (kcall_list_of (K := K)) (by rfl) (f_list e) (by decide +kernel) (pa_cons (kpe_fld (K := K) (pv 0) rfl) pa_nil)))
      (pss_cons (ps_asg (pe_ix (kix_tup (K := K)) (kpe_fld (K := K) (pv 0) rfl) (pe_op op_add (pv 1) pe_int) (fun _ _ => rfl)) (pg_sub (pv 2) (pv 1) set_list))
      (pss_cons (ps_asg (pe_ix (kix_tup (K := K)) (kpe_fld (K := K) (pv 0) rfl) (pv 1) (fun _ _ => rfl)) (pg_sub (pv 2) (pe_op op_add (pv 1) pe_int) set_list))
      (pss_one (ps_ret (pe_newS (mk_History e) (d_History___init__ e) (hr.mono (by decide)) (by rfl) (g_History e) (by exact passes_call (takes_of rfl rfl rfl rfl) fun _ _ _ _ h => h) (pv 2))))))))), ?_⟩
    obtain ⟨x, v, fs, rfl, hx, few, iv, k1, k2⟩ := h
    obtain ⟨dx, t, u, hs, h1, h2, h3, h4, h5⟩ := id hx
    refine ⟨_, rfl, _, rfl, _, _, _, _, _, rfl, h1, (cls_History e), (no_History__frames e), rfl, _, _, rfl, (.inr (SqT.of h2)), ?_⟩
    refine ⟨_, _, rfl, rfl, ?_⟩
    refine ⟨v, _, rfl, iv, ?_⟩
    rw [framesV_len]
    have lz : ((fs.length : Nat) : Int) + (-1) = (fs.length : Nat) - 1 := by omega
    rw [lz] at k1 k2
    cases ei : idxOf v ((fs.length : Nat) - 1 : Int) with
    | none =>
      refine ⟨_, rfl, ?_⟩
      show @ite _ _ (_) _ _
      refine ite_yes (by decide +kernel) ?_
      refine ⟨_, rfl, _, rfl, fun db6 Hb7 sb8 nb9 eb10 => ?_⟩
      exact k1 ei _ _ sb8 nb9 eb10
    | some k =>
      obtain ⟨rfl, lk⟩ := idxOf_some ei
      obtain ⟨fa, hfa⟩ : ∃ a, fs[k]? = some a := ⟨_, List.getElem?_eq_getElem (by omega)⟩
      obtain ⟨fb, hfb⟩ : ∃ b, fs[k + 1]? = some b := ⟨_, List.getElem?_eq_getElem (by omega)⟩
      have at0 : atI (framesV fs) (k : Int) = some (.ref fa.p) := atI_nat (j := k) (by unfold framesV; rw [List.getElem?_map, hfa]; rfl)
      have at1 : atI (framesV fs) ((k : Int) + 1) = some (.ref fb.p) := atI_nat (j := k + 1) (by unfold framesV; rw [List.getElem?_map, hfb]; rfl)
      refine ⟨_, rfl, ?_⟩
      show @ite _ _ (_) _ _
      refine iteF ?_
      refine ⟨_, rfl, _, _, _, _, _, rfl, h1, (cls_History e), (no_History__frames e), rfl, _, _, rfl, (.inr (SqT.of h2)), fun lc3 nc4 => ?_⟩
      generalize gc6 : upd H lc3 (HO.lst (framesV fs)) = Hc5
      obtain ⟨sc8, ec7⟩ := gen_new gc6 nc4
      clear gc6
      have ix0 : ixN (framesV fs).length (k : Int) = some k := by unfold ixN; rw [if_pos (by omega), if_pos (by rw [framesV_len]; omega)]; rfl
      have ix1 : ixN ((framesV fs).set k (.ref fb.p)).length ((k : Int) + 1) = some (k + 1) := by unfold ixN; rw [List.length_set, if_pos (by omega), if_pos (by rw [framesV_len]; omega)]; rfl
      have t8 := sc8 _ _ h2
      have x8 := sc8 _ _ h1
      refine ⟨_, rfl, _, _, _, _, _, rfl, x8, (cls_History e), (no_History__frames e), rfl, _, rfl, _, _, rfl, rfl, _, _, _, _, rfl, rfl, (SqT.of t8), at1, _, rfl, _, rfl, lc3, _, _, _, rfl, rfl, ec7, ix0, ?_⟩
      generalize gc2 : upd Hc5 lc3 (HO.lst ((framesV fs).set k (V.ref fb.p))) = Hc1
      obtain ⟨bc4, ec3⟩ := gen_mut gc2
      clear gc2
      refine ⟨_, rfl, _, _, _, _, _, rfl, (bc4 _ _ (ne_of_none h1 nc4) x8), (cls_History e), (no_History__frames e), rfl, _, rfl, _, _, _, _, rfl, rfl, (SqT.of (bc4 _ _ (ne_of_none h2 nc4) t8)), at0, _, rfl, _, rfl, _, _, rfl, rfl, _, _, _, _, rfl, rfl, ec3, ix1, ?_⟩
      generalize gc6 : upd Hc1 lc3 (HO.lst (((framesV fs).set k (V.ref fb.p)).set (k + (1 : Nat)) (V.ref fa.p))) = Hc9
      obtain ⟨bc8, ec9⟩ := gen_mut gc6
      clear gc6
      have er : swapF k fs = (fs.set k fb).set (k + 1) fa := by unfold swapF; rw [hfa, hfb]
      have e2 : ((framesV fs).set k (V.ref fb.p)).set (k + (1 : Nat)) (V.ref fa.p) = framesV (swapF k fs) := by rw [er]; unfold framesV; rw [List.map_set, List.map_set]
      rw [e2] at ec9
      have sH : Same H Hc9 := Same.skip sc8 (bc4.trans bc8) nc4
      have hq : FrsAt K Hc9 (swapF k fs) := fun f hf => (h5.same sH) f (by
        rw [er] at hf
        rcases List.mem_or_eq_of_mem_set hf with hf | rfl
        · rcases List.mem_or_eq_of_mem_set hf with hf | rfl
          · exact hf
          · exact List.mem_of_getElem? hfb
        · exact List.mem_of_getElem? hfa)
      have ln : (swapF k fs).length ≤ 60 := by rw [er, List.length_set, List.length_set]; exact few
      refine ⟨_, rfl, _, _, rfl, .inr (SqL.of ec9), ?_⟩
      exact hist_new hq (fit (by omega)) (fun m => absurd m (by omega)) fun _ p H' s' n' ha => k2 k ei p H' (sH.trans s') (same_none sH n') ha
theorem d_History_swapped (e : Ev K mg base) : ∃ fd, FnOk P w K mg base (CX P w) 6 (He.ma K (He.ga K "History") "swapped") fd ["self", "k"] (spHidx K (-1) swapF) ∧ FunD K "swapped" "History.swapped" (defArgs (inClass (top 22) 13)) (defBody (inClass (top 22) 13)) (defScope (inClass (top 22) 13)) [] [] (He.ma K (He.ga K "History") "swapped") fd := by
  obtain ⟨fd, F⟩ := e.c.def_ 32 (d := dm "History" "swapped" "History.swapped" 22 13) rfl
  exact ⟨fd, ok_History_swapped F e, F⟩
theorem db_History_swapped (e : Ev K mg base) : ∃ fd, FnOk P w K mg base (CX P w) 6 (He.ma K (He.ga K "History") "swapped") fd ["self", "k"] (spHidx K (-1) swapF) ∧ Binds K fd ["self", "k"] [] := by
  obtain ⟨fd, F, D⟩ := d_History_swapped (P := P) (w := w) e
  exact ⟨fd, F, FunD.bindsN (ps := ["self", "k"]) D fun _ _ _ _ _ _ us hl => match us, hl with | [_, _], _ => rfl⟩
def AddAt (K : PySem.W.Frag) (H : Hp) (y : Addr) (gs : List FrD) : Prop := (∃ a o, IsFr K H y a o ∧ gs = [⟨y, a, o⟩]) ∨ HistAt K H y gs
def spAddH (K : PySem.W.Frag) : Sp := fun vs H Q E => ∃ (x y : Addr) (fs gs : List FrD), vs = [.ref x, .ref y] ∧ HistAt K H x fs ∧ AddAt K H y gs ∧ fs.length ≤ 1000 ∧ gs.length ≤ 1000 ∧
  (60 < (fs ++ gs).length → ∀ d H', Same H H' → H d = none → H' d = some (.xd [("most", .int 60), ("what", .str "frames")]) → E (.ref (He.ga K "TooMany")) (some d) H') ∧
  ((fs ++ gs).length ≤ 60 → ∀ p H', Same H H' → H p = none → HistAt K H' p (fs ++ gs) → Q (.ref p) H')
theorem sc_History___add__ : FnScope ["self", "other", "behind", "frames"] ["self", "other"] (defScope (inClass (top 22) 10)) := ⟨rfl, rfl, rfl, by decide +kernel, rfl, by decide +kernel, by decide +kernel⟩
theorem ok_History___add__ {fd : FuncData} (F : FunD K "__add__" "History.__add__" (defArgs (inClass (top 22) 10)) (defBody (inClass (top 22) 10)) (defScope (inClass (top 22) 10)) [] [] (He.ma K (He.ga K "History") "__add__") fd) (e : Ev K mg base) : FnOk P w K mg base (CX P w) 6 (He.ma K (He.ga K "History") "__add__") fd ["self", "other"] (spAddH K) := by
  refine F.ok sc_History___add__ (fun vs H Q E h => ?_) (fun cdv A outer s H vs Q E hr h => ?_)
  · obtain ⟨_, _, _, _, rfl, _⟩ := h
    rfl
  · skip
    refine ⟨_, ((pss_cons (ps_if (pt_not (pt_val (pe_callB (kcall_isiT (K := K)) (by rfl) (f_isinstance e) (by decide +kernel) (pa_cons (pv 1) (pa_cons (pe_tup (pa_cons (pe_glob (by rfl) (g_Frame e) (show RelV (.ref (He.ga K "Frame")) (.ref (He.ga K "Frame")) from rfl)) (pa_cons (pe_glob (by rfl) (g_History e) (show RelV (.ref (He.ga K "History")) (.ref (He.ga K "History")) from rfl)) pa_nil))) pa_nil)))))
      (pss_one ps_never) pss_nil)
      (C8.pss_cut (ps_set (i := 2) sc_History___add__.nd rfl (Or.inl rfl) (pe_ifExp (pt_val (pe_callB (kcall_isi (K := K)) (by rfl) (f_isinstance e) (by decide +kernel) (pa_cons (pv 1) (pa_cons (pe_glob (by rfl) (g_Frame e) (show RelV (.ref (He.ga K "Frame")) (.ref (He.ga K "Frame")) from rfl)) pa_nil)))) (pe_tup (pa_cons (pv 1) pa_nil)) (pe_hframes e (hr.mono (by decide)) (pv 1))))
      (pss_cons (ps_set (i := 3) sc_History___add__.nd rfl (Or.inl rfl) (pe_op (op_catA (K := K)) (kpe_fld (K := K) (pv 0) rfl) (pv 2)))
      (pss_one (ps_ret (pe_newS (mk_History e) (d_History___init__ e) (hr.mono (by decide)) (by rfl) (g_History e) (by exact passes_call (takes_of rfl rfl rfl rfl) fun _ _ _ _ h => h) (pv 3)))))))), ?_⟩
    obtain ⟨x, y, fs, gs, rfl, hx, hy, lf, lg, k1, k2⟩ := h
    obtain ⟨dx, t, u, hs, h1, h2, h3, h4, h5⟩ := id hx
    refine ⟨_, rfl, (fit (by simp)), fun pa3 na4 => ?_⟩
    generalize ga6 : upd H pa3 (HO.tup [V.ref (He.ga K (Str.ofString "Frame")), V.ref (He.ga K (Str.ofString "History"))]) = Ha5
    obtain ⟨sa8, ea7⟩ := gen_new ga6 na4
    clear ga6
    obtain ⟨ty, bf, hty, kf, kty, hyc⟩ : ∃ ty bf, TyX K Ha5 (.ref y) ty ∧ PySem.W.kitOne K ty (.ref (He.ga K "Frame")) = some bf ∧ PySem.W.kitAny K ty [.ref (He.ga K "Frame"), .ref (He.ga K "History")] = some true ∧ ((bf = true ∧ ∃ a o, IsFr K Ha5 y a o ∧ gs = [⟨y, a, o⟩]) ∨ (bf = false ∧ HistAt K Ha5 y gs)) := by
      rcases hy with ⟨a, o, fr, rfl⟩ | hh
      · obtain ⟨fo, dxf, ef⟩ := id (fr.same sa8)
        exact ⟨_, true, (own_Frame e).ty (cls_Frame e) ef, kit_same, kitAny_cons kit_same nofun (fun _ => rfl), .inl ⟨rfl, a, o, fr.same sa8, rfl⟩⟩
      · obtain ⟨dy, ty', uy, hsy, g1, _⟩ := id (hh.same sa8)
        exact ⟨_, false, (own_History e).ty (cls_History e) g1, isn_History_Frame e, kitAny_cons (isn_History_Frame e) (fun _ => kitAny_cons kit_same nofun (fun _ => rfl)) nofun, .inr ⟨rfl, hh.same sa8⟩⟩
    refine ⟨_, pa3, _, ty, [.ref (He.ga K "Frame"), .ref (He.ga K "History")], true, rfl, ea7, .cons (.own _) (.cons (.own _) .nil), hty, kty, _, rfl, iteF ?_⟩
    refine ⟨fun σ' H' => ∃ b, σ' = [some (.ref x), some (.ref y), some (.ref b), none] ∧ Same Ha5 H' ∧ SqT K H' b (framesV gs) ∧ FrsAt K H' gs, ?_, ?_⟩
    · refine ⟨_, rfl, _, _, _, _, _, rfl, (.own _), hty, kf, _, rfl, ?_⟩
      rcases hyc with ⟨rfl, a, o, fr, rfl⟩ | ⟨rfl, hh⟩
      · show @ite _ _ (_) _ _
        refine iteT ?_
        refine ⟨_, rfl, (fit (by simp)), fun pb4 nb5 => ?_⟩
        generalize gb7 : upd Ha5 pb4 (HO.tup [V.ref y]) = Hb6
        obtain ⟨sb8, eb9⟩ := gen_new gb7 nb5
        clear gb7
        exact ⟨pb4, rfl, sb8, SqT.of eb9, fun f hf => by rw [List.mem_singleton.mp hf]; exact fr.same sb8⟩
      · obtain ⟨dy, ty', uy, hsy, g1, g2, g3, g4, g5⟩ := id hh
        show @ite _ _ (_) _ _
        refine iteF ?_
        refine ⟨_, rfl, _, _, _, rfl, g1, _, _, rfl, hh, fun t7 e8 => ?_⟩
        exact ⟨t7, rfl, Same.refl _, SqT.of e8, g5⟩
    · rintro σ' Hm ⟨b, rfl, sm, eb, fb⟩
      have sA := sa8.trans sm
      refine ⟨_, rfl, _, _, _, _, _, rfl, (sA _ _ h1), (cls_History e), (no_History__frames e), rfl, _, rfl, ?_⟩
      refine catA_of (SqT.of (sA _ _ h2)) eb (fit (by rw [framesV_len, framesV_len]; omega)) fun pq Hq sq eq => ?_
      have e2 : framesV fs ++ framesV gs = framesV (fs ++ gs) := by unfold framesV; rw [List.map_append]
      rw [e2] at eq
      have sB := sA.trans sq
      have hq : FrsAt K Hq (fs ++ gs) := fun f hf => by
        rcases List.mem_append.mp hf with hf | hf
        · exact (h5.same sB) f hf
        · exact (fb.same sq) f hf
      refine ⟨_, rfl, _, _, rfl, .inl eq, ?_⟩
      exact hist_new hq (fit (by rw [List.length_append]; omega)) (fun m d H' s' n' h' => k1 m d H' (sB.trans s') (same_none sB n') h') fun m p H' s' n' ha => k2 m p H' (sB.trans s') (same_none sB n') ha
theorem d_History___add__ (e : Ev K mg base) : ∃ fd, FnOk P w K mg base (CX P w) 6 (He.ma K (He.ga K "History") "__add__") fd ["self", "other"] (spAddH K) ∧ FunD K "__add__" "History.__add__" (defArgs (inClass (top 22) 10)) (defBody (inClass (top 22) 10)) (defScope (inClass (top 22) 10)) [] [] (He.ma K (He.ga K "History") "__add__") fd := by
  obtain ⟨fd, F⟩ := e.c.def_ 33 (d := dm "History" "__add__" "History.__add__" 22 10) rfl
  exact ⟨fd, ok_History___add__ F e, F⟩
theorem db_History___add__ (e : Ev K mg base) : ∃ fd, FnOk P w K mg base (CX P w) 6 (He.ma K (He.ga K "History") "__add__") fd ["self", "other"] (spAddH K) ∧ Binds K fd ["self", "other"] [] := by
  obtain ⟨fd, F, D⟩ := d_History___add__ (P := P) (w := w) e
  exact ⟨fd, F, FunD.bindsN (ps := ["self", "other"]) D fun _ _ _ _ _ _ us hl => match us, hl with | [_, _], _ => rfl⟩
def spMulH (K : PySem.W.Frag) : Sp := fun vs H Q E => ∃ (x : Addr) (fs : List FrD) (n : Nat), vs = [.ref x, .int n] ∧ HistAt K H x fs ∧ fs.length ≤ 60 ∧ n ≤ 10 ^ 30 ∧
  (60 < fs.length * n → ∀ d H', Same H H' → H d = none → H' d = some (.xd [("most", .int 60), ("what", .str "frames")]) → E (.ref (He.ga K "TooMany")) (some d) H') ∧
  (fs.length * n ≤ 60 → ∀ p H', Same H H' → H p = none → HistAt K H' p (List.replicate (if fs = [] then 0 else n) fs).flatten → Q (.ref p) H')
theorem sc_History___mul__ : FnScope ["self", "other", "times", "frames"] ["self", "other"] (defScope (inClass (top 22) 11)) := ⟨rfl, rfl, rfl, by decide +kernel, rfl, by decide +kernel, by decide +kernel⟩
theorem ok_History___mul__ {fd : FuncData} (F : FunD K "__mul__" "History.__mul__" (defArgs (inClass (top 22) 11)) (defBody (inClass (top 22) 11)) (defScope (inClass (top 22) 11)) [] [] (He.ma K (He.ga K "History") "__mul__") fd) (e : Ev K mg base) : FnOk P w K mg base (CX P w) 6 (He.ma K (He.ga K "History") "__mul__") fd ["self", "other"] (spMulH K) := by
  refine F.ok sc_History___mul__ (fun vs H Q E h => ?_) (fun cdv A outer s H vs Q E hr h => ?_)
  · obtain ⟨_, _, _, rfl, _⟩ := h
    rfl
  · skip
    refine ⟨_, ((pss_cons (ps_if (PW.pt (pw_or (pt_not (pt_val (pe_def (d_is_whole (P := P) (w := w) (K := K) (mg := mg) (base := base) e) (hr.mono (by decide)) (by rfl) (pa_cons (pv 1) pa_nil)))) (pw_or1 (pt_cmpR op_lt (pv 1) pe_int (nomark _)))))
      (pss_one ps_never) pss_nil)
      (pss_cons (ps_if (pt_cmpR op_gt (pe_op op_mul (pe_callB (kcall_len_seq (K := K)) (by rfl) (f_len e) (by decide +kernel) (pa_cons (kpe_fld (K := K) (pv 0) rfl) pa_nil)) (pv 1)) (kpe_con (K := K) (pv 0) rfl) (nomark _))
      (pss_one (ps_raise2 (err_TooMany e) (d_TooMany___init__ e) (hr.mono (by decide)) rfl (takes_of rfl rfl rfl rfl) rfl (g_TooMany e) (pa_cons pe_str (pa_cons (kpe_con (K := K) (pv 0) rfl) pa_nil)))) pss_nil)
      (pss_cons (ps_set (i := 2) sc_History___mul__.nd rfl (Or.inl rfl) (pe_ifExp (pt_truth (kpe_fld (K := K) (pv 0) rfl) (by intro _; rfl)) (pv 1) pe_int))
      (pss_cons (ps_set (i := 3) sc_History___mul__.nd rfl (Or.inl rfl) (pe_op (op_repA (K := K)) (kpe_fld (K := K) (pv 0) rfl) (pv 2)))
      (pss_one (ps_ret (pe_newS (mk_History e) (d_History___init__ e) (hr.mono (by decide)) (by rfl) (g_History e) (by exact passes_call (takes_of rfl rfl rfl rfl) fun _ _ _ _ h => h) (pv 3))))))))), ?_⟩
    obtain ⟨x, fs, n, rfl, hx, few, hn, k1, k2⟩ := h
    obtain ⟨dx, t, u, hs, h1, h2, h3, h4, h5⟩ := id hx
    have cm : CMul ((framesV fs).length : Int) (n : Int) := .inl (by rw [framesV_len]; omega)
    obtain ⟨uc, con⟩ := con_History_MOST e
    have lh : ((framesV fs).length : Int) = (fs.length : Nat) := by rw [framesV_len]
    have mc : ((fs.length : Nat) : Int) * (n : Nat) = ((fs.length * n : Nat) : Int) := by simp
    refine ⟨_, rfl, _, rfl, .inl ⟨_, rfl, _, rfl, ?_⟩⟩
    show @ite _ _ (_) _ _
    refine ite_no (by decide +kernel) ?_
    refine ⟨_, rfl, _, _, rfl, rfl, _, rfl, ?_⟩
    show @ite _ _ (_) _ _
    refine ite_no (by simp) ?_
    refine ⟨_, rfl, _, _, _, _, _, rfl, h1, (cls_History e), (no_History__frames e), rfl, _, _, rfl, (.inr (SqT.of h2)), _, rfl, _, _, rfl, rfl, cm, _, rfl, _, _, _, _, _, _, rfl, h1, (cls_History e), con, rfl, _, _, rfl, rfl, _, rfl, ?_⟩
    show @ite _ _ (_) _ _
    have fin : ∀ (m : Nat) (Hq : Hp) (pq : Addr), Same H Hq → SqT K Hq pq (List.replicate m (framesV fs)).flatten → (List.replicate m fs).flatten.length = fs.length * n → fs.length * n ≤ 60 → (List.replicate m fs).flatten = (List.replicate (if fs = [] then 0 else n) fs).flatten → newSp (He.ga K "History") (starSp 1 (spHist K)) (List.replicate m (framesV fs)).flatten Hq (fun p H' => Q (.ref p) H') E := by
      intro m Hq pq sq eq ln l60 ee
      have e2 : (List.replicate m (framesV fs)).flatten = framesV (List.replicate m fs).flatten := by
        unfold framesV
        rw [List.map_flatten, List.map_replicate]
      rw [e2]
      refine hist_new (fun f hf => (h5.same sq) f ?_) (fit (by omega)) (fun q => absurd q (by omega)) fun _ p H' s' n' ha => k2 l60 p H' (sq.trans s') (same_none sq n') (by rw [← ee]; exact ha)
      obtain ⟨l, hl, hf⟩ := List.mem_flatten.mp hf
      rw [(List.mem_replicate.mp hl).2] at hf
      exact hf
    refine ite2 (fun ca1 => ?_) (fun ca1 => ?_)
    · have ca1 := of_decide_eq_true ca1
      rw [lh, mc] at ca1
      refine ⟨_, rfl, _, _, _, _, _, _, rfl, h1, (cls_History e), con, rfl, _, _, rfl, fun da7 Ha8 sa9 na10 ea11 => ?_⟩
      exact k1 (by omega) _ _ sa9 na10 ea11
    · have ca1 := of_dec ca1
      rw [lh, mc] at ca1
      have l60 : fs.length * n ≤ 60 := by omega
      refine ⟨_, rfl, _, _, _, _, _, rfl, h1, (cls_History e), (no_History__frames e), rfl, _, (.inr (.inl ⟨_, ⟨(SqT.of h2), rfl⟩⟩)), ?_⟩
      show @ite _ _ (_) _ _
      refine ite2 (fun ca12 => ?_) (fun ca12 => ?_)
      · have ne : fs ≠ [] := by unfold framesV at ca12; simpa using ca12
        have lp : 1 ≤ fs.length := by cases fs with
          | nil => exact absurd rfl ne
          | cons a r => simp
        have n60 : n ≤ 60 := Nat.le_trans (Nat.le_mul_of_pos_left n lp) l60
        refine ⟨_, rfl, _, rfl, _, _, _, _, _, rfl, h1, (cls_History e), (no_History__frames e), rfl, _, rfl, ?_⟩
        refine repA_of (SqT.of h2) (by rw [framesV_len]; omega) (by omega) fun pq Hq sq eq => ?_
        refine ⟨_, rfl, _, _, rfl, .inl eq, ?_⟩
        exact fin n Hq pq sq eq (by simp [Nat.mul_comm]) l60 (by rw [if_neg ne])
      · have em : fs = [] := by unfold framesV at ca12; simpa using ca12
        refine ⟨_, rfl, _, _, _, _, _, rfl, h1, (cls_History e), (no_History__frames e), rfl, _, rfl, ?_⟩
        refine repA_of (n := 0) (SqT.of h2) (by rw [framesV_len]; omega) (by omega) fun pq Hq sq eq => ?_
        refine ⟨_, rfl, _, _, rfl, .inl eq, ?_⟩
        exact fin 0 Hq pq sq eq (by rw [em]; simp) l60 (by rw [if_pos em])
theorem d_History___mul__ (e : Ev K mg base) : ∃ fd, FnOk P w K mg base (CX P w) 6 (He.ma K (He.ga K "History") "__mul__") fd ["self", "other"] (spMulH K) ∧ FunD K "__mul__" "History.__mul__" (defArgs (inClass (top 22) 11)) (defBody (inClass (top 22) 11)) (defScope (inClass (top 22) 11)) [] [] (He.ma K (He.ga K "History") "__mul__") fd := by
  obtain ⟨fd, F⟩ := e.c.def_ 34 (d := dm "History" "__mul__" "History.__mul__" 22 11) rfl
  exact ⟨fd, ok_History___mul__ F e, F⟩
theorem db_History___mul__ (e : Ev K mg base) : ∃ fd, FnOk P w K mg base (CX P w) 6 (He.ma K (He.ga K "History") "__mul__") fd ["self", "other"] (spMulH K) ∧ Binds K fd ["self", "other"] [] := by
  obtain ⟨fd, F, D⟩ := d_History___mul__ (P := P) (w := w) e
  exact ⟨fd, F, FunD.bindsN (ps := ["self", "other"]) D fun _ _ _ _ _ _ us hl => match us, hl with | [_, _], _ => rfl⟩
theorem HistAt.ext {K : PySem.W.Frag} {H H' : Hp} {x : Addr} {fs : List FrD} (s : LamX.ExtN H H') (h : HistAt K H x fs) : HistAt K H' x fs :=
  let ⟨dx, t, u, hs, h1, h2, h3, h4, h5⟩ := h
  ⟨dx, t, u, hs, s _ _ h1 nofun, s _ _ h2 nofun, s _ _ h3 nofun, h4, fun f hf => let ⟨fo, d, ef⟩ := h5 f hf; ⟨fo, d, s _ _ ef nofun⟩⟩
theorem eqv_prs {l : List (Str × Option Str)} (h : ∀ p ∈ l, FrOk p.1 p.2) : (PyData.list (l.map pairD)).eqv (.list (l.map pairD)) = true := SeqAt.eqv_refl _ (by simp [PyData.canLay0, (lay_pairs h).1])
theorem Lit.int {i : Int} (h : i.natAbs < 10 ^ 12) : Lit 40 0 (.int i) := by
  have lo : ¬ i = 0 → i.natAbs.log2 < 40 := fun hz => (Nat.log2_lt (by omega)).mpr (by omega)
  refine ⟨by simp only [PyData.canLay0], ?_, ?_, ?_, by simp [PyData.depth]⟩
  rotate_left
  · simp only [PyData.showable]
    refine decide_eq_true ?_
    by_cases hz : i = 0
    · rw [hz]; decide
    · have := lo hz; omega
  rotate_left
  · simp only [PyData.weight]
    split
    · omega
    · rename_i hz
      have := lo (by intro q; apply hz; simp [q])
      omega
  · have := PyData.shown_int_le h
    simp only [PyData.intsShort]
    exact decide_eq_true this
theorem Lit.pairs {l : List (Str × Option Str)} (h : ∀ p ∈ l, FrOk p.1 p.2) (few : l.length ≤ 1000) : Lit 20000 2 (.list (l.map pairD)) := by
  have := LitAll.of (n := 18) (k := 1) (ds := l.map pairD) fun d hd => by
    obtain ⟨p, hp, rfl⟩ := List.mem_map.mp hd
    have f := h p hp
    obtain ⟨a, o⟩ := p
    cases o with
    | none => exact (Lit.tup (.cons (.str f.a) (.cons .non .nil))).mono (by decide) (by decide)
    | some z => exact (Lit.tup (.cons (.str f.a) (.cons (.str (f.o z rfl)) .nil))).mono (by decide) (by decide)
  exact (Lit.list this).mono (by rw [List.length_map]; omega) (by decide)
def manyD : PyData := .tuple [.str "many", .str "frames", .int 60]
theorem Lit.many : Lit 100 1 manyD := (Lit.tup (.cons (.word (n := 10) (word_of (by decide +kernel))) (.cons (.word (n := 10) (word_of (by decide +kernel))) (.cons (.int (by decide)) .nil)))).mono (by decide) (by decide)
theorem many_dp {K : PySem.W.Frag} {H : Hp} {t : Addr} (h : H t = some (.tup [.str "many", .str "frames", .int 60])) : Dp K H (.ref t) manyD := .tup (SqT.of h) (.cons (.str _) (.cons (.str _) (.cons (.int _) .nil)))
/-- two equal texts shown -/
theorem rRepr_of {K : PySem.W.Frag} {H : Hp} {Q : VK} {v : V} {d : PyData} {n k : Nat} (l : Lit n k d) (h : Dp K H v d) (q : Q (.str d.shown) H) (a : n ≤ 1000000 := by omega) (b : k ≤ 64 := by omega) : rRepr K [v] H Q := by
  obtain ⟨l1, l2, l3, l4⟩ := l.ok a b
  exact ⟨v, d, rfl, h, l1, l2, l3, l4, q⟩
theorem optV_inj : ∀ {o u : Option Str}, optV o = optV u → o = u
  | none, none, _ => rfl
  | some _, some _, h => congrArg some (V.str.inj h)
/-- a frame made of a pair of hosts -/
def FrOf (K : PySem.W.Frag) : V → V → Hp → Prop := fun x r H => ∃ (p q : Addr) (a : Str) (o : Option Str), x = .ref p ∧ r = .ref q ∧ H p = some (.tup [.str a, optV o]) ∧ IsFr K H q a o
theorem frOf_stays {K : PySem.W.Frag} : Stays (FrOf K) := by
  refine ⟨fun x r H H' s ⟨p, q, a, o, ex, er, ep, f⟩ => ⟨p, q, a, o, ex, er, s _ _ ep, f.same s⟩, fun x r H l ys zs hl ⟨p, q, a, o, ex, er, ep, fo, dx, ef⟩ => ⟨p, q, a, o, ex, er, ?_, fo, dx, ?_⟩⟩
  · rw [upd_ne (ne_of ep hl nofun)]; exact ep
  · rw [upd_ne (ne_of ef hl nofun)]; exact ef
theorem frs_of {K : PySem.W.Frag} {H : Hp} : ∀ {fs : List FrD} {rs : List V}, RowsV (FrOf K) H rs (framesV fs) → PrsAt H fs → ∃ gs : List FrD, rs = framesV gs ∧ gs.map FrD.pair = fs.map FrD.pair ∧ FrsAt K H gs
  | [], [], _, _ => ⟨[], rfl, rfl, nofun⟩
  | f :: fs, r :: rs, h, hf => by
    obtain ⟨gs, g1, g2, g3⟩ := frs_of (fs := fs) (rs := rs) h.2 fun x hx => hf x (.tail _ hx)
    obtain ⟨p, q, a, o, ex, rfl, ep, fr⟩ := h.1
    obtain rfl : f.p = p := V.ref.inj ex
    have e2 := (hf f (.head _)).1
    rw [ep] at e2
    injection e2 with e2; injection e2 with e2; injection e2 with e3 e4; injection e4 with e4 _
    have ea : a = f.a := V.str.inj e3
    have eo : o = f.o := optV_inj e4
    refine ⟨⟨q, a, o⟩ :: gs, by rw [g1]; rfl, by rw [List.map_cons, List.map_cons, g2, ea, eo]; rfl, fun x hx => ?_⟩
    rcases List.mem_cons.mp hx with rfl | hx
    · exact fr
    · exact g3 x hx

theorem sc_law_heard : FnScope ["ask", "caught", "found", "error"] ["ask"] (defScope (top 34)) := ⟨rfl, rfl, rfl, by decide +kernel, rfl, by decide +kernel, by decide +kernel⟩
/-- what a law makes of a call that puts histories together: its frames' hosts, what is shown of a wrong index, or that they are too many -/
def TT07 (K : PySem.W.Frag) : (XK → Hp → VK → Prop) → Hp → VK → Prop := fun tl H Q => ∀ H1, Same H H1 → ∃ (E : XK) (Q0 : VK), tl E H1 Q0 ∧
  (∀ cls d H', E cls d H' → (cls = .ref (He.ga K "BadIndex") ∧ ∃ (dd : Addr) (v : V) (z : Str), d = some dd ∧ H' dd = some (.xd [("value", v)]) ∧ ReprV K H' v z ∧ ∀ t H'', Same H' H'' → H' t = none → H'' t = some (.tup [.str "index", .str z]) → Q (.ref t) H'') ∨
    (cls = .ref (He.ga K "TooMany") ∧ ∃ (dd : Addr), d = some dd ∧ H' dd = some (.xd [("most", .int 60), ("what", .str "frames")]) ∧ ∀ t H'', Same H' H'' → H' t = none → H'' t = some (.tup [.str "many", .str "frames", .int 60]) → Q (.ref t) H'')) ∧
  ∀ v H', Q0 v H' → ∃ (x : Addr) (fs : List FrD), v = .ref x ∧ HistAt K H' x fs ∧ fs.length ≤ 60 ∧ ∀ a gs H'', gs.map FrD.pair = fs.map FrD.pair → Same H' H'' → H' a = none → H'' a = some (.lst (framesV gs)) → PrsAt H'' gs → Q (.ref a) H''
theorem heard_gives {X : Cx} (e : Ev X.K X.mg X.base) (hgu : X.A.guards = some []) (hr : Room 4 X.A) {g : Addr} {cdg : Value} {q : Str} : LamX.GivesTo X ["ask", "caught", "found", "error"] "_law_heard" (defScope (top 34)) g cdg (defBody (top 34)) "ask" q (TT07 X.K) := by
  intro f c' s H Q tl act hc h
  have nd := sc_law_heard.nd
  refine ⟨_, pss_cons (ps_asg (pe_tup (pa_cons pe_non (pa_cons pe_non pa_nil))) (pg_tup (by rfl) (pgs_cons (pg_name (i := 1) nd rfl (Or.inl rfl)) (pgs_cons (pg_name (i := 2) nd rfl (Or.inl rfl)) pgs_nil))))
    (C8.pss_cut (ps_try_keep (Wout := fun _ _ _ _ => False) (c := .ref (He.ga X.K "SeenError")) (i := 3) (tb := fun W => tAsk 4 2 f c' q tl W) rfl rfl rfl nd rfl rfl ⟨rfl, by decide, .inl (g_SeenError e)⟩ takes0
        (fun W pn xe tk _ => ps_ask (by rfl) (fun te h => ps_set (i := 2) nd rfl (Or.inl rfl) h) (fun E hW => act _ pn xe E _ _ (takes_len tk) hW))
        (fun a oe cls d pn _ _ => pss_one (ps_set (i := 1) nd rfl (Or.inl rfl) (pv 3))))
      (pss_cons (ps_if (pt_cmpR op_isN (pv 1) pe_non (nomark _)) (pss_one (ps_ret (pe_def (d_law_shown (P := X.prog) (w := X.w) (K := X.K) (mg := X.mg) (base := X.base) e) (Room.deeper hr _) (by rfl) (pa_cons (pv 2) pa_nil)))) pss_nil)
      (pss_cons (ps_if (pt_val (pe_callB (kcall_isX (K := X.K)) (by rfl) (f_isinstance e) (by decide +kernel) (pa_cons (pv 1) (pa_cons (pe_glob (by rfl) (g_BadIndex e) (show RelV (.ref (He.ga X.K "BadIndex")) (.ref (He.ga X.K "BadIndex")) from rfl)) pa_nil)))) (pss_one (ps_ret (pe_tup (pa_cons pe_str (pa_cons (pe_callB (kcall_reprX (K := X.K) hgu (u70 (Room.deeper hr _))) (by rfl) (f_repr e) (by decide +kernel) (pa_cons (pe_xk (K := X.K) (pv 1)) pa_nil)) pa_nil))))) pss_nil)
        (pss_one (ps_ret (pe_ifExp (pt_val (pe_callB (kcall_isX (K := X.K)) (by rfl) (f_isinstance e) (by decide +kernel) (pa_cons (pv 1) (pa_cons (pe_glob (by rfl) (g_TooMany e) (show RelV (.ref (He.ga X.K "TooMany")) (.ref (He.ga X.K "TooMany")) from rfl)) pa_nil)))) (pe_tup (pa_cons pe_str (pa_cons (pe_xk (K := X.K) (pv 1)) (pa_cons (pe_xk (K := X.K) (pv 1)) pa_nil)))) (pe_tup (pa_cons pe_str pa_nil)))))))), ?_⟩
  refine ⟨by show 2 ≤ sizeLine; decide, fun t ht => ⟨t, _, rfl, SqT.of upd_same, rfl, _, _, rfl, _, _, rfl, rfl, ?_⟩⟩
  obtain ⟨E, Q0, h1, h2, h3⟩ := h _ (same_new (o := .tup [.non, .non]) ht)
  refine ⟨fun σ' H' => (∃ (x : Addr) (fs : List FrD), σ' = [some (.ref f), some .non, some (.ref x), none] ∧ HistAt X.K H' x fs ∧ fs.length ≤ 60 ∧ ∀ a gs H'', gs.map FrD.pair = fs.map FrD.pair → Same H' H'' → H' a = none → H'' a = some (.lst (framesV gs)) → PrsAt H'' gs → Q (.ref a) H'') ∨
      (∃ (a dd : Addr) (v : V) (z : Str) (s0 s2 : Option V), σ' = [s0, some (.ref a), s2, none] ∧ H' a = some (ExK (.ref (He.ga X.K "BadIndex")) (some dd) a) ∧ H' dd = some (.xd [("value", v)]) ∧ ReprV X.K H' v z ∧ ∀ t H'', Same H' H'' → H' t = none → H'' t = some (.tup [.str "index", .str z]) → Q (.ref t) H'') ∨
      (∃ (a dd : Addr) (s0 s2 : Option V), σ' = [s0, some (.ref a), s2, none] ∧ H' a = some (ExK (.ref (He.ga X.K "TooMany")) (some dd) a) ∧ H' dd = some (.xd [("most", .int 60), ("what", .str "frames")]) ∧ ∀ t H'', Same H' H'' → H' t = none → H'' t = some (.tup [.str "many", .str "frames", .int 60]) → Q (.ref t) H''), ?_, ?_⟩
  · refine ⟨E, Q0, fun cls d σ' H' eh hl => ?_, rfl, (by rw [upd_ne (ne_of_none hc ht)]; exact hc), h1, fun v H1 q => ?_⟩
    · rcases h2 cls d H' eh with ⟨rfl, dd, v, z, rfl, hdd, rv, hk⟩ | ⟨rfl, dd, rfl, hdd, hk⟩
      · refine ⟨true, exm_BadIndex_SeenError e, nofun, fun _ a ha => ?_⟩
        match σ', hl with
        | [s0, s1, s2, s3], _ => exact ⟨_, rfl, .inr (.inl ⟨a, dd, v, z, s0, s2, rfl, upd_same, by rw [upd_ne (ne_of_none hdd ha)]; exact hdd, rv.ext (extS (same_new ha)), fun t H'' s n et => hk t H'' ((same_new ha).trans s) (same_none (same_new ha) n) et⟩)⟩
      · refine ⟨true, exm_TooMany_SeenError e, nofun, fun _ a ha => ?_⟩
        match σ', hl with
        | [s0, s1, s2, s3], _ => exact ⟨_, rfl, .inr (.inr ⟨a, dd, s0, s2, rfl, upd_same, by rw [upd_ne (ne_of_none hdd ha)]; exact hdd, fun t H'' s n et => hk t H'' ((same_new ha).trans s) (same_none (same_new ha) n) et⟩)⟩
    · obtain ⟨x, fs, rfl, hx, few, k⟩ := h3 v H1 q
      exact .inl ⟨x, fs, rfl, hx, few, k⟩
  · rintro σ' H' (⟨x, fs, rfl, hx, few, hk⟩ | ⟨a, dd, v, z, s0, s2, rfl, ha, hdd, rv, hk⟩ | ⟨a, dd, s0, s2, rfl, ha, hdd, hk⟩)
    · refine ⟨_, rfl, rfl, _, rfl, iteT ?_⟩
      exact ⟨_, rfl, x, fs, rfl, hx, Nat.le_trans few (by decide), hk⟩
    · refine ⟨_, rfl, rfl, _, rfl, iteF ?_⟩
      refine ⟨_, rfl, .inr ⟨a, _, _, _, _, true, rfl, ha, (fun d2 z => by cases z; exact ⟨_, hdd⟩), (err_BadIndex e).xc, .own _, kit_same, _, rfl, iteT ?_⟩⟩
      refine ⟨_, rfl, a, _, dd, _, v, rfl, ha, hdd, (err_BadIndex e).xf, no_BadIndex_value e, rfl, ?_⟩
      dsimp only [tNil]
      refine rv.go ?_
      exact ⟨by show 2 ≤ sizeLine; decide, fun t ht => hk t _ (same_new ht) ht upd_same⟩
    · refine ⟨_, rfl, rfl, _, rfl, iteF ?_⟩
      refine ⟨_, rfl, .inr ⟨a, _, _, _, _, false, rfl, ha, (fun d2 z => by cases z; exact ⟨_, hdd⟩), (err_TooMany e).xc, .own _, (isn_TooMany_BadIndex e), _, rfl, iteF ?_⟩⟩
      refine ⟨_, rfl, .inr ⟨a, _, _, _, _, true, rfl, ha, (fun d2 z => by cases z; exact ⟨_, hdd⟩), (err_TooMany e).xc, .own _, kit_same, _, rfl, iteT ?_⟩⟩
      refine ⟨_, rfl, a, _, dd, _, .str "frames", rfl, ha, hdd, (err_TooMany e).xf, no_TooMany_what e, rfl, ?_⟩
      refine ⟨_, rfl, a, _, dd, _, .int 60, rfl, ha, hdd, (err_TooMany e).xf, no_TooMany_most e, rfl, ?_⟩
      exact ⟨by show 3 ≤ sizeLine; decide, fun t ht => hk t _ (same_new ht) ht upd_same⟩
theorem pe_heardH {X : Cx} (e : Ev X.K X.mg X.base) {k : Nat} (hk : 2 ≤ k) {p : He.Defn} {T : List (Addr × Str)} (hT : ((He.cT X.K p).2, X.env.qual ++ "<lambda>") ∈ T ∧ ∀ q ∈ T, q.1 = (He.cT X.K p).2 → q.2 = X.env.qual ++ "<lambda>") (hp : p ∈ tf) {params : Arguments} {body : Expr} {scope : Scope} {t : XK → TE} {p1 lpos pos : Pos} (hcode : X.env.code = .ref (He.codeOf X.K p)) (hgu : X.A.guards = some []) (hr : Room (k + 2) X.A) (hg : Gl X "_law_heard") (L : LamX.LamS X.env.scope scope) (hdef : defaultsOf params X.env = ([], []))
    (hbind : ∀ (q : Str) (cl : List (Str × Addr)) (pm cv ctv : Value), bindArgs (PySem.W.kla_fn "<lambda>" q params body scope cl pm cv ctv) ⟨[], []⟩ = pure [])
    (hbody : ∀ (A : Around) (outer : List Env) (s : Shared) (H : Hp) (E : XK) (f c' : Addr), Room k (A.deeper (LamX.lamEnv X scope s.heap.objs.size f c')) → PE (LamX.lamCx X A outer s H E scope f c') body (t E)) :
    PE X (.Call (.Name "_law_heard" p1) [.Lambda params body scope lpos] [] pos) (LamX.tLam T (TT07 X.K) t) := by
  obtain ⟨fd, F⟩ := e.c.def_ 35 (d := dd "_law_heard" 34) rfl
  obtain ⟨oc, od, dV, kV, doc, pm, an, cdv, ct, osl, hfd, lk, hcd, _, _⟩ := F.ex
  subst hfd
  have hb : Binds X.K _ ["ask"] [] := FunD.bindsN (ps := ["ask"]) F fun _ _ _ _ _ _ us hl => match us, hl with | [_], _ => rfl
  exact LamX.pe_lamcall (k := k) (Ng := ["ask", "caught", "found", "error"]) (a := "ask") hg (g_law_heard e) F.kp lk hcd hb sc_law_heard rfl (.inl rfl) (heard_gives e hgu (hr.mono (by omega))) (e.tb _ (List.mem_map.mpr ⟨p, hp, rfl⟩)) hcode hT.1 hT.2 hr L hdef hbind hbody

def lamQ (n : Str) : Str := (envOfC n (defScope (top 0)) 0 0 .none).qual ++ "<lambda>"
def lamT (K : PySem.W.Frag) : List (Addr × Str) := [((He.cT K ("_law_joined_right", none)).2, lamQ "_law_joined_right"), ((He.cT K ("_law_times_right", none)).2, lamQ "_law_times_right"), ((He.cT K ("_law_cuts_right", none)).2, lamQ "_law_cuts_right")]
theorem lamT_one (e : Ev K mg base) {n : Str} (h : n = "_law_joined_right" ∨ n = "_law_times_right" ∨ n = "_law_cuts_right") : ((He.cT K (n, none)).2, lamQ n) ∈ lamT K ∧ ∀ q ∈ lamT K, q.1 = (He.cT K (n, none)).2 → q.2 = lamQ n := by
  have n1 := tabn__law_joined_right__law_times_right e
  have n2 := tabn__law_joined_right__law_cuts_right e
  have n3 := tabn__law_times_right__law_cuts_right e
  rcases h with rfl | rfl | rfl
  · refine ⟨by simp [lamT], fun q hq e1 => ?_⟩
    simp only [lamT, List.mem_cons, List.not_mem_nil, or_false] at hq
    rcases hq with rfl | rfl | rfl
    · rfl
    · exact absurd e1.symm n1
    · exact absurd e1.symm n2
  · refine ⟨by simp [lamT], fun q hq e1 => ?_⟩
    simp only [lamT, List.mem_cons, List.not_mem_nil, or_false] at hq
    rcases hq with rfl | rfl | rfl
    · exact absurd e1 n1
    · rfl
    · exact absurd e1.symm n3
  · refine ⟨by simp [lamT], fun q hq e1 => ?_⟩
    simp only [lamT, List.mem_cons, List.not_mem_nil, or_false] at hq
    rcases hq with rfl | rfl | rfl
    · exact absurd e1 n2
    · exact absurd e1 n3
    · rfl
theorem opAdd {X : Cx} {E : XK} (e : Ev X.K X.mg X.base) (hr : Room 6 X.A) (hx : Passes (CX X.prog X.w) X E) : OpR X (binaryOp .Add) (rBin X.K (He.ga X.K "History") "add" (spAddH X.K) E) :=
  op_bin (op := .Add) (db_History___add__ e) hr hx (op_History_add e).m (me_History___add__ e).at_ (me_History___add__ e).fn (op_History_add e).r
theorem opMul {X : Cx} {E : XK} (e : Ev X.K X.mg X.base) (hr : Room 6 X.A) (hx : Passes (CX X.prog X.w) X E) : OpR X (binaryOp .Mult) (rBin X.K (He.ga X.K "History") "mul" (spMulH X.K) E) :=
  op_bin (op := .Mult) (db_History___mul__ e) hr hx (op_History_mul e).m (me_History___mul__ e).at_ (me_History___mul__ e).fn (op_History_mul e).r
theorem pipAdd {X : Cx} {E : XK} (e : Ev X.K X.mg X.base) (hr : Room 6 X.A) (hx : Passes (CX X.prog X.w) X E) : PIp X .Add (rBin X.K (He.ga X.K "History") "add" (spAddH X.K) E) :=
  pip_bin (op := .Add) (db_History___add__ e) hr hx (op_History_add e).m (me_History___add__ e).at_ (me_History___add__ e).fn (op_History_add e).r (op_History_add e).i
theorem pipMul {X : Cx} {E : XK} (e : Ev X.K X.mg X.base) (hr : Room 6 X.A) (hx : Passes (CX X.prog X.w) X E) : PIp X .Mult (rBin X.K (He.ga X.K "History") "mul" (spMulH X.K) E) :=
  pip_bin (op := .Mult) (db_History___mul__ e) hr hx (op_History_mul e).m (me_History___mul__ e).at_ (me_History___mul__ e).fn (op_History_mul e).r (op_History_mul e).i
theorem pe_heardAdd {X : Cx} (e : Ev X.K X.mg X.base) {p : He.Defn} {T : List (Addr × Str)} (hT : ((He.cT X.K p).2, X.env.qual ++ "<lambda>") ∈ T ∧ ∀ q ∈ T, q.1 = (He.cT X.K p).2 → q.2 = X.env.qual ++ "<lambda>") (hp : p ∈ tf) {params : Arguments} {a b : Expr} {scope : Scope} {ta tb : TE} {p1 bp lpos pos : Pos} (hcode : X.env.code = .ref (He.codeOf X.K p)) (hgu : X.A.guards = some []) (hr : Room 9 X.A) (hg : Gl X "_law_heard") (L : LamX.LamS X.env.scope scope) (hdef : defaultsOf params X.env = ([], []))
    (hbind : ∀ (q : Str) (cl : List (Str × Addr)) (pm cv ctv : Value), bindArgs (PySem.W.kla_fn "<lambda>" q params (.BinOp a .Add b bp) scope cl pm cv ctv) ⟨[], []⟩ = pure [])
    (ha : ∀ (A : Around) (outer : List Env) (s : Shared) (H : Hp) (E : XK) (f c' : Addr), Room 7 (A.deeper (LamX.lamEnv X scope s.heap.objs.size f c')) → PE (LamX.lamCx X A outer s H E scope f c') a ta)
    (hb : ∀ (A : Around) (outer : List Env) (s : Shared) (H : Hp) (E : XK) (f c' : Addr), Room 7 (A.deeper (LamX.lamEnv X scope s.heap.objs.size f c')) → PE (LamX.lamCx X A outer s H E scope f c') b tb) :
    PE X (.Call (.Name "_law_heard" p1) [.Lambda params (.BinOp a .Add b bp) scope lpos] [] pos) (LamX.tLam T (TT07 X.K) (fun E => tOp (rBin X.K (He.ga X.K "History") "add" (spAddH X.K) E) ta tb)) :=
  pe_heardH e (k := 7) (by decide) hT hp hcode hgu hr hg L hdef hbind fun A outer s H E f c' hr2 => pe_op (opAdd (X := LamX.lamCx X A outer s H E scope f c') (E := E) e (hr2.mono (by decide)) (passes_call (takes_of rfl rfl rfl rfl) fun _ _ _ _ h => h)) (ha A outer s H E f c' hr2) (hb A outer s H E f c' hr2)
theorem pe_heardMul {X : Cx} (e : Ev X.K X.mg X.base) {p : He.Defn} {T : List (Addr × Str)} (hT : ((He.cT X.K p).2, X.env.qual ++ "<lambda>") ∈ T ∧ ∀ q ∈ T, q.1 = (He.cT X.K p).2 → q.2 = X.env.qual ++ "<lambda>") (hp : p ∈ tf) {params : Arguments} {a b : Expr} {scope : Scope} {ta tb : TE} {p1 bp lpos pos : Pos} (hcode : X.env.code = .ref (He.codeOf X.K p)) (hgu : X.A.guards = some []) (hr : Room 9 X.A) (hg : Gl X "_law_heard") (L : LamX.LamS X.env.scope scope) (hdef : defaultsOf params X.env = ([], []))
    (hbind : ∀ (q : Str) (cl : List (Str × Addr)) (pm cv ctv : Value), bindArgs (PySem.W.kla_fn "<lambda>" q params (.BinOp a .Mult b bp) scope cl pm cv ctv) ⟨[], []⟩ = pure [])
    (ha : ∀ (A : Around) (outer : List Env) (s : Shared) (H : Hp) (E : XK) (f c' : Addr), Room 7 (A.deeper (LamX.lamEnv X scope s.heap.objs.size f c')) → PE (LamX.lamCx X A outer s H E scope f c') a ta)
    (hb : ∀ (A : Around) (outer : List Env) (s : Shared) (H : Hp) (E : XK) (f c' : Addr), Room 7 (A.deeper (LamX.lamEnv X scope s.heap.objs.size f c')) → PE (LamX.lamCx X A outer s H E scope f c') b tb) :
    PE X (.Call (.Name "_law_heard" p1) [.Lambda params (.BinOp a .Mult b bp) scope lpos] [] pos) (LamX.tLam T (TT07 X.K) (fun E => tOp (rBin X.K (He.ga X.K "History") "mul" (spMulH X.K) E) ta tb)) :=
  pe_heardH e (k := 7) (by decide) hT hp hcode hgu hr hg L hdef hbind fun A outer s H E f c' hr2 => pe_op (opMul (X := LamX.lamCx X A outer s H E scope f c') (E := E) e (hr2.mono (by decide)) (passes_call (takes_of rfl rfl rfl rfl) fun _ _ _ _ h => h)) (ha A outer s H E f c' hr2) (hb A outer s H E f c' hr2)
theorem pe_heardMt {X : Cx} (e : Ev X.K X.mg X.base) {m : Str} {sp : Sp} {ps : List Str} (D : ∃ fd, FnOk X.prog X.w X.K X.mg X.base (CX X.prog X.w) 6 (He.ma X.K (He.ga X.K "History") m) fd ps sp ∧ Binds X.K fd ps []) (hm : Meth X.K (He.ga X.K "History") m (He.ma X.K (He.ga X.K "History") m)) {p : He.Defn} {T : List (Addr × Str)} (hT : ((He.cT X.K p).2, X.env.qual ++ "<lambda>") ∈ T ∧ ∀ q ∈ T, q.1 = (He.cT X.K p).2 → q.2 = X.env.qual ++ "<lambda>") (hp : p ∈ tf) {params : Arguments} {o a : Expr} {scope : Scope} {to : TE} {ta : TA} {p1 p3 ap lpos pos : Pos} (hcode : X.env.code = .ref (He.codeOf X.K p)) (hgu : X.A.guards = some []) (hr : Room 9 X.A) (hg : Gl X "_law_heard") (L : LamX.LamS X.env.scope scope) (hdef : defaultsOf params X.env = ([], []))
    (hbind : ∀ (q : Str) (cl : List (Str × Addr)) (pm cv ctv : Value), bindArgs (PySem.W.kla_fn "<lambda>" q params (.Call (.Attribute o m ap) [a] [] p3) scope cl pm cv ctv) ⟨[], []⟩ = pure [])
    (he : ∀ env, starEach [a] env = (false, eval a env) :: starEach [] env) (hpl : ∀ env, (backTo p3 (starEach [] env)).any (·.1) = false)
    (ht : ∀ env, ∃ pl, eval (.Call (.Attribute o m ap) [a] [] p3) env = (do
      let v ← eval o env
      standAt ap.atName
      let (g, first) ← holding [v] (getMethod v m pl)
      callWith p3 g first (backTo p3 (starEach [a] env)) (backToKw p3 (keywordEach [] env))))
    (ho : ∀ (A : Around) (outer : List Env) (s : Shared) (H : Hp) (E : XK) (f c' : Addr), PE (LamX.lamCx X A outer s H E scope f c') o to)
    (ha : ∀ (A : Around) (outer : List Env) (s : Shared) (H : Hp) (E : XK) (f c' : Addr), PA (LamX.lamCx X A outer s H E scope f c') [a] ta) :
    PE X (.Call (.Name "_law_heard" p1) [.Lambda params (.Call (.Attribute o m ap) [a] [] p3) scope lpos] [] pos) (LamX.tLam T (TT07 X.K) (fun E => tMeth (He.ga X.K "History") m sp [] E to ta)) :=
  pe_heardH e (k := 7) (by decide) hT hp hcode hgu hr hg L hdef hbind fun A outer s H E f c' hr2 => by
    obtain ⟨pl, ht⟩ := ht (LamX.lamCx X A outer s H E scope f c').env
    exact pe_methB (X := LamX.lamCx X A outer s H E scope f c') D (cls_History e) hm (hr2.mono (by decide)) (passes_call (takes_of rfl rfl rfl rfl) fun _ _ _ _ h => h) (ho A outer s H E f c') (ha A outer s H E f c') (he _) (hpl _) ht
/-- what is heard of a row of frames: the row, or that they are too many -/
def resD (l : List (Str × Option Str)) : PyData := if l.length ≤ 60 then .list (l.map pairD) else manyD
theorem lit_res {l : List (Str × Option Str)} (h : ∀ p ∈ l, FrOk p.1 p.2) : Lit 20000 2 (resD l) := by
  unfold resD
  split
  · exact Lit.pairs h (by omega)
  · exact Lit.many.mono (by decide) (by decide)
theorem told_res {K : PySem.W.Frag} {T : List (Addr × Str)} {t : XK → TE} {σ : L2.St} {H : Hp} {Q : VK} {l : List (Str × Option Str)} (hT : LamX.Tabs T H)
    (rd : ∀ E H2 Q0, LamX.ExtN H H2 → (60 < l.length → ∀ d H', Same H2 H' → H2 d = none → H' d = some (.xd [("most", .int 60), ("what", .str "frames")]) → E (.ref (He.ga K "TooMany")) (some d) H') → (l.length ≤ 60 → ∀ p fs H', fs.map FrD.pair = l → Same H2 H' → HistAt K H' p fs → Q0 (.ref p) H') → t E σ H2 Q0)
    (k : ∀ v H', LamX.ExtN H H' → LamX.Tabs T H' → (∀ q ls, H q = some (.lst ls) → v ≠ .ref q) → Dp K H' v (resD l) → Q v H') : LamX.tLam T (TT07 K) t σ H Q := by
  refine ⟨hT, fun H1 eN T1 H2 s2 => ⟨fun cls d H' => cls = .ref (He.ga K "TooMany") ∧ ∃ dd, d = some dd ∧ H' dd = some (.xd [("most", .int 60), ("what", .str "frames")]) ∧ Same H2 H' ∧ 60 < l.length,
    fun v' H' => ∃ x fs, v' = .ref x ∧ HistAt K H' x fs ∧ Same H2 H' ∧ fs.map FrD.pair = l ∧ l.length ≤ 60, ?_, ?_, ?_⟩⟩
  · exact rd _ H2 _ (eN.trans (extS s2)) (fun m d H' s n e => ⟨rfl, d, rfl, e, s, m⟩) fun m p fs H' ef s ha => ⟨p, fs, rfl, ha, s, ef, m⟩
  · rintro cls d H' ⟨rfl, dd, rfl, hd, s, m⟩
    refine .inr ⟨rfl, dd, rfl, hd, fun t H'' s' n et => k _ H'' ((eN.trans (extS s2)).trans (extS (s.trans s'))) (((T1.ext s2).ext s).ext s') (fun q ls hq z => ne_of et (((eN.trans (extS s2)).trans (extS (s.trans s'))) _ _ hq nofun) nofun (V.ref.inj z)) ?_⟩
    unfold resD
    rw [if_neg (by omega)]
    exact many_dp et
  · rintro v' H' ⟨x, fs, rfl, hx, s, ef, m⟩
    refine ⟨x, fs, rfl, hx, (by rw [← ef, List.length_map] at m; exact m), fun a gs H'' ge s' na ea pa => k _ H'' ((eN.trans (extS s2)).trans (extS (s.trans s'))) (((T1.ext s2).ext s).ext s') (fun q ls hq z => ne_of_none (((eN.trans (extS s2)).trans (extS s)) _ _ hq nofun) na (V.ref.inj z).symm) ?_⟩
    unfold resD
    rw [if_pos m, ← ef, ← ge]
    exact .lst (SqL.of ea) (dp_pairs pa)
def idxD (z : Str) (ok : Option (List (Str × Option Str))) : PyData := match ok with | none => .tuple [.str "index", .str z] | some l => .list (l.map pairD)
theorem told_idx {K : PySem.W.Frag} {T : List (Addr × Str)} {t : XK → TE} {σ : L2.St} {H : Hp} {Q : VK} {v : V} {z : Str} {ok : Option (List (Str × Option Str))} (hT : LamX.Tabs T H) (rz : ReprV K H v z) (few : ∀ l, ok = some l → l.length ≤ 60)
    (rd : ∀ E H2 Q0, LamX.ExtN H H2 → (ok = none → ∀ d H', Same H2 H' → H2 d = none → H' d = some (.xd [("value", v)]) → E (.ref (He.ga K "BadIndex")) (some d) H') → (∀ l, ok = some l → ∀ p fs H', fs.map FrD.pair = l → Same H2 H' → HistAt K H' p fs → Q0 (.ref p) H') → t E σ H2 Q0)
    (k : ∀ w H', LamX.ExtN H H' → LamX.Tabs T H' → (∀ q ls, H q = some (.lst ls) → w ≠ .ref q) → Dp K H' w (idxD z ok) → Q w H') : LamX.tLam T (TT07 K) t σ H Q := by
  refine ⟨hT, fun H1 eN T1 H2 s2 => ⟨fun cls d H' => cls = .ref (He.ga K "BadIndex") ∧ ∃ dd, d = some dd ∧ H' dd = some (.xd [("value", v)]) ∧ Same H2 H' ∧ ok = none,
    fun v' H' => ∃ x fs, v' = .ref x ∧ HistAt K H' x fs ∧ Same H2 H' ∧ ok = some (fs.map FrD.pair), ?_, ?_, ?_⟩⟩
  · exact rd _ H2 _ (eN.trans (extS s2)) (fun m d H' s n e => ⟨rfl, d, rfl, e, s, m⟩) fun l m p fs H' ef s ha => ⟨p, fs, rfl, ha, s, by rw [m, ef]⟩
  · rintro cls d H' ⟨rfl, dd, rfl, hd, s, m⟩
    refine .inl ⟨rfl, dd, v, z, rfl, hd, rz.ext ((eN.trans (extS s2)).trans (extS s)), fun t H'' s' n et => k _ H'' ((eN.trans (extS s2)).trans (extS (s.trans s'))) (((T1.ext s2).ext s).ext s') (fun q ls hq z => ne_of et (((eN.trans (extS s2)).trans (extS (s.trans s'))) _ _ hq nofun) nofun (V.ref.inj z)) ?_⟩
    rw [m]
    exact .tup (SqT.of et) (.cons (.str _) (.cons (.str _) .nil))
  · rintro v' H' ⟨x, fs, rfl, hx, s, m⟩
    have fw := few _ m
    refine ⟨x, fs, rfl, hx, (by rw [List.length_map] at fw; exact fw), fun a gs H'' ge s' na ea pa => k _ H'' ((eN.trans (extS s2)).trans (extS (s.trans s'))) (((T1.ext s2).ext s).ext s') (fun q ls hq z => ne_of_none (((eN.trans (extS s2)).trans (extS s)) _ _ hq nofun) na (V.ref.inj z).symm) ?_⟩
    rw [m, ← ge]
    exact .lst (SqL.of ea) (dp_pairs pa)
theorem sqT_but {K : PySem.W.Frag} {H H' : Hp} {q a : Addr} {ls xs : List V} (hq : H q = some (.lst ls)) (b : But q H H') (h : SqT K H a xs) : SqT K H' a xs := by
  rcases h with (e | ⟨o, e⟩) | h
  · exact .inl (.inl (b _ _ (ne_of e hq nofun) e))
  · exact .inl (.inr ⟨o, b _ _ (ne_of e hq nofun) e⟩)
  · exact .inr h
theorem dp_pair_but {K : PySem.W.Frag} {H H' : Hp} {q : Addr} {ls : List V} {v : V} {x : Str × Option Str} (hq : H q = some (.lst ls)) (b : But q H H') (h : Dp K H v (pairD x)) : Dp K H' v (pairD x) := by
  obtain ⟨a, o⟩ := x
  unfold pairD at h ⊢
  cases h with
  | tup hs ha =>
    refine .tup (sqT_but hq b hs) ?_
    cases ha with
    | cons h1 h2 =>
      cases h1
      cases h2 with
      | cons h3 h4 =>
        cases h4
        refine .cons (.str _) (.cons ?_ .nil)
        cases o with
        | none => cases h3; exact .non
        | some z => cases h3; exact .str _
theorem dp_pairs_but {K : PySem.W.Frag} {H H' : Hp} {q : Addr} {ls : List V} (hq : H q = some (.lst ls)) (b : But q H H') : ∀ {vs : List V} {l : List (Str × Option Str)}, DpAll K H vs (l.map pairD) → DpAll K H' vs (l.map pairD)
  | _, [], h => by cases h; exact .nil
  | _, _ :: _, h => by
    cases h with
    | cons h1 h2 => exact .cons (dp_pair_but hq b h1) (dp_pairs_but hq b h2)
theorem dp_res_but {K : PySem.W.Frag} {H H' : Hp} {q : Addr} {ls : List V} {v : V} {l : List (Str × Option Str)} (hq : H q = some (.lst ls)) (b : But q H H') (nv : v ≠ .ref q) (h : Dp K H v (resD l)) : Dp K H' v (resD l) := by
  unfold resD at h ⊢
  by_cases few : l.length ≤ 60
  · rw [if_pos few] at h ⊢
    cases h with
    | lst hs ha =>
      refine .lst ?_ (dp_pairs_but hq b ha)
      rcases hs with (e | ⟨o, e⟩) | h
      · exact .inl (.inl (b _ _ (fun z => nv (by rw [z])) e))
      · exact .inl (.inr ⟨o, b _ _ (fun z => nv (by rw [z])) e⟩)
      · exact .inr h
  · rw [if_neg few] at h ⊢
    unfold manyD at h ⊢
    cases h with
    | tup hs ha =>
      refine .tup (sqT_but hq b hs) ?_
      cases ha with
      | cons h1 h2 =>
        cases h1
        cases h2 with
        | cons h3 h4 =>
          cases h3
          cases h4 with
          | cons h5 h6 =>
            cases h5
            cases h6
            exact .cons (.str _) (.cons (.str _) (.cons (.int _) .nil))
theorem bin_add {K : PySem.W.Frag} {mg : Str → Option Value} {base : Heap} {H2 : Hp} {x y : Addr} {xs ys : List FrD} {E : XK} {Q0 : VK} {l : List (Str × Option Str)} (e : Ev K mg base) (hx : HistAt K H2 x xs) (hy : AddAt K H2 y ys) (lx : xs.length ≤ 1000) (ly : ys.length ≤ 1000) (el : l = xs.map FrD.pair ++ ys.map FrD.pair)
    (hm : 60 < l.length → ∀ d H', Same H2 H' → H2 d = none → H' d = some (.xd [("most", .int 60), ("what", .str "frames")]) → E (.ref (He.ga K "TooMany")) (some d) H') (hk : l.length ≤ 60 → ∀ p fs H', fs.map FrD.pair = l → Same H2 H' → HistAt K H' p fs → Q0 (.ref p) H') :
    rBin K (He.ga K "History") "add" (spAddH K) E (.ref x) (.ref y) H2 Q0 := by
  obtain ⟨dx, t, u, hs, h1, _⟩ := id hx
  have ry : RightOp K H2 (He.ga K "History") "add" (.ref y) := by
    rcases hy with ⟨a, o, ⟨fo, d, ef⟩, rfl⟩ | ⟨dy, ty, uy, hsy, g1, _⟩
    · exact noop_History_Frame_add e ef
    · exact right_same g1
  have ln : l.length = (xs ++ ys).length := by rw [el]; simp
  refine ⟨x, dx, _, rfl, h1, ry, x, y, xs, ys, rfl, hx, hy, lx, ly, fun m d H' s n h => hm (by omega) d H' s n h, fun m p H' s n ha => ⟨p, rfl, hk (by omega) p _ H' (by rw [el, List.map_append]) s ha⟩⟩
def spMade (K : PySem.W.Frag) : Sp := fun vs H Q _ => ∃ (a : Addr) (fs : List FrD), vs = [.ref a] ∧ H a = some (.lst (framesV fs)) ∧ PrsAt H fs ∧ NeOk fs ∧ fs.length ≤ 60 ∧ ∀ p gs H', gs.map FrD.pair = fs.map FrD.pair → Same H H' → H p = none → HistAt K H' p gs → Q (.ref p) H'
theorem sc_law_made : FnScope ["pairs", "pair"] ["pairs"] (defScope (top 33)) := ⟨rfl, rfl, rfl, by decide +kernel, rfl, by decide +kernel, by decide +kernel⟩
theorem ok_law_made {fd : FuncData} (F : FunD K "_law_made" "_law_made" (defArgs (top 33)) (defBody (top 33)) (defScope (top 33)) [] [] (He.ga K "_law_made") fd) (e : Ev K mg base) : FnOk P w K mg base CX0 7 (He.ga K "_law_made") fd ["pairs"] (spMade K) := by
  refine F.ok sc_law_made (fun vs H Q E h => ?_) (fun cdv A outer s H vs Q E hr h => ?_)
  · obtain ⟨_, _, rfl, _⟩ := h
    rfl
  · skip
    refine ⟨_, PSs.nox ((pss_one (ps_ret (pe_clm (d_History_of (P := P) (w := w) (K := K) (mg := mg) (base := base) e) (hr.mono (by decide)) passNo (pe_glob (by rfl) (g_History e) (show RelV (.ref (He.ga K "History")) (.ref (He.ga K "History")) from rfl)) (pa_cons (pe_lc (own := [("pair", 1)]) (by rfl) sc_law_made.nd (kpi_list (K := K) (pv 0)) (blkOk_by (own := [("pair", 1)]) (N := ["pairs", "pair"]) (sc := defScope (top 33)) (by decide +kernel)) (fun _ _ _ _ _ => (pg_name (i := 1) sc_law_made.nd rfl (Or.inl rfl))) (fun _ _ _ _ _ => pts_nil) (fun _ _ _ _ _ => (pe_def (d_law_frame (P := P) (w := w) (K := K) (mg := mg) (base := base) e) (hr.mono (by decide)) (by rfl) (pa_cons (pv 1) pa_nil)))) pa_nil))))), ?_⟩
    obtain ⟨a, fs, rfl, ha, hf, ok, few, k⟩ := h
    refine ⟨rfl, _, rfl, _, rfl, ⟨_, (SqL.of ha)⟩, fun D7 n8 => ?_⟩
    refine lc_newV (walk_list (K := K) (a := a) (xs := framesV fs)) (framesV fs) (FrOf K) frOf_stays rfl (yat _) n8 (fun H' s => SqL.of (s _ _ ha)) (fits (by rw [framesV_len]; omega)) (fun x hx H5 s5 Kt Kf kt => ⟨rfl, ?_⟩) fun H5 rs s5 eD ra => ?_
    · obtain ⟨f, hfm, rfl⟩ := List.mem_map.mp hx
      have pf := (hf.same s5) f hfm
      have nf := ok f hfm
      exact ⟨_, rfl, f, rfl, pf, nf, fun q H' s nq fr => kt _ _ s ⟨f.p, q, f.a, f.o, rfl, rfl, s _ _ pf.1, fr⟩⟩
    · obtain ⟨gs, rfl, g2, g3⟩ := frs_of ra (hf.same s5)
      have gl : gs.length = fs.length := by have := congrArg List.length g2; simpa using this
      refine ⟨D7, gs, rfl, .inl eD, g3, (by omega), fun m => absurd m (by omega), fun m q6 H6 s6 n6 h6 => ?_⟩
      exact k q6 gs H6 g2 (s5.trans s6) (same_none s5 n6) h6
theorem d_law_made (e : Ev K mg base) : DefN P w K mg base 7 "_law_made" ["pairs"] (spMade K) := by
  obtain ⟨fd, F⟩ := e.c.def_ 36 (d := dd "_law_made" 33) rfl
  exact ⟨⟨fd, ok_law_made F e, FunD.bindsN F fun _ _ _ _ _ _ us hl => match us, hl with | [_], _ => rfl⟩, F.kp, He.glo_ok e.X e.G (e.c.fact 67 rfl)⟩
def spFew (K : PySem.W.Frag) : Sp := fun vs H Q _ => ∃ (a : Addr) (fs : List FrD), vs = [.ref a] ∧ H a = some (.lst (framesV fs)) ∧ PrsAt H fs ∧ ∀ v H', Same H H' → Dp K H' v (resD (fs.map FrD.pair)) → Q v H'
theorem sc_law_few : FnScope ["pairs"] ["pairs"] (defScope (top 35)) := ⟨rfl, rfl, rfl, by decide +kernel, rfl, by decide +kernel, by decide +kernel⟩
theorem ok_law_few {fd : FuncData} (F : FunD K "_law_few" "_law_few" (defArgs (top 35)) (defBody (top 35)) (defScope (top 35)) [] [] (He.ga K "_law_few") fd) (e : Ev K mg base) : FnOk P w K mg base CX0 1 (He.ga K "_law_few") fd ["pairs"] (spFew K) := by
  refine F.ok sc_law_few (fun vs H Q E h => ?_) (fun cdv A outer s H vs Q E hr h => ?_)
  · obtain ⟨_, _, rfl, _⟩ := h
    rfl
  · skip
    refine ⟨_, PSs.nox ((pss_one (ps_ret (pe_ifExp (pt_cmpR op_le (pe_callB (kcall_len_seq (K := K)) (by rfl) (f_len e) (by decide +kernel) (pa_cons (pv 0) pa_nil)) pe_int (nomark _)) (pv 0) (pe_tup (pa_cons pe_str (pa_cons pe_str (pa_cons pe_int pa_nil)))))))), ?_⟩
    obtain ⟨a, fs, rfl, ha, hf, k⟩ := h
    have lh : ((framesV fs).length : Int) = (fs.length : Nat) := by rw [framesV_len]
    have lm : (fs.map FrD.pair).length = fs.length := List.length_map ..
    refine ⟨_, rfl, _, _, rfl, (.inl (SqL.of ha)), _, _, rfl, rfl, _, rfl, ?_⟩
    show @ite _ _ (_) _ _
    refine ite2 (fun ca1 => ?_) (fun ca1 => ?_)
    · have ca1 := of_decide_eq_true ca1
      refine ⟨_, rfl, ?_⟩
      exact k _ _ (Same.refl _) (by unfold resD; rw [if_pos (by omega)]; exact .lst (SqL.of ha) (dp_pairs hf))
    · have ca1 := of_dec ca1
      refine ⟨(fit (by simp)), fun pa4 na5 => ?_⟩
      generalize ga7 : upd H pa4 (HO.tup [V.str (Str.ofString "many"), V.str (Str.ofString "frames"), V.int (60 : Int)]) = Ha6
      obtain ⟨sa9, ea8⟩ := gen_new ga7 na5
      clear ga7
      exact k _ _ sa9 (by unfold resD; rw [if_neg (by omega)]; exact many_dp ea8)
theorem d_law_few (e : Ev K mg base) : DefN P w K mg base 1 "_law_few" ["pairs"] (spFew K) := by
  obtain ⟨fd, F⟩ := e.c.def_ 37 (d := dd "_law_few" 35) rfl
  exact ⟨⟨fd, ok_law_few F e, FunD.bindsN F fun _ _ _ _ _ _ us hl => match us, hl with | [_], _ => rfl⟩, F.kp, He.glo_ok e.X e.G (e.c.fact 68 rfl)⟩
theorem sc_law_is_index : FnScope ["value", "bound"] ["value", "bound"] (defScope (top 39)) := ⟨rfl, rfl, rfl, by decide +kernel, rfl, by decide +kernel, by decide +kernel⟩
theorem ok_law_is_index {fd : FuncData} (F : FunD K "_law_is_index" "_law_is_index" (defArgs (top 39)) (defBody (top 39)) (defScope (top 39)) [] [] (He.ga K "_law_is_index") fd) (e : Ev K mg base) : FnOk P w K mg base CX0 1 (He.ga K "_law_is_index") fd ["value", "bound"] (spIdx K) := by
  refine F.ok sc_law_is_index (fun vs H Q E h => ?_) (fun cdv A outer s H vs Q E hr h => ?_)
  · obtain ⟨_, _, rfl, _⟩ := h
    rfl
  · skip
    refine ⟨_, PSs.nox ((pss_one (ps_ret (pe_and (pe_callB (kcall_isi (K := K)) (by rfl) (f_isinstance e) (by decide +kernel) (pa_cons (pv 0) (pa_cons (pe_bltn (by rfl) (f_int e) (by decide +kernel) (show RelV (.ty "int") (.type "int") from rfl)) pa_nil))) (pe_and (pe_not (pe_callB (kcall_isi (K := K)) (by rfl) (f_isinstance e) (by decide +kernel) (pa_cons (pv 0) (pa_cons (pe_bltn (by rfl) (f_bool e) (by decide +kernel) (show RelV (.ty "bool") (.type "bool") from rfl)) pa_nil)))) (pe_one (pe_chain op_le op_lt pe_int (pv 0) (pv 1)))))))), ?_⟩
    obtain ⟨v, n, rfl, h, k⟩ := h
    rcases h with ⟨i, rfl⟩ | h
    · unfold idxOf at k
      simp only at k
      refine ⟨_, rfl, _, _, _, _, _, rfl, (.ty _), (.base (.int _)), kit_same, _, rfl, _, rfl, ?_⟩
      refine ⟨_, _, _, _, _, rfl, (.ty _), (.base (.int _)), rfl, _, rfl, _, rfl, ?_⟩
      refine ite_yes (by decide +kernel) ?_
      refine ⟨_, rfl, _, _, rfl, rfl, _, rfl, ?_⟩
      refine ite2 (fun ca1 => ?_) (fun ca1 => ?_)
      · have ca1 := of_decide_eq_true ca1
        refine ⟨_, rfl, _, _, rfl, rfl, ?_⟩
        by_cases z : i < n
        · rw [if_pos ⟨ca1, z⟩] at k
          show Q (.bl (decide (i < n))) H
          rw [decide_eq_true z]
          exact k
        · rw [if_neg (fun q => z q.2)] at k
          show Q (.bl (decide (i < n))) H
          rw [decide_eq_false z]
          exact k
      · have ca1 := of_dec ca1
        rw [if_neg (fun q => ca1 q.1)] at k
        exact k
    · rw [idxOf_no h] at k
      rcases h with ⟨b, rfl⟩ | ⟨t, ty, kt⟩
      · refine ⟨_, rfl, _, _, _, _, _, rfl, (.ty _), (.base (.bl _)), rfl, _, rfl, ?_⟩
        refine ite_yes (by decide +kernel) ?_
        refine ⟨_, rfl, _, _, _, _, _, rfl, (.ty _), (.base (.bl _)), rfl, _, rfl, _, rfl, ?_⟩
        refine ite_no (by decide +kernel) ?_
        exact k
      · refine ⟨_, rfl, _, _, _, _, _, rfl, (.ty _), ty, kt, _, rfl, ?_⟩
        exact k
theorem d_law_is_index (e : Ev K mg base) : DefN P w K mg base 1 "_law_is_index" ["value", "bound"] (spIdx K) := by
  obtain ⟨fd, F⟩ := e.c.def_ 38 (d := dd "_law_is_index" 39) rfl
  exact ⟨⟨fd, ok_law_is_index F e, FunD.bindsN F fun _ _ _ _ _ _ us hl => match us, hl with | [_, _], _ => rfl⟩, F.kp, He.glo_ok e.X e.G (e.c.fact 69 rfl)⟩
def spIndexL (K : PySem.W.Frag) : Sp := fun vs H Q _ => ∃ (p c : Addr) (ms : List Int) (t : Nat) (z : Int) (n : Nat), vs = [.ref p, .int n] ∧ Pen H p c ms t z ∧ t < 900000 ∧ n ≤ 100 ∧
  ∀ (v : V) (x : Str) (H' : Hp) (t' : Nat) (z' : Int), IntOr K H' v → ReprV K H' v x → v ≠ .ref p → But p H H' → Pen H' p c ms t' z' → t' ≤ t + 3 → Q v H'
theorem sc_law_index : FnScope ["pen", "many", "odd"] ["pen", "many"] (defScope (top 38)) := ⟨rfl, rfl, rfl, by decide +kernel, rfl, by decide +kernel, by decide +kernel⟩
theorem ok_law_index {fd : FuncData} (F : FunD K "_law_index" "_law_index" (defArgs (top 38)) (defBody (top 38)) (defScope (top 38)) [] [] (He.ga K "_law_index") fd) (e : Ev K mg base) : FnOk P w K mg base CX0 5 (He.ga K "_law_index") fd ["pen", "many"] (spIndexL K) := by
  refine F.ok sc_law_index (fun vs H Q E h => ?_) (fun cdv A outer s H vs Q E hr h => ?_)
  · obtain ⟨_, _, _, _, _, _, rfl, _⟩ := h
    rfl
  · skip
    refine ⟨_, PSs.nox ((pss_cons (ps_set (i := 2) sc_law_index.nd rfl (Or.inl rfl) (pe_lst (pa_cons pe_non (pa_cons pe_bl (pa_cons pe_bl (pa_cons (pe_un un_neg pe_int) (pa_cons pe_str (pa_cons (pe_tup (pa_cons pe_int pa_nil)) (pa_cons (pe_lst (pa_cons pe_int pa_nil)) (pa_cons pe_dnewK (pa_cons (pe_op op_pow pe_int pe_int) (pa_cons (pv 1) (pa_cons (pe_op op_add (pv 1) pe_int) pa_nil)))))))))))))
      (pss_one (ps_ret (pe_ifExp (pt_cmpR op_eq (pe_def (d_law_draw (P := P) (w := w) (K := K) (mg := mg) (base := base) e) (hr.mono (by decide)) (by rfl) (pa_cons (pv 0) (pa_cons pe_int pa_nil))) pe_int (nomark _)) (pe_def (d_law_pick (P := P) (w := w) (K := K) (mg := mg) (base := base) e) (hr.mono (by decide)) (by rfl) (pa_cons (pv 0) (pa_cons (pv 2) pa_nil))) (pe_def (d_law_draw (P := P) (w := w) (K := K) (mg := mg) (base := base) e) (hr.mono (by decide)) (by rfl) (pa_cons (pv 0) (pa_cons (pe_op op_add (pv 1) pe_int) pa_nil)))))))), ?_⟩
    obtain ⟨p, c, ms, t, z, n, rfl, P0, ht, hn, k⟩ := h
    refine ⟨_, rfl, (fit (by simp)), fun pa3 na4 => ?_⟩
    generalize ga6 : upd H pa3 (HO.tup [V.int (0 : Int)]) = Ha5
    obtain ⟨sa8, ea7⟩ := gen_new ga6 na4
    clear ga6
    refine ⟨(fit (by simp)), fun pa11 na12 => ?_⟩
    generalize ga14 : upd Ha5 pa11 (HO.lst [V.int (0 : Int)]) = Ha13
    obtain ⟨sa16, ea15⟩ := gen_new ga14 na12
    clear ga14
    intro pa17 na18
    generalize ga20 : upd Ha13 pa17 (HO.dK []) = Ha19
    obtain ⟨sa22, ea21⟩ := gen_new ga20 na18
    clear ga20
    refine ⟨_, _, rfl, rfl, ⟨(by omega), ⟨(by omega), (by omega)⟩⟩, _, rfl, _, rfl, _, _, rfl, rfl, (fit (by simp)), fun pa25 na26 => ?_⟩
    generalize ga28 : upd Ha19 pa25 (HO.lst [V.non, V.bl true, V.bl false, (fun i => V.int (-i)) (1 : Int), V.str (Str.ofString "1"), V.ref pa3, V.ref pa11, V.ref pa17, (fun i j => V.int (i ^ j.toNat)) (10 : Int) (59 : Int), V.int (↑n : Int), (fun i j => V.int (i + j)) (↑n : Int) (1 : Int)]) = Ha27
    obtain ⟨sa30, ea29⟩ := gen_new ga28 na26
    clear ga28
    refine ⟨_, rfl, _, _, _, _, _, _, rfl, (P0.same (((sa8.trans sa16).trans sa22).trans sa30)), (by omega), (by omega), (by omega), fun da40 Ha41 xa42 xa43 ha44 ha45 ba46 Pa47 ha48 => ?_⟩
    refine ⟨rfl, _, rfl, ?_⟩
    show @ite _ _ (_) _ _
    have b41 : But p H Ha41 := (((((Same.but sa8).trans (Same.but sa16)).trans (Same.but sa22)).trans (Same.but sa30)).trans ba46)
    refine ite2 (fun ca49 => ?_) (fun ca49 => ?_)
    · have ca49 := of_decide_eq_true ca49
      have n25 : pa25 ≠ p := (ne_of_none (sa22 _ _ (sa16 _ _ (sa8 _ _ P0.a))) na26).symm
      refine ⟨_, rfl, _, rfl, _, _, _, _, _, _, _, rfl, Pa47, (by omega), (SqL.of (ba46 _ _ n25 ea29)), n25, (by simp), (by simp only [List.length_map, List.length_append, List.length_cons, List.length_nil, List.length_take, List.length_drop, List.length_reverse]; omega), fun xa58 Ha59 xa60 xa61 ha62 ba63 Pa64 ha65 => ?_⟩
      have n3 : pa3 ≠ p := (ne_of_none P0.a na4).symm
      have n11 : pa11 ≠ p := (ne_of_none (sa8 _ _ P0.a) na12).symm
      have n17 : pa17 ≠ p := (ne_of_none (sa16 _ _ (sa8 _ _ P0.a)) na18).symm
      have b59 := b41.trans ba63
      have e3 := ba63 _ _ n3 (ba46 _ _ n3 (sa30 _ _ (sa22 _ _ (sa16 _ _ ea7))))
      have e11 := ba63 _ _ n11 (ba46 _ _ n11 (sa30 _ _ (sa22 _ _ ea15)))
      have e17 := ba63 _ _ n17 (ba46 _ _ n17 (sa30 _ _ ea21))
      have fin : ∀ (v : V) (x : Str), IntOr K Ha59 v → ReprV K Ha59 v x → v ≠ .ref p → Q v Ha59 := fun v x h1 h2 h3 => k v x Ha59 _ _ h1 h2 h3 b59 Pa64 (by omega)
      simp only [List.mem_cons, List.not_mem_nil, or_false] at ha62
      rcases ha62 with rfl | rfl | rfl | rfl | rfl | rfl | rfl | rfl | rfl | rfl | rfl
      · exact fin _ _ (.inr (.inr ⟨_, .base .non, rfl⟩)) (.of .non (by decide +kernel)) nofun
      · exact fin _ _ (.inr (.inl ⟨_, rfl⟩)) (.of (.bl _) (by decide +kernel)) nofun
      · exact fin _ _ (.inr (.inl ⟨_, rfl⟩)) (.of (.bl _) (by decide +kernel)) nofun
      · exact fin _ _ (.inl ⟨_, rfl⟩) (.of (.int (-1)) (by decide +kernel)) nofun
      · exact fin _ _ (.inr (.inr ⟨_, .base (.str _), rfl⟩)) (.of (.str _) (by decide +kernel)) nofun
      · exact fin _ _ (.inr (.inr ⟨_, .base (.tup e3), rfl⟩)) (.of (.tup (SqT.of e3) (.cons (.int _) .nil)) (by decide +kernel)) (fun q => n3 (V.ref.inj q))
      · exact fin _ _ (.inr (.inr ⟨_, .base (.lst e11), rfl⟩)) (.of (.lst (SqL.of e11) (.cons (.int _) .nil)) (by decide +kernel)) (fun q => n11 (V.ref.inj q))
      · exact fin _ _ (.inr (.inr ⟨_, .base (.dK e17), rfl⟩)) (.dict e17) (fun q => n17 (V.ref.inj q))
      · exact fin _ _ (.inl ⟨_, rfl⟩) (.of (.int (10 ^ 59)) (by decide +kernel)) nofun
      · exact fin _ _ (.inl ⟨_, rfl⟩) (.nat (by omega)) nofun
      · exact fin _ _ (.inl ⟨_, rfl⟩) (ReprV.nat (i := n + 1) (by omega)) nofun
    · have ca49 := of_dec ca49
      refine ⟨_, rfl, _, rfl, _, _, rfl, rfl, _, _, _, _, _, _, rfl, Pa47, (by omega), (by omega), (by omega), fun d50 H51 t51 z51 h51 h52 b53 P54 h55 => ?_⟩
      obtain ⟨m, rfl⟩ : ∃ m : Nat, d50 = m := ⟨d50.toNat, by omega⟩
      exact k _ _ _ _ _ (.inl ⟨_, rfl⟩) (.nat (by omega)) nofun (b41.trans b53) P54 (by omega)
theorem d_law_index (e : Ev K mg base) : DefN P w K mg base 5 "_law_index" ["pen", "many"] (spIndexL K) := by
  obtain ⟨fd, F⟩ := e.c.def_ 39 (d := dd "_law_index" 38) rfl
  exact ⟨⟨fd, ok_law_index F e, FunD.bindsN F fun _ _ _ _ _ _ us hl => match us, hl with | [_, _], _ => rfl⟩, F.kp, He.glo_ok e.X e.G (e.c.fact 70 rfl)⟩
def spJoinR (K : PySem.W.Frag) : Sp := fun vs H Q _ => ∃ (p c a b : Addr) (ms : List Int) (t : Nat) (z : Int) (fs gs : List FrD), vs = [.ref p, .ref a, .ref b] ∧ Pen H p c ms t z ∧ t < 700000 ∧ H a = some (.lst (framesV fs)) ∧ a ≠ p ∧ H b = some (.lst (framesV gs)) ∧ b ≠ p ∧ PrsAt H fs ∧ PrsAt H gs ∧ NeOk fs ∧ NeOk gs ∧ fs.length ≤ 60 ∧ gs.length ≤ 60 ∧ LamX.Tabs (lamT K) H ∧
  ∀ (H' : Hp) (t' : Nat) (z' : Int), ButT p H H' → Pen H' p c ms t' z' → t' ≤ t + 1 → LamX.Tabs (lamT K) H' → Q (.bl true) H'
theorem sc_law_joined_right : FnScope ["pen", "pairs", "others", "one", "other", "pair", "heard", "held"] ["pen", "pairs", "others"] (defScope (top 36)) := ⟨rfl, rfl, rfl, by decide +kernel, rfl, by decide +kernel, by decide +kernel⟩
theorem ok_law_joined_right {fd : FuncData} (F : FunD K "_law_joined_right" "_law_joined_right" (defArgs (top 36)) (defBody (top 36)) (defScope (top 36)) [] [] (He.ga K "_law_joined_right") fd) (e : Ev K mg base) : FnG P w K mg base CX0 10 (He.ga K "_law_joined_right") fd ["pen", "pairs", "others"] (spJoinR K) := by
  refine okGC (p := ("_law_joined_right", none)) rfl F sc_law_joined_right (fun vs H Q E h => ?_) (fun A outer s H vs Q E hgu hr h => ?_)
  · obtain ⟨_, _, _, _, _, _, _, _, _, rfl, _⟩ := h
    rfl
  · skip
    refine ⟨_, PSs.nox ((pss_cons (ps_asg (pe_tup (pa_cons (pe_def (d_law_made (P := P) (w := w) (K := K) (mg := mg) (base := base) e) (hr.mono (by decide)) (by rfl) (pa_cons (pv 1) pa_nil)) (pa_cons (pe_def (d_law_made (P := P) (w := w) (K := K) (mg := mg) (base := base) e) (hr.mono (by decide)) (by rfl) (pa_cons (pv 2) pa_nil)) (pa_cons (pe_def (d_law_pick (P := P) (w := w) (K := K) (mg := mg) (base := base) e) (hr.mono (by decide)) (by rfl) (pa_cons (pv 0) (pa_cons (pe_op op_cat (pe_op op_cat (pv 2) (pv 1)) (pe_lst (pa_cons (pe_tup (pa_cons pe_str (pa_cons pe_non pa_nil))) pa_nil))) pa_nil))) pa_nil)))) (pg_tup (by rfl) (pgs_cons (pg_name (i := 3) sc_law_joined_right.nd rfl (Or.inr rfl)) (pgs_cons (pg_name (i := 4) sc_law_joined_right.nd rfl (Or.inr rfl)) (pgs_cons (pg_name (i := 5) sc_law_joined_right.nd rfl (Or.inr rfl)) pgs_nil)))))
      (pss_cons (ps_set (i := 6) sc_law_joined_right.nd rfl (Or.inl rfl) (pe_lst (pa_cons (pe_heardAdd e (p := ("_law_joined_right", none)) (T := lamT K) (by exact lamT_one e (.inl rfl)) (by simp [tf]) rfl hgu (hr.mono (by decide)) rfl (by exact LamX.lamS_by (sc := defScope (top 36)) (by decide +kernel)) rfl (fun _ _ _ _ _ => rfl) (by exact fun _ _ _ _ _ _ _ hr2 => (pv 3)) (by exact fun _ _ _ _ _ _ _ hr2 => (pv 4))) pa_nil)))
      (pss_cons (ps_expr (kpe_bm (K := K) PySem.F.plainAttrs_list PySem.F.slot_list_append PySem.F.type_list_append mt_append (pv 6) (pa_cons (pe_heardAdd e (p := ("_law_joined_right", none)) (T := lamT K) (by exact lamT_one e (.inl rfl)) (by simp [tf]) rfl hgu (hr.mono (by decide)) rfl (by exact LamX.lamS_by (sc := defScope (top 36)) (by decide +kernel)) rfl (fun _ _ _ _ _ => rfl) (by exact fun _ _ _ _ _ _ _ hr2 => (pv 4)) (by exact fun _ _ _ _ _ _ _ hr2 => (pv 3))) pa_nil)))
      (pss_cons (ps_expr (kpe_bm (K := K) PySem.F.plainAttrs_list PySem.F.slot_list_append PySem.F.type_list_append mt_append (pv 6) (pa_cons (pe_heardAdd e (p := ("_law_joined_right", none)) (T := lamT K) (by exact lamT_one e (.inl rfl)) (by simp [tf]) rfl hgu (hr.mono (by decide)) rfl (by exact LamX.lamS_by (sc := defScope (top 36)) (by decide +kernel)) rfl (fun _ _ _ _ _ => rfl) (by exact fun _ _ _ _ _ _ _ hr2 => (pv 3)) (by exact fun _ _ _ _ _ _ _ hr2 => (pe_def (d_law_frame e) (hr2.mono (by decide)) (by rfl) (pa_cons (pv 5) pa_nil)))) pa_nil)))
      (pss_cons (ps_if (pt_cmpR (kop_neD (K := K) hr.units) (pv 6) (pe_lst (pa_cons (pe_def (d_law_few (P := P) (w := w) (K := K) (mg := mg) (base := base) e) (hr.mono (by decide)) (by rfl) (pa_cons (pe_op op_cat (pv 1) (pv 2)) pa_nil)) (pa_cons (pe_def (d_law_few (P := P) (w := w) (K := K) (mg := mg) (base := base) e) (hr.mono (by decide)) (by rfl) (pa_cons (pe_op op_cat (pv 2) (pv 1)) pa_nil)) (pa_cons (pe_def (d_law_few (P := P) (w := w) (K := K) (mg := mg) (base := base) e) (hr.mono (by decide)) (by rfl) (pa_cons (pe_op op_cat (pv 1) (pe_lst (pa_cons (pv 5) pa_nil))) pa_nil)) pa_nil)))) (nomark _))
      (pss_one (ps_ret pe_bl)) pss_nil)
      (C8.pss_cut (ps_if (pt_cmpR op_lt (pe_callB (kcall_len_seq (K := K)) (by rfl) (f_len e) (by decide +kernel) (pa_cons (pv 1) pa_nil)) pe_int (nomark _))
      (pss_cons (ps_set (i := 7) sc_law_joined_right.nd rfl (Or.inl rfl) (pv 3))
      (pss_cons (ps_aug (i := 7) sc_law_joined_right.nd rfl (Or.inl rfl) (pe_def (d_law_frame (P := P) (w := w) (K := K) (mg := mg) (base := base) e) (hr.mono (by decide)) (by rfl) (pa_cons (pv 5) pa_nil)) (pipAdd e (hr.mono (by decide)) passNo))
      (pss_one (ps_if (pt_cmpR (kop_neD (K := K) hr.units) (pe_def (d_law_shown (P := P) (w := w) (K := K) (mg := mg) (base := base) e) (hr.mono (by decide)) (by rfl) (pa_cons (pv 7) pa_nil)) (pe_op op_cat (pv 1) (pe_lst (pa_cons (pv 5) pa_nil))) (nomark _))
      (pss_one (ps_ret pe_bl)) pss_nil)))) pss_nil)
      (C8.pss_cut (ps_if (pt_cmpR op_lt (pe_callB (kcall_len_seq (K := K)) (by rfl) (f_len e) (by decide +kernel) (pa_cons (pe_op op_cat (pv 1) (pv 2)) pa_nil)) pe_int (nomark _))
      (pss_cons (ps_set (i := 7) sc_law_joined_right.nd rfl (Or.inl rfl) (pv 3))
      (pss_cons (ps_aug (i := 7) sc_law_joined_right.nd rfl (Or.inl rfl) (pv 4) (pipAdd e (hr.mono (by decide)) passNo))
      (pss_one (ps_if (pt_cmpR (kop_neD (K := K) hr.units) (pe_def (d_law_shown (P := P) (w := w) (K := K) (mg := mg) (base := base) e) (hr.mono (by decide)) (by rfl) (pa_cons (pv 7) pa_nil)) (pe_op op_cat (pv 1) (pv 2)) (nomark _))
      (pss_one (ps_ret pe_bl)) pss_nil)))) pss_nil)
      (pss_one (ps_ret (pe_and (pe_cmpR (kop_eqD (K := K) hr.units) (pe_def (d_law_shown (P := P) (w := w) (K := K) (mg := mg) (base := base) e) (hr.mono (by decide)) (by rfl) (pa_cons (pv 3) pa_nil)) (pv 1) (nomark _)) (pe_one (pe_cmpR (kop_eqD (K := K) hr.units) (pe_def (d_law_shown (P := P) (w := w) (K := K) (mg := mg) (base := base) e) (hr.mono (by decide)) (by rfl) (pa_cons (pv 4) pa_nil)) (pv 2) (nomark _)))))))))))))), ?_⟩
    obtain ⟨p, c, a, b, ms, t, z, fs, gs, rfl, P0, ht, ha, nap, hb, nbp, hf, hg, okf, okg, fewf, fewg, T0, k⟩ := h
    have lf : (framesV fs).length = fs.length := framesV_len _
    have lg : (framesV gs).length = gs.length := framesV_len _
    refine ⟨_, rfl, _, _, rfl, ha, hf, okf, fewf, fun p8 gs9 H10 e11 s12 n13 h14 => ?_⟩
    refine ⟨_, rfl, _, _, rfl, (s12 _ _ hb), (hg.same s12), okg, fewg, fun p22 gs23 H24 e25 s26 n27 h28 => ?_⟩
    refine ⟨_, rfl, _, rfl, _, rfl, _, _, _, _, rfl, rfl, (s26 _ _ (s12 _ _ hb)), (s26 _ _ (s12 _ _ ha)), (fit (by omega)), fun p31 n32 => ?_⟩
    generalize g34 : upd H24 p31 (HO.lst (framesV gs ++ framesV fs)) = H33
    obtain ⟨s36, e35⟩ := gen_new g34 n32
    clear g34
    refine ⟨(fit (by simp)), fun p39 n40 => ?_⟩
    generalize g42 : upd H33 p39 (HO.tup [V.str (Str.ofString "q"), V.non]) = H41
    obtain ⟨s44, e43⟩ := gen_new g42 n40
    clear g42
    refine ⟨(fit (by simp)), fun p47 n48 => ?_⟩
    generalize g50 : upd H41 p47 (HO.lst [V.ref p39]) = H49
    obtain ⟨s52, e51⟩ := gen_new g50 n48
    clear g50
    refine ⟨_, _, _, _, rfl, rfl, (s52 _ _ (s44 _ _ e35)), e51, (fit (by rw [List.length_append]; simp only [List.length_cons, List.length_nil]; omega)), fun p55 n56 => ?_⟩
    generalize g58 : upd H49 p55 (HO.lst (framesV gs ++ framesV fs ++ [V.ref p39])) = H57
    obtain ⟨s60, e59⟩ := gen_new g58 n56
    clear g58
    refine ⟨_, _, _, _, _, _, _, rfl, (P0.same (((((s12.trans s26).trans s36).trans s44).trans s52).trans s60)), (by omega), (SqL.of e59), (ne_of_none (s52 _ _ (s44 _ _ (s36 _ _ (s26 _ _ (s12 _ _ P0.a))))) n56).symm, (by simp), (by rw [List.length_append, List.length_append]; simp only [List.length_cons, List.length_nil]; omega), fun x69 H70 x71 x72 h73 b74 P75 h76 => ?_⟩
    have sX : Same H H57 := ((((s12.trans s26).trans s36).trans s44).trans s52).trans s60
    have b70 : But p H H70 := (Same.but sX).trans b74
    have pH57 : PrsAt H57 (gs ++ fs ++ [⟨p39, "q", none⟩]) := fun f hfm => by
      rcases List.mem_append.mp hfm with hfm | hfm
      · rcases List.mem_append.mp hfm with hfm | hfm
        · exact (hg.same sX) f hfm
        · exact (hf.same sX) f hfm
      · rw [List.mem_singleton.mp hfm]
        exact ⟨s60 _ _ (s52 _ _ e43), (show IsNm "q" from nmB_iff.mp (by decide +kernel)), nofun⟩
    have okA : NeOk (gs ++ fs ++ [(⟨p39, "q", none⟩ : FrD)]) := fun f hfm => by
      rcases List.mem_append.mp hfm with hfm | hfm
      · rcases List.mem_append.mp hfm with hfm | hfm
        · exact okg f hfm
        · exact okf f hfm
      · rw [List.mem_singleton.mp hfm]; exact nofun
    obtain ⟨q, hq, rfl⟩ : ∃ q, q ∈ gs ++ fs ++ [(⟨p39, "q", none⟩ : FrD)] ∧ x69 = .ref q.p := by
      have e : framesV gs ++ framesV fs ++ [V.ref p39] = framesV (gs ++ fs ++ [(⟨p39, "q", none⟩ : FrD)]) := by unfold framesV; rw [List.map_append, List.map_append]; rfl
      rw [e] at h73
      obtain ⟨f, h1, h2⟩ := List.mem_map.mp h73
      exact ⟨f, h1, h2.symm⟩
    have P57 := P0.same sX
    have q70 : PrAt H70 q := (pH57.but P57.a b74) q hq
    have okq := okA q hq
    refine ⟨(fit (by simp)), fun p79 n80 => ?_⟩
    generalize g82 : upd H70 p79 (HO.tup [V.ref p8, V.ref p22, V.ref q.p]) = H81
    obtain ⟨s84, e83⟩ := gen_new g82 n80
    clear g82
    have bA : But p H H81 := b70.trans (Same.but s84)
    have TA := tabs_but T0 P0 bA
    have PA := P75.same s84
    have nx : ∀ {x : Addr} {o : HO}, H57 x = some o → (∀ ys, o ≠ .lst ys) → H81 x = some o := fun hx no => s84 _ _ (b74 _ _ (ne_of hx P57.a (no _)) hx)
    have hist81 : ∀ {x : Addr} {fs : List FrD}, HistAt K H57 x fs → HistAt K H81 x fs := fun ⟨dx, t, u, hs, h1, h2, h3, h4, h5⟩ => ⟨dx, t, u, hs, nx h1 nofun, nx h2 nofun, nx h3 nofun, h4, fun f hf => let ⟨fo, d, ef⟩ := h5 f hf; ⟨fo, d, nx ef nofun⟩⟩
    have o81 : HistAt K H81 p8 gs9 := hist81 (((((h14.same s26).same s36).same s44).same s52).same s60)
    have u81 : HistAt K H81 p22 gs23 := hist81 ((((h28.same s36).same s44).same s52).same s60)
    have a81 := bA _ _ nap ha
    have b81 := bA _ _ nbp hb
    have pf81 := hf.but P0.a bA
    have pg81 := hg.but P0.a bA
    have q81 : PrAt H81 q := ⟨s84 _ _ q70.1, q70.2⟩
    have l9 : gs9.length = fs.length := by have := congrArg List.length e11; simpa using this
    have l23 : gs23.length = gs.length := by have := congrArg List.length e25; simpa using this
    clear n80 e59 n56 e51 n48 e43 n40 e35 n32 h28 h14
    refine ⟨_, _, rfl, (SqT.of e83), rfl, _, _, rfl, _, _, rfl, _, _, rfl, rfl, ?_⟩
    have few9 : gs9.length ≤ 1000 := by omega
    have few23 : gs23.length ≤ 1000 := by omega
    refine told_res (l := fs.map FrD.pair ++ gs.map FrD.pair) TA (fun E H2 Q0 e2 hm hk => ⟨_, rfl, _, rfl, bin_add e (o81.ext e2) (.inr (u81.ext e2)) few9 few23 (by rw [e11, e25]) hm hk⟩) fun v1 H90 e90 T90 n90 d90 => ?_
    refine ⟨(fit (by simp)), fun pj3 nj4 => ?_⟩
    generalize gj6 : upd H90 pj3 (HO.lst [v1]) = Hj5
    obtain ⟨sj8, ej7⟩ := gen_new gj6 nj4
    clear gj6
    refine ⟨_, rfl, (.inl ⟨rfl, ⟨_, (SqL.of ej7)⟩⟩), ?_⟩
    have eB : LamX.ExtN H81 Hj5 := e90.trans (extS sj8)
    refine told_res (l := gs.map FrD.pair ++ fs.map FrD.pair) (T90.ext sj8) (fun E H2 Q0 e2 hm hk => ⟨_, rfl, _, rfl, bin_add e (u81.ext (eB.trans e2)) (.inr (o81.ext (eB.trans e2))) few23 few9 (by rw [e11, e25]) hm hk⟩) fun v2 H100 e100 T100 n100 d100 => ?_
    have j100 := e100 _ _ ej7 nofun
    refine ⟨_, _, _, rfl, rfl, j100, (fits (by simp)), ?_⟩
    have T101 := tabs_upd (ys := [v1] ++ [v2]) T100 j100
    generalize gj2 : upd H100 pj3 (HO.lst ([v1] ++ [v2])) = Hj1 at T101 ⊢
    obtain ⟨bj4, ej3⟩ := gen_mut gj2
    clear gj2
    refine ⟨_, rfl, (.inl ⟨rfl, ⟨_, (SqL.of ej3)⟩⟩), ?_⟩
    have eC : LamX.ExtN H90 Hj1 := fun b o hb nb => bj4 b o (ne_of_none hb nj4) (e100 _ _ (sj8 _ _ hb) nb)
    have eD := e90.trans eC
    have d1C := dp_ext eC d90
    have d2C := dp_res_but j100 bj4 (n100 _ _ ej7) d100
    have prq : ∀ {H' : Hp}, LamX.ExtN H81 H' → PrAt H' q := fun x => ⟨x _ _ q81.1 nofun, q81.2⟩
    refine told_res (l := fs.map FrD.pair ++ [q.pair]) T101 (fun E H2 Q0 e2 hm hk => ⟨_, rfl, _, rfl, q, rfl, prq (eD.trans e2), okq, fun qa Hq sq nq frq => bin_add e ((o81.ext (eD.trans e2)).same sq) (.inl ⟨q.a, q.o, frq, rfl⟩) few9 (by simp) (by rw [e11]; rfl) (fun m d H' s n h => hm m d H' (sq.trans s) (same_none sq n) h) fun m p fs H' ef s ha => hk m p fs H' ef (sq.trans s) ha⟩) fun v3 H110 e110 T110 n110 d110 => ?_
    have j110 := e110 _ _ ej3 nofun
    refine ⟨_, _, _, rfl, rfl, j110, (fits (by simp)), ?_⟩
    have T112 := tabs_upd (ys := [v1] ++ [v2] ++ [v3]) T110 j110
    generalize gk2 : upd H110 pj3 (HO.lst ([v1] ++ [v2] ++ [v3])) = Hk1 at T112 ⊢
    obtain ⟨bk4, ek3⟩ := gen_mut gk2
    clear gk2
    have eE : LamX.ExtN H90 Hk1 := fun b o hb nb => bk4 b o (ne_of_none hb nj4) (e110 _ _ (eC _ _ hb nb) nb)
    have eF : LamX.ExtN H81 Hk1 := e90.trans eE
    have d1K := dp_ext eE d90
    have d2K := dp_res_but j110 bk4 (n100 _ _ ej7) (dp_ext e110 d2C)
    have d3K := dp_res_but j110 bk4 (n110 _ _ ej3) d110
    have aK := eF _ _ a81 nofun
    have bK := eF _ _ b81 nofun
    have pfK : PrsAt Hk1 fs := fun f h => ⟨eF _ _ (pf81 f h).1 nofun, (pf81 f h).2⟩
    have pgK : PrsAt Hk1 gs := fun f h => ⟨eF _ _ (pg81 f h).1 nofun, (pg81 f h).2⟩
    have prs_app : ∀ {H' : Hp} {xs ys : List FrD}, PrsAt H' xs → PrsAt H' ys → PrsAt H' (xs ++ ys) := fun h1 h2 f hf => (List.mem_append.mp hf).elim (h1 f) (h2 f)
    have fr_app : ∀ xs ys : List FrD, framesV xs ++ framesV ys = framesV (xs ++ ys) := fun xs ys => by unfold framesV; rw [List.map_append]
    refine ⟨_, rfl, _, rfl, _, rfl, _, _, _, _, rfl, rfl, aK, bK, (fit (by omega)), fun pj7 nj8 => ?_⟩
    generalize gj10 : upd Hk1 pj7 (HO.lst (framesV fs ++ framesV gs)) = Hj9
    obtain ⟨sj12, ej11⟩ := gen_new gj10 nj8
    clear gj10
    rw [fr_app] at ej11
    refine ⟨pj7, fs ++ gs, rfl, ej11, prs_app (pfK.same sj12) (pgK.same sj12), fun w1 Hw1 sw1 dw1 => ?_⟩
    have sK1 := sj12.trans sw1
    refine ⟨_, rfl, _, rfl, _, _, _, _, rfl, rfl, (sK1 _ _ bK), (sK1 _ _ aK), (fit (by omega)), fun pk3 nk4 => ?_⟩
    generalize gk6 : upd Hw1 pk3 (HO.lst (framesV gs ++ framesV fs)) = Hk5
    obtain ⟨sk8, ek7⟩ := gen_new gk6 nk4
    clear gk6
    rw [fr_app] at ek7
    have sK2 := sK1.trans sk8
    refine ⟨pk3, gs ++ fs, rfl, ek7, prs_app (pgK.same sK2) (pfK.same sK2), fun w2 Hw2 sw2 dw2 => ?_⟩
    have sK3 := sK2.trans sw2
    have qK : PrAt Hw2 q := ⟨sK3 _ _ (eF _ _ q81.1 nofun), q81.2⟩
    refine ⟨_, rfl, _, rfl, (fit (by simp)), fun pm3 nm4 => ?_⟩
    generalize gm6 : upd Hw2 pm3 (HO.lst [V.ref q.p]) = Hm5
    obtain ⟨sm8, em7⟩ := gen_new gm6 nm4
    clear gm6
    have em7 : Hm5 pm3 = some (.lst (framesV [q])) := em7
    have sK4 := sK3.trans sm8
    refine ⟨_, _, _, _, rfl, rfl, (sK4 _ _ aK), em7, (fit (by have h1 : [q].length = 1 := rfl; rw [framesV_len, framesV_len]; omega)), fun pn3 nn4 => ?_⟩
    generalize gn6 : upd Hm5 pn3 (HO.lst (framesV fs ++ framesV [q])) = Hn5
    obtain ⟨sn8, en7⟩ := gen_new gn6 nn4
    clear gn6
    rw [fr_app] at en7
    have sK5 := sK4.trans sn8
    refine ⟨pn3, fs ++ [q], rfl, en7, prs_app (pfK.same sK5) (fun f hf => by rw [List.mem_singleton.mp hf]; exact (⟨sn8 _ _ (sm8 _ _ qK.1), qK.2⟩ : PrAt Hn5 q)), fun w3 Hw3 sw3 dw3 => ?_⟩
    have sK6 := sK5.trans sw3
    refine ⟨(fit (by simp)), fun po3 no4 => ?_⟩
    generalize go6 : upd Hw3 po3 (HO.lst [w1, w2, w3]) = Ho5
    obtain ⟨so8, eo7⟩ := gen_new go6 no4
    clear go6
    have sK7 := sK6.trans so8
    have okfs : ∀ x ∈ fs.map FrD.pair, FrOk x.1 x.2 := fun x hx => by
      obtain ⟨f, hfm, rfl⟩ := List.mem_map.mp hx
      exact (hf f hfm).2
    have okgs : ∀ x ∈ gs.map FrD.pair, FrOk x.1 x.2 := fun x hx => by
      obtain ⟨f, hfm, rfl⟩ := List.mem_map.mp hx
      exact (hg f hfm).2
    have li1 := lit_res (l := fs.map FrD.pair ++ gs.map FrD.pair) fun x hx => (List.mem_append.mp hx).elim (okfs x) (okgs x)
    have li2 := lit_res (l := gs.map FrD.pair ++ fs.map FrD.pair) fun x hx => (List.mem_append.mp hx).elim (okgs x) (okfs x)
    have li3 := lit_res (l := fs.map FrD.pair ++ [q.pair]) fun x hx => (List.mem_append.mp hx).elim (okfs x) fun h => by rw [List.mem_singleton.mp h]; exact q81.2
    have li := Lit.list (LitAll.cons li1 (LitAll.cons li2 (LitAll.cons li3 .nil)))
    have sh := li.shaped
    rw [List.map_append] at dw1 dw2 dw3
    have dw3 : Dp K Hw3 w3 (resD (fs.map FrD.pair ++ [q.pair])) := dw3
    have x1 := extS (sw1.trans (sk8.trans (sw2.trans (sm8.trans (sn8.trans (sw3.trans so8))))))
    have dW1 := dp_ext (extS (sk8.trans (sw2.trans (sm8.trans (sn8.trans (sw3.trans so8)))))) dw1
    have dW2 := dp_ext (extS (sm8.trans (sn8.trans (sw3.trans so8)))) dw2
    have dW3 := dp_ext (extS so8) dw3
    refine ⟨_, _, (.lst (SqL.of (sK7 _ _ ek3)) (.cons (dp_ext (extS sK7) d1K) (.cons (dp_ext (extS sK7) d2K) (.cons (dp_ext (extS sK7) d3K) .nil)))), (.lst (SqL.of eo7) (.cons dW1 (.cons dW2 (.cons dW3 .nil)))), sh, sh, _, rfl, ?_⟩
    show @ite _ _ (_) _ _
    refine ite_no (by rw [SeqAt.eqv_refl _ li.c]; exact Bool.false_ne_true) ?_
    have TO := T112.ext sK7
    have PO := PA.ext (eF.trans (extS sK7))
    have oO := (o81.ext eF).same sK7
    have uO := (u81.ext eF).same sK7
    have aO := sK7 _ _ aK
    have bO := sK7 _ _ bK
    have pfO := pfK.same sK7
    have pgO := pgK.same sK7
    have qO : PrAt Ho5 q := ⟨sK7 _ _ (eF _ _ q81.1 nofun), q81.2⟩
    have btO : ButT p H Ho5 := ((ButT.of bA).trans (ButT.ofN eF)).trans (ButT.ofS sK7)
    clear x1 dW1 dW2 dW3 dw1 dw2 dw3 d1K d2K d3K ek3 eo7 en7 em7 ek7 ej11 T112 aK bK pfK pgK
    refine ⟨fun σ' H' => ∃ x7, σ' = [some (.ref p), some (.ref a), some (.ref b), some (.ref p8), some (.ref p22), some (.ref q.p), some (.ref pj3), x7] ∧ Same Ho5 H', ?_, ?_⟩
    · refine ⟨_, rfl, _, _, rfl, (.inl (SqL.of aO)), _, _, rfl, rfl, _, rfl, ?_⟩
      show @ite _ _ (_) _ _
      refine ite2 (fun cm1 => ?_) (fun cm1 => ?_)
      · have cm1 := of_decide_eq_true cm1
        refine ⟨_, rfl, _, rfl, _, rfl, ?_⟩
        have lq : (fs.map FrD.pair ++ [q.pair]).length = fs.length + 1 := by simp
        refine ⟨q, rfl, qO, okq, fun qa Hq sq nq frq => ?_⟩
        refine bin_add (l := fs.map FrD.pair ++ [q.pair]) e (oO.same sq) (.inl ⟨q.a, q.o, frq, rfl⟩) few9 (by simp) (by rw [e11]; rfl) (fun m => absurd m (by omega)) fun m ph hs Hh eh sh ah => ?_
        have lhs : hs.length ≤ 60 := by have := congrArg List.length eh; rw [List.length_map] at this; omega
        refine ⟨_, rfl, ?_⟩
        refine ⟨ph, hs, rfl, ah, (by omega), fun a9 gs9' H9 g9 s9 n9 ea9 pa9 => ?_⟩
        have sZ := (sq.trans sh).trans s9
        have d9 := dp_pairs (K := K) pa9
        rw [g9, eh] at d9
        refine ⟨_, rfl, _, rfl, (fit (by simp)), fun pm3 nm4 => ?_⟩
        generalize gm6 : upd H9 pm3 (HO.lst [V.ref q.p]) = Hm6
        obtain ⟨sm9, em8⟩ := gen_new gm6 nm4
        clear gm6
        have em8 : Hm6 pm3 = some (.lst (framesV [q])) := em8
        refine ⟨_, _, _, _, rfl, rfl, (sm9 _ _ (sZ _ _ aO)), em8, (fit (by have h1 : [q].length = 1 := rfl; rw [framesV_len, framesV_len]; omega)), fun pn3 nn4 => ?_⟩
        generalize gn6 : upd Hm6 pn3 (HO.lst (framesV fs ++ framesV [q])) = Hn6
        obtain ⟨sn9, en8⟩ := gen_new gn6 nn4
        clear gn6
        rw [fr_app] at en8
        have sY := (sZ.trans sm9).trans sn9
        have dr := dp_pairs (K := K) (prs_app (pfO.same sY) (fun f hf => by rw [List.mem_singleton.mp hf]; exact (⟨sY _ _ qO.1, qO.2⟩ : PrAt Hn6 q)))
        rw [List.map_append] at dr
        have okA2 : ∀ x ∈ fs.map FrD.pair ++ [q.pair], FrOk x.1 x.2 := fun x hx => (List.mem_append.mp hx).elim (okfs x) fun h => by rw [List.mem_singleton.mp h]; exact qO.2
        have shA := shaped_pairs okA2
        refine ⟨_, _, (.lst (SqL.of ((sm9.trans sn9) _ _ ea9)) (dpAll_ext (extS (sm9.trans sn9)) d9)), (.lst (SqL.of en8) dr), shA, shA, _, rfl, ?_⟩
        show @ite _ _ (_) _ _
        refine ite_no (by rw [show List.map FrD.pair [q] = [q.pair] from rfl, eqv_prs okA2]; exact Bool.false_ne_true) ?_
        exact ⟨_, rfl, sY⟩
      · have cm1 := of_dec cm1
        exact ⟨_, rfl, (Same.refl _)⟩
    · rintro σ' HA ⟨x7, rfl, sA⟩
      have aA := sA _ _ aO
      have bA2 := sA _ _ bO
      refine ⟨fun σ' H' => ∃ x7, σ' = [some (.ref p), some (.ref a), some (.ref b), some (.ref p8), some (.ref p22), some (.ref q.p), some (.ref pj3), x7] ∧ Same HA H', ?_, ?_⟩
      · refine ⟨_, rfl, _, rfl, _, _, _, _, rfl, rfl, aA, bA2, (fit (by omega)), fun pn3 nn4 => ?_⟩
        generalize gn6 : upd HA pn3 (HO.lst (framesV fs ++ framesV gs)) = Hn5
        obtain ⟨sn8, en7⟩ := gen_new gn6 nn4
        clear gn6
        refine ⟨_, _, rfl, (.inl (SqL.of en7)), _, _, rfl, rfl, _, rfl, ?_⟩
        show @ite _ _ (_) _ _
        refine ite2 (fun cn9 => ?_) (fun cn9 => ?_)
        · have cn9 := of_decide_eq_true cn9
          rw [List.length_append] at cn9
          refine ⟨_, rfl, _, rfl, _, rfl, ?_⟩
          have lq : (fs.map FrD.pair ++ gs.map FrD.pair).length = fs.length + gs.length := by simp
          refine bin_add (l := fs.map FrD.pair ++ gs.map FrD.pair) e ((oO.same sA).same sn8) (.inr ((uO.same sA).same sn8)) few9 few23 (by rw [e11, e25]) (fun m => absurd m (by omega)) fun m ph hs Hh eh sh ah => ?_
          have lhs : hs.length ≤ 60 := by have := congrArg List.length eh; rw [List.length_map] at this; omega
          refine ⟨_, rfl, ?_⟩
          refine ⟨ph, hs, rfl, ah, (by omega), fun a9 gs9' H9 g9 s9 n9 ea9 pa9 => ?_⟩
          have sZ := (sn8.trans sh).trans s9
          have d9 := dp_pairs (K := K) pa9
          rw [g9, eh] at d9
          refine ⟨_, rfl, _, rfl, _, _, _, _, rfl, rfl, (sZ _ _ aA), (sZ _ _ bA2), (fit (by omega)), fun pn4 nn5 => ?_⟩
          generalize gn6 : upd H9 pn4 (HO.lst (framesV fs ++ framesV gs)) = Hn6
          obtain ⟨sn9, en8⟩ := gen_new gn6 nn5
          clear gn6
          rw [fr_app] at en8
          have sY := sZ.trans sn9
          have dr := dp_pairs (K := K) (prs_app ((pfO.same sA).same sY) ((pgO.same sA).same sY))
          rw [List.map_append] at dr
          have okA2 : ∀ x ∈ fs.map FrD.pair ++ gs.map FrD.pair, FrOk x.1 x.2 := fun x hx => (List.mem_append.mp hx).elim (okfs x) (okgs x)
          have shA := shaped_pairs okA2
          refine ⟨_, _, (.lst (SqL.of (sn9 _ _ ea9)) (dpAll_ext (extS sn9) d9)), (.lst (SqL.of en8) dr), shA, shA, _, rfl, ?_⟩
          show @ite _ _ (_) _ _
          refine ite_no (by rw [eqv_prs okA2]; exact Bool.false_ne_true) ?_
          exact ⟨_, rfl, sY⟩
        · have cn9 := of_dec cn9
          exact ⟨_, rfl, sn8⟩
      · rintro σ' HB ⟨x8, rfl, sB⟩
        have sAB := sA.trans sB
        refine ⟨_, rfl, ?_⟩
        refine ⟨p8, gs9, rfl, oO.same sAB, (by omega), fun a9 gs9' H9 g9 s9 n9 ea9 pa9 => ?_⟩
        have d9 := dp_pairs (K := K) pa9
        rw [g9, e11] at d9
        have sZ := sAB.trans s9
        have shf := shaped_pairs okfs
        have shg := shaped_pairs okgs
        refine ⟨_, rfl, _, _, (.lst (SqL.of ea9) d9), (.lst (SqL.of (sZ _ _ aO)) (dp_pairs (pfO.same sZ))), shf, shf, _, rfl, ?_⟩
        show @ite _ _ (_) _ _
        refine ite_yes (eqv_prs okfs) ?_
        refine ⟨_, rfl, ?_⟩
        refine ⟨p22, gs23, rfl, uO.same sZ, (by omega), fun a8 gs8 H8 g8 s8 n8 ea8 pa8 => ?_⟩
        have d8 := dp_pairs (K := K) pa8
        rw [g8, e25] at d8
        have sV := sZ.trans s8
        refine ⟨_, rfl, _, _, (.lst (SqL.of ea8) d8), (.lst (SqL.of (sV _ _ bO)) (dp_pairs (pgO.same sV))), shg, shg, ?_⟩
        rw [eqv_prs okgs]
        exact k H8 _ _ (btO.trans (ButT.ofS sV)) (PO.same sV) (by omega) (TO.ext sV)
theorem d_law_joined_right (e : Ev K mg base) : DefG P w K mg base 10 "_law_joined_right" ["pen", "pairs", "others"] (spJoinR K) := by
  obtain ⟨fd, F⟩ := e.c.def_ 40 (d := dd "_law_joined_right" 36) rfl
  exact ⟨⟨fd, ok_law_joined_right F e, FunD.bindsN F fun _ _ _ _ _ _ us hl => match us, hl with | [_, _, _], _ => rfl⟩, F.kp, He.glo_ok e.X e.G (e.c.fact 71 rfl)⟩
def times7 : List Nat := [0, 1, 2, 3, 6, 7, 20, 60, 61, 10 ^ 30]
theorem times7_le : ∀ n ∈ times7, n ≤ 10 ^ 30 := by decide
def spTimesR (K : PySem.W.Frag) : Sp := fun vs H Q _ => ∃ (p a : Addr) (fs : List FrD), vs = [.ref p, .ref a] ∧ H a = some (.lst (framesV fs)) ∧ PrsAt H fs ∧ NeOk fs ∧ fs.length ≤ 60 ∧ LamX.Tabs (lamT K) H ∧
  ∀ (H' : Hp), LamX.ExtN H H' → LamX.Tabs (lamT K) H' → Q (.bl true) H'
theorem sc_law_times_right : FnScope ["pen", "pairs", "one", "many", "due", "held"] ["pen", "pairs"] (defScope (top 37)) := ⟨rfl, rfl, rfl, by decide +kernel, rfl, by decide +kernel, by decide +kernel⟩
theorem ok_law_times_right {fd : FuncData} (F : FunD K "_law_times_right" "_law_times_right" (defArgs (top 37)) (defBody (top 37)) (defScope (top 37)) [] [] (He.ga K "_law_times_right") fd) (e : Ev K mg base) : FnG P w K mg base CX0 10 (He.ga K "_law_times_right") fd ["pen", "pairs"] (spTimesR K) := by
  refine okGC (p := ("_law_times_right", none)) rfl F sc_law_times_right (fun vs H Q E h => ?_) (fun A outer s H vs Q E hgu hr h => ?_)
  · obtain ⟨_, _, _, rfl, _⟩ := h
    rfl
  · skip
    refine ⟨_, PSs.nox ((pss_cons (ps_set (i := 2) sc_law_times_right.nd rfl (Or.inr rfl) (pe_def (d_law_made (P := P) (w := w) (K := K) (mg := mg) (base := base) e) (hr.mono (by decide)) (by rfl) (pa_cons (pv 1) pa_nil)))
      (pss_cons (ps_for PassesOwn.never rfl (kpi_list (K := K) (pe_lst (pa_cons pe_int (pa_cons pe_int (pa_cons pe_int (pa_cons pe_int (pa_cons pe_int (pa_cons pe_int (pa_cons pe_int (pa_cons pe_int (pa_cons pe_int (pa_cons (pe_op op_pow pe_int pe_int) pa_nil)))))))))))) (pg_name (i := 3) sc_law_times_right.nd rfl (Or.inr rfl))
      (pss_cons (ps_set (i := 4) sc_law_times_right.nd rfl (Or.inl rfl) (pe_lst pa_nil))
      (C8.pss_cut (ps_if (pt_cmpR op_gt (pe_op op_mul (pe_callB (kcall_len_seq (K := K)) (by rfl) (f_len e) (by decide +kernel) (pa_cons (pv 1) pa_nil)) (pv 3)) pe_int (nomark _))
      (pss_one (ps_set (i := 4) sc_law_times_right.nd rfl (Or.inl rfl) (pe_tup (pa_cons pe_str (pa_cons pe_str (pa_cons pe_int pa_nil)))))) (pss_one (ps_if (pt_cmpR (kop_neD (K := K) hr.units) (pv 1) (pe_lst pa_nil) (nomark _))
      (pss_one (ps_set (i := 4) sc_law_times_right.nd rfl (Or.inl rfl) (pe_op op_rep (pv 1) (pv 3)))) pss_nil)))
      (pss_one (ps_if (pt_cmpR (kop_neD (K := K) hr.units) (pe_heardMul e (p := ("_law_times_right", none)) (T := lamT K) (by exact lamT_one e (.inr (.inl rfl))) (by simp [tf]) rfl hgu (hr.mono (by decide)) rfl (by exact LamX.lamS_by (sc := defScope (top 37)) (by decide +kernel)) rfl (fun _ _ _ _ _ => rfl) (by exact fun _ _ _ _ _ _ _ hr2 => (pv 2)) (by exact fun _ _ _ _ _ _ _ hr2 => (pv 3))) (pv 4) (nomark _))
      (pss_one (ps_ret pe_bl)) pss_nil)))))
      (pss_cons (ps_set (i := 5) sc_law_times_right.nd rfl (Or.inl rfl) (pv 2))
      (pss_cons (ps_aug (i := 5) sc_law_times_right.nd rfl (Or.inl rfl) pe_int (pipMul e (hr.mono (by decide)) passNo))
      (pss_one (ps_ret (pe_and (pe_cmpR (kop_eqD (K := K) hr.units) (pe_def (d_law_shown (P := P) (w := w) (K := K) (mg := mg) (base := base) e) (hr.mono (by decide)) (by rfl) (pa_cons (pv 5) pa_nil)) (pe_lst pa_nil) (nomark _)) (pe_one (pe_cmpR (kop_eqD (K := K) hr.units) (pe_def (d_law_shown (P := P) (w := w) (K := K) (mg := mg) (base := base) e) (hr.mono (by decide)) (by rfl) (pa_cons (pv 2) pa_nil)) (pv 1) (nomark _))))))))))), ?_⟩
    obtain ⟨p, a, fs, rfl, ha, hf, ok, few, T0, k⟩ := h
    refine ⟨_, rfl, _, _, rfl, ha, hf, ok, few, fun p8 gs9 H10 e11 s12 n13 h14 => ?_⟩
    refine ⟨_, _, rfl, rfl, ⟨(by omega), ⟨(by omega), (by omega)⟩⟩, (fit (by simp)), fun p17 n18 => ?_⟩
    generalize g20 : upd H10 p17 (HO.lst [V.int (0 : Int), V.int (1 : Int), V.int (2 : Int), V.int (3 : Int), V.int (6 : Int), V.int (7 : Int), V.int (20 : Int), V.int (60 : Int), V.int (61 : Int), (fun i j => V.int (i ^ j.toNat)) (10 : Int) (30 : Int)]) = H19
    obtain ⟨s22, e21⟩ := gen_new g20 n18
    clear g20
    have e21 : H19 p17 = some (HO.lst (times7.map fun n : Nat => V.int n)) := e21
    have sH : Same H H19 := s12.trans s22
    have h19 : HistAt K H19 p8 gs9 := h14.same s22
    have a19 := sH _ _ ha
    have hf19 := hf.same sH
    have okp : ∀ q ∈ fs.map FrD.pair, FrOk q.1 q.2 := fun q hq => by
      obtain ⟨f, hfm, rfl⟩ := List.mem_map.mp hq
      exact (hf f hfm).2
    have lg : gs9.length = fs.length := by have := congrArg List.length e11; simpa using this
    have lh : ((framesV fs).length : Int) = (fs.length : Nat) := by rw [framesV_len]
    refine ⟨_, rfl, ⟨_, (SqL.of e21)⟩, ?_⟩
    refine for_list (xs := times7.map fun n : Nat => V.int n) (fun i σ H' => ∃ x3 x4 x5 : Option V, σ = [some (.ref p), some (.ref a), some (.ref p8), x3, x4, x5] ∧ LamX.ExtN H19 H' ∧ LamX.Tabs (lamT K) H') ⟨_, _, _, rfl, LamX.ExtN.refl _, T0.ext sH⟩ (fun i σ H' hi w => by
      obtain ⟨x3, x4, x5, rfl, e, _⟩ := w
      exact SqL.of (e _ _ e21 nofun)) ?_ ?_
    · rintro i y σ H30 hy ⟨x3, x4, x5, rfl, e30, T30⟩
      rw [List.getElem?_map] at hy
      obtain ⟨n, hn, rfl⟩ := Option.map_eq_some_iff.mp hy
      have hn : n ≤ 10 ^ 30 := times7_le n (List.mem_of_getElem? hn)
      have a30 := e30 _ _ a19 nofun
      have hf30 : PrsAt H30 fs := fun f h => ⟨e30 _ _ (hf19 f h).1 nofun, (hf19 f h).2⟩
      have h30 := h19.ext e30
      refine ⟨(fit (by simp)), fun pb3 nb4 => ?_⟩
      generalize gb6 : upd H30 pb3 (HO.lst []) = Hb5
      obtain ⟨sb8, eb7⟩ := gen_new gb6 nb4
      clear gb6
      refine ⟨fun σ' H' => ∃ v, σ' = [some (.ref p), some (.ref a), some (.ref p8), some (.int n), some v, x5] ∧ Same Hb5 H' ∧ Dp K H' v (resD (List.replicate (if fs.map FrD.pair = [] then 0 else n) (fs.map FrD.pair)).flatten), ?_, ?_⟩
      · have lr : (List.replicate (if fs.map FrD.pair = [] then 0 else n) (fs.map FrD.pair)).flatten.length = fs.length * n := by
          by_cases em : fs.map FrD.pair = []
          · have : fs = [] := by simpa using em
            rw [if_pos em, this]; simp
          · rw [if_neg em]; simp [Nat.mul_comm]
        have mc : ((fs.length : Nat) : Int) * (n : Nat) = ((fs.length * n : Nat) : Int) := by simp
        refine ⟨_, rfl, _, _, rfl, (.inl (SqL.of (sb8 _ _ a30))), _, rfl, _, _, rfl, rfl, (.inl ⟨(by omega), (by omega)⟩), _, _, rfl, rfl, _, rfl, ?_⟩
        show @ite _ _ (_) _ _
        refine ite2 (fun cb11 => ?_) (fun cb11 => ?_)
        · have cb11 := of_decide_eq_true cb11
          rw [lh, mc] at cb11
          refine ⟨(fit (by simp)), fun pb14 nb15 => ?_⟩
          generalize gb17 : upd Hb5 pb14 (HO.tup [V.str (Str.ofString "many"), V.str (Str.ofString "frames"), V.int (60 : Int)]) = Hb16
          obtain ⟨sb19, eb18⟩ := gen_new gb17 nb15
          clear gb17
          refine ⟨_, rfl, sb19, ?_⟩
          unfold resD
          rw [if_neg (by omega)]
          exact many_dp eb18
        · have cb11 := of_dec cb11
          rw [lh, mc] at cb11
          refine ⟨_, rfl, (fit (by simp)), fun pb112 nb113 => ?_⟩
          generalize gb115 : upd Hb5 pb112 (HO.lst []) = Hb114
          obtain ⟨sb117, eb116⟩ := gen_new gb115 nb113
          clear gb115
          have s14 := sb8.trans sb117
          have a14 := s14 _ _ a30
          have rD : resD (List.replicate (if fs.map FrD.pair = [] then 0 else n) (fs.map FrD.pair)).flatten = .list ((List.replicate (if fs.map FrD.pair = [] then 0 else n) (fs.map FrD.pair)).flatten.map pairD) := by unfold resD; rw [if_pos (by omega)]
          rw [rD]
          refine ⟨_, _, (.lst (SqL.of a14) (dp_pairs (hf30.same s14))), (.lst (SqL.of eb116) .nil), shaped_pairs okp, rfl, _, rfl, ?_⟩
          show @ite _ _ (_) _ _
          rw [eqv_list_nil]
          refine ite2 (fun cb11 => ?_) (fun cb11 => ?_)
          · have em : ¬ fs.map FrD.pair = [] := by simpa using cb11
            have lp : 1 ≤ fs.length := by cases fs with
              | nil => exact absurd rfl em
              | cons a r => simp
            have n60 : n ≤ 60 := Nat.le_trans (Nat.le_mul_of_pos_left n lp) (by omega)
            refine ⟨_, rfl, _, rfl, _, _, _, rfl, rfl, a14, (by omega), (by omega), (by rw [framesV_len, show ((n : Int)).toNat = n from rfl]; exact fit (by omega)), fun pb14 nb15 => ?_⟩
            generalize gb17 : upd Hb114 pb14 (HO.lst (List.replicate (↑n : Int).toNat (framesV fs)).flatten) = Hb16
            obtain ⟨sb19, eb18⟩ := gen_new gb17 nb15
            clear gb17
            refine ⟨_, rfl, (sb117.trans sb19), ?_⟩
            rw [if_neg em]
            have e2 : (List.replicate (n : Int).toNat (framesV fs)).flatten = framesV (List.replicate n fs).flatten := by
              unfold framesV
              rw [List.map_flatten, List.map_replicate]
              rfl
            have e3 : (List.replicate n (fs.map FrD.pair)).flatten = (List.replicate n fs).flatten.map FrD.pair := by rw [List.map_flatten, List.map_replicate]
            rw [e2] at eb18
            rw [e3]
            refine .lst (SqL.of eb18) (dp_pairs fun f hfm => ?_)
            obtain ⟨l, hl, hfm⟩ := List.mem_flatten.mp hfm
            rw [(List.mem_replicate.mp hl).2] at hfm
            exact ((hf30.same s14).same sb19) f hfm
          · have em : fs.map FrD.pair = [] := by simpa using cb11
            refine ⟨_, rfl, sb117, ?_⟩
            rw [if_pos em]
            exact .lst (SqL.of (sb117 _ _ eb7)) .nil
      · rintro σ' H40 ⟨v, rfl, s40, dv⟩
        have sA := sb8.trans s40
        refine told_res (l := (List.replicate (if fs.map FrD.pair = [] then 0 else n) (fs.map FrD.pair)).flatten) (T30.ext sA) (fun E H2 Q0 e2 hm hk => ?_) fun w H50 e50 T50 _ dw => ?_
        · have h2 : HistAt K H2 p8 gs9 := (h30.ext (extS sA)).ext e2
          have lq : (List.replicate (if fs.map FrD.pair = [] then 0 else n) (fs.map FrD.pair)).flatten.length = gs9.length * n := by
            rw [lg]
            by_cases em : fs.map FrD.pair = []
            · have : fs = [] := by simpa using em
              rw [if_pos em, this]; simp
            · rw [if_neg em]; simp [Nat.mul_comm]
          obtain ⟨dx8, t8, u8, hs8, h81, _⟩ := id h2
          refine ⟨_, rfl, _, rfl, ?_⟩
          refine ⟨p8, dx8, _, rfl, h81, right_int (op_History_mul e), ?_⟩
          refine ⟨p8, gs9, n, rfl, h2, (by omega), hn, (fun m d H' s' n' h' => hm (by omega) d H' s' n' h'), fun m p40 H40 s40 n40 h40 => ⟨_, rfl, hk (by omega) p40 _ H40 ?_ s40 h40⟩⟩
          have e3 : ∀ m, (List.replicate m gs9).flatten.map FrD.pair = (List.replicate m (fs.map FrD.pair)).flatten := fun m => by rw [List.map_flatten, List.map_replicate, e11]
          rw [e3]
          have : (gs9 = []) = (fs.map FrD.pair = []) := by
            rw [← e11]; simp
          simp only [this]
        · have okr : ∀ q ∈ (List.replicate (if fs.map FrD.pair = [] then 0 else n) (fs.map FrD.pair)).flatten, FrOk q.1 q.2 := fun q hq => by
            obtain ⟨l, hl, hq⟩ := List.mem_flatten.mp hq
            rw [(List.mem_replicate.mp hl).2] at hq
            exact okp q hq
          have li := lit_res okr
          have sh := li.shaped
          refine ⟨_, rfl, _, _, dw, (dp_ext e50 dv), sh, sh, _, rfl, ?_⟩
          show @ite _ _ (_) _ _
          refine ite_no (by rw [SeqAt.eqv_refl _ li.c]; exact Bool.false_ne_true) ?_
          exact ⟨_, _, _, rfl, (e30.trans (extS sA)).trans e50, T50⟩
    · rintro σ H30 ⟨x3, x4, x5, rfl, e30, T30⟩
      have a30 := e30 _ _ a19 nofun
      have hf30 : PrsAt H30 fs := fun f h => ⟨e30 _ _ (hf19 f h).1 nofun, (hf19 f h).2⟩
      have h30 := h19.ext e30
      obtain ⟨dx8, t8, u8, hs8, h81, _⟩ := id h30
      refine ⟨_, rfl, _, rfl, ?_⟩
      refine ⟨p8, dx8, _, rfl, h81, right_int (op_History_mul e), ?_⟩
      refine ⟨p8, gs9, 0, rfl, h30, (by omega), (by omega), (fun m => absurd m (by simp)), fun _ p40 H40 s40 n40 h40 => ?_⟩
      refine ⟨_, rfl, ?_⟩
      refine ⟨_, rfl, ?_⟩
      refine ⟨p40, _, rfl, h40, (by simp), fun a5 gs5 H5 g5 s5 n5 e5 q5 => ?_⟩
      have g0 : gs5 = [] := by
        have := congrArg List.length g5
        simpa using this
      rw [g0] at e5
      refine ⟨(fit (by simp)), fun pe3 ne4 => ?_⟩
      generalize ge6 : upd H5 pe3 (HO.lst []) = He5
      obtain ⟨se8, ee7⟩ := gen_new ge6 ne4
      clear ge6
      have sE := (s40.trans s5).trans se8
      have hE : HistAt K He5 p8 gs9 := h30.same sE
      refine ⟨_, _, (.lst (SqL.of (se8 _ _ e5)) .nil), (.lst (SqL.of ee7) .nil), rfl, rfl, _, rfl, ?_⟩
      show @ite _ _ (_) _ _
      refine ite_yes (by decide +kernel) ?_
      refine ⟨_, rfl, ?_⟩
      refine ⟨p8, gs9, rfl, hE, (by omega), fun a6 gs6 H6 g6 s6 n6 e6 q6 => ?_⟩
      have d6 := dp_pairs (K := K) q6
      rw [g6, e11] at d6
      have sF := sE.trans s6
      have sh := shaped_pairs okp
      refine ⟨_, rfl, _, _, (.lst (SqL.of e6) d6), (.lst (SqL.of (sF _ _ a30)) (dp_pairs (hf30.same sF))), sh, sh, ?_⟩
      rw [eqv_prs okp]
      exact k H6 ((LamX.ExtN.trans (extS sH) e30).trans (extS sF)) (T30.ext sF)
theorem d_law_times_right (e : Ev K mg base) : DefG P w K mg base 10 "_law_times_right" ["pen", "pairs"] (spTimesR K) := by
  obtain ⟨fd, F⟩ := e.c.def_ 41 (d := dd "_law_times_right" 37) rfl
  exact ⟨⟨fd, ok_law_times_right F e, FunD.bindsN F fun _ _ _ _ _ _ us hl => match us, hl with | [_, _], _ => rfl⟩, F.kp, He.glo_ok e.X e.G (e.c.fact 72 rfl)⟩
theorem IntOr.ext {K : PySem.W.Frag} {H H' : Hp} {v : V} (s : LamX.ExtN H H') (h : IntOr K H v) : IntOr K H' v := h.imp id fun h => h.imp id fun ⟨t, ty, kt⟩ => ⟨t, tyX_ext s ty, kt⟩
theorem HistAt.butT {K : PySem.W.Frag} {H H' : Hp} {p c x : Addr} {ms : List Int} {t : Nat} {z : Int} {fs : List FrD} (h : HistAt K H x fs) (P : Pen H p c ms t z) (b : ButT p H H') : HistAt K H' x fs :=
  let ⟨dx, t, u, hs, h1, h2, h3, h4, h5⟩ := h
  ⟨dx, t, u, hs, b _ _ (ne_of h1 P.a nofun) h1 nofun, b _ _ (ne_of h2 P.a nofun) h2 nofun, b _ _ (ne_of h3 P.a nofun) h3 nofun, h4, fun f hf => let ⟨fo, d, ef⟩ := h5 f hf; ⟨fo, d, b _ _ (ne_of ef P.a nofun) ef nofun⟩⟩
theorem lay_idx {x : Str} {ok : Option (List (Str × Option Str))} (hx : PyData.strOk x = true) (h : ∀ l, ok = some l → ∀ p ∈ l, FrOk p.1 p.2) : (idxD x ok).canLay0 = true ∧ SeqAt.shaped (idxD x ok) = true := by
  cases ok with
  | none =>
    have h2 : PyData.strOk "index" = true := by decide +kernel
    have c : (idxD x none).canLay0 = true := by simp [idxD, PyData.canLay0, PyData.canLayAll0, hx, h2]
    refine ⟨c, ?_⟩
    unfold SeqAt.shaped
    rw [c]
    simp [idxD, PyData.depth, PyData.depthAll]
  | some l => exact ⟨by simp [idxD, PyData.canLay0, (lay_pairs (h l rfl)).1], shaped_pairs (h l rfl)⟩
theorem hidx_of {K : PySem.W.Frag} {H2 : Hp} {x : Addr} {v : V} {gs : List FrD} {bd n : Int} {res : Nat → List FrD → List FrD} {ok : Option (List (Str × Option Str))} {E : XK} {Q0 : VK} (h : HistAt K H2 x gs) (few : gs.length ≤ 60) (iv : IntOr K H2 v) (en : (gs.length : Int) + bd = n) (eo : ok = (idxOf v n).map fun k => (res k gs).map FrD.pair)
    (hm : ok = none → ∀ d H', Same H2 H' → H2 d = none → H' d = some (.xd [("value", v)]) → E (.ref (He.ga K "BadIndex")) (some d) H') (hk : ∀ l, ok = some l → ∀ p fs H', fs.map FrD.pair = l → Same H2 H' → HistAt K H' p fs → Q0 (.ref p) H') :
    spHidx K bd res [.ref x, v] H2 Q0 E :=
  ⟨x, v, gs, rfl, h, few, iv, fun e d H' s n hx => hm (by rw [eo, ← en, e]; rfl) d H' s n hx, fun k e p H' s n ha => hk ((res k gs).map FrD.pair) (by rw [eo, ← en, e]; rfl) p _ H' rfl s ha⟩
theorem swap_pairs {fs gs : List FrD} (e : gs.map FrD.pair = fs.map FrD.pair) (k : Nat) : (swapF k gs).map FrD.pair = (swapF k fs).map FrD.pair := by
  have key : ∀ l : List FrD, (swapF k l).map FrD.pair = match (l.map FrD.pair)[k]?, (l.map FrD.pair)[k + 1]? with | some a, some b => ((l.map FrD.pair).set k b).set (k + 1) a | _, _ => l.map FrD.pair := by
    intro l
    unfold swapF
    rw [List.getElem?_map, List.getElem?_map]
    cases l[k]? <;> cases l[k + 1]? <;> simp [List.map_set]
  rw [key, key, e]
theorem swap_cut {fs : List FrD} {k : Nat} {a b : FrD} (ha : fs[k]? = some a) (hb : fs[k + 1]? = some b) : swapF k fs = fs.take k ++ [b, a] ++ fs.drop (k + 2) := by
  unfold swapF
  rw [ha, hb]
  show (fs.set k b).set (k + 1) a = _
  obtain ⟨h1, e1⟩ := List.getElem?_eq_some_iff.mp ha
  obtain ⟨h2, e2⟩ := List.getElem?_eq_some_iff.mp hb
  obtain ⟨P, S, rfl, hk⟩ : ∃ P S, fs = P ++ a :: b :: S ∧ P.length = k := ⟨fs.take k, fs.drop (k + 2), by rw [← e1, ← e2, ← List.drop_eq_getElem_cons h2, ← List.drop_eq_getElem_cons h1, List.take_append_drop], by rw [List.length_take]; omega⟩
  subst hk
  simp [List.set_append]
theorem dp_idx_but {K : PySem.W.Frag} {H H' : Hp} {q : Addr} {ls : List V} {v : V} {z : Str} {ok : Option (List (Str × Option Str))} (hq : H q = some (.lst ls)) (b : But q H H') (nv : v ≠ .ref q) (h : Dp K H v (idxD z ok)) : Dp K H' v (idxD z ok) := by
  cases ok with
  | none =>
    unfold idxD at h ⊢
    cases h with
    | tup hs ha =>
      refine .tup (sqT_but hq b hs) ?_
      cases ha with
      | cons h1 h2 =>
        cases h1
        cases h2 with
        | cons h3 h4 =>
          cases h3
          cases h4
          exact .cons (.str _) (.cons (.str _) .nil)
  | some l =>
    unfold idxD at h ⊢
    cases h with
    | lst hs ha =>
      refine .lst ?_ (dp_pairs_but hq b ha)
      rcases hs with (e | ⟨o, e⟩) | h
      · exact .inl (.inl (b _ _ (fun z => nv (by rw [z])) e))
      · exact .inl (.inr ⟨o, b _ _ (fun z => nv (by rw [z])) e⟩)
      · exact .inr h
theorem lit_idx0 {ok : Option (List (Str × Option Str))} (h : ∀ l, ok = some l → l.length ≤ 60 ∧ ∀ p ∈ l, FrOk p.1 p.2) : Lit 20000 2 (idxD "0" ok) := by
  cases ok with
  | none => exact (Lit.tup (.cons (.word (n := 10) (word_of (by decide +kernel))) (.cons (.word (n := 10) (word_of (by decide +kernel))) .nil))).mono (by decide) (by decide)
  | some l => exact Lit.pairs (h l rfl).2 (by have := (h l rfl).1; omega)
def spCutsR (K : PySem.W.Frag) : Sp := fun vs H Q _ => ∃ (p c a : Addr) (ms : List Int) (t : Nat) (z : Int) (fs : List FrD), vs = [.ref p, .ref a] ∧ Pen H p c ms t z ∧ t < 700000 ∧ H a = some (.lst (framesV fs)) ∧ a ≠ p ∧ PrsAt H fs ∧ NeOk fs ∧ fs.length ≤ 60 ∧ LamX.Tabs (lamT K) H ∧
  ∀ (H' : Hp) (t' : Nat) (z' : Int), ButT p H H' → Pen H' p c ms t' z' → t' ≤ t + 9 → LamX.Tabs (lamT K) H' → Q (.bl true) H'
theorem sc_law_cuts_right : FnScope ["pen", "pairs", "one", "turn", "spot", "due", "heard"] ["pen", "pairs"] (defScope (top 40)) := ⟨rfl, rfl, rfl, by decide +kernel, rfl, by decide +kernel, by decide +kernel⟩
theorem ok_law_cuts_right {fd : FuncData} (F : FunD K "_law_cuts_right" "_law_cuts_right" (defArgs (top 40)) (defBody (top 40)) (defScope (top 40)) [] [] (He.ga K "_law_cuts_right") fd) (e : Ev K mg base) : FnG P w K mg base CX0 10 (He.ga K "_law_cuts_right") fd ["pen", "pairs"] (spCutsR K) := by
  refine okGC (p := ("_law_cuts_right", none)) rfl F sc_law_cuts_right (fun vs H Q E h => ?_) (fun A outer s H vs Q E hgu hr h => ?_)
  · obtain ⟨_, _, _, _, _, _, _, rfl, _⟩ := h
    rfl
  · skip
    refine ⟨_, PSs.nox ((pss_cons (ps_set (i := 2) sc_law_cuts_right.nd rfl (Or.inr rfl) (pe_def (d_law_made (P := P) (w := w) (K := K) (mg := mg) (base := base) e) (hr.mono (by decide)) (by rfl) (pa_cons (pv 1) pa_nil)))
      (pss_cons (ps_for PassesOwn.never rfl (pi_range1 (by rfl) (f_range e) (pa_cons pe_int pa_nil)) (pg_name (i := 3) sc_law_cuts_right.nd rfl (Or.inl rfl))
      (pss_cons (ps_set (i := 4) sc_law_cuts_right.nd rfl (Or.inr rfl) (pe_def (d_law_index (P := P) (w := w) (K := K) (mg := mg) (base := base) e) (hr.mono (by decide)) (by rfl) (pa_cons (pv 0) (pa_cons (pe_callB (kcall_len_seq (K := K)) (by rfl) (f_len e) (by decide +kernel) (pa_cons (pv 1) pa_nil)) pa_nil))))
      (pss_cons (ps_set (i := 5) sc_law_cuts_right.nd rfl (Or.inl rfl) (pe_tup (pa_cons pe_str (pa_cons (pe_callB (kcall_reprX (K := K) hgu (u70 hr)) (by rfl) (f_repr e) (by decide +kernel) (pa_cons (pv 4) pa_nil)) pa_nil))))
      (C8.pss_cut (ps_if (pt_val (pe_def (d_law_is_index (P := P) (w := w) (K := K) (mg := mg) (base := base) e) (hr.mono (by decide)) (by rfl) (pa_cons (pv 4) (pa_cons (pe_callB (kcall_len_seq (K := K)) (by rfl) (f_len e) (by decide +kernel) (pa_cons (pv 1) pa_nil)) pa_nil))))
      (pss_one (ps_set (i := 5) sc_law_cuts_right.nd rfl (Or.inl rfl) (pe_op op_cat (pe_slice (ksl_list (K := K)) (pv 1) po_none (po_some (pv 4))) (pe_slice (ksl_list (K := K)) (pv 1) (po_some (pe_op op_add (pv 4) pe_int)) po_none)))) pss_nil)
      (pss_cons (ps_if (pt_cmpR (kop_neD (K := K) hr.units) (pe_heardMt e (db_History_without e) (me_History_without e) (p := ("_law_cuts_right", none)) (T := lamT K) (by exact lamT_one e (.inr (.inr rfl))) (by simp [tf]) rfl hgu (hr.mono (by decide)) rfl (by exact LamX.lamS_by (sc := defScope (top 40)) (by decide +kernel)) rfl (fun _ _ _ _ _ => rfl) (fun _ => rfl) (fun _ => rfl) (fun _ => ⟨_, rfl⟩) (by exact fun _ _ _ _ _ _ _ => (pv 2)) (by exact fun _ _ _ _ _ _ _ => pa_cons (pv 4) pa_nil)) (pv 5) (nomark _))
      (pss_one (ps_ret pe_bl)) pss_nil)
      (pss_cons (ps_set (i := 5) sc_law_cuts_right.nd rfl (Or.inl rfl) (pe_tup (pa_cons pe_str (pa_cons (pe_callB (kcall_reprX (K := K) hgu (u70 hr)) (by rfl) (f_repr e) (by decide +kernel) (pa_cons (pv 4) pa_nil)) pa_nil))))
      (C8.pss_cut (ps_if (pt_val (pe_def (d_law_is_index (P := P) (w := w) (K := K) (mg := mg) (base := base) e) (hr.mono (by decide)) (by rfl) (pa_cons (pv 4) (pa_cons (pe_op op_sub (pe_callB (kcall_len_seq (K := K)) (by rfl) (f_len e) (by decide +kernel) (pa_cons (pv 1) pa_nil)) pe_int) pa_nil))))
      (pss_one (ps_set (i := 5) sc_law_cuts_right.nd rfl (Or.inl rfl) (pe_op op_cat (pe_op op_cat (pe_slice (ksl_list (K := K)) (pv 1) po_none (po_some (pv 4))) (pe_lst (pa_cons (pe_ix (kix_list (K := K)) (pv 1) (pe_op op_add (pv 4) pe_int) (fun _ _ => rfl)) (pa_cons (pe_ix (kix_list (K := K)) (pv 1) (pv 4) (fun _ _ => rfl)) pa_nil)))) (pe_slice (ksl_list (K := K)) (pv 1) (po_some (pe_op op_add (pv 4) pe_int)) po_none)))) pss_nil)
      (pss_cons (ps_if (pt_cmpR (kop_neD (K := K) hr.units) (pe_heardMt e (db_History_swapped e) (me_History_swapped e) (p := ("_law_cuts_right", none)) (T := lamT K) (by exact lamT_one e (.inr (.inr rfl))) (by simp [tf]) rfl hgu (hr.mono (by decide)) rfl (by exact LamX.lamS_by (sc := defScope (top 40)) (by decide +kernel)) rfl (fun _ _ _ _ _ => rfl) (fun _ => rfl) (fun _ => rfl) (fun _ => ⟨_, rfl⟩) (by exact fun _ _ _ _ _ _ _ => (pv 2)) (by exact fun _ _ _ _ _ _ _ => pa_cons (pv 4) pa_nil)) (pv 5) (nomark _))
      (pss_one (ps_ret pe_bl)) pss_nil)
      (pss_cons (ps_set (i := 5) sc_law_cuts_right.nd rfl (Or.inl rfl) (pe_tup (pa_cons pe_str (pa_cons (pe_callB (kcall_reprX (K := K) hgu (u70 hr)) (by rfl) (f_repr e) (by decide +kernel) (pa_cons (pv 4) pa_nil)) pa_nil))))
      (C8.pss_cut (ps_if (pt_val (pe_def (d_law_is_index (P := P) (w := w) (K := K) (mg := mg) (base := base) e) (hr.mono (by decide)) (by rfl) (pa_cons (pv 4) (pa_cons (pe_op op_add (pe_callB (kcall_len_seq (K := K)) (by rfl) (f_len e) (by decide +kernel) (pa_cons (pv 1) pa_nil)) pe_int) pa_nil))))
      (pss_one (ps_set (i := 5) sc_law_cuts_right.nd rfl (Or.inl rfl) (pe_slice (ksl_list (K := K)) (pv 1) po_none (po_some (pv 4))))) pss_nil)
      (pss_one (ps_if (PW.pt (pw_or (pt_cmpR (kop_neD (K := K) hr.units) (pe_heardMt e (db_History_upto e) (me_History_upto e) (p := ("_law_cuts_right", none)) (T := lamT K) (by exact lamT_one e (.inr (.inr rfl))) (by simp [tf]) rfl hgu (hr.mono (by decide)) rfl (by exact LamX.lamS_by (sc := defScope (top 40)) (by decide +kernel)) rfl (fun _ _ _ _ _ => rfl) (fun _ => rfl) (fun _ => rfl) (fun _ => ⟨_, rfl⟩) (by exact fun _ _ _ _ _ _ _ => (pv 2)) (by exact fun _ _ _ _ _ _ _ => pa_cons (pv 4) pa_nil)) (pv 5) (nomark _)) (pw_or1 (pt_cmpR (kop_neD (K := K) hr.units) (pe_def (d_law_shown (P := P) (w := w) (K := K) (mg := mg) (base := base) e) (hr.mono (by decide)) (by rfl) (pa_cons (pv 2) pa_nil)) (pv 1) (nomark _)))))
      (pss_one (ps_ret pe_bl)) pss_nil))))))))))))
      (pss_cons (ps_if (pt_cmpR (kop_eqD (K := K) hr.units) (pv 1) (pe_lst pa_nil) (nomark _))
      (pss_one (ps_ret pe_bl)) pss_nil)
      (pss_cons (ps_set (i := 5) sc_law_cuts_right.nd rfl (Or.inl rfl) (pe_tup (pa_cons pe_str (pa_cons pe_str pa_nil))))
      (C8.pss_cut (ps_if (pt_cmpR op_gt (pe_callB (kcall_len_seq (K := K)) (by rfl) (f_len e) (by decide +kernel) (pa_cons (pv 1) pa_nil)) pe_int (nomark _))
      (pss_one (ps_set (i := 5) sc_law_cuts_right.nd rfl (Or.inl rfl) (pe_op op_cat (pe_lst (pa_cons (pe_ix (kix_list (K := K)) (pv 1) pe_int (fun _ _ => rfl)) (pa_cons (pe_ix (kix_list (K := K)) (pv 1) pe_int (fun _ _ => rfl)) pa_nil))) (pe_slice (ksl_list (K := K)) (pv 1) (po_some pe_int) po_none)))) pss_nil)
      (pss_cons (ps_set (i := 6) sc_law_cuts_right.nd rfl (Or.inl rfl) (pe_lst (pa_cons (pe_def (d_law_shown (P := P) (w := w) (K := K) (mg := mg) (base := base) e) (hr.mono (by decide)) (by rfl) (pa_cons (pe_methB (db_History_without e) (cls_History e) (me_History_without e) (hr.mono (by decide)) passNo (pv 2) (pa_cons pe_int pa_nil)) pa_nil)) pa_nil)))
      (pss_cons (ps_expr (kpe_bm (K := K) PySem.F.plainAttrs_list PySem.F.slot_list_append PySem.F.type_list_append mt_append (pv 6) (pa_cons (pe_heardMt e (db_History_swapped e) (me_History_swapped e) (p := ("_law_cuts_right", none)) (T := lamT K) (by exact lamT_one e (.inr (.inr rfl))) (by simp [tf]) rfl hgu (hr.mono (by decide)) rfl (by exact LamX.lamS_by (sc := defScope (top 40)) (by decide +kernel)) rfl (fun _ _ _ _ _ => rfl) (fun _ => rfl) (fun _ => rfl) (fun _ => ⟨_, rfl⟩) (by exact fun _ _ _ _ _ _ _ => (pv 2)) (by exact fun _ _ _ _ _ _ _ => pa_cons pe_int pa_nil)) pa_nil)))
      (pss_one (ps_ret (pe_cmpR (kop_eqD (K := K) hr.units) (pv 6) (pe_lst (pa_cons (pe_slice (ksl_list (K := K)) (pv 1) (po_some pe_int) po_none) (pa_cons (pv 5) pa_nil))) (nomark _)))))))))))), ?_⟩
    obtain ⟨p, c, a, ms, t, z, fs, rfl, P0, ht, ha, nap, hf, ok, few, T0, k⟩ := h
    refine ⟨_, rfl, _, _, rfl, ha, hf, ok, few, fun p8 gs9 H10 e11 s12 n13 h14 => ?_⟩
    refine ⟨_, rfl, (by omega), (by omega), ?_⟩
    have lf : (framesV fs).length = fs.length := framesV_len _
    have l9 : gs9.length = fs.length := by have := congrArg List.length e11; simpa using this
    have okp : ∀ x ∈ fs.map FrD.pair, FrOk x.1 x.2 := fun x hx => by
      obtain ⟨f, hfm, rfl⟩ := List.mem_map.mp hx
      exact (hf f hfm).2
    have a10 := s12 _ _ ha
    have pf10 := hf.same s12
    have P10 := P0.same s12
    refine for_range (lo := 0) (n := 3) (fun i σ H' => ∃ (t' : Nat) (z' : Int) (x3 x4 x5 x6 : Option V), σ = [some (.ref p), some (.ref a), some (.ref p8), x3, x4, x5, x6] ∧ ButT p H10 H' ∧ Pen H' p c ms t' z' ∧ t' ≤ t + 3 * i ∧ LamX.Tabs (lamT K) H' ∧ HistAt K H' p8 gs9 ∧ H' a = some (.lst (framesV fs)) ∧ PrsAt H' fs) ⟨t, z, _, _, _, _, rfl, ButT.refl, P10, by omega, T0.ext s12, h14, a10, pf10⟩ ?_ ?_
    · rintro i σ H20 hi ⟨t20, z20, x3, x4, x5, x6, rfl, b20, P20, ht20, T20, h20, a20, pf20⟩
      refine ⟨_, rfl, _, rfl, _, _, rfl, (.inl (SqL.of a20)), ?_⟩
      refine ⟨p, c, ms, t20, z20, fs.length, (by rw [lf]; rfl), P20, (by omega), (by omega), fun v x H21 t21 z21 iv rv nvp b21 P21 ht21 => ?_⟩
      have T21 := tabs_but T20 P20 b21
      have bt21 := b20.trans (ButT.of b21)
      have h21 := h20.butT P20 (ButT.of b21)
      have a21 := b21 _ _ nap a20
      have pf21 := pf20.but P20.a b21
      refine ⟨_, rfl, ?_⟩
      dsimp only [tNil]
      refine rv.go ?_
      refine ⟨(fit (by simp)), fun pd nd => ?_⟩
      generalize gd6 : upd H21 pd (HO.tup [V.str "index", V.str x]) = Hd
      obtain ⟨sd8, ed7⟩ := gen_new gd6 nd
      clear gd6
      have ivd := iv.ext (extS sd8)
      have rvd := rv.ext (extS sd8)
      have dT : Dp K Hd (.ref pd) (idxD x none) := .tup (SqT.of ed7) (.cons (.str _) (.cons (.str _) .nil))
      refine ⟨fun σ' H' => ∃ w, σ' = [some (.ref p), some (.ref a), some (.ref p8), some (.int (0 + (i : Int))), some v, some w, x6] ∧ Same Hd H' ∧ Dp K H' w (idxD x ((idxOf v (fs.length : Nat)).map fun k => (fs.take k ++ fs.drop (k + 1)).map FrD.pair)), ?_, ?_⟩
      · refine ⟨_, rfl, _, rfl, _, _, rfl, (.inl (SqL.of (sd8 _ _ a21))), ?_⟩
        refine ⟨v, _, rfl, ivd, ?_⟩
        rw [lf]
        cases ei : idxOf v ((fs.length : Nat) : Int) with
        | none => exact ⟨_, rfl, iteF ⟨_, rfl, Same.refl _, dT⟩⟩
        | some k =>
          obtain ⟨rfl, lk⟩ := idxOf_some ei
          refine ⟨_, rfl, iteT ?_⟩
          have ad := sd8 _ _ a21
          refine ⟨_, rfl, _, rfl, _, rfl, _, _, rfl, (SqL.of ad), fun pb13 nb14 => ?_⟩
          generalize gb16 : upd Hd pb13 (HO.lst (cutV (framesV fs) none (some (↑k : Int)))) = Hb15
          obtain ⟨sb18, eb17⟩ := gen_new gb16 nb14
          clear gb16
          rw [cutV_to _ (by omega)] at eb17
          refine ⟨_, rfl, _, rfl, _, _, rfl, rfl, _, rfl, _, _, rfl, (SqL.of (sb18 _ _ ad)), fun pb111 nb112 => ?_⟩
          generalize gb114 : upd Hb15 pb111 (HO.lst (cutV (framesV fs) (some ((↑k : Int) + (1 : Int))) none)) = Hb113
          obtain ⟨sb116, eb115⟩ := gen_new gb114 nb112
          clear gb114
          rw [cutV_from _ (by omega)] at eb115
          refine ⟨_, _, _, _, rfl, rfl, (sb116 _ _ eb17), eb115, (fit (by rw [List.length_take, List.length_drop]; omega)), fun pb119 nb120 => ?_⟩
          generalize gb122 : upd Hb113 pb119 (HO.lst (List.take (↑k : Int).toNat (framesV fs) ++ List.drop ((↑k : Int) + (1 : Int)).toNat (framesV fs))) = Hb121
          obtain ⟨sb124, eb123⟩ := gen_new gb122 nb120
          clear gb122
          have sQ := (sb18.trans sb116).trans sb124
          refine ⟨_, rfl, sQ, ?_⟩
          have e2 : (framesV fs).take (k : Int).toNat ++ (framesV fs).drop ((k : Int) + 1).toNat = framesV (fs.take k ++ fs.drop (k + 1)) := by
            unfold framesV
            rw [show ((k : Int) + 1).toNat = k + 1 by omega, show ((k : Int)).toNat = k from rfl, List.map_append, List.map_take, List.map_drop]
          rw [e2] at eb123
          exact .lst (SqL.of eb123) (dp_pairs fun f hfm => ((pf21.same sd8).same sQ) f (by
            rcases List.mem_append.mp hfm with h | h
            · exact List.mem_of_mem_take h
            · exact List.mem_of_mem_drop h))
      · rintro σ' H30 ⟨w, rfl, s30, dw⟩
        have hd := (h21.same sd8).same s30
        have fewr : ∀ l, ((idxOf v (fs.length : Nat)).map fun k => (fs.take k ++ fs.drop (k + 1)).map FrD.pair) = some l → l.length ≤ 60 := fun l hl => by
          obtain ⟨k, _, rfl⟩ := Option.map_eq_some_iff.mp hl
          rw [List.length_map, List.length_append, List.length_take, List.length_drop]; omega
        refine told_idx ((T21.ext sd8).ext s30) (rvd.ext (extS s30)) fewr (fun E H2 Q0 e2 hm hk => ?_) fun w2 H40 e40 T40 _ dw2 => ?_
        · have hd2 := hd.ext e2
          obtain ⟨dx, t, u, hs, g1, _⟩ := id hd2
          refine ⟨_, rfl, _, _, _, rfl, g1, rfl, _, rfl, ?_⟩
          exact hidx_of hd2 (by omega) (ivd.ext ((extS s30).trans e2)) (n := (fs.length : Nat)) (by rw [l9]; omega) (by congr 1; funext k; rw [List.map_append, List.map_append, List.map_take, List.map_drop, List.map_take, List.map_drop, e11]) hm hk
        · have okr : ∀ l, ((idxOf v (fs.length : Nat)).map fun k => (fs.take k ++ fs.drop (k + 1)).map FrD.pair) = some l → ∀ q ∈ l, FrOk q.1 q.2 := fun l hl q hq => by
            obtain ⟨k, _, rfl⟩ := Option.map_eq_some_iff.mp hl
            refine okp q ?_
            rw [List.map_append, List.map_take, List.map_drop] at hq
            rcases List.mem_append.mp hq with h | h
            · exact List.mem_of_mem_take h
            · exact List.mem_of_mem_drop h
          obtain ⟨cl, sh⟩ := lay_idx rv.2.1 okr
          refine ⟨_, rfl, _, _, dw2, (dp_ext e40 dw), sh, sh, _, rfl, ?_⟩
          show @ite _ _ (_) _ _
          refine ite_no (by rw [SeqAt.eqv_refl _ cl]; exact Bool.false_ne_true) ?_
          refine ⟨_, rfl, ?_⟩
          dsimp only [tNil]
          have rvA := (rvd.ext (extS s30)).ext e40
          have ivA := ivd.ext ((extS s30).trans e40)
          have hA := hd.ext e40
          have aA : H40 a = some (.lst (framesV fs)) := e40 _ _ (s30 _ _ (sd8 _ _ a21)) nofun
          have pfA : PrsAt H40 fs := fun f hf => ⟨e40 _ _ (s30 _ _ (sd8 _ _ (pf21 f hf).1)) nofun, (pf21 f hf).2⟩
          refine rvA.go ?_
          refine ⟨(fit (by simp)), fun pdA ndA => ?_⟩
          generalize gd6 : upd H40 pdA (HO.tup [V.str "index", V.str x]) = HdA
          obtain ⟨sdA, edA⟩ := gen_new gd6 ndA
          clear gd6
          have ivdA := ivA.ext (extS sdA)
          have rvdA := rvA.ext (extS sdA)
          have dTA : Dp K HdA (.ref pdA) (idxD x none) := .tup (SqT.of edA) (.cons (.str _) (.cons (.str _) .nil))
          refine ⟨fun σ' H' => ∃ w, σ' = [some (.ref p), some (.ref a), some (.ref p8), some (.int (0 + (i : Int))), some v, some w, x6] ∧ Same HdA H' ∧ Dp K H' w (idxD x ((idxOf v ((fs.length : Int) - 1)).map fun k => (swapF k fs).map FrD.pair)), ?_, ?_⟩
          · refine ⟨_, rfl, _, rfl, _, _, rfl, (.inl (SqL.of (sdA _ _ aA))), _, _, rfl, rfl, ?_⟩
            refine ⟨v, _, rfl, ivdA, ?_⟩
            rw [lf]
            cases ei : idxOf v ((fs.length : Nat) - 1 : Int) with
            | none => exact ⟨_, rfl, iteF ⟨_, rfl, Same.refl _, dTA⟩⟩
            | some k =>
              obtain ⟨rfl, lk⟩ := idxOf_some ei
              refine ⟨_, rfl, iteT ?_⟩
              have ad := sdA _ _ aA
              obtain ⟨fa, hfa⟩ : ∃ a, fs[k]? = some a := ⟨_, List.getElem?_eq_getElem (by omega)⟩
              obtain ⟨fb, hfb⟩ : ∃ b, fs[k + 1]? = some b := ⟨_, List.getElem?_eq_getElem (by omega)⟩
              have at0 : atI (framesV fs) (k : Int) = some (.ref fa.p) := atI_nat (j := k) (by unfold framesV; rw [List.getElem?_map, hfa]; rfl)
              have at1 : atI (framesV fs) ((k : Int) + 1) = some (.ref fb.p) := atI_nat (j := k + 1) (by unfold framesV; rw [List.getElem?_map, hfb]; rfl)
              refine ⟨_, rfl, _, rfl, _, rfl, _, _, rfl, (SqL.of ad), fun pb13 nb14 => ?_⟩
              generalize gb16 : upd HdA pb13 (HO.lst (cutV (framesV fs) none (some (↑k : Int)))) = Hb15
              obtain ⟨sb18, eb17⟩ := gen_new gb16 nb14
              clear gb16
              rw [cutV_to _ (by omega)] at eb17
              refine ⟨_, rfl, _, rfl, _, _, rfl, rfl, _, _, _, _, rfl, rfl, (SqL.of (sb18 _ _ ad)), at1, _, rfl, _, rfl, _, _, _, _, rfl, rfl, (SqL.of (sb18 _ _ ad)), at0, (fit (by simp)), fun pb111 nb112 => ?_⟩
              generalize gb114 : upd Hb15 pb111 (HO.lst [V.ref fb.p, V.ref fa.p]) = Hb113
              obtain ⟨sb116, eb115⟩ := gen_new gb114 nb112
              clear gb114
              refine ⟨_, _, _, _, rfl, rfl, (sb116 _ _ eb17), eb115, (fit (by rw [List.length_take]; simp only [List.length_cons, List.length_nil]; omega)), fun pb119 nb120 => ?_⟩
              generalize gb122 : upd Hb113 pb119 (HO.lst (List.take (↑k : Int).toNat (framesV fs) ++ [V.ref fb.p, V.ref fa.p])) = Hb121
              obtain ⟨sb124, eb123⟩ := gen_new gb122 nb120
              clear gb122
              refine ⟨_, rfl, _, rfl, _, _, rfl, rfl, _, rfl, _, _, rfl, (SqL.of (sb124 _ _ (sb116 _ _ (sb18 _ _ ad)))), fun pb127 nb128 => ?_⟩
              generalize gb130 : upd Hb121 pb127 (HO.lst (cutV (framesV fs) (some ((↑k : Int) + (2 : Int))) none)) = Hb129
              obtain ⟨sb132, eb131⟩ := gen_new gb130 nb128
              clear gb130
              rw [cutV_from _ (by omega)] at eb131
              refine ⟨_, _, _, _, rfl, rfl, (sb132 _ _ eb123), eb131, (fit (by rw [List.length_append, List.length_take, List.length_drop]; simp only [List.length_cons, List.length_nil]; omega)), fun pb135 nb136 => ?_⟩
              generalize gb138 : upd Hb129 pb135 (HO.lst (List.take (↑k : Int).toNat (framesV fs) ++ [V.ref fb.p, V.ref fa.p] ++ List.drop ((↑k : Int) + (2 : Int)).toNat (framesV fs))) = Hb137
              obtain ⟨sb140, eb139⟩ := gen_new gb138 nb136
              clear gb138
              have sQ := (((sb18.trans sb116).trans sb124).trans sb132).trans sb140
              have e2 : (framesV fs).take (k : Int).toNat ++ [V.ref fb.p, V.ref fa.p] ++ (framesV fs).drop ((k : Int) + 2).toNat = framesV (swapF k fs) := by
                rw [swap_cut hfa hfb]
                unfold framesV
                rw [show ((k : Int) + 2).toNat = k + 2 by omega, show ((k : Int)).toNat = k from rfl, List.map_append, List.map_append, List.map_take, List.map_drop]
                rfl
              rw [e2] at eb139
              refine ⟨_, rfl, sQ, .lst (SqL.of eb139) (dp_pairs fun f hfm => ?_)⟩
              have hm : f ∈ fs := by
                rw [swap_cut hfa hfb] at hfm
                rcases List.mem_append.mp hfm with hfm | hfm
                · rcases List.mem_append.mp hfm with hfm | hfm
                  · exact List.mem_of_mem_take hfm
                  · simp only [List.mem_cons, List.not_mem_nil, or_false] at hfm
                    rcases hfm with rfl | rfl
                    · exact List.mem_of_getElem? hfb
                    · exact List.mem_of_getElem? hfa
                · exact List.mem_of_mem_drop hfm
              exact (⟨sQ _ _ (sdA _ _ (pfA f hm).1), (pfA f hm).2⟩ : PrAt Hb137 f)
          · rintro σ' H3A ⟨wA, rfl, s3A, dwA⟩
            have hdA := (hA.same sdA).same s3A
            have fewr : ∀ l, ((idxOf v ((fs.length : Int) - 1)).map fun k => (swapF k fs).map FrD.pair) = some l → l.length ≤ 60 := fun l hl => by
              obtain ⟨k, _, rfl⟩ := Option.map_eq_some_iff.mp hl
              have ls : (swapF k fs).length ≤ 60 := by
                unfold swapF
                split
                · rw [List.length_set, List.length_set]; exact few
                · exact few
              rw [List.length_map]; exact ls
            refine told_idx ((T40.ext sdA).ext s3A) (rvdA.ext (extS s3A)) fewr (fun E H2 Q0 e2 hm hk => ?_) fun w2A H4A e4A T4A _ dw2A => ?_
            · have hd2 := hdA.ext e2
              obtain ⟨dx, t, u, hs, g1, _⟩ := id hd2
              refine ⟨_, rfl, _, _, _, rfl, g1, rfl, _, rfl, ?_⟩
              exact hidx_of hd2 (by omega) (ivdA.ext ((extS s3A).trans e2)) (n := (fs.length : Int) - 1) (by omega) (by congr 1; funext k; exact (swap_pairs e11 k).symm) hm hk
            · have okr : ∀ l, ((idxOf v ((fs.length : Int) - 1)).map fun k => (swapF k fs).map FrD.pair) = some l → ∀ q ∈ l, FrOk q.1 q.2 := fun l hl q hq => by
                obtain ⟨k, _, rfl⟩ := Option.map_eq_some_iff.mp hl
                obtain ⟨f, hf', rfl⟩ := List.mem_map.mp hq
                have hm : f ∈ fs := by
                  unfold swapF at hf'
                  split at hf'
                  · rename_i a9 b9 ha9 hb9
                    rcases List.mem_or_eq_of_mem_set hf' with hf' | rfl
                    · rcases List.mem_or_eq_of_mem_set hf' with hf' | rfl
                      · exact hf'
                      · exact List.mem_of_getElem? hb9
                    · exact List.mem_of_getElem? ha9
                  · exact hf'
                exact okp _ (List.mem_map.mpr ⟨f, hm, rfl⟩)
              obtain ⟨clA, shA⟩ := lay_idx rv.2.1 okr
              refine ⟨_, rfl, _, _, dw2A, (dp_ext e4A dwA), shA, shA, _, rfl, ?_⟩
              show @ite _ _ (_) _ _
              refine ite_no (by rw [SeqAt.eqv_refl _ clA]; exact Bool.false_ne_true) ?_
              refine ⟨_, rfl, ?_⟩
              dsimp only [tNil]
              have rvB := (rvdA.ext (extS s3A)).ext e4A
              have ivB := ivdA.ext ((extS s3A).trans e4A)
              have hB := hdA.ext e4A
              have aB : H4A a = some (.lst (framesV fs)) := e4A _ _ (s3A _ _ (sdA _ _ aA)) nofun
              have pfB : PrsAt H4A fs := fun f hf => ⟨e4A _ _ (s3A _ _ (sdA _ _ (pfA f hf).1)) nofun, (pfA f hf).2⟩
              refine rvB.go ?_
              refine ⟨(fit (by simp)), fun pdB ndB => ?_⟩
              generalize gd6 : upd H4A pdB (HO.tup [V.str "index", V.str x]) = HdB
              obtain ⟨sdB, edB⟩ := gen_new gd6 ndB
              clear gd6
              have ivdB := ivB.ext (extS sdB)
              have rvdB := rvB.ext (extS sdB)
              have dTB : Dp K HdB (.ref pdB) (idxD x none) := .tup (SqT.of edB) (.cons (.str _) (.cons (.str _) .nil))
              refine ⟨fun σ' H' => ∃ w, σ' = [some (.ref p), some (.ref a), some (.ref p8), some (.int (0 + (i : Int))), some v, some w, x6] ∧ Same HdB H' ∧ Dp K H' w (idxD x ((idxOf v ((fs.length : Int) + 1)).map fun k => (fs.take k).map FrD.pair)), ?_, ?_⟩
              · refine ⟨_, rfl, _, rfl, _, _, rfl, (.inl (SqL.of (sdB _ _ aB))), _, _, rfl, rfl, ?_⟩
                refine ⟨v, _, rfl, ivdB, ?_⟩
                rw [lf]
                cases ei : idxOf v ((fs.length : Nat) + 1 : Int) with
                | none => exact ⟨_, rfl, iteF ⟨_, rfl, Same.refl _, dTB⟩⟩
                | some k =>
                  obtain ⟨rfl, lk⟩ := idxOf_some ei
                  refine ⟨_, rfl, iteT ?_⟩
                  have ad := sdB _ _ aB
                  refine ⟨_, rfl, _, rfl, _, rfl, _, _, rfl, (SqL.of ad), fun pb13 nb14 => ?_⟩
                  generalize gb16 : upd HdB pb13 (HO.lst (cutV (framesV fs) none (some (↑k : Int)))) = Hb15
                  obtain ⟨sb18, eb17⟩ := gen_new gb16 nb14
                  clear gb16
                  rw [cutV_to _ (by omega)] at eb17
                  have e2 : (framesV fs).take (k : Int).toNat = framesV (fs.take k) := by unfold framesV; rw [show ((k : Int)).toNat = k from rfl, List.map_take]
                  rw [e2] at eb17
                  exact ⟨_, rfl, sb18, .lst (SqL.of eb17) (dp_pairs fun f hfm => (⟨sb18 _ _ (sdB _ _ (pfB f (List.mem_of_mem_take hfm)).1), (pfB f (List.mem_of_mem_take hfm)).2⟩ : PrAt Hb15 f))⟩
              · rintro σ' H3B ⟨wB, rfl, s3B, dwB⟩
                have hdB := (hB.same sdB).same s3B
                have fewr : ∀ l, ((idxOf v ((fs.length : Int) + 1)).map fun k => (fs.take k).map FrD.pair) = some l → l.length ≤ 60 := fun l hl => by
                  obtain ⟨k, _, rfl⟩ := Option.map_eq_some_iff.mp hl
                  rw [List.length_map, List.length_take]; omega
                refine told_idx ((T4A.ext sdB).ext s3B) (rvdB.ext (extS s3B)) fewr (fun E H2 Q0 e2 hm hk => ?_) fun w2B H4B e4B T4B _ dw2B => ?_
                · have hd2 := hdB.ext e2
                  obtain ⟨dx, t, u, hs, g1, _⟩ := id hd2
                  refine ⟨_, rfl, _, _, _, rfl, g1, rfl, _, rfl, ?_⟩
                  exact hidx_of hd2 (by omega) (ivdB.ext ((extS s3B).trans e2)) (n := (fs.length : Int) + 1) (by omega) (by simp only [List.map_take, e11]) hm hk
                · have okr : ∀ l, ((idxOf v ((fs.length : Int) + 1)).map fun k => (fs.take k).map FrD.pair) = some l → ∀ q ∈ l, FrOk q.1 q.2 := fun l hl q hq => by
                    obtain ⟨k, _, rfl⟩ := Option.map_eq_some_iff.mp hl
                    refine okp q ?_
                    rw [List.map_take] at hq
                    exact List.mem_of_mem_take hq
                  obtain ⟨clB, shB⟩ := lay_idx rv.2.1 okr
                  refine ⟨_, rfl, _, _, dw2B, (dp_ext e4B dwB), shB, shB, _, rfl, ?_⟩
                  show @ite _ _ (_) _ _
                  refine ite_no (by rw [SeqAt.eqv_refl _ clB]; exact Bool.false_ne_true) ?_
                  have hZ := hdB.ext e4B
                  have aZ : H4B a = some (.lst (framesV fs)) := e4B _ _ (s3B _ _ (sdB _ _ aB)) nofun
                  have pfZ : PrsAt H4B fs := fun f hf => ⟨e4B _ _ (s3B _ _ (sdB _ _ (pfB f hf).1)) nofun, (pfB f hf).2⟩
                  have exZ : LamX.ExtN H21 H4B := ((((((extS sd8).trans (extS s30)).trans e40).trans (extS sdA)).trans (extS s3A)).trans e4A).trans (((extS sdB).trans (extS s3B)).trans e4B)
                  have shf := shaped_pairs okp
                  refine ⟨_, rfl, ?_⟩
                  refine ⟨p8, gs9, rfl, hZ, (by omega), fun a9 gs9' H9 g9 s9 n9 ea9 pa9 => ?_⟩
                  have d9 := dp_pairs (K := K) pa9
                  rw [g9, e11] at d9
                  refine ⟨_, rfl, _, _, (.lst (SqL.of ea9) d9), (.lst (SqL.of (s9 _ _ aZ)) (dp_pairs (pfZ.same s9))), shf, shf, _, rfl, ?_⟩
                  show @ite _ _ (_) _ _
                  refine ite_no (by rw [eqv_prs okp]; exact Bool.false_ne_true) ?_
                  exact ⟨t21, z21, _, _, _, _, rfl, (bt21.trans (ButT.ofN exZ)).trans (ButT.ofS s9), (P21.ext exZ).same s9, (by omega), T4B.ext s9, hZ.same s9, s9 _ _ aZ, pfZ.same s9⟩
    · rintro σ H20 ⟨t20, z20, x3, x4, x5, x6, rfl, b20, P20, ht20, T20, h20, a20, pf20⟩
      refine ⟨_, rfl, (fit (by simp)), fun pe3 ne4 => ?_⟩
      generalize ge6 : upd H20 pe3 (HO.lst []) = He5
      obtain ⟨se8, ee7⟩ := gen_new ge6 ne4
      clear ge6
      have aE := se8 _ _ a20
      have pfE := pf20.same se8
      refine ⟨_, _, (.lst (SqL.of aE) (dp_pairs pfE)), (.lst (SqL.of ee7) .nil), shaped_pairs okp, rfl, _, rfl, ?_⟩
      show @ite _ _ (_) _ _
      rw [eqv_list_nil]
      have bE := ((ButT.ofS s12).trans b20).trans (ButT.ofS se8)
      refine ite2 (fun ce1 => ?_) (fun ce1 => ?_)
      · exact k _ _ _ bE (P20.same se8) ht20 (T20.ext se8)
      · have nel : fs ≠ [] := fun q => ce1 (by rw [q]; rfl)
        have l1 : 1 ≤ fs.length := by cases fs with
          | nil => exact absurd rfl nel
          | cons a r => simp
        refine ⟨(fit (by simp)), fun pe4 ne5 => ?_⟩
        generalize ge7 : upd He5 pe4 (HO.tup [V.str (Str.ofString "index"), V.str (Str.ofString "0")]) = He6
        obtain ⟨se9, ee8⟩ := gen_new ge7 ne5
        clear ge7
        have dT : Dp K He6 (.ref pe4) (idxD "0" none) := .tup (SqT.of ee8) (.cons (.str _) (.cons (.str _) .nil))
        have a6 := se9 _ _ aE
        have pf6 := pfE.same se9
        have i0 : idxOf (.int 0) (fs.length : Int) = some 0 := by unfold idxOf; simp only; rw [if_pos ⟨by omega, by omega⟩]; rfl
        refine ⟨fun σ' H' => ∃ w, σ' = [some (.ref p), some (.ref a), some (.ref p8), x3, x4, some w, x6] ∧ Same He6 H' ∧ Dp K H' w (idxD "0" ((idxOf (.int 0) ((fs.length : Int) - 1)).map fun k => (swapF k fs).map FrD.pair)), ?_, ?_⟩
        · refine ⟨_, rfl, _, _, rfl, (.inl (SqL.of a6)), _, _, rfl, rfl, _, rfl, ?_⟩
          show @ite _ _ (_) _ _
          refine ite2 (fun cg1 => ?_) (fun cg1 => ?_)
          · have cg1 := of_decide_eq_true cg1
            have i1 : idxOf (.int 0) ((fs.length : Int) - 1) = some 0 := by unfold idxOf; simp only; rw [if_pos ⟨by omega, by omega⟩]; rfl
            obtain ⟨fa, hfa⟩ : ∃ a, fs[0]? = some a := ⟨_, List.getElem?_eq_getElem (by omega)⟩
            obtain ⟨fb, hfb⟩ : ∃ b, fs[0 + 1]? = some b := ⟨_, List.getElem?_eq_getElem (by omega)⟩
            have at0 : atI (framesV fs) 0 = some (.ref fa.p) := atI_nat (j := 0) (by unfold framesV; rw [List.getElem?_map, hfa]; rfl)
            have at1 : atI (framesV fs) 1 = some (.ref fb.p) := atI_nat (j := 1) (by unfold framesV; rw [List.getElem?_map, hfb]; rfl)
            rw [i1]
            refine ⟨_, rfl, _, _, _, _, rfl, rfl, (SqL.of a6), at1, _, rfl, _, _, _, _, rfl, rfl, (SqL.of a6), at0, (fit (by simp)), fun pb111 nb112 => ?_⟩
            generalize gb114 : upd He6 pb111 (HO.lst [V.ref fb.p, V.ref fa.p]) = Hb113
            obtain ⟨sb116, eb115⟩ := gen_new gb114 nb112
            clear gb114
            refine ⟨_, rfl, _, rfl, _, _, rfl, (SqL.of (sb116 _ _ a6)), fun pb127 nb128 => ?_⟩
            generalize gb130 : upd Hb113 pb127 (HO.lst (cutV (framesV fs) (some (2 : Int)) none)) = Hb129
            obtain ⟨sb132, eb131⟩ := gen_new gb130 nb128
            clear gb130
            rw [cutV_from _ (by omega)] at eb131
            refine ⟨_, _, _, _, rfl, rfl, (sb132 _ _ eb115), eb131, (fit (by rw [List.length_drop]; simp only [List.length_cons, List.length_nil]; omega)), fun pb135 nb136 => ?_⟩
            generalize gb138 : upd Hb129 pb135 (HO.lst ([V.ref fb.p, V.ref fa.p] ++ List.drop (2 : Int).toNat (framesV fs))) = Hb137
            obtain ⟨sb140, eb139⟩ := gen_new gb138 nb136
            clear gb138
            have sQ := (sb116.trans sb132).trans sb140
            have e2 : [V.ref fb.p, V.ref fa.p] ++ (framesV fs).drop (2 : Int).toNat = framesV (swapF 0 fs) := by
              rw [swap_cut hfa hfb]
              unfold framesV
              rw [List.map_append, List.map_append, List.map_drop]
              rfl
            rw [e2] at eb139
            refine ⟨_, rfl, sQ, .lst (SqL.of eb139) (dp_pairs fun f hfm => ?_)⟩
            have hm : f ∈ fs := by
              rw [swap_cut hfa hfb] at hfm
              rcases List.mem_append.mp hfm with hfm | hfm
              · rcases List.mem_append.mp hfm with hfm | hfm
                · exact List.mem_of_mem_take hfm
                · simp only [List.mem_cons, List.not_mem_nil, or_false] at hfm
                  rcases hfm with rfl | rfl
                  · exact List.mem_of_getElem? hfb
                  · exact List.mem_of_getElem? hfa
              · exact List.mem_of_mem_drop hfm
            exact (⟨sQ _ _ (pf6 f hm).1, (pf6 f hm).2⟩ : PrAt Hb137 f)
          · have cg1 := of_dec cg1
            have i1 : idxOf (.int 0) ((fs.length : Int) - 1) = none := by unfold idxOf; simp only; rw [if_neg (by omega)]
            rw [i1]
            exact ⟨_, rfl, Same.refl _, dT⟩
        · rintro σ' H7 ⟨w, rfl, s7, dw⟩
          have h7 := ((h20.same se8).same se9).same s7
          obtain ⟨dx, t9, u, hs, g1, _⟩ := id h7
          refine ⟨_, rfl, _, _, _, rfl, g1, rfl, ?_⟩
          have ln9 : ((gs9.length : Nat) : Int) + 0 = (fs.length : Nat) := by omega
          refine ⟨p8, .int 0, gs9, rfl, h7, (by omega), .inl ⟨0, rfl⟩, (fun e => absurd e (by rw [ln9, i0]; nofun)), fun k0 ek pw Hw sw nw hw => ?_⟩
          rw [ln9, i0] at ek
          obtain rfl : 0 = k0 := Option.some.inj ek
          dsimp only [tNil]
          refine ⟨pw, _, rfl, hw, (by rw [List.length_append, List.length_take, List.length_drop]; omega), fun a8 gs8 H8 g8 s8 n8 ea8 pa8 => ?_⟩
          have s78 := sw.trans s8
          refine ⟨(fit (by simp)), fun ph nh => ?_⟩
          generalize gh6 : upd H8 ph (HO.lst [V.ref a8]) = Hh
          obtain ⟨sh8, eh7⟩ := gen_new gh6 nh
          clear gh6
          refine ⟨_, rfl, (.inl ⟨rfl, ⟨_, (SqL.of eh7)⟩⟩), ?_⟩
          have h9 := (h7.same s78).same sh8
          have TH := ((((T20.ext se8).ext se9).ext s7).ext s78).ext sh8
          have fewr : ∀ l, ((idxOf (.int 0) ((fs.length : Int) - 1)).map fun k => (swapF k fs).map FrD.pair) = some l → l.length ≤ 60 := fun l hl => by
            obtain ⟨k, _, rfl⟩ := Option.map_eq_some_iff.mp hl
            have ls : (swapF k fs).length ≤ 60 := by
              unfold swapF
              split
              · rw [List.length_set, List.length_set]; exact few
              · exact few
            rw [List.length_map]; exact ls
          have rz : ReprV K Hh (.int 0) "0" := by
            have := ReprV.nat (K := K) (H := Hh) (i := 0) (by omega)
            rwa [show (PyData.int ((0 : Nat) : Int)).shown = ("0" : Str) by decide +kernel] at this
          refine told_idx TH rz fewr (fun E H2 Q0 e2 hm hk => ?_) fun w2 H40 e40 T40 n40 dw2 => ?_
          · have hd2 := h9.ext e2
            obtain ⟨dx, t, u, hs, g1, _⟩ := id hd2
            refine ⟨_, rfl, _, _, _, rfl, g1, rfl, ?_⟩
            exact hidx_of hd2 (by omega) (.inl ⟨0, rfl⟩) (n := (fs.length : Int) - 1) (by omega) (by congr 1; funext k; exact (swap_pairs e11 k).symm) hm hk
          · have j40 := e40 _ _ eh7 nofun
            refine ⟨_, _, _, rfl, rfl, j40, (fits (by simp)), ?_⟩
            have T41 := tabs_upd (ys := [V.ref a8] ++ [w2]) T40 j40
            generalize gg2 : upd H40 ph (HO.lst ([V.ref a8] ++ [w2])) = Hg1 at T41 ⊢
            obtain ⟨bg4, eg3⟩ := gen_mut gg2
            clear gg2
            have eG : LamX.ExtN H8 Hg1 := fun b o hb nb => bg4 b o (ne_of_none hb nh) (e40 _ _ (sh8 _ _ hb) nb)
            have aG := eG _ _ (s78 _ _ (s7 _ _ a6)) nofun
            have pfG : PrsAt Hg1 fs := fun f hf => ⟨eG _ _ (s78 _ _ (s7 _ _ (pf6 f hf).1)) nofun, (pf6 f hf).2⟩
            refine ⟨_, rfl, _, rfl, _, rfl, _, _, rfl, (SqL.of aG), fun pg7 ng8 => ?_⟩
            generalize gg10 : upd Hg1 pg7 (HO.lst (cutV (framesV fs) (some (1 : Int)) none)) = Hg9
            obtain ⟨sg12, eg11⟩ := gen_new gg10 ng8
            clear gg10
            rw [cutV_from _ (by omega)] at eg11
            have e1 : (framesV fs).drop (1 : Int).toNat = framesV (fs.drop 1) := by unfold framesV; rw [show (1 : Int).toNat = 1 from rfl, List.map_drop]
            rw [e1] at eg11
            refine ⟨_, rfl, (fit (by simp)), fun pg15 ng16 => ?_⟩
            generalize gg18 : upd Hg9 pg15 (HO.lst [V.ref pg7, w]) = Hg17
            obtain ⟨sg20, eg19⟩ := gen_new gg18 ng16
            clear gg18
            have sg := sg12.trans sg20
            have okd : ∀ x ∈ (fs.drop 1).map FrD.pair, FrOk x.1 x.2 := fun x hx => by
              rw [List.map_drop] at hx
              exact okp x (List.mem_of_mem_drop hx)
            have d8 := dp_pairs (K := K) pa8
            have e8 : gs8.map FrD.pair = (fs.drop 1).map FrD.pair := by
              rw [g8]
              show List.map FrD.pair (gs9.drop 1) = _
              rw [List.map_drop, List.map_drop, e11]
            rw [e8] at d8
            have l1' := Lit.pairs okd (by rw [List.length_map, List.length_drop]; omega)
            have l2' := lit_idx0 (ok := (idxOf (.int 0) ((fs.length : Int) - 1)).map fun k => (swapF k fs).map FrD.pair) fun l hl => ⟨fewr l hl, fun x hx => by
              obtain ⟨k, _, rfl⟩ := Option.map_eq_some_iff.mp hl
              obtain ⟨f, hf', rfl⟩ := List.mem_map.mp hx
              have hm : f ∈ fs := by
                unfold swapF at hf'
                split at hf'
                · rename_i a9 b9 ha9 hb9
                  rcases List.mem_or_eq_of_mem_set hf' with hf' | rfl
                  · rcases List.mem_or_eq_of_mem_set hf' with hf' | rfl
                    · exact hf'
                    · exact List.mem_of_getElem? hb9
                  · exact List.mem_of_getElem? ha9
                · exact hf'
              exact okp _ (List.mem_map.mpr ⟨f, hm, rfl⟩)⟩
            have li := Lit.list (LitAll.cons l1' (LitAll.cons l2' .nil))
            have sh := li.shaped
            have dA : Dp K Hg17 (.ref a8) (.list (((fs.drop 1).map FrD.pair).map pairD)) := dp_ext (extS sg) (dp_ext eG (.lst (SqL.of ea8) d8))
            have dB := dp_ext (extS sg) (dp_idx_but j40 bg4 (n40 _ _ eh7) dw2)
            have dC : Dp K Hg17 (.ref pg7) (.list (((fs.drop 1).map FrD.pair).map pairD)) := .lst (SqL.of (sg20 _ _ eg11)) (dp_pairs fun f hf => (pfG.same sg) f (List.mem_of_mem_drop hf))
            have dD := dp_ext (extS sg) (dp_ext eG (dp_ext (extS s78) dw))
            refine ⟨_, _, (.lst (SqL.of (sg _ _ eg3)) (.cons dA (.cons dB .nil))), (.lst (SqL.of eg19) (.cons dC (.cons dD .nil))), sh, sh, ?_⟩
            rw [SeqAt.eqv_refl _ li.c]
            have eX : LamX.ExtN He5 Hg17 := (((extS se9).trans (extS s7)).trans (extS s78)).trans (eG.trans (extS sg))
            exact k _ _ _ (bE.trans (ButT.ofN eX)) ((P20.same se8).ext eX) ht20 (T41.ext sg)
theorem d_law_cuts_right (e : Ev K mg base) : DefG P w K mg base 10 "_law_cuts_right" ["pen", "pairs"] (spCutsR K) := by
  obtain ⟨fd, F⟩ := e.c.def_ 42 (d := dd "_law_cuts_right" 40) rfl
  exact ⟨⟨fd, ok_law_cuts_right F e, FunD.bindsN F fun _ _ _ _ _ _ us hl => match us, hl with | [_, _], _ => rfl⟩, F.kp, He.glo_ok e.X e.G (e.c.fact 73 rfl)⟩
def spLaw (K : PySem.W.Frag) : Sp := fun vs H Q _ => ∃ (a : Addr) (ns : List Int), vs = [.ref a] ∧ SqL K H a (ns.map V.int) ∧ ns.length ≤ 63 ∧ (∀ p ∈ tf.map (He.cT K), H p.2 = some (.tbl #[])) ∧ ∀ H', Q (.bl true) H'
theorem sc_law : FnScope ["script", "pen", "turn", "names", "pairs", "others"] ["script"] (defScope (top 41)) := ⟨rfl, rfl, rfl, by decide +kernel, rfl, by decide +kernel, by decide +kernel⟩
theorem ok_law {fd : FuncData} (F : FunD K "law" "law" (defArgs (top 41)) (defBody (top 41)) (defScope (top 41)) [] [] (He.ga K "law") fd) (e : Ev K mg base) : FnG P w K mg base CX0 12 (He.ga K "law") fd ["script"] (spLaw K) := by
  refine okGC (p := ("law", none)) rfl F sc_law (fun vs H Q E h => ?_) (fun A outer s H vs Q E hgu hr h => ?_)
  · obtain ⟨_, _, rfl, _⟩ := h
    rfl
  · skip
    refine ⟨_, PSs.nox ((pss_cons (ps_set (i := 1) sc_law.nd rfl (Or.inl rfl) (pe_def (d_law_pen (P := P) (w := w) (K := K) (mg := mg) (base := base) e) (hr.mono (by decide)) (by rfl) (pa_cons (pv 0) pa_nil)))
      (pss_cons (ps_for PassesOwn.never rfl (pi_range1 (by rfl) (f_range e) (pa_cons pe_int pa_nil)) (pg_name (i := 2) sc_law.nd rfl (Or.inl rfl))
      (pss_cons (ps_set (i := 3) sc_law.nd rfl (Or.inl rfl) (pe_def (d_law_names (P := P) (w := w) (K := K) (mg := mg) (base := base) e) (hr.mono (by decide)) (by rfl) (pa_cons (pv 1) (pa_cons (pe_op op_add pe_int (pe_def (d_law_draw (P := P) (w := w) (K := K) (mg := mg) (base := base) e) (hr.mono (by decide)) (by rfl) (pa_cons (pv 1) (pa_cons pe_int pa_nil)))) pa_nil))))
      (pss_cons (ps_set (i := 4) sc_law.nd rfl (Or.inl rfl) (pe_def (d_law_pairs (P := P) (w := w) (K := K) (mg := mg) (base := base) e) (hr.mono (by decide)) (by rfl) (pa_cons (pv 1) (pa_cons (pv 3) (pa_cons (pe_op op_add (pe_def (d_law_draw (P := P) (w := w) (K := K) (mg := mg) (base := base) e) (hr.mono (by decide)) (by rfl) (pa_cons (pv 1) (pa_cons pe_int pa_nil))) (pe_op op_mul pe_int (pe_callTy call_int1 (by rfl) (f_int e) (by decide +kernel) (pa_cons (pe_cmpR op_eq (pe_def (d_law_draw (P := P) (w := w) (K := K) (mg := mg) (base := base) e) (hr.mono (by decide)) (by rfl) (pa_cons (pv 1) (pa_cons pe_int pa_nil))) pe_int (nomark _)) pa_nil)))) pa_nil)))))
      (pss_cons (ps_set (i := 5) sc_law.nd rfl (Or.inl rfl) (pe_def (d_law_pairs (P := P) (w := w) (K := K) (mg := mg) (base := base) e) (hr.mono (by decide)) (by rfl) (pa_cons (pv 1) (pa_cons (pv 3) (pa_cons (pe_def (d_law_draw (P := P) (w := w) (K := K) (mg := mg) (base := base) e) (hr.mono (by decide)) (by rfl) (pa_cons (pv 1) (pa_cons pe_int pa_nil))) pa_nil)))))
      (pss_cons (ps_if (PW.pt (pw_or (pt_not (pt_val (pe_defG (d_law_joined_right (P := P) (w := w) (K := K) (mg := mg) (base := base) e) (by exact hgu) (by exact hr.mono (by decide)) (by rfl) (pa_cons (pv 1) (pa_cons (pv 4) (pa_cons (pv 5) pa_nil)))))) (pw_or1 (pt_not (pt_val (pe_defG (d_law_times_right (P := P) (w := w) (K := K) (mg := mg) (base := base) e) (by exact hgu) (by exact hr.mono (by decide)) (by rfl) (pa_cons (pv 1) (pa_cons (pv 4) pa_nil))))))))
      (pss_one (ps_ret pe_bl)) pss_nil)
      (pss_one (ps_if (pt_not (pt_val (pe_defG (d_law_cuts_right (P := P) (w := w) (K := K) (mg := mg) (base := base) e) (by exact hgu) (by exact hr.mono (by decide)) (by rfl) (pa_cons (pv 1) (pa_cons (pv 4) pa_nil)))))
      (pss_one (ps_ret pe_bl)) pss_nil)))))))
      (pss_one (ps_ret pe_bl))))), ?_⟩
    obtain ⟨a, ns, rfl, ha, hl, hT, k⟩ := h
    have T0 : LamX.Tabs (lamT K) H := fun q hq => by
      simp only [lamT, List.mem_cons, List.not_mem_nil, or_false] at hq
      rcases hq with rfl | rfl | rfl
      · exact LamX.TabS.nil (hT _ (List.mem_map.mpr ⟨("_law_joined_right", none), by simp [tf], rfl⟩))
      · exact LamX.TabS.nil (hT _ (List.mem_map.mpr ⟨("_law_times_right", none), by simp [tf], rfl⟩))
      · exact LamX.TabS.nil (hT _ (List.mem_map.mpr ⟨("_law_cuts_right", none), by simp [tf], rfl⟩))
    refine ⟨_, rfl, _, _, rfl, ha, hl, fun H11 p12 c13 ms14 s15 n16 n17 h18 h19 P20 => ?_⟩
    refine ⟨_, rfl, (by omega), (by omega), ?_⟩
    refine for_range (lo := 0) (n := 4) (fun i σ H' => ∃ (t : Nat) (z : Int) (x2 x3 x4 x5 : Option V), σ = [some (.ref a), some (.ref p12), x2, x3, x4, x5] ∧ Pen H' p12 c13 ms14 t z ∧ t ≤ 1000 * i ∧ LamX.Tabs (lamT K) H') ⟨0, 0, _, _, _, _, rfl, P20, by omega, T0.ext s15⟩ ?_ ?_
    · rintro i σ H30 hi ⟨t, z, x2, x3, x4, x5, rfl, P30, ht, T30⟩
      refine ⟨_, rfl, _, rfl, _, _, _, _, _, _, rfl, P30, (by omega), (by omega), (by omega), fun db10 Hb11 xb12 xb13 hb14 hb15 bb16 Pb17 hb18 => ?_⟩
      refine ⟨_, _, rfl, rfl, _, _, _, _, _, _, rfl, Pb17, (by omega), (by omega), (by omega), fun xsb32 fb33 Hb34 xb35 xb36 eb37 hb38 hb39 nb40 eb41 bb42 Pb43 hb44 => ?_⟩
      refine ⟨_, rfl, _, rfl, _, rfl, _, _, _, _, _, _, rfl, Pb43, (by omega), (by omega), (by omega), fun db54 Hb55 xb56 xb57 hb58 hb59 bb60 Pb61 hb62 => ?_⟩
      refine ⟨_, rfl, _, _, _, _, _, _, rfl, Pb61, (by omega), (by omega), (by omega), fun db72 Hb73 xb74 xb75 hb76 hb77 bb78 Pb79 hb80 => ?_⟩
      refine ⟨rfl, .inr ⟨_, rfl, _, _, rfl, rfl, (.inl ⟨(by omega), (by omega)⟩), _, _, rfl, rfl, ?_⟩⟩
      obtain ⟨n, en, ln⟩ : ∃ n : Nat, (db54 + (51 * if decide (V.int db72 = V.int 0) = true then (1 : Int) else 0)) = (n : Int) ∧ n ≤ 60 := by
        by_cases q : decide (V.int db72 = V.int 0) = true
        · rw [if_pos q]; exact ⟨(db54 + 51).toNat, by omega, by omega⟩
        · rw [if_neg q]; exact ⟨db54.toNat, by omega, by omega⟩
      have n33 : fb33 ≠ p12 := (ne_of_none Pb17.a nb40).symm
      have b73 : But p12 H30 Hb73 := (((bb16.trans bb42).trans bb60).trans bb78)
      have e33 : Hb73 fb33 = some (.lst (xsb32.map V.str)) := bb78 _ _ n33 (bb60 _ _ n33 eb41)
      have ne33 : xsb32 ≠ [] := fun q => by rw [q] at eb37; simp at eb37; omega
      refine ⟨p12, c13, fb33, ms14, _, _, xsb32, n, congrArg (fun v => [V.ref p12, V.ref fb33, V.int v]) en, Pb79, (by omega), e33, n33, ne33, (by omega), hb38, (by omega), fun f fs H40 t40 z40 nf ef pf okf lf b40 P40 ht40 => ?_⟩
      refine ⟨_, rfl, _, rfl, _, rfl, _, _, _, _, _, _, rfl, P40, (by omega), (by omega), (by omega), fun d41 H41 t41 z41 h41 h42 b41 P41 ht41 => ?_⟩
      obtain ⟨m, rfl⟩ : ∃ m : Nat, d41 = m := ⟨d41.toNat, by omega⟩
      refine ⟨p12, c13, fb33, ms14, _, _, xsb32, m, rfl, P41, (by omega), b41 _ _ n33 (b40 _ _ n33 e33), n33, ne33, (by omega), hb38, (by omega), fun g gs H50 t50 z50 ng eg pg okg lg b50 P50 ht50 => ?_⟩
      have nfp : f ≠ p12 := (ne_of_none Pb79.a nf).symm
      have ngp : g ≠ p12 := (ne_of_none P41.a ng).symm
      have bA : But p12 H40 H50 := b41.trans b50
      have T50 := tabs_but T30 P30 ((b73.trans b40).trans bA)
      have f50 := bA _ _ nfp ef
      have pf50 := pf.but P40.a bA
      have keep : ∀ {H' : Hp}, ButT p12 H50 H' → H' f = some (.lst (framesV fs)) ∧ PrsAt H' fs := fun bt => ⟨bt _ _ nfp f50 nofun, fun q hq => ⟨bt _ _ (ne_of (pf50 q hq).1 P50.a nofun) (pf50 q hq).1 nofun, (pf50 q hq).2⟩⟩
      refine ⟨_, rfl, _, rfl, _, rfl, ?_⟩
      refine ⟨p12, c13, f, g, ms14, t50, z50, fs, gs, rfl, P50, (by omega), f50, nfp, eg, ngp, pf50, pg, okf, okg, (by omega), (by omega), T50, fun H60 t60 z60 b60 P60 ht60 T60 => ?_⟩
      obtain ⟨f60, pf60⟩ := keep b60
      refine ⟨_, rfl, ?_⟩
      show @ite _ _ (_) _ _
      refine ite_no (by decide +kernel) ?_
      refine ⟨_, rfl, _, rfl, ?_⟩
      refine ⟨p12, f, fs, rfl, f60, pf60, okf, (by omega), T60, fun H70 e70 T70 => ?_⟩
      obtain ⟨f70, pf70⟩ := keep (b60.trans (ButT.ofN e70))
      refine ⟨_, rfl, ?_⟩
      show @ite _ _ (_) _ _
      refine ite_no (by decide +kernel) ?_
      refine ⟨_, rfl, _, rfl, ?_⟩
      refine ⟨p12, c13, f, ms14, t60, z60, fs, rfl, P60.ext e70, (by omega), f70, nfp, pf70, okf, (by omega), T70, fun H80 t80 z80 b80 P80 ht80 T80 => ?_⟩
      refine ⟨_, rfl, ?_⟩
      show @ite _ _ (_) _ _
      refine ite_no (by decide +kernel) ?_
      exact ⟨t80, z80, _, _, _, _, rfl, P80, (by omega), T80⟩
    · rintro σ H30 ⟨t, z, x2, x3, x4, x5, rfl, P30, ht, T30⟩
      exact k _
end
theorem closing {P : Program} {w : World} {K : PySem.W.Frag} {h : Heap} {mg : Str → Option Value} (X : K.In h) (G : h.Ns mainGlobals mg) (c : SaysZ fa fn tf gs (fun K => exs.all fun f => f K) w h K) :
    ∃ fd : FuncData, (∀ (s : Shared) (v : Value), BindsTo s fd ⟨[v], []⟩ [("script", v)]) ∧ ∀ base : Heap, K.In base → base.Ns mainGlobals mg → (∀ p ∈ tf.map (He.cT K), LamX.TabB base mg p.1 p.2) → FnG P w K mg base CX0 12 (He.ga K "law") fd ["script"] (spLaw K) := by
  obtain ⟨fd, F⟩ := c.x.t.d.def_ 43 (d := dd "law" 41) rfl
  have b := FunD.bindsA (ps := ["script"]) F fun _ _ _ _ _ _ us hl => match us, hl with | [_], _ => rfl
  exact ⟨fd, fun s v => b s [v] rfl, fun base X' G' tb => ok_law F ⟨c.x.t.d, X', G', c.more, fun i d h => c.get i h, tb⟩⟩
abbrev R : PySem.W.OpenRow := PySem.W.OpenLaw.row PySem.Challenge.rw_seenframes_k07_histories_put_together
abbrev hk : PySem.W.Hook := hookZ 6 fa fn tf gs (fun K => exs.all fun f => f K)
def ob (s : PySem.W.SharedT) : AlZ := obsZ 6 fa fn tf gs (fun K => exs.all fun f => f K) (HandSHeadRun.getT s)
theorem ob_eq (s : PySem.W.SharedT) : ob s = hk.obs s.abs := obsZ_eq (HandSHeadRun.getT_eq s)
def loose : List Str := [("_wall" : Str), ("__name__" : Str), ("SeenError" : Str), ("BadInput" : Str), ("Refused" : Str), ("BadFrame" : Str), ("BadHistory" : Str), ("BadIndex" : Str), ("BadText" : Str), ("TooMany" : Str), ("is_name" : Str), ("ascending" : Str), ("is_whole" : Str), ("is_index" : Str), ("Frame" : Str), ("frame_key" : Str), ("words_in" : Str), ("hosts_told" : Str), ("frames_told" : Str), ("History" : Str), ("_law_pen" : Str), ("_law_draw" : Str), ("_law_pick" : Str), ("_law_name" : Str), ("_law_names" : Str), ("_law_pairs" : Str), ("_law_frame" : Str), ("_law_text" : Str), ("_law_shown" : Str), ("_law_made" : Str), ("_law_heard" : Str), ("_law_few" : Str), ("_law_joined_right" : Str), ("_law_times_right" : Str), ("_law_index" : Str), ("_law_is_index" : Str), ("_law_cuts_right" : Str)]
theorem run (w : World) : HandSHeadRun.RunEq R (PySem.W.view R.prog [41]) hk ob 6000 loose w := by
  intro os
  kernel_rfl
end Z
open PySem PySem.W PySem.Calls PyProof.Rows
set_option maxRecDepth 100000 in
set_option maxHeartbeats 0 in
theorem PySem.Challenge.cw_seenframes_k07_histories_put_together_holds : PySem.Challenge.rw_seenframes_k07_histories_put_together.Holds := by
  w_on; o_law
  refine HandSHeadRun.head_any (r := OpenLaw.row PySem.Challenge.rw_seenframes_k07_histories_put_together) (q := view (OpenLaw.row PySem.Challenge.rw_seenframes_k07_histories_put_together).prog [41]) (H := Z.hk) (ob := Z.ob) (M := 6000) (loose := Z.loose) (d := HandSHeadRun.topDef (OpenLaw.row PySem.Challenge.rw_seenframes_k07_histories_put_together).prog 41) (kwd := []) Z.ob_eq
    (by kernel_rfl) (fun s => by kernel_rfl) Z.run (by kernel_rfl) (by kernel_rfl) (by kernel_rfl) (by rfl) (by first | assumption | decide +kernel) (by decide +kernel) ⟨rfl, rfl, rfl, rfl, rfl, by decide +kernel⟩ ?hw ?hc
  case hw => w_witness2
  case hc =>
    refine Z.walk_TG (l := PySem.Challenge.rw_seenframes_k07_histories_put_together) (n := 63) (k := 12) (x := "script") (CX := L2.CX0) rfl (by decide) (by kernel_rfl) ⟨rfl, by decide, by decide⟩ ?F (fun _ _ _ _ z => z)
    intro w mg fa h Y G hmg0
    obtain ⟨K, KX, c⟩ := Y
    have hmg : mg ("law" : PySem.Str) = some (.ref fa) := by
      have e : (HandSHeadRun.topDef (OpenLaw.row PySem.Challenge.rw_seenframes_k07_histories_put_together).prog 41).name = ("law" : PySem.Str) := by kernel_rfl
      rw [← e]
      exact hmg0
    obtain ⟨fd, hb, hF⟩ := Z.closing (P := (PySem.Challenge.rw_seenframes_k07_histories_put_together).prog) KX G c
    have eg := hmg.symm.trans (He.glo_ok KX G (c.x.t.d.fact 74 rfl))
    cases eg
    obtain ⟨t1, t2, t3⟩ := c.tabs KX
    exact ⟨K, fd, Z.spLaw K, Z.tf.map (He.cT K), KX, hb, t1, t2, t3, fun H a ns hl hT hS => ⟨a, ns, rfl, hS, hl, hT, fun _ => rfl⟩, hF⟩
