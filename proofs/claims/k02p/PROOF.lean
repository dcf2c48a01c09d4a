import PyProof.Rows.All
import Wide.All
import OpenK.AllK
import Wide.FinOn
import KE.KStateDown
import Lean
import HandS.ForMost
import HandS.More
import HandS.Codes
import HandS.Defaults
import HandS.WordsExc
import HandS.RaiseMore
import HandS.IsInst
import HandS.Walk
import HandS.Head0
import HandS.Head1
import HandS.Head2
import HandS.HeadEnd
import HandS.HeadHook1
import HandS.HeadHook2
import HandS.HeadHook4
import HandS.ExcValue
import HandS.ExcIs
import HandS.ExcField
import HandS.ExcInit
import HandS.EndTab
import HandS.Property
import HandS.ClsMeth
import HandS.MakeKw
import HandS.MakeKwOnly
import HandS.FStr
import HandS.StrMore
import HandS.Flow
import HandS.TupLe
import HandS.Lambda
import PyProof.Rows.Range3
import PyProof.CallStr
import PyProof.Rows.RegFStrParts
import HandS.IterVal
import HandS.Set
import HandS.SetFor
import HandS.Strs
import PyProof.Rows.SortShellAny
import HandS.Star
import HandS.Style
import HandS.Deep
import PyProof.P3In
import HandS.SuiteRaise
import HandS.RaiseFrom
import HandS.ExcInitHot
import HandS.NoneIn
import KE.DataCmp
import KE.DatumOrd
import KE.GoesEnum
import HandS.Zip0
import HandS.OwnEq
import PyProof.P3Eq
import HandS.ReplaceLit
import HandS.GenBody
import HandS.GenList
import KE.GoesSet
import KE.KDictList
import KE.KDictWalk
import HandS.DictSubView
import HandS.TupMul
import PySem.Challenge.RW_seenframes_k02_names_and_hosts
set_option Elab.async false
set_option linter.all false
set_option maxRecDepth 100000
set_option maxHeartbeats 8000000
namespace Z
open PySem PySem.Spec PyProof.Rows L2
/-! ### rules that name the written part by a letter -/
section
variable {X : Cx} {K : PySem.W.Frag}
theorem kix_list (hK : X.K = K := by rfl) : IxR X (rIxL K) := by subst hK; exact ix_list
theorem kix_tup (hK : X.K = K := by rfl) : IxR X (rIxT K) := by subst hK; exact ix_tup
theorem ksl_list (hK : X.K = K := by rfl) : SlR X (rSlL K) := by subst hK; exact sl_list
theorem ksl_tup (hK : X.K = K := by rfl) : SlR X (rSlT K) := by subst hK; exact sl_tup
def rLen (K : PySem.W.Frag) : List V → Hp → VK → Prop := fun xs H Q => ∃ p ys, xs = [.ref p] ∧ (SqL K H p ys ∨ SqT K H p ys) ∧ Q (.int ys.length) H
theorem kcall_len_seq (hK : X.K = K := by rfl) : CallR X (.builtin "len") (rLen K) := by subst hK; exact call_len_seq
def rListOf (K : PySem.W.Frag) : List V → Hp → VK → Prop := fun xs H Q => ∃ p ys, xs = [.ref p] ∧ (SqL K H p ys ∨ SqT K H p ys) ∧ ∀ l, H l = none → Q (.ref l) (upd H l (.lst ys))
theorem kcall_list_of (hK : X.K = K := by rfl) : CallR X (.type "list") (rListOf K) := by subst hK; exact call_list_of
def rTupleOf (K : PySem.W.Frag) : List V → Hp → VK → Prop := fun xs H Q => ∃ p ys, xs = [.ref p] ∧ ((SqL K H p ys ∧ ∀ l, H l = none → Q (.ref l) (upd H l (.tup ys))) ∨ (SqT K H p ys ∧ Q (.ref p) H))
theorem kcall_tuple_of (hK : X.K = K := by rfl) : CallR X (.type "tuple") (rTupleOf K) := by subst hK; exact call_tuple_of
theorem kop_eqD (hu : X.A.units + 64 < cLine) (hK : X.K = K := by rfl) : OpR X (compareOp .Eq) (rEqD K) := by subst hK; exact op_eqD hu
theorem kop_neD (hu : X.A.units + 64 < cLine) (hK : X.K = K := by rfl) : OpR X (compareOp .NotEq) (rNeD K) := by subst hK; exact op_neD hu
theorem kop_in_seq (hK : X.K = K := by rfl) : OpR X (compareOp .In) (rIn K false) := by subst hK; exact op_in_seq
theorem kop_notIn_seq (hK : X.K = K := by rfl) : OpR X (compareOp .NotIn) (rIn K true) := by subst hK; exact op_notIn_seq
theorem kcr_sortedS (hK : X.K = K := by rfl) : CallR X (.builtin "sorted") (rSortedS K) := by subst hK; exact cr_sortedS
theorem kcr_sorted (hK : X.K = K := by rfl) : CallR X (.builtin "sorted") (rSorted K) := by subst hK; exact cr_sorted
theorem kcr_sum (hc : X.calm = true) (hK : X.K = K := by rfl) : CallR X (.builtin "sum") (rSum K) := by subst hK; exact cr_sum hc
theorem kcr_all (hc : X.calm = true) (hK : X.K = K := by rfl) : CallR X (.builtin "all") (rAll K) := by subst hK; exact cr_all hc
theorem kcr_any (hc : X.calm = true) (hK : X.K = K := by rfl) : CallR X (.builtin "any") (rAny K) := by subst hK; exact cr_any hc
theorem kcall_isi (hK : X.K = K := by rfl) : CallR X (.builtin "isinstance") (rIsi K) := by subst hK; exact call_isi
theorem kcall_isiT (hK : X.K = K := by rfl) : CallR X (.builtin "isinstance") (rIsiT K) := by subst hK; exact call_isiT
theorem kop_catT (hK : X.K = K := by rfl) : OpR X (binaryOp .Add) (rCatT K) := by subst hK; exact op_catT
theorem kpi_list {tg l : Expr} {tl : TE} (hl : PE X l tl) (hK : X.K = K := by rfl) : PI X tg l (iList K tl) := by subst hK; exact pi_list hl
theorem kpi_tup {tg l : Expr} {tl : TE} (hl : PE X l tl) (hK : X.K = K := by rfl) : PI X tg l (iTup K tl) := by subst hK; exact pi_tup hl
theorem kpi_enum {e : Expr} {ta : TA} {p pos tpos : Pos} {elts : List Expr} {kk : Nat} (hg : Gl X "enumerate") (hm : X.mg "enumerate" = none) (ha : PA X [e] ta) (hs : starEach [e] X.env = [(false, eval e X.env)] := by rfl) (hK : X.K = K := by rfl) :
    PI X (.Tuple elts kk tpos) (.Call (.Name "enumerate" p) [e] [] pos) (iEnum K ta) := by subst hK; exact pi_enum hg hm ha hs
def rJoin (K : PySem.W.Frag) : V → List V → Hp → VK → Prop := fun x xs H Q => ∃ a p, ∃ ys : List Str, x = .str a ∧ xs = [.ref p] ∧ (SqL K H p (ys.map V.str) ∨ SqT K H p (ys.map V.str)) ∧
      (ys.map (·.length)).sum + ys.length * a.length ≤ 16777216 ∧ Q (.str (Txt.join a ys)) H
theorem kpe_join {o e : Expr} {to te : TE} {apos pos : Pos} (ho : PE X o to) (he : PE X e te) (hs : starEach [e] X.env = [(false, eval e X.env)] := by rfl) (hbase : attributeBase o "join" X.env (eval o X.env) = eval o X.env := by rfl) (hline : (apos.endLine == pos.line) = true := by rfl) (hK : X.K = K := by rfl) :
    PE X (.Call (.Attribute o "join" apos) [e] [] pos) (tM1 (rJoin K) to te) := by subst hK; exact pe_join ho he hs hbase hline
theorem kpe_bm {o e : Expr} {es : List Expr} {to : TE} {t : TA} {name : Str} {apos cpos : Pos} {T id : String} {r : V → List V → Hp → VK → Prop} (pa : PlainAttrs T) (slot : Slot T name id) (hty : typeOf (.builtin id) = pure (.type "method_descriptor")) (hm : MtR X id r) (ho : PE X o to) (ha : PA X (e :: es) t)
    (hbase : attributeBase o name X.env (eval o X.env) = eval o X.env := by rfl)
    (hfew : ((backTo cpos (starEach (e :: es) X.env)).all (fun x => !x.1) && (backToKw cpos (keywordEach [] X.env)).all (fun x => x.1.isSome)
      && decide ((e :: es).length + ([] : List Keyword).length + (if ([] : List Keyword).isEmpty then 0 else 1) < 30)) = true := by rfl)
    (hline : (apos.endLine == cpos.line) = true := by rfl) (hs : starEach (e :: es) X.env = (false, eval e X.env) :: starEach es X.env := by rfl) (hplain : (backTo cpos (starEach es X.env)).any (·.1) = false := by rfl) (hK : X.K = K := by rfl) :
    PE X (.Call (.Attribute o name apos) (e :: es) [] cpos) (tBM K T r to t) := by subst hK; exact pe_bm pa slot hty hm ho ha hbase hfew hline hs hplain
theorem kpe_bm0 {o : Expr} {to : TE} {name : Str} {apos cpos : Pos} {T id : String} {r : V → List V → Hp → VK → Prop} (pa : PlainAttrs T) (slot : Slot T name id) (hty : typeOf (.builtin id) = pure (.type "method_descriptor")) (hm : MtR X id r) (ho : PE X o to)
    (hbase : attributeBase o name X.env (eval o X.env) = eval o X.env := by rfl) (hline : (apos.endLine == cpos.line) = true := by rfl) (hK : X.K = K := by rfl) : PE X (.Call (.Attribute o name apos) [] [] cpos) (tBM0 K T r to) := by subst hK; exact pe_bm0 pa slot hty hm ho hbase hline
end
/-- the pen stands at p, its cells at c; t draws so far, z is left of a great one -/
structure Pen (H : Hp) (p c : Addr) (ms : List Int) (t : Nat) (z : Int) : Prop where
  a : H p = some (.lst [.ref c, .int t, .int z])
  b : H c = some (.lst (ms.map .int))
/-- all but what stands at p stands -/
def But (p : Addr) (H H' : Hp) : Prop := ∀ b o, b ≠ p → H b = some o → H' b = some o
theorem But.refl (p : Addr) (H : Hp) : But p H H := fun _ _ _ h => h
theorem But.trans {p : Addr} {H H1 H2 : Hp} (a : But p H H1) (b : But p H1 H2) : But p H H2 := fun c o n h => b c o n (a c o n h)
theorem Same.but {p : Addr} {H H' : Hp} (a : Same H H') : But p H H' := fun c o _ h => a c o h
theorem same_new {H : Hp} {q : Addr} {o : HO} (h : H q = none) : Same H (upd H q o) := fun b u e => by rw [upd_ne (ne_of_none e h)]; exact e
theorem but_upd {H : Hp} {p : Addr} {o : HO} : But p H (upd H p o) := fun b u n e => by rw [upd_ne n]; exact e
theorem But.new {p q : Addr} {H H' : Hp} {o : HO} (b : But p H H') (h : H' q = none) : But p H (upd H' q o) := fun a u n e => by rw [upd_ne (ne_of_none (b a u n e) h)]; exact b a u n e
theorem But.free {p q : Addr} {H H' : Hp} (b : But p H H') (n : q ≠ p) (h : H' q = none) : H q = none := by
  cases e : H q with
  | none => rfl
  | some o => rw [b q o n e] at h; cases h
theorem But.upn {p q : Addr} {H H' : Hp} {o : HO} (b : But p H H') (h : H q = none) : But p H (upd H' q o) := fun a u n e => by rw [upd_ne (ne_of_none e h)]; exact b a u n e
theorem dp_ints {K : PySem.W.Frag} {H : Hp} : ∀ ms : List Int, DpAll K H (ms.map V.int) (ms.map PyData.int)
  | [] => .nil
  | _ :: r => .cons (.int _) (dp_ints r)
theorem lay_ints : ∀ ms : List Int, PyData.canLayAll0 (ms.map PyData.int) = true
  | [] => by simp [PyData.canLayAll0]
  | _ :: r => by simp [PyData.canLayAll0, PyData.canLay0, lay_ints r]
theorem deep_ints : ∀ ms : List Int, PyData.depthAll (ms.map PyData.int) = 0
  | [] => by simp [PyData.depthAll]
  | _ :: r => by simp [PyData.depthAll, PyData.depth, deep_ints r]
theorem shaped_ints (ms : List Int) : SeqAt.shaped (.list (ms.map PyData.int)) = true := by
  unfold SeqAt.shaped
  simp [PyData.canLay0, lay_ints, PyData.depth, deep_ints]
theorem eqv_nil (ms : List Int) : PyData.eqv (.list (ms.map PyData.int)) (.list []) = ms.isEmpty := by
  cases ms <;> simp [PyData.eqv, PyData.eqvAll]
theorem mod_lo (a : Int) {m : Int} (h : 1 ≤ m) : 0 ≤ a.fmod m ∧ a.fmod m < m := ⟨Int.fmod_nonneg_of_pos a (by omega), Int.fmod_lt_of_pos a (by omega)⟩
theorem But.seq {K : PySem.W.Frag} {p : Addr} {H H' : Hp} {a : Addr} {xs : List V} (e : But p H H') (n : a ≠ p) (h : SqL K H a xs) : SqL K H' a xs := by
  rcases h with (h | ⟨o, h⟩) | h
  · exact .inl (.inl (e _ _ n h))
  · exact .inl (.inr ⟨o, e _ _ n h⟩)
  · exact .inr h
/-- a def of the module keeps its promise -/
structure DefN (P : Program) (w : World) (K : PySem.W.Frag) (mg : Str → Option Value) (base : Heap) (k : Nat) (x : Str) (ps : List Str) (sp : Sp) : Prop where
  ex : ∃ fd, FnOk P w K mg base CX0 k (He.ga K x) fd ps sp ∧ Binds K fd ps []
  kp : PySem.W.keepIn K (.ref (He.ga K x)) = true
  at_ : mg x = some (.ref (He.ga K x))
theorem pe_def {X : Cx} {k : Nat} {x : Str} {ps : List Str} {sp : Sp} {e : Expr} {es : List Expr} {p pos : Pos} {t : TA} (D : DefN X.prog X.w X.K X.mg X.base k x ps sp) (hr : Room k X.A) (hg : Gl X x) (ha : PA X (e :: es) t)
    (hdb : (x == ("__debug__" : Str)) = false := by decide) (he : starEach (e :: es) X.env = (false, eval e X.env) :: starEach es X.env := by rfl) (hpl : (backTo pos (starEach es X.env)).any (·.1) = false := by rfl) :
    PE X (.Call (.Name x p) (e :: es) [] pos) (tCall sp [] E0 t) := by
  obtain ⟨fd, F, b⟩ := D.ex
  exact pe_call F hr hg D.at_ D.kp b .nil pass0 ha hdb he hpl
def spPen (K : PySem.W.Frag) : Sp := fun vs H Q _ => ∃ (a : Addr) (ns : List Int), vs = [.ref a] ∧ SqL K H a (ns.map V.int) ∧ ns.length ≤ 63 ∧
  ∀ (H' : Hp) (p c : Addr) (ms : List Int), Same H H' → H p = none → H c = none → p ≠ c → ms.length ≤ 63 → Pen H' p c ms 0 0 → Q (.ref p) H'
def spDraw : Sp := fun vs H Q _ => ∃ (p c : Addr) (ms : List Int) (t : Nat) (z m : Int), vs = [.ref p, .int m] ∧ Pen H p c ms t z ∧ t < 1000000 ∧ 1 ≤ m ∧ m < 1000000 ∧
  ∀ (d : Int) (H' : Hp) (t' : Nat) (z' : Int), 0 ≤ d → d < m → But p H H' → Pen H' p c ms t' z' → t' ≤ t + 1 → Q (.int d) H'
/-- one of a list's items is picked -/
def spPick (K : PySem.W.Frag) : Sp := fun vs H Q _ => ∃ (p c a : Addr) (ms : List Int) (t : Nat) (z : Int) (xs : List V), vs = [.ref p, .ref a] ∧ Pen H p c ms t z ∧ t < 1000000 ∧ SqL K H a xs ∧ a ≠ p ∧ xs ≠ [] ∧ xs.length < 1000000 ∧
  ∀ (x : V) (H' : Hp) (t' : Nat) (z' : Int), x ∈ xs → But p H H' → Pen H' p c ms t' z' → t' ≤ t + 1 → Q x H'
end Z
namespace Z
open PySem PySem.Spec PyProof.Rows L2
/-! ### heaps step by step -/
theorem gen_new {H H1 : Hp} {p : Addr} {o : HO} (g : upd H p o = H1) (n : H p = none) : Same H H1 ∧ H1 p = some o := by
  subst g
  exact ⟨same_new n, upd_same⟩
theorem gen_mut {H H1 : Hp} {p : Addr} {o : HO} (g : upd H p o = H1) : But p H H1 ∧ H1 p = some o := by
  subst g
  exact ⟨but_upd, upd_same⟩
theorem Same.skip {A B C : Hp} {q : Addr} (s : Same A B) (b : But q B C) (n : A q = none) : Same A C := fun x o h => b _ _ (ne_of_none h n) (s _ _ h)
theorem But.skip {A B C : Hp} {p q : Addr} (s : But p A B) (b : But q B C) (n : A q = none) : But p A C := fun x o k h => b _ _ (ne_of_none h n) (s _ _ k h)
theorem ite_yes {c A B : Prop} [Decidable c] (h : c) (a : A) : if c then A else B := by rw [if_pos h]; exact a
theorem ite_no {c A B : Prop} [Decidable c] (h : ¬ c) (b : B) : if c then A else B := by rw [if_neg h]; exact b
theorem fit {n : Nat} (h : n ≤ 1000000) : n ≤ sizeLine := Nat.le_trans h (by decide)
theorem fits {n : Nat} (h : n ≤ 1000000) : n < sizeLine := Nat.lt_of_le_of_lt h (by decide)
theorem not_same {p : Prop} [Decidable p] (h : p) : ¬ (!decide p) = true := by rw [decide_eq_true h]; exact Bool.false_ne_true
theorem of_ndec {p : Prop} [Decidable p] (h : (!decide p) = true) : ¬ p := fun q => by rw [decide_eq_true q] at h; exact Bool.false_ne_true h
theorem of_nndec {p : Prop} [Decidable p] (h : ¬ (!decide p) = true) : p := Classical.byContradiction fun q => h (by rw [decide_eq_false q]; rfl)
theorem ndec_false {p : Prop} [Decidable p] (h : p) : (!decide p) = false := by rw [decide_eq_true h]; rfl
theorem ndec_true {p : Prop} [Decidable p] (h : ¬ p) : (!decide p) = true := by rw [decide_eq_false h]; rfl
theorem strs_app (a b : List Str) : a.map V.str ++ b.map V.str = (a ++ b).map V.str := by rw [List.map_append]
theorem strs_snoc (a : List Str) (x : Str) : a.map V.str ++ [V.str x] = (a ++ [x]).map V.str := by rw [List.map_append]; rfl
theorem ite_same {α : Type} [DecidableEq α] {x : α} {A B : Prop} (a : A) : if decide (x = x) = true then A else B := by rw [if_pos (decide_eq_true rfl)]; exact a
theorem ite_diff {α : Type} [DecidableEq α] {x : α} {A B : Prop} (b : B) : if (!decide (x = x)) = true then A else B := by rw [if_neg (not_same rfl)]; exact b
theorem not_self (b : Bool) : ¬ decide (V.bl (!b) = V.bl b) = true := by cases b <;> decide
theorem of_dec {p : Prop} [Decidable p] (h : ¬ decide p = true) : ¬ p := fun q => h (decide_eq_true q)
theorem Pen.alike {H H' : Hp} {p c : Addr} {ms : List Int} {t : Nat} {z : Int} (P : Pen H p c ms t z) (s : Same H H') : Pen H' p c ms t z := ⟨s _ _ P.a, s _ _ P.b⟩
end Z
namespace Z
open PySem PySem.Spec PyProof.Rows L2 TL
/-- a name: one to eight letters -/
structure IsNm (x : Str) : Prop where
  lo : 1 ≤ x.length
  hi : x.length ≤ 8
  az : ∀ c ∈ x.cps.toList, 97 ≤ c ∧ c ≤ 122
/-- the text of one sign -/
def sg (c : Nat) : Str := ⟨#[c]⟩
theorem join_signs (cs : List Nat) : (Txt.join (Str.ofString "") (cs.map sg)).cps.toList = cs := by
  show (PySem.Builtin.Str.glued (Str.ofString "") (cs.map sg)).cps.toList = cs
  rw [StrLaws.glued_eq_join]
  have h := tl_join (Str.ofString "") (cs.map sg)
  have e0 : tl (Str.ofString "") = [] := by decide +kernel
  rw [e0] at h
  have : ∀ l : List Nat, joinL [] ((l.map sg).map tl) = l := by
    intro l
    induction l with
    | nil => rfl
    | cons a r ih =>
      cases r with
      | nil => rfl
      | cons b q =>
        show tl (sg a) ++ ([] ++ joinL [] (((b :: q).map sg).map tl)) = a :: b :: q
        rw [ih]
        rfl
  rw [this] at h
  exact h
theorem letters_at {j : Nat} (h : j < 26) : (Str.ofString "abcdefghijklmnopqrstuvwxyz").cps.toList[j]? = some (97 + j) := by
  have : ∀ j, j < 26 → (Str.ofString "abcdefghijklmnopqrstuvwxyz").cps.toList[j]? = some (97 + j) := by decide +kernel
  exact this j h
theorem Pen.same {H H' : Hp} {p c : Addr} {ms : List Int} {t : Nat} {z : Int} (P : Pen H p c ms t z) (s : Same H H') : Pen H' p c ms t z := ⟨s _ _ P.a, s _ _ P.b⟩
theorem Pen.ne {H : Hp} {p c : Addr} {ms : List Int} {t : Nat} {z : Int} (P : Pen H p c ms t z) : p ≠ c := ne_of P.a P.b (by intro e; injection e with e; cases ms with | nil => cases e | cons x r => cases e)
def spName : Sp := fun vs H Q _ => ∃ (p c : Addr) (ms : List Int) (t : Nat) (z : Int), vs = [.ref p] ∧ Pen H p c ms t z ∧ t < 900000 ∧
  ∀ (x : Str) (H' : Hp) (t' : Nat) (z' : Int), IsNm x → But p H H' → Pen H' p c ms t' z' → t' ≤ t + 10 → Q (.str x) H'
end Z
namespace Z
open PySem PySem.Spec PyProof.Rows L2 TL
theorem But.same_upd {H H' : Hp} {D : Addr} {o : HO} (s : Same H H') (h : H D = none) : Same H (upd H' D o) := fun b u e => by rw [upd_ne (ne_of_none e h)]; exact s b u e
theorem filterMap_take {α β : Type} (F : α → Option β) (xs : List α) {i : Nat} {x : α} (h : xs[i]? = some x) : (xs.take (i + 1)).filterMap F = (xs.take i).filterMap F ++ (F x).toList := by
  have e : xs.take (i + 1) = xs.take i ++ [x] := by
    rw [List.take_succ, h]
    rfl
  rw [e, List.filterMap_append]
  cases e2 : F x <;> simp [e2]
/-- a comprehension whose elements make nothing: F of each item, none where it is left out -/
theorem lc_fm {J : It} {n : Nat} {G : Hp → Prop} {Y : Nat → Hp → V → Hp → Prop} (w : Walk J n G Y) {g : TG} {tt : TT} {te : TE} {vs : List Nat} {σ : L2.St} {H1 : Hp} {D : Addr} {Qd : Hp → Prop} (xs : List V) (F : V → Option V)
    (hn : n = xs.length) (hY : ∀ i H x H', i < n → Y i H x H' → H' = H ∧ xs[i]? = some x) (hD : H1 D = none) (hG : ∀ H', Same H1 H' → G H') (hz : xs.length < sizeLine)
    (hs : ∀ x ∈ xs, ∀ H', Same H1 H' → ∀ (Kt : V → Hp → Prop) (Kf : Hp → Prop), (∀ y, F x = some y → Kt y H') → (F x = none → Kf H') →
      g x (wipe σ vs) H' fun σ2 H2 => wipe σ2 vs = wipe σ vs ∧ tt σ2 H2 fun b H3 => if b = true then te σ2 H3 Kt else Kf H3)
    (hd : Qd (upd H1 D (.lst (xs.filterMap F)))) :
    ∃ W : Nat → Nat → Hp → Prop, (∃ m, W 0 m (upd H1 D (.lst []))) ∧ ∀ i m H, W i m H →
      (J.stop i H ∧ Qd H) ∨ (J.go i H ∧ ∃ Nx : Hp → Prop, (∀ H', Nx H' → ∃ m', m' < m ∧ W (i + 1) m' H') ∧ ∀ x H', J.yld i H x H' → g x (wipe σ vs) H' fun σ2 H2 => wipe σ2 vs = wipe σ vs ∧ tt σ2 H2 fun b H3 =>
        if b = true then te σ2 H3 fun y H4 => ∃ acc, H4 D = some (.lst acc) ∧ acc.length < sizeLine ∧ Nx (upd H4 D (.lst (acc ++ [y]))) else Nx H3) := by
  refine lc_it w (fun i H => H = upd H1 D (.lst ((xs.take i).filterMap F))) rfl (fun i H _ e => by subst e; exact hG _ (same_new hD)) ?_ ?_
  · rintro i x H H' hi rfl y
    obtain ⟨rfl, hx⟩ := hY i _ x H' hi y
    refine hs x (List.mem_of_getElem? hx) _ (same_new hD) _ _ (fun y e => ?_) fun e => ?_
    · refine ⟨_, upd_same, ?_, ?_⟩
      · have h1 : ((xs.take i).filterMap F).length ≤ (xs.take i).length := List.length_filterMap_le ..
        have h2 : (xs.take i).length ≤ xs.length := by rw [List.length_take]; omega
        omega
      · rw [upd_upd, filterMap_take F xs hx, e]
        rfl
    · show _ = _
      rw [filterMap_take F xs hx, e]
      simp
  · rintro H rfl
    rw [hn, List.take_length]
    exact hd
theorem yat (xs : List V) : ∀ i H x H', i < xs.length → YAt xs i H x H' → H' = H ∧ xs[i]? = some x := fun _ _ _ _ _ h => h
/-- the signs of a text as values -/
def sgV (z : Str) : List V := z.cps.toList.map fun c => V.str (sg c)
theorem ystr (z : Str) : ∀ i (H : Hp) (x : V) (H' : Hp), i < z.cps.size → (H' = H ∧ ∃ c, z.cps[i]? = some c ∧ x = .str ⟨#[c]⟩) → H' = H ∧ (sgV z)[i]? = some x := by
  rintro i H x H' hi ⟨rfl, c, hc, rfl⟩
  refine ⟨rfl, ?_⟩
  unfold sgV
  rw [List.getElem?_map, Array.getElem?_toList, hc]
  rfl
theorem yrange (lo : Int) (n : Nat) : ∀ i (H : Hp) (x : V) (H' : Hp), i < n → YFn (fun i => .int (lo + i)) i H x H' → H' = H ∧ ((List.range n).map fun i => V.int (lo + (i : Nat)))[i]? = some x := by
  rintro i H x H' hi ⟨rfl, rfl⟩
  refine ⟨rfl, ?_⟩
  rw [List.getElem?_map, List.getElem?_range hi]
  rfl
/-! ### texts as data -/
theorem IsNm.ok {x : Str} (h : IsNm x) : PyData.strOk x = true := by
  unfold PyData.strOk
  rw [Array.all_eq_true_iff_forall_mem]
  intro c hc
  have := h.az c (Array.mem_toList_iff.mpr hc)
  simp
  omega
theorem dp_strs {K : PySem.W.Frag} {H : Hp} : ∀ xs : List Str, DpAll K H (xs.map V.str) (xs.map PyData.str)
  | [] => .nil
  | _ :: r => .cons (.str _) (dp_strs r)
theorem lay_strs : ∀ xs : List Str, (∀ x ∈ xs, PyData.strOk x = true) → PyData.canLayAll0 (xs.map PyData.str) = true
  | [], _ => by simp [PyData.canLayAll0]
  | x :: r, h => by
    simp only [List.map_cons, PyData.canLayAll0, PyData.canLay0, Bool.and_eq_true]
    exact ⟨h x (List.mem_cons_self ..), lay_strs r fun y hy => h y (List.mem_cons_of_mem _ hy)⟩
theorem deep_strs : ∀ xs : List Str, PyData.depthAll (xs.map PyData.str) = 0
  | [] => by simp [PyData.depthAll]
  | _ :: r => by simp [PyData.depthAll, PyData.depth, deep_strs r]
theorem shaped_strs {xs : List Str} (h : ∀ x ∈ xs, PyData.strOk x = true) : SeqAt.shaped (.list (xs.map PyData.str)) = true := by
  unfold SeqAt.shaped
  simp [PyData.canLay0, lay_strs xs h, PyData.depth, deep_strs]
theorem eqv_list_nil (ds : List PyData) : PyData.eqv (.list ds) (.list []) = ds.isEmpty := by
  cases ds <;> simp [PyData.eqv, PyData.eqvAll]
theorem inV_str (x : Str) (xs : List Str) : inV (.str x) (xs.map V.str) = decide (x ∈ xs) := by
  unfold inV
  induction xs with
  | nil => rfl
  | cons a r ih =>
    rw [List.map_cons, List.any_cons, ih]
    show (a == x || _) = _
    by_cases h : a = x
    · subst h; simp
    · have h' : ¬ x = a := fun e => h e.symm
      simp [h, h']
theorem flat_strs (xs : List Str) : (xs.map V.str).all flatV = true := by
  rw [List.all_eq_true]
  intro v hv
  obtain ⟨x, _, rfl⟩ := List.mem_map.mp hv
  rfl
/-! ### slices of names -/
theorem cut_to (x : Str) (k : Nat) : (cutS x none (some (k : Int))).cps.toList = x.cps.toList.take k := by
  unfold cutS
  show (x.cps.toList.drop 0).take (HT.sIx x.length x.length (some (k : Int)) - 0) = _
  have e : HT.sIx x.length x.length (some (k : Int)) = min k x.length := by
    exact HT.sIx_nat _ _ _
  rw [e, List.drop_zero, Nat.sub_zero]
  have e2 : x.length = x.cps.toList.length := TL.len_tl x
  rw [e2, ← List.take_eq_take_min]
theorem app_tl (x y : Str) : (x ++ y).cps.toList = x.cps.toList ++ y.cps.toList := TL.tl_append x y
/-! ### a name that is not there yet -/
theorem len_le_of_sub {α : Type} [BEq α] [LawfulBEq α] : ∀ {l m : List α}, l.Nodup → (∀ x ∈ l, x ∈ m) → l.length ≤ m.length
  | [], _, _, _ => Nat.zero_le _
  | a :: r, m, nd, h => by
    have ha := h a (List.mem_cons_self ..)
    have nd' := List.nodup_cons.mp nd
    have := len_le_of_sub (l := r) (m := m.erase a) nd'.2 fun x hx => by
      have hne : x ≠ a := fun e => nd'.1 (e ▸ hx)
      exact (List.mem_erase_of_ne hne).mpr (h x (List.mem_cons_of_mem _ hx))
    rw [List.length_erase_of_mem ha] at this
    have hp : 0 < m.length := List.length_pos_of_mem ha
    show r.length + 1 ≤ m.length
    omega
/-- the candidates: the word, its first seven signs and each letter -/
def nearOf (x : Str) : List Str := x :: (Str.ofString "abcdefghijklmnopqrstuvwxyz").cps.toList.map fun c => cutS x none (some 7) ++ sg c
theorem letters_all : ∀ c ∈ (Str.ofString "abcdefghijklmnopqrstuvwxyz").cps.toList, 97 ≤ c ∧ c ≤ 122 := by decide +kernel
theorem letters_nd : (Str.ofString "abcdefghijklmnopqrstuvwxyz").cps.toList.Nodup := by decide +kernel
theorem letters_len : (Str.ofString "abcdefghijklmnopqrstuvwxyz").cps.toList.length = 26 := by decide +kernel
theorem nm_len {x : Str} : x.length = x.cps.toList.length := TL.len_tl x
theorem nm_cut {x y : Str} (hx : IsNm x) (hy : ∀ c ∈ y.cps.toList, 97 ≤ c ∧ c ≤ 122) (h1 : y.cps.toList.length = 1) : IsNm (cutS x none (some 7) ++ y) := by
  have e : (cutS x none (some 7) ++ y).cps.toList = x.cps.toList.take 7 ++ y.cps.toList := by
    rw [app_tl]
    exact congrArg (· ++ _) (cut_to x 7)
  refine ⟨?_, ?_, fun c hc => ?_⟩
  · rw [nm_len, e, List.length_append]; omega
  · rw [nm_len, e, List.length_append, List.length_take]; omega
  · rw [e] at hc
    rcases List.mem_append.mp hc with h | h
    · exact hx.az c (List.mem_of_mem_take h)
    · exact hy c h
theorem near_nm {x : Str} (hx : IsNm x) : ∀ y ∈ nearOf x, IsNm y := by
  intro y hy
  rcases List.mem_cons.mp hy with rfl | hy
  · exact hx
  · obtain ⟨c, hc, rfl⟩ := List.mem_map.mp hy
    refine nm_cut hx (fun d hd => ?_) rfl
    have : d = c := by simpa [sg] using hd
    rw [this]
    exact letters_all c hc
theorem sg_inj {a : Str} {c d : Nat} (h : a ++ sg c = a ++ sg d) : c = d := by
  have e := congrArg (fun z : Str => z.cps.toList) h
  have e2 : a.cps.toList ++ (sg c).cps.toList = a.cps.toList ++ (sg d).cps.toList := by rw [← app_tl, ← app_tl]; exact e
  have e3 := List.append_cancel_left e2
  simpa [sg] using e3
theorem near_new {x : Str} {xs : List Str} (h : xs.length ≤ 25) : (nearOf x).filterMap (fun y => if y ∈ xs then none else some y) ≠ [] := by
  intro e
  have all : ∀ y ∈ nearOf x, y ∈ xs := fun y hy => by
    by_cases hm : y ∈ xs
    · exact hm
    · have := List.filterMap_eq_nil_iff.mp e y hy
      rw [if_neg hm] at this
      cases this
  have nd : ((Str.ofString "abcdefghijklmnopqrstuvwxyz").cps.toList.map fun c => cutS x none (some 7) ++ sg c).Nodup := by
    rw [List.nodup_iff_pairwise_ne, List.pairwise_map]
    exact List.Pairwise.imp (fun {a b} hne he => hne (sg_inj he)) (List.nodup_iff_pairwise_ne.mp letters_nd)
  have := len_le_of_sub nd fun y hy => all y (List.mem_cons_of_mem _ hy)
  rw [List.length_map, letters_len] at this
  omega
theorem IsNm.fit {x : Str} (h : IsNm x) : x.length ≤ sizeLine := Nat.le_trans h.hi (by decide)
theorem nm_both {x y : Str} (hx : IsNm x) (hy : IsNm y) : IsNm (cutS x none (some 7) ++ cutS y none (some 1)) := by
  have e : (cutS y none (some 1)).cps.toList = y.cps.toList.take 1 := cut_to y 1
  refine nm_cut hx (fun c hc => ?_) ?_
  · rw [e] at hc
    exact hy.az c (List.mem_of_mem_take hc)
  · rw [e, List.length_take]
    have := hy.lo
    rw [nm_len] at this
    omega
theorem cut_len (x : Str) (k : Nat) : (cutS x none (some (k : Int))).length ≤ k := by
  rw [nm_len, cut_to, List.length_take]
  omega
abbrev alpha : Str := Str.ofString "abcdefghijklmnopqrstuvwxyz"
def glue7 (y : Str) (v : V) : Option V := match v with
  | .str s => some (.str (cutS y none (some 7) ++ s))
  | _ => none
theorem near_map (y : Str) : [V.str y] ++ (sgV alpha).filterMap (glue7 y) = (nearOf y).map V.str := by
  unfold nearOf sgV
  rw [List.map_cons, List.map_map]
  show V.str y :: _ = V.str y :: _
  refine congrArg (V.str y :: ·) ?_
  generalize alpha.cps.toList = l
  induction l with
  | nil => rfl
  | cons a r ih =>
    rw [List.map_cons, List.map_cons, List.filterMap_cons]
    exact congrArg (V.str _ :: ·) ih
def leftOut (xs : List Str) (v : V) : Option V := if inV v (xs.map V.str) = true then none else some v
theorem left_map (xs : List Str) (l : List Str) : (l.map V.str).filterMap (leftOut xs) = (l.filterMap fun s => if s ∈ xs then none else some s).map V.str := by
  induction l with
  | nil => rfl
  | cons a r ih =>
    rw [List.map_cons, List.filterMap_cons, List.filterMap_cons, ih]
    unfold leftOut
    rw [inV_str]
    by_cases h : a ∈ xs
    · simp [h]
    · simp [h]
theorem sgV_len : (sgV alpha).length = 26 := by decide +kernel
def spNames (K : PySem.W.Frag) : Sp := fun vs H Q _ => ∃ (p c : Addr) (ms : List Int) (t : Nat) (z n : Int), vs = [.ref p, .int n] ∧ Pen H p c ms t z ∧ t < 800000 ∧ 0 ≤ n ∧ n ≤ 25 ∧
  ∀ (xs : List Str) (f : Addr) (H' : Hp) (t' : Nat) (z' : Int), xs.length = n.toNat → (∀ x ∈ xs, IsNm x) → xs.Nodup → H f = none → H' f = some (.lst (xs.map V.str)) → But p H H' → Pen H' p c ms t' z' → t' ≤ t + 12 * n.toNat → Q (.ref f) H'
/-- whether a text is a name -/
def nmB (x : Str) : Bool := decide (1 ≤ x.length) && (decide (x.length ≤ 8) && x.cps.toList.all fun c => decide (c ∈ alpha.cps.toList))
theorem letter_iff {c : Nat} : c ∈ alpha.cps.toList ↔ 97 ≤ c ∧ c ≤ 122 := by
  refine ⟨letters_all c, fun h => ?_⟩
  have e := letters_at (j := c - 97) (by omega)
  rw [show 97 + (c - 97) = c by omega] at e
  exact List.mem_of_getElem? e
theorem nmB_iff {x : Str} : nmB x = true ↔ IsNm x := by
  unfold nmB
  rw [Bool.and_eq_true, Bool.and_eq_true, decide_eq_true_eq, decide_eq_true_eq, List.all_eq_true]
  constructor
  · rintro ⟨h1, h2, h3⟩
    exact ⟨h1, h2, fun c hc => letter_iff.mp (of_decide_eq_true (h3 c hc))⟩
  · intro h
    exact ⟨h.lo, h.hi, fun c hc => decide_eq_true (letter_iff.mpr (h.az c hc))⟩
def spIsName (K : PySem.W.Frag) : Sp := fun vs H Q _ => ∃ (v : V), vs = [v] ∧ ((∃ x, v = .str x ∧ x.length ≤ sizeLine ∧ ∀ H', Same H H' → Q (.bl (nmB x)) H') ∨
  ∃ t, TyX K H v t ∧ PySem.W.kitOne K t (.type "str") = some false ∧ Q (.bl false) H)
end Z
namespace Z
open PySem PySem.Spec PyProof.Rows L2
/-! ### defs that may ask for a repr: nothing is being shown around them -/
structure FnG (P : Program) (w : World) (K : PySem.W.Frag) (mg : Str → Option Value) (base : Heap) (CX : CXT) (k : Nat) (f : Addr) (fd : FuncData) (ps : List Str) (sp : Sp) : Prop where
  len : ∀ vs H Q E, sp vs H Q E → vs.length = ps.length
  run : ∀ (A : Around) (outer : List Env) (s : Shared) (H : Hp) (args : Args) (us : List Value) (vs : List V) (Q : VK) (E : XK), A.guards = some [] → Room k A → Env0 P w K mg base A outer s H → BindsTo s fd args (ps.zip us) → Vals vs us → sp vs H Q E → codeAny (model P w) A (.call (.ref f) args) (CR CX outer P w H s Q E) s
theorem FnG.of {P : Program} {w : World} {K : PySem.W.Frag} {mg : Str → Option Value} {base : Heap} {CX : CXT} {k : Nat} {f : Addr} {fd : FuncData} {ps : List Str} {sp : Sp} (F : FnOk P w K mg base CX k f fd ps sp) : FnG P w K mg base CX k f fd ps sp :=
  ⟨F.len, fun A outer s H args us vs Q E _ hr => F.run A outer s H args us vs Q E hr⟩
theorem FnG.mono {P : Program} {w : World} {K : PySem.W.Frag} {mg : Str → Option Value} {base : Heap} {CX : CXT} {j k : Nat} {f : Addr} {fd : FuncData} {ps : List Str} {sp : Sp} (F : FnG P w K mg base CX j f fd ps sp) (h : j ≤ k) : FnG P w K mg base CX k f fd ps sp :=
  ⟨F.len, fun A outer s H args us vs Q E hg hr => F.run A outer s H args us vs Q E hg (hr.mono h)⟩
section
variable {P : Program} {w : World} {K : PySem.W.Frag} {mg : Str → Option Value} {base : Heap} {x qual : Str} {params : Arguments} {body : List Stmt} {scope : Scope} {dvs : List V} {kws : List (Str × V)} {f : Addr} {fd : FuncData}
theorem okG {CX : CXT} {N ps : List Str} {k : Nat} {sp : Sp} (F : FunD K x qual params body scope dvs kws f fd) (S : FnScope N ps scope) (len : ∀ vs H Q E, sp vs H Q E → vs.length = ps.length)
    (hbody : ∀ (cdv : Value) (A : Around) (outer : List Env) (s : Shared) (H : Hp) (vs : List V) (Q : VK) (E : XK), A.guards = some [] → Room k (A.deeper (envOfC qual scope s.heap.objs.size f cdv)) → sp vs H Q E →
      ∃ t, PSs (cxOf CX P w K mg base N qual scope f cdv A outer s H E) body t ∧ t { nx := fun _ H' => Q .non H', rt := Q } (start N vs) H) : FnG P w K mg base CX (k + 1) f fd ps sp := by
  obtain ⟨oc, od, dV, kV, doc, pm, an, cdv, ct, osl, rfl, lk, hcd, _, _⟩ := F.ex
  constructor
  · exact len
  intro A outer s H args us vs Q E hgu hr e0 hb r hsp
  have hlen := len _ _ _ _ hsp
  have kx : K.In s.heap := e0.mod.kin.keeps (fun b o e => (e0.bs b o e).1)
  have nol : s.heap.NoLimit := e0.mod.nolimit.keeps (fun b o e => (e0.bs b o e).1)
  have kinds : ∀ y ∈ ps.zip us, scope.names.lookup y.1 = some .local ∨ (scope.names.lookup y.1 = some .cell ∧ ((cellsFrom (s.heap.objs.size + 1) scope.names []).lookup y.1).isSome = true) := by
    rintro ⟨n, v⟩ hy
    cases S.par n (List.of_mem_zip hy).1 with
    | inl q => exact Or.inl q
    | inr q => exact Or.inr ⟨q, PySem.W.cellsFrom_some _ _ _ (Or.inl q)⟩
  refine codeAny_call_function hr.depth (kx _ _ lk) rfl S.co S.gen rfl (PySem.W.codeRec_of kx hcd) ?_
  refine hb _ _ _ _ (wpAny_newFunctionEnv_cells S.kind kinds ?_)
  rintro env rfl s1 x1
  refine ⟨nol.keeps x1.toInCall.keep, ?_⟩
  obtain ⟨t, ht, hq⟩ := hbody cdv A outer s H vs Q E hgu (hr.deeper _) hsp
  have I : Inv (cxOf CX P w K mg base N qual scope f cdv A outer s H E) [] (start N vs) H s1 := inv_start S hr.hd e0 hlen r x1
  refine codeAny_func (wpAny_mono (ht.run [] s1 (start N vs) H _ I hq) (fun fl s' hs => ?_) (fun _ _ z => z))
  have ends : ∀ {σ' : L2.St} {H' : Hp} {v : V} {u : Value}, Inv (cxOf CX P w K mg base N qual scope f cdv A outer s H E) [] σ' H' s' → RelV v u → Q v H' → CE outer P w H s Q u s' := by
    intro σ' H' v u J rv q
    exact ⟨v, H', J.os, J.bare, J.base, J.hok, rv, q⟩
  match fl, hs with
  | .ret u, ⟨v, σ', H', J, rv, q⟩ => exact ends J rv q
  | .next, ⟨σ', H', J, q⟩ => exact ends (v := .non) (u := .none) J rfl q
  | .brk, ⟨_, _, _, q⟩ => exact q.elim
  | .cont, ⟨_, _, _, q⟩ => exact q.elim
end
/-- a def of the module that may show things -/
structure DefG (P : Program) (w : World) (K : PySem.W.Frag) (mg : Str → Option Value) (base : Heap) (k : Nat) (x : Str) (ps : List Str) (sp : Sp) : Prop where
  ex : ∃ fd, FnG P w K mg base CX0 k (He.ga K x) fd ps sp ∧ Binds K fd ps []
  kp : PySem.W.keepIn K (.ref (He.ga K x)) = true
  at_ : mg x = some (.ref (He.ga K x))
theorem run_fnG {X : Cx} {CX : CXT} {k : Nat} {f : Addr} {fd : FuncData} {ps : List Str} {sp : Sp} {ds : List Value} {dvs : List V} {E : XK} {pins : List (Addr × Obj)} {σ : L2.St} {H : Hp} {s : Shared} {Q : VK} {us : List Value} {vs : List V}
    (F : FnG X.prog X.w X.K X.mg X.base CX k f fd ps sp) (hgu : X.A.guards = some []) (hr : Room k X.A) (hb : Binds X.K fd ps ds) (hd : Vals dvs ds) (hx : Passes CX X E) (I : Inv X pins σ H s) (r : Vals vs us) (h : sp (vs ++ dvs) H Q E) :
    wpAny (model X.prog X.w) X.A (call (.ref f) us) (EP X pins σ Q) X.xe s := by
  have both : Vals (vs ++ dvs) (us ++ ds) := r.append hd
  have hlen : (us ++ ds).length = ps.length := (both.length.symm).trans (F.len _ _ _ _ h)
  refine wpAny_call ?_
  refine codeAny_mono (F.run X.A X.stack s H ⟨us, []⟩ (us ++ ds) (vs ++ dvs) Q E hgu hr I.env0 (hb s us I.kIn hlen) both h) ?_
  intro res s' hq
  match res, hq with
  | .error e, hq => exact hx pins σ H s e s' I hq
  | .ok (.ret u), hq => exact I.after hq
  | .ok .next, hq => exact hq.elim
  | .ok .brk, hq => exact hq.elim
  | .ok .cont, hq => exact hq.elim
theorem pe_defG {X : Cx} {k : Nat} {x : Str} {ps : List Str} {sp : Sp} {e : Expr} {es : List Expr} {p pos : Pos} {t : TA} (D : DefG X.prog X.w X.K X.mg X.base k x ps sp) (hgu : X.A.guards = some []) (hr : Room k X.A) (hg : Gl X x) (ha : PA X (e :: es) t)
    (hdb : (x == ("__debug__" : Str)) = false := by decide) (he : starEach (e :: es) X.env = (false, eval e X.env) :: starEach es X.env := by rfl) (hpl : (backTo pos (starEach es X.env)).any (·.1) = false := by rfl) :
    PE X (.Call (.Name x p) (e :: es) [] pos) (tCall sp [] E0 t) := by
  obtain ⟨fd, F, b⟩ := D.ex
  exact ⟨fun pins s σ H Q I h => wpAny_Call_Name_kw (ld_glob I hg D.at_ (PySem.W.callWith_K (h₀ := X.base) I.ok.mod.kin D.kp
    (thn (ha.run pos pins s σ H _ I h) fun us s1 ⟨vs, H1, I1, r, q⟩ => ⟨I1.kIn, run_fnG F hgu hr b .nil pass0 I1 r q⟩) he hpl) hdb)⟩
/-! ### repr of data -/
def rRepr (K : PySem.W.Frag) : List V → Hp → VK → Prop := fun xs H Q => ∃ x d, xs = [x] ∧ Dp K H x d ∧ PyData.showable d = true ∧ PyData.hasDict d = false ∧ d.depth ≤ 64 ∧ d.shown.length ≤ sizeLine ∧ Q (.str d.shown) H
theorem kcall_repr {X : Cx} {K : PySem.W.Frag} (hgu : X.A.guards = some []) (hu : X.A.units + 70 < cLine) (hK : X.K = K := by rfl) : CallR X (.builtin "repr") (rRepr K) := by
  subst hK
  rintro pins s σ H xs us Q I r ⟨x, d, rfl, hd, hs, hn, hdep, hz, q⟩
  cases r with
  | cons r1 rs =>
    cases rs
    rename_i u
    have fin : ∀ (h' : Heap) (y : Tok) (tk : Nat), (∀ b o, s.heap.get? b = some o → h'.get? b = some o) → EP X pins σ Q (.str d.shown y) { s with heap := h', toks := tk } := fun h' y tk hk => ⟨.str d.shown, H, I.kept hk, ⟨y, rfl⟩, q⟩
    have fin0 : ∀ (y : Tok) (tk : Nat), EP X pins σ Q (.str d.shown y) { s with toks := tk } := fun y tk => fin s.heap y tk fun _ _ e => e
    cases hd with
    | non => cases r1; exact PySem.P.repr_of_none (fin0 _ _)
    | bl b => cases r1; exact PySem.P.repr_of_bool (fin0 _ _)
    | int i =>
      obtain ⟨t, rfl⟩ := r1
      exact PySem.P.repr_of_int (by simpa [PyData.showable] using hs) (fin0 _ _)
    | str z =>
      obtain ⟨t, rfl⟩ := r1
      exact PySem.P.repr_of_str (fin0 _ _) hz
    | lst hq ha =>
      obtain ⟨as, rd⟩ := Dp.reads I _ _ _ (Dp.lst hq ha) r1
      cases r1
      exact repr_of_reads' rd hs (PyData.noDict_hsm hn) hgu (by omega) (fun _ _ e => e) (fun h' y tk hk => fin h' y tk hk) hz
    | tup hq ha =>
      obtain ⟨as, rd⟩ := Dp.reads I _ _ _ (Dp.tup hq ha) r1
      cases r1
      exact repr_of_reads' rd hs (PyData.noDict_hsm hn) hgu (by omega) (fun _ _ e => e) (fun h' y tk hk => fin h' y tk hk) hz
/-! ### a law whose def may show things -/
theorem law_callG {P : Program} {w : World} {K : PySem.W.Frag} {mg mb : Str → Option Value} {CX : CXT} {k : Nat} {fa a : Addr} {fd : FuncData} {x : Str} {sp : Sp} {s₁ : Shared} {vs : List Value} {ns : List Int}
    (KX : K.In s₁.heap) (hns : s₁.heap.Ns mainGlobals mg) (hb : s₁.heap.Ns builtinsNs mb) (hbb : ∀ x : Str, x ≠ "__name__" → mb x = bootBuiltins x) (hlim : s₁.heap.NoLimit) (hgens : s₁.gens = #[])
    (ha : s₁.heap.get? a = some { cls := .type "list", data := .seq vs.toArray }) (hi : IntsAre vs ns) (hl : ns.length ≤ sizeLine) (hr : Room k callerA)
    (F : ∀ base : Heap, K.In base → base.Ns mainGlobals mg → FnG P w K mg base CX k fa fd [x] sp) (hbind : ∀ (s : Shared) (u : Value), BindsTo s fd ⟨[u], []⟩ [(x, u)])
    (hsp : ∀ H : Hp, Only H → SqL K H a (ns.map V.int) → sp [.ref a] H (fun v _ => v = .bl true) fun _ _ _ => False) (hCX : ∀ H e s', CX [] H s₁ (fun _ _ _ => False) e s' → False) :
    codeAny (model P w) callerA (.call (.ref fa) ⟨[.ref a], []⟩) (fun r s' => r = .ok (.ret (.bool true)) ∧ OldK s₁.heap s'.heap ∧ s'.os = s₁.os ∧ AllBare s'.gens) s₁ := by
  have relV := vals_ints hi
  have sameLen := hi.length
  have main : ∀ H : Hp, Only H → SqL K H a (ns.map V.int) → HOk P w H s₁.heap → (∀ b, H b ≠ none → b = a) → (H a ≠ none → K.lookup a = none) →
      codeAny (model P w) callerA (.call (.ref fa) ⟨[.ref a], []⟩) (fun r s' => r = .ok (.ret (.bool true)) ∧ OldK s₁.heap s'.heap ∧ s'.os = s₁.os ∧ AllBare s'.gens) s₁ := by
    intro H hO hS hok onlyA freeK
    have seen : ∀ {b : Addr} {o : Obj}, s₁.heap.get? b = some o → H b = none → (hidT s₁.heap H).get? b = some o := by
      intro b o e n
      exact hidT_get e n
    have noDict : ∀ {b : Addr} {o : Obj} {es : Array DictEntry} {ep : Nat}, s₁.heap.get? b = some o → o.data = .dict es ep → H b = none := by
      intro b o es ep e d
      cases q : H b with
      | none => rfl
      | some u =>
        have eb : b = a := onlyA b (by rw [q]; simp)
        subst eb
        rw [ha] at e
        cases e
        have d2 : Data.seq vs.toArray _ = Data.dict es ep := d
        cases d2
    have nsKeep : ∀ {b : Addr} {m : Str → Option Value}, s₁.heap.Ns b m → (hidT s₁.heap H).Ns b m := by
      rintro b m ⟨o, es, ep, e, d, r⟩
      exact ⟨o, es, ep, seen e (noDict e d), d, r⟩
    have kBase : K.In (hidT s₁.heap H) := by
      intro b o e
      refine seen (KX b o e) ?_
      cases q : H b with
      | none => rfl
      | some u =>
        have eb : b = a := onlyA b (by rw [q]; simp)
        subst eb
        rw [freeK (by rw [q]; simp)] at e
        cases e
    have theMod : Mod K mg (hidT s₁.heap H) := ⟨kBase, nsKeep hns, ⟨mb, nsKeep hb, hbb⟩, let ⟨mc, h1, h2⟩ := hlim; ⟨mc, nsKeep h1, h2⟩⟩
    have start0 : Env0 P w K mg (hidT s₁.heap H) callerA [] s₁ H :=
      ⟨rfl, theMod, fun b o e => of_hidT e, Nat.le_of_eq (hidT_size _ _), trivial, fun b hb => absurd (show b ∈ ([] : List Addr) from hb) (by simp), hok, .of_eq hgens⟩
    have ran := (F _ kBase (nsKeep hns)).run callerA [] s₁ H ⟨[.ref a], []⟩ [.ref a] [.ref a] _ _ rfl hr start0 (hbind s₁ (.ref a)) (.cons rfl .nil) (hsp H hO hS)
    refine codeAny_mono ran ?_
    intro r s' h
    match r, h with
    | .error e, h => exact (hCX H e s' h).elim
    | .ok .next, h => exact h.elim
    | .ok .brk, h => exact h.elim
    | .ok .cont, h => exact h.elim
    | .ok (.ret u), ⟨v, H', os, bare, un, hok', rv, q⟩ =>
      have hv : v = .bl true := q
      subst hv
      obtain rfl : u = Value.bool true := rv
      refine ⟨rfl, OldK.of_keep (fun b o e => ?_), os, bare⟩
      cases q : H b with
      | none => exact un.keep b o e q (by intro z; exact absurd (show b ∈ ([] : List Addr) from z) (by simp)) (by simp)
      | some u =>
        cases hO b with
        | inl z => rw [q] at z; cases z
        | inr z =>
          obtain ⟨ob, xs, z⟩ := z
          obtain ⟨e1, _⟩ := hok b _ z
          obtain ⟨e2, _⟩ := hok' b _ (un.frzs b ob _ z)
          rw [e] at e1
          cases e1
          exact e2
  cases hk : K.lookup a with
  | some o =>
    have e := KX a o hk
    rw [ha] at e
    cases e
    exact main (fun _ => none) (fun _ => .inl rfl) (.inr ⟨_, vs.toArray, _, hk, rfl, rfl, rfl, by rw [List.size_toArray, sameLen]; exact hl, by simpa using relV⟩) (fun b u z => nomatch (show (none : Option HO) = some u from z)) (fun b z => absurd rfl z) (fun z => absurd rfl z)
  | none =>
    refine main (fun b => if b = a then some (.frz { cls := .type "list", data := .seq vs.toArray } (.lst (ns.map V.int))) else none) ?_ (.inl (.inr ⟨{ cls := .type "list", data := .seq vs.toArray }, if_pos rfl⟩)) ?_ ?_ (fun _ => hk)
    · intro b
      by_cases eb : b = a
      · exact .inr ⟨_, _, if_pos eb⟩
      · exact .inl (if_neg eb)
    · intro b u z
      by_cases eb : b = a
      · have z2 := (if_pos eb).symm.trans z
        cases z2
        subst eb
        exact ⟨ha, by rw [List.length_map]; exact hl, vs, _, relV, ha⟩
      · have z2 := (if_neg eb).symm.trans z
        cases z2
    · intro b z
      by_cases eb : b = a
      · exact eb
      · exact absurd (if_neg eb) z
/-- the end over a head by facts -/
theorem walk_G {l : PySem.W.OpenLaw} {n k : Nat} {q : Program} {loose : List Str} {XP : (Str → Option Value) → Heap → Prop} {YP : World → Heap → Prop} {d : DefRec} {CX : CXT} {x : Str} (hn : l.most = some n) (hn2 : n ≤ sizeLine) (hdf : d.params.defaults = []) (hr : Room k callerA)
    (F : ∀ (w : World) (mg : Str → Option Value) (fa : Addr) (h : Heap), YP w h → h.Ns mainGlobals mg → mg d.name = some (.ref fa) → ∃ (K : PySem.W.Frag) (fd : FuncData) (sp : Sp), K.In h ∧ (∀ (s : Shared) (u : Value), BindsTo s fd ⟨[u], []⟩ [(x, u)]) ∧
        (∀ (H : Hp) (a : Addr) (ns : List Int), ns.length ≤ n → Only H → SqL K H a (ns.map V.int) → sp [.ref a] H (fun v _ => v = .bl true) fun _ _ _ => False) ∧ ∀ base : Heap, K.In base → base.Ns mainGlobals mg → FnG l.prog w K mg base CX k fa fd [x] sp)
    (hCX : ∀ (H : Hp) (s : Shared) (e : Value) (s' : Shared), CX [] H s (fun _ _ _ => False) e s' → False) : PySem.W.WalkO q loose XP YP l.row.toRowW d [] (fun f vs => PySem.call f vs) := by
  refine Att.attach_call hn hdf ?_
  intro w s₀ s₁ mg mb fa o pm cd doc a vs ns G Y ho hd hcd hmg hobj hints hlen hg
  obtain ⟨K, fd, sp, kx, hbd, hsp, hF⟩ := F w mg fa _ Y G.T.g hmg
  exact law_callG kx G.T.g G.T.b G.T.builtins G.T.nolimit hg hobj hints (Nat.le_trans hlen hn2) hr hF hbd (fun H hO hS => hsp H a ns hlen hO hS) (fun H e s' => hCX H s₁ e s')
end Z
namespace Z
open PySem PySem.Spec PyProof.Rows L2
/-! ### comparisons by an own method -/
/-- a method of an own class keeps its promise -/
structure DefM (P : Program) (w : World) (K : PySem.W.Frag) (mg : Str → Option Value) (base : Heap) (k : Nat) (f : Addr) (ps : List Str) (sp : Sp) : Prop where
  ex : ∃ fd, FnOk P w K mg base CX0 k f fd ps sp ∧ Binds K fd ps []
/-- x op y by the method of x's class: what it is handed, what it gives back (a truth value) -/
def rOwn (K : PySem.W.Frag) (C : Addr) (sp : Sp) : R2 := fun x y H Q => ∃ (a dx : Addr) (fs : List (Str × V)) (tb : Value), x = .ref a ∧ H a = some (.ins C dx fs) ∧ TyX K H y tb ∧ PySem.W.notFirst K C tb = true ∧ sp [.ref a, y] H (fun v H' => ∃ b, v = .bl b ∧ Q (.bl b) H') E0
theorem op_own {X : Cx} {K : PySem.W.Frag} {op : CmpOp} {C f : Addr} {k : Nat} {ps : List Str} {sp : Sp} (D : DefM X.prog X.w K X.mg X.base k f ps sp) (hr : Room k X.A) (hs : PySem.W.findIn K (.ref C) (cmpInfo op).2.1 = some (some (.ref f))) (hf : PySem.W.isFn K (.ref f) = true)
    (ho : ∀ u v, compareOp op u v = richCompare op u v := by intro _ _; rfl) (hK : X.K = K := by rfl) : OpR X (compareOp op) (rOwn K C sp) := by
  subst hK
  obtain ⟨fd, F, hb⟩ := D.ex
  rintro pins s σ H x y v u Q I rx ry ⟨a, dx, fs, tb, rfl, ha, ty, hnf, hq⟩
  cases rx
  obtain ⟨mA, J, _⟩ := ins_get I.hok ha
  obtain ⟨od, J, _⟩ := J.look
  obtain ⟨m, hF⟩ := I.fr
  obtain ⟨Pk, Z1, pk, _⟩ := kit_of I ry ty
  rw [ho]
  refine PySem.W.cmp_K (op := op) (tb := tb) hr.units0 hF I.ok.mod.kin J (Z1.ty (model X.prog X.w) s.heap I.kIn pk) hnf hs hf ?_
  have hv : Vals [V.ref a, y] [Value.ref a, u] := .cons rfl (.cons ry .nil)
  refine wpAny_mono (run_fn F hr hb .nil pass0 I hv hq) (fun r s' z => ?_) (fun _ _ z => z)
  obtain ⟨v', H', I', rv, b, rfl, q⟩ := z
  cases rv
  exact ⟨.bl b, H', I', rfl, q⟩
section
variable {prog : Program} {w : World} {A : Around} {E : Value → Shared → Prop} {s : Shared} {K : PySem.W.Frag} {x C f : Addr} {ox : Obj} {od : Option Obj} {u : Value}
theorem ne_body {Q : Fin → Shared → Prop} (X : K.In s.heap) (I : PySem.W.InstAt s.heap x ox C od) (hs : PySem.W.findIn K (.ref C) "__eq__" = some (some (.ref f))) (hf : PySem.W.isFn K (.ref f) = true) (hu : A.units < cLine)
    (hc : wpAny (model prog w) A (call (.ref f) [.ref x, u]) (fun v s' => ∃ b, v = .bool b ∧ Q (.done (.ret (.bool (!b)))) s') E s) : wpAny (model prog w) A (Builtin.«object.__ne__» ⟨[.ref x, u], []⟩) Q E s := by
  unfold Builtin.«object.__ne__»
  repeat (first
    | (with_reducible refine wpAny_cRoomFor hu ?_)
    | (refine wpAny_bind (m := callSpecialIfBound? (.ref x) (Str.ofString "__eq__") [u]) (PySem.W.ifBound_K X I hs hf (wpAny_mono hc (fun r s' hr => ?_) fun _ _ e => e)))
    | wp_step)
  obtain ⟨b, rfl, hq⟩ := hr
  repeat (first | exact hq | exact wpAny_pure hq | exact wpAny_truthy_bool hq | (refine wpAny_bind (m := truthy (.bool _)) (wpAny_truthy_bool ?_)) | wp_step)
theorem ne_bound {M : Model} {args : List Value} {Q : Option Value → Shared → Prop} (X : K.In s.heap) (I : PySem.W.InstAt s.heap x ox C od) (hn : PySem.W.findIn K (.ref C) "__ne__" = some (some (.builtin "object.__ne__")))
    (h : wpAny M A (call (.builtin "object.__ne__") (.ref x :: args)) (fun v => Q (some v)) E s) : wpAny M A (callSpecialIfBound? (.ref x) "__ne__" args) Q E s := by
  have done : wpAny M A (call (.builtin "object.__ne__") ([.ref x] ++ args) >>= fun v => pure (some v)) Q E s := wpAny_bind (wpAny_mono h (fun v s' h' => wpAny_pure h') fun _ _ h' => h')
  simp only [callSpecialIfBound?, bindSpecialIfBound?]
  refine wpAny_holding (wpAny_bind (wpAny_bind (wpAny_bind (I.type.here ((PySem.W.looks_findIn X hn).here (wpAny_bind (wpAny_askSetting (wpAny_ite ?_))))))))
  split
  · exact wpAny_bind (wpAny_of_eq (F.cmp_object.ne.bind _) (wpAny_pure (by exact done)))
  · exact wpAny_tryCatch (wpAny_bind (wpAny_of_eq (F.cmp_object.ne.bind _) (wpAny_pure (by exact done))))
theorem ne_rich {tb : Value} {Q : Value → Shared → Prop} (hu : A.units + 1 < cLine) (X : K.In s.heap) (I : PySem.W.InstAt s.heap x ox C od) (hm : PySem.W.mroIn K C (.type "object") = some true) (hb : PySem.W.Looks (model prog w) s.heap (typeOf u) tb) (hnf : PySem.W.notFirst K C tb = true)
    (hs : PySem.W.findIn K (.ref C) "__eq__" = some (some (.ref f))) (hf : PySem.W.isFn K (.ref f) = true) (hn : PySem.W.findIn K (.ref C) "__ne__" = some (some (.builtin "object.__ne__")))
    (hc : wpAny (model prog w) A.in1 (call (.ref f) [.ref x, u]) (fun v s' => ∃ b, v = .bool b ∧ Q (.bool (!b)) s') E s) : wpAny (model prog w) A (richCompare .NotEq (.ref x) u) Q E s := by
  have one : wpAny (model prog w) A (tryCompare (.ref x) "__ne__" u) (fun r s' => ∃ v, r = some v ∧ Q v s') E s := by
    unfold tryCompare
    refine wpAny_bind (ne_bound X I hn (wpAny_call (codeAny_call_builtin F.cmp_object.ne.plain F.cmpEntry_ne (PySem.W.check_slot F.cmpKind_ne F.cmpSplit_ne (I.type.andThen (PySem.W.looks_mroIn X hm)) (F.cmpArgs_ne _ _) (ne_body (A := A.in1) X I hs hf hu (wpAny_mono hc (fun v s' hv => ?_) fun _ _ e => e))))))
    obtain ⟨b, rfl, hq⟩ := hv
    first | exact ⟨b, rfl, wpAny_pure ⟨_, rfl, hq⟩⟩ | exact ⟨b, rfl, wpAny_pure (wpAny_pure ⟨_, rfl, hq⟩)⟩ | exact ⟨b, rfl, ⟨_, rfl, hq⟩⟩
  unfold richCompare
  simp only [oneThing_ref]
  refine wpAny_holding (wpAny_bind (wpAny_cRoomFor (by omega) (wpAny_bind (I.type.here (wpAny_bind (hb.here ?_))))))
  split
  · rename_i q
    have e : PySem.W.subIn K tb (.ref C) = some false := by
      cases Bool.or_eq_true_iff.mp hnf with
      | inl e => rw [beq_iff_eq.mp e] at q; simp at q
      | inr e => exact beq_iff_eq.mp e
    refine wpAny_bind ((PySem.W.looks_subIn X e).here ?_)
    simp only [Bool.false_eq_true, if_false]
    refine wpAny_bind (wpAny_mono one (fun r s' z => ?_) (fun _ _ z => z))
    obtain ⟨v, rfl, hq⟩ := z
    exact wpAny_pure hq
  · refine wpAny_bind (wpAny_pure ?_)
    simp only [Bool.false_eq_true, if_false]
    refine wpAny_bind (wpAny_mono one (fun r s' z => ?_) (fun _ _ z => z))
    obtain ⟨v, rfl, hq⟩ := z
    exact wpAny_pure hq
end
/-- x != y by the own == of x's class -/
def rOwnNe (K : PySem.W.Frag) (C : Addr) (sp : Sp) : R2 := fun x y H Q => ∃ (a dx : Addr) (fs : List (Str × V)) (tb : Value), x = .ref a ∧ H a = some (.ins C dx fs) ∧ TyX K H y tb ∧ PySem.W.notFirst K C tb = true ∧ sp [.ref a, y] H (fun v H' => ∃ b, v = .bl b ∧ Q (.bl (!b)) H') E0
theorem op_ownNe {X : Cx} {K : PySem.W.Frag} {C f : Addr} {k : Nat} {ps : List Str} {sp : Sp} (D : DefM X.prog X.w K X.mg X.base k f ps sp) (hr : Room (k + 1) X.A) (hm : PySem.W.mroIn K C (.type "object") = some true)
    (hs : PySem.W.findIn K (.ref C) "__eq__" = some (some (.ref f))) (hf : PySem.W.isFn K (.ref f) = true) (hn : PySem.W.findIn K (.ref C) "__ne__" = some (some (.builtin "object.__ne__"))) (hK : X.K = K := by rfl) : OpR X (compareOp .NotEq) (rOwnNe K C sp) := by
  subst hK
  obtain ⟨fd, F, hb⟩ := D.ex
  rintro pins s σ H x y v u Q I rx ry ⟨a, dx, fs, tb, rfl, ha, ty, hnf, hq⟩
  cases rx
  obtain ⟨mA, J, _⟩ := ins_get I.hok ha
  obtain ⟨od, J, _⟩ := J.look
  obtain ⟨Pk, Z1, pk, _⟩ := kit_of I ry ty
  show wpAny (model X.prog X.w) X.A (richCompare .NotEq (.ref a) u) (EP X pins σ Q) X.xe s
  have hun := hr.units0
  refine ne_rich (by have := hr.un; omega) I.kIn J hm (Z1.ty (model X.prog X.w) s.heap I.kIn pk) hnf hs hf hn ?_
  have e0 : Env0 X.prog X.w X.K X.mg X.base X.A.in1 X.stack s H := by
    have e := I.env0
    exact ⟨e.frames, e.mod, e.bs, e.bsz, e.funs, e.frf, e.hok, e.bare⟩
  have hv : Vals [V.ref a, y] [Value.ref a, u] := .cons rfl (.cons ry .nil)
  have hl : [V.ref a, y].length = ps.length := F.len _ _ _ _ hq
  have bt : BindsTo s fd ⟨[.ref a, u], []⟩ (ps.zip [.ref a, u]) := by
    have := hb s [.ref a, u] I.kIn (by simpa using hl)
    simpa using this
  refine wpAny_call (codeAny_mono (F.run X.A.in1 X.stack s H ⟨[.ref a, u], []⟩ [.ref a, u] [.ref a, y] _ E0 hr.in1 e0 bt hv hq) (fun r s' hq => ?_))
  match r, hq with
  | .error e, hq => exact (show False from hq).elim
  | .ok .next, hq => exact hq.elim
  | .ok .brk, hq => exact hq.elim
  | .ok .cont, hq => exact hq.elim
  | .ok (.ret w), hq =>
    obtain ⟨z, H', I', rz, b, rfl, q⟩ := I.after hq
    cases rz
    exact ⟨b, rfl, .bl (!b), H', I', rfl, q⟩
end Z
namespace Z
open PySem PySem.Spec PyProof.Rows L2
/-! ### a caught exception that is kept -/
/-- a caught exception of the class cls stands at a, its own dict at d -/
def ExK (cls : Value) (d : Option Addr) (a : Addr) : HO := .ext fun h => ∃ (oe : Obj) (vs : Array Value), h.get? a = some oe ∧ Zc cls d oe ∧ oe.data = .fields vs
theorem exK_ok {P : Program} {w : World} {H : Hp} {h : Heap} {a : Addr} {cls : Value} {d : Option Addr} {oe : Obj} {vs : Array Value} (e : h.get? a = some oe) (z : Zc cls d oe) (f : oe.data = .fields vs) : ObjOk P w H h a (ExK cls d a) :=
  ⟨⟨oe, vs, e, z, f⟩, ⟨oe, e⟩, fun h1 h2 ⟨o1, v1, e1, z1, f1⟩ k => ⟨o1, v1, k o1 e1, z1, f1⟩⟩
theorem adopt {X : Cx} {pins : List (Addr × Obj)} {σ : L2.St} {H : Hp} {s : Shared} {a : Addr} {oe : Obj} {o : HO} (I : Inv X ((a, oe) :: pins) σ H s) (hnew : X.s_0.heap.get? a = none) (hp : ∀ p ∈ X.pn ++ pins, p.1 ≠ a) (ok : ObjOk X.prog X.w (upd H a o) s.heap a o) : Inv X pins σ (upd H a o) s := by
  obtain ⟨hget, hna, hnl, hnf, hnc⟩ := I.pin (a, oe) (List.mem_append_right _ (List.mem_cons_self ..))
  have other : ∀ b u, H b = some u → b ≠ a := by
    intro b u e z
    rw [z, hna] at e
    cases e
  have up : ∀ b u, H b = some u → upd H a o b = some u := fun b u e => by rw [upd_ne (other b u e)]; exact e
  refine ⟨I.ok, I.os, I.bare, ⟨I.base.keep, I.base.slot, ?_, I.base.there, ?_, ?_, ?_⟩, I.loc, I.cell, ?_, ?_, ?_, I.hok.laidN (fun _ _ e => e) hna ok, I.len⟩
  · intro b ob e n hx
    have nb : b ≠ a := by
      intro z
      rw [z, hnew] at e
      cases e
    rw [upd_ne nb]
    exact I.base.free b ob e n hx
  · exact fun b xs e => up b _ (I.base.tups b xs e)
  · exact fun b ob u e => up b _ (I.base.frzs b ob u e)
  · intro b ps e
    obtain ⟨more, e2⟩ := I.base.tbls b ps e
    exact ⟨more, up b _ e2⟩
  · rw [upd_ne (Ne.symm hnl)]
    exact I.free
  · intro x c e
    have nc : c ≠ a := by
      rintro rfl
      obtain ⟨v, ob, e2, d2⟩ := I.cell x c e
      have e3 : some oe = some ob := hget.symm.trans e2
      cases e3
      exact hnc v d2
    rw [upd_ne nc]
    exact I.freeC x c e
  · intro p hpp
    obtain ⟨q1, q2, q3⟩ := I.pin p (by
      rcases List.mem_append.mp hpp with z | z
      · exact List.mem_append_left _ z
      · exact List.mem_append_right _ (List.mem_cons_of_mem _ z))
    exact ⟨q1, by rw [upd_ne (hp p hpp)]; exact q2, q3⟩
/-- what the clause wishes: behind the suite the name is gone, and the exception is kept -/
def wKeep (K : PySem.W.Frag) (c : Value) (i : Nat) (ts : Addr → Value → Option Addr → TS) (Wout : WX) (D : Ends) : WX := fun cls d σ H =>
  ∃ b, PySem.W.exmOne K cls c = some b ∧ (b = false → Wout cls d σ H) ∧ (b = true → ∀ a, H a = none → ts a cls d { nx := fun σ' H' => D.nx (σ'.set i none) (upd H' a (ExK cls d a)), rt := fun _ _ => False } (σ.set i (some (.ref a))) H)
theorem ps_try_keep {X : Cx} (hex : X.ex = []) {x n : Str} {c : Value} {i : Nat} {body suite : List Stmt} {b₀ : Stmt} {np pos pos' : Pos} {tb : WX → TS} {ts : Addr → Value → Option Addr → TS} {Wout : WX} (hs : X.stack = X.env :: X.outer) (hf : X.env.frame = some X.env.locals) (hN : X.N.Nodup) (hi : X.N[i]? = some n)
    (hln : X.env.kindOf n = some .local) (hc : Names X x c) (tk : Takes X Wout) (hb : ∀ (W : WX) (pn : List (Addr × Obj)) (xe : Value → Shared → Prop), Takes (X.tr pn xe) W → PassesOwn (model X.prog X.w) X.A X.env xe → PSs (X.tr pn xe) body (tb W))
    (hsu : ∀ (a : Addr) (oe : Obj) (cls : Value) (d : Option Addr) (pn : List (Addr × Obj)), Zc cls d oe → (∃ vs, oe.data = .fields vs) → PSs (X.suite a ((a, oe) :: pn)) (b₀ :: suite) (ts a cls d)) :
    PS X (.Try body [.ExceptHandler (some (.Name x np)) (some n) (b₀ :: suite) pos'] [] [] pos) (fun D σ H => tb (wKeep X.K c i ts Wout D) D σ H) := by
  constructor
  intro pins s σ H D I h
  have okX := I.ok
  have frs0 : X.A.frames = some (X.env :: X.outer) := by rw [okX.frames, hs]
  have locn : Loc X.env.scope n := Or.inl hln
  apply wpAny_Try_except
  have whole := (hb (wKeep X.K c i ts Wout D) (X.pn ++ pins) (fun e s₁ => wpAny (model X.prog X.w) X.A (noteFrame e X.env) (fun _ s₂ => wpAny (model X.prog X.w) X.A (setFlight e none) (fun _ s₃ => wpAny (model X.prog X.w) X.A (handleBy e X.env [.ExceptHandler (some (.Name x np)) (some n) (b₀ :: suite) pos']) (SP X pins D) X.xe s₃) X.xe s₂) X.xe s₁) ?caught PassesOwn.looking).run [] s σ H D (I.toTry _) h
  case caught =>
    rintro u s' ⟨a, B, sI, pins', σ', H', cls, d, rfl, J', nb, up, sky, na, os, ag, b, hb1, hno, hyes⟩
    have J : Inv X pins σ' H' sI := J'.ofTry okX
    have sky' : Sky B (X.env :: X.outer) a (Zc cls d) X.env.locals s'.heap := by rw [← hs]; exact sky
    show wpAny (model X.prog X.w) X.A (noteFrame (.ref a) X.env) _ _ _
    apply Sky.land Zc.steady frs0 hf sky'
    intro h3 fl3 up3
    have J3 : Inv X pins σ' H' { s' with heap := h3 } := J.landed nb fl3.1 (up.trans up3) os ag
    obtain ⟨oe3, vs3, he3, hz3, hd3⟩ := fl3.there
    have noFrame : ∀ {g : Heap} {o : Obj} {vs : Array Value}, g.FunFrames B (X.env :: X.outer) → g.get? a = some o → o.data = .fields vs → a ∉ frs (X.env :: X.outer) := by
      intro g o vs ff e dd hm
      obtain ⟨_, o', e', hnf⟩ := ff.mem hm
      rw [e] at e'
      cases e'
      exact hnf _ dd
    have nfr := noFrame fl3.2.2.1 he3 hd3
    have nL : a ≠ X.env.locals := fun z => nfr (List.mem_filterMap.mpr ⟨X.env, List.mem_cons_self, by rw [hf, z]⟩)
    have nF : a ∉ X.fs := by
      intro hm
      obtain ⟨e, he, q⟩ := List.mem_filterMap.mp hm
      exact nfr (List.mem_filterMap.mpr ⟨e, List.mem_cons_of_mem _ he, q⟩)
    -- the exception was not there ahead of the call
    have ground : B.get? a = none := fl3.2.1
    have notI : sI.heap.get? a = none := by
      cases q : sI.heap.get? a with
      | none => rfl
      | some o =>
        have hfr : a ∉ frs X.stack := by rw [hs]; exact nfr
        rw [nb a o q hfr] at ground
        cases ground
    have not0 : X.ex = [] → X.s_0.heap.get? a = none := by
      intro hex
      cases q : X.s_0.heap.get? a with
      | none => rfl
      | some o =>
        obtain ⟨o', q'⟩ := J.base.there a o q (by rw [hex]; simp)
        rw [notI] at q'
        cases q'
    have apartPins : ∀ p ∈ X.pn ++ pins, p.1 ≠ a := by
      intro p hp z
      have := (J.pin p hp).1
      rw [z, notI] at this
      cases this
    have S3 := J3.suite he3 hd3 na nL nF
    refine wpAny_handleBy_cons (codeAny_handlers_test ?_) (by intro q; cases q)
    have LT : PySem.W.Looks (model X.prog X.w) h3 (typeOf (.ref a)) cls := fun A Q E s k q => wpAny_typeOf_ref (k _ _ he3) (by rw [hz3.1]; exact q)
    have LM := PySem.W.exm_one (M := model X.prog X.w) (J3.kIn) LT hb1
    have asked : ∀ {Q : Value → Shared → Prop} {E : Value → Shared → Prop}, Q c { s' with heap := h3 } → wpAny (model X.prog X.w) (X.A.mark (some (.ref a))) (eval (.Name x np) X.env) Q E { s' with heap := h3 } := by
      intro Q E q
      obtain ⟨hg, hdbg, hm⟩ := hc
      rcases hm with hm | ⟨hm, hv, hnn⟩
      · exact ld_glob (X := X.suite a ((a, oe3) :: (X.pn ++ pins))) S3 hg hm q hdbg
      · exact ld_blt (X := X.suite a ((a, oe3) :: (X.pn ++ pins))) S3 hg hm hv q hnn hdbg
    refine asked (LM.here ?_)
    cases b with
    | true =>
      refine codeAny_handlers_suite_as (HandSPX.lands_againZ fl3 ?_)
      intro h4 fl4 up4
      have J4 : Inv X pins σ' H' { s' with heap := h4 } := J.landed nb fl4.1 ((up.trans up3).trans up4) os ag
      obtain ⟨oe4, vs4, he4, hz4, hd4⟩ := fl4.there
      have S4 := J4.suite he4 hd4 na nL nF
      refine store_ok (X := X.suite a ((a, oe4) :: (X.pn ++ pins))) (v := .ref a) S4 hN hi locn rfl (fun s5 S5 => ?_) (Or.inr hln)
      refine wpAny_mono ((hsu a oe4 cls d (X.pn ++ pins) hz4 ⟨_, hd4⟩).run [] s5 _ H' _ S5 (hyes rfl a na)) ?_ (fun _ _ z => z.elim)
      intro f s6 hsp
      match f, hsp with
      | .brk, ⟨_, _, _, q⟩ => exact q.elim
      | .cont, ⟨_, _, _, q⟩ => exact q.elim
      | .ret _, ⟨_, _, _, _, _, q⟩ => exact q.elim
      | .next, ⟨σ6, H6, S6, q6⟩ =>
        have held : Inv X ((a, oe4) :: pins) σ6 H6 s6 := (S6.unsuite okX).pins_of (by
          intro p hp
          rcases List.mem_cons.mp hp with z | z
          · rw [z]; exact S6.pin (a, oe4) (List.mem_append_left _ (List.mem_cons_self ..))
          · exact S6.pin p (List.mem_append_left _ (List.mem_cons_of_mem _ (List.mem_append_right _ z))))
        refine gone_ok held hN hi hln (fun s7 J7 => ?_)
        have e7 := (J7.pin (a, oe4) (List.mem_append_right _ (List.mem_cons_self ..))).1
        refine ⟨_, _, adopt J7 (not0 hex) apartPins (exK_ok e7 hz4 hd4), q6⟩
    | false =>
      show wpAny _ X.A (handleBy (.ref a) X.env []) _ _ _
      refine wpAny_handleBy_nil ?_
      obtain ⟨k1, k2, k3, oe, vs, T, oT, ts', he, hz, hd, h1, hr⟩ := id fl3
      have go : wpAny (model X.prog X.w) X.A (setFlight (.ref a) X.env.frame) (fun _ s4 => wpAny (model X.prog X.w) X.A (throw (.ref a) : Sem Flow) (SP X pins D) X.xe s4) X.xe { s' with heap := h3 } := by
        rw [hf]
        refine HandSPX.setFlight_upZ fl3 (fun h4 hh4 up4 => wpAny_throw (tk _ _ ?_))
        exact ⟨a, B, sI, pins, σ', H', cls, d, rfl, J, nb, (up.trans up3).trans up4, Or.inr (Or.inr (by rw [hs]; exact hh4)), na, os, ag, hno rfl⟩
      unfold PySem.passOn
      refine wpAny_bind (wpAny_field he hd h1 ?_)
      rw [if_neg (show ¬ ((Value.ref T == Value.none) = true) from by simp)]
      first
        | exact wpAny_bind (wpAny_pure (wpAny_bind go))
        | exact wpAny_bind go
  refine wpAny_mono whole ?_ (fun e s1 he => he)
  intro f s1 hsp
  match f, hsp with
  | .next, ⟨σ', H', J', q⟩ => exact wpAny_execs_nil ⟨σ', H', J'.ofTry okX, q⟩
  | .brk, ⟨σ', H', J', q⟩ => exact ⟨σ', H', J'.ofTry okX, q⟩
  | .cont, ⟨σ', H', J', q⟩ => exact ⟨σ', H', J'.ofTry okX, q⟩
  | .ret u, ⟨v, σ', H', J', r, q⟩ => exact ⟨v, σ', H', J'.ofTry okX, r, q⟩
/-! ### isinstance of a kept exception, and its fields -/
section
variable {prog : Program} {w : World} {A : Around} {E : Value → Shared → Prop} {s : Shared} {K : PySem.W.Frag} {x D : Addr} {ox : Obj} {od : Option Obj}
open PySem.W PySem.Calls in
theorem its_class {Q : Option Value → Shared → Prop} (C : ExcC K D) (hf : findObj K D od "__class__" = some (.bind (.builtin "getset_descriptor.__get__") (.builtin "object.__class__"))) (X : K.In s.heap) (I : PySem.W.InstAt s.heap x ox D od)
    (h : Q (some (.ref D)) { s with toks := s.toks + 1 }) : wpAny (model prog w) A (getAttr? (.ref x) "__class__") Q E s := by
  obtain ⟨hp, g, d, t, os⟩ := s
  have k0 := I.type (M := model prog w)
  have k1 := looks_findIn (M := model prog w) X C.hg
  have k2 := looks_findIn (M := model prog w) X C.hk
  have k3 := looks_find (M := model prog w) X I hf
  have below : Looks (model prog w) hp (isInstance (.ref x) (.type "BaseException")) true := k0.andThen (looks_subIn X C.hs)
  have n0 : (false && onTheHeap (Value.builtin "BaseException.__getattribute__")) = false := rfl
  have n2 : (Value.builtin "BaseException.__getattribute__" == Value.builtin "object.__getattribute__") = false := by decide +kernel
  have n1 : (onTheHeap (Value.ref D) && Value.builtin "BaseException.__getattribute__" == Value.builtin "object.__getattribute__") = false := by rw [n2]; rfl
  unfold getAttr? getAttrBy? getAttrBy
  refine wpAny_bind (wpAny_mkText (wpAny_bind (wpAny_attempt (wpAny_holding (wpAny_bind (k0.at (wpAny_bind (k1.at ?_))))))))
  show wpAny (model prog w) _ (if (onTheHeap (Value.ref D) && Value.builtin "BaseException.__getattribute__" == Value.builtin "object.__getattribute__") = true then _ else _) _ _ _
  (rw [n1, if_neg Bool.false_ne_true]; unfold getAttrByItsOwn hookBefore; refine wpAny_bind ?_)
  (rw [if_pos (show onTheHeap (Value.ref D) = true from rfl)]; refine k2.at (wpAny_bind (wpAny_attempt (wpAny_holding ?_))))
  (unfold callGetattribute; rw [n0, if_neg Bool.false_ne_true]; unfold boundAndCalled; rw [PySem.F.excAttr_ValueError.ga.bind (.ref x)]; refine wpAny_bind (wpAny_pure ?_))
  show wpAny (model prog w) _ (call (.builtin "BaseException.__getattribute__") [.ref x, .str "__class__" t]) _ _ _
  refine wpAny_call (codeAny_call_builtin PySem.F.excAttr_ValueError.ga.plain PySem.F.entry_bexc_ga (@check_slot (model prog w) _ _ ⟨hp, g, d, t + 1, os⟩ "BaseException.__getattribute__" "BaseException" "__getattribute__" (.ref x) [.str "__class__" t] [] _ (by decide +kernel) (by decide +kernel) below (PySem.F.args_bexc_ga (.ref x) (.str "__class__" t)) ?_))
  (unfold Builtin.«object.__getattribute__»; refine wpAny_bind (wpAny_of_eq (a := ((Value.ref x : Value), [Value.str "__class__" t])) (by first | rfl | (simp only [slotArgs]; rfl)) (wpAny_bind (wpAny_pure (wpAny_bind (k0.at (wpAny_bind (k3.at ?_))))))))
  show wpAny (model prog w) _ (holding [Value.builtin "object.__class__"] (call (.builtin "getset_descriptor.__get__") [.builtin "object.__class__", .ref x, .ref D]) >>= ret) _ _ _
  refine wpAny_bind (wpAny_holding (wpAny_call (class_get (s := ⟨hp, g, d, t + 1, os⟩) (ox := ox) (od := od) X I C.hm (wpAny_pure ?_))))
  show wpAny (model prog w) _ (handedOut (.ref D)) _ _ _
  rw [handedOut_of (v := .ref D) rfl]
  first
    | exact wpAny_pure (wpAny_pure h)
    | exact wpAny_pure h
    | exact wpAny_pure (wpAny_bind (wpAny_pure (wpAny_pure h)))
open PySem.W in
theorem kit_kept (C : ExcC K D) (hf : findObj K D od "__class__" = some (.bind (.builtin "getset_descriptor.__get__") (.builtin "object.__class__"))) : KitX K (.ref x) (.ref D) (fun h => InstAt h x ox D od) := by
  obtain ⟨cdD, hcD, _⟩ := any_some C.hd
  unfold clsIn at hcD
  split at hcD
  · rename_i c' d' cd' sl' ho
    refine ⟨fun _ _ _ I => I.type, fun _ _ X _ => ?_, fun h tp dd its n sl X htp => ?_, fun X I k => its_class C hf X I k⟩
    · intro A' Q' E' s' k q
      unfold isType loadHead
      exact wpAny_bind (wpAny_loadPart (k _ _ (X _ _ ho)) (wpAny_pure q))
    · refine Bool.eq_false_iff.mpr (fun q => ?_)
      have e : D = tp := Value.ref.inj (beq_iff_eq.mp q)
      subst e
      have two := (X _ _ ho).symm.trans htp
      cases two
  · cases hcD
end
theorem kept_at {X : Cx} {pins : List (Addr × Obj)} {σ : L2.St} {H : Hp} {s : Shared} {a D : Addr} {d : Option Addr} (I : Inv X pins σ H s) (ha : H a = some (ExK (.ref D) d a)) (hd : ∀ dd, d = some dd → ∃ fs, H dd = some (.xd fs)) :
    ∃ (oe : Obj) (od : Option Obj), PySem.W.InstAt s.heap a oe D od ∧ (od.isSome = d.isSome) ∧ ∀ dd, d = some dd → ∃ o, od = some o ∧ s.heap.get? dd = some o := by
  obtain ⟨⟨oe, vs, hg, hz, hv⟩, _, _⟩ := I.hok a _ ha
  have nc : PySem.W.notCls oe = true := by unfold PySem.W.notCls; rw [hv]
  cases d with
  | none => exact ⟨oe, none, ⟨hg, hz.1, nc, by rw [hz.2]; trivial⟩, rfl, fun _ z => nomatch z⟩
  | some dd =>
    obtain ⟨fs, hx⟩ := hd dd rfl
    obtain ⟨mA, ⟨o, es, ep, ho, r⟩, _⟩ := (show ObjOk X.prog X.w H s.heap dd (.xd fs) from I.hok dd _ hx)
    exact ⟨oe, some o, ⟨hg, hz.1, nc, by rw [hz.2]; exact ho⟩, rfl, fun d2 z => by cases z; exact ⟨o, rfl, ho⟩⟩
/-- isinstance(e, C), e a kept exception; or any other value -/
def rIsX (K : PySem.W.Frag) : List V → Hp → VK → Prop := fun xs H Q => rIsi K xs H Q ∨ ∃ (a D : Addr) (d : Option Addr) (c : V) (u : Value) (b : Bool), xs = [.ref a, c] ∧ H a = some (ExK (.ref D) d a) ∧ (∀ dd, d = some dd → ∃ fs, H dd = some (.xd fs)) ∧ ExcC K D ∧ ClsV c u ∧ PySem.W.kitOne K (.ref D) u = some b ∧ Q (.bl b) H
theorem kcall_isX {X : Cx} {K : PySem.W.Frag} (hK : X.K = K := by rfl) : CallR X (.builtin "isinstance") (rIsX K) := by
  subst hK
  rintro pins s σ H xs us Q I r (h | ⟨a, D, d, c, u, b, rfl, ha, hd, C, hc, hk, q⟩)
  · exact call_isi pins s σ H xs us Q I r h
  cases r with
  | cons r1 rr =>
    cases rr with
    | cons r2 rr =>
      cases rr
      cases r1
      have e2 := hc.eq r2
      subst e2
      obtain ⟨oe, od, J, hs, _⟩ := kept_at I ha hd
      have hcls : (PySem.W.clsIn X.K D).isSome = true := by
        obtain ⟨cd, h1, _⟩ := PySem.W.any_some C.hd
        rw [h1]; rfl
      have hf : PySem.W.findObj X.K D od "__class__" = some (.bind (.builtin "getset_descriptor.__get__") (.builtin "object.__class__")) := by
        cases od with
        | none => exact PySem.W.findObj_dataN hcls C.ha C.hn C.ht
        | some o => exact PySem.W.findObj_data hcls C.ha C.hn C.ht
      exact PySem.W.kia_one (kit_kept C hf) I.kIn J hk (fun z => nomatch z) (fun tk => ⟨.bl b, H, I.tok tk, rfl, q⟩)
/-- e.f, e a kept exception -/
def tXk (K : PySem.W.Frag) (f : Str) (te : TE) : TE := fun σ H Q => te σ H fun x H1 => ∃ (a D dd : Addr) (fs : List (Str × V)) (v : V), x = .ref a ∧ H1 a = some (ExK (.ref D) (some dd) a) ∧ H1 dd = some (.xd fs) ∧ XfC K D ∧ PySem.W.findIn K (.ref D) f = some none ∧ fs.lookup f = some v ∧ Q v H1
theorem pe_xk {X : Cx} {K : PySem.W.Frag} {e : Expr} {te : TE} {pos : Pos} {n : Str} (he : PE X e te) (hb : attributeBase e n X.env (eval e X.env) = eval e X.env := by rfl) (hK : X.K = K := by rfl) : PE X (.Attribute e n pos) (tXk K n te) := by
  subst hK
  constructor
  intro pins s σ H Q I h
  refine attr_of hb (thn (he.run pins s σ H _ I h) (fun u s1 hh => ?_))
  obtain ⟨x, H1, I1, rx, a, D, dd, fs, v, rfl, ha, hx, T, hno, l, q⟩ := hh
  obtain rfl : u = Value.ref a := rx
  obtain ⟨oe, od, J, _, hod⟩ := kept_at I1 ha (fun d2 z => by cases z; exact ⟨fs, hx⟩)
  obtain ⟨o, rfl, ho⟩ := hod dd rfl
  obtain ⟨mA, hns, hr⟩ := (show ObjOk X.prog X.w H1 s1.heap dd (.xd fs) from I1.hok dd _ hx)
  obtain ⟨o2, ho2, hl⟩ := lookIn_ns hns
  have e2 : o = o2 := Option.some.inj (ho.symm.trans ho2)
  subst e2
  obtain ⟨u, hu, ru⟩ := RelO.some_of (v := v) (o := mA n) (by rw [← l]; exact hr n)
  exact HandSPX.exc_get I1.kIn J T.ga T.gg T.exC (PySem.W.findObj_own T.hdC hno rfl (by rw [hl, hu])) (handed_of ru) ⟨v, H1, I1.tok _, ru, q⟩
end Z
namespace Z
open PySem PySem.Spec PyProof.Rows L2
/-! ### own errors: an __init__ that keeps its arguments -/
def spErr1 (K : PySem.W.Frag) (C : Addr) (f : Str) : Sp := fun vs H Q _ => ∃ (a : Addr) (v : V), vs = [.ref a, v] ∧ H a = some (exo a C none) ∧ ∀ dx, H dx = none → dx ≠ a → Q .non (upd (upd H dx (exd dx [(f, v)])) a (exo a C (some dx)))
def spErr2 (K : PySem.W.Frag) (C : Addr) (f g : Str) : Sp := fun vs H Q _ => ∃ (a : Addr) (u v : V), vs = [.ref a, u, v] ∧ H a = some (exo a C none) ∧ ∀ dx H', H dx = none → dx ≠ a → H' a = some (exo a C (some dx)) → H' dx = some (exd dx [(g, v), (f, u)]) → (∀ b, b ≠ a → b ≠ dx → H' b = H b) → Q .non H'
theorem raised1 {K : PySem.W.Frag} {C : Addr} {f : Str} {v : V} {H : Hp} {a : Addr} {R : XK} (ha : H a = none) (k : ∀ d H', Same H H' → H d = none → H' d = some (.xd [(f, v)]) → R (.ref C) (some d) H') :
    spErr1 K C f [.ref a, v] (upd H a (exo a C none)) (fun z H2 => z = .non ∧ ∃ (d : Addr) (fs : List (Str × V)), H2 a = some (exo a C (some d)) ∧ H2 d = some (exd d fs) ∧ H d = none ∧ R (.ref C) (some d) (upd (del H2 a) d (.xd fs))) (fun _ _ _ => False) := by
  refine ⟨a, v, rfl, upd_same, fun dx h1 h2 => ⟨rfl, dx, [(f, v)], upd_same, by rw [upd_ne h2, upd_same], by rw [upd_ne h2] at h1; exact h1, k dx _ (fun b o e => ?_) (by rw [upd_ne h2] at h1; exact h1) upd_same⟩⟩
  have n1 : b ≠ dx := ne_of_none e (by rw [upd_ne h2] at h1; exact h1)
  have n2 : b ≠ a := ne_of_none e ha
  rw [upd_ne n1, del_ne n2, upd_ne n2, upd_ne n1, upd_ne n2]
  exact e
/-- no exception at all -/
theorem passNo {X : Cx} : Passes (CX X.prog X.w) X (fun _ _ _ => False) := by
  rintro pins σ H s e s' I ⟨_, _, _, _, _, _, _, _, _, _, _, _, z⟩
  exact z.elim
/-! ### frames -/
/-- what is_name may be asked of -/
def Kind (K : PySem.W.Frag) (H : Hp) (v : V) : Prop := (∃ z, v = .str z ∧ z.length ≤ sizeLine) ∨ ∃ t, TyX K H v t ∧ PySem.W.kitOne K t (.type "str") = some false
theorem tyOf_same {K : PySem.W.Frag} {H H' : Hp} {v : V} {t : Value} (s : Same H H') (h : TyOf K H v t) : TyOf K H' v t := by
  cases h with
  | non => exact .non
  | bl b => exact .bl b
  | int i => exact .int i
  | str z => exact .str z
  | flt b => exact .flt b
  | lst e => exact .lst (s _ _ e)
  | frz e => exact .frz (s _ _ e)
  | tup e => exact .tup (s _ _ e)
  | dK e => exact .dK (s _ _ e)
  | dT e => exact .dT (s _ _ e)
  | ins e a b c d f => exact .ins (s _ _ e) a b c d f
theorem tyX_same {K : PySem.W.Frag} {H H' : Hp} {v : V} {t : Value} (s : Same H H') (h : TyX K H v t) : TyX K H' v t := by
  cases h with
  | base b => exact .base (tyOf_same s b)
  | byt b => exact .byt b
  | set e => exact .set (s _ _ e)
  | kList e c => exact .kList e c
  | kTuple e c => exact .kTuple e c
  | kDict e c => exact .kDict e c
  | fTuple e => exact .fTuple (s _ _ e)
  | fDict e => exact .fDict (s _ _ e)
theorem Kind.same {K : PySem.W.Frag} {H H' : Hp} {v : V} (s : Same H H') (h : Kind K H v) : Kind K H' v := h.imp id fun ⟨t, a, b⟩ => ⟨t, tyX_same s a, b⟩
theorem Kind.str {K : PySem.W.Frag} {H : Hp} {z : Str} (h : IsNm z) : Kind K H (.str z) := .inl ⟨z, rfl, h.fit⟩
theorem Kind.non {K : PySem.W.Frag} {H : Hp} : Kind K H .non := .inr ⟨_, .base .non, kit_ty (by decide +kernel)⟩
def vnm : V → Bool
  | .str z => nmB z
  | _ => false
/-- whether a value may be the target of a frame of x -/
def tgt (x y : V) : Bool := decide (y = .non) || (vnm y && !decide (y = x))
theorem not_str {K : PySem.W.Frag} {H : Hp} {v : V} {t : Value} (h : TyX K H v t) (k : PySem.W.kitOne K t (.type "str") = some false) : vnm v = false := by
  cases v with
  | str z =>
    cases h with
    | base b =>
      cases b
      have e : PySem.W.kitOne K (.type "str") (.type "str") = some true := kit_ty (by decide +kernel)
      rw [e] at k
      cases k
  | _ => rfl
theorem is_named {K : PySem.W.Frag} {H : Hp} {v : V} {Q : VK} {E : XK} (h : Kind K H v) (k : ∀ H', Same H H' → Q (.bl (vnm v)) H') : spIsName K [v] H Q E := by
  refine ⟨v, rfl, ?_⟩
  rcases h with ⟨z, rfl, hz⟩ | ⟨t, a, b⟩
  · exact .inl ⟨z, rfl, hz, k⟩
  · have e := not_str a b
    refine .inr ⟨t, a, b, ?_⟩
    have := k H (Same.refl H)
    rw [e] at this
    exact this
def fFields (x y : V) : List (Str × V) := [("sender", x), ("target", y)]
/-- Frame(x, y) is made at p -/
def spFrame (K : PySem.W.Frag) : Sp := fun vs H Q E => ∃ (p dx : Addr) (x y : V), vs = [.ref p, x, y] ∧ H p = some (.ins (He.ga K "Frame") dx []) ∧ Kind K H x ∧ Kind K H y ∧
  (vnm x = false → ∀ d H', Same H H' → H d = none → H' d = some (.xd [("part", .str "sender")]) → E (.ref (He.ga K "BadFrame")) (some d) H') ∧
  (vnm x = true → tgt x y = false → ∀ d H', Same H H' → H d = none → H' d = some (.xd [("part", .str "target")]) → E (.ref (He.ga K "BadFrame")) (some d) H') ∧
  (vnm x = true → tgt x y = true → ∀ H', But p H H' → H' p = some (.ins (He.ga K "Frame") dx (fFields x y)) → Q .non H')
/-- a method of an own class that may raise -/
structure DefX (P : Program) (w : World) (K : PySem.W.Frag) (mg : Str → Option Value) (base : Heap) (k : Nat) (f : Addr) (ps : List Str) (dvs : List V) (sp : Sp) : Prop where
  ex : ∃ fd, FnOk P w K mg base (CX P w) k f fd ps sp ∧ ∀ j, j ≤ dvs.length → ∃ ds, Vals (dvs.drop j) ds ∧ Binds K fd ps ds
end Z
namespace Z
open PySem PySem.Spec PyProof.Rows L2
/-! ### a law whose def may show things, with tables of code objects -/
abbrev tab0 : Obj := { cls := .none, data := .fields #[] }
/-- the tracked part at the law's start: the tables, and the script where K doesn't hold it -/
def startT (T : List Addr) (a : Addr) (one : Option HO) : Hp := fun b => if b ∈ T then some (.tbl #[]) else if b = a then one else none
theorem law_callTG {P : Program} {w : World} {K : PySem.W.Frag} {mg mb : Str → Option Value} {CX : CXT} {k : Nat} {fa a : Addr} {cs : List (Addr × Addr)} {fd : FuncData} {x : Str} {sp : Sp} {s₁ : Shared} {vs : List Value} {ns : List Int}
    (KX : K.In s₁.heap) (hns : s₁.heap.Ns mainGlobals mg) (hb : s₁.heap.Ns builtinsNs mb) (hbb : ∀ x : Str, x ≠ "__name__" → mb x = bootBuiltins x) (hlim : s₁.heap.NoLimit) (hgens : s₁.gens = #[])
    (tabs : ∀ p ∈ cs, s₁.heap.get? p.2 = some tab0) (outK : ∀ p ∈ cs, K.lookup p.2 = none) (codes : ∀ p ∈ cs, PySem.W.CodeHd s₁.heap p.1 p.2)
    (bmain : ∃ (bm : Addr) (om : Obj), mg "__builtins__" = some (.ref bm) ∧ bm ≠ builtinsNs ∧ s₁.heap.get? bm = some om ∧ om.cls = .type "module" ∧ om.dict = some builtinsNs ∧ om.data = .plain)
    (ha : s₁.heap.get? a = some { cls := .type "list", data := .seq vs.toArray }) (hi : IntsAre vs ns) (hl : ns.length ≤ sizeLine) (hr : Room k callerA)
    (F : ∀ base : Heap, K.In base → base.Ns mainGlobals mg → (∀ p ∈ cs, LamX.TabB base mg p.1 p.2) → FnG P w K mg base CX k fa fd [x] sp) (hbind : ∀ (s : Shared) (u : Value), BindsTo s fd ⟨[u], []⟩ [(x, u)])
    (hsp : ∀ H : Hp, (∀ p ∈ cs, H p.2 = some (.tbl #[])) → SqL K H a (ns.map V.int) → sp [.ref a] H (fun v _ => v = .bl true) fun _ _ _ => False) (hCX : ∀ H e s', CX [] H s₁ (fun _ _ _ => False) e s' → False) :
    codeAny (model P w) callerA (.call (.ref fa) ⟨[.ref a], []⟩) (fun r s' => r = .ok (.ret (.bool true)) ∧ OldK s₁.heap s'.heap ∧ s'.os = s₁.os ∧ AllBare s'.gens) s₁ := by
  have relV := vals_ints hi
  have sameLen := hi.length
  generalize hT : cs.map (·.2) = T
  have inT : ∀ p ∈ cs, p.2 ∈ T := fun p hp => hT ▸ List.mem_map.mpr ⟨p, hp, rfl⟩
  have ofT : ∀ b ∈ T, ∃ p ∈ cs, p.2 = b := fun b hb => List.mem_map.mp (hT ▸ hb)
  have empty : ∀ b ∈ T, s₁.heap.get? b = some tab0 := by
    intro b hb
    obtain ⟨p, hp, rfl⟩ := ofT b hb
    exact tabs p hp
  have aOut : a ∉ T := by
    intro m
    have e := (empty a m).symm.trans ha
    cases e
  have main : ∀ one : Option HO, (∀ u, one = some u → K.lookup a = none ∧ (∃ xs, u = .frz { cls := .type "list", data := .seq vs.toArray } xs) ∧ ObjOk P w (startT T a one) s₁.heap a u) → SqL K (startT T a one) a (ns.map V.int) →
      codeAny (model P w) callerA (.call (.ref fa) ⟨[.ref a], []⟩) (fun r s' => r = .ok (.ret (.bool true)) ∧ OldK s₁.heap s'.heap ∧ s'.os = s₁.os ∧ AllBare s'.gens) s₁ := by
    intro one hone hS
    generalize hH : startT T a one = H at hone hS
    have atT : ∀ b ∈ T, H b = some (.tbl #[]) := fun b m => by rw [← hH]; exact if_pos m
    have atA : H a = one := by rw [← hH]; exact (if_neg aOut).trans (if_pos rfl)
    have off : ∀ b, b ∉ T → b ≠ a → H b = none := fun b m n => by rw [← hH]; exact (if_neg m).trans (if_neg n)
    have cases3 : ∀ {b : Addr} {u : HO}, H b = some u → (b ∈ T ∧ u = .tbl #[]) ∨ (b = a ∧ one = some u) := by
      intro b u e
      by_cases m : b ∈ T
      · rw [atT b m] at e
        exact .inl ⟨m, (Option.some.inj e).symm⟩
      · by_cases n : b = a
        · subst n
          exact .inr ⟨rfl, atA.symm.trans e⟩
        · rw [off b m n] at e
          cases e
    have seen : ∀ {b : Addr} {o : Obj}, s₁.heap.get? b = some o → H b = none → (hidT s₁.heap H).get? b = some o := fun e n => hidT_get e n
    have unseen : ∀ {b : Addr} {o : Obj}, s₁.heap.get? b = some o → (∀ us n, o.data ≠ .seq us n) → o.data ≠ .fields #[] → H b = none := by
      intro b o e d1 d2
      cases q : H b with
      | none => rfl
      | some u =>
        rcases cases3 q with ⟨m, _⟩ | ⟨rfl, _⟩
        · rw [empty b m] at e
          cases e
          exact (d2 rfl).elim
        · rw [ha] at e
          cases e
          exact (d1 _ _ rfl).elim
    have dictUnseen : ∀ {b : Addr} {o : Obj} {es : Array DictEntry} {ep : Nat}, s₁.heap.get? b = some o → o.data = .dict es ep → H b = none := fun e d => unseen e (fun _ _ z => by rw [d] at z; cases z) (fun z => by rw [d] at z; cases z)
    have nsKeep : ∀ {b : Addr} {m : Str → Option Value}, s₁.heap.Ns b m → (hidT s₁.heap H).Ns b m := by
      rintro b m ⟨o, es, ep, e, d, r⟩
      exact ⟨o, es, ep, seen e (dictUnseen e d), d, r⟩
    have kBase : K.In (hidT s₁.heap H) := by
      intro b o e
      refine seen (KX b o e) ?_
      cases q : H b with
      | none => rfl
      | some u =>
        rcases cases3 q with ⟨m, _⟩ | ⟨rfl, h1⟩
        · obtain ⟨p, hp, rfl⟩ := ofT b m
          rw [outK p hp] at e
          cases e
        · rw [(hone u h1).1] at e
          cases e
    have hok : HOk P w H s₁.heap := by
      intro b u e
      rcases cases3 e with ⟨m, rfl⟩ | ⟨rfl, h1⟩
      · exact empty b m
      · exact (hone u h1).2.2
    have theMod : L2.Mod K mg (hidT s₁.heap H) := ⟨kBase, nsKeep hns, ⟨mb, nsKeep hb, hbb⟩, let ⟨mc, h1, h2⟩ := hlim; ⟨mc, nsKeep h1, h2⟩⟩
    have theTabs : ∀ p ∈ cs, LamX.TabB (hidT s₁.heap H) mg p.1 p.2 := by
      intro p hp
      refine ⟨?_, ?_, ?_⟩
      · obtain ⟨o, us, file, tf, flags, tg, inF, text, tt, e1, r1, r2, r3, rest⟩ := codes p hp
        refine ⟨o, us, file, tf, flags, tg, inF, text, tt, seen e1 (unseen e1 (fun _ _ z => ?_) fun z => ?_), r1, r2, r3, rest⟩
        · rw [r2] at z
          cases z
        · rw [r2] at z
          cases z
          simp at r3
      · obtain ⟨bm, om, c1, c2, c3, c4, c5, c6⟩ := bmain
        refine ⟨bm, om, c1, c2, ?_, ?_, seen c3 (unseen c3 (fun _ _ z => ?_) fun z => ?_), c4, c5, c6⟩
        · rintro rfl
          obtain ⟨o, es, ep, e, hd, _⟩ := hns
          rw [c3] at e
          cases e
          rw [c6] at hd
          cases hd
        · rintro rfl
          rw [tabs p hp] at c3
          cases c3
          cases c6
        · rw [c6] at z
          cases z
        · rw [c6] at z
          cases z
      · intro z
        obtain ⟨o, es, ep, e, hd, _⟩ := hns
        rw [z, tabs p hp] at e
        cases e
        cases hd
    have start0 : Env0 P w K mg (hidT s₁.heap H) callerA [] s₁ H :=
      ⟨rfl, theMod, fun b o e => of_hidT e, Nat.le_of_eq (hidT_size _ _), trivial, fun b hb => absurd (show b ∈ ([] : List Addr) from hb) (by simp), hok, .of_eq hgens⟩
    have ran := (F _ kBase (nsKeep hns) theTabs).run callerA [] s₁ H ⟨[.ref a], []⟩ [.ref a] [.ref a] _ _ rfl hr start0 (hbind s₁ (.ref a)) (.cons rfl .nil) (hsp H (fun p hp => atT _ (inT p hp)) hS)
    refine codeAny_mono ran ?_
    intro r s' h
    match r, h with
    | .error e, h => exact (hCX H e s' h).elim
    | .ok .next, h => exact h.elim
    | .ok .brk, h => exact h.elim
    | .ok .cont, h => exact h.elim
    | .ok (.ret u), ⟨v, H', os, bare, un, hok', rv, q⟩ =>
      have hv : v = .bl true := q
      subst hv
      obtain rfl : u = Value.bool true := rv
      have stays : ∀ b o, b ∉ T → s₁.heap.get? b = some o → s'.heap.get? b = some o := by
        intro b o nb e
        cases z : H b with
        | none => exact un.keep b o e z (by intro y; exact absurd (show b ∈ ([] : List Addr) from y) (by simp)) (by simp)
        | some u =>
          rcases cases3 z with ⟨m, _⟩ | ⟨rfl, h1⟩
          · exact (nb m).elim
          · obtain ⟨_, ⟨xs, rfl⟩, _⟩ := hone u h1
            have z2 := un.frzs b _ _ z
            obtain ⟨e2, _⟩ := hok' b _ z2
            rw [ha] at e
            cases e
            exact e2
      have grows : ∀ p ∈ cs, ∃ more : Array Value, s'.heap.get? p.2 = some { cls := .none, data := .fields more } := by
        intro p hp
        obtain ⟨more, z⟩ := un.tbls p.2 #[] (atT _ (inT p hp))
        exact ⟨_, hok' p.2 _ z⟩
      refine ⟨rfl, ⟨fun b o e => ?_, fun b o e => ?_⟩, os, bare⟩
      · by_cases m : b ∈ T
        · obtain ⟨p, hp, rfl⟩ := ofT b m
          obtain ⟨more, hm⟩ := grows p hp
          rw [tabs p hp] at e
          cases e
          refine .inr (.inl ⟨((codes p hp).tab (tabs p hp)).isCodeTable, rfl, #[], more, rfl, ?_⟩)
          rw [Array.empty_append]
          exact hm
        · exact .inl (stays b o m e)
      · by_cases m : b ∈ T
        · obtain ⟨p, hp, rfl⟩ := ofT b m
          obtain ⟨more, hm⟩ := grows p hp
          exact ⟨_, hm⟩
        · exact ⟨o, stays b o m e⟩
  cases hk : K.lookup a with
  | some o =>
    have e := KX a o hk
    rw [ha] at e
    cases e
    refine main none (fun u z => nomatch z) (.inr ⟨_, vs.toArray, _, hk, rfl, rfl, rfl, ?_, ?_⟩)
    · rw [List.size_toArray, sameLen]; exact hl
    · simpa using relV
  | none =>
    refine main (some (.frz { cls := .type "list", data := .seq vs.toArray } (.lst (ns.map V.int)))) (fun u z => ?_) (.inl (.inr ⟨{ cls := .type "list", data := .seq vs.toArray }, (if_neg aOut).trans (if_pos rfl)⟩))
    cases z
    exact ⟨hk, ⟨_, rfl⟩, ha, by rw [List.length_map]; exact hl, vs, _, relV, ha⟩
/-- the end over a head by facts, with tables -/
theorem walk_TG {l : PySem.W.OpenLaw} {n k : Nat} {q : Program} {loose : List Str} {XP : (Str → Option Value) → Heap → Prop} {YP : World → Heap → Prop} {d : DefRec} {CX : CXT} {x : Str} (hn : l.most = some n) (hn2 : n ≤ sizeLine) (hdf : d.params.defaults = []) (hr : Room k callerA)
    (F : ∀ (w : World) (mg : Str → Option Value) (fa : Addr) (h : Heap), YP w h → h.Ns mainGlobals mg → mg d.name = some (.ref fa) → ∃ (K : PySem.W.Frag) (fd : FuncData) (sp : Sp) (cs : List (Addr × Addr)), K.In h ∧ (∀ (s : Shared) (u : Value), BindsTo s fd ⟨[u], []⟩ [(x, u)]) ∧
        (∀ p ∈ cs, h.get? p.2 = some tab0) ∧ (∀ p ∈ cs, K.lookup p.2 = none) ∧ (∀ p ∈ cs, PySem.W.CodeHd h p.1 p.2) ∧
        (∀ (H : Hp) (a : Addr) (ns : List Int), ns.length ≤ n → (∀ p ∈ cs, H p.2 = some (.tbl #[])) → SqL K H a (ns.map V.int) → sp [.ref a] H (fun v _ => v = .bl true) fun _ _ _ => False) ∧ ∀ base : Heap, K.In base → base.Ns mainGlobals mg → (∀ p ∈ cs, LamX.TabB base mg p.1 p.2) → FnG l.prog w K mg base CX k fa fd [x] sp)
    (hCX : ∀ (H : Hp) (s : Shared) (e : Value) (s' : Shared), CX [] H s (fun _ _ _ => False) e s' → False) : PySem.W.WalkO q loose XP YP l.row.toRowW d [] (fun f vs => PySem.call f vs) := by
  refine Att.attach_call hn hdf ?_
  intro w s₀ s₁ mg mb fa o pm cd doc a vs ns G Y ho hd hcd hmg hobj hints hlen hg
  obtain ⟨K, fd, sp, cs, kx, hbd, h1, h2, h3, hsp, hF⟩ := F w mg fa _ Y G.T.g hmg
  exact law_callTG kx G.T.g G.T.b G.T.builtins G.T.nolimit hg h1 h2 h3 G.T.bmain hobj hints (Nat.le_trans hlen hn2) hr hF hbd (fun H hO hS => hsp H a ns hlen hO hS) (fun H e s' => hCX H s₁ e s')
end Z
namespace Z
open PySem PySem.Spec PyProof.Rows L2
/-! ### facts of own errors, of own classes, by a Bool over K -/
def isO (a b : Option (Option Value)) : Bool := decide (a = b)
/-- an own error over ValueError whose __init__ is a def -/
structure ErrF (K : PySem.W.Frag) (x : Str) : Prop where
  o : OexC K (He.ga K x)
  iC : PySem.W.findIn K (.ref (He.ga K x)) "__init__" = some (some (.ref (He.ma K (He.ga K x) "__init__")))
  tI : PySem.W.typeIn K (.ref (He.ma K (He.ga K x) "__init__")) = some (.type "function")
  xf : XfC K (He.ga K x)
  xc : ExcC K (He.ga K x)
def oexB (K : PySem.W.Frag) (C : Addr) : Bool := match K.lookup C with
  | some ⟨.type t, _, .cls cd, sl⟩ => decide (t = "type") && (match cd.mro, sl.toList with
    | .ref D :: bm, [_, _, _, _, some (.builtin n), _] => decide (D = C) && (decide (n = "ValueError.__new__") && (!cd.hasDel && (cd.hasDict && PySem.HandSPX.refsVE bm)))
    | _, _ => false)
  | _ => false
theorem oexB_ok {K : PySem.W.Frag} {C : Addr} (h : oexB K C = true) : ∃ nm q N bs bm sn sub ab col dd k0 k1 k2 k3 k5, K.lookup C = some (excClassObj nm q C N bs bm true sn sub ab col dd k0 k1 k2 k3 k5 "ValueError.__new__") ∧ PySem.HandSPX.refsVE bm = true := by
  unfold oexB at h
  split at h
  · rename_i t dd cd sl ho
    obtain ⟨h1, h⟩ := He.ba h
    have et := of_decide_eq_true h1
    split at h
    · rename_i D bm k0 k1 k2 k3 n k5 hm hs
      obtain ⟨h2, h⟩ := He.ba h
      obtain ⟨h3, h⟩ := He.ba h
      obtain ⟨h4, h⟩ := He.ba h
      obtain ⟨h5, h6⟩ := He.ba h
      have eD := of_decide_eq_true h2
      have en := of_decide_eq_true h3
      obtain ⟨nm, bs, mro, ns, qn, hd, sn, sub, ab, col, del⟩ := cd
      dsimp only at hm h4 h5
      have ed : del = false := by cases del <;> simp_all
      have hsl : sl = #[k0, k1, k2, k3, some (.builtin n), k5] := by
        obtain ⟨l⟩ := sl
        simp only at hs
        rw [hs]
      subst et eD en hm ed hsl h5
      exact ⟨nm, qn, ns, bs, bm, sn, sub, ab, col, dd, k0, k1, k2, k3, k5, ho, h6⟩
    · cases h
  · cases h
def classB (K : PySem.W.Frag) (D : Addr) : Bool := isO (PySem.W.findIn K (.ref D) "__class__") (some (some (.builtin "object.__class__"))) && (isO (PySem.W.specialIn K (.builtin "object.__class__") "__get__") (some (some (.builtin "getset_descriptor.__get__"))) &&
  (decide (PySem.W.takesIn K (.builtin "object.__class__") = some true) && decide (PySem.W.mroIn K D (.type "object") = some true)))
structure ClassF (K : PySem.W.Frag) (D : Addr) : Prop where
  ha : PySem.W.findIn K (.ref D) "__class__" = some (some (.builtin "object.__class__"))
  hn : PySem.W.specialIn K (.builtin "object.__class__") "__get__" = some (some (.builtin "getset_descriptor.__get__"))
  ht : PySem.W.takesIn K (.builtin "object.__class__") = some true
  hm : PySem.W.mroIn K D (.type "object") = some true
theorem classB_ok {K : PySem.W.Frag} {D : Addr} (h : classB K D = true) : ClassF K D := by
  obtain ⟨h1, h⟩ := He.ba h
  obtain ⟨h2, h⟩ := He.ba h
  obtain ⟨h3, h4⟩ := He.ba h
  exact ⟨of_decide_eq_true h1, of_decide_eq_true h2, of_decide_eq_true h3, of_decide_eq_true h4⟩
def errB (x : Str) (K : PySem.W.Frag) : Bool := oexB K (He.ga K x) && (isO (PySem.W.findIn K (.ref (He.ga K x)) "__setattr__") (some (some (.builtin "object.__setattr__"))) && (decide (PySem.W.typeIn K (.ref (He.ga K x)) = some (.type "type")) && (PySem.W.keepIn K (.ref (He.ga K x)) &&
  (isO (PySem.W.findIn K (.ref (He.ga K x)) "__init__") (some (some (.ref (He.ma K (He.ga K x) "__init__")))) && (decide (PySem.W.typeIn K (.ref (He.ma K (He.ga K x) "__init__")) = some (.type "function")) && (xfB K (He.ga K x) && classB K (He.ga K x)))))))
theorem errB_ok {K : PySem.W.Frag} {x : Str} (h : errB x K = true) : ErrF K x := by
  obtain ⟨h1, h⟩ := He.ba h
  obtain ⟨h2, h⟩ := He.ba h
  obtain ⟨h3, h⟩ := He.ba h
  obtain ⟨h4, h⟩ := He.ba h
  obtain ⟨h5, h⟩ := He.ba h
  obtain ⟨h6, h⟩ := He.ba h
  obtain ⟨h7, h8⟩ := He.ba h
  have xf := xfB_ok h7
  have cf := classB_ok h8
  exact ⟨⟨oexB_ok h1, of_decide_eq_true h2, xf.exC, of_decide_eq_true h3, h4⟩, of_decide_eq_true h5, of_decide_eq_true h6, xf, ⟨xf.ga, xf.gg, xf.exC, xf.hdC, cf.ha, cf.hn, cf.ht, cf.hm⟩⟩
/-- types of Python's own -/
def kinds : List Value := [.type "NoneType", .type "bool", .type "int", .type "str", .type "list", .type "tuple", .type "dict"]
/-- an own class: its instances are told from all else -/
structure ClsF (K : PySem.W.Frag) (x : Str) : Prop where
  c : ClassF K (He.ga K x)
  ne : PySem.W.findIn K (.ref (He.ga K x)) "__ne__" = some (some (.builtin "object.__ne__"))
  nf : ∀ t ∈ kinds, PySem.W.notFirst K (He.ga K x) t = true
  ki : ∀ t ∈ kinds, PySem.W.kitOne K t (.ref (He.ga K x)) = some false
  ik : ∀ t ∈ kinds, PySem.W.kitOne K (.ref (He.ga K x)) t = some false
def clsB (x : Str) (K : PySem.W.Frag) : Bool := classB K (He.ga K x) && (isO (PySem.W.findIn K (.ref (He.ga K x)) "__ne__") (some (some (.builtin "object.__ne__"))) && (kinds.all (fun t => PySem.W.notFirst K (He.ga K x) t) &&
  (kinds.all (fun t => decide (PySem.W.kitOne K t (.ref (He.ga K x)) = some false)) && kinds.all (fun t => decide (PySem.W.kitOne K (.ref (He.ga K x)) t = some false)))))
theorem clsB_ok {K : PySem.W.Frag} {x : Str} (h : clsB x K = true) : ClsF K x := by
  obtain ⟨h1, h⟩ := He.ba h
  obtain ⟨h2, h⟩ := He.ba h
  obtain ⟨h3, h⟩ := He.ba h
  obtain ⟨h4, h5⟩ := He.ba h
  exact ⟨classB_ok h1, of_decide_eq_true h2, fun t m => List.all_eq_true.mp h3 t m, fun t m => of_decide_eq_true (List.all_eq_true.mp h4 t m), fun t m => of_decide_eq_true (List.all_eq_true.mp h5 t m)⟩
theorem ClsF.ty {K : PySem.W.Frag} {x : Str} (c : ClsF K x) (k : Cls K (He.ga K x)) {H : Hp} {a dx : Addr} {fs : List (Str × V)} (h : H a = some (.ins (He.ga K x) dx fs)) : TyX K H (.ref a) (.ref (He.ga K x)) := .base (.ins h k c.c.ha c.c.hn c.c.ht c.c.hm)
theorem kit_same {K : PySem.W.Frag} {t : Value} (h : (t == t) = true := by simp) : PySem.W.kitOne K t t = some true := by
  unfold PySem.W.kitOne
  rw [if_pos h]
theorem first_same {K : PySem.W.Frag} {C : Addr} : PySem.W.notFirst K C (.ref C) = true := by
  unfold PySem.W.notFirst
  simp
/-! ### a property's getter -/
/-- where the getter of a class's property stands; the property itself -/
def prA (K : PySem.W.Frag) (c f : Str) : Addr := match PySem.W.findIn K (.ref (He.ga K c)) f with
  | some (some (.ref p)) => p
  | _ => 0
def geA (K : PySem.W.Frag) (c f : Str) : Addr := match PySem.W.recIn K (prA K c f) "property" with
  | some (.ref g :: _) => g
  | _ => match PySem.W.recIn K (prA K c f) "classmethod" with
    | some (.ref g :: _) => g
    | _ => 0
structure GetD where
  c : Str
  f : Str
  qual : Str
  params : Arguments
  body : List Stmt
  scope : Scope
  cm : Bool := false
abbrev FnU : Type := Option (Str × Str × Arguments × FuncBody × Scope × Addr × List (Str × Addr) × Addr)
def fnU (K : PySem.W.Frag) (a : Addr) : FnU := match K.lookup a with
  | some ⟨_, _, .func fd, _⟩ => some (fd.name, fd.qualname, fd.params, fd.body, fd.scope, fd.globals, fd.closure, fd.builtins)
  | _ => none
def GetD.val (d : GetD) : FnU := some (d.f, d.qual, d.params, .stmts d.body, d.scope, mainGlobals, [], builtinsNs)
def prB (K : PySem.W.Frag) (c f : Str) : Bool := isO (PySem.W.findIn K (.ref (He.ga K c)) f) (some (some (.ref (prA K c f)))) && (isO (PySem.W.specialIn K (.ref (prA K c f)) "__get__") (some (some (.builtin "property.__get__"))) &&
  (decide (PySem.W.takesIn K (.ref (prA K c f)) = some true) && (match PySem.W.recIn K (prA K c f) "property" with
    | some (.ref g :: _) => true
    | _ => false)))
/-- a classmethod -/
structure CmOf (K : PySem.W.Frag) (C : Addr) (m : Str) (p g : Addr) : Prop where
  r : ClX.CRead K C (.type "type")
  c : ClX.CMet K C (.type "type") m p g
def cmB (K : PySem.W.Frag) (c f : Str) : Bool := PySem.W.readsIn K (He.ga K c) (.type "type") && (isO (PySem.W.specialIn K (.ref (He.ga K c)) "__getattribute__") (some (some (.builtin "type.__getattribute__"))) && ((match PySem.W.findCls K (.ref (He.ga K c)) (.type "type") f with
    | some (.get (.builtin b) (.ref p) .none (.ref C)) => decide (b = "classmethod.__get__") && (decide (p = prA K c f) && decide (C = He.ga K c))
    | _ => false) && ((match PySem.W.recIn K (prA K c f) "property" with
    | some (.ref _ :: _) => false
    | _ => true) && ((match PySem.W.recIn K (prA K c f) "classmethod" with
    | some (.ref _ :: _) => true
    | _ => false) && PySem.W.fnIn K (geA K c f)))))
theorem prB_ok {K : PySem.W.Frag} {c f : Str} (h : prB K c f = true) : PropOf K (He.ga K c) f (prA K c f) (geA K c f) := by
  obtain ⟨h1, h⟩ := He.ba h
  obtain ⟨h2, h⟩ := He.ba h
  obtain ⟨h3, h4⟩ := He.ba h
  refine ⟨of_decide_eq_true h1, of_decide_eq_true h2, of_decide_eq_true h3, ?_⟩
  unfold geA
  split at h4
  · rename_i g r e
    rw [e]
    exact ⟨r, rfl⟩
  · cases h4
theorem cmB_ok {K : PySem.W.Frag} {c f : Str} (h : cmB K c f = true) : CmOf K (He.ga K c) f (prA K c f) (geA K c f) := by
  obtain ⟨h1, h⟩ := He.ba h
  obtain ⟨h2, h⟩ := He.ba h
  obtain ⟨h3, h⟩ := He.ba h
  obtain ⟨h4, h⟩ := He.ba h
  obtain ⟨h5, h6⟩ := He.ba h
  refine ⟨⟨h1, of_decide_eq_true h2⟩, ⟨?_, ?_, h6⟩⟩
  · split at h3
    · rename_i b p C e
      obtain ⟨a1, h3⟩ := He.ba h3
      obtain ⟨a2, a3⟩ := He.ba h3
      rw [e, of_decide_eq_true a1, of_decide_eq_true a2, of_decide_eq_true a3]
    · cases h3
  · split at h4
    · cases h4
    · rename_i n1
      have hg : ∀ g r, PySem.W.recIn K (prA K c f) "classmethod" = some (.ref g :: r) → geA K c f = g := by
        intro g r e
        unfold geA
        rw [e]
        split
        · rename_i g' r' e'
          exact (n1 g' r' e').elim
        · rfl
      split at h5
      · rename_i g r e
        exact ⟨r, by rw [e, hg _ _ e]⟩
      · cases h5
def GetD.ok (d : GetD) (K : PySem.W.Frag) : Bool := (if d.cm then cmB K d.c d.f else prB K d.c d.f) && (PySem.W.keepIn K (.ref (geA K d.c d.f)) && (match K.lookup (geA K d.c d.f) with
    | some ⟨_, _, .func fd, _⟩ => PySem.W.codeIn K fd.code d.qual && decide (fd.defaults = .none)
    | _ => false))
theorem GetD.prop {d : GetD} {K : PySem.W.Frag} (h : d.ok K = true) (n : d.cm = false) : PropOf K (He.ga K d.c) d.f (prA K d.c d.f) (geA K d.c d.f) := by
  obtain ⟨h1, h⟩ := He.ba h
  rw [n] at h1
  exact prB_ok h1
theorem GetD.clsm {d : GetD} {K : PySem.W.Frag} (h : d.ok K = true) (n : d.cm = true) : CmOf K (He.ga K d.c) d.f (prA K d.c d.f) (geA K d.c d.f) := by
  obtain ⟨h1, h⟩ := He.ba h
  rw [n] at h1
  exact cmB_ok h1
theorem GetD.fun_ {d : GetD} {K : PySem.W.Frag} (e : fnU K (geA K d.c d.f) = d.val) (h : d.ok K = true) : ∃ fd, FunD K d.f d.qual d.params d.body d.scope [] [] (geA K d.c d.f) fd := by
  obtain ⟨_, h⟩ := He.ba h
  obtain ⟨kp, h⟩ := He.ba h
  unfold fnU GetD.val at e
  generalize geA K d.c d.f = a at *
  split at h
  · rename_i oc od fd osl ho
    rw [ho] at e
    obtain ⟨n1, n2, n3, n4, n5, n6, n7, n8, n9, n10, n11, n12, n13, n14, n15⟩ := fd
    obtain ⟨hc, hd0⟩ := He.ba h
    have hd : n8 = .none := of_decide_eq_true hd0
    simp only [Option.some.injEq, Prod.mk.injEq] at e
    obtain ⟨u1, u2, u3, u4, u5, u6, u7, u8⟩ := e
    clear hd0
    subst u1 u2 u3 u4 u5 u6 u7 u8 hd
    exact ⟨_, ⟨_, _, _, _, _, _, _, _, _, _, rfl, ho, hc, .inl ⟨rfl, rfl⟩, .inl rfl⟩, kp⟩
  · cases h
/-! ### the Hook: facts, defs, tables, getters, a Bool -/
abbrev AlZ : Type := He.AlX × List FnU
structure SaysZ (fa : List He.Fa) (fn : List He.DefD) (tf : List He.Defn) (gs : List GetD) (ex : PySem.W.Frag → Bool) (w : World) (h : Heap) (K : PySem.W.Frag) : Prop where
  x : He.SaysX fa fn [] tf (fun K => ex K && gs.all fun d => d.ok K) w h K
  g : gs.map (fun d => fnU K (geA K d.c d.f)) = gs.map GetD.val
/-- what the names reach in n steps, and the interpreter's statics -/
def asS (n : Nat) (g : Addr → Option Obj) : List Addr := He.asD g n ++ [cStatics]
def frS (n : Nat) (g : Addr → Option Obj) : PySem.W.Frag := He.frT g (asS n g)
def obsZ (n : Nat) (fa : List He.Fa) (fn : List He.DefD) (tf : List He.Defn) (gs : List GetD) (ex : PySem.W.Frag → Bool) (g : Addr → Option Obj) : AlZ :=
  ((He.obsT fa fn [] (frS n g), (ex (frS n g) && gs.all fun d => d.ok (frS n g)) && He.tabsB g tf (frS n g)), gs.map fun d => fnU (frS n g) (geA (frS n g) d.c d.f))
theorem says_at {as : List Addr} {fa : List He.Fa} {fn : List He.DefD} {tf : List He.Defn} {ex : PySem.W.Frag → Bool} {w : World} {h : Heap} (e1 : He.obsT fa fn [] (He.frT h.get? as) = He.valT fn [] w) (e2 : (ex (He.frT h.get? as) && He.tabsB h.get? tf (He.frT h.get? as)) = true) : He.SaysX fa fn [] tf ex w h (He.frT h.get? as) := by
  obtain ⟨h1, h2⟩ := He.ba e2
  have each : ∀ p, p ∈ tf → ∃ o, h.get? (He.cT (He.frT h.get? as) p).2 = some o ∧ He.emptyTab o = true ∧ PySem.W.codeHdIn (He.frT h.get? as) (He.cT (He.frT h.get? as) p).1 (He.cT (He.frT h.get? as) p).2 = true := by
    intro p hp
    obtain ⟨h3, h4⟩ := He.ba (List.all_eq_true.mp h2 p hp)
    split at h4
    · rename_i o q
      exact ⟨o, q, h4, h3⟩
    · cases h4
  refine { t := e1, more := h1, hd := ?_, out := ?_, empty := ?_ } <;> intro p hp <;> obtain ⟨o, a, b, c⟩ := each p hp
  · exact c
  · exact He.frT_none a b
  · exact a.trans (congrArg some (He.emptyTab_eq b))
def hookZ (n : Nat) (fa : List He.Fa) (fn : List He.DefD) (tf : List He.Defn) (gs : List GetD) (ex : PySem.W.Frag → Bool) : PySem.W.Hook where
  α := AlZ
  obs := fun s => obsZ n fa fn tf gs ex s.heap.get?
  val := fun w => (He.valX fn [] w, gs.map GetD.val)
  says := fun w h => ∃ K : PySem.W.Frag, K.In h ∧ SaysZ fa fn tf gs ex w h K
  of := fun _ _ e => ⟨_, He.frT_in, says_at (congrArg (fun z : AlZ => z.1.1) e) (congrArg (fun z : AlZ => z.1.2) e), congrArg (fun z : AlZ => z.2) e⟩
  keeps := fun _ _ _ ⟨K, hK, c⟩ k => ⟨K, PySem.W.Frag.In.keeps hK k, ⟨c.x.t, c.x.more, c.x.hd, c.x.out, fun p hp => k _ _ (c.x.empty p hp)⟩, c.g⟩
theorem obsZ_eq {n : Nat} {fa : List He.Fa} {fn : List He.DefD} {tf : List He.Defn} {gs : List GetD} {ex : PySem.W.Frag → Bool} {g : Addr → Option Obj} {s : Shared} (h : ∀ a, g a = s.heap.get? a) : obsZ n fa fn tf gs ex g = (hookZ n fa fn tf gs ex).obs s := by
  have e : g = s.heap.get? := funext h
  rw [e] <;> rfl
theorem SaysZ.more {fa : List He.Fa} {fn : List He.DefD} {tf : List He.Defn} {gs : List GetD} {ex : PySem.W.Frag → Bool} {w : World} {h : Heap} {K : PySem.W.Frag} (c : SaysZ fa fn tf gs ex w h K) : ex K = true := (He.ba c.x.more).1
theorem SaysZ.get {fa : List He.Fa} {fn : List He.DefD} {tf : List He.Defn} {gs : List GetD} {ex : PySem.W.Frag → Bool} {w : World} {h : Heap} {K : PySem.W.Frag} (c : SaysZ fa fn tf gs ex w h K) (i : Nat) {d : GetD} (hi : gs[i]? = some d := by rfl) :
    (d.cm = false → PropOf K (He.ga K d.c) d.f (prA K d.c d.f) (geA K d.c d.f)) ∧ (d.cm = true → CmOf K (He.ga K d.c) d.f (prA K d.c d.f) (geA K d.c d.f)) ∧ ∃ fd, FunD K d.f d.qual d.params d.body d.scope [] [] (geA K d.c d.f) fd := by
  have ok := List.all_eq_true.mp (He.ba c.x.more).2 d (List.mem_of_getElem? hi)
  refine ⟨GetD.prop ok, GetD.clsm ok, GetD.fun_ ?_ ok⟩
  have e := congrArg (fun l => l[i]?) c.g
  simp only [List.getElem?_map, hi, Option.map_some] at e
  exact Option.some.inj e
/-- the defs' tables, at the law's start -/
theorem SaysZ.tabs {fa : List He.Fa} {fn : List He.DefD} {tf : List He.Defn} {gs : List GetD} {ex : PySem.W.Frag → Bool} {w : World} {h : Heap} {K : PySem.W.Frag} (c : SaysZ fa fn tf gs ex w h K) (hK : K.In h) :
    (∀ p ∈ tf.map (He.cT K), h.get? p.2 = some tab0) ∧ (∀ p ∈ tf.map (He.cT K), K.lookup p.2 = none) ∧ ∀ p ∈ tf.map (He.cT K), PySem.W.CodeHd h p.1 p.2 := by
  refine ⟨?_, ?_, ?_⟩ <;> intro p hp <;> obtain ⟨q, hq, rfl⟩ := List.mem_map.mp hp
  · exact c.x.empty q hq
  · exact c.x.out q hq
  · exact PySem.W.codeHd_of_K hK (c.x.hd q hq)
/-! ### a def that may show things and makes lambdas: its code object is named -/
theorem okGC {P : Program} {w : World} {K : PySem.W.Frag} {mg : Str → Option Value} {base : Heap} {x qual : Str} {params : Arguments} {body : List Stmt} {scope : Scope} {dvs : List V} {kws : List (Str × V)} {fd : FuncData} {CX : CXT} {N ps : List Str} {k : Nat} {sp : Sp} {p : He.Defn} {f : Addr} (hf : f = He.fAd K p) (F : FunD K x qual params body scope dvs kws f fd) (S : FnScope N ps scope) (len : ∀ vs H Q E, sp vs H Q E → vs.length = ps.length)
    (hbody : ∀ (A : Around) (outer : List Env) (s : Shared) (H : Hp) (vs : List V) (Q : VK) (E : XK), A.guards = some [] → Room k (A.deeper (envOfC qual scope s.heap.objs.size f (.ref (He.codeOf K p)))) → sp vs H Q E →
      ∃ t, PSs (cxOf CX P w K mg base N qual scope f (.ref (He.codeOf K p)) A outer s H E) body t ∧ t { nx := fun _ H' => Q .non H', rt := Q } (start N vs) H) : FnG P w K mg base CX (k + 1) f fd ps sp := by
  obtain ⟨oc, od, dV, kV, doc, pm, an, cdv, ct, osl, hfd, lk, hcd, _, _⟩ := F.ex
  obtain ⟨c, rfl⟩ := He.codeIn_ref hcd
  have ec : He.codeOf K p = c := He.codeOf_eq (hf ▸ lk) (by rw [hfd])
  rw [ec] at hbody
  subst hfd
  constructor
  · exact len
  intro A outer s H args us vs Q E hgu hr e0 hb r hsp
  have hlen := len _ _ _ _ hsp
  have kx : K.In s.heap := e0.mod.kin.keeps (fun b o e => (e0.bs b o e).1)
  have nol : s.heap.NoLimit := e0.mod.nolimit.keeps (fun b o e => (e0.bs b o e).1)
  have kinds : ∀ y ∈ ps.zip us, scope.names.lookup y.1 = some .local ∨ (scope.names.lookup y.1 = some .cell ∧ ((cellsFrom (s.heap.objs.size + 1) scope.names []).lookup y.1).isSome = true) := by
    rintro ⟨n, v⟩ hy
    cases S.par n (List.of_mem_zip hy).1 with
    | inl q => exact Or.inl q
    | inr q => exact Or.inr ⟨q, PySem.W.cellsFrom_some _ _ _ (Or.inl q)⟩
  refine codeAny_call_function hr.depth (kx _ _ lk) rfl S.co S.gen rfl (PySem.W.codeRec_of kx hcd) ?_
  refine hb _ _ _ _ (wpAny_newFunctionEnv_cells S.kind kinds ?_)
  rintro env rfl s1 x1
  refine ⟨nol.keeps x1.toInCall.keep, ?_⟩
  obtain ⟨t, ht, hq⟩ := hbody A outer s H vs Q E hgu (hr.deeper _) hsp
  have I : Inv (cxOf CX P w K mg base N qual scope f (.ref c) A outer s H E) [] (start N vs) H s1 := inv_start S hr.hd e0 hlen r x1
  refine codeAny_func (wpAny_mono (ht.run [] s1 (start N vs) H _ I hq) (fun fl s' hs => ?_) (fun _ _ z => z))
  have ends : ∀ {σ' : L2.St} {H' : Hp} {v : V} {u : Value}, Inv (cxOf CX P w K mg base N qual scope f (.ref c) A outer s H E) [] σ' H' s' → RelV v u → Q v H' → CE outer P w H s Q u s' := by
    intro σ' H' v u J rv q
    exact ⟨v, H', J.os, J.bare, J.base, J.hok, rv, q⟩
  match fl, hs with
  | .ret u, ⟨v, σ', H', J, rv, q⟩ => exact ends J rv q
  | .next, ⟨σ', H', J, q⟩ => exact ends (v := .non) (u := .none) J rfl q
  | .brk, ⟨_, _, _, q⟩ => exact q.elim
  | .cont, ⟨_, _, _, q⟩ => exact q.elim
end Z
namespace Z
open PySem PySem.Spec PyProof.Rows L2
/-! ### raising own errors -/
def tUp (ta : TA) : TA := fun σ H Q => ∃ Q0 : List V → Hp → Prop, ta σ H Q0 ∧ ∀ vs H1, Q0 vs H1 → Q vs H1
theorem pa_up {X : Cx} {es : List Expr} {ta : TA} (h : PA X es ta) : PA X es (tUp ta) := by
  constructor
  rintro pos pins s σ H Q I ⟨Q0, h0, h1⟩
  refine wpAny_mono (h.run pos pins s σ H Q0 I h0) ?_ (fun _ _ z => z)
  rintro us s' ⟨vs, H1, I1, r, q⟩
  exact ⟨vs, H1, I1, r, h1 _ _ q⟩
/-- raise x(e): x keeps one value as f -/
def tRaise1 (C : Addr) (f : Str) (W : WX) (ta : TA) : TS := fun _ σ H => ta σ H fun vs H1 => ∃ v, vs = [v] ∧ ∀ d H', Same H1 H' → H1 d = none → H' d = some (.xd [(f, v)]) → W (.ref C) (some d) σ H'
theorem ps_raise1 {X : Cx} {W : WX} {x f : Str} {k : Nat} {e : Expr} {es : List Expr} {ta : TA} {p pos pos2 : Pos} (E : ErrF X.K x) (D : DefM X.prog X.w X.K X.mg X.base k (He.ma X.K (He.ga X.K x) "__init__") ["self", f] (spErr1 X.K (He.ga X.K x) f)) (hr : Room (k + 1) X.A) (hc : X.calm = true) (tk : Takes X W) (hg : Gl X x) (hm : X.mg x = some (.ref (He.ga X.K x))) (ha : PA X (e :: es) ta)
    (hdb : (x == ("__debug__" : Str)) = false := by decide) (he : starEach (e :: es) X.env = (false, eval e X.env) :: starEach es X.env := by rfl) (hpl : (backTo pos (starEach es X.env)).any (·.1) = false := by rfl) :
    PS X (.Raise (some (.Call (.Name x p) (e :: es) [] pos)) none pos2) (tRaise1 (He.ga X.K x) f W ta) := by
  obtain ⟨fd, F, b⟩ := D.ex
  constructor
  intro pins s σ H D I h
  refine (ps_raise hc tk (pmk_oex (p := p) (pos := pos) E.o E.iC E.tI F hr b .nil pass0 hg hm (pa_up ha) hdb he hpl)).run pins s σ H D I ⟨_, h, ?_⟩
  rintro vs H1 ⟨v, rfl, k⟩
  exact ⟨by show 1 ≤ 1000; decide, fun a ha => raised1 (R := fun cls d H' => W cls d σ H') ha k⟩
theorem raised2 {K : PySem.W.Frag} {C : Addr} {f g : Str} {u v : V} {H : Hp} {a : Addr} {R : XK} (ha : H a = none) (k : ∀ d H', Same H H' → H d = none → H' d = some (.xd [(g, v), (f, u)]) → R (.ref C) (some d) H') :
    spErr2 K C f g [.ref a, u, v] (upd H a (exo a C none)) (fun z H2 => z = .non ∧ ∃ (d : Addr) (fs : List (Str × V)), H2 a = some (exo a C (some d)) ∧ H2 d = some (exd d fs) ∧ H d = none ∧ R (.ref C) (some d) (upd (del H2 a) d (.xd fs))) (fun _ _ _ => False) := by
  refine ⟨a, u, v, rfl, upd_same, fun dx H' h1 h2 e1 e2 e3 => ?_⟩
  have h1' : H dx = none := by rw [upd_ne h2] at h1; exact h1
  refine ⟨rfl, dx, _, e1, e2, h1', k dx _ (fun b o e => ?_) h1' upd_same⟩
  have n1 : b ≠ dx := ne_of_none e h1'
  have n2 : b ≠ a := ne_of_none e ha
  rw [upd_ne n1, del_ne n2, e3 b n2 n1, upd_ne n2]
  exact e
/-- raise x(e, e'): x keeps two values as f, g -/
def tRaise2 (C : Addr) (f g : Str) (W : WX) (ta : TA) : TS := fun _ σ H => ta σ H fun vs H1 => ∃ u v, vs = [u, v] ∧ ∀ d H', Same H1 H' → H1 d = none → H' d = some (.xd [(g, v), (f, u)]) → W (.ref C) (some d) σ H'
theorem ps_raise2 {X : Cx} {W : WX} {x f g : Str} {k : Nat} {e : Expr} {es : List Expr} {ta : TA} {p pos pos2 : Pos} (E : ErrF X.K x) (D : DefM X.prog X.w X.K X.mg X.base k (He.ma X.K (He.ga X.K x) "__init__") ["self", f, g] (spErr2 X.K (He.ga X.K x) f g)) (hr : Room (k + 1) X.A) (hc : X.calm = true) (tk : Takes X W) (hg : Gl X x) (hm : X.mg x = some (.ref (He.ga X.K x))) (ha : PA X (e :: es) ta)
    (hdb : (x == ("__debug__" : Str)) = false := by decide) (he : starEach (e :: es) X.env = (false, eval e X.env) :: starEach es X.env := by rfl) (hpl : (backTo pos (starEach es X.env)).any (·.1) = false := by rfl) :
    PS X (.Raise (some (.Call (.Name x p) (e :: es) [] pos)) none pos2) (tRaise2 (He.ga X.K x) f g W ta) := by
  obtain ⟨fd, F, b⟩ := D.ex
  constructor
  intro pins s σ H D I h
  refine (ps_raise hc tk (pmk_oex (p := p) (pos := pos) E.o E.iC E.tI F hr b .nil pass0 hg hm (pa_up ha) hdb he hpl)).run pins s σ H D I ⟨_, h, ?_⟩
  rintro vs H1 ⟨u, v, rfl, k⟩
  exact ⟨by show 2 ≤ 1000; decide, fun a ha => raised2 (R := fun cls d H' => W cls d σ H') ha k⟩
theorem same_none {H H' : Hp} {d : Addr} (s : Same H H') (h : H' d = none) : H d = none := by
  cases e : H d with
  | none => rfl
  | some o => rw [s d o e] at h; cases h
theorem vnm_str {v : V} (h : vnm v = true) : ∃ z, v = .str z := by
  cases v with
  | str z => exact ⟨z, rfl⟩
  | _ => cases h
theorem tgt_non {x y : V} (h : y = .non) : tgt x y = true := by subst h; rfl
theorem tgt_bad {x y : V} (h : y ≠ .non) (v : vnm y = false) : tgt x y = false := by
  unfold tgt
  rw [v, decide_eq_false h]
  rfl
theorem tgt_self {x : V} (v : vnm x = true) : tgt x x = false := by
  obtain ⟨z, rfl⟩ := vnm_str v
  unfold tgt
  simp
theorem tgt_two {x y : V} (v : vnm y = true) (h : y ≠ x) : tgt x y = true := by
  unfold tgt
  rw [v, decide_eq_false h]
  simp
/-! ### new frames -/
def tNew (C : Addr) (sp : Sp) (E : XK) (ta : TA) : TE := fun σ H Q => ta σ H fun vs H1 => ∀ p dx, H1 p = none → H1 dx = none → dx ≠ p → sp (.ref p :: vs) (upd (upd H1 dx (.own p)) p (.ins C dx [])) (fun v H2 => v = .non ∧ Q (.ref p) H2) E
/-- a def of the module that may raise -/
structure DefC (P : Program) (w : World) (K : PySem.W.Frag) (mg : Str → Option Value) (base : Heap) (k : Nat) (x : Str) (ps : List Str) (sp : Sp) : Prop where
  ex : ∃ fd, FnOk P w K mg base (CX P w) k (He.ga K x) fd ps sp ∧ Binds K fd ps []
  kp : PySem.W.keepIn K (.ref (He.ga K x)) = true
  at_ : mg x = some (.ref (He.ga K x))
theorem pe_defC {X : Cx} {k : Nat} {x : Str} {ps : List Str} {sp : Sp} {E : XK} {e : Expr} {es : List Expr} {p pos : Pos} {t : TA} (D : DefC X.prog X.w X.K X.mg X.base k x ps sp) (hr : Room k X.A) (hg : Gl X x) (hx : Passes (CX X.prog X.w) X E) (ha : PA X (e :: es) t)
    (hdb : (x == ("__debug__" : Str)) = false := by decide) (he : starEach (e :: es) X.env = (false, eval e X.env) :: starEach es X.env := by rfl) (hpl : (backTo pos (starEach es X.env)).any (·.1) = false := by rfl) :
    PE X (.Call (.Name x p) (e :: es) [] pos) (tCall sp [] E t) := by
  obtain ⟨fd, F, b⟩ := D.ex
  exact pe_call F hr hg D.at_ D.kp b .nil hx ha hdb he hpl
end Z
namespace Z
open PySem PySem.Spec PyProof.Rows L2
/-! ### the order of pairs of texts -/
def sLt (a b : Str) : Bool := decide (a.cps.toList < b.cps.toList)
def cmpS : CmpOp → Str → Str → Bool
  | .Lt, a, b => sLt a b
  | .LtE, a, b => !sLt b a
  | .Gt, a, b => sLt b a
  | .GtE, a, b => !sLt a b
  | _, _, _ => false
def endS : CmpOp → Bool
  | .LtE => true
  | .GtE => true
  | _ => false
def ord2 (op : CmpOp) (a1 a2 b1 b2 : Str) : Bool := if a1 = b1 then (if a2 = b2 then endS op else cmpS op a2 b2) else cmpS op a1 b1
def rOrd2 (K : PySem.W.Frag) (op : CmpOp) : R2 := fun x y H Q => ∃ (p q : Addr) (a1 a2 b1 b2 : Str), x = .ref p ∧ y = .ref q ∧ SqT K H p [.str a1, .str a2] ∧ SqT K H q [.str b1, .str b2] ∧ Q (.bl (ord2 op a1 a2 b1 b2)) H
theorem op_ord2 {X : Cx} {K : PySem.W.Frag} {op : CmpOp} (he : ∀ u v, compareOp op u v = richCompare op u v)
    (tuples : ∀ {A : Around} {s : Shared} {l b : Addr} {items items2 : Array Value} {e r : Nat → Bool}, s.heap.IsTuple l items → s.heap.IsTuple b items2 → A.units < cLine → (∀ j (h1 : j < items.size) (h2 : j < items2.size), SeqAt.EqAt A.in1 s items[j] items2[j] (e j)) →
      (∀ j (h1 : j < items.size) (h2 : j < items2.size), e j = false → Ob.RcOp op A.in1 s items[j] items2[j] (r j)) → ∃ z, (items.size = items2.size → z = endS op) ∧ Ob.RcOp op A s (.ref l) (.ref b) (Ob.lexAt e r z 0 (min items.size items2.size)))
    (text : ∀ {A : Around} {s : Shared} {a b : Str} {t u : Tok}, Ob.RcOp op A s (.str a t) (.str b u) (cmpS op a b))
    (hu : X.A.units < cLine) (hK : X.K = K := by rfl) : OpR X (compareOp op) (rOrd2 K op) := by
  subst hK
  rintro pins s σ H x y v u Q I rx ry ⟨p, q, a1, a2, b1, b2, rfl, rfl, hp, hq, k⟩
  cases rx
  cases ry
  obtain ⟨its, r1, p1, _⟩ := I.tuple hp
  obtain ⟨its2, r2, p2, _⟩ := I.tuple hq
  cases r1 with
  | cons e1 r1 =>
  cases r1 with
  | cons e2 r1 =>
  cases r1
  cases r2 with
  | cons g1 r2 =>
  cases r2 with
  | cons g2 r2 =>
  cases r2
  obtain ⟨t1, rfl⟩ := e1
  obtain ⟨t2, rfl⟩ := e2
  obtain ⟨u1, rfl⟩ := g1
  obtain ⟨u2, rfl⟩ := g2
  have eqs : ∀ {A : Around} {a b : Str} {t u : Tok}, SeqAt.EqAt A s (.str a t) (.str b u) (decide (a = b)) := by
    intro A a b t u
    have z : (a == b) = decide (a = b) := by
      by_cases q : a = b
      · rw [decide_eq_true q]; exact beq_iff_eq.mpr q
      · rw [decide_eq_false q]; exact beq_eq_false_iff_ne.mpr q
    rw [← z]
    exact SeqAt.EqAt.str_str _ _ _ _
  obtain ⟨z, hz, R⟩ := tuples (A := X.A) (s := s) (e := fun j => decide ([a1, a2].getD j "" = [b1, b2].getD j "")) (r := fun j => cmpS op ([a1, a2].getD j "") ([b1, b2].getD j "")) p1 p2 hu
    (fun j h1 h2 => match j, h1, h2 with
      | 0, _, _ => eqs
      | 1, _, _ => eqs
      | n + 2, h1, _ => absurd h1 (by simp)) (fun j h1 h2 _ => match j, h1, h2 with
      | 0, _, _ => text
      | 1, _, _ => text
      | n + 2, h1, _ => absurd h1 (by simp))
  have hz := hz rfl
  subst hz
  have el : Ob.lexAt (fun j => decide ([a1, a2].getD j "" = [b1, b2].getD j "")) (fun j => cmpS op ([a1, a2].getD j "") ([b1, b2].getD j "")) (endS op) 0 2 = ord2 op a1 a2 b1 b2 := by
    show (if decide (a1 = b1) = true then (if decide (a2 = b2) = true then endS op else cmpS op a2 b2) else cmpS op a1 b1) = _
    unfold ord2
    simp only [decide_eq_true_eq]
  have R2 : Ob.RcOp op X.A s (.ref p) (.ref q) (ord2 op a1 a2 b1 b2) := el ▸ R
  rw [he]
  exact R2 X.prog X.w X.xe (EP X pins σ Q) ⟨.bl _, H, I, rfl, k⟩
section
variable {X : Cx} {K : PySem.W.Frag}
theorem op_lt2 (hu : X.A.units < cLine) (hK : X.K = K := by rfl) : OpR X (compareOp .Lt) (rOrd2 K .Lt) := op_ord2 (fun _ _ => rfl) (fun h1 h2 h3 h4 h5 => ⟨_, fun e => by rw [e]; simp [endS], Ob.RcOp.tuples_lt h1 h2 h3 h4 h5⟩) (fun _ _ _ _ h => PyProof.Rows.lt_str h) hu hK
theorem op_le2 (hu : X.A.units < cLine) (hK : X.K = K := by rfl) : OpR X (compareOp .LtE) (rOrd2 K .LtE) := op_ord2 (fun _ _ => rfl) (fun h1 h2 h3 h4 h5 => ⟨_, fun e => by rw [e]; simp [endS], Ob.RcOp.tuples_le h1 h2 h3 h4 h5⟩) (fun _ _ _ _ h => PySem.P.le_str h) hu hK
theorem op_gt2 (hu : X.A.units < cLine) (hK : X.K = K := by rfl) : OpR X (compareOp .Gt) (rOrd2 K .Gt) := op_ord2 (fun _ _ => rfl) (fun h1 h2 h3 h4 h5 => ⟨_, fun e => by rw [e]; simp [endS], Ob.RcOp.tuples_gt h1 h2 h3 h4 h5⟩) (fun _ _ _ _ h => PySem.P.gt_str h) hu hK
theorem op_ge2 (hu : X.A.units < cLine) (hK : X.K = K := by rfl) : OpR X (compareOp .GtE) (rOrd2 K .GtE) := op_ord2 (fun _ _ => rfl) (fun h1 h2 h3 h4 h5 => ⟨_, fun e => by rw [e]; simp [endS], Ob.RcOp.tuples_ge h1 h2 h3 h4 h5⟩) (fun _ _ _ _ h => PySem.P.ge_str h) hu hK
end
/-- a row that is not reached -/
theorem ps_never {X : Cx} {st : Stmt} : PS X st (fun _ _ _ => False) := ⟨fun _ _ _ _ _ _ h => h.elim⟩
theorem shaped2 {a b : Str} (ha : PyData.strOk a = true) (hb : PyData.strOk b = true) : SeqAt.shaped (.tuple [.str a, .str b]) = true := by
  unfold SeqAt.shaped
  simp [PyData.canLay0, PyData.canLayAll0, PyData.depth, PyData.depthAll, ha, hb]
/-! ### frames -/
def optV : Option Str → V
  | none => .non
  | some z => .str z
def kOf (o : Option Str) : Str := o.getD ""
/-- p is a frame from a to o -/
structure FrOk (a : Str) (o : Option Str) : Prop where
  a : IsNm a
  o : ∀ z, o = some z → IsNm z
theorem FrOk.k {a : Str} {o : Option Str} (h : FrOk a o) : PyData.strOk (kOf o) = true := by
  cases o with
  | none => decide +kernel
  | some z => exact (h.o z rfl).ok
def IsFr (K : PySem.W.Frag) (H : Hp) (p : Addr) (a : Str) (o : Option Str) : Prop := FrOk a o ∧ ∃ dx, H p = some (.ins (He.ga K "Frame") dx (fFields (.str a) (optV o)))
theorem IsFr.same {K : PySem.W.Frag} {H H' : Hp} {p : Addr} {a : Str} {o : Option Str} (s : Same H H') (h : IsFr K H p a o) : IsFr K H' p a o := let ⟨f, dx, e⟩ := h; ⟨f, dx, s _ _ e⟩
def spKey (K : PySem.W.Frag) : Sp := fun vs H Q _ => ∃ (p : Addr) (a : Str) (o : Option Str), vs = [.ref p] ∧ IsFr K H p a o ∧ ∀ t, H t = none → Q (.ref t) (upd H t (.tup [.str a, .str (kOf o)]))
def spOrd (K : PySem.W.Frag) (op : CmpOp) : Sp := fun vs H Q _ => ∃ (p q : Addr) (a b : Str) (o r : Option Str), vs = [.ref p, .ref q] ∧ IsFr K H p a o ∧ IsFr K H q b r ∧ ∀ H', Same H H' → Q (.bl (ord2 op a (kOf o) b (kOf r))) H'
def eq2 (a1 a2 b1 b2 : Str) : Bool := PyData.eqv (.tuple [.str a1, .str a2]) (.tuple [.str b1, .str b2])
def spEqF (K : PySem.W.Frag) : Sp := fun vs H Q _ => ∃ (p : Addr) (y : V) (a : Str) (o : Option Str), vs = [.ref p, y] ∧ IsFr K H p a o ∧
  ((∃ (q : Addr) (b : Str) (r : Option Str), y = .ref q ∧ IsFr K H q b r ∧ ∀ H', Same H H' → Q (.bl (eq2 a (kOf o) b (kOf r))) H') ∨ ∃ t, t ∈ kinds ∧ TyX K H y t ∧ Q (.bl false) H)
def starOf : Option Str → Str
  | none => "*"
  | some z => z
def textF (a : Str) (o : Option Str) : Str := a ++ " " ++ starOf o
theorem str_ext {a b : Str} (h : a.cps.toList = b.cps.toList) : a = b := by
  obtain ⟨⟨x⟩⟩ := a
  obtain ⟨⟨y⟩⟩ := b
  simp only at h
  rw [h]
theorem str_app (a b : Str) : (a ++ b).cps.toList = a.cps.toList ++ b.cps.toList := by
  show (a.cps ++ b.cps).toList = _
  simp
theorem str_nil (a : Str) : Str.empty ++ a = a := str_ext (by rw [str_app]; rfl)
theorem str_len (a : Str) : a.length = a.cps.toList.length := by
  show a.cps.size = _
  simp
theorem str_len_le {a b : Str} (h : IsNm a) {n : Nat} (hb : b.length ≤ n) : (a ++ b).length ≤ 8 + n := by
  have := h.hi
  rw [str_len, str_app, List.length_append, ← str_len, ← str_len]
  omega
theorem FrOk.text_none {a : Str} (_ : FrOk a none) : a ++ " *" = textF a none := str_ext (by
  unfold textF starOf
  rw [str_app, str_app, str_app, List.append_assoc]
  rfl)
theorem FrOk.text_fit {a z : Str} (h : FrOk a (some z)) : (a ++ " " ++ z).length ≤ sizeLine := by
  have h1 := h.a.hi
  have h2 := (h.o z rfl).hi
  have e : (a ++ " " ++ z).length = a.length + 1 + z.length := by
    rw [str_len, str_app, str_app, List.length_append, List.length_append, ← str_len, ← str_len]
    rfl
  rw [e]
  exact Nat.le_trans (show a.length + 1 + z.length ≤ 100 by omega) (by decide)
def spStrF (K : PySem.W.Frag) : Sp := fun vs H Q _ => ∃ (p : Addr) (a : Str) (o : Option Str), vs = [.ref p] ∧ IsFr K H p a o ∧ Q (.str (textF a o)) H
def spAllF (K : PySem.W.Frag) : Sp := fun vs H Q _ => ∃ (p : Addr) (a : Str) (o : Option Str), vs = [.ref p] ∧ IsFr K H p a o ∧ Q (.bl (decide (optV o = .non))) H
theorem nm_v {a : Str} (h : IsNm a) : vnm (.str a) = true := nmB_iff.mpr h
theorem tgt_ok {a : Str} {o : Option Str} (f : FrOk a o) (ne : ∀ z, o = some z → z ≠ a) : tgt (.str a) (optV o) = true := by
  cases o with
  | none => exact tgt_non rfl
  | some z => exact tgt_two (nm_v (f.o z rfl)) (fun e => ne z rfl (V.str.inj e))
theorem kind_opt {K : PySem.W.Frag} {H : Hp} {a : Str} {o : Option Str} (f : FrOk a o) : Kind K H (optV o) := by
  cases o with
  | none => exact .non
  | some z => exact .str (f.o z rfl)
/-- Frame(a, o) is made, at p -/
theorem frame_new {K : PySem.W.Frag} {H : Hp} {a : Str} {o : Option Str} {Q : Addr → Hp → Prop} {E : XK} (f : FrOk a o) (ne : ∀ z, o = some z → z ≠ a) (k : ∀ p H', Same H H' → H p = none → IsFr K H' p a o → Q p H') :
    ∀ x dx, H x = none → H dx = none → dx ≠ x → spFrame K [.ref x, .str a, optV o] (upd (upd H dx (.own x)) x (.ins (He.ga K "Frame") dx [])) (fun v H2 => v = .non ∧ Q x H2) E := by
  intro x dx h1 h2 h3
  refine ⟨x, dx, _, _, rfl, upd_same, .str f.a, kind_opt f, fun z => ?_, fun _ z => ?_, fun _ _ H' b e => ⟨rfl, k x H' (fun c u ec => ?_) h1 ⟨f, dx, e⟩⟩⟩
  · rw [nm_v f.a] at z
    cases z
  · rw [tgt_ok f ne] at z
    cases z
  · have n1 := ne_of_none ec h1
    have n2 := ne_of_none ec h2
    exact b c u n1 (by rw [upd_ne n1, upd_ne n2]; exact ec)
/-- Frame(x, y) is made, or refused -/
theorem frame_bad {K : PySem.W.Frag} {H : Hp} {u v : V} {Q : Addr → Hp → Prop} {E : XK} (ku : Kind K H u) (kv : Kind K H v) (h : vnm u = false ∨ tgt u v = false)
    (k1 : vnm u = false → ∀ d H', Same H H' → H d = none → H' d = some (.xd [("part", .str "sender")]) → E (.ref (He.ga K "BadFrame")) (some d) H')
    (k2 : vnm u = true → tgt u v = false → ∀ d H', Same H H' → H d = none → H' d = some (.xd [("part", .str "target")]) → E (.ref (He.ga K "BadFrame")) (some d) H') :
    ∀ x dx, H x = none → H dx = none → dx ≠ x → spFrame K [.ref x, u, v] (upd (upd H dx (.own x)) x (.ins (He.ga K "Frame") dx [])) (fun v H2 => v = .non ∧ Q x H2) E := by
  intro x dx h1 h2 h3
  have sm : Same H (upd (upd H dx (.own x)) x (.ins (He.ga K "Frame") dx [])) := fun c u ec => by
    rw [upd_ne (ne_of_none ec h1), upd_ne (ne_of_none ec h2)]
    exact ec
  refine ⟨x, dx, _, _, rfl, upd_same, ku.same sm, kv.same sm, fun z d H' s n e => k1 z d H' (sm.trans s) (same_none sm n) e, fun z t d H' s n e => k2 z t d H' (sm.trans s) (same_none sm n) e, fun z t => ?_⟩
  rcases h with h | h
  · rw [h] at z
    cases z
  · rw [h] at t
    cases t
theorem ne_pen {H H' : Hp} {p c q : Addr} {ms : List Int} {t : Nat} {z : Int} (P : Pen H p c ms t z) (s : Same H H') (h : H' q = none) : q ≠ p := (ne_of_none (s _ _ P.a) h).symm
theorem cut7 {x y : Str} (_ : IsNm x) (k : Nat) (hy : y.length ≤ 2) (hk : k ≤ 7 := by decide) : (cutS x none (some (k : Int))).length + y.length ≤ sizeLine := by
  have h2 := cut_len x k
  exact Nat.le_trans (show _ ≤ 10 by omega) (by decide)
theorem kind_cut {K : PySem.W.Frag} {H : Hp} {x y : Str} (hx : IsNm x) (k : Nat) (hy : y.length ≤ 2) (hk : k ≤ 7 := by decide) : Kind K H (.str (cutS x none (some (k : Int)) ++ y)) := by
  refine .inl ⟨_, rfl, ?_⟩
  rw [str_len, str_app, List.length_append, ← str_len, ← str_len]
  exact cut7 hx k hy hk
theorem not_nm {x y : Str} {b : Nat} (hb : b ∈ y.cps.toList) (hn : ¬ (97 ≤ b ∧ b ≤ 122)) : vnm (.str (x ++ y)) = false := by
  cases e : vnm (.str (x ++ y)) with
  | false => rfl
  | true =>
    have h := (nmB_iff.mp e).az b (by rw [str_app]; exact List.mem_append_right _ hb)
    exact absurd h hn
theorem kind_t {K : PySem.W.Frag} {H : Hp} {v : V} {a : String} (h : TyOf K H v (.type a)) (k : kitB a "str" = some false) : Kind K H v := .inr ⟨_, .base h, kit_ty k⟩
end Z
namespace Z
open PySem PySem.Spec PyProof.Rows L2
/-! ### a def that calls what it is handed, within a try -/
theorem takes_len {X : Cx} {W : WX} (t : Takes X W) : Takes X (fun cls d σ H => σ.length = X.N.length → W cls d σ H) := by
  rintro u s' ⟨a, B, sI, pins, σ, H, cls, d, e, I, nb, up, sky, na, os, ag, w⟩
  exact t u s' ⟨a, B, sI, pins, σ, H, cls, d, e, I, nb, up, sky, na, os, ag, w I.len⟩
theorem pe_up {X : Cx} {e : Expr} {te : TE} (h : PE X e te) : PE X e (fun σ H Q => ∃ Q0 : VK, te σ H Q0 ∧ ∀ v H1, Q0 v H1 → Q v H1) := by
  constructor
  rintro pins s σ H Q I ⟨Q0, h0, h1⟩
  refine wpAny_mono (h.run pins s σ H Q0 I h0) ?_ (fun _ _ z => z)
  rintro u s' ⟨v, H1, I1, r, q⟩
  exact ⟨v, H1, I1, r, h1 _ _ q⟩
/-- found = ask() -/
def tAsk (n j : Nat) (f c' : Addr) (q : Str) (tl : XK → Hp → VK → Prop) (W : WX) : TS := fun D σ H => ∃ (E : XK) (Q0 : VK), (∀ cls d σ' H', E cls d H' → σ'.length = n → W cls d σ' H') ∧ σ[0]? = some (some (.ref f)) ∧ H c' = some (LamX.CodeO c' q) ∧ tl E H Q0 ∧ ∀ v H1, Q0 v H1 → D.nx (σ.set j (some v)) H1
theorem ps_ask {Z : Cx} {W : WX} {n : Nat} {f c' : Addr} {q nm a : Str} {tl : XK → Hp → VK → Prop} {j : Nat} {p1 p2 p3 p4 : Pos} (hn : Z.N.length = n)
    (set_ : ∀ te, PE Z (.Call (.Name a p1) [] [] p2) te → PS Z (.Assign [.Name nm p3] (.Call (.Name a p1) [] [] p2) p4) (tAsg te (gName j)))
    (act : ∀ E : XK, (∀ cls d σ' H', E cls d H' → σ'.length = Z.N.length → W cls d σ' H') → PE Z (.Call (.Name a p1) [] [] p2) (fun σZ HZ Q => σZ[0]? = some (some (.ref f)) ∧ HZ c' = some (LamX.CodeO c' q) ∧ tl E HZ Q)) :
    PSs Z [.Assign [.Name nm p3] (.Call (.Name a p1) [] [] p2) p4] (tAsk n j f c' q tl W) := by
  constructor
  rintro pins s σ H D I ⟨E, Q0, hW, h1, h2, h3, h4⟩
  exact (pss_one (set_ _ (pe_up (act E (fun cls d σ' H' e l => hW cls d σ' H' e (l.trans hn)))))).run pins s σ H D I ⟨Q0, ⟨h1, h2, h3⟩, h4⟩
/-- what a law's _law_heard makes of a call that may raise x, whose only value is its field f -/
def TTheard (K : PySem.W.Frag) (x f : Str) : (XK → Hp → VK → Prop) → Hp → VK → Prop := fun tl H Q => ∀ H1, Same H H1 → ∃ (E : XK) (Q0 : VK), tl E H1 Q0 ∧
  (∀ cls d H', E cls d H' → cls = .ref (He.ga K x) ∧ ∃ (dd : Addr) (v : V), d = some dd ∧ H' dd = some (.xd [(f, v)]) ∧ ∀ H'', Same H' H'' → Q v H'') ∧ ∀ v H', Q0 v H' → ∀ l, H' l = none → Q (.ref l) (upd H' l (.lst [v]))
/-! ### all but the tables stays -/
theorem tyOf_ext {K : PySem.W.Frag} {H H' : Hp} {v : V} {t : Value} (s : LamX.ExtN H H') (h : TyOf K H v t) : TyOf K H' v t := by
  cases h with
  | non => exact .non
  | bl b => exact .bl b
  | int i => exact .int i
  | str z => exact .str z
  | flt b => exact .flt b
  | lst e => exact .lst (s _ _ e nofun)
  | frz e => exact .frz (s _ _ e nofun)
  | tup e => exact .tup (s _ _ e nofun)
  | dK e => exact .dK (s _ _ e nofun)
  | dT e => exact .dT (s _ _ e nofun)
  | ins e a b c d f => exact .ins (s _ _ e nofun) a b c d f
theorem tyX_ext {K : PySem.W.Frag} {H H' : Hp} {v : V} {t : Value} (s : LamX.ExtN H H') (h : TyX K H v t) : TyX K H' v t := by
  cases h with
  | base b => exact .base (tyOf_ext s b)
  | byt b => exact .byt b
  | set e => exact .set (s _ _ e nofun)
  | kList e c => exact .kList e c
  | kTuple e c => exact .kTuple e c
  | kDict e c => exact .kDict e c
  | fTuple e => exact .fTuple (s _ _ e nofun)
  | fDict e => exact .fDict (s _ _ e nofun)
theorem Kind.ext {K : PySem.W.Frag} {H H' : Hp} {v : V} (s : LamX.ExtN H H') (h : Kind K H v) : Kind K H' v := h.imp id fun ⟨t, a, b⟩ => ⟨t, tyX_ext s a, b⟩
/-- all but p and the tables stays -/
def ButT (p : Addr) (H H' : Hp) : Prop := ∀ b o, b ≠ p → H b = some o → (∀ ps, o ≠ .tbl ps) → H' b = some o
theorem ButT.refl {p : Addr} {H : Hp} : ButT p H H := fun _ _ _ h _ => h
theorem ButT.trans {p : Addr} {H H1 H2 : Hp} (a : ButT p H H1) (b : ButT p H1 H2) : ButT p H H2 := fun c o n h k => b c o n (a c o n h k) k
theorem ButT.of {p : Addr} {H H' : Hp} (b : But p H H') : ButT p H H' := fun c o n h _ => b c o n h
theorem ButT.ofS {p : Addr} {H H' : Hp} (b : Same H H') : ButT p H H' := fun c o _ h _ => b c o h
theorem ButT.ofN {p : Addr} {H H' : Hp} (b : LamX.ExtN H H') : ButT p H H' := fun c o _ h k => b c o h k
theorem Pen.ext {H H' : Hp} {p c : Addr} {ms : List Int} {t : Nat} {z : Int} (P : Pen H p c ms t z) (s : LamX.ExtN H H') : Pen H' p c ms t z := ⟨s _ _ P.a nofun, s _ _ P.b nofun⟩
theorem extS {H H' : Hp} (s : Same H H') : LamX.ExtN H H' := LamX.ExtN.of s
/-- _law_heard(lambda: Frame(..)), refused -/
theorem heard_bad {K : PySem.W.Frag} {T : List (Addr × Str)} {t : XK → TE} {σ : L2.St} {H : Hp} {Q : VK} {u v : V} (part : Str) (hT : LamX.Tabs T H)
    (rd : ∀ E H2, (∀ x dx, H2 x = none → H2 dx = none → dx ≠ x → spFrame K [.ref x, u, v] (upd (upd H2 dx (.own x)) x (.ins (He.ga K "Frame") dx [])) (fun v _ => v = .non ∧ False) E) → t E σ H2 (fun _ _ => False))
    (ku : Kind K H u) (kv : Kind K H v) (bad : (part = "sender" ∧ vnm u = false) ∨ (part = "target" ∧ vnm u = true ∧ tgt u v = false)) (k : ∀ H', LamX.ExtN H H' → LamX.Tabs T H' → Q (.str part) H') :
    LamX.tLam T (TTheard K "BadFrame" "part") t σ H Q := by
  refine ⟨hT, fun H1 eN T1 H2 s2 => ⟨fun cls d H' => cls = .ref (He.ga K "BadFrame") ∧ ∃ dd, d = some dd ∧ H' dd = some (.xd [("part", .str part)]) ∧ Same H2 H', fun _ _ => False, ?_, ?_, fun _ _ z => z.elim⟩⟩
  · have e2 : LamX.ExtN H H2 := eN.trans (extS s2)
    refine rd _ H2 (frame_bad (Q := fun _ _ => False) (ku.ext e2) (kv.ext e2) ?_ (fun z d H' s n e => ?_) (fun z zt d H' s n e => ?_))
    · rcases bad with ⟨_, b⟩ | ⟨_, _, b⟩
      · exact .inl b
      · exact .inr b
    · rcases bad with ⟨rfl, b⟩ | ⟨_, b, _⟩
      · exact ⟨rfl, d, rfl, e, s⟩
      · rw [b] at z
        cases z
    · rcases bad with ⟨_, b⟩ | ⟨rfl, _, _⟩
      · rw [b] at z
        cases z
      · exact ⟨rfl, d, rfl, e, s⟩
  · rintro cls d H' ⟨rfl, dd, rfl, hdd, sm⟩
    exact ⟨rfl, dd, _, rfl, hdd, fun H'' s => k H'' (((eN.trans (extS s2)).trans (extS sm)).trans (extS s)) (((T1.ext s2).ext sm).ext s)⟩
theorem tyX_gen {K : PySem.W.Frag} {H H' : Hp} {v : V} {t : Value} (s : ∀ b o, v = .ref b → H b = some o → (∀ ps, o ≠ .tbl ps) → H' b = some o) (h : TyX K H v t) : TyX K H' v t := by
  cases h with
  | base b =>
    refine .base ?_
    cases b with
    | non => exact .non
    | bl b => exact .bl b
    | int i => exact .int i
    | str z => exact .str z
    | flt b => exact .flt b
    | lst e => exact .lst (s _ _ rfl e nofun)
    | frz e => exact .frz (s _ _ rfl e nofun)
    | tup e => exact .tup (s _ _ rfl e nofun)
    | dK e => exact .dK (s _ _ rfl e nofun)
    | dT e => exact .dT (s _ _ rfl e nofun)
    | ins e a b c d f => exact .ins (s _ _ rfl e nofun) a b c d f
  | byt b => exact .byt b
  | set e => exact .set (s _ _ rfl e nofun)
  | kList e c => exact .kList e c
  | kTuple e c => exact .kTuple e c
  | kDict e c => exact .kDict e c
  | fTuple e => exact .fTuple (s _ _ rfl e nofun)
  | fDict e => exact .fDict (s _ _ rfl e nofun)
theorem Kind.but {K : PySem.W.Frag} {p : Addr} {H H' : Hp} {v : V} (s : But p H H') (n : v ≠ .ref p) (h : Kind K H v) : Kind K H' v :=
  h.imp id fun ⟨t, a, b⟩ => ⟨t, tyX_gen (fun b o e h _ => s b o (fun z => n (by rw [e, z])) h) a, b⟩
theorem tabs_upd {T : List (Addr × Str)} {H : Hp} {l : Addr} {xs ys : List V} (t : LamX.Tabs T H) (h : H l = some (.lst xs)) : LamX.Tabs T (upd H l (.lst ys)) := by
  intro p hp
  obtain ⟨ps, h1, h2, h3⟩ := t p hp
  have n1 : p.1 ≠ l := ne_of h1 h nofun
  refine ⟨ps, by rw [upd_ne n1]; exact h1, h2, fun pos cv hc => ?_⟩
  obtain ⟨c, e1, e2⟩ := h3 pos cv hc
  have n2 : c ≠ l := ne_of e2 h (fun z => by unfold LamX.CodeO at z; cases z)
  exact ⟨c, e1, by rw [upd_ne n2]; exact e2⟩
/-- a list of what was heard grows -/
structure Heard (T : List (Addr × Str)) (H Hk : Hp) (l : Addr) (xs : List V) : Prop where
  e : LamX.ExtN H Hk
  t : LamX.Tabs T Hk
  n : ∀ o, H l = some o → ∃ ps, o = .tbl ps
  a : Hk l = some (.lst xs)
theorem Heard.go {T : List (Addr × Str)} {H Hk H' : Hp} {l : Addr} {xs ys : List V} (h : Heard T H Hk l xs) (e : LamX.ExtN Hk H') (t : LamX.Tabs T H') : Heard T H (upd H' l (.lst ys)) l ys :=
  ⟨fun b o hb nb => by
    have n1 : b ≠ l := by
      rintro rfl
      obtain ⟨ps, rfl⟩ := h.n o hb
      exact nb ps rfl
    rw [upd_ne n1]
    exact e _ _ (h.e _ _ hb nb) nb, tabs_upd t (e _ _ h.a nofun), h.n, upd_same⟩
theorem Heard.new {T : List (Addr × Str)} {H H' : Hp} {l : Addr} {xs : List V} (e : LamX.ExtN H H') (t : LamX.Tabs T H') (n : H' l = none) : Heard T H (upd H' l (.lst xs)) l xs := by
  refine ⟨e.trans (extS (same_new n)), t.ext (same_new n), fun o q => ?_, upd_same⟩
  cases o with
  | tbl ps => exact ⟨ps, rfl⟩
  | _ =>
    have := e l _ q nofun
    rw [n] at this
    cases this
theorem tabs_but {T : List (Addr × Str)} {H H' : Hp} {p c : Addr} {ms : List Int} {n : Nat} {z : Int} (t : LamX.Tabs T H) (P : Pen H p c ms n z) (b : But p H H') : LamX.Tabs T H' := by
  intro q hq
  obtain ⟨ps, h1, h2, h3⟩ := t q hq
  refine ⟨ps, b _ _ (ne_of h1 P.a nofun) h1, h2, fun pos cv hc => ?_⟩
  obtain ⟨d, e1, e2⟩ := h3 pos cv hc
  exact ⟨d, e1, b _ _ (ne_of e2 P.a (fun z => by unfold LamX.CodeO at z; cases z)) e2⟩
def three (z : Str) : List V := [.str z, .str z, .str z]
def threeD (z : Str) : PyData := .list [.str z, .str z, .str z]
theorem three_dp {K : PySem.W.Frag} {H : Hp} {l : Addr} {z : Str} (h : H l = some (.lst (three z))) : Dp K H (.ref l) (threeD z) := .lst (SqL.of h) (.cons (.str _) (.cons (.str _) (.cons (.str _) .nil)))
end Z
namespace Z
open PySem PySem.Spec PyProof.Rows L2
/-! ### str(x) by an own __str__ -/
section
variable {prog : Program} {w : World} {A : Around} {E : Value → Shared → Prop} {s : Shared} {K : PySem.W.Frag} {x C f : Addr} {ox : Obj} {od : Option Obj}
theorem shown_own {R : Value → Shared → Prop} (hu : A.units < cLine) (X : K.In s.heap) (I : PySem.W.InstAt s.heap x ox C od) (hs : PySem.W.findIn K (.ref C) "__str__" = some (some (.ref f))) (hf : PySem.W.isFn K (.ref f) = true)
    (h : wpAny (model prog w) A (call (.ref f) [.ref x]) (fun v s' => ∃ y t, v = .str y t ∧ R v s') E s) : wpAny (model prog w) A (PySem.Builtin.Str.strOf (.ref x)) R E s := by
  unfold PySem.Builtin.Str.strOf
  rw [show Builtin.Str.isExactStr (.ref x) = false from rfl]
  refine wpAny_bind (m := cRoomFor _ _) (wpAny_cRoomFor hu ?_)
  refine wpAny_bind (m := callSpecial? (.ref x) (Str.ofString "__str__")) (PySem.W.special_fn X I hs (beq_iff_eq.mp hf) (wpAny_mono h (fun r s' z => ?_) fun _ _ y => y))
  obtain ⟨y, t, rfl, q⟩ := z
  exact wpAny_pure q
theorem str_own {Q : Value → Shared → Prop} (hu : A.in1.in1.units < cLine) (X : K.In s.heap) (I : PySem.W.InstAt s.heap x ox C od) (hs : PySem.W.findIn K (.ref C) "__str__" = some (some (.ref f))) (hf : PySem.W.isFn K (.ref f) = true)
    (h : wpAny (model prog w) A.in1.in1 (call (.ref f) [.ref x]) (fun v s' => ∃ y t, v = .str y t ∧ Q v s') E s) : wpAny (model prog w) A (call (.type "str") [.ref x]) Q E s := by
  refine callType_newIn PySem.F.called_str (by decide) (PySem.F.typeCall_str_1 _) (PySem.F.newCall_str_1 _) (fun obj => PySem.F.args_object_init_2 obj _) PySem.F.entry_str_new
    (S := fun A1 R s1 => A1 = A.in1 ∧ s1 = s ∧ (∀ y t s2, Q (.str y t) s2 → R (.ok (.ret (.str y t))) s2) ∧ ∀ er s2, E er s2 → R (.error er) s2) ?_ ⟨rfl, rfl, fun y t s2 q => ⟨typeIs_str _ _ _, q⟩, fun _ _ q => q⟩
  rintro A1 R s1 ⟨rfl, rfl, hR, hE⟩
  rw [str_new_tree]
  refine wpAny_bind (wpAny_pure ?_)
  refine wpAny_bind (wpAny_of_eq isSubtype_str_str ?_)
  refine wpAny_bind (wpAny_mono (shown_own (R := fun r s2 => ∃ y t, r = .str y t ∧ Q r s2) hu X I hs hf (wpAny_mono h (fun v s2 ⟨y, t, e, q⟩ => ⟨y, t, e, y, t, e, q⟩) fun _ _ z => z)) (fun r s2 hr => ?_) fun _ _ z => hE _ _ z)
  obtain ⟨y, t, rfl, q⟩ := hr
  exact wpAny_pure (hR y t s2 q)
end
def rStrOwn (C : Addr) (sp : Sp) : List V → Hp → VK → Prop := fun xs H Q => ∃ (a dx : Addr) (fs : List (Str × V)), xs = [.ref a] ∧ H a = some (.ins C dx fs) ∧ sp [.ref a] H (fun v H' => ∃ z, v = .str z ∧ Q (.str z) H') E0
theorem call_strOwn {X : Cx} {C f : Addr} {k : Nat} {ps : List Str} {sp : Sp} (D : DefM X.prog X.w X.K X.mg X.base k f ps sp) (hr : Room (k + 2) X.A) (hs : PySem.W.findIn X.K (.ref C) "__str__" = some (some (.ref f))) (hf : PySem.W.isFn X.K (.ref f) = true) : CallR X (.type "str") (rStrOwn C sp) := by
  obtain ⟨fd, F, hb⟩ := D.ex
  rintro pins s σ H xs us Q I r ⟨a, dx, fs, rfl, ha, hq⟩
  obtain ⟨u, rfl, e⟩ := vals1 r
  cases e
  obtain ⟨mA, J, _⟩ := ins_get I.hok ha
  obtain ⟨od, J, _⟩ := J.look
  have hun := hr.un
  refine str_own (by show X.A.units + 1 + 1 < cLine; omega) I.kIn J hs hf ?_
  have e0 : Env0 X.prog X.w X.K X.mg X.base X.A.in1.in1 X.stack s H := by
    have e := I.env0
    exact ⟨e.frames, e.mod, e.bs, e.bsz, e.funs, e.frf, e.hok, e.bare⟩
  have bt : BindsTo s fd ⟨[.ref a], []⟩ (ps.zip [.ref a]) := by
    have hl : [V.ref a].length = ps.length := F.len _ _ _ _ hq
    have := hb s [.ref a] I.kIn (by simpa using hl)
    simpa using this
  refine wpAny_call (codeAny_mono (F.run X.A.in1.in1 X.stack s H ⟨[.ref a], []⟩ [.ref a] [.ref a] _ E0 ?_ e0 bt r hq) (fun r s' hq => ?_))
  · exact hr.in1.in1
  match r, hq with
  | .error e, hq => exact (show False from hq).elim
  | .ok .next, hq => exact hq.elim
  | .ok .brk, hq => exact hq.elim
  | .ok .cont, hq => exact hq.elim
  | .ok (.ret w), hq =>
    obtain ⟨z, H', I', rz, y, rfl, q⟩ := I.after hq
    obtain ⟨t, rfl⟩ := rz
    exact ⟨y, t, rfl, .str y, H', I', ⟨t, rfl⟩, q⟩
/-! ### what is shown of frames -/
def optD : Option Str → PyData
  | none => .none
  | some z => .str z
def frD (a : Str) (o : Option Str) (b : Bool) (z : Str) : PyData := .list [.str a, optD o, .bool b, .str z, .str z, optD o]
def sixD (b1 b2 b3 b4 b5 b6 : Bool) : PyData := .list [.bool b1, .bool b2, .bool b3, .bool b4, .bool b5, .bool b6]
theorem shown_fit {d : PyData} (h : d.layable0 = true) (i : d.intsShort 13 = true) : d.shown.length ≤ sizeLine := Nat.le_trans (PyProof.Rows.shown_le13 h i) (by decide)
theorem textF_ok {a : Str} {o : Option Str} (f : FrOk a o) : PyData.strOk (textF a o) = true ∧ (textF a o).length ≤ 100 := by
  have h1 := f.a
  have h2 : ∀ c ∈ (starOf o).cps.toList, c ≤ 122 := by
    cases o with
    | none => decide +kernel
    | some z => exact fun c hc => ((f.o z rfl).az c hc).2
  have h3 : (starOf o).length ≤ 8 := by
    cases o with
    | none => decide +kernel
    | some z => exact (f.o z rfl).hi
  have hl : (textF a o).length ≤ 100 := by
    unfold textF
    have := h1.hi
    rw [str_len, str_app, str_app, List.length_append, List.length_append, ← str_len, ← str_len, ← str_len]
    have e : (Str.ofString " ").length = 1 := by decide +kernel
    omega
  refine ⟨?_, hl⟩
  have hc : ∀ c ∈ (textF a o).cps.toList, c ≤ 122 := by
    intro c hc
    unfold textF at hc
    rw [str_app, str_app] at hc
    rcases List.mem_append.mp hc with hc | hc
    · rcases List.mem_append.mp hc with hc | hc
      · exact (h1.az c hc).2
      · have e : (Str.ofString " ").cps.toList = [32] := by decide +kernel
        rw [e] at hc
        simp at hc
        omega
    · exact h2 c hc
  unfold PyData.strOk
  rw [Array.all_eq_true_iff_forall_mem]
  intro c h
  have := hc c (Array.mem_toList_iff.mpr h)
  simp
  omega
theorem frD_lay {a z : Str} {o : Option Str} {b : Bool} (f : FrOk a o) (hz : PyData.strOk z = true) (l2 : z.length ≤ 100) : (frD a o b z).layable0 = true := by
  have ha := f.a.ok
  have l1 : a.cps.size ≤ 8 := f.a.hi
  have l2 : z.cps.size ≤ 100 := l2
  unfold PyData.layable0 frD optD
  cases o with
  | none =>
    simp [PyData.canLay0, PyData.canLayAll0, PyData.depth, PyData.depthAll, PyData.weight, PyData.weightAll, ha, hz]
    omega
  | some y =>
    have hy := (f.o y rfl).ok
    have l3 : y.cps.size ≤ 8 := (f.o y rfl).hi
    simp [PyData.canLay0, PyData.canLayAll0, PyData.depth, PyData.depthAll, PyData.weight, PyData.weightAll, ha, hz, hy]
    omega
theorem frD_short {a z : Str} {o : Option Str} {b : Bool} : (frD a o b z).intsShort 13 = true := by
  unfold frD optD
  cases o <;> simp [PyData.intsShort, PyData.intsShortAll]
theorem frD_show {a z : Str} {o : Option Str} {b : Bool} : (frD a o b z).showable = true := by
  unfold frD optD
  cases o <;> simp [PyData.showable, PyData.showableAll]
theorem frD_dict {a z : Str} {o : Option Str} {b : Bool} : (frD a o b z).hasDict = false := by
  unfold frD optD
  cases o <;> simp [PyData.hasDict, PyData.hasDictAll]
theorem frD_deep {a z : Str} {o : Option Str} {b : Bool} : (frD a o b z).depth ≤ 64 := by
  unfold frD optD
  cases o <;> simp [PyData.depth, PyData.depthAll]
theorem six_ok : ∀ b1 b2 b3 b4 b5 b6 : Bool, (sixD b1 b2 b3 b4 b5 b6).showable = true ∧ (sixD b1 b2 b3 b4 b5 b6).hasDict = false ∧ (sixD b1 b2 b3 b4 b5 b6).depth ≤ 64 ∧ (sixD b1 b2 b3 b4 b5 b6).shown.length ≤ sizeLine := by
  intro b1 b2 b3 b4 b5 b6
  refine ⟨by simp [sixD, PyData.showable, PyData.showableAll], by simp [sixD, PyData.hasDict, PyData.hasDictAll], by simp [sixD, PyData.depth, PyData.depthAll], shown_fit ?_ ?_⟩
  · unfold PyData.layable0 sixD
    simp [PyData.canLay0, PyData.canLayAll0, PyData.depth, PyData.depthAll, PyData.weight, PyData.weightAll]
  · simp [sixD, PyData.intsShort, PyData.intsShortAll]
theorem dp_opt {K : PySem.W.Frag} {H : Hp} {o : Option Str} : Dp K H (optV o) (optD o) := by
  cases o with
  | none => exact .non
  | some z => exact .str z
def spTextP (K : PySem.W.Frag) : Sp := fun vs H Q _ => ∃ (q : Addr) (a : Str) (o : Option Str), vs = [.ref q] ∧ SqT K H q [.str a, optV o] ∧ FrOk a o ∧ Q (.str (textF a o)) H
/-- a pair of which a frame can be made -/
structure PairOk (a : Str) (o : Option Str) : Prop where
  f : FrOk a o
  n : ∀ z, o = some z → z ≠ a
def spFR (K : PySem.W.Frag) : Sp := fun vs H Q _ => ∃ (q : Addr) (a : Str) (o : Option Str), vs = [.ref q] ∧ SqT K H q [.str a, optV o] ∧ PairOk a o ∧ ∀ H', Same H H' → Q (.bl true) H'
theorem seqT_same {K : PySem.W.Frag} {H H' : Hp} {a : Addr} {xs : List V} (s : Same H H') (h : SqT K H a xs) : SqT K H' a xs := by
  rcases h with (h | ⟨o, h⟩) | h
  · exact .inl (.inl (s _ _ h))
  · exact .inl (.inr ⟨o, s _ _ h⟩)
  · exact .inr h
theorem seqT_ext {K : PySem.W.Frag} {H H' : Hp} {a : Addr} {xs : List V} (s : LamX.ExtN H H') (h : SqT K H a xs) : SqT K H' a xs := by
  rcases h with (h | ⟨o, h⟩) | h
  · exact .inl (.inl (s _ _ h nofun))
  · exact .inl (.inr ⟨o, s _ _ h nofun⟩)
  · exact .inr h
theorem eq2_refl (a b : Str) : eq2 a b a b = true := by
  unfold eq2
  simp [PyData.eqv, PyData.eqvAll]
theorem u70 {k : Nat} {A : Around} (h : Room k A) : A.units + 70 < cLine := by
  have := h.un
  omega
/-- a list of pairs of which frames can be made -/
def Pairs (K : PySem.W.Frag) (H : Hp) (qs : List Addr) : Prop := ∀ q ∈ qs, ∃ a o, SqT K H q [.str a, optV o] ∧ PairOk a o
theorem Pairs.same {K : PySem.W.Frag} {H H' : Hp} {qs : List Addr} (h : Pairs K H qs) (s : Same H H') : Pairs K H' qs := fun q hq => let ⟨a, o, e, p⟩ := h q hq; ⟨a, o, seqT_same s e, p⟩
theorem seqL_same {K : PySem.W.Frag} {H H' : Hp} {a : Addr} {xs : List V} (s : Same H H') (h : SqL K H a xs) : SqL K H' a xs := by
  rcases h with (h | ⟨o, h⟩) | h
  · exact .inl (.inl (s _ _ h))
  · exact .inl (.inr ⟨o, s _ _ h⟩)
  · exact .inr h
def spOR (K : PySem.W.Frag) : Sp := fun vs H Q _ => ∃ (l : Addr) (qs : List Addr), vs = [.ref l] ∧ SqL K H l (qs.map V.ref) ∧ Pairs K H qs ∧ ∀ H', Same H H' → Q (.bl true) H'
/-- x or '', x a target -/
theorem pe_orKey {X : Cx} {e : Expr} {ta : TE} {p1 p2 : Pos} {j : Nat} (he : PE X e ta) : PE X (.BoolOp .Or [e, .Constant (.str "") j p1] p2) (fun σ H Q => ta σ H fun x H1 => ∃ a o, x = optV o ∧ FrOk a o ∧ Q (.str (kOf o)) H1) := by
  constructor
  intro pins s σ H Q I h
  refine (pe_orT (pe_up he) (pe_one pe_str)).run pins s σ H Q I ⟨_, h, ?_⟩
  rintro v H1 ⟨a, o, rfl, f, q⟩
  cases o with
  | none => exact ⟨false, rfl, iteF q⟩
  | some z =>
    have h1 := (f.o z rfl).lo
    refine ⟨true, ⟨(f.o z rfl).fit, ?_⟩, iteT q⟩
    simp
    omega
theorem six_dp {K : PySem.W.Frag} {H : Hp} {l : Addr} {b1 b2 b3 b4 b5 b6 : Bool} (h : H l = some (.lst [.bl b1, .bl b2, .bl b3, .bl b4, .bl b5, .bl b6])) : Dp K H (.ref l) (sixD b1 b2 b3 b4 b5 b6) :=
  .lst (SqL.of h) (.cons (.bl _) (.cons (.bl _) (.cons (.bl _) (.cons (.bl _) (.cons (.bl _) (.cons (.bl _) .nil))))))
/-- a comprehension that leaves all out, whose tests may make things -/
theorem lc_none {J : It} {n : Nat} {G : Hp → Prop} {Y : Nat → Hp → V → Hp → Prop} (w : Walk J n G Y) {g : TG} {tt : TT} {te : TE} {vs : List Nat} {σ : L2.St} {H1 : Hp} {D : Addr} {Qd : Hp → Prop} (xs : List V)
    (hn : n = xs.length) (hY : ∀ i H x H', i < n → Y i H x H' → H' = H ∧ xs[i]? = some x) (hD : H1 D = none) (hG : ∀ H', Same H1 H' → G H')
    (hs : ∀ x ∈ xs, ∀ H', Same H1 H' → ∀ (Kt : V → Hp → Prop) (Kf : Hp → Prop), (∀ H'', Same H' H'' → Kf H'') →
      g x (wipe σ vs) H' fun σ2 H2 => wipe σ2 vs = wipe σ vs ∧ tt σ2 H2 fun b H3 => if b = true then te σ2 H3 Kt else Kf H3)
    (hd : ∀ H', Same (upd H1 D (.lst [])) H' → Qd H') :
    ∃ W : Nat → Nat → Hp → Prop, (∃ m, W 0 m (upd H1 D (.lst []))) ∧ ∀ i m H, W i m H →
      (J.stop i H ∧ Qd H) ∨ (J.go i H ∧ ∃ Nx : Hp → Prop, (∀ H', Nx H' → ∃ m', m' < m ∧ W (i + 1) m' H') ∧ ∀ x H', J.yld i H x H' → g x (wipe σ vs) H' fun σ2 H2 => wipe σ2 vs = wipe σ vs ∧ tt σ2 H2 fun b H3 =>
        if b = true then te σ2 H3 fun y H4 => ∃ acc, H4 D = some (.lst acc) ∧ acc.length < sizeLine ∧ Nx (upd H4 D (.lst (acc ++ [y]))) else Nx H3) := by
  refine lc_it w (fun i H => Same (upd H1 D (.lst [])) H) (Same.refl _) (fun i H _ e => hG _ ((same_new hD).trans e)) ?_ ?_
  · rintro i x H H' hi s y
    obtain ⟨rfl, hx⟩ := hY i _ x H' hi y
    exact hs x (List.mem_of_getElem? hx) _ ((same_new hD).trans s) _ _ fun H'' s2 => s.trans s2
  · intro H s
    exact hd H s
/-- tuples of which frames can be made -/
def Tups (H : Hp) (qs : List Addr) : Prop := ∀ q ∈ qs, ∃ a o, H q = some (.tup [.str a, optV o]) ∧ PairOk a o
theorem Tups.pairs {K : PySem.W.Frag} {H : Hp} {qs : List Addr} (h : Tups H qs) : Pairs K H qs := fun q hq => let ⟨a, o, e, p⟩ := h q hq; ⟨a, o, SqT.of e, p⟩
theorem Tups.same {H H' : Hp} {qs : List Addr} (h : Tups H qs) (s : Same H H') : Tups H' qs := fun q hq => let ⟨a, o, e, p⟩ := h q hq; ⟨a, o, s _ _ e, p⟩
theorem Tups.ext {H H' : Hp} {p c : Addr} {ms : List Int} {t : Nat} {z : Int} {qs : List Addr} (h : Tups H qs) (P : Pen H p c ms t z) (s : ButT p H H') : Tups H' qs := fun q hq => let ⟨a, o, e, k⟩ := h q hq; ⟨a, o, s _ _ (ne_of e P.a nofun) e nofun, k⟩
theorem Tups.but {H H' : Hp} {p c : Addr} {ms : List Int} {t : Nat} {z : Int} {qs : List Addr} (h : Tups H qs) (P : Pen H p c ms t z) (s : But p H H') : Tups H' qs := h.ext P (ButT.of s)
theorem Tups.grow {H : Hp} {l q : Addr} {xs ys : List V} {qs : List Addr} {a : Str} {o : Option Str} (h : Tups H qs) (hl : H l = some (.lst xs)) (hq : H q = some (.tup [.str a, optV o])) (pk : PairOk a o) : Tups (upd H l (.lst ys)) (qs ++ [q]) := by
  intro r hr
  rcases List.mem_append.mp hr with hr | hr
  · obtain ⟨a, o, e, k⟩ := h r hr
    exact ⟨a, o, by rw [upd_ne (ne_of e hl nofun)]; exact e, k⟩
  · simp at hr
    subst hr
    exact ⟨a, o, by rw [upd_ne (ne_of hq hl nofun)]; exact hq, pk⟩
/-! ### reading texts of frames -/
/-- what an error of BadText(0, n) keeps -/
def btF (n : Int) : List (Str × V) := [("word", .int n), ("line", .int 0)]
def spWords (K : PySem.W.Frag) : Sp := fun vs H Q E => ∃ v : V, vs = [v] ∧
  ((∃ z : Str, v = .str z ∧ z.length + 2 ≤ sizeLine ∧ ∀ l, H l = none → Q (.ref l) (upd H l (.lst ((Txt.split z " ").map V.str)))) ∨
   ∃ t, TyX K H v t ∧ PySem.W.kitOne K t (.type "str") = some false ∧ ∀ d H', Same H H' → H d = none → H' d = some (.xd (btF 0)) → E (.ref (He.ga K "BadText")) (some d) H')
/-- the hosts that stand at i in a row of words: the place of the first wrong word, or the two -/
def hostsT (ws : List Str) (i : Nat) (b : Str) : Sum Nat (Str × Option Str) := match ws[i]? with
  | none => .inl i
  | some w => if nmB w = false then .inl i else match ws[i + 1]? with
    | none => .inl (i + 1)
    | some y => if Txt.removesuffix y b = "*" then .inr (w, none) else if nmB (Txt.removesuffix y b) = false ∨ Txt.removesuffix y b = w then .inl (i + 1) else .inr (w, some (Txt.removesuffix y b))
theorem rs_len (a b : Str) : (Txt.removesuffix a b).length ≤ a.length := by
  unfold Txt.removesuffix
  split
  · unfold Txt.affix
    simp only
    split
    · exact Nat.le_refl _
    · show (Array.extract _ _ _).size ≤ a.cps.size
      rw [Array.size_extract]
      omega
  · exact Nat.le_refl _
def spTold (K : PySem.W.Frag) : Sp := fun vs H Q E => ∃ (l : Addr) (ws : List Str) (i : Nat) (b : Str), vs = [.ref l, .int i, .str b] ∧ SqL K H l (ws.map V.str) ∧ i < 1000000 ∧ (∀ w ∈ ws, w.length ≤ sizeLine) ∧
  (∀ n, hostsT ws i b = .inl n → ∀ d H', Same H H' → H d = none → H' d = some (.xd (btF n)) → E (.ref (He.ga K "BadText")) (some d) H') ∧
  ∀ a o, hostsT ws i b = .inr (a, o) → ∀ t H', Same H H' → H t = none → H' t = some (.tup [.str a, optV o]) → Q (.ref t) H'
end Z
namespace Z
open PySem PySem.Spec PyProof.Rows L2
/-! ### a class held in a local name is called -/
def tClsV (i : Nat) (C : Addr) (sp : Sp) (dvs : List V) (E : XK) (t : TA) : TE := fun σ H Q => σ[i]? = some (some (.ref C)) ∧ t σ H fun vs H1 => ∀ x dx, H1 x = none → H1 dx = none → dx ≠ x → sp (.ref x :: (vs ++ dvs)) (upd (upd H1 dx (.own x)) x (.ins C dx [])) (fun v H2 => v = .non ∧ Q (.ref x) H2) E
theorem pe_clsV {X : Cx} {CX : CXT} {k i : Nat} {C f : Addr} {fd : FuncData} {ps : List Str} {sp : Sp} {ds : List Value} {dvs : List V} {E : XK} {x : Str} {e : Expr} {es : List Expr} {t : TA} {p pos : Pos} (M : Mk X.K C f) (F : FnOk X.prog X.w X.K X.mg X.base CX k f fd ps sp) (hr : Room (k + 1) X.A) (hb : Binds X.K fd ps ds) (hdv : Vals dvs ds) (hx : Passes CX X E) (hN : X.N[i]? = some x) (hv : Vis X.env.scope x) (ha : PA X (e :: es) t)
    (hd : (x == ("__debug__" : Str)) = false := by decide) (hcd : (x == ("__classdict__" : Str)) = false := by decide)
    (he : starEach (e :: es) X.env = (false, eval e X.env) :: starEach es X.env := by rfl) (hpl : (backTo pos (starEach es X.env)).any (·.1) = false := by rfl) : PE X (.Call (.Name x p) (e :: es) [] pos) (tClsV i C sp dvs E t) := by
  refine ⟨fun pins s σ H Q I h => ?_⟩
  obtain ⟨hs, h⟩ := h
  refine wpAny_Call_Name_kw (thn ((pe_var (pos := p) (i := i) hN hv hd hcd).run pins s σ H (fun v H1 => v = .ref C ∧ H1 = H) I ⟨.ref C, hs, rfl, rfl⟩) fun u s1 ⟨v, H1, I1, r1, ev, eH⟩ => ?_)
  subst ev
  rw [eH] at I1
  cases r1
  refine PySem.W.callWith_K (h₀ := X.base) I.ok.mod.kin M.kp (thn (ha.run pos pins s1 σ H _ I1 h) fun us s2 ⟨vs, H2, I2, r, q⟩ => ⟨I2.kIn, ?_⟩) he hpl
  exact run_make M F hr hb hdv hx I2 r q
/-! ### class methods -/
theorem FunD.kbindsN {K : PySem.W.Frag} {x qual : Str} {params : Arguments} {body : List Stmt} {scope : Scope} {kws : List (Str × V)} {f : Addr} {fd : FuncData} {ps : List Str} (F : FunD K x qual params body scope [] kws f fd) (n : Nat) (ks : List Str)
    (h : ∀ (kV doc pm : Value) (an : Option Addr) (cdv ct : Value) (us ws : List Value), us.length = n → ws.length = ks.length → bindArgs (PySem.W.fnOf x qual params body scope .none kV doc pm an cdv ct) ⟨us, ks.zip ws⟩ = pure (ps.zip (us ++ ws))) : KBn K fd ps n ks (fun us ws => us ++ ws) (fun us ws => us ++ ws) := by
  obtain ⟨oc, od, dV, kV, doc, pm, an, cdv, ct, osl, rfl, lk, hcd, hD, hK⟩ := F.ex
  rcases hD with ⟨_, rfl⟩ | ⟨e, _⟩
  · exact ⟨fun s us ws X l1 l2 => .of_eq (h kV doc pm an cdv ct us ws l1 l2), fun r1 r2 => r1.append r2⟩
  · exact absurd rfl e
/-- a class method of a class of the module, of one parameter behind the class -/
structure DefK (P : Program) (w : World) (K : PySem.W.Frag) (mg : Str → Option Value) (base : Heap) (CX : CXT) (k : Nat) (c m : Str) (ps : List Str) (ks : List Str) (sp : Sp) : Prop where
  cm : CmOf K (He.ga K c) m (prA K c m) (geA K c m)
  ex : ∃ fd, FnOk P w K mg base CX k (geA K c m) fd ps sp ∧ Binds K fd ps [] ∧ KBn K fd ps 1 ks (fun us ws => us ++ ws) (fun us ws => us ++ ws)
theorem pe_clm {X : Cx} {CX : CXT} {k : Nat} {c m : Str} {ps ks : List Str} {sp : Sp} {E : XK} {o e : Expr} {es : List Expr} {ta : TE} {t : TA} {pos apos : Pos} {pl : Sem Bool} (D : DefK X.prog X.w X.K X.mg X.base CX k c m ps ks sp) (hr : Room k X.A) (hx : Passes CX X E) (he : PE X o ta) (ha : PA X (e :: es) t)
    (hst : starEach (e :: es) X.env = (false, eval e X.env) :: starEach es X.env := by rfl) (hpl : (backTo pos (starEach es X.env)).any (·.1) = false := by rfl)
    (ht : eval (.Call (.Attribute o m apos) (e :: es) [] pos) X.env = (do
      let ov ← eval o X.env
      standAt apos.atName
      let (f, first) ← holding [ov] (getMethod ov m pl)
      callWith pos f first (backTo pos (starEach (e :: es) X.env)) (backToKw pos (keywordEach [] X.env))) := by rfl) :
    PE X (.Call (.Attribute o m apos) (e :: es) [] pos) (ClX.tCMeth (He.ga X.K c) (fun vs H Q E => sp (vs ++ []) H Q E) E ta t) := by
  obtain ⟨fd, F, b, _⟩ := D.ex
  exact ClX.pe_cmeth he D.cm.r D.cm.c (F.raw b .nil) hr hx ha hst hpl ht
def tCMethK (C : Addr) (n : Nat) (sp : Sp) (E : XK) (ta : TE) (t : TA) : TE := fun σ H Q => ta σ H fun x H1 => x = .ref C ∧ t σ H1 fun zs H2 => zs.length = n ∧ sp (.ref C :: zs) H2 Q E
theorem pe_clmK {X : Cx} {CX : CXT} {k : Nat} {c m : Str} {ps ks : List Str} {sp : Sp} {E : XK} {o : Expr} {kws : List Keyword} {ta : TE} {tk : TA} {pos apos : Pos} {pl : Sem Bool} (D : DefK X.prog X.w X.K X.mg X.base CX k c m ps ks sp) (hr : Room k X.A) (hx : Passes CX X E) (he : PE X o ta) (hkw : PK X kws tk)
    (hall : (backToKw pos (keywordEach kws X.env)).all (·.1.isSome) = true := by rfl) (hks : (backToKw pos (keywordEach kws X.env)).filterMap (·.1) = ks := by rfl)
    (hpl : ((backTo pos (starEach [] X.env)).any (·.1) || (backToKw pos (keywordEach kws X.env)).any (·.1.isNone)) = false := by rfl)
    (ht : eval (.Call (.Attribute o m apos) [] kws pos) X.env = (do
      let ov ← eval o X.env
      standAt apos.atName
      let (f, first) ← holding [ov] (getMethod ov m pl)
      callWith pos f first (backTo pos (starEach [] X.env)) (backToKw pos (keywordEach kws X.env))) := by rfl) :
    PE X (.Call (.Attribute o m apos) [] kws pos) (tCMethK (He.ga X.K c) ks.length sp E ta tk) := by
  obtain ⟨fd, F, _, hb⟩ := D.ex
  refine ⟨fun pins s σ H Q I h => ?_⟩
  refine PySem.W.methodCall_KW (pl := pl) (thn (he.run pins s σ H _ I h) fun u s1 ⟨x, H1, I1, rx, ex, q⟩ => ?_) ht
  subst ex
  obtain rfl : u = Value.ref (He.ga X.K c) := rx
  refine ClX.getmethcm_ok I1 D.cm.r D.cm.c fun s2 I2 => ?_
  refine PySem.W.callWith_of (P := PySem.W.MethP X.K s1.heap.objs.size (geA X.K c m) (.ref (He.ga X.K c))) hpl (PySem.W.keeps_M D.cm.c.fi) (evalArgs_kw2_nil hall ?_)
  refine thn (hkw.run pos _ s2 σ H1 _ I2 q) fun ws s3 ⟨zs, H2, I3, rz, l2, hsp⟩ => ⟨⟨ClX.pin_at I3, I3.kIn⟩, ?_⟩
  rw [hks]
  have l1 : ws.length = ks.length := rz.length.symm.trans l2
  have z : wpAny (model X.prog X.w) X.A (call (.ref s1.heap.objs.size) [] (ks.zip ws)) (EP X ((s1.heap.objs.size, PySem.W.methodObj (.ref (geA X.K c m)) (.ref (He.ga X.K c))) :: pins) σ Q) X.xe s3 := by
    refine wpAny_call (PySem.W.method_call (ClX.pin_at I3) ?_)
    refine codeAny_mono (F.run X.A X.stack s3 H2 ⟨[.ref (He.ga X.K c)], ks.zip ws⟩ ([Value.ref (He.ga X.K c)] ++ ws) ([V.ref (He.ga X.K c)] ++ zs) Q E hr I3.env0 (hb.to _ [.ref (He.ga X.K c)] ws I3.kIn rfl l1) (hb.rel (.cons rfl .nil) rz) hsp) fun r s' hq => ?_
    cases r with
    | error e => exact hx _ σ H2 s3 e s' I3 hq
    | ok fl =>
      cases fl with
      | ret u => exact I3.after hq
      | next => exact False.elim hq
      | brk => exact False.elim hq
      | cont => exact False.elim hq
  exact thn z fun _ _ y => ClX.unpinE y
end Z
namespace Z
open PySem PySem.Spec PyProof.Rows L2
/-! ### Frame.read -/
theorem hostsT_ok {ws : List Str} {i : Nat} {b a : Str} {o : Option Str} (h : hostsT ws i b = .inr (a, o)) : FrOk a o ∧ ∀ z, o = some z → z ≠ a := by
  unfold hostsT at h
  split at h
  · cases h
  · rename_i w e0
    split at h
    · cases h
    · rename_i hw
      have nw : IsNm w := nmB_iff.mp (by simpa using hw)
      split at h
      · cases h
      · rename_i y e1
        split at h
        · cases h
          exact ⟨⟨nw, nofun⟩, nofun⟩
        · split at h
          · cases h
          · rename_i hn
            cases h
            have hn1 : nmB (Txt.removesuffix y b) = true := by
              cases e : nmB (Txt.removesuffix y b) with
              | true => rfl
              | false => exact absurd (.inl e) hn
            refine ⟨⟨nw, fun z hz => ?_⟩, fun z hz => ?_⟩
            · cases hz
              exact nmB_iff.mp hn1
            · cases hz
              exact fun q => hn (.inr q)
/-- what Frame.read makes of a text: the place of the first wrong word, or the two hosts -/
def readT (z : Str) : Sum Nat (Str × Option Str) := match hostsT (Txt.split z " ") 0 "" with
  | .inl n => .inl n
  | .inr r => if 2 < (Txt.split z " ").length then .inl 2 else .inr r
theorem readT_ok {z a : Str} {o : Option Str} (h : readT z = .inr (a, o)) : FrOk a o ∧ ∀ z, o = some z → z ≠ a := by
  unfold readT at h
  split at h
  · cases h
  · rename_i r e
    split at h
    · cases h
    · cases h
      exact hostsT_ok e
/-- what is asked of a reader of texts, where it reads a text as T tells -/
def spReads {α : Type} (K : PySem.W.Frag) (C : Addr) (T : Str → Sum Nat α) (R : Hp → Addr → α → Prop) : Sp := fun vs H Q E => ∃ v : V, vs = [.ref C, v] ∧
  ((∃ z : Str, v = .str z ∧ z.length + 2 ≤ sizeLine ∧ (∀ n, T z = .inl n → ∀ d H', Same H H' → H d = none → H' d = some (.xd (btF n)) → E (.ref (He.ga K "BadText")) (some d) H') ∧
      ∀ r, T z = .inr r → ∀ p H', Same H H' → H p = none → R H' p r → Q (.ref p) H') ∨
   ∃ t, TyX K H v t ∧ PySem.W.kitOne K t (.type "str") = some false ∧ ∀ d H', Same H H' → H d = none → H' d = some (.xd (btF 0)) → E (.ref (He.ga K "BadText")) (some d) H')
def spRead (K : PySem.W.Frag) : Sp := spReads K (He.ga K "Frame") readT fun H p r => IsFr K H p r.1 r.2
/-! ### plain texts -/
def Plain (z : Str) : Prop := ∀ c ∈ z.cps.toList, c < 128
theorem Plain.ok {z : Str} (h : Plain z) : PyData.strOk z = true := by
  unfold PyData.strOk
  rw [Array.all_eq_true_iff_forall_mem]
  intro c hc
  have := h c (Array.mem_toList_iff.mpr hc)
  simp
  omega
theorem plain_nm {x : Str} (h : IsNm x) : Plain x := fun c hc => by have := h.az c hc; omega
theorem plain_app {a b : Str} (ha : Plain a) (hb : Plain b) : Plain (a ++ b) := by
  intro c hc
  rw [str_app] at hc
  rcases List.mem_append.mp hc with h | h
  · exact ha c h
  · exact hb c h
theorem mem_joinL {S : List Nat} {c : Nat} : ∀ (ps : List (List Nat)) (w : List Nat), w ∈ ps → c ∈ w → c ∈ TL.joinL S ps
  | [], _, h, _ => by cases h
  | [p], w, h, hc => by
    rw [List.mem_singleton.mp h] at hc
    exact hc
  | p :: q :: r, w, h, hc => by
    show c ∈ p ++ (S ++ TL.joinL S (q :: r))
    rcases List.mem_cons.mp h with rfl | h
    · exact List.mem_append_left _ hc
    · exact List.mem_append_right _ (List.mem_append_right _ (mem_joinL (q :: r) w h hc))
theorem of_joinL {S : List Nat} {c : Nat} : ∀ (ps : List (List Nat)), c ∈ TL.joinL S ps → c ∈ S ∨ ∃ w ∈ ps, c ∈ w
  | [], h => by cases h
  | [p], h => .inr ⟨p, List.mem_singleton.mpr rfl, h⟩
  | p :: q :: r, h => by
    have h : c ∈ p ++ (S ++ TL.joinL S (q :: r)) := h
    rcases List.mem_append.mp h with h | h
    · exact .inr ⟨p, List.mem_cons_self .., h⟩
    · rcases List.mem_append.mp h with h | h
      · exact .inl h
      · rcases of_joinL (q :: r) h with h | ⟨w, hw, hc⟩
        · exact .inl h
        · exact .inr ⟨w, List.mem_cons_of_mem _ hw, hc⟩
theorem plain_split {z y : Str} (h : Plain z) : ∀ w ∈ Txt.split z y, Plain w := by
  intro w hw c hc
  refine h c ?_
  have e := PySem.StrLaws.join_split z y
  rw [← e]
  show c ∈ TL.tl (Str.join y (Txt.split z y))
  rw [TL.tl_join]
  exact mem_joinL _ _ (List.mem_map.mpr ⟨w, hw, rfl⟩) hc
theorem plain_join {y : Str} {ws : List Str} (hy : Plain y) (h : ∀ w ∈ ws, Plain w) : Plain (Txt.join y ws) := by
  intro c hc
  rw [TL.join_eq] at hc
  have hc : c ∈ TL.tl (Str.join y ws) := hc
  rw [TL.tl_join] at hc
  rcases of_joinL _ hc with hc | ⟨w, hw, hc⟩
  · exact hy c hc
  · obtain ⟨v, hv, rfl⟩ := List.mem_map.mp hw
    exact h v hv c hc
theorem rs_nil (y : Str) : Txt.removesuffix y "" = y := by
  have e : (Str.ofString "").length = 0 := rfl
  unfold Txt.removesuffix
  split
  · unfold Txt.affix
    simp only
    split
    · rfl
    · rename_i h
      exact absurd (by rw [e]; simp) h
  · rfl
/-- a word that a law takes for a name -/
def spLnm : Sp := fun vs H Q _ => ∃ x : Str, vs = [.str x] ∧ x.length ≤ sizeLine ∧ Plain x ∧ ∀ H', Same H H' → Q (.bl (nmB x)) H'
def offAbc : V → Option V := fun v => match v with
  | .str s => if s.cps.toList.all (fun c => decide (c ∈ alpha.cps.toList)) = true then none else some v
  | _ => none
theorem off_map (x : Str) : (sgV x).filterMap offAbc = ((x.cps.toList.filter fun c => !decide (c ∈ alpha.cps.toList)).map sg).map V.str := by
  unfold sgV
  generalize x.cps.toList = l
  induction l with
  | nil => rfl
  | cons a r ih =>
    rw [List.map_cons, List.filterMap_cons, ih, List.filter_cons]
    have o : offAbc (V.str (sg a)) = if decide (a ∈ alpha.cps.toList) = true then none else some (V.str (sg a)) := by
      show (if ([a].all fun c => decide (c ∈ alpha.cps.toList)) = true then none else some (V.str (sg a))) = _
      rw [List.all_cons, List.all_nil, Bool.and_true]
    rw [o]
    by_cases h : a ∈ alpha.cps.toList
    · rw [decide_eq_true h]
      rfl
    · rw [decide_eq_false h]
      rfl
theorem off_nil {x : Str} : (x.cps.toList.filter fun c => !decide (c ∈ alpha.cps.toList)).isEmpty = x.cps.toList.all fun c => decide (c ∈ alpha.cps.toList) := by
  generalize x.cps.toList = l
  induction l with
  | nil => rfl
  | cons a r ih =>
    rw [List.filter_cons, List.all_cons]
    by_cases h : a ∈ alpha.cps.toList
    · simp only [h, decide_true, Bool.not_true, Bool.false_eq_true, if_false, Bool.true_and]
      exact ih
    · simp [h]
def spDue (K : PySem.W.Frag) : Sp := fun vs H Q _ => ∃ v : V, vs = [v] ∧
  ((∃ z : Str, v = .str z ∧ z.length + 2 ≤ sizeLine ∧ Plain z ∧ (∀ n, readT z = .inl n → ∀ H', Same H H' → Q (.int n) H') ∧
      ∀ a o, readT z = .inr (a, o) → ∀ t H', Same H H' → H t = none → H' t = some (.tup [.str a, optV o]) → Q (.ref t) H') ∨
   ∃ t, TyX K H v t ∧ PySem.W.kitOne K t (.type "str") = some false ∧ Q (.int 0) H)
end Z
namespace Z
open PySem PySem.Spec PyProof.Rows L2
/-! ### what a law hears of Frame.read -/
def OutV (H : Hp) (v : V) : Sum Nat (Str × Option Str) → Prop
  | .inl n => v = .int n
  | .inr (a, o) => ∃ t, v = .ref t ∧ H t = some (.tup [.str a, optV o])
def dueOf : V → Sum Nat (Str × Option Str)
  | .str z => readT z
  | _ => .inl 0
def outD : Sum Nat (Str × Option Str) → PyData
  | .inl n => .int n
  | .inr (a, o) => .tuple [.str a, optD o]
theorem OutV.ext {H H' : Hp} {v : V} {r : Sum Nat (Str × Option Str)} (e : LamX.ExtN H H') (h : OutV H v r) : OutV H' v r := by
  cases r with
  | inl n => exact h
  | inr r => exact let ⟨t, a, b⟩ := h; ⟨t, a, e _ _ b nofun⟩
theorem OutV.same {H H' : Hp} {v : V} {r : Sum Nat (Str × Option Str)} (s : Same H H') (h : OutV H v r) : OutV H' v r := h.ext (extS s)
theorem OutV.dp {K : PySem.W.Frag} {H : Hp} {v : V} {r : Sum Nat (Str × Option Str)} (h : OutV H v r) : Dp K H v (outD r) := by
  cases r with
  | inl n => obtain rfl := h; exact .int _
  | inr r =>
    obtain ⟨t, rfl, e⟩ := h
    exact .tup (SqT.of e) (.cons (.str _) (.cons dp_opt .nil))
theorem readT_le {z : Str} {n : Nat} (h : readT z = .inl n) : n ≤ 2 := by
  unfold readT hostsT at h
  split at h
  · rename_i m e
    cases h
    split at e
    · cases e; omega
    · split at e
      · cases e; omega
      · split at e
        · cases e; omega
        · split at e
          · cases e
          · split at e
            · cases e; omega
            · cases e
  · split at h
    · cases h; omega
    · cases h
/-- right answers -/
def OutOk : Sum Nat (Str × Option Str) → Prop
  | .inl n => n ≤ 2
  | .inr (a, o) => FrOk a o
theorem outOk_of (v : V) : OutOk (dueOf v) := by
  cases v with
  | str z =>
    show OutOk (readT z)
    cases e : readT z with
    | inl n => exact readT_le e
    | inr r => exact (readT_ok (a := r.1) (o := r.2) e).1
  | _ => exact Nat.zero_le 2
theorem out_show {r : Sum Nat (Str × Option Str)} (h : OutOk r) : (outD r).showable = true ∧ (outD r).hasDict = false ∧ (outD r).depth ≤ 64 ∧ (outD r).shown.length ≤ sizeLine := by
  cases r with
  | inl n =>
    have h : n ≤ 2 := h
    have : ∀ n : Nat, n ≤ 2 → (outD (.inl n)).showable = true ∧ (outD (.inl n)).hasDict = false ∧ (outD (.inl n)).depth ≤ 64 ∧ (outD (.inl n)).shown.length ≤ sizeLine := by
      intro n hn
      match n, hn with
      | 0, _ => exact ⟨by decide +kernel, by decide +kernel, by decide +kernel, by decide +kernel⟩
      | 1, _ => exact ⟨by decide +kernel, by decide +kernel, by decide +kernel, by decide +kernel⟩
      | 2, _ => exact ⟨by decide +kernel, by decide +kernel, by decide +kernel, by decide +kernel⟩
    exact this n h
  | inr r =>
    obtain ⟨a, o⟩ := r
    have f : FrOk a o := h
    have ha := f.a.ok
    have l1 : a.cps.size ≤ 8 := f.a.hi
    cases o with
    | none =>
      refine ⟨by simp [outD, optD, PyData.showable, PyData.showableAll], by simp [outD, optD, PyData.hasDict, PyData.hasDictAll], by simp [outD, optD, PyData.depth, PyData.depthAll], shown_fit ?_ (by simp [outD, optD, PyData.intsShort, PyData.intsShortAll])⟩
      unfold PyData.layable0 outD optD
      simp [PyData.canLay0, PyData.canLayAll0, PyData.depth, PyData.depthAll, PyData.weight, PyData.weightAll, ha]
      omega
    | some y =>
      have hy := (f.o y rfl).ok
      have l3 : y.cps.size ≤ 8 := (f.o y rfl).hi
      refine ⟨by simp [outD, optD, PyData.showable, PyData.showableAll], by simp [outD, optD, PyData.hasDict, PyData.hasDictAll], by simp [outD, optD, PyData.depth, PyData.depthAll], shown_fit ?_ (by simp [outD, optD, PyData.intsShort, PyData.intsShortAll])⟩
      unfold PyData.layable0 outD optD
      simp [PyData.canLay0, PyData.canLayAll0, PyData.depth, PyData.depthAll, PyData.weight, PyData.weightAll, ha, hy]
      exact decide_eq_true (by omega)
theorem out_shaped {r : Sum Nat (Str × Option Str)} (h : OutOk r) : SeqAt.shaped (outD r) = true := by
  cases r with
  | inl n => unfold SeqAt.shaped outD; simp [PyData.canLay0, PyData.depth]
  | inr r =>
    obtain ⟨a, o⟩ := r
    have f : FrOk a o := h
    have ha := f.a.ok
    cases o with
    | none => unfold SeqAt.shaped outD optD; simp [PyData.canLay0, PyData.canLayAll0, PyData.depth, PyData.depthAll, ha]
    | some y =>
      have hy := (f.o y rfl).ok
      unfold SeqAt.shaped outD optD
      simp [PyData.canLay0, PyData.canLayAll0, PyData.depth, PyData.depthAll, ha, hy]
theorem out_eqv (r : Sum Nat (Str × Option Str)) : (outD r).eqv (outD r) = true := by
  cases r with
  | inl n => simp [outD, PyData.eqv]
  | inr r =>
    obtain ⟨a, o⟩ := r
    cases o <;> simp [outD, optD, PyData.eqv, PyData.eqvAll]
/-- what a law's _law_heard makes of a call that reads a frame, or raises BadText(0, n) -/
def TTold (K : PySem.W.Frag) : (XK → Hp → VK → Prop) → Hp → VK → Prop := fun tl H Q => ∀ H1, Same H H1 → ∃ (E : XK) (Q0 : VK), tl E H1 Q0 ∧
  (∀ cls d H', E cls d H' → cls = .ref (He.ga K "BadText") ∧ ∃ (dd : Addr) (n : Int), d = some dd ∧ H' dd = some (.xd (btF n)) ∧ ∀ H'', Same H' H'' → Q (.int n) H'') ∧
  ∀ v H', Q0 v H' → ∃ (p : Addr) (a : Str) (o : Option Str), v = .ref p ∧ IsFr K H' p a o ∧ ∀ t H'', Same H' H'' → H' t = none → H'' t = some (.tup [.str a, optV o]) → Q (.ref t) H''
theorem told_read {K : PySem.W.Frag} {T : List (Addr × Str)} {t : XK → TE} {σ : L2.St} {H : Hp} {Q : VK} {v : V} (hT : LamX.Tabs T H) (rd : ∀ E H2 Q0, spRead K [.ref (He.ga K "Frame"), v] H2 Q0 E → t E σ H2 Q0)
    (kv : (∃ z : Str, v = .str z ∧ z.length + 2 ≤ sizeLine) ∨ ∃ t, TyX K H v t ∧ PySem.W.kitOne K t (.type "str") = some false) (nd : (∀ z, v ≠ .str z) → dueOf v = .inl 0)
    (k : ∀ v' H', LamX.ExtN H H' → LamX.Tabs T H' → OutV H' v' (dueOf v) → Q v' H') : LamX.tLam T (TTold K) t σ H Q := by
  refine ⟨hT, fun H1 eN T1 H2 s2 => ⟨fun cls d H' => cls = .ref (He.ga K "BadText") ∧ ∃ dd n, d = some dd ∧ H' dd = some (.xd (btF (n : Nat))) ∧ Same H2 H' ∧ dueOf v = .inl n,
    fun v' H' => ∃ p a o, v' = .ref p ∧ IsFr K H' p a o ∧ Same H2 H' ∧ dueOf v = .inr (a, o), ?_, ?_, ?_⟩⟩
  · have e2 : LamX.ExtN H H2 := eN.trans (extS s2)
    refine rd _ H2 _ ⟨v, rfl, ?_⟩
    rcases kv with ⟨z, rfl, hz⟩ | ⟨t, ty, kt⟩
    · exact .inl ⟨z, rfl, hz, fun n hn d H' s nn e => ⟨rfl, d, n, rfl, e, s, hn⟩, fun r hr p H' s nn fr => ⟨p, r.1, r.2, rfl, fr, s, hr⟩⟩
    · refine .inr ⟨t, tyX_ext e2 ty, kt, fun d H' s nn e => ⟨rfl, d, 0, rfl, e, s, nd ?_⟩⟩
      rintro z rfl
      cases ty with
      | base b =>
        cases b
        rw [kit_same] at kt
        cases kt
  · rintro cls d H' ⟨rfl, dd, n, rfl, hdd, sm, hn⟩
    exact ⟨rfl, dd, n, rfl, hdd, fun H'' s => k _ H'' (((eN.trans (extS s2)).trans (extS sm)).trans (extS s)) (((T1.ext s2).ext sm).ext s) (by rw [hn]; rfl)⟩
  · rintro v' H' ⟨p, a, o, rfl, fr, sm, hr⟩
    exact ⟨p, a, o, rfl, fr, fun t H'' s nn e => k _ H'' (((eN.trans (extS s2)).trans (extS sm)).trans (extS s)) (((T1.ext s2).ext sm).ext s) (by rw [hr]; exact ⟨t, rfl, e⟩)⟩
end Z
namespace Z
open PySem PySem.Spec PyProof.Rows L2
/-! ### words bent -/
theorem cutV_strs (ws : List Str) (lo hi : Option Int) : ∃ us : List Str, cutV (ws.map V.str) lo hi = us.map V.str ∧ us.length ≤ ws.length ∧ ∀ u ∈ us, u ∈ ws := by
  refine ⟨(ws.drop (HT.sIx (ws.map V.str).length 0 lo)).take (HT.sIx (ws.map V.str).length (ws.map V.str).length hi - HT.sIx (ws.map V.str).length 0 lo), ?_, ?_, ?_⟩
  · unfold cutV
    rw [List.map_take, List.map_drop]
  · rw [List.length_take, List.length_drop]
    omega
  · exact fun u hu => List.mem_of_mem_drop (List.mem_of_mem_take hu)
/-- a plain text of at most n signs -/
structure Word (n : Nat) (x : Str) : Prop where
  p : Plain x
  l : x.length ≤ n
theorem Word.mono {m n : Nat} {x : Str} (h : Word m x) (k : m ≤ n) : Word n x := ⟨h.p, Nat.le_trans h.l k⟩
def wordB (n : Nat) (x : Str) : Bool := (x.cps.toList.all fun c => decide (c < 128)) && decide (x.length ≤ n)
theorem word_of {n : Nat} {x : Str} (h : wordB n x = true) : Word n x := by
  obtain ⟨a, b⟩ := He.ba h
  exact ⟨fun c hc => of_decide_eq_true (List.all_eq_true.mp a c hc), of_decide_eq_true b⟩
theorem Word.app {m n : Nat} {x y : Str} (h : Word m x) (k : Word n y) : Word (m + n) (x ++ y) := ⟨plain_app h.p k.p, by rw [Str.length_append]; exact Nat.add_le_add h.l k.l⟩
theorem sum_le {n : Nat} : ∀ ws : List Str, (∀ w ∈ ws, w.length ≤ n) → (ws.map (·.length)).sum ≤ ws.length * n
  | [], _ => Nat.zero_le _
  | a :: r, h => by
    have h1 := h a (List.mem_cons_self ..)
    have h2 := sum_le r fun w hw => h w (List.mem_cons_of_mem _ hw)
    simp only [List.map_cons, List.sum_cons, List.length_cons, Nat.succ_mul]
    omega
theorem Word.join {m n k : Nat} {y : Str} {ws : List Str} (hy : Word m y) (hw : ∀ w ∈ ws, Word n w) (hl : ws.length ≤ k) : Word (k * n + k * m) (Txt.join y ws) := by
  refine ⟨plain_join hy.p fun w h => (hw w h).p, ?_⟩
  rw [TL.join_eq]
  refine Nat.le_trans (StrLaws.join_length_le y ws) ?_
  have h1 := sum_le (n := n) ws fun w h => (hw w h).l
  have h2 := hy.l
  have h3 : ws.length * n ≤ k * n := Nat.mul_le_mul_right _ hl
  have h4 : ws.length * y.length ≤ k * m := Nat.mul_le_mul hl h2
  omega
theorem pick_word {n : Nat} {L : List Str} {v : V} (h : v ∈ L.map V.str) (hL : ∀ x ∈ L, Word n x) : ∃ x, v = .str x ∧ Word n x := by
  obtain ⟨x, hx, rfl⟩ := List.mem_map.mp h
  exact ⟨x, rfl, hL x hx⟩
def bentOf (a : Str) : List Str := ["", "*", "-", "**", "*,", a ++ ",", "A", "a1", "abcdefghi", "a\n", a, "\n", "a*", "to", "all"]
def tailOf (y : Str) : List Str := [" ", " " ++ y, ",", "\n", " *"]
def headOf : List Str := [" ", "\n", "- ", "* "]
def spBent (K : PySem.W.Frag) : Sp := fun vs H Q _ => ∃ (p c : Addr) (ms : List Int) (t : Nat) (z : Int) (x : Str), vs = [.ref p, .str x] ∧ Pen H p c ms t z ∧ t < 900000 ∧ Word 100 x ∧
  ∀ (y : Str) (H' : Hp) (t' : Nat) (z' : Int), Word 50000 y → But p H H' → Pen H' p c ms t' z' → t' ≤ t + 5 → Q (.str y) H'
/-! ### the text of a frame, read -/
theorem word_nm {x : Str} (h : IsNm x) : Word 8 x := ⟨plain_nm h, h.hi⟩
theorem word_star {a : Str} {o : Option Str} (f : FrOk a o) : Word 8 (starOf o) := by
  cases o with
  | none => exact word_of (by decide +kernel)
  | some z => exact word_nm (f.o z rfl)
theorem word_text {a : Str} {o : Option Str} (f : FrOk a o) : Word 17 (textF a o) := ((word_nm f.a).app (word_of (n := 1) (x := " ") (by decide +kernel))).app (word_star f)
theorem star_free {a : Str} {o : Option Str} (f : FrOk a o) : 32 ∉ (starOf o).cps.toList := by
  cases o with
  | none => decide +kernel
  | some z =>
    intro h
    have := (f.o z rfl).az _ h
    omega
theorem split_text {a : Str} {o : Option Str} (f : FrOk a o) : Txt.split (textF a o) " " = [a, starOf o] := by
  have e : textF a o = Txt.join " " [a, starOf o] := by
    rw [TL.join_eq]
    rfl
  rw [e]
  refine TL.split_join (s := 32) (S := []) (by decide +kernel) (by decide +kernel) (by simp) fun p hp => ?_
  simp only [List.mem_cons, List.not_mem_nil, or_false] at hp
  rcases hp with rfl | rfl
  · intro h
    have := f.a.az _ h
    omega
  · exact star_free f
theorem nm_true {x : Str} (h : IsNm x) : nmB x = true := nmB_iff.mpr h
theorem nm_no_star {z : Str} (h : IsNm z) : ¬ z = "*" := by
  intro e
  have h1 : (42 : Nat) ∈ z.cps.toList := by rw [e]; decide +kernel
  have := h.az _ h1
  omega
theorem readT_text {a : Str} {o : Option Str} (pk : PairOk a o) : readT (textF a o) = .inr (a, o) := by
  unfold readT
  rw [split_text pk.f]
  unfold hostsT
  cases o with
  | none => simp [nm_true pk.f.a, rs_nil, starOf]
  | some z =>
    have hz := pk.f.o z rfl
    have h1 := nm_no_star hz
    have h2 := pk.n z rfl
    simp [nm_true pk.f.a, nm_true hz, rs_nil, starOf, h1, h2]
theorem last_cut (x : Str) (c : Nat) (y : Str) (e : x = y ++ sg c) : cutS x (some (-1)) none = sg c := by
  refine str_ext ?_
  have l : x.cps.toList = y.cps.toList ++ [c] := by rw [e, str_app]; rfl
  have n : x.length = y.cps.toList.length + 1 := by rw [str_len, l, List.length_append]; rfl
  unfold cutS
  show (x.cps.toList.drop (HT.sIx x.length 0 (some (-1)))).take (HT.sIx x.length x.length none - HT.sIx x.length 0 (some (-1))) = [c]
  have e1 : HT.sIx x.length 0 (some (-1)) = y.cps.toList.length := by
    show (if (-1 : Int) < 0 then ((-1 : Int) + (x.length : Int)).toNat else min ((-1 : Int)).toNat x.length) = _
    rw [if_pos (by decide), n]
    omega
  have e2 : HT.sIx x.length x.length none = x.length := rfl
  rw [e1, e2, l, n, List.drop_left]
  have e3 : y.cps.toList.length + 1 - y.cps.toList.length = 1 := by omega
  rw [e3]
  rfl
theorem last_text {a : Str} {o : Option Str} (f : FrOk a o) : ∃ c, cutS (textF a o) (some (-1)) none = sg c ∧ (o = none → c = 42) ∧ (∀ z, o = some z → c ≠ 42) := by
  cases o with
  | none =>
    refine ⟨42, last_cut _ 42 (a ++ " ") ?_, fun _ => rfl, nofun⟩
    unfold textF starOf
    exact congrArg _ (show Str.ofString "*" = sg 42 by decide +kernel)
  | some z =>
    have hz := f.o z rfl
    have hl := hz.lo
    rw [str_len] at hl
    have hne : z.cps.toList ≠ [] := by intro e; rw [e] at hl; exact absurd hl (by decide)
    have el := List.dropLast_concat_getLast hne
    refine ⟨z.cps.toList.getLast hne, last_cut _ _ (a ++ " " ++ ⟨z.cps.toList.dropLast.toArray⟩) ?_, nofun, fun w hw => ?_⟩
    · unfold textF starOf
      refine str_ext ?_
      rw [str_app, str_app, str_app, str_app, str_app]
      show _ = a.cps.toList ++ _ ++ z.cps.toList.dropLast ++ [z.cps.toList.getLast hne]
      rw [List.append_assoc _ z.cps.toList.dropLast, el]
    · have := hz.az _ (List.getLast_mem hne)
      omega
theorem last_eq {a : Str} {o : Option Str} (f : FrOk a o) : (cutS (textF a o) (some (-1)) none = "*") ↔ o = none := by
  obtain ⟨c, e, h1, h2⟩ := last_text f
  rw [e]
  constructor
  · intro h
    cases o with
    | none => rfl
    | some z =>
      have : (sg c).cps.toList = [42] := by rw [h]; decide +kernel
      exact absurd (by simpa [sg] using this) (h2 z rfl)
  · intro h
    rw [h1 h]
    decide +kernel
/-- what stands while a law reads frames: the pen, the tables, two names, a frame -/
structure KL (K : PySem.W.Frag) (T : List (Addr × Str)) (p c : Addr) (ms : List Int) (f q : Addr) (a b : Str) (o : Option Str) (t : Nat) (z : Int) (H : Hp) : Prop where
  pen : Pen H p c ms t z
  tabs : LamX.Tabs T H
  names : H f = some (.lst [.str a, .str b])
  fr : IsFr K H q a o
theorem IsFr.ext {K : PySem.W.Frag} {H H' : Hp} {q : Addr} {a : Str} {o : Option Str} (h : IsFr K H q a o) (e : LamX.ExtN H H') : IsFr K H' q a o := let ⟨f, dx, hq⟩ := h; ⟨f, dx, e _ _ hq nofun⟩
theorem KL.ext {K : PySem.W.Frag} {T : List (Addr × Str)} {p c : Addr} {ms : List Int} {f q : Addr} {a b : Str} {o : Option Str} {t : Nat} {z : Int} {H H' : Hp} (h : KL K T p c ms f q a b o t z H) (e : LamX.ExtN H H') (k : LamX.Tabs T H') : KL K T p c ms f q a b o t z H' :=
  ⟨h.pen.ext e, k, e _ _ h.names nofun, h.fr.ext e⟩
theorem KL.same {K : PySem.W.Frag} {T : List (Addr × Str)} {p c : Addr} {ms : List Int} {f q : Addr} {a b : Str} {o : Option Str} {t : Nat} {z : Int} {H H' : Hp} (h : KL K T p c ms f q a b o t z H) (s : Same H H') : KL K T p c ms f q a b o t z H' := h.ext (extS s) (h.tabs.ext s)
theorem KL.nfp {K : PySem.W.Frag} {T : List (Addr × Str)} {p c : Addr} {ms : List Int} {f q : Addr} {a b : Str} {o : Option Str} {t : Nat} {z : Int} {H : Hp} (h : KL K T p c ms f q a b o t z H) : f ≠ p := ne_of h.names h.pen.a (fun e => by injection e with e; cases e)
theorem KL.but {K : PySem.W.Frag} {T : List (Addr × Str)} {p c : Addr} {ms : List Int} {f q : Addr} {a b : Str} {o : Option Str} {t t' : Nat} {z z' : Int} {H H' : Hp} (h : KL K T p c ms f q a b o t z H) (s : But p H H') (P : Pen H' p c ms t' z') : KL K T p c ms f q a b o t' z' H' :=
  ⟨P, tabs_but h.tabs h.pen s, s _ _ h.nfp h.names, let ⟨k, dx, hq⟩ := h.fr; ⟨k, dx, s _ _ (ne_of hq h.pen.a nofun) hq⟩⟩
theorem pow59 : CPow 10 59 := ⟨by decide, by decide, by decide⟩
def bad0 (z : Str) : Bool := match Txt.split z " " with
  | [] => false
  | w :: _ => !nmB w
theorem readT0 (z : Str) (h : bad0 z = true) : dueOf (.str z) = .inl 0 := by
  show readT z = _
  unfold bad0 at h
  unfold readT hostsT
  split at h
  · cases h
  · rename_i w r e
    rw [e]
    simp only [Bool.not_eq_true'] at h
    simp [h]
end Z
namespace Z
open PySem PySem.Spec PyProof.Rows L2
/-! ### sets of texts -/
/-- a row of a set's table that is a text's -/
def TxE (w : World) (e : Int × Value) : Prop := ∃ (x : Str) (tk : Tok), e.2 = .str x tk ∧ e.1 = hashStr w x
def txK (e : Int × Value) : Str := match e.2 with
  | .str x _ => x
  | _ => Str.empty
/-- the set of the texts S, n of them, at a -/
structure TxS (w : World) (h : Heap) (a : Addr) (S : Str → Bool) (n : Nat) (o : Obj) (es : Array (Int × Value)) (ep : Nat) (t : SetTable) : Prop where
  get : h.get? a = some o
  ex : o.ExactSet
  dat : o.data = .set es ep t
  good : ∀ e ∈ es.toList, TxE w e
  nd : (es.toList.map txK).Nodup
  mem : ∀ x, S x = true ↔ x ∈ es.toList.map txK
  few : es.size < scanBound
  fit : t.fits es.size = true
  num : es.size = n
  ris : Ris t.place.toList
  ord : w.params.followText "set-order" = true ∨ t.led = true
def TxR (w : World) (h : Heap) (a : Addr) (S : Str → Bool) (n : Nat) : Prop := ∃ o es ep t, TxS w h a S n o es ep t
theorem TxR.at {w : World} {h h' : Heap} {a : Addr} {S : Str → Bool} {n : Nat} (R : TxR w h a S n) (k : ∀ o, h.get? a = some o → h'.get? a = some o) : TxR w h' a S n := let ⟨o, es, ep, t, r⟩ := R; ⟨o, es, ep, t, { r with get := k o r.get }⟩
theorem TxR.congr {w : World} {h : Heap} {a : Addr} {S S' : Str → Bool} {n : Nat} (R : TxR w h a S n) (e : ∀ x, S' x = S x) : TxR w h a S' n := by
  rw [show S' = S from funext e]
  exact R
section
variable {P : Program} {w : World} {A : Around} {E : Value → Shared → Prop} {s : Shared} {a : Addr} {S : Str → Bool} {n : Nat}
theorem tx_is {e : Int × Value} (g : TxE w e) (x : Str) : (strKind P w).is x e.2 = true ↔ txK e = x := by
  obtain ⟨y, tk, h1, _⟩ := g
  unfold txK
  rw [h1]
  exact beq_iff_eq (a := y) (b := x)
theorem tx_mem {l : List (Int × Value)} (g : ∀ e ∈ l, TxE w e) (x : Str) : x ∈ l.map txK ↔ ∃ e ∈ l, (strKind P w).is x e.2 = true := by
  constructor <;> intro h
  · obtain ⟨e, he, q⟩ := List.mem_map.mp h; exact ⟨e, he, (tx_is (g e he) x).mpr q⟩
  · obtain ⟨e, he, q⟩ := h; exact List.mem_map.mpr ⟨e, he, (tx_is (g e he) x).mp q⟩
theorem tx_elems {l : List (Int × Value)} (g : ∀ e ∈ l, TxE w e) : ElemsOf (strKind P w) l := by
  intro e he
  obtain ⟨x, tk, h1, h2⟩ := g e he
  refine ⟨⟨x, ?_, h2⟩, ?_⟩ <;> rw [h1]
  · exact beq_self_eq_true x
  · rfl
theorem TxR.setOf (R : TxR w s.heap a S n) : s.heap.SetOf (strKind P w) a S n := by
  obtain ⟨o, es, ep, t, r⟩ := R
  exact ⟨o, es, ep, t, r.get, r.ex, r.dat, tx_elems r.good, fun x => (r.mem x).trans (tx_mem r.good x), r.few, r.fit, r.num⟩
/-- the rest of an adding, behind the new row -/
theorem tx_rest {g : Bool → Sem Unit} (hg : ∀ (b : Bool) (z : Shared) (R : Unit → Shared → Prop), R () z → wpAny (model P w) A (g b) R E z) {o : Obj} {es es1 : Array (Int × Value)} {ep : Nat} {t t2 : SetTable} {S' : Str → Bool} (r0 : s.heap.get? a = some o) (r1 : o.ExactSet) (r2 : o.data = .set es ep t)
    (q1 : ∀ e ∈ es1.toList, TxE w e) (q2 : (es1.toList.map txK).Nodup) (q3 : ∀ x, S' x = true ↔ x ∈ es1.toList.map txK) (q4 : es1.size < scanBound) (q5 : t2.fits es1.size = true) (q6 : Ris t2.place.toList) (q7 : w.params.followText "set-order" = true ∨ t2.led = true) {old : Bool} {R : Option Bool → Shared → Prop}
    (fin : ∀ h', Heap.SameBut a s.heap h' → TxR w h' a S' es1.size → R (some true) { s with heap := h' }) :
    wpAny (model P w) A (storeSet a es1 t2 >>= fun _ => if (!old && t2.tooFull) = true then (g (relayAll t2 es1 (SetTable.grown es1.size)).2.2 >>= fun _ => storeSet a (relayAll t2 es1 (SetTable.grown es1.size)).1 (relayAll t2 es1 (SetTable.grown es1.size)).2.1 >>= fun _ => pure (some true)) else pure (some true)) R E s := by
  have st1 := store_at (es' := es1) (t' := t2) r0 r2
  have same1 := Heap.SameBut.update s.heap a (Obj.putSet es1 t2)
  refine wpAny_bind (wpAny_storeSet_of r0 r2 ?_ (fits_of_scanBound q4))
  by_cases full : (!old && t2.tooFull) = true
  · rw [if_pos full]
    have pp := relayAll_perm t2 es1 (SetTable.grown es1.size); have pf := relayAll_fits t2 es1 (SetTable.grown es1.size)
    have pr := relayAll_ris t2 es1 (SetTable.grown es1.size); have pl := relayAll_led t2 es1 (SetTable.grown es1.size)
    generalize relayAll t2 es1 (SetTable.grown es1.size) = N at *
    obtain ⟨es2, t3, gave⟩ := N
    have sz : es2.size = es1.size := by simpa using pp.length_eq
    have few2 : es2.size < scanBound := sz ▸ q4
    have st2 := store_at (es' := es2) (t' := t3) st1 rfl
    refine wpAny_bind (hg gave _ _ (wpAny_bind (wpAny_storeSet_of st1 rfl (wpAny_pure (fin _ (same1.trans (Heap.SameBut.update _ a _)) ?_)) (fits_of_scanBound few2))))
    have mm := pp.map txK
    exact ⟨_, es2, _, t3, { get := st2, ex := r1, dat := rfl, good := fun e he => q1 e (pp.mem_iff.mp he), nd := mm.nodup_iff.mpr q2, mem := fun x => (q3 x).trans mm.mem_iff.symm, few := few2, fit := pf, num := sz, ris := pr, ord := q7.imp id fun z => pl.trans z }⟩
  · rw [if_neg full]
    exact wpAny_pure (fin _ same1 ⟨_, es1, _, t2, { get := st1, ex := r1, dat := rfl, good := q1, nd := q2, mem := q3, few := q4, fit := q5, num := rfl, ris := q6, ord := q7 }⟩)
theorem tx_put {x : Str} {tk : Tok} {Q : Bool → Shared → Prop} (R : TxR w s.heap a S n) (room : n + 1 < scanBound)
    (fin : ∀ h', Heap.SameBut a s.heap h' → TxR w h' a (fun y => S y || decide (y = x)) (if S x = true then n else n + 1) → Q (!S x) { s with heap := h' }) :
    wpAny (model P w) A (setAddHashed a (.str x tk) ((strKind P w).hash x)) Q E s := by
  obtain ⟨o, es, ep, t, r⟩ := R
  have key : (strKind P w).is x (.str x tk) = true := beq_self_eq_true x
  have scan : (Value.str x tk).scannable = true := rfl
  have el := tx_elems (P := P) r.good
  unfold setAddHashed setAddHashedIn
  refine wpAny_holding (wpAny_bind (wpAny_setState_of r.get r.dat r.fit ?_))
  dsimp only
  rw [byScan_of scan r.few el]
  simp only [↓reduceIte]
  unfold setAddByScan
  refine wpAny_bind (wpAny_bind (wpAny_rule (wpAny_bind (wpAny_setScan_of key r.get r.dat r.fit el ?_))))
  cases found : es.toList.findIdx? (fun e => (strKind P w).is x e.2) with
  | some j =>
    obtain ⟨lt, pj, _⟩ := List.findIdx?_eq_some_iff_getElem.mp found
    have inS : S x = true := (r.mem x).mpr ((tx_mem (P := P) r.good x).mpr ⟨_, List.getElem_mem lt, pj⟩)
    have q := fin s.heap (Heap.SameBut.refl a _) ⟨o, es, ep, t, { r with
      mem := fun y => by
        rw [← r.mem y, Bool.or_eq_true, decide_eq_true_eq]
        exact ⟨fun z => z.elim id fun e => e ▸ inS, .inl⟩
      num := by rw [if_pos inS]; exact r.num }⟩
    rw [inS] at q
    exact wpAny_pure (wpAny_pure q)
  | none =>
    have out : x ∉ es.toList.map txK := by
      intro z
      obtain ⟨e, he, q⟩ := (tx_mem (P := P) r.good x).mp z
      exact Bool.false_ne_true ((List.findIdx?_eq_none_iff.mp found e he).symm.trans q)
    have offS : S x = false := by
      cases q : S x
      · rfl
      · exact absurd ((r.mem x).mp q) out
    dsimp only
    have pp := layNew_perm t es ((strKind P w).hash x) (.str x tk); have pf := layNew_fits t es ((strKind P w).hash x) (.str x tk)
    have pr := layNew_ris t es ((strKind P w).hash x) (.str x tk) r.ris; have pl := layNew_led t es ((strKind P w).hash x) (.str x tk)
    generalize layNew t es ((strKind P w).hash x) (.str x tk) = N at *
    obtain ⟨es1, t1, old, gave⟩ := N
    dsimp only at pp pf pr pl ⊢
    have pc : es1.toList.Perm (((strKind P w).hash x, Value.str x tk) :: es.toList) := by
      rw [Array.toList_push] at pp
      exact pp.trans (List.perm_append_singleton _ _)
    have pk : (es1.toList.map txK).Perm (x :: es.toList.map txK) := pc.map txK
    have q1 : ∀ e ∈ es1.toList, TxE w e := fun e he => (List.mem_cons.mp (pc.mem_iff.mp he)).elim (fun z => z ▸ ⟨x, tk, rfl, rfl⟩) (r.good e)
    have q2 := pk.nodup_iff.mpr (List.nodup_cons.mpr ⟨out, r.nd⟩)
    have q3 : ∀ y, (S y || decide (y = x)) = true ↔ y ∈ es1.toList.map txK := fun y => by
      rw [pk.mem_iff, List.mem_cons, ← r.mem y, Bool.or_eq_true, decide_eq_true_eq]
      exact Or.comm
    have sz : es1.size = n + 1 := by
      have := pc.length_eq
      rw [← r.num]
      simpa using this
    have q4 : es1.size < scanBound := sz ▸ room
    have q7 : w.params.followText "set-order" = true ∨ t1.led = true := r.ord.imp id fun z => pl.trans z
    have last : ∀ h', Heap.SameBut a s.heap h' → TxR w h' a (fun y => S y || decide (y = x)) es1.size → Q true { s with heap := h' } := fun h' sb k => by
      have q := fin h' sb
      rw [offS] at q
      exact q (sz ▸ k)
    refine wpAny_bind ?_
    have quiet : ∀ (b : Bool) (z : Shared) (R : Unit → Shared → Prop), R () z → wpAny (model P w) A (match b with | true => rule "set.scan.the-table-gave-way" | false => pure ()) R E z := fun b z R q => by
      cases b
      · exact wpAny_pure q
      · exact wpAny_rule q
    refine quiet _ _ _ ?_
    split
    · refine wpAny_bind ?_
      rw [hashByValue_scannable 8 scan]
      refine wpAny_pure (tx_rest quiet r.get r.ex r.dat q1 q2 q3 q4 ?_ ?_ ?_ fun h' sb k => wpAny_pure (last h' sb k))
      · split
        · exact pf
        · exact SetTable.fits_plain_off pf
      · split <;> exact pr
      · split <;> exact q7
    · exact wpAny_bind (wpAny_pure (tx_rest quiet r.get r.ex r.dat q1 q2 q3 q4 pf pr q7 fun h' sb k => wpAny_pure (last h' sb k)))
/-- the texts of a row, each once -/
def inS (xs : List Str) : Str → Bool := fun y => decide (y ∈ xs)
theorem tx_loop {I : Addr} {fp wr : List Addr} {G : Array GenState → Array GenState → Prop} {m : Nat} {Pv : Nat → Value → Prop} {St : Nat → Shared → Prop} {R : Result → Shared → Prop} (W : WalksS P w A.in1 I fp wr G m Pv St) (D : Addr) (off : D ∉ fp) (xs : List Str) (hm : m = xs.length) (hb : xs.length + 1 < scanBound)
    (val : ∀ i v, Pv i v → ∃ x tk, xs[i]? = some x ∧ v = .str x tk) : ∀ (k i : Nat) (s : Shared), m - i = k → i ≤ m → St i s → (∃ c, c ≤ i ∧ TxR w s.heap D (inS (xs.take i)) c) →
      (∀ s' c, Moved (D :: wr) G s s' → c ≤ m → TxR w s'.heap D (inS xs) c → R (.ok (.ret .none)) s') → codeAny (model P w) A (.builtin "set.update.loop" ⟨[.ref D, .ref I], []⟩) R s := by
  have offw : D ∉ wr := fun h => off (W.sub _ h)
  have up : ∀ b ∈ wr, b ∈ D :: wr := fun _ h => .tail _ h
  intro k
  induction k with
  | zero =>
    rintro i s hk hi st ⟨c, hc, T⟩ fin
    obtain rfl : i = m := by omega
    refine codeAny_builtin F.entry_set_update_loop ?_
    rw [Around.under_plainId F.plain_set_update_loop _]
    refine wpAny_bind (m := pyNext (.ref I)) (W.done s _ _ st fun s' mv => wpAny_pure ?_)
    rw [List.take_of_length_le (by omega)] at T
    exact fin s' c (mv.mono up) hc (T.at fun o e => mv.heap D o offw e)
  | succ k ih =>
    rintro i s hk hi st ⟨c, hc, T⟩ fin
    have lt : i < m := by omega
    refine codeAny_builtin F.entry_set_update_loop ?_
    rw [Around.under_plainId F.plain_set_update_loop _]
    refine wpAny_bind (m := pyNext (.ref I)) (W.item i s _ _ lt st fun v s' pv st' mv => ?_)
    obtain ⟨x, tk, hx, rfl⟩ := val i v pv
    have T' := T.at (h' := s'.heap) fun o e => mv.heap D o offw e
    refine wpAny_bind (m := holding [Value.str x tk] (setAdd D (.str x tk))) (wpAny_holding ?_)
    unfold setAdd
    refine wpAny_holding (wpAny_bind ((strKind P w).pyHash (k := x) (beq_self_eq_true x) (tx_put (s := { s' with toks := s'.toks + 1 }) T' (by omega) fun h' sb T2 => ?_)))
    have T3 : TxR w h' D (inS (xs.take (i + 1))) (if inS (xs.take i) x = true then c else c + 1) := T2.congr fun y => by
      unfold inS
      rw [List.take_add_one, hx]
      simp [List.mem_append]
    have c3 : (if inS (xs.take i) x = true then c else c + 1) ≤ i + 1 := by
      cases inS (xs.take i) x
      · show c + 1 ≤ i + 1; omega
      · show c ≤ i + 1; omega
    have still : ∀ b, b ≠ D → ∀ o, s'.heap.get? b = some o → h'.get? b = some o := fun b nb o e => (sb.2 b nb).trans e
    refine wpAny_pure ⟨plainId_quiet F.plain_set_update_loop _, ih (i + 1) _ (by omega) lt (W.frame _ s' _ _ st' (Nat.le_succ _) fun b hb o e => still b (fun z => off (z ▸ hb)) o e) ⟨_, c3, T3⟩ fun s2 c2 mv2 hc2 T4 => fin s2 c2 ?_ hc2 T4⟩
    exact Moved.trans W.gtrans ((mv.mono up).then_heap (Nat.le_succ _) fun b o nb e => still b (fun z => nb (z ▸ .head _)) o e) mv2
theorem tx_fresh {h : Heap} {D : Addr} {xs : List Str} (e : h.get? D = some { cls := .type "set", dict := none, data := .set #[] 0 (.fresh 0 0 (!w.params.followText "set-order")) }) : TxR w h D (inS (xs.take 0)) 0 := by
  refine ⟨_, #[], 0, _, { get := e, ex := ⟨rfl, rfl, rfl⟩, dat := rfl, good := nofun, nd := .nil, mem := fun x => by simp [inS], few := by decide, fit := by rfl, num := rfl, ris := .nil, ord := ?_ }⟩
  cases w.params.followText "set-order"
  · exact .inr rfl
  · exact .inl rfl
/-- a set being made -/
abbrev newSet (w : World) : Obj := { cls := .type "set", dict := none, data := .set #[] 0 (.fresh 0 0 (!w.params.followText "set-order")) }
/-- set(xs), xs a list of texts -/
theorem set_of_list {l : Addr} {items : Array Value} (xs : List Str) {Q : Value → Shared → Prop} (calm : A.handled = none) (hl : s.heap.IsList l items) (num : items.size = xs.length) (val : ∀ (i : Nat) (v : Value), items[i]? = some v → ∃ x tk, xs[i]? = some x ∧ v = Value.str x tk) (hb : xs.length + 1 < scanBound)
    (fin : ∀ (h' : Heap) (tk c : Nat), TxR w h' s.heap.objs.size (inS xs) c → c ≤ xs.length → (∀ b o, s.heap.get? b = some o → h'.get? b = some o) → Q (.ref s.heap.objs.size) { s with heap := h', toks := tk }) : wpAny (model P w) A (call (.type "set") [.ref l]) Q E s := by
  obtain ⟨c0, tl, hmro⟩ := F.called_set.mro
  have a1 := F.called_set.made; have a2 := F.called_set.sub; have a3 := F.called_set.notType; have a4 := F.called_set.canCreate; have a5 := F.typeCall_set_1 (.ref l)
  refine wpAny_call (codeAny_of_tree ?_)
  show wpAny _ _ (callAny (.type "set") _) _ _ _
  refine wpAny_pure ⟨Code.quiet_builtin _ (by decide +kernel), codeAny_builtin F.entry_type_call ?_⟩
  rw [Around.under_plain (weight_type_call_type "set" [.ref l] []) rfl]
  repeat (any_goals (first | assumption | wp_step))
  refine codeAny_mono (code_set_led1 (.ref l) (E := E) (Q₁ := fun u z => u = .ref s.heap.objs.size ∧ z = { s with heap := s.heap.push (newSet w) }) ⟨rfl, rfl⟩) fun res s1 hres => ?_
  cases res with
  | error e => exact hres
  | ok fl =>
    cases fl with
    | next => exact hres.elim
    | brk => exact hres.elim
    | cont => exact hres.elim
    | ret u =>
      obtain ⟨rfl, rfl⟩ := hres
      have hD : (s.heap.push (newSet w)).get? s.heap.objs.size = some (newSet w) := Heap.get?_push_size _ rfl
      have hT : Shared.TypeIs { s with heap := s.heap.push (newSet w) } (.ref s.heap.objs.size) "set" := ⟨_, hD, rfl⟩
      have b1 := F.called_set.init.lookup; have b2 := F.called_set.init.bind (.ref s.heap.objs.size)
      repeat (any_goals (first | assumption | wp_step))
      refine codeAny_mono (codeAny_call_builtin (R := wants (fun r z => r = .none ∧ ∃ h' tk c, z = { s with heap := h', toks := tk } ∧ TxR w h' s.heap.objs.size (inS xs) c ∧ c ≤ xs.length ∧ ∀ b o, s.heap.get? b = some o → h'.get? b = some o) E) F.called_set.init.plain F.entry_set_init (check_set_init_1 hT ?_)) fun r2 s2 h2 => ?_
      · obtain ⟨ol, hol, hcl, nl, hdl⟩ := hl
        obtain ⟨oc, od, ot, osl⟩ := ol
        simp only at hcl hdl
        subst hcl hdl
        have at1 : (s.heap.push (newSet w)).get? l = some { cls := .type "list", dict := od, data := .seq items nl, slots := osl } := Heap.get?_push_of_some _ hol
        have d1 := F.sub_list_set; have d2 := F.sub_list_frozenset
        have d3 : (Value.type "list" == Value.type "dict") = false := by decide
        have is1 : (s.heap.push (newSet w)).IsList l items := ⟨_, at1, rfl, nl, rfl⟩
        unfold Builtin.«set.__init__» noKeywords Builtin.Frozenset.updateFrom
        generalize hPI : pyIter = PI
        wp_walk
        subst hPI
        refine wpAny_pyIter_list is1 (wpAny_bind (wpAny_runValue ?_))
        have lt : l < s.heap.objs.size := Heap.lt_size hol
        have cal3 : A.in1.in1.in1.handled = none := by simp [calm]
        have ne1 : l ≠ (s.heap.push (newSet w)).objs.size := by
          rw [Heap.size_push]
          exact Nat.ne_of_lt (Nat.lt_succ_of_lt lt)
        have off : s.heap.objs.size ∉ [(s.heap.push (newSet w)).objs.size, l] := by
          rw [Heap.size_push]
          simp only [List.mem_cons, List.not_mem_nil, or_false, not_or]
          exact ⟨Nat.ne_of_lt (Nat.lt_succ_self _), Nat.ne_of_gt lt⟩
        refine tx_loop ((Walks.list cal3 _ l ne1 items).toS) s.heap.objs.size off xs num hb val (items.size - 0) 0 _ (by omega) (Nat.zero_le _) ⟨⟨_, Heap.get?_push_size _ rfl, rfl, rfl⟩, is1.push _⟩ ⟨0, Nat.le_refl 0, tx_fresh (Heap.get?_push_of_some _ hD)⟩ ?_
        rintro ⟨h', g2, r2, tk', os'⟩ c' mv hc' T
        obtain rfl : g2 = s.gens := mv.gens; obtain rfl : r2 = s.drawn := mv.drawn; obtain rfl : os' = s.os := mv.os
        rw [num] at hc'
        refine wpAny_pure (wpAny_pure ⟨rfl, h', tk', c', rfl, T, hc', fun b o e => ?_⟩)
        have lb : b < s.heap.objs.size := Heap.lt_size e
        refine mv.heap b o ?_ (Heap.get?_push_of_some _ (Heap.get?_push_of_some _ e))
        rw [Heap.size_push]
        simp only [List.mem_cons, List.not_mem_nil, or_false, not_or]
        exact ⟨Nat.ne_of_lt lb, Nat.ne_of_lt (Nat.lt_succ_of_lt lb)⟩
      · cases r2 with
        | error e => exact h2
        | ok fl2 =>
          cases fl2 with
          | ret r =>
            obtain ⟨rfl, h', tk, c', rfl, T, hc', keep⟩ := h2
            repeat (any_goals (first | assumption | wp_step))
            exact fin _ _ _ T hc' keep
          | next => exact h2.elim
          | brk => exact h2.elim
          | cont => exact h2.elim
/-- set(xs), xs a tuple of texts -/
theorem set_of_tuple {l : Addr} {items : Array Value} (xs : List Str) {Q : Value → Shared → Prop} (calm : A.handled = none) (hl : s.heap.IsTuple l items) (num : items.size = xs.length) (val : ∀ (i : Nat) (v : Value), items[i]? = some v → ∃ x tk, xs[i]? = some x ∧ v = Value.str x tk) (hb : xs.length + 1 < scanBound)
    (fin : ∀ (h' : Heap) (tk c : Nat), TxR w h' s.heap.objs.size (inS xs) c → c ≤ xs.length → (∀ b o, s.heap.get? b = some o → h'.get? b = some o) → Q (.ref s.heap.objs.size) { s with heap := h', toks := tk }) : wpAny (model P w) A (call (.type "set") [.ref l]) Q E s := by
  obtain ⟨c0, tl, hmro⟩ := F.called_set.mro
  have a1 := F.called_set.made; have a2 := F.called_set.sub; have a3 := F.called_set.notType; have a4 := F.called_set.canCreate; have a5 := F.typeCall_set_1 (.ref l)
  refine wpAny_call (codeAny_of_tree ?_)
  show wpAny _ _ (callAny (.type "set") _) _ _ _
  refine wpAny_pure ⟨Code.quiet_builtin _ (by decide +kernel), codeAny_builtin F.entry_type_call ?_⟩
  rw [Around.under_plain (weight_type_call_type "set" [.ref l] []) rfl]
  repeat (any_goals (first | assumption | wp_step))
  refine codeAny_mono (code_set_led1 (.ref l) (E := E) (Q₁ := fun u z => u = .ref s.heap.objs.size ∧ z = { s with heap := s.heap.push (newSet w) }) ⟨rfl, rfl⟩) fun res s1 hres => ?_
  cases res with
  | error e => exact hres
  | ok fl =>
    cases fl with
    | next => exact hres.elim
    | brk => exact hres.elim
    | cont => exact hres.elim
    | ret u =>
      obtain ⟨rfl, rfl⟩ := hres
      have hD : (s.heap.push (newSet w)).get? s.heap.objs.size = some (newSet w) := Heap.get?_push_size _ rfl
      have hT : Shared.TypeIs { s with heap := s.heap.push (newSet w) } (.ref s.heap.objs.size) "set" := ⟨_, hD, rfl⟩
      have b1 := F.called_set.init.lookup; have b2 := F.called_set.init.bind (.ref s.heap.objs.size)
      repeat (any_goals (first | assumption | wp_step))
      refine codeAny_mono (codeAny_call_builtin (R := wants (fun r z => r = .none ∧ ∃ h' tk c, z = { s with heap := h', toks := tk } ∧ TxR w h' s.heap.objs.size (inS xs) c ∧ c ≤ xs.length ∧ ∀ b o, s.heap.get? b = some o → h'.get? b = some o) E) F.called_set.init.plain F.entry_set_init (check_set_init_1 hT ?_)) fun r2 s2 h2 => ?_
      · obtain ⟨ol, hol, hcl, nl, hdl⟩ := hl
        obtain ⟨oc, od, ot, osl⟩ := ol
        simp only at hcl hdl
        subst hcl hdl
        have at1 : (s.heap.push (newSet w)).get? l = some { cls := .type "tuple", dict := od, data := .seq items nl, slots := osl } := Heap.get?_push_of_some _ hol
        have d1 := F.sub_tuple_set; have d2 := F.sub_tuple_frozenset
        have d3 : (Value.type "tuple" == Value.type "dict") = false := by decide
        have is1 : (s.heap.push (newSet w)).IsTuple l items := ⟨_, at1, rfl, nl, rfl⟩
        unfold Builtin.«set.__init__» noKeywords Builtin.Frozenset.updateFrom
        generalize hPI : pyIter = PI
        wp_walk
        subst hPI
        refine wpAny_pyIter_tuple is1 (wpAny_bind (wpAny_runValue ?_))
        have lt : l < s.heap.objs.size := Heap.lt_size hol
        have cal3 : A.in1.in1.in1.handled = none := by simp [calm]
        have ne1 : l ≠ (s.heap.push (newSet w)).objs.size := by
          rw [Heap.size_push]
          exact Nat.ne_of_lt (Nat.lt_succ_of_lt lt)
        have off : s.heap.objs.size ∉ [(s.heap.push (newSet w)).objs.size, l] := by
          rw [Heap.size_push]
          simp only [List.mem_cons, List.not_mem_nil, or_false, not_or]
          exact ⟨Nat.ne_of_lt (Nat.lt_succ_self _), Nat.ne_of_gt lt⟩
        refine tx_loop ((Walks.tuple cal3 _ l ne1 items).toS) s.heap.objs.size off xs num hb val (items.size - 0) 0 _ (by omega) (Nat.zero_le _) ⟨⟨_, Heap.get?_push_size _ rfl, rfl, rfl⟩, is1.push _⟩ ⟨0, Nat.le_refl 0, tx_fresh (Heap.get?_push_of_some _ hD)⟩ ?_
        rintro ⟨h', g2, r2, tk', os'⟩ c' mv hc' T
        obtain rfl : g2 = s.gens := mv.gens; obtain rfl : r2 = s.drawn := mv.drawn; obtain rfl : os' = s.os := mv.os
        rw [num] at hc'
        refine wpAny_pure (wpAny_pure ⟨rfl, h', tk', c', rfl, T, hc', fun b o e => ?_⟩)
        have lb : b < s.heap.objs.size := Heap.lt_size e
        refine mv.heap b o ?_ (Heap.get?_push_of_some _ (Heap.get?_push_of_some _ e))
        rw [Heap.size_push]
        simp only [List.mem_cons, List.not_mem_nil, or_false, not_or]
        exact ⟨Nat.ne_of_lt lb, Nat.ne_of_lt (Nat.lt_succ_of_lt lb)⟩
      · cases r2 with
        | error e => exact h2
        | ok fl2 =>
          cases fl2 with
          | ret r =>
            obtain ⟨rfl, h', tk, c', rfl, T, hc', keep⟩ := h2
            repeat (any_goals (first | assumption | wp_step))
            exact fin _ _ _ T hc' keep
          | next => exact h2.elim
          | brk => exact h2.elim
          | cont => exact h2.elim
end
end Z
namespace Z
open PySem PySem.Spec PyProof.Rows L2
/-! ### sets of texts: what is asked of them -/
section
variable {P : Program} {w : World} {A : Around} {E : Value → Shared → Prop} {s : Shared} {a : Addr} {S : Str → Bool} {n : Nat}
theorem strs_of {l : List Value} (h : ∀ v ∈ l, ∃ x tk, v = Value.str x tk) : ∃ xs, StrsAre l xs ∧ xs = l.map fun v => txK (0, v) := by
  induction l with
  | nil => exact ⟨[], .nil, rfl⟩
  | cons v r ih =>
    obtain ⟨x, tk, rfl⟩ := h v (.head _)
    obtain ⟨xs, h1, h2⟩ := ih fun u hu => h u (.tail _ hu)
    exact ⟨x :: xs, .cons x tk h1, by rw [h2]; rfl⟩
theorem tx_sorted {Q : Value → Shared → Prop} (R : TxR w s.heap a S n) (calm : A.handled = none)
    (fin : ∀ s' p (out : Array Value) (c : Nat) (ys : List Str), (∀ b o, s.heap.get? b = some o → s'.heap.get? b = some o) → s'.gens = s.gens → s'.os = s.os → s.heap.objs.size ≤ p → s'.heap.get? p = some (seqObj "list" out c) → StrsAre out.toList ys → sortedS ys = true → ys.Nodup → (∀ y, y ∈ ys ↔ S y = true) → ys.length = n → n ≤ sizeLine → Q (.ref p) s') :
    wpAny (model P w) A (call (.builtin "sorted") [.ref a]) Q E s := by
  obtain ⟨o, es, ep, t, r⟩ := R
  refine Calls.call_function_entry kind_sorted plain_sorted entry_sorted (args_sorted1 _) ?_
  unfold Builtin.«sorted»
  refine wpAny_bind (m := checkCount "sorted" 1 1 _) (wpAny_pure (wpAny_bind (collect_set (A := A.in1) calm ⟨o, r.get, r.ex.1, r.dat⟩ r.fit r.few r.ris r.ord fun s1 vs k1 hz g1 o1 pm => ?_)))
  have len : vs.length = n := by
    have := pm.length_eq
    rw [← r.num]
    simpa using this
  have small : n ≤ sizeLine := r.num ▸ fits_of_scanBound r.few
  obtain ⟨xs, hxs, ex⟩ := strs_of (l := vs) fun v hv => by
    obtain ⟨e, he, q⟩ := List.mem_map.mp (pm.mem_iff.mp hv)
    obtain ⟨x, tk, h1, _⟩ := r.good e he
    exact ⟨x, tk, q ▸ h1⟩
  have px : xs.Perm (es.toList.map txK) := by
    have q := pm.map fun v => txK (0, v)
    rw [List.map_map, ← ex] at q
    exact q
  refine wpAny_bind (wpAny_newList ?_ (len ▸ small))
  have hoL : (s1.heap.push (seqObj "list" vs.toArray 0)).get? s1.heap.objs.size = some (seqObj "list" vs.toArray 0) := Heap.get?_push_size _ rfl
  refine wpAny_bind (wpAny_holding (wpAny_call_entry slot_list_sort ⟨_, hoL, rfl⟩ entry_list_sort (list_sort_treeKAny strKind_oneLt hoL hxs.keysOf (fun v₁ v₂ rest e => keyKind_strs (by rw [← e]; exact hxs)) (len ▸ small) fun st hp hs => ⟨_, rfl, ?_⟩) (args_list_sort _)))
  obtain ⟨ys, h1, h2, h3⟩ := sorted_out_str hxs hp hs
  obtain ⟨c, hc⟩ := sortedHeap_at (vs := vs) (out := (arrOf st).map (·.2)) hoL
  have py := h2.trans px
  refine wpAny_pure ⟨_, rfl, fin _ s1.heap.objs.size _ c ys (fun b u e => ?_) g1 o1 hz hc h1 h3 (py.nodup_iff.mpr r.nd) (fun y => py.mem_iff.trans (r.mem y).symm) ?_ small⟩
  · have q := k1 b u e
    have lt := Heap.lt_size q
    show (sortedHeap (s1.heap.push (seqObj "list" vs.toArray 0)) s1.heap.objs.size vs _).get? b = some u
    rw [sortedHeap_old (Nat.ne_of_lt lt) (by rw [size_push']; exact Nat.lt_succ_of_lt lt)]
    exact Heap.get?_push_of_some _ q
  · have := py.length_eq
    rw [← r.num]
    simpa using this
end
/-- the set of the texts S, n of them -/
def TxO (w : World) (a : Addr) (S : Str → Bool) (n : Nat) : HO := .ext fun h => TxR w h a S n
theorem txO_new {w : World} {P : Program} {H : Hp} {h : Heap} {a : Addr} {S : Str → Bool} {n : Nat} (R : TxR w h a S n) : ObjOk P w H h a (TxO w a S n) := ⟨R, let ⟨o, _, _, _, r⟩ := R; ⟨o, r.get⟩, fun _ _ p k => p.at k⟩
section
variable {X : Cx} {K : PySem.W.Frag}
theorem txO_get {pins : List (Addr × Obj)} {σ : L2.St} {H : Hp} {s : Shared} {a : Addr} {S : Str → Bool} {n : Nat} (I : Inv X pins σ H s) (ha : H a = some (TxO X.w a S n)) : TxR X.w s.heap a S n := (I.hok a _ ha).1
/-- n is how many texts stand in xs, each once -/
def ManyS (xs : List Str) (n : Nat) : Prop := ∃ L : List Str, L.Nodup ∧ (∀ y, y ∈ L ↔ y ∈ xs) ∧ L.length = n
theorem ManyS.le {xs : List Str} {n : Nat} (h : ManyS xs n) : n ≤ xs.length := by
  obtain ⟨L, h1, h2, rfl⟩ := h
  exact len_le_of_sub h1 fun x hx => (h2 x).mp hx
/-- set(xs), xs a list or a tuple of texts -/
def rSetS (K : PySem.W.Frag) (w : World) : List V → Hp → VK → Prop := fun vs H Q => ∃ (l : Addr) (xs : List Str), vs = [.ref l] ∧ (SqL K H l (xs.map V.str) ∨ SqT K H l (xs.map V.str)) ∧ xs.length + 1 < scanBound ∧
  ∀ a n, H a = none → ManyS xs n → Q (.ref a) (upd H a (TxO w a (inS xs) n))
theorem strs_at {xs : List Str} {its : List Value} (r : Vals (xs.map V.str) its) : ∀ (i : Nat) (v : Value), its.toArray[i]? = some v → ∃ x tk, xs[i]? = some x ∧ v = Value.str x tk := by
  intro i v h
  rw [List.getElem?_toArray] at h
  have len := r.length
  rw [List.length_map] at len
  have lt : i < xs.length := by
    rw [len]
    exact (List.getElem?_eq_some_iff.mp h).1
  obtain ⟨u, hu, tk, e⟩ := r.get (i := i) (x := .str xs[i]) (by simp [lt])
  rw [hu] at h
  exact ⟨xs[i], tk, List.getElem?_eq_getElem lt, (Option.some.inj h).symm.trans e⟩
theorem TxR.many {w : World} {h : Heap} {a : Addr} {xs : List Str} {n : Nat} (R : TxR w h a (inS xs) n) : ManyS xs n := by
  obtain ⟨o, es, ep, t, r⟩ := R
  refine ⟨es.toList.map txK, r.nd, fun y => ?_, ?_⟩
  · rw [← r.mem y]
    exact decide_eq_true_iff
  · rw [List.length_map, Array.length_toList, r.num]
theorem cr_setS (hc : X.calm = true) (hK : X.K = K := by rfl) : CallR X (.type "set") (rSetS K X.w) := by
  subst hK
  rintro pins s σ H vs us Q I r ⟨l, xs, rfl, hl, hb, q⟩
  rw [Vals.ref1 r]
  have fr : H s.heap.objs.size = none := I.hok.fresh (Nat.le_refl _)
  have fin : ∀ (h' : Heap) (tk c : Nat), TxR X.w h' s.heap.objs.size (inS xs) c → c ≤ xs.length → (∀ b o, s.heap.get? b = some o → h'.get? b = some o) → EP X pins σ Q (.ref s.heap.objs.size) { s with heap := h', toks := tk } := fun h' tk c T _ k =>
    ⟨.ref s.heap.objs.size, upd H s.heap.objs.size (TxO X.w s.heap.objs.size (inS xs) c), I.laid (t' := tk) k (Nat.le_refl _) (txO_new T), rfl, q _ c fr T.many⟩
  rcases hl with hl | hl
  · obtain ⟨its, rv, pl, hz⟩ := I.list hl
    exact set_of_list xs (I.ok.hd hc) pl.isList (by have := rv.length; simpa using this.symm) (strs_at rv) hb fin
  · obtain ⟨its, rv, pl, hz⟩ := I.tuple hl
    exact set_of_tuple xs (I.ok.hd hc) pl (by have := rv.length; simpa using this.symm) (strs_at rv) hb fin
/-- len(set) -/
def rLenX (w : World) : List V → Hp → VK → Prop := fun vs H Q => ∃ (a : Addr) (S : Str → Bool) (n : Nat), vs = [.ref a] ∧ H a = some (TxO w a S n) ∧ Q (.int n) H
theorem cr_lenX : CallR X (.builtin "len") (rLenX X.w) := by
  rintro pins s σ H vs us Q I r ⟨a, S, n, rfl, ha, q⟩
  rw [Vals.ref1 r]
  obtain ⟨o, es, ep, t, k⟩ := txO_get I ha
  have big : (es.size : Int) < 2 ^ 63 := by
    have h1 : es.size ≤ sizeLine := fits_of_scanBound k.few
    have h2 : sizeLine = 16777216 := by decide
    omega
  exact call_len_set k.get k.ex k.dat k.fit big ⟨.int n, H, I.tok _, ⟨_, by rw [k.num]⟩, q⟩
/-- sorted(set) -/
def rSortX (w : World) : List V → Hp → VK → Prop := fun vs H Q => ∃ (a : Addr) (S : Str → Bool) (n : Nat), vs = [.ref a] ∧ H a = some (TxO w a S n) ∧ ∀ (ys : List Str) (p : Addr), sortedS ys = true → ys.Nodup → (∀ y, y ∈ ys ↔ S y = true) → ys.length = n → H p = none → Q (.ref p) (upd H p (.lst (ys.map V.str)))
theorem cr_sortX (hc : X.calm = true) : CallR X (.builtin "sorted") (rSortX X.w) := by
  rintro pins s σ H vs us Q I r ⟨a, S, n, rfl, ha, q⟩
  rw [Vals.ref1 r]
  refine tx_sorted (txO_get I ha) (I.ok.hd hc) fun s' p out c ys k g o hp hg hi hs nd mem len small => ?_
  have fr : H p = none := I.hok.fresh hp
  have fit : (ys.map V.str).length ≤ sizeLine := by
    rw [List.length_map, len]
    exact small
  have J : Inv X pins σ (upd H p (.lst (ys.map V.str))) { s with heap := s'.heap, gens := s'.gens, drawn := s'.drawn, toks := s'.toks } := I.call (ch := []) (Un.laid k hp fr) (I.hok.laid k hp ⟨fit, out.toList, c, vals_of_strs hi, hg⟩) (by rw [g]; exact I.bare) nofun
  obtain ⟨h1, h2, h3, h4, h5⟩ := s'
  obtain rfl : h5 = s.os := o
  exact ⟨.ref p, _, J, rfl, q ys p hs nd mem len fr⟩
end
/-! ### the ascending texts of a row -/
/-- the ascending texts of xs, each once -/
def AscOf (xs ys : List Str) : Prop := sortedS ys = true ∧ ys.Nodup ∧ ∀ y, y ∈ ys ↔ y ∈ xs
end Z
namespace Z
open PySem PySem.Spec PyProof.Rows L2
/-! ### lists or tuples -/
theorem pi_or {X : Cx} {tg l : Expr} {w1 w2 : TI} (h1 : PI X tg l w1) (h2 : PI X tg l w2) : PI X tg l (fun σ H R => w1 σ H R ∨ w2 σ H R) := by
  refine ⟨fun pins s σ H R I h => ?_⟩
  rcases h with h | h
  · exact h1.run pins s σ H R I h
  · exact h2.run pins s σ H R I h
/-- the row xs stands at p, a list or a tuple -/
def RowA (H : Hp) (p : Addr) (xs : List V) : Prop := H p = some (.lst xs) ∨ H p = some (.tup xs)
theorem RowA.same {H H' : Hp} {p : Addr} {xs : List V} (s : Same H H') (h : RowA H p xs) : RowA H' p xs := h.imp (s _ _) (s _ _)
theorem RowA.seq {K : PySem.W.Frag} {H : Hp} {p : Addr} {xs : List V} (h : RowA H p xs) : SqL K H p xs ∨ SqT K H p xs := h.imp SqL.of SqT.of
theorem RowA.isi {K : PySem.W.Frag} {H : Hp} {p : Addr} {xs : List V} (h : RowA H p xs) : ∃ t, TyX K H (.ref p) t ∧ PySem.W.kitAny K t [.type "list", .type "tuple"] = some true := by
  rcases h with h | h
  · refine ⟨_, .base (.lst h), ?_⟩
    unfold PySem.W.kitAny
    rw [kit_same]
  · refine ⟨_, .base (.tup h), ?_⟩
    unfold PySem.W.kitAny
    rw [kit_ty (show kitB "tuple" "list" = some false by decide +kernel)]
    unfold PySem.W.kitAny
    rw [kit_same]
/-- what may be told for a row of names -/
def RowK (K : PySem.W.Frag) (H : Hp) (v : V) : Prop := (∃ p xs, v = .ref p ∧ RowA H p xs ∧ xs.length ≤ 1000 ∧ ∀ x ∈ xs, Kind K H x) ∨ ∃ t, TyX K H v t ∧ PySem.W.kitAny K t [.type "list", .type "tuple"] = some false
/-- the texts among some values -/
def strsV (xs : List V) : List Str := xs.filterMap fun v => match v with
  | .str z => some z
  | _ => none
/-- the names of a row that has no others, each once; none for any other row -/
def rowN (xs : List V) : Option (List Str) := if xs.all vnm = true ∧ (strsV xs).Nodup then some (strsV xs) else none
theorem strsV_map (ns : List Str) : strsV (ns.map V.str) = ns := by
  unfold strsV
  rw [List.filterMap_map]
  induction ns with
  | nil => rfl
  | cons a r ih => simpa using ih
theorem all_strs {xs : List V} (h : xs.all vnm = true) : xs = (strsV xs).map V.str ∧ ∀ n ∈ strsV xs, IsNm n := by
  induction xs with
  | nil => exact ⟨rfl, nofun⟩
  | cons v r ih =>
    rw [List.all_cons, Bool.and_eq_true] at h
    obtain ⟨z, rfl⟩ := vnm_str h.1
    obtain ⟨h1, h2⟩ := ih h.2
    have e : strsV (V.str z :: r) = z :: strsV r := rfl
    rw [e]
    refine ⟨by rw [List.map_cons, ← h1], fun n hn => ?_⟩
    rcases List.mem_cons.mp hn with rfl | hn
    · exact nmB_iff.mp h.1
    · exact h2 n hn
theorem rowN_some {xs : List V} {ns : List Str} (h : rowN xs = some ns) : xs = ns.map V.str ∧ (∀ n ∈ ns, IsNm n) ∧ ns.Nodup := by
  unfold rowN at h
  split at h
  · rename_i c
    cases h
    exact ⟨(all_strs c.1).1, (all_strs c.1).2, c.2⟩
  · cases h
theorem rowN_of {ns : List Str} (h : ∀ n ∈ ns, IsNm n) (d : ns.Nodup) : rowN (ns.map V.str) = some ns := by
  have a : (ns.map V.str).all vnm = true := by
    rw [List.all_map, List.all_eq_true]
    exact fun n hn => nmB_iff.mpr (h n hn)
  unfold rowN
  rw [strsV_map, if_pos ⟨a, d⟩]
theorem perm_full : ∀ (L xs : List Str), L.Nodup → (∀ x ∈ L, x ∈ xs) → xs.length ≤ L.length → L.Perm xs
  | [], xs, _, _, h => by
    rw [List.length_eq_zero_iff.mp (Nat.le_zero.mp h)]
  | a :: r, xs, d, m, h => by
    obtain ⟨d1, d2⟩ := List.nodup_cons.mp d
    have ha := m a (.head _)
    have pe := List.perm_cons_erase ha
    have le : (xs.erase a).length ≤ r.length := by
      have := pe.length_eq
      simp only [List.length_cons] at this h
      omega
    refine .trans (.cons a (perm_full r (xs.erase a) d2 (fun x hx => ?_) le)) pe.symm
    exact (List.mem_erase_of_ne (by intro e; subst e; exact d1 hx)).mpr (m x (.tail _ hx))
theorem many_eq {xs : List Str} {n : Nat} (h : ManyS xs n) : decide ((n : Int) = (xs.length : Int)) = decide xs.Nodup := by
  obtain ⟨L, h1, h2, rfl⟩ := h
  have key : L.length = xs.length ↔ xs.Nodup := by
    constructor
    · intro e
      exact (perm_full L xs h1 (fun x hx => (h2 x).mp hx) (Nat.le_of_eq e.symm)).nodup_iff.mp h1
    · intro d
      exact Nat.le_antisymm (len_le_of_sub h1 fun x hx => (h2 x).mp hx) (len_le_of_sub d fun x hx => (h2 x).mpr hx)
  by_cases d : xs.Nodup
  · rw [decide_eq_true d, decide_eq_true (by have := key.mpr d; omega)]
  · rw [decide_eq_false d, decide_eq_false (fun e => d (key.mp (by omega)))]
def spAreN (K : PySem.W.Frag) : Sp := fun vs H Q _ => ∃ v : V, vs = [v] ∧
  ((∃ p xs, v = .ref p ∧ RowA H p xs ∧ xs.length ≤ 1000 ∧ (∀ x ∈ xs, Kind K H x) ∧ ∀ H', Same H H' → Q (.bl (rowN xs).isSome) H') ∨
   ∃ t, TyX K H v t ∧ PySem.W.kitAny K t [.type "list", .type "tuple"] = some false ∧ ∀ H', Same H H' → Q (.bl false) H')
def spAsc (K : PySem.W.Frag) : Sp := fun vs H Q _ => ∃ (p : Addr) (xs : List Str), vs = [.ref p] ∧ (SqL K H p (xs.map V.str) ∨ SqT K H p (xs.map V.str)) ∧ xs.length ≤ 3000 ∧
  ∀ ys t H', AscOf xs ys → Same H H' → H t = none → H' t = some (.tup (ys.map V.str)) → Q (.ref t) H'
/-- a comprehension whose elements may make things -/
theorem lc_same {J : It} {n : Nat} {G : Hp → Prop} {Y : Nat → Hp → V → Hp → Prop} (w : Walk J n G Y) {g : TG} {tt : TT} {te : TE} {vs : List Nat} {σ : L2.St} {H1 : Hp} {D : Addr} {Qd : Hp → Prop} (xs : List V) (F : V → Option V) (hn : n = xs.length) (hY : ∀ i H x H', i < n → Y i H x H' → H' = H ∧ xs[i]? = some x) (hD : H1 D = none) (hG : ∀ H', Same H1 H' → G H') (hz : xs.length < sizeLine)
    (hs : ∀ x ∈ xs, ∀ H', Same H1 H' → ∀ (Kt : V → Hp → Prop) (Kf : Hp → Prop), (∀ y H2, F x = some y → Same H' H2 → Kt y H2) → (∀ H2, F x = none → Same H' H2 → Kf H2) → g x (wipe σ vs) H' fun σ2 H2 => wipe σ2 vs = wipe σ vs ∧ tt σ2 H2 fun b H3 => if b = true then te σ2 H3 Kt else Kf H3)
    (hd : ∀ H', Same H1 H' → H' D = some (.lst (xs.filterMap F)) → Qd H') :
    ∃ W : Nat → Nat → Hp → Prop, (∃ m, W 0 m (upd H1 D (.lst []))) ∧ ∀ i m H, W i m H → (J.stop i H ∧ Qd H) ∨ (J.go i H ∧ ∃ Nx : Hp → Prop, (∀ H', Nx H' → ∃ m', m' < m ∧ W (i + 1) m' H') ∧ ∀ x H', J.yld i H x H' → g x (wipe σ vs) H' fun σ2 H2 => wipe σ2 vs = wipe σ vs ∧ tt σ2 H2 fun b H3 => if b = true then te σ2 H3 fun y H4 => ∃ acc, H4 D = some (.lst acc) ∧ acc.length < sizeLine ∧ Nx (upd H4 D (.lst (acc ++ [y]))) else Nx H3) := by
  refine lc_it w (fun i H => Same H1 H ∧ H D = some (.lst ((xs.take i).filterMap F))) ⟨same_new hD, upd_same⟩ (fun i H _ k => hG _ k.1) ?_ ?_
  · rintro i x H H' hi ⟨sm, at_⟩ y
    obtain ⟨rfl, hx⟩ := hY i _ x H' hi y
    refine hs x (List.mem_of_getElem? hx) _ sm _ _ (fun y H2 e s2 => ⟨_, s2 _ _ at_, ?_, ?_, ?_⟩) fun H2 e s2 => ⟨sm.trans s2, ?_⟩
    · have a := List.length_filterMap_le F (xs.take i)
      have b : (xs.take i).length ≤ xs.length := by rw [List.length_take]; omega
      omega
    · exact fun b o h => by rw [upd_ne (ne_of_none h hD)]; exact s2 _ _ (sm _ _ h)
    · rw [upd_same, filterMap_take F xs hx, e]
      rfl
    · rw [filterMap_take F xs hx, e]
      simpa using s2 _ _ at_
  · rintro H ⟨sm, at_⟩
    rw [hn, List.take_length] at at_
    exact hd H sm at_
/-- a walk over a list or a tuple -/
theorem row_walk {K : PySem.W.Frag} {H : Hp} {p : Addr} {xs : List V} (h : RowA H p xs) {R : It → Hp → Prop} {σ : L2.St} {i : Nat} (hi : σ[i]? = some (some (.ref p)))
    (k : ∀ (J : It) (G : Hp → Prop), Walk J xs.length G (YAt xs) → (∀ H', Same H H' → G H') → R J H) : (iList K (tVar i)) σ H R ∨ (iTup K (tVar i)) σ H R := by
  rcases h with h | h
  · exact .inl ⟨_, hi, p, rfl, ⟨_, SqL.of h⟩, k _ _ walk_list fun H' s => SqL.of (s _ _ h)⟩
  · exact .inr ⟨_, hi, p, rfl, ⟨_, SqT.of h⟩, k _ _ walk_tup fun H' s => SqT.of (s _ _ h)⟩
theorem bools_of (xs : List V) : xs.filterMap (fun v => some (V.bl (vnm v))) = (xs.map vnm).map V.bl := by
  induction xs with
  | nil => rfl
  | cons a r ih => simp [ih]
end Z
namespace Z
open PySem PySem.Spec PyProof.Rows L2
/-! ### ascending rows are told by what they have -/
def leS (a b : Str) : Prop := ltCps b.cps.toList a.cps.toList = false
theorem leS_iff {a b : Str} : leS a b ↔ a.cps.toList ≤ b.cps.toList := by
  unfold leS
  rw [ltCps_eq, decide_eq_false_iff_not]
  exact List.not_lt
theorem leS_trans {a b c : Str} (h : leS a b) (k : leS b c) : leS a c := leS_iff.mpr (List.le_trans (leS_iff.mp h) (leS_iff.mp k))
theorem leS_anti {a b : Str} (h : leS a b) (k : leS b a) : a = b := str_ext (List.le_antisymm (leS_iff.mp h) (leS_iff.mp k))
theorem rising_all : ∀ (l : List Str) (p : Str), risingS p l = true → (∀ x ∈ l, leS p x) ∧ l.Pairwise leS
  | [], _, _ => ⟨nofun, .nil⟩
  | x :: r, p, h => by
    have h : (!ltCps x.cps.toList p.cps.toList && risingS x r) = true := h
    rw [Bool.and_eq_true, Bool.not_eq_true'] at h
    obtain ⟨h1, h2⟩ := rising_all r x h.2
    refine ⟨fun y hy => ?_, .cons h1 h2⟩
    rcases List.mem_cons.mp hy with rfl | hy
    · exact h.1
    · exact leS_trans h.1 (h1 y hy)
theorem sorted_pair {l : List Str} (h : sortedS l = true) : l.Pairwise leS := by
  cases l with
  | nil => exact .nil
  | cons x r => exact .cons (rising_all r x h).1 (rising_all r x h).2
theorem pair_unique : ∀ (ys zs : List Str), ys.Pairwise leS → zs.Pairwise leS → ys.Nodup → zs.Nodup → (∀ y, y ∈ ys ↔ y ∈ zs) → ys = zs
  | [], zs, _, _, _, _, m => by
    cases zs with
    | nil => rfl
    | cons b r => exact absurd ((m b).mpr (.head _)) nofun
  | a :: r, [], _, _, _, _, m => absurd ((m a).mp (.head _)) nofun
  | a :: r, b :: q, p1, p2, d1, d2, m => by
    obtain ⟨a1, a2⟩ := List.pairwise_cons.mp p1
    obtain ⟨b1, b2⟩ := List.pairwise_cons.mp p2
    obtain ⟨c1, c2⟩ := List.nodup_cons.mp d1
    obtain ⟨e1, e2⟩ := List.nodup_cons.mp d2
    have e : a = b := by
      rcases List.mem_cons.mp ((m a).mp (.head _)) with h | h
      · exact h
      · rcases List.mem_cons.mp ((m b).mpr (.head _)) with k | k
        · exact k.symm
        · exact leS_anti (a1 b k) (b1 a h)
    subst e
    rw [pair_unique r q a2 b2 c2 e2 fun y => ?_]
    constructor
    · intro h
      rcases List.mem_cons.mp ((m y).mp (.tail _ h)) with k | k
      · subst k; exact absurd h c1
      · exact k
    · intro h
      rcases List.mem_cons.mp ((m y).mpr (.tail _ h)) with k | k
      · subst k; exact absurd h e1
      · exact k
theorem AscOf.unique {xs ys zs : List Str} (h : AscOf xs ys) (k : AscOf xs zs) : ys = zs := pair_unique ys zs (sorted_pair h.1) (sorted_pair k.1) h.2.1 k.2.1 fun y => (h.2.2 y).trans (k.2.2 y).symm
theorem AscOf.perm {xs ys : List Str} (p : ys.Perm xs) (s : sortedS ys = true) (d : xs.Nodup) : AscOf xs ys := ⟨s, p.nodup_iff.mpr d, fun _ => p.mem_iff⟩
theorem AscOf.swap {xs zs ys : List Str} (h : AscOf xs ys) (e : ∀ y, y ∈ xs ↔ y ∈ zs) : AscOf zs ys := ⟨h.1, h.2.1, fun y => (h.2.2 y).trans (e y)⟩
theorem AscOf.len {xs ys : List Str} (h : AscOf xs ys) (d : xs.Nodup) : ys.length = xs.length := Nat.le_antisymm (len_le_of_sub h.2.1 fun x hx => (h.2.2 x).mp hx) (len_le_of_sub d fun x hx => (h.2.2 x).mpr hx)
theorem AscOf.le {xs ys : List Str} (h : AscOf xs ys) : ys.length ≤ xs.length := len_le_of_sub h.2.1 fun x hx => (h.2.2 x).mp hx
/-! ### what a value is as a row of unlike names -/
def RowD (K : PySem.W.Frag) (H : Hp) (v : V) (d : Option (List Str)) : Prop := (∃ p xs, v = .ref p ∧ RowA H p xs ∧ xs.length ≤ 1000 ∧ (∀ x ∈ xs, Kind K H x) ∧ d = rowN xs) ∨ (d = none ∧ ∃ t, TyX K H v t ∧ PySem.W.kitAny K t [.type "list", .type "tuple"] = some false)
theorem RowD.same {K : PySem.W.Frag} {H H' : Hp} {v : V} {d : Option (List Str)} (s : Same H H') (h : RowD K H v d) : RowD K H' v d := by
  rcases h with ⟨p, xs, e, a, l, k, ed⟩ | ⟨e, t, ty, kt⟩
  · exact .inl ⟨p, xs, e, a.same s, l, fun x hx => (k x hx).same s, ed⟩
  · exact .inr ⟨e, t, tyX_same s ty, kt⟩
theorem are_n {K : PySem.W.Frag} {H : Hp} {v : V} {d : Option (List Str)} {Q : VK} {E : XK} (h : RowD K H v d) (k : ∀ H', Same H H' → Q (.bl d.isSome) H') : spAreN K [v] H Q E := by
  rcases h with ⟨p, xs, rfl, a, l, kk, rfl⟩ | ⟨rfl, t, ty, kt⟩
  · exact ⟨_, rfl, .inl ⟨p, xs, rfl, a, l, kk, k⟩⟩
  · exact ⟨_, rfl, .inr ⟨t, ty, kt, k⟩⟩
/-- the row of the names ns -/
structure RowS (H : Hp) (v : V) (ns : List Str) : Prop where
  at_ : ∃ p, v = .ref p ∧ RowA H p (ns.map V.str)
  nm : ∀ n ∈ ns, IsNm n
  nd : ns.Nodup
  few : ns.length ≤ 1000
theorem RowD.row {K : PySem.W.Frag} {H : Hp} {v : V} {ns : List Str} (h : RowD K H v (some ns)) : RowS H v ns := by
  rcases h with ⟨p, xs, rfl, a, l, kk, e⟩ | ⟨e, _⟩
  · obtain ⟨rfl, h2, h3⟩ := rowN_some e.symm
    exact ⟨⟨p, rfl, a⟩, h2, h3, by rwa [List.length_map] at l⟩
  · cases e
def sideD : Option (List Str) → Bool
  | none => false
  | some ns => decide (2 ≤ ns.length)
theorem sideD_some (ns : List Str) : sideD (some ns) = decide ((2 : Int) ≤ (ns.length : Int)) := by
  show decide (2 ≤ ns.length) = _
  by_cases c : 2 ≤ ns.length
  · rw [decide_eq_true c, decide_eq_true (by omega)]
  · rw [decide_eq_false c, decide_eq_false (by omega)]
theorem sideD_true {d : Option (List Str)} (h : sideD d = true) : ∃ ns, d = some ns ∧ 2 ≤ ns.length := by
  cases d with
  | none => cases h
  | some ns => exact ⟨ns, rfl, of_decide_eq_true h⟩
def spSide (K : PySem.W.Frag) : Sp := fun vs H Q _ => ∃ (v : V) (d : Option (List Str)), vs = [v] ∧ RowD K H v d ∧ ∀ H', Same H H' → Q (.bl (sideD d)) H'
theorem RowS.same {H H' : Hp} {v : V} {ns : List Str} (s : Same H H') (h : RowS H v ns) : RowS H' v ns := ⟨let ⟨p, e, a⟩ := h.at_; ⟨p, e, a.same s⟩, h.nm, h.nd, h.few⟩
/-! ### cuts -/
def apartS (a b : List Str) : Prop := ∀ x ∈ a, x ∉ b
/-- what a cut of the sides a, b keeps -/
structure CutOf (a b hs ny fy : List Str) : Prop where
  hosts : AscOf (a ++ b) hs
  sides : ∃ ya yb, AscOf a ya ∧ AscOf b yb ∧ ((hs.head? = ya.head? ∧ ny = ya ∧ fy = yb) ∨ (hs.head? ≠ ya.head? ∧ ny = yb ∧ fy = ya))
def cutF (t1 t2 t3 : Addr) : List (Str × V) := [("hosts", .ref t1), ("near", .ref t2), ("far", .ref t3)]
def IsCut (K : PySem.W.Frag) (H : Hp) (p : Addr) (hs ny fy : List Str) : Prop := ∃ dx t1 t2 t3, H p = some (.ins (He.ga K "Cut") dx (cutF t1 t2 t3)) ∧ H t1 = some (.tup (hs.map V.str)) ∧ H t2 = some (.tup (ny.map V.str)) ∧ H t3 = some (.tup (fy.map V.str))
/-- the part of a refused cut that is told -/
def cutBad (part : Str) (du dv : Option (List Str)) : Prop := (part = "one" ∧ sideD du = false) ∨ (part = "other" ∧ sideD du = true ∧ (sideD dv = false ∨ ∃ a b, du = some a ∧ dv = some b ∧ ¬ apartS a b))
def spCut (K : PySem.W.Frag) : Sp := fun vs H Q E => ∃ (p dx : Addr) (u v : V) (du dv : Option (List Str)), vs = [.ref p, u, v] ∧ H p = some (.ins (He.ga K "Cut") dx []) ∧ RowD K H u du ∧ RowD K H v dv ∧
  (∀ part d H', cutBad part du dv → But p H H' → H d = none → H' d = some (.xd [("part", .str part)]) → E (.ref (He.ga K "BadCut")) (some d) H') ∧
  ∀ a b hs ny fy H', du = some a → dv = some b → 2 ≤ a.length → 2 ≤ b.length → apartS a b → CutOf a b hs ny fy → But p H H' → IsCut K H' p hs ny fy → Q .non H'
theorem RowS.but {H H' : Hp} {v : V} {ns : List Str} {p C dx : Addr} {fs : List (Str × V)} (s : But p H H') (hp : H p = some (.ins C dx fs)) (h : RowS H v ns) : RowS H' v ns := by
  obtain ⟨⟨q, e, a⟩, h2, h3, h4⟩ := h
  refine ⟨⟨q, e, ?_⟩, h2, h3, h4⟩
  rcases a with a | a
  · exact .inl (s _ _ (ne_of a hp nofun) a)
  · exact .inr (s _ _ (ne_of a hp nofun) a)
theorem apart_len {a b hs : List Str} (h : AscOf (a ++ b) hs) (da : a.Nodup) (db : b.Nodup) : apartS a b ↔ hs.length = a.length + b.length := by
  constructor
  · intro ap
    rw [h.len (List.nodup_append.mpr ⟨da, db, fun x hx y hy e => ap x hx (e ▸ hy)⟩), List.length_append]
  · intro e
    have d := (perm_full hs (a ++ b) h.2.1 (fun x hx => (h.2.2 x).mp hx) (by rw [List.length_append]; omega)).nodup_iff.mp h.2.1
    exact fun x hx hy => (List.nodup_append.mp d).2.2 x hx x hy rfl
theorem eqv_strs : ∀ a b : List Str, PyData.eqvAll (a.map PyData.str) (b.map PyData.str) = decide (a = b)
  | [], [] => by simp [PyData.eqvAll]
  | [], _ :: _ => by simp [PyData.eqvAll]
  | _ :: _, [] => by simp [PyData.eqvAll]
  | x :: r, y :: q => by
    simp only [List.map_cons, PyData.eqvAll, eqv_strs r q, PyData.eqv]
    by_cases h : x = y
    · by_cases k : r = q
      · simp [h, k]
      · simp [h, k]
    · simp [h]
theorem eqv_tup (a b : List Str) : PyData.eqv (.tuple (a.map PyData.str)) (.tuple (b.map PyData.str)) = decide (a = b) := by
  rw [← eqv_strs]
  simp [PyData.eqv]
theorem shaped_tup {xs : List Str} (h : ∀ x ∈ xs, PyData.strOk x = true) : SeqAt.shaped (.tuple (xs.map PyData.str)) = true := by
  unfold SeqAt.shaped
  simp [PyData.canLay0, lay_strs xs h, PyData.depth, deep_strs]
theorem tup_dp {K : PySem.W.Frag} {H : Hp} {t : Addr} {ns : List Str} (h : H t = some (.tup (ns.map V.str))) : Dp K H (.ref t) (.tuple (ns.map PyData.str)) := .tup (SqT.of h) (dp_strs ns)
/-- a cut whose sides are names -/
structure CutAt (K : PySem.W.Frag) (H : Hp) (p : Addr) (hs ny fy : List Str) : Prop where
  c : IsCut K H p hs ny fy
  h : ∀ n ∈ hs, IsNm n
  n : ∀ n ∈ ny, IsNm n
  f : ∀ n ∈ fy, IsNm n
theorem IsCut.same {K : PySem.W.Frag} {H H' : Hp} {p : Addr} {hs ny fy : List Str} (s : Same H H') (h : IsCut K H p hs ny fy) : IsCut K H' p hs ny fy := let ⟨dx, t1, t2, t3, a, b, c, d⟩ := h; ⟨dx, t1, t2, t3, s _ _ a, s _ _ b, s _ _ c, s _ _ d⟩
theorem CutAt.same {K : PySem.W.Frag} {H H' : Hp} {p : Addr} {hs ny fy : List Str} (s : Same H H') (h : CutAt K H p hs ny fy) : CutAt K H' p hs ny fy := ⟨h.c.same s, h.h, h.n, h.f⟩
def spEqC (K : PySem.W.Frag) : Sp := fun vs H Q _ => ∃ (p : Addr) (y : V) (hs ny fy : List Str), vs = [.ref p, y] ∧ CutAt K H p hs ny fy ∧
  ((∃ (q : Addr) (ks my gy : List Str), y = .ref q ∧ CutAt K H q ks my gy ∧ ∀ H', Same H H' → Q (.bl (decide (ny = my) && decide (fy = gy))) H') ∨ ∃ t, t ∈ kinds ∧ TyX K H y t ∧ Q (.bl false) H)
/-- texts are told in another order -/
def spMixed (K : PySem.W.Frag) : Sp := fun vs H Q _ => ∃ (p c l : Addr) (ms : List Int) (t : Nat) (z : Int) (xs : List Str), vs = [.ref p, .ref l] ∧ Pen H p c ms t z ∧ t < 800000 ∧ SqL K H l (xs.map V.str) ∧ xs.length ≤ 100 ∧
  ∀ (ys : List Str) (f : Addr) (H' : Hp) (t' : Nat) (z' : Int), ys.Perm xs → H f = none → H' f = some (.lst (ys.map V.str)) → But p H H' → Pen H' p c ms t' z' → t' ≤ t + xs.length → Q (.ref f) H'
theorem perm_erase {α : Type} : ∀ (l : List α) (j : Nat) (h : j < l.length), l.Perm (l[j] :: l.eraseIdx j)
  | a :: r, 0, _ => .refl _
  | a :: r, j + 1, h => by
    have ih := perm_erase r j (Nat.lt_of_succ_lt_succ h)
    exact (List.Perm.cons a ih).trans (.swap _ _ _)
theorem map_erase {α β : Type} (f : α → β) : ∀ (l : List α) (j : Nat), (l.map f).eraseIdx j = (l.eraseIdx j).map f
  | [], _ => rfl
  | _ :: _, 0 => rfl
  | a :: r, j + 1 => congrArg (f a :: ·) (map_erase f r j)
end Z
namespace Z
open PySem PySem.Spec PyProof.Rows L2
/-! ### the two sides that a law draws -/
theorem cut_take (ns : List Str) (n : Nat) (h : n ≤ ns.length) : cutV (ns.map V.str) none (some (n : Int)) = (ns.take n).map V.str := by
  have e : HT.sIx (ns.map V.str).length (ns.map V.str).length (some (n : Int)) = n := by
    unfold HT.sIx
    simp only [List.length_map]
    split <;> omega
  unfold cutV
  rw [e]
  simp [HT.sIx, List.map_take]
theorem cut_drop (ns : List Str) (n : Nat) (h : n ≤ ns.length) : cutV (ns.map V.str) (some (n : Int)) none = (ns.drop n).map V.str := by
  have e : HT.sIx (ns.map V.str).length 0 (some (n : Int)) = n := by
    unfold HT.sIx
    simp only [List.length_map]
    split <;> omega
  unfold cutV
  rw [e]
  have e2 : HT.sIx (ns.map V.str).length (ns.map V.str).length none - n = (ns.drop n).length := by
    simp [HT.sIx]
  rw [e2, ← List.map_drop]
  exact List.take_of_length_le (by simp)
def L12 : List Str := ["a", "b", "c", "d", "e", "f", "h", "ab", "zz", "m", "switch", "abcdefgh"]
structure Sides (xs ys : List Str) : Prop where
  sub : ∀ n ∈ xs ++ ys, n ∈ L12
  nd : (xs ++ ys).Nodup
  lx : 2 ≤ xs.length
  ly : 2 ≤ ys.length
  few : xs.length + ys.length ≤ 8
theorem L12_nm : ∀ n ∈ L12, IsNm n := by
  have h : (L12.all nmB) = true := by decide +kernel
  exact fun n hn => nmB_iff.mp (List.all_eq_true.mp h n hn)
theorem Sides.nm {xs ys : List Str} (h : Sides xs ys) : ∀ n ∈ xs ++ ys, IsNm n := fun n hn => L12_nm n (h.sub n hn)
def spSides (K : PySem.W.Frag) : Sp := fun vs H Q _ => ∃ (p c : Addr) (ms : List Int) (t : Nat) (z : Int), vs = [.ref p] ∧ Pen H p c ms t z ∧ t < 700000 ∧
  ∀ (xs ys : List Str) (f a b : Addr) (H' : Hp) (t' : Nat) (z' : Int), Sides xs ys → a ≠ b → a ≠ p → b ≠ p → H' f = some (.tup [.ref a, .ref b]) → H' a = some (.lst (xs.map V.str)) → H' b = some (.lst (ys.map V.str)) → But p H H' → Pen H' p c ms t' z' → t' ≤ t + 20 → Q (.ref f) H'
/-- names are told in their order -/
def spUp (K : PySem.W.Frag) : Sp := fun vs H Q _ => ∃ (p : Addr) (xs : List Str), vs = [.ref p] ∧ SqL K H p (xs.map V.str) ∧ xs.length ≤ 50 ∧ (∀ x ∈ xs, IsNm x) ∧ xs.Nodup ∧
  ∀ ys t H', AscOf xs ys → Same H H' → H t = none → H' t = some (.tup (ys.map V.str)) → Q (.ref t) H'
/-- the two sides of a cut, the near one first -/
def Turned (xs ys ny fy : List Str) : Prop := ∃ ya yb, AscOf xs ya ∧ AscOf ys yb ∧ ∃ y0 z0, ya.head? = some y0 ∧ yb.head? = some z0 ∧ ((ltCps y0.cps.toList z0.cps.toList = true ∧ ny = ya ∧ fy = yb) ∨ (ltCps y0.cps.toList z0.cps.toList = false ∧ ny = yb ∧ fy = ya))
def TwoT (H : Hp) (f : Addr) (ny fy : List Str) : Prop := ∃ t1 t2, H f = some (.tup [.ref t1, .ref t2]) ∧ H t1 = some (.tup (ny.map V.str)) ∧ H t2 = some (.tup (fy.map V.str))
theorem TwoT.same {H H' : Hp} {f : Addr} {ny fy : List Str} (s : Same H H') (h : TwoT H f ny fy) : TwoT H' f ny fy := let ⟨a, b, x, y, z⟩ := h; ⟨a, b, s _ _ x, s _ _ y, s _ _ z⟩
def spTurned (K : PySem.W.Frag) : Sp := fun vs H Q _ => ∃ (p q : Addr) (xs ys : List Str), vs = [.ref p, .ref q] ∧ SqL K H p (xs.map V.str) ∧ SqL K H q (ys.map V.str) ∧ xs.length ≤ 50 ∧ ys.length ≤ 50 ∧ xs ≠ [] ∧ ys ≠ [] ∧ (∀ x ∈ xs ++ ys, IsNm x) ∧ xs.Nodup ∧ ys.Nodup ∧
  ∀ ny fy f H', Turned xs ys ny fy → Same H H' → H f = none → TwoT H' f ny fy → Q (.ref f) H'
theorem AscOf.ne {xs ys : List Str} (h : AscOf xs ys) (n : xs ≠ []) : ∃ y r, ys = y :: r := by
  cases ys with
  | nil =>
    cases xs with
    | nil => exact absurd rfl n
    | cons a r => exact absurd ((h.2.2 a).mpr (.head _)) nofun
  | cons y r => exact ⟨y, r, rfl⟩
/-- the first of the sorted: nothing is less -/
theorem AscOf.min {xs ys : List Str} {y : Str} {r : List Str} (h : AscOf xs (y :: r)) (e : ys = y :: r) : y ∈ xs ∧ ∀ x ∈ xs, leS y x := by
  refine ⟨(h.2.2 y).mp (.head _), fun x hx => ?_⟩
  obtain ⟨a1, _⟩ := List.pairwise_cons.mp (sorted_pair h.1)
  rcases List.mem_cons.mp ((h.2.2 x).mpr hx) with k | k
  · rw [k]
    exact leS_iff.mpr (List.le_refl _)
  · exact a1 x k
theorem leS_of_lt {a b : Str} (h : ltCps a.cps.toList b.cps.toList = true) : leS a b := by
  rw [ltCps_eq, decide_eq_true_eq] at h
  exact leS_iff.mpr (List.not_lt.mp (List.lt_asymm h))
theorem cut_turned {a b hs ny fy my gy : List Str} (h : CutOf a b hs ny fy) (t : Turned a b my gy) (na : a ≠ []) (nb : b ≠ []) (ap : apartS a b) : ny = my ∧ fy = gy := by
  obtain ⟨ah, ya, yb, aa, ab, side⟩ := h
  obtain ⟨za, zb, ca, cb, y0, z0, e1, e2, tn⟩ := t
  obtain rfl := aa.unique ca
  obtain rfl := ab.unique cb
  obtain ⟨y, yr, rfl⟩ := aa.ne na
  obtain ⟨z, zr, rfl⟩ := ab.ne nb
  obtain ⟨g, gr, rfl⟩ := ah.ne (by simp [na])
  obtain rfl : y = y0 := by simpa using e1
  obtain rfl : z = z0 := by simpa using e2
  obtain ⟨my, ly⟩ := aa.min rfl
  obtain ⟨mz, lz⟩ := ab.min rfl
  obtain ⟨mg, lg⟩ := ah.min rfl
  have hyz : y ≠ z := fun q => ap y my (by rw [q]; exact mz)
  rcases tn with ⟨lt, rfl, rfl⟩ | ⟨lt, rfl, rfl⟩
  · have e : g = y := by
      refine leS_anti (lg y (List.mem_append_left _ my)) ?_
      rcases List.mem_append.mp mg with k | k
      · exact ly g k
      · exact leS_trans (leS_of_lt lt) (lz g k)
    rcases side with ⟨_, rfl, rfl⟩ | ⟨n, _, _⟩
    · exact ⟨rfl, rfl⟩
    · exact absurd (by rw [e]; rfl) n
  · have e : g = z := by
      refine leS_anti (lg z (List.mem_append_right _ mz)) ?_
      rcases List.mem_append.mp mg with k | k
      · exact leS_trans (show leS z y from lt) (ly g k)
      · exact lz g k
    rcases side with ⟨n, _, _⟩ | ⟨_, rfl, rfl⟩
    · have n : g = y := by simpa using n
      exact absurd (n.symm.trans e) hyz
    · exact ⟨rfl, rfl⟩
def spToldC (K : PySem.W.Frag) : Sp := fun vs H Q _ => ∃ (p : Addr) (hs ny fy : List Str), vs = [.ref p] ∧ IsCut K H p hs ny fy ∧
  ∀ f tn tf th H', Same H H' → H f = none → H' f = some (.tup [.ref tn, .ref tf, .ref th]) → H' tn = some (.tup (ny.map V.str)) → H' tf = some (.tup (fy.map V.str)) → H' th = some (.tup (hs.map V.str)) → Q (.ref f) H'
/-- two rows of names that are the sides of a cut -/
structure Cuts (xs ys : List Str) : Prop where
  nm : ∀ n ∈ xs ++ ys, IsNm n
  nd : (xs ++ ys).Nodup
  lx : 2 ≤ xs.length
  ly : 2 ≤ ys.length
  few : xs.length + ys.length ≤ 16
theorem Sides.cuts {xs ys : List Str} (h : Sides xs ys) : Cuts xs ys := ⟨h.nm, h.nd, h.lx, h.ly, by have := h.few; omega⟩
theorem Cuts.apart {xs ys : List Str} (h : Cuts xs ys) : apartS xs ys := fun x hx hy => (List.nodup_append.mp h.nd).2.2 x hx x hy rfl
theorem Cuts.of_perm {xs ys us ws : List Str} (h : Cuts xs ys) (p : (us ++ ws).Perm (xs ++ ys)) (a : 2 ≤ us.length) (b : 2 ≤ ws.length) : Cuts us ws :=
  ⟨fun n hn => h.nm n (p.mem_iff.mp hn), p.nodup_iff.mpr h.nd, a, b, by have := p.length_eq; have := h.few; simp only [List.length_append] at *; omega⟩
theorem Cuts.sub {xs ys us ws : List Str} (h : Cuts xs ys) (p : (us ++ ws).Sublist (xs ++ ys)) (a : 2 ≤ us.length) (b : 2 ≤ ws.length) : Cuts us ws :=
  ⟨fun n hn => h.nm n (p.subset hn), p.nodup h.nd, a, b, by have := p.length_le; have := h.few; simp only [List.length_append] at *; omega⟩
theorem near0 {xs ys : List Str} (h : Sides xs ys) (j : Nat) (hj : j < xs.length) (l : 2 < xs.length) : Cuts (xs.eraseIdx j) (ys ++ [xs[j]]) := by
  have pe := perm_erase xs j hj
  refine h.cuts.of_perm ?_ (by rw [List.length_eraseIdx, if_pos hj]; omega) (by have := h.ly; rw [List.length_append]; simp; omega)
  · refine .trans ?_ (List.Perm.append_right ys pe.symm)
    rw [← List.append_assoc]
    refine .trans List.perm_append_comm ?_
    exact .refl _
theorem near1 {xs ys : List Str} (h : Sides xs ys) (j : Nat) (hj : j < ys.length) (l : 2 < ys.length) : Cuts xs (ys.eraseIdx j) :=
  h.cuts.sub ((List.Sublist.refl _).append (List.eraseIdx_sublist ..)) h.lx (by rw [List.length_eraseIdx, if_pos hj]; omega)
theorem near2 {xs ys : List Str} (h : Sides xs ys) : Cuts (xs.drop 1 ++ [Str.ofString "other"]) ys := by
  have hl := h.lx
  have sub : (xs.drop 1 ++ ys).Sublist (xs ++ ys) := (List.drop_sublist 1 xs).append (.refl _)
  have c := h.cuts
  have no : ("other" : Str) ∉ xs.drop 1 ++ ys := fun q => absurd (h.sub _ (sub.subset q)) (by decide +kernel)
  have pe : (xs.drop 1 ++ [Str.ofString "other"] ++ ys).Perm (Str.ofString "other" :: (xs.drop 1 ++ ys)) := by
    rw [List.append_assoc]
    exact List.perm_middle
  refine ⟨fun n hn => ?_, pe.nodup_iff.mpr (List.nodup_cons.mpr ⟨no, sub.nodup h.nd⟩), by rw [List.length_append, List.length_drop]; simp; omega, h.ly, by have := h.few; rw [List.length_append, List.length_drop]; simp; omega⟩
  rcases List.mem_cons.mp (pe.mem_iff.mp hn) with rfl | k
  · exact nmB_iff.mp (by decide +kernel)
  · exact h.nm n (sub.subset k)
theorem near3 {xs ys : List Str} (h : Sides xs ys) : Cuts (ys.take 1 ++ xs.drop 1) (xs.take 1 ++ ys.drop 1) := by
  have c := h.cuts
  obtain ⟨x, xr, rfl⟩ : ∃ x xr, xs = x :: xr := by
    cases xs with
    | nil => exact absurd h.lx (by simp)
    | cons a r => exact ⟨_, _, rfl⟩
  obtain ⟨y, yr, rfl⟩ : ∃ y yr, ys = y :: yr := by
    cases ys with
    | nil => exact absurd h.ly (by simp)
    | cons a r => exact ⟨_, _, rfl⟩
  refine c.of_perm ?_ h.lx h.ly
  show (y :: (xr ++ (x :: yr))).Perm (x :: (xr ++ (y :: yr)))
  refine .trans (List.Perm.cons y List.perm_middle) (.trans (.swap ..) (List.Perm.cons x List.perm_middle.symm))
/-! ### what a class is under -/
def isB (a b : Str) (K : PySem.W.Frag) : Bool := decide (PySem.W.kitOne K (.ref (He.ga K a)) (.ref (He.ga K b)) = some true)
def isT (a : Str) (t : String) (K : PySem.W.Frag) : Bool := decide (PySem.W.kitOne K (.ref (He.ga K a)) (.type t) = some true)
/-! ### return [ask()] within a try -/
def tAskR (n : Nat) (f c' : Addr) (q : Str) (tl : XK → Hp → VK → Prop) (W : WX) : TS := fun D σ H => ∃ (E : XK) (Q0 : VK), (∀ cls d σ' H', E cls d H' → σ'.length = n → W cls d σ' H') ∧ σ[0]? = some (some (.ref f)) ∧ H c' = some (LamX.CodeO c' q) ∧ tl E H Q0 ∧ ∀ v H1, Q0 v H1 → ∀ l, H1 l = none → D.rt (.ref l) (upd H1 l (.lst [v]))
theorem ps_askR {Z : Cx} {W : WX} {n : Nat} {f c' : Addr} {q a : Str} {tl : XK → Hp → VK → Prop} {p1 p2 p3 p4 : Pos} (hn : Z.N.length = n)
    (act : ∀ E : XK, (∀ cls d σ' H', E cls d H' → σ'.length = Z.N.length → W cls d σ' H') → PE Z (.Call (.Name a p1) [] [] p2) (fun σZ HZ Q => σZ[0]? = some (some (.ref f)) ∧ HZ c' = some (LamX.CodeO c' q) ∧ tl E HZ Q)) :
    PSs Z [.Return (some (.List [.Call (.Name a p1) [] [] p2] p3)) p4] (tAskR n f c' q tl W) := by
  constructor
  rintro pins s σ H D I ⟨E, Q0, hW, h1, h2, h3, h4⟩
  exact (pss_one (ps_ret (pe_lst (pa_cons (pe_up (act E (fun cls d σ' H' e l => hW cls d σ' H' e (l.trans hn)))) pa_nil)))).run pins s σ H D I ⟨Q0, ⟨h1, h2, h3⟩, fun v H1 q => ⟨by show 1 ≤ sizeLine; decide, fun l hl => h4 v H1 q l hl⟩⟩
/-- what a law's _law_heard makes of a call that always raises x, whose only value is its field f: the word w with it -/
def TTword (K : PySem.W.Frag) (x f w : Str) : (XK → Hp → VK → Prop) → Hp → VK → Prop := fun tl H Q => ∀ H1, Same H H1 → ∃ (E : XK) (Q0 : VK), tl E H1 Q0 ∧
  (∀ cls d H', E cls d H' → cls = .ref (He.ga K x) ∧ ∃ (dd : Addr) (v : V), d = some dd ∧ H' dd = some (.xd [(f, v)]) ∧ ∀ t H'', Same H' H'' → H' t = none → H'' t = some (.tup [.str w, v]) → Q (.ref t) H'') ∧ ∀ v H', Q0 v H' → ∀ l, H' l = none → Q (.ref l) (upd H' l (.lst [v]))
/-- arguments by keywords, told the other way about -/
theorem FunD.kbindsR {K : PySem.W.Frag} {x qual : Str} {params : Arguments} {body : List Stmt} {scope : Scope} {kws : List (Str × V)} {f : Addr} {fd : FuncData} {ps : List Str} (F : FunD K x qual params body scope [] kws f fd) (n : Nat) (ks : List Str)
    (h : ∀ (kV doc pm : Value) (an : Option Addr) (cdv ct : Value) (us ws : List Value), us.length = n → ws.length = ks.length → bindArgs (PySem.W.fnOf x qual params body scope .none kV doc pm an cdv ct) ⟨us, ks.zip ws⟩ = pure (ps.zip (us ++ ws.reverse))) : KBn K fd ps n ks (fun us ws => us ++ ws.reverse) (fun us ws => us ++ ws.reverse) := by
  obtain ⟨oc, od, dV, kV, doc, pm, an, cdv, ct, osl, rfl, lk, hcd, hD, hK⟩ := F.ex
  rcases hD with ⟨_, rfl⟩ | ⟨e, _⟩
  · exact ⟨fun s us ws X l1 l2 => .of_eq (h kV doc pm an cdv ct us ws l1 l2), fun r1 r2 => r1.append r2.reverse⟩
  · exact absurd rfl e
theorem RowA.ext {H H' : Hp} {p : Addr} {xs : List V} (s : LamX.ExtN H H') (h : RowA H p xs) : RowA H' p xs := h.imp (fun h => s _ _ h nofun) (fun h => s _ _ h nofun)
theorem RowD.ext {K : PySem.W.Frag} {H H' : Hp} {v : V} {d : Option (List Str)} (s : LamX.ExtN H H') (h : RowD K H v d) : RowD K H' v d := by
  rcases h with ⟨p, xs, e, a, l, k, ed⟩ | ⟨e, t, ty, kt⟩
  · exact .inl ⟨p, xs, e, a.ext s, l, fun x hx => (k x hx).ext s, ed⟩
  · exact .inr ⟨e, t, tyX_ext s ty, kt⟩
theorem cutBad_uniq {p q : Str} {du dv : Option (List Str)} (h : cutBad p du dv) (k : cutBad q du dv) : p = q := by
  rcases h with ⟨rfl, h⟩ | ⟨rfl, h, _⟩ <;> rcases k with ⟨rfl, k⟩ | ⟨rfl, k, _⟩
  · rfl
  · rw [h] at k; cases k
  · rw [h] at k; cases k
  · rfl
/-- _law_heard(lambda: Cut(..)), refused -/
theorem heard_badC {K : PySem.W.Frag} {T : List (Addr × Str)} {t : XK → TE} {σ : L2.St} {H : Hp} {Q : VK} {u v : V} {du dv : Option (List Str)} (part : Str) (hT : LamX.Tabs T H)
    (rd : ∀ E H2, (∀ x dx, H2 x = none → H2 dx = none → dx ≠ x → spCut K [.ref x, u, v] (upd (upd H2 dx (.own x)) x (.ins (He.ga K "Cut") dx [])) (fun v _ => v = .non ∧ False) E) → t E σ H2 (fun _ _ => False))
    (ku : RowD K H u du) (kv : RowD K H v dv) (bad : cutBad part du dv) (k : ∀ f H', LamX.ExtN H H' → LamX.Tabs T H' → H' f = some (.tup [.str "cut", .str part]) → Q (.ref f) H') :
    LamX.tLam T (TTword K "BadCut" "part" "cut") t σ H Q := by
  refine ⟨hT, fun H1 eN T1 H2 s2 => ⟨fun cls d H' => cls = .ref (He.ga K "BadCut") ∧ ∃ dd, d = some dd ∧ H' dd = some (.xd [("part", .str part)]) ∧ Same H2 H', fun _ _ => False, ?_, ?_, fun _ _ z => z.elim⟩⟩
  · have e2 : LamX.ExtN H H2 := eN.trans (extS s2)
    refine rd _ H2 fun x dx hx hdx ne => ?_
    have s3 : Same H2 (upd (upd H2 dx (.own x)) x (.ins (He.ga K "Cut") dx [])) := (same_new hdx).trans (same_new (by rw [upd_ne ne.symm]; exact hx))
    refine ⟨x, dx, u, v, du, dv, rfl, upd_same, (ku.ext e2).same s3, (kv.ext e2).same s3, fun pt d H' b bt n e => ?_, fun a b hs ny fy H' ea eb la lb ap _ _ _ => ?_⟩
    · obtain rfl := cutBad_uniq b bad
      exact ⟨rfl, d, rfl, e, fun c o h => bt c o (ne_of_none h hx) (s3 c o h)⟩
    · subst ea
      subst eb
      rcases bad with ⟨_, z⟩ | ⟨_, _, z | ⟨a', b', e1, e2, z⟩⟩
      · exact absurd (z.symm.trans (decide_eq_true la)) nofun
      · exact absurd (z.symm.trans (decide_eq_true lb)) nofun
      · cases e1
        cases e2
        exact (z ap).elim
  · rintro cls d H' ⟨rfl, dd, rfl, hdd, sm⟩
    exact ⟨rfl, dd, _, rfl, hdd, fun f H'' s _ ef => k f H'' (((eN.trans (extS s2)).trans (extS sm)).trans (extS s)) (((T1.ext s2).ext sm).ext s) ef⟩
theorem RowS.data {K : PySem.W.Frag} {H : Hp} {v : V} {ns : List Str} (h : RowS H v ns) : RowD K H v (some ns) := by
  obtain ⟨p, rfl, a⟩ := h.at_
  exact .inl ⟨p, _, rfl, a, by rw [List.length_map]; exact h.few, fun x hx => by
    obtain ⟨n, hn, rfl⟩ := List.mem_map.mp hx
    exact .str (h.nm n hn), (rowN_of h.nm h.nd).symm⟩
/-- a cut of two sides is made -/
theorem cut_new {K : PySem.W.Frag} {H : Hp} {u v : V} {a b : List Str} {Q : Addr → Hp → Prop} {E : XK} (ru : RowS H u a) (rv : RowS H v b) (la : 2 ≤ a.length) (lb : 2 ≤ b.length) (ap : apartS a b) (k : ∀ p hs ny fy H', Same H H' → H p = none → CutOf a b hs ny fy → IsCut K H' p hs ny fy → Q p H') :
    ∀ x dx, H x = none → H dx = none → dx ≠ x → spCut K [.ref x, u, v] (upd (upd H dx (.own x)) x (.ins (He.ga K "Cut") dx [])) (fun v H2 => v = .non ∧ Q x H2) E := by
  intro x dx hx hdx ne
  have s3 : Same H (upd (upd H dx (.own x)) x (.ins (He.ga K "Cut") dx [])) := (same_new hdx).trans (same_new (by rw [upd_ne ne.symm]; exact hx))
  refine ⟨x, dx, u, v, some a, some b, rfl, upd_same, ru.data.same s3, rv.data.same s3, fun pt d H' bad _ _ _ => ?_, fun a' b' hs ny fy H' ea eb _ _ _ co bt ic => ?_⟩
  · rcases bad with ⟨_, z⟩ | ⟨_, _, z | ⟨a', b', e1, e2, z⟩⟩
    · exact absurd (z.symm.trans (decide_eq_true la)) nofun
    · exact absurd (z.symm.trans (decide_eq_true lb)) nofun
    · cases e1
      cases e2
      exact (z ap).elim
  · cases ea
    cases eb
    exact ⟨rfl, k x hs ny fy H' (fun c o h => bt c o (ne_of_none h hx) (s3 c o h)) hx co ic⟩
/-- three rows of names, as data -/
def trioD (a b c : List Str) : PyData := .tuple [.tuple (a.map .str), .tuple (b.map .str), .tuple (c.map .str)]
theorem show_strs : ∀ xs : List Str, PyData.showableAll (xs.map PyData.str) = true
  | [] => by simp [PyData.showableAll]
  | _ :: r => by simp [PyData.showableAll, PyData.showable, show_strs r]
theorem dict_strs : ∀ xs : List Str, PyData.hasDictAll (xs.map PyData.str) = false
  | [] => by simp [PyData.hasDictAll]
  | _ :: r => by simp [PyData.hasDictAll, PyData.hasDict, dict_strs r]
theorem ints_strs : ∀ xs : List Str, PyData.intsShortAll 13 (xs.map PyData.str) = true
  | [] => by simp [PyData.intsShortAll]
  | _ :: r => by simp [PyData.intsShortAll, PyData.intsShort, ints_strs r]
theorem weight_strs : ∀ xs : List Str, (∀ x ∈ xs, x.length ≤ 8) → PyData.weightAll (xs.map PyData.str) ≤ 9 * xs.length
  | [], _ => by simp [PyData.weightAll]
  | x :: r, h => by
    have h1 := weight_strs r fun y hy => h y (List.mem_cons_of_mem _ hy)
    have h2 : x.cps.size ≤ 8 := h x (List.mem_cons_self ..)
    simp only [List.map_cons, PyData.weightAll, PyData.weight, List.length_cons]
    omega
theorem trio_ok {a b c : List Str} (ha : ∀ n ∈ a, IsNm n) (hb : ∀ n ∈ b, IsNm n) (hc : ∀ n ∈ c, IsNm n) (la : a.length ≤ 100) (lb : b.length ≤ 100) (lc : c.length ≤ 100) : (trioD a b c).showable = true ∧ (trioD a b c).hasDict = false ∧ (trioD a b c).depth ≤ 64 ∧ (trioD a b c).shown.length ≤ sizeLine := by
  have dp : (trioD a b c).depth ≤ 64 := by simp [trioD, PyData.depth, PyData.depthAll, deep_strs]
  refine ⟨by simp [trioD, PyData.showable, PyData.showableAll, show_strs], by simp [trioD, PyData.hasDict, PyData.hasDictAll, dict_strs], dp, shown_fit ?_ ?_⟩
  · unfold PyData.layable0
    rw [Bool.and_eq_true, Bool.and_eq_true]
    refine ⟨⟨?_, decide_eq_true dp⟩, decide_eq_true ?_⟩
    · simp [trioD, PyData.canLay0, PyData.canLayAll0, lay_strs a fun n h => (ha n h).ok, lay_strs b fun n h => (hb n h).ok, lay_strs c fun n h => (hc n h).ok]
    · have h1 := weight_strs a fun n h => (ha n h).hi
      have h2 := weight_strs b fun n h => (hb n h).hi
      have h3 := weight_strs c fun n h => (hc n h).hi
      simp only [trioD, PyData.weight, PyData.weightAll]
      omega
  · simp [trioD, PyData.intsShort, PyData.intsShortAll, ints_strs]
theorem trio_dp {K : PySem.W.Frag} {H : Hp} {t x y z : Addr} {a b c : List Str} (h : H t = some (.tup [.ref x, .ref y, .ref z])) (h1 : H x = some (.tup (a.map V.str))) (h2 : H y = some (.tup (b.map V.str))) (h3 : H z = some (.tup (c.map V.str))) : Dp K H (.ref t) (trioD a b c) :=
  .tup (SqT.of h) (.cons (tup_dp h1) (.cons (tup_dp h2) (.cons (tup_dp h3) .nil)))
theorem turned_ok {xs ys ny fy : List Str} (t : Turned xs ys ny fy) (nm : ∀ n ∈ xs ++ ys, IsNm n) : (∀ n ∈ ny, IsNm n) ∧ (∀ n ∈ fy, IsNm n) ∧ ny.length ≤ xs.length + ys.length ∧ fy.length ≤ xs.length + ys.length := by
  obtain ⟨ya, yb, aa, ab, _, _, _, _, h⟩ := t
  have na : ∀ n ∈ ya, IsNm n := fun n hn => nm n (List.mem_append_left _ ((aa.2.2 n).mp hn))
  have nb : ∀ n ∈ yb, IsNm n := fun n hn => nm n (List.mem_append_right _ ((ab.2.2 n).mp hn))
  have la := aa.le
  have lb := ab.le
  rcases h with ⟨_, rfl, rfl⟩ | ⟨_, rfl, rfl⟩
  · exact ⟨na, nb, by omega, by omega⟩
  · exact ⟨nb, na, by omega, by omega⟩
end Z
namespace Z
open PySem PySem.Spec PyProof.Rows L2
theorem eqv_lst (a b : List Str) : PyData.eqv (.list (a.map PyData.str)) (.list (b.map PyData.str)) = decide (a = b) := by
  rw [← eqv_strs]
  simp [PyData.eqv]
/-- a comprehension that leaves all out, told by steps -/
theorem lc_no {J : It} {n : Nat} {G : Hp → Prop} {Y : Nat → Hp → V → Hp → Prop} (w : Walk J n G Y) {g : TG} {tt : TT} {te : TE} {vs : List Nat} {σ : L2.St} {H1 : Hp} {D : Addr} {Qd : Hp → Prop} (xs : List V)
    (hn : n = xs.length) (hY : ∀ i H x H', i < n → Y i H x H' → H' = H ∧ xs[i]? = some x) (hD : H1 D = none) (hG : ∀ H', Same H1 H' → G H')
    (hs : ∀ x ∈ xs, ∀ H', Same H1 H' → ∀ (Kt : V → Hp → Prop) (Kf : Hp → Prop), (∀ H'', Same H' H'' → Kf H'') →
      g x (wipe σ vs) H' fun σ2 H2 => wipe σ2 vs = wipe σ vs ∧ tt σ2 H2 fun b H3 => if b = true then te σ2 H3 Kt else Kf H3)
    (hd : ∀ H', Same H1 H' → H' D = some (.lst []) → Qd H') :
    ∃ W : Nat → Nat → Hp → Prop, (∃ m, W 0 m (upd H1 D (.lst []))) ∧ ∀ i m H, W i m H →
      (J.stop i H ∧ Qd H) ∨ (J.go i H ∧ ∃ Nx : Hp → Prop, (∀ H', Nx H' → ∃ m', m' < m ∧ W (i + 1) m' H') ∧ ∀ x H', J.yld i H x H' → g x (wipe σ vs) H' fun σ2 H2 => wipe σ2 vs = wipe σ vs ∧ tt σ2 H2 fun b H3 =>
        if b = true then te σ2 H3 fun y H4 => ∃ acc, H4 D = some (.lst acc) ∧ acc.length < sizeLine ∧ Nx (upd H4 D (.lst (acc ++ [y]))) else Nx H3) :=
  lc_none w xs hn hY hD hG hs fun H' s => hd H' ((same_new hD).trans s) (s _ _ upd_same)
theorem turned_n {K : PySem.W.Frag} {H : Hp} {p q : Addr} {xs ys : List Str} {Q : VK} {E : XK} (hp : SqL K H p (xs.map V.str)) (hq : SqL K H q (ys.map V.str)) (cu : Cuts xs ys)
    (k : ∀ ny fy f H', Turned xs ys ny fy → Same H H' → H f = none → TwoT H' f ny fy → (∀ n ∈ ny, IsNm n) → (∀ n ∈ fy, IsNm n) → Q (.ref f) H') : spTurned K [.ref p, .ref q] H Q E := by
  have l := cu.few
  have lx := cu.lx
  have ly := cu.ly
  obtain ⟨ndx, ndy, _⟩ := List.nodup_append.mp cu.nd
  exact ⟨p, q, xs, ys, rfl, hp, hq, by omega, by omega, by rintro rfl; simp at lx, by rintro rfl; simp at ly, cu.nm, ndx, ndy, fun ny fy f H' t s n w => k ny fy f H' t s n w (turned_ok t cu.nm).1 (turned_ok t cu.nm).2.1⟩
/-- a cut whose rows are known ahead -/
theorem cut_newT {K : PySem.W.Frag} {H : Hp} {u v : V} {a b ny fy : List Str} {Q : Addr → Hp → Prop} {E : XK} (hu : ∃ q, u = .ref q ∧ RowA H q (a.map V.str)) (hv : ∃ q, v = .ref q ∧ RowA H q (b.map V.str)) (cu : Cuts a b) (tn : Turned a b ny fy)
    (k : ∀ p hs H', Same H H' → H p = none → AscOf (a ++ b) hs → CutAt K H' p hs ny fy → Q p H') :
    ∀ x dx, H x = none → H dx = none → dx ≠ x → spCut K [.ref x, u, v] (upd (upd H dx (.own x)) x (.ins (He.ga K "Cut") dx [])) (fun v H2 => v = .non ∧ Q x H2) E := by
  have l := cu.few
  have lx := cu.lx
  have ly := cu.ly
  obtain ⟨nda, ndb, _⟩ := List.nodup_append.mp cu.nd
  refine cut_new ⟨hu, fun n hn => cu.nm n (List.mem_append_left _ hn), nda, by omega⟩ ⟨hv, fun n hn => cu.nm n (List.mem_append_right _ hn), ndb, by omega⟩ lx ly cu.apart fun p hs ny' fy' H' s n co ic => ?_
  obtain ⟨rfl, rfl⟩ := cut_turned co tn (by rintro rfl; simp at lx) (by rintro rfl; simp at ly) cu.apart
  obtain ⟨nmN, nmF, _, _⟩ := turned_ok tn cu.nm
  exact k p hs H' s n co.hosts ⟨ic, fun n hn => cu.nm n ((co.hosts.2.2 n).mp hn), nmN, nmF⟩
theorem shaped_two {a b : List Str} (ha : ∀ n ∈ a, IsNm n) (hb : ∀ n ∈ b, IsNm n) : SeqAt.shaped (.tuple [.tuple (a.map PyData.str), .tuple (b.map PyData.str)]) = true := by
  unfold SeqAt.shaped
  simp [PyData.canLay0, PyData.canLayAll0, lay_strs a fun x h => (ha x h).ok, lay_strs b fun x h => (hb x h).ok, PyData.depth, PyData.depthAll, deep_strs]
theorem eqv_two (a b c d : List Str) : PyData.eqv (.tuple [.tuple (a.map PyData.str), .tuple (b.map PyData.str)]) (.tuple [.tuple (c.map PyData.str), .tuple (d.map PyData.str)]) = (decide (a = c) && decide (b = d)) := by
  rw [← eqv_strs, ← eqv_strs]
  simp [PyData.eqv, PyData.eqvAll]
end Z
namespace Z
open PySem PySem.Spec PyProof.Rows L2
/-! ### a row, whether a list or a tuple -/
def rowO (t : Bool) (xs : List V) : HO := match t with
  | true => .tup xs
  | false => .lst xs
theorem rowO_seq {K : PySem.W.Frag} {H : Hp} {q : Addr} {t : Bool} {xs : List V} (h : H q = some (rowO t xs)) : SqL K H q xs ∨ SqT K H q xs := by
  cases t
  · exact .inl (SqL.of h)
  · exact .inr (SqT.of h)
theorem rowA_of {H : Hp} {q : Addr} {t : Bool} {xs : List V} (h : H q = some (rowO t xs)) : RowA H q xs := by
  cases t
  · exact .inl h
  · exact .inr h
theorem RowA.rowO {H : Hp} {q : Addr} {xs : List V} (h : RowA H q xs) : ∃ t, H q = some (rowO t xs) := by
  rcases h with h | h
  · exact ⟨false, h⟩
  · exact ⟨true, h⟩
theorem RowS.rowO {H : Hp} {q : Addr} {ns : List Str} (h : RowS H (.ref q) ns) : ∃ t, H q = some (Z.rowO t (ns.map V.str)) := by
  obtain ⟨p, e, w⟩ := h.at_
  cases e
  exact w.rowO
theorem rowO_ne {t : Bool} {xs : List V} {o : HO} (h : ∀ ys, o ≠ .lst ys) (k : ∀ ys, o ≠ .tup ys) : rowO t xs ≠ o := by
  cases t
  · exact fun q => h xs q.symm
  · exact fun q => k xs q.symm
theorem rowO_dp {K : PySem.W.Frag} {H : Hp} {q : Addr} {xs : List V} {t : Bool} (h : H q = some (Z.rowO t xs)) : RowA H q xs := rowA_of h
end Z
namespace Z
open PySem PySem.Spec PyProof.Rows L2
/-! ### partings -/
def coupleD : Option (List Str) → Bool
  | none => false
  | some ns => decide (ns.length = 2)
theorem coupleD_some (ns : List Str) : coupleD (some ns) = decide (V.int (ns.length : Int) = V.int 2) := by
  show decide (ns.length = 2) = _
  by_cases c : ns.length = 2
  · rw [decide_eq_true c, decide_eq_true (by rw [c]; rfl)]
  · rw [decide_eq_false c, decide_eq_false (fun q => c (by injection q with q; omega))]
theorem coupleD_true {d : Option (List Str)} (h : coupleD d = true) : ∃ ns, d = some ns ∧ ns.length = 2 := by
  cases d with
  | none => cases h
  | some ns => exact ⟨ns, rfl, of_decide_eq_true h⟩
def spCouple (K : PySem.W.Frag) : Sp := fun vs H Q _ => ∃ (v : V) (d : Option (List Str)), vs = [v] ∧ RowD K H v d ∧ ∀ H', Same H H' → Q (.bl (coupleD d)) H'
def partF (t1 t2 : Addr) : List (Str × V) := [("four", .ref t1), ("pairs", .ref t2)]
/-- a parting of the four hs, its pairs ny and fy -/
def IsPart (K : PySem.W.Frag) (H : Hp) (p : Addr) (hs ny fy : List Str) : Prop := ∃ dx t1 t2 t3 t4, H p = some (.ins (He.ga K "Parting") dx (partF t1 t2)) ∧ H t1 = some (.tup (hs.map V.str)) ∧ H t2 = some (.tup [.ref t3, .ref t4]) ∧ H t3 = some (.tup (ny.map V.str)) ∧ H t4 = some (.tup (fy.map V.str))
theorem IsPart.same {K : PySem.W.Frag} {H H' : Hp} {p : Addr} {hs ny fy : List Str} (s : Same H H') (h : IsPart K H p hs ny fy) : IsPart K H' p hs ny fy := let ⟨dx, t1, t2, t3, t4, a, b, c, d, e⟩ := h; ⟨dx, t1, t2, t3, t4, s _ _ a, s _ _ b, s _ _ c, s _ _ d, s _ _ e⟩
theorem IsPart.ext {K : PySem.W.Frag} {H H' : Hp} {p : Addr} {hs ny fy : List Str} (s : LamX.ExtN H H') (h : IsPart K H p hs ny fy) : IsPart K H' p hs ny fy := let ⟨dx, t1, t2, t3, t4, a, b, c, d, e⟩ := h; ⟨dx, t1, t2, t3, t4, s _ _ a nofun, s _ _ b nofun, s _ _ c nofun, s _ _ d nofun, s _ _ e nofun⟩
theorem IsCut.ext {K : PySem.W.Frag} {H H' : Hp} {p : Addr} {hs ny fy : List Str} (s : LamX.ExtN H H') (h : IsCut K H p hs ny fy) : IsCut K H' p hs ny fy := let ⟨dx, t1, t2, t3, a, b, c, d⟩ := h; ⟨dx, t1, t2, t3, s _ _ a nofun, s _ _ b nofun, s _ _ c nofun, s _ _ d nofun⟩
/-- the part of a refused parting that is told -/
def partBad (part : Str) (du dv : Option (List Str)) : Prop := (part = "one" ∧ coupleD du = false) ∨ (part = "other" ∧ coupleD du = true ∧ (coupleD dv = false ∨ ∃ a b, du = some a ∧ dv = some b ∧ ¬ apartS a b))
def spPart (K : PySem.W.Frag) : Sp := fun vs H Q E => ∃ (p dx : Addr) (u v : V) (du dv : Option (List Str)), vs = [.ref p, u, v] ∧ H p = some (.ins (He.ga K "Parting") dx []) ∧ RowD K H u du ∧ RowD K H v dv ∧
  (∀ part d H', partBad part du dv → But p H H' → H d = none → H' d = some (.xd [("part", .str part)]) → E (.ref (He.ga K "BadParting")) (some d) H') ∧
  ∀ a b hs ny fy H', du = some a → dv = some b → a.length = 2 → b.length = 2 → apartS a b → CutOf a b hs ny fy → But p H H' → IsPart K H' p hs ny fy → Q .non H'
/-- a parting of two pairs of unlike names is made, its pairs known ahead -/
structure Two (a b : List Str) : Prop where
  nm : ∀ n ∈ a ++ b, IsNm n
  nd : (a ++ b).Nodup
  la : a.length = 2
  lb : b.length = 2
theorem Two.cuts {a b : List Str} (h : Two a b) : Cuts a b := ⟨h.nm, h.nd, by rw [h.la]; decide, by rw [h.lb]; decide, by rw [h.la, h.lb]; decide⟩
/-- a parting whose pairs are names -/
structure PartAt (K : PySem.W.Frag) (H : Hp) (p : Addr) (hs ny fy : List Str) : Prop where
  c : IsPart K H p hs ny fy
  t : Two ny fy
  h : AscOf (ny ++ fy) hs
theorem PartAt.same {K : PySem.W.Frag} {H H' : Hp} {p : Addr} {hs ny fy : List Str} (s : Same H H') (h : PartAt K H p hs ny fy) : PartAt K H' p hs ny fy := ⟨h.c.same s, h.t, h.h⟩
theorem AscOf.perm_of {a y : List Str} (h : AscOf a y) (nd : a.Nodup) : y.Perm a := (List.perm_ext_iff_of_nodup h.2.1 nd).mpr h.2.2
theorem CutOf.rows {a b hs ny fy : List Str} (c : CutOf a b hs ny fy) (t : Two a b) : Two ny fy ∧ AscOf (ny ++ fy) hs ∧ ((ny.Perm a ∧ fy.Perm b) ∨ (ny.Perm b ∧ fy.Perm a)) := by
  obtain ⟨nda, ndb, _⟩ := List.nodup_append.mp t.nd
  obtain ⟨ah, ya, yb, aa, ab, side⟩ := c
  have pa := aa.perm_of nda
  have pb := ab.perm_of ndb
  have la := pa.length_eq.trans t.la
  have lb := pb.length_eq.trans t.lb
  have key : ∀ us ws : List Str, (us ++ ws).Perm (a ++ b) → us.length = 2 → ws.length = 2 → Two us ws ∧ AscOf (us ++ ws) hs := fun us ws p l1 l2 =>
    ⟨⟨fun n hn => t.nm n (p.mem_iff.mp hn), p.nodup_iff.mpr t.nd, l1, l2⟩, ah.swap fun y => p.symm.mem_iff⟩
  rcases side with ⟨_, rfl, rfl⟩ | ⟨_, rfl, rfl⟩
  · obtain ⟨k1, k2⟩ := key _ _ (pa.append pb) la lb
    exact ⟨k1, k2, .inl ⟨pa, pb⟩⟩
  · obtain ⟨k1, k2⟩ := key _ _ ((pb.append pa).trans List.perm_append_comm) lb la
    exact ⟨k1, k2, .inr ⟨pb, pa⟩⟩
theorem part_new {K : PySem.W.Frag} {H : Hp} {u v : V} {a b : List Str} {Q : Addr → Hp → Prop} {E : XK} (hu : ∃ q, u = .ref q ∧ RowA H q (a.map V.str)) (hv : ∃ q, v = .ref q ∧ RowA H q (b.map V.str)) (t : Two a b)
    (k : ∀ p hs ny fy H', Same H H' → H p = none → CutOf a b hs ny fy → PartAt K H' p hs ny fy → Q p H') :
    ∀ x dx, H x = none → H dx = none → dx ≠ x → spPart K [.ref x, u, v] (upd (upd H dx (.own x)) x (.ins (He.ga K "Parting") dx [])) (fun v H2 => v = .non ∧ Q x H2) E := by
  intro x dx hx hdx ne
  have cu := t.cuts
  have la := t.la
  have lb := t.lb
  obtain ⟨nda, ndb, _⟩ := List.nodup_append.mp t.nd
  have ru : RowS H u a := ⟨hu, fun n hn => t.nm n (List.mem_append_left _ hn), nda, by omega⟩
  have rv : RowS H v b := ⟨hv, fun n hn => t.nm n (List.mem_append_right _ hn), ndb, by omega⟩
  have s3 : Same H (upd (upd H dx (.own x)) x (.ins (He.ga K "Parting") dx [])) := (same_new hdx).trans (same_new (by rw [upd_ne ne.symm]; exact hx))
  refine ⟨x, dx, u, v, some a, some b, rfl, upd_same, ru.data.same s3, rv.data.same s3, fun pt d H' bad _ _ _ => ?_, fun a' b' hs ny fy H' ea eb _ _ _ co bt ic => ?_⟩
  · rcases bad with ⟨_, z⟩ | ⟨_, _, z | ⟨a', b', e1, e2, z⟩⟩
    · exact absurd (z.symm.trans (decide_eq_true la)) nofun
    · exact absurd (z.symm.trans (decide_eq_true lb)) nofun
    · cases e1
      cases e2
      exact (z cu.apart).elim
  · cases ea
    cases eb
    obtain ⟨r1, r2, _⟩ := co.rows t
    exact ⟨rfl, k x hs ny fy H' (fun c o h => bt c o (ne_of_none h hx) (s3 c o h)) hx co ⟨ic, r1, r2⟩⟩
end Z
namespace Z
open PySem PySem.Spec PyProof.Rows L2
/-! ### in, of rows of data -/
section
variable {X : Cx} {K : PySem.W.Frag}
theorem kpe_fld {e : Expr} {ta : TE} {f : Str} {pos : Pos} (he : PE X e ta) (hb : attributeBase e f X.env (eval e X.env) = eval e X.env) (hK : X.K = K := by rfl) : PE X (.Attribute e f pos) (tFld K ta f) := by subst hK; exact pe_fld he hb
def rInS (K : PySem.W.Frag) : R2 := fun x y H Q => ∃ (a : Str) (p : Addr) (xs : List Str), x = .str a ∧ y = .ref p ∧ (SqL K H p (xs.map V.str) ∨ SqT K H p (xs.map V.str)) ∧ Q (.bl (decide (a ∈ xs))) H
def rNotInS (K : PySem.W.Frag) : R2 := fun x y H Q => ∃ (a : Str) (p : Addr) (xs : List Str), x = .str a ∧ y = .ref p ∧ (SqL K H p (xs.map V.str) ∨ SqT K H p (xs.map V.str)) ∧ Q (.bl (!decide (a ∈ xs))) H
theorem op_inS (hK : X.K = K := by rfl) : OpR X (compareOp .In) (rInS K) := by
  subst hK
  rintro pins s σ H x y v u Q I rx ry ⟨a, p, xs, rfl, rfl, h, q⟩
  exact op_in_seq pins s σ H _ _ v u Q I rx ry ⟨p, _, rfl, h, rfl, flat_strs xs, by rw [← inV_str] at q; exact q⟩
theorem op_notInS (hK : X.K = K := by rfl) : OpR X (compareOp .NotIn) (rNotInS K) := by
  subst hK
  rintro pins s σ H x y v u Q I rx ry ⟨a, p, xs, rfl, rfl, h, q⟩
  exact op_notIn_seq pins s σ H _ _ v u Q I rx ry ⟨p, _, rfl, h, rfl, flat_strs xs, by rw [← inV_str] at q; exact q⟩
theorem room_shaped {d : PyData} {ds : List PyData} {A : Around} (sd : SeqAt.shaped d = true) (hu : A.units + 70 < cLine) : A.units + 1 + min (PyData.depthAll ds) d.depth < cLine := by
  have : d.depth ≤ 64 := by
    unfold SeqAt.shaped at sd
    simp only [Bool.and_eq_true, decide_eq_true_eq] at sd
    omega
  have := Nat.min_le_right (PyData.depthAll ds) d.depth
  omega
theorem kop_inD (hu : X.A.units + 70 < cLine) (hK : X.K = K := by rfl) : OpR X (compareOp .In) (rInD K) := by subst hK; exact op_inD (by omega)
theorem kop_notInD (hu : X.A.units + 70 < cLine) (hK : X.K = K := by rfl) : OpR X (compareOp .NotIn) (rNotInD K) := by subst hK; exact op_notInD (by omega)
def rInT (K : PySem.W.Frag) : R2 := fun x y H Q => ∃ d ds, Dp K H x d ∧ Dp K H y (.tuple ds) ∧ SeqAt.shaped d = true ∧ SeqAt.shaped (.list ds) = true ∧ Q (.bl (ds.any fun z => PyData.eqv z d)) H
theorem kop_inT (hu : X.A.units + 70 < cLine) (hK : X.K = K := by rfl) : OpR X (compareOp .In) (rInT K) := by
  subst hK
  intro pins s σ H x y v u Q I rx ry h
  obtain ⟨d, ds, hd, he, sd, se, q⟩ := h
  obtain ⟨as, r1⟩ := Dp.reads I d x v hd rx
  obtain ⟨bs, r2⟩ := Dp.reads I (.tuple ds) y u he ry
  exact SeqAt.in_tuple_reads r2 r1 (SeqAt.canLay_of_shaped (d := .list ds) se) (SeqAt.canLay_of_shaped sd) (room_shaped sd hu) ⟨.bl _, H, I, rfl, q⟩
end
theorem dp_bools {K : PySem.W.Frag} {H : Hp} : ∀ bs : List Bool, DpAll K H (bs.map V.bl) (bs.map PyData.bool)
  | [] => .nil
  | _ :: r => .cons (.bl _) (dp_bools r)
theorem eqv_bools : ∀ a b : List Bool, PyData.eqvAll (a.map PyData.bool) (b.map PyData.bool) = decide (a = b)
  | [], [] => by simp [PyData.eqvAll]
  | [], _ :: _ => by simp [PyData.eqvAll]
  | _ :: _, [] => by simp [PyData.eqvAll]
  | x :: r, y :: q => by
    simp only [List.map_cons, PyData.eqvAll, eqv_bools r q, PyData.eqv]
    cases x <;> cases y <;> simp
theorem lay_bools : ∀ bs : List Bool, PyData.canLayAll0 (bs.map PyData.bool) = true
  | [] => by simp [PyData.canLayAll0]
  | _ :: r => by simp [PyData.canLayAll0, PyData.canLay0, lay_bools r]
theorem deep_bools : ∀ bs : List Bool, PyData.depthAll (bs.map PyData.bool) = 0
  | [] => by simp [PyData.depthAll]
  | _ :: r => by simp [PyData.depthAll, PyData.depth, deep_bools r]
theorem shaped_bools (bs : List Bool) : SeqAt.shaped (.list (bs.map PyData.bool)) = true := by
  unfold SeqAt.shaped
  simp [PyData.canLay0, lay_bools, PyData.depth, deep_bools]
theorem eqv_bl (a b : List Bool) : PyData.eqv (.list (a.map PyData.bool)) (.list (b.map PyData.bool)) = decide (a = b) := by
  rw [← eqv_bools]
  simp [PyData.eqv]
/-! ### walks over rows of texts -/
theorem fil_if {α : Type} (p : α → Bool) : ∀ xs : List α, xs.filterMap (fun v => if p v = true then some v else none) = xs.filter p
  | [] => rfl
  | a :: r => by
    rw [List.filterMap_cons, List.filter_cons, fil_if p r]
    by_cases h : p a = true <;> simp [h]
theorem row_at {xs : List Str} {i : Nat} {v : V} (h : (xs.map V.str)[i]? = some v) : ∃ x, v = .str x ∧ xs[i]? = some x := by
  rw [List.getElem?_map] at h
  cases e : xs[i]? with
  | none => rw [e] at h; cases h
  | some x => rw [e] at h; cases h; exact ⟨x, rfl, rfl⟩
theorem for_tupS {K : PySem.W.Frag} {a : Addr} {xs : List Str} {g : TG} {tb : TS} {D : Ends} {σ : L2.St} {H : Hp} (Pv : Nat → L2.St → Hp → Prop) (h0 : Pv 0 σ H) (hl : ∀ i σ H, i ≤ xs.length → Pv i σ H → SqT K H a (xs.map V.str))
    (hs : ∀ i x σ H, xs[i]? = some x → Pv i σ H → g (.str x) σ H fun σ2 H2 => tb { D with nx := Pv (i + 1), ct := Pv (i + 1), bk := D.nx } σ2 H2) (hd : ∀ σ H, Pv xs.length σ H → D.nx σ H) :
    ∃ W : Nat → Nat → L2.St → Hp → Prop, (∃ m, W 0 m σ H) ∧ ∀ i m σ H, W i m σ H →
      ((Itt K a).stop i H ∧ D.nx σ H) ∨ ((Itt K a).go i H ∧ ∃ N : L2.St → Hp → Prop, (∀ σ' H', N σ' H' → ∃ m', m' < m ∧ W (i + 1) m' σ' H') ∧ ∀ x H', (Itt K a).yld i H x H' → g x σ H' fun σ2 H2 => tb { D with nx := N, ct := N, bk := D.nx } σ2 H2) :=
  for_tup (xs := xs.map V.str) Pv h0 (fun i σ H hi p => hl i σ H (by rwa [List.length_map] at hi) p) (fun i x σ H e p => by
    obtain ⟨y, rfl, hy⟩ := row_at e
    exact hs i y σ H hy p) (fun σ H p => hd σ H (by rwa [List.length_map] at p))
theorem for_listS {K : PySem.W.Frag} {a : Addr} {xs : List Str} {g : TG} {tb : TS} {D : Ends} {σ : L2.St} {H : Hp} (Pv : Nat → L2.St → Hp → Prop) (h0 : Pv 0 σ H) (hl : ∀ i σ H, i ≤ xs.length → Pv i σ H → SqL K H a (xs.map V.str))
    (hs : ∀ i x σ H, xs[i]? = some x → Pv i σ H → g (.str x) σ H fun σ2 H2 => tb { D with nx := Pv (i + 1), ct := Pv (i + 1), bk := D.nx } σ2 H2) (hd : ∀ σ H, Pv xs.length σ H → D.nx σ H) :
    ∃ W : Nat → Nat → L2.St → Hp → Prop, (∃ m, W 0 m σ H) ∧ ∀ i m σ H, W i m σ H →
      ((Itl K a).stop i H ∧ D.nx σ H) ∨ ((Itl K a).go i H ∧ ∃ N : L2.St → Hp → Prop, (∀ σ' H', N σ' H' → ∃ m', m' < m ∧ W (i + 1) m' σ' H') ∧ ∀ x H', (Itl K a).yld i H x H' → g x σ H' fun σ2 H2 => tb { D with nx := N, ct := N, bk := D.nx } σ2 H2) :=
  for_list (xs := xs.map V.str) Pv h0 (fun i σ H hi p => hl i σ H (by rwa [List.length_map] at hi) p) (fun i x σ H e p => by
    obtain ⟨y, rfl, hy⟩ := row_at e
    exact hs i y σ H hy p) (fun σ H p => hd σ H (by rwa [List.length_map] at p))
section
variable {J : It} {n : Nat} {G : Hp → Prop} {Y : Nat → Hp → V → Hp → Prop} {g : TG} {tt : TT} {te : TE} {vs : List Nat} {σ : L2.St} {H1 : Hp} {D : Addr} {Qd : Hp → Prop}
/-- a comprehension over values: each item's own f -/
theorem lc_mapV (w : Walk J n G Y) (xs : List V) (f : V → V) (hn : n = xs.length) (hY : ∀ i H x H', i < n → Y i H x H' → H' = H ∧ xs[i]? = some x) (hD : H1 D = none) (hG : ∀ H', Same H1 H' → G H') (hz : xs.length < sizeLine)
    (hs : ∀ x ∈ xs, ∀ H', Same H1 H' → ∀ (Kt : V → Hp → Prop) (Kf : Hp → Prop), (∀ H2, Same H' H2 → Kt (f x) H2) → g x (wipe σ vs) H' fun σ2 H2 => wipe σ2 vs = wipe σ vs ∧ tt σ2 H2 fun b H3 => if b = true then te σ2 H3 Kt else Kf H3)
    (hd : ∀ H', Same H1 H' → H' D = some (.lst (xs.map f)) → Qd H') :
    ∃ W : Nat → Nat → Hp → Prop, (∃ m, W 0 m (upd H1 D (.lst []))) ∧ ∀ i m H, W i m H → (J.stop i H ∧ Qd H) ∨ (J.go i H ∧ ∃ Nx : Hp → Prop, (∀ H', Nx H' → ∃ m', m' < m ∧ W (i + 1) m' H') ∧ ∀ x H', J.yld i H x H' → g x (wipe σ vs) H' fun σ2 H2 => wipe σ2 vs = wipe σ vs ∧ tt σ2 H2 fun b H3 => if b = true then te σ2 H3 fun y H4 => ∃ acc, H4 D = some (.lst acc) ∧ acc.length < sizeLine ∧ Nx (upd H4 D (.lst (acc ++ [y]))) else Nx H3) :=
  lc_same w xs (fun v => some (f v)) hn hY hD hG hz (fun x hx H' s Kt Kf k1 _ => hs x hx H' s Kt Kf fun H2 s2 => k1 _ H2 rfl s2) fun H' s e => hd H' s (by rw [show (fun v => some (f v)) = some ∘ f from rfl, List.filterMap_eq_map] at e; exact e)
/-- a comprehension that keeps what p says -/
theorem lc_filV (w : Walk J n G Y) (xs : List V) (p : V → Bool) (hn : n = xs.length) (hY : ∀ i H x H', i < n → Y i H x H' → H' = H ∧ xs[i]? = some x) (hD : H1 D = none) (hG : ∀ H', Same H1 H' → G H') (hz : xs.length < sizeLine)
    (hs : ∀ x ∈ xs, ∀ H', Same H1 H' → ∀ (Kt : V → Hp → Prop) (Kf : Hp → Prop), (p x = true → ∀ H2, Same H' H2 → Kt x H2) → (p x = false → ∀ H2, Same H' H2 → Kf H2) → g x (wipe σ vs) H' fun σ2 H2 => wipe σ2 vs = wipe σ vs ∧ tt σ2 H2 fun b H3 => if b = true then te σ2 H3 Kt else Kf H3)
    (hd : ∀ H', Same H1 H' → H' D = some (.lst (xs.filter p)) → Qd H') :
    ∃ W : Nat → Nat → Hp → Prop, (∃ m, W 0 m (upd H1 D (.lst []))) ∧ ∀ i m H, W i m H → (J.stop i H ∧ Qd H) ∨ (J.go i H ∧ ∃ Nx : Hp → Prop, (∀ H', Nx H' → ∃ m', m' < m ∧ W (i + 1) m' H') ∧ ∀ x H', J.yld i H x H' → g x (wipe σ vs) H' fun σ2 H2 => wipe σ2 vs = wipe σ vs ∧ tt σ2 H2 fun b H3 => if b = true then te σ2 H3 fun y H4 => ∃ acc, H4 D = some (.lst acc) ∧ acc.length < sizeLine ∧ Nx (upd H4 D (.lst (acc ++ [y]))) else Nx H3) :=
  lc_same w xs (fun v => if p v = true then some v else none) hn hY hD hG hz (fun x hx H' s Kt Kf k1 k2 => hs x hx H' s Kt Kf (fun h H2 s2 => k1 _ H2 (if_pos h) s2) (fun h H2 s2 => k2 H2 (if_neg (by rw [h]; exact Bool.false_ne_true)) s2)) fun H' s e => hd H' s (by
    rw [fil_if] at e
    exact e)
/-- of texts: each its own f -/
theorem lc_mapS (w : Walk J n G Y) (xs : List Str) (f : Str → V) (hn : n = xs.length) (hY : ∀ i H x H', i < n → Y i H x H' → H' = H ∧ (xs.map V.str)[i]? = some x) (hD : H1 D = none) (hG : ∀ H', Same H1 H' → G H') (hz : xs.length < sizeLine)
    (hs : ∀ x ∈ xs, ∀ H', Same H1 H' → ∀ (Kt : V → Hp → Prop) (Kf : Hp → Prop), (∀ H2, Same H' H2 → Kt (f x) H2) → g (.str x) (wipe σ vs) H' fun σ2 H2 => wipe σ2 vs = wipe σ vs ∧ tt σ2 H2 fun b H3 => if b = true then te σ2 H3 Kt else Kf H3)
    (hd : ∀ H', Same H1 H' → H' D = some (.lst (xs.map f)) → Qd H') :
    ∃ W : Nat → Nat → Hp → Prop, (∃ m, W 0 m (upd H1 D (.lst []))) ∧ ∀ i m H, W i m H → (J.stop i H ∧ Qd H) ∨ (J.go i H ∧ ∃ Nx : Hp → Prop, (∀ H', Nx H' → ∃ m', m' < m ∧ W (i + 1) m' H') ∧ ∀ x H', J.yld i H x H' → g x (wipe σ vs) H' fun σ2 H2 => wipe σ2 vs = wipe σ vs ∧ tt σ2 H2 fun b H3 => if b = true then te σ2 H3 fun y H4 => ∃ acc, H4 D = some (.lst acc) ∧ acc.length < sizeLine ∧ Nx (upd H4 D (.lst (acc ++ [y]))) else Nx H3) :=
  lc_mapV w (xs.map V.str) (fun v => match v with | .str x => f x | v => v) (by rw [List.length_map]; exact hn) hY hD hG (by rw [List.length_map]; exact hz) (fun v hv H' s Kt Kf k => by
    obtain ⟨x, hx, rfl⟩ := List.mem_map.mp hv
    exact hs x hx H' s Kt Kf k) fun H' s e => hd H' s (by rw [List.map_map] at e; exact e)
/-- of texts: those that p keeps -/
theorem lc_filS (w : Walk J n G Y) (xs : List Str) (p : Str → Bool) (hn : n = xs.length) (hY : ∀ i H x H', i < n → Y i H x H' → H' = H ∧ (xs.map V.str)[i]? = some x) (hD : H1 D = none) (hG : ∀ H', Same H1 H' → G H') (hz : xs.length < sizeLine)
    (hs : ∀ x ∈ xs, ∀ H', Same H1 H' → ∀ (Kt : V → Hp → Prop) (Kf : Hp → Prop), (p x = true → ∀ H2, Same H' H2 → Kt (.str x) H2) → (p x = false → ∀ H2, Same H' H2 → Kf H2) → g (.str x) (wipe σ vs) H' fun σ2 H2 => wipe σ2 vs = wipe σ vs ∧ tt σ2 H2 fun b H3 => if b = true then te σ2 H3 Kt else Kf H3)
    (hd : ∀ H', Same H1 H' → H' D = some (.lst ((xs.filter p).map V.str)) → Qd H') :
    ∃ W : Nat → Nat → Hp → Prop, (∃ m, W 0 m (upd H1 D (.lst []))) ∧ ∀ i m H, W i m H → (J.stop i H ∧ Qd H) ∨ (J.go i H ∧ ∃ Nx : Hp → Prop, (∀ H', Nx H' → ∃ m', m' < m ∧ W (i + 1) m' H') ∧ ∀ x H', J.yld i H x H' → g x (wipe σ vs) H' fun σ2 H2 => wipe σ2 vs = wipe σ vs ∧ tt σ2 H2 fun b H3 => if b = true then te σ2 H3 fun y H4 => ∃ acc, H4 D = some (.lst acc) ∧ acc.length < sizeLine ∧ Nx (upd H4 D (.lst (acc ++ [y]))) else Nx H3) :=
  lc_filV w (xs.map V.str) (fun v => match v with | .str x => p x | _ => false) (by rw [List.length_map]; exact hn) hY hD hG (by rw [List.length_map]; exact hz) (fun v hv H' s Kt Kf k1 k2 => by
    obtain ⟨x, hx, rfl⟩ := List.mem_map.mp hv
    exact hs x hx H' s Kt Kf k1 k2) fun H' s e => hd H' s (by rw [List.filter_map] at e; exact e)
end
end Z
namespace Z
open PySem PySem.Spec PyProof.Rows L2
/-! ### o.m(k = v) -/
def tMethK (C : Addr) (m : Str) (n : Nat) (sp : Sp) (gV : List V → List V → List V) (E : XK) (ta : TE) (tk : TA) : TE := fun σ H Q => ta σ H fun x H1 => ∃ a dx fs, x = .ref a ∧ H1 a = some (.ins C dx fs) ∧ fs.lookup m = none ∧ tk σ H1 fun zs H2 => zs.length = n ∧ sp (gV [.ref a] zs) H2 Q E
theorem pe_methK {X : Cx} {CX : CXT} {k : Nat} {C f : Addr} {fd : FuncData} {m : Str} {ps ks : List Str} {sp : Sp} {E : XK} {o : Expr} {kws : List Keyword} {ta : TE} {tk : TA} {pos apos : Pos} {pl : Sem Bool} {g : List Value → List Value → List Value} {gV : List V → List V → List V}
    (he : PE X o ta) (c : Cls X.K C) (hm : Meth X.K C m f) (F : FnOk X.prog X.w X.K X.mg X.base CX k f fd ps sp) (hr : Room k X.A) (hb : KBn X.K fd ps 1 ks g gV) (hx : Passes CX X E) (hkw : PK X kws tk)
    (hall : (backToKw pos (keywordEach kws X.env)).all (·.1.isSome) = true := by rfl) (hks : (backToKw pos (keywordEach kws X.env)).filterMap (·.1) = ks := by rfl)
    (hpl : ((backTo pos (starEach [] X.env)).any (·.1) || (backToKw pos (keywordEach kws X.env)).any (·.1.isNone)) = false := by rfl)
    (ht : eval (.Call (.Attribute o m apos) [] kws pos) X.env = (do
      let ov ← eval o X.env
      standAt apos.atName
      let (f, first) ← holding [ov] (getMethod ov m pl)
      callWith pos f first (backTo pos (starEach [] X.env)) (backToKw pos (keywordEach kws X.env))) := by rfl) :
    PE X (.Call (.Attribute o m apos) [] kws pos) (tMethK C m ks.length sp gV E ta tk) := by
  refine ⟨fun pins s σ H Q I h => ?_⟩
  refine PySem.W.methodCall_KW (pl := pl) (thn (he.run pins s σ H _ I h) fun u s1 ⟨x, H1, I1, rx, a, dx, fs, ex, ea, l, q⟩ => ?_) ht
  subst ex
  obtain rfl : u = Value.ref a := rx
  refine getmeth_ok I1 ea c hm l ?_
  refine PySem.W.callWith_KW0 (first := [.ref a]) (h₀ := X.base) I.ok.mod.kin hm.kp hall (thn (hkw.run pos pins s1 σ H1 _ I1 q) fun ws s2 ⟨zs, H2, I2, rz, l2, hsp⟩ => ⟨I2.kIn, ?_⟩) hpl
  rw [hks]
  exact run_fnN (vs := [V.ref a]) F hr hb hx I2 (.cons rfl .nil) rz rfl l2 hsp
/-! ### xs[::-1] -/
theorem kpe_revL {X : Cx} {K : PySem.W.Frag} {e : Expr} {te : TE} {k : Nat} {p1 p2 p3 pos : Pos} (he : PE X e te) (hK : X.K = K := by rfl) : PE X (.Subscript e (.Slice none none (some (.UnaryOp .USub (.Constant (.int 1) k p1) p2)) p3) pos) (tRevL K te) := by subst hK; exact pe_revL he
end Z
namespace Z
open PySem PySem.Spec PyProof.Rows L2
theorem eqv_pair (a b c d : PyData) : PyData.eqv (.list [a, b]) (.list [c, d]) = (a.eqv c && b.eqv d) := by simp [PyData.eqv, PyData.eqvAll]
theorem eqv_pairT (a b c d : PyData) : PyData.eqv (.tuple [a, b]) (.tuple [c, d]) = (a.eqv c && b.eqv d) := by simp [PyData.eqv, PyData.eqvAll]
theorem shaped_twoB (a b : List Bool) : SeqAt.shaped (.list [.list (a.map PyData.bool), .list (b.map PyData.bool)]) = true := by
  unfold SeqAt.shaped
  simp [PyData.canLay0, PyData.canLayAll0, lay_bools, PyData.depth, PyData.depthAll, deep_bools]
end Z
namespace Z
open PySem PySem.Spec PyProof.Rows L2
/-! ### which cuts make which partings -/
def markB (xs us ws : List Str) : Bool := let mu := us.map (fun x => decide (x ∈ xs)); let mw := ws.map (fun x => decide (x ∈ xs)); (decide ([true, true] = mu) && decide ([false, false] = mw)) || (decide ([false, false] = mu) && decide ([true, true] = mw))
def makesB (fy py qy : List Str) : Bool := let bs := (py ++ qy).map fun x => decide (x ∈ fy); decide ([false, false, true, true] = bs) || decide ([true, true, false, false] = bs)
theorem all_of {α : Type} {f g : α → Bool} : ∀ {l : List α}, (∀ x ∈ l, f x = g x) → l.all f = l.all g
  | [], _ => rfl
  | a :: r, h => by rw [List.all_cons, List.all_cons, h a (.head _), all_of fun x hx => h x (.tail _ hx)]
theorem two_map {p : Str → Bool} {l : List Str} (h : l.length = 2) (b : Bool) : decide ([b, b] = l.map p) = l.all (fun x => p x == b) := by
  match l, h with
  | [a, c], _ =>
    simp only [List.map_cons, List.map_nil, List.all_cons, List.all_nil]
    cases p a <;> cases p c <;> cases b <;> rfl
theorem four_map {p : Str → Bool} {k l : List Str} (hk : k.length = 2) (h : l.length = 2) (b c : Bool) : decide ([b, b, c, c] = (k ++ l).map p) = (k.all (fun x => p x == b) && l.all (fun x => p x == c)) := by
  rw [← two_map hk, ← two_map h, List.map_append]
  match k, hk, l, h with
  | [x, y], _, [z, w], _ =>
    simp only [List.map_cons, List.map_nil, List.cons_append, List.nil_append]
    cases p x <;> cases p y <;> cases p z <;> cases p w <;> cases b <;> cases c <;> rfl
theorem makes_mark {xs ys ny fy us ws py qy : List Str} (tn : Turned xs ys ny fy) (cu : Cuts xs ys) (sub : ∀ x ∈ us ++ ws, x ∈ xs ++ ys) (t : Two us ws) (rows : (py.Perm us ∧ qy.Perm ws) ∨ (py.Perm ws ∧ qy.Perm us)) : makesB fy py qy = markB xs us ws := by
  have lu := t.la
  have lw := t.lb
  have ap := cu.apart
  have e1 : makesB fy py qy = ((us.all (fun x => decide (x ∈ fy) == false) && ws.all (fun x => decide (x ∈ fy) == true)) || (us.all (fun x => decide (x ∈ fy) == true) && ws.all (fun x => decide (x ∈ fy) == false))) := by
    show (decide ([false, false, true, true] = (py ++ qy).map fun x => decide (x ∈ fy)) || decide ([true, true, false, false] = (py ++ qy).map fun x => decide (x ∈ fy))) = _
    rcases rows with ⟨a, b⟩ | ⟨a, b⟩
    · rw [four_map (a.length_eq.trans lu) (b.length_eq.trans lw), four_map (a.length_eq.trans lu) (b.length_eq.trans lw), a.all_eq, b.all_eq, a.all_eq, b.all_eq]
    · rw [four_map (a.length_eq.trans lw) (b.length_eq.trans lu), four_map (a.length_eq.trans lw) (b.length_eq.trans lu), a.all_eq, b.all_eq, a.all_eq, b.all_eq, Bool.or_comm, Bool.and_comm, Bool.and_comm (ws.all _)]
  have e2 : markB xs us ws = ((us.all (fun x => decide (x ∈ xs) == true) && ws.all (fun x => decide (x ∈ xs) == false)) || (us.all (fun x => decide (x ∈ xs) == false) && ws.all (fun x => decide (x ∈ xs) == true))) := by
    show ((decide ([true, true] = us.map fun x => decide (x ∈ xs)) && decide ([false, false] = ws.map fun x => decide (x ∈ xs))) || (decide ([false, false] = us.map fun x => decide (x ∈ xs)) && decide ([true, true] = ws.map fun x => decide (x ∈ xs)))) = _
    rw [two_map lu, two_map lw, two_map lu, two_map lw]
  rw [e1, e2]
  obtain ⟨ya, yb, aa, ab, y0, z0, _, _, h⟩ := tn
  have su : ∀ x ∈ us, x ∈ xs ++ ys := fun x hx => sub x (List.mem_append_left _ hx)
  have sw : ∀ x ∈ ws, x ∈ xs ++ ys := fun x hx => sub x (List.mem_append_right _ hx)
  rcases h with ⟨_, rfl, rfl⟩ | ⟨_, rfl, rfl⟩
  · have k : ∀ x, x ∈ xs ++ ys → decide (x ∈ fy) = !decide (x ∈ xs) := fun x hx => by
      by_cases m : x ∈ xs
      · rw [decide_eq_true m, decide_eq_false (fun q => ap x m ((ab.2.2 x).mp q))]; rfl
      · have : x ∈ ys := (List.mem_append.mp hx).resolve_left m
        rw [decide_eq_false m, decide_eq_true ((ab.2.2 x).mpr this)]; rfl
    have c : ∀ (l : List Str) (b : Bool), (∀ x ∈ l, x ∈ xs ++ ys) → l.all (fun x => decide (x ∈ fy) == b) = l.all (fun x => decide (x ∈ xs) == !b) := fun l b hl => all_of fun x hx => by rw [k x (hl x hx)]; cases decide (x ∈ xs) <;> cases b <;> rfl
    rw [c us _ su, c us _ su, c ws _ sw, c ws _ sw]
    rfl
  · have k : ∀ x, decide (x ∈ fy) = decide (x ∈ xs) := fun x => decide_eq_decide.mpr (aa.2.2 x)
    have c : ∀ (l : List Str) (b : Bool), l.all (fun x => decide (x ∈ fy) == b) = l.all (fun x => decide (x ∈ xs) == b) := fun l b => all_of fun x hx => by rw [k x]
    rw [c us, c us, c ws, c ws, Bool.or_comm]
end Z
namespace Z
open PySem PySem.Spec PyProof.Rows L2
/-- _law_heard(lambda: ..) of a call that always raises cls(f = v) -/
theorem heard_word {K : PySem.W.Frag} {T : List (Addr × Str)} {t : XK → TE} {σ : L2.St} {H : Hp} {Q : VK} (cls f w : Str) (v : V) (hT : LamX.Tabs T H)
    (rd : ∀ H2, LamX.ExtN H H2 → t (fun c d H' => c = .ref (He.ga K cls) ∧ ∃ dd, d = some dd ∧ H' dd = some (.xd [(f, v)]) ∧ Same H2 H') σ H2 (fun _ _ => False))
    (k : ∀ g H', LamX.ExtN H H' → LamX.Tabs T H' → H' g = some (.tup [.str w, v]) → Q (.ref g) H') : LamX.tLam T (TTword K cls f w) t σ H Q := by
  refine ⟨hT, fun H1 eN T1 H2 s2 => ⟨_, fun _ _ => False, rd H2 (eN.trans (extS s2)), ?_, fun _ _ z => z.elim⟩⟩
  rintro c d H' ⟨rfl, dd, rfl, hdd, sm⟩
  exact ⟨rfl, dd, _, rfl, hdd, fun g H'' s _ ef => k g H'' (((eN.trans (extS s2)).trans (extS sm)).trans (extS s)) (((T1.ext s2).ext sm).ext s) ef⟩
end Z
namespace Z
open PySem PySem.Spec PyProof.Rows L2
theorem cutV_to (xs : List V) {k : Int} (h : 0 ≤ k) : cutV xs none (some k) = xs.take k.toNat := by
  have e : HT.sIx xs.length xs.length (some k) = min k.toNat xs.length := by
    unfold HT.sIx
    simp only []
    split <;> omega
  unfold cutV
  rw [e]
  simp only [HT.sIx, List.drop_zero, Nat.sub_zero]
  by_cases c : k.toNat ≤ xs.length
  · rw [Nat.min_eq_left c]
  · rw [Nat.min_eq_right (by omega), List.take_of_length_le (Nat.le_refl _), List.take_of_length_le (by omega)]
theorem cutV_from (xs : List V) {k : Int} (h : 0 ≤ k) : cutV xs (some k) none = xs.drop k.toNat := by
  have e : HT.sIx xs.length 0 (some k) = min k.toNat xs.length := by
    unfold HT.sIx
    simp only []
    split <;> omega
  unfold cutV
  rw [e]
  simp only [HT.sIx]
  rw [List.take_of_length_le (by rw [List.length_drop]; omega)]
  by_cases c : k.toNat ≤ xs.length
  · rw [Nat.min_eq_left c]
  · rw [Nat.min_eq_right (by omega), List.drop_of_length_le (Nat.le_refl _), List.drop_of_length_le (by omega)]
theorem lt_flip {a b : Str} (h : ltCps a.cps.toList b.cps.toList = false) (n : a ≠ b) : ltCps b.cps.toList a.cps.toList = true := by
  cases e : ltCps b.cps.toList a.cps.toList with
  | true => rfl
  | false => exact absurd (leS_anti (show leS a b from e) (show leS b a from h)) n
theorem lt_asym {a b : Str} (h : ltCps a.cps.toList b.cps.toList = true) : ltCps b.cps.toList a.cps.toList = false := leS_of_lt h
theorem Turned.swap {a b ny fy : List Str} (t : Turned a b ny fy) (ap : apartS a b) : Turned b a ny fy := by
  obtain ⟨ya, yb, aa, ab, y0, z0, e1, e2, h⟩ := t
  have n : y0 ≠ z0 := by
    rintro rfl
    exact ap y0 ((aa.2.2 _).mp (List.mem_of_mem_head? e1)) ((ab.2.2 _).mp (List.mem_of_mem_head? e2))
  refine ⟨yb, ya, ab, aa, z0, y0, e2, e1, ?_⟩
  rcases h with ⟨l, rfl, rfl⟩ | ⟨l, rfl, rfl⟩
  · exact .inr ⟨lt_asym l, rfl, rfl⟩
  · exact .inl ⟨lt_flip l n, rfl, rfl⟩
theorem AscOf.self {a y : List Str} (h : AscOf a y) : AscOf y y := ⟨h.1, h.2.1, fun _ => .rfl⟩
theorem Turned.fix {a b ny fy : List Str} (t : Turned a b ny fy) (ap : apartS a b) : Turned ny fy ny fy := by
  obtain ⟨ya, yb, aa, ab, y0, z0, e1, e2, h⟩ := t
  have n : y0 ≠ z0 := by
    rintro rfl
    exact ap y0 ((aa.2.2 _).mp (List.mem_of_mem_head? e1)) ((ab.2.2 _).mp (List.mem_of_mem_head? e2))
  rcases h with ⟨l, rfl, rfl⟩ | ⟨l, rfl, rfl⟩
  · exact ⟨_, _, aa.self, ab.self, y0, z0, e1, e2, .inl ⟨l, rfl, rfl⟩⟩
  · exact ⟨_, _, ab.self, aa.self, z0, y0, e2, e1, .inl ⟨lt_flip l n, rfl, rfl⟩⟩
theorem Turned.sides {a b ny fy : List Str} (t : Turned a b ny fy) (cu : Cuts a b) : Cuts ny fy := by
  have ap := cu.apart
  obtain ⟨nda, ndb, _⟩ := List.nodup_append.mp cu.nd
  obtain ⟨ya, yb, aa, ab, y0, z0, e1, e2, h⟩ := t
  have la := aa.len nda
  have lb := ab.len ndb
  have pa : ya.Perm a := (List.perm_ext_iff_of_nodup aa.2.1 nda).mpr aa.2.2
  have pb : yb.Perm b := (List.perm_ext_iff_of_nodup ab.2.1 ndb).mpr ab.2.2
  rcases h with ⟨l, rfl, rfl⟩ | ⟨l, rfl, rfl⟩
  · exact cu.of_perm (pa.append pb) (by rw [la]; exact cu.lx) (by rw [lb]; exact cu.ly)
  · exact cu.of_perm ((pb.append pa).trans List.perm_append_comm) (by rw [lb]; exact cu.ly) (by rw [la]; exact cu.lx)
theorem Cuts.swap {a b : List Str} (h : Cuts a b) : Cuts b a := h.of_perm List.perm_append_comm h.ly h.lx
theorem turned_of {a b hs ny fy : List Str} (h : CutOf a b hs ny fy) (na : a ≠ []) (nb : b ≠ []) (ap : apartS a b) : Turned a b ny fy := by
  obtain ⟨ah, ya, yb, aa, ab, side⟩ := id h
  obtain ⟨y0, yr, rfl⟩ := aa.ne na
  obtain ⟨z0, zr, rfl⟩ := ab.ne nb
  cases e : ltCps y0.cps.toList z0.cps.toList with
  | true =>
    have t : Turned a b (y0 :: yr) (z0 :: zr) := ⟨_, _, aa, ab, y0, z0, rfl, rfl, .inl ⟨e, rfl, rfl⟩⟩
    obtain ⟨rfl, rfl⟩ := cut_turned h t na nb ap
    exact t
  | false =>
    have t : Turned a b (z0 :: zr) (y0 :: yr) := ⟨_, _, aa, ab, y0, z0, rfl, rfl, .inr ⟨e, rfl, rfl⟩⟩
    obtain ⟨rfl, rfl⟩ := cut_turned h t na nb ap
    exact t
theorem Cuts.nx {a b : List Str} (h : Cuts a b) : a ≠ [] := by
  have := h.lx
  rintro rfl
  simp at this
theorem Cuts.ny {a b : List Str} (h : Cuts a b) : b ≠ [] := h.swap.nx
theorem cut_newC {K : PySem.W.Frag} {H : Hp} {u v : V} {a b : List Str} {Q : Addr → Hp → Prop} {E : XK} (hu : ∃ q, u = .ref q ∧ RowA H q (a.map V.str)) (hv : ∃ q, v = .ref q ∧ RowA H q (b.map V.str)) (cu : Cuts a b)
    (k : ∀ p hs ny fy H', Same H H' → H p = none → Turned a b ny fy → AscOf (a ++ b) hs → CutAt K H' p hs ny fy → Q p H') :
    ∀ x dx, H x = none → H dx = none → dx ≠ x → spCut K [.ref x, u, v] (upd (upd H dx (.own x)) x (.ins (He.ga K "Cut") dx [])) (fun v H2 => v = .non ∧ Q x H2) E := by
  have l := cu.few
  have lx := cu.lx
  have ly := cu.ly
  obtain ⟨nda, ndb, _⟩ := List.nodup_append.mp cu.nd
  refine cut_new ⟨hu, fun n hn => cu.nm n (List.mem_append_left _ hn), nda, by omega⟩ ⟨hv, fun n hn => cu.nm n (List.mem_append_right _ hn), ndb, by omega⟩ lx ly cu.apart fun p hs ny' fy' H' s n co ic => ?_
  have tn := turned_of co cu.nx cu.ny cu.apart
  obtain ⟨nmN, nmF, _, _⟩ := turned_ok tn cu.nm
  exact k p hs ny' fy' H' s n tn co.hosts ⟨ic, fun n hn => cu.nm n ((co.hosts.2.2 n).mp hn), nmN, nmF⟩
end Z
namespace Z
open PySem PySem.Spec PyProof.Rows L2
section
open L2H HotX
/-! ### an own error raised while another one is handled -/
theorem ps_raiseH2 {X : Cx} {W : WX} {x f g : Str} {k : Nat} {e : Expr} {es : List Expr} {ta : TA} {j : Nat} {p pos cpos pos2 : Pos} (E : ErrF X.K x) (D : ∃ fd, FnH X.prog X.w X.K X.mg X.base CX0 k (He.ma X.K (He.ga X.K x) "__init__") fd ["self", f, g] (spErr2 X.K (He.ga X.K x) f g) ∧ Binds X.K fd ["self", f, g] []) (hr : RoomH (k + 1) X.A) (hc : HotC X) (tk : L2.Takes X W) (hg : Gl X x) (hm : X.mg x = some (.ref (He.ga X.K x))) (ha : PA X (e :: es) ta)
    (hdb : (x == ("__debug__" : Str)) = false := by decide) (he : starEach (e :: es) X.env = (false, eval e X.env) :: starEach es X.env := by rfl) (hpl : (backTo pos (starEach es X.env)).any (·.1) = false := by rfl) :
    PS X (.Raise (some (.Call (.Name x p) (e :: es) [] pos)) (some (.Constant .none j cpos)) pos2) (tRaise2 (He.ga X.K x) f g W ta) := by
  obtain ⟨fd, F, b⟩ := D
  constructor
  intro pins s σ H D I h
  refine (ps_raiseHN hc tk (pmk5_oexH (p := p) (pos := pos) E.o E.iC E.tI F hr hc b pass0 hg hm (pa_up ha) hdb he hpl)).run pins s σ H D I ⟨_, h, ?_⟩
  rintro vs H1 ⟨u, v, rfl, k⟩
  exact ⟨by show 2 ≤ 1000; decide, fun a ha => raised2 (R := fun cls d H' => W cls d σ H') ha k⟩
end
/-! ### x = e within a try, e may raise -/
def tTrySet (n j : Nat) (t : XK → TE) (W : WX) : TS := fun D σ H => ∃ (E : XK) (Q0 : VK), (∀ cls d σ' H', E cls d H' → σ'.length = n → W cls d σ' H') ∧ t E σ H Q0 ∧ ∀ v H1, Q0 v H1 → D.nx (σ.set j (some v)) H1
theorem ps_setTry {Y : Cx} {W : WX} {n j : Nat} {x : Str} {e : Expr} {t : XK → TE} {p1 p2 : Pos} (hn : Y.N.length = n) (hN : Y.N.Nodup) (hj : Y.N[j]? = some x) (hx : Loc Y.env.scope x)
    (act : ∀ E : XK, (∀ cls d σ' H', E cls d H' → σ'.length = Y.N.length → W cls d σ' H') → PE Y e (t E)) (hs : swapsWith e (some (.Name x p1)) p2.line Y.env = pure false := by rfl) (hf : Y.fn x = true ∨ Y.env.scope.names.lookup x = some .local := by first | exact .inl rfl | exact .inr rfl | assumption) :
    PS Y (.Assign [.Name x p1] e p2) (tTrySet n j t W) := by
  constructor
  rintro pins s σ H D I ⟨E, Q0, hW, h3, h4⟩
  exact (ps_set (i := j) hN hj hx (pe_up (act E (fun cls d σ' H' e l => hW cls d σ' H' e (l.trans hn)))) hs hf).run pins s σ H D I ⟨Q0, h3, fun v H1 q => h4 v H1 q⟩
/-! ### a, b = l -/
theorem kpg_unl {X : Cx} {K : PySem.W.Frag} {pos : Pos} {es : List Expr} {k : Nat} {t : TGs} {n : Nat} (hc : X.calm = true) (h : PGs X es t)
    (hn : (assignEach es X.env).length = n := by rfl) (hst : (assignEach es X.env).findIdx? (·.1) = none := by rfl) (hK : X.K = K := by rfl) : PG X (.Tuple es k pos) (gUnl K n t) := by subst hK; exact pg_unl hc h hn hst
end Z
namespace Z
open PySem PySem.Spec PyProof.Rows L2
/-! ### own errors raised with what they are told of their context -/
section
open L2H HotX
theorem pmk_oexN {X : Cx} {CX : CXT} {e : Expr} {es : List Expr} {ta : TA} {p pos : Pos} {x : Str} {C fI : Addr} {k : Nat} {fd : FuncData} {ps : List Str} {sp : Sp} {ds : List Value} {dvs : List V} (T : OexC X.K C) (iC : PySem.W.findIn X.K (.ref C) "__init__" = some (some (.ref fI))) (tI : PySem.W.typeIn X.K (.ref fI) = some (.type "function"))
    (F1 : FnOk X.prog X.w X.K X.mg X.base CX k fI fd ps sp) (hr : Room (k + 1) X.A) (hb : Binds X.K fd ps ds) (hd : Vals dvs ds) (hx : Passes CX X (fun _ _ _ => False)) (hg : Gl X x) (hm : X.mg x = some (.ref C)) (ha : PA X (e :: es) ta)
    (hdb : (x == ("__debug__" : Str)) = false := by decide) (he : starEach (e :: es) X.env = (false, eval e X.env) :: starEach es X.env := by rfl) (hpl : (backTo pos (starEach es X.env)).any (·.1) = false := by rfl) :
    L2N.PMk X (.Call (.Name x p) (e :: es) [] pos) (tMkO C sp dvs ta) := by
  intro pins s σ H Q I h
  obtain ⟨nm, q, N, bs, bm, sn, sub, ab, col, dd, k0, k1, k2, k3, k5, hC, hbm⟩ := T.cls
  refine wpAny_Call_Name_kw (ld_glob I hg hm ?_ hdb)
  refine PySem.W.callWith_K (h₀ := X.base) I.ok.mod.kin T.kC (thn (ha.run pos pins s σ H _ I h) fun us s1 ⟨vs, H1, I1, r1, hz, q1⟩ => ⟨I1.kIn, ?_⟩) he hpl
  show wpAny _ _ (call (.ref C) us) _ _ _
  obtain ⟨hp, g, dr, tk, os⟩ := s1
  have hsz : hp.objs.size ≤ hp.objs.size + 1 := Nat.le_succ _
  have hn : H1 (hp.objs.size + 1) = none := I1.hok.fresh hsz
  have hq := q1 (hp.objs.size + 1) hn
  have kk : ∀ b o, hp.get? b = some o → ((hp.push (PySem.W.kdv_tup us)).push (PySem.HandSPX.excO C hp.objs.size)).get? b = some o := fun b o e => Heap.get?_push_of_some _ (Heap.get?_push_of_some _ e)
  have hget : ((hp.push (PySem.W.kdv_tup us)).push (PySem.HandSPX.excO C hp.objs.size)).get? (hp.objs.size + 1) = some (PySem.HandSPX.excO C hp.objs.size) := by heap_get
  have I2 : Inv X pins σ (upd H1 (hp.objs.size + 1) (exo (hp.objs.size + 1) C none)) ⟨(hp.push (PySem.W.kdv_tup us)).push (PySem.HandSPX.excO C hp.objs.size), g, dr, tk, os⟩ :=
    I1.laid (t' := tk) (a := hp.objs.size + 1) (o := exo (hp.objs.size + 1) C none) (h' := (hp.push (PySem.W.kdv_tup us)).push (PySem.HandSPX.excO C hp.objs.size)) kk hsz (exo_ok hget)
  have r2 : Vals (V.ref (hp.objs.size + 1) :: (vs ++ dvs)) (Value.ref (hp.objs.size + 1) :: (us ++ ds)) := .cons rfl (r1.append hd)
  have hl : (Value.ref (hp.objs.size + 1) :: us ++ ds).length = ps.length := by
    have e := r2.length
    rw [F1.len _ _ _ _ hq] at e
    exact e.symm
  have hus : us.length ≤ sizeLine := by
    rw [← Paired.length r1, sizeLine_eq]
    omega
  refine wpAny_call (PySem.HandSPX.call_own F.excBase_ValueError (fun Y => PySem.HandSPX.refsVE_contains Y bm hbm) (I1.kIn _ _ hC) (PySem.W.looks_findIn I1.kIn iC) (fun self => PySem.W.bind_fn I1.kIn self tI) hus
    (codeAny_mono (F1.run _ X.stack _ _ ⟨Value.ref (hp.objs.size + 1) :: us, []⟩ (Value.ref (hp.objs.size + 1) :: (us ++ ds)) _ _ (fun _ _ _ => False) (hr.make C us []) (I2.env0.make C us []) (hb _ (Value.ref (hp.objs.size + 1) :: us) I2.kIn hl) r2 hq) fun r s' hq' => ?_))
  cases r with
  | error er => exact hx pins σ _ _ er s' I2 hq'
  | ok fl =>
    cases fl with
    | ret u =>
      obtain ⟨v, H2, os2, bare2, un2, hok2, rv, ev, d, fs, ea, ed, hd1, q2⟩ := hq'
      subst ev
      obtain ⟨h2, g2, d2, t2, os'⟩ := s'
      obtain ⟨t0, G, J, kG, ge, hoe, na⟩ := mk_end0 (d2 := d2) (t2 := t2) I1 hsz kk un2 hok2 os2 bare2 ea ed hd1
      refine ⟨rv, ⟨hp.objs.size + 1, _, _, ⟨G, g2, d2, t2, os'⟩, _, .ref C, some d, rfl, J, kG, ge, hoe, ⟨rfl, rfl, fun vs hv => ?_⟩, rfl, rfl, na, rfl, bare2, raises_own T.exC T.tyC, q2⟩⟩
      cases hv
      rfl
    | next => exact False.elim hq'
    | brk => exact False.elim hq'
    | cont => exact False.elim hq'
theorem ps_raiseN1 {X : Cx} {W : WX} {x f : Str} {k : Nat} {e : Expr} {es : List Expr} {ta : TA} {p pos pos2 : Pos} (E : ErrF X.K x) (D : DefM X.prog X.w X.K X.mg X.base k (He.ma X.K (He.ga X.K x) "__init__") ["self", f] (spErr1 X.K (He.ga X.K x) f)) (hr : Room (k + 1) X.A) (hc : X.calm = true) (tk : L2N.Takes X W) (hg : Gl X x) (hm : X.mg x = some (.ref (He.ga X.K x))) (ha : PA X (e :: es) ta)
    (hdb : (x == ("__debug__" : Str)) = false := by decide) (he : starEach (e :: es) X.env = (false, eval e X.env) :: starEach es X.env := by rfl) (hpl : (backTo pos (starEach es X.env)).any (·.1) = false := by rfl) :
    PS X (.Raise (some (.Call (.Name x p) (e :: es) [] pos)) none pos2) (tRaise1 (He.ga X.K x) f W ta) := by
  obtain ⟨fd, F, b⟩ := D.ex
  constructor
  intro pins s σ H D I h
  refine (L2N.ps_raise hc tk (pmk_oexN (p := p) (pos := pos) E.o E.iC E.tI F hr b .nil pass0 hg hm (pa_up ha) hdb he hpl)).run pins s σ H D I ⟨_, h, ?_⟩
  rintro vs H1 ⟨v, rfl, k⟩
  exact ⟨by show 1 ≤ 1000; decide, fun a ha => raised1 (R := fun cls d H' => W cls d σ H') ha k⟩
theorem cxN {P : Program} {w : World} {outer : List Env} {H : Hp} {s : Shared} {E : XK} {u : Value} {s' : Shared} (h : L2N.CX P w outer H s E u s') : CX P w outer H s E u s' := by
  obtain ⟨a, B, H', cls, d, e, f, r⟩ := h
  exact ⟨a, B, H', cls, d, e, flyingZ_imp (fun _ z => z.zc) f, r⟩
theorem FnOk.ofN {P : Program} {w : World} {K : PySem.W.Frag} {mg : Str → Option Value} {base : Heap} {k : Nat} {f : Addr} {fd : FuncData} {ps : List Str} {sp : Sp} (F : FnOk P w K mg base (L2N.CX P w) k f fd ps sp) : FnOk P w K mg base (CX P w) k f fd ps sp :=
  ⟨F.len, fun A outer s H args us vs Q E hr e0 hb r h => codeAny_mono (F.run A outer s H args us vs Q E hr e0 hb r h) fun r s' q => by
    match r, q with
    | .error e, q => exact cxN q
    | .ok (.ret u), q => exact q
    | .ok .next, q => exact q
    | .ok .brk, q => exact q
    | .ok .cont, q => exact q⟩
theorem takes_lenN {X : Cx} {W : WX} (t : L2N.Takes X W) : L2N.Takes X (fun cls d σ H => σ.length = X.N.length → W cls d σ H) := by
  rintro u s' ⟨a, B, sI, pins, σ, H, cls, d, e, I, nb, up, sky, na, os, ag, w⟩
  exact t u s' ⟨a, B, sI, pins, σ, H, cls, d, e, I, nb, up, sky, na, os, ag, w I.len⟩
end
end Z
namespace Z
open PySem PySem.Spec PyProof.Rows L2 TL
/-! ### texts with bars -/
section
open PySem.Builtin.Str
theorem split_count {x y : Str} (hy : tl y ≠ []) (hk : y.cps.all (· < 256) = true) : Txt.count x y = ((Txt.split x y).length : Int) - 1 := by
  obtain ⟨f, g, hn⟩ := StrLaws.occ_tight x y (len1 hy)
  unfold Txt.count Txt.split
  split
  · rename_i h1
    have hlt : x.length < y.length := by
      simp only [Bool.or_eq_true, decide_eq_true_eq] at h1
      rcases h1 with h | h
      · exact h
      · exact absurd h (kind_ok hk)
    cases ho : occurrences x y 0 x.length (x.length + 1) with
    | nil => rfl
    | cons c r =>
      rw [ho] at g
      have hc : c + y.length ≤ x.length := g.2.1.1
      omega
  · split
    · rename_i h1 h2
      rw [List.isEmpty_iff.mp h2]
      rfl
    · rw [len_partsBetween]
      omega
end
theorem tl_bar : tl (Str.ofString " | ") = [32, 124, 32] := by decide +kernel
theorem tl_sp : tl (Str.ofString " ") = [32] := by decide +kernel
theorem split_back (x y : Str) : Txt.join y (Txt.split x y) = x := by
  rw [join_eq]
  exact StrLaws.join_split x y
theorem bars_one {a b c d : List Nat} {k : Nat} (h : a ++ k :: b = c ++ k :: d) (ha : k ∉ a) (hc : k ∉ c) : a = c ∧ b = d := by
  induction a generalizing c with
  | nil =>
    cases c with
    | nil => exact ⟨rfl, (List.cons.inj h).2⟩
    | cons x r => exact absurd (by rw [(List.cons.inj h).1]; exact .head _) hc
  | cons x r ih =>
    cases c with
    | nil => exact absurd (by rw [← (List.cons.inj h).1]; exact .head _) ha
    | cons y q =>
      obtain ⟨e1, e2⟩ := List.cons.inj h
      obtain ⟨h1, h2⟩ := ih e2 (fun m => ha (.tail _ m)) (fun m => hc (.tail _ m))
      exact ⟨by rw [e1, h1], h2⟩
theorem nm_no {x : Str} (h : IsNm x) {k : Nat} (hk : ¬ (97 ≤ k ∧ k ≤ 122)) : k ∉ tl x := fun m => hk (h.az k m)
theorem join_no {ws : List Str} (h : ∀ w ∈ ws, IsNm w) : 124 ∉ tl (Txt.join (Str.ofString " ") ws) := fun m => by
  rw [join_eq, tl_join, tl_sp] at m
  rcases of_joinL _ m with m | ⟨w, hw, m⟩
  · simp at m
  · obtain ⟨z, hz, rfl⟩ := List.mem_map.mp hw
    exact nm_no (h z hz) (by omega) m
theorem join_inj {ws us : List Str} (h : ∀ w ∈ ws, IsNm w) (k : ∀ w ∈ us, IsNm w) (hw : ws ≠ []) (hu : us ≠ []) (e : Txt.join (Str.ofString " ") ws = Txt.join (Str.ofString " ") us) : ws = us := by
  have e1 := TL.split_join (y := Str.ofString " ") tl_sp (by decide +kernel) hw (fun p hp => nm_no (h p hp) (by omega))
  have e2 := TL.split_join (y := Str.ofString " ") tl_sp (by decide +kernel) hu (fun p hp => nm_no (k p hp) (by omega))
  rw [← e1, ← e2, e]
def cutText (ny fy : List Str) : Str := Txt.join (Str.ofString " ") ny ++ Str.ofString " | " ++ Txt.join (Str.ofString " ") fy
theorem cutText_inj {a b c d : List Str} (ha : ∀ w ∈ a, IsNm w) (hb : ∀ w ∈ b, IsNm w) (hc : ∀ w ∈ c, IsNm w) (hd : ∀ w ∈ d, IsNm w) (na : a ≠ []) (nb : b ≠ []) (nc : c ≠ []) (nd : d ≠ []) (e : cutText a b = cutText c d) : a = c ∧ b = d := by
  have e := congrArg tl e
  unfold cutText at e
  rw [tl_append, tl_append, tl_append, tl_append, tl_bar, List.append_assoc, List.append_assoc] at e
  have e : (tl (Txt.join (Str.ofString " ") a) ++ [32]) ++ 124 :: ([32] ++ tl (Txt.join (Str.ofString " ") b)) = (tl (Txt.join (Str.ofString " ") c) ++ [32]) ++ 124 :: ([32] ++ tl (Txt.join (Str.ofString " ") d)) := by simpa using e
  have no : ∀ {ws : List Str}, (∀ w ∈ ws, IsNm w) → 124 ∉ tl (Txt.join (Str.ofString " ") ws) ++ [32] := fun h m => by
    rcases List.mem_append.mp m with m | m
    · exact join_no h m
    · simp at m
  obtain ⟨e1, e2⟩ := bars_one e (no ha) (no hc)
  exact ⟨join_inj ha hc na nc (str_ext (List.append_cancel_right e1)), join_inj hb hd nb nd (str_ext (List.append_cancel_left e2))⟩
theorem join_room {ws : List Str} (h : ∀ w ∈ ws, IsNm w) (l : ws.length ≤ 1000) : (List.map (fun x => x.length) ws).sum + ws.length * (Str.ofString " ").length ≤ 16777216 := by
  have := sum_le (n := 8) ws fun w hw => (h w hw).hi
  have e : (Str.ofString " ").length = 1 := rfl
  rw [e]
  omega
theorem join_word {ws : List Str} (h : ∀ w ∈ ws, IsNm w) (l : ws.length ≤ 1000) : Word 9000 (Txt.join (Str.ofString " ") ws) :=
  Word.join (m := 1) (n := 8) (k := 1000) (word_of (by decide +kernel)) (fun w hw => word_nm (h w hw)) l
/-! ### the cut that a text tells -/
/-- rising, each word above the one ahead of it -/
def riseB : List Str → Bool
  | a :: b :: r => ltCps a.cps.toList b.cps.toList && riseB (b :: r)
  | _ => true
def sideB (ws : List Str) : Bool := decide (2 ≤ ws.length) && (ws.all nmB && riseB ws)
def apartB (a b : List Str) : Bool := a.all fun x => !decide (x ∈ b)
theorem apartB_iff {a b : List Str} : apartB a b = true ↔ apartS a b := by
  unfold apartB apartS
  simp [List.all_eq_true]
def readC (z : Str) : Option (List Str × List Str) := match Txt.split z (Str.ofString " | ") with
  | [a, b] =>
    let ns := Txt.split a (Str.ofString " ")
    let ms := Txt.split b (Str.ofString " ")
    if (sideB ns && (sideB ms && (apartB ns ms && ltCps (ns.headD "").cps.toList (ms.headD "").cps.toList))) = true then some (ns, ms) else none
  | _ => none
theorem lt_iff {a b : Str} : ltCps a.cps.toList b.cps.toList = true ↔ a.cps.toList < b.cps.toList := by rw [ltCps_eq]; exact decide_eq_true_iff
theorem rise_pair : ∀ {ws : List Str}, riseB ws = true → ws.Pairwise fun a b => a.cps.toList < b.cps.toList
  | [], _ => .nil
  | [a], _ => List.pairwise_singleton ..
  | a :: b :: r, h => by
    have h : (ltCps a.cps.toList b.cps.toList && riseB (b :: r)) = true := h
    rw [Bool.and_eq_true] at h
    have ih := rise_pair h.2
    have ab := lt_iff.mp h.1
    refine List.pairwise_cons.mpr ⟨fun y hy => ?_, ih⟩
    rcases List.mem_cons.mp hy with rfl | hy
    · exact ab
    · exact List.lt_trans ab ((List.pairwise_cons.mp ih).1 y hy)
theorem asc_rise : ∀ {ws : List Str}, ws.Pairwise leS → ws.Nodup → riseB ws = true
  | [], _, _ => rfl
  | [a], _, _ => rfl
  | a :: b :: r, p, d => by
    obtain ⟨p1, p2⟩ := List.pairwise_cons.mp p
    obtain ⟨d1, d2⟩ := List.nodup_cons.mp d
    show (ltCps a.cps.toList b.cps.toList && riseB (b :: r)) = true
    rw [Bool.and_eq_true]
    refine ⟨?_, asc_rise p2 d2⟩
    cases e : ltCps a.cps.toList b.cps.toList with
    | true => rfl
    | false => exact absurd (leS_anti (p1 b (.head _)) (show leS b a from e)) fun q => d1 (by rw [q]; exact .head _)
theorem rising_of : ∀ {l : List Str} {p : Str}, (p :: l).Pairwise leS → risingS p l = true
  | [], _, _ => rfl
  | x :: r, p, h => by
    obtain ⟨h1, h2⟩ := List.pairwise_cons.mp h
    show (!ltCps x.cps.toList p.cps.toList && risingS x r) = true
    rw [Bool.and_eq_true, Bool.not_eq_true']
    exact ⟨h1 x (.head _), rising_of h2⟩
theorem sorted_of {l : List Str} (h : l.Pairwise leS) : sortedS l = true := by
  cases l with
  | nil => rfl
  | cons x r => exact rising_of h
theorem rise_asc {ws : List Str} (h : riseB ws = true) : AscOf ws ws := by
  have p := rise_pair h
  refine ⟨sorted_of (p.imp fun {a b} q => leS_iff.mpr (List.le_of_lt q)), List.nodup_iff_pairwise_ne.mpr (p.imp fun {a b} q (e : a = b) => by rw [e] at q; exact List.lt_irrefl _ q), fun _ => .rfl⟩
theorem rise_iff {ws : List Str} : riseB ws = true ↔ AscOf ws ws := ⟨rise_asc, fun h => asc_rise (sorted_pair h.1) h.2.1⟩
theorem sideB_iff {ws : List Str} : sideB ws = true ↔ 2 ≤ ws.length ∧ (∀ w ∈ ws, IsNm w) ∧ AscOf ws ws := by
  unfold sideB
  rw [Bool.and_eq_true, Bool.and_eq_true, decide_eq_true_iff, rise_iff, List.all_eq_true]
  exact ⟨fun ⟨a, b, c⟩ => ⟨a, fun w h => nmB_iff.mp (b w h), c⟩, fun ⟨a, b, c⟩ => ⟨a, fun w h => nmB_iff.mpr (b w h), c⟩⟩
theorem split_two {z a b : Str} (e : Txt.split z (Str.ofString " | ") = [a, b]) : z = cutText (Txt.split a (Str.ofString " ")) (Txt.split b (Str.ofString " ")) := by
  unfold cutText
  rw [split_back, split_back]
  have := split_back z (Str.ofString " | ")
  rw [e] at this
  exact this.symm
/-- a cut of the words of a text has this text exactly if the text is read -/
theorem read_iff {z a b : Str} {ns ms hs ny fy : List Str} (e : Txt.split z (Str.ofString " | ") = [a, b]) (en : ns = Txt.split a (Str.ofString " ")) (em : ms = Txt.split b (Str.ofString " ")) (cn : CutOf ns ms hs ny fy) (nn : ∀ w ∈ ns, IsNm w) (nm : ∀ w ∈ ms, IsNm w) (ln : 2 ≤ ns.length) (lm : 2 ≤ ms.length) (ap : apartS ns ms) :
    (cutText ny fy = z → readC z = some (ny, fy)) ∧ (cutText ny fy ≠ z → readC z = none) := by
  have ez := split_two e
  rw [← en, ← em] at ez
  have hn : ns ≠ [] := by rintro rfl; simp at ln
  have hm : ms ≠ [] := by rintro rfl; simp at lm
  have tn := turned_of cn hn hm ap
  obtain ⟨ya, yb, aa, ab, y0, z0, ey, ez0, h⟩ := id tn
  have nya : ∀ w ∈ ya, IsNm w := fun w hw => nn w ((aa.2.2 w).mp hw)
  have nyb : ∀ w ∈ yb, IsNm w := fun w hw => nm w ((ab.2.2 w).mp hw)
  have hya : ya ≠ [] := by rintro rfl; cases ey
  have hyb : yb ≠ [] := by rintro rfl; cases ez0
  have hd : ∀ {l : List Str} {x : Str}, l.head? = some x → l.headD "" = x := fun {l x} q => by cases l with | nil => cases q | cons a r => cases q; rfl
  have fwd : cutText ny fy = z → ny = ns ∧ fy = ms ∧ ya = ns ∧ yb = ms ∧ ltCps y0.cps.toList z0.cps.toList = true := fun q => by
    rw [ez] at q
    rcases h with ⟨lt, rfl, rfl⟩ | ⟨lt, rfl, rfl⟩
    · obtain ⟨q1, q2⟩ := cutText_inj nya nyb nn nm hya hyb hn hm q
      exact ⟨q1, q2, q1, q2, lt⟩
    · obtain ⟨q1, q2⟩ := cutText_inj nyb nya nn nm hyb hya hn hm q
      refine absurd ?_ (ap z0 ?_)
      · exact (ab.2.2 z0).mp (List.mem_of_mem_head? ez0)
      · rw [← q1]; exact List.mem_of_mem_head? ez0
  have rd : readC z = if (sideB ns && (sideB ms && (apartB ns ms && ltCps (ns.headD "").cps.toList (ms.headD "").cps.toList))) = true then some (ns, ms) else none := by
    unfold readC
    rw [e, en, em]
  constructor
  · intro q
    obtain ⟨rfl, rfl, r1, r2, lt⟩ := fwd q
    rw [rd, if_pos]
    rw [Bool.and_eq_true, Bool.and_eq_true, Bool.and_eq_true]
    refine ⟨sideB_iff.mpr ⟨ln, nn, r1 ▸ aa.self⟩, sideB_iff.mpr ⟨lm, nm, r2 ▸ ab.self⟩, apartB_iff.mpr ap, ?_⟩
    rw [← r1, ← r2, hd ey, hd ez0]
    exact lt
  · intro q
    rw [rd, if_neg]
    intro c
    rw [Bool.and_eq_true, Bool.and_eq_true, Bool.and_eq_true] at c
    obtain ⟨c1, c2, _, c4⟩ := c
    obtain ⟨_, _, a1⟩ := sideB_iff.mp c1
    obtain ⟨_, _, a2⟩ := sideB_iff.mp c2
    have r1 := aa.unique a1
    have r2 := ab.unique a2
    rw [← r1, ← r2, hd ey, hd ez0] at c4
    rcases h with ⟨lt, rfl, rfl⟩ | ⟨lt, rfl, rfl⟩
    · exact q (by rw [ez, r1, r2])
    · rw [c4] at lt
      cases lt
theorem read_none {z a b : Str} (e : Txt.split z (Str.ofString " | ") = [a, b]) (h : ¬ ((2 ≤ (Txt.split a (Str.ofString " ")).length ∧ (∀ w ∈ Txt.split a (Str.ofString " "), IsNm w) ∧ (Txt.split a (Str.ofString " ")).Nodup) ∧ (2 ≤ (Txt.split b (Str.ofString " ")).length ∧ (∀ w ∈ Txt.split b (Str.ofString " "), IsNm w) ∧ (Txt.split b (Str.ofString " ")).Nodup) ∧ apartS (Txt.split a (Str.ofString " ")) (Txt.split b (Str.ofString " ")))) : readC z = none := by
  unfold readC
  rw [e]
  refine if_neg fun c => h ?_
  rw [Bool.and_eq_true, Bool.and_eq_true, Bool.and_eq_true] at c
  obtain ⟨c1, c2, c3, _⟩ := c
  obtain ⟨l1, n1, a1⟩ := sideB_iff.mp c1
  obtain ⟨l2, n2, a2⟩ := sideB_iff.mp c2
  exact ⟨⟨l1, n1, a1.2.1⟩, ⟨l2, n2, a2.2.1⟩, apartB_iff.mp c3⟩
end Z
namespace Z
open PySem PySem.Spec PyProof.Rows L2 TL
theorem rowN_side {ns : List Str} (l : 2 ≤ ns.length) (h : ∀ n ∈ ns, IsNm n) (d : ns.Nodup) : sideD (rowN (ns.map V.str)) = true := by
  rw [rowN_of h d]
  exact decide_eq_true l
/-- words that make no cut -/
theorem bad_none {z a b part : Str} (e : Txt.split z (Str.ofString " | ") = [a, b]) (h : cutBad part (rowN ((Txt.split a (Str.ofString " ")).map V.str)) (rowN ((Txt.split b (Str.ofString " ")).map V.str))) : readC z = none := by
  refine read_none e ?_
  rintro ⟨⟨l1, n1, d1⟩, ⟨l2, n2, d2⟩, ap⟩
  rcases h with ⟨_, q⟩ | ⟨_, _, q | ⟨x, y, q1, q2, q⟩⟩
  · rw [rowN_side l1 n1 d1] at q
    cases q
  · rw [rowN_side l2 n2 d2] at q
    cases q
  · rw [rowN_of n1 d1] at q1
    rw [rowN_of n2 d2] at q2
    cases q1
    cases q2
    exact q ap
theorem read_three {z : Str} (h : ∀ a b, Txt.split z (Str.ofString " | ") ≠ [a, b]) : readC z = none := by
  unfold readC
  split
  · rename_i a b e
    exact absurd e (h a b)
  · rfl
theorem kind_words {K : PySem.W.Frag} {H : Hp} {ws : List Str} {n : Nat} (h : ∀ w ∈ ws, w.length ≤ n) (hn : n ≤ 1000000) : ∀ v ∈ ws.map V.str, Kind K H v := fun v hv => by
  obtain ⟨w, hw, rfl⟩ := List.mem_map.mp hv
  exact .inl ⟨w, rfl, fit (Nat.le_trans (h w hw) hn)⟩
end Z
namespace Z
open PySem PySem.Spec PyProof.Rows L2 TL
/-! ### texts with a slash -/
theorem tl_slash : tl (Str.ofString " / ") = [32, 47, 32] := by decide +kernel
theorem join_noP {ws : List Str} (h : ∀ w ∈ ws, IsNm w) : 47 ∉ tl (Txt.join (Str.ofString " ") ws) := fun m => by
  rw [join_eq, tl_join, tl_sp] at m
  rcases of_joinL _ m with m | ⟨w, hw, m⟩
  · simp at m
  · obtain ⟨z, hz, rfl⟩ := List.mem_map.mp hw
    exact nm_no (h z hz) (by omega) m
def partText (ny fy : List Str) : Str := Txt.join (Str.ofString " ") ny ++ Str.ofString " / " ++ Txt.join (Str.ofString " ") fy
theorem partText_inj {a b c d : List Str} (ha : ∀ w ∈ a, IsNm w) (hb : ∀ w ∈ b, IsNm w) (hc : ∀ w ∈ c, IsNm w) (hd : ∀ w ∈ d, IsNm w) (na : a ≠ []) (nb : b ≠ []) (nc : c ≠ []) (nd : d ≠ []) (e : partText a b = partText c d) : a = c ∧ b = d := by
  have e := congrArg tl e
  unfold partText at e
  rw [tl_append, tl_append, tl_append, tl_append, tl_slash, List.append_assoc, List.append_assoc] at e
  have e : (tl (Txt.join (Str.ofString " ") a) ++ [32]) ++ 47 :: ([32] ++ tl (Txt.join (Str.ofString " ") b)) = (tl (Txt.join (Str.ofString " ") c) ++ [32]) ++ 47 :: ([32] ++ tl (Txt.join (Str.ofString " ") d)) := by simpa using e
  have no : ∀ {ws : List Str}, (∀ w ∈ ws, IsNm w) → 47 ∉ tl (Txt.join (Str.ofString " ") ws) ++ [32] := fun h m => by
    rcases List.mem_append.mp m with m | m
    · exact join_noP h m
    · simp at m
  obtain ⟨e1, e2⟩ := bars_one e (no ha) (no hc)
  exact ⟨join_inj ha hc na nc (str_ext (List.append_cancel_right e1)), join_inj hb hd nb nd (str_ext (List.append_cancel_left e2))⟩
def coupB (ws : List Str) : Bool := decide (ws.length = 2) && (ws.all nmB && riseB ws)
def readP (z : Str) : Option (List Str × List Str) := match Txt.split z (Str.ofString " / ") with
  | [a, b] =>
    let ns := Txt.split a (Str.ofString " ")
    let ms := Txt.split b (Str.ofString " ")
    if (coupB ns && (coupB ms && (apartB ns ms && ltCps (ns.headD "").cps.toList (ms.headD "").cps.toList))) = true then some (ns, ms) else none
  | _ => none
theorem coupB_iff {ws : List Str} : coupB ws = true ↔ ws.length = 2 ∧ (∀ w ∈ ws, IsNm w) ∧ AscOf ws ws := by
  unfold coupB
  rw [Bool.and_eq_true, Bool.and_eq_true, decide_eq_true_iff, rise_iff, List.all_eq_true]
  exact ⟨fun ⟨a, b, c⟩ => ⟨a, fun w h => nmB_iff.mp (b w h), c⟩, fun ⟨a, b, c⟩ => ⟨a, fun w h => nmB_iff.mpr (b w h), c⟩⟩
theorem split_twoP {z a b : Str} (e : Txt.split z (Str.ofString " / ") = [a, b]) : z = partText (Txt.split a (Str.ofString " ")) (Txt.split b (Str.ofString " ")) := by
  unfold partText
  rw [split_back, split_back]
  have := split_back z (Str.ofString " / ")
  rw [e] at this
  exact this.symm
theorem read_iffP {z a b : Str} {ns ms hs ny fy : List Str} (e : Txt.split z (Str.ofString " / ") = [a, b]) (en : ns = Txt.split a (Str.ofString " ")) (em : ms = Txt.split b (Str.ofString " ")) (cn : CutOf ns ms hs ny fy) (nn : ∀ w ∈ ns, IsNm w) (nm : ∀ w ∈ ms, IsNm w) (ln : ns.length = 2) (lm : ms.length = 2) (ap : apartS ns ms) :
    (partText ny fy = z → readP z = some (ny, fy)) ∧ (partText ny fy ≠ z → readP z = none) := by
  have ez := split_twoP e
  rw [← en, ← em] at ez
  have hn : ns ≠ [] := by rintro rfl; simp at ln
  have hm : ms ≠ [] := by rintro rfl; simp at lm
  have tn := turned_of cn hn hm ap
  obtain ⟨ya, yb, aa, ab, y0, z0, ey, ez0, h⟩ := id tn
  have nya : ∀ w ∈ ya, IsNm w := fun w hw => nn w ((aa.2.2 w).mp hw)
  have nyb : ∀ w ∈ yb, IsNm w := fun w hw => nm w ((ab.2.2 w).mp hw)
  have hya : ya ≠ [] := by rintro rfl; cases ey
  have hyb : yb ≠ [] := by rintro rfl; cases ez0
  have hd : ∀ {l : List Str} {x : Str}, l.head? = some x → l.headD "" = x := fun {l x} q => by cases l with | nil => cases q | cons a r => cases q; rfl
  have fwd : partText ny fy = z → ny = ns ∧ fy = ms ∧ ya = ns ∧ yb = ms ∧ ltCps y0.cps.toList z0.cps.toList = true := fun q => by
    rw [ez] at q
    rcases h with ⟨lt, rfl, rfl⟩ | ⟨lt, rfl, rfl⟩
    · obtain ⟨q1, q2⟩ := partText_inj nya nyb nn nm hya hyb hn hm q
      exact ⟨q1, q2, q1, q2, lt⟩
    · obtain ⟨q1, q2⟩ := partText_inj nyb nya nn nm hyb hya hn hm q
      refine absurd ?_ (ap z0 ?_)
      · exact (ab.2.2 z0).mp (List.mem_of_mem_head? ez0)
      · rw [← q1]; exact List.mem_of_mem_head? ez0
  have rd : readP z = if (coupB ns && (coupB ms && (apartB ns ms && ltCps (ns.headD "").cps.toList (ms.headD "").cps.toList))) = true then some (ns, ms) else none := by
    unfold readP
    rw [e, en, em]
  constructor
  · intro q
    obtain ⟨rfl, rfl, r1, r2, lt⟩ := fwd q
    rw [rd, if_pos]
    rw [Bool.and_eq_true, Bool.and_eq_true, Bool.and_eq_true]
    refine ⟨coupB_iff.mpr ⟨ln, nn, r1 ▸ aa.self⟩, coupB_iff.mpr ⟨lm, nm, r2 ▸ ab.self⟩, apartB_iff.mpr ap, ?_⟩
    rw [← r1, ← r2, hd ey, hd ez0]
    exact lt
  · intro q
    rw [rd, if_neg]
    intro c
    rw [Bool.and_eq_true, Bool.and_eq_true, Bool.and_eq_true] at c
    obtain ⟨c1, c2, _, c4⟩ := c
    obtain ⟨_, _, a1⟩ := coupB_iff.mp c1
    obtain ⟨_, _, a2⟩ := coupB_iff.mp c2
    have r1 := aa.unique a1
    have r2 := ab.unique a2
    rw [← r1, ← r2, hd ey, hd ez0] at c4
    rcases h with ⟨lt, rfl, rfl⟩ | ⟨lt, rfl, rfl⟩
    · exact q (by rw [ez, r1, r2])
    · rw [c4] at lt
      cases lt
theorem read_noneP {z a b : Str} (e : Txt.split z (Str.ofString " / ") = [a, b]) (h : ¬ (((Txt.split a (Str.ofString " ")).length = 2 ∧ (∀ w ∈ Txt.split a (Str.ofString " "), IsNm w) ∧ (Txt.split a (Str.ofString " ")).Nodup) ∧ ((Txt.split b (Str.ofString " ")).length = 2 ∧ (∀ w ∈ Txt.split b (Str.ofString " "), IsNm w) ∧ (Txt.split b (Str.ofString " ")).Nodup) ∧ apartS (Txt.split a (Str.ofString " ")) (Txt.split b (Str.ofString " ")))) : readP z = none := by
  unfold readP
  rw [e]
  refine if_neg fun c => h ?_
  rw [Bool.and_eq_true, Bool.and_eq_true, Bool.and_eq_true] at c
  obtain ⟨c1, c2, c3, _⟩ := c
  obtain ⟨l1, n1, a1⟩ := coupB_iff.mp c1
  obtain ⟨l2, n2, a2⟩ := coupB_iff.mp c2
  exact ⟨⟨l1, n1, a1.2.1⟩, ⟨l2, n2, a2.2.1⟩, apartB_iff.mp c3⟩
theorem rowN_coup {ns : List Str} (l : ns.length = 2) (h : ∀ n ∈ ns, IsNm n) (d : ns.Nodup) : coupleD (rowN (ns.map V.str)) = true := by
  rw [rowN_of h d]
  exact decide_eq_true l
theorem bad_noneP {z a b part : Str} (e : Txt.split z (Str.ofString " / ") = [a, b]) (h : partBad part (rowN ((Txt.split a (Str.ofString " ")).map V.str)) (rowN ((Txt.split b (Str.ofString " ")).map V.str))) : readP z = none := by
  refine read_noneP e ?_
  rintro ⟨⟨l1, n1, d1⟩, ⟨l2, n2, d2⟩, ap⟩
  rcases h with ⟨_, q⟩ | ⟨_, _, q | ⟨x, y, q1, q2, q⟩⟩
  · rw [rowN_coup l1 n1 d1] at q
    cases q
  · rw [rowN_coup l2 n2 d2] at q
    cases q
  · rw [rowN_of n1 d1] at q1
    rw [rowN_of n2 d2] at q2
    cases q1
    cases q2
    exact q ap
theorem read_threeP {z : Str} (h : ∀ a b, Txt.split z (Str.ofString " / ") ≠ [a, b]) : readP z = none := by
  unfold readP
  split
  · rename_i a b e
    exact absurd e (h a b)
  · rfl
end Z
namespace Z
open PySem PySem.Spec PyProof.Rows L2
/-! ### the order of data -/
def rOrdD (K : PySem.W.Frag) (f : PyData → PyData → Bool) : R2 := fun x y H Q => ∃ d e, Dp K H x d ∧ Dp K H y e ∧ PySem.W.alike d e = true ∧ d ≠ .none ∧ d.depth ≤ 64 ∧ Q (.bl (f d e)) H
section
variable {X : Cx} {K : PySem.W.Frag}
theorem room_ord {A : Around} {d e : PyData} (hu : A.units + 70 < cLine) (h : d.depth ≤ 64) : A.units + min d.depth e.depth < cLine := by omega
theorem kop_ltD (hu : X.A.units + 70 < cLine) (hK : X.K = K := by rfl) : OpR X (compareOp .Lt) (rOrdD K fun d e => PySem.W.dataLt d e) := by
  subst hK
  rintro pins s σ H x y v u Q I rx ry ⟨d, e, hd, he, al, nn, dp, q⟩
  obtain ⟨as, r1⟩ := Dp.reads I d x v hd rx
  obtain ⟨bs, r2⟩ := Dp.reads I e y u he ry
  exact PySem.W.lt_data r1 r2 al nn (room_ord hu dp) ⟨.bl _, H, I, rfl, q⟩
theorem kop_gtD (hu : X.A.units + 70 < cLine) (hK : X.K = K := by rfl) : OpR X (compareOp .Gt) (rOrdD K fun d e => PySem.W.dataLt e d) := by
  subst hK
  rintro pins s σ H x y v u Q I rx ry ⟨d, e, hd, he, al, nn, dp, q⟩
  obtain ⟨as, r1⟩ := Dp.reads I d x v hd rx
  obtain ⟨bs, r2⟩ := Dp.reads I e y u he ry
  exact PySem.W.gt_data r1 r2 al nn (room_ord hu dp) ⟨.bl _, H, I, rfl, q⟩
theorem kop_leD (hu : X.A.units + 70 < cLine) (hK : X.K = K := by rfl) : OpR X (compareOp .LtE) (rOrdD K fun d e => !PySem.W.dataLt e d) := by
  subst hK
  rintro pins s σ H x y v u Q I rx ry ⟨d, e, hd, he, al, nn, dp, q⟩
  obtain ⟨as, r1⟩ := Dp.reads I d x v hd rx
  obtain ⟨bs, r2⟩ := Dp.reads I e y u he ry
  exact PySem.W.le_data r1 r2 al nn (room_ord hu dp) ⟨.bl _, H, I, rfl, q⟩
theorem kop_geD (hu : X.A.units + 70 < cLine) (hK : X.K = K := by rfl) : OpR X (compareOp .GtE) (rOrdD K fun d e => !PySem.W.dataLt d e) := by
  subst hK
  rintro pins s σ H x y v u Q I rx ry ⟨d, e, hd, he, al, nn, dp, q⟩
  obtain ⟨as, r1⟩ := Dp.reads I d x v hd rx
  obtain ⟨bs, r2⟩ := Dp.reads I e y u he ry
  exact PySem.W.ge_data r1 r2 al nn (room_ord hu dp) ⟨.bl _, H, I, rfl, q⟩
end
/-- rows of texts, by the first place at which they differ -/
def lexS : List Str → List Str → Bool
  | [], [] => false
  | [], _ :: _ => true
  | _ :: _, [] => false
  | x :: xs, y :: ys => if x = y then lexS xs ys else sLt x y
theorem alike_strs : ∀ xs ys : List Str, PySem.W.alikeAll (xs.map PyData.str) (ys.map PyData.str) = true
  | [], _ => by simp only [List.map_nil, PySem.W.alikeAll]
  | _ :: _, [] => by simp only [List.map_cons, List.map_nil, PySem.W.alikeAll]
  | x :: xs, y :: ys => by
    simp only [List.map_cons, PySem.W.alikeAll, PySem.W.alike, Bool.true_and]
    exact alike_strs xs ys
theorem lex_strs : ∀ xs ys : List Str, PyProof.Rows.lexLt PyProof.Rows.itemOrd (PySem.W.keyToksAll (xs.map PyData.str)) (PySem.W.keyToksAll (ys.map PyData.str)) = lexS xs ys
  | [], [] => by simp only [List.map_nil, PySem.W.keyToksAll, lexS]; rfl
  | [], _ :: _ => by simp only [List.map_nil, List.map_cons, PySem.W.keyToksAll, lexS]; rfl
  | _ :: _, [] => by simp only [List.map_nil, List.map_cons, PySem.W.keyToksAll, lexS]; rfl
  | x :: xs, y :: ys => by
    have al : PySem.W.alike (.str x) (.str y) = true := by simp only [PySem.W.alike]
    have eq : PyData.eqv (.str x) (.str y) = decide (x = y) := by
      have := eqv_strs [x] [y]
      simp only [List.map_cons, List.map_nil, PyData.eqvAll, Bool.and_true] at this
      rw [this]
      simp
    show PyProof.Rows.lexLt PyProof.Rows.itemOrd (PySem.W.keyToksAll (PyData.str x :: xs.map PyData.str)) (PySem.W.keyToksAll (PyData.str y :: ys.map PyData.str)) = if x = y then lexS xs ys else sLt x y
    by_cases h : x = y
    · rw [PySem.W.dataLt_all_yes al (by rw [eq, decide_eq_true h]), if_pos h, lex_strs xs ys]
    · rw [PySem.W.dataLt_all_no al (by rw [eq, decide_eq_false h]), if_neg h, PySem.W.dataLt_str]
      rfl
theorem lt_strs (xs ys : List Str) : PySem.W.dataLt (.tuple (xs.map PyData.str)) (.tuple (ys.map PyData.str)) = lexS xs ys := by rw [PySem.W.dataLt_tuple, lex_strs]
theorem alike_tup (xs ys : List Str) : PySem.W.alike (.tuple (xs.map PyData.str)) (.tuple (ys.map PyData.str)) = true := by
  simp only [PySem.W.alike]
  exact alike_strs xs ys
theorem lex_two {a b c d : PyData} (h1 : PySem.W.alike a c = true) (h2 : PySem.W.alike b d = true) : PySem.W.dataLt (.tuple [a, b]) (.tuple [c, d]) = if PyData.eqv a c = true then PySem.W.dataLt b d else PySem.W.dataLt a c := by
  rw [PySem.W.dataLt_tuple]
  cases e : PyData.eqv a c with
  | true =>
    rw [PySem.W.dataLt_all_yes h1 e, if_pos rfl]
    cases e2 : PyData.eqv b d with
    | true =>
      rw [PySem.W.dataLt_all_yes h2 e2]
      have k : PySem.W.keyToks b = PySem.W.keyToks d := (PySem.W.toks_eqv b d h2).1 e2
      unfold PySem.W.dataLt
      rw [k]
      refine Eq.trans ?_ (PySem.W.dataLt_self d).symm
      simp only [PySem.W.keyToksAll]; rfl
    | false => rw [PySem.W.dataLt_all_no h2 e2]
  | false => rw [PySem.W.dataLt_all_no h1 e, if_neg Bool.false_ne_true]
theorem alike_two {a b c d : PyData} (h1 : PySem.W.alike a c = true) (h2 : PySem.W.alike b d = true) : PySem.W.alike (.tuple [a, b]) (.tuple [c, d]) = true := by
  simp only [PySem.W.alike, PySem.W.alikeAll, h1, h2, Bool.and_true]
/-! ### partings by their order -/
def pKey (a : List Str × List Str × List Str) : PyData := .tuple [.tuple (a.1.map .str), .tuple [.tuple (a.2.1.map .str), .tuple (a.2.2.map .str)]]
def ltP (a b : List Str × List Str × List Str) : Bool := if a.1 = b.1 then (if a.2.1 = b.2.1 then lexS a.2.2 b.2.2 else lexS a.2.1 b.2.1) else lexS a.1 b.1
theorem alike_pKey (a b : List Str × List Str × List Str) : PySem.W.alike (pKey a) (pKey b) = true := alike_two (alike_tup _ _) (alike_two (alike_tup _ _) (alike_tup _ _))
theorem lt_pKey (a b : List Str × List Str × List Str) : PySem.W.dataLt (pKey a) (pKey b) = ltP a b := by
  unfold pKey ltP
  rw [lex_two (alike_tup _ _) (alike_two (alike_tup _ _) (alike_tup _ _)), lex_two (alike_tup _ _) (alike_tup _ _), eqv_tup, eqv_tup, lt_strs, lt_strs, lt_strs]
  simp only [decide_eq_true_eq]
theorem depth_pKey (a : List Str × List Str × List Str) : (pKey a).depth ≤ 64 := by simp [pKey, PyData.depth, PyData.depthAll, deep_strs]
end Z
namespace Z
open PySem PySem.Spec PyProof.Rows L2
/-! ### enumerate of a tuple -/
section
abbrev enumO (it : Addr) : Obj := { cls := .type "enumerate", data := .fields #[.none, .bool false, .ref it, rawInt 0, .none, .none] }
theorem enum_made {v : Value} {o : Obj} {L : Heap → Prop} (B : Begins v o L) : Meets (Builtin.«enumerate.__new__» ⟨[.type "enumerate", v], []⟩) (fun _ R s => L s.heap ∧ R (.ok (.ret (.ref (s.heap.push o).objs.size))) { s with heap := (s.heap.push o).push (enumO s.heap.objs.size) }) :=
  .of_wp fun prog w A R s h => by
    obtain ⟨hp, g, d, tk, os⟩ := s; obtain ⟨l, k⟩ := h
    have u := sub_enumerate
    have it : ∀ {A' : Around} {E Q : Value → Shared → Prop}, Q (.ref hp.objs.size) ⟨hp.push o, g, d, tk, os⟩ → wpAny (model prog w) A' (pyIter v) Q E ⟨hp, g, d, tk, os⟩ := fun q => B.iter prog w _ _ ⟨hp, g, d, tk, os⟩ _ l q
    wp_walk using it
    refine wpAny_stack_any (fun x => (wpAny_pure ?_)); split
    · rename_i c _ _ _ _ _; cases (c == Value.type "enumerate") <;> (wp_walk using it; exact ⟨_, rfl, k⟩)
    · wp_walk using it; exact ⟨_, rfl, k⟩
variable {prog : Program} {w : World} {A : Around} {E : Value → Shared → Prop} {s : Shared}
theorem call_enumB {v : Value} {o : Obj} {L : Heap → Prop} {Q : Value → Shared → Prop} (B : Begins v o L) (l : L s.heap)
    (h : ∀ h', IsEnum h' (s.heap.objs.size + 1) s.heap.objs.size 0 .none → h'.get? s.heap.objs.size = some o → (∀ b o, s.heap.get? b = some o → h'.get? b = some o) → Q (.ref (s.heap.objs.size + 1)) { s with heap := h' }) : wpAny (model prog w) A (call (.type "enumerate") [v]) Q E s := by
  have z : (s.heap.push o).objs.size = s.heap.objs.size + 1 := Heap.size_push ..
  refine callType_new F.called_enumerate (by decide) (F.typeCall_enumerate_1 _) (F.newCall_enumerate_1 _) (fun q => F.args_object_init_2 q _) F.entry_enumerate_new (enum_made B) ⟨l, ?_⟩
  show _ ∧ _; rw [z]
  have e : IsEnum ((s.heap.push o).push (enumO s.heap.objs.size)) (s.heap.objs.size + 1) s.heap.objs.size 0 .none := by have q := Heap.get?_push_size (s.heap.push o) (o := enumO s.heap.objs.size) rfl; rw [z] at q; exact q
  exact ⟨⟨_, e, rfl⟩, h _ e (Heap.get?_push_of_some _ (Heap.get?_push_size _ B.free)) fun b o x => Heap.get?_push_of_some _ (Heap.get?_push_of_some _ x)⟩
end
/-- the items of the tuple at a in new pairs -/
def IteT (K : PySem.W.Frag) (a : Addr) : It := ⟨fun i H => ∃ (xs : List V) (x : V), SqT K H a xs ∧ xs[i]? = some x,
  fun i H v H' => ∃ T x, v = .ref T ∧ H T = none ∧ H' = upd H T (.tup [.int (i : Nat), x]) ∧ ∀ xs, SqT K H a xs → xs[i]? = some x, fun i H => ∃ xs : List V, SqT K H a xs ∧ xs.length ≤ i⟩
theorem enum_apart {h : Heap} {e it a : Addr} {i : Int} {old : Value} {its : Array Value} (he : IsEnum h e it i old) (ht : h.IsTuple a its) : e ≠ a := fun q => by
  subst q; obtain ⟨o, e1, c, _⟩ := ht; have e2 := he.symm.trans e1; cases e2; simp at c
theorem iter_apart {h : Heap} {it a : Addr} {i : Nat} {its : Array Value} (hi : h.IsTupleIter it a i) (ht : h.IsTuple a its) : a ≠ it := fun q => by
  subst q; obtain ⟨o, e1, c, _⟩ := ht; obtain ⟨o2, e2, c2, _⟩ := hi; rw [e1] at e2; cases e2; rw [c] at c2; simp at c2
theorem turn_enumT {P : Program} {w : World} {K : PySem.W.Frag} {elts : List Expr} {kk : Nat} {tpos : Pos} (a e it : Addr) :
    Turn P w K (.Tuple elts kk tpos) (IteT K a) [e, it] e (fun i h => (∃ old, IsEnum h e it ((i : Nat) : Int) old) ∧ h.IsTupleIter it a i ∧ e ≠ it) where
  mem := List.mem_cons_self ..
  obj := fun i h st b hb => by
    obtain ⟨⟨old, he⟩, ⟨o, ho, hc, hd⟩, _⟩ := st
    rcases List.mem_cons.mp hb with z | z
    · subst z; exact ⟨_, he, fun v q => nomatch q⟩
    · obtain rfl := List.mem_singleton.mp z; exact ⟨o, ho, fun v q => by rw [hd] at q; cases q⟩
  keep := fun i h h' ⟨⟨old, he⟩, hi, ne⟩ k => ⟨⟨old, k e (by simp) _ he⟩, hi.at fun o q => k it (by simp) o q, ne⟩
  item := by
    intro X hP hw hK hc i pins s σ H E I hf st hg
    subst hP hw hK
    obtain ⟨⟨old, he⟩, hit, ne⟩ := st; obtain ⟨xs, x, hq, hx⟩ := hg
    obtain ⟨its, rv, p, hz⟩ := I.tuple hq; obtain ⟨u, hu, ru⟩ := rv.get hx
    have le : e < s.heap.objs.size := Heap.lt_size he
    have li : it < s.heap.objs.size := by obtain ⟨_, q, _⟩ := hit; exact Heap.lt_size q
    have nea := enum_apart he p
    have nai := iter_apart hit p
    have lt : i < its.toArray.size := by have := (List.getElem?_eq_some_iff.mp hu).1; simpa using this
    refine wpAny_pyNext_enum_itemD (Draws.tuple (A := X.A.in1) (show X.A.in1.handled = none from I.ok.hd hc) it a nai its.toArray) he ⟨hit, p⟩ lt ne (by simp [ne, nea]) (fun y h' tk hy ho st' hT _ hk => ?_)
    have ey : y = u := by have q : its.toArray[i]? = some u := by simpa using hu
                          exact Option.some.inj (hy.symm.trans q)
    subst ey
    refine ⟨_, rfl, wpAny_letOwnedTupleGo_enum (s := { s with heap := h', toks := tk + 1 }) ho (fun h'' he' sb => ?_)⟩
    have T2 : h''.get? s.heap.objs.size = some { cls := .type "tuple", data := .seq #[.int i tk, y] } := (sb.2 _ (Nat.ne_of_gt le)).trans hT
    have I1 := I.turnedNew (t' := tk + 1) (ch := [e, it]) (T := s.heap.objs.size) (ob := .tup [.int (i : Nat), x]) (fun b ob hb q => (sb.2 b (fun z => hb (by simp [z]))).trans (hk b ob (fun z => hb (by simp [z])) (fun z => hb (by simp [z])) q)) hf (Nat.le_refl _)
      ⟨by show 2 ≤ sizeLine; decide, [.int i tk, y], .cons ⟨_, rfl⟩ (.cons ru .nil), ⟨_, T2, rfl, _, rfl⟩⟩
    refine ⟨.ref s.heap.objs.size, _, I1, rfl, ⟨_, x, rfl, I.hok.fresh (Nat.le_refl _), rfl, fun ys hy => by rw [I.tuple_inj hy hq]; exact hx⟩, ⟨⟨y, ?_⟩, st'.1.at fun o q => (sb.2 it (Ne.symm ne)).trans q, ne⟩, fun b hb => ?_⟩
    · rw [show ((i + 1 : Nat) : Int) = (i : Int) + 1 by omega]; exact he'
    · have lb : b < s.heap.objs.size := by
        rcases List.mem_cons.mp hb with z | z
        · rw [z]; exact le
        · rw [List.mem_singleton.mp z]; exact li
      rw [upd_ne (Nat.ne_of_lt lb)]; exact (hf b hb).1
  done := by
    intro X hP hw hK hc i pins s σ H E I hf st hg
    subst hP hw hK
    obtain ⟨⟨old, he⟩, hit, ne⟩ := st; obtain ⟨xs, hq, hx⟩ := hg
    obtain ⟨its, rv, p, hz⟩ := I.tuple hq; obtain ⟨f0, f1, f2, f3, f4, f5⟩ := hf it (by simp)
    have nai := iter_apart hit p
    have hl := rv.length
    unfold pyNext
    have T : s.TypeIs (.ref e) "enumerate" := ⟨_, he, rfl⟩
    refine wpAny_bind (wpAny_attempt (wpAny_callSpecial?_slot (name := "__next__") T F.slot_enumerate_next (wpAny_call_entry F.slot_enumerate_next T F.entry_enumerate_next ?_ (F.args_enumerate_next_1 _))))
    show wpAny _ _ (field (.ref e) 2 >>= _) _ _ _
    refine wpAny_bind (wpAny_field he rfl (x := .ref it) rfl (wpAny_bind (RZ.nextOf_tuple_end (I.ok.hd hc) hit p (by simp; omega) fun h' x eb hx' => ?_)))
    obtain ⟨o, ho, c⟩ := hx'
    exact wpAny_bind (wpAny_isInstance (T := "StopIteration") (b := true) ⟨o, ho, c⟩ isSubtype_stop (wpAny_pure ⟨rfl, I.turned (t' := s.toks) (fun b o hb q => eb b o hb q) f0 f1 f3 f4 f5⟩))
  self := fun A i s Q E ⟨⟨_, he⟩, _⟩ h => wpAny_pyIter_enum he h
def iEnumT (K : PySem.W.Frag) (ta : TA) : TI := fun σ H R => ta σ H fun vs H1 => ∃ a xs, vs = [.ref a] ∧ SqT K H1 a xs ∧ R (IteT K a) H1
theorem kpi_enumT {X : Cx} {K : PySem.W.Frag} {e : Expr} {ta : TA} {p pos tpos : Pos} {elts : List Expr} {kk : Nat} (hg : Gl X "enumerate") (hm : X.mg "enumerate" = none) (ha : PA X [e] ta) (hs : starEach [e] X.env = [(false, eval e X.env)] := by rfl) (hK : X.K = K := by rfl) :
    PI X (.Tuple elts kk tpos) (.Call (.Name "enumerate" p) [e] [] pos) (iEnumT K ta) := by
  subst hK
  refine ⟨fun pins s σ H R I h => Call_ (ld_blt I hg hm boot_enumerate (PyProof.Rows.callWith_type1 (thn (ha.run pos pins s σ H _ I h) fun us s1 ⟨vs, H1, I1, r1, q1⟩ => ?_) hs rfl))⟩
  obtain ⟨a, xs, rfl, hq, q⟩ := q1
  cases r1 with
  | cons r rr =>
    cases rr; cases r
    obtain ⟨its, rv, p', hz⟩ := I1.tuple hq
    refine call_enumB (begins_tuple a its.toArray) p' fun h' he hi hk => wpAny_pyIter_enum he ?_
    refine ⟨s1.heap.objs.size + 1, [s1.heap.objs.size + 1, s1.heap.objs.size], _, _, H1, rfl, I1.kept (t' := s1.toks) hk, turn_enumT a (s1.heap.objs.size + 1) s1.heap.objs.size, ⟨⟨.none, he⟩, ⟨_, hi, rfl, rfl⟩, Nat.succ_ne_self _⟩, fun b hb => ?_, q⟩
    have le : s1.heap.objs.size ≤ b := by
      rcases List.mem_cons.mp hb with z | z
      · rw [z]; exact Nat.le_add_right _ _
      · rw [List.mem_singleton.mp z]; exact Nat.le_refl _
    exact I1.fpOk le (I1.hok.fresh le)
theorem walk_enumT {K : PySem.W.Frag} {a : Addr} {xs : List V} : Walk (IteT K a) xs.length (fun H => SqT K H a xs) (YPair (fun i => some (.int (i : Nat))) (fun i => xs[i]?)) := by
  refine ⟨fun i _ hi q => ⟨xs, xs[i], q, by simp [hi]⟩, fun _ q => ⟨xs, q, Nat.le_refl _⟩, fun i H v H' _ q ⟨T, x, h1, h2, h3, h4⟩ => ⟨T, .int (i : Nat), x, h1, h2, h3, rfl, h4 xs q⟩⟩
end Z
namespace Z
open PySem PySem.Spec PyProof.Rows L2
/-! ### comprehensions whose items are new things -/
def RowsV (R : V → V → Hp → Prop) (H : Hp) : List V → List V → Prop
  | [], [] => True
  | r :: rs, x :: xs => R x r H ∧ RowsV R H rs xs
  | _, _ => False
theorem RowsV.len {R : V → V → Hp → Prop} {H : Hp} : ∀ {rs xs : List V}, RowsV R H rs xs → rs.length = xs.length
  | [], [], _ => rfl
  | _ :: rs, _ :: xs, h => by rw [List.length_cons, List.length_cons, RowsV.len (rs := rs) (xs := xs) h.2]
theorem RowsV.imp {R S : V → V → Hp → Prop} {H H' : Hp} : ∀ {rs xs : List V}, (∀ x r, R x r H → S x r H') → RowsV R H rs xs → RowsV S H' rs xs
  | [], [], _, _ => trivial
  | _ :: rs, _ :: xs, k, h => ⟨k _ _ h.1, RowsV.imp (rs := rs) (xs := xs) k h.2⟩
theorem RowsV.snoc {R : V → V → Hp → Prop} {H : Hp} {r x : V} (e : R x r H) : ∀ {rs xs : List V}, RowsV R H rs xs → RowsV R H (rs ++ [r]) (xs ++ [x])
  | [], [], _ => ⟨e, trivial⟩
  | _ :: rs, _ :: xs, h => ⟨h.1, RowsV.snoc e (rs := rs) (xs := xs) h.2⟩
theorem RowsV.app {R : V → V → Hp → Prop} {H : Hp} {rs2 xs2 : List V} (e : RowsV R H rs2 xs2) : ∀ {rs xs : List V}, RowsV R H rs xs → RowsV R H (rs ++ rs2) (xs ++ xs2)
  | [], [], _ => e
  | _ :: rs, _ :: xs, h => ⟨h.1, RowsV.app e (rs := rs) (xs := xs) h.2⟩
theorem RowsV.at {R : V → V → Hp → Prop} {H : Hp} : ∀ {rs xs : List V} {i : Nat} {x : V}, RowsV R H rs xs → xs[i]? = some x → ∃ r, rs[i]? = some r ∧ R x r H := by
  intro rs
  induction rs with
  | nil => intro xs i x h e; cases xs with
    | nil => cases e
    | cons _ _ => exact h.elim
  | cons r rs ih => intro xs i x h e; cases xs with
    | nil => exact h.elim
    | cons y xs => cases i with
      | zero => cases e; exact ⟨r, rfl, h.1⟩
      | succ i => exact ih (xs := xs) (i := i) h.2 e
theorem RowsV.at2 {R : V → V → Hp → Prop} {H : Hp} : ∀ {rs xs : List V} {i : Nat} {r : V}, RowsV R H rs xs → rs[i]? = some r → ∃ x, xs[i]? = some x ∧ R x r H := by
  intro rs
  induction rs with
  | nil => intro xs i x h e; cases e
  | cons r rs ih => intro xs i x h e; cases xs with
    | nil => exact h.elim
    | cons y xs => cases i with
      | zero => cases e; exact ⟨y, rfl, h.1⟩
      | succ i => exact ih (xs := xs) (i := i) h.2 e
structure Stays (R : V → V → Hp → Prop) : Prop where
  same : ∀ x r H H', Same H H' → R x r H → R x r H'
  lst : ∀ x r H a ys zs, H a = some (.lst ys) → R x r H → R x r (upd H a (.lst zs))
theorem Stays.but {R : V → V → Hp → Prop} (st : Stays R) {H H' : Hp} {p : Addr} {ys zs : List V} (hp : H p = some (.lst ys)) (hp' : H' p = some (.lst zs)) (b : But p H H') {x r : V} (h : R x r H) : R x r H' := by
  refine st.same x r _ _ (fun q o e => ?_) (st.lst x r H p ys zs hp h)
  by_cases z : q = p
  · rw [z] at e ⊢; rw [upd_same] at e; rw [hp']; exact e
  · rw [upd_ne z] at e; exact b _ _ z e
section
variable {J : It} {n : Nat} {G : Hp → Prop} {Y : Nat → Hp → V → Hp → Prop} {g : TG} {tt : TT} {te : TE} {vs : List Nat} {σ : L2.St} {H1 : Hp} {D : Addr} {Qd : Hp → Prop}
theorem lc_newV (w : Walk J n G Y) (xs : List V) (R : V → V → Hp → Prop) (st : Stays R) (hn : n = xs.length) (hY : ∀ i H x H', i < n → Y i H x H' → H' = H ∧ xs[i]? = some x) (hD : H1 D = none) (hG : ∀ H', Same H1 H' → G H') (hz : xs.length < sizeLine)
    (hs : ∀ x ∈ xs, ∀ H', Same H1 H' → ∀ (Kt : V → Hp → Prop) (Kf : Hp → Prop), (∀ r H2, Same H' H2 → R x r H2 → Kt r H2) → g x (wipe σ vs) H' fun σ2 H2 => wipe σ2 vs = wipe σ vs ∧ tt σ2 H2 fun b H3 => if b = true then te σ2 H3 Kt else Kf H3)
    (hd : ∀ H' rs, Same H1 H' → H' D = some (.lst rs) → RowsV R H' rs xs → Qd H') :
    ∃ W : Nat → Nat → Hp → Prop, (∃ m, W 0 m (upd H1 D (.lst []))) ∧ ∀ i m H, W i m H → (J.stop i H ∧ Qd H) ∨ (J.go i H ∧ ∃ Nx : Hp → Prop, (∀ H', Nx H' → ∃ m', m' < m ∧ W (i + 1) m' H') ∧ ∀ x H', J.yld i H x H' → g x (wipe σ vs) H' fun σ2 H2 => wipe σ2 vs = wipe σ vs ∧ tt σ2 H2 fun b H3 => if b = true then te σ2 H3 fun y H4 => ∃ acc, H4 D = some (.lst acc) ∧ acc.length < sizeLine ∧ Nx (upd H4 D (.lst (acc ++ [y]))) else Nx H3) := by
  refine lc_it w (fun i H => Same H1 H ∧ ∃ rs : List V, H D = some (.lst rs) ∧ RowsV R H rs (xs.take i)) ⟨same_new hD, [], upd_same, trivial⟩ (fun i H _ k => hG _ k.1) ?_ ?_
  · rintro i x H H' hi ⟨sm, rs, at_, fa⟩ y
    obtain ⟨rfl, hx⟩ := hY i _ x H' hi y
    refine hs x (List.mem_of_getElem? hx) _ sm _ _ (fun r H2 s2 re => ⟨_, s2 _ _ at_, ?_, fun b o h => by rw [upd_ne (ne_of_none h hD)]; exact s2 _ _ (sm _ _ h), rs ++ [r], upd_same, ?_⟩)
    · have := fa.len
      have b : (xs.take i).length ≤ xs.length := by rw [List.length_take]; omega
      omega
    · rw [show xs.take (i + 1) = xs.take i ++ [x] by rw [List.take_add_one, hx]; rfl]
      exact RowsV.snoc (st.lst _ _ _ _ _ _ (s2 _ _ at_) re) (fa.imp fun x r q => st.lst _ _ _ _ _ _ (s2 _ _ at_) (st.same _ _ _ _ s2 q))
  · rintro H ⟨sm, rs, at_, fa⟩
    rw [hn, List.take_length] at fa
    exact hd H rs sm at_ fa
end
/-! ### items with their places -/
def idxF (p : Nat → Bool) : Nat → List Str → List Str
  | _, [] => []
  | i, x :: xs => if p i = true then x :: idxF p (i + 1) xs else idxF p (i + 1) xs
theorem idxF_snoc (p : Nat → Bool) (x : Str) : ∀ (l : List Str) (k : Nat), idxF p k (l ++ [x]) = idxF p k l ++ if p (k + l.length) = true then [x] else []
  | [], k => by simp only [List.nil_append, idxF, List.length_nil, Nat.add_zero]
  | y :: l, k => by
    have ih := idxF_snoc p x l (k + 1)
    rw [show k + 1 + l.length = k + (y :: l).length by rw [List.length_cons]; omega] at ih
    simp only [List.cons_append, idxF, ih]
    split <;> rfl
section
variable {J : It} {n : Nat} {G : Hp → Prop} {g : TG} {tt : TT} {te : TE} {vs : List Nat} {σ : L2.St} {H1 : Hp} {D : Addr} {Qd : Hp → Prop}
theorem lc_enumF {xs : List Str} (w : Walk J n G (YPair (fun i => some (.int (i : Nat))) (fun i => (xs.map V.str)[i]?))) (p : Nat → Bool) (hn : n = xs.length) (hD : H1 D = none) (hG : ∀ H', Same H1 H' → G H') (hz : xs.length < sizeLine)
    (hs : ∀ i x T H', xs[i]? = some x → Same H1 H' → H' T = some (.tup [.int (i : Nat), .str x]) → ∀ (Kt : V → Hp → Prop) (Kf : Hp → Prop), (p i = true → ∀ H2, Same H' H2 → Kt (.str x) H2) → (p i = false → ∀ H2, Same H' H2 → Kf H2) → g (.ref T) (wipe σ vs) H' fun σ2 H2 => wipe σ2 vs = wipe σ vs ∧ tt σ2 H2 fun b H3 => if b = true then te σ2 H3 Kt else Kf H3)
    (hd : ∀ H', Same H1 H' → H' D = some (.lst ((idxF p 0 xs).map V.str)) → Qd H') :
    ∃ W : Nat → Nat → Hp → Prop, (∃ m, W 0 m (upd H1 D (.lst []))) ∧ ∀ i m H, W i m H → (J.stop i H ∧ Qd H) ∨ (J.go i H ∧ ∃ Nx : Hp → Prop, (∀ H', Nx H' → ∃ m', m' < m ∧ W (i + 1) m' H') ∧ ∀ x H', J.yld i H x H' → g x (wipe σ vs) H' fun σ2 H2 => wipe σ2 vs = wipe σ vs ∧ tt σ2 H2 fun b H3 => if b = true then te σ2 H3 fun y H4 => ∃ acc, H4 D = some (.lst acc) ∧ acc.length < sizeLine ∧ Nx (upd H4 D (.lst (acc ++ [y]))) else Nx H3) := by
  refine lc_it w (fun i H => Same H1 H ∧ H D = some (.lst ((idxF p 0 (xs.take i)).map V.str)) ∧ (idxF p 0 (xs.take i)).length ≤ i) ⟨same_new hD, upd_same, Nat.le_refl _⟩ (fun i H _ k => hG _ k.1) ?_ ?_
  · rintro i y H H' hi ⟨sm, at_, ln⟩ ⟨T, u, x, rfl, hT, rfl, e1, e2⟩
    obtain rfl : V.int (i : Nat) = u := Option.some.inj e1
    have e2 : (xs.map V.str)[i]? = some x := e2
    rw [List.getElem?_map] at e2
    obtain ⟨x, hx, rfl⟩ := Option.map_eq_some_iff.mp e2
    have sT := same_new (o := .tup [.int (i : Nat), .str x]) hT
    have lt : i < xs.length := by omega
    have ti : xs.take (i + 1) = xs.take i ++ [x] := by rw [List.take_add_one, hx]; rfl
    have li : (xs.take i).length = i := by rw [List.length_take]; omega
    have nx : idxF p 0 (xs.take (i + 1)) = idxF p 0 (xs.take i) ++ if p i = true then [x] else [] := by rw [ti, idxF_snoc, li, Nat.zero_add]
    refine hs i x T _ hx (sm.trans sT) upd_same _ _ (fun pt H2 s2 => ⟨_, s2 _ _ (sT _ _ at_), ?_, fun b o h => by rw [upd_ne (ne_of_none h hD)]; exact s2 _ _ (sT _ _ (sm _ _ h)), ?_, ?_⟩) fun pf H2 s2 => ⟨(sm.trans sT).trans s2, ?_, ?_⟩
    · rw [List.length_map]; omega
    · rw [upd_same, nx, if_pos pt, List.map_append]; rfl
    · rw [nx, if_pos pt, List.length_append, List.length_singleton]; omega
    · rw [nx, pf, if_neg Bool.false_ne_true, List.append_nil]; exact s2 _ _ (sT _ _ at_)
    · rw [nx, pf, if_neg Bool.false_ne_true, List.append_nil]; omega
  · rintro H ⟨sm, at_, _⟩
    rw [hn, List.take_length] at at_
    exact hd H sm at_
end
/-! ### data that can be shown and compared -/
structure Lit (n k : Nat) (d : PyData) : Prop where
  c : d.canLay0 = true
  w : d.weight ≤ n
  s : d.showable = true
  i : d.intsShort 13 = true
  d : d.depth ≤ k
structure LitAll (n k : Nat) (ds : List PyData) : Prop where
  c : PyData.canLayAll0 ds = true
  w : PyData.weightAll ds ≤ n
  s : PyData.showableAll ds = true
  i : PyData.intsShortAll 13 ds = true
  d : PyData.depthAll ds ≤ k
theorem Lit.str {x : Str} (h : IsNm x) : Lit 8 0 (.str x) := ⟨by simp only [PyData.canLay0]; exact h.ok, by simp only [PyData.weight]; exact h.hi, by simp only [PyData.showable], by simp only [PyData.intsShort], by simp [PyData.depth]⟩
theorem Lit.word {x : Str} {n : Nat} (h : Word n x) : Lit n 0 (.str x) := ⟨by simp only [PyData.canLay0]; exact h.p.ok, by simp only [PyData.weight]; exact h.l, by simp only [PyData.showable], by simp only [PyData.intsShort], by simp [PyData.depth]⟩
theorem Lit.bl (b : Bool) : Lit 0 0 (.bool b) := ⟨by simp only [PyData.canLay0], by simp only [PyData.weight]; omega, by simp only [PyData.showable], by simp only [PyData.intsShort], by simp [PyData.depth]⟩
theorem Lit.non : Lit 0 0 .none := ⟨by simp only [PyData.canLay0], by simp only [PyData.weight]; omega, by simp only [PyData.showable], by simp only [PyData.intsShort], by simp [PyData.depth]⟩
theorem Lit.mono {n m k l : Nat} {d : PyData} (h : Lit n k d) (a : n ≤ m) (b : k ≤ l) : Lit m l d := ⟨h.c, Nat.le_trans h.w a, h.s, h.i, Nat.le_trans h.d b⟩
theorem LitAll.nil : LitAll 0 0 [] := ⟨by simp only [PyData.canLayAll0], by simp only [PyData.weightAll]; omega, by simp only [PyData.showableAll], by simp only [PyData.intsShortAll], by simp [PyData.depthAll]⟩
theorem LitAll.cons {n m k l : Nat} {d : PyData} {ds : List PyData} (h : Lit n k d) (t : LitAll m l ds) : LitAll (n + 1 + m) (max k l) (d :: ds) :=
  ⟨by simp only [PyData.canLayAll0, h.c, t.c, Bool.and_self], by have := h.w; have := t.w; simp only [PyData.weightAll]; omega, by simp only [PyData.showableAll, h.s, t.s, Bool.and_self], by simp only [PyData.intsShortAll, h.i, t.i, Bool.and_self], by have := h.d; have := t.d; simp only [PyData.depthAll]; omega⟩
theorem LitAll.mono {n m k l : Nat} {ds : List PyData} (h : LitAll n k ds) (a : n ≤ m) (b : k ≤ l) : LitAll m l ds := ⟨h.c, Nat.le_trans h.w a, h.s, h.i, Nat.le_trans h.d b⟩
theorem Lit.list {n k : Nat} {ds : List PyData} (h : LitAll n k ds) : Lit n (k + 1) (.list ds) := ⟨by simp only [PyData.canLay0]; exact h.c, by simp only [PyData.weight]; exact h.w, by simp only [PyData.showable]; exact h.s, by simp only [PyData.intsShort]; exact h.i, by have := h.d; simp only [PyData.depth]; omega⟩
theorem Lit.tup {n k : Nat} {ds : List PyData} (h : LitAll n k ds) : Lit n (k + 1) (.tuple ds) := ⟨by simp only [PyData.canLay0]; exact h.c, by simp only [PyData.weight]; exact h.w, by simp only [PyData.showable]; exact h.s, by simp only [PyData.intsShort]; exact h.i, by have := h.d; simp only [PyData.depth]; omega⟩
theorem LitAll.of {n k : Nat} : ∀ {ds : List PyData}, (∀ d ∈ ds, Lit n k d) → LitAll ((n + 1) * ds.length) k ds
  | [], _ => by have := LitAll.nil.mono (Nat.le_refl 0) (Nat.zero_le k); simpa using this
  | d :: ds, h => by
    have := LitAll.cons (h d (.head _)) (LitAll.of fun x hx => h x (.tail _ hx))
    refine this.mono ?_ (by omega)
    rw [List.length_cons, Nat.mul_succ]; omega
theorem LitAll.strs {xs : List Str} (h : ∀ x ∈ xs, IsNm x) : LitAll (9 * xs.length) 0 (xs.map PyData.str) := by
  have := LitAll.of (n := 8) (k := 0) (ds := xs.map PyData.str) fun d hd => by obtain ⟨x, hx, rfl⟩ := List.mem_map.mp hd; exact .str (h x hx)
  rw [List.length_map] at this
  exact this
theorem LitAll.bools (bs : List Bool) : LitAll bs.length 0 (bs.map PyData.bool) := by
  have := LitAll.of (n := 0) (k := 0) (ds := bs.map PyData.bool) fun d hd => by obtain ⟨x, hx, rfl⟩ := List.mem_map.mp hd; exact .bl x
  rw [List.length_map] at this
  exact this.mono (by omega) (Nat.le_refl _)
theorem Lit.strs {xs : List Str} (h : ∀ x ∈ xs, IsNm x) : Lit (9 * xs.length) 1 (.tuple (xs.map PyData.str)) := .tup (.strs h)
theorem Lit.strsL {xs : List Str} (h : ∀ x ∈ xs, IsNm x) : Lit (9 * xs.length) 1 (.list (xs.map PyData.str)) := .list (.strs h)
theorem Lit.shaped {n k : Nat} {d : PyData} (h : Lit n k d) (b : k ≤ 64 := by omega) : SeqAt.shaped d = true := by
  unfold SeqAt.shaped
  rw [h.c, decide_eq_true (Nat.le_trans h.d b)]; rfl
theorem Lit.dict {n k : Nat} {d : PyData} (h : Lit n k d) : d.hasDict = false := PyData.hasDict_of_canLay d h.c
theorem Lit.ok {n k : Nat} {d : PyData} (h : Lit n k d) (a : n ≤ 1000000 := by omega) (b : k ≤ 64 := by omega) : d.showable = true ∧ d.hasDict = false ∧ d.depth ≤ 64 ∧ d.shown.length ≤ sizeLine := by
  refine ⟨h.s, h.dict, Nat.le_trans h.d b, shown_fit ?_ h.i⟩
  unfold PyData.layable0
  have w := h.w
  rw [h.c, decide_eq_true (Nat.le_trans h.d b), decide_eq_true (show d.weight ≤ 2 ^ 20 by omega)]; rfl
theorem kpg_tup {X : Cx} {K : PySem.W.Frag} {es : List Expr} {k : Nat} {pos : Pos} {t : TGs} {n : Nat} (hc : X.calm = true) (h : PGs X es t) (hn : (assignEach es X.env).length = n := by rfl) (hst : (assignEach es X.env).findIdx? (·.1) = none := by rfl) (hK : X.K = K := by rfl) : PG X (.Tuple es k pos) (gTup K n t) := by
  subst hK
  exact pg_tup hc h hn hst
/-! ### hosts that a law draws -/
structure Hosts (n : Nat) (hs : List Str) : Prop where
  len : hs.length = n
  nm : ∀ x ∈ hs, IsNm x
  nd : hs.Nodup
  so : sortedS hs = true
theorem names_of {L : List Str} (h : L.all nmB = true) : ∀ n ∈ L, IsNm n := fun n hn => nmB_iff.mp (List.all_eq_true.mp h n hn)
theorem Hosts.pair {n : Nat} {hs : List Str} (h : Hosts n hs) : hs.Pairwise leS := sorted_pair h.so
end Z
namespace Z
open PySem PySem.Spec PyProof.Rows L2 TL
/-! ### the text of a parting, read -/
theorem slash_pre {l : List Nat} (h : pre [32, 47, 32] l = true) : l[1]? = some 47 := by
  match l, h with
  | [], h => exact absurd h (by decide)
  | [a], h => simp [pre] at h
  | a :: b :: r, h =>
    simp [pre] at h
    simp [h]
theorem slash_free {p q : List Nat} (h : 47 ∉ p) (hq : q = [] ∨ ∃ r, q = 32 :: r) : ∀ i, i < p.length → pre [32, 47, 32] ((p ++ q).drop i) = false := fun i hi => by
  cases e : pre [32, 47, 32] ((p ++ q).drop i) with
  | false => rfl
  | true =>
    have e := slash_pre e
    rw [List.getElem?_drop] at e
    by_cases hl : i + 1 < p.length
    · rw [List.getElem?_append_left hl] at e
      exact absurd (List.mem_of_getElem? e) h
    · have q0 : i + 1 = p.length := by omega
      rw [q0, List.getElem?_append_right (Nat.le_refl _), Nat.sub_self] at e
      rcases hq with rfl | ⟨r, rfl⟩
      · simp at e
      · simp at e
theorem split_slash {a b : Str} (ha : 47 ∉ tl a) (hb : 47 ∉ tl b) : Txt.split (a ++ Str.ofString " / " ++ b) (Str.ofString " / ") = [a, b] := by
  refine map_tl_inj ?_
  rw [split_spl _ _ (by rw [tl_slash]; simp) (kind_ok (by decide +kernel)), tl_append, tl_append, tl_slash, List.append_assoc, spl_part (by simp) (slash_free ha (.inr ⟨_, rfl⟩)), spl_last (fun i hi => by
    have z := slash_free (q := []) hb (.inl rfl) i hi
    rw [List.append_nil] at z
    exact z)]
  rfl
theorem split_sps {ws : List Str} (hn : ws ≠ []) (h : ∀ w ∈ ws, IsNm w) : Txt.split (Txt.join (Str.ofString " ") ws) (Str.ofString " ") = ws :=
  split_join tl_sp (by decide +kernel) hn fun w hw => nm_no (h w hw) (by omega)
theorem readP_text {a b : List Str} (t : Two a b) (ha : AscOf a a) (hb : AscOf b b) {x y : Str} (ea : a.head? = some x) (eb : b.head? = some y) (lt : ltCps x.cps.toList y.cps.toList = true) : readP (partText a b) = some (a, b) := by
  have nmA : ∀ n ∈ a, IsNm n := fun n hn => t.nm n (List.mem_append_left _ hn)
  have nmB : ∀ n ∈ b, IsNm n := fun n hn => t.nm n (List.mem_append_right _ hn)
  have hN : a ≠ [] := by rintro rfl; cases ea
  have hF : b ≠ [] := by rintro rfl; cases eb
  have hd : ∀ {l : List Str} {x : Str}, l.head? = some x → l.headD "" = x := fun {l x} q => by cases l with | nil => cases q | cons a r => cases q; rfl
  unfold readP
  rw [show partText a b = Txt.join (Str.ofString " ") a ++ Str.ofString " / " ++ Txt.join (Str.ofString " ") b from rfl, split_slash (join_noP nmA) (join_noP nmB)]
  show (if (coupB (Txt.split (Txt.join (Str.ofString " ") a) (Str.ofString " ")) && _) = true then _ else _) = _
  rw [split_sps hN nmA, split_sps hF nmB, coupB_iff.mpr ⟨t.la, nmA, ha⟩, coupB_iff.mpr ⟨t.lb, nmB, hb⟩, apartB_iff.mpr t.cuts.apart, hd ea, hd eb, lt]
  rfl
theorem partText_len {a b : List Str} (t : Two a b) : (partText a b).length ≤ 900 := by
  have wn := Word.join (m := 1) (n := 8) (k := 2) (y := Str.ofString " ") (word_of (by decide +kernel)) (fun w hw => word_nm (t.nm w (List.mem_append_left _ hw))) (Nat.le_of_eq t.la)
  have wf := Word.join (m := 1) (n := 8) (k := 2) (y := Str.ofString " ") (word_of (by decide +kernel)) (fun w hw => word_nm (t.nm w (List.mem_append_right _ hw))) (Nat.le_of_eq t.lb)
  exact Nat.le_trans ((wn.app (word_of (n := 3) (x := Str.ofString " / ") (by decide +kernel))).app wf).l (by decide)
/-- four hosts in their order, and one of their partings -/
structure RowOk (f0 f1 f2 f3 m u v : Str) : Prop where
  two : Two [f0, m] [u, v]
  a1 : AscOf [f0, m] [f0, m]
  a2 : AscOf [u, v] [u, v]
  a4 : AscOf ([f0, m] ++ [u, v]) [f0, f1, f2, f3]
  lt : ltCps f0.cps.toList u.cps.toList = true
theorem AscOf.of_perm {xs zs ys : List Str} (p : xs.Perm zs) (h : AscOf xs ys) : AscOf zs ys := h.swap fun y => p.mem_iff
theorem RowOk.part {f0 f1 f2 f3 m u v : Str} {us ws hs ny fy : List Str} (ok : RowOk f0 f1 f2 f3 m u v) (pm : (us.Perm [f0, m] ∧ ws.Perm [u, v]) ∨ (us.Perm [u, v] ∧ ws.Perm [f0, m])) (c : CutOf us ws hs ny fy) : hs = [f0, f1, f2, f3] ∧ ny = [f0, m] ∧ fy = [u, v] := by
  have ne : f0 ≠ u := fun q => by have := ok.two.nd; rw [q] at this; simp at this
  have hh : hs = [f0, f1, f2, f3] := by
    refine (c.hosts.of_perm ?_).unique ok.a4
    rcases pm with ⟨a, b⟩ | ⟨a, b⟩
    · exact a.append b
    · exact (a.append b).trans List.perm_append_comm
  refine ⟨hh, ?_⟩
  obtain ⟨ya, yb, aa, ab, side⟩ := c.sides
  rw [hh] at side
  rcases pm with ⟨a, b⟩ | ⟨a, b⟩
  · obtain rfl := (aa.of_perm a).unique ok.a1
    obtain rfl := (ab.of_perm b).unique ok.a2
    rcases side with ⟨_, e1, e2⟩ | ⟨q, _, _⟩
    · exact ⟨e1, e2⟩
    · exact absurd rfl q
  · obtain rfl := (aa.of_perm a).unique ok.a2
    obtain rfl := (ab.of_perm b).unique ok.a1
    rcases side with ⟨q, _, _⟩ | ⟨_, e1, e2⟩
    · exact absurd (Option.some.inj q) ne
    · exact ⟨e1, e2⟩
theorem RowOk.turn {f0 f1 f2 f3 m u v : Str} {us ws : List Str} (ok : RowOk f0 f1 f2 f3 m u v) (pm : (us.Perm [f0, m] ∧ ws.Perm [u, v]) ∨ (us.Perm [u, v] ∧ ws.Perm [f0, m])) : Two us ws := by
  rcases pm with ⟨a, b⟩ | ⟨a, b⟩
  · exact ⟨fun n hn => ok.two.nm n ((a.append b).mem_iff.mp hn), (a.append b).nodup_iff.mpr ok.two.nd, a.length_eq, b.length_eq⟩
  · have p := (a.append b).trans List.perm_append_comm
    exact ⟨fun n hn => ok.two.nm n (p.mem_iff.mp hn), p.nodup_iff.mpr ok.two.nd, a.length_eq, b.length_eq⟩
/-! ### methods of own things, called by place -/
theorem pe_methB {X : Cx} {CX : CXT} {k : Nat} {C m : Str} {ps : List Str} {sp : Sp} {E : XK} {o e : Expr} {es : List Expr} {to : TE} {ta : TA} {apos pos : Pos} {pl : Sem Bool} (D : ∃ fd, FnOk X.prog X.w X.K X.mg X.base CX k (He.ma X.K (He.ga X.K C) m) fd ps sp ∧ Binds X.K fd ps []) (c : Cls X.K (He.ga X.K C)) (hm : Meth X.K (He.ga X.K C) m (He.ma X.K (He.ga X.K C) m)) (hr : Room k X.A) (hx : Passes CX X E) (ho : PE X o to) (ha : PA X (e :: es) ta)
    (hst : starEach (e :: es) X.env = (false, eval e X.env) :: starEach es X.env := by rfl) (hpl : (backTo pos (starEach es X.env)).any (·.1) = false := by rfl)
    (ht : eval (.Call (.Attribute o m apos) (e :: es) [] pos) X.env = (do
      let v ← eval o X.env
      standAt apos.atName
      let (g, first) ← holding [v] (getMethod v m pl)
      callWith pos g first (backTo pos (starEach (e :: es) X.env)) (backToKw pos (keywordEach [] X.env))) := by rfl) :
    PE X (.Call (.Attribute o m apos) (e :: es) [] pos) (tMeth (He.ga X.K C) m sp [] E to ta) := by
  obtain ⟨fd, F, b⟩ := D
  exact pe_meth ho c hm F hr b .nil hx ha hst hpl ht
theorem pe_methB0 {X : Cx} {CX : CXT} {k : Nat} {C m : Str} {ps : List Str} {sp : Sp} {E : XK} {o : Expr} {to : TE} {apos pos : Pos} {pl : Sem Bool} (D : ∃ fd, FnOk X.prog X.w X.K X.mg X.base CX k (He.ma X.K (He.ga X.K C) m) fd ps sp ∧ Binds X.K fd ps []) (c : Cls X.K (He.ga X.K C)) (hm : Meth X.K (He.ga X.K C) m (He.ma X.K (He.ga X.K C) m)) (hr : Room k X.A) (hx : Passes CX X E) (ho : PE X o to)
    (ht : eval (.Call (.Attribute o m apos) [] [] pos) X.env = (do
      let v ← eval o X.env
      standAt apos.atName
      let (g, first) ← holding [v] (getMethod v m pl)
      callWith pos g first (backTo pos (starEach [] X.env)) (backToKw pos (keywordEach [] X.env))) := by rfl) :
    PE X (.Call (.Attribute o m apos) [] [] pos) (tMeth (He.ga X.K C) m sp [] E to tNil) := by
  obtain ⟨fd, F, b⟩ := D
  exact pe_meth0 ho c hm F hr b .nil hx ht
end Z
namespace Z
open PySem PySem.Spec PyProof.Rows L2 TL
/-! ### hosts told by their places in an ascending row -/
def hAt (hs : List Str) (l : List Nat) : List Str := l.map fun i => hs.getD i ""
theorem getD_at {hs : List Str} {i : Nat} (h : i < hs.length) : hs.getD i "" = hs[i] := by rw [List.getD_eq_getElem?_getD, List.getElem?_eq_getElem h]; rfl
theorem Hosts.lt {n : Nat} {hs : List Str} (h : Hosts n hs) {i j : Nat} (ij : i < j) (jn : j < n) : ltCps (hs.getD i "").cps.toList (hs.getD j "").cps.toList = true := by
  have lj : j < hs.length := by rw [h.len]; exact jn
  have li : i < hs.length := by omega
  rw [getD_at lj, getD_at li]
  have le := List.pairwise_iff_getElem.mp h.pair i j li lj ij
  cases e : ltCps hs[i].cps.toList hs[j].cps.toList with
  | true => rfl
  | false => exact absurd (leS_anti le (show leS hs[j] hs[i] from e)) (List.pairwise_iff_getElem.mp (List.nodup_iff_pairwise_ne.mp h.nd) i j li lj ij)
theorem Hosts.inj {n : Nat} {hs : List Str} (h : Hosts n hs) {i j : Nat} (hi : i < n) (hj : j < n) (e : hs.getD i "" = hs.getD j "") : i = j := by
  rcases Nat.lt_trichotomy i j with q | q | q
  · have := h.lt q hj
    rw [e] at this
    exact absurd (lt_iff.mp this) (List.lt_irrefl _)
  · exact q
  · have := h.lt q hi
    rw [e] at this
    exact absurd (lt_iff.mp this) (List.lt_irrefl _)
theorem Hosts.mem {n : Nat} {hs : List Str} (h : Hosts n hs) {i : Nat} (hi : i < n) : hs.getD i "" ∈ hs := by rw [getD_at (by rw [h.len]; exact hi)]; exact List.getElem_mem _
theorem Hosts.nmAt {n : Nat} {hs : List Str} (h : Hosts n hs) {l : List Nat} (hl : ∀ i ∈ l, i < n) : ∀ x ∈ hAt hs l, IsNm x := fun x hx => by
  obtain ⟨i, hi, rfl⟩ := List.mem_map.mp hx
  exact h.nm _ (h.mem (hl i hi))
theorem Hosts.memAt {n : Nat} {hs : List Str} (h : Hosts n hs) {l : List Nat} (hl : ∀ i ∈ l, i < n) {i : Nat} (hi : i < n) : hs.getD i "" ∈ hAt hs l ↔ i ∈ l := by
  refine ⟨fun m => ?_, fun m => List.mem_map.mpr ⟨i, m, rfl⟩⟩
  obtain ⟨j, hj, e⟩ := List.mem_map.mp m
  exact h.inj (hl j hj) hi e ▸ hj
theorem Hosts.ndAt {n : Nat} {hs : List Str} (h : Hosts n hs) : ∀ {l : List Nat}, (∀ i ∈ l, i < n) → l.Nodup → (hAt hs l).Nodup
  | [], _, _ => List.nodup_nil
  | i :: l, hl, nd => by
    obtain ⟨a, b⟩ := List.nodup_cons.mp nd
    refine List.nodup_cons.mpr ⟨fun m => a ?_, h.ndAt (fun j hj => hl j (.tail _ hj)) b⟩
    exact (h.memAt (fun j hj => hl j (.tail _ hj)) (hl i (.head _))).mp m
theorem Hosts.riseAt {n : Nat} {hs : List Str} (h : Hosts n hs) : ∀ {l : List Nat}, (∀ i ∈ l, i < n) → l.Pairwise (· < ·) → riseB (hAt hs l) = true
  | [], _, _ => rfl
  | [_], _, _ => rfl
  | i :: j :: l, hl, p => by
    obtain ⟨a, b⟩ := List.pairwise_cons.mp p
    have ih := h.riseAt (l := j :: l) (fun k hk => hl k (.tail _ hk)) b
    show (ltCps (hs.getD i "").cps.toList (hs.getD j "").cps.toList && riseB (hAt hs (j :: l))) = true
    rw [h.lt (a j (.head _)) (hl j (.tail _ (.head _))), ih]
    rfl
theorem Hosts.ascAt {n : Nat} {hs : List Str} (h : Hosts n hs) {l : List Nat} (hl : ∀ i ∈ l, i < n) (p : l.Pairwise (· < ·)) : AscOf (hAt hs l) (hAt hs l) := rise_asc (h.riseAt hl p)
theorem Hosts.ascTo {n : Nat} {hs : List Str} (h : Hosts n hs) {l m : List Nat} (hl : ∀ i ∈ l, i < n) (p : l.Pairwise (· < ·)) (e : ∀ i, i ∈ l ↔ i ∈ m) : AscOf (hAt hs m) (hAt hs l) :=
  (h.ascAt hl p).swap fun y => ⟨fun q => by obtain ⟨i, hi, rfl⟩ := List.mem_map.mp q; exact List.mem_map.mpr ⟨i, (e i).mp hi, rfl⟩, fun q => by obtain ⟨i, hi, rfl⟩ := List.mem_map.mp q; exact List.mem_map.mpr ⟨i, (e i).mpr hi, rfl⟩⟩
theorem Hosts.eqAt {n : Nat} {hs : List Str} (h : Hosts n hs) : ∀ {l m : List Nat}, (∀ i ∈ l, i < n) → (∀ i ∈ m, i < n) → (hAt hs l = hAt hs m ↔ l = m)
  | [], [], _, _ => ⟨fun _ => rfl, fun _ => rfl⟩
  | [], _ :: _, _, _ => ⟨fun e => (List.cons_ne_nil _ _ e.symm).elim, fun e => (List.cons_ne_nil _ _ e.symm).elim⟩
  | _ :: _, [], _, _ => ⟨fun e => (List.cons_ne_nil _ _ e).elim, fun e => (List.cons_ne_nil _ _ e).elim⟩
  | i :: l, j :: m, hl, hm => by
    have ih := h.eqAt (l := l) (m := m) (fun k hk => hl k (.tail _ hk)) fun k hk => hm k (.tail _ hk)
    refine ⟨fun e => ?_, fun e => by rw [e]⟩
    obtain ⟨e1, e2⟩ := List.cons.inj e
    rw [h.inj (hl i (.head _)) (hm j (.head _)) e1, ih.mp e2]
def lexN : List Nat → List Nat → Bool
  | [], [] => false
  | [], _ :: _ => true
  | _ :: _, [] => false
  | x :: xs, y :: ys => if x = y then lexN xs ys else decide (x < y)
theorem Hosts.sLt {n : Nat} {hs : List Str} (h : Hosts n hs) {i j : Nat} (hi : i < n) (hj : j < n) : Z.sLt (hs.getD i "") (hs.getD j "") = decide (i < j) := by
  unfold Z.sLt
  rcases Nat.lt_trichotomy i j with q | q | q
  · rw [decide_eq_true q, decide_eq_true (lt_iff.mp (h.lt q hj))]
  · rw [q, decide_eq_false (List.lt_irrefl _), decide_eq_false (Nat.lt_irrefl _)]
  · rw [decide_eq_false (Nat.not_lt.mpr (Nat.le_of_lt q)), decide_eq_false (List.lt_asymm (lt_iff.mp (h.lt q hi)))]
theorem Hosts.lexAt {n : Nat} {hs : List Str} (h : Hosts n hs) : ∀ {l m : List Nat}, (∀ i ∈ l, i < n) → (∀ i ∈ m, i < n) → lexS (hAt hs l) (hAt hs m) = lexN l m
  | [], [], _, _ => rfl
  | [], _ :: _, _, _ => rfl
  | _ :: _, [], _, _ => rfl
  | i :: l, j :: m, hl, hm => by
    have ih := h.lexAt (l := l) (m := m) (fun k hk => hl k (.tail _ hk)) fun k hk => hm k (.tail _ hk)
    show (if hs.getD i "" = hs.getD j "" then lexS (hAt hs l) (hAt hs m) else Z.sLt (hs.getD i "") (hs.getD j "")) = if i = j then lexN l m else decide (i < j)
    by_cases q : i = j
    · rw [if_pos q, if_pos (by rw [q]), ih]
    · rw [if_neg q, if_neg fun e => q (h.inj (hl i (.head _)) (hm j (.head _)) e), h.sLt (hl i (.head _)) (hm j (.head _))]
/-- four places, told as a parting -/
def ltI (a b : List Nat × List Nat × List Nat) : Bool := if a.1 = b.1 then (if a.2.1 = b.2.1 then lexN a.2.2 b.2.2 else lexN a.2.1 b.2.1) else lexN a.1 b.1
structure InI (n : Nat) (a : List Nat × List Nat × List Nat) : Prop where
  f : ∀ i ∈ a.1, i < n
  p : ∀ i ∈ a.2.1, i < n
  q : ∀ i ∈ a.2.2, i < n
def hAt3 (hs : List Str) (a : List Nat × List Nat × List Nat) : List Str × List Str × List Str := (hAt hs a.1, hAt hs a.2.1, hAt hs a.2.2)
theorem Hosts.ltAt {n : Nat} {hs : List Str} (h : Hosts n hs) {a b : List Nat × List Nat × List Nat} (ha : InI n a) (hb : InI n b) : ltP (hAt3 hs a) (hAt3 hs b) = ltI a b := by
  unfold ltP ltI hAt3
  simp only [h.eqAt ha.f hb.f, h.eqAt ha.p hb.p, h.lexAt ha.f hb.f, h.lexAt ha.p hb.p, h.lexAt ha.q hb.q]
/-- what a parting of an ascending row of places keeps -/
theorem Hosts.rowOk {n : Nat} {hs : List Str} (h : Hosts n hs) {a b c d m u v : Nat} (i4 : [a, b, c, d].Pairwise (· < ·)) (dn : d < n) (p1 : a < m) (p2 : u < v) (p3 : a < u) (nd : ([a, m] ++ [u, v]).Nodup) (e : ∀ i, i ∈ [a, b, c, d] ↔ i ∈ [a, m] ++ [u, v]) : RowOk (hs.getD a "") (hs.getD b "") (hs.getD c "") (hs.getD d "") (hs.getD m "") (hs.getD u "") (hs.getD v "") := by
  have f4 : ∀ i ∈ [a, b, c, d], i < n := by
    simp only [List.pairwise_cons, List.mem_cons, List.not_mem_nil, or_false, forall_eq_or_imp, forall_eq] at i4
    intro i hi
    simp only [List.mem_cons, List.not_mem_nil, or_false] at hi
    omega
  have fa : ∀ i ∈ [a, m] ++ [u, v], i < n := fun i hi => f4 i ((e i).mpr hi)
  have f1 : ∀ i ∈ [a, m], i < n := fun i hi => fa i (List.mem_append_left _ hi)
  have f2 : ∀ i ∈ [u, v], i < n := fun i hi => fa i (List.mem_append_right _ hi)
  refine ⟨⟨?_, ?_, rfl, rfl⟩, h.ascAt f1 (by simpa using p1), h.ascAt f2 (by simpa using p2), ?_, h.lt p3 (f2 u (.head _))⟩
  · exact h.nmAt fa
  · exact h.ndAt fa nd
  · exact h.ascTo f4 i4 e
end Z
namespace Z
open PySem PySem.Spec PyProof.Rows L2
open AutoSeq1 (wpAny_loadPart')
open MeetsSeq MeetsSeq2 MeetsSeq3 SeqRoads2 SeqAt
/-! ### == and != of rows, item by item, each item by its own rule, to both ends -/
def allFrom (e : Nat → Bool) : Nat → Nat → Bool
  | _, 0 => true
  | i, k + 1 => e i && allFrom e (i + 1) k
section
variable {prog : Program} {w : World} {A : Around} {R : Result → Shared → Prop}
abbrev lObj (its : Array Value) (n : Nat) : Obj := { cls := .type "list", data := .seq its n }
/-- what a comparison of two lists keeps -/
structure LKeep (prog : Program) (w : World) (A : Around) (E : Value → Shared → Prop) (l b : Addr) (N : Nat) (e : Nat → Bool) (I : Shared → Prop) : Prop where
  at_ : ∀ s, I s → ∃ (xs ys : Array Value) (n m : Nat), s.heap.get? l = some (lObj xs n) ∧ s.heap.get? b = some (lObj ys m) ∧ xs.size = N ∧ ys.size = N ∧
    ∀ i (h1 : i < xs.size) (h2 : i < ys.size), wpAny (model prog w) A.in1 (eqBool xs[i] ys[i]) (fun r s' => r = e i ∧ I s') E s
theorem loopB (c : Nat) (f : Bool → Bool) (hc : (c = 2 ∧ f = id) ∨ (c = 3 ∧ f = not)) (l b : Addr) (N : Nat) (e : Nat → Bool) (I : Shared → Prop) (L : LKeep prog w A (fun e s' => R (.error e) s') l b N e I) (k : Nat) :
    ∀ i : Nat, N - i = k → i ≤ N → (∀ s, I s → R (.ok (.ret (.bool (f (allFrom e i k))))) s) → ∀ s, I s →
      wpAny (model prog w) A.in1 (Builtin.«list.__eq__.loop» ⟨[.ref l, .ref b, rawInt i, rawInt c], []⟩) (GQ.FinOf prog w A R) (fun e s' => R (.error e) s') s := by
  induction k with
  | zero =>
    intro i hk hi fin s h
    obtain ⟨xs, ys, n, m, q1, q2, z1, z2, _⟩ := L.at_ _ h
    have r := fin s h
    obtain ⟨hp, g, d, tk, os⟩ := s
    have x1 : xs[((i : Nat) : Int).toNat]? = none := by simp; omega
    have x2 : ys[((i : Nat) : Int).toNat]? = none := by simp; omega
    rcases hc with ⟨rfl, rfl⟩ | ⟨rfl, rfl⟩
    · wp_walk using wpAny_loadPart' q1, wpAny_loadPart' q2
      rw [x1, x2]; wp_walk using wpAny_loadPart' q1, wpAny_loadPart' q2
      show R (.ok (.ret (.bool (xs.size == ys.size)))) _
      rw [z1, z2]; simpa [allFrom] using r
    · wp_walk using wpAny_loadPart' q1, wpAny_loadPart' q2
      rw [x1, x2]; wp_walk using wpAny_loadPart' q1, wpAny_loadPart' q2
      show R (.ok (.ret (.bool (xs.size != ys.size)))) _
      rw [z1, z2]; simpa [allFrom] using r
  | succ k ih =>
    intro i hk hi fin s h
    obtain ⟨xs, ys, n, m, q1, q2, z1, z2, turn⟩ := L.at_ _ h
    have l1 : i < xs.size := by omega
    have l2 : i < ys.size := by omega
    have t := turn i l1 l2
    obtain ⟨hp, g, d, tk, os⟩ := s
    have x1 : xs[((i : Nat) : Int).toNat]? = some xs[i] := by simp [l1]
    have x2 : ys[((i : Nat) : Int).toNat]? = some ys[i] := by simp [l2]
    have up : ((i : Int) + 1) = ((i + 1 : Nat) : Int) := by omega
    rcases hc with ⟨rfl, rfl⟩ | ⟨rfl, rfl⟩
    · wp_walk using wpAny_loadPart' q1, wpAny_loadPart' q2
      rw [x1, x2]
      refine wpAny_bind (wpAny_mono t (fun r s2 h2 => ?_) (fun _ _ x => x))
      obtain ⟨rfl, h2⟩ := h2
      cases ei : e i with
      | true =>
        have rec_ := ih (i + 1) (by omega) (by omega) (fun s q => by have := fin s q; simp only [allFrom, ei, Bool.true_and] at this; exact this) s2 h2
        obtain ⟨hp2, g2, d2, tk2, os2⟩ := s2
        wp_walk
        rw [up]; exact ⟨plainId_quiet plain_eq_loop _, codeAny_builtin entry_eq_loop (by rw [Around.under_plainId plain_eq_loop _]; exact rec_)⟩
      | false =>
        have r := fin s2 h2
        simp only [allFrom, ei, Bool.false_and] at r
        obtain ⟨us, vs, n', m', p1, p2, y1, y2, _⟩ := L.at_ _ h2
        obtain ⟨hp2, g2, d2, tk2, os2⟩ := s2
        have x3 : us[((i : Nat) : Int).toNat]? = some (us[i]'(by omega)) := by simp [show i < us.size by omega]
        have x4 : vs[((i : Nat) : Int).toNat]? = some (vs[i]'(by omega)) := by simp [show i < vs.size by omega]
        wp_walk using wpAny_loadPart' p1, wpAny_loadPart' p2
        rw [x3, x4]; wp_walk
        exact r
    · wp_walk using wpAny_loadPart' q1, wpAny_loadPart' q2
      rw [x1, x2]
      refine wpAny_bind (wpAny_mono t (fun r s2 h2 => ?_) (fun _ _ x => x))
      obtain ⟨rfl, h2⟩ := h2
      cases ei : e i with
      | true =>
        have rec_ := ih (i + 1) (by omega) (by omega) (fun s q => by have := fin s q; simp only [allFrom, ei, Bool.true_and] at this; exact this) s2 h2
        obtain ⟨hp2, g2, d2, tk2, os2⟩ := s2
        wp_walk
        rw [up]; exact ⟨plainId_quiet plain_eq_loop _, codeAny_builtin entry_eq_loop (by rw [Around.under_plainId plain_eq_loop _]; exact rec_)⟩
      | false =>
        have r := fin s2 h2
        simp only [allFrom, ei, Bool.false_and] at r
        obtain ⟨us, vs, n', m', p1, p2, y1, y2, _⟩ := L.at_ _ h2
        obtain ⟨hp2, g2, d2, tk2, os2⟩ := s2
        have x3 : us[((i : Nat) : Int).toNat]? = some (us[i]'(by omega)) := by simp [show i < us.size by omega]
        have x4 : vs[((i : Nat) : Int).toNat]? = some (vs[i]'(by omega)) := by simp [show i < vs.size by omega]
        wp_walk using wpAny_loadPart' p1, wpAny_loadPart' p2
        rw [x3, x4]; wp_walk
        exact r
theorem list_eqB {l b : Addr} {N : Nat} {e : Nat → Bool} {I : Shared → Prop} (L : LKeep prog w A (fun e s' => R (.error e) s') l b N e I) (fin : ∀ s, I s → R (.ok (.ret (.bool (id (allFrom e 0 N))))) s) {s : Shared} (h : I s) :
    wpAny (model prog w) A.in1 (Builtin.«list.__eq__» ⟨[.ref l, .ref b], []⟩) (GQ.FinOf prog w A R) (fun e s' => R (.error e) s') s := by
  obtain ⟨xs, ys, n, m, q1, q2, z1, z2, _⟩ := L.at_ _ h
  have rec_ := loopB 2 id (.inl ⟨rfl, rfl⟩) l b N e I L N 0 (by omega) (by omega) fin s h
  obtain ⟨hp, g, d, tk, os⟩ := s
  have f3 := AutoSeq1.sub_list_list
  have ne : ¬ (xs.size != ys.size) = true := by simp [z1, z2]
  wp_walk using wpAny_loadPart' q1, wpAny_loadPart' q2
  exact ⟨plainId_quiet plain_eq_loop _, codeAny_builtin entry_eq_loop (by rw [Around.under_plainId plain_eq_loop _]; exact rec_)⟩
theorem list_eqS {l b : Addr} {xs ys : Array Value} {n m : Nat} {s : Shared} (q1 : s.heap.get? l = some (lObj xs n)) (q2 : s.heap.get? b = some (lObj ys m)) (z : xs.size ≠ ys.size) (r : R (.ok (.ret (.bool (id false)))) s) :
    wpAny (model prog w) A.in1 (Builtin.«list.__eq__» ⟨[.ref l, .ref b], []⟩) (GQ.FinOf prog w A R) (fun e s' => R (.error e) s') s := by
  obtain ⟨hp, g, d, tk, os⟩ := s
  have f3 := AutoSeq1.sub_list_list
  have ne : (xs.size != ys.size) = true := by simp [z]
  wp_walk using wpAny_loadPart' q1, wpAny_loadPart' q2
  exact r
theorem rc_list_eq {E : Value → Shared → Prop} {s : Shared} {l b : Addr} {N : Nat} {e : Nat → Bool} {Q : Value → Shared → Prop} (hu : A.units < cLine) (I : Shared → Prop) (L : LKeep prog w A E l b N e I) (fin : ∀ s, I s → Q (.bool (id (allFrom e 0 N))) s) (h : I s) : wpAny (model prog w) A (richCompare .Eq (.ref l) (.ref b)) Q E s := by
  obtain ⟨xs, ys, n, m, q1, q2, z1, z2, _⟩ := L.at_ _ h
  refine wpAny_richCompare_same_room (op := .Eq) ⟨_, q1, rfl⟩ ⟨_, q2, rfl⟩ F.slot_list_eq (GQ.call_here F.slot_list_eq ⟨_, q1, rfl⟩ F.entry_list_eq (F.args_list_eq_2 _ _) ?_) hu
  exact list_eqB (R := wants (fun v s' => v ≠ .notImplemented ∧ Q v s') E) L (fun s' q => ⟨(fun x => nomatch x), fin s' q⟩) h
theorem rc_list_eqS {E : Value → Shared → Prop} {s : Shared} {l b : Addr} {xs ys : Array Value} {n m : Nat} {Q : Value → Shared → Prop} (hu : A.units < cLine) (q1 : s.heap.get? l = some (lObj xs n)) (q2 : s.heap.get? b = some (lObj ys m)) (z : xs.size ≠ ys.size) (h : Q (.bool (id false)) s) : wpAny (model prog w) A (richCompare .Eq (.ref l) (.ref b)) Q E s := by
  refine wpAny_richCompare_same_room (op := .Eq) ⟨_, q1, rfl⟩ ⟨_, q2, rfl⟩ F.slot_list_eq (GQ.call_here F.slot_list_eq ⟨_, q1, rfl⟩ F.entry_list_eq (F.args_list_eq_2 _ _) ?_) hu
  exact list_eqS (R := wants (fun v s' => v ≠ .notImplemented ∧ Q v s') E) q1 q2 z ⟨(fun x => nomatch x), h⟩
theorem list_neB {l b : Addr} {N : Nat} {e : Nat → Bool} {I : Shared → Prop} (L : LKeep prog w A (fun e s' => R (.error e) s') l b N e I) (fin : ∀ s, I s → R (.ok (.ret (.bool (not (allFrom e 0 N))))) s) {s : Shared} (h : I s) :
    wpAny (model prog w) A.in1 (Builtin.«list.__ne__» ⟨[.ref l, .ref b], []⟩) (GQ.FinOf prog w A R) (fun e s' => R (.error e) s') s := by
  obtain ⟨xs, ys, n, m, q1, q2, z1, z2, _⟩ := L.at_ _ h
  have rec_ := loopB 3 not (.inr ⟨rfl, rfl⟩) l b N e I L N 0 (by omega) (by omega) fin s h
  obtain ⟨hp, g, d, tk, os⟩ := s
  have f3 := AutoSeq1.sub_list_list
  have ne : ¬ (xs.size != ys.size) = true := by simp [z1, z2]
  wp_walk using wpAny_loadPart' q1, wpAny_loadPart' q2
  exact ⟨plainId_quiet plain_eq_loop _, codeAny_builtin entry_eq_loop (by rw [Around.under_plainId plain_eq_loop _]; exact rec_)⟩
theorem list_neS {l b : Addr} {xs ys : Array Value} {n m : Nat} {s : Shared} (q1 : s.heap.get? l = some (lObj xs n)) (q2 : s.heap.get? b = some (lObj ys m)) (z : xs.size ≠ ys.size) (r : R (.ok (.ret (.bool (not false)))) s) :
    wpAny (model prog w) A.in1 (Builtin.«list.__ne__» ⟨[.ref l, .ref b], []⟩) (GQ.FinOf prog w A R) (fun e s' => R (.error e) s') s := by
  obtain ⟨hp, g, d, tk, os⟩ := s
  have f3 := AutoSeq1.sub_list_list
  have ne : (xs.size != ys.size) = true := by simp [z]
  wp_walk using wpAny_loadPart' q1, wpAny_loadPart' q2
  exact r
theorem rc_list_ne {E : Value → Shared → Prop} {s : Shared} {l b : Addr} {N : Nat} {e : Nat → Bool} {Q : Value → Shared → Prop} (hu : A.units < cLine) (I : Shared → Prop) (L : LKeep prog w A E l b N e I) (fin : ∀ s, I s → Q (.bool (not (allFrom e 0 N))) s) (h : I s) : wpAny (model prog w) A (richCompare .NotEq (.ref l) (.ref b)) Q E s := by
  obtain ⟨xs, ys, n, m, q1, q2, z1, z2, _⟩ := L.at_ _ h
  refine wpAny_richCompare_same_room (op := .NotEq) ⟨_, q1, rfl⟩ ⟨_, q2, rfl⟩ F.slot_list_ne (GQ.call_here F.slot_list_ne ⟨_, q1, rfl⟩ F.entry_list_ne (F.args_list_ne_2 _ _) ?_) hu
  exact list_neB (R := wants (fun v s' => v ≠ .notImplemented ∧ Q v s') E) L (fun s' q => ⟨(fun x => nomatch x), fin s' q⟩) h
theorem rc_list_neS {E : Value → Shared → Prop} {s : Shared} {l b : Addr} {xs ys : Array Value} {n m : Nat} {Q : Value → Shared → Prop} (hu : A.units < cLine) (q1 : s.heap.get? l = some (lObj xs n)) (q2 : s.heap.get? b = some (lObj ys m)) (z : xs.size ≠ ys.size) (h : Q (.bool (not false)) s) : wpAny (model prog w) A (richCompare .NotEq (.ref l) (.ref b)) Q E s := by
  refine wpAny_richCompare_same_room (op := .NotEq) ⟨_, q1, rfl⟩ ⟨_, q2, rfl⟩ F.slot_list_ne (GQ.call_here F.slot_list_ne ⟨_, q1, rfl⟩ F.entry_list_ne (F.args_list_ne_2 _ _) ?_) hu
  exact list_neS (R := wants (fun v s' => v ≠ .notImplemented ∧ Q v s') E) q1 q2 z ⟨(fun x => nomatch x), h⟩
theorem tup_eqB {l b : Addr} {xs ys : Array Value} {n m : Nat} {dd dd2 : Option Addr} {sl sl2 : Array (Option Value)} {e : Nat → Bool} {I : Shared → Prop} (z : xs.size = ys.size)
    (turn : ∀ i (h1 : i < xs.size) (h2 : i < ys.size) s, I s → wpAny (model prog w) A.in1 (eqBool xs[i] ys[i]) (fun r s' => r = e i ∧ I s') (fun e s' => R (.error e) s') s) (fin : ∀ s, I s → R (.ok (.ret (.bool (id (allFrom e 0 xs.size))))) s)
    {s : Shared} (q1 : s.heap.get? l = some { cls := .type "tuple", dict := dd, data := .seq xs n, slots := sl }) (q2 : s.heap.get? b = some { cls := .type "tuple", dict := dd2, data := .seq ys m, slots := sl2 }) (h : I s) :
    wpAny (model prog w) A.in1 (Builtin.«tuple.__eq__» ⟨[.ref l, .ref b], []⟩) (GQ.FinOf prog w A R) (fun e s' => R (.error e) s') s := by
  have f2 := AutoSeq1.sub_tuple_tuple
  have zl : (xs.toList.zip ys.toList).length = xs.size := by simp [z]
  have h0 := h
  obtain ⟨hp, g, d, tk, os⟩ := s
  wp_walk using wpAny_loadPart' q1, wpAny_loadPart' q2, wpAny_forIn_list _ (fun rest b s' => b.1 = none ∧ ∃ i, rest = (xs.toList.zip ys.toList).drop i ∧ i ≤ xs.size ∧ I s' ∧ allFrom e 0 xs.size = allFrom e i (xs.size - i)) _
  case turn =>
    rintro ⟨y, x⟩ rest b s' ⟨hb, i, hz, hi, hI, al⟩
    have lt : i < (xs.toList.zip ys.toList).length := by
      rcases Nat.lt_or_ge i (xs.toList.zip ys.toList).length with q | q
      · exact q
      · rw [List.drop_of_length_le q] at hz; cases hz
    have h1 : i < xs.size := zl ▸ lt
    have h2 : i < ys.size := z ▸ h1
    rw [List.drop_eq_getElem_cons lt] at hz
    injection hz with e1 e2
    have ey : y = xs[i] := by have := congrArg Prod.fst e1; simpa using this
    have ex : x = ys[i] := by have := congrArg Prod.snd e1; simpa using this
    subst ey ex
    rw [show xs.size - i = (xs.size - (i + 1)) + 1 by omega, allFrom] at al
    refine wpAny_bind (wpAny_mono (turn i h1 h2 s' hI) (fun r s2 k2 => ?_) (fun _ _ x => x))
    obtain ⟨rfl, k2⟩ := k2
    cases ei : e i with
    | true =>
      rw [ei, Bool.true_and] at al; wp_walk
      exact ⟨rfl, i + 1, e2, h1, k2, al⟩
    | false =>
      rw [ei, Bool.false_and] at al
      have r := fin s2 k2
      rw [al] at r; wp_walk
      exact r
  case fin =>
    rintro ⟨b1, b2⟩ s' ⟨hb, i, hz, hi, hI, al⟩
    simp only at hb
    subst hb
    have ge : xs.size ≤ i := by
      rcases Nat.lt_or_ge i (xs.toList.zip ys.toList).length with q | q
      · rw [List.drop_eq_getElem_cons q] at hz; cases hz
      · exact zl ▸ q
    have r := fin s' hI
    rw [al, Nat.sub_eq_zero_of_le ge] at r; wp_walk
    simpa [Builtin.Tuple.tupleCompareSizes, z, allFrom] using r
  case h =>
    exact ⟨rfl, 0, rfl, Nat.zero_le _, h0, rfl⟩
theorem rc_tup_eq {E : Value → Shared → Prop} {s : Shared} {l b : Addr} {xs ys : Array Value} {e : Nat → Bool} {Q : Value → Shared → Prop} (z : xs.size = ys.size) (hu : A.units < cLine) (I : Shared → Prop) (hl : s.heap.IsTuple l xs) (hb : s.heap.IsTuple b ys)
    (turn : ∀ i (h1 : i < xs.size) (h2 : i < ys.size) s, I s → wpAny (model prog w) A.in1 (eqBool xs[i] ys[i]) (fun r s' => r = e i ∧ I s') E s) (fin : ∀ s, I s → Q (.bool (id (allFrom e 0 xs.size))) s) (h : I s) : wpAny (model prog w) A (richCompare .Eq (.ref l) (.ref b)) Q E s := by
  obtain ⟨⟨cls, dd, data, sl⟩, ho, hc, n, hd⟩ := id hl; obtain ⟨⟨cls2, dd2, data2, sl2⟩, ho2, hc2, n2, hd2⟩ := id hb
  simp only at hc hd hc2 hd2; subst hc hd hc2 hd2
  refine wpAny_richCompare_same_room (op := .Eq) ⟨_, ho, rfl⟩ ⟨_, ho2, rfl⟩ F.slot_tuple_eq (GQ.call_here F.slot_tuple_eq ⟨_, ho, rfl⟩ F.entry_tuple_eq (F.args_tuple_eq_2 _ _) ?_) hu
  exact tup_eqB (R := wants (fun v s' => v ≠ .notImplemented ∧ Q v s') E) z turn (fun s' q => ⟨(fun x => nomatch x), fin s' q⟩) ho ho2 h
theorem tup_neB {l b : Addr} {xs ys : Array Value} {n m : Nat} {dd dd2 : Option Addr} {sl sl2 : Array (Option Value)} {e : Nat → Bool} {I : Shared → Prop} (z : xs.size = ys.size)
    (turn : ∀ i (h1 : i < xs.size) (h2 : i < ys.size) s, I s → wpAny (model prog w) A.in1 (eqBool xs[i] ys[i]) (fun r s' => r = e i ∧ I s') (fun e s' => R (.error e) s') s) (fin : ∀ s, I s → R (.ok (.ret (.bool (not (allFrom e 0 xs.size))))) s)
    {s : Shared} (q1 : s.heap.get? l = some { cls := .type "tuple", dict := dd, data := .seq xs n, slots := sl }) (q2 : s.heap.get? b = some { cls := .type "tuple", dict := dd2, data := .seq ys m, slots := sl2 }) (h : I s) :
    wpAny (model prog w) A.in1 (Builtin.«tuple.__ne__» ⟨[.ref l, .ref b], []⟩) (GQ.FinOf prog w A R) (fun e s' => R (.error e) s') s := by
  have f2 := AutoSeq1.sub_tuple_tuple
  have zl : (xs.toList.zip ys.toList).length = xs.size := by simp [z]
  have h0 := h
  obtain ⟨hp, g, d, tk, os⟩ := s
  wp_walk using wpAny_loadPart' q1, wpAny_loadPart' q2, wpAny_forIn_list _ (fun rest b s' => b.1 = none ∧ ∃ i, rest = (xs.toList.zip ys.toList).drop i ∧ i ≤ xs.size ∧ I s' ∧ allFrom e 0 xs.size = allFrom e i (xs.size - i)) _
  case turn =>
    rintro ⟨y, x⟩ rest b s' ⟨hb, i, hz, hi, hI, al⟩
    have lt : i < (xs.toList.zip ys.toList).length := by
      rcases Nat.lt_or_ge i (xs.toList.zip ys.toList).length with q | q
      · exact q
      · rw [List.drop_of_length_le q] at hz; cases hz
    have h1 : i < xs.size := zl ▸ lt
    have h2 : i < ys.size := z ▸ h1
    rw [List.drop_eq_getElem_cons lt] at hz
    injection hz with e1 e2
    have ey : y = xs[i] := by have := congrArg Prod.fst e1; simpa using this
    have ex : x = ys[i] := by have := congrArg Prod.snd e1; simpa using this
    subst ey ex
    rw [show xs.size - i = (xs.size - (i + 1)) + 1 by omega, allFrom] at al
    refine wpAny_bind (wpAny_mono (turn i h1 h2 s' hI) (fun r s2 k2 => ?_) (fun _ _ x => x))
    obtain ⟨rfl, k2⟩ := k2
    cases ei : e i with
    | true =>
      rw [ei, Bool.true_and] at al; wp_walk
      exact ⟨rfl, i + 1, e2, h1, k2, al⟩
    | false =>
      rw [ei, Bool.false_and] at al
      have r := fin s2 k2
      rw [al] at r; wp_walk
      exact r
  case fin =>
    rintro ⟨b1, b2⟩ s' ⟨hb, i, hz, hi, hI, al⟩
    simp only at hb
    subst hb
    have ge : xs.size ≤ i := by
      rcases Nat.lt_or_ge i (xs.toList.zip ys.toList).length with q | q
      · rw [List.drop_eq_getElem_cons q] at hz; cases hz
      · exact zl ▸ q
    have r := fin s' hI
    rw [al, Nat.sub_eq_zero_of_le ge] at r; wp_walk
    simpa [Builtin.Tuple.tupleCompareSizes, z, allFrom] using r
  case h =>
    exact ⟨rfl, 0, rfl, Nat.zero_le _, h0, rfl⟩
theorem rc_tup_ne {E : Value → Shared → Prop} {s : Shared} {l b : Addr} {xs ys : Array Value} {e : Nat → Bool} {Q : Value → Shared → Prop} (z : xs.size = ys.size) (hu : A.units < cLine) (I : Shared → Prop) (hl : s.heap.IsTuple l xs) (hb : s.heap.IsTuple b ys)
    (turn : ∀ i (h1 : i < xs.size) (h2 : i < ys.size) s, I s → wpAny (model prog w) A.in1 (eqBool xs[i] ys[i]) (fun r s' => r = e i ∧ I s') E s) (fin : ∀ s, I s → Q (.bool (not (allFrom e 0 xs.size))) s) (h : I s) : wpAny (model prog w) A (richCompare .NotEq (.ref l) (.ref b)) Q E s := by
  obtain ⟨⟨cls, dd, data, sl⟩, ho, hc, n, hd⟩ := id hl; obtain ⟨⟨cls2, dd2, data2, sl2⟩, ho2, hc2, n2, hd2⟩ := id hb
  simp only at hc hd hc2 hd2; subst hc hd hc2 hd2
  refine wpAny_richCompare_same_room (op := .NotEq) ⟨_, ho, rfl⟩ ⟨_, ho2, rfl⟩ F.slot_tuple_ne (GQ.call_here F.slot_tuple_ne ⟨_, ho, rfl⟩ F.entry_tuple_ne (F.args_tuple_ne_2 _ _) ?_) hu
  exact tup_neB (R := wants (fun v s' => v ≠ .notImplemented ∧ Q v s') E) z turn (fun s' q => ⟨(fun x => nomatch x), fin s' q⟩) ho ho2 h
end
end Z
namespace Z
open PySem PySem.Spec PyProof.Rows L2
abbrev EqvB := V → V → Bool → Hp → Prop
def MonB (D : EqvB) : Prop := ∀ x y b H H', Same H H' → D x y b H → D x y b H'
/-- == of two items gives the Bool that D says, and only makes things -/
def EqB (X : Cx) (n : Nat) (D : EqvB) : Prop := ∀ (A : Around) (pins : List (Addr × Obj)) (s : Shared) (σ : L2.St) (H : Hp) (x y : V) (u v : Value) (b : Bool), Sub X n A → Inv X pins σ H s → RelV x u → RelV y v → D x y b H →
  wpAny (model X.prog X.w) A (eqBool u v) (fun r s' => r = b ∧ ∃ H', Inv X pins σ H' s' ∧ Same H H') X.xe s
section
variable {X : Cx} {n m : Nat} {D D' : EqvB}
theorem EqB.mono (h : EqB X n D) (l : n ≤ m) : EqB X m D := fun A pins s σ H x y u v b sb => h A pins s σ H x y u v b (sb.mono l)
theorem EqB.or (h : EqB X n D) (k : EqB X n D') : EqB X n (fun x y b H => D x y b H ∨ D' x y b H) := fun A pins s σ H x y u v b sb I rx ry d => d.elim (h A pins s σ H x y u v b sb I rx ry) (k A pins s σ H x y u v b sb I rx ry)
theorem MonB.or (h : MonB D) (k : MonB D') : MonB (fun x y b H => D x y b H ∨ D' x y b H) := fun x y b H H' s d => d.imp (h x y b H H' s) (k x y b H H' s)
def BFlat : EqvB := fun x y b _ => flatV x = true ∧ flatV y = true ∧ eqV x y = b
theorem monB_flat : MonB BFlat := fun _ _ _ _ _ _ d => d
theorem eqB_flat : EqB X 0 BFlat := fun A pins s σ H x y u v b sb I rx ry ⟨fx, fy, e⟩ => by
  have q := eqAt_V (A := A) (s := s) rx ry fx fy
  rw [e] at q; exact q X.prog X.w X.xe _ ⟨rfl, H, I, Same.refl _⟩
def BSelf : EqvB := fun x y b _ => ∃ a, x = .ref a ∧ y = .ref a ∧ b = true
theorem monB_self : MonB BSelf := fun _ _ _ _ _ _ d => d
theorem eqB_self : EqB X 0 BSelf := fun A pins s σ H x y u v b sb I rx ry ⟨a, e1, e2, e3⟩ => by
  subst e1 e2 e3
  cases rx; cases ry
  exact SeqAt.EqAt.same (A := A) (s := s) (.ref a) X.prog X.w X.xe _ ⟨rfl, H, I, Same.refl _⟩
def BData (K : PySem.W.Frag) : EqvB := fun x y b H => ∃ d e, (∀ H', Same H H' → Dp K H' x d) ∧ (∀ H', Same H H' → Dp K H' y e) ∧ SeqAt.shaped d = true ∧ SeqAt.shaped e = true ∧ PyData.eqv d e = b
theorem monB_data (K : PySem.W.Frag) : MonB (BData K) := fun x y b H H' s ⟨d, e, h1, h2, r⟩ => ⟨d, e, fun H2 s2 => h1 H2 (s.trans s2), fun H2 s2 => h2 H2 (s.trans s2), r⟩
theorem eqB_data {K : PySem.W.Frag} (hK : X.K = K := by rfl) : EqB X 0 (BData K) := fun A pins s σ H x y u v b sb I rx ry ⟨d, e, h1, h2, c1, c2, eb⟩ => by
  subst hK
  obtain ⟨as, r1⟩ := Dp.reads I d x u (h1 H (Same.refl _)) rx
  obtain ⟨bs, r2⟩ := Dp.reads I e y v (h2 H (Same.refl _)) ry
  have hu := u70 sb.room
  have dd := SeqAt.depth_of_shaped c1
  exact SeqAt.eqAt_reads d e A s u v as bs r1 r2 (SeqAt.canLay_of_shaped c1) (SeqAt.canLay_of_shaped c2) (by omega) X.prog X.w X.xe _ ⟨eb, H, I, Same.refl _⟩
/-- two instances of one class with its own == -/
def BOwn (C : Addr) (sp : Sp) : EqvB := fun x y b H => ∃ a c dx dy fs gs, x = .ref a ∧ y = .ref c ∧ H a = some (.ins C dx fs) ∧ H c = some (.ins C dy gs) ∧ (a = c → b = true) ∧ ∀ H', Same H H' → sp [.ref a, .ref c] H' (fun v H2 => v = .bl b ∧ Same H' H2) E0
theorem monB_own {C : Addr} {sp : Sp} : MonB (BOwn C sp) := fun x y b H H' s ⟨a, c, dx, dy, fs, gs, e1, e2, h1, h2, i, k⟩ => ⟨a, c, dx, dy, fs, gs, e1, e2, s _ _ h1, s _ _ h2, i, fun H2 s2 => k H2 (s.trans s2)⟩
theorem eqB_own {C f : Addr} {ps : List Str} {sp : Sp} {K : PySem.W.Frag} (M : DefM X.prog X.w K X.mg X.base n f ps sp) (hs : PySem.W.findIn K (.ref C) "__eq__" = some (some (.ref f))) (hf : PySem.W.isFn K (.ref f) = true) (hK : X.K = K := by rfl) : EqB X n (BOwn C sp) := by
  subst hK
  obtain ⟨fd, F, hb⟩ := M.ex
  rintro A pins s σ H x y u v b sb I rx ry ⟨a, c, dx, dy, fs, gs, rfl, rfl, ha, hc, same, k⟩
  cases rx; cases ry
  by_cases ac : a = c
  · subst ac
    rw [same rfl]
    exact SeqAt.EqAt.same (A := A) (s := s) (.ref a) X.prog X.w X.xe _ ⟨rfl, H, I, Same.refl _⟩
  refine GQ.eqBool_refG ac ?_
  obtain ⟨mA, J, _⟩ := ins_get I.hok ha
  obtain ⟨mB, J2, _⟩ := ins_get I.hok hc
  obtain ⟨od, J, _⟩ := J.look; obtain ⟨od2, J2, _⟩ := J2.look; obtain ⟨mF, hF⟩ := I.fr
  refine PySem.W.cmp_K (op := .Eq) (tb := .ref C) sb.room.units0 hF I.ok.mod.kin J J2.type (by simp [PySem.W.notFirst]) hs hf ?_
  have q := k H (Same.refl _)
  have e0 : Env0 X.prog X.w X.K X.mg X.base A X.stack s H := by have e := I.env0; exact ⟨by rw [sb.fr]; exact e.frames, e.mod, e.bs, e.bsz, e.funs, e.frf, e.hok, e.bare⟩
  have hl := F.len _ _ _ _ q
  refine wpAny_call (codeAny_mono (F.run A X.stack s H ⟨[.ref a, .ref c], []⟩ [.ref a, .ref c] [.ref a, .ref c] _ E0 sb.room e0 (by have := hb s [.ref a, .ref c] I.kIn (by simpa using hl); simpa using this) (.cons rfl (.cons rfl .nil)) q) (fun r s' hq => ?_))
  cases r with
  | error e => exact absurd hq (fun q => q.elim)
  | ok fl =>
    cases fl with
    | ret w =>
      obtain ⟨z, H2, I2, rz, ez, ex⟩ := I.after hq
      subst ez; cases rz
      exact ⟨b, rfl, rfl, H2, I2, ex⟩
    | next => exact hq.elim
    | brk => exact hq.elim
    | cont => exact hq.elim
/-! ### rows -/
def PrsB (D : EqvB) (xs ys : List V) (e : Nat → Bool) (H : Hp) : Prop := xs.length = ys.length ∧ ∀ (i : Nat) x y, xs[i]? = some x → ys[i]? = some y → D x y (e i) H
theorem turnB (hD : MonB D) (h : EqB X n D) {A : Around} (sb : Sub X (n + 1) A) {pins : List (Addr × Obj)} {σ : L2.St} {H : Hp} {xs ys : List V} {its ots : List Value} {e : Nat → Bool} (p : PrsB D xs ys e H) (r : Vals xs its) (r2 : Vals ys ots)
    (i : Nat) (h1 : i < its.toArray.size) (h2 : i < ots.toArray.size) (s' : Shared) (l : ∃ H', Inv X pins σ H' s' ∧ Same H H') :
    wpAny (model X.prog X.w) A.in1 (eqBool its.toArray[i] ots.toArray[i]) (fun r s2 => r = e i ∧ ∃ H', Inv X pins σ H' s2 ∧ Same H H') X.xe s' := by
  obtain ⟨H1, I1, s1⟩ := l
  have i1 : i < its.length := by simpa using h1
  have i2 : i < ots.length := by simpa using h2
  have k1 : i < xs.length := by rw [r.length]; exact i1
  have k2 : i < ys.length := by rw [r2.length]; exact i2
  obtain ⟨u, hu, ru⟩ := r.get (List.getElem?_eq_getElem k1); obtain ⟨v, hv, rv⟩ := r2.get (List.getElem?_eq_getElem k2)
  have g1 : its[i]? = some its.toArray[i] := by rw [List.getElem?_eq_getElem i1]; simp
  have g2 : ots[i]? = some ots.toArray[i] := by rw [List.getElem?_eq_getElem i2]; simp
  rw [g1] at hu; rw [g2] at hv
  rw [Option.some.inj hu, Option.some.inj hv]
  refine wpAny_mono (h A.in1 pins s' σ H1 _ _ u v _ sb.in1 I1 ru rv (hD _ _ _ _ _ s1 (p.2 i _ _ (List.getElem?_eq_getElem k1) (List.getElem?_eq_getElem k2)))) (fun r s2 q => ?_) (fun _ _ x => x)
  obtain ⟨hr, H2, I2, s2'⟩ := q
  exact ⟨hr, H2, I2, s1.trans s2'⟩
def rRowB (K : PySem.W.Frag) (f : Bool → Bool) (D : EqvB) : R2 := fun x y H Q => ∃ (a b : Addr) (xs ys : List V) (e : Nat → Bool), x = .ref a ∧ y = .ref b ∧ ((H a = some (.lst xs) ∧ H b = some (.lst ys)) ∨ (SqT K H a xs ∧ SqT K H b ys)) ∧ PrsB D xs ys e H ∧ ∀ H', Same H H' → Q (.bl (f (allFrom e 0 xs.length))) H'
theorem keepB (hD : MonB D) (h : EqB X n D) {A : Around} (sb : Sub X (n + 1) A) {pins : List (Addr × Obj)} {σ : L2.St} {H : Hp} {xs ys : List V} {e : Nat → Bool} {a b : Addr} (p : PrsB D xs ys e H) (ha : H a = some (.lst xs)) (hb : H b = some (.lst ys)) : LKeep X.prog X.w A X.xe a b xs.length e (fun s' => ∃ H', Inv X pins σ H' s' ∧ Same H H') := by
  refine ⟨fun s' q => ?_⟩
  obtain ⟨H1, I1, s1⟩ := id q
  obtain ⟨z, its, k, r, e1⟩ := I1.hok a _ (s1 _ _ ha); obtain ⟨z2, ots, k2, r2, e2⟩ := I1.hok b _ (s1 _ _ hb)
  exact ⟨its.toArray, ots.toArray, k, k2, e1, e2, by rw [List.size_toArray, ← r.length], by rw [List.size_toArray, ← r2.length, ← p.1], fun i h1 h2 => turnB hD h sb p r r2 i h1 h2 s' q⟩
theorem op_rowEq {K : PySem.W.Frag} (hD : MonB D) (h : EqB X n D) (hr : Room (n + 1) X.A) (hK : X.K = K := by rfl) : OpR X (compareOp .Eq) (rRowB K id D) := by
  subst hK
  rintro pins s σ H x y v u Q I rx ry ⟨a, b, xs, ys, e, rfl, rfl, hs, p, q⟩
  cases rx; cases ry
  show wpAny (model X.prog X.w) X.A (richCompare .Eq _ _) (EP X pins σ Q) X.xe s
  rcases hs with ⟨ha, hb⟩ | ⟨ha, hb⟩
  · exact rc_list_eq hr.units0 _ (keepB hD h ⟨hr, rfl⟩ p ha hb) (fun s' ⟨H', I', s1⟩ => ⟨.bl _, H', I', rfl, q H' s1⟩) ⟨H, I, Same.refl _⟩
  · obtain ⟨its, r, e1, z⟩ := I.tuple ha; obtain ⟨ots, r2, e2, z2⟩ := I.tuple hb
    have l1 : its.toArray.size = xs.length := by rw [List.size_toArray, ← r.length]
    refine rc_tup_eq (e := e) (by rw [l1, List.size_toArray, ← r2.length]; exact p.1) hr.units0 (fun s' => ∃ H', Inv X pins σ H' s' ∧ Same H H') e1 e2 (fun i h1 h2 s' k => turnB hD h ⟨hr, rfl⟩ p r r2 i h1 h2 s' k) (fun s' ⟨H', I', s1⟩ => ⟨.bl _, H', I', rfl, by rw [l1]; exact q H' s1⟩) ⟨H, I, Same.refl _⟩
theorem op_rowNe {K : PySem.W.Frag} (hD : MonB D) (h : EqB X n D) (hr : Room (n + 1) X.A) (hK : X.K = K := by rfl) : OpR X (compareOp .NotEq) (rRowB K not D) := by
  subst hK
  rintro pins s σ H x y v u Q I rx ry ⟨a, b, xs, ys, e, rfl, rfl, hs, p, q⟩
  cases rx; cases ry
  show wpAny (model X.prog X.w) X.A (richCompare .NotEq _ _) (EP X pins σ Q) X.xe s
  rcases hs with ⟨ha, hb⟩ | ⟨ha, hb⟩
  · exact rc_list_ne hr.units0 _ (keepB hD h ⟨hr, rfl⟩ p ha hb) (fun s' ⟨H', I', s1⟩ => ⟨.bl _, H', I', rfl, q H' s1⟩) ⟨H, I, Same.refl _⟩
  · obtain ⟨its, r, e1, z⟩ := I.tuple ha; obtain ⟨ots, r2, e2, z2⟩ := I.tuple hb
    have l1 : its.toArray.size = xs.length := by rw [List.size_toArray, ← r.length]
    refine rc_tup_ne (e := e) (by rw [l1, List.size_toArray, ← r2.length]; exact p.1) hr.units0 (fun s' => ∃ H', Inv X pins σ H' s' ∧ Same H H') e1 e2 (fun i h1 h2 s' k => turnB hD h ⟨hr, rfl⟩ p r r2 i h1 h2 s' k) (fun s' ⟨H', I', s1⟩ => ⟨.bl _, H', I', rfl, by rw [l1]; exact q H' s1⟩) ⟨H, I, Same.refl _⟩
/-- one rule or another -/
theorem op_or2 {f : Value → Value → Sem Value} {r1 r2 : R2} (h1 : OpR X f r1) (h2 : OpR X f r2) : OpR X f (fun x y H Q => r1 x y H Q ∨ r2 x y H Q) := fun pins s σ H x y v u Q I rx ry q => q.elim (h1 pins s σ H x y v u Q I rx ry) (h2 pins s σ H x y v u Q I rx ry)
end
end Z
namespace Z
open PySem PySem.Spec PyProof.Rows L2
open AutoSeq1 (wpAny_loadPart')
open MeetsSeq MeetsSeq2 MeetsSeq3 SeqRoads2 SeqAt
/-! ### a dict is no text -/
abbrev dObj (dd : Option Addr) (es : Array DictEntry) (ep : Nat) (sl : Array (Option Value)) : Obj := { cls := .type "dict", dict := dd, data := .dict es ep, slots := sl }
theorem dict_no_str (l : Addr) (dd : Option Addr) (es : Array DictEntry) (ep : Nat) (sl : Array (Option Value)) (b : Str) (u : Tok) : Meets (Builtin.«dict.__eq__» ⟨[.ref l, .str b u], []⟩) (fun _ R s => s.heap.get? l = some (dObj dd es ep sl) ∧ R (.ok (.ret .notImplemented)) s) :=
  .of_wp fun prog w A R s h => by
    obtain ⟨hp, g, d, tk, os⟩ := s; obtain ⟨q, k⟩ := h
    have f1 := F.sub_str_dict; wp_walk using wpAny_loadPart' q
    exact ⟨_, rfl, k⟩
theorem str_no_dict (l : Addr) (dd : Option Addr) (es : Array DictEntry) (ep : Nat) (sl : Array (Option Value)) (b : Str) (u : Tok) : Meets (Builtin.«str.__eq__» ⟨[.str b u, .ref l], []⟩) (fun _ R s => s.heap.get? l = some (dObj dd es ep sl) ∧ R (.ok (.ret .notImplemented)) s) :=
  .of_wp fun prog w A R s h => by
    obtain ⟨hp, g, d, tk, os⟩ := s; obtain ⟨q, k⟩ := h
    wp_walk using wpAny_loadPart' q, wpAny_load q; exact ⟨_, rfl, k⟩
theorem rc_dict_str {A : Around} {s : Shared} {l : Addr} {dd : Option Addr} {es : Array DictEntry} {ep : Nat} {sl : Array (Option Value)} (ho : s.heap.get? l = some (dObj dd es ep sl)) (b : Str) (u : Tok) (hu : A.units < cLine) : RcAt A s (.ref l) (.str b u) false := fun prog w E Q h =>
  rc_eq_decline_or (k := false) ⟨_, ho, rfl⟩ (typeIs_str s b u) (by decide) F.sub_str_dict F.slot_dict_eq F.slot_str_eq_refl
    (fun _ k => call_meets F.slot_dict_eq ⟨_, ho, rfl⟩ F.entry_dict_eq (F.args_dict_eq_2 _ _) (dict_no_str l dd es ep sl b u) ⟨ho, k⟩)
    (fun _ k => call_meets F.slot_str_eq_refl (typeIs_str s b u) F.entry_str_eq (F.args_str_eq_2 _ _) (str_no_dict l dd es ep sl b u) ⟨ho, k⟩)
    (fun _ k => wpAny_of_eq (rfl : isSame (.ref l) (.str b u) = pure false) k) (.inr hu) h
def rDictStr : R2 := fun x y H Q => ∃ (a : Addr) (kvs : List (Key × V)) (z : Str), x = .ref a ∧ y = .str z ∧ H a = some (.dK kvs) ∧ Q (.bl false) H
theorem op_dictStr {X : Cx} (hu : X.A.units < cLine) : OpR X (compareOp .Eq) rDictStr := by
  rintro pins s σ H x y v u Q I rx ry ⟨a, kvs, z, rfl, rfl, ha, q⟩
  cases rx; obtain ⟨t, rfl⟩ := ry
  obtain ⟨_, _, vs, _, ⟨cls, dd, dat, sl⟩, es, ep, ho, ex, hd, _⟩ := I.hok a _ ha
  have hc : cls = .type "dict" := ex.1
  subst hc
  simp only at hd
  subst hd
  exact rc_dict_str ho z t hu X.prog X.w X.xe _ ⟨.bl _, H, I, rfl, q⟩
def isN (a b : Str) (K : PySem.W.Frag) : Bool := decide (PySem.W.kitOne K (.ref (He.ga K a)) (.ref (He.ga K b)) = some false)
theorem part_ok {K : PySem.W.Frag} {H : Hp} {u v : V} {f0 f1 f2 f3 m a b : Str} {Q : Addr → Hp → Prop} {E : XK} (hu : ∃ q, u = .ref q ∧ RowA H q ([f0, m].map V.str)) (hv : ∃ q, v = .ref q ∧ RowA H q ([a, b].map V.str)) (ok : RowOk f0 f1 f2 f3 m a b)
    (k : ∀ p H', Same H H' → H p = none → PartAt K H' p [f0, f1, f2, f3] [f0, m] [a, b] → Q p H') :
    ∀ x dx, H x = none → H dx = none → dx ≠ x → spPart K [.ref x, u, v] (upd (upd H dx (.own x)) x (.ins (He.ga K "Parting") dx [])) (fun v H2 => v = .non ∧ Q x H2) E :=
  part_new hu hv ok.two fun p hs ny fy H' s n c h => by
    obtain ⟨rfl, rfl, rfl⟩ := ok.part (.inl ⟨.refl _, .refl _⟩) c
    exact k p H' s n h
def tabN (a b : Str) (K : PySem.W.Frag) : Bool := decide ((He.cT K (a, none)).2 ≠ (He.cT K (b, none)).2)
end Z
namespace Z
open PySem PySem.Spec PyProof.Rows L2 TL
/-! ### the text of a parting, told by its words -/
def fourB (a b s c d : Str) : Bool := decide (s = Str.ofString "/") && ([a, b, c, d].all nmB && (decide [a, b, c, d].Nodup && (!ltCps b.cps.toList a.cps.toList && (!ltCps d.cps.toList c.cps.toList && !ltCps c.cps.toList a.cps.toList))))
def readL (ws : List Str) : Option (List Str × List Str) := match ws with
  | [a, b, s, c, d] => if fourB a b s c d = true then some ([a, b], [c, d]) else none
  | _ => none
theorem join_five (a b c d : Str) : Txt.join (Str.ofString " ") [a, b, Str.ofString "/", c, d] = partText [a, b] [c, d] := by
  refine str_ext ?_
  show tl _ = tl _
  unfold partText
  rw [tl_append, tl_append, join_eq, join_eq, join_eq, tl_join, tl_join, tl_join, tl_sp, tl_slash]
  simp [joinL, show tl (Str.ofString "/") = [47] by decide +kernel]
theorem lt_of_n {a b : Str} (n : a ≠ b) (h : ltCps b.cps.toList a.cps.toList = false) : ltCps a.cps.toList b.cps.toList = true := by
  cases e : ltCps a.cps.toList b.cps.toList with
  | true => rfl
  | false => exact absurd (leS_anti h e) n
theorem n_of_lt {a b : Str} (h : ltCps a.cps.toList b.cps.toList = true) : ltCps b.cps.toList a.cps.toList = false := by
  cases e : ltCps b.cps.toList a.cps.toList with
  | false => rfl
  | true => exact absurd (lt_iff.mp e) (List.lt_asymm (lt_iff.mp h))
theorem readL_to {z : Str} {ns ms : List Str} (h : readL (Txt.split z (Str.ofString " ")) = some (ns, ms)) : readP z = some (ns, ms) := by
  have eb := split_back z (Str.ofString " ")
  generalize Txt.split z (Str.ofString " ") = ws at h eb
  unfold readL at h
  split at h
  · rename_i a b s c d
    split at h
    · rename_i f
      cases h
      unfold fourB at f
      simp only [Bool.and_eq_true, decide_eq_true_eq, Bool.not_eq_true'] at f
      obtain ⟨rfl, nm, nd, f1, f2, f3⟩ := f
      have nm : ∀ w ∈ [a, b, c, d], IsNm w := fun w hw => nmB_iff.mp (List.all_eq_true.mp nm w hw)
      have nd' := nd
      simp only [List.nodup_cons, List.mem_cons, List.not_mem_nil, or_false, not_or] at nd'
      obtain ⟨⟨n1, n2, n3⟩, _, n4, _⟩ := nd'
      rw [← eb, join_five]
      exact readP_text (x := a) (y := c) ⟨nm, nd, rfl, rfl⟩ (rise_asc (by show (ltCps a.cps.toList b.cps.toList && true) = true; rw [lt_of_n n1 f1]; rfl)) (rise_asc (by show (ltCps c.cps.toList d.cps.toList && true) = true; rw [lt_of_n n4 f2]; rfl)) rfl rfl (lt_of_n n2 f3)
    · cases h
  · cases h
theorem readP_to {z : Str} {ns ms : List Str} (h : readP z = some (ns, ms)) : readL (Txt.split z (Str.ofString " ")) = some (ns, ms) := by
  unfold readP at h
  split at h
  · rename_i a b e
    dsimp only at h
    have ez := split_twoP e
    split at h
    · rename_i f
      cases h
      rw [Bool.and_eq_true, Bool.and_eq_true, Bool.and_eq_true] at f
      obtain ⟨f1, f2, f3, f4⟩ := f
      obtain ⟨l1, m1, a1⟩ := coupB_iff.mp f1
      obtain ⟨l2, m2, a2⟩ := coupB_iff.mp f2
      have ap := apartB_iff.mp f3
      generalize Txt.split a (Str.ofString " ") = ns at ez l1 m1 a1 ap f4 ⊢
      generalize Txt.split b (Str.ofString " ") = ms at ez l2 m2 a2 ap f4 ⊢
      obtain ⟨x, y, rfl⟩ : ∃ x y, ns = [x, y] := by
        match ns, l1 with
        | [x, y], _ => exact ⟨x, y, rfl⟩
      obtain ⟨u, v, rfl⟩ : ∃ u v, ms = [u, v] := by
        match ms, l2 with
        | [u, v], _ => exact ⟨u, v, rfl⟩
      have f4 : ltCps x.cps.toList u.cps.toList = true := f4
      have r1 : ltCps x.cps.toList y.cps.toList = true := by
        have q : (ltCps x.cps.toList y.cps.toList && true) = true := rise_iff.mpr a1
        rw [Bool.and_true] at q
        exact q
      have r2 : ltCps u.cps.toList v.cps.toList = true := by
        have q : (ltCps u.cps.toList v.cps.toList && true) = true := rise_iff.mpr a2
        rw [Bool.and_true] at q
        exact q
      have nd : [x, y, u, v].Nodup := List.nodup_append.mpr ⟨a1.2.1, a2.2.1, fun p hp q hq e => ap p hp (e ▸ hq)⟩
      have es : Txt.split z (Str.ofString " ") = [x, y, Str.ofString "/", u, v] := by
        rw [ez, ← join_five]
        refine split_join tl_sp (by decide +kernel) (by simp) fun w hw => ?_
        simp only [List.mem_cons, List.not_mem_nil, or_false] at hw
        rcases hw with rfl | rfl | rfl | rfl | rfl
        · exact nm_no (m1 _ (by simp)) (by omega)
        · exact nm_no (m1 _ (by simp)) (by omega)
        · decide +kernel
        · exact nm_no (m2 _ (by simp)) (by omega)
        · exact nm_no (m2 _ (by simp)) (by omega)
      rw [es]
      show (if fourB x y (Str.ofString "/") u v = true then _ else _) = _
      rw [if_pos]
      unfold fourB
      simp only [Bool.and_eq_true, decide_eq_true_eq, Bool.not_eq_true']
      refine ⟨trivial, List.all_eq_true.mpr fun w hw => nmB_iff.mpr ?_, nd, n_of_lt r1, n_of_lt r2, n_of_lt f4⟩
      rcases List.mem_append.mp (show w ∈ [x, y] ++ [u, v] from hw) with hw | hw
      · exact m1 w hw
      · exact m2 w hw
    · cases h
  · cases h
theorem readP_words (z : Str) : readP z = readL (Txt.split z (Str.ofString " ")) := by
  cases e : readP z with
  | some q => exact (readP_to e).symm
  | none =>
    cases e2 : readL (Txt.split z (Str.ofString " ")) with
    | none => rfl
    | some q =>
      rw [readL_to e2] at e
      cases e
end Z
/-! ### text.replace, also with a count; statements behind which a token is out -/
namespace Z
open PySem PySem.Spec PyProof.Rows L2 TL Builtin Builtin.Str
theorem fold_mem (z : Str) : ∀ (rest : List Str) (acc : Array Nat) (c : Nat), c ∈ (rest.foldl (fun acc p => acc ++ z.cps ++ p.cps) acc).toList → c ∈ acc.toList ∨ c ∈ z.cps.toList ∨ ∃ p ∈ rest, c ∈ p.cps.toList
  | [], acc, c, h => .inl h
  | p :: r, acc, c, h => by
    rcases fold_mem z r _ c h with h | h | ⟨q, hq, h⟩
    · rw [Array.toList_append, Array.toList_append] at h
      rcases List.mem_append.mp h with h | h
      · rcases List.mem_append.mp h with h | h
        · exact .inl h
        · exact .inr (.inl h)
      · exact .inr (.inr ⟨p, .head _, h⟩)
    · exact .inr (.inl h)
    · exact .inr (.inr ⟨q, .tail _ hq, h⟩)
theorem glued_mem {z : Str} : ∀ {parts : List Str} {c : Nat}, c ∈ (glued z parts).cps.toList → c ∈ z.cps.toList ∨ ∃ p ∈ parts, c ∈ p.cps.toList
  | [], c, h => by simp [glued, Str.empty] at h
  | p :: r, c, h => by
    rcases fold_mem z r _ c h with h | h | ⟨q, hq, h⟩
    · exact .inr ⟨p, .head _, h⟩
    · exact .inl h
    · exact .inr ⟨q, .tail _ hq, h⟩
theorem parts_mem {x p : Str} {cuts : List Nat} {w : Nat} (hp : p ∈ partsBetween x cuts w) {c : Nat} (h : c ∈ p.cps.toList) : c ∈ x.cps.toList := by
  unfold partsBetween at hp
  obtain ⟨⟨i, j⟩, _, rfl⟩ := List.mem_map.mp hp
  have h : c ∈ (x.cps.extract i j).toList := h
  rw [Array.toList_extract] at h
  exact List.mem_of_mem_drop (List.mem_of_mem_take h)
/-- a text of letters of x and z, not longer than each place widened -/
def RepOf (x z r : Str) : Prop := (∀ c ∈ r.cps.toList, c ∈ x.cps.toList ∨ c ∈ z.cps.toList) ∧ r.length ≤ x.length + (x.length + 1) * z.length
theorem repOf_self (x z : Str) : RepOf x z x := ⟨fun c h => .inl h, Nat.le_add_right _ _⟩
theorem repOf_glued (x y z : Str) (l : Nat) (hl : l ≤ x.length + 1) : RepOf x z (glued z (partsBetween x (occurrences x y 0 x.length l) y.length)) := by
  refine ⟨fun c h => ?_, ?_⟩
  · rcases glued_mem h with h | ⟨p, hp, h⟩
    · exact .inr h
    · exact .inl (parts_mem hp h)
  · have h1 := StrLaws.occ_length_le x y 0 x.length l
    have hy : (glued y (partsBetween x (occurrences x y 0 x.length l) y.length)).length = x.length := by rw [StrLaws.glued_between_self]
    rw [size_glued, length_partsBetween, Nat.add_sub_cancel] at hy
    rw [size_glued, length_partsBetween, Nat.add_sub_cancel]
    have h2 : (occurrences x y 0 x.length l).length * z.length ≤ (x.length + 1) * z.length := Nat.mul_le_mul_right _ (Nat.le_trans h1 hl)
    omega
theorem repOf_txt (x y z : Str) : RepOf x z (Txt.replace x y z) := by
  unfold Txt.replace
  split
  · exact repOf_self _ _
  · exact repOf_glued _ _ _ _ (Nat.le_refl _)
theorem gives_replace1 (x y z : Str) (t u v w : Tok) (hu : u ≠ 0) (hv : v ≠ 0) (huv : u ≠ v) (hyz : (y == z) = false) (hb : x.length + (x.length + 1) * z.length ≤ 16777216) :
    Gives («str.replace» ⟨[.str x t, .str y u, .str z v, .int 1 w], []⟩) (if ((occurrences x y 0 x.length 1).isEmpty || (y.length == 0 && z.length == 0)) = true then .val (.str x t) else .str (glued z (partsBetween x (occurrences x y 0 x.length 1) y.length))) := by
  have e : (2 : Nat) ^ 24 = 16777216 := by decide
  have hl : tooLong (x.length + (occurrences x y 0 x.length 1).length * z.length) = false := by
    have h1 := StrLaws.occ_length_le x y 0 x.length 1
    have h2 : (occurrences x y 0 x.length 1).length * z.length ≤ (x.length + 1) * z.length := Nat.mul_le_mul_right _ (by omega)
    unfold tooLong sizeLine
    exact decide_eq_false (by omega)
  show Gives (do
      let limit ← countLimit "str.replace" (some (.int 1 w)) (x.length + 1)
      if ((occurrences x y 0 x.length limit).isEmpty || (y.length == 0 && z.length == 0)) = true then (do rule "str.replace.nothing"; ret (.str x t)) else
          (do let same ← isSame (.str y u) (.str z v)
              if same = true then (do rule "str.replace.old-is-new"; ret (.str x t)) else
              if tooLong (x.length + (occurrences x y 0 x.length limit).length * z.length) = true then unsupported "str.replace:memory" else
              retStr (glued z (partsBetween x (occurrences x y 0 x.length limit) y.length)))) _
  rw [countLimit_int "str.replace" 1 w (x.length + 1) (by decide)]
  show Gives (if ((occurrences x y 0 x.length 1).isEmpty || (y.length == 0 && z.length == 0)) = true then (do rule "str.replace.nothing"; ret (.str x t)) else
          (do let same ← isSame (.str y u) (.str z v)
              if same = true then (do rule "str.replace.old-is-new"; ret (.str x t)) else
              if tooLong (x.length + (occurrences x y 0 x.length 1).length * z.length) = true then unsupported "str.replace:memory" else
              retStr (glued z (partsBetween x (occurrences x y 0 x.length 1) y.length)))) _
  cases hc : ((occurrences x y 0 x.length 1).isEmpty || (y.length == 0 && z.length == 0))
  · rw [isSame_str_other y z u v (by simp [hu, hv]) (by simp [huv]) hyz, hl]
    exact .of_eq rfl
  · exact .rule (.of_eq rfl)
theorem replace1 {prog : Program} {w : World} {A : Around} {E : Value → Shared → Prop} {s : Shared} {x y z : Str} {t u v k : Tok} {Q : Value → Shared → Prop} (hu : u ≠ 0) (hv : v ≠ 0) (huv : u ≠ v) (hyz : (y == z) = false) (hb : x.length + (x.length + 1) * z.length ≤ 16777216)
    (hq : ∀ r t' n, RepOf x z r → Q (.str r t') { s with toks := n }) : wpAny (model prog w) A (call (.builtin "str.replace") [.str x t, .str y u, .str z v, .int 1 k]) Q E s := by
  refine call_gives F.slot_str_replace (typeIs_str _ _ _) F.entry_str_replace (F.args_str_replace_4 _ _ _ _) (gives_replace1 x y z t u v k hu hv huv hyz hb) ?_
  split
  · exact hq x t s.toks (repOf_self _ _)
  · exact ⟨by have h := (repOf_glued x y z 1 (by omega)).2; rw [sizeLine_eq]; omega, hq _ _ _ (repOf_glued x y z 1 (by omega))⟩
theorem Call_method3 {prog : Program} {w : World} {A : Around} {E : Value → Shared → Prop} {s : Shared} {env : Env} {o e₁ e₂ e₃ : Expr} {name : Str} {apos pos : Pos} {Q : Value → Shared → Prop}
    (hbase : attributeBase o name env (PySem.eval o env) = PySem.eval o env) (hs : starEach [e₁, e₂, e₃] env = [(false, PySem.eval e₁ env), (false, PySem.eval e₂ env), (false, PySem.eval e₃ env)]) (hline : (apos.endLine == pos.line) = true)
    (h : wpAny (model prog w) A (PySem.eval o env) (fun ov s₁ => MethodOnS prog w A E name ov pos [(false, PySem.eval e₁ env), (false, PySem.eval e₂ env), (false, PySem.eval e₃ env)] Q s₁) E s) :
    wpAny (model prog w) A (PySem.eval (.Call (.Attribute o name apos) [e₁, e₂, e₃] [] pos) env) Q E s := by
  refine wpAny_Call_method_lateS hbase (by rw [hs]; rfl) hline ?_
  rw [hs]; exact h
def tRepA (to : TE) (z : Str) : TE := fun σ H Q => to σ H fun v H1 => ∃ x, v = .str x ∧ x.length + (x.length + 1) * z.length ≤ 16777216 ∧ ∀ r, RepOf x z r → Q (.str r) H1
section
variable {X : Cx} {o e : Expr} {te : TE} {to : TE} {ta : TA} {y z : Str} {j k l : Nat} {c0 c1 c2 apos pos p p' : Pos} {st : Stmt} {rest a b : List Stmt} {t u : TS}
theorem pet_rep2 (ho : PE X o to) (hyz : (y == z) = false := by decide)
    (hst : starEach [.Constant (.str y) j c0, .Constant (.str z) k c1] X.env = [(false, eval (.Constant (.str y) j c0) X.env), (false, eval (.Constant (.str z) k c1) X.env)] := by rfl)
    (hbase : attributeBase o "replace" X.env (eval o X.env) = eval o X.env := by rfl) (hline : (apos.endLine == pos.line) = true := by rfl) :
    PET X (.Call (.Attribute o "replace" apos) [.Constant (.str y) j c0, .Constant (.str z) k c1] [] pos) (tRepA to z) := by
  intro pins s σ H Q h0 I h
  refine PySem.Call_method2 hbase hst hline (wpAny_mono (PySem.wpAny_toks (ho.run pins s σ H _ I h)) (fun v s1 q => ?_) fun _ _ z => z.2)
  obtain ⟨hk, v', H1, I1, r1, x, e1, hb, q⟩ := q
  subst e1
  obtain ⟨tx, e2⟩ := r1
  subst e2
  refine ⟨"str", _, PySem.F.plainAttrs_str, PySem.F.slot_str_replace, PySem.F.type_str_replace, typeIs_str _ _ _, (fun _ e => nomatch e), Calls.callWith_builtin rfl (Calls.evalArgs_plain (Calls.spliced_cons ?_))⟩
  refine Calls.Constant_str (Calls.spliced_cons (Calls.Constant_str (Calls.spliced_nil ?_)))
  exact PySem.SC.replace (by show s1.toks ≠ 0; omega) (by show s1.toks + 1 ≠ 0; omega) (by show s1.toks ≠ s1.toks + 1; omega) hyz hb fun t' k => ⟨.str (Txt.replace x y z), H1, I1.tok k, ⟨t', rfl⟩, q _ (repOf_txt x y z)⟩
theorem pet_rep3 (ho : PE X o to) (hyz : (y == z) = false := by decide)
    (hst : starEach [.Constant (.str y) j c0, .Constant (.str z) k c1, .Constant (.int 1) l c2] X.env = [(false, eval (.Constant (.str y) j c0) X.env), (false, eval (.Constant (.str z) k c1) X.env), (false, eval (.Constant (.int 1) l c2) X.env)] := by rfl)
    (hbase : attributeBase o "replace" X.env (eval o X.env) = eval o X.env := by rfl) (hline : (apos.endLine == pos.line) = true := by rfl) :
    PET X (.Call (.Attribute o "replace" apos) [.Constant (.str y) j c0, .Constant (.str z) k c1, .Constant (.int 1) l c2] [] pos) (tRepA to z) := by
  intro pins s σ H Q h0 I h
  refine Call_method3 hbase hst hline (wpAny_mono (PySem.wpAny_toks (ho.run pins s σ H _ I h)) (fun v s1 q => ?_) fun _ _ z => z.2)
  obtain ⟨hk, v', H1, I1, r1, x, e1, hb, q⟩ := q
  subst e1
  obtain ⟨tx, e2⟩ := r1
  subst e2
  refine ⟨"str", _, PySem.F.plainAttrs_str, PySem.F.slot_str_replace, PySem.F.type_str_replace, typeIs_str _ _ _, (fun _ e => nomatch e), Calls.callWith_builtin rfl (Calls.evalArgs_plain (Calls.spliced_cons ?_))⟩
  refine Calls.Constant_str (Calls.spliced_cons (Calls.Constant_str (Calls.spliced_cons (wpAny_Constant_int (Calls.spliced_nil ?_)))))
  exact replace1 (by show s1.toks ≠ 0; omega) (by show s1.toks + 1 ≠ 0; omega) (by show s1.toks ≠ s1.toks + 1; omega) hyz hb fun r t' n hr => ⟨.str r, H1, I1.tok n, ⟨t', rfl⟩, q _ hr⟩
theorem PET.of (h : PE X e te) : PET X e te := fun pins s σ H Q _ I q => h.run pins s σ H Q I q
theorem pet_def {k : Nat} {x : Str} {ps : List Str} {sp : Sp} {e : Expr} {es : List Expr} {p pos : Pos} {t : TA} (D : DefN X.prog X.w X.K X.mg X.base k x ps sp) (hr : Room k X.A) (hg : Gl X x) (ha : PAT X (e :: es) t)
    (hdb : (x == ("__debug__" : Str)) = false := by decide) (he : starEach (e :: es) X.env = (false, eval e X.env) :: starEach es X.env := by rfl) (hpl : (backTo pos (starEach es X.env)).any (·.1) = false := by rfl) :
    PET X (.Call (.Name x p) (e :: es) [] pos) (tCall sp [] E0 t) := by
  obtain ⟨fd, F, b⟩ := D.ex
  intro pins s σ H Q h0 I h
  refine wpAny_Call_Name_kw (ld_glob I hg D.at_ ?_ hdb)
  refine PySem.W.callWith_K (h₀ := X.base) I.ok.mod.kin D.kp (thn (ha pos pins s σ H _ h0 I h) fun us s1 ⟨vs, H1, I1, r, q⟩ => ⟨I1.kIn, ?_⟩) he hpl
  exact run_fn F hr b .nil pass0 I1 r q
theorem pst_set {i : Nat} {x : Str} {e : Expr} {te : TE} {pos' : Pos} (hN : X.N.Nodup) (hi : X.N[i]? = some x) (hx : Loc X.env.scope x) (he : PET X e te) (hs : swapsWith e (some (.Name x pos')) pos.line X.env = pure false := by rfl) (hf : X.fn x = true ∨ X.env.scope.names.lookup x = some .local := by first | exact .inl rfl | exact .inr rfl | assumption) :
    PST X (.Assign [.Name x pos'] e pos) (tAsg te (gName i)) := by
  intro pins s σ H D h0 I h
  refine wpAny_Assign_Name (thn (he pins s σ H _ h0 I h) fun v s1 ⟨y, H1, I1, r1, q1⟩ => ?_) hs
  exact store_ok I1 hN hi hx r1 (fun s2 I2 => ⟨_, H1, I2, q1⟩) hf
/-- behind the test of a number a token is out -/
theorem ps_ifI {c : Expr} {op : CmpOp} {r : R2} {ta : TE} {n : Int} (ho : OpR X (compareOp op) r) (ha : PE X c ta) (hm : behindInMarks op (.Constant (.int n) j c0) = false) (ht : PSsT X a t) (hf : PSsT X b u) :
    PS X (.If (.Compare c [op] [.Constant (.int n) j c0] pos) a b p) (tIfS (tTest (tOp r ta (tC (.int n)))) t u) := by
  refine ⟨fun pins s σ H D I h => ?_⟩
  have h : tTest (tOp r ta (tC (.int n))) σ H (fun d H1 => if d = true then t D σ H1 else u D σ H1) := h
  refine wpAny_If (Q := fun d s1 => _) (wpAny_isTrue_Compare1 (thn (ha.run pins s σ H _ I h) fun v s1 ⟨x, H1, I1, r1, q1⟩ => wpAny_Constant_int ?_) hm)
  have I2 := I1.tok (s1.toks + 1)
  refine wpAny_mono (PySem.wpAny_toks (ho pins _ σ H1 x (.int n) v _ _ I2 r1 ⟨_, rfl⟩ q1)) (fun c s3 w => ?_) fun _ _ z => z.2
  obtain ⟨hk, z, H3, I3, r3, k, e, q3⟩ := w
  have hk : s1.toks + 1 ≤ s3.toks := hk
  subst e
  cases r3
  refine wpAny_truthy_bool ?_
  cases k with
  | true => exact ht pins s3 σ H3 D (by omega) I3 q3
  | false => exact hf pins s3 σ H3 D (by omega) I3 q3
end
end Z
/-! ### if and for within a generator's body -/
namespace Z
open PySem PySem.Spec PyProof.Rows L2
def tGIf (tc : TT) (ta tb : TGn) : TGn := fun D ys σ H => tc σ H fun d H1 => if d = true then ta D ys σ H1 else tb D ys σ H1
theorem gs_if {X : Cx} {c : Expr} {a b : List Stmt} {pos : Pos} {tc : TT} {ta tb : TGn} (hc : PT X c tc) (ha : GSs X a ta) (hb : GSs X b tb) : GS X (.If c a b pos) (tGIf tc ta tb) := by
  refine ⟨fun A S ip R n ys s₀ cc fs K J gd lv s σ H D g hn k hI ht => ?_⟩
  obtain ⟨acc, c0, r, I⟩ := hI
  have ht : tc σ H (fun d H1 => if d = true then ta D ys σ H1 else tb D ys σ H1) := ht
  rw [exec_If]
  refine seg_at ?_
  show Seg _ _ _ _ _ _ _ ((isTrue c X.env (PySem.eval c X.env) >>= fun d => if d = true then execs a X.env else execs b X.env).wrap K J gd lv) _ _
  refine seg_bind_wrap ?_
  rw [g.over]
  refine wpAny_mono (hc.run _ s σ H _ I ht) (fun d s' h' => ?_) fun x s' hx => k.exc n s₀ x s' hx
  obtain ⟨H1, I1, q⟩ := h'
  cases d with
  | true => exact ha.run A S ip R n ys s₀ cc fs K J gd lv s' σ H1 D g hn k ⟨acc, c0, r, I1⟩ q
  | false => exact hb.run A S ip R n ys s₀ cc fs K J gd lv s' σ H1 D g hn k ⟨acc, c0, r, I1⟩ q
end Z

/-! ### for within a generator's body -/
namespace Z
open PySem PySem.Spec PyProof.Rows L2
section
variable {prog : Program} {w : World} {A : Around} {R : GenEnd} {Y : Protocol} {n : Nat} {s₀ : Shared} {fs : List Frame} {s : Shared} {env : Env}
def noted (env : Env) (x : Value) : Sem PySem.Fin := (do noteFrame x env; theTreesLotGoes x : Sem Unit).wrap (fun _ => .raise x) .raise id id
def forEnds (target : Expr) (it : Value) (body : List Stmt) (env : Env) (f : Flow) : Sem PySem.Fin := match f with
  | .next | .cont => .pure (.again (.forLoop target it body [] env))
  | .brk => .pure (.done .next)
  | .ret v => .pure (.done (.ret v))
theorem seg_forLoop {target : Expr} {it : Value} {body : List Stmt}
    (h : wpAny (model prog w) (A.over (.forLoop target it body [] env) fs) (pyNext it) (fun r s1 => match r with
        | none => Seg (model prog w) A R Y n s₀ (.forLoop target it body [] env) (.pure (.again (.block [] env))) fs s1
        | some v => wpAny (model prog w) (A.over (.forLoop target it body [] env) fs) (letOwnedTupleGo target it v) (fun _ s2 =>
            wpAny (model prog w) (A.over (.forLoop target it body [] env) fs) (assign target env v) (fun _ s3 =>
              Seg (model prog w) A R Y n s₀ (.forLoop target it body [] env) ((execs body env).wrap (forEnds target it body env) (noted env) id id) fs s3)
              (fun x s' => Seg (model prog w) A R Y n s₀ (.forLoop target it body [] env) (noted env x) fs s') s2)
            (fun x s' => Seg (model prog w) A R Y n s₀ (.forLoop target it body [] env) (noted env x) fs s') s1)
      (fun x s' => Seg (model prog w) A R Y n s₀ (.forLoop target it body [] env) (noted env x) fs s') s) :
    Seg (model prog w) A R Y n s₀ (.forLoop target it body [] env) ((model prog w).den (.forLoop target it body [] env)) fs s := by
  have hx : ∀ x s', Seg (model prog w) A R Y n s₀ (.forLoop target it body [] env) (noted env x) fs s' → Seg (model prog w) A R Y n s₀ (.forLoop target it body [] env) ((do noteFrame x env; theTreesLotGoes x : Sem Unit).bind fun _ => .raise x) fs s' := fun x s' q => by
    rw [Sem.bind_eq_wrap]
    exact q
  show Seg _ A R Y n s₀ _ ((forTurn target it body [] env).onRaise (fun x => do noteFrame x env; theTreesLotGoes x)) fs s
  unfold forTurn
  rw [Sem.onRaise_eq_wrap]
  refine seg_at ?_
  refine seg_bind_wrap (wpAny_pure ?_)
  refine seg_bind_wrap ?_
  refine wpAny_onRaise (wpAny_mono h (fun r s1 h1 => ?_) fun x s' q => wpAny_standAt ?_)
  · cases r with
    | none => exact h1
    | some v =>
      refine seg_bind_wrap (wpAny_mono h1 (fun _ s2 h2 => ?_) fun x s' q => hx x s' q)
      refine seg_bind_wrap (wpAny_mono h2 (fun _ s3 h3 => ?_) fun x s' q => hx x s' q)
      rw [Sem.bind_eq_wrap', Sem.wrap_wrap]
      rw [Sem.wrap_congr (execs body env) _ _ (K' := forEnds target it body env) (H' := noted env) (fun f => by cases f <;> rfl) (fun e => by first | exact Sem.bind_eq_wrap _ _ | (show (do noteFrame e env; theTreesLotGoes e : Sem Unit).bind (fun _ => .raise e) = _; rw [Sem.bind_eq_wrap]; rfl))]
      exact h3
  · exact hx x s' q
end
end Z

/-! ### for within a generator's body, over any walk -/
namespace Z
open PySem PySem.Spec PyProof.Rows L2
theorem seg_For {M : Model} {A : Around} {R : GenEnd} {Y : Protocol} {n : Nat} {s₀ : Shared} {c : Code} {fs : List Frame} {s : Shared} {env : Env} {K : Flow → Sem PySem.Fin} {H : Value → Sem PySem.Fin} {gd : Bool → Bool} {lv : List Value → List Value} {target iter : Expr} {body : List Stmt} {pos : Pos}
    (hs : ∀ x, foldedSetIterable iter env x = pure x)
    (h : wpAny M (A.over c fs) (eval iter env) (fun v s1 => wpAny M (A.over c fs) (pyIter v) (fun itv s2 => ∀ p, Seg M A R Y n s₀ (.forLoop target itv body [] env) (M.den (.forLoop target itv body [] env))
      (.ret (fun r => ((match r with | .ok f => (.pure f : Sem Flow) | .error e => .raise e).onRaise (cameBack env)).wrap K H gd lv) none (gd false) (lv []) c p [] :: fs) s2)
      (fun x s' => Seg M A R Y n s₀ c (H x) fs s') s1) (fun x s' => Seg M A R Y n s₀ c (H x) fs s') s) :
    Seg M A R Y n s₀ c ((exec (.For target iter body [] pos) env).wrap K H gd lv) fs s := by
  rw [exec_For]
  refine seg_at ?_
  refine seg_bind_wrap (wpAny_pure ?_)
  refine seg_bind_wrap (wpAny_mono h (fun v s1 h1 => ?_) fun x s' q => q)
  rw [hs v]
  refine seg_bind_wrap (wpAny_pure ?_)
  refine seg_at ?_
  refine seg_bind_wrap (wpAny_pure ?_)
  refine seg_bind_wrap (wpAny_holding (wpAny_mono h1 (fun itv s2 h2 => ?_) fun x s' q => q))
  exact seg_call h2
end Z

namespace Z
open PySem PySem.Spec PyProof.Rows L2
def tGFor (wi : TI) (g : TG) (tb : TGn) : TGn := fun D ys σ H => wi σ H fun J H1 => ∃ W : Nat → Nat → List V → L2.St → Hp → Prop, (∃ m, W 0 m ys σ H1) ∧ ∀ i m ys σ H, W i m ys σ H →
  (J.stop i H ∧ D.nx ys σ H) ∨ (J.go i H ∧ ∃ N : List V → L2.St → Hp → Prop, (∀ ys' σ' H', N ys' σ' H' → ∃ m', m' < m ∧ W (i + 1) m' ys' σ' H') ∧ ∀ x H', J.yld i H x H' → g x σ H' fun σ2 H2 => tb { D with nx := N, ct := N, bk := D.nx } ys σ2 H2)
theorem gs_for {X : Cx} {tg iter : Expr} {body : List Stmt} {wi : TI} {gt : TG} {tb : TGn} {pos : Pos} (hp : PassesOwn (model X.prog X.w) X.A X.env X.xe) (hc : X.calm = true) (hi : PI X tg iter wi) (hg : PG X tg gt) (hb : GSs X body tb)
    (hs : ∀ x, foldedSetIterable iter X.env x = pure x := by intro _; rfl) : GS X (.For tg iter body [] pos) (tGFor wi gt tb) := by
  refine ⟨fun A S ip R n ys s₀ c fs K J gd lv s σ H D g hn k hI ht => ?_⟩
  obtain ⟨acc, cc, r, I⟩ := hI
  refine seg_For hs ?_
  rw [g.over]
  have ex : ∀ (x : Value) (s' : Shared), X.xe x s' → Seg (model X.prog X.w) A R (GY X S) n s₀ c (J x) fs s' := fun x s' hx => k.exc n s₀ x s' hx
  refine wpAny_mono (hi.run _ s σ H _ I ht) (fun v s1 h1 => wpAny_mono h1 (fun itv s2 h2 p => ?_) ex) ex
  obtain ⟨it, fp, tn, Jt, H2, e, I2, T, st2, f2, W, ⟨m0, w0⟩, turn⟩ := h2
  subst e
  have gl := fun (kk : Result → Sem PySem.Fin) => gc_loop (k := kk) (c' := .forLoop tg (.ref it) body [] X.env) (l := lv []) (kp := []) (p := p) g rfl rfl
  have frS : ∀ b ∈ fp, S ≠ b := fun b hb => (f2 b hb).2.2.2.2.2 (S, lstObj acc cc) (List.mem_append_right _ (.head _))
  have stat : ∀ {acc' : Array Value} {cc' : Nat} {H' : Hp}, (∀ b ∈ fp, H' b = none) → ∀ b ∈ fp, FpOk X ((S, lstObj acc' cc') :: ip) H' b := fun hn b hb => by
    obtain ⟨_, f3, f4, f5, f6, f7⟩ := f2 b hb
    refine ⟨hn b hb, f3, f4, f5, f6, fun q hq => ?_⟩
    rcases List.mem_append.mp hq with hq | hq
    · exact f7 q (List.mem_append_left _ hq)
    · rcases List.mem_cons.mp hq with rfl | hq
      · exact frS b hb
      · exact f7 q (List.mem_append_right _ (.tail _ hq))
  have loop : ∀ (m i n : Nat) (ys : List V) (s₀ s : Shared) (σ : L2.St) (H : Hp), n + ys.length = sizeLine → W i m ys σ H → GI X S ip ys σ H s → tn i s.heap → (∀ b ∈ fp, H b = none) →
      Seg (model X.prog X.w) A R (GY X S) n s₀ (.forLoop tg (.ref it) body [] X.env) ((model X.prog X.w).den (.forLoop tg (.ref it) body [] X.env))
        (.ret (fun r => ((match r with | .ok f => (.pure f : Sem Flow) | .error e => .raise e).onRaise (cameBack X.env)).wrap K J gd lv) none (gd false) (lv []) c p [] :: fs) s := by
    intro m
    induction m using Nat.strongRecOn with
    | ind m ih =>
      intro i n ys s₀ s σ H hn w hI st fr
      have ee : ∀ (n : Nat) (s₀ : Shared) (x : Value) (s' : Shared), X.xe x s' → Seg (model X.prog X.w) A R (GY X S) n s₀ (.forLoop tg (.ref it) body [] X.env) (noted X.env x)
          (.ret (fun r => ((match r with | .ok f => (.pure f : Sem Flow) | .error e => .raise e).onRaise (cameBack X.env)).wrap K J gd lv) none (gd false) (lv []) c p [] :: fs) s' := fun n s₀ x s' hx => by
        unfold noted
        refine seg_wrap ?_
        rw [(gl _).over]
        refine wpAny_bind (wpAny_mono (hp x s' hx) (fun _ s'' hcb => wpAny_theTreesLotGoes ?_) fun y s'' hcb => ?_)
        · exact seg_leaf (.error x) (seg_cameBack g k hcb)
        · exact seg_leaf (.error y) (seg_cameBack g k hcb)
      refine seg_forLoop ?_
      rw [(gl _).over]
      obtain ⟨acc, cc, r, I⟩ := hI
      rcases turn i m ys σ H w with ⟨stop, qn⟩ | ⟨go, N, hN, step⟩
      · refine wpAny_mono (T.done X rfl rfl rfl hc i _ s σ H X.xe I (stat fr) st stop) (fun r' s4 ⟨hr, I4⟩ => ?_) fun x s' hx => ee n s₀ x s' hx
        subst hr
        refine seg_again rfl ?_
        exact seg_leaf (.ok .next) (k.ok n ys s₀ s4 .next hn ⟨σ, H, ⟨acc, cc, r, I4⟩, qn⟩)
      · refine wpAny_mono (T.item X rfl rfl rfl hc i _ s σ H X.xe I (stat fr) st go) (fun r' s4 ⟨u, hr, h4⟩ => ?_) fun x s' hx => ee n s₀ x s' hx
        subst hr
        refine wpAny_mono h4 (fun _ s5 ⟨x, H5, I5, r5, y5, st5, fr5⟩ => ?_) fun x s' hx => ee n s₀ x s' hx
        have I5' := I5.pinned (stat fr5) (T.obj _ _ st5)
        refine wpAny_mono (hg.run _ s5 σ H5 x u _ I5' r5 (step x H5 y5)) (fun _ s6 ⟨σ6, H6, I6, q6⟩ => ?_) fun x s' hx => ee n s₀ x s' hx
        have ipS : ∀ q ∈ ip ++ pinsAt fp s5.heap, q.1 ≠ S := fun q hq => by
          rcases List.mem_append.mp hq with hq | hq
          · exact g.ip q hq
          · exact (frS _ (of_pinsAt hq).1).symm
        refine hb.run A S (ip ++ pinsAt fp s5.heap) R n ys s₀ _ _ _ _ id id s6 σ6 H6 { D with nx := N, ct := N, bk := D.nx } { gl _ with ip := ipS } hn ⟨fun n' ys' s₀' s7 f hn' hs => ?_, fun n' s₀' x s7 hx => ee n' s₀' x s7 hx⟩ ⟨acc, cc, r, I6⟩ q6
        have again : ∀ {σ7 : L2.St} {H7 : Hp}, GI X S (ip ++ pinsAt fp s5.heap) ys' σ7 H7 s7 → N ys' σ7 H7 → Seg (model X.prog X.w) A R (GY X S) n' s₀' (.forLoop tg (.ref it) body [] X.env) (.pure (.again (.forLoop tg (.ref it) body [] X.env)))
            (.ret (fun r => ((match r with | .ok f => (.pure f : Sem Flow) | .error e => .raise e).onRaise (cameBack X.env)).wrap K J gd lv) none (gd false) (lv []) c p [] :: fs) s7 := fun {σ7 H7} I7 n7 => by
          obtain ⟨acc7, cc7, r7, I7⟩ := I7
          have I7 : Inv X (((S, lstObj acc7 cc7) :: ip) ++ pinsAt fp s5.heap) σ7 H7 s7 := I7
          obtain ⟨m', hm, w7⟩ := hN ys' σ7 H7 n7
          refine seg_again rfl (ih m' hm (i + 1) n' ys' s₀' s7 σ7 H7 hn' w7 ⟨acc7, cc7, r7, I7.unpinned⟩ (T.keep _ _ _ st5 fun b hb o e => (I7.pin (b, o) (List.mem_append_right _ (List.mem_append_right _ (mem_pinsAt hb e)))).1) fun b hb => ?_)
          obtain ⟨o, e, d⟩ := T.obj _ _ st5 b hb
          exact (I7.pin (b, o) (List.mem_append_right _ (List.mem_append_right _ (mem_pinsAt hb e)))).2.1
        have down : ∀ {σ7 : L2.St} {H7 : Hp}, GI X S (ip ++ pinsAt fp s5.heap) ys' σ7 H7 s7 → GI X S ip ys' σ7 H7 s7 := fun {σ7 H7} I7 => by
          obtain ⟨acc7, cc7, r7, I7⟩ := I7
          have I7 : Inv X (((S, lstObj acc7 cc7) :: ip) ++ pinsAt fp s5.heap) σ7 H7 s7 := I7
          exact ⟨acc7, cc7, r7, I7.unpinned⟩
        cases f with
        | next =>
          obtain ⟨σ7, H7, I7, n7⟩ := hs
          exact again I7 n7
        | cont =>
          obtain ⟨σ7, H7, I7, n7⟩ := hs
          exact again I7 n7
        | brk =>
          obtain ⟨σ7, H7, I7, q7⟩ := hs
          exact seg_leaf (.ok .next) (k.ok n' ys' s₀' s7 .next hn' ⟨σ7, H7, down I7, q7⟩)
        | ret v =>
          obtain ⟨x7, σ7, H7, I7, r7, q7⟩ := hs
          exact seg_leaf (.ok (.ret v)) (k.ok n' ys' s₀' s7 (.ret v) hn' ⟨x7, σ7, H7, down I7, r7, q7⟩)
  exact loop m0 0 n ys s₀ s2 σ H2 hn w0 ⟨acc, cc, r, I2⟩ st2 fun b hb => (f2 b hb).1
end Z

/-! ### a generator's def called with keywords -/
namespace Z
open PySem PySem.Spec PyProof.Rows L2
section
variable {X : Cx} {K : PySem.W.Frag} {k : Nat} {f : Addr} {fd : FuncData} {ps ks : List Str} {sp : SpG} {g : List Value → List Value → List Value} {gV : List V → List V → List V} {x : Str} {p pos : Pos} {kws : List Keyword} {t tk : TA}
theorem run_gfnK {pins : List (Addr × Obj)} {σ : L2.St} {H : Hp} {s : Shared} {us ws : List Value} {vs zs : List V} {cont : List V → Hp → Prop} {E : XK} {E1 : Value → Shared → Prop} (F : GFn X.prog X.w X.K X.mg X.base k f fd ps sp) (hr : Room k X.A) (hb : KBinds X.K fd ps ks g gV)
    (I : Inv X pins σ H s) (r : Vals vs us) (rz : Vals zs ws) (h : sp (gV vs zs) H cont E) :
    wpAny (model X.prog X.w) X.A (call (.ref f) us (ks.zip ws)) (fun u s' => ∃ H1 sc ex, Inv X pins σ H1 sc ∧ ExOk X pins ex ∧ GMade X.prog X.w k X.stack H1 sc ex cont E u s') E1 s := by
  have r2 := hb.rel r rz
  have hl : (g us ws).length = ps.length := by rw [← r2.length]; exact F.len _ _ _ _ h
  refine wpAny_call (codeAny_mono (F.run X.A X.stack s H ⟨us, ks.zip ws⟩ (g us ws) (gV vs zs) cont E hr I.env0 (hb.to s us ws I.kIn hl) r2 h) fun r s' hq => ?_)
  cases r with
  | error e => exact False.elim hq
  | ok fl =>
    cases fl with
    | ret u => exact ⟨H, s, [], I, .nil, hq⟩
    | next => exact False.elim hq
    | brk => exact False.elim hq
    | cont => exact False.elim hq
def tCallGK (sp : SpG) (gV : List V → List V → List V) (E : XK) (t tk : TA) : TGen := fun σ H cont => t σ H fun vs H1 => tk σ H1 fun zs H2 => sp (gV vs zs) H2 cont E
/-- f(e, .., k = v, ..) of a generator's def -/
theorem pgen_callK {E : XK} {e : Expr} {es : List Expr} (F : GFn X.prog X.w X.K X.mg X.base k f fd ps sp) (hr : Room k X.A) (hg : Gl X x) (hm : X.mg x = some (.ref f)) (hk : PySem.W.keepIn X.K (.ref f) = true) (hb : KBinds X.K fd ps ks g gV)
    (ha : PA X (e :: es) t) (hkw : PK X kws tk) (hall : (backToKw pos (keywordEach kws X.env)).all (·.1.isSome) = true := by rfl) (hks : (backToKw pos (keywordEach kws X.env)).filterMap (·.1) = ks := by rfl)
    (hdb : (x == ("__debug__" : Str)) = false := by decide) (he : starEach (e :: es) X.env = (false, eval e X.env) :: starEach es X.env := by rfl)
    (hpl : ((backTo pos (starEach (e :: es) X.env)).any (·.1) || (backToKw pos (keywordEach kws X.env)).any (·.1.isNone)) = false := by rfl) :
    PGen X k (.Call (.Name x p) (e :: es) kws pos) (tCallGK sp gV E t tk) E := by
  refine ⟨fun pins s σ H cont I h => ?_⟩
  refine wpAny_Call_Name_kw (ld_glob I hg hm ?_ hdb)
  refine PySem.W.callWith_KW (h₀ := X.base) I.ok.mod.kin hk hall (thn (ha.run pos pins s σ H _ I h) fun us s1 ⟨vs, H1, I1, r, q⟩ => ?_) hpl he
  refine thn (hkw.run pos pins s1 σ H1 _ I1 q) fun ws s2 ⟨zs, H2, I2, rz, q2⟩ => ⟨I2.kIn, ?_⟩
  rw [hks]
  exact run_gfnK F hr hb I2 r rz q2
def tCallGK0 (sp : SpG) (gV : List V → List V → List V) (E : XK) (tk : TA) : TGen := fun σ H cont => tk σ H fun zs H2 => sp (gV [] zs) H2 cont E
/-- f(k = v, ..) of a generator's def -/
theorem pgen_callK0 {E : XK} (F : GFn X.prog X.w X.K X.mg X.base k f fd ps sp) (hr : Room k X.A) (hg : Gl X x) (hm : X.mg x = some (.ref f)) (hk : PySem.W.keepIn X.K (.ref f) = true) (hb : KBinds X.K fd ps ks g gV)
    (hkw : PK X kws tk) (hall : (backToKw pos (keywordEach kws X.env)).all (·.1.isSome) = true := by rfl) (hks : (backToKw pos (keywordEach kws X.env)).filterMap (·.1) = ks := by rfl)
    (hdb : (x == ("__debug__" : Str)) = false := by decide)
    (hpl : ((backTo pos (starEach [] X.env)).any (·.1) || (backToKw pos (keywordEach kws X.env)).any (·.1.isNone)) = false := by rfl) :
    PGen X k (.Call (.Name x p) [] kws pos) (tCallGK0 sp gV E tk) E := by
  refine ⟨fun pins s σ H cont I h => ?_⟩
  refine wpAny_Call_Name_kw (ld_glob I hg hm ?_ hdb)
  refine PySem.W.callWith_KW0 (h₀ := X.base) I.ok.mod.kin hk hall (thn (hkw.run pos pins s σ H _ I h) fun ws s2 ⟨zs, H2, I2, rz, q2⟩ => ⟨I2.kIn, ?_⟩) hpl
  rw [hks]
  exact run_gfnK (us := []) F hr hb I2 .nil rz q2
end
end Z
/-! ### set & set, of texts -/
namespace Z
open PySem PySem.Spec PyProof.Rows L2
section
variable {P : Program} {w : World} {A : Around} {E : Value → Shared → Prop} {s : Shared} {a b : Addr} {S T : Str → Bool} {n m : Nat}
theorem any_set {o : Obj} {Q : Bool → Shared → Prop} (ho : s.heap.get? a = some o) (hc : o.cls = .type "set") (h : Q true s) : wpAny (model P w) A (Builtin.Frozenset.isAnySet (.ref a)) Q E s := by
  unfold Builtin.Frozenset.isAnySet orM
  refine wpAny_bind (wpAny_isInstance (T := "set") (b := true) ⟨o, ho, hc⟩ PySem.F.sub_set_set ?_)
  exact wpAny_pure h
theorem base_set {o : Obj} {Q : Value → Shared → Prop} (ho : s.heap.get? a = some o) (hc : o.cls = .type "set") (h : Q (.type "set") s) : wpAny (model P w) A (Builtin.Frozenset.baseOf a) Q E s := by
  unfold Builtin.Frozenset.baseOf
  refine wpAny_bind (wpAny_isInstance (T := "set") (b := true) ⟨o, ho, hc⟩ PySem.F.sub_set_set ?_)
  exact wpAny_pure h
theorem TxR.congrN {h : Heap} {n' : Nat} (R : TxR w h a S n) (e : n = n') : TxR w h a S n' := e ▸ R
/-- how many of the elements stand in another set, too -/
def bothN (S : Str → Bool) (l : List Str) : Nat := (l.filter S).length
theorem size_set {Q : Nat → Shared → Prop} (R : TxR w s.heap a S n) (h : Q n s) : wpAny (model P w) A (Builtin.Frozenset.sizeOf a) Q E s := by
  obtain ⟨o, es, ep, t, r⟩ := R
  unfold Builtin.Frozenset.sizeOf
  refine wpAny_bind (wpAny_setEntries_of r.get r.dat r.fit (wpAny_pure ?_))
  rw [r.num]
  exact h
theorem walk_set {o : Obj} {es : Array (Int × Value)} {ep : Nat} {t : SetTable} {Q : Array (Int × Value) → Shared → Prop} (get : s.heap.get? a = some o) (dat : o.data = .set es ep t) (fit : t.fits es.size = true) (ord : w.params.followText "set-order" = true ∨ t.led = true)
    (k : ∀ out d, out.toList.Perm es.toList → Q out { s with drawn := d }) : wpAny (model P w) A (setWalk a) Q E s := by
  unfold setWalk
  refine wpAny_bind (wpAny_setState_of get dat fit ?_)
  dsimp only
  refine wpAny_bind (wpAny_byText ?_)
  by_cases bt : w.params.followText "set-order" = true
  · rw [if_pos bt]
    exact wpAny_bind (wpAny_askSetting (wpAny_pure (k _ s.drawn (pick_perm _ _))))
  · rw [if_neg bt]
    have led : t.led = true := ord.resolve_left bt
    refine wpAny_ite_split (fun _ => ?_) fun _ => ?_
    · exact wpAny_bind (drawOrder_at _ _ _ _ (Nat.le_of_eq Array.length_toList) fun ys d p => wpAny_pure (k _ d (by rw [List.toList_toArray]; exact p)))
    · show wpAny _ _ ((if (!t.led && decide (es.size > 1)) = true then unsupported "set:maker-not-led" else pure ()) >>= fun _ => pure es) _ _ _
      rw [led]
      exact wpAny_bind (wpAny_pure (wpAny_pure (k es s.drawn (.refl _))))
theorem row_list {l : List (Int × Value)} (g : ∀ e ∈ l, TxE w e) {F : Int × Value → Option Bool × Unit → Sem (ForInStep (Option Bool × Unit))} (hF : ∀ h x tk r, F (h, Value.str x tk) r = pure (.yield (none, ()))) : forIn l ((none : Option Bool), ()) F = pure (none, ()) := by
  induction l with
  | nil => rfl
  | cons e r ih =>
    obtain ⟨x, tk, h1, _⟩ := g e (.head _)
    obtain ⟨e1, e2⟩ := e
    obtain rfl : e2 = Value.str x tk := h1
    rw [List.forIn_cons, hF, pure_bind]
    exact ih fun z hz => g z (.tail _ hz)
theorem row_quiet {es : Array (Int × Value)} (g : ∀ e ∈ es.toList, TxE w e) {F : Int × Value → Option Bool × Unit → Sem (ForInStep (Option Bool × Unit))} (hF : ∀ h x tk r, F (h, Value.str x tk) r = pure (.yield (none, ()))) : forIn es ((none : Option Bool), ()) F = pure (none, ()) := by
  rw [← Array.forIn_toList]
  exact row_list g hF
/-- a set of texts that stands at b -/
def TxAt (w : World) (h : Heap) (b : Addr) : Prop := ∃ o es ep t, h.get? b = some o ∧ o.data = .set es ep t ∧ t.fits es.size = true ∧ ∀ e ∈ es.toList, TxE w e
theorem TxR.tx {h : Heap} (R : TxR w h a S n) : TxAt w h a := let ⟨o, es, ep, t, r⟩ := R; ⟨o, es, ep, t, r.get, r.dat, r.fit, r.good⟩
theorem sets_quiet {l : List Addr} (h : ∀ b ∈ l, TxAt w s.heap b) {Q : Bool → Shared → Prop} (k : Q true s) : wpAny (model P w) A (setsQuiet l) Q E s := by
  have go : ∀ (l : List Addr) (F : Addr → Option Bool × Unit → Sem (ForInStep (Option Bool × Unit))), (∀ b ∈ l, ∀ (r : Option Bool × Unit) (R : ForInStep (Option Bool × Unit) → Shared → Prop), R (.yield (none, ())) s → wpAny (model P w) A (F b r) R E s) → ∀ R : Option Bool × Unit → Shared → Prop, R (none, ()) s → wpAny (model P w) A (forIn l ((none : Option Bool), ()) F) R E s := by
    intro l
    induction l with
    | nil => intro F _ R r; exact wpAny_pure r
    | cons b q ih =>
      intro F hF R r
      rw [List.forIn_cons]
      refine wpAny_bind (hF b (.head _) _ _ ?_)
      exact ih F (fun c hc => hF c (.tail _ hc)) R r
  unfold setsQuiet
  refine wpAny_bind (go l _ (fun b hb r R q => ?_) _ (wpAny_pure k))
  obtain ⟨o, es, ep, t, h1, h2, h3, h4⟩ := h b hb
  refine wpAny_bind (wpAny_setEntries_of h1 h2 h3 ?_)
  rw [row_quiet h4 (fun _ _ _ _ => rfl)]
  exact wpAny_bind (wpAny_pure (wpAny_pure q))
/-- the elements of a set of texts in some order; the set that is to be filled, still empty, may be marked -/
theorem walk_unseen {o : Obj} {es : Array (Int × Value)} {ep : Nat} {t : SetTable} {l : List Addr} {f : Addr} {Q : Array (Int × Value) → Shared → Prop} (get : s.heap.get? a = some o) (dat : o.data = .set es ep t) (fit : t.fits es.size = true) (good : ∀ e ∈ es.toList, TxE w e) (ord : w.params.followText "set-order" = true ∨ t.led = true)
    (others : ∀ b ∈ l, TxAt w s.heap b) (new : TxR w s.heap f T m)
    (k : ∀ out h' d, out.toList.Perm es.toList → Heap.SameBut f s.heap h' → TxR w h' f T m → Q out { s with heap := h', drawn := d }) : wpAny (model P w) A (setWalkUnseen a l (some f)) Q E s := by
  have plain : ∀ out d, out.toList.Perm es.toList → Q out { s with drawn := d } := fun out d p => k out s.heap d p (Heap.SameBut.refl f _) new
  unfold setWalkUnseen
  refine wpAny_bind (wpAny_setState_of get dat fit ?_)
  dsimp only
  refine wpAny_bind (wpAny_byText ?_)
  refine wpAny_ite_split (fun _ => walk_set get dat fit ord plain) fun no => ?_
  refine wpAny_bind (sets_quiet (fun b hb => ?_) ?_)
  · rcases List.mem_cons.mp hb with rfl | hb
    · exact ⟨o, es, ep, t, get, dat, fit, good⟩
    · exact others b hb
  rw [if_neg (by simp)]
  refine wpAny_bind (wpAny_rule ?_)
  obtain ⟨o2, es2, ep2, t2, r⟩ := new
  try dsimp only
  refine wpAny_bind (wpAny_setState_of r.get r.dat r.fit ?_)
  dsimp only
  refine wpAny_ite_split (fun _ => ?_) fun _ => wpAny_pure (plain es s.drawn (.refl _))
  have led : w.params.followText "set-order" = true ∨ t.led = true := ord
  refine wpAny_bind (wpAny_storeSet_of r.get r.dat ?_ (fits_of_scanBound r.few))
  have st := store_at (es' := es2) (t' := { t2 with led := t2.led && t.led, plain := t2.plain && t.plain }) r.get r.dat
  refine wpAny_pure (k es _ s.drawn (.refl _) (Heap.SameBut.update ..) ⟨_, es2, _, _, { get := st, ex := r.ex, dat := rfl, good := r.good, nd := r.nd, mem := r.mem, few := r.few, fit := ?_, num := r.num, ris := r.ris, ord := ?_ }⟩)
  · have := r.fit
    cases t2
    exact this
  · rcases ord with q | q
    · exact .inl q
    · rcases r.ord with z | z
      · exact .inl z
      · exact .inr (by show (t2.led && t.led) = true; rw [z, q]; rfl)
theorem one_more {α : Type} {l : List α} {x y : α} (h : y ≠ x) : y ∈ l ++ [x] ↔ y ∈ l := by
  rw [List.mem_append, List.mem_singleton]
  exact ⟨fun z => z.resolve_right h, .inl⟩
/-- the filling of the new set -/
theorem fill_loop {id0 : String} {Q : PUnit → Shared → Prop} {asked r : Addr} (hr : asked ≠ r) {F : Int × Value → PUnit → Sem (ForInStep PUnit)} {walked : Addr} {was : Nat} (hw : walked ≠ r)
    (hF : ∀ h v u, F (h, v) u = (holding [v] (setFind asked v h >>= fun z => if z.isSome = true then setAddHashed r v h >>= fun _ => pure () else pure ()) >>= fun _ => Builtin.Frozenset.unchanged id0 walked was >>= fun _ => pure (.yield PUnit.unit)))
    {o : Obj} {es : Array (Int × Value)} {t : SetTable} (dat : o.data = .set es was t) (fit : t.fits es.size = true) : ∀ (l done : List (Int × Value)) (s : Shared), s.heap.get? walked = some o → (∀ e ∈ l, TxE w e) → ((done ++ l).map txK).Nodup → (done ++ l).length + 1 < scanBound → TxR w s.heap asked S n →
      (∃ c, c ≤ done.length ∧ TxR w s.heap r (fun y => S y && decide (y ∈ done.map txK)) c) →
      (∀ h' c, Heap.SameBut r s.heap h' → TxR w h' r (fun y => S y && decide (y ∈ (done ++ l).map txK)) c → Q PUnit.unit { s with heap := h' }) →
      wpAny (model P w) A (forIn l PUnit.unit F) Q E s := by
  intro l
  induction l with
  | nil =>
    intro done s hw0 _ _ _ R ⟨c, _, T⟩ k
    rw [List.append_nil] at k
    exact wpAny_pure (k s.heap c (Heap.SameBut.refl r _) T)
  | cons e q ih =>
    intro done s hw0 g nd few R ⟨c, hc, T⟩ k
    obtain ⟨x, tk, h1, h2⟩ := g e (.head _)
    obtain ⟨e1, e2⟩ := e
    obtain rfl : e2 = Value.str x tk := h1
    obtain rfl : e1 = hashStr w x := h2
    rw [List.forIn_cons, hF]
    have key : txK (hashStr w x, Value.str x tk) = x := rfl
    have asc : done ++ (hashStr w x, Value.str x tk) :: q = (done ++ [(hashStr w x, Value.str x tk)]) ++ q := by simp
    refine wpAny_bind (wpAny_bind (wpAny_holding (wpAny_bind (wpAny_setFind_of (knd := strKind P w) (k := x) (beq_self_eq_true x) rfl R.setOf fun z hz => ?_))))
    have step : ∀ h' c', Heap.SameBut r s.heap h' → c' ≤ done.length + 1 → TxR w h' r (fun y => S y && decide (y ∈ (done ++ [(hashStr w x, Value.str x tk)]).map txK)) c' →
        ∀ G : ForInStep PUnit → Shared → Prop, (∀ s', wpAny (model P w) A (forIn q PUnit.unit F) Q E s' → G (.yield PUnit.unit) s') → wpAny (model P w) A (Builtin.Frozenset.unchanged id0 walked was >>= fun _ => (pure (.yield PUnit.unit) : Sem (ForInStep PUnit))) G E { s with heap := h' } := by
      intro h' c' sb hc' T' G hG
      have w1 : h'.get? walked = some o := (sb.2 _ hw).trans hw0
      unfold Builtin.Frozenset.unchanged
      refine wpAny_bind (wpAny_bind (wpAny_setEpoch_of (s := { s with heap := h' }) w1 dat fit ?_))
      rw [if_neg (by simp)]
      refine wpAny_pure (wpAny_pure (hG _ ?_))
      refine ih _ { s with heap := h' } w1 (fun z hz => g z (.tail _ hz)) (by rw [← asc]; exact nd) (by rw [← asc]; exact few) (R.at fun o' e' => (sb.2 _ hr).trans e') ⟨c', by rw [List.length_append]; exact hc', T'⟩ fun h2 c2 sb2 T2 => ?_
      rw [← asc] at T2
      exact k h2 c2 (sb.trans sb2) T2
    by_cases hS : S x = true
    · rw [hz, if_pos hS]
      refine wpAny_bind (tx_put T (by have := few; simp only [List.length_append, List.length_cons] at this; omega) fun h' sb T' => ?_)
      refine wpAny_pure ?_
      refine step h' _ sb ?_ (T'.congr fun y => ?_) _ fun _ z => z
      · split <;> omega
      · rw [List.map_append, List.map_cons, List.map_nil, key]
        by_cases hy : y = x
        · subst hy
          rw [hS, decide_eq_true rfl, decide_eq_true (List.mem_append_right _ (.head _)), Bool.or_true]
          rfl
        · rw [decide_eq_false hy, Bool.or_false, decide_eq_decide.mpr (one_more hy)]
    · rw [hz, if_neg hS]
      refine wpAny_pure ?_
      refine step s.heap c (Heap.SameBut.refl r _) (by omega) (T.congr fun y => ?_) _ fun _ z => z
      rw [List.map_append, List.map_cons, List.map_nil, key]
      by_cases hy : y = x
      · subst hy
        rw [eq_false_of_ne_true hS]
        rfl
      · rw [decide_eq_decide.mpr (one_more hy)]
theorem unseen_fill {id0 : String} {asked r walked : Addr} {U : Str → Bool} {Q : PUnit → Shared → Prop} (hr : asked ≠ r) (hw : walked ≠ r) {F : Int × Value → PUnit → Sem (ForInStep PUnit)} {was : Nat}
    (hF : ∀ h v u, F (h, v) u = (holding [v] (setFind asked v h >>= fun z => if z.isSome = true then setAddHashed r v h >>= fun _ => pure () else pure ()) >>= fun _ => Builtin.Frozenset.unchanged id0 walked was >>= fun _ => pure (.yield PUnit.unit)))
    {o : Obj} {es : Array (Int × Value)} {t : SetTable} (W : TxS w s.heap walked U m o es was t) (R : TxR w s.heap asked S n) (N : TxR w s.heap r (fun _ => false) 0) (few : m + 1 < scanBound)
    (k : ∀ h' d c, Heap.SameBut r s.heap h' → TxR w h' r (fun y => S y && U y) c → Q PUnit.unit { s with heap := h', drawn := d }) :
    wpAny (model P w) A (setWalkUnseen walked [asked, r] (some r) >>= fun es => forIn es PUnit.unit F >>= fun _ => pure PUnit.unit) Q E s := by
  refine wpAny_bind (walk_unseen W.get W.dat W.fit W.good W.ord (fun b hb => ?_) N fun out h' d p sb T => ?_)
  · rcases List.mem_cons.mp hb with rfl | hb
    · exact R.tx
    · rw [List.mem_singleton.mp hb]
      exact N.tx
  refine wpAny_bind ?_
  rw [← Array.forIn_toList]
  have pk := p.map txK
  have len := p.length_eq
  refine fill_loop (s := { s with heap := h', drawn := d }) hr hw hF W.dat W.fit out.toList [] ((sb.2 _ hw).trans W.get) (fun e he => W.good e (p.mem_iff.mp he)) (by rw [List.nil_append]; exact pk.nodup_iff.mpr W.nd) ?_ (R.at fun o' e' => (sb.2 _ hr).trans e') ⟨0, Nat.le_refl _, T.congr fun y => by simp⟩ fun h2 c sb2 T2 => ?_
  · rw [List.nil_append, len, Array.length_toList, W.num]
    exact few
  · refine wpAny_pure ?_
    refine k h2 d c (sb.trans sb2) (T2.congr fun y => ?_)
    rw [List.nil_append]
    congr 1
    rw [Bool.eq_iff_iff, decide_eq_true_iff]
    exact ((W.mem y).trans pk.mem_iff.symm)
theorem entry_and : entryFor table "set.__and__" = some Builtin.«frozenset.__and__» := entryFor_alias (id' := "frozenset.__and__") (by kernel_rfl) rfl (by decide +kernel) (by kernel_rfl)
theorem set_and {Q : Value → Shared → Prop} (R1 : TxR w s.heap a S n) (R2 : TxR w s.heap b T m) (ne : a ≠ b) (f1 : n + 1 < scanBound) (f2 : m + 1 < scanBound)
    (k : ∀ h' d c, (∀ x o, s.heap.get? x = some o → h'.get? x = some o) → TxR w h' s.heap.objs.size (fun y => S y && T y) c → Q (.ref s.heap.objs.size) { s with heap := h', drawn := d }) :
    wpAny (model P w) A (call (.builtin "set.__and__") [.ref a, .ref b]) Q E s := by
  obtain ⟨o1, es1, ep1, t1, r1⟩ := id R1
  obtain ⟨o2, es2, ep2, t2, r2⟩ := id R2
  refine wpAny_call_entry F.slot_set_and ⟨o1, r1.get, r1.ex.1⟩ entry_and ?_ (F.args_set_and_2 _ _)
  unfold Builtin.«frozenset.__and__»
  refine wpAny_bind (m := Builtin.Frozenset.slot1 "__and__" ⟨[.ref a, .ref b], []⟩) (wpAny_bind (wpAny_pure (wpAny_pure ?_)))
  dsimp only
  simp only [Bool.false_eq_true, if_false]
  refine wpAny_bind (wpAny_bind (any_set r1.get r1.ex.1 ?_))
  refine any_set r2.get r2.ex.1 ?_
  simp only [Bool.not_true, Bool.false_eq_true, if_false]
  refine wpAny_bind (wpAny_pure ?_)
  unfold Builtin.Frozenset.intersection
  have nb : (Value.ref b == Value.ref a) = false := by simp [Ne.symm ne]
  rw [nb, if_neg Bool.false_ne_true]
  refine wpAny_bind (wpAny_bind (base_set r1.get r1.ex.1 (wpAny_bind (PySem.wpAny_newSet_raw fun led hled => ?_))))
  subst hled
  refine wpAny_bind (wpAny_pure ?_)
  have at0 : (s.heap.push (newSet w)).get? s.heap.objs.size = some (newSet w) := Heap.get?_push_size _ rfl
  have keep : ∀ x o, s.heap.get? x = some o → (s.heap.push (newSet w)).get? x = some o := fun x o e => Heap.get?_push_of_some _ e
  have N : TxR w (s.heap.push (newSet w)) s.heap.objs.size (fun _ => false) 0 := (tx_fresh (xs := []) at0).congr fun y => by simp [inS]
  have R1' := R1.at (h' := s.heap.push (newSet w)) fun o e => keep a o e
  have R2' := R2.at (h' := s.heap.push (newSet w)) fun o e => keep b o e
  have na : a ≠ s.heap.objs.size := Nat.ne_of_lt (Heap.lt_size r1.get)
  have nb2 : b ≠ s.heap.objs.size := Nat.ne_of_lt (Heap.lt_size r2.get)
  refine wpAny_bind (wpAny_holding (wpAny_bind (any_set (s := { s with heap := s.heap.push (newSet w) }) (keep b _ r2.get) r2.ex.1 ?_)))
  rw [if_pos rfl]
  refine wpAny_bind (wpAny_pure ?_)
  refine wpAny_bind (size_set (s := { s with heap := s.heap.push (newSet w) }) R2' ?_)
  refine wpAny_bind (size_set (s := { s with heap := s.heap.push (newSet w) }) R1' ?_)
  have fin : ∀ h' d c, Heap.SameBut s.heap.objs.size (s.heap.push (newSet w)) h' → TxR w h' s.heap.objs.size (fun y => S y && T y) c → Q (.ref s.heap.objs.size) { s with heap := h', drawn := d } := fun h' d c sb R =>
    k h' d c (fun x o e => (sb.2 x (Nat.ne_of_lt (Heap.lt_size e))).trans (keep x o e)) R
  by_cases lt : m > n
  · rw [if_pos lt]
    dsimp only
    refine wpAny_bind (wpAny_setEpoch_of (s := { s with heap := s.heap.push (newSet w) }) (keep a _ r1.get) r1.dat r1.fit ?_)
    refine unseen_fill (s := { s with heap := s.heap.push (newSet w) }) (asked := b) (walked := a) (S := T) (U := S) nb2 na (fun _ _ _ => rfl) { r1 with get := keep a _ r1.get } R2' N f1 fun h' d c sb R => ?_
    exact wpAny_pure (wpAny_pure ⟨_, rfl, fin h' d c sb (R.congr fun y => Bool.and_comm ..)⟩)
  · rw [if_neg lt]
    dsimp only
    refine wpAny_bind (wpAny_setEpoch_of (s := { s with heap := s.heap.push (newSet w) }) (keep b _ r2.get) r2.dat r2.fit ?_)
    refine unseen_fill (s := { s with heap := s.heap.push (newSet w) }) (asked := a) (walked := b) (S := S) (U := T) na nb2 (fun _ _ _ => rfl) { r2 with get := keep b _ r2.get } R1' N f2 fun h' d c sb R => ?_
    exact wpAny_pure (wpAny_pure ⟨_, rfl, fin h' d c sb R⟩)
end
/-- how many texts S tells -/
def ManyB (S : Str → Bool) (n : Nat) : Prop := ∃ L : List Str, L.Nodup ∧ (∀ y, y ∈ L ↔ S y = true) ∧ L.length = n
theorem TxR.manyB {w : World} {h : Heap} {a : Addr} {S : Str → Bool} {n : Nat} (R : TxR w h a S n) : ManyB S n := by
  obtain ⟨o, es, ep, t, r⟩ := R
  exact ⟨es.toList.map txK, r.nd, fun y => (r.mem y).symm, by rw [List.length_map, Array.length_toList, r.num]⟩
theorem ManyB.filter {xs ys : List Str} {n : Nat} (d : xs.Nodup) (h : ManyB (fun y => inS xs y && inS ys y) n) : n = (xs.filter fun x => decide (x ∈ ys)).length := by
  obtain ⟨L, h1, h2, rfl⟩ := h
  have d2 : (xs.filter fun x => decide (x ∈ ys)).Nodup := d.sublist List.filter_sublist
  have sub : ∀ y, y ∈ L ↔ y ∈ xs.filter fun x => decide (x ∈ ys) := fun y => by
    rw [h2 y, List.mem_filter, Bool.and_eq_true]
    unfold inS
    rw [decide_eq_true_iff]
  exact Nat.le_antisymm (len_le_of_sub h1 fun x hx => (sub x).mp hx) (len_le_of_sub d2 fun x hx => (sub x).mpr hx)
/-- a & b, sets of texts -/
def rAndX (w : World) : R2 := fun x y H Q => ∃ (a b : Addr) (S T : Str → Bool) (n m : Nat), x = .ref a ∧ y = .ref b ∧ a ≠ b ∧ H a = some (TxO w a S n) ∧ H b = some (TxO w b T m) ∧ n + 1 < scanBound ∧ m + 1 < scanBound ∧
  ∀ c k, H c = none → ManyB (fun y => S y && T y) k → Q (.ref c) (upd H c (TxO w c (fun y => S y && T y) k))
theorem op_andX {X : Cx} : OpR X (binaryOp .BitAnd) (rAndX X.w) := by
  rintro pins s σ H x y v u Q I rx ry ⟨a, b, S, T, n, m, rfl, rfl, ne, ha, hb, f1, f2, k⟩
  cases (show v = Value.ref a from rx)
  cases (show u = Value.ref b from ry)
  have R1 := txO_get I ha
  have R2 := txO_get I hb
  obtain ⟨o1, es1, ep1, t1, r1⟩ := id R1
  obtain ⟨o2, es2, ep2, t2, r2⟩ := id R2
  refine wpAny_binaryOp_same (T := "set") (id := "set.__and__") ⟨o1, r1.get, r1.ex.1⟩ ⟨o2, r2.get, r2.ex.1⟩ F.fills_set_and F.slot_set_and ?_
  refine set_and R1 R2 ne f1 f2 fun h' d c keep R => ⟨nofun, ?_⟩
  have fr : H s.heap.objs.size = none := I.hok.fresh (Nat.le_refl _)
  have J : Inv X pins σ (upd H s.heap.objs.size (TxO X.w s.heap.objs.size (fun y => S y && T y) c)) { s with heap := h', gens := s.gens, drawn := d, toks := s.toks } := I.call (ch := []) (Un.laid keep (Nat.le_refl _) fr) (I.hok.laid keep (Nat.le_refl _) (txO_new R)) I.bare nofun
  exact ⟨.ref s.heap.objs.size, _, J, rfl, k _ c fr R.manyB⟩
end Z
/-! ### own errors that have no __init__ of their own -/
namespace Z
open PySem PySem.Spec PyProof.Rows L2
abbrev tailVE : List Value := [.type "ValueError", .type "Exception", .type "BaseException", .type "object"]
structure Err0 (K : PySem.W.Frag) (x : Str) : Prop where
  ex : PySem.W.excIn K (He.ga K x) tailVE "ValueError.__new__" = true
  t : PySem.W.typeIn K (.ref (He.ga K x)) = some (.type "type")
  k : PySem.W.keepIn K (.ref (He.ga K x)) = true
  c : ExcC K (He.ga K x)
def err0B (x : Str) (K : PySem.W.Frag) : Bool := PySem.W.excIn K (He.ga K x) tailVE "ValueError.__new__" && (decide (PySem.W.typeIn K (.ref (He.ga K x)) = some (.type "type")) && (PySem.W.keepIn K (.ref (He.ga K x)) && (xfB K (He.ga K x) && classB K (He.ga K x))))
theorem err0B_ok {K : PySem.W.Frag} {x : Str} (h : err0B x K = true) : Err0 K x := by
  obtain ⟨h1, h⟩ := He.ba h
  obtain ⟨h2, h⟩ := He.ba h
  obtain ⟨h3, h⟩ := He.ba h
  obtain ⟨h4, h5⟩ := He.ba h
  have xf := xfB_ok h4
  have cf := classB_ok h5
  exact ⟨h1, of_decide_eq_true h2, h3, ⟨xf.ga, xf.gg, xf.exC, xf.hdC, cf.ha, cf.hn, cf.ht, cf.hm⟩⟩
section
variable {X : Cx} {W : WX} {x : Str} {p pos pos2 : Pos}
theorem pmk_err0 (E : Err0 X.K x) (hg : Gl X x) (hm : X.mg x = some (.ref (He.ga X.K x))) (hdb : (x == ("__debug__" : Str)) = false := by decide) : PMk X (.Call (.Name x p) [] [] pos) (fun _ H Q => Q (.ref (He.ga X.K x)) none H) := by
  intro pins s σ H Q I h
  refine wpAny_Call_Name_kw (ld_glob I hg hm ?_ hdb)
  refine PySem.W.callWith_K0 (first := []) I.kIn E.k ?_
  obtain ⟨bm, N, nm, qn, bs, hd, sn, sub, ab, col, dd, k0, k1, k2, k3, k5, mN, hC, hN, hni, T⟩ := exc_obj I.kIn E.ex
  obtain ⟨hp, g, d, t, os⟩ := s
  refine wpAny_call_exc_subT PySem.F.excBase_ValueError T hC hN hni (fun h' e made => ?_) (Nat.zero_le _)
  exact mk_of I made (raises_own E.c.hs E.t) h (I.hok.gone made.new)
/-- raise x() -/
theorem ps_raise0 (E : Err0 X.K x) (hc : X.calm = true) (tk : Takes X W) (hg : Gl X x) (hm : X.mg x = some (.ref (He.ga X.K x))) (hdb : (x == ("__debug__" : Str)) = false := by decide) :
    PS X (.Raise (some (.Call (.Name x p) [] [] pos)) none pos2) (fun _ σ H => W (.ref (He.ga X.K x)) none σ H) := ps_raise hc tk (pmk_err0 E hg hm hdb)
end
/-! ### a statement `ask()` within a try -/
def tAskE (n : Nat) (f c' : Addr) (q : Str) (tl : XK → Hp → VK → Prop) (W : WX) : TS := fun D σ H => ∃ (E : XK) (Q0 : VK), (∀ cls d σ' H', E cls d H' → σ'.length = n → W cls d σ' H') ∧ σ[0]? = some (some (.ref f)) ∧ H c' = some (LamX.CodeO c' q) ∧ tl E H Q0 ∧ ∀ v H1, Q0 v H1 → D.nx σ H1
theorem ps_askE {Z : Cx} {W : WX} {n : Nat} {f c' : Addr} {q a : Str} {tl : XK → Hp → VK → Prop} {p1 p2 p4 : Pos} (hn : Z.N.length = n)
    (expr_ : ∀ te, PE Z (.Call (.Name a p1) [] [] p2) te → PS Z (.Expr (.Call (.Name a p1) [] [] p2) p4) (tDrop te))
    (act : ∀ E : XK, (∀ cls d σ' H', E cls d H' → σ'.length = Z.N.length → W cls d σ' H') → PE Z (.Call (.Name a p1) [] [] p2) (fun σZ HZ Q => σZ[0]? = some (some (.ref f)) ∧ HZ c' = some (LamX.CodeO c' q) ∧ tl E HZ Q)) :
    PSs Z [.Expr (.Call (.Name a p1) [] [] p2) p4] (tAskE n f c' q tl W) := by
  constructor
  rintro pins s σ H D I ⟨E, Q0, hW, h1, h2, h3, h4⟩
  exact (pss_one (expr_ _ (pe_up (act E (fun cls d σ' H' e l => hW cls d σ' H' e (l.trans hn)))))).run pins s σ H D I ⟨Q0, ⟨h1, h2, h3⟩, h4⟩
/-- what a law makes of a call that raises x, which keeps nothing -/
def TTun (K : PySem.W.Frag) (x : Str) : (XK → Hp → VK → Prop) → Hp → VK → Prop := fun tl H Q => ∀ H1, Same H H1 → ∃ E : XK, tl E H1 (fun _ _ => False) ∧
  ∀ cls d H', E cls d H' → cls = .ref (He.ga K x) ∧ d = none ∧ ∀ H'', Same H' H'' → Q (.bl true) H''
theorem heard_un {K : PySem.W.Frag} {T : List (Addr × Str)} {t : XK → TE} {σ : L2.St} {H : Hp} {Q : VK} (cls : Str) (hT : LamX.Tabs T H)
    (rd : ∀ H2, LamX.ExtN H H2 → t (fun c d H' => c = .ref (He.ga K cls) ∧ d = none ∧ Same H2 H') σ H2 (fun _ _ => False))
    (k : ∀ H', LamX.ExtN H H' → LamX.Tabs T H' → Q (.bl true) H') : LamX.tLam T (TTun K cls) t σ H Q := by
  refine ⟨hT, fun H1 eN T1 H2 s2 => ⟨_, rd H2 (eN.trans (extS s2)), ?_⟩⟩
  rintro c d H' ⟨rfl, rfl, sm⟩
  exact ⟨rfl, rfl, fun H'' s => k H'' (((eN.trans (extS s2)).trans (extS sm)).trans (extS s)) (((T1.ext s2).ext sm).ext s)⟩
end Z
/-! ### list(d.values()) -/
namespace Z
open PySem PySem.Spec PyProof.Rows L2
/-- a dict whose values are vs, in their order -/
def DVals (H : Hp) (d : Addr) (vs : List V) : Prop := (∃ kvs : List (Key × V), H d = some (.dK kvs) ∧ vs = kvs.map (·.2)) ∨ ∃ kvs : List (List Key × V), H d = some (.dT kvs) ∧ vs = kvs.map (·.2)
def tListVals (te : TE) : TE := fun σ H Q => te σ H fun x H1 => ∃ (d : Addr) (vs : List V), x = .ref d ∧ DVals H1 d vs ∧ ∀ p, H1 p = none → Q (.ref p) (upd H1 p (.lst vs))
section
variable {prog : Program} {w : World} {d r : Addr} {ob : Obj} {es : Array DictEntry} {ep : Nat}
theorem src_vals (dat : ob.data = .dict es ep) : PySem.W.KdlSrc prog w "dict_values" r d es.size (fun i v => ∃ x, es[i]? = some x ∧ x.val = v) (fun h => h.get? r = some (DSub.viewOb "dict_values" d) ∧ h.get? d = some ob) where
  type := fun _ k => ⟨_, k.1, rfl⟩
  there := fun _ k => ⟨Heap.lt_size k.1, Heap.lt_size k.2⟩
  keep := fun _ _ k m => ⟨m r (.inl rfl) _ k.1, m d (.inr rfl) _ k.2⟩
  notList := by decide
  notTuple := by decide
  hint := fun _ _ _ _ k q => PySem.W.kdl_hint_values ⟨_, k.1, rfl⟩ q
  iter := fun A s calm k => ⟨_, _, fun _ _ q => DSub.iter_vals k.1 k.2 dat q, DSub.walksVal (I := s.heap.objs.size) calm (Nat.ne_of_lt (Heap.lt_size k.2)) dat (fun i x hx => ⟨x, hx, rfl⟩), ⟨Heap.get?_push_size _ rfl, Heap.get?_push_of_some _ k.2⟩⟩
end
section
variable {X : Cx} {e : Expr} {te : TE} {p apos cpos pos : Pos}
theorem pairs_vals {K : Type} [DecidableEq K] {P : Program} {w : World} {knd : KeyKind P w K} {es : List DictEntry} {vs : List (K × Value)} (h : PySem.Pairs knd es vs) : es.map (·.val) = vs.map (·.2) := by
  induction h with
  | nil => rfl
  | cons _ e _ ih => rw [List.map_cons, List.map_cons, ih, e]
theorem kv_vals {κ : Type} {kvs : List (κ × V)} {vs : List (κ × Value)} (h : KV kvs vs) : Vals (kvs.map (·.2)) (vs.map (·.2)) := by
  induction h with
  | nil => exact .nil
  | cons r _ ih => exact .cons r.2 ih
theorem kvT_vals {R : List Key × V → List Key × Addr × Value → Prop} {f : List Key × Addr × Value → DictEntry} (hf : ∀ z, (f z).val = z.2.2) (hR : ∀ a b, R a b → RelV a.2 b.2.2) {kvs : List (List Key × V)} {xs : List (List Key × Addr × Value)} (h : Paired R kvs xs) : Vals (kvs.map (·.2)) ((xs.map f).map (·.val)) := by
  induction h with
  | nil => exact .nil
  | cons r _ ih => exact .cons (by show RelV _ _; have q := hR _ _ r; rw [← hf] at q; exact q) ih
/-- the dict's object: its entries' values stand for vs -/
theorem dvals_at {pins : List (Addr × Obj)} {σ : L2.St} {H : Hp} {s : Shared} {d : Addr} {vs : List V} (I : Inv X pins σ H s) (h : DVals H d vs) :
    ∃ (ob : Obj) (es : Array DictEntry) (ep : Nat), s.heap.get? d = some ob ∧ ob.ExactDict ∧ ob.data = .dict es ep ∧ (d == sysModules) = false ∧ vs.length ≤ sizeLine ∧ Vals vs (es.toList.map (·.val)) := by
  rcases h with ⟨kvs, hd, rfl⟩ | ⟨kvs, hd, rfl⟩
  · obtain ⟨hz, hs, ps, kv, ob, es, ep, h1, h2, h3, _, h5, _⟩ := I.hok d _ hd
    refine ⟨ob, es, ep, h1, h2, h3, hs, by rw [List.length_map]; exact hz, ?_⟩
    rw [pairs_vals h5]
    exact kv_vals kv
  · obtain ⟨hz, hs, xs, pr, ob, es, ep, h1, h2, h3, h4, _⟩ := I.hok d _ hd
    refine ⟨ob, es, ep, h1, h2, h3, hs, by rw [List.length_map]; exact hz, ?_⟩
    rw [h4]
    exact kvT_vals (fun _ => rfl) (fun _ _ r => r.2.2) pr
/-- list(e.values()) -/
theorem pe_listVals (calm : X.calm = true) (he : PE X e te) (hg : Gl X "list") (free : X.mg "list" = none) (boot : bootBuiltins "list" = some (.type "list")) (base : attributeBase e "values" X.env (eval e X.env) = eval e X.env := by rfl) (line : (apos.endLine == cpos.line) = true := by rfl)
    (star : starEach [.Call (.Attribute e "values" apos) [] [] cpos] X.env = (false, eval (.Call (.Attribute e "values" apos) [] [] cpos) X.env) :: starEach [] X.env := by rfl) :
    PE X (.Call (.Name "list" p) [.Call (.Attribute e "values" apos) [] [] cpos] [] pos) (tListVals te) := by
  constructor
  intro pins s σ H Q I want
  refine wpAny_Call_Name_kw (ld_blt I hg free boot ?_)
  refine PyProof.Rows.callWith_type1 ?_ star rfl
  rw [star]
  show wpAny _ _ (spliced ((false, eval (.Call (.Attribute e "values" apos) [] [] cpos) X.env) :: backTo pos (starEach [] X.env))) _ _ s
  refine Calls.spliced_cons ?_
  refine wpAny_Call_method (T := "dict") (id := "dict.values") base rfl line F.plainAttrs_dict F.slot_dict_values F.type_dict_values (thn (he.run pins s σ H _ I want) ?_)
  rintro u s1 ⟨x, H1, J, rx, d, vs, rfl, dv, k⟩
  cases (show u = Value.ref d from rx)
  obtain ⟨ob, es, ep, g1, g2, g3, low, few, rel⟩ := dvals_at J dv
  have raw : Heap.DictRaw s1.heap d es ep := ⟨ob, g1, g2, g3⟩
  refine ⟨⟨ob, g1, g2.1⟩, fun a q => ?_, ?_⟩
  · cases q
    exact ⟨ob, g1, g2.2.1⟩
  refine method_meetsIn F.slot_dict_values F.entry_dict_values rfl (PySem.evalArgs_none ⟨rfl, ⟨ob, g1, g2.1⟩, F.args_dict_values_1 _, _, meets_dict_values_raw d low, ⟨es, ep, raw⟩, ?_⟩)
  refine Calls.spliced_nil ?_
  have len : es.size = vs.length := by
    have := rel.length
    rw [List.length_map, Array.length_toList] at this
    exact this.symm
  have J2 : Inv X pins σ H1 { s1 with heap := s1.heap.push (DSub.viewOb "dict_values" d) } := J.kept (t' := s1.toks) fun b o q => Heap.get?_push_of_some _ q
  refine PySem.W.kdl_call (src_vals (r := s1.heap.objs.size) g3) (J.ok.hd calm) ⟨Heap.get?_push_size _ rfl, Heap.get?_push_of_some _ g1⟩ (by omega) fun h' tk acc c keep at_ its => ?_
  have items : Vals vs acc.toList := by
    have e : acc.toList = es.toList.map (·.val) := by
      refine List.ext_getElem? fun i => ?_
      rw [List.getElem?_map, Array.getElem?_toList, Array.getElem?_toList]
      cases q : acc[i]? with
      | some v =>
        obtain ⟨x, hx, rfl⟩ := its.2 i v q
        rw [hx]
        rfl
      | none =>
        have := Array.getElem?_eq_none_iff.mp q
        rw [its.1] at this
        rw [Array.getElem?_eq_none this]
        rfl
    rw [e]
    exact rel
  have fr := J2.hok.fresh (Nat.le_refl _)
  exact ⟨.ref _, _, J2.laid (o := .lst vs) (t' := tk) keep (Nat.le_refl _) ⟨few, acc.toList, c, items, by rw [show acc.toList.toArray = acc from Array.toArray_toList]; exact at_⟩, rfl, k _ fr⟩
end
end Z
/-! ### cuts that cross -/
namespace Z
open PySem PySem.Spec PyProof.Rows L2
def crossN (fy gy : List Str) : Nat := (fy.filter fun x => decide (x ∈ gy)).length
def crossB (fy gy : List Str) : Bool := decide (0 < crossN fy gy) && decide (crossN fy gy < min fy.length gy.length)
def meetB (a b : List Str) : Bool := a.any fun x => decide (x ∈ b)
def meet4 (xs ys us ws : List Str) : Bool := meetB xs us && (meetB xs ws && (meetB ys us && meetB ys ws))
theorem meetB_iff {a b : List Str} : meetB a b = true ↔ ∃ x, x ∈ a ∧ x ∈ b := by
  unfold meetB
  rw [List.any_eq_true]
  exact ⟨fun ⟨x, h, k⟩ => ⟨x, h, of_decide_eq_true k⟩, fun ⟨x, h, k⟩ => ⟨x, h, decide_eq_true k⟩⟩
theorem crossN_comm {a b : List Str} (ha : a.Nodup) (hb : b.Nodup) : crossN a b = crossN b a := by
  unfold crossN
  refine Nat.le_antisymm (len_le_of_sub (ha.sublist List.filter_sublist) fun x hx => ?_) (len_le_of_sub (hb.sublist List.filter_sublist) fun x hx => ?_) <;>
  · rw [List.mem_filter] at hx ⊢
    exact ⟨of_decide_eq_true hx.2, decide_eq_true hx.1⟩
theorem crossN_pos {a b : List Str} : 0 < crossN a b ↔ ∃ x, x ∈ a ∧ x ∈ b := by
  unfold crossN
  rw [List.length_pos_iff_exists_mem]
  exact ⟨fun ⟨x, h⟩ => ⟨x, (List.mem_filter.mp h).1, of_decide_eq_true (List.mem_filter.mp h).2⟩, fun ⟨x, h, k⟩ => ⟨x, List.mem_filter.mpr ⟨h, decide_eq_true k⟩⟩⟩
theorem crossN_lt {a b : List Str} : crossN a b < a.length ↔ ∃ x, x ∈ a ∧ x ∉ b := by
  unfold crossN
  constructor
  · intro h
    by_cases all : ∀ x ∈ a, x ∈ b
    · rw [List.filter_eq_self.mpr fun x hx => decide_eq_true (all x hx)] at h
      exact absurd h (Nat.lt_irrefl _)
    · simp only [Classical.not_forall] at all
      obtain ⟨x, h1, h2⟩ := all
      exact ⟨x, h1, h2⟩
  · rintro ⟨x, h1, h2⟩
    refine Nat.lt_of_le_of_ne (List.length_filter_le ..) fun e => h2 ?_
    have q := List.filter_sublist.eq_of_length e
    have h1' : x ∈ a.filter fun x => decide (x ∈ b) := by rw [q]; exact h1
    exact of_decide_eq_true (List.mem_filter.mp h1').2
theorem crossB_iff {a b : List Str} (ha : a.Nodup) (hb : b.Nodup) : crossB a b = true ↔ (∃ x, x ∈ a ∧ x ∈ b) ∧ (∃ x, x ∈ a ∧ x ∉ b) ∧ ∃ x, x ∈ b ∧ x ∉ a := by
  unfold crossB
  rw [Bool.and_eq_true, decide_eq_true_iff, decide_eq_true_iff, Nat.lt_min, crossN_pos, crossN_lt, crossN_comm ha hb, crossN_lt]
theorem crossB_comm {a b : List Str} (ha : a.Nodup) (hb : b.Nodup) : crossB a b = crossB b a := by
  rw [Bool.eq_iff_iff, crossB_iff ha hb, crossB_iff hb ha]
  exact ⟨fun ⟨⟨x, h, k⟩, p, q⟩ => ⟨⟨x, k, h⟩, q, p⟩, fun ⟨⟨x, h, k⟩, p, q⟩ => ⟨⟨x, k, h⟩, q, p⟩⟩
theorem crossB_self {a : List Str} (ha : a.Nodup) : crossB a a = false := by
  cases e : crossB a a with
  | false => rfl
  | true =>
    obtain ⟨_, ⟨x, h, k⟩, _⟩ := (crossB_iff ha ha).mp e
    exact absurd h k
/-- what the sides of a cut, the near one first, have to do with its rows -/
theorem Turned.sets {xs ys ny fy : List Str} (t : Turned xs ys ny fy) : ((∀ x, x ∈ ny ↔ x ∈ xs) ∧ ∀ x, x ∈ fy ↔ x ∈ ys) ∨ ((∀ x, x ∈ ny ↔ x ∈ ys) ∧ ∀ x, x ∈ fy ↔ x ∈ xs) := by
  obtain ⟨ya, yb, h1, h2, y0, z0, _, _, ⟨_, rfl, rfl⟩ | ⟨_, rfl, rfl⟩⟩ := t
  · exact .inl ⟨h1.2.2, h2.2.2⟩
  · exact .inr ⟨h2.2.2, h1.2.2⟩
theorem Turned.nds {xs ys ny fy : List Str} (t : Turned xs ys ny fy) : ny.Nodup ∧ fy.Nodup := by
  obtain ⟨ya, yb, h1, h2, y0, z0, _, _, ⟨_, rfl, rfl⟩ | ⟨_, rfl, rfl⟩⟩ := t
  · exact ⟨h1.2.1, h2.2.1⟩
  · exact ⟨h2.2.1, h1.2.1⟩
/-- the least name of all stands on the near side -/
theorem Turned.least {xs ys ny fy : List Str} (t : Turned xs ys ny fy) : ∃ x, x ∈ ny ∧ ∀ y ∈ xs ++ ys, leS x y := by
  obtain ⟨ya, yb, h1, h2, y0, z0, e1, e2, c⟩ := t
  obtain ⟨r1, rfl⟩ : ∃ r, ya = y0 :: r := by cases ya with
    | nil => cases e1
    | cons a r => cases e1; exact ⟨r, rfl⟩
  obtain ⟨r2, rfl⟩ : ∃ r, yb = z0 :: r := by cases yb with
    | nil => cases e2
    | cons a r => cases e2; exact ⟨r, rfl⟩
  have m1 := (h1.min rfl).2
  have m2 := (h2.min rfl).2
  rcases c with ⟨lt, rfl, rfl⟩ | ⟨ge, rfl, rfl⟩
  · refine ⟨y0, .head _, fun y hy => ?_⟩
    rcases List.mem_append.mp hy with h | h
    · exact m1 y h
    · exact leS_trans (leS_of_lt lt) (m2 y h)
  · refine ⟨z0, .head _, fun y hy => ?_⟩
    rcases List.mem_append.mp hy with h | h
    · exact leS_trans ge (m1 y h)
    · exact m2 y h
theorem cross_meet {xs ys ny fy us ws my gy : List Str} (t : Turned xs ys ny fy) (u : Turned us ws my gy) (a1 : apartS xs ys) (a2 : apartS us ws) (same : ∀ x, x ∈ xs ++ ys ↔ x ∈ us ++ ws) : crossB fy gy = meet4 xs ys us ws := by
  have s1 := t.sets
  have s2 := u.sets
  obtain ⟨x0, h0, l0⟩ := t.least
  obtain ⟨y0, g0, m0⟩ := u.least
  have in1 : ∀ x, x ∈ xs ++ ys ↔ x ∈ ny ∨ x ∈ fy := fun x => by
    rw [List.mem_append]
    rcases s1 with ⟨p, q⟩ | ⟨p, q⟩
    · rw [p, q]
    · rw [p, q]; exact Or.comm
  have in2 : ∀ x, x ∈ us ++ ws ↔ x ∈ my ∨ x ∈ gy := fun x => by
    rw [List.mem_append]
    rcases s2 with ⟨p, q⟩ | ⟨p, q⟩
    · rw [p, q]
    · rw [p, q]; exact Or.comm
  have ap1 : ∀ x, x ∈ ny → x ∉ fy := fun x => by
    rcases s1 with ⟨p, q⟩ | ⟨p, q⟩
    · rw [p, q]; exact a1 x
    · rw [p, q]; exact fun h k => a1 x k h
  have ap2 : ∀ x, x ∈ my → x ∉ gy := fun x => by
    rcases s2 with ⟨p, q⟩ | ⟨p, q⟩
    · rw [p, q]; exact a2 x
    · rw [p, q]; exact fun h k => a2 x k h
  have e0 : x0 = y0 := leS_anti (l0 y0 ((same y0).mpr ((in2 y0).mpr (.inl g0)))) (m0 x0 ((same x0).mp ((in1 x0).mpr (.inl h0))))
  subst e0
  have out1 : ∀ x, x ∈ fy → (x ∉ gy ↔ x ∈ my) := fun x hx => ⟨fun h => ((in2 x).mp ((same x).mp ((in1 x).mpr (.inr hx)))).resolve_right h, ap2 x⟩
  have out2 : ∀ x, x ∈ gy → (x ∉ fy ↔ x ∈ ny) := fun x hx => ⟨fun h => ((in1 x).mp ((same x).mpr ((in2 x).mpr (.inr hx)))).resolve_right h, ap1 x⟩
  rw [Bool.eq_iff_iff, crossB_iff t.nds.2 u.nds.2]
  unfold meet4
  simp only [Bool.and_eq_true, meetB_iff]
  have base : ((∃ x, x ∈ fy ∧ x ∈ gy) ∧ (∃ x, x ∈ fy ∧ x ∉ gy) ∧ ∃ x, x ∈ gy ∧ x ∉ fy) ↔ (∃ x, x ∈ ny ∧ x ∈ my) ∧ (∃ x, x ∈ ny ∧ x ∈ gy) ∧ (∃ x, x ∈ fy ∧ x ∈ my) ∧ ∃ x, x ∈ fy ∧ x ∈ gy := by
    constructor
    · rintro ⟨p, ⟨x, h1, h2⟩, ⟨y, h3, h4⟩⟩
      exact ⟨⟨x0, h0, g0⟩, ⟨y, (out2 y h3).mp h4, h3⟩, ⟨x, h1, (out1 x h1).mp h2⟩, p⟩
    · rintro ⟨_, ⟨y, h3, h4⟩, ⟨x, h1, h2⟩, p⟩
      exact ⟨p, ⟨x, h1, ap2 x h2⟩, ⟨y, h4, ap1 y h3⟩⟩
  rw [base]
  rcases s1 with ⟨p, q⟩ | ⟨p, q⟩ <;> rcases s2 with ⟨p', q'⟩ | ⟨p', q'⟩ <;> simp only [p, q, p', q'] <;> constructor <;> rintro ⟨A, B, C, D⟩ <;> first | exact ⟨A, B, C, D⟩ | exact ⟨B, A, D, C⟩ | exact ⟨C, D, A, B⟩ | exact ⟨D, C, B, A⟩
/-! ### the first two of a row that stand in a relation -/
def firstPair {α : Type} (R : α → α → Bool) : List α → Option (α × α)
  | [] => none
  | a :: r => match r.find? (R a) with
    | some b => some (a, b)
    | none => firstPair R r
/-- each key once, with what it comes with first -/
def firstsK {α κ : Type} [DecidableEq κ] (key : α → κ) : List κ → List α → List α
  | _, [] => []
  | seen, a :: r => if key a ∈ seen then firstsK key seen r else a :: firstsK key (key a :: seen) r
section
variable {α κ : Type} [DecidableEq κ] {key : α → κ}
theorem firsts_find {P : κ → Bool} : ∀ (l : List α) (seen : List κ), (∀ k ∈ seen, P k = false) → (firstsK key seen l).find? (fun a => P (key a)) = l.find? fun a => P (key a)
  | [], _, _ => rfl
  | a :: r, seen, h => by
    unfold firstsK
    by_cases m : key a ∈ seen
    · rw [if_pos m, List.find?_cons_of_neg (by rw [h _ m]; exact Bool.false_ne_true)]
      exact firsts_find r seen h
    · rw [if_neg m]
      cases e : P (key a) with
      | true => rw [List.find?_cons_of_pos (p := fun a => P (key a)) e, List.find?_cons_of_pos (p := fun a => P (key a)) e]
      | false =>
        rw [List.find?_cons_of_neg (by rw [e]; exact Bool.false_ne_true), List.find?_cons_of_neg (by rw [e]; exact Bool.false_ne_true)]
        exact firsts_find r _ fun k hk => by
          rcases List.mem_cons.mp hk with rfl | hk
          · exact e
          · exact h k hk
theorem firsts_pair {R : κ → κ → Bool} {O : κ → Prop} (sym : ∀ a b, O a → O b → R a b = R b a) (irr : ∀ a, O a → R a a = false) : ∀ (l : List α) (seen : List κ), (∀ a ∈ l, O (key a)) → (∀ k ∈ seen, O k) → (∀ k ∈ seen, ∀ a ∈ l, R k (key a) = false) →
    firstPair (fun a b => R (key a) (key b)) (firstsK key seen l) = firstPair (fun a b => R (key a) (key b)) l
  | [], _, _, _, _ => rfl
  | a :: r, seen, o1, o2, h => by
    have oa := o1 a (.head _)
    have o1' : ∀ b ∈ r, O (key b) := fun b hb => o1 b (.tail _ hb)
    unfold firstsK
    by_cases m : key a ∈ seen
    · rw [if_pos m, firsts_pair sym irr r seen o1' o2 fun k hk b hb => h k hk b (.tail _ hb)]
      have no : r.find? (fun b => R (key a) (key b)) = none := List.find?_eq_none.mpr fun b hb => by rw [h _ m b (.tail _ hb)]; exact Bool.false_ne_true
      show _ = match r.find? (fun b => R (key a) (key b)) with | some b => some (a, b) | none => firstPair _ r
      rw [no]
    · rw [if_neg m]
      have ff := firsts_find (P := R (key a)) (key := key) r (key a :: seen) fun k hk => by
        rcases List.mem_cons.mp hk with rfl | hk
        · exact irr _ oa
        · rw [sym _ _ oa (o2 k hk)]; exact h k hk a (.head _)
      show (match (firstsK key (key a :: seen) r).find? (fun b => R (key a) (key b)) with | some b => some (a, b) | none => firstPair _ (firstsK key (key a :: seen) r)) = match r.find? (fun b => R (key a) (key b)) with | some b => some (a, b) | none => firstPair _ r
      rw [ff]
      cases e : r.find? (fun b => R (key a) (key b)) with
      | some b => rfl
      | none =>
        exact firsts_pair sym irr r _ o1' (fun k hk => by rcases List.mem_cons.mp hk with rfl | hk; exact oa; exact o2 k hk) fun k hk b hb => by
          rcases List.mem_cons.mp hk with rfl | hk
          · exact eq_false_of_ne_true (List.find?_eq_none.mp e b hb)
          · exact h k hk b (.tail _ hb)
theorem firsts_mem {l : List α} : ∀ {seen : List κ} {k : κ}, (k ∈ (firstsK key seen l).map key ∨ k ∈ seen) ↔ (k ∈ l.map key ∨ k ∈ seen) := by
  induction l with
  | nil => exact .rfl
  | cons a r ih =>
    intro seen k
    unfold firstsK
    by_cases m : key a ∈ seen
    · rw [if_pos m, ih, List.map_cons, List.mem_cons]
      constructor
      · rintro (h | h)
        · exact .inl (.inr h)
        · exact .inr h
      · rintro ((rfl | h) | h)
        · exact .inr m
        · exact .inl h
        · exact .inr h
    · rw [if_neg m, List.map_cons, List.map_cons, List.mem_cons, List.mem_cons]
      have := @ih (key a :: seen) k
      rw [List.mem_cons] at this
      constructor
      · rintro ((h | h) | h)
        · exact .inl (.inl h)
        · rcases this.mp (.inl h) with q | q | q
          · exact .inl (.inr q)
          · exact .inl (.inl q)
          · exact .inr q
        · exact .inr h
      · rintro ((h | h) | h)
        · exact .inl (.inl h)
        · rcases this.mpr (.inl h) with q | q | q
          · exact .inl (.inr q)
          · exact .inl (.inl q)
          · exact .inr q
        · exact .inr h
/-- one more at the end -/
theorem firsts_snoc {x : α} : ∀ (l : List α) (seen : List κ), firstsK key seen (l ++ [x]) = firstsK key seen l ++ if key x ∈ seen ∨ key x ∈ (firstsK key seen l).map key then [] else [x]
  | [], seen => by
    show (if key x ∈ seen then firstsK key seen [] else x :: firstsK key (key x :: seen) []) = [] ++ _
    by_cases m : key x ∈ seen
    · rw [if_pos m, if_pos (.inl m)]; rfl
    · rw [if_neg m, if_neg (by rintro (h | h); exact m h; cases h)]; rfl
  | a :: r, seen => by
    show (if key a ∈ seen then firstsK key seen (r ++ [x]) else a :: firstsK key (key a :: seen) (r ++ [x])) = (if key a ∈ seen then firstsK key seen r else a :: firstsK key (key a :: seen) r) ++ if key x ∈ seen ∨ key x ∈ (if key a ∈ seen then firstsK key seen r else a :: firstsK key (key a :: seen) r).map key then [] else [x]
    by_cases m : key a ∈ seen
    · simp only [if_pos m]
      exact firsts_snoc r seen
    · simp only [if_neg m]
      rw [firsts_snoc r, List.cons_append]
      congr 2
      simp only [List.mem_cons, List.map_cons]
      by_cases q : key x ∈ seen ∨ key x = key a ∨ key x ∈ (firstsK key (key a :: seen) r).map key
      · rw [if_pos q, if_pos (by rcases q with h | h | h; exact .inl (.inr h); exact .inl (.inl h); exact .inr h)]
      · rw [if_neg q, if_neg (fun h => q (by rcases h with (h | h) | h; exact .inr (.inl h); exact .inl h; exact .inr (.inr h)))]
theorem firsts_sub {l : List α} : ∀ {seen : List κ} {a : α}, a ∈ firstsK key seen l → a ∈ l := by
  induction l with
  | nil => intro _ _ h; cases h
  | cons b r ih =>
    intro seen a h
    unfold firstsK at h
    by_cases m : key b ∈ seen
    · rw [if_pos m] at h
      exact .tail _ (ih h)
    · rw [if_neg m] at h
      rcases List.mem_cons.mp h with rfl | h
      · exact .head _
      · exact .tail _ (ih h)
theorem firsts_len {l : List α} : ∀ {seen : List κ}, (firstsK key seen l).length ≤ l.length := by
  induction l with
  | nil => intro _; exact Nat.le_refl _
  | cons b r ih =>
    intro seen
    unfold firstsK
    split
    · exact Nat.le_succ_of_le ih
    · exact Nat.succ_le_succ ih
end
theorem firstPair_map {α β : Type} {R : β → β → Bool} (f : α → β) : ∀ l : List α, firstPair R (l.map f) = (firstPair (fun a b => R (f a) (f b)) l).map fun p => (f p.1, f p.2)
  | [] => rfl
  | a :: r => by
    show (match (r.map f).find? (R (f a)) with | some b => some (f a, b) | none => firstPair R (r.map f)) = Option.map _ (match r.find? (fun b => R (f a) (f b)) with | some b => some (a, b) | none => firstPair _ r)
    rw [List.find?_map]
    show (match Option.map f (r.find? (fun b => R (f a) (f b))) with | some b => some (f a, b) | none => firstPair R (r.map f)) = _
    cases r.find? (fun b => R (f a) (f b)) with
    | some b => rfl
    | none => exact firstPair_map f r
end Z
namespace Z
open PySem PySem.Spec PyProof.Rows L2
theorem crossB_no {fy gy : List Str} {n : Nat} (d : fy.Nodup) (m : ManyB (fun y => inS fy y && inS gy y) n) (h : ¬ (0 : Int) < (n : Int)) : crossB fy gy = false := by
  have e : n = crossN fy gy := m.filter d
  unfold crossB
  rw [decide_eq_false (by omega), Bool.false_and]
theorem crossB_at {fy gy : List Str} {n : Nat} (d : fy.Nodup) (m : ManyB (fun y => inS fy y && inS gy y) n) (h : (0 : Int) < (n : Int)) : crossB fy gy = decide ((n : Int) < if ((gy.map V.str).length : Int) < ((fy.map V.str).length : Int) then ((gy.map V.str).length : Int) else ((fy.map V.str).length : Int)) := by
  have e : n = crossN fy gy := m.filter d
  unfold crossB
  rw [decide_eq_true (by omega), Bool.true_and, ← e, List.length_map, List.length_map]
  refine decide_eq_decide.mpr ?_
  split <;> omega
end Z
namespace Z
open PySem PySem.Spec PyProof.Rows L2
theorem depth_tup (xs : List Str) : (PyData.tuple (xs.map PyData.str)).depth ≤ 64 := by
  simp [PyData.depth, deep_strs]
end Z
namespace Z
open PySem PySem.Spec PyProof.Rows L2
/-- a cut that stands somewhere -/
structure CutD where
  p : Addr
  hs : List Str
  ny : List Str
  fy : List Str
def firstX (cs : List CutD) : Option (CutD × CutD) := firstPair (fun a b => crossB a.fy b.fy) cs
theorem firstX_firsts {cs : List CutD} (h : ∀ c ∈ cs, c.fy.Nodup) : firstX (firstsK CutD.fy [] cs) = firstX cs :=
  firsts_pair (R := crossB) (O := List.Nodup) (fun _ _ => crossB_comm) (fun _ => crossB_self) cs [] h nofun nofun
def farKey (l : List Str) : List Key := l.map Sum.inr
theorem farKey_map (l : List Str) : (farKey l).map kV = l.map V.str := by
  unfold farKey
  rw [List.map_map]
  rfl
theorem farKey_inj : ∀ {a b : List Str}, farKey a = farKey b → a = b
  | [], [], _ => rfl
  | [], _ :: _, h => nomatch h
  | _ :: _, [], h => nomatch h
  | _ :: _, _ :: _, h => by
    have h1 := (List.cons.inj h).1
    have h2 := farKey_inj (List.cons.inj h).2
    rw [Sum.inr.inj h1, h2]
def farD (cs : List CutD) : List (List Key × V) := cs.map fun c => (farKey c.fy, V.ref c.p)
theorem farD_vals (cs : List CutD) : (farD cs).map (·.2) = cs.map fun c => V.ref c.p := by
  unfold farD
  rw [List.map_map]
  rfl
theorem farD_none {cs : List CutD} {f : List Str} (h : f ∉ cs.map CutD.fy) : valV (farD cs) (farKey f) = none := by
  induction cs with
  | nil => rfl
  | cons c r ih =>
    rw [List.map_cons, List.mem_cons, not_or] at h
    show valV ((farKey c.fy, V.ref c.p) :: farD r) _ = none
    rw [valV_neg fun e => h.1 (farKey_inj e).symm]
    exact ih h.2
theorem farD_some {cs : List CutD} {f : List Str} (h : f ∈ cs.map CutD.fy) : ∃ v, valV (farD cs) (farKey f) = some v := by
  induction cs with
  | nil => cases h
  | cons c r ih =>
    show ∃ v, valV ((farKey c.fy, V.ref c.p) :: farD r) _ = some v
    by_cases e : c.fy = f
    · exact ⟨_, valV_pos (by rw [e])⟩
    · rw [List.map_cons, List.mem_cons] at h
      rw [valV_neg fun q => e (farKey_inj q)]
      exact ih (h.resolve_left fun q => e q.symm)
theorem farD_put {cs : List CutD} {c : CutD} (h : c.fy ∉ cs.map CutD.fy) : putK (farD cs) (farKey c.fy) (V.ref c.p) = farD (cs ++ [c]) := by
  unfold putK
  rw [valV_any, farD_none h, if_neg (by simp)]
  unfold farD
  rw [List.map_append]
  rfl
theorem firsts_next {cs : List CutD} {i : Nat} {c : CutD} (h : cs[i]? = some c) : firstsK CutD.fy [] (cs.take (i + 1)) = firstsK CutD.fy [] (cs.take i) ++ if c.fy ∈ (firstsK CutD.fy [] (cs.take i)).map CutD.fy then [] else [c] := by
  rw [List.take_add_one, h]
  show firstsK CutD.fy [] (cs.take i ++ [c]) = _
  rw [firsts_snoc]
  congr 1
  by_cases m : c.fy ∈ (firstsK CutD.fy [] (cs.take i)).map CutD.fy
  · rw [if_pos (.inr m), if_pos m]
  · rw [if_neg (by rintro (q | q); cases q; exact m q), if_neg m]
theorem row_walkE {K : PySem.W.Frag} {H : Hp} {p : Addr} {xs : List V} (h : RowA H p xs) {R : It → Hp → Prop} {σ : L2.St} {i : Nat} (hi : σ[i]? = some (some (.ref p))) (k : ∀ (J : It) (G : Hp → Prop), Walk J xs.length G (YAt xs) → (∀ H', H' p = H p → G H') → R J H) :
    (iList K (tVar i)) σ H R ∨ (iTup K (tVar i)) σ H R := by
  rcases h with h | h
  · exact .inl ⟨_, hi, p, rfl, ⟨xs, SqL.of h⟩, k _ _ walk_list fun H' e => SqL.of (e.trans h)⟩
  · exact .inr ⟨_, hi, p, rfl, ⟨xs, SqT.of h⟩, k _ _ walk_tup fun H' e => SqT.of (e.trans h)⟩
theorem firstX_cons (a : CutD) (r : List CutD) : firstX (a :: r) = match r.find? (fun b => crossB a.fy b.fy) with | some b => some (a, b) | none => firstX r := by
  unfold firstX
  rw [firstPair]
  cases r.find? (fun b => crossB a.fy b.fy) <;> rfl
end Z
namespace Z
open PySem PySem.Spec PyProof.Rows L2
theorem at_ref {cs : List CutD} {i : Nat} {x : V} (hx : (cs.map fun c => V.ref c.p)[i]? = some x) : ∃ c, cs[i]? = some c ∧ x = .ref c.p := by
  rw [List.getElem?_map] at hx
  cases q : cs[i]? with
  | none => rw [q] at hx; cases hx
  | some c => rw [q] at hx; cases hx; exact ⟨c, rfl, rfl⟩
theorem drop_cons {α : Type} {l : List α} {i : Nat} {a : α} (h : l[i]? = some a) : l.drop i = a :: l.drop (i + 1) := by
  obtain ⟨lt, rfl⟩ := List.getElem?_eq_some_iff.mp h
  exact List.drop_eq_getElem_cons lt
end Z
namespace Z
open PySem PySem.Spec PyProof.Rows L2
theorem meetB_fil (a b : List Str) : (a.filter fun x => decide (x ∈ b)).isEmpty = !meetB a b := by
  unfold meetB
  induction a with
  | nil => rfl
  | cons x r ih =>
    rw [List.any_cons]
    by_cases h : x ∈ b
    · rw [List.filter_cons_of_pos (by simpa using h), decide_eq_true h]; rfl
    · rw [List.filter_cons_of_neg (by simpa using h), decide_eq_false h, Bool.false_or, ih]
theorem meet4_all (xs ys us ws : List Str) : meet4 xs ys us ws = [xs, ys].all fun a => [us, ws].all fun b => meetB a b := by
  unfold meet4
  simp only [List.all_cons, List.all_nil, Bool.and_true, Bool.and_assoc]
theorem meet4_no {xs ys us ws a b : List Str} (ha : a ∈ [xs, ys]) (hb : b ∈ [us, ws]) (h : meetB a b = false) : meet4 xs ys us ws = false := by
  rw [meet4_all]
  refine eq_false_of_ne_true fun q => ?_
  have := List.all_eq_true.mp (List.all_eq_true.mp q a ha) b hb
  rw [h] at this
  cases this
theorem all_next {α : Type} {p : α → Bool} {l : List α} {i : Nat} {a : α} (h : l[i]? = some a) (k : (l.take i).all p = true) (ha : p a = true) : (l.take (i + 1)).all p = true := by
  rw [List.take_add_one, h, List.all_append, k]
  simp [ha]
/-- two of a row that stand each for a row of texts -/
theorem two_at {l1 l2 : Addr} {xs ys : List Str} {H : Hp} (h1 : H l1 = some (.lst (xs.map V.str))) (h2 : H l2 = some (.lst (ys.map V.str))) {i : Nat} {x : V} (h : [V.ref l1, V.ref l2][i]? = some x) : ∃ (l : Addr) (zs : List Str), x = .ref l ∧ [xs, ys][i]? = some zs ∧ H l = some (.lst (zs.map V.str)) := by
  match i, h with
  | 0, h => cases h; exact ⟨l1, xs, rfl, rfl, h1⟩
  | 1, h => cases h; exact ⟨l2, ys, rfl, rfl, h2⟩
  | n + 2, h => cases h
end Z
namespace Z
open PySem PySem.Spec PyProof.Rows L2
theorem Turned.eq {xs ys a b c d : List Str} (h : Turned xs ys a b) (k : Turned xs ys c d) : a = c ∧ b = d := by
  obtain ⟨ya, yb, h1, h2, y0, z0, e1, e2, h3⟩ := h
  obtain ⟨ya', yb', k1, k2, y0', z0', e1', e2', k3⟩ := k
  obtain rfl := h1.unique k1
  obtain rfl := h2.unique k2
  rw [e1] at e1'
  rw [e2] at e2'
  cases e1'
  cases e2'
  rcases h3 with ⟨l, rfl, rfl⟩ | ⟨l, rfl, rfl⟩ <;> rcases k3 with ⟨m, rfl, rfl⟩ | ⟨m, rfl, rfl⟩
  · exact ⟨rfl, rfl⟩
  · rw [l] at m; cases m
  · rw [l] at m; cases m
  · exact ⟨rfl, rfl⟩
theorem depth_b4 (a b c d : Bool) : (PyData.list [PyData.bool a, PyData.bool b, PyData.bool c, PyData.bool d]).depth ≤ 64 := by cases a <;> cases b <;> cases c <;> cases d <;> decide +kernel
theorem shown_b4 (a b c d : Bool) : (PyData.list [PyData.bool a, PyData.bool b, PyData.bool c, PyData.bool d]).shown.length ≤ sizeLine := by cases a <;> cases b <;> cases c <;> cases d <;> decide +kernel
end Z
namespace Z
open PySem PySem.Spec PyProof.Rows L2
theorem q_same {Q : VK} {H : Hp} {a b : PyData} (e : a = b) (q : Q (.bl true) H) : Q (V.bl (decide (V.str a.shown = V.str b.shown))) H := by
  subst e
  rw [decide_eq_true rfl]
  exact q
end Z
namespace Z
open PySem PySem.Spec PyProof.Rows L2
theorem firstPair_congr {α : Type} {R S : α → α → Bool} : ∀ {l : List α}, (∀ a ∈ l, ∀ b ∈ l, R a b = S a b) → firstPair R l = firstPair S l
  | [], _ => rfl
  | a :: r, h => by
    have e : r.find? (R a) = r.find? (S a) := by
      have : ∀ q : List α, (∀ b ∈ q, R a b = S a b) → q.find? (R a) = q.find? (S a) := by
        intro q
        induction q with
        | nil => intro _; rfl
        | cons b t ih =>
          intro k
          rw [List.find?_cons, List.find?_cons, k b (.head _), ih fun c hc => k c (.tail _ hc)]
      exact this r fun b hb => h a (.head _) b (.tail _ hb)
    rw [firstPair, firstPair, e, firstPair_congr fun b hb c hc => h b (.tail _ hb) c (.tail _ hc)]
theorem strs_inj : ∀ {a b : List Str}, a.map V.str = b.map V.str → a = b
  | [], [], _ => rfl
  | [], _ :: _, h => nomatch h
  | _ :: _, [], h => nomatch h
  | x :: a, y :: b, h => by
    have h1 := (List.cons.inj h).1
    rw [strs_inj (List.cons.inj h).2, V.str.inj h1]
theorem firstPair_mem {α : Type} {R : α → α → Bool} : ∀ {l : List α} {a b : α}, firstPair R l = some (a, b) → a ∈ l ∧ b ∈ l
  | [], _, _, h => nomatch h
  | x :: r, a, b, h => by
    rw [firstPair] at h
    cases e : r.find? (R x) with
    | some y => rw [e] at h; cases h; exact ⟨.head _, .tail _ (List.mem_of_find?_eq_some e)⟩
    | none => rw [e] at h; exact ⟨.tail _ (firstPair_mem h).1, .tail _ (firstPair_mem h).2⟩
theorem eq_cutC {K : PySem.W.Frag} {H : Hp} {p q : Addr} {hs ny fy ks : List Str} (hp : CutAt K H p hs ny fy) (hq : CutAt K H q ks ny fy) : BOwn (He.ga K "Cut") (spEqC K) (.ref p) (.ref q) true H := by
  obtain ⟨dx, t1, t2, t3, g1, _, _, _⟩ := hp.c
  obtain ⟨dy, u1, u2, u3, k1, _, _, _⟩ := hq.c
  refine ⟨p, q, dx, dy, _, _, rfl, rfl, g1, k1, fun _ => rfl, fun H' s => ?_⟩
  refine ⟨p, .ref q, hs, ny, fy, rfl, hp.same s, .inl ⟨q, ks, ny, fy, rfl, hq.same s, fun H2 s2 => ⟨?_, s2⟩⟩⟩
  rw [decide_eq_true rfl, decide_eq_true rfl]
  rfl
end Z
namespace Z
open PySem PySem.Spec PyProof.Rows L2
theorem prs_two {D : EqvB} {H : Hp} {a b c d : V} (h1 : D a c true H) (h2 : D b d true H) : PrsB D [a, b] [c, d] (fun _ => true) H := by
  refine ⟨rfl, fun i x y hx hy => ?_⟩
  match i, hx, hy with
  | 0, hx, hy => cases hx; cases hy; exact h1
  | 1, hx, hy => cases hx; cases hy; exact h2
  | n + 2, hx, hy => cases hx
theorem prs_self {H : Hp} {α : Type} {f : α → Addr} {l : List α} : PrsB BSelf (l.map fun z => V.ref (f z)) (l.map fun z => V.ref (f z)) (fun _ => true) H := by
  refine ⟨rfl, fun i x y hx hy => ?_⟩
  rw [hx] at hy
  cases hy
  rw [List.getElem?_map] at hx
  cases q : l[i]? with
  | none => rw [q] at hx; cases hx
  | some z => rw [q] at hx; cases hx; exact ⟨_, rfl, rfl, rfl⟩
theorem all_true : ∀ i n : Nat, allFrom (fun _ => true) i n = true
  | _, 0 => rfl
  | i, n + 1 => all_true (i + 1) n
end Z
/-! ### defs of the module called by keywords -/
namespace Z
open PySem PySem.Spec PyProof.Rows L2
/-- the keywords' values in the parameters' order: as they are written, or the other way about -/
def kwG {α : Type} (rev : Bool) (us ws : List α) : List α := us ++ if rev then ws.reverse else ws
structure DefW (P : Program) (w : World) (K : PySem.W.Frag) (mg : Str → Option Value) (base : Heap) (CX : CXT) (k : Nat) (x : Str) (ps : List Str) (n : Nat) (ks : List Str) (rev : Bool) (sp : Sp) : Prop where
  ex : ∃ fd, FnOk P w K mg base CX k (He.ga K x) fd ps sp ∧ KBn K fd ps n ks (kwG rev) (kwG rev)
  kp : PySem.W.keepIn K (.ref (He.ga K x)) = true
  at_ : mg x = some (.ref (He.ga K x))
theorem kbn_rev {K : PySem.W.Frag} {fd : FuncData} {ps ks : List Str} {n : Nat} (h : KBn K fd ps n ks (fun us ws => us ++ ws.reverse) (fun us ws => us ++ ws.reverse)) : KBn K fd ps n ks (kwG true) (kwG true) := h
theorem kbn_fwd {K : PySem.W.Frag} {fd : FuncData} {ps ks : List Str} {n : Nat} (h : KBn K fd ps n ks (fun us ws => us ++ ws) (fun us ws => us ++ ws)) : KBn K fd ps n ks (kwG false) (kwG false) := h
section
variable {X : Cx} {CX : CXT} {k n : Nat} {ps ks : List Str} {sp : Sp} {E : XK} {x : Str} {p pos : Pos} {e : Expr} {es : List Expr} {kws : List Keyword} {t tk : TA} {rev : Bool}
def tCallW (n m : Nat) (sp : Sp) (rev : Bool) (E : XK) (t tk : TA) : TE := fun σ H Q => t σ H fun vs H1 => tk σ H1 fun zs H2 => vs.length = n ∧ zs.length = m ∧ sp (kwG rev vs zs) H2 Q E
def tCallW0 (m : Nat) (sp : Sp) (rev : Bool) (E : XK) (tk : TA) : TE := fun σ H Q => tk σ H fun zs H2 => zs.length = m ∧ sp (kwG rev [] zs) H2 Q E
theorem pe_defW (D : DefW X.prog X.w X.K X.mg X.base CX k x ps n ks rev sp) (hr : Room k X.A) (hg : Gl X x) (hx : Passes CX X E) (ha : PA X (e :: es) t) (hkw : PK X kws tk) (named : (backToKw pos (keywordEach kws X.env)).all (·.1.isSome) = true := by rfl) (names : (backToKw pos (keywordEach kws X.env)).filterMap (·.1) = ks := by rfl)
    (hdb : (x == ("__debug__" : Str)) = false := by decide) (star : starEach (e :: es) X.env = (false, eval e X.env) :: starEach es X.env := by rfl)
    (plain : ((backTo pos (starEach (e :: es) X.env)).any (·.1) || (backToKw pos (keywordEach kws X.env)).any (·.1.isNone)) = false := by rfl) :
    PE X (.Call (.Name x p) (e :: es) kws pos) (tCallW n ks.length sp rev E t tk) := by
  obtain ⟨fd, F, b⟩ := D.ex
  exact pe_callN F hr hg D.at_ D.kp b hx ha hkw named names hdb star plain
theorem pe_defW0 (D : DefW X.prog X.w X.K X.mg X.base CX k x ps 0 ks rev sp) (hr : Room k X.A) (hg : Gl X x) (hx : Passes CX X E) (hkw : PK X kws tk) (named : (backToKw pos (keywordEach kws X.env)).all (·.1.isSome) = true := by rfl) (names : (backToKw pos (keywordEach kws X.env)).filterMap (·.1) = ks := by rfl)
    (hdb : (x == ("__debug__" : Str)) = false := by decide) (plain : ((backTo pos (starEach [] X.env)).any (·.1) || (backToKw pos (keywordEach kws X.env)).any (·.1.isNone)) = false := by rfl) :
    PE X (.Call (.Name x p) [] kws pos) (tCallW0 ks.length sp rev E tk) := by
  obtain ⟨fd, F, b⟩ := D.ex
  constructor
  intro pins s σ H Q I want
  refine wpAny_Call_Name_kw (ld_glob I hg D.at_ ?_ hdb)
  refine PySem.W.callWith_KW0 (h₀ := X.base) I.ok.mod.kin D.kp named (thn (hkw.run pos pins s σ H _ I want) ?_) plain
  rintro ws s2 ⟨zs, H2, J, rz, l, q⟩
  refine ⟨J.kIn, ?_⟩
  rw [names]
  exact run_fnN (us := []) (vs := []) F hr b hx J .nil rz rfl l q
end
/-! ### methods called by keywords alone -/
section
variable {X : Cx} {CX : CXT} {k : Nat} {C f : Addr} {m : Str} {ps ks : List Str} {sp : Sp} {E : XK} {o : Expr} {kws : List Keyword} {ta : TE} {tk : TA} {pos apos : Pos} {pl : Sem Bool} {rev : Bool}
theorem pe_methW (D : ∃ fd, FnOk X.prog X.w X.K X.mg X.base CX k f fd ps sp ∧ KBn X.K fd ps 1 ks (kwG rev) (kwG rev)) (c : Cls X.K C) (hm : Meth X.K C m f) (hr : Room k X.A) (hx : Passes CX X E) (he : PE X o ta) (hkw : PK X kws tk) (named : (backToKw pos (keywordEach kws X.env)).all (·.1.isSome) = true := by rfl) (names : (backToKw pos (keywordEach kws X.env)).filterMap (·.1) = ks := by rfl)
    (plain : ((backTo pos (starEach [] X.env)).any (·.1) || (backToKw pos (keywordEach kws X.env)).any (·.1.isNone)) = false := by rfl)
    (ht : eval (.Call (.Attribute o m apos) [] kws pos) X.env = (do
      let ov ← eval o X.env
      standAt apos.atName
      let (f, first) ← holding [ov] (getMethod ov m pl)
      callWith pos f first (backTo pos (starEach [] X.env)) (backToKw pos (keywordEach kws X.env))) := by rfl) :
    PE X (.Call (.Attribute o m apos) [] kws pos) (tMethK C m ks.length sp (kwG rev) E ta tk) := by
  obtain ⟨fd, F, b⟩ := D
  exact pe_methK he c hm F hr b hx hkw named names plain ht
end
end Z
/-! ### comprehensions whose items are new things; comprehensions that draw -/
namespace Z
open PySem PySem.Spec PyProof.Rows L2
/-- things that stand at the addresses, one by one -/
def RowsA {α : Type} (H : Hp) (f : α → HO) : List Addr → List α → Prop
  | [], [] => True
  | r :: rs, x :: xs => H r = some (f x) ∧ RowsA H f rs xs
  | _, _ => False
section
variable {α : Type}
theorem RowsA.len {H : Hp} {f : α → HO} : ∀ {rs : List Addr} {xs : List α}, RowsA H f rs xs → rs.length = xs.length
  | [], [], _ => rfl
  | _ :: rs, _ :: xs, h => by rw [List.length_cons, List.length_cons, RowsA.len (rs := rs) (xs := xs) h.2]
theorem RowsA.imp {H H' : Hp} {f : α → HO} : ∀ {rs : List Addr} {xs : List α}, (∀ r ∈ rs, ∀ o, H r = some o → H' r = some o) → RowsA H f rs xs → RowsA H' f rs xs
  | [], [], _, _ => trivial
  | _ :: rs, _ :: xs, k, h => ⟨k _ (.head _) _ h.1, RowsA.imp (rs := rs) (xs := xs) (fun r hr => k r (.tail _ hr)) h.2⟩
theorem RowsA.snoc {H : Hp} {f : α → HO} {r : Addr} {x : α} (e : H r = some (f x)) : ∀ {rs : List Addr} {xs : List α}, RowsA H f rs xs → RowsA H f (rs ++ [r]) (xs ++ [x])
  | [], [], _ => ⟨e, trivial⟩
  | _ :: rs, _ :: xs, h => ⟨h.1, RowsA.snoc e (rs := rs) (xs := xs) h.2⟩
theorem RowsA.two {H : Hp} {f : α → HO} {rs : List Addr} {x y : α} (h : RowsA H f rs [x, y]) : ∃ a b, rs = [a, b] ∧ H a = some (f x) ∧ H b = some (f y) := by
  match rs, h with
  | [a, b], ⟨h1, h2, _⟩ => exact ⟨a, b, rfl, h1, h2⟩
theorem RowsA.get {H : Hp} {f : α → HO} : ∀ {rs : List Addr} {xs : List α} {i : Nat} {x : α}, RowsA H f rs xs → xs[i]? = some x → ∃ r, rs[i]? = some r ∧ H r = some (f x)
  | [], [], _, _, _, h => nomatch h
  | r :: _, x :: _, 0, _, h, e => by cases e; exact ⟨r, rfl, h.1⟩
  | _ :: rs, _ :: xs, i + 1, _, h, e => RowsA.get (rs := rs) (xs := xs) (i := i) h.2 e
variable {J : It} {n : Nat} {G : Hp → Prop} {Y : Nat → Hp → V → Hp → Prop} {g : TG} {tt : TT} {te : TE} {vs : List Nat} {σ : L2.St} {H1 : Hp} {D : Addr} {Qd : Hp → Prop}
/-- each item a new thing -/
theorem lc_newA (w : Walk J n G Y) (xs : List α) (inj : α → V) (f : α → HO) (hn : n = xs.length) (hY : ∀ i H x H', i < n → Y i H x H' → H' = H ∧ (xs.map inj)[i]? = some x) (hD : H1 D = none) (hG : ∀ H', Same H1 H' → G H') (hz : xs.length < sizeLine)
    (hs : ∀ x ∈ xs, ∀ H', Same H1 H' → ∀ (Kt : V → Hp → Prop) (Kf : Hp → Prop), (∀ r H2, Same H' H2 → H' r = none → H2 r = some (f x) → Kt (.ref r) H2) → g (inj x) (wipe σ vs) H' fun σ2 H2 => wipe σ2 vs = wipe σ vs ∧ tt σ2 H2 fun b H3 => if b = true then te σ2 H3 Kt else Kf H3)
    (hd : ∀ H' rs, Same H1 H' → H' D = some (.lst (rs.map V.ref)) → RowsA H' f rs xs → Qd H') :
    ∃ W : Nat → Nat → Hp → Prop, (∃ m, W 0 m (upd H1 D (.lst []))) ∧ ∀ i m H, W i m H → (J.stop i H ∧ Qd H) ∨ (J.go i H ∧ ∃ Nx : Hp → Prop, (∀ H', Nx H' → ∃ m', m' < m ∧ W (i + 1) m' H') ∧ ∀ x H', J.yld i H x H' → g x (wipe σ vs) H' fun σ2 H2 => wipe σ2 vs = wipe σ vs ∧ tt σ2 H2 fun b H3 =>
      if b = true then te σ2 H3 fun y H4 => ∃ acc, H4 D = some (.lst acc) ∧ acc.length < sizeLine ∧ Nx (upd H4 D (.lst (acc ++ [y]))) else Nx H3) := by
  refine lc_it w (fun i H => Same H1 H ∧ ∃ rs : List Addr, H D = some (.lst (rs.map V.ref)) ∧ D ∉ rs ∧ RowsA H f rs (xs.take i)) ⟨same_new hD, [], upd_same, nofun, trivial⟩ (fun i H _ k => hG _ k.1) ?_ ?_
  · rintro i x H H' hi ⟨sm, rs, at_, nd, fa⟩ y
    obtain ⟨rfl, hx⟩ := hY i _ x H' hi y
    rw [List.getElem?_map] at hx
    obtain ⟨z, hz', rfl⟩ := Option.map_eq_some_iff.mp hx
    refine hs z (List.mem_of_getElem? hz') _ sm _ _ (fun r H2 s2 nr er => ⟨_, s2 _ _ at_, ?_, ?_, rs ++ [r], ?_, ?_, ?_⟩)
    · have := fa.len
      have b : (xs.take i).length ≤ xs.length := by rw [List.length_take]; omega
      rw [List.length_map, this]
      omega
    · exact fun b o h => by rw [upd_ne (ne_of_none h hD)]; exact s2 _ _ (sm _ _ h)
    · rw [upd_same, List.map_append]
      rfl
    · intro m
      rcases List.mem_append.mp m with m | m
      · exact nd m
      · rw [List.mem_singleton.mp m] at at_
        rw [nr] at at_
        exact absurd at_ nofun
    · have rD : r ≠ D := fun q => by rw [q, at_] at nr; exact absurd nr nofun
      rw [show xs.take (i + 1) = xs.take i ++ [z] by rw [List.take_add_one, hz']; rfl]
      refine RowsA.snoc (by rw [upd_ne rD]; exact er) (fa.imp fun a ha o q => ?_)
      rw [upd_ne (fun q => nd (by rw [← q]; exact ha))]
      exact s2 _ _ q
  · rintro H ⟨sm, rs, at_, _, fa⟩
    rw [hn, List.take_length] at fa
    exact hd H rs sm at_ fa
end
/-- a row of texts thinned by the pen -/
theorem lc_pen {J : It} {n : Nat} {G : Hp → Prop} {Y : Nat → Hp → V → Hp → Prop} {g : TG} {tt : TT} {te : TE} {vs : List Nat} {σ : L2.St} {H1 : Hp} {D : Addr} {Qd : Hp → Prop} {p c : Addr} {ms : List Int} {t : Nat} {z : Int} (w : Walk J n G Y) (xs : List Str) (hn : n = xs.length) (hY : ∀ i H x H', i < n → Y i H x H' → H' = H ∧ (xs.map V.str)[i]? = some x) (P : Pen H1 p c ms t z) (hD : H1 D = none) (hG : ∀ H', But p H1 H' → G H') (hz : xs.length < sizeLine)
    (hs : ∀ x ∈ xs, ∀ H' t' z', But p H1 H' → Pen H' p c ms t' z' → t' ≤ t + xs.length → ∀ (Kt : V → Hp → Prop) (Kf : Hp → Prop), (∀ H2 t2 z2, But p H' H2 → Pen H2 p c ms t2 z2 → t2 ≤ t' + 1 → Kt (.str x) H2) → (∀ H2 t2 z2, But p H' H2 → Pen H2 p c ms t2 z2 → t2 ≤ t' + 1 → Kf H2) → g (.str x) (wipe σ vs) H' fun σ2 H2 => wipe σ2 vs = wipe σ vs ∧ tt σ2 H2 fun b H3 => if b = true then te σ2 H3 Kt else Kf H3)
    (hd : ∀ (H' : Hp) (zs : List Str) (t' : Nat) (z' : Int), zs.Sublist xs → But p H1 H' → Pen H' p c ms t' z' → t' ≤ t + xs.length → H' D = some (.lst (zs.map V.str)) → Qd H') :
    ∃ W : Nat → Nat → Hp → Prop, (∃ m, W 0 m (upd H1 D (.lst []))) ∧ ∀ i m H, W i m H → (J.stop i H ∧ Qd H) ∨ (J.go i H ∧ ∃ Nx : Hp → Prop, (∀ H', Nx H' → ∃ m', m' < m ∧ W (i + 1) m' H') ∧ ∀ x H', J.yld i H x H' → g x (wipe σ vs) H' fun σ2 H2 => wipe σ2 vs = wipe σ vs ∧ tt σ2 H2 fun b H3 =>
      if b = true then te σ2 H3 fun y H4 => ∃ acc, H4 D = some (.lst acc) ∧ acc.length < sizeLine ∧ Nx (upd H4 D (.lst (acc ++ [y]))) else Nx H3) := by
  have nDp : D ≠ p := (ne_of_none P.a hD).symm
  refine lc_it w (fun i H => But p H1 H ∧ ∃ (zs : List Str) (t' : Nat) (z' : Int), zs.Sublist (xs.take i) ∧ Pen H p c ms t' z' ∧ t' ≤ t + i ∧ H D = some (.lst (zs.map V.str))) ⟨Same.but (same_new hD), [], t, z, List.Sublist.refl _, P.same (same_new hD), Nat.le_refl _, upd_same⟩ (fun i H _ k => hG _ k.1) ?_ ?_
  · rintro i x H H' hi ⟨b1, zs, t1, z1, sub, P1, ht, at_⟩ y
    obtain ⟨rfl, hx⟩ := hY i _ x H' hi y
    rw [List.getElem?_map] at hx
    obtain ⟨u, hu, rfl⟩ := Option.map_eq_some_iff.mp hx
    have next : xs.take (i + 1) = xs.take i ++ [u] := by rw [List.take_add_one, hu]; rfl
    refine hs u (List.mem_of_getElem? hu) _ t1 z1 b1 P1 (by omega) _ _ (fun H2 t2 z2 b2 P2 l2 => ?_) fun H2 t2 z2 b2 P2 l2 => ?_
    · have e2 := b2 _ _ nDp at_
      have len : zs.length ≤ xs.length := Nat.le_trans sub.length_le (by rw [List.length_take]; omega)
      refine ⟨_, e2, by rw [List.length_map]; omega, fun b o nb h => ?_, zs ++ [u], t2, z2, by rw [next]; exact sub.append (List.Sublist.refl _), ?_, by omega, by rw [upd_same, List.map_append]; rfl⟩
      · rw [upd_ne (ne_of_none h hD)]
        exact b2 _ _ nb (b1 _ _ nb h)
      · exact ⟨by rw [upd_ne nDp.symm]; exact P2.a, by rw [upd_ne (ne_of_none P.b hD)]; exact P2.b⟩
    · exact ⟨b1.trans b2, zs, t2, z2, by rw [next]; exact sub.trans (List.sublist_append_left ..), P2, by omega, b2 _ _ nDp at_⟩
  · rintro H ⟨b1, zs, t1, z1, sub, P1, ht, at_⟩
    rw [hn, List.take_length] at sub
    exact hd H zs t1 z1 sub b1 P1 (by omega) at_
/-- each item drawn anew -/
theorem lc_draw {α : Type} {J : It} {n : Nat} {G : Hp → Prop} {Y : Nat → Hp → V → Hp → Prop} {g : TG} {tt : TT} {te : TE} {vs : List Nat} {σ : L2.St} {H1 : Hp} {D : Addr} {Qd : Hp → Prop} {p c : Addr} {ms : List Int} {t : Nat} {z : Int} (w : Walk J n G Y) (xs : List V) (inj : α → V) (R : α → Hp → Prop) (M : Nat) (hn : n = xs.length) (hY : ∀ i H x H', i < n → Y i H x H' → H' = H ∧ xs[i]? = some x) (P : Pen H1 p c ms t z) (hD : H1 D = none) (hG : ∀ H', But p H1 H' → G H') (hz : xs.length < sizeLine)
    (st : ∀ x H H', (∀ b o, b ≠ p → b ≠ D → H b = some o → H' b = some o) → R x H → R x H')
    (hs : ∀ x ∈ xs, ∀ H' t' z', But p H1 H' → H' D ≠ none → Pen H' p c ms t' z' → t' ≤ t + M * xs.length → ∀ (Kt : V → Hp → Prop) (Kf : Hp → Prop), (∀ (r : α) H2 t2 z2, But p H' H2 → R r H2 → Pen H2 p c ms t2 z2 → t2 ≤ t' + M → Kt (inj r) H2) → g x (wipe σ vs) H' fun σ2 H2 => wipe σ2 vs = wipe σ vs ∧ tt σ2 H2 fun b H3 => if b = true then te σ2 H3 Kt else Kf H3)
    (hd : ∀ (H' : Hp) (rs : List α) (t' : Nat) (z' : Int), rs.length = xs.length → (∀ r ∈ rs, R r H') → But p H1 H' → Pen H' p c ms t' z' → t' ≤ t + M * xs.length → H' D = some (.lst (rs.map inj)) → Qd H') :
    ∃ W : Nat → Nat → Hp → Prop, (∃ m, W 0 m (upd H1 D (.lst []))) ∧ ∀ i m H, W i m H → (J.stop i H ∧ Qd H) ∨ (J.go i H ∧ ∃ Nx : Hp → Prop, (∀ H', Nx H' → ∃ m', m' < m ∧ W (i + 1) m' H') ∧ ∀ x H', J.yld i H x H' → g x (wipe σ vs) H' fun σ2 H2 => wipe σ2 vs = wipe σ vs ∧ tt σ2 H2 fun b H3 =>
      if b = true then te σ2 H3 fun y H4 => ∃ acc, H4 D = some (.lst acc) ∧ acc.length < sizeLine ∧ Nx (upd H4 D (.lst (acc ++ [y]))) else Nx H3) := by
  have nDp : D ≠ p := (ne_of_none P.a hD).symm
  refine lc_it w (fun i H => i ≤ n ∧ But p H1 H ∧ ∃ (rs : List α) (t' : Nat) (z' : Int), rs.length = i ∧ (∀ r ∈ rs, R r H) ∧ Pen H p c ms t' z' ∧ t' ≤ t + M * i ∧ H D = some (.lst (rs.map inj))) ⟨Nat.zero_le _, Same.but (same_new hD), [], t, z, rfl, nofun, P.same (same_new hD), Nat.le_refl _, upd_same⟩ (fun i H _ k => hG _ k.2.1) ?_ ?_
  · rintro i x H H' hi ⟨_, b1, rs, t1, z1, ln, ok, P1, ht, at_⟩ y
    obtain ⟨rfl, hx⟩ := hY i _ x H' hi y
    have le : M * i ≤ M * xs.length := Nat.mul_le_mul_left _ (by omega)
    refine hs x (List.mem_of_getElem? hx) _ t1 z1 b1 (by rw [at_]; exact nofun) P1 (by omega) _ _ (fun r H2 t2 z2 b2 R2 P2 l2 => ?_)
    have e2 := b2 _ _ nDp at_
    refine ⟨_, e2, by rw [List.length_map]; omega, by omega, fun b o nb h => ?_, rs ++ [r], t2, z2, by rw [List.length_append, ln]; rfl, fun q hq => ?_, ?_, by rw [Nat.mul_succ]; omega, by rw [upd_same, List.map_append]; rfl⟩
    · rw [upd_ne (ne_of_none h hD)]
      exact b2 _ _ nb (b1 _ _ nb h)
    · refine st q H2 _ (fun b o _ nD h => by rw [upd_ne nD]; exact h) ?_
      rcases List.mem_append.mp hq with hq | hq
      · exact st q _ H2 (fun b o nb _ h => b2 _ _ nb h) (ok q hq)
      · rw [List.mem_singleton.mp hq]; exact R2
    · exact ⟨by rw [upd_ne nDp.symm]; exact P2.a, by rw [upd_ne (ne_of_none P.b hD)]; exact P2.b⟩
  · rintro H ⟨_, b1, rs, t1, z1, ln, ok, P1, ht, at_⟩
    exact hd H rs t1 z1 (ln.trans hn) ok b1 P1 (by rw [hn] at ht; exact ht) at_
end Z
/-! ### classes whose __init__ takes a row of arguments; numbers that stand in a class -/
namespace Z
open PySem PySem.Spec PyProof.Rows L2
/-- a promise over the tuple that the star parameter makes of what is left over -/
def starSp (n : Nat) (sp : Sp) : Sp := fun vs H Q E => ∃ ws rest, vs = ws ++ rest ∧ ws.length = n ∧ rest.length ≤ sizeLine ∧ ∀ p, H p = none → sp (ws ++ [V.ref p]) (upd H p (.tup rest)) Q E
/-- the instance and the tuple of the arguments behind it: a promise over both -/
def newSp (C : Addr) (sp : Sp) (xs : List V) (H : Hp) (Q : Addr → Hp → Prop) (E : XK) : Prop := ∀ x dx, H x = none → H dx = none → dx ≠ x → sp (V.ref x :: xs) (upd (upd H dx (.own x)) x (.ins C dx [])) (fun v H2 => v = .non ∧ Q x H2) E
/-- the same behind the tuple -/
theorem new_star {C : Addr} {sp : Sp} {xs : List V} {H : Hp} {Q : Addr → Hp → Prop} {E : XK} (hl : xs.length ≤ sizeLine)
    (k : ∀ x t dx H1, Same H H1 → H x = none → H1 x = some (.ins C dx []) → H1 t = some (.tup xs) → t ≠ x → sp [V.ref x, V.ref t] H1 (fun v H2 => v = .non ∧ Q x H2) E) : newSp C (starSp 1 sp) xs H Q E := by
  intro x dx h1 h2 h3
  refine ⟨[V.ref x], xs, rfl, rfl, hl, fun p hp => ?_⟩
  have s1 : Same H (upd (upd H dx (.own x)) x (.ins C dx [])) := (same_new h2).trans (same_new (by rw [upd_ne h3.symm]; exact h1))
  have ex : upd (upd H dx (.own x)) x (.ins C dx []) x = some (.ins C dx []) := upd_same
  generalize upd (upd H dx (.own x)) x (.ins C dx []) = H1 at hp s1 ex
  have np : p ≠ x := fun q => by rw [q, ex] at hp; cases hp
  exact k x p dx _ (s1.trans (same_new hp)) h1 (by rw [upd_ne np.symm]; exact ex) upd_same np
section
variable {X : Cx} {CX : CXT} {k : Nat} {f C : Addr} {sp : Sp} {E : XK} {x : Str} {e : Expr} {te : TE} {p sq pos : Pos}
def tNewS (K : PySem.W.Frag) (C : Addr) (sp : Sp) (E : XK) (te : TE) : TE := fun σ H Q => te σ H fun y H1 => ∃ a xs, y = V.ref a ∧ (SqT K H1 a xs ∨ SqL K H1 a xs) ∧ newSp C sp xs H1 (fun x H2 => Q (.ref x) H2) E
/-- C(*y) -/
theorem pe_newS (M : Mk X.K C f) (F : FnR X.prog X.w X.K X.mg X.base CX k f sp) (hr : Room (k + 1) X.A) (hg : Gl X x) (hm : X.mg x = some (.ref C)) (hx : Passes CX X E) (he : PE X e te) (hdb : (x == ("__debug__" : Str)) = false := by decide)
    (lone : starEach [.Starred e sq] X.env = [(true, eval e X.env)] := by rfl) : PE X (.Call (.Name x p) [.Starred e sq] [] pos) (tNewS X.K C sp E te) := by
  constructor
  intro pins s σ H Q I h
  refine wpAny_Call_Name_kw (ld_glob I hg hm ?_ hdb)
  refine PySem.W.callWith_S (h₀ := X.base) I.ok.mod.kin M.kp ?_ lone
  refine thn (he.run pins s σ H _ I h) ?_
  rintro v s1 ⟨_, H1, I1, ry, a, xs, rfl, hxs, q⟩
  cases ry
  exact StX.star_any I1 hxs fun us s2 I2 rv => ⟨I2.kIn, StX.run_makeR M F hr hx I2 rv q⟩
def tNew0 (C : Addr) (sp : Sp) (E : XK) : TE := fun σ H Q => newSp C sp [] H (fun x H2 => Q (.ref x) H2) E
/-- C() -/
theorem pe_new0 (M : Mk X.K C f) (F : FnR X.prog X.w X.K X.mg X.base CX k f sp) (hr : Room (k + 1) X.A) (hg : Gl X x) (hm : X.mg x = some (.ref C)) (hx : Passes CX X E) (hdb : (x == ("__debug__" : Str)) = false := by decide) :
    PE X (.Call (.Name x p) [] [] pos) (tNew0 C sp E) := by
  constructor
  intro pins s σ H Q I h
  refine wpAny_Call_Name_kw (ld_glob I hg hm ?_ hdb)
  exact PySem.W.callWith_K0 I.kIn M.kp (StX.run_makeR (us := []) M F hr hx I .nil h)
end
/-- a comprehension that keeps some of what it makes, over rows of anything -/
theorem lc_fmA {α : Type} {J : It} {n : Nat} {G : Hp → Prop} {Y : Nat → Hp → V → Hp → Prop} {g : TG} {tt : TT} {te : TE} {vs : List Nat} {σ : L2.St} {H1 : Hp} {D : Addr} {Qd : Hp → Prop} (w : Walk J n G Y) (xs : List α) (inj : α → V) (F : α → Option V) (hn : n = xs.length) (hY : ∀ i H x H', i < n → Y i H x H' → H' = H ∧ (xs.map inj)[i]? = some x) (hD : H1 D = none) (hG : ∀ H', Same H1 H' → G H') (hz : xs.length < sizeLine)
    (hs : ∀ x ∈ xs, ∀ H', Same H1 H' → ∀ (Kt : V → Hp → Prop) (Kf : Hp → Prop), (∀ v H2, F x = some v → Same H' H2 → Kt v H2) → (∀ H2, F x = none → Same H' H2 → Kf H2) → g (inj x) (wipe σ vs) H' fun σ2 H2 => wipe σ2 vs = wipe σ vs ∧ tt σ2 H2 fun b H3 => if b = true then te σ2 H3 Kt else Kf H3)
    (hd : ∀ H', Same H1 H' → H' D = some (.lst (xs.filterMap F)) → Qd H') :
    ∃ W : Nat → Nat → Hp → Prop, (∃ m, W 0 m (upd H1 D (.lst []))) ∧ ∀ i m H, W i m H → (J.stop i H ∧ Qd H) ∨ (J.go i H ∧ ∃ Nx : Hp → Prop, (∀ H', Nx H' → ∃ m', m' < m ∧ W (i + 1) m' H') ∧ ∀ x H', J.yld i H x H' → g x (wipe σ vs) H' fun σ2 H2 => wipe σ2 vs = wipe σ vs ∧ tt σ2 H2 fun b H3 =>
      if b = true then te σ2 H3 fun y H4 => ∃ acc, H4 D = some (.lst acc) ∧ acc.length < sizeLine ∧ Nx (upd H4 D (.lst (acc ++ [y]))) else Nx H3) := by
  refine lc_it w (fun i H => Same H1 H ∧ H D = some (.lst ((xs.take i).filterMap F))) ⟨same_new hD, upd_same⟩ (fun i H _ k => hG _ k.1) ?_ ?_
  · rintro i x H H' hi ⟨sm, at_⟩ y
    obtain ⟨rfl, hx⟩ := hY i _ x H' hi y
    rw [List.getElem?_map] at hx
    obtain ⟨z, hz', rfl⟩ := Option.map_eq_some_iff.mp hx
    have next : xs.take (i + 1) = xs.take i ++ [z] := by rw [List.take_add_one, hz']; rfl
    have len : ((xs.take i).filterMap F).length < sizeLine := by
      have l1 := List.length_filterMap_le F (xs.take i)
      have l2 : (xs.take i).length ≤ xs.length := by rw [List.length_take]; omega
      omega
    refine hs z (List.mem_of_getElem? hz') _ sm _ _ (fun v H2 ev s2 => ?_) fun H2 ev s2 => ?_
    · refine ⟨_, s2 _ _ at_, len, fun b o h => ?_, ?_⟩
      · rw [upd_ne (ne_of_none h hD)]
        exact s2 _ _ (sm _ _ h)
      · rw [upd_same, next, List.filterMap_append]
        simp [ev]
    · refine ⟨sm.trans s2, ?_⟩
      rw [next, List.filterMap_append]
      simp only [List.filterMap_cons, ev, List.filterMap_nil, List.append_nil]
      exact s2 _ _ at_
  · rintro H ⟨sm, at_⟩
    rw [hn, List.take_length] at at_
    exact hd H sm at_
/-- a number that stands in a class -/
def conB (c f : Str) (i : Int) (K : PySem.W.Frag) : Bool := match PySem.W.findIn K (.ref (He.ga K c)) f with
  | some (some (.int j t)) => decide (j = i) && (decide (PySem.W.specialIn K (.int j t) "__get__" = some none) && !PySem.W.copiedNames.contains f)
  | _ => false
theorem conB_ok {K : PySem.W.Frag} {c f : Str} {i : Int} (h : conB c f i K = true) : ∃ u, Con K (He.ga K c) f (.int i) u := by
  unfold conB at h
  split at h
  · rename_i j t e
    obtain ⟨h1, h⟩ := He.ba h
    obtain ⟨h2, h3⟩ := He.ba h
    have e1 := of_decide_eq_true h1
    subst e1
    exact ⟨_, e, ⟨t, rfl⟩, of_decide_eq_true h2, by simpa using h3⟩
  · cases h
/-- what such an instance tells of it -/
theorem kpe_con {X : Cx} {K : PySem.W.Frag} {e : Expr} {ta : TE} {f : Str} {pos : Pos} (he : PE X e ta) (hb : attributeBase e f X.env (eval e X.env) = eval e X.env) (hK : X.K = K := by rfl) : PE X (.Attribute e f pos) (tCon K ta f) := by
  subst hK
  exact pe_con he hb
end Z
/-! ### texts that end by a sign -/
namespace Z
open PySem PySem.Spec PyProof.Rows L2
theorem snoc_of (x : Str) : x = "" ∨ ∃ y c, x = y ++ sg c := by
  rcases List.eq_nil_or_concat x.cps.toList with h | ⟨l, c, h⟩
  · exact .inl (str_ext h)
  · refine .inr ⟨⟨l.toArray⟩, c, str_ext ?_⟩
    rw [h, str_app]
    simp [sg, List.concat_eq_append]
theorem sg_inj1 {a b : Nat} (h : sg a = sg b) : a = b := by
  have := congrArg (fun s : Str => s.cps.toList) h
  simpa [sg] using this
theorem last_is {y : Str} {c d : Nat} : (cutS (y ++ sg c) (some (-1)) none = sg d) ↔ c = d := by
  rw [last_cut _ c y rfl]
  exact ⟨sg_inj1, fun h => by rw [h]⟩
theorem last_empty (d : Nat) : ¬ cutS "" (some (-1)) none = sg d := by
  intro h
  have := congrArg (fun s : Str => s.cps.toList.length) h
  have l := cutS_length "" (some (-1)) none
  rw [h] at l
  have e1 : (sg d).length = 1 := rfl
  rw [e1] at l
  exact absurd l (by decide)
theorem ends_is (y : Str) (c d : Nat) : Txt.endswith (y ++ sg c) (sg d) = decide (c = d) := by
  have n : (y ++ sg c).length = y.cps.toList.length + 1 := by rw [str_len, str_app, List.length_append]; rfl
  have l : (y ++ sg c).cps.toList = y.cps.toList ++ [c] := by rw [str_app]; rfl
  unfold Txt.endswith Builtin.Str.subAt
  have e1 : (sg d).length = 1 := rfl
  rw [e1, n]
  have e2 : y.cps.toList.length + 1 - 1 = y.cps.toList.length := by omega
  rw [e2]
  have e3 : ((y ++ sg c).cps.extract y.cps.toList.length (y.cps.toList.length + 1)) = #[c] := by
    apply Array.toList_inj.mp
    rw [Array.toList_extract, l]
    simp [List.extract, List.drop_left]
  rw [e3]
  have e4 : (sg d).cps = #[d] := rfl
  rw [e4]
  by_cases h : c = d
  · subst h; simp
  · simp [h]
theorem ends_empty (d : Nat) : Txt.endswith "" (sg d) = false := by
  unfold Txt.endswith
  have e1 : (sg d).length = 1 := rfl
  rw [e1]
  rfl
/-- the text without its last sign -/
theorem cut_init (y : Str) (c : Nat) : cutS (y ++ sg c) none (some (-1)) = y := by
  refine str_ext ?_
  have l : (y ++ sg c).cps.toList = y.cps.toList ++ [c] := by rw [str_app]; rfl
  have n : (y ++ sg c).length = y.cps.toList.length + 1 := by rw [str_len, l, List.length_append]; rfl
  unfold cutS
  show (((y ++ sg c).cps.toList.drop (HT.sIx (y ++ sg c).length 0 none)).take (HT.sIx (y ++ sg c).length (y ++ sg c).length (some (-1)) - HT.sIx (y ++ sg c).length 0 none)) = _
  have e1 : HT.sIx (y ++ sg c).length 0 none = 0 := rfl
  have e2 : HT.sIx (y ++ sg c).length (y ++ sg c).length (some (-1)) = y.cps.toList.length := by
    show (if (-1 : Int) < 0 then ((-1 : Int) + ((y ++ sg c).length : Int)).toNat else min ((-1 : Int)).toNat (y ++ sg c).length) = _
    rw [if_pos (by decide), n]
    omega
  rw [e1, e2, l]
  simp
theorem rs_is (y : Str) (d : Nat) : Txt.removesuffix (y ++ sg d) (sg d) = y := by
  rw [StrLaws.removesuffix_eq]
  have h := ends_is y d d
  unfold Txt.endswith at h
  have l : (y ++ sg d).cps.toList = y.cps.toList ++ [d] := by rw [str_app]; rfl
  have n : (y ++ sg d).length = y.cps.toList.length + 1 := by rw [str_len, l, List.length_append]; rfl
  rw [if_pos (by rw [h]; simp)]
  refine str_ext ?_
  have e1 : (sg d).length = 1 := rfl
  rw [l, e1, n]
  simp
theorem rs_not {x : Str} {d : Nat} (h : Txt.endswith x (sg d) = false) : Txt.removesuffix x (sg d) = x := by
  rw [StrLaws.removesuffix_eq]
  unfold Txt.endswith at h
  rw [if_neg (by rw [h]; exact Bool.false_ne_true)]
/-- the two ways to take a last sign off -/
theorem end_sign (x : Str) (d : Nat) : (cutS x (some (-1)) none = sg d ↔ Txt.endswith x (sg d) = true) ∧ (Txt.endswith x (sg d) = true → Txt.removesuffix x (sg d) = cutS x none (some (-1))) ∧ (Txt.endswith x (sg d) = false → Txt.removesuffix x (sg d) = x) := by
  refine ⟨?_, ?_, rs_not⟩
  · rcases snoc_of x with rfl | ⟨y, c, rfl⟩
    · rw [ends_empty]
      exact ⟨fun h => absurd h (last_empty d), nofun⟩
    · rw [ends_is, decide_eq_true_iff]
      exact last_is
  · rcases snoc_of x with rfl | ⟨y, c, rfl⟩
    · rw [ends_empty]
      nofun
    · rw [ends_is, decide_eq_true_iff]
      rintro rfl
      rw [rs_is, cut_init]
end Z
/-! ### joined texts: plain and short -/
namespace Z
open PySem PySem.Spec PyProof.Rows L2
theorem word_cut {n : Nat} {x : Str} (w : Word n x) (lo hi : Option Int) : Word n (cutS x lo hi) :=
  ⟨fun c hc => w.p c (List.mem_of_mem_drop (List.mem_of_mem_take hc)), Nat.le_trans (cutS_length x lo hi) w.l⟩
theorem join_least (y : Str) : ∀ ws : List Str, (ws.map (·.length)).sum + ws.length * y.length ≤ (Txt.join y ws).length + y.length
  | [] => by simp
  | [a] => by
    rw [TL.join_eq]
    show a.length + 0 + 1 * y.length ≤ a.length + y.length
    omega
  | a :: b :: r => by
    have ih := join_least y (b :: r)
    rw [TL.join_eq] at ih ⊢
    show a.length + ((b :: r).map (·.length)).sum + ((b :: r).length + 1) * y.length ≤ (a ++ y ++ Str.join y (b :: r)).length + y.length
    rw [Str.length_append, Str.length_append, Nat.succ_mul]
    omega
/-- the words of a text are no longer than it -/
theorem words_sum (x y : Str) : ((Txt.split x y).map (·.length)).sum + (Txt.split x y).length * y.length ≤ x.length + y.length := by
  have h := join_least y (Txt.split x y)
  rw [split_back] at h
  exact h
theorem word_joined {y : Str} {us : List Str} {n : Nat} (hy : Plain y) (hu : ∀ u ∈ us, Plain u) (h : (us.map (·.length)).sum + us.length * y.length ≤ n) : Word n (Txt.join y us) := by
  refine ⟨plain_join hy hu, ?_⟩
  rw [TL.join_eq]
  exact Nat.le_trans (StrLaws.join_length_le y us) h
theorem sum_take_drop (ws : List Str) (k m : Nat) (h : k ≤ m) : ((ws.take k).map (·.length)).sum + ((ws.drop m).map (·.length)).sum ≤ (ws.map (·.length)).sum := by
  have e : ws = ws.take k ++ ws.drop k := (List.take_append_drop k ws).symm
  have d : ((ws.drop m).map (·.length)).sum ≤ ((ws.drop k).map (·.length)).sum := by
    have e2 : ws.drop k = (ws.drop k).take (m - k) ++ ws.drop m := by
      have : ws.drop m = (ws.drop k).drop (m - k) := by rw [List.drop_drop]; congr 1; omega
      rw [this, List.take_append_drop]
    rw [e2, List.map_append, List.sum_append]
    omega
  have e3 : (ws.map (·.length)).sum = ((ws.take k).map (·.length)).sum + ((ws.drop k).map (·.length)).sum := by
    conv => lhs; rw [e, List.map_append, List.sum_append]
  omega
end Z
/-! ### own binary operators -/
namespace Z
open PySem PySem.Spec PyProof.Rows L2
section
variable {K : PySem.W.Frag} {M : Model} {h : Heap} {D : Addr} {nm : String}
def plainMro (K : PySem.W.Frag) (D : Addr) : Bool := (PySem.W.clsIn K D).any fun cd => cd.mro == [.ref D, .type "object"]
theorem plainMro_ok (e : plainMro K D = true) : ∃ cd, PySem.W.clsIn K D = some cd ∧ cd.mro = [.ref D, .type "object"] := by
  unfold plainMro at e
  cases c : PySem.W.clsIn K D with
  | none => rw [c] at e; cases e
  | some cd => rw [c] at e; exact ⟨cd, rfl, eq_of_beq e⟩
theorem looks_mro (X : K.In h) (e : plainMro K D = true) : PySem.W.Looks M h (mroOf (.ref D)) [.ref D, .type "object"] := by
  obtain ⟨cd, h1, h2⟩ := plainMro_ok e
  rw [← h2]
  exact (PySem.W.looks_clsIn X h1).andThen .now
theorem fills_none (X : K.In h) (e : plainMro K D = true) (h1 : PySem.W.findIn K (.ref D) (dunder nm) = some none) (h2 : PySem.W.findIn K (.ref D) (dunderR nm) = some none) (ho : fillsNumberSlot (.type "object") nm = pure false) : PySem.W.Looks M h (fillsNumberSlot (.ref D) nm) false := by
  unfold fillsNumberSlot at ho ⊢
  refine (looks_mro X e).andThen ?_
  simp only [List.anyM]
  exact .andThen (a := false) (.andThen (a := false) (.andThen (PySem.W.looks_findIn X h1) .now) (.andThen (a := false) (.andThen (PySem.W.looks_findIn X h2) .now) .now)) (.andThen (a := false) (.of_pure ho) .now)
theorem fillsI_none {add : Bool} (X : K.In h) (e : plainMro K D = true) (h1 : PySem.W.findIn K (.ref D) (dunderI nm) = some none) (ho : typeLookup (.type "object") (dunderI nm) = pure none) : PySem.W.Looks M h (fillsInplaceSlot (.ref D) nm add) false := by
  unfold fillsInplaceSlot
  refine (looks_mro X e).andThen ?_
  simp only [List.anyM]
  exact .andThen (a := false) (.andThen (PySem.W.looks_findIn X h1) .now) (.andThen (a := false) (.andThen (.of_pure ho) .now) .now)
theorem inPy {C f : Addr} (X : K.In h) (h1 : PySem.W.findIn K (.ref C) (dunder nm) = some (some (.ref f))) (h2 : PySem.W.findIn K (.ref C) (dunderR nm) = some none) : PySem.W.Looks M h (numberSlotInPython (.ref C) nm) true := by
  unfold numberSlotInPython
  exact .andThen (PySem.W.looks_findIn X h1) (.andThen (a := true) (.of_pure rfl) (.andThen (PySem.W.looks_findIn X h2) (.andThen (a := false) (.of_pure rfl) .now)))
end
section
variable {prog : Program} {w : World} {A : Around} {E : Value → Shared → Prop} {s : Shared} {K : PySem.W.Frag} {x C f : Addr} {ox : Obj} {od : Option Obj} {b tb : Value} {nm : String}
/-- what the right operand's class says of the operator: the left one's method is asked first -/
inductive Left (K : PySem.W.Frag) (M : Model) (h : Heap) (C : Addr) (nm : String) : Value → Prop
  | same : Left K M h C nm (.ref C)
  | none {tb : Value} : (Value.ref C == tb) = false → PySem.W.Looks M h (fillsNumberSlot tb nm) false → Left K M h C nm tb
  | some {tb : Value} {r : Option Value} : (Value.ref C == tb) = false → PySem.W.Looks M h (fillsNumberSlot tb nm) true → PySem.W.Looks M h (isSubtype tb (.ref C)) false → PySem.W.Looks M h (numberSlotInPython (.ref C) nm) true → PySem.W.Looks M h (numberSlotInPython tb nm) false → PySem.W.Looks M h (typeLookup tb (dunderR nm)) r → Left K M h C nm tb
theorem bin1_own {Q : Value → Shared → Prop} (X : K.In s.heap) (I : PySem.W.InstAt s.heap x ox C od) (hb : PySem.W.Looks (model prog w) s.heap (typeOf b) tb) (hs : PySem.W.findIn K (.ref C) (dunder nm) = some (some (.ref f))) (hf : PySem.W.isFn K (.ref f) = true)
    (hl : PySem.W.Looks (model prog w) s.heap (fillsNumberSlot (.ref C) nm) true) (L : Left K (model prog w) s.heap C nm tb) (hc : wpAny (model prog w) A (call (.ref f) [.ref x, b]) (PySem.W.CmpBack Q) E s) :
    wpAny (model prog w) A (binaryOp1 nm (.ref x) b) (fun r s' => ∃ v, r = some v ∧ Q v s') E s := by
  have one := PySem.W.ksp_try X I hs hf hc
  have fin : ∀ {g : Option Value → Sem (Option Value)}, (∀ v, g (some v) = pure (some v)) → wpAny (model prog w) A (tryMethod (.ref x) (dunder nm) b >>= g) (fun r s' => ∃ v, r = some v ∧ Q v s') E s := fun hg => wpAny_bind (wpAny_mono one (fun r s' z => by
    obtain ⟨v, rfl, q⟩ := z
    rw [hg]
    exact wpAny_pure ⟨v, rfl, q⟩) fun _ _ z => z)
  unfold binaryOp1
  refine wpAny_bind (I.type.here (wpAny_bind (hb.here (wpAny_bind (hl.here ?_)))))
  cases L with
  | same =>
    rw [if_pos (beq_self_eq_true _)]
    refine wpAny_bind (wpAny_pure ?_)
    simp only [Bool.and_false, Bool.false_eq_true, if_false, Bool.and_true, Bool.not_false, Bool.true_and, Bool.false_and, if_true]
    refine wpAny_bind (wpAny_pure ?_)
    simp only [Bool.false_eq_true, if_false]
    exact fin fun _ => rfl
  | none e h1 =>
    rw [if_neg (by rw [e]; exact Bool.false_ne_true)]
    refine wpAny_bind (h1.here ?_)
    simp only [Bool.and_false, Bool.false_eq_true, if_false, Bool.and_true, Bool.not_false, Bool.true_and, Bool.false_and, if_true]
    refine wpAny_bind (wpAny_pure ?_)
    simp only [Bool.false_eq_true, if_false]
    exact fin fun _ => rfl
  | some e h1 h2 h3 h4 h5 =>
    rw [if_neg (by rw [e]; exact Bool.false_ne_true)]
    refine wpAny_bind (h1.here ?_)
    simp only [Bool.and_self, if_true]
    refine wpAny_bind (h2.here ?_)
    simp only [Bool.false_eq_true, if_false, Bool.not_false, Bool.true_and, if_true]
    refine wpAny_bind (h3.here ?_)
    simp only [if_true]
    refine wpAny_bind (h4.here ?_)
    simp only [Bool.not_false, if_true]
    refine wpAny_bind (h5.here ?_)
    exact fin fun _ => rfl
theorem bin_own {Q : Value → Shared → Prop} {op : Operator} (X : K.In s.heap) (I : PySem.W.InstAt s.heap x ox C od) (hb : PySem.W.Looks (model prog w) s.heap (typeOf b) tb) (hs : PySem.W.findIn K (.ref C) (dunder op.info.2) = some (some (.ref f))) (hf : PySem.W.isFn K (.ref f) = true)
    (hl : PySem.W.Looks (model prog w) s.heap (fillsNumberSlot (.ref C) op.info.2) true) (L : Left K (model prog w) s.heap C op.info.2 tb) (hc : wpAny (model prog w) A (call (.ref f) [.ref x, b]) (PySem.W.CmpBack Q) E s) :
    wpAny (model prog w) A (binaryOp op (.ref x) b) Q E s := by
  unfold binaryOp
  refine wpAny_holding (wpAny_bind (wpAny_mono (bin1_own X I hb hs hf hl L hc) (fun r s' z => ?_) fun _ _ z => z))
  obtain ⟨v, rfl, q⟩ := z
  exact wpAny_pure q
theorem inp_own {Q : Value → Shared → Prop} {op : Operator} (X : K.In s.heap) (I : PySem.W.InstAt s.heap x ox C od) (hb : PySem.W.Looks (model prog w) s.heap (typeOf b) tb) (hs : PySem.W.findIn K (.ref C) (dunder op.info.2) = some (some (.ref f))) (hf : PySem.W.isFn K (.ref f) = true)
    (hl : PySem.W.Looks (model prog w) s.heap (fillsNumberSlot (.ref C) op.info.2) true) (hi : PySem.W.Looks (model prog w) s.heap (fillsInplaceSlot (.ref C) op.info.2 (op == .Add)) false) (L : Left K (model prog w) s.heap C op.info.2 tb) (hc : wpAny (model prog w) A (call (.ref f) [.ref x, b]) (PySem.W.CmpBack Q) E s) :
    wpAny (model prog w) A (inplaceOp op (.ref x) b) Q E s := by
  unfold inplaceOp
  refine wpAny_holding (wpAny_bind (I.type.here (wpAny_bind (hi.here ?_))))
  simp only [Bool.false_eq_true, if_false]
  refine wpAny_bind (wpAny_mono (bin1_own X I hb hs hf hl L hc) (fun r s' z => ?_) fun _ _ z => z)
  obtain ⟨v, rfl, q⟩ := z
  exact wpAny_pure q
end
/-- what stands at the right of an own operator -/
def RightOp (K : PySem.W.Frag) (H : Hp) (C : Addr) (nm : String) (y : V) : Prop := (∃ (b dx : Addr) (fs : List (Str × V)), y = .ref b ∧ H b = some (.ins C dx fs)) ∨
  (∃ (b D dx : Addr) (fs : List (Str × V)), y = .ref b ∧ H b = some (.ins D dx fs) ∧ (Value.ref C == Value.ref D) = false ∧ plainMro K D = true ∧ PySem.W.findIn K (.ref D) (dunder nm) = some none ∧ PySem.W.findIn K (.ref D) (dunderR nm) = some none) ∨
  ∃ i : Int, y = .int i ∧ fillsNumberSlot (.type "int") nm = pure true ∧ PySem.W.subIn K (.type "int") (.ref C) = some false ∧ ∃ r, typeLookup (.type "int") (dunderR nm) = pure r
def rBin (K : PySem.W.Frag) (C : Addr) (nm : String) (sp : Sp) (E : XK) : R2 := fun x y H Q => ∃ (a dx : Addr) (fs : List (Str × V)), x = .ref a ∧ H a = some (.ins C dx fs) ∧ RightOp K H C nm y ∧ sp [.ref a, y] H (fun v H' => ∃ q, v = .ref q ∧ Q (.ref q) H') E
section
variable {X : Cx} {K : PySem.W.Frag} {CX : CXT} {op : Operator} {C f : Addr} {k : Nat} {ps : List Str} {sp : Sp} {E : XK}
theorem right_left {pins : List (Addr × Obj)} {s : Shared} {σ : L2.St} {H : Hp} {y : V} {u : Value} {nm : String} (I : L2.Inv X pins σ H s) (ry : RelV y u) (h : RightOp X.K H C nm y) (hs : PySem.W.findIn X.K (.ref C) (dunder nm) = some (some (.ref f))) (hR : PySem.W.findIn X.K (.ref C) (dunderR nm) = some none) (ho : fillsNumberSlot (.type "object") nm = pure false) :
    ∃ tb, PySem.W.Looks (model X.prog X.w) s.heap (typeOf u) tb ∧ Left X.K (model X.prog X.w) s.heap C nm tb := by
  rcases h with ⟨b, dx, fs, rfl, hb⟩ | ⟨b, D, dx, fs, rfl, hb, ne, hm, h1, h2⟩ | ⟨i, rfl, h1, h2, r, h3⟩
  · cases ry
    obtain ⟨_, J, _⟩ := ins_get I.hok hb
    obtain ⟨_, J, _⟩ := J.look
    exact ⟨_, J.type, .same⟩
  · cases ry
    obtain ⟨_, J, _⟩ := ins_get I.hok hb
    obtain ⟨_, J, _⟩ := J.look
    exact ⟨_, J.type, .none ne (fills_none I.kIn hm h1 h2 ho)⟩
  · obtain ⟨t, rfl⟩ := ry
    exact ⟨.type "int", .of_pure rfl, .some rfl (.of_pure h1) (PySem.W.looks_subIn I.kIn h2) (inPy I.kIn hs hR) (.of_pure rfl) (.of_pure h3)⟩
theorem op_bin (D : ∃ fd, FnOk X.prog X.w K X.mg X.base CX k f fd ps sp ∧ Binds K fd ps []) (hr : Room k X.A) (hx : Passes CX X E) (hm : plainMro K C = true) (hs : PySem.W.findIn K (.ref C) (dunder op.info.2) = some (some (.ref f))) (hf : PySem.W.isFn K (.ref f) = true) (hR : PySem.W.findIn K (.ref C) (dunderR op.info.2) = some none)
    (ho : fillsNumberSlot (.type "object") op.info.2 = pure false := by rfl) (hK : X.K = K := by rfl) : OpR X (binaryOp op) (rBin K C op.info.2 sp E) := by
  subst hK
  obtain ⟨fd, F, hb⟩ := D
  rintro pins s σ H x y v u Q I rx ry ⟨a, dx, fs, rfl, ha, hy, hq⟩
  cases rx
  obtain ⟨mA, J, _⟩ := ins_get I.hok ha
  obtain ⟨od, J, _⟩ := J.look
  obtain ⟨tb, ht, L⟩ := right_left I ry hy hs hR ho
  obtain ⟨cd, c1, c2⟩ := plainMro_ok hm
  refine bin_own I.kIn J ht hs hf (PySem.W.fills_K I.kIn c1 c2 hs) L ?_
  have hv : Vals [V.ref a, y] [Value.ref a, u] := .cons rfl (.cons ry .nil)
  refine wpAny_mono (run_fn F hr hb .nil hx I hv hq) (fun r s' z => ?_) (fun _ _ z => z)
  obtain ⟨v', H', I', rv, q, rfl, hq⟩ := z
  cases rv
  exact ⟨.ref q, H', I', rfl, hq⟩
theorem pip_bin (D : ∃ fd, FnOk X.prog X.w K X.mg X.base CX k f fd ps sp ∧ Binds K fd ps []) (hr : Room k X.A) (hx : Passes CX X E) (hm : plainMro K C = true) (hs : PySem.W.findIn K (.ref C) (dunder op.info.2) = some (some (.ref f))) (hf : PySem.W.isFn K (.ref f) = true) (hR : PySem.W.findIn K (.ref C) (dunderR op.info.2) = some none) (hI : PySem.W.findIn K (.ref C) (dunderI op.info.2) = some none)
    (ho : fillsNumberSlot (.type "object") op.info.2 = pure false := by rfl) (hoi : typeLookup (.type "object") (dunderI op.info.2) = pure none := by rfl) (hK : X.K = K := by rfl) : PIp X op (rBin K C op.info.2 sp E) := by
  subst hK
  obtain ⟨fd, F, hb⟩ := D
  rintro pins s σ H x y v u Q I rx ry ⟨a, dx, fs, rfl, ha, hy, hq⟩
  cases rx
  obtain ⟨mA, J, _⟩ := ins_get I.hok ha
  obtain ⟨od, J, _⟩ := J.look
  obtain ⟨tb, ht, L⟩ := right_left I ry hy hs hR ho
  obtain ⟨cd, c1, c2⟩ := plainMro_ok hm
  refine inp_own I.kIn J ht hs hf (PySem.W.fills_K I.kIn c1 c2 hs) (fillsI_none I.kIn hm hI hoi) L ?_
  have hv : Vals [V.ref a, y] [Value.ref a, u] := .cons rfl (.cons ry .nil)
  refine wpAny_mono (run_fn F hr hb .nil hx I hv hq) (fun r s' z => ?_) (fun _ _ z => z)
  obtain ⟨v', H', I', rv, q, rfl, hq⟩ := z
  cases rv
  exact ⟨.ref q, H', I', rfl, hq⟩
end
/-- facts of a class of operators, by a Bool -/
def opB (x : Str) (nm : String) (K : PySem.W.Frag) : Bool := plainMro K (He.ga K x) && (decide (PySem.W.findIn K (.ref (He.ga K x)) (dunderR nm) = some none) && (decide (PySem.W.findIn K (.ref (He.ga K x)) (dunderI nm) = some none) && decide (PySem.W.subIn K (.type "int") (.ref (He.ga K x)) = some false)))
structure OpF (K : PySem.W.Frag) (x : Str) (nm : String) : Prop where
  m : plainMro K (He.ga K x) = true
  r : PySem.W.findIn K (.ref (He.ga K x)) (dunderR nm) = some none
  i : PySem.W.findIn K (.ref (He.ga K x)) (dunderI nm) = some none
  s : PySem.W.subIn K (.type "int") (.ref (He.ga K x)) = some false
theorem opB_ok {K : PySem.W.Frag} {x : Str} {nm : String} (h : opB x nm K = true) : OpF K x nm := by
  obtain ⟨h1, h⟩ := He.ba h
  obtain ⟨h2, h⟩ := He.ba h
  obtain ⟨h3, h4⟩ := He.ba h
  exact ⟨h1, of_decide_eq_true h2, of_decide_eq_true h3, of_decide_eq_true h4⟩
/-- y of class D stands right of an operator of C, which D doesn't know -/
def noOpB (x y : Str) (nm : String) (K : PySem.W.Frag) : Bool := plainMro K (He.ga K y) && (decide (PySem.W.findIn K (.ref (He.ga K y)) (dunder nm) = some none) && (decide (PySem.W.findIn K (.ref (He.ga K y)) (dunderR nm) = some none) && !(Value.ref (He.ga K x) == Value.ref (He.ga K y))))
theorem noOpB_ok {K : PySem.W.Frag} {x y : Str} {nm : String} (h : noOpB x y nm K = true) {H : Hp} {b dx : Addr} {fs : List (Str × V)} (hb : H b = some (.ins (He.ga K y) dx fs)) : RightOp K H (He.ga K x) nm (.ref b) := by
  obtain ⟨h1, h⟩ := He.ba h
  obtain ⟨h2, h⟩ := He.ba h
  obtain ⟨h3, h4⟩ := He.ba h
  exact .inr (.inl ⟨b, _, dx, fs, rfl, hb, by simpa using h4, h1, of_decide_eq_true h2, of_decide_eq_true h3⟩)
theorem right_same {K : PySem.W.Frag} {C : Addr} {nm : String} {H : Hp} {b dx : Addr} {fs : List (Str × V)} (hb : H b = some (.ins C dx fs)) : RightOp K H C nm (.ref b) := .inl ⟨b, dx, fs, rfl, hb⟩
theorem right_int {K : PySem.W.Frag} {x : Str} {H : Hp} {i : Int} (o : OpF K x "mul") : RightOp K H (He.ga K x) "mul" (.int i) := .inr (.inr ⟨i, rfl, rfl, o.s, _, rfl⟩)
end Z
/-! ### tuples added and repeated: the empty one, once, no times -/
namespace Z
open PySem PySem.Spec PyProof.Rows L2
section
variable (l b : Addr) (items its2 : Array Value) (n m : Nat) (dd d2 : Option Addr) (sl sl2 : Array (Option Value)) (x : Int) (u : Tok)
theorem tup_mul_same (h1 : (decide (x < -2 ^ 63) || decide (x ≥ 2 ^ 63)) = false) (h2 : (items.isEmpty || x == 1) = true) :
    Meets (Builtin.«tuple.__mul__» { pos := [.ref l, .int x u] }) fun _ R s => s.heap.get? l = some { cls := .type "tuple", dict := dd, data := .seq items n, slots := sl } ∧ R (.ok (.ret (.ref l))) s := by
  rintro prog w A R s ⟨hg, hr⟩
  unfold Builtin.«tuple.__mul__»
  repeat wp_step
  rw [if_neg (by rw [h1]; exact Bool.false_ne_true)]
  unfold Builtin.Tuple.tupleItemsOf Builtin.Tuple.tupleIsExact
  dsimp only
  refine wpAny_bind (wpAny_bind ?_)
  repeat wp_step
  exact hr
theorem tup_mul_zero (h1 : (decide (x < -2 ^ 63) || decide (x ≥ 2 ^ 63)) = false) (h2 : (items.isEmpty || x == 1) = false) (h3 : (decide (x ≤ 0) || items.isEmpty) = true) :
    Meets (Builtin.«tuple.__mul__» { pos := [.ref l, .int x u] }) fun _ R s => s.heap.get? l = some { cls := .type "tuple", dict := dd, data := .seq items n, slots := sl } ∧ R (.ok (.ret (.ref s.heap.objs.size))) { s with heap := s.heap.push { cls := .type "tuple", data := .seq #[] } } := by
  rintro prog w A R s ⟨hg, hr⟩
  unfold Builtin.«tuple.__mul__»
  repeat wp_step
  rw [if_neg (by rw [h1]; exact Bool.false_ne_true)]
  unfold Builtin.Tuple.tupleItemsOf Builtin.Tuple.tupleIsExact Builtin.Tuple.tupleExact
  dsimp only
  refine wpAny_bind (wpAny_bind ?_)
  repeat wp_step
  exact hr
theorem tup_add_left (h1 : items.isEmpty = true) :
    Meets (Builtin.«tuple.__add__» { pos := [.ref l, .ref b] }) fun _ R s => s.heap.get? l = some { cls := .type "tuple", dict := dd, data := .seq items n, slots := sl } ∧ s.heap.get? b = some { cls := .type "tuple", dict := d2, data := .seq its2 m, slots := sl2 } ∧ R (.ok (.ret (.ref b))) s := by
  rintro prog w A R s ⟨hg, hb, hr⟩
  unfold Builtin.«tuple.__add__»
  unfold Builtin.Tuple.tupleItemsOf Builtin.Tuple.tupleIsExact Builtin.Tuple.tupleExact
  repeat wp_step
  refine wpAny_of_eq PySem.W.KPt.sub_tt ?_
  simp only [Bool.not_true, Bool.false_eq_true, if_false]
  refine wpAny_bind (wpAny_bind ?_)
  repeat wp_step
  exact hr
end
section
variable {X : Cx}
theorem isTup_get {h : Heap} {a : Addr} {its : Array Value} (t : IsTup h a its) : ∃ dd n sl, h.get? a = some { cls := .type "tuple", dict := dd, data := .seq its n, slots := sl } := by
  obtain ⟨⟨c, dd, dt, sl⟩, h1, h2, n, h3⟩ := t
  cases h2
  cases h3
  exact ⟨dd, n, sl, h1⟩
theorem isTup_type {s : Shared} {a : Addr} {its : Array Value} (t : IsTup s.heap a its) : s.TypeIs (.ref a) "tuple" := by
  obtain ⟨dd, n, sl, h⟩ := isTup_get t
  exact ⟨_, h, rfl⟩
/-- t + u, the left one empty -/
def rCatT0 (K : PySem.W.Frag) : R2 := fun x y H Q => ∃ (a b : Addr) (ys : List V), x = .ref a ∧ y = .ref b ∧ SqT K H a [] ∧ SqT K H b ys ∧ Q (.ref b) H
theorem op_catT0 : OpR X (binaryOp .Add) (rCatT0 X.K) := by
  rintro pins s σ H x y v u Q I rx ry ⟨a, b, ys, rfl, rfl, ha, hb, q⟩
  cases rx
  cases ry
  obtain ⟨i1, v1, t1, _⟩ := I.tuple ha
  obtain ⟨i2, v2, t2, _⟩ := I.tuple hb
  cases v1
  obtain ⟨dd, n, sl, g1⟩ := isTup_get t1
  obtain ⟨d2, m, s2, g2⟩ := isTup_get t2
  exact concat_meets (isTup_type t1) (isTup_type t2) noFill_tuple_add (by first | exact PySem.concat_tuple | rfl) PySem.F.slot_tuple_add (by first | exact PySem.F.entry_tuple_add | rfl) (by first | exact PySem.F.args_tuple_add _ _ | decide | trivial) (tup_add_left a b _ _ n m dd d2 sl s2 rfl) ⟨g1, g2, .ref b, H, I, rfl, q⟩
/-- t * k where t is empty or k is 1 (t itself), or k isn't positive (an empty one) -/
def rRep0 (K : PySem.W.Frag) : R2 := fun x y H Q => ∃ (l : Addr) (k : Int) (xs : List V), x = .ref l ∧ y = .int k ∧ SqT K H l xs ∧ -(2 ^ 63) ≤ k ∧ k < 2 ^ 63 ∧ (((xs = [] ∨ k = 1) ∧ Q (.ref l) H) ∨ (xs ≠ [] ∧ k ≤ 0 ∧ ∀ p, H p = none → Q (.ref p) (upd H p (.tup []))))
theorem op_rep0 : OpR X (binaryOp .Mult) (rRep0 X.K) := by
  rintro pins s σ H x y v u Q I rx ry ⟨l, k, xs, rfl, rfl, hl, lo, hi, h⟩
  cases rx
  obtain ⟨t, rfl⟩ := ry
  obtain ⟨its, v1, t1, _⟩ := I.tuple hl
  obtain ⟨dd, n, sl, g1⟩ := isTup_get t1
  have h1 : (decide (k < -2 ^ 63) || decide (k ≥ 2 ^ 63)) = false := by
    rw [decide_eq_false (by omega), decide_eq_false (by omega)]; rfl
  refine wpAny_binaryOp_repeat_ref (T := "tuple") (U := "int") rfl (isTup_type t1) (fun _ => rfl) noFill_tuple_mul (by rfl) PySem.F.slot_int_rmul repeat_tuple (by rfl) ?_
  refine call_meets PySem.F.slot_int_rmul (rfl) (by first | exact PySem.F.entry_int_rmul | rfl) (by first | exact PySem.F.args_int_rmul _ _ | decide | trivial | rfl) (int_rmul_tuple k t l its.toArray n dd sl) ⟨g1, rfl, isTup_type t1, ?_⟩
  have ie : its.toArray.isEmpty = its.isEmpty := by cases its <;> rfl
  have xe : xs = [] ↔ its = [] := by cases v1 <;> simp
  rcases h with ⟨h2, q⟩ | ⟨h2, h3, q⟩
  · refine call_meets PySem.F.slot_tuple_mul (isTup_type t1) PySem.F.entry_tuple_mul (by first | exact PySem.F.args_tuple_mul _ _ | decide | trivial | rfl) (tup_mul_same l its.toArray n dd sl k t h1 ?_) ⟨g1, .ref l, H, I, rfl, q⟩
    rcases h2 with h2 | h2
    · rw [ie, xe.mp h2]; rfl
    · rw [h2]; simp
  · have e0 : its ≠ [] := fun z => h2 (xe.mpr z)
    have e1 : its.toArray.isEmpty = false := by rw [ie]; cases its with
      | nil => exact absurd rfl e0
      | cons a b => rfl
    refine call_meets PySem.F.slot_tuple_mul (isTup_type t1) PySem.F.entry_tuple_mul (by first | exact PySem.F.args_tuple_mul _ _ | decide | trivial | rfl) (tup_mul_zero l its.toArray n dd sl k t h1 (by rw [e1]; simp; omega) (by rw [decide_eq_true h3]; rfl)) ⟨g1, .ref s.heap.objs.size, upd H s.heap.objs.size (.tup []), ?_, rfl, q _ ?_⟩
    · refine I.laid (fun b u e => Heap.get?_push_of_some _ e) (Nat.le_refl _) ?_
      have e : IsTup (s.heap.push { cls := .type "tuple", data := .seq #[] }) s.heap.objs.size #[] := ⟨_, Heap.get?_push_size _ rfl, rfl, _, rfl⟩
      unfold ObjOk
      exact ⟨Nat.zero_le _, [], .nil, e⟩
    · exact I.fresh
/-- t + u for any two -/
def rCatA (K : PySem.W.Frag) : R2 := fun x y H Q => rCatT K x y H Q ∨ rCatT0 K x y H Q
theorem op_catA {K : PySem.W.Frag} (hK : X.K = K := by rfl) : OpR X (binaryOp .Add) (rCatA K) := by
  subst hK
  rintro pins s σ H x y v u Q I rx ry (h | h)
  · exact op_catT pins s σ H x y v u Q I rx ry h
  · exact op_catT0 pins s σ H x y v u Q I rx ry h
theorem catA_of {K : PySem.W.Frag} {H : Hp} {a b : Addr} {xs ys : List V} {Q : VK} (ha : SqT K H a xs) (hb : SqT K H b ys) (hl : xs.length + ys.length ≤ sizeLine) (k : ∀ p H', Same H H' → SqT K H' p (xs ++ ys) → Q (.ref p) H') : rCatA K (.ref a) (.ref b) H Q := by
  by_cases e : xs = []
  · subst e
    exact .inr ⟨a, b, ys, rfl, rfl, ha, hb, k b H (Same.refl _) hb⟩
  · refine .inl ⟨a, b, xs, ys, rfl, rfl, ha, hb, e, hl, fun z => ?_, fun _ p np => k p _ (same_new np) (SqT.of upd_same)⟩
    subst z
    exact k a H (Same.refl _) (by rw [List.append_nil]; exact ha)
/-- t * k for any small k -/
def rRepA (K : PySem.W.Frag) : R2 := fun x y H Q => rRepT K x y H Q ∨ rRep0 K x y H Q
theorem op_repA {K : PySem.W.Frag} (hK : X.K = K := by rfl) : OpR X (binaryOp .Mult) (rRepA K) := by
  subst hK
  rintro pins s σ H x y v u Q I rx ry (h | h)
  · exact op_repT pins s σ H x y v u Q I rx ry h
  · exact op_rep0 pins s σ H x y v u Q I rx ry h
theorem repA_of {K : PySem.W.Frag} {H : Hp} {a : Addr} {xs : List V} {n : Nat} {Q : VK} (ha : SqT K H a xs) (hx : xs.length ≤ 1000) (hn : n ≤ 1000) (k : ∀ p H', Same H H' → SqT K H' p (List.replicate n xs).flatten → Q (.ref p) H') : rRepA K (.ref a) (.int (n : Nat)) H Q := by
  by_cases e : xs = []
  · subst e
    refine .inr ⟨a, _, [], rfl, rfl, ha, by omega, by omega, .inl ⟨.inl rfl, k a H (Same.refl _) ?_⟩⟩
    rw [show (List.replicate n ([] : List V)).flatten = [] by simp]
    exact ha
  · match n, hn, k with
    | 0, _, k => exact .inr ⟨a, _, xs, rfl, rfl, ha, by omega, by omega, .inr ⟨e, by omega, fun p np => k p _ (same_new np) (SqT.of upd_same)⟩⟩
    | 1, _, k =>
      refine .inr ⟨a, _, xs, rfl, rfl, ha, by omega, by omega, .inl ⟨.inr rfl, k a H (Same.refl _) ?_⟩⟩
      rw [show (List.replicate 1 xs).flatten = xs by simp]
      exact ha
    | n + 2, hn, k => exact .inl ⟨a, _, xs, rfl, rfl, ha, e, by omega, by omega, hx, fun p np => k p _ (same_new np) (SqT.of (by rw [show ((n + 2 : Nat) : Int).toNat = n + 2 from rfl]; exact upd_same))⟩
end
end Z
/-! ### repr of an empty dict -/
namespace Z
open PySem PySem.Spec PyProof.Rows L2
theorem empty_reads {P : Program} {w : World} {H : Hp} {h : Heap} {a : Addr} (ok : HOk P w H h) (ha : H a = some (.dK [])) : a ≠ sysModules ∧ Reads h (.ref a) (.dict []) [a] := by
  obtain ⟨_, ne, vs, kv, o, es, ep, h1, h2, h3, h4, h5, h6⟩ := dk_of ok ha
  cases kv
  have e0 : es.toList = [] := by cases h : es.toList with
    | nil => rfl
    | cons a b => rw [h] at h5; cases h5
  refine ⟨fun q => by rw [q] at ne; simp at ne, ?_⟩
  have r := Reads.dict (h := h) (a := a) (kvs := []) (as := []) (bs := []) h1 h2.1 h3 (by rw [e0]; exact .nil) (by rw [e0]; exact .nil)
  exact r
/-- repr of data, or of an empty dict -/
def rReprX (K : PySem.W.Frag) : List V → Hp → VK → Prop := fun xs H Q => rRepr K xs H Q ∨ ∃ a, xs = [.ref a] ∧ H a = some (.dK []) ∧ Q (.str "{}") H
theorem kcall_reprX {X : Cx} {K : PySem.W.Frag} (hgu : X.A.guards = some []) (hu : X.A.units + 70 < cLine) (hK : X.K = K := by rfl) : CallR X (.builtin "repr") (rReprX K) := by
  rintro pins s σ H xs us Q I r (h | ⟨a, rfl, ha, q⟩)
  · exact kcall_repr hgu hu hK pins s σ H xs us Q I r h
  · cases r with
    | cons r1 rs =>
      cases rs
      cases r1
      obtain ⟨ne, rd⟩ := empty_reads I.hok ha
      have sh : (PyData.dict []).shown = ("{}" : Str) := by decide +kernel
      refine repr_of_reads' rd (by decide +kernel) (fun _ m => ne (List.mem_singleton.mp m).symm) hgu (by rw [show (PyData.dict []).depth = 1 by decide +kernel]; omega) (fun _ _ e => e) (fun h' y tk hk => ?_) (by rw [sh]; decide)
      rw [sh]
      exact ⟨.str "{}", H, I.kept hk, ⟨y, rfl⟩, q⟩
end Z
/-! ### t[:len(t)]: the tuple itself -/
namespace Z
open PySem PySem.Spec PyProof.Rows L2
theorem tup_whole (l sl : Addr) (items : Array Value) (n : Nat) (dd d2 : Option Addr) (s1 s2 : Array (Option Value)) (k : Int) (u : Tok) (hk : k = items.size) :
    Meets (Builtin.«tuple.__getitem__» { pos := [.ref l, .ref sl] }) fun _ R s => s.heap.get? l = some { cls := .type "tuple", dict := dd, data := .seq items n, slots := s1 } ∧ s.heap.get? sl = some { cls := .type "slice", dict := d2, data := .fields #[.none, .int k u, .none], slots := s2 } ∧ R (.ok (.ret (.ref l))) s := by
  rintro prog w A R s ⟨hg, hs, hr⟩
  unfold Builtin.«tuple.__getitem__»
  unfold Builtin.Tuple.tupleItemsOf Builtin.Tuple.tupleIsExact Builtin.Tuple.tupleExact Builtin.Slice.sliceApplied Builtin.Slice.sliceFields Builtin.Slice.slicePartIndex
  repeat wp_step
  refine wpAny_of_eq (show typeLookup (.type "int") (Str.ofString "__index__") = pure (some (.builtin "int.__index__")) from rfl) ?_
  simp only [Option.isNone_some, Bool.false_eq_true, if_false]
  refine wpAny_bind ?_
  show wpAny _ _ (asIndex (.int k u)) _ _ _
  repeat wp_step
  subst hk
  have e1 : Builtin.Slice.sliceAdjust none (some (items.size : Int)) 1 (items.size : Int) = (0, (items.size : Int)) := by
    simp [Builtin.Slice.sliceAdjust]
    omega
  have e2 : Builtin.Slice.slicePlaces 0 (items.size : Int) 1 = items.size := by
    simp [Builtin.Slice.slicePlaces]
    split <;> omega
  have e0 : (none : Option Int).getD 1 = 1 := rfl
  simp only [e0, e1, e2]
  rw [if_pos (by simp)]
  repeat wp_step
  exact hr
/-- t[:k] for a k up to the length -/
def rSlTo (K : PySem.W.Frag) : V → Option Int → Option Int → Hp → VK → Prop := fun x lo hi H Q => ∃ (a : Addr) (xs : List V) (k : Nat), x = .ref a ∧ lo = none ∧ hi = some (k : Int) ∧ SqT K H a xs ∧ k ≤ xs.length ∧ ∀ p H', Same H H' → SqT K H' p (xs.take k) → Q (.ref p) H'
theorem ksl_to {X : Cx} {K : PySem.W.Frag} (hK : X.K = K := by rfl) : SlR X (rSlTo K) := by
  subst hK
  rintro pins s σ H x v vl vu lo hi sl Q I rx hs hl hu ⟨a, xs, k, rfl, rfl, rfl, ha, hk, q⟩
  cases rx
  obtain ⟨its, v1, t1, _⟩ := I.tuple ha
  have lx : xs.length = its.length := by first | exact v1.length | exact v1.len | exact Vals.len v1 | exact Paired.len v1 | exact Paired.length v1
  by_cases w : k = xs.length
  · obtain ⟨dd, n, s1, g1⟩ := isTup_get t1
    obtain ⟨⟨c, d2, dt, s2⟩, o1, o2, o3⟩ := hs
    cases o2
    cases o3
    refine ⟨"tuple", "tuple.__getitem__", rfl, isTup_type t1, ?_⟩
    cases hl
    cases hu
    refine getItem_meets (isTup_type t1) (by decide) PySem.F.slot_tuple_getitem (by first | exact PySem.F.entry_tuple_getitem | rfl) (by first | exact PySem.F.args_tuple_getitem _ _ | decide | trivial | rfl) (tup_whole a sl its.toArray n dd d2 s1 s2 _ _ (by rw [w, lx]; simp)) ⟨g1, o1, .ref a, H, I, rfl, q a H (Same.refl _) ?_⟩
    rw [w, List.take_length]
    exact ha
  · refine sl_tup pins s σ H (.ref a) _ vl vu none (some (k : Int)) sl Q I rfl hs hl hu ⟨a, xs, rfl, ha, fun z => ?_, fun p np => q p _ (same_new np) (SqT.of ?_)⟩
    · have := z.2
      rw [HT.sIx_nat] at this
      omega
    · rw [cutV_to _ (by omega)]
      exact upd_same
end Z
/-! ### data stays; what repr shows of a value -/
namespace Z
open PySem PySem.Spec PyProof.Rows L2
theorem rd_ext {H H' : Hp} {a : Addr} {u : HO} (s : LamX.ExtN H H') (nt : ∀ ps, u ≠ .tbl ps) (h : Rd H a u) : Rd H' a u := h.imp (fun e => s _ _ e nt) fun ⟨o, e⟩ => ⟨o, s _ _ e nofun⟩
mutual
theorem dp_ext {K : PySem.W.Frag} {H H' : Hp} (s : LamX.ExtN H H') {v : V} {d : PyData} (h : Dp K H v d) : Dp K H' v d := by
  cases h with
  | non => exact .non
  | bl b => exact .bl b
  | int i => exact .int i
  | str z => exact .str z
  | lst hq ha => exact .lst (hq.imp (rd_ext s nofun) id) (dpAll_ext s ha)
  | tup hq ha => exact .tup (hq.imp (rd_ext s nofun) id) (dpAll_ext s ha)
theorem dpAll_ext {K : PySem.W.Frag} {H H' : Hp} (s : LamX.ExtN H H') {vs : List V} {ds : List PyData} (h : DpAll K H vs ds) : DpAll K H' vs ds := by
  cases h with
  | nil => exact .nil
  | cons h1 h2 => exact .cons (dp_ext s h1) (dpAll_ext s h2)
end
/-- z is what repr shows of v -/
def ReprV (K : PySem.W.Frag) (H : Hp) (v : V) (z : Str) : Prop := z.length ≤ sizeLine ∧ PyData.strOk z = true ∧ ((∃ d, d.showable = true ∧ d.hasDict = false ∧ d.depth ≤ 64 ∧ Dp K H v d ∧ z = d.shown) ∨ ∃ a, v = .ref a ∧ H a = some (.dK []) ∧ z = "{}")
theorem ReprV.ext {K : PySem.W.Frag} {H H' : Hp} {v : V} {z : Str} (s : LamX.ExtN H H') (h : ReprV K H v z) : ReprV K H' v z :=
  ⟨h.1, h.2.1, h.2.2.imp (fun ⟨d, a, b, c, e, q⟩ => ⟨d, a, b, c, dp_ext s e, q⟩) fun ⟨a, e, h1, q⟩ => ⟨a, e, s _ _ h1 nofun, q⟩⟩
theorem ReprV.go {K : PySem.W.Frag} {H : Hp} {v : V} {z : Str} {Q : VK} (h : ReprV K H v z) (q : Q (.str z) H) : rReprX K [v] H Q := by
  rcases h.2.2 with ⟨d, a, b, c, e, rfl⟩ | ⟨a, rfl, h1, rfl⟩
  · exact .inl ⟨v, d, rfl, e, a, b, c, h.1, q⟩
  · exact .inr ⟨a, rfl, h1, q⟩
/-- data written out: what repr shows of it, by looking -/
theorem ReprV.of {K : PySem.W.Frag} {H : Hp} {v : V} {d : PyData} (e : Dp K H v d) (h : (d.showable && (!d.hasDict && (decide (d.depth ≤ 64) && (decide (d.shown.length ≤ 16777216) && PyData.strOk d.shown)))) = true) : ReprV K H v d.shown := by
  obtain ⟨h1, h⟩ := He.ba h
  obtain ⟨h2, h⟩ := He.ba h
  obtain ⟨h3, h⟩ := He.ba h
  obtain ⟨h4, h5⟩ := He.ba h
  exact ⟨by have := of_decide_eq_true h4; rw [sizeLine_eq]; exact this, h5, .inl ⟨d, h1, by simpa using h2, of_decide_eq_true h3, e, rfl⟩⟩
theorem ReprV.nat {K : PySem.W.Frag} {H : Hp} {i : Nat} (h : i ≤ 110) : ReprV K H (.int (i : Nat)) (PyData.int (i : Nat)).shown := by
  have all : ∀ j : Fin 111, ((PyData.int (j.val : Nat)).showable && (!(PyData.int (j.val : Nat)).hasDict && (decide ((PyData.int (j.val : Nat)).depth ≤ 64) && (decide ((PyData.int (j.val : Nat)).shown.length ≤ 16777216) && PyData.strOk (PyData.int (j.val : Nat)).shown)))) = true := by decide +kernel
  exact .of (.int _) (all ⟨i, by omega⟩)
theorem ReprV.dict {K : PySem.W.Frag} {H : Hp} {a : Addr} (h : H a = some (.dK [])) : ReprV K H (.ref a) "{}" := ⟨by rw [sizeLine_eq]; decide +kernel, by decide +kernel, .inr ⟨a, rfl, h, rfl⟩⟩
end Z
/-! ### one stretch of a generator's run, up to its next yield or its end -/
namespace Z
open PySem PySem.Spec PyProof.Rows L2
/-- the code c with t to go, over the generator's frames fs, comes to an end of which Φ holds -/
def Sg (M : Model) (A : Around) (Φ : End → Shared → Prop) (c : Code) (t : Sem PySem.Fin) (fs : List Frame) (s : Shared) : Prop :=
  ∀ Γ p, Γ.code = c → Γ.Woken A → ∃ e s', Runs M Γ p t fs s e s' ∧ e.quiet = true ∧ Φ e s'
section
variable {M : Model} {A : Around} {Φ : End → Shared → Prop} {c : Code} {fs : List Frame} {s : Shared}
theorem sg_wrap {α : Type} {m : Sem α} {K : α → Sem PySem.Fin} {H : Value → Sem PySem.Fin} {gd : Bool → Bool} {lv : List Value → List Value}
    (h : wpAny M (A.over c fs) m (fun a s' => Sg M A Φ c (K a) fs s') (fun x s' => Sg M A Φ c (H x) fs s') s) : Sg M A Φ c (m.wrap K H gd lv) fs s := by
  rintro Γ p rfl hΓ
  exact runs_wrap_of_wp K H gd lv m (h (Γ.over fs) p (hΓ.over fs)) (fun a p' s' h' => h' Γ p' rfl hΓ) (fun x p' s' h' => h' Γ p' rfl hΓ)
theorem sg_bind_wrap {α β : Type} {m : Sem α} {f : α → Sem β} {K : β → Sem PySem.Fin} {H : Value → Sem PySem.Fin} {gd : Bool → Bool} {lv : List Value → List Value}
    (h : wpAny M (A.over c fs) m (fun a s' => Sg M A Φ c ((f a).wrap K H gd lv) fs s') (fun x s' => Sg M A Φ c (H x) fs s') s) : Sg M A Φ c ((m >>= f).wrap K H gd lv) fs s := by
  rw [Sem.bind_eq_wrap', Sem.wrap_wrap]
  exact sg_wrap h
theorem sg_at {p' : Pos} {k : Unit → Sem PySem.Fin} (h : Sg M A Φ c (k ()) fs s) : Sg M A Φ c (.at p' k) fs s :=
  sg_wrap (m := standAt p') (K := k) (H := .raise) (gd := id) (lv := id) (wpAny_standAt h)
theorem sg_point {l : List Value} {k : Unit → Sem PySem.Fin} (h : Sg M A Φ c (k ()) fs s) : Sg M A Φ c (.point l k) fs s :=
  sg_wrap (m := point) (K := k) (H := .raise) (gd := id) (lv := fun _ => l) (wpAny_point h)
theorem sg_call {c' : Code} {h : Option Value} {g : Bool} {l : List Value} {k : Result → Sem PySem.Fin} (hc : ∀ p, Sg M A Φ c' (M.den c') (.ret k h g l c p [] :: fs) s) : Sg M A Φ c (.call c' h g l k) fs s := by
  rintro Γ p rfl hΓ
  obtain ⟨e, s', hr, he⟩ := hc p (Γ.goto c') p rfl (hΓ.goto c')
  exact ⟨e, s', runs_call_seg hr, he⟩
theorem sg_leaf {k : Result → Sem PySem.Fin} {h : Option Value} {g : Bool} {l kp : List Value} {c₁ : Code} {p₁ : Pos} (r : Result) (hk : Sg M A Φ c₁ (k r) fs s) : Sg M A Φ c (leafOf r) (.ret k h g l c₁ p₁ kp :: fs) s := by
  rintro Γ p rfl hΓ
  obtain ⟨e, s', hr, he⟩ := hk (Γ.goto c₁) p₁ rfl (hΓ.goto c₁)
  exact ⟨e, s', Runs.pop r hr, he⟩
theorem sg_again {c' : Code} (hq : c'.quiet = true) (hc : Sg M A Φ c' (M.den c') fs s) : Sg M A Φ c (.pure (.again c')) fs s := by
  rintro Γ p rfl hΓ
  obtain ⟨e, s', hr, he⟩ := hc (Γ.goto c') p rfl (hΓ.goto c')
  exact ⟨e, s', Runs.head (c₁ := c') (fun _ _ x => .again hq x) hr, he⟩
theorem sg_end (r : Result) (h : Φ (.ret r) s) : Sg M A Φ c (leafOf r) [] s := by
  rintro Γ p rfl _
  exact ⟨.ret r, s, Runs.leaf r, rfl, h⟩
theorem sg_yield {v : Value} {g : Bool} {l : List Value} {k : Resume → Sem PySem.Fin} (hfs : splitAtGen fs = none) (hg : g = false) (hfg : fs.any Frame.guarded = false)
    (h : ∀ g l p fs', fs' = fs → Φ (.susp v g l k c p fs') s) : Sg M A Φ c (.yield v g l k) fs s := by
  rintro Γ p rfl _
  exact ⟨_, s, Runs.yield' fs hfs, by simp [End.quiet, hg, hfg], h _ _ _ _ rfl⟩
end
section
variable {M : Model} {A : Around} {Φ : End → Shared → Prop} {c : Code} {fs : List Frame} {s : Shared} {env : Env} {K : Flow → Sem PySem.Fin} {H : Value → Sem PySem.Fin} {gd : Bool → Bool} {lv : List Value → List Value}
theorem sg_execs_nil (h : Sg M A Φ c (K .next) fs s) : Sg M A Φ c ((execs [] env).wrap K H gd lv) fs s := h
theorem sg_execs_cons {st : Stmt} {rest : List Stmt} (h : Sg M A Φ c ((exec st env).wrap (fun f => match f with | .next => (execs rest env).wrap K H gd lv | f => K f) H gd lv) fs s) :
    Sg M A Φ c ((execs (st :: rest) env).wrap K H gd lv) fs s := by
  rw [execs_cons_wrap]
  exact h
theorem sg_Yield {e : Expr} {ypos pos : Pos} (hfs : splitAtGen fs = none) (hgd : gd false = false) (hfg : fs.any Frame.guarded = false)
    (h : wpAny M (A.over c fs) (eval e env) (fun v s' => ∀ (g : Bool) (l : List Value) (k : Resume → Sem PySem.Fin) (p : Pos) (fs' : List Frame), (∀ Ψ s'', Sg M A Ψ c (K .next) fs s'' → Sg M A Ψ c (k (.send .none)) fs' s'') → Φ (.susp v g l k c p fs') s')
      (fun x s' => Sg M A Φ c (H x) fs s') s) (hco : env.scope.isCoroutine = false := by rfl) (hi : interactive env = false := by rfl) :
    Sg M A Φ c ((exec (.Expr (.Yield (some e) ypos) pos) env).wrap K H gd lv) fs s := by
  rw [exec_Expr env _ pos hi rfl]
  show Sg M A Φ c (.at pos fun _ => ((eval e env >>= fun v => (standAt ypos >>= fun _ => yieldOut env v)) >>= fun x =>
    dropValue (.Yield (some e) ypos) pos x).wrap K H gd lv) fs s
  have hy : ∀ v, yieldOut env v = yieldValue v := fun v => by simp only [yieldOut, hco, Bool.false_eq_true, if_false]
  simp only [hy]
  refine sg_at ?_
  rw [Sem.bind_eq_wrap', Sem.bind_eq_wrap', Sem.wrap_wrap, Sem.wrap_wrap]
  refine sg_wrap (wpAny_mono h (fun v s' h' => ?_) fun _ _ x => x)
  refine sg_at (sg_yield hfs hgd hfg fun g l p fs' ef => ?_)
  subst ef
  exact h' g l _ p _ fun Ψ s'' hx => hx
end
section
variable {prog : Program} {w : World} {A : Around} {Φ : End → Shared → Prop} {fs : List Frame} {s : Shared} {env : Env}
theorem sg_func {body : List Stmt}
    (h : Sg (model prog w) A Φ (.func body env) ((execs body env).wrap (fun f => .pure (.done (.ret (match f with | .ret v => v | _ => .none))))
      (fun e => (leaving env e).wrap (fun _ => .raise e) .raise id id) id id) fs s) :
    Sg (model prog w) A Φ (.func body env) ((model prog w).den (.func body env)) fs s := by
  show Sg _ A Φ _ (.point [] fun _ => ((execs body env).onRaise (leaving env)) >>= _) fs s
  refine sg_point ?_
  rw [Sem.onRaise_eq_wrap, Sem.bind_eq_wrap', Sem.wrap_wrap]
  rw [Sem.wrap_congr (execs body env) _ _ (K' := fun f => .pure (.done (.ret (match f with | .ret v => v | _ => .none))))
    (H' := fun e => (leaving env e).wrap (fun _ => .raise e) .raise id id) (fun f => by cases f <;> rfl)
    (fun e => by rw [Sem.bind_eq_wrap, Sem.wrap_wrap]; rfl)]
  exact h
theorem sg_For {c : Code} {K : Flow → Sem PySem.Fin} {H : Value → Sem PySem.Fin} {gd : Bool → Bool} {lv : List Value → List Value} {M : Model} {target iter : Expr} {body : List Stmt} {pos : Pos}
    (hs : ∀ x, foldedSetIterable iter env x = pure x)
    (h : wpAny M (A.over c fs) (eval iter env) (fun v s1 => wpAny M (A.over c fs) (pyIter v) (fun itv s2 => ∀ p, Sg M A Φ (.forLoop target itv body [] env) (M.den (.forLoop target itv body [] env))
      (.ret (fun r => ((match r with | .ok f => (.pure f : Sem Flow) | .error e => .raise e).onRaise (cameBack env)).wrap K H gd lv) none (gd false) (lv []) c p [] :: fs) s2)
      (fun x s' => Sg M A Φ c (H x) fs s') s1) (fun x s' => Sg M A Φ c (H x) fs s') s) :
    Sg M A Φ c ((exec (.For target iter body [] pos) env).wrap K H gd lv) fs s := by
  rw [exec_For]
  refine sg_at ?_
  refine sg_bind_wrap (wpAny_pure ?_)
  refine sg_bind_wrap (wpAny_mono h (fun v s1 h1 => ?_) fun x s' q => q)
  rw [hs v]
  refine sg_bind_wrap (wpAny_pure ?_)
  refine sg_at ?_
  refine sg_bind_wrap (wpAny_pure ?_)
  refine sg_bind_wrap (wpAny_holding (wpAny_mono h1 (fun itv s2 h2 => ?_) fun x s' q => q))
  exact sg_call h2
theorem sg_forLoop {target : Expr} {it : Value} {body : List Stmt}
    (h : wpAny (model prog w) (A.over (.forLoop target it body [] env) fs) (pyNext it) (fun r s1 => match r with
        | none => Sg (model prog w) A Φ (.forLoop target it body [] env) (.pure (.again (.block [] env))) fs s1
        | some v => wpAny (model prog w) (A.over (.forLoop target it body [] env) fs) (letOwnedTupleGo target it v) (fun _ s2 =>
            wpAny (model prog w) (A.over (.forLoop target it body [] env) fs) (assign target env v) (fun _ s3 =>
              Sg (model prog w) A Φ (.forLoop target it body [] env) ((execs body env).wrap (forEnds target it body env) (noted env) id id) fs s3)
              (fun x s' => Sg (model prog w) A Φ (.forLoop target it body [] env) (noted env x) fs s') s2)
            (fun x s' => Sg (model prog w) A Φ (.forLoop target it body [] env) (noted env x) fs s') s1)
      (fun x s' => Sg (model prog w) A Φ (.forLoop target it body [] env) (noted env x) fs s') s) :
    Sg (model prog w) A Φ (.forLoop target it body [] env) ((model prog w).den (.forLoop target it body [] env)) fs s := by
  have hx : ∀ x s', Sg (model prog w) A Φ (.forLoop target it body [] env) (noted env x) fs s' → Sg (model prog w) A Φ (.forLoop target it body [] env) ((do noteFrame x env; theTreesLotGoes x : Sem Unit).bind fun _ => .raise x) fs s' := fun x s' q => by
    rw [Sem.bind_eq_wrap]
    exact q
  show Sg _ A Φ _ ((forTurn target it body [] env).onRaise (fun x => do noteFrame x env; theTreesLotGoes x)) fs s
  unfold forTurn
  rw [Sem.onRaise_eq_wrap]
  refine sg_at ?_
  refine sg_bind_wrap (wpAny_pure ?_)
  refine sg_bind_wrap ?_
  refine wpAny_onRaise (wpAny_mono h (fun r s1 h1 => ?_) fun x s' q => wpAny_standAt ?_)
  · cases r with
    | none => exact h1
    | some v =>
      refine sg_bind_wrap (wpAny_mono h1 (fun _ s2 h2 => ?_) fun x s' q => hx x s' q)
      refine sg_bind_wrap (wpAny_mono h2 (fun _ s3 h3 => ?_) fun x s' q => hx x s' q)
      rw [Sem.bind_eq_wrap', Sem.wrap_wrap]
      rw [Sem.wrap_congr (execs body env) _ _ (K' := forEnds target it body env) (H' := noted env) (fun f => by cases f <;> rfl) (fun e => by first | exact Sem.bind_eq_wrap _ _ | (show (do noteFrame e env; theTreesLotGoes e : Sem Unit).bind (fun _ => .raise e) = _; rw [Sem.bind_eq_wrap]; rfl))]
      exact h3
  · exact hx x s' q
end
end Z
/-! ### generators that sleep stay as they are while code runs that knows none of them -/
namespace Z
open PySem PySem.Spec PyProof.Rows L2
open Sem (wp)
/-- the same generator, but it can't be woken -/
def deadG : GenState → GenState
  | .suspended _ l c p fs cl => .suspended (fun _ => .unsupported "") l c p fs cl
  | x => x
def isSusp : GenState → Bool
  | .suspended .. => true
  | _ => false
theorem deadG_seen (x : GenState) : (deadG x).seen = x.seen := by cases x <;> rfl
theorem deadG_off {x : GenState} (h : isSusp x = false) : deadG x = x := by cases x <;> first | rfl | cases h
theorem split_cons {F : Frame} {fs : List Frame} (h : splitAtGen (F :: fs) = none) : splitAtGen fs = none ∧ ∀ g k l c p, F ≠ .gen g k l c p := by
  cases F with
  | ret k h1 g l c p kp =>
    refine ⟨?_, fun _ _ _ _ _ => by simp⟩
    have e : (splitAtGen fs).map (fun (x : List Frame × (Nat × (GenResult → Sem PySem.Fin) × Code × Pos) × List Frame) => (Frame.ret k h1 g l c p kp :: x.1, x.2.1, x.2.2)) = none := h
    cases q : splitAtGen fs with
    | none => rfl
    | some x => rw [q] at e; cases e
  | gen g k l c p => cases h
theorem split_append {a b : List Frame} (ha : splitAtGen a = none) (hb : splitAtGen b = none) : splitAtGen (a ++ b) = none := by
  induction a with
  | nil => exact hb
  | cons F r ih =>
    obtain ⟨h1, h2⟩ := split_cons ha
    have q := ih h1
    cases F with
    | ret k h1 g l c p kp =>
      show (splitAtGen (r ++ b)).map _ = none
      rw [q]
      rfl
    | gen g k l c p => exact absurd rfl (h2 g k l c p)
/-- G: the generators at the beginning; ga: with dead ones, gb: with those of G -/
structure DG (G ga gb : Array GenState) : Prop where
  size : gb.size = ga.size
  on : ∀ (i : Nat) st, G[i]? = some st → isSusp st = true → ga[i]? = some (deadG st) ∧ gb[i]? = some st
  off : ∀ (i : Nat), (∀ st, G[i]? = some st → isSusp st = false) → gb[i]? = ga[i]? ∧ ∀ k l c p fs cl, ga[i]? = some (.suspended k l c p fs cl) → splitAtGen fs = none
theorem DG.start (G : Array GenState) : DG G (G.map deadG) G where
  size := by simp
  on := fun i st h _ => ⟨by rw [Array.getElem?_map, h]; rfl, h⟩
  off := fun i h => by
    rw [Array.getElem?_map]
    cases q : G[i]? with
    | none => exact ⟨rfl, fun _ _ _ _ _ _ z => nomatch z⟩
    | some st =>
      have hs := h st q
      refine ⟨by rw [Option.map_some, deadG_off hs], fun k l c p fs cl z => ?_⟩
      rw [Option.map_some, deadG_off hs] at z
      cases z
      cases hs
theorem DG.cases {G ga gb : Array GenState} (d : DG G ga gb) (i : Nat) : (∃ st, G[i]? = some st ∧ isSusp st = true ∧ ga[i]? = some (deadG st) ∧ gb[i]? = some st) ∨ ((∀ st, G[i]? = some st → isSusp st = false) ∧ gb[i]? = ga[i]?) := by
  by_cases h : ∃ st, G[i]? = some st ∧ isSusp st = true
  · obtain ⟨st, h1, h2⟩ := h
    exact .inl ⟨st, h1, h2, d.on i st h1 h2⟩
  · have h' : ∀ st, G[i]? = some st → isSusp st = false := fun st q => by
      cases z : isSusp st with
      | false => rfl
      | true => exact absurd ⟨st, q, z⟩ h
    exact .inr ⟨h', (d.off i h').1⟩
theorem DG.set {G ga gb : Array GenState} (d : DG G ga gb) {i : Nat} (hi : ∀ st, G[i]? = some st → isSusp st = false) {x : GenState} (hx : ∀ k l c p fs cl, x = .suspended k l c p fs cl → splitAtGen fs = none) : DG G (ga.setIfInBounds i x) (gb.setIfInBounds i x) where
  size := by simp [d.size]
  on := fun j st h hs => by
    have n : i ≠ j := fun e => by
      subst e
      rw [hi st h] at hs
      cases hs
    rw [Array.getElem?_setIfInBounds_ne n, Array.getElem?_setIfInBounds_ne n]
    exact d.on j st h hs
  off := fun j h => by
    by_cases e : i = j
    · subst e
      rw [Array.getElem?_setIfInBounds, Array.getElem?_setIfInBounds, d.size]
      rw [if_pos rfl, if_pos rfl]
      refine ⟨rfl, fun k l c p fs cl z => ?_⟩
      split at z
      · cases z
        exact hx _ _ _ _ _ _ rfl
      · cases z
    · rw [Array.getElem?_setIfInBounds_ne e, Array.getElem?_setIfInBounds_ne e]
      exact d.off j h
theorem DG.push {G ga gb : Array GenState} (d : DG G ga gb) (c : Code) : DG G (ga.push (.fresh c)) (gb.push (.fresh c)) where
  size := by simp [d.size]
  on := fun j st h hs => by
    obtain ⟨h1, h2⟩ := d.on j st h hs
    have l1 := (Array.getElem?_eq_some_iff.mp h1).1
    have l2 := (Array.getElem?_eq_some_iff.mp h2).1
    rw [Array.getElem?_push, Array.getElem?_push, if_neg (by omega), if_neg (by omega)]
    exact ⟨h1, h2⟩
  off := fun j h => by
    rw [Array.getElem?_push, Array.getElem?_push, d.size]
    split
    · exact ⟨rfl, fun _ _ _ _ _ _ z => by cases z⟩
    · exact d.off j h
theorem no_runs {M : Model} {Γ : PySem.Ctx} {p : Pos} {t : Sem PySem.Fin} {fs : List Frame} {s s' : Shared} {e : End} (h : Runs M Γ p t fs s e s') (w : String) : t ≠ .unsupported w := by
  induction h <;> first | assumption | (intro z; nomatch z)
theorem DG.fresh {G ga gb : Array GenState} (d : DG G ga gb) {i : Nat} {x : GenState} (h : ga[i]? = some x) (hs : isSusp x = false) : (∀ st, G[i]? = some st → isSusp st = false) ∧ gb[i]? = some x := by
  rcases d.cases i with ⟨st, h1, h2, h3, _⟩ | ⟨h1, h2⟩
  · rw [h] at h3
    cases h3
    cases st <;> cases h2
    cases hs
  · exact ⟨h1, h2.trans h⟩
theorem DG.seen {G ga gb : Array GenState} (d : DG G ga gb) {i : Nat} {x : GenState} (h : ga[i]? = some x) : ∃ y, gb[i]? = some y ∧ y.seen = x.seen := by
  rcases d.cases i with ⟨st, h1, h2, h3, h4⟩ | ⟨h1, h2⟩
  · rw [h] at h3
    cases h3
    exact ⟨st, h4, (deadG_seen st).symm⟩
  · exact ⟨x, h2.trans h, rfl⟩
theorem end_good {e : End} {Q : Prop} (h : ∀ v g l k c p fs, e = .susp v g l k c p fs → splitAtGen fs = none) : ∀ k l c p fs cl, e.genState = .suspended k l c p fs cl → splitAtGen fs = none := by
  intro k l c p fs cl z
  cases e with
  | ret r => cases z
  | susp v g l k c p fs =>
    cases z
    exact h _ _ _ _ _ _ _ rfl
theorem runs_dead {M : Model} {Γ : PySem.Ctx} {p : Pos} {t : Sem PySem.Fin} {fs : List Frame} {a a' : Shared} {e : End} (h : Runs M Γ p t fs a e a') : splitAtGen fs = none → ∀ G gb, DG G a.gens gb →
    ∃ gb', Runs M Γ p t fs { a with gens := gb } e { a' with gens := gb' } ∧ DG G a'.gens gb' ∧ ∀ v g l k c p fs', e = .susp v g l k c p fs' → splitAtGen fs' = none := by
  induction h with
  | done => exact fun _ G gb d => ⟨gb, .done, d, fun _ _ _ _ _ _ _ z => by cases z⟩
  | raise => exact fun _ G gb d => ⟨gb, .raise, d, fun _ _ _ _ _ _ _ z => by cases z⟩
  | again q _ ih => exact fun hf G gb d => let ⟨g', r, d', z⟩ := ih hf G gb d; ⟨g', .again q r, d', z⟩
  | rule _ ih => exact fun hf G gb d => let ⟨g', r, d', z⟩ := ih hf G gb d; ⟨g', .rule r, d', z⟩
  | «at» _ ih => exact fun hf G gb d => let ⟨g', r, d', z⟩ := ih hf G gb d; ⟨g', .at r, d', z⟩
  | load q _ ih => exact fun hf G gb d => let ⟨g', r, d', z⟩ := ih hf G gb d; ⟨g', .load q r, d', z⟩
  | update q _ ih => exact fun hf G gb d => let ⟨g', r, d', z⟩ := ih hf G gb d; ⟨g', .update q r, d', z⟩
  | loadIfAlive _ ih => exact fun hf G gb d => let ⟨g', r, d', z⟩ := ih hf G gb d; ⟨g', .loadIfAlive r, d', z⟩
  | point _ ih => exact fun hf G gb d => let ⟨g', r, d', z⟩ := ih hf G gb d; ⟨g', .point r, d', z⟩
  | alloc _ ih => exact fun hf G gb d => let ⟨g', r, d', z⟩ := ih hf G gb d; ⟨g', .alloc r, d', z⟩
  | fresh _ ih => exact fun hf G gb d => let ⟨g', r, d', z⟩ := ih hf G gb d; ⟨g', .fresh r, d', z⟩
  | ask _ ih => exact fun hf G gb d => let ⟨g', r, d', z⟩ := ih hf G gb d; ⟨g', .ask r, d', z⟩
  | choose q _ ih => exact fun hf G gb d => let ⟨g', r, d', z⟩ := ih hf G gb d; ⟨g', .choose q r, d', z⟩
  | os _ ih => exact fun hf G gb d => let ⟨g', r, d', z⟩ := ih hf G gb d; ⟨g', .os r, d', z⟩
  | handled _ ih => exact fun hf G gb d => let ⟨g', r, d', z⟩ := ih hf G gb d; ⟨g', .handled r, d', z⟩
  | stack _ ih => exact fun hf G gb d => let ⟨g', r, d', z⟩ := ih hf G gb d; ⟨g', .stack r, d', z⟩
  | thread _ ih => exact fun hf G gb d => let ⟨g', r, d', z⟩ := ih hf G gb d; ⟨g', .thread r, d', z⟩
  | genState q _ ih =>
    intro hf G gb d
    obtain ⟨g', r, d', z⟩ := ih hf G gb d
    obtain ⟨y, hy, es⟩ := d.seen q
    rw [← es] at r
    exact ⟨g', .genState hy r, d', z⟩
  | newGen _ ih =>
    intro hf G gb d
    obtain ⟨g', r, d', z⟩ := ih hf G _ (d.push _)
    have e := d.size
    rw [← e] at r
    exact ⟨g', .newGen r, d', z⟩
  | call _ _ ih1 ih2 =>
    intro hf G gb d
    obtain ⟨g1, r1, d1, _⟩ := ih1 rfl G gb d
    obtain ⟨g2, r2, d2, z⟩ := ih2 hf G g1 d1
    exact ⟨g2, .call r1 r2, d2, z⟩
  | callSusp _ ih =>
    intro hf G gb d
    obtain ⟨g1, r1, d1, z⟩ := ih rfl G gb d
    refine ⟨g1, .callSusp r1, d1, fun v g l k c p fs' q => ?_⟩
    cases q
    exact split_append (z _ _ _ _ _ _ _ rfl) rfl
  | yield =>
    intro hf G gb d
    refine ⟨gb, .yield, d, fun v g l k c p fs' q => ?_⟩
    cases q
    rfl
  | @resumeFresh Γ p g l k s c e₁ s₁ e s' q _ hq _ ih1 ih2 =>
    intro hf G gb d
    obtain ⟨hi, hb⟩ := d.fresh q rfl
    obtain ⟨g1, r1, d1, z1⟩ := ih1 rfl G (gb.setIfInBounds g .running) (d.set hi fun _ _ _ _ _ _ z => by cases z)
    obtain ⟨g2, r2, d2, z⟩ := ih2 hf G (g1.setIfInBounds g e₁.genState) (d1.set hi (end_good (Q := True) z1))
    exact ⟨g2, .resumeFresh hb r1 hq r2, d2, z⟩
  | @resumeSuspended Γ p g r l k s k₀ l₀ c₀ p₀ fs cl e₁ s₁ e s' q hr hq _ ih1 ih2 =>
    intro hf G gb d
    rcases d.cases g with ⟨st', h1, h2, h3, h4⟩ | ⟨hi, h2⟩
    · rw [q] at h3
      cases st' with
      | suspended k1 l1 c1 p1 f1 cl1 =>
        cases h3
        exact absurd rfl (no_runs hr "")
      | fresh _ => cases h2
      | running => cases h2
      | finished => cases h2
    · have hfs := (d.off g hi).2 _ _ _ _ _ _ q
      obtain ⟨g1, r1, d1, z1⟩ := ih1 hfs G (gb.setIfInBounds g .running) (d.set hi fun _ _ _ _ _ _ z => by cases z)
      obtain ⟨g2, r2, d2, z⟩ := ih2 hf G (g1.setIfInBounds g e₁.genState) (d1.set hi (end_good (Q := True) z1))
      exact ⟨g2, .resumeSuspended (h2.trans q) r1 hq r2, d2, z⟩
  | resumeJustStarted q hv _ ih =>
    intro hf G gb d
    obtain ⟨hi, hb⟩ := d.fresh q rfl
    obtain ⟨g1, r1, d1, z⟩ := ih hf G gb d
    exact ⟨g1, .resumeJustStarted hb hv r1, d1, z⟩
  | resumeThrowFresh q _ ih =>
    intro hf G gb d
    obtain ⟨hi, hb⟩ := d.fresh q rfl
    obtain ⟨g1, r1, d1, z⟩ := ih hf G _ (d.set hi fun _ _ _ _ _ _ z => by cases z)
    exact ⟨g1, .resumeThrowFresh hb r1, d1, z⟩
  | resumeRunning q _ ih =>
    intro hf G gb d
    obtain ⟨hi, hb⟩ := d.fresh q rfl
    obtain ⟨g1, r1, d1, z⟩ := ih hf G gb d
    exact ⟨g1, .resumeRunning hb r1, d1, z⟩
  | resumeFinished q _ ih =>
    intro hf G gb d
    obtain ⟨hi, hb⟩ := d.fresh q rfl
    obtain ⟨g1, r1, d1, z⟩ := ih hf G gb d
    exact ⟨g1, .resumeFinished hb r1, d1, z⟩
  | segRet _ _ ih1 ih2 =>
    intro hf G gb d
    obtain ⟨g1, r1, d1, _⟩ := ih1 rfl G gb d
    obtain ⟨g2, r2, d2, z⟩ := ih2 (split_cons hf).1 G g1 d1
    exact ⟨g2, .segRet r1 r2, d2, z⟩
  | segGen _ _ _ _ => exact fun hf G gb d => absurd rfl ((split_cons hf).2 _ _ _ _ _)
  | segSuspOut q _ ih =>
    intro hf G gb d
    obtain ⟨g1, r1, d1, z⟩ := ih rfl G gb d
    refine ⟨g1, .segSuspOut q r1, d1, fun v g l k c p fs' e => ?_⟩
    cases e
    exact split_append (z _ _ _ _ _ _ _ rfl) q
  | segSuspGen q _ _ _ _ _ => exact fun hf G gb d => by rw [hf] at q; cases q
end Z

namespace Z
open PySem PySem.Spec PyProof.Rows L2
open Sem (wp)
theorem wakes_dead {M : Model} {Γ : PySem.Ctx} {p : Pos} {g : Nat} {r : Resume} {a a' : Shared} {res : GenResult} (h : Wakes M Γ p g r a res a') : ∀ G gb, DG G a.gens gb →
    ∃ gb', Wakes M Γ p g r { a with gens := gb } res { a' with gens := gb' } ∧ DG G a'.gens gb' := by
  intro G gb d
  have rest : ∀ {x : GenState}, a.gens[g]? = some x → isSusp x = false → (∀ st, G[g]? = some st → isSusp st = false) ∧ gb[g]? = some x := fun q hs => d.fresh q hs
  unfold Wakes at h
  split at h
  · exact h.elim
  · rename_i c q
    obtain ⟨hi, hb⟩ := rest q rfl
    split at h
    · obtain ⟨e₁, s₁, hr, hq, rfl, rfl⟩ := h
      obtain ⟨g1, r1, d1, z1⟩ := runs_dead hr rfl G (gb.setIfInBounds g .running) (d.set hi fun _ _ _ _ _ _ z => by cases z)
      refine ⟨g1.setIfInBounds g e₁.genState, ?_, d1.set hi (end_good (Q := True) z1)⟩
      unfold Wakes
      rw [show ({ a with gens := gb } : Shared).gens[g]? = some (.fresh c) from hb]
      exact ⟨e₁, _, r1, hq, rfl, rfl⟩
    · rename_i v hv
      obtain ⟨rfl, rfl⟩ := h
      refine ⟨gb, ?_, d⟩
      unfold Wakes
      rw [show ({ a' with gens := gb } : Shared).gens[g]? = some (.fresh c) from hb]
      cases v <;> first | exact ⟨rfl, rfl⟩ | exact absurd rfl hv
    · obtain ⟨rfl, rfl⟩ := h
      refine ⟨gb.setIfInBounds g .finished, ?_, d.set hi fun _ _ _ _ _ _ z => by cases z⟩
      unfold Wakes
      rw [show ({ a with gens := gb } : Shared).gens[g]? = some (.fresh c) from hb]
      exact ⟨rfl, rfl⟩
  · rename_i k₀ l₀ c₀ p₀ fs cl q
    obtain ⟨e₁, s₁, hr, hq, rfl, rfl⟩ := h
    rcases d.cases g with ⟨st', h1, h2, h3, h4⟩ | ⟨hi, h2⟩
    · rw [q] at h3
      cases st' with
      | suspended k1 l1 c1 p1 f1 cl1 =>
        cases h3
        exact absurd rfl (no_runs hr "")
      | fresh _ => cases h2
      | running => cases h2
      | finished => cases h2
    · have hfs := (d.off g hi).2 _ _ _ _ _ _ q
      obtain ⟨g1, r1, d1, z1⟩ := runs_dead hr hfs G (gb.setIfInBounds g .running) (d.set hi fun _ _ _ _ _ _ z => by cases z)
      refine ⟨g1.setIfInBounds g e₁.genState, ?_, d1.set hi (end_good (Q := True) z1)⟩
      unfold Wakes
      rw [show ({ a with gens := gb } : Shared).gens[g]? = some (.suspended k₀ l₀ c₀ p₀ fs cl) from h2.trans q]
      exact ⟨e₁, _, r1, hq, rfl, rfl⟩
  · rename_i q
    obtain ⟨hi, hb⟩ := rest q rfl
    obtain ⟨rfl, rfl⟩ := h
    refine ⟨gb, ?_, d⟩
    unfold Wakes
    rw [show ({ a' with gens := gb } : Shared).gens[g]? = some .running from hb]
    exact ⟨rfl, rfl⟩
  · rename_i q
    obtain ⟨hi, hb⟩ := rest q rfl
    obtain ⟨rfl, rfl⟩ := h
    refine ⟨gb, ?_, d⟩
    unfold Wakes
    rw [show ({ a' with gens := gb } : Shared).gens[g]? = some .finished from hb]
    exact ⟨rfl, rfl⟩
theorem wp_dead {α : Type} (M : Model) (Γ : PySem.Ctx) (G : Array GenState) (t : Sem α) : ∀ (Q : α → Pos → Shared → Prop) (E : Value → Pos → Shared → Prop) (p : Pos) (a : Shared) (gb : Array GenState), DG G a.gens gb → wp M Γ t Q E p a →
    wp M Γ t (fun x p' b => ∃ ga, DG G ga b.gens ∧ Q x p' { b with gens := ga }) (fun x p' b => ∃ ga, DG G ga b.gens ∧ E x p' { b with gens := ga }) p { a with gens := gb } := by
  induction t with
  | pure x => intro Q E p a gb d h; exact ⟨a.gens, d, h⟩
  | raise e => intro Q E p a gb d h; exact ⟨a.gens, d, h⟩
  | unsupported _ => intro Q E p a gb d h; exact h
  | finish _ => intro Q E p a gb d h; exact h
  | rule _ k ih => intro Q E p a gb d h; exact ih () Q E p a gb d h
  | «at» p' k ih => intro Q E p a gb d h; exact ih () Q E p' a gb d h
  | load x _ k ih => intro Q E p a gb d h; obtain ⟨o, ho, h⟩ := h; exact ⟨o, ho, ih o Q E p a gb d h⟩
  | update x _ f k ih => intro Q E p a gb d h; exact ⟨h.1, ih () Q E p { a with heap := a.heap.update x f } gb d h.2⟩
  | loadIfAlive x k ih => intro Q E p a gb d h; exact ih _ Q E p a gb d h
  | point _ k ih => intro Q E p a gb d h; exact ih () Q E p a gb d h
  | register _ _ => intro Q E p a gb d h; exact h
  | alloc o k ih => intro Q E p a gb d h; exact ih a.heap.objs.size Q E p { a with heap := a.heap.push o } gb d h
  | fresh k ih => intro Q E p a gb d h; exact ih a.toks Q E p { a with toks := a.toks + 1 } gb d h
  | ask k ih => intro Q E p a gb d h; exact ih _ Q E p a gb d h
  | choose src m k ih => intro Q E p a gb d h; exact ⟨h.1, ih (M.w.draws src (a.drawn.get src) % m) Q E p { a with drawn := a.drawn.bump src } gb d h.2⟩
  | os q _ k ih => intro Q E p a gb d h; exact ih (Os.step a.os q).2 Q E p { a with os := (Os.step a.os q).1 } gb d h
  | call c hd _ _ k ih =>
    intro Q E p a gb d h
    obtain ⟨r, s', hr, h⟩ := h
    obtain ⟨g1, r1, d1, _⟩ := runs_dead hr rfl G gb d
    exact ⟨r, _, r1, ih r Q E p s' g1 d1 h⟩
  | handled own k ih => intro Q E p a gb d h; exact ih _ Q E p a gb d h
  | genState g k ih =>
    intro Q E p a gb d h
    obtain ⟨st, hs, h⟩ := h
    obtain ⟨y, hy, es⟩ := d.seen hs
    rw [← es] at h
    exact ⟨y, hy, ih _ Q E p a gb d h⟩
  | newGen c k ih =>
    intro Q E p a gb d h
    have e := d.size
    have q := ih a.gens.size Q E p _ _ (d.push c) h
    rw [← e] at q
    exact q
  | resume g r _ k ih =>
    intro Q E p a gb d h
    obtain ⟨res, s', hw, h⟩ := h
    obtain ⟨g1, w1, d1⟩ := wakes_dead hw G gb d
    exact ⟨res, _, w1, ih res Q E p s' g1 d1 h⟩
  | yield _ _ _ _ => intro Q E p a gb d h; exact h
  | stack k ih => intro Q E p a gb d h; exact ih _ Q E p a gb d h
  | fork _ _ => intro Q E p a gb d h; exact h
  | thread k ih => intro Q E p a gb d h; exact ih _ Q E p a gb d h
  | await _ _ _ _ _ => intro Q E p a gb d h; exact h
theorem wpAny_dead {α : Type} {M : Model} {A : Around} {G : Array GenState} {t : Sem α} {Q : α → Shared → Prop} {E : Value → Shared → Prop} {a : Shared} {gb : Array GenState} (d : DG G a.gens gb) (h : wpAny M A t Q E a) :
    wpAny M A t (fun x b => ∃ ga, DG G ga b.gens ∧ Q x { b with gens := ga }) (fun x b => ∃ ga, DG G ga b.gens ∧ E x { b with gens := ga }) { a with gens := gb } :=
  fun Γ p hΓ => wp_dead M Γ G t _ _ p a gb d (h Γ p hΓ)
end Z
namespace Z
open PySem PySem.Spec PyProof.Rows L2
theorem Inv.gens {X : Cx} {pins : List (Addr × Obj)} {σ : L2.St} {H : Hp} {s : Shared} {g : Array GenState} (I : Inv X pins σ H s) (h : AllBare g) : Inv X pins σ H { s with gens := g } :=
  ⟨I.ok, I.os, h, I.base, I.loc, I.cell, I.free, I.freeC, I.pin, I.hok, I.len⟩
theorem Inv.sub {X : Cx} {pins pins' : List (Addr × Obj)} {σ : L2.St} {H : Hp} {s : Shared} (I : Inv X pins σ H s) (h : ∀ p ∈ pins', p ∈ pins) : Inv X pins' σ H s :=
  I.pins_of fun p hp => I.pin p (List.mem_append_right _ (h p hp))
theorem deadG_bare (x : GenState) : (deadG x).bare = x.bare := by cases x <;> rfl
theorem bare_dead {G : Array GenState} (h : AllBare G) : AllBare (G.map deadG) := fun y hy => by
  obtain ⟨x, hx, rfl⟩ := Array.mem_map.mp hy
  rw [deadG_bare]
  exact h x hx
theorem bare_of {G ga gb : Array GenState} (d : DG G ga gb) (hG : AllBare G) (ha : AllBare ga) : AllBare gb := fun y hy => by
  obtain ⟨i, hi, rfl⟩ := Array.mem_iff_getElem.mp hy
  have e : gb[i]? = some gb[i] := Array.getElem?_eq_getElem hi
  rcases d.cases i with ⟨st, h1, h2, h3, h4⟩ | ⟨h1, h2⟩
  · rw [e] at h4
    cases h4
    exact hG _ (Array.mem_of_getElem? h1)
  · rw [e] at h2
    exact ha _ (Array.mem_of_getElem? h2.symm)
/-- what sleeps in G sleeps in g -/
def Kept (G g : Array GenState) : Prop := ∀ (i : Nat) st, G[i]? = some st → isSusp st = true → g[i]? = some st
/-- code that was shown for any generators keeps those that sleep -/
theorem wpAny_kept {α : Type} {M : Model} {A : Around} {t : Sem α} {Q : α → Shared → Prop} {E : Value → Shared → Prop} {s : Shared} (h : wpAny M A t Q E { s with gens := s.gens.map deadG }) :
    wpAny M A t (fun x b => ∃ ga, DG s.gens ga b.gens ∧ Q x { b with gens := ga }) (fun x b => ∃ ga, DG s.gens ga b.gens ∧ E x { b with gens := ga }) s :=
  wpAny_dead (a := { s with gens := s.gens.map deadG }) (gb := s.gens) (DG.start s.gens) h
theorem DG.kept {G ga gb : Array GenState} (d : DG G ga gb) : Kept G gb := fun i st h1 h2 => (d.on i st h1 h2).2
/-- what is wanted of exceptions doesn't hang on generators -/
def XeG (X : Cx) : Prop := ∀ (G ga : Array GenState) e s, AllBare G → DG G ga s.gens → X.xe e { s with gens := ga } → X.xe e s
theorem CX_gens {P : Program} {w : World} {outer : List Env} {H : Hp} {s0 : Shared} {E : XK} {u : Value} {s : Shared} {ga : Array GenState} (h : AllBare ga → AllBare s.gens) (c : CX P w outer H s0 E u { s with gens := ga }) : CX P w outer H s0 E u s := by
  obtain ⟨a, B, H', cls, d, q1, q2, q3, q4, q5, q6, q7, q8⟩ := c
  exact ⟨a, B, H', cls, d, q1, q2, q3, q4, q5, q6, h q7, q8⟩
theorem xeG_cx {P : Program} {w : World} {K : PySem.W.Frag} {mg : Str → Option Value} {base : Heap} {N : List Str} {qual : Str} {scope : Scope} {f : Addr} {cd : Value} {A : Around} {outer : List Env} {s : Shared} {H : Hp} {E : XK} :
    XeG (cxOf (CX P w) P w K mg base N qual scope f cd A outer s H E) := fun G ga e s1 hG d h =>
  wpAny_mono (wpAny_dead (a := { s1 with gens := ga }) (gb := s1.gens) d (show wpAny (model P w) (A.deeper (envOfC qual scope s.heap.objs.size f cd)) (leaving (envOfC qual scope s.heap.objs.size f cd) e) (fun _ s'' => CX P w outer H s E e s'') (fun e' s'' => CX P w outer H s E e' s'') { s1 with gens := ga } from h))
    (fun _ b ⟨g', d', c⟩ => CX_gens (bare_of d' hG) c) fun _ b ⟨g', d', c⟩ => CX_gens (bare_of d' hG) c
/-- a statement run while generators sleep -/
theorem sp_gens {X : Cx} {pins : List (Addr × Obj)} {D : Ends} {f : Flow} {s : Shared} {ga : Array GenState} (hb : AllBare s.gens) (h : SP X pins D f { s with gens := ga }) : SP X pins D f s := by
  cases f with
  | next => obtain ⟨σ, H, I, q⟩ := h; exact ⟨σ, H, Inv.gens (s := { s with gens := ga }) (g := s.gens) I hb, q⟩
  | brk => obtain ⟨σ, H, I, q⟩ := h; exact ⟨σ, H, Inv.gens (s := { s with gens := ga }) (g := s.gens) I hb, q⟩
  | cont => obtain ⟨σ, H, I, q⟩ := h; exact ⟨σ, H, Inv.gens (s := { s with gens := ga }) (g := s.gens) I hb, q⟩
  | ret u => obtain ⟨v, σ, H, I, r1, q⟩ := h; exact ⟨v, σ, H, Inv.gens (s := { s with gens := ga }) (g := s.gens) I hb, r1, q⟩
theorem sp_bare {X : Cx} {pins : List (Addr × Obj)} {D : Ends} {f : Flow} {s : Shared} (h : SP X pins D f s) : AllBare s.gens := by
  cases f with
  | next => obtain ⟨σ, H, I, q⟩ := h; exact I.bare
  | brk => obtain ⟨σ, H, I, q⟩ := h; exact I.bare
  | cont => obtain ⟨σ, H, I, q⟩ := h; exact I.bare
  | ret u => obtain ⟨v, σ, H, I, r1, q⟩ := h; exact I.bare
theorem pss_kept {X : Cx} {body : List Stmt} {t : TS} (hx : XeG X) (h : PSs X body t) {pins : List (Addr × Obj)} {s : Shared} {σ : L2.St} {H : Hp} {D : Ends} (I : Inv X pins σ H s) (q : t D σ H) :
    wpAny (model X.prog X.w) X.A (execs body X.env) (fun f s' => SP X pins D f s' ∧ Kept s.gens s'.gens) X.xe s := by
  refine wpAny_mono (wpAny_kept (h.run _ { s with gens := s.gens.map deadG } σ H D (Inv.gens I (bare_dead I.bare)) q)) (fun f b ⟨ga, d, sp⟩ => ?_) fun e b ⟨ga, d, x⟩ => hx s.gens ga e b I.bare d x
  have hb := bare_of d I.bare (show AllBare ga from sp_bare sp)
  exact ⟨sp_gens hb sp, d.kept⟩
theorem pg_kept {X : Cx} {tg : Expr} {g : TG} (hx : XeG X) (h : PG X tg g) {pins : List (Addr × Obj)} {s : Shared} {σ : L2.St} {H : Hp} {x : V} {u : Value} {Q : L2.St → Hp → Prop} (I : Inv X pins σ H s) (r : RelV x u) (q : g x σ H Q) :
    wpAny (model X.prog X.w) X.A (assign tg X.env u) (fun _ s' => (∃ σ' H', Inv X pins σ' H' s' ∧ Q σ' H') ∧ Kept s.gens s'.gens) X.xe s := by
  refine wpAny_mono (wpAny_kept (h.run pins { s with gens := s.gens.map deadG } σ H x u Q (Inv.gens I (bare_dead I.bare)) r q)) (fun _ b ⟨ga, d, σ', H', I', q'⟩ => ?_) fun e b ⟨ga, d, x⟩ => hx s.gens ga e b I.bare d x
  have hb := bare_of d I.bare (show AllBare ga from I'.bare)
  exact ⟨⟨σ', H', Inv.gens (s := { b with gens := ga }) (g := b.gens) I' hb, q'⟩, d.kept⟩
end Z
/-! ### a generator's body, whose consumer may do what it likes with all that isn't the generator's own -/
namespace Z
open PySem PySem.Spec PyProof.Rows L2
/-- the state as it was below n0 -/
def tr (n0 : Nat) (s : Shared) : Shared := { s with heap := { s.heap with objs := s.heap.objs.extract 0 n0 } }
theorem tr_get {n0 : Nat} {s : Shared} {b : Addr} {o : Obj} : (tr n0 s).heap.get? b = some o ↔ b < n0 ∧ s.heap.get? b = some o := by
  have e : (tr n0 s).heap.objs[b]? = if b < n0 then s.heap.objs[b]? else none := by
    show (s.heap.objs.extract 0 n0)[b]? = _
    rw [Array.getElem?_extract, Nat.sub_zero, Nat.zero_add]
    by_cases h : b < n0
    · rw [if_pos h]
      by_cases h2 : b < s.heap.objs.size
      · exact if_pos (Nat.lt_min.mpr ⟨h, h2⟩)
      · rw [if_neg (fun z => h2 (Nat.lt_min.mp z).2), Array.getElem?_eq_none (Nat.le_of_not_lt h2)]
    · rw [if_neg h, if_neg (fun z => h (Nat.lt_min.mp z).1)]
  unfold Heap.get?
  rw [e]
  by_cases h : b < n0
  · rw [if_pos h]
    exact ⟨fun q => ⟨h, q⟩, fun q => q.2⟩
  · rw [if_neg h]
    exact ⟨fun q => (nomatch q), fun q => absurd q.1 h⟩
theorem tr_size {n0 : Nat} {s : Shared} (h : n0 ≤ s.heap.objs.size) : (tr n0 s).heap.objs.size = n0 := by
  show (s.heap.objs.extract 0 n0).size = n0
  rw [Array.size_extract]
  omega
/-- a generator def's frame -/
structure GP where
  P : Program
  w : World
  K : PySem.W.Frag
  mg : Str → Option Value
  base : Heap
  N : List Str
  env : Env
  outer : List Env
  n0 : Nat
  pn : List (Addr × Obj)
  gno : Nat
/-- what the consumer wishes: of each item (all that is out, the item, the heap at the last waking, the heap now), of the end, and how it may change the heap meanwhile -/
structure GSpec where
  yd : List V → V → Hp → Hp → Prop
  en : List V → Hp → Hp → Prop
  ry : Hp → Hp → Prop
/-- the frame since the last waking in sw, with Hw -/
def GP.cx (g : GP) (A : Around) (sw : Shared) (Hw : Hp) : Cx where
  prog := g.P
  w := g.w
  K := g.K
  mg := g.mg
  base := g.base
  A := A.deeper g.env
  N := g.N
  s_0 := tr g.n0 sw
  H_0 := Hw
  env := g.env
  outer := g.outer
  stack := g.env :: g.outer
  ex := []
  calm := true
  fn := fun _ => true
  pn := g.pn
  xe := fun _ _ => False
structure GP.Ok (g : GP) : Prop where
  mod : Mod g.K g.mg g.base
  kind : g.env.scope.kind = .function
  glob : g.env.globals = mainGlobals
  blt : g.env.builtins = builtinsNs
  loc : g.env.locals = g.n0
  cells : g.env.cells = []
  kinds : ∀ x, g.env.kindOf x ≠ some .cell ∧ g.env.kindOf x ≠ some .free
  frame : g.env.frame = some g.env.locals
  bsz : g.base.objs.size ≤ g.n0
  frs : ∀ b ∈ frs g.outer, b < g.n0
/-- the generator's own things -/
structure Priv (g : GP) (pp : List (Addr × Obj)) (s : Shared) (H : Hp) : Prop where
  at_ : ∀ p ∈ pp, s.heap.get? p.1 = some p.2 ∧ H p.1 = none ∧ g.n0 ≤ p.1 ∧ p.1 ∉ frs g.outer ∧ ∀ v, p.2.data ≠ .cell v
/-- it is woken -/
structure Wk (g : GP) (pp : List (Addr × Obj)) (gp : List (Nat × GenState)) (xp : List (Addr × Obj)) (s2 : Shared) (H2 : Hp) : Prop where
  bare : AllBare s2.gens
  gz : g.gno < s2.gens.size
  gpk : ∀ q ∈ gp, s2.gens[q.1]? = some q.2
  bs : ∀ b o, g.base.get? b = some o → s2.heap.get? b = some o ∧ H2 b = none
  funs : s2.heap.FunFrames g.base g.outer
  frf : ∀ b ∈ frs g.outer, H2 b = none
  ppk : ∀ p ∈ pp, s2.heap.get? p.1 = some p.2 ∧ H2 p.1 = none
  hok : HOk g.P g.w H2 s2.heap
  xpk : ∀ p ∈ xp, s2.heap.get? p.1 = some p.2 ∧ H2 p.1 = none ∧ p.1 ∉ frs g.outer ∧ (∀ v, p.2.data ≠ .cell v) ∧ ∀ q ∈ pp, q.1 ≠ p.1
/-- the generators that sleep within the generator's frame -/
structure Gpn (g : GP) (gp : List (Nat × GenState)) (s : Shared) : Prop where
  sz : g.gno < s.gens.size
  at_ : ∀ q ∈ gp, s.gens[q.1]? = some q.2 ∧ isSusp q.2 = true ∧ g.gno < q.1
/-- what has become of the rest since the last waking -/
structure Ft (g : GP) (sw : Shared) (Hw : Hp) (s : Shared) (H : Hp) : Prop where
  os : s.os = sw.os
  bare : AllBare s.gens
  un : Un (frs g.outer) [] Hw H (tr g.n0 sw).heap s.heap
  hok : HOk g.P g.w H s.heap
theorem funs_tr {base : Heap} {n0 : Nat} {s : Shared} : ∀ {l : List Env}, (∀ b ∈ frs l, b < n0) → s.heap.FunFrames base l → (tr n0 s).heap.FunFrames base l
  | [], _, _ => trivial
  | env :: r, hl, ⟨hk, ⟨L, o, hf, hn, ho, hd⟩, hr⟩ => by
    have sub : ∀ b ∈ frs r, b ∈ frs (env :: r) := fun b hb => by
      unfold frs at hb ⊢
      rw [List.filterMap_cons, hf]
      exact List.mem_cons_of_mem _ hb
    have hL : L ∈ frs (env :: r) := by
      unfold frs
      rw [List.filterMap_cons, hf]
      exact List.mem_cons_self
    exact ⟨hk, ⟨L, o, hf, hn, tr_get.mpr ⟨hl L hL, ho⟩, hd⟩, funs_tr (fun b hb => hl b (sub b hb)) hr⟩
/-- woken again: the same frame, from here on -/
theorem GP.rebase {g : GP} {A : Around} {ip ip' : List (Addr × Obj)} {σ : L2.St} {H H2 : Hp} {s s2 : Shared} {X : Cx} (ok : g.Ok) (hX : X.env = g.env ∧ X.N = g.N) (hA : A.frames = some g.outer) (hd : A.handled = none) (I : Inv X ip' σ H s) {oL : Obj} (eL : s.heap.get? g.n0 = some oL) {pp : List (Addr × Obj)} {gp : List (Nat × GenState)} {xp : List (Addr × Obj)} (hL : (g.n0, oL) ∈ pp) (hip : ∀ p ∈ g.pn ++ ip, p ∈ pp ∧ p.1 ≠ g.n0)
    (hf : ∀ p ∈ g.pn ++ ip, p.1 ∉ frs g.outer ∧ ∀ v, p.2.data ≠ .cell v) (W : Wk g pp gp xp s2 H2) : Inv (g.cx A s2 H2) (ip ++ xp) σ H2 s2 := by
  obtain ⟨eE, eN⟩ := hX
  have sL := W.ppk _ hL
  have sz : g.n0 < s2.heap.objs.size := Heap.lt_size sL.1
  have noc : ∀ x c, g.env.cells.lookup x = some c → False := fun x c z => by rw [ok.cells] at z; cases z
  obtain ⟨m, hn, hl⟩ := I.loc
  rw [eE] at hn hl
  rw [eN] at hl
  refine ⟨⟨ok.mod, ok.kind, ok.glob, ok.blt, ?_, fun x y c z _ => (noc x c z).elim, fun x hx => ?_, fun x c _ z => (noc x c z).elim, fun _ => hd, Around.frames_deeper hA, .inr ⟨rfl, ok.frame⟩, fun b z => (by cases z), fun b o e => ?_, ?_, fun b o _ z => (by cases z), fun b z => (by cases z), funs_tr ok.frs W.funs, W.frf⟩,
    rfl, W.bare, Un.kept fun b o e => (tr_get.mp e).2, ⟨m, ?_, fun i x v h1 h2 h3 => ?_⟩, fun x c z => (noc x c z).elim, ?_, fun x c z => (noc x c z).elim, fun p hp => ?_, W.hok, ?_⟩
  · show (tr g.n0 s2).heap.objs.size ≤ g.env.locals
    rw [tr_size (Nat.le_of_lt sz), ok.loc]
    exact Nat.le_refl _
  · rcases hx with hx | hx
    · exact absurd hx (ok.kinds x).1
    · exact absurd hx (ok.kinds x).2
  · exact ⟨tr_get.mpr ⟨Nat.lt_of_lt_of_le (Heap.lt_size e) ok.bsz, (W.bs b o e).1⟩, (W.bs b o e).2⟩
  · show g.base.objs.size ≤ (tr g.n0 s2).heap.objs.size
    rw [tr_size (Nat.le_of_lt sz)]
    exact ok.bsz
  · refine hn.at' fun o e => ?_
    have e' : s.heap.get? g.n0 = some o := by rw [← ok.loc]; exact e
    rw [eL] at e'
    cases e'
    show s2.heap.get? g.env.locals = some oL
    rw [ok.loc]
    exact sL.1
  · obtain ⟨u, r, l⟩ := hl i x v h1 h2 h3
    refine ⟨u, r, ?_⟩
    rcases l with l | ⟨k, _⟩
    · exact .inl l
    · rcases k with k | k
      · exact absurd k (ok.kinds x).1
      · exact absurd k (ok.kinds x).2
  · show H2 g.env.locals = none
    rw [ok.loc]
    exact sL.2
  · have hp : p ∈ (g.pn ++ ip) ++ xp := by rw [List.append_assoc]; exact hp
    rcases List.mem_append.mp hp with hp | hp
    · obtain ⟨h1, h2⟩ := hip p hp
      obtain ⟨h3, h4⟩ := hf p hp
      refine ⟨(W.ppk p h1).1, (W.ppk p h1).2, ?_, h3, h4⟩
      show p.1 ≠ g.env.locals
      rw [ok.loc]
      exact h2
    · obtain ⟨h1, h2, h3, h4, h5⟩ := W.xpk p hp
      refine ⟨h1, h2, ?_, h3, h4⟩
      show p.1 ≠ g.env.locals
      rw [ok.loc]
      exact (h5 _ hL).symm
  · have q := I.len
    rw [eN] at q
    exact q
/-- how a stretch may end: m items may still come; xp: what the consumer has pinned -/
def Ph (g : GP) (S : GSpec) (A : Around) : Nat → List V → Hp → Shared → List (Addr × Obj) → End → Shared → Prop
  | _, ys, Hw, sw, xp, .ret r, s => (r = .ok (.ret .none) ∨ r = .ok .next) ∧ ∃ H, Ft g sw Hw s H ∧ (∀ p ∈ g.pn, s.heap.get? p.1 = some p.2) ∧ (∀ p ∈ xp, s.heap.get? p.1 = some p.2 ∧ H p.1 = none) ∧ S.en ys Hw H
  | 0, _, _, _, _, .susp .., _ => False
  | m + 1, ys, Hw, sw, xp, .susp v _ _ k c _ fs, s => ∃ x H pp gp, RelV x v ∧ Ft g sw Hw s H ∧ Priv g pp s H ∧ Gpn g gp s ∧ (∀ p ∈ g.pn, p ∈ pp) ∧ (∀ p ∈ xp, s.heap.get? p.1 = some p.2 ∧ H p.1 = none ∧ ∀ q ∈ pp, q.1 ≠ p.1) ∧ S.yd ys x Hw H ∧
      ∀ s2 H2 xp2, Wk g pp gp xp2 s2 H2 → S.ry H H2 → Sg (model g.P g.w) A (Ph g S A m (ys ++ [x]) H2 s2 xp2) c (k (.send .none)) fs s2
theorem ph_ret {g : GP} {S : GSpec} {A : Around} {m : Nat} {ys : List V} {Hw : Hp} {sw s : Shared} {xp : List (Addr × Obj)} {r : Result} : Ph g S A m ys Hw sw xp (.ret r) s ↔ (r = .ok (.ret .none) ∨ r = .ok .next) ∧ ∃ H, Ft g sw Hw s H ∧ (∀ p ∈ g.pn, s.heap.get? p.1 = some p.2) ∧ (∀ p ∈ xp, s.heap.get? p.1 = some p.2 ∧ H p.1 = none) ∧ S.en ys Hw H := by
  cases m <;> exact Iff.rfl
/-- what the consumer has pinned is none of the generator's -/
def XpOk (g : GP) (ip xp : List (Addr × Obj)) : Prop := ∀ p ∈ xp, p.1 ≠ g.n0 ∧ ∀ q ∈ g.pn ++ ip, q.1 ≠ p.1
structure GEnds2 where
  nx : List V → Hp → L2.St → Hp → Prop
  rt : List V → Hp → V → Hp → Prop
  bk : List V → Hp → L2.St → Hp → Prop := fun _ _ _ _ => False
  ct : List V → Hp → L2.St → Hp → Prop := fun _ _ _ _ => False
abbrev TG2 := GEnds2 → List V → Hp → L2.St → Hp → Prop
def GEnds2.at (D : GEnds2) (ys : List V) (Hw : Hp) : Ends := { nx := D.nx ys Hw, rt := D.rt ys Hw, bk := D.bk ys Hw, ct := D.ct ys Hw }
structure GC2 (g : GP) (A : Around) (ip : List (Addr × Obj)) (c : Code) (fs : List Frame) (gd : Bool → Bool) : Prop where
  ok : g.Ok
  fr : A.frames = some g.outer
  hd : A.handled = none
  pn : ∀ p ∈ g.pn, g.n0 < p.1
  ip : ∀ p ∈ ip, g.n0 < p.1
  over : A.over c fs = A.deeper g.env
  split : splitAtGen fs = none
  guard : fs.any Frame.guarded = false
  gd : gd false = false
structure GK2 (g : GP) (S : GSpec) (A : Around) (ip : List (Addr × Obj)) (gp : List (Nat × GenState)) (c : Code) (fs : List Frame) (K : Flow → Sem PySem.Fin) (D : GEnds2) : Prop where
  ok : ∀ (xp : List (Addr × Obj)) (m : Nat) (ys : List V) (Hw : Hp) (sw s : Shared) (f : Flow), XpOk g ip xp → m + ys.length = sizeLine → g.n0 < sw.heap.objs.size → Gpn g gp s → SP (g.cx A sw Hw) (ip ++ xp) (D.at ys Hw) f s → Sg (model g.P g.w) A (Ph g S A m ys Hw sw xp) c (K f) fs s
/-- z: no generator sleeps in a loop around -/
structure GS2 (z : Bool) (g : GP) (S : GSpec) (A : Around) (st : Stmt) (t : TG2) : Prop where
  run : ∀ (ip xp : List (Addr × Obj)) (gp : List (Nat × GenState)) (m : Nat) (ys : List V) (Hw : Hp) (sw : Shared) (c : Code) (fs : List Frame) (K : Flow → Sem PySem.Fin) (J : Value → Sem PySem.Fin) (gd : Bool → Bool) (lv : List Value → List Value) (s : Shared) (σ : L2.St) (H : Hp) (D : GEnds2),
    GC2 g A ip c fs gd → XpOk g ip xp → m + ys.length = sizeLine → g.n0 < sw.heap.objs.size → (z = true → gp = []) → Gpn g gp s → GK2 g S A ip gp c fs K D → Inv (g.cx A sw Hw) (ip ++ xp) σ H s → t D ys Hw σ H →
    Sg (model g.P g.w) A (Ph g S A m ys Hw sw xp) c ((exec st g.env).wrap K J gd lv) fs s
structure GSs2 (z : Bool) (g : GP) (S : GSpec) (A : Around) (st : List Stmt) (t : TG2) : Prop where
  run : ∀ (ip xp : List (Addr × Obj)) (gp : List (Nat × GenState)) (m : Nat) (ys : List V) (Hw : Hp) (sw : Shared) (c : Code) (fs : List Frame) (K : Flow → Sem PySem.Fin) (J : Value → Sem PySem.Fin) (gd : Bool → Bool) (lv : List Value → List Value) (s : Shared) (σ : L2.St) (H : Hp) (D : GEnds2),
    GC2 g A ip c fs gd → XpOk g ip xp → m + ys.length = sizeLine → g.n0 < sw.heap.objs.size → (z = true → gp = []) → Gpn g gp s → GK2 g S A ip gp c fs K D → Inv (g.cx A sw Hw) (ip ++ xp) σ H s → t D ys Hw σ H →
    Sg (model g.P g.w) A (Ph g S A m ys Hw sw xp) c ((execs st g.env).wrap K J gd lv) fs s
/-- plain code within the generator's body: the generators that sleep stay -/
theorem gp_run {α : Type} {M : Model} {A : Around} {t : Sem α} {Q : α → Shared → Prop} {E : Value → Shared → Prop} {s : Shared} {g : GP} {gp : List (Nat × GenState)} (hb : AllBare s.gens) (hg : Gpn g gp s) (h : ∀ ga, AllBare ga → wpAny M A t Q (fun _ _ => False) { s with gens := ga })
    (hQ : ∀ x s', Q x s' → AllBare s'.gens) : wpAny M A t (fun x s' => Gpn g gp s' ∧ AllBare s'.gens ∧ ∃ ga, Q x { s' with gens := ga }) E s := by
  refine GenW.wpAny_gsz (n := g.gno + 1) hg.sz (wpAny_mono (wpAny_kept (h _ (bare_dead hb))) (fun x b ⟨ga, d, q⟩ hz => ⟨⟨hz, fun r hr => ?_⟩, bare_of d hb (hQ _ _ q), ga, q⟩) fun x b ⟨ga, d, q⟩ _ => q.elim)
  obtain ⟨h1, h2, h3⟩ := hg.at_ r hr
  exact ⟨d.kept _ _ h1 h2, h2, h3⟩
section
variable {z : Bool} {g : GP} {S : GSpec} {A : Around} {st : Stmt} {rest : List Stmt}
def tP2 (t : TS) : TG2 := fun D ys Hw σ H => t (D.at ys Hw) σ H
theorem gs2_ps {t : TS} (h : ∀ sw Hw, PS (g.cx A sw Hw) st t) : GS2 z g S A st (tP2 t) := by
  refine ⟨fun ip xp gp m ys Hw sw c fs K J gd lv s σ H D gc hxp hm hz h0 hg k I ht => sg_wrap ?_⟩
  rw [gc.over]
  refine wpAny_mono (gp_run I.bare hg (fun ga hga => (h sw Hw).run (ip ++ xp) { s with gens := ga } σ H (D.at ys Hw) (Inv.gens I hga) ht) fun x s' q => sp_bare q) (fun f s' ⟨hg', hb', ga, hs⟩ => k.ok xp m ys Hw sw s' f hxp hm hz hg' (sp_gens hb' hs)) fun x s' hx => hx
theorem gss2_pss {t : TS} (h : ∀ sw Hw, PSs (g.cx A sw Hw) rest t) : GSs2 z g S A rest (tP2 t) := by
  refine ⟨fun ip xp gp m ys Hw sw c fs K J gd lv s σ H D gc hxp hm hz h0 hg k I ht => sg_wrap ?_⟩
  rw [gc.over]
  refine wpAny_mono (gp_run I.bare hg (fun ga hga => (h sw Hw).run (ip ++ xp) { s with gens := ga } σ H (D.at ys Hw) (Inv.gens I hga) ht) fun x s' q => sp_bare q) (fun f s' ⟨hg', hb', ga, hs⟩ => k.ok xp m ys Hw sw s' f hxp hm hz hg' (sp_gens hb' hs)) fun x s' hx => hx
def tG20 : TG2 := fun D ys Hw σ H => D.nx ys Hw σ H
theorem gss2_nil : GSs2 z g S A [] tG20 :=
  ⟨fun ip xp gp m ys Hw sw c fs K J gd lv s σ H D gc hxp hm hz h0 hg k I ht => sg_execs_nil (k.ok xp m ys Hw sw s .next hxp hm hz hg ⟨σ, H, I, ht⟩)⟩
def tG2Then (t u : TG2) : TG2 := fun D ys Hw σ H => t { D with nx := fun ys' Hw' σ' H' => u D ys' Hw' σ' H' } ys Hw σ H
theorem gss2_cons {t u : TG2} (a : GS2 z g S A st t) (b : GSs2 z g S A rest u) : GSs2 z g S A (st :: rest) (tG2Then t u) := by
  refine ⟨fun ip xp gp m ys Hw sw c fs K J gd lv s σ H D gc hxp hm hz h0 hg k I ht => sg_execs_cons ?_⟩
  refine a.run ip xp gp m ys Hw sw c fs _ J gd lv s σ H { D with nx := fun ys' Hw' σ' H' => u D ys' Hw' σ' H' } gc hxp hm hz h0 hg ⟨fun xp' m' ys' Hw' sw' s' f hxp' hm' hz' hg' hs => ?_⟩ I ht
  cases f with
  | next =>
    obtain ⟨σ', H', I', q⟩ := hs
    exact b.run ip xp' gp m' ys' Hw' sw' c fs K J gd lv s' σ' H' D gc hxp' hm' hz' h0 hg' k I' q
  | brk => exact k.ok xp' m' ys' Hw' sw' s' .brk hxp' hm' hz' hg' hs
  | cont => exact k.ok xp' m' ys' Hw' sw' s' .cont hxp' hm' hz' hg' hs
  | ret u => exact k.ok xp' m' ys' Hw' sw' s' (.ret u) hxp' hm' hz' hg' hs
def tG2If (tc : TT) (ta tb : TG2) : TG2 := fun D ys Hw σ H => tc σ H fun d H1 => if d = true then ta D ys Hw σ H1 else tb D ys Hw σ H1
theorem gs2_if {c : Expr} {a b : List Stmt} {pos : Pos} {tc : TT} {ta tb : TG2} (hc : ∀ sw Hw, PT (g.cx A sw Hw) c tc) (ha : GSs2 z g S A a ta) (hb : GSs2 z g S A b tb) : GS2 z g S A (.If c a b pos) (tG2If tc ta tb) := by
  refine ⟨fun ip xp gp m ys Hw sw cc fs K J gd lv s σ H D gc hxp hm hz h0 hg k I ht => ?_⟩
  have ht : tc σ H (fun d H1 => if d = true then ta D ys Hw σ H1 else tb D ys Hw σ H1) := ht
  rw [exec_If]
  refine sg_at ?_
  show Sg _ _ _ _ ((isTrue c g.env (PySem.eval c g.env) >>= fun d => if d = true then execs a g.env else execs b g.env).wrap K J gd lv) _ _
  refine sg_bind_wrap ?_
  rw [gc.over]
  refine wpAny_mono (gp_run I.bare hg (fun ga hga => (hc sw Hw).run (ip ++ xp) { s with gens := ga } σ H _ (Inv.gens I hga) ht) fun x s' ⟨H1, I1, q⟩ => I1.bare) (fun d s' ⟨hg', hb', ga, H1, I1, q⟩ => ?_) fun x s' hx => hx
  have I1 := Inv.gens (s := { s' with gens := ga }) (g := s'.gens) I1 hb'
  cases d with
  | true => exact ha.run ip xp gp m ys Hw sw cc fs K J gd lv s' σ H1 D gc hxp hm hz h0 hg' k I1 q
  | false => exact hb.run ip xp gp m ys Hw sw cc fs K J gd lv s' σ H1 D gc hxp hm hz h0 hg' k I1 q
def tG2Yield (S : GSpec) (te : TE) : TG2 := fun D ys Hw σ H => ys.length < sizeLine ∧ te σ H fun x H1 => S.yd ys x Hw H1 ∧ ∀ H2, S.ry H1 H2 → D.nx (ys ++ [x]) H2 σ H2
theorem gs2_yield {e : Expr} {yp pos : Pos} {te : TE} (he : ∀ sw Hw, PE (g.cx A sw Hw) e te) (hco : g.env.scope.isCoroutine = false := by rfl) (hi : interactive g.env = false := by rfl) : GS2 z g S A (.Expr (.Yield (some e) yp) pos) (tG2Yield S te) := by
  refine ⟨fun ip xp gp m ys Hw sw c fs K J gd lv s σ H D gc hxp hm hz h0 hg k I ht => ?_⟩
  obtain ⟨hlt, ht⟩ := ht
  obtain ⟨m, rfl⟩ : ∃ j, m = j + 1 := ⟨m - 1, by omega⟩
  refine sg_Yield gc.split gc.gd gc.guard ?_ hco hi
  rw [gc.over]
  refine wpAny_mono (gp_run I.bare hg (fun ga hga => (he sw Hw).run (ip ++ xp) { s with gens := ga } σ H _ (Inv.gens I hga) ht) fun x s' ⟨v, H1, I1, q⟩ => I1.bare) (fun v s' ⟨hg', hb', ga, x, H1, I1, rv, q1, q2⟩ => ?_) fun x s' hx => hx
  have I1 := Inv.gens (s := { s' with gens := ga }) (g := s'.gens) I1 hb'
  intro gg l kk p fs' hk
  obtain ⟨mL, ⟨oL, es, ep, hoL, hdL, hrL⟩, _⟩ := id I1.loc
  have eL : s'.heap.get? g.n0 = some oL := by
    rw [← gc.ok.loc]
    exact hoL
  have fL : H1 g.n0 = none := by
    rw [← gc.ok.loc]
    exact I1.free
  have pins : ∀ p ∈ g.pn ++ ip, s'.heap.get? p.1 = some p.2 ∧ H1 p.1 = none ∧ p.1 ≠ g.n0 ∧ p.1 ∉ frs g.outer ∧ ∀ v, p.2.data ≠ .cell v := fun p hp => by
    obtain ⟨h1, h2, h3, h4, h5⟩ := I1.pin p (by
      rcases List.mem_append.mp hp with hp | hp
      · exact List.mem_append_left _ hp
      · exact List.mem_append_right _ (List.mem_append_left _ hp))
    refine ⟨h1, h2, ?_, h4, h5⟩
    have h3 : p.1 ≠ g.env.locals := h3
    rw [gc.ok.loc] at h3
    exact h3
  have nL : g.n0 ∉ frs g.outer := fun z => absurd (gc.ok.frs _ z) (Nat.lt_irrefl _)
  refine ⟨x, H1, (g.n0, oL) :: (g.pn ++ ip), gp, rv, ⟨I1.os, I1.bare, I1.base, I1.hok⟩, ⟨fun p hp => ?_⟩, hg', fun p hp => List.mem_cons_of_mem _ (List.mem_append_left _ hp), fun p hp => ?_, q1, fun s2 H2 xp2 W ry => hk _ _ ?_⟩
  · rcases List.mem_cons.mp hp with rfl | hp
    · exact ⟨eL, fL, Nat.le_refl _, nL, fun v z => by rw [hdL] at z; cases z⟩
    · obtain ⟨h1, h2, h3, h4, h5⟩ := pins p hp
      refine ⟨h1, h2, ?_, h4, h5⟩
      rcases List.mem_append.mp hp with hp | hp
      · exact Nat.le_of_lt (gc.pn p hp)
      · exact Nat.le_of_lt (gc.ip p hp)
  · obtain ⟨h1, h2, _⟩ := I1.pin p (List.mem_append_right _ (List.mem_append_right _ hp))
    refine ⟨h1, h2, fun q hq => ?_⟩
    rcases List.mem_cons.mp hq with rfl | hq
    · exact (hxp p hp).1.symm
    · exact (hxp p hp).2 q hq
  · refine k.ok xp2 m (ys ++ [x]) H2 s2 s2 .next (fun p hp => ⟨((W.xpk p hp).2.2.2.2 _ List.mem_cons_self).symm, fun q hq => (W.xpk p hp).2.2.2.2 q (List.mem_cons_of_mem _ hq)⟩) ?_ (Heap.lt_size (W.ppk _ List.mem_cons_self).1) ⟨W.gz, fun r hr => ⟨W.gpk r hr, (hg'.at_ r hr).2⟩⟩ ⟨σ, H2, ?_, q2 H2 ry⟩
    · rw [List.length_append, List.length_singleton]
      omega
    · exact GP.rebase gc.ok ⟨rfl, rfl⟩ gc.fr gc.hd I1 eL List.mem_cons_self (fun p hp => ⟨List.mem_cons_of_mem _ hp, (pins p hp).2.2.1⟩) (fun p hp => (pins p hp).2.2.2) W
end
end Z
/-! ### for over a plain walk within a generator's body -/
namespace Z
open PySem PySem.Spec PyProof.Rows L2
theorem gc2_loop {g : GP} {A : Around} {ip : List (Addr × Obj)} {c c' : Code} {fs : List Frame} {gd : Bool → Bool} {k : Result → Sem PySem.Fin} {l kp : List Value} {p : Pos} (gc : GC2 g A ip c fs gd) (hw : c'.weight = 0) (hu : c'.cUnits = 0) :
    GC2 g A ip c' (.ret k none (gd false) l c p kp :: fs) id where
  ok := gc.ok
  fr := gc.fr
  hd := gc.hd
  pn := gc.pn
  ip := gc.ip
  over := (GenW.over_loop hw hu).trans gc.over
  split := by
    show (splitAtGen fs).map _ = none
    rw [gc.split]; rfl
  guard := by
    show (gd false || fs.any Frame.guarded) = false
    rw [gc.gd, gc.guard]; rfl
  gd := rfl
def tG2For (wi : TI) (gt : TG) (tb : TG2) : TG2 := fun D ys Hw σ H => wi σ H fun J H1 => ∃ W : Nat → Nat → List V → Hp → L2.St → Hp → Prop, (∃ m, W 0 m ys Hw σ H1) ∧ ∀ i m ys Hw σ H, W i m ys Hw σ H →
  (J.stop i H ∧ D.nx ys Hw σ H) ∨ (J.go i H ∧ ∃ N : List V → Hp → L2.St → Hp → Prop, (∀ ys' Hw' σ' H', N ys' Hw' σ' H' → ∃ m', m' < m ∧ W (i + 1) m' ys' Hw' σ' H') ∧ ∀ x H', J.yld i H x H' → gt x σ H' fun σ2 H2 => tb { D with nx := N, ct := N, bk := D.nx } ys Hw σ2 H2)
theorem deadS {α : Type} {M : Model} {A : Around} {t1 : Sem α} {E : Value → Shared → Prop} {s : Shared} {Q : α → Shared → Prop} {n : Nat} {G ga : Array GenState} (hn : n ≤ s.gens.size) (d : DG G ga s.gens)
    (h : wpAny M A t1 Q (fun _ _ => False) { s with gens := ga }) : wpAny M A t1 (fun a s1 => n ≤ s1.gens.size ∧ ∃ gb, DG G gb s1.gens ∧ Q a { s1 with gens := gb }) E s :=
  GenW.wpAny_gsz hn (wpAny_mono (wpAny_dead (a := { s with gens := ga }) (gb := s.gens) d h) (fun a b ⟨ga, d, q⟩ hz => ⟨hz, ga, d, q⟩) fun _ _ ⟨_, _, q⟩ _ => q.elim)
theorem gpn_of {g : GP} {gp : List (Nat × GenState)} {s s' : Shared} {ga : Array GenState} (h : Gpn g gp s) (hz : g.gno + 1 ≤ s'.gens.size) (d : DG s.gens ga s'.gens) : Gpn g gp s' :=
  ⟨hz, fun r hr => let ⟨h1, h2, h3⟩ := h.at_ r hr; ⟨d.kept _ _ h1 h2, h2, h3⟩⟩
theorem gs2_for {z : Bool} {g : GP} {S : GSpec} {A : Around} {tg iter : Expr} {body : List Stmt} {wi : TI} {gt : TG} {tb : TG2} {pos : Pos} (hi : ∀ sw Hw, PI (g.cx A sw Hw) tg iter wi) (hg : ∀ sw Hw, PG (g.cx A sw Hw) tg gt) (hb : GSs2 z g S A body tb)
    (hs : ∀ x, foldedSetIterable iter g.env x = pure x := by intro _; rfl) : GS2 z g S A (.For tg iter body [] pos) (tG2For wi gt tb) := by
  refine ⟨fun ip xp gp m ys Hw sw c fs K J gd lv s σ H D gc hxp hm hz h0 hgp k I ht => ?_⟩
  refine sg_For hs ?_
  rw [gc.over]
  refine wpAny_mono (deadS (n := g.gno + 1) hgp.sz (DG.start s.gens) ((hi sw Hw).run (ip ++ xp) { s with gens := s.gens.map deadG } σ H _ (Inv.gens I (bare_dead I.bare)) ht)) (fun v s1 ⟨hz1, g1, d1, h1⟩ => ?_) fun x s' hx => hx
  refine wpAny_mono (deadS (n := g.gno + 1) hz1 d1 h1) (fun itv s2 ⟨hz2, g2, d2, h2⟩ p => ?_) fun x s' hx => hx
  obtain ⟨it, fp, tn, Jt, H2, e, I2, T, st2, f2, W, ⟨m0, w0⟩, turn⟩ := h2
  subst e
  have hb2 : AllBare s2.gens := bare_of d2 I.bare (show AllBare g2 from I2.bare)
  have I2 := Inv.gens (s := { s2 with gens := g2 }) (g := s2.gens) I2 hb2
  have hgp2 := gpn_of hgp hz2 d2
  have gl := fun (kk : Result → Sem PySem.Fin) => gc2_loop (k := kk) (c' := .forLoop tg (.ref it) body [] g.env) (l := lv []) (kp := []) (p := p) gc rfl rfl
  have hn0 : ∀ b ∈ fp, g.n0 < b := fun b hb => by
    obtain ⟨_, f3, _, f5, _⟩ := f2 b hb
    have f3 : b ≠ g.env.locals := f3
    rw [gc.ok.loc] at f3
    rcases f5 with f5 | f5
    · cases f5
    · have f5 : (tr g.n0 sw).heap.objs.size ≤ b := f5
      rw [tr_size (Nat.le_of_lt hz)] at f5
      exact Nat.lt_of_le_of_ne f5 (Ne.symm f3)
  have stat : ∀ {sw' : Shared} {Hw' H' : Hp} {xp' : List (Addr × Obj)}, g.n0 < sw'.heap.objs.size → (∀ b ∈ fp, H' b = none) → (∀ p ∈ xp', p.1 ∉ fp) → ∀ b ∈ fp, FpOk (g.cx A sw' Hw') (ip ++ xp') H' b := fun {sw' Hw' H' xp'} hz' hn hxf b hb => by
    obtain ⟨_, f3, f4, _, f6, f7⟩ := f2 b hb
    refine ⟨hn b hb, f3, f4, .inr ?_, f6, fun q hq => ?_⟩
    · show (tr g.n0 sw').heap.objs.size ≤ b
      rw [tr_size (Nat.le_of_lt hz')]
      exact Nat.le_of_lt (hn0 b hb)
    · have hq : q ∈ (g.pn ++ ip) ++ xp' := by rw [List.append_assoc]; exact hq
      rcases List.mem_append.mp hq with hq | hq
      · refine f7 q ?_
        rcases List.mem_append.mp hq with hq | hq
        · exact List.mem_append_left _ hq
        · exact List.mem_append_right _ (List.mem_append_left _ hq)
      · exact fun z => hxf q hq (by rw [z]; exact hb)
  have loop : ∀ (j i : Nat) (xp : List (Addr × Obj)) (m : Nat) (ys : List V) (Hw : Hp) (sw s : Shared) (σ : L2.St) (H : Hp), XpOk g ip xp → (∀ p ∈ xp, p.1 ∉ fp) → m + ys.length = sizeLine → g.n0 < sw.heap.objs.size → Gpn g gp s → W i j ys Hw σ H → Inv (g.cx A sw Hw) (ip ++ xp) σ H s → tn i s.heap → (∀ b ∈ fp, H b = none) →
      Sg (model g.P g.w) A (Ph g S A m ys Hw sw xp) (.forLoop tg (.ref it) body [] g.env) ((model g.P g.w).den (.forLoop tg (.ref it) body [] g.env))
        (.ret (fun r => ((match r with | .ok f => (.pure f : Sem Flow) | .error e => .raise e).onRaise (cameBack g.env)).wrap K J gd lv) none (gd false) (lv []) c p [] :: fs) s := by
    intro j
    induction j using Nat.strongRecOn with
    | ind j ih =>
      intro i xp m ys Hw sw s σ H hxp hxf hm hz hgp w I st fr
      refine sg_forLoop ?_
      rw [(gl _).over]
      rcases turn i j ys Hw σ H w with ⟨stop, qn⟩ | ⟨go, N, hN, step⟩
      · refine wpAny_mono (deadS (n := g.gno + 1) hgp.sz (DG.start s.gens) (T.done (g.cx A sw Hw) rfl rfl rfl rfl i (ip ++ xp) { s with gens := s.gens.map deadG } σ H (fun _ _ => False) (Inv.gens I (bare_dead I.bare)) (stat hz fr hxf) st stop)) (fun r' s4 ⟨hz4, g4, d4, hr, I4⟩ => ?_) fun x s' hx => hx
        subst hr
        have I4 := Inv.gens (s := { s4 with gens := g4 }) (g := s4.gens) I4 (bare_of d4 I.bare (show AllBare g4 from I4.bare))
        refine sg_again rfl ?_
        exact sg_leaf (.ok .next) (k.ok xp m ys Hw sw s4 .next hxp hm hz (gpn_of hgp hz4 d4) ⟨σ, H, I4, qn⟩)
      · refine wpAny_mono (deadS (n := g.gno + 1) hgp.sz (DG.start s.gens) (T.item (g.cx A sw Hw) rfl rfl rfl rfl i (ip ++ xp) { s with gens := s.gens.map deadG } σ H (fun _ _ => False) (Inv.gens I (bare_dead I.bare)) (stat hz fr hxf) st go)) (fun r' s4 ⟨hz4, g4, d4, u, hr, h4⟩ => ?_) fun x s' hx => hx
        subst hr
        refine wpAny_mono (deadS (n := g.gno + 1) hz4 d4 h4) (fun _ s5 ⟨hz5, g5, d5, x, H5, I5, r5, y5, st5, fr5⟩ => ?_) fun x s' hx => hx
        have I5 := Inv.gens (s := { s5 with gens := g5 }) (g := s5.gens) I5 (bare_of d5 I.bare (show AllBare g5 from I5.bare))
        have hgp5 := gpn_of hgp hz5 d5
        have I5' : Inv (g.cx A sw Hw) ((ip ++ pinsAt fp s5.heap) ++ xp) σ H5 s5 := Inv.sub (I5.pinned (stat hz fr5 hxf) (T.obj _ _ st5)) fun q hq => (by
          rcases List.mem_append.mp hq with hq | hq
          · rcases List.mem_append.mp hq with hq | hq
            · exact List.mem_append_left _ (List.mem_append_left _ hq)
            · exact List.mem_append_right _ hq
          · exact List.mem_append_left _ (List.mem_append_right _ hq))
        refine wpAny_mono (deadS (n := g.gno + 1) hgp5.sz (DG.start s5.gens) ((hg sw Hw).run _ { s5 with gens := s5.gens.map deadG } σ H5 x u _ (Inv.gens I5' (bare_dead I5.bare)) r5 (step x H5 y5))) (fun _ s6 ⟨hz6, g6, d6, σ6, H6, I6, q6⟩ => ?_) fun x s' hx => hx
        have I6 := Inv.gens (s := { s6 with gens := g6 }) (g := s6.gens) I6 (bare_of d6 I5.bare (show AllBare g6 from I6.bare))
        refine hb.run (ip ++ pinsAt fp s5.heap) xp gp m ys Hw sw _ _ _ _ id id s6 σ6 H6 { D with nx := N, ct := N, bk := D.nx } { gl _ with ip := fun q hq => ?_ } (fun p hp => ⟨(hxp p hp).1, fun q hq => ?_⟩) hm hz h0 (gpn_of hgp5 hz6 d6) ⟨fun xp' m' ys' Hw' sw' s7 f hxp' hm' hz' hg7 hs => ?_⟩ I6 q6
        · rcases List.mem_append.mp hq with hq | hq
          · exact gc.ip q hq
          · exact hn0 _ (of_pinsAt hq).1
        · rcases List.mem_append.mp hq with hq | hq
          · exact (hxp p hp).2 q (List.mem_append_left _ hq)
          · rcases List.mem_append.mp hq with hq | hq
            · exact (hxp p hp).2 q (List.mem_append_right _ hq)
            · exact fun z => hxf p hp (by rw [← z]; exact (of_pinsAt hq).1)
        have hxp2 : XpOk g ip xp' := fun p hp => ⟨(hxp' p hp).1, fun q hq => (hxp' p hp).2 q (by
          rcases List.mem_append.mp hq with hq | hq
          · exact List.mem_append_left _ hq
          · exact List.mem_append_right _ (List.mem_append_left _ hq))⟩
        have hxf2 : ∀ p ∈ xp', p.1 ∉ fp := fun p hp z => by
          obtain ⟨o, e, _⟩ := T.obj _ _ st5 _ z
          exact (hxp' p hp).2 (p.1, o) (List.mem_append_right _ (List.mem_append_right _ (mem_pinsAt z e))) rfl
        have down : ∀ {σ7 : L2.St} {H7 : Hp}, Inv (g.cx A sw' Hw') ((ip ++ pinsAt fp s5.heap) ++ xp') σ7 H7 s7 → Inv (g.cx A sw' Hw') (ip ++ xp') σ7 H7 s7 := fun {σ7 H7} I7 => Inv.sub I7 fun q hq => (by
          rcases List.mem_append.mp hq with hq | hq
          · exact List.mem_append_left _ (List.mem_append_left _ hq)
          · exact List.mem_append_right _ hq)
        have again : ∀ {σ7 : L2.St} {H7 : Hp}, Inv (g.cx A sw' Hw') ((ip ++ pinsAt fp s5.heap) ++ xp') σ7 H7 s7 → N ys' Hw' σ7 H7 → Sg (model g.P g.w) A (Ph g S A m' ys' Hw' sw' xp') (.forLoop tg (.ref it) body [] g.env) (.pure (.again (.forLoop tg (.ref it) body [] g.env)))
            (.ret (fun r => ((match r with | .ok f => (.pure f : Sem Flow) | .error e => .raise e).onRaise (cameBack g.env)).wrap K J gd lv) none (gd false) (lv []) c p [] :: fs) s7 := fun {σ7 H7} I7 n7 => by
          obtain ⟨m2, hm2, w7⟩ := hN ys' Hw' σ7 H7 n7
          refine sg_again rfl (ih m2 hm2 (i + 1) xp' m' ys' Hw' sw' s7 σ7 H7 hxp2 hxf2 hm' hz' hg7 w7 (down I7) (T.keep _ _ _ st5 fun b hb o e => (I7.pin (b, o) (List.mem_append_right _ (List.mem_append_left _ (List.mem_append_right _ (mem_pinsAt hb e))))).1) fun b hb => ?_)
          obtain ⟨o, e, d⟩ := T.obj _ _ st5 b hb
          exact (I7.pin (b, o) (List.mem_append_right _ (List.mem_append_left _ (List.mem_append_right _ (mem_pinsAt hb e))))).2.1
        cases f with
        | next =>
          obtain ⟨σ7, H7, I7, n7⟩ := hs
          exact again I7 n7
        | cont =>
          obtain ⟨σ7, H7, I7, n7⟩ := hs
          exact again I7 n7
        | brk =>
          obtain ⟨σ7, H7, I7, q7⟩ := hs
          exact sg_leaf (.ok .next) (k.ok xp' m' ys' Hw' sw' s7 .next hxp2 hm' hz' hg7 ⟨σ7, H7, down I7, q7⟩)
        | ret v =>
          obtain ⟨x7, σ7, H7, I7, r7, q7⟩ := hs
          exact sg_leaf (.ok (.ret v)) (k.ok xp' m' ys' Hw' sw' s7 (.ret v) hxp2 hm' hz' hg7 ⟨x7, σ7, H7, down I7, r7, q7⟩)
  exact loop m0 0 xp m ys Hw sw s2 σ H2 hxp (fun p hp z => (f2 _ z).2.2.2.2.2 p (List.mem_append_right _ (List.mem_append_right _ hp)) rfl) hm hz hgp2 w0 I2 st2 fun b hb => (f2 b hb).1
end Z
/-! ### a generator def's promise, and calls of it -/
namespace Z
open PySem PySem.Spec PyProof.Rows L2
def Rdy (g : GP) (S : GSpec) (A : Around) (m : Nat) (ys : List V) (H : Hp) (pp : List (Addr × Obj)) (gp : List (Nat × GenState)) (gs : GenState) : Prop := match gs with
  | .fresh c => ∀ s2 H2 xp, Wk g pp gp xp s2 H2 → S.ry H H2 → Sg (model g.P g.w) A (Ph g S A m ys H2 s2 xp) c ((model g.P g.w).den c) [] s2
  | .suspended k _ c _ fs _ => ∀ s2 H2 xp, Wk g pp gp xp s2 H2 → S.ry H H2 → Sg (model g.P g.w) A (Ph g S A m ys H2 s2 xp) c (k (.send .none)) fs s2
  | _ => False
abbrev SpG2 := List V → Hp → GSpec → Prop
/-- a generator that hasn't begun -/
structure Made2 (P : Program) (w : World) (base : Heap) (k : Nat) (outer : List Env) (H : Hp) (s : Shared) (S : GSpec) (s' : Shared) (g : GP) (a : Addr) (go : Obj) (c : Code) (pp : List (Addr × Obj)) : Prop where
  eP : g.P = P
  ew : g.w = w
  eb : g.base = base
  eo : g.outer = outer
  n0 : g.n0 = s.heap.objs.size
  gz : s.gens.size ≤ g.gno
  ok : g.Ok
  pn : g.pn = [(a, go)]
  ppm : (a, go) ∈ pp
  lt : a < s'.heap.objs.size
  cls : go.cls = .type "generator"
  dat : ∃ nm qn, go.data = .fields #[.int g.gno 0, nm, qn]
  slots : go.slots = #[]
  gen : s'.gens[g.gno]? = some (.fresh c)
  os : s'.os = s.os
  bare : AllBare s'.gens
  keep : ∀ b o, s.heap.get? b = some o → s'.heap.get? b = some o
  priv : Priv g pp s' H
  rdy : ∀ A, Room k A → A.frames = some outer → Rdy g S A sizeLine [] H pp [] (.fresh c)
structure GFn2 (P : Program) (w : World) (K : PySem.W.Frag) (mg : Str → Option Value) (base : Heap) (k : Nat) (f : Addr) (fd : FuncData) (ps : List Str) (sp : SpG2) : Prop where
  len : ∀ vs H S, sp vs H S → vs.length = ps.length
  run : ∀ (A : Around) (outer : List Env) (s : Shared) (H : Hp) (args : Args) (us : List Value) (vs : List V) (S : GSpec), Room k A → Env0 P w K mg base A outer s H → BindsTo s fd args (ps.zip us) → Vals vs us → sp vs H S →
    codeAny (model P w) A (.call (.ref f) args) (fun r s' => match r with | .ok (.ret u) => ∃ g a go c pp, u = .ref a ∧ Made2 P w base k outer H s S s' g a go c pp | _ => False) s
theorem cells_nil : ∀ {names : List (Str × NameKind)} {n : Nat} {acc : List (Str × Addr)}, (∀ y ∈ names, y.2 ≠ .cell) → cellsFrom n names acc = acc
  | [], _, _, _ => rfl
  | (x, k) :: r, n, acc, h => by
    unfold cellsFrom
    have hk : k ≠ .cell := h (x, k) List.mem_cons_self
    have : (k == NameKind.cell) = false := by cases k <;> first | rfl | exact absurd rfl hk
    rw [this]
    exact cells_nil fun y hy => h y (List.mem_cons_of_mem _ hy)
/-- a generator def, by its body -/
theorem gfn2_of {P : Program} {w : World} {K : PySem.W.Frag} {mg : Str → Option Value} {base : Heap} {k : Nat} {f : Addr} {name qual : Str} {params : Arguments} {body : List Stmt} {scope : Scope} {dV kV doc pm cdv ct oc : Value} {an od : Option Addr}
    {osl : Array (Option Value)} {N ps : List Str} {sp : SpG2} (lk : K.lookup f = some ⟨oc, od, .func (PySem.W.fnOf name qual params body scope dV kV doc pm an cdv ct), osl⟩) (hcd : PySem.W.codeIn K cdv qual = true) (S : GScope N ps scope) (noc : ∀ y ∈ scope.names, y.2 ≠ .cell)
    (len : ∀ vs H S, sp vs H S → vs.length = ps.length)
    (hbody : ∀ (A : Around) (outer : List Env) (n0 gno : Nat) (H : Hp) (vs : List V) (Sx : GSpec) (pn : List (Addr × Obj)), Room k (A.deeper (envOfC qual scope n0 f cdv)) → sp vs H Sx →
      ∃ t, GSs2 true ⟨P, w, K, mg, base, N, envOfC qual scope n0 f cdv, outer, n0, pn, gno⟩ Sx A body t ∧ ∀ H2, Sx.ry H H2 → t { nx := fun ys Hw _ H' => Sx.en ys Hw H', rt := fun ys Hw v H' => v = .non ∧ Sx.en ys Hw H' } [] H2 (start N vs) H2) :
    GFn2 P w K mg base (k + 1) f (PySem.W.fnOf name qual params body scope dV kV doc pm an cdv ct) ps sp := by
  refine ⟨len, fun A outer s H args us vs Sx hr e0 hb r hsp => ?_⟩
  have hl := len _ _ _ hsp
  have KX : K.In s.heap := e0.mod.kin.keeps fun b o e => (e0.bs b o e).1
  have lim : s.heap.NoLimit := e0.mod.nolimit.keeps fun b o e => (e0.bs b o e).1
  have hkind : ∀ y ∈ ps.zip us, scope.names.lookup y.1 = some .local ∨ (scope.names.lookup y.1 = some .cell ∧ ((cellsFrom (s.heap.objs.size + 1) scope.names []).lookup y.1).isSome = true) := fun ⟨n, v⟩ hy => by
    rcases S.par n (List.of_mem_zip hy).1 with q | q
    · exact .inl q
    · exact .inr ⟨q, PySem.W.cellsFrom_some _ _ _ (.inl q)⟩
  refine codeAny_call_generator hr.depth (KX _ _ lk) rfl S.co S.gen rfl (PySem.W.codeRec_of KX hcd) (hb _ _ _ _ ?_)
  refine wpAny_newFunctionEnv_cells S.kind hkind fun env he s1 x => ?_
  subst he
  have lim1 : s1.heap.NoLimit := lim.keeps x.toInCall.keep
  refine ⟨lim1, ?_⟩
  obtain ⟨h1, tk, es1, hk1⟩ := x.done
  have os1 : s1.os = s.os := by rw [es1]
  have gen1 : s1.gens = s.gens := by rw [es1]
  have lt1 : s.heap.objs.size < s1.heap.objs.size := x.toInCall.ns.lt
  have sz1 : s.heap.objs.size ≤ s1.heap.objs.size := Nat.le_of_lt lt1
  have kp1 : ∀ b o, s.heap.get? b = some o → s1.heap.get? b = some o := x.toInCall.keep
  have I1 : Inv (gcxOf P w K mg base N qual scope f cdv A outer s H (fun _ _ _ => False) []) [] (start N vs) H s1 := inv_startG S hr.hd e0 hl r x
  have frlt : ∀ b ∈ frs outer, b < s.heap.objs.size := fun b hb => by
    obtain ⟨_, o, ho, _⟩ := e0.funs.mem hb
    exact Heap.lt_size ho
  have main : ∀ (go : Obj) (nm qn : Value) (tk2 : Nat), go.cls = .type "generator" → go.data = .fields #[.int s1.gens.size 0, nm, qn] → go.slots = #[] → (∀ h : Heap, (h.push go).get? h.objs.size = some go) →
      ∃ g a go' c pp, (Value.ref s1.heap.objs.size) = .ref a ∧ Made2 P w base (k + 1) outer H s Sx { s1 with gens := s1.gens.push (.fresh (.func body (envOfC qual scope s.heap.objs.size f cdv))), toks := tk2, heap := s1.heap.push go } g a go' c pp := by
    intro go nm qn tk2 hgc hgd0 hgs hgp
    obtain ⟨mL, ⟨oL, es, ep, hoL, hdL, hrL⟩, _⟩ := id I1.loc
    have hoL : s1.heap.get? s.heap.objs.size = some oL := hoL
    have hpushed : (s1.heap.push go).get? s1.heap.objs.size = some go := hgp _
    have kp2 : ∀ b o, s1.heap.get? b = some o → (s1.heap.push go).get? b = some o := fun b o e => Heap.get?_push_of_some _ e
    have nfr : ∀ b, s.heap.objs.size ≤ b → b ∉ frs outer := fun b hb z => absurd (Nat.lt_of_lt_of_le (frlt b z) hb) (Nat.lt_irrefl _)
    have gok : GP.Ok ⟨P, w, K, mg, base, N, envOfC qual scope s.heap.objs.size f cdv, outer, s.heap.objs.size, [(s1.heap.objs.size, go)], s1.gens.size⟩ := by
      refine ⟨e0.mod, S.kind, rfl, rfl, rfl, cells_nil noc, fun y => ⟨fun z => ?_, fun z => ?_⟩, rfl, e0.bsz, frlt⟩
      · exact noc _ (PySem.mem_of_lookup z) rfl
      · exact S.nofree _ (PySem.mem_of_lookup z) rfl
    have hgd : ∀ v, go.data ≠ .cell v := fun v q => by rw [hgd0] at q; cases q
    have hdc : ∀ v, oL.data ≠ .cell v := fun v q => by rw [hdL] at q; cases q
    refine ⟨⟨P, w, K, mg, base, N, envOfC qual scope s.heap.objs.size f cdv, outer, s.heap.objs.size, [(s1.heap.objs.size, go)], s1.gens.size⟩, s1.heap.objs.size, go, .func body (envOfC qual scope s.heap.objs.size f cdv), [(s.heap.objs.size, oL), (s1.heap.objs.size, go)], rfl, ?_⟩
    refine ⟨rfl, rfl, rfl, rfl, rfl, by show s.gens.size ≤ s1.gens.size; rw [gen1]; exact Nat.le_refl _, gok, rfl, List.mem_cons_of_mem _ List.mem_cons_self, ?_, hgc, ⟨nm, qn, hgd0⟩, hgs, Array.getElem?_push_size .., os1, ?_, fun b o e => kp2 b o (kp1 b o e), ⟨fun p hp => ?_⟩, fun Aw hrw hfr => ?_⟩
    · show _ < (s1.heap.push _).objs.size
      rw [Heap.size_push]; exact Nat.lt_succ_self _
    · exact AllBare.push (by rw [gen1]; exact e0.bare) rfl
    · have hp : p = (s.heap.objs.size, oL) ∨ p = (s1.heap.objs.size, go) := by simpa using hp
      rcases hp with rfl | rfl
      · exact ⟨kp2 _ _ hoL, I1.free, Nat.le_refl _, nfr _ (Nat.le_refl _), hdc⟩
      · exact ⟨hpushed, I1.hok.fresh (Nat.le_refl _), sz1, nfr _ sz1, hgd⟩
    · intro s2 H2 xp W ry
      obtain ⟨t, ht, hq⟩ := hbody Aw outer s.heap.objs.size s1.gens.size H vs Sx [(s1.heap.objs.size, go)] (hrw.deeper _) hsp
      have I2 := GP.rebase (A := Aw) (ip := []) gok ⟨rfl, rfl⟩ hfr hrw.hd I1 hoL List.mem_cons_self (fun p hp => ?_) (fun p hp => ?_) W
      · refine sg_func ?_
        refine ht.run [] xp [] sizeLine [] H2 s2 _ [] _ _ id id s2 (start N vs) H2 _ ⟨gok, hfr, hrw.hd, fun p hp => ?_, fun p hp => (by cases hp), GenW.over_func, rfl, rfl, rfl⟩ (fun p hp => ⟨((W.xpk p hp).2.2.2.2 _ List.mem_cons_self).symm, fun q hq => (W.xpk p hp).2.2.2.2 q (List.mem_cons_of_mem _ (by simpa using hq))⟩) (Nat.add_zero _) (Heap.lt_size (W.ppk _ List.mem_cons_self).1) (fun _ => rfl) ⟨W.gz, fun r hr => (by cases hr)⟩ ⟨fun xp' m ys Hw sw s' fl hxp hm hz hg hs => ?_⟩ I2 (hq H2 ry)
        · rw [List.mem_singleton.mp hp]
          exact lt1
        · cases fl with
          | next =>
            obtain ⟨σ', H', I', q⟩ := hs
            exact sg_end (.ok (.ret .none)) <| ph_ret.mpr ⟨.inl rfl, H', ⟨I'.os, I'.bare, I'.base, I'.hok⟩, fun p hp => (I'.pin p (List.mem_append_left _ hp)).1, fun p hp => ⟨(I'.pin p (List.mem_append_right _ hp)).1, (I'.pin p (List.mem_append_right _ hp)).2.1⟩, q⟩
          | brk => obtain ⟨_, _, _, q⟩ := hs; exact False.elim q
          | cont => obtain ⟨_, _, _, q⟩ := hs; exact False.elim q
          | ret u =>
            obtain ⟨v, σ', H', I', rv, ev, q⟩ := hs
            subst ev
            have eu : u = Value.none := rv
            subst eu
            exact sg_end (.ok (.ret .none)) <| ph_ret.mpr ⟨.inl rfl, H', ⟨I'.os, I'.bare, I'.base, I'.hok⟩, fun p hp => (I'.pin p (List.mem_append_left _ hp)).1, fun p hp => ⟨(I'.pin p (List.mem_append_right _ hp)).1, (I'.pin p (List.mem_append_right _ hp)).2.1⟩, q⟩
      · have hp : p ∈ [(s1.heap.objs.size, go)] := by simpa using hp
        rw [List.mem_singleton.mp hp]
        exact ⟨List.mem_cons_of_mem _ List.mem_cons_self, Nat.ne_of_gt lt1⟩
      · have hp : p ∈ [(s1.heap.objs.size, go)] := by simpa using hp
        rw [List.mem_singleton.mp hp]
        exact ⟨nfr _ sz1, hgd⟩
  exact main _ _ _ _ rfl rfl rfl fun h => Heap.get?_push_size _ rfl
end Z
/-! ### next of such a generator; its consumer -/
namespace Z
open PySem PySem.Spec PyProof.Rows L2
def Goes2 (M : Model) (A : Around) (Φ : End → Shared → Prop) (gs : GenState) (s : Shared) : Prop := match gs with
  | .fresh c => Sg M A Φ c (M.den c) [] s
  | .suspended k _ c _ fs _ => Sg M A Φ c (k (.send .none)) fs s
  | _ => False
theorem wpAny_resume2 {M : Model} {A : Around} {Φ : End → Shared → Prop} {E : Value → Shared → Prop} {s : Shared} {g : Nat} {gs : GenState} {l : List Value} {α : Type} {k : GenResult → Sem α} {Q : α → Shared → Prop} (hg : s.gens[g]? = some gs)
    (hgo : Goes2 M A Φ gs (s.setGen g .running)) (h : ∀ e s1, e.quiet = true → Φ e s1 → wpAny M A (k e.result) Q E (s1.setGen g e.genState)) : wpAny M A (.resume g (.send .none) l k) Q E s := by
  intro Γ p hΓ
  rw [Sem.wp_resume]
  have hB : ∀ c, (Γ.wake c p).Woken A := fun c => hΓ.wake c p
  cases gs with
  | fresh c =>
    obtain ⟨e₁, s₁, hr, hq, he⟩ := hgo (Γ.wake c p) p rfl (hB c)
    exact ⟨_, _, by unfold Wakes; rw [hg]; exact ⟨e₁, s₁, hr, hq, rfl, rfl⟩, h e₁ s₁ hq he Γ p hΓ⟩
  | suspended k₀ l₀ c₀ p₀ fs₀ cl =>
    obtain ⟨e₁, s₁, hr, hq, he⟩ := hgo (Γ.wake c₀ p) p₀ rfl (hB c₀)
    exact ⟨_, _, by unfold Wakes; rw [hg]; exact ⟨e₁, s₁, hr, hq, rfl, rfl⟩, h e₁ s₁ hq he Γ p hΓ⟩
  | running => exact hgo.elim
  | finished => exact hgo.elim
theorem next2 {g : GP} {S : GSpec} {A : Around} {E : Value → Shared → Prop} {a : Addr} {s : Shared} {gs : GenState} {m : Nat} {ys : List V} {H H2 : Hp} {pp xp : List (Addr × Obj)} {gp : List (Nat × GenState)} {Q : Option Value → Shared → Prop} (hh : A.handled = none)
    (hl : s.heap.NoLimit) (hroom : A.depth < recursionLimit) (hg : s.heap.IsGen a g.gno) (hgs : s.gens[g.gno]? = some gs) (hr : Rdy g S A.in1 m ys H pp gp gs) (W : Wk g pp gp xp (s.setGen g.gno .running) H2) (ry : S.ry H H2)
    (hY : ∀ v s1 gs' x H1 pp' gp' m', m = m' + 1 → gs'.bare = true → isSusp gs' = true → RelV x v → Ft g (s.setGen g.gno .running) H2 s1 H1 → Priv g pp' s1 H1 → Gpn g gp' s1 → (∀ p ∈ g.pn, p ∈ pp') → (∀ p ∈ xp, s1.heap.get? p.1 = some p.2 ∧ H1 p.1 = none ∧ ∀ q ∈ pp', q.1 ≠ p.1) → S.yd ys x H2 H1 →
      Rdy g S A.in1 m' (ys ++ [x]) H1 pp' gp' gs' → Q (some v) (s1.setGen g.gno gs'))
    (hP : ∀ s1 H1, Ft g (s.setGen g.gno .running) H2 s1 H1 → (∀ p ∈ g.pn, s1.heap.get? p.1 = some p.2) → (∀ p ∈ xp, s1.heap.get? p.1 = some p.2 ∧ H1 p.1 = none) → S.en ys H2 H1 → ∀ h', (∀ b o, s1.heap.get? b = some o → h'.get? b = some o) → Q none { s1.setGen g.gno .finished with heap := h' }) :
    wpAny (model g.P g.w) A (pyNext (.ref a)) Q E s := by
  have hgo : Goes2 (model g.P g.w) A.in1 (Ph g S A.in1 m ys H2 (s.setGen g.gno .running) xp) gs (s.setGen g.gno .running) := by
    cases gs with
    | fresh c => exact hr _ H2 xp W ry
    | suspended k₀ l₀ c₀ p₀ fs₀ cl => exact hr _ H2 xp W ry
    | running => exact hr.elim
    | finished => exact hr.elim
  unfold pyNext
  refine wpAny_bind (wpAny_attempt (wpAny_callSpecial?_slot (name := Str.ofString "__next__") hg.typeIs slot_gen_next
    (wpAny_call_entry slot_gen_next hg.typeIs entry_gen_next ?_ (args_gen_next _))))
  show wpAny _ A.in1 (Builtin.Generator.genWake (.ref a) (.send .none)) _ _ s
  unfold Builtin.Generator.genWake
  refine wpAny_bind (wpAny_holding (wpAny_genNumber hg (wpAny_bind (wpAny_genState hgs ?_))))
  cases gs with
  | running => exact hgo.elim
  | finished => exact hgo.elim
  | _ =>
    refine wpAny_bind (wpAny_roomToWake hl hroom ?_)
    show wpAny _ A.in1 (.resume g.gno (.send .none) [] _) _ _ s
    refine wpAny_resume2 hgs hgo (fun e s₁ hq he => ?_)
    cases e with
    | ret x =>
      obtain ⟨hx, H1, F, pk, xk, q⟩ := ph_ret.mp he
      have hres : End.result (.ret x) = .returned .none := by
        rcases hx with hx | hx <;> rw [hx] <;> rfl
      first | rw [hres] | simp only [hres]
      show wpAny _ A.in1 (newExc (.type "StopIteration") [] >>= _) _ _ _
      refine wpAny_bind ?_
      simp only [newExc, newTuple]
      refine wpAny_bind (wpAny_newObj_type ?_ (by size_fits))
      refine wpAny_bind (m := firstArgMember _ _) (wpAny_of_eq (a := Value.none) (by first | rfl | (simp only [firstArgMember]; rfl)) ?_)
      refine wpAny_newObj_type ?_ (by size_fits)
      simp only [raiseNew]
      refine wpAny_bind (wpAny_bind (wpAny_handled ?_))
      first | rw [show A.in1.handled = none from hh] | rw [hh]
      refine wpAny_throw ?_
      refine wpAny_bind (wpAny_isInstance (T := "StopIteration") (b := true) ⟨_, Heap.get?_push_size _ rfl, rfl⟩ isSubtype_stop ?_)
      exact wpAny_pure (hP s₁ H1 F pk xk q _ fun b o hb => Heap.get?_push_of_some _ (Heap.get?_push_of_some _ hb))
    | susp v g₀ l₀ k₀ c₀ p₀ fs₀ =>
      cases m with
      | zero => exact False.elim he
      | succ m =>
        obtain ⟨x, H1, pp', gp', rv, F, pr, gpn, pk, xk, yd, more⟩ := he
        exact wpAny_pure ⟨v, rfl, wpAny_pure (hY v s₁ _ x H1 pp' gp' m rfl (End.bare_of_quiet hq) rfl rv F pr gpn pk xk yd more)⟩
section
variable {X : Cx} {pins : List (Addr × Obj)} {σ : L2.St} {g : GP}
/-- the consumer's own things are older than the generator -/
structure Old (X : Cx) (pins : List (Addr × Obj)) (n0 : Nat) : Prop where
  loc : X.env.locals < n0
  cell : ∀ x c, X.env.cells.lookup x = some c → c < n0
  pin : ∀ p ∈ X.pn ++ pins, p.1 < n0
theorem Old.of {H : Hp} {s : Shared} (I : Inv X pins σ H s) {n0 : Nat} (h : s.heap.objs.size ≤ n0) : Old X pins n0 where
  loc := Nat.lt_of_lt_of_le I.lt h
  cell := fun x c e => by
    obtain ⟨v, o, ho, _⟩ := I.cell x c e
    exact Nat.lt_of_lt_of_le (Heap.lt_size ho) h
  pin := fun p hp => Nat.lt_of_lt_of_le (Heap.lt_size (I.pin p hp).1) h
/-- behind a stretch of the generator -/
theorem Inv.ft {H H2 : Hp} {sw sw' s : Shared} {pp : List (Addr × Obj)} (I : Inv X pins σ H2 sw) (eh : sw'.heap = sw.heap) (eo : sw'.os = sw.os) (eP : g.P = X.prog) (ew : g.w = X.w) (eO : g.outer = X.stack) (old : Old X pins g.n0) (F : Ft g sw' H2 s H)
    (pr : ∀ p ∈ pp, s.heap.get? p.1 = some p.2 ∧ H p.1 = none ∧ g.n0 ≤ p.1 ∧ p.1 ∉ frs g.outer ∧ ∀ v, p.2.data ≠ .cell v) : Inv X (pins ++ pp) σ H s := by
  have un := F.un
  rw [eO] at un pr
  have hk := F.hok
  rw [eP, ew] at hk
  have up : ∀ {b : Addr} {o : Obj}, b < g.n0 → sw.heap.get? b = some o → (tr g.n0 sw').heap.get? b = some o := fun hb e => tr_get.mpr ⟨hb, by rw [eh]; exact e⟩
  have s0lt : ∀ {b : Addr} {o : Obj}, X.s_0.heap.get? b = some o → b < g.n0 ∧ b ≠ X.env.locals := fun {b o} e => by
    have h1 := Nat.lt_of_lt_of_le (Heap.lt_size e) I.ok.above
    exact ⟨Nat.lt_trans h1 old.loc, Nat.ne_of_lt h1⟩
  have notin : ∀ {b : Addr}, b ∉ X.fs → b ≠ X.env.locals → b ∉ frs X.stack := fun h1 h2 z => by
    rcases List.mem_cons.mp (I.stkSub _ z) with z | z
    · exact h2 z
    · exact h1 z
  have nil : ∀ b : Addr, b ∉ ([] : List Addr) := fun b => by simp
  have cellK : ∀ x c v, X.env.cells.lookup x = some c → sw.heap.IsCell c v → s.heap.IsCell c v := fun x c v e ⟨o, ho, hd⟩ => by
    obtain ⟨sl, e1⟩ := un.any (up (old.cell x c e) ho) (I.freeC x c e) (nil c)
    exact ⟨_, e1, hd⟩
  refine ⟨I.ok, ?_, F.bare, ⟨fun b o e n h1 h2 => ?_, fun b o e n h1 h2 => ?_, fun b o e n h2 => ?_, fun b o e h2 => ?_, fun b xs e => un.tups b xs (I.base.tups b xs e), fun b o u e => un.frzs b o u (I.base.frzs b o u e), fun b ps e => ?_⟩, ?_, fun x c e => ?_, ?_, fun x c e => ?_, fun p hp => ?_, hk, I.len⟩
  · exact (F.os.trans eo).trans I.os
  · obtain ⟨l1, l2⟩ := s0lt e
    exact un.keep b o (up l1 (I.base.keep b o e n h1 h2)) (I.base.free b o e n h2) (notin h1 l2) (nil b)
  · obtain ⟨l1, l2⟩ := s0lt e
    obtain ⟨sl, e1⟩ := I.base.slot b o e n h1 h2
    obtain ⟨sl2, e2⟩ := un.any (up l1 e1) (I.base.free b o e n h2) (nil b)
    exact ⟨sl2, e2⟩
  · obtain ⟨l1, l2⟩ := s0lt e
    obtain ⟨o', e1⟩ := I.base.there b o e h2
    exact un.free b o' (up l1 e1) (I.base.free b o e n h2) (nil b)
  · obtain ⟨l1, l2⟩ := s0lt e
    obtain ⟨o', e1⟩ := I.base.there b o e h2
    exact un.there b o' (up l1 e1) (nil b)
  · obtain ⟨m1, e1⟩ := I.base.tbls b ps e
    obtain ⟨m2, e2⟩ := un.tbls b _ e1
    exact ⟨m1 ++ m2, by rw [e2, Array.append_assoc]⟩
  · obtain ⟨m, ⟨o, es, ep, ho, hd, hr⟩, hl⟩ := I.loc
    obtain ⟨sl, e1⟩ := un.any (up old.loc ho) I.free (nil _)
    refine ⟨m, ⟨_, es, ep, e1, hd, hr⟩, fun i x v h1 h2 h3 => ?_⟩
    obtain ⟨u, r, l⟩ := hl i x v h1 h2 h3
    refine ⟨u, r, ?_⟩
    rcases l with l | ⟨k, c, e, z⟩
    · exact .inl l
    · exact .inr ⟨k, c, e, cellK x c _ e z⟩
  · obtain ⟨v, z⟩ := I.cell x c e
    exact ⟨v, cellK x c v e z⟩
  · obtain ⟨m, ⟨o, es, ep, ho, _⟩, _⟩ := I.loc
    exact un.free _ o (up old.loc ho) I.free (nil _)
  · obtain ⟨v, o, ho, _⟩ := I.cell x c e
    exact un.free c o (up (old.cell x c e) ho) (I.freeC x c e) (nil c)
  · have hp : p ∈ (X.pn ++ pins) ++ pp := by rw [List.append_assoc]; exact hp
    rcases List.mem_append.mp hp with hp | hp
    · obtain ⟨h1, h2, h3, h4, h5⟩ := I.pin p hp
      have l := old.pin p hp
      exact ⟨un.keep p.1 p.2 (up l h1) h2 (notin h4 h3) (nil _), un.free p.1 p.2 (up l h1) h2 (nil _), h3, h4, h5⟩
    · obtain ⟨h1, h2, h3, h4, h5⟩ := pr p hp
      refine ⟨h1, h2, fun z => absurd (Nat.lt_of_lt_of_le old.loc h3) (by rw [z]; exact Nat.lt_irrefl _), fun z => ?_, h5⟩
      obtain ⟨_, o, ho, _⟩ := I.ok.funs.mem z
      exact absurd (Nat.lt_of_lt_of_le (s0lt ho).1 h3) (Nat.lt_irrefl _)
theorem wk_of {H : Hp} {s : Shared} {pp xp : List (Addr × Obj)} {gp : List (Nat × GenState)} (I : Inv X (pins ++ pp) σ H s) (eP : g.P = X.prog) (ew : g.w = X.w) (eb : g.base = X.base) (eO : g.outer = X.stack) (hz : g.gno < s.gens.size) (hgp : ∀ q ∈ gp, s.gens[q.1]? = some q.2 ∧ g.gno < q.1) (hxp : ∀ p ∈ xp, s.heap.get? p.1 = some p.2 ∧ H p.1 = none ∧ p.1 ∉ frs X.stack ∧ (∀ v, p.2.data ≠ .cell v) ∧ ∀ q ∈ pp, q.1 ≠ p.1) :
    Wk g pp gp xp (s.setGen g.gno .running) H where
  bare := allBare_setGen I.bare rfl
  gz := by rw [GenW.setGen_size]; exact hz
  gpk := fun q hq => by
    obtain ⟨h1, h2⟩ := hgp q hq
    show (s.gens.setIfInBounds g.gno .running)[q.1]? = _
    rw [Array.getElem?_setIfInBounds_ne (Nat.ne_of_lt h2)]
    exact h1
  bs := by rw [eb]; exact I.bs
  funs := by rw [eb, eO]; exact I.stack
  frf := by rw [eO]; exact I.stkFree
  ppk := fun p hp => let ⟨h1, h2, _⟩ := I.pin p (List.mem_append_right _ (List.mem_append_right _ hp)); ⟨h1, h2⟩
  hok := by rw [eP, ew]; exact I.hok
  xpk := by rw [eO]; exact hxp
end
end Z
/-! ### expressions that make such generators; for over one in a plain body -/
namespace Z
open PySem PySem.Spec PyProof.Rows L2
abbrev TGen2 := L2.St → Hp → (GSpec → Hp → Prop) → Prop
structure PGen2 (X : Cx) (k : Nat) (e : Expr) (t : TGen2) : Prop where
  run : ∀ (pins : List (Addr × Obj)) (s : Shared) (σ : L2.St) (H : Hp) (R : GSpec → Hp → Prop), Inv X pins σ H s → t σ H R → wpAny (model X.prog X.w) X.A (eval e X.env)
    (fun u s' => ∃ S H1 sc g a go c pp, R S H1 ∧ s.gens.size ≤ sc.gens.size ∧ Inv X pins σ H1 sc ∧ u = .ref a ∧ Made2 X.prog X.w X.base k X.stack H1 sc S s' g a go c pp) X.xe s
section
variable {X : Cx} {k : Nat} {f C : Addr} {fd : FuncData} {ps ks : List Str} {sp : SpG2} {dvs : List V} {ds : List Value} {x m : Str} {p pos pos' apos : Pos} {o : Expr} {ta : TE} {t tk : TA} {kws : List Keyword} {gf : List Value → List Value → List Value} {gV : List V → List V → List V}
theorem run_gfn2 {pins : List (Addr × Obj)} {σ : L2.St} {H : Hp} {s : Shared} {us : List Value} {vs : List V} {S : GSpec} {R : GSpec → Hp → Prop} {E1 : Value → Shared → Prop} (F : GFn2 X.prog X.w X.K X.mg X.base k f fd ps sp) (hr : Room k X.A) (hb : Binds X.K fd ps ds) (hd : Vals dvs ds)
    (I : Inv X pins σ H s) (r : Vals vs us) (h : sp (vs ++ dvs) H S) (hR : R S H) {s0 : Shared} (h0 : s0.gens.size ≤ s.gens.size) :
    wpAny (model X.prog X.w) X.A (call (.ref f) us) (fun u s' => ∃ S H1 sc g a go c pp, R S H1 ∧ s0.gens.size ≤ sc.gens.size ∧ Inv X pins σ H1 sc ∧ u = .ref a ∧ Made2 X.prog X.w X.base k X.stack H1 sc S s' g a go c pp) E1 s := by
  have r2 : Vals (vs ++ dvs) (us ++ ds) := r.append hd
  have hl2 : (us ++ ds).length = ps.length := by rw [← r2.length]; exact F.len _ _ _ h
  refine wpAny_call (codeAny_mono (F.run X.A X.stack s H ⟨us, []⟩ (us ++ ds) (vs ++ dvs) S hr I.env0 (hb s us I.kIn hl2) r2 h) fun r s' hq => ?_)
  cases r with
  | error e => exact False.elim hq
  | ok fl =>
    cases fl with
    | ret u =>
      obtain ⟨g, a, go, c, pp, e, M⟩ := hq
      exact ⟨S, H, s, g, a, go, c, pp, hR, h0, I, e, M⟩
    | next => exact False.elim hq
    | brk => exact False.elim hq
    | cont => exact False.elim hq
theorem run_gfn2K {pins : List (Addr × Obj)} {σ : L2.St} {H : Hp} {s : Shared} {us ws : List Value} {vs zs : List V} {S : GSpec} {R : GSpec → Hp → Prop} {E1 : Value → Shared → Prop} (F : GFn2 X.prog X.w X.K X.mg X.base k f fd ps sp) (hr : Room k X.A) {n : Nat} (hb : KBn X.K fd ps n ks gf gV)
    (I : Inv X pins σ H s) (r : Vals vs us) (rz : Vals zs ws) (l1 : vs.length = n) (l2 : zs.length = ks.length) (h : sp (gV vs zs) H S) (hR : R S H) {s0 : Shared} (h0 : s0.gens.size ≤ s.gens.size) :
    wpAny (model X.prog X.w) X.A (call (.ref f) us (ks.zip ws)) (fun u s' => ∃ S H1 sc g a go c pp, R S H1 ∧ s0.gens.size ≤ sc.gens.size ∧ Inv X pins σ H1 sc ∧ u = .ref a ∧ Made2 X.prog X.w X.base k X.stack H1 sc S s' g a go c pp) E1 s := by
  have r2 := hb.rel r rz
  refine wpAny_call (codeAny_mono (F.run X.A X.stack s H ⟨us, ks.zip ws⟩ (gf us ws) (gV vs zs) S hr I.env0 (hb.to s us ws I.kIn (by rw [← r.length]; exact l1) (by rw [← rz.length]; exact l2)) r2 h) fun r s' hq => ?_)
  cases r with
  | error e => exact False.elim hq
  | ok fl =>
    cases fl with
    | ret u =>
      obtain ⟨g, a, go, c, pp, e, M⟩ := hq
      exact ⟨S, H, s, g, a, go, c, pp, hR, h0, I, e, M⟩
    | next => exact False.elim hq
    | brk => exact False.elim hq
    | cont => exact False.elim hq
def tCallG2 (sp : SpG2) (dvs : List V) (t : TA) : TGen2 := fun σ H R => t σ H fun vs H1 => ∃ S, sp (vs ++ dvs) H1 S ∧ R S H1
theorem pgen2_call {e : Expr} {es : List Expr} {t : TA} (F : GFn2 X.prog X.w X.K X.mg X.base k f fd ps sp) (hr : Room k X.A) (hg : Gl X x) (hm : X.mg x = some (.ref f)) (hk : PySem.W.keepIn X.K (.ref f) = true) (hb : Binds X.K fd ps ds) (hd : Vals dvs ds)
    (ha : PA X (e :: es) t) (hdb : (x == ("__debug__" : Str)) = false := by decide) (he : starEach (e :: es) X.env = (false, eval e X.env) :: starEach es X.env := by rfl) (hpl : (backTo pos' (starEach es X.env)).any (·.1) = false := by rfl) :
    PGen2 X k (.Call (.Name x p) (e :: es) [] pos') (tCallG2 sp dvs t) := by
  refine ⟨fun pins s σ H R I h => ?_⟩
  refine wpAny_Call_Name_kw (ld_glob I hg hm ?_ hdb)
  refine PySem.W.callWith_K (h₀ := X.base) I.ok.mod.kin hk (GenW.wpAny_gsz (Nat.le_refl _) (wpAny_mono (ha.run pos' pins s σ H _ I h) (fun us s1 ⟨vs, H1, I1, r, S, q, hR⟩ hz => ⟨I1.kIn, ?_⟩) fun _ _ q _ => q)) he hpl
  exact run_gfn2 F hr hb hd I1 r q hR hz
def tCallGK2 (n m : Nat) (sp : SpG2) (gV : List V → List V → List V) (t tk : TA) : TGen2 := fun σ H R => t σ H fun vs H1 => tk σ H1 fun zs H2 => vs.length = n ∧ zs.length = m ∧ ∃ S, sp (gV vs zs) H2 S ∧ R S H2
theorem pgen2_callK {n : Nat} {e : Expr} {es : List Expr} (F : GFn2 X.prog X.w X.K X.mg X.base k f fd ps sp) (hr : Room k X.A) (hg : Gl X x) (hm : X.mg x = some (.ref f)) (hk : PySem.W.keepIn X.K (.ref f) = true) (hb : KBn X.K fd ps n ks gf gV)
    (ha : PA X (e :: es) t) (hkw : PK X kws tk) (hall : (backToKw pos (keywordEach kws X.env)).all (·.1.isSome) = true := by rfl) (hks : (backToKw pos (keywordEach kws X.env)).filterMap (·.1) = ks := by rfl)
    (hdb : (x == ("__debug__" : Str)) = false := by decide) (he : starEach (e :: es) X.env = (false, eval e X.env) :: starEach es X.env := by rfl)
    (hpl : ((backTo pos (starEach (e :: es) X.env)).any (·.1) || (backToKw pos (keywordEach kws X.env)).any (·.1.isNone)) = false := by rfl) :
    PGen2 X k (.Call (.Name x p) (e :: es) kws pos) (tCallGK2 n ks.length sp gV t tk) := by
  refine ⟨fun pins s σ H R I h => ?_⟩
  refine wpAny_Call_Name_kw (ld_glob I hg hm ?_ hdb)
  refine PySem.W.callWith_KW (h₀ := X.base) I.ok.mod.kin hk hall (GenW.wpAny_gsz (Nat.le_refl _) (wpAny_mono (ha.run pos pins s σ H _ I h) (fun us s1 ⟨vs, H1, I1, r, q⟩ hz1 => ?_) fun _ _ q _ => q)) hpl he
  refine GenW.wpAny_gsz hz1 (wpAny_mono (hkw.run pos pins s1 σ H1 _ I1 q) (fun ws s2 ⟨zs, H2, I2, rz, l1, l2, S, q2, hR⟩ hz => ⟨I2.kIn, ?_⟩) fun _ _ q _ => q)
  rw [hks]
  exact run_gfn2K F hr hb I2 r rz l1 l2 q2 hR hz
def tCallGK02 (m : Nat) (sp : SpG2) (gV : List V → List V → List V) (tk : TA) : TGen2 := fun σ H R => tk σ H fun zs H2 => zs.length = m ∧ ∃ S, sp (gV [] zs) H2 S ∧ R S H2
theorem pgen2_callK0 (F : GFn2 X.prog X.w X.K X.mg X.base k f fd ps sp) (hr : Room k X.A) (hg : Gl X x) (hm : X.mg x = some (.ref f)) (hk : PySem.W.keepIn X.K (.ref f) = true) (hb : KBn X.K fd ps 0 ks gf gV)
    (hkw : PK X kws tk) (hall : (backToKw pos (keywordEach kws X.env)).all (·.1.isSome) = true := by rfl) (hks : (backToKw pos (keywordEach kws X.env)).filterMap (·.1) = ks := by rfl)
    (hdb : (x == ("__debug__" : Str)) = false := by decide)
    (hpl : ((backTo pos (starEach [] X.env)).any (·.1) || (backToKw pos (keywordEach kws X.env)).any (·.1.isNone)) = false := by rfl) :
    PGen2 X k (.Call (.Name x p) [] kws pos) (tCallGK02 ks.length sp gV tk) := by
  refine ⟨fun pins s σ H R I h => ?_⟩
  refine wpAny_Call_Name_kw (ld_glob I hg hm ?_ hdb)
  refine PySem.W.callWith_KW0 (h₀ := X.base) I.ok.mod.kin hk hall (GenW.wpAny_gsz (Nat.le_refl _) (wpAny_mono (hkw.run pos pins s σ H _ I h) (fun ws s2 ⟨zs, H2, I2, rz, l2, S, q2, hR⟩ hz => ⟨I2.kIn, ?_⟩) fun _ _ q _ => q)) hpl
  rw [hks]
  exact run_gfn2K (us := []) (vs := []) F hr hb I2 .nil rz rfl l2 q2 hR hz
/-- the consumer ahead of the first item -/
theorem Inv.made {pins : List (Addr × Obj)} {σ : L2.St} {H : Hp} {sc s : Shared} {S : GSpec} {g : GP} {a : Addr} {go : Obj} {c : Code} {pp : List (Addr × Obj)} (I : Inv X pins σ H sc) (M : Made2 X.prog X.w X.base k X.stack H sc S s g a go c pp) : Inv X (pins ++ pp) σ H s ∧ Old X pins g.n0 := by
  have old : Old X pins g.n0 := Old.of I (by rw [M.n0]; exact Nat.le_refl _)
  have I1 : Inv X pins σ H s := I.call' (ch := []) M.os (Un.kept M.keep) (I.hok.kept M.keep) M.bare fun b z => by simp at z
  refine ⟨I1.pins_of fun p hp => ?_, old⟩
  rcases List.mem_append.mp hp with hp | hp
  · exact I1.pin p (List.mem_append_right _ hp)
  · obtain ⟨h1, h2, h3, h4, h5⟩ := M.priv.at_ p hp
    refine ⟨h1, h2, fun z => absurd (Nat.lt_of_lt_of_le old.loc h3) (by rw [z]; exact Nat.lt_irrefl _), fun z => ?_, h5⟩
    obtain ⟨_, o, ho, _⟩ := I1.ok.funs.mem z
    exact absurd (Nat.lt_of_lt_of_le (Nat.lt_trans (Nat.lt_of_lt_of_le (Heap.lt_size ho) I1.ok.above) old.loc) h3) (Nat.lt_irrefl _)
def tForG (t : TGen2) (gt : TG) (tb : TS) : TS := fun D σ H => t σ H fun S H1 => ∃ P : List V → L2.St → Hp → Prop, S.ry H1 H1 ∧ P [] σ H1 ∧
  (∀ ys σ Hw x H', P ys σ Hw → S.yd ys x Hw H' → gt x σ H' fun σ2 H2 => tb { D with nx := fun σ3 H3 => S.ry H' H3 ∧ P (ys ++ [x]) σ3 H3, ct := fun σ3 H3 => S.ry H' H3 ∧ P (ys ++ [x]) σ3 H3, bk := D.nx } σ2 H2) ∧
  ∀ ys σ Hw H', P ys σ Hw → S.en ys Hw H' → D.nx σ H'
theorem ps_forG {tg iter : Expr} {body : List Stmt} {t : TGen2} {gt : TG} {tb : TS} (hx : XeG X) (hp : PassesOwn (model X.prog X.w) X.A X.env X.xe) (hr : Room (k + 1) X.A) (hi : PGen2 X k iter t) (hg : PG X tg gt) (hb : PSs X body tb)
    (hs : ∀ x, foldedSetIterable iter X.env x = pure x := by intro _; rfl) : PS X (.For tg iter body [] pos) (tForG t gt tb) := by
  refine ⟨fun pins s σ H D I h => ?_⟩
  refine wpAny_For (thn (hi.run pins s σ H _ I h) fun v s1 h1 => ?_) hs
  obtain ⟨S, H1, sc, g, a, go, c, pp, ⟨P, ry0, p0, step, done⟩, _, Isc, rfl, M⟩ := h1
  obtain ⟨I1, old⟩ := Inv.made Isc M
  have isG : ∀ {h : Heap}, h.get? a = some go → h.IsGen a g.gno := fun {h} e => by
    obtain ⟨nm, qn, hd⟩ := M.dat
    exact ⟨go, nm, qn, e, M.cls, hd, M.slots⟩
  have g1 : s1.heap.get? a = some go := (M.priv.at_ _ M.ppm).1
  refine wpAny_pyIter_gen (isG g1) ?_
  have fr1 : X.A.in1.frames = some X.stack := I1.ok.frames
  have rd0 := M.rdy X.A.in1 hr.in1 fr1
  have gz1 : g.gno < s1.gens.size := (Array.getElem?_eq_some_iff.mp M.gen).1
  refine codeAny_forLoop_any (fun n s' => ∃ ys pp gp gs Hy σ' H', Inv X (pins ++ pp) σ' H' s' ∧ s'.gens[g.gno]? = some gs ∧ (∀ q ∈ gp, s'.gens[q.1]? = some q.2 ∧ g.gno < q.1) ∧ Rdy g S X.A.in1 n ys Hy pp gp gs ∧ S.ry Hy H' ∧ P ys σ' H' ∧ (a, go) ∈ pp) ?_ sizeLine
    ⟨[], pp, [], _, H1, σ, H1, I1, M.gen, (fun q hq => by cases hq), rd0, ry0, p0, M.ppm⟩
  rintro n s3 ⟨ys, pp3, gp3, gs3, Hy, σ3, H3, I3, gn3, gk3, rd3, ry3, p3, pm3⟩
  have gz3 : g.gno < s3.gens.size := (Array.getElem?_eq_some_iff.mp gn3).1
  have W := wk_of (xp := []) I3 M.eP M.ew M.eb M.eo gz3 gk3 (fun p hp => by cases hp)
  have I3p : Inv X pins σ3 H3 s3 := I3.unpinned
  have base : ∀ {Q : Option Value → Shared → Prop}, (∀ v s1 gs' x H1 pp' gp' m', n = m' + 1 → gs'.bare = true → isSusp gs' = true → RelV x v → Ft g (s3.setGen g.gno .running) H3 s1 H1 → Priv g pp' s1 H1 → Gpn g gp' s1 → (∀ p ∈ g.pn, p ∈ pp') → (∀ p ∈ ([] : List (Addr × Obj)), s1.heap.get? p.1 = some p.2 ∧ H1 p.1 = none ∧ ∀ q ∈ pp', q.1 ≠ p.1) → S.yd ys x H3 H1 →
      Rdy g S X.A.in1 m' (ys ++ [x]) H1 pp' gp' gs' → Q (some v) (s1.setGen g.gno gs')) → (∀ s1 H1, Ft g (s3.setGen g.gno .running) H3 s1 H1 → (∀ p ∈ g.pn, s1.heap.get? p.1 = some p.2) → (∀ p ∈ ([] : List (Addr × Obj)), s1.heap.get? p.1 = some p.2 ∧ H1 p.1 = none) → S.en ys H3 H1 → ∀ h', (∀ b o, s1.heap.get? b = some o → h'.get? b = some o) → Q none { s1.setGen g.gno .finished with heap := h' }) →
      wpAny (model X.prog X.w) X.A (pyNext (.ref a)) Q X.xe s3 := fun hY hP => by
    have q := next2 (A := X.A) (E := X.xe) (g := g) (S := S) hr.hd I3.nolimit (by have := hr.dp; omega) (isG (I3.pin _ (List.mem_append_right _ (List.mem_append_right _ pm3))).1) gn3 rd3 W ry3 hY hP
    rw [M.eP, M.ew] at q
    exact q
  refine wpAny_passesOwn hp (base (fun v s4 gs' x H4 pp' gp' m' en hb4 hs4 rv F pr gpn pk _ yd rd => ?_) fun s4 H4 F pk _ en h' hk => ?_)
  · have I4 : Inv X (pins ++ pp') σ3 H4 s4 := Inv.ft (sw' := s3.setGen g.gno .running) I3p rfl rfl M.eP M.ew M.eo old F pr.at_
    have I4 := Inv.gens (g := (s4.setGen g.gno gs').gens) I4 (allBare_setGen I4.bare hb4)
    have I4 : Inv X (pins ++ pp') σ3 H4 (s4.setGen g.gno gs') := I4
    have ga : (a, go) ∈ pp' := pk _ (by rw [M.pn]; exact List.mem_singleton.mpr rfl)
    have ha4 : (s4.setGen g.gno gs').heap.get? a = some go := (pr.at_ _ ga).1
    obtain ⟨nm, qn, hdat⟩ := M.dat
    refine wpAny_passesOwn hp (go_of ha4 M.cls hdat (by decide) ?_)
    refine wpAny_passesOwn hp (thn (pg_kept hx hg I4 rv (step ys σ3 H3 x H4 p3 yd)) fun _ s6 ⟨⟨σ6, H6, I6, q6⟩, k6⟩ => ?_)
    refine wpAny_passesOwn hp (thn (pss_kept hx hb I6 q6) fun f s7 ⟨q7, k7⟩ => ?_)
    have kk : ∀ i st, (s4.setGen g.gno gs').gens[i]? = some st → isSusp st = true → s7.gens[i]? = some st := fun i st e z => k7 i st (k6 i st e z) z
    have again : ∀ {σ7 : L2.St} {H7 : Hp}, Inv X (pins ++ pp') σ7 H7 s7 → S.ry H4 H7 → P (ys ++ [x]) σ7 H7 → ∃ m, m < n ∧ ∃ ys pp gp gs Hy σ' H', Inv X (pins ++ pp) σ' H' s7 ∧ s7.gens[g.gno]? = some gs ∧ (∀ q ∈ gp, s7.gens[q.1]? = some q.2 ∧ g.gno < q.1) ∧ Rdy g S X.A.in1 m ys Hy pp gp gs ∧ S.ry Hy H' ∧ P ys σ' H' ∧ (a, go) ∈ pp := fun {σ7 H7} I7 ry7 p7 => by
      refine ⟨m', by omega, ys ++ [x], pp', gp', gs', H4, σ7, H7, I7, kk _ _ (setGen_at gpn.sz) hs4, fun q hq => ?_, rd, ry7, p7, ga⟩
      obtain ⟨h1, h2, h3⟩ := gpn.at_ q hq
      refine ⟨kk _ _ ?_ h2, h3⟩
      show (s4.gens.setIfInBounds g.gno gs')[q.1]? = _
      rw [Array.getElem?_setIfInBounds_ne (Nat.ne_of_lt h3)]
      exact h1
    cases f with
    | next => obtain ⟨σ7, H7, I7, ry7, n7⟩ := q7; exact again I7 ry7 n7
    | cont => obtain ⟨σ7, H7, I7, ry7, n7⟩ := q7; exact again I7 ry7 n7
    | brk => obtain ⟨σ7, H7, I7, q7⟩ := q7; exact ⟨σ7, H7, I7.unpinned, q7⟩
    | ret v => obtain ⟨x7, σ7, H7, I7, r7, q7⟩ := q7; exact ⟨x7, σ7, H7, I7.unpinned, r7, q7⟩
  · have I4 : Inv X (pins ++ []) σ3 H4 s4 := Inv.ft (sw' := s3.setGen g.gno .running) I3p rfl rfl M.eP M.ew M.eo old F (fun p hp => by cases hp)
    rw [List.append_nil] at I4
    have I4 := Inv.gens (g := (s4.setGen g.gno .finished).gens) I4 (allBare_setGen I4.bare rfl)
    have I4 : Inv X pins σ3 H4 (s4.setGen g.gno .finished) := I4
    have I5 := I4.kept (t' := s4.toks) hk
    exact wpAny_execs_nil ⟨σ3, H4, I5, done ys σ3 H3 H4 p3 en⟩
end

/-- a loop of a generator's body over a tuple -/
theorem for_tup2 {K : PySem.W.Frag} {a : Addr} {xs : List V} {g : TG} {tb : TG2} {D : GEnds2} {ys : List V} {Hw : Hp} {σ : L2.St} {H : Hp} (Pv : Nat → List V → Hp → L2.St → Hp → Prop) (h0 : Pv 0 ys Hw σ H) (hl : ∀ i ys Hw σ H, i ≤ xs.length → Pv i ys Hw σ H → SqT K H a xs)
    (hs : ∀ i x ys Hw σ H, xs[i]? = some x → Pv i ys Hw σ H → g x σ H fun σ2 H2 => tb { D with nx := Pv (i + 1), ct := Pv (i + 1), bk := D.nx } ys Hw σ2 H2) (hd : ∀ ys Hw σ H, Pv xs.length ys Hw σ H → D.nx ys Hw σ H) :
    ∃ W : Nat → Nat → List V → Hp → L2.St → Hp → Prop, (∃ m, W 0 m ys Hw σ H) ∧ ∀ i m ys Hw σ H, W i m ys Hw σ H →
      ((Itt K a).stop i H ∧ D.nx ys Hw σ H) ∨ ((Itt K a).go i H ∧ ∃ N : List V → Hp → L2.St → Hp → Prop, (∀ ys' Hw' σ' H', N ys' Hw' σ' H' → ∃ m', m' < m ∧ W (i + 1) m' ys' Hw' σ' H') ∧ ∀ x H', (Itt K a).yld i H x H' → g x σ H' fun σ2 H2 => tb { D with nx := N, ct := N, bk := D.nx } ys Hw σ2 H2) := by
  refine ⟨fun i m ys Hw σ H => m = xs.length - i ∧ i ≤ xs.length ∧ Pv i ys Hw σ H, ⟨xs.length, by simp, Nat.zero_le _, h0⟩, ?_⟩
  rintro i m ys Hw σ H ⟨rfl, hi, p⟩
  have q := hl i ys Hw σ H hi p
  by_cases hlt : i < xs.length
  · refine .inr ⟨⟨xs, xs[i], q, by simp [hlt]⟩, Pv (i + 1), fun ys' Hw' σ' H' p' => ⟨xs.length - (i + 1), by omega, rfl, hlt, p'⟩, fun x H' y => ?_⟩
    obtain ⟨e, y⟩ := y
    subst e
    exact hs i x ys Hw σ _ (y xs q) p
  · have e : i = xs.length := by omega
    subst e
    exact .inl ⟨⟨xs, q, Nat.le_refl _⟩, hd ys Hw σ H p⟩
/-- a loop of a generator's body over a range -/
theorem for_range2 {lo : Int} {n : Nat} {g : TG} {tb : TG2} {D : GEnds2} {ys : List V} {Hw : Hp} {σ : L2.St} {H : Hp} (Pv : Nat → List V → Hp → L2.St → Hp → Prop) (h0 : Pv 0 ys Hw σ H)
    (hs : ∀ i ys Hw σ H, i < n → Pv i ys Hw σ H → g (.int (lo + i)) σ H fun σ2 H2 => tb { D with nx := Pv (i + 1), ct := Pv (i + 1), bk := D.nx } ys Hw σ2 H2) (hd : ∀ ys Hw σ H, Pv n ys Hw σ H → D.nx ys Hw σ H) :
    ∃ W : Nat → Nat → List V → Hp → L2.St → Hp → Prop, (∃ m, W 0 m ys Hw σ H) ∧ ∀ i m ys Hw σ H, W i m ys Hw σ H →
      ((Itr lo n).stop i H ∧ D.nx ys Hw σ H) ∨ ((Itr lo n).go i H ∧ ∃ N : List V → Hp → L2.St → Hp → Prop, (∀ ys' Hw' σ' H', N ys' Hw' σ' H' → ∃ m', m' < m ∧ W (i + 1) m' ys' Hw' σ' H') ∧ ∀ x H', (Itr lo n).yld i H x H' → g x σ H' fun σ2 H2 => tb { D with nx := N, ct := N, bk := D.nx } ys Hw σ2 H2) := by
  refine ⟨fun i m ys Hw σ H => m = n - i ∧ i ≤ n ∧ Pv i ys Hw σ H, ⟨n, by simp, Nat.zero_le _, h0⟩, ?_⟩
  rintro i m ys Hw σ H ⟨rfl, hi, p⟩
  by_cases hlt : i < n
  · refine .inr ⟨hlt, Pv (i + 1), fun ys' Hw' σ' H' p' => ⟨n - (i + 1), by omega, rfl, hlt, p'⟩, fun x H' y => ?_⟩
    obtain ⟨e, y⟩ := y
    subst e y
    exact hs i ys Hw σ _ hlt p
  · have e : i = n := by omega
    subst e
    exact .inl ⟨Nat.le_refl _, hd ys Hw σ H p⟩
end Z
/-! ### for over a generator within a generator's body -/
namespace Z
open PySem PySem.Spec PyProof.Rows L2
def tG2ForG (t : TGen2) (gt : TG) (tb : TG2) : TG2 := fun D ys Hw σ H => t σ H fun S H1 => ∃ P : List V → List V → Hp → L2.St → Hp → Prop, S.ry H1 H1 ∧ P [] ys Hw σ H1 ∧
  (∀ zs ys Hw σ Hi x H', P zs ys Hw σ Hi → S.yd zs x Hi H' → gt x σ H' fun σ2 H2 => tb { D with nx := fun ys3 Hw3 σ3 H3 => S.ry H' H3 ∧ P (zs ++ [x]) ys3 Hw3 σ3 H3, ct := fun ys3 Hw3 σ3 H3 => S.ry H' H3 ∧ P (zs ++ [x]) ys3 Hw3 σ3 H3, bk := D.nx } ys Hw σ2 H2) ∧
  ∀ zs ys Hw σ Hi H', P zs ys Hw σ Hi → S.en zs Hi H' → D.nx ys Hw σ H'
theorem gs2_forG {g : GP} {S : GSpec} {A : Around} {tg iter : Expr} {body : List Stmt} {t : TGen2} {gt : TG} {tb : TG2} {pos : Pos} {k : Nat} (hr : Room (k + 1) (A.deeper g.env)) (hi : ∀ sw Hw, PGen2 (g.cx A sw Hw) k iter t) (hg : ∀ sw Hw, PG (g.cx A sw Hw) tg gt) (hb : GSs2 false g S A body tb)
    (hs : ∀ x, foldedSetIterable iter g.env x = pure x := by intro _; rfl) : GS2 true g S A (.For tg iter body [] pos) (tG2ForG t gt tb) := by
  refine ⟨fun ip xp gp m ys Hw sw c fs K J gd lv s σ H D gc hxp hm hz h0 hgp kk I ht => ?_⟩
  obtain rfl := h0 rfl
  refine sg_For hs ?_
  rw [gc.over]
  refine wpAny_mono (deadS (n := g.gno + 1) hgp.sz (DG.start s.gens) ((hi sw Hw).run (ip ++ xp) { s with gens := s.gens.map deadG } σ H _ (Inv.gens I (bare_dead I.bare)) ht)) (fun v s1 ⟨hz1, g1, d1, h1⟩ => ?_) fun x s' hx => hx
  obtain ⟨S', H1, sc, gi, a, go, c', pp, ⟨P, ry0, p0, step, done⟩, gsz, Isc, rfl, M⟩ := h1
  obtain ⟨I1, old1⟩ := Inv.made Isc M
  have hb1 : AllBare s1.gens := bare_of d1 I.bare (show AllBare g1 from I1.bare)
  have I1 := Inv.gens (s := { s1 with gens := g1 }) (g := s1.gens) I1 hb1
  have old : Old (g.cx A sw Hw) ip gi.n0 := ⟨old1.loc, old1.cell, fun p hp => old1.pin p (by
    rcases List.mem_append.mp hp with hp | hp
    · exact List.mem_append_left _ hp
    · exact List.mem_append_right _ (List.mem_append_left _ hp))⟩
  have lt0 : g.n0 < gi.n0 := by
    have := old.loc
    have q : (g.cx A sw Hw).env.locals = g.n0 := gc.ok.loc
    rw [q] at this
    exact this
  have gt0 : g.gno < gi.gno := by
    have q1 : (s.gens.map deadG).size ≤ sc.gens.size := gsz
    rw [Array.size_map] at q1
    exact Nat.lt_of_lt_of_le hgp.sz (Nat.le_trans q1 M.gz)
  have gen1 : s1.gens[gi.gno]? = some (.fresh c') := (d1.fresh (show g1[gi.gno]? = some (.fresh c') from M.gen) rfl).2
  have isG : ∀ {h : Heap}, h.get? a = some go → h.IsGen a gi.gno := fun {h} e => by
    obtain ⟨nm, qn, hd⟩ := M.dat
    exact ⟨go, nm, qn, e, M.cls, hd, M.slots⟩
  have e1 : s1.heap.get? a = some go := (M.priv.at_ _ M.ppm).1
  refine wpAny_pyIter_gen (isG e1) ?_
  intro p
  have gl := fun (kq : Result → Sem PySem.Fin) => gc2_loop (k := kq) (c' := .forLoop tg (.ref a) body [] g.env) (l := lv []) (kp := []) (p := p) gc rfl rfl
  have fr1 : (A.deeper g.env).in1.frames = some (g.cx A sw Hw).stack := I1.ok.frames
  have rd0 := M.rdy (A.deeper g.env).in1 hr.in1 fr1
  have eP : gi.P = g.P := M.eP
  have ew : gi.w = g.w := M.ew
  have eb : gi.base = g.base := M.eb
  have eo : gi.outer = g.env :: g.outer := M.eo
  have loop : ∀ (j : Nat) (zs ys : List V) (xp : List (Addr × Obj)) (m : Nat) (Hw : Hp) (sw s : Shared) (σ : L2.St) (H : Hp) (pp : List (Addr × Obj)) (gp' : List (Nat × GenState)) (gs : GenState) (Hy : Hp), XpOk g (ip ++ pp) xp → m + ys.length = sizeLine → g.n0 < sw.heap.objs.size → g.gno < s.gens.size → s.gens[gi.gno]? = some gs →
      (∀ q ∈ gp', s.gens[q.1]? = some q.2 ∧ gi.gno < q.1) → Rdy gi S' (A.deeper g.env).in1 j zs Hy pp gp' gs → S'.ry Hy H → P zs ys Hw σ H → (a, go) ∈ pp → Inv (g.cx A sw Hw) ((ip ++ pp) ++ xp) σ H s →
      Sg (model g.P g.w) A (Ph g S A m ys Hw sw xp) (.forLoop tg (.ref a) body [] g.env) ((model g.P g.w).den (.forLoop tg (.ref a) body [] g.env))
        (.ret (fun r => ((match r with | .ok f => (.pure f : Sem Flow) | .error e => .raise e).onRaise (cameBack g.env)).wrap K J gd lv) none (gd false) (lv []) c p [] :: fs) s := by
    intro j
    induction j using Nat.strongRecOn with
    | ind j ih =>
      intro zs ys xp m Hw sw s σ H pp gp' gs Hy hxp hm hz gz gn gk rd ry p0 pm I
      refine sg_forLoop ?_
      rw [(gl _).over]
      have Iu : Inv (g.cx A sw Hw) (ip ++ pp) σ H s := Inv.sub I fun q hq => List.mem_append_left _ hq
      have Ip : Inv (g.cx A sw Hw) ip σ H s := Inv.sub I fun q hq => List.mem_append_left _ (List.mem_append_left _ hq)
      have oldj : Old (g.cx A sw Hw) ip gi.n0 := ⟨old.loc, old.cell, old.pin⟩
      have xst : ∀ q ∈ xp, s.heap.get? q.1 = some q.2 ∧ H q.1 = none ∧ q.1 ≠ (g.cx A sw Hw).env.locals ∧ q.1 ∉ (g.cx A sw Hw).fs ∧ ∀ v, q.2.data ≠ .cell v := fun q hq => I.pin q (List.mem_append_right _ (List.mem_append_right _ hq))
      have W := wk_of (X := g.cx A sw Hw) (pins := ip) (pp := pp) (xp := xp) Iu M.eP M.ew M.eb M.eo (Array.getElem?_eq_some_iff.mp gn).1 gk (fun q hq => by
        obtain ⟨h1, h2, h3, h4, h5⟩ := xst q hq
        refine ⟨h1, h2, fun z => ?_, h5, fun r hr => (hxp q hq).2 r (List.mem_append_right _ (List.mem_append_right _ hr))⟩
        rcases List.mem_cons.mp (I.stkSub _ z) with z | z
        · exact h3 z
        · exact h4 z)
      have base : ∀ {Q : Option Value → Shared → Prop} {E : Value → Shared → Prop}, (∀ v s1 gs' x H1 pp' gp'' m', j = m' + 1 → gs'.bare = true → isSusp gs' = true → RelV x v → Ft gi (s.setGen gi.gno .running) H s1 H1 → Priv gi pp' s1 H1 → Gpn gi gp'' s1 → (∀ p ∈ gi.pn, p ∈ pp') → (∀ p ∈ xp, s1.heap.get? p.1 = some p.2 ∧ H1 p.1 = none ∧ ∀ q ∈ pp', q.1 ≠ p.1) → S'.yd zs x H H1 →
          Rdy gi S' (A.deeper g.env).in1 m' (zs ++ [x]) H1 pp' gp'' gs' → Q (some v) (s1.setGen gi.gno gs')) → (∀ s1 H1, Ft gi (s.setGen gi.gno .running) H s1 H1 → (∀ p ∈ gi.pn, s1.heap.get? p.1 = some p.2) → (∀ p ∈ xp, s1.heap.get? p.1 = some p.2 ∧ H1 p.1 = none) → S'.en zs H H1 → ∀ h', (∀ b o, s1.heap.get? b = some o → h'.get? b = some o) → Q none { s1.setGen gi.gno .finished with heap := h' }) →
          wpAny (model g.P g.w) (A.deeper g.env) (pyNext (.ref a)) Q E s := fun {Q E} hY hP => by
        have q := next2 (A := A.deeper g.env) (E := E) (g := gi) (S := S') hr.hd I.nolimit (by have := hr.dp; omega) (isG (I.pin _ (List.mem_append_right _ (List.mem_append_left _ (List.mem_append_right _ pm)))).1) gn rd W ry hY hP
        rw [eP, ew] at q
        exact q
      refine GenW.wpAny_gsz (n := g.gno + 1) gz (base (fun v s4 gs' x H4 pp' gp'' m' en hb4 hs4 rv F pr gpn pk xk yd rd => ?_) fun s4 H4 F pk xk en h' hk => ?_)
      · intro gz4
        have I4 : Inv (g.cx A sw Hw) (ip ++ pp') σ H4 s4 := Inv.ft (sw' := s.setGen gi.gno .running) Ip rfl rfl M.eP M.ew M.eo oldj F (fun p hp => by
          obtain ⟨h1, h2, h3, h4, h5⟩ := pr.at_ p hp
          exact ⟨h1, h2, h3, h4, h5⟩)
        have I4 : Inv (g.cx A sw Hw) ((ip ++ pp') ++ xp) σ H4 s4 := I4.pins_of fun q hq => by
          rcases List.mem_append.mp hq with hq | hq
          · exact I4.pin q (List.mem_append_right _ hq)
          · obtain ⟨_, _, h3, h4, h5⟩ := xst q hq
            exact ⟨(xk q hq).1, (xk q hq).2.1, h3, h4, h5⟩
        have I4 := Inv.gens (g := (s4.setGen gi.gno gs').gens) I4 (allBare_setGen I4.bare hb4)
        have I4 : Inv (g.cx A sw Hw) ((ip ++ pp') ++ xp) σ H4 (s4.setGen gi.gno gs') := I4
        have ga : (a, go) ∈ pp' := pk _ (by rw [M.pn]; exact List.mem_singleton.mpr rfl)
        have ha4 : (s4.setGen gi.gno gs').heap.get? a = some go := (pr.at_ _ ga).1
        obtain ⟨nm, qn, hdat⟩ := M.dat
        refine go_of ha4 M.cls hdat (by decide) ?_
        refine GenW.wpAny_gsz (n := g.gno + 1) gz4 (wpAny_mono (pg_kept (X := g.cx A sw Hw) (fun _ _ _ _ _ _ h => h) (hg sw Hw) I4 rv (step zs ys Hw σ H x H4 p0 yd)) (fun _ s6 ⟨⟨σ6, H6, I6, q6⟩, k6⟩ gz6 => ?_) fun x s' hx => hx.elim)
        have hxp4 : XpOk g (ip ++ pp') xp := fun q hq => ⟨(hxp q hq).1, fun r hr => by
          rcases List.mem_append.mp hr with hr | hr
          · exact (hxp q hq).2 r (List.mem_append_left _ hr)
          · rcases List.mem_append.mp hr with hr | hr
            · exact (hxp q hq).2 r (List.mem_append_right _ (List.mem_append_left _ hr))
            · exact (xk q hq).2.2 r hr⟩
        have g6 : Gpn g ((gi.gno, gs') :: gp'') s6 := ⟨gz6, fun r hr => by
          rcases List.mem_cons.mp hr with rfl | hr
          · exact ⟨k6 _ _ (setGen_at gpn.sz) hs4, hs4, gt0⟩
          · obtain ⟨h1, h2, h3⟩ := gpn.at_ r hr
            refine ⟨k6 _ _ ?_ h2, h2, Nat.lt_trans gt0 h3⟩
            show (s4.gens.setIfInBounds gi.gno gs')[r.1]? = _
            rw [Array.getElem?_setIfInBounds_ne (Nat.ne_of_lt h3)]
            exact h1⟩
        refine hb.run (ip ++ pp') xp ((gi.gno, gs') :: gp'') m ys Hw sw _ _ _ _ id id s6 σ6 H6 _ { gl _ with ip := fun q hq => ?_ } hxp4 hm hz nofun g6 ⟨fun xp' m2 ys' Hw' sw' s7 f hxp' hm' hz' hg7 hs => ?_⟩ I6 q6
        · rcases List.mem_append.mp hq with hq | hq
          · exact gc.ip q hq
          · exact Nat.lt_of_lt_of_le lt0 (pr.at_ q hq).2.2.1
        have hxp2 : XpOk g ip xp' := fun q hq => ⟨(hxp' q hq).1, fun r hr => (hxp' q hq).2 r (by
          rcases List.mem_append.mp hr with hr | hr
          · exact List.mem_append_left _ hr
          · exact List.mem_append_right _ (List.mem_append_left _ hr))⟩
        have down : ∀ {σ7 : L2.St} {H7 : Hp}, Inv (g.cx A sw' Hw') ((ip ++ pp') ++ xp') σ7 H7 s7 → Inv (g.cx A sw' Hw') (ip ++ xp') σ7 H7 s7 := fun {σ7 H7} I7 => Inv.sub I7 fun q hq => (by
          rcases List.mem_append.mp hq with hq | hq
          · exact List.mem_append_left _ (List.mem_append_left _ hq)
          · exact List.mem_append_right _ hq)
        have g70 : Gpn g [] s7 := ⟨hg7.sz, fun r hr => (by cases hr)⟩
        have again : ∀ {σ7 : L2.St} {H7 : Hp}, Inv (g.cx A sw' Hw') ((ip ++ pp') ++ xp') σ7 H7 s7 → S'.ry H4 H7 → P (zs ++ [x]) ys' Hw' σ7 H7 → Sg (model g.P g.w) A (Ph g S A m2 ys' Hw' sw' xp') (.forLoop tg (.ref a) body [] g.env) (.pure (.again (.forLoop tg (.ref a) body [] g.env)))
            (.ret (fun r => ((match r with | .ok f => (.pure f : Sem Flow) | .error e => .raise e).onRaise (cameBack g.env)).wrap K J gd lv) none (gd false) (lv []) c p [] :: fs) s7 := fun {σ7 H7} I7 ry7 p7 =>
          sg_again rfl (ih m' (by omega) (zs ++ [x]) ys' xp' m2 Hw' sw' s7 σ7 H7 pp' gp'' gs' H4 hxp' hm' hz' hg7.sz (hg7.at_ _ List.mem_cons_self).1 (fun q hq => ⟨(hg7.at_ q (List.mem_cons_of_mem _ hq)).1, (gpn.at_ q hq).2.2⟩) rd ry7 p7 ga I7)
        cases f with
        | next =>
          obtain ⟨σ7, H7, I7, ry7, n7⟩ := hs
          exact again I7 ry7 n7
        | cont =>
          obtain ⟨σ7, H7, I7, ry7, n7⟩ := hs
          exact again I7 ry7 n7
        | brk =>
          obtain ⟨σ7, H7, I7, q7⟩ := hs
          exact sg_leaf (.ok .next) (kk.ok xp' m2 ys' Hw' sw' s7 .next hxp2 hm' hz' g70 ⟨σ7, H7, down I7, q7⟩)
        | ret v =>
          obtain ⟨x7, σ7, H7, I7, r7, q7⟩ := hs
          exact sg_leaf (.ok (.ret v)) (kk.ok xp' m2 ys' Hw' sw' s7 (.ret v) hxp2 hm' hz' g70 ⟨x7, σ7, H7, down I7, r7, q7⟩)
      · intro gz4
        have I4 : Inv (g.cx A sw Hw) (ip ++ []) σ H4 s4 := Inv.ft (sw' := s.setGen gi.gno .running) Ip rfl rfl M.eP M.ew M.eo oldj F (fun p hp => by cases hp)
        rw [List.append_nil] at I4
        have I4 : Inv (g.cx A sw Hw) (ip ++ xp) σ H4 s4 := I4.pins_of fun q hq => by
          rcases List.mem_append.mp hq with hq | hq
          · exact I4.pin q (List.mem_append_right _ hq)
          · obtain ⟨_, _, h3, h4, h5⟩ := xst q hq
            exact ⟨(xk q hq).1, (xk q hq).2, h3, h4, h5⟩
        have I4 := Inv.gens (g := (s4.setGen gi.gno .finished).gens) I4 (allBare_setGen I4.bare rfl)
        have I4 : Inv (g.cx A sw Hw) (ip ++ xp) σ H4 (s4.setGen gi.gno .finished) := I4
        have I5 := I4.kept (t' := s4.toks) hk
        have hxp2 : XpOk g ip xp := fun q hq => ⟨(hxp q hq).1, fun r hr => (hxp q hq).2 r (by
          rcases List.mem_append.mp hr with hr | hr
          · exact List.mem_append_left _ hr
          · exact List.mem_append_right _ (List.mem_append_left _ hr))⟩
        refine sg_again rfl ?_
        exact sg_leaf (.ok .next) (kk.ok xp m ys Hw sw _ .next hxp2 hm hz ⟨gz4, fun r hr => (by cases hr)⟩ ⟨σ, H4, I5, done zs ys Hw σ H H4 p0 en⟩)
  refine loop sizeLine [] ys xp m Hw sw s1 σ H1 pp [] (.fresh c') H1 (fun q hq => ⟨(hxp q hq).1, fun r hr => ?_⟩) hm hz hz1 gen1 (fun q hq => by cases hq) rd0 ry0 p0 M.ppm (Inv.sub I1 fun q hq => ?_)
  · rcases List.mem_append.mp hr with hr | hr
    · exact (hxp q hq).2 r (List.mem_append_left _ hr)
    · rcases List.mem_append.mp hr with hr | hr
      · exact (hxp q hq).2 r (List.mem_append_right _ hr)
      · have l1 := (M.priv.at_ r hr).2.2.1
        have l2 := old1.pin q (List.mem_append_right _ (List.mem_append_right _ hq))
        exact Nat.ne_of_gt (Nat.lt_of_lt_of_le l2 l1)
  · rcases List.mem_append.mp hq with hq | hq
    · rcases List.mem_append.mp hq with hq | hq
      · exact List.mem_append_left _ (List.mem_append_left _ hq)
      · exact List.mem_append_right _ hq
    · exact List.mem_append_left _ (List.mem_append_right _ hq)
end Z
/-! ### list(g) -/
namespace Z
open PySem PySem.Spec PyProof.Rows L2
section
variable {X : Cx} {pins pp : List (Addr × Obj)} {σ : L2.St}
/-- the consumer's own list changes while the generator sleeps -/
theorem Inv.poke {H : Hp} {s : Shared} {S0 : Addr} {ob ob' : Obj} {h' : Heap} {G : Array GenState} (I : Inv X (pins ++ ((S0, ob) :: pp)) σ H s) (hS : X.s_0.heap.objs.size ≤ S0) (hne : ∀ p ∈ X.pn ++ (pins ++ pp), p.1 ≠ S0) (hk : ∀ b o, b ≠ S0 → s.heap.get? b = some o → h'.get? b = some o) (e : h'.get? S0 = some ob')
    (hd : ∀ v, ob'.data ≠ .cell v) (hG : AllBare G) : Inv X (pins ++ ((S0, ob') :: pp)) σ H { s with heap := h', gens := G } := by
  obtain ⟨e1, n1, l1, f1, d1⟩ := I.pin (S0, ob) (List.mem_append_right _ (List.mem_append_right _ List.mem_cons_self))
  have I0 : Inv X (pins ++ pp) σ H s := I.pins_of fun p hp => I.pin p (List.mem_append_right _ (by
    rcases List.mem_append.mp hp with hp | hp
    · exact List.mem_append_left _ hp
    · exact List.mem_append_right _ (List.mem_cons_of_mem _ hp)))
  have cne : ∀ x c, X.env.cells.lookup x = some c → c ≠ S0 := fun x c q z => by
    obtain ⟨v, o, ho, hv⟩ := I.cell x c q
    rw [z, e1] at ho
    cases ho
    exact d1 v hv
  have nt : ∀ b u, H b = some u → b ≠ S0 := fun b u q z => by
    rw [z] at q
    rw [n1] at q
    cases q
  have nc : ∀ b, b ∉ [S0] → b ≠ S0 := fun b hb z => hb (by rw [z]; exact List.mem_singleton.mpr rfl)
  have J : Inv X (pins ++ pp) σ H { s with heap := h', gens := G, drawn := s.drawn, toks := s.toks } := by
    refine I0.step (g' := G) (t' := s.toks) (d' := s.drawn) (ch := [S0]) (fun b hb => ?_)
      (fun b ob _ _ hc q _ => hk b ob (nc b hc) q) (fun b ob _ _ hc q _ => ⟨ob.slots, hk b ob (nc b hc) q⟩) (fun _ _ _ _ n => n) (fun b ob hc q => ⟨ob, hk b ob (nc b hc) q⟩)
      (fun _ _ q => q) (fun _ _ _ q => q) (fun b ps q => ⟨#[], by rw [q]; simp⟩) (fun m hm => ?_) (fun b u q => ?_) hG
    · rw [List.mem_singleton.mp hb]
      exact ⟨.inr hS, l1, cne, fun p hp => hne p hp⟩
    · obtain ⟨o, es, ep, ho, r⟩ := hm
      exact ⟨o, es, ep, hk _ o (Ne.symm l1) ho, r⟩
    · refine (I0.hok b u q).stay (fun c v hc y => hk c v ?_ y) (fun _ y => y) fun _ _ y => y
      rcases hc with y | y
      · rw [y]; exact nt b u q
      · exact nt c _ y
  refine J.pins_of fun p hp => ?_
  rcases List.mem_append.mp hp with hp | hp
  · exact J.pin p (List.mem_append_right _ (List.mem_append_left _ hp))
  · rcases List.mem_cons.mp hp with rfl | hp
    · exact ⟨e, n1, l1, f1, hd⟩
    · exact J.pin p (List.mem_append_right _ (List.mem_append_right _ hp))
/-- the list is tracked at last -/
theorem Inv.track {H : Hp} {s : Shared} {S0 : Addr} {acc : Array Value} {c : Nat} {ys : List V} (I : Inv X (pins ++ [(S0, lstObj acc c)]) σ H s) (hS : X.s_0.heap.objs.size ≤ S0) (hne : ∀ p ∈ X.pn ++ pins, p.1 ≠ S0) (r : Vals ys acc.toList) (hl : ys.length ≤ sizeLine) : Inv X pins σ (upd H S0 (.lst ys)) s := by
  obtain ⟨e1, n1, l1, f1, d1⟩ := I.pin (S0, lstObj acc c) (List.mem_append_right _ (List.mem_append_right _ List.mem_cons_self))
  have I0 : Inv X pins σ H s := I.unpinned
  have cne : ∀ x c, X.env.cells.lookup x = some c → c ≠ S0 := fun x c q z => by
    obtain ⟨v, o, ho, hv⟩ := I.cell x c q
    rw [z, e1] at ho
    cases ho
    exact d1 v hv
  have nc : ∀ b, b ∉ [S0] → b ≠ S0 := fun b hb z => hb (by rw [z]; exact List.mem_singleton.mpr rfl)
  refine I0.step (h' := s.heap) (g' := s.gens) (t' := s.toks) (d' := s.drawn) (ch := [S0]) (fun b hb => ?_)
      (fun b ob _ _ hc q _ => q) (fun b ob _ _ hc q _ => ⟨ob.slots, q⟩) (fun b o hc q n => by rw [upd_ne (nc b hc)]; exact n) (fun b ob hc q => ⟨ob, q⟩)
      (fun b xs q => by rw [upd_ne (ne_of_none q n1)]; exact q) (fun b o u q => by rw [upd_ne (ne_of_none q n1)]; exact q) (fun b ps q => ⟨#[], by rw [upd_ne (ne_of_none q n1), q]; simp⟩) (fun m hm => hm) (fun b u q => ?_) I.bare
  · rw [List.mem_singleton.mp hb]
    exact ⟨.inr hS, l1, cne, fun p hp => hne p hp⟩
  · by_cases hb : b = S0
    · subst hb
      rw [upd_same] at q
      cases q
      exact ⟨hl, acc.toList, c, r, by rw [e1]⟩
    · rw [upd_ne hb] at q
      exact (I0.hok b u q).stay (fun _ _ _ z => z) (fun d z => by rw [upd_ne (ne_of_none z n1)]; exact z) fun d xs z => by rw [upd_ne (ne_of_none z n1)]; exact z
end
theorem drain2 {X : Cx} {pins : List (Addr × Obj)} {σ : L2.St} {k : Nat} {S : GSpec} {g : GP} {a S0 : Addr} {go : Obj} {A : Around} {R : Result → Shared → Prop} {P : List V → Hp → Prop}
    (hh : A.handled = none) (hd : A.depth < recursionLimit) (eP : g.P = X.prog) (ew : g.w = X.w) (eb : g.base = X.base) (eO : g.outer = X.stack) (epn : g.pn = [(a, go)]) (cls : go.cls = .type "generator") (dat : ∃ nm qn, go.data = .fields #[.int g.gno 0, nm, qn]) (slots : go.slots = #[])
    (old : Old X pins g.n0) (hS : X.s_0.heap.objs.size ≤ S0) (hn0 : g.n0 ≤ S0) (ry : ∀ H, S.ry H H) (step : ∀ ys Hw x H', P ys Hw → S.yd ys x Hw H' → P (ys ++ [x]) H')
    (fin : ∀ ys Hw H' acc c s', P ys Hw → S.en ys Hw H' → Vals ys acc.toList → ys.length ≤ sizeLine → Inv X (pins ++ [(S0, lstObj acc c)]) σ H' s' → R (.ok (.ret .none)) s') :
    ∀ (m : Nat) (ys : List V) (acc : Array Value) (c : Nat) (pp : List (Addr × Obj)) (gp : List (Nat × GenState)) (gs : GenState) (Hy H : Hp) (s : Shared), Inv X (pins ++ ((S0, lstObj acc c) :: pp)) σ H s → s.gens[g.gno]? = some gs → (∀ q ∈ gp, s.gens[q.1]? = some q.2 ∧ g.gno < q.1) →
      Rdy g S A.in1.in1 m ys Hy pp gp gs → S.ry Hy H → P ys H → (a, go) ∈ pp → (∀ p ∈ pp, p.1 ≠ S0) → Vals ys acc.toList → m + ys.length = sizeLine →
      codeAny (model X.prog X.w) A (.builtin "list.extend.loop" ⟨[.ref S0, .ref a, .none], []⟩) R s := by
  have isG : ∀ {h : Heap}, h.get? a = some go → h.IsGen a g.gno := fun {h} e => by
    obtain ⟨nm, qn, hd⟩ := dat
    exact ⟨go, nm, qn, e, cls, hd, slots⟩
  intro m
  induction m using Nat.strongRecOn with
  | ind m ih =>
    intro ys acc c pp gp gs Hy H s I gn gk rd ryH p pm pne vs hm
    have pS := I.pin (S0, lstObj acc c) (List.mem_append_right _ (List.mem_append_right _ List.mem_cons_self))
    obtain ⟨eS, nS, lS, fS, dS⟩ := pS
    have Ipp : Inv X (pins ++ pp) σ H s := Inv.sub I fun q hq => by
      rcases List.mem_append.mp hq with hq | hq
      · exact List.mem_append_left _ hq
      · exact List.mem_append_right _ (List.mem_cons_of_mem _ hq)
    have Ip : Inv X pins σ H s := Inv.sub I fun q hq => List.mem_append_left _ hq
    have sS : S0 ∉ frs X.stack := fun z => by
      rcases List.mem_cons.mp (I.stkSub _ z) with z | z
      · exact lS z
      · exact fS z
    have gz := (Array.getElem?_eq_some_iff.mp gn).1
    have W := wk_of (xp := [(S0, lstObj acc c)]) Ipp eP ew eb eO gz gk (fun q hq => by
      rw [List.mem_singleton.mp hq]
      exact ⟨eS, nS, sS, dS, fun r hr => pne r hr⟩)
    refine codeAny_builtin F.entry_extend_loop ?_
    rw [Around.under_plainId F.plain_extend_loop _]
    show wpAny _ A.in1 (pyNext (.ref a) >>= _) _ _ s
    refine wpAny_bind ?_
    rw [← eP, ← ew]
    refine next2 (A := A.in1) (g := g) (S := S) hh I.nolimit hd (isG (Ipp.pin _ (List.mem_append_right _ (List.mem_append_right _ pm))).1) gn rd W ryH (fun v s4 gs' x H4 pp' gp' m' en hb4 hs4 rv F4 pr gpn pk xk yd rd => ?_) fun s4 H4 F4 pk xk en h' hk => ?_
    · obtain ⟨x1, x2, x3⟩ := xk _ (List.mem_singleton.mpr rfl)
      have sg : S0 ∉ frs g.outer := by rw [eO]; exact sS
      have I4 : Inv X (pins ++ ((S0, lstObj acc c) :: pp')) σ H4 s4 := Inv.ft (sw' := s.setGen g.gno .running) Ip rfl rfl eP ew eO old F4 (fun q hq => by
        rcases List.mem_cons.mp hq with rfl | hq
        · exact ⟨x1, x2, hn0, sg, dS⟩
        · exact pr.at_ q hq)
      have hlen : acc.size = ys.length := by
        have e1 := vs.length
        have e2 : acc.toList.length = acc.size := by simp
        omega
      have hlt : acc.size < sizeLine := by omega
      have ga : (a, go) ∈ pp' := pk _ (by rw [epn]; exact List.mem_singleton.mpr rfl)
      rw [eP, ew]
      show wpAny _ A.in1 (updateSeq S0 (·.push v) >>= _) _ _ _
      refine wpAny_bind ?_
      refine wpAny_updateSeq (s := s4.setGen g.gno gs') x1 rfl (wpAny_pure ⟨plainId_quiet F.plain_extend_loop _, ?_⟩) (Nat.le_of_lt hlt) (by show (acc.push v).size ≤ sizeLine + 1; rw [Array.size_push]; omega)
      have keep3 : ∀ b o, b ≠ S0 → s4.heap.get? b = some o → (s4.heap.update S0 (Obj.mapSeq (·.push v))).get? b = some o := fun b o hbS e => (Heap.get?_update_other _ _ (Ne.symm hbS)).trans e
      obtain ⟨c3, own3⟩ : ∃ c3, (s4.heap.update S0 (Obj.mapSeq (·.push v))).get? S0 = some (lstObj (acc.push v) c3) := ⟨_, Heap.get?_update_self _ x1 rfl⟩
      have hbG : AllBare (s4.setGen g.gno gs').gens := allBare_setGen I4.bare hb4
      have neS : ∀ q ∈ X.pn ++ (pins ++ pp'), q.1 ≠ S0 := fun q hq z => by
        have hq : q ∈ (X.pn ++ pins) ++ pp' := by rw [List.append_assoc]; exact hq
        rcases List.mem_append.mp hq with hq | hq
        · have l := old.pin q hq
          rw [z] at l
          exact absurd (Nat.lt_of_lt_of_le l hn0) (Nat.lt_irrefl _)
        · exact x3 q hq z
      have I5 := Inv.poke (h' := s4.heap.update S0 (Obj.mapSeq (·.push v))) (G := (s4.setGen g.gno gs').gens) I4 hS neS keep3 own3 (fun w q => by cases q) hbG
      refine ih m' (by omega) (ys ++ [x]) (acc.push v) c3 pp' gp' gs' H4 H4 _ I5 (setGen_at gpn.sz) (fun q hq => ?_) rd (ry H4) (step ys H x H4 p yd) ga x3 ?_ ?_
      · obtain ⟨h1, h2, h3⟩ := gpn.at_ q hq
        refine ⟨?_, h3⟩
        show (s4.gens.setIfInBounds g.gno gs')[q.1]? = _
        rw [Array.getElem?_setIfInBounds_ne (Nat.ne_of_lt h3)]
        exact h1
      · rw [Array.toList_push]
        exact vs.append (.cons rv .nil)
      · rw [List.length_append, List.length_singleton]
        omega
    · obtain ⟨x1, x2⟩ := xk _ (List.mem_singleton.mpr rfl)
      have sg : S0 ∉ frs g.outer := by rw [eO]; exact sS
      have I4 : Inv X (pins ++ [(S0, lstObj acc c)]) σ H4 s4 := Inv.ft (sw' := s.setGen g.gno .running) Ip rfl rfl eP ew eO old F4 (fun q hq => by
        rw [List.mem_singleton.mp hq]
        exact ⟨x1, x2, hn0, sg, dS⟩)
      have I5 := Inv.gens (g := (s4.setGen g.gno .finished).gens) I4 (allBare_setGen I4.bare rfl)
      have I5 : Inv X (pins ++ [(S0, lstObj acc c)]) σ H4 (s4.setGen g.gno .finished) := I5
      have I6 := I5.kept (t' := s4.toks) hk
      exact wpAny_pure (fin ys H H4 acc c _ p en vs (by omega) I6)

def tListG2 (t : TGen2) : TE := fun σ H Q => t σ H fun S H1 => ∃ P : List V → Hp → Prop, (∀ H, S.ry H H) ∧ P [] H1 ∧ (∀ ys Hw x H', P ys Hw → S.yd ys x Hw H' → P (ys ++ [x]) H') ∧ ∀ ys Hw H', P ys Hw → S.en ys Hw H' → ∀ p, H' p = none → Q (.ref p) (upd H' p (.lst ys))
theorem pe_listG2 {X : Cx} {k : Nat} {p pos : Pos} {e : Expr} {t : TGen2} {nm : Str} (h : PGen2 X k e t) (hr : Room (k + 3) X.A) (hg : Gl X nm) (hmg : X.mg nm = none) (hv : bootBuiltins nm = some (.type "list")) (hnm : nm ≠ "__name__" := by decide) (hdb : (nm == ("__debug__" : Str)) = false := by decide)
    (he : starEach [e] X.env = (false, eval e X.env) :: starEach [] X.env := by rfl) : PE X (.Call (.Name nm p) [e] [] pos) (tListG2 t) := by
  refine ⟨fun pins s σ H Q I hq => ?_⟩
  refine wpAny_Call_Name_kw (ld_blt I hg hmg hv ?_ hnm hdb)
  refine PyProof.Rows.callWith_type1 ?_ he rfl
  rw [he]
  show wpAny _ _ (spliced ((false, eval e X.env) :: backTo pos (starEach [] X.env))) _ _ s
  refine Calls.spliced_cons (thn (h.run pins s σ H _ I hq) fun u s1 ⟨S, H1, sc, g, a, go, c, pp, ⟨P, ry, p0, step, done⟩, _, Isc, eu, M⟩ => ?_)
  subst eu
  refine Calls.spliced_nil ?_
  obtain ⟨I1, old⟩ := Inv.made Isc M
  have isG : ∀ {h : Heap}, h.get? a = some go → h.IsGen a g.gno := fun {h} e => by
    obtain ⟨nm, qn, hd⟩ := M.dat
    exact ⟨go, nm, qn, e, M.cls, hd, M.slots⟩
  have g1 : s1.heap.get? a = some go := (M.priv.at_ _ M.ppm).1
  have hSa : s1.heap.objs.size ≠ a := Nat.ne_of_gt M.lt
  have hl := I1.nolimit
  have A1 : X.A.in1.in1.in1.frames = some X.stack := I1.ok.frames
  refine callType_codes (Q₁ := fun obj s₁ => obj = .ref s1.heap.objs.size ∧ s₁ = { s1 with heap := s1.heap.push { cls := .type "list", data := .seq #[] } }) F.called_list (F.typeCall_list_1 _) F.entry_list_init
    (code_list_new _ ⟨rfl, rfl⟩) fun obj s₁ h₁ => ?_
  obtain ⟨rfl, rfl⟩ := h₁
  have hS : (s1.heap.push { cls := .type "list", data := .seq #[] }).get? s1.heap.objs.size = some { cls := .type "list", data := .seq #[] } := Heap.get?_push_size _ rfl
  refine ⟨⟨_, hS, rfl⟩, F.args_list_init_2 _ _, ?_⟩
  show wpAny _ X.A.in1.in1 (do let old ← Builtin.List.listItems (.ref s1.heap.objs.size); Builtin.List.listUpdate (.ref s1.heap.objs.size) (fun _ => #[]); letGo old.toList.reverse; Builtin.List.listExtendWith (.ref s1.heap.objs.size) (.ref a) .none) _ _ _
  refine wpAny_bind ?_
  unfold Builtin.List.listItems
  refine wpAny_bind (wpAny_seqItems hS rfl (wpAny_pure ?_))
  show wpAny _ X.A.in1.in1 (updateSeq s1.heap.objs.size (fun _ => #[]) >>= fun _ => letGo (#[] : Array Value).toList.reverse >>= fun _ => Builtin.List.listExtendWith (.ref s1.heap.objs.size) (.ref a) .none) _ _ _
  refine wpAny_bind (wpAny_updateSeq hS rfl ?_)
  have hS2 := Heap.get?_update_self (Obj.mapSeq (fun _ => (#[] : Array Value))) hS rfl
  refine wpAny_bind (wpAny_letGo ?_)
  unfold Builtin.List.listExtendWith
  have up : ∀ (h : Heap) (f : Obj → Obj), (∀ b o, s1.heap.get? b = some o → h.get? b = some o) → ∀ b o, s1.heap.get? b = some o → (h.update s1.heap.objs.size f).get? b = some o := fun h f q b o e =>
    (Heap.get?_update_other _ _ (Ne.symm (Nat.ne_of_lt (Heap.lt_size e)))).trans (q b o e)
  have k1 : ∀ b o, s1.heap.get? b = some o → (s1.heap.push { cls := .type "list", data := .seq #[] }).get? b = some o := fun b o e => Heap.get?_push_of_some _ e
  have k2 := up _ (Obj.mapSeq (fun _ => (#[] : Array Value))) k1
  have gty : ∀ {h : Heap}, (∀ b o, s1.heap.get? b = some o → h.get? b = some o) → h.IsGen a g.gno := fun {h} q => isG (q _ _ g1)
  refine wpAny_bind (wpAny_typeOf (Heap.IsGen.typeIs (s := { s1 with heap := _ }) (gty k2)) ?_)
  have h1 : Builtin.List.listSameRef (.ref s1.heap.objs.size) (.ref a) = false := by simp [Builtin.List.listSameRef, hSa]
  have h2 : (Value.type "generator" == Value.type "list") = false := by decide
  have h3 : (Value.type "generator" == Value.type "tuple") = false := by decide
  simp only [h1, h2, h3, Bool.or_false, Bool.false_eq_true, if_false]
  refine wpAny_bind (wpAny_pyIter_gen (s := { s1 with heap := _ }) (gty k2) ?_)
  refine wpAny_bind (wpAny_holding ?_)
  unfold Builtin.List.listLengthHint
  refine wpAny_bind (wpAny_specialOf (Heap.IsGen.typeIs (s := { s1 with heap := _ }) (gty k2)) F.gen_no_len ?_)
  show wpAny _ X.A.in1.in1 (specialOf (Value.ref a) (Str.ofString "__length_hint__") >>= _) _ _ _
  refine wpAny_bind (wpAny_specialOf (Heap.IsGen.typeIs (s := { s1 with heap := _ }) (gty k2)) F.gen_no_hint ?_)
  refine wpAny_pure ?_
  show wpAny _ X.A.in1.in1 (rule "list.extend.makes-room" >>= fun _ => Builtin.List.listTouch (.ref s1.heap.objs.size) >>= fun _ =>
    again (.builtin "list.extend.loop" ⟨[.ref s1.heap.objs.size, .ref a, .none], []⟩)) _ _ _
  refine wpAny_bind (wpAny_rule ?_)
  refine wpAny_bind ?_
  show wpAny _ X.A.in1.in1 (updateSeq s1.heap.objs.size (·.push .none) >>= fun _ => updateSeq s1.heap.objs.size (·.pop)) _ _ _
  refine wpAny_bind (wpAny_updateSeq hS2 rfl ?_)
  have hS3 := Heap.get?_update_self (Obj.mapSeq (·.push Value.none)) hS2 rfl
  refine wpAny_updateSeq (hz := by seq_fits) hS3 rfl ?_
  have hS4 := Heap.get?_update_self (Obj.mapSeq (·.pop)) hS3 rfl
  have k4 := up _ (Obj.mapSeq (·.pop)) (up _ (Obj.mapSeq (·.push Value.none)) k2)
  refine wpAny_pure ⟨plainId_quiet F.plain_extend_loop _, ?_⟩
  have sz0 : X.s_0.heap.objs.size ≤ s1.heap.objs.size := I1.sz
  have n0le : g.n0 ≤ s1.heap.objs.size := Nat.le_trans (Nat.le_of_eq M.n0) (by
    by_cases hz : sc.heap.objs.size ≤ s1.heap.objs.size
    · exact hz
    · exfalso
      have pl := (M.priv.at_ _ M.ppm).2.2.1
      rw [M.n0] at pl
      exact absurd (Nat.lt_of_le_of_lt pl M.lt) (by omega))
  obtain ⟨c4, hS4'⟩ : ∃ c4, (((((s1.heap.push { cls := .type "list", data := .seq #[] }).update s1.heap.objs.size (Obj.mapSeq (fun _ => (#[] : Array Value)))).update s1.heap.objs.size (Obj.mapSeq (·.push Value.none))).update s1.heap.objs.size (Obj.mapSeq (·.pop))).get? s1.heap.objs.size) = some (lstObj #[] c4) := ⟨_, hS4⟩
  have I2 : Inv X (pins ++ pp) σ H1 { s1 with heap := _ } := I1.kept (t' := s1.toks) k4
  have frS : s1.heap.objs.size ∉ X.fs := I1.nofs (Nat.le_refl _)
  have I3 : Inv X (pins ++ ((s1.heap.objs.size, lstObj #[] c4) :: pp)) σ H1 { s1 with heap := _ } := I2.pins_of fun q hq => by
    rcases List.mem_append.mp hq with hq | hq
    · exact I2.pin q (List.mem_append_right _ (List.mem_append_left _ hq))
    · rcases List.mem_cons.mp hq with rfl | hq
      · exact ⟨hS4', I1.hok.fresh (Nat.le_refl _), Nat.ne_of_gt I1.lt, frS, fun v z => by cases z⟩
      · exact I2.pin q (List.mem_append_right _ (List.mem_append_right _ hq))
  refine drain2 (X := X) (pins := pins) (σ := σ) (k := k) (S := S) (g := g) (a := a) (S0 := s1.heap.objs.size) (go := go) (A := X.A.in1) (P := P) hr.hd (by have := hr.dp; show X.A.depth < _; omega) M.eP M.ew M.eb M.eo M.pn M.cls M.dat M.slots old sz0 n0le ry step
    (fun ys Hw H' acc c5 s' p en vs hlen I5 => ?_) sizeLine [] #[] c4 pp [] _ H1 H1 _ I3 M.gen (fun q hq => by cases hq) (M.rdy _ ⟨hr.hd, ?_, ?_⟩ A1) (ry H1) p0 M.ppm (fun q hq => ?_) .nil rfl
  · have hne : ∀ q ∈ X.pn ++ pins, q.1 ≠ s1.heap.objs.size := fun q hq z => by
      have l := old.pin q hq
      rw [z] at l
      exact absurd (Nat.lt_of_lt_of_le l n0le) (Nat.lt_irrefl _)
    have J := Inv.track I5 sz0 hne vs hlen
    exact ⟨rfl, .ref s1.heap.objs.size, _, J, rfl, done ys Hw H' p en _ (I5.pin (s1.heap.objs.size, _) (List.mem_append_right _ (List.mem_append_right _ (List.mem_singleton.mpr rfl)))).2.1⟩
  · have := hr.dp
    show X.A.depth + 3 * k + 5 < _
    omega
  · have := hr.un
    show X.A.units + 1 + 1 + 1 + 16 * k + 200 < _
    omega
  · exact Nat.ne_of_lt (Heap.lt_size (M.priv.at_ q hq).1)
end Z
/-! ### a comprehension with a test whose items are new things -/
namespace Z
open PySem PySem.Spec PyProof.Rows L2
section
variable {α : Type}
variable {J : It} {n : Nat} {G : Hp → Prop} {Y : Nat → Hp → V → Hp → Prop} {g : TG} {tt : TT} {te : TE} {vs : List Nat} {σ : L2.St} {H1 : Hp} {D : Addr} {Qd : Hp → Prop}
theorem lc_newF (w : Walk J n G Y) (xs : List α) (inj : α → V) (F : α → Option HO) (hn : n = xs.length) (hY : ∀ i H x H', i < n → Y i H x H' → H' = H ∧ (xs.map inj)[i]? = some x) (hD : H1 D = none) (hG : ∀ H', Same H1 H' → G H') (hz : xs.length < sizeLine)
    (hs : ∀ x ∈ xs, ∀ H', Same H1 H' → ∀ (Kt : V → Hp → Prop) (Kf : Hp → Prop), (∀ f r H2, F x = some f → Same H' H2 → H' r = none → H2 r = some f → Kt (.ref r) H2) → (∀ H2, F x = none → Same H' H2 → Kf H2) → g (inj x) (wipe σ vs) H' fun σ2 H2 => wipe σ2 vs = wipe σ vs ∧ tt σ2 H2 fun b H3 => if b = true then te σ2 H3 Kt else Kf H3)
    (hd : ∀ H' rs, Same H1 H' → H' D = some (.lst (rs.map V.ref)) → RowsA H' id rs (xs.filterMap F) → Qd H') :
    ∃ W : Nat → Nat → Hp → Prop, (∃ m, W 0 m (upd H1 D (.lst []))) ∧ ∀ i m H, W i m H → (J.stop i H ∧ Qd H) ∨ (J.go i H ∧ ∃ Nx : Hp → Prop, (∀ H', Nx H' → ∃ m', m' < m ∧ W (i + 1) m' H') ∧ ∀ x H', J.yld i H x H' → g x (wipe σ vs) H' fun σ2 H2 => wipe σ2 vs = wipe σ vs ∧ tt σ2 H2 fun b H3 =>
      if b = true then te σ2 H3 fun y H4 => ∃ acc, H4 D = some (.lst acc) ∧ acc.length < sizeLine ∧ Nx (upd H4 D (.lst (acc ++ [y]))) else Nx H3) := by
  refine lc_it w (fun i H => Same H1 H ∧ ∃ rs : List Addr, H D = some (.lst (rs.map V.ref)) ∧ D ∉ rs ∧ RowsA H id rs ((xs.take i).filterMap F)) ⟨same_new hD, [], upd_same, nofun, trivial⟩ (fun i H _ k => hG _ k.1) ?_ ?_
  · rintro i x H H' hi ⟨sm, rs, at_, nd, fa⟩ y
    obtain ⟨rfl, hx⟩ := hY i _ x H' hi y
    rw [List.getElem?_map] at hx
    obtain ⟨z, hz', rfl⟩ := Option.map_eq_some_iff.mp hx
    have next : xs.take (i + 1) = xs.take i ++ [z] := by rw [List.take_add_one, hz']; rfl
    refine hs z (List.mem_of_getElem? hz') _ sm _ _ (fun f r H2 ef s2 nr er => ⟨_, s2 _ _ at_, ?_, ?_, rs ++ [r], ?_, ?_, ?_⟩) fun H2 ef s2 => ⟨sm.trans s2, rs, s2 _ _ at_, nd, ?_⟩
    · have := fa.len
      have l1 := List.length_filterMap_le F (xs.take i)
      have b : (xs.take i).length ≤ xs.length := by rw [List.length_take]; omega
      rw [List.length_map, this]
      omega
    · exact fun b o h => by rw [upd_ne (ne_of_none h hD)]; exact s2 _ _ (sm _ _ h)
    · rw [upd_same, List.map_append]
      rfl
    · intro m
      rcases List.mem_append.mp m with m | m
      · exact nd m
      · rw [List.mem_singleton.mp m] at at_
        rw [nr] at at_
        exact absurd at_ nofun
    · have rD : r ≠ D := fun q => by rw [q, at_] at nr; exact absurd nr nofun
      rw [next, List.filterMap_append]
      simp only [List.filterMap_cons, ef, List.filterMap_nil]
      refine RowsA.snoc (f := id) (by rw [upd_ne rD]; exact er) (fa.imp fun a ha o q => ?_)
      rw [upd_ne (fun q => nd (by rw [← q]; exact ha))]
      exact s2 _ _ q
    · rw [next, List.filterMap_append]
      simp only [List.filterMap_cons, ef, List.filterMap_nil, List.append_nil]
      exact fa.imp fun a ha o q => s2 _ _ q
  · rintro H ⟨sm, rs, at_, _, fa⟩
    rw [hn, List.take_length] at fa
    exact hd H rs sm at_ fa
end
end Z
/-! ### rows of things that hang on tuples -/
namespace Z
open PySem PySem.Spec PyProof.Rows L2
def TupT (K : PySem.W.Frag) (H H' : Hp) : Prop := ∀ b xs, SqT K H b xs → SqT K H' b xs
theorem TupT.same {K : PySem.W.Frag} {H H' : Hp} (s : Same H H') : TupT K H H' := fun b xs h => seqT_same s h
theorem TupT.trans {K : PySem.W.Frag} {A B C : Hp} (s : TupT K A B) (t : TupT K B C) : TupT K A C := fun b xs h => t _ _ (s _ _ h)
theorem TupT.lst {K : PySem.W.Frag} {H : Hp} {D : Addr} {l : List V} {o : HO} (e : H D = some (.lst l)) : TupT K H (upd H D o) := by
  rintro b xs (h | h)
  · have nb : b ≠ D := fun q => by
      rw [q] at h
      rcases h with h | ⟨_, h⟩ <;> rw [e] at h <;> cases h
    refine .inl ?_
    unfold Rd at h ⊢
    rw [upd_ne nb]
    exact h
  · exact .inr h
theorem TupT.but {K : PySem.W.Frag} {H H' : Hp} {D : Addr} {l : List V} (e : H D = some (.lst l)) (s : But D H H') : TupT K H H' := by
  rintro b xs (h | h)
  · have nb : b ≠ D := fun q => by
      rw [q] at h
      rcases h with h | ⟨_, h⟩ <;> rw [e] at h <;> cases h
    refine .inl ?_
    rcases h with h | ⟨o, h⟩
    · exact .inl (s _ _ nb h)
    · exact .inr ⟨o, s _ _ nb h⟩
  · exact .inr h
def RowsR {α : Type} (R : Hp → V → α → Prop) (H : Hp) : List V → List α → Prop
  | [], [] => True
  | v :: vs, x :: xs => R H v x ∧ RowsR R H vs xs
  | _, _ => False
structure TupR (K : PySem.W.Frag) {α : Type} (R : Hp → V → α → Prop) : Prop where
  up : ∀ H H' v x, TupT K H H' → R H v x → R H' v x
section
variable {K : PySem.W.Frag} {α β : Type} {R : Hp → V → α → Prop} {S : Hp → V → β → Prop} {H H' : Hp}
theorem RowsR.len : ∀ {vs : List V} {xs : List α}, RowsR R H vs xs → vs.length = xs.length
  | [], [], _ => rfl
  | _ :: vs, _ :: xs, h => by rw [List.length_cons, List.length_cons, RowsR.len (vs := vs) (xs := xs) h.2]
theorem RowsR.imp {S : Hp → V → α → Prop} : ∀ {vs : List V} {xs : List α}, (∀ v x, x ∈ xs → R H v x → S H' v x) → RowsR R H vs xs → RowsR S H' vs xs
  | [], [], _, _ => trivial
  | _ :: vs, _ :: xs, k, h => ⟨k _ _ (.head _) h.1, RowsR.imp (vs := vs) (xs := xs) (fun v x m => k v x (.tail _ m)) h.2⟩
theorem RowsR.up (st : TupR K R) (s : TupT K H H') {vs : List V} {xs : List α} (h : RowsR R H vs xs) : RowsR R H' vs xs := h.imp fun v x _ => st.up _ _ _ _ s
theorem RowsR.app {ws : List V} {ys : List α} (e : RowsR R H ws ys) : ∀ {vs : List V} {xs : List α}, RowsR R H vs xs → RowsR R H (vs ++ ws) (xs ++ ys)
  | [], [], _ => e
  | _ :: vs, _ :: xs, h => ⟨h.1, RowsR.app e (vs := vs) (xs := xs) h.2⟩
theorem RowsR.snoc {v : V} {x : α} (e : R H v x) {vs : List V} {xs : List α} (h : RowsR R H vs xs) : RowsR R H (vs ++ [v]) (xs ++ [x]) := RowsR.app (ws := [v]) (ys := [x]) ⟨e, trivial⟩ h
theorem RowsR.at : ∀ {vs : List V} {xs : List α} {i : Nat} {v : V}, RowsR R H vs xs → vs[i]? = some v → ∃ x, xs[i]? = some x ∧ R H v x
  | v :: _, x :: _, 0, _, h, e => by cases e; exact ⟨x, rfl, h.1⟩
  | _ :: vs, _ :: xs, i + 1, _, h, e => RowsR.at (vs := vs) (xs := xs) (i := i) h.2 e
/-- the same row, seen otherwise -/
theorem RowsR.map {f : α → β} : ∀ {vs : List V} {xs : List α}, (∀ v x, x ∈ xs → R H v x → S H v (f x)) → RowsR R H vs xs → RowsR S H vs (xs.map f)
  | [], [], _, _ => trivial
  | _ :: vs, _ :: xs, k, h => ⟨k _ _ (.head _) h.1, RowsR.map (vs := vs) (xs := xs) (fun v x m => k v x (.tail _ m)) h.2⟩
end
section
variable {α β : Type} {J : It} {n : Nat} {G : Hp → Prop} {Y : Nat → Hp → V → Hp → Prop} {g : TG} {tt : TT} {te : TE} {vs : List Nat} {σ : L2.St} {H1 : Hp} {D : Addr} {Qd : Hp → Prop}
/-- a comprehension whose items hang on tuples -/
theorem lc_newR {K : PySem.W.Frag} {R : Hp → V → β → Prop} (st : TupR K R) (w : Walk J n G Y) (xs : List α) (inj : α → V) (f : α → β) (hn : n = xs.length) (hY : ∀ i H x H', i < n → Y i H x H' → H' = H ∧ (xs.map inj)[i]? = some x) (hD : H1 D = none) (hG : ∀ H', Same H1 H' → G H') (hz : xs.length < sizeLine)
    (hs : ∀ x ∈ xs, ∀ H', Same H1 H' → ∀ (Kt : V → Hp → Prop) (Kf : Hp → Prop), (∀ v H2, Same H' H2 → R H2 v (f x) → Kt v H2) → g (inj x) (wipe σ vs) H' fun σ2 H2 => wipe σ2 vs = wipe σ vs ∧ tt σ2 H2 fun b H3 => if b = true then te σ2 H3 Kt else Kf H3)
    (hd : ∀ H' rs, Same H1 H' → H' D = some (.lst rs) → RowsR R H' rs (xs.map f) → Qd H') :
    ∃ W : Nat → Nat → Hp → Prop, (∃ m, W 0 m (upd H1 D (.lst []))) ∧ ∀ i m H, W i m H → (J.stop i H ∧ Qd H) ∨ (J.go i H ∧ ∃ Nx : Hp → Prop, (∀ H', Nx H' → ∃ m', m' < m ∧ W (i + 1) m' H') ∧ ∀ x H', J.yld i H x H' → g x (wipe σ vs) H' fun σ2 H2 => wipe σ2 vs = wipe σ vs ∧ tt σ2 H2 fun b H3 =>
      if b = true then te σ2 H3 fun y H4 => ∃ acc, H4 D = some (.lst acc) ∧ acc.length < sizeLine ∧ Nx (upd H4 D (.lst (acc ++ [y]))) else Nx H3) := by
  refine lc_it w (fun i H => Same H1 H ∧ ∃ rs : List V, H D = some (.lst rs) ∧ RowsR R H rs ((xs.take i).map f)) ⟨same_new hD, [], upd_same, trivial⟩ (fun i H _ k => hG _ k.1) ?_ ?_
  · rintro i x H H' hi ⟨sm, rs, at_, fa⟩ y
    obtain ⟨rfl, hx⟩ := hY i _ x H' hi y
    rw [List.getElem?_map] at hx
    obtain ⟨z, hz', rfl⟩ := Option.map_eq_some_iff.mp hx
    refine hs z (List.mem_of_getElem? hz') _ sm _ _ (fun r H2 s2 re => ⟨_, s2 _ _ at_, ?_, fun b o h => by rw [upd_ne (ne_of_none h hD)]; exact s2 _ _ (sm _ _ h), rs ++ [r], upd_same, ?_⟩)
    · have := fa.len
      rw [List.length_map] at this
      have b : (xs.take i).length ≤ xs.length := by rw [List.length_take]; omega
      omega
    · rw [show xs.take (i + 1) = xs.take i ++ [z] by rw [List.take_add_one, hz']; rfl, List.map_append]
      exact RowsR.snoc (st.up _ _ _ _ (TupT.lst (s2 _ _ at_)) re) (fa.up st ((TupT.same s2).trans (TupT.lst (s2 _ _ at_))))
  · rintro H ⟨sm, rs, at_, fa⟩
    rw [hn, List.take_length] at fa
    exact hd H rs sm at_ fa
end
theorem RowsR.zip {α : Type} {R : Hp → V → α → Prop} {H : Hp} : ∀ {vs : List V} {xs : List α}, RowsR R H vs xs → ∀ z ∈ vs.zip xs, R H z.1 z.2
  | [], [], _, z, h => nomatch h
  | _ :: vs, _ :: xs, r, z, h => by
    rcases List.mem_cons.mp h with rfl | h
    · exact r.1
    · exact RowsR.zip (vs := vs) (xs := xs) r.2 z h
section
variable {α β : Type} {g : TG} {tt : TT} {te : TE} {vs : List Nat} {σ : L2.St} {H1 : Hp} {D : Addr} {Qd : Hp → Prop}
/-- a comprehension over a list of such things -/
theorem lc_overR {K : PySem.W.Frag} {R : Hp → V → α → Prop} {S : Hp → V → β → Prop} (sr : TupR K R) (ss : TupR K S) {a : Addr} {ws : List V} {xs : List α} (f : α → β) (hr : RowsR R H1 ws xs) (hl : H1 a = some (.lst ws)) (hD : H1 D = none) (hz : xs.length < sizeLine)
    (hs : ∀ v x, x ∈ xs → ∀ H', Same H1 H' → R H' v x → ∀ (Kt : V → Hp → Prop) (Kf : Hp → Prop), (∀ v' H2, Same H' H2 → S H2 v' (f x) → Kt v' H2) → g v (wipe σ vs) H' fun σ2 H2 => wipe σ2 vs = wipe σ vs ∧ tt σ2 H2 fun b H3 => if b = true then te σ2 H3 Kt else Kf H3)
    (hd : ∀ H' rs, Same H1 H' → H' D = some (.lst rs) → RowsR S H' rs (xs.map f) → Qd H') :
    ∃ W : Nat → Nat → Hp → Prop, (∃ m, W 0 m (upd H1 D (.lst []))) ∧ ∀ i m H, W i m H → ((Itl K a).stop i H ∧ Qd H) ∨ ((Itl K a).go i H ∧ ∃ Nx : Hp → Prop, (∀ H', Nx H' → ∃ m', m' < m ∧ W (i + 1) m' H') ∧ ∀ x H', (Itl K a).yld i H x H' → g x (wipe σ vs) H' fun σ2 H2 => wipe σ2 vs = wipe σ vs ∧ tt σ2 H2 fun b H3 =>
      if b = true then te σ2 H3 fun y H4 => ∃ acc, H4 D = some (.lst acc) ∧ acc.length < sizeLine ∧ Nx (upd H4 D (.lst (acc ++ [y]))) else Nx H3) := by
  have len := hr.len
  have e1 : (ws.zip xs).map Prod.fst = ws := List.map_fst_zip (by omega)
  have e2 : (ws.zip xs).map (fun z => f z.2) = xs.map f := by
    have : (ws.zip xs).map Prod.snd = xs := List.map_snd_zip (by omega)
    conv => rhs; rw [← this]
    rw [List.map_map]
    rfl
  refine lc_newR ss (walk_list (K := K) (a := a) (xs := ws)) (ws.zip xs) Prod.fst (fun z => f z.2) (by rw [List.length_zip]; omega) (fun i H x H' hi y => by rw [e1]; exact y) hD (fun H' s => SqL.of (s _ _ hl)) (by rw [List.length_zip]; omega) (fun z hz H' s Kt Kf kt => ?_) fun H' rs s e r => hd H' rs s e (by rw [← e2]; exact r)
  have q := hr.zip z hz
  exact hs z.1 z.2 (List.of_mem_zip hz).2 H' s (sr.up _ _ _ _ (TupT.same s) q) Kt Kf kt
end
/-- what is wished of a generator of such things -/
def gsR {α : Type} (T : List α) (R : Hp → V → α → Prop) : GSpec := ⟨fun ys x Hw H1 => ∃ it, T[ys.length]? = some it ∧ Same Hw H1 ∧ R H1 x it, fun ys Hw H1 => ys.length = T.length ∧ Same Hw H1, Same⟩
theorem gen_listR {K : PySem.W.Frag} {α : Type} {T : List α} {R : Hp → V → α → Prop} (st : TupR K R) {sp : SpG2} {as : List V} {H : Hp} {Q : Addr → Hp → List V → Prop} (h : sp as H (gsR T R)) (k : ∀ q H' vs, Same H H' → H' q = none → RowsR R H' vs T → Q q H' vs) :
    ∃ S : GSpec, sp as H S ∧ ∃ P : List V → Hp → Prop, (∀ H, S.ry H H) ∧ P [] H ∧ (∀ ys Hw x H', P ys Hw → S.yd ys x Hw H' → P (ys ++ [x]) H') ∧ ∀ ys Hw H', P ys Hw → S.en ys Hw H' → ∀ p, H' p = none → Q p H' ys := by
  refine ⟨gsR T R, h, fun ys Hw => RowsR R Hw ys (T.take ys.length) ∧ Same H Hw, fun _ => Same.refl _, ⟨trivial, Same.refl _⟩, ?_, ?_⟩
  · rintro ys Hw x H' ⟨fa, s⟩ ⟨it, hit, s2, r⟩
    refine ⟨?_, s.trans s2⟩
    rw [List.length_append, List.length_singleton, List.take_add_one, hit]
    exact RowsR.snoc r (fa.up st (TupT.same s2))
  · rintro ys Hw H' ⟨fa, s⟩ ⟨hl, s2⟩ p hp
    rw [hl, List.take_length] at fa
    exact k p H' ys (s.trans s2) hp (fa.up st (TupT.same s2))
/-- a tuple of names -/
def TNm (K : PySem.W.Frag) (H : Hp) (v : V) (f : List Str) : Prop := ∃ t, v = .ref t ∧ SqT K H t (f.map V.str)
theorem tupR_nm {K : PySem.W.Frag} : TupR K (TNm K) := ⟨fun _ _ _ _ s ⟨t, e, h⟩ => ⟨t, e, s _ _ h⟩⟩
theorem dp_tnm {K : PySem.W.Frag} {H : Hp} : ∀ {vs : List V} {fs : List (List Str)}, RowsR (TNm K) H vs fs → DpAll K H vs (fs.map fun f => .tuple (f.map PyData.str))
  | [], [], _ => .nil
  | _ :: vs, f :: fs, ⟨⟨t, e, h⟩, r⟩ => by subst e; exact .cons (.tup h (dp_strs _)) (dp_tnm r)
end Z
/-! ### repr of a list or tuple whose items are data or empty dicts; of a dict of one pair -/
namespace Z
open PySem PySem.Spec PyProof.Rows L2
/-- the items are read, dicts apart from sys.modules -/
def RIAll (h : Heap) : List Value → List PyData → Prop
  | [], [] => True
  | u :: us, d :: ds => (∃ as, Reads h u d as ∧ (d.hasDict = true → sysModules ∉ as)) ∧ RIAll h us ds
  | _, _ => False
theorem riAll_reads {h : Heap} : ∀ {us : List Value} {ds : List PyData}, RIAll h us ds → ∃ as, ReadsAll h us ds as
  | [], [], _ => ⟨_, .nil⟩
  | _ :: us, _ :: ds, ⟨⟨as, r, _⟩, q⟩ => let ⟨bs, rs⟩ := riAll_reads (us := us) (ds := ds) q; ⟨_, .cons r rs⟩
theorem riAll_K {prog : Program} {w : World} {h₀ : Heap} : ∀ {us : List Value} {ds : List PyData}, RIAll h₀ us ds → PyData.showableAll ds = true → (∀ t ∈ PyData.shownAll ds, t.length ≤ sizeLine) →
    ∃ bs, ReadAtMost h₀ (PyData.depthAll ds) bs ∧ ReprAllK prog w bs h₀ (PyData.depthAll ds) us (PyData.shownAll ds)
  | [], [], _, _, _ => ⟨[], (fun _ h => nomatch h), by simp only [PyData.shownAll]; exact .nil⟩
  | u :: us, d :: ds, ⟨⟨as, r, nd⟩, q⟩, hs, hz => by
    have hs' : d.showable = true ∧ PyData.showableAll ds = true := by simpa [PyData.showableAll] using hs
    obtain ⟨b1, hb1, k1⟩ := ReprK.of_reads (prog := prog) (w := w) r hs'.1 nd (hz _ (by simp only [PyData.shownAll]; exact List.mem_cons_self ..))
    obtain ⟨b2, hb2, k2⟩ := riAll_K (prog := prog) (w := w) q hs'.2 (fun t ht => hz t (by simp only [PyData.shownAll]; exact List.mem_cons_of_mem _ ht))
    refine ⟨b1 ++ b2, ?_, ?_⟩
    · intro b hm
      simp only [PyData.depthAll]
      rcases List.mem_append.mp hm with hm | hm
      · obtain ⟨d', as', r', hd'⟩ := hb1 b hm
        exact ⟨d', as', r', Nat.le_trans hd' (Nat.le_max_left _ _)⟩
      · obtain ⟨d', as', r', hd'⟩ := hb2 b hm
        exact ⟨d', as', r', Nat.le_trans hd' (Nat.le_max_right _ _)⟩
    · simp only [PyData.depthAll, PyData.shownAll]
      exact .cons ((k1.more fun b hb => List.mem_append_left _ hb).level_le (Nat.le_max_left _ _)) (k2.more_le (fun b hb => List.mem_append_right _ hb) (Nat.le_max_right _ _))
section
variable {prog : Program} {w : World} {A : Around} {E : Value → Shared → Prop} {s : Shared} {Q : Value → Shared → Prop} {a : Addr} {ds : List PyData}
theorem repr_listI {o : Obj} {its : List Value} {n : Nat} (h1 : s.heap.get? a = some o) (h2 : o.cls = .type "list") (h3 : o.data = .seq its.toArray n) (r : RIAll s.heap its ds) (hs : PyData.showableAll ds = true) (hg : A.guards = some []) (hu : A.units + (PyData.depthAll ds + 2) < cLine)
    (hsz : (PyData.list ds).shown.length ≤ sizeLine) (hQ : ∀ h' u tk, (∀ b o, s.heap.get? b = some o → h'.get? b = some o) → Q (.str (PyData.list ds).shown u) { s with heap := h', toks := tk }) : wpAny (model prog w) A (call (.builtin "repr") [.ref a]) Q E s := by
  have hz' : (listText (PyData.shownAll ds)).length ≤ sizeLine := by simpa only [PyData.shown] using hsz
  simp only [PyData.shown] at hQ
  obtain ⟨as, rd⟩ := riAll_reads r
  obtain ⟨bs, hb, hk⟩ := riAll_K (prog := prog) (w := w) r hs (fun t ht => Nat.le_trans (listText_mem_le ht) hz')
  have hna : a ∉ bs := not_mem_of_deeper (.list h1 h2 h3 rd) (by simp only [PyData.depth]; omega) hb
  refine call_repr_slot (by omega) ⟨o, h1, h2⟩ F.slot_list_repr.toG ?_
  cases its with
  | nil =>
    cases rd
    simp only [PyData.shownAll, listText_nil] at hQ
    exact call_list_repr_empty ⟨o, h1, h2⟩ h1 h3 ⟨_, _, rfl, hQ s.heap _ _ fun _ _ e => e⟩
  | cons x l =>
    exact call_list_reprK h1 h2 h3 hna (by simpa using hk.length_eq) (fun i y e => hk.item i y (by simpa using e)) (show A.in1.guards = some [] from hg) (fun b _ => Clear.nil b) (by show A.units + 1 + _ < cLine; omega) (fun _ _ e => e) (fun h' u tk k => ⟨_, _, rfl, hQ h' u tk k⟩) hz'
theorem repr_tupI {o : Obj} {its : List Value} {n : Nat} (h1 : s.heap.get? a = some o) (h2 : o.cls = .type "tuple") (h3 : o.data = .seq its.toArray n) (r : RIAll s.heap its ds) (hs : PyData.showableAll ds = true) (hg : A.guards = some []) (hu : A.units + (PyData.depthAll ds + 2) < cLine)
    (hsz : (PyData.tuple ds).shown.length ≤ sizeLine) (hQ : ∀ h' u tk, (∀ b o, s.heap.get? b = some o → h'.get? b = some o) → Q (.str (PyData.tuple ds).shown u) { s with heap := h', toks := tk }) : wpAny (model prog w) A (call (.builtin "repr") [.ref a]) Q E s := by
  have hz' : (tupleText (PyData.shownAll ds)).length ≤ sizeLine := by simpa only [PyData.shown] using hsz
  simp only [PyData.shown] at hQ
  obtain ⟨as, rd⟩ := riAll_reads r
  obtain ⟨bs, hb, hk⟩ := riAll_K (prog := prog) (w := w) r hs (fun t ht => Nat.le_trans (tupleText_mem_le ht) hz')
  have hna : a ∉ bs := not_mem_of_deeper (.tuple h1 h2 h3 rd) (by simp only [PyData.depth]; omega) hb
  refine call_repr_slot (by omega) ⟨o, h1, h2⟩ F.slot_tuple_repr ?_
  exact call_tuple_reprK h1 h2 h3 hna hk (show A.in1.guards = some [] from hg) (fun b _ => Clear.nil b) (by show A.units + 1 + _ < cLine; omega) (fun _ _ e => e) (fun h' u tk k => ⟨_, _, rfl, hQ h' u tk k⟩) hz'
end
/-- data, or an empty dict -/
def ItD (K : PySem.W.Frag) (H : Hp) (v : V) (d : PyData) : Prop := (Dp K H v d ∧ d.hasDict = false) ∨ ∃ a, v = .ref a ∧ H a = some (.dK []) ∧ d = .dict []
theorem itD_reads {X : Cx} {pins : List (Addr × Obj)} {σ : L2.St} {H : Hp} {s : Shared} (I : Inv X pins σ H s) : ∀ {vs : List V} {ds : List PyData} {us : List Value}, RowsR (ItD X.K) H vs ds → Vals vs us → RIAll s.heap us ds
  | [], [], _, _, r => by cases r; exact trivial
  | _ :: vs, _ :: ds, _, ⟨h, t⟩, r => by
    cases r with
    | cons r1 rr =>
      refine ⟨?_, itD_reads I t rr⟩
      rcases h with ⟨h, nd⟩ | ⟨a, rfl, ha, rfl⟩
      · obtain ⟨as, rd⟩ := Dp.reads I _ _ _ h r1
        exact ⟨as, rd, PyData.noDict_hsm nd⟩
      · cases r1
        obtain ⟨ne, rd⟩ := empty_reads I.hok ha
        exact ⟨_, rd, fun _ m => ne (List.mem_singleton.mp m).symm⟩
theorem one_reads {P : Program} {w : World} {H : Hp} {h : Heap} {a : Addr} {x : Str} {i : Int} (ok : HOk P w H h) (ha : H a = some (.dK [(.inr x, .int i)])) : a ≠ sysModules ∧ Reads h (.ref a) (.dict [(.str x, .int i)]) [a] := by
  obtain ⟨_, ne, vs, kv, o, es, ep, h1, h2, h3, h4, h5, h6⟩ := dk_of ok ha
  refine ⟨fun q => by rw [q] at ne; simp at ne, ?_⟩
  cases kv with
  | cons k1 kr =>
    cases kr
    rename_i y
    obtain ⟨e1, e2⟩ := k1
    generalize hes : es.toList = l at h5
    cases h5 with
    | cons hk hv hr =>
      cases hr
      rename_i en
      have key : ∃ t, en.key = .str x t := by
        have q := relV_key hk
        rw [← e1] at q
        exact q
      obtain ⟨t, hkey⟩ := key
      have val : ∃ t, en.val = .int i t := by
        rw [hv]
        exact e2
      obtain ⟨t2, hval⟩ := val
      have r := Reads.dict (h := h) (a := a) (kvs := [(.str x, .int i)]) (as := []) (bs := []) h1 h2.1 h3 (by rw [hes]; show ReadsAll h [en.key] [.str x] _; rw [hkey]; exact .cons (.str x t) .nil) (by rw [hes]; show ReadsAll h [en.val] [.int i] _; rw [hval]; exact .cons (.int i t2) .nil)
      exact r
/-- repr of a list or a tuple of such items, of a dict of one pair, of data -/
def rReprI (K : PySem.W.Frag) : List V → Hp → VK → Prop := fun xs H Q => rReprX K xs H Q ∨
  (∃ p vs ds, xs = [.ref p] ∧ H p = some (.lst vs) ∧ RowsR (ItD K) H vs ds ∧ PyData.showableAll ds = true ∧ PyData.depthAll ds ≤ 60 ∧ (PyData.list ds).shown.length ≤ sizeLine ∧ Q (.str (PyData.list ds).shown) H) ∨
  (∃ p vs ds, xs = [.ref p] ∧ H p = some (.tup vs) ∧ RowsR (ItD K) H vs ds ∧ PyData.showableAll ds = true ∧ PyData.depthAll ds ≤ 60 ∧ (PyData.tuple ds).shown.length ≤ sizeLine ∧ Q (.str (PyData.tuple ds).shown) H) ∨
  ∃ p, xs = [.ref p] ∧ H p = some (.dK [(.inr "a", .int 1)]) ∧ Q (.str (PyData.dict [(.str "a", .int 1)]).shown) H
theorem kcall_reprI {X : Cx} {K : PySem.W.Frag} (hgu : X.A.guards = some []) (hu : X.A.units + 70 < cLine) (hK : X.K = K := by rfl) : CallR X (.builtin "repr") (rReprI K) := by
  rintro pins s σ H xs us Q I r (h | ⟨p, vs, ds, rfl, hp, rw, hs, hd, hz, q⟩ | ⟨p, vs, ds, rfl, hp, rw, hs, hd, hz, q⟩ | ⟨p, rfl, hp, q⟩)
  · exact kcall_reprX hgu hu hK pins s σ H xs us Q I r h
  · subst hK
    cases r with
    | cons r1 rs =>
      cases rs
      cases r1
      obtain ⟨_, its, n, rv, ho⟩ := (show ObjOk X.prog X.w H s.heap p (.lst vs) from I.hok p _ hp)
      exact repr_listI ho rfl rfl (itD_reads I rw rv) hs hgu (by omega) hz fun h' y tk hk => ⟨.str _, H, I.kept hk, ⟨y, rfl⟩, q⟩
  · subst hK
    cases r with
    | cons r1 rs =>
      cases rs
      cases r1
      obtain ⟨_, its, rv, o, ho, hc, n, hd2⟩ := (show ObjOk X.prog X.w H s.heap p (.tup vs) from I.hok p _ hp)
      exact repr_tupI ho hc hd2 (itD_reads I rw rv) hs hgu (by omega) hz fun h' y tk hk => ⟨.str _, H, I.kept hk, ⟨y, rfl⟩, q⟩
  · cases r with
    | cons r1 rs =>
      cases rs
      cases r1
      obtain ⟨ne, rd⟩ := one_reads I.hok hp
      refine repr_of_reads' rd (by decide +kernel) (fun _ m => ne (List.mem_singleton.mp m).symm) hgu (by rw [show (PyData.dict [(.str "a", .int 1)]).depth = 1 by decide +kernel]; omega) (fun _ _ e => e) (fun h' y tk hk => ?_) (by decide +kernel)
      exact ⟨.str _, H, I.kept hk, ⟨y, rfl⟩, q⟩
end Z
/-! ### lists of different lengths -/
namespace Z
open PySem PySem.Spec PyProof.Rows L2
def rNeS : R2 := fun x y H Q => ∃ (a b : Addr) (xs ys : List V), x = .ref a ∧ y = .ref b ∧ H a = some (.lst xs) ∧ H b = some (.lst ys) ∧ xs.length ≠ ys.length ∧ Q (.bl true) H
theorem op_neS {X : Cx} (hu : X.A.units + 2 < cLine) : OpR X (compareOp .NotEq) rNeS := by
  rintro pins s σ H x y v u Q I rx ry ⟨a, b, xs, ys, rfl, rfl, ha, hb, ne, q⟩
  cases rx
  cases ry
  obtain ⟨_, its, n, rv, ho⟩ := (show ObjOk X.prog X.w H s.heap a (.lst xs) from I.hok a _ ha)
  obtain ⟨_, jts, m, rw, hp⟩ := (show ObjOk X.prog X.w H s.heap b (.lst ys) from I.hok b _ hb)
  refine rc_list_neS (by omega) ho hp ?_ ⟨.bl true, H, I, rfl, q⟩
  rw [List.size_toArray, List.size_toArray, ← rv.length, ← rw.length]
  exact ne
def rNeE (K : PySem.W.Frag) : R2 := fun x y H Q => rNeS x y H Q ∨ rNeD K x y H Q
theorem op_neE {X : Cx} {K : PySem.W.Frag} (hu : X.A.units + 64 < cLine) (hK : X.K = K := by rfl) : OpR X (compareOp .NotEq) (rNeE K) := by
  subst hK
  exact op_or2 (op_neS (by omega)) (op_neD hu)
/-- whether there is anything in a list -/
theorem neE_of {K : PySem.W.Frag} {H : Hp} {a b : Addr} {xs : List V} {Q : VK} (ha : H a = some (.lst xs)) (hb : H b = some (.lst [])) (q : Q (.bl (!xs.isEmpty)) H) : rNeE K (.ref a) (.ref b) H Q := by
  cases xs with
  | nil => exact .inr ⟨.list [], .list [], .lst (SqL.of ha) .nil, .lst (SqL.of hb) .nil, by decide +kernel, by decide +kernel, by rw [show (!PyData.eqv (.list []) (.list [])) = false by decide +kernel]; exact q⟩
  | cons x xs => exact .inl ⟨a, b, _, _, rfl, rfl, ha, hb, by simp, q⟩
end Z
/-! ### a loop over any walk -/
namespace Z
open PySem PySem.Spec PyProof.Rows L2
theorem for_walkP {J : It} {n : Nat} {G : Hp → Prop} {Y : Nat → Hp → V → Hp → Prop} (w : Walk J n G Y) {g : TG} {tb : TS} {D : Ends} {σ : L2.St} {H : Hp} (Pv : Nat → L2.St → Hp → Prop) (h0 : Pv 0 σ H) (hG : ∀ i σ H, i ≤ n → Pv i σ H → G H)
    (hs : ∀ i x σ H H', i < n → Pv i σ H → Y i H x H' → g x σ H' fun σ2 H2 => tb { D with nx := Pv (i + 1), ct := Pv (i + 1), bk := D.nx } σ2 H2) (hd : ∀ σ H, Pv n σ H → D.nx σ H) :
    ∃ W : Nat → Nat → L2.St → Hp → Prop, (∃ m, W 0 m σ H) ∧ ∀ i m σ H, W i m σ H →
      (J.stop i H ∧ D.nx σ H) ∨ (J.go i H ∧ ∃ N : L2.St → Hp → Prop, (∀ σ' H', N σ' H' → ∃ m', m' < m ∧ W (i + 1) m' σ' H') ∧ ∀ x H', J.yld i H x H' → g x σ H' fun σ2 H2 => tb { D with nx := N, ct := N, bk := D.nx } σ2 H2) := by
  refine ⟨fun i m σ H => m = n - i ∧ i ≤ n ∧ Pv i σ H, ⟨n, by simp, Nat.zero_le _, h0⟩, ?_⟩
  rintro i m σ H ⟨rfl, hi, p⟩
  have q := hG i σ H hi p
  by_cases hlt : i < n
  · exact .inr ⟨w.goes i H hlt q, Pv (i + 1), fun σ' H' p' => ⟨n - (i + 1), by omega, rfl, hlt, p'⟩, fun x H' y => hs i x σ H H' hlt p (w.yields i H x H' hlt q y)⟩
  · have e : i = n := by omega
    subst e
    exact .inl ⟨w.stops H q, hd σ H p⟩
/-- .. over the items of a list or a tuple and their places -/
theorem for_enumR {K : PySem.W.Frag} {p : Addr} {xs : List V} {t : TA} {g : TG} {tb : TS} {D : Ends} {σ : L2.St} {H : Hp} (hp : RowA H p xs) (ht : ∀ Q, Q [V.ref p] H → t σ H Q) (Pv : Nat → L2.St → Hp → Prop) (h0 : Pv 0 σ H) (hG : ∀ i σ H', i ≤ xs.length → Pv i σ H' → ∀ o, H p = some o → H' p = some o)
    (hs : ∀ i x T σ H, xs[i]? = some x → Pv i σ H → H T = none → g (.ref T) σ (upd H T (.tup [.int (i : Nat), x])) fun σ2 H2 => tb { D with nx := Pv (i + 1), ct := Pv (i + 1), bk := D.nx } σ2 H2) (hd : ∀ σ H, Pv xs.length σ H → D.nx σ H) :
    tFor (fun σ H R => iEnum K t σ H R ∨ iEnumT K t σ H R) g tb D σ H := by
  rcases hp with hp | hp
  · refine .inl (ht _ ⟨p, xs, rfl, SqL.of hp, for_walkP walk_enum Pv h0 (fun i σ H' hi q => SqL.of (hG i σ H' hi q _ hp)) (fun i x σ H1 H' hi q y => ?_) hd⟩)
    obtain ⟨T, a, b, rfl, hT, rfl, e1, e2⟩ := y
    cases e1
    exact hs i b T σ H1 e2 q hT
  · refine .inr (ht _ ⟨p, xs, rfl, SqT.of hp, for_walkP walk_enumT Pv h0 (fun i σ H' hi q => SqT.of (hG i σ H' hi q _ hp)) (fun i x σ H1 H' hi q y => ?_) hd⟩)
    obtain ⟨T, a, b, rfl, hT, rfl, e1, e2⟩ := y
    cases e1
    exact hs i b T σ H1 e2 q hT
end Z
namespace Z
open PySem PySem.Spec PyProof.Rows L2
def top (i : Nat) : Stmt := PySem.Challenge.pw_seenframes_k02_names_and_hosts.main.body.getD i (.Pass ⟨0, 0, 0, 0⟩)
def dd (x : Str) (i : Nat) (dfl : List He.Dv := []) : He.DefD := ⟨(x, none), x, x, defArgs (top i), defBody (top i), defScope (top i), dfl, []⟩
def dm (c m q : Str) (i j : Nat) (dfl : List He.Dv := []) : He.DefD := ⟨(c, some m), m, q, defArgs (inClass (top i) j), defBody (inClass (top i) j), defScope (inClass (top i) j), dfl, []⟩
def gd (c m q : Str) (i j : Nat) (cm : Bool := false) : GetD := ⟨c, m, q, defArgs (inClass (top i) j), defBody (inClass (top i) j), defScope (inClass (top i) j), cm⟩
def fn : List He.DefD := [dd "_law_pen" 13, dd "_law_draw" 14, dd "_law_pick" 15, dd "_law_name" 16, dd "_law_names" 17, dd "is_name" 7, dd "fours_of" 10, dd "fives_of" 11, dd "_law_chosen" 23, dd "_law_chosen_right" 24, dd "_law_odd" 18, dd "_law_many" 20, dm "BadHosts" "__init__" "BadHosts.__init__" 4 0, dm "TooMany" "__init__" "TooMany.__init__" 5 0, dd "ascending" 8, dd "hosts_of" 9 [.int 40], dd "_law_is_name" 19, dd "_law_due" 21, dd "_law_heard" 22, dd "law" 25]
def fa : List He.Fa := [.free "list", .glo "_law_pen", .free "int", .free "len", .free "abs", .glo "_law_draw", .glo "_law_pick", .free "range", .glo "_law_name", .glo "_law_names", .free "str", .free "isinstance", .glo "is_name", .glo "fours_of", .free "enumerate", .glo "fives_of", .glo "_law_chosen", .free "tuple", .free "sorted", .glo "_law_chosen_right", .glo "_law_odd", .glo "_law_many", .free "set", .glo "BadHosts", .glo "TooMany", .noat "BadHosts" "at", .noat "TooMany" "what", .noat "TooMany" "most", .glo "ascending", .glo "hosts_of", .glo "_law_is_name", .glo "_law_due", .glo "SeenError", .exm "TooMany" "SeenError" true, .exm "BadHosts" "SeenError" true, .glo "_law_heard", .free "repr", .glo "law"]
def tf : List He.Defn := [("law", none)]
def gs : List GetD := []
def exs : List (PySem.W.Frag → Bool) := [errB "BadHosts", errB "TooMany", isN "BadHosts" "TooMany"]
structure Ev (K : PySem.W.Frag) (mg : Str → Option Value) (base : Heap) : Prop where
  c : He.SaysD fa fn K
  X : K.In base
  G : base.Ns mainGlobals mg
  m : (exs.all fun f => f K) = true
  g : ∀ (i : Nat) (d : GetD), gs[i]? = some d → (d.cm = false → PropOf K (He.ga K d.c) d.f (prA K d.c d.f) (geA K d.c d.f)) ∧ (d.cm = true → CmOf K (He.ga K d.c) d.f (prA K d.c d.f) (geA K d.c d.f)) ∧ ∃ fd, FunD K d.f d.qual d.params d.body d.scope [] [] (geA K d.c d.f) fd
  tb : ∀ p ∈ tf.map (He.cT K), LamX.TabB base mg p.1 p.2
section
variable {K : PySem.W.Frag} {mg : Str → Option Value} {base : Heap}
theorem err_BadHosts (e : Ev K mg base) : ErrF K "BadHosts" := errB_ok (List.all_eq_true.mp e.m _ (List.mem_of_getElem? (l := exs) (i := 0) rfl))
theorem err_TooMany (e : Ev K mg base) : ErrF K "TooMany" := errB_ok (List.all_eq_true.mp e.m _ (List.mem_of_getElem? (l := exs) (i := 1) rfl))
theorem isn_BadHosts_TooMany (e : Ev K mg base) : PySem.W.kitOne K (.ref (He.ga K "BadHosts")) (.ref (He.ga K "TooMany")) = some false := of_decide_eq_true (List.all_eq_true.mp e.m _ (List.mem_of_getElem? (l := exs) (i := 2) rfl))
theorem f_list (e : Ev K mg base) : mg "list" = none := He.free_ok e.X e.G (e.c.fact 0 rfl)
theorem g_law_pen (e : Ev K mg base) : mg "_law_pen" = some (.ref (He.ga K "_law_pen")) := He.glo_ok e.X e.G (e.c.fact 1 rfl)
theorem f_int (e : Ev K mg base) : mg "int" = none := He.free_ok e.X e.G (e.c.fact 2 rfl)
theorem f_len (e : Ev K mg base) : mg "len" = none := He.free_ok e.X e.G (e.c.fact 3 rfl)
theorem f_abs (e : Ev K mg base) : mg "abs" = none := He.free_ok e.X e.G (e.c.fact 4 rfl)
theorem g_law_draw (e : Ev K mg base) : mg "_law_draw" = some (.ref (He.ga K "_law_draw")) := He.glo_ok e.X e.G (e.c.fact 5 rfl)
theorem g_law_pick (e : Ev K mg base) : mg "_law_pick" = some (.ref (He.ga K "_law_pick")) := He.glo_ok e.X e.G (e.c.fact 6 rfl)
theorem f_range (e : Ev K mg base) : mg "range" = none := He.free_ok e.X e.G (e.c.fact 7 rfl)
theorem g_law_name (e : Ev K mg base) : mg "_law_name" = some (.ref (He.ga K "_law_name")) := He.glo_ok e.X e.G (e.c.fact 8 rfl)
theorem g_law_names (e : Ev K mg base) : mg "_law_names" = some (.ref (He.ga K "_law_names")) := He.glo_ok e.X e.G (e.c.fact 9 rfl)
theorem f_str (e : Ev K mg base) : mg "str" = none := He.free_ok e.X e.G (e.c.fact 10 rfl)
theorem f_isinstance (e : Ev K mg base) : mg "isinstance" = none := He.free_ok e.X e.G (e.c.fact 11 rfl)
theorem g_is_name (e : Ev K mg base) : mg "is_name" = some (.ref (He.ga K "is_name")) := He.glo_ok e.X e.G (e.c.fact 12 rfl)
theorem g_fours_of (e : Ev K mg base) : mg "fours_of" = some (.ref (He.ga K "fours_of")) := He.glo_ok e.X e.G (e.c.fact 13 rfl)
theorem f_enumerate (e : Ev K mg base) : mg "enumerate" = none := He.free_ok e.X e.G (e.c.fact 14 rfl)
theorem g_fives_of (e : Ev K mg base) : mg "fives_of" = some (.ref (He.ga K "fives_of")) := He.glo_ok e.X e.G (e.c.fact 15 rfl)
theorem g_law_chosen (e : Ev K mg base) : mg "_law_chosen" = some (.ref (He.ga K "_law_chosen")) := He.glo_ok e.X e.G (e.c.fact 16 rfl)
theorem f_tuple (e : Ev K mg base) : mg "tuple" = none := He.free_ok e.X e.G (e.c.fact 17 rfl)
theorem f_sorted (e : Ev K mg base) : mg "sorted" = none := He.free_ok e.X e.G (e.c.fact 18 rfl)
theorem g_law_chosen_right (e : Ev K mg base) : mg "_law_chosen_right" = some (.ref (He.ga K "_law_chosen_right")) := He.glo_ok e.X e.G (e.c.fact 19 rfl)
theorem g_law_odd (e : Ev K mg base) : mg "_law_odd" = some (.ref (He.ga K "_law_odd")) := He.glo_ok e.X e.G (e.c.fact 20 rfl)
theorem g_law_many (e : Ev K mg base) : mg "_law_many" = some (.ref (He.ga K "_law_many")) := He.glo_ok e.X e.G (e.c.fact 21 rfl)
theorem f_set (e : Ev K mg base) : mg "set" = none := He.free_ok e.X e.G (e.c.fact 22 rfl)
theorem g_BadHosts (e : Ev K mg base) : mg "BadHosts" = some (.ref (He.ga K "BadHosts")) := He.glo_ok e.X e.G (e.c.fact 23 rfl)
theorem g_TooMany (e : Ev K mg base) : mg "TooMany" = some (.ref (He.ga K "TooMany")) := He.glo_ok e.X e.G (e.c.fact 24 rfl)
theorem no_BadHosts_at (e : Ev K mg base) : NoAttr K (He.ga K "BadHosts") "at" := He.noat_ok (e.c.fact 25 rfl)
theorem no_TooMany_what (e : Ev K mg base) : NoAttr K (He.ga K "TooMany") "what" := He.noat_ok (e.c.fact 26 rfl)
theorem no_TooMany_most (e : Ev K mg base) : NoAttr K (He.ga K "TooMany") "most" := He.noat_ok (e.c.fact 27 rfl)
theorem g_ascending (e : Ev K mg base) : mg "ascending" = some (.ref (He.ga K "ascending")) := He.glo_ok e.X e.G (e.c.fact 28 rfl)
theorem g_hosts_of (e : Ev K mg base) : mg "hosts_of" = some (.ref (He.ga K "hosts_of")) := He.glo_ok e.X e.G (e.c.fact 29 rfl)
theorem g_law_is_name (e : Ev K mg base) : mg "_law_is_name" = some (.ref (He.ga K "_law_is_name")) := He.glo_ok e.X e.G (e.c.fact 30 rfl)
theorem g_law_due (e : Ev K mg base) : mg "_law_due" = some (.ref (He.ga K "_law_due")) := He.glo_ok e.X e.G (e.c.fact 31 rfl)
theorem g_SeenError (e : Ev K mg base) : mg "SeenError" = some (.ref (He.ga K "SeenError")) := He.glo_ok e.X e.G (e.c.fact 32 rfl)
theorem exm_TooMany_SeenError (e : Ev K mg base) : PySem.W.exmOne K (.ref (He.ga K "TooMany")) (.ref (He.ga K "SeenError")) = some true := He.exm_ok (e.c.fact 33 rfl)
theorem exm_BadHosts_SeenError (e : Ev K mg base) : PySem.W.exmOne K (.ref (He.ga K "BadHosts")) (.ref (He.ga K "SeenError")) = some true := He.exm_ok (e.c.fact 34 rfl)
theorem g_law_heard (e : Ev K mg base) : mg "_law_heard" = some (.ref (He.ga K "_law_heard")) := He.glo_ok e.X e.G (e.c.fact 35 rfl)
theorem f_repr (e : Ev K mg base) : mg "repr" = none := He.free_ok e.X e.G (e.c.fact 36 rfl)
theorem g_law (e : Ev K mg base) : mg "law" = some (.ref (He.ga K "law")) := He.glo_ok e.X e.G (e.c.fact 37 rfl)
end
section
variable {P : Program} {w : World} {K : PySem.W.Frag} {mg : Str → Option Value} {base : Heap}
theorem sc_law_pen : FnScope ["script"] ["script"] (defScope (top 13)) := ⟨rfl, rfl, rfl, by decide +kernel, rfl, by decide +kernel, by decide +kernel⟩
theorem ok_law_pen {fd : FuncData} (F : FunD K "_law_pen" "_law_pen" (defArgs (top 13)) (defBody (top 13)) (defScope (top 13)) [] [] (He.ga K "_law_pen") fd) (e : Ev K mg base) : FnOk P w K mg base CX0 1 (He.ga K "_law_pen") fd ["script"] (spPen K) := by
  refine F.ok sc_law_pen (fun vs H Q E h => ?_) (fun cdv A outer s H vs Q E hr h => ?_)
  · obtain ⟨_, _, rfl, _⟩ := h
    rfl
  · skip
    refine ⟨_, PSs.nox ((pss_one (ps_ret (pe_lst (pa_cons (pe_callTy (kcall_list_of (K := K)) (by rfl) (f_list e) (by decide +kernel) (pa_cons (pe_slice (ksl_list (K := K)) (pv 0) po_none (po_some pe_int)) pa_nil)) (pa_cons pe_int (pa_cons pe_int pa_nil))))))), ?_⟩
    obtain ⟨a, ns, rfl, hS, hl, k⟩ := h
    refine ⟨_, rfl, 63, rfl, a, _, rfl, hS, fun q hq => ?_⟩
    refine ⟨q, _, rfl, .inl (SqL.of upd_same), fun c hc => ?_⟩
    refine ⟨by show 3 ≤ sizeLine; decide, fun p hp => ?_⟩
    have n1 : c ≠ q := fun e => by rw [e, upd_same] at hc; cases hc
    have hc0 : H c = none := by rw [upd_ne n1] at hc; exact hc
    have n2 : p ≠ c := fun e => by rw [e, upd_same] at hp; cases hp
    rw [upd_ne n2] at hp
    have n3 : p ≠ q := fun e => by rw [e, upd_same] at hp; cases hp
    rw [upd_ne n3] at hp
    have e : ∃ ms : List Int, cutV (ns.map V.int) none (some 63) = ms.map V.int ∧ ms.length ≤ 63 := by
      unfold cutV
      refine ⟨(ns.drop _).take _, by rw [List.map_take, List.map_drop], ?_⟩
      rw [List.length_take, List.length_drop]
      omega
    obtain ⟨ms, e1, e2⟩ := e
    refine k _ p c ms (fun b o h => ?_) hp hc0 n2 e2 ⟨upd_same, ?_⟩
    · rw [upd_ne (ne_of_none h hp), upd_ne (ne_of_none h hc0), upd_ne (ne_of_none h hq)]
      exact h
    · rw [upd_ne n2.symm, upd_same, e1]
theorem d_law_pen (e : Ev K mg base) : DefN P w K mg base 1 "_law_pen" ["script"] (spPen K) := by
  obtain ⟨fd, F⟩ := e.c.def_ 0 (d := dd "_law_pen" 13) rfl
  exact ⟨⟨fd, ok_law_pen F e, FunD.bindsN F fun _ _ _ _ _ _ us hl => match us, hl with | [_], _ => rfl⟩, F.kp, He.glo_ok e.X e.G (e.c.fact 1 rfl)⟩
theorem sc_law_draw : FnScope ["pen", "many", "digit", "turn", "cell", "great", "mixed"] ["pen", "many"] (defScope (top 14)) := ⟨rfl, rfl, rfl, by decide +kernel, rfl, by decide +kernel, by decide +kernel⟩
theorem ok_law_draw {fd : FuncData} (F : FunD K "_law_draw" "_law_draw" (defArgs (top 14)) (defBody (top 14)) (defScope (top 14)) [] [] (He.ga K "_law_draw") fd) (e : Ev K mg base) : FnOk P w K mg base CX0 1 (He.ga K "_law_draw") fd ["pen", "many"] (spDraw) := by
  refine F.ok sc_law_draw (fun vs H Q E h => ?_) (fun cdv A outer s H vs Q E hr h => ?_)
  · obtain ⟨_, _, _, _, _, _, rfl, _⟩ := h
    rfl
  · skip
    refine ⟨_, PSs.nox ((pss_cons (ps_if (pt_cmpR op_gt (pe_ix (kix_list (K := K)) (pv 0) pe_int (fun _ _ => rfl)) pe_int (nomark _))
      (pss_cons (ps_set (i := 2) sc_law_draw.nd rfl (Or.inl rfl) (pe_op op_modN (pe_callTy call_int1 (by rfl) (f_int e) (by decide +kernel) (pa_cons (pe_ix (kix_list (K := K)) (pv 0) pe_int (fun _ _ => rfl)) pa_nil)) (pv 1)))
      (pss_cons (ps_asg (pe_op op_fdivN (pe_callTy call_int1 (by rfl) (f_int e) (by decide +kernel) (pa_cons (pe_ix (kix_list (K := K)) (pv 0) pe_int (fun _ _ => rfl)) pa_nil)) (pv 1)) (pg_sub (pv 0) pe_int set_list))
      (pss_one (ps_ret (pv 2))))) pss_nil)
      (pss_cons (ps_set (i := 3) sc_law_draw.nd rfl (Or.inl rfl) (pe_ix (kix_list (K := K)) (pv 0) pe_int (fun _ _ => rfl)))
      (pss_cons (ps_asg (pe_op op_add (pv 3) pe_int) (pg_sub (pv 0) pe_int set_list))
      (pss_cons (ps_set (i := 4) sc_law_draw.nd rfl (Or.inl rfl) (pe_op op_add (pe_op op_mul pe_int (pv 3)) pe_int))
      (C8.pss_cut (ps_if (pt_cmpR (kop_neD (K := K) hr.units) (pe_ix (kix_list (K := K)) (pv 0) pe_int (fun _ _ => rfl)) (pe_lst pa_nil) (nomark _))
      (pss_one (ps_set (i := 4) sc_law_draw.nd rfl (Or.inl rfl) (pe_ix (kix_list (K := K)) (pe_ix (kix_list (K := K)) (pv 0) pe_int (fun _ _ => rfl)) (pe_op op_modN (pe_callTy call_int1 (by rfl) (f_int e) (by decide +kernel) (pa_cons (pv 3) pa_nil)) (pe_callB (kcall_len_seq (K := K)) (by rfl) (f_len e) (by decide +kernel) (pa_cons (pe_ix (kix_list (K := K)) (pv 0) pe_int (fun _ _ => rfl)) pa_nil))) (fun _ _ => rfl)))) pss_nil)
      (C8.pss_cut (ps_if (PW.pt (pw_and (pt_cmpR op_lt (pv 3) (pe_callB (kcall_len_seq (K := K)) (by rfl) (f_len e) (by decide +kernel) (pa_cons (pe_ix (kix_list (K := K)) (pv 0) pe_int (fun _ _ => rfl)) pa_nil)) (nomark _)) (pw_and1 (pt_cmpR op_ge (pe_callB call_abs (by rfl) (f_abs e) (by decide +kernel) (pa_cons (pv 4) pa_nil)) (pe_op op_pow pe_int pe_int) (nomark _)))))
      (pss_cons (ps_set (i := 5) sc_law_draw.nd rfl (Or.inl rfl) (pe_op op_add (pe_op op_mul pe_int (pe_op op_sub (pe_callB call_abs (by rfl) (f_abs e) (by decide +kernel) (pa_cons (pv 4) pa_nil)) (pe_op op_pow pe_int pe_int))) (pe_callTy call_int1 (by rfl) (f_int e) (by decide +kernel) (pa_cons (pe_cmpR op_lt (pv 4) pe_int (nomark _)) pa_nil))))
      (pss_cons (ps_asg (pe_op op_fdivN (pe_callTy call_int1 (by rfl) (f_int e) (by decide +kernel) (pa_cons (pv 5) pa_nil)) (pv 1)) (pg_sub (pv 0) pe_int set_list))
      (pss_one (ps_ret (pe_op op_modN (pe_callTy call_int1 (by rfl) (f_int e) (by decide +kernel) (pa_cons (pv 5) pa_nil)) (pv 1)))))) pss_nil)
      (pss_cons (ps_set (i := 6) sc_law_draw.nd rfl (Or.inl rfl) (pe_op op_modN (pe_callTy call_int1 (by rfl) (f_int e) (by decide +kernel) (pa_cons (pe_op op_pow (pe_op op_add (pe_op op_add (pe_op op_modN (pe_callTy call_int1 (by rfl) (f_int e) (by decide +kernel) (pa_cons (pv 4) pa_nil)) pe_int) (pe_op op_mul pe_int (pv 3))) pe_int) pe_int) pa_nil)) pe_int))
      (pss_cons (ps_set (i := 6) sc_law_draw.nd rfl (Or.inl rfl) (pe_op op_modN (pe_callTy call_int1 (by rfl) (f_int e) (by decide +kernel) (pa_cons (pe_op op_pow (pe_op op_add (pe_op op_add (pe_op op_mul (pv 6) (pe_op op_add (pe_op op_mul pe_int (pv 3)) pe_int)) (pe_op op_mul (pe_op op_mul pe_int (pv 3)) (pv 3))) pe_int) pe_int) pa_nil)) pe_int))
      (pss_one (ps_ret (pe_op op_modN (pe_callTy call_int1 (by rfl) (f_int e) (by decide +kernel) (pa_cons (pe_op op_fdivN (pv 6) pe_int) pa_nil)) (pv 1))))))))))))), ?_⟩
    obtain ⟨p, c, ms, t, z, m, rfl, hP, ht, hm, hm2, k⟩ := h
    have i0 : atI [V.ref c, V.int t, V.int z] 0 = some (.ref c) := rfl
    have i1 : atI [V.ref c, V.int t, V.int z] 1 = some (.int t) := rfl
    have i2 : atI [V.ref c, V.int t, V.int z] 2 = some (.int z) := rfl
    -- pen[2] > 0
    refine ⟨_, rfl, p, _, _, _, rfl, rfl, SqL.of hP.a, i2, _, _, rfl, rfl, _, rfl, ?_⟩
    have npc : p ≠ c := ne_of hP.a hP.b (by intro e; injection e with e; cases ms with | nil => cases e | cons x r => cases e)
    refine ite2 (fun _ => ?_) fun _ => ?_
    · refine ⟨_, rfl, p, _, _, _, rfl, rfl, SqL.of hP.a, i2, .inl ⟨_, rfl, ?_⟩⟩
      refine ⟨_, rfl, _, _, rfl, rfl, by omega, ?_⟩
      refine ⟨_, rfl, p, _, _, _, rfl, rfl, SqL.of hP.a, i2, .inl ⟨_, rfl, ?_⟩⟩
      refine ⟨_, rfl, _, _, rfl, rfl, ⟨by omega, by omega⟩, ?_⟩
      refine ⟨_, rfl, p, _, _, 2, rfl, rfl, hP.a, rfl, ?_⟩
      refine ⟨_, rfl, ?_⟩
      obtain ⟨a1, a2⟩ := mod_lo z hm
      exact k _ _ t _ a1 a2 (fun b o n h => by rw [upd_ne n]; exact h) ⟨upd_same, by rw [upd_ne npc.symm]; exact hP.b⟩ (Nat.le_succ _)
    · -- turn = pen[1]; pen[1] = turn + 1; cell = ..
      refine ⟨_, rfl, p, _, _, _, rfl, rfl, SqL.of hP.a, i1, ?_⟩
      refine ⟨_, rfl, _, _, rfl, rfl, _, rfl, p, _, _, 1, rfl, rfl, hP.a, rfl, ?_⟩
      refine ⟨_, rfl, _, _, rfl, rfl, .inl ⟨by decide, by decide⟩, _, _, rfl, rfl, ?_⟩
      -- the rows behind the if: once, for any cell
      have hb1 : (upd H p (.lst [.ref c, .int ((t : Int) + 1), .int z])) c = some (.lst (ms.map .int)) := by rw [upd_ne npc.symm]; exact hP.b
      refine ⟨fun σ' H' => ∃ cell : Int, σ' = [some (.ref p), some (.int m), none, some (.int t), some (.int cell), none, none] ∧ But p H H' ∧ Pen H' p c ms (t + 1) z, ?_, ?_⟩
      · refine ⟨_, rfl, p, _, _, .ref c, rfl, rfl, SqL.of upd_same, rfl, ?_⟩
        refine ⟨by show 0 ≤ sizeLine; decide, fun q hq => ?_⟩
        have hpq : p ≠ q := ne_of_none upd_same hq
        have hcq : c ≠ q := ne_of_none hb1 hq
        have P2 : Pen (upd (upd H p (.lst [.ref c, .int ((t : Int) + 1), .int z])) q (.lst [])) p c ms (t + 1) z := ⟨by rw [upd_ne hpq, upd_same]; rfl, by rw [upd_ne hcq]; exact hb1⟩
        have B2 : But p H (upd (upd H p (.lst [.ref c, .int ((t : Int) + 1), .int z])) q (.lst [])) := fun b o n h => by
          have h1 : (upd H p (.lst [.ref c, .int ((t : Int) + 1), .int z])) b = some o := by rw [upd_ne n]; exact h
          rw [upd_ne (ne_of_none h1 hq)]
          exact h1
        refine ⟨.list (ms.map .int), .list [], .lst (SqL.of P2.b) (dp_ints ms), .lst (SqL.of upd_same) .nil, shaped_ints ms, by decide +kernel, _, rfl, ?_⟩
        rw [eqv_nil]
        cases ems : ms.isEmpty with
        | true => exact iteF ⟨_, rfl, B2, P2⟩
        | false =>
          refine iteT ?_
          have hl0 : 0 < ms.length := by cases ms with | nil => cases ems | cons x r => exact Nat.succ_pos _
          have hl1 : (0 : Int) < ((ms.map V.int).length : Int) := by rw [List.length_map]; omega
          have hl2 := mod_lo (t : Int) (m := ((ms.map V.int).length : Int)) (by omega)
          have hix : ∃ y, atI (ms.map V.int) ((t : Int).fmod ((ms.map V.int).length : Int)) = some (V.int y) := by
            obtain ⟨j, hj⟩ : ∃ j : Nat, (t : Int).fmod ((ms.map V.int).length : Int) = (j : Int) := ⟨_, (Int.toNat_of_nonneg hl2.1).symm⟩
            rw [hj]
            have hjl : j < ms.length := by
              have e9 : (ms.map V.int).length = ms.length := List.length_map ..
              omega
            exact ⟨ms[j], atI_nat (by rw [List.getElem?_map, List.getElem?_eq_getElem hjl]; rfl)⟩
          obtain ⟨y, hy⟩ := hix
          refine ⟨_, rfl, p, _, _, .ref c, rfl, rfl, SqL.of P2.a, rfl, ?_⟩
          refine ⟨_, rfl, .inl ⟨_, rfl, ?_⟩⟩
          refine ⟨_, rfl, p, _, _, .ref c, rfl, rfl, SqL.of P2.a, rfl, ?_⟩
          refine ⟨c, _, rfl, .inl (SqL.of P2.b), ?_⟩
          refine ⟨_, _, rfl, rfl, by omega, ?_⟩
          refine ⟨c, _, _, _, rfl, rfl, SqL.of P2.b, hy, ?_⟩
          exact ⟨y, rfl, B2, P2⟩
      · rintro σ' H' ⟨cell, rfl, B2, P2⟩
        refine ⟨fun σ'' H'' => σ'' = [some (.ref p), some (.int m), none, some (.int t), some (.int cell), none, none] ∧ H'' = H', ?_, ?_⟩
        · refine ⟨_, rfl, _, rfl, p, _, _, .ref c, rfl, rfl, SqL.of P2.a, rfl, c, _, rfl, .inl (SqL.of P2.b), _, _, rfl, rfl, _, rfl, ?_⟩
          refine ite2 (fun h1 => ?_) fun h1 => iteF ⟨rfl, rfl⟩
          refine ⟨_, rfl, _, rfl, _, _, rfl, rfl, ⟨by decide, by decide, by decide⟩, _, _, rfl, rfl, _, rfl, ?_⟩
          refine ite2 (fun h2 => ?_) fun h2 => ⟨rfl, rfl⟩
          refine ⟨_, rfl, _, rfl, _, _, rfl, rfl, ⟨by decide, by decide, by decide⟩, _, _, rfl, rfl, ?_⟩
          refine ⟨_, _, rfl, rfl, .inl ⟨by decide, by decide⟩, _, rfl, _, _, rfl, rfl, .inr ⟨_, rfl, ?_⟩⟩
          refine ⟨_, _, rfl, rfl, ?_⟩
          refine ⟨_, rfl, .inl ⟨_, rfl, _, rfl, _, _, rfl, rfl, ⟨by omega, by omega⟩, ?_⟩⟩
          refine ⟨_, rfl, p, _, _, 2, rfl, rfl, P2.a, rfl, ?_⟩
          refine ⟨_, rfl, .inl ⟨_, rfl, _, rfl, _, _, rfl, rfl, by omega, ?_⟩⟩
          obtain ⟨a1, a2⟩ := mod_lo (2 * ((if cell < 0 then -cell else cell) - 10 ^ (18 : Int).toNat) + (if decide (cell < 0) = true then 1 else 0)) hm
          exact k _ _ (t + 1) _ a1 a2 (fun b o n h => by rw [upd_ne n]; exact B2 b o n h) ⟨upd_same, by rw [upd_ne npc.symm]; exact P2.b⟩ (Nat.le_refl _)
        · rintro σ'' H'' ⟨rfl, rfl⟩
          have m1 := mod_lo cell (m := 2147483587) (by decide)
          refine ⟨_, rfl, .inl ⟨_, rfl, _, _, rfl, rfl, (by show (_ : Int) ≠ 0; decide), ?_⟩⟩
          refine ⟨_, rfl, _, _, rfl, rfl, .inl ⟨by decide, by decide⟩, _, _, rfl, rfl, _, _, rfl, rfl, ?_⟩
          refine ⟨_, _, rfl, rfl, ⟨by decide, by decide, ?_⟩, .inl ⟨_, rfl, _, _, rfl, rfl, (by show (_ : Int) ≠ 0; decide), ?_⟩⟩
          · show (cell.fmod 2147483587 + 53295 * (t : Int) + 237).natAbs < 2 ^ 64
            omega
          generalize hmx : ((cell.fmod 2147483587 + 53295 * (t : Int) + 237) ^ (5 : Int).toNat) = big
          have m2 := mod_lo big (m := 2147483579) (by decide)
          generalize hmy : big.fmod 2147483579 = b2 at m2
          have hmul : 0 ≤ b2 * (2 * (t : Int) + 171) ∧ b2 * (2 * (t : Int) + 171) ≤ 2147483579 * (2000000 + 171) := ⟨Int.mul_nonneg m2.1 (by omega), Int.mul_le_mul (by omega) (by omega) (by omega) (by decide)⟩
          have hsq : 0 ≤ 61353 * (t : Int) * (t : Int) ∧ 61353 * (t : Int) * (t : Int) ≤ 61353 * 1000000 * 1000000 := ⟨Int.mul_nonneg (by omega) (by omega), Int.mul_le_mul (by omega) (by omega) (by omega) (by decide)⟩
          refine ⟨_, rfl, _, rfl, _, _, rfl, rfl, .inl ⟨by decide, by decide⟩, _, _, rfl, rfl, _, _, rfl, rfl, .inl ⟨?_, ?_⟩, ?_⟩
          · show -(2 ^ 64) < big.fmod 2147483579
            omega
          · show big.fmod 2147483579 < 2 ^ 64
            omega
          refine ⟨_, rfl, _, _, rfl, rfl, .inl ⟨by decide, by decide⟩, _, rfl, _, _, rfl, rfl, .inl ⟨?_, ?_⟩, _, _, rfl, rfl, _, _, rfl, rfl, ?_⟩
          · show -(2 ^ 64) < 61353 * (t : Int)
            omega
          · show 61353 * (t : Int) < 2 ^ 64
            omega
          refine ⟨_, _, rfl, rfl, ⟨by decide, by decide, ?_⟩, .inl ⟨_, rfl, _, _, rfl, rfl, (by show (_ : Int) ≠ 0; decide), ?_⟩⟩
          · show (big.fmod 2147483579 * (2 * (t : Int) + 171) + 61353 * (t : Int) * (t : Int) + 45).natAbs < 2 ^ 64
            rw [hmy]
            omega
          refine ⟨_, rfl, _, _, rfl, rfl, ⟨by show (_ : Int) ≠ 0; decide, by decide⟩, .inl ⟨_, rfl, _, rfl, _, _, rfl, rfl, by omega, ?_⟩⟩
          obtain ⟨a1, a2⟩ := mod_lo (Int.fdiv (((big.fmod 2147483579 * (2 * (t : Int) + 171) + 61353 * (t : Int) * (t : Int) + 45) ^ (3 : Int).toNat).fmod 2147483563) 32) hm
          exact k _ _ (t + 1) z a1 a2 B2 P2 (Nat.le_refl _)
theorem d_law_draw (e : Ev K mg base) : DefN P w K mg base 1 "_law_draw" ["pen", "many"] (spDraw) := by
  obtain ⟨fd, F⟩ := e.c.def_ 1 (d := dd "_law_draw" 14) rfl
  exact ⟨⟨fd, ok_law_draw F e, FunD.bindsN F fun _ _ _ _ _ _ us hl => match us, hl with | [_, _], _ => rfl⟩, F.kp, He.glo_ok e.X e.G (e.c.fact 5 rfl)⟩
theorem sc_law_pick : FnScope ["pen", "some"] ["pen", "some"] (defScope (top 15)) := ⟨rfl, rfl, rfl, by decide +kernel, rfl, by decide +kernel, by decide +kernel⟩
theorem ok_law_pick {fd : FuncData} (F : FunD K "_law_pick" "_law_pick" (defArgs (top 15)) (defBody (top 15)) (defScope (top 15)) [] [] (He.ga K "_law_pick") fd) (e : Ev K mg base) : FnOk P w K mg base CX0 2 (He.ga K "_law_pick") fd ["pen", "some"] (spPick K) := by
  refine F.ok sc_law_pick (fun vs H Q E h => ?_) (fun cdv A outer s H vs Q E hr h => ?_)
  · obtain ⟨_, _, _, _, _, _, _, rfl, _⟩ := h
    rfl
  · skip
    refine ⟨_, PSs.nox ((pss_one (ps_ret (pe_ix (kix_list (K := K)) (pv 1) (pe_def (d_law_draw (P := P) (w := w) (K := K) (mg := mg) (base := base) e) (hr.mono (by decide)) (by rfl) (pa_cons (pv 0) (pa_cons (pe_callB (kcall_len_seq (K := K)) (by rfl) (f_len e) (by decide +kernel) (pa_cons (pv 1) pa_nil)) pa_nil))) (fun _ _ => rfl))))), ?_⟩
    obtain ⟨p, c, a, ms, t, z, xs, rfl, hP, ht, hS, nap, hx, hx2, k⟩ := h
    have hpos : 0 < xs.length := List.length_pos_iff.mpr hx
    refine ⟨_, rfl, _, rfl, _, rfl, a, _, rfl, .inl hS, p, c, ms, t, z, _, rfl, hP, ht, by omega, by omega, fun d H' t' z' h0 h1 hb hP' ht' => ?_⟩
    obtain ⟨j, rfl⟩ : ∃ j : Nat, d = (j : Int) := ⟨_, (Int.toNat_of_nonneg h0).symm⟩
    have hj : j < xs.length := by omega
    exact ⟨a, xs, _, xs[j], rfl, rfl, hb.seq nap hS, atI_nat (List.getElem?_eq_getElem hj), k _ H' t' z' (List.getElem_mem hj) hb hP' ht'⟩
theorem d_law_pick (e : Ev K mg base) : DefN P w K mg base 2 "_law_pick" ["pen", "some"] (spPick K) := by
  obtain ⟨fd, F⟩ := e.c.def_ 2 (d := dd "_law_pick" 15) rfl
  exact ⟨⟨fd, ok_law_pick F e, FunD.bindsN F fun _ _ _ _ _ _ us hl => match us, hl with | [_, _], _ => rfl⟩, F.kp, He.glo_ok e.X e.G (e.c.fact 6 rfl)⟩
theorem sc_law_name : FnScope ["pen", "signs", "size", "k"] ["pen"] (defScope (top 16)) := ⟨rfl, rfl, rfl, by decide +kernel, rfl, by decide +kernel, by decide +kernel⟩
theorem ok_law_name {fd : FuncData} (F : FunD K "_law_name" "_law_name" (defArgs (top 16)) (defBody (top 16)) (defScope (top 16)) [] [] (He.ga K "_law_name") fd) (e : Ev K mg base) : FnOk P w K mg base CX0 3 (He.ga K "_law_name") fd ["pen"] (spName) := by
  refine F.ok sc_law_name (fun vs H Q E h => ?_) (fun cdv A outer s H vs Q E hr h => ?_)
  · obtain ⟨_, _, _, _, _, rfl, _⟩ := h
    rfl
  · skip
    refine ⟨_, PSs.nox ((pss_cons (ps_set (i := 1) sc_law_name.nd rfl (Or.inr rfl) pe_str)
      (pss_cons (ps_set (i := 2) sc_law_name.nd rfl (Or.inl rfl) (pe_op op_add pe_int (pe_def (d_law_draw (P := P) (w := w) (K := K) (mg := mg) (base := base) e) (hr.mono (by decide)) (by rfl) (pa_cons (pv 0) (pa_cons (pe_def (d_law_pick (P := P) (w := w) (K := K) (mg := mg) (base := base) e) (hr.mono (by decide)) (by rfl) (pa_cons (pv 0) (pa_cons (pe_lst (pa_cons pe_int (pa_cons pe_int (pa_cons pe_int (pa_cons pe_int pa_nil))))) pa_nil))) pa_nil)))))
      (pss_one (ps_ret (kpe_join (K := K) pe_str (pe_lc (own := [("k", 3)]) (by rfl) sc_law_name.nd (pi_range1 (by rfl) (f_range e) (pa_cons (pv 2) pa_nil)) (blkOk_by (own := [("k", 3)]) (N := ["pen", "signs", "size", "k"]) (sc := defScope (top 16)) (by decide +kernel)) (fun _ _ _ _ _ => (pg_name (i := 3) sc_law_name.nd rfl (Or.inl rfl))) (fun _ _ _ _ _ => pts_nil) (fun _ _ _ _ _ => (pe_ix ix_str (pv 1) (pe_def (d_law_draw (P := P) (w := w) (K := K) (mg := mg) (base := base) e) (hr.mono (by decide)) (by rfl) (pa_cons (pv 0) (pa_cons pe_int pa_nil))) (fun _ _ => rfl)))))))))), ?_⟩
    obtain ⟨p, c, ms, t, z, rfl, hP, ht, k⟩ := h
    refine ⟨_, rfl, _, rfl, (by show 4 ≤ sizeLine; decide), fun l hl => ?_⟩
    have P1 := hP.same (same_new (o := .lst [.int 1, .int 1, .int 2, .int 8]) hl)
    refine ⟨p, c, l, ms, t, z, _, rfl, P1, by omega, SqL.of upd_same, (ne_of_none hP.a hl).symm, by simp, by decide, fun x H1 t1 z1 hx b1 P2 ht1 => ?_⟩
    obtain ⟨m, rfl, hm1, hm2⟩ : ∃ m : Int, x = .int m ∧ 1 ≤ m ∧ m ≤ 8 := by
      simp at hx
      rcases hx with rfl | rfl | rfl <;> exact ⟨_, rfl, by decide, by decide⟩
    refine ⟨p, c, ms, t1, z1, m, rfl, P2, by omega, hm1, by omega, fun d H2 t2 z2 h0 h1 b2 P3 ht2 => ?_⟩
    refine ⟨_, _, rfl, rfl, ?_⟩
    have b4 : But p H H2 := ((Same.but (same_new hl)).trans b1).trans b2
    refine ⟨⟨_, rfl⟩, _, rfl, _, rfl, by show -(2 ^ 62) ≤ 1 + d; omega, by show 1 + d < 2 ^ 62; omega, fun D hD => ?_⟩
    have npD : p ≠ D := ne_of_none P3.a hD
    have ncD : c ≠ D := ne_of_none P3.b hD
    have hD0 : H D = none := b4.free npD.symm hD
    refine lc_range (lo := 0) (n := (1 + d).toNat) (fun i H' => ∃ (cs : List Nat) (t' : Nat) (z' : Int), cs.length = i ∧ (∀ x ∈ cs, 97 ≤ x ∧ x ≤ 122) ∧ H' D = some (.lst ((cs.map sg).map V.str)) ∧ But p H H' ∧ Pen H' p c ms t' z' ∧ t' ≤ t2 + i)
      ⟨[], t2, z2, rfl, by simp, upd_same, b4.upn hD0, P3.same (same_new hD), by omega⟩ ?_ ?_
    · rintro i H3 hi ⟨cs, t3, z3, hl3, haz, hD3, b3, P4, ht3⟩
      refine ⟨rfl, ?_⟩
      refine ⟨_, rfl, _, rfl, p, c, ms, t3, z3, 26, rfl, P4, by omega, by decide, by decide, fun d' H4 t4 z4 h0' h1' b5 P5 ht4 => ?_⟩
      obtain ⟨j, rfl⟩ : ∃ j : Nat, d' = (j : Int) := ⟨_, (Int.toNat_of_nonneg h0').symm⟩
      have hD4 := b5 _ _ npD.symm hD3
      refine ⟨_, _, 97 + j, rfl, rfl, by decide +kernel, atI_nat (letters_at (by omega)), _, hD4, small1000 (by simp; omega), cs ++ [97 + j], t4, z4, by simp [hl3], fun x hx => ?_, ?_, (b3.trans b5).upn hD0, ⟨by rw [upd_ne npD]; exact P5.a, by rw [upd_ne ncD]; exact P5.b⟩, by omega⟩
      · rcases List.mem_append.mp hx with h | h
        · exact haz x h
        · simp at h
          omega
      · rw [upd_same]
        simp [sg]
    · rintro H3 ⟨cs, t3, z3, hl3, haz, hD3, b3, P4, ht3⟩
      refine ⟨_, D, cs.map sg, rfl, rfl, .inl (SqL.of hD3), ?_, ?_⟩
      · have e1 : ((cs.map sg).map (·.length)).sum = cs.length := by
          clear hl3 haz hD3
          induction cs with
          | nil => rfl
          | cons a r ih => simp only [List.map_cons, List.sum_cons, ih, List.length_cons]; show 1 + _ = _; omega
        have e2 : (Str.ofString "").length = 0 := by decide +kernel
        rw [e1, e2]
        omega
      · have ec := join_signs cs
        have el : (Txt.join (Str.ofString "") (cs.map sg)).length = cs.length := by rw [TL.len_tl]; exact congrArg List.length ec
        exact k _ H3 t3 z3 ⟨by omega, by omega, fun x hx => haz x (by rw [← ec]; exact hx)⟩ b3 P4 (by omega)
theorem d_law_name (e : Ev K mg base) : DefN P w K mg base 3 "_law_name" ["pen"] (spName) := by
  obtain ⟨fd, F⟩ := e.c.def_ 3 (d := dd "_law_name" 16) rfl
  exact ⟨⟨fd, ok_law_name F e, FunD.bindsN F fun _ _ _ _ _ _ us hl => match us, hl with | [_], _ => rfl⟩, F.kp, He.glo_ok e.X e.G (e.c.fact 8 rfl)⟩
theorem sc_law_names : FnScope ["pen", "many", "found", "k", "word", "near", "sign", "one"] ["pen", "many"] (defScope (top 17)) := ⟨rfl, rfl, rfl, by decide +kernel, rfl, by decide +kernel, by decide +kernel⟩
theorem ok_law_names {fd : FuncData} (F : FunD K "_law_names" "_law_names" (defArgs (top 17)) (defBody (top 17)) (defScope (top 17)) [] [] (He.ga K "_law_names") fd) (e : Ev K mg base) : FnOk P w K mg base CX0 4 (He.ga K "_law_names") fd ["pen", "many"] (spNames K) := by
  refine F.ok sc_law_names (fun vs H Q E h => ?_) (fun cdv A outer s H vs Q E hr h => ?_)
  · obtain ⟨_, _, _, _, _, _, rfl, _⟩ := h
    rfl
  · skip
    refine ⟨_, PSs.nox ((pss_cons (ps_set (i := 2) sc_law_names.nd rfl (Or.inr rfl) (pe_lst pa_nil))
      (pss_cons (ps_for PassesOwn.never rfl (pi_range1 (by rfl) (f_range e) (pa_cons (pv 1) pa_nil)) (pg_name (i := 3) sc_law_names.nd rfl (Or.inl rfl))
      (pss_cons (ps_set (i := 4) sc_law_names.nd rfl (Or.inr rfl) (pe_def (d_law_name (P := P) (w := w) (K := K) (mg := mg) (base := base) e) (hr.mono (by decide)) (by rfl) (pa_cons (pv 0) pa_nil)))
      (C8.pss_cut (ps_if (PW.pt (pw_and (pt_cmpR (kop_neD (K := K) hr.units) (pv 2) (pe_lst pa_nil) (nomark _)) (pw_and1 (pt_cmpR op_eq (pe_def (d_law_draw (P := P) (w := w) (K := K) (mg := mg) (base := base) e) (hr.mono (by decide)) (by rfl) (pa_cons (pv 0) (pa_cons pe_int pa_nil))) pe_int (nomark _)))))
      (pss_one (ps_set (i := 4) sc_law_names.nd rfl (Or.inr rfl) (pe_op op_add_str (pe_slice sl_str (pe_def (d_law_pick (P := P) (w := w) (K := K) (mg := mg) (base := base) e) (hr.mono (by decide)) (by rfl) (pa_cons (pv 0) (pa_cons (pv 2) pa_nil))) po_none (po_some pe_int)) (pe_slice sl_str (pv 4) po_none (po_some pe_int))))) pss_nil)
      (pss_cons (ps_set (i := 5) sc_law_names.nd rfl (Or.inl rfl) (pe_op op_cat (pe_lst (pa_cons (pv 4) pa_nil)) (pe_lc (own := [("sign", 6)]) (by rfl) sc_law_names.nd (pi_str pe_str) (blkOk_by (own := [("sign", 6)]) (N := ["pen", "many", "found", "k", "word", "near", "sign", "one"]) (sc := defScope (top 17)) (by decide +kernel)) (fun _ _ _ _ _ => (pg_name (i := 6) sc_law_names.nd rfl (Or.inl rfl))) (fun _ _ _ _ _ => pts_nil) (fun _ _ _ _ _ => (pe_op op_add_str (pe_slice sl_str (pv 4) po_none (po_some pe_int)) (pv 6))))))
      (pss_one (ps_expr (kpe_bm (K := K) PySem.F.plainAttrs_list PySem.F.slot_list_append PySem.F.type_list_append mt_append (pv 2) (pa_cons (pe_ix (kix_list (K := K)) (pe_lc (own := [("one", 7)]) (by rfl) sc_law_names.nd (kpi_list (K := K) (pv 5)) (blkOk_by (own := [("one", 7)]) (N := ["pen", "many", "found", "k", "word", "near", "sign", "one"]) (sc := defScope (top 17)) (by decide +kernel)) (fun _ _ _ _ _ => (pg_name (i := 7) sc_law_names.nd rfl (Or.inl rfl))) (fun _ _ _ _ _ => (pts_one (pt_cmpR (op_notInS (K := K)) (pv 7) (pv 2) (by rfl)))) (fun _ _ _ _ _ => (pv 7))) pe_int (fun _ _ => rfl)) pa_nil))))))))
      (pss_one (ps_ret (pv 2)))))), ?_⟩
    obtain ⟨p, c, ms, t, z, n, rfl, hP, ht, hn0, hn, k⟩ := h
    refine ⟨by show 0 ≤ sizeLine; decide, fun f hf => ?_⟩
    have npf : p ≠ f := ne_of_none hP.a hf
    have ncf : c ≠ f := ne_of_none hP.b hf
    refine ⟨_, rfl, n, rfl, by show -(2 ^ 62) ≤ n; omega, by show n < 2 ^ 62; omega, for_range (lo := 0) (n := n.toNat) (fun i σ H' => ∃ (xs : List Str) (t' : Nat) (z' : Int) (a b d g h : Option V), xs.length = i ∧ (∀ x ∈ xs, IsNm x) ∧ xs.Nodup ∧
        σ = [some (.ref p), some (.int n), some (.ref f), a, b, d, g, h] ∧ H' f = some (.lst (xs.map V.str)) ∧ But p H H' ∧ Pen H' p c ms t' z' ∧ t' ≤ t + 12 * i)
      ⟨[], t, z, none, none, none, none, none, rfl, by simp, List.nodup_nil, rfl, upd_same, Same.but (same_new hf), hP.same (same_new hf), Nat.le_refl _⟩ ?_ ?_⟩
    · rintro i σ H3 hi ⟨xs, t3, z3, a, b, d, g, h, hl3, hnm, hnd, rfl, hf3, b3, P3, ht3⟩
      -- word = _law_name(pen)
      refine ⟨_, rfl, p, c, ms, t3, z3, rfl, P3, by omega, fun x H4 t4 z4 hx b4 P4 ht4 => ?_⟩
      have hf4 := b4 _ _ npf.symm hf3
      refine ⟨fun σ' H' => ∃ (y : Str) (t' : Nat) (z' : Int), IsNm y ∧ σ' = [some (.ref p), some (.int n), some (.ref f), some (.int (0 + (i : Nat))), some (.str y), d, g, h] ∧ But p H3 H' ∧ Pen H' p c ms t' z' ∧ t' ≤ t4 + 2, ?_, ?_⟩
      · refine ⟨_, rfl, by show 0 ≤ sizeLine; decide, fun q hq => ?_⟩
        have hf5 : (upd H4 q (.lst [])) f = some (.lst (xs.map V.str)) := by rw [upd_ne (ne_of_none hf4 hq)]; exact hf4
        have P5 := P4.same (same_new (o := .lst []) hq)
        have b5 : But p H3 (upd H4 q (.lst [])) := b4.new hq
        refine ⟨.list (xs.map .str), .list [], .lst (SqL.of hf5) (dp_strs xs), .lst (SqL.of upd_same) .nil, shaped_strs fun x hx => (hnm x hx).ok, by decide +kernel, _, rfl, ?_⟩
        rw [eqv_list_nil]
        cases em : (xs.map PyData.str).isEmpty with
        | true => exact iteF (iteF ⟨x, t4, z4, hx, rfl, b5, P5, by omega⟩)
        | false =>
          refine iteT ?_
          have hne : xs.map V.str ≠ [] := by
            cases xs with
            | nil => cases em
            | cons a r => simp
          refine ⟨_, rfl, p, c, ms, t4, z4, 3, rfl, P5, by omega, by decide, by decide, fun e3 H6 t6 z6 h60 h61 b6 P6 ht6 => ?_⟩
          have hf6 := b6 _ _ npf.symm hf5
          refine ⟨rfl, _, rfl, ite2 (fun he => ?_) fun he => ⟨x, t6, z6, hx, rfl, b5.trans b6, P6, by omega⟩⟩
          refine ⟨_, rfl, _, rfl, p, c, f, ms, t6, z6, _, rfl, P6, by omega, SqL.of hf6, npf.symm, hne, by rw [List.length_map]; omega, fun v H7 t7 z7 hv b7 P7 ht7 => ?_⟩
          obtain ⟨u, hu, rfl⟩ := List.mem_map.mp hv
          have nu := hnm u hu
          refine ⟨7, rfl, u, rfl, nu.fit, _, rfl, 1, rfl, x, rfl, hx.fit, _, _, rfl, rfl, ?_, _, t7, z7, nm_both nu hx, rfl, (b5.trans b6).trans b7, P7, by omega⟩
          have l1 := cut_len u 7
          have l2 := cut_len x 1
          exact Nat.le_trans (Nat.add_le_add l1 l2) (by decide)
      · rintro σ' H5 ⟨y, t5, z5, hy, rfl, b5, P5, ht5⟩
        have hf5 := b5 _ _ npf.symm hf3
        -- near = [word] + [..]
        refine ⟨_, rfl, by show 1 ≤ sizeLine; decide, fun q hq => ?_⟩
        have npq : p ≠ q := ne_of_none P5.a hq
        have nfq : f ≠ q := ne_of_none hf5 hq
        refine ⟨_, rfl, fun D hD => lc_fm walk_str (sgV alpha) (glue7 y) (by rw [sgV_len]; decide +kernel) (ystr alpha) hD (fun _ _ => trivial) (by rw [sgV_len]; decide) ?_ ?_⟩
        · rintro v hv H' hS Kt Kf k1 k2
          obtain ⟨o, ho, rfl⟩ := List.mem_map.mp hv
          refine ⟨rfl, ?_⟩
          refine ⟨_, rfl, 7, rfl, y, rfl, hy.fit, _, rfl, _, _, rfl, rfl, ?_, k1 _ rfl⟩
          have l1 := cut_len y 7
          exact Nat.le_trans (Nat.add_le_add l1 (Nat.le_refl 1)) (by decide)
        have nqD : q ≠ D := ne_of_none upd_same hD
        refine ⟨q, D, _, _, rfl, rfl, by rw [upd_ne nqD]; exact upd_same, upd_same, ?_, fun r hr => ?_⟩
        · have : ((sgV alpha).filterMap (glue7 y)).length ≤ (sgV alpha).length := List.length_filterMap_le ..
          rw [sgV_len] at this
          exact Nat.le_trans (Nat.add_le_add (Nat.le_refl 1) this) (by decide)
        rw [near_map]
        generalize hH6 : upd (upd (upd H5 q (HO.lst [V.str y])) D (HO.lst ((sgV alpha).filterMap (glue7 y)))) r (HO.lst ((nearOf y).map V.str)) = H6
        have s6 : Same H5 H6 := by
          rw [← hH6]
          exact ((same_new hq).trans (same_new hD)).trans (same_new hr)
        have hr6 : H6 r = some (.lst ((nearOf y).map V.str)) := by rw [← hH6]; exact upd_same
        have hf6 := s6 _ _ hf5
        have P6 := P5.same s6
        have b6 : But p H3 H6 := b5.trans (Same.but s6)
        -- found.append(..)
        refine ⟨_, rfl, .inl ⟨rfl, _, SqL.of hf6⟩, _, rfl, r, rfl, ⟨_, SqL.of hr6⟩, fun D2 hD2 => lc_fm (walk_list (K := K) (a := r) (xs := (nearOf y).map V.str)) _ (leftOut xs) rfl (yat _) hD2 (fun H' hS => SqL.of (hS _ _ hr6)) (by rw [List.length_map]; show 27 < _; decide) ?_ ?_⟩
        · rintro v hv H' hS Kt Kf k1 k2
          obtain ⟨o, ho, rfl⟩ := List.mem_map.mp hv
          refine ⟨rfl, ?_⟩
          refine ⟨_, rfl, _, rfl, o, f, xs, rfl, rfl, .inl (SqL.of (hS _ _ hf6)), _, rfl, ?_⟩
          rw [← inV_str]
          show if (!inV (V.str o) (xs.map V.str)) = true then _ else _
          cases ei : inV (V.str o) (xs.map V.str) with
          | true => exact iteF (k2 (by unfold leftOut; rw [ei]; rfl))
          | false => exact iteT ⟨_, rfl, k1 _ (by unfold leftOut; rw [ei]; rfl)⟩
        rw [left_map]
        cases el : (nearOf y).filterMap (fun s => if s ∈ xs then none else some s) with
        | nil => exact absurd el (near_new (by omega))
        | cons a2 r2 =>
          have ha : a2 ∈ (nearOf y).filterMap (fun s => if s ∈ xs then none else some s) := by rw [el]; exact List.mem_cons_self ..
          obtain ⟨s2, hs2, he2⟩ := List.mem_filterMap.mp ha
          have hs3 : s2 ∉ xs ∧ s2 = a2 := by
            by_cases hm : s2 ∈ xs
            · rw [if_pos hm] at he2; cases he2
            · rw [if_neg hm] at he2; exact ⟨hm, Option.some.inj he2⟩
          obtain ⟨hn3, rfl⟩ := hs3
          have na := near_nm hy _ hs2
          have hfD : f ≠ D2 := ne_of_none hf6 hD2
          refine ⟨D2, _, 0, V.str s2, rfl, rfl, SqL.of upd_same, atI_nat (j := 0) rfl, f, xs.map V.str, _, rfl, rfl, by rw [upd_ne hfD]; exact hf6, by rw [List.length_map]; exact Nat.lt_of_le_of_lt (show xs.length ≤ 25 by omega) (by decide), ?_⟩
          have hf0 : H f = none := hf
          refine ⟨xs ++ [s2], t5, z5, _, _, _, _, _, by rw [List.length_append, hl3]; rfl, fun x hx => ?_, ?_, rfl, by rw [upd_same]; simp, ?_, ?_, by omega⟩
          · rcases List.mem_append.mp hx with h | h
            · exact hnm x h
            · simp at h; rw [h]; exact na
          · rw [List.nodup_append]
            exact ⟨hnd, by simp, fun a ha b hb => by simp at hb; rw [hb]; intro e; rw [e] at ha; exact hn3 ha⟩
          · exact ((b3.trans b6).new hD2).upn hf0
          · have P7 := P6.same (same_new (o := .lst ((s2 :: r2).map V.str)) hD2)
            exact ⟨by rw [upd_ne npf]; exact P7.a, by rw [upd_ne ncf]; exact P7.b⟩
    · rintro σ H3 ⟨xs, t3, z3, a, b, d, g, h, hl3, hnm, hnd, rfl, hf3, b3, P3, ht3⟩
      exact ⟨_, rfl, k xs f H3 t3 z3 hl3 hnm hnd hf hf3 b3 P3 (by omega)⟩
theorem d_law_names (e : Ev K mg base) : DefN P w K mg base 4 "_law_names" ["pen", "many"] (spNames K) := by
  obtain ⟨fd, F⟩ := e.c.def_ 4 (d := dd "_law_names" 17) rfl
  exact ⟨⟨fd, ok_law_names F e, FunD.bindsN F fun _ _ _ _ _ _ us hl => match us, hl with | [_, _], _ => rfl⟩, F.kp, He.glo_ok e.X e.G (e.c.fact 9 rfl)⟩
theorem sc_is_name : FnScope ["value"] ["value"] (defScope (top 7)) := ⟨rfl, rfl, rfl, by decide +kernel, rfl, by decide +kernel, by decide +kernel⟩
theorem az_all : ∀ c, c < 128 → (PySem.Unicode.isLower c = true → PySem.Unicode.isAlpha c = true) ∧ (PySem.Unicode.isLower c = true → (PySem.Unicode.isUpper c || PySem.Unicode.isTitle c) = false) ∧ (PySem.Unicode.isAlpha c = true → PySem.Unicode.isLower c = false → (PySem.Unicode.isUpper c || PySem.Unicode.isTitle c) = true) ∧ (PySem.Unicode.isLower c = decide (c ∈ alpha.cps.toList)) := by decide +kernel
theorem az_small : ∀ c ∈ alpha.cps.toList, c < 128 := by decide +kernel
theorem nm3 {x : Str} (h : 1 ≤ x.length) : (Txt.isascii x && (Txt.isalpha x && Txt.islower x)) = x.cps.toList.all fun c => decide (c ∈ alpha.cps.toList) := by
  rw [Bool.eq_iff_iff]
  unfold Txt.isascii Txt.isalpha Txt.islower
  have hl : x.cps.toList ≠ [] := by
    intro e
    have : x.length = 0 := by show x.cps.size = 0; rw [← Array.length_toList, e]; rfl
    omega
  simp only [Bool.and_eq_true, Bool.not_eq_true', List.all_eq_true, decide_eq_true_eq, ← Array.all_toList, ← Array.any_toList]
  constructor
  · rintro ⟨h1, ⟨-, h2⟩, -, h4⟩ c hc
    obtain ⟨a1, a2, a3, a4⟩ := az_all c (h1 c hc)
    cases e : PySem.Unicode.isLower c with
    | true => rw [e] at a4; exact of_decide_eq_true a4.symm
    | false =>
      have h5 := a3 (h2 c hc) e
      rw [List.any_eq_false] at h4
      exact absurd h5 (h4 c hc)
  · intro k
    have kk : ∀ c ∈ x.cps.toList, c < 128 ∧ PySem.Unicode.isLower c = true := fun c hc => by
      have hs := az_small c (k c hc)
      exact ⟨hs, by rw [(az_all c hs).2.2.2]; exact decide_eq_true (k c hc)⟩
    refine ⟨fun c hc => (kk c hc).1, ⟨h, fun c hc => (az_all c (kk c hc).1).1 (kk c hc).2⟩, ?_, ?_⟩
    · obtain ⟨c, hc⟩ := List.exists_mem_of_ne_nil _ hl
      rw [List.any_eq_true]
      exact ⟨c, hc, (kk c hc).2⟩
    · rw [List.any_eq_false]
      intro c hc
      have := (az_all c (kk c hc).1).2.1 (kk c hc).2
      rw [this]
      simp
theorem ok_is_name {fd : FuncData} (F : FunD K "is_name" "is_name" (defArgs (top 7)) (defBody (top 7)) (defScope (top 7)) [] [] (He.ga K "is_name") fd) (e : Ev K mg base) : FnOk P w K mg base CX0 1 (He.ga K "is_name") fd ["value"] (spIsName K) := by
  refine F.ok sc_is_name (fun vs H Q E h => ?_) (fun cdv A outer s H vs Q E hr h => ?_)
  · obtain ⟨_, rfl, _⟩ := h
    rfl
  · skip
    refine ⟨_, PSs.nox ((pss_cons (ps_if (PW.pt (pw_or (pt_not (pt_val (pe_callB (kcall_isi (K := K)) (by rfl) (f_isinstance e) (by decide +kernel) (pa_cons (pv 0) (pa_cons (pe_bltn (by rfl) (f_str e) (by decide +kernel) (show RelV (.ty "str") (.type "str") from rfl)) pa_nil))))) (pw_or1 (pt_not (pt_chain op_le op_le pe_int (pe_callB call_len_str (by rfl) (f_len e) (by decide +kernel) (pa_cons (pv 0) pa_nil)) pe_int)))))
      (pss_one (ps_ret pe_bl)) pss_nil)
      (pss_one (ps_ret (pe_and (kpe_bm0 (K := K) PySem.F.plainAttrs_str PySem.F.slot_str_isascii PySem.F.type_str_isascii mt_isascii (pv 0)) (pe_and (kpe_bm0 (K := K) PySem.F.plainAttrs_str PySem.F.slot_str_isalpha PySem.F.type_str_isalpha mt_isalpha (pv 0)) (pe_one (kpe_bm0 (K := K) PySem.F.plainAttrs_str PySem.F.slot_str_islower PySem.F.type_str_islower mt_islower (pv 0))))))))), ?_⟩
    obtain ⟨v, rfl, hv⟩ := h
    refine ⟨_, rfl, ?_⟩
    rcases hv with ⟨x, rfl, hx, k⟩ | ⟨t, ty, hk, q⟩
    · have kf : ¬ IsNm x → Q (.bl false) H := fun hn => by
        have e1 : nmB x = false := by
          cases e2 : nmB x with
          | false => rfl
          | true => exact absurd (nmB_iff.mp e2) hn
        have := k H (Same.refl H)
        rw [e1] at this
        exact this
      refine ⟨.str x, _, _, _, true, rfl, .ty "str", .base (.str x), kit_ty (by decide +kernel), _, rfl, iteF ?_⟩
      refine ⟨_, rfl, x, rfl, hx, _, _, rfl, rfl, _, rfl, ?_⟩
      refine ite2 (fun h1 => ?_) fun h1 => ⟨_, rfl, kf fun n => h1 (decide_eq_true (by have := n.lo; omega))⟩
      refine ⟨_, _, rfl, rfl, _, rfl, ?_⟩
      have h1' := of_decide_eq_true h1
      by_cases h2 : ((x.length : Int) ≤ 8)
      · rw [decide_eq_true h2]
        refine iteF ?_
        have fin : (Txt.isascii x && (Txt.isalpha x && Txt.islower x)) = nmB x := by
          rw [nm3 (show 1 ≤ x.length by omega)]
          unfold nmB
          rw [decide_eq_true (show 1 ≤ x.length by omega), decide_eq_true (show x.length ≤ 8 by omega)]
          rfl
        have k' := k H (Same.refl H)
        rw [← fin] at k'
        refine ⟨_, rfl, rfl, x, rfl, rfl, trivial, _, rfl, ?_⟩
        cases e1 : Txt.isascii x with
        | false =>
          rw [e1] at k'
          exact iteF (by exact k')
        | true =>
          rw [e1] at k'
          refine iteT ⟨_, rfl, rfl, x, rfl, rfl, trivial, _, rfl, ?_⟩
          cases e2 : Txt.isalpha x with
          | false =>
            rw [e2] at k'
            exact iteF (by exact k')
          | true =>
            rw [e2] at k'
            exact iteT ⟨_, rfl, rfl, x, rfl, rfl, trivial, by exact k'⟩
      · rw [decide_eq_false h2]
        exact iteT (kf fun n => h2 (by have := n.hi; omega))
    · refine ⟨v, _, t, _, false, rfl, .ty "str", ty, hk, _, rfl, ?_⟩
      exact q
theorem d_is_name (e : Ev K mg base) : DefN P w K mg base 1 "is_name" ["value"] (spIsName K) := by
  obtain ⟨fd, F⟩ := e.c.def_ 5 (d := dd "is_name" 7) rfl
  exact ⟨⟨fd, ok_is_name F e, FunD.bindsN F fun _ _ _ _ _ _ us hl => match us, hl with | [_], _ => rfl⟩, F.kp, He.glo_ok e.X e.G (e.c.fact 12 rfl)⟩
theorem dw0_is_name (e : Ev K mg base) : DefW P w K mg base CX0 1 "is_name" ["value"] 0 ["value"] false (spIsName K) := by
  obtain ⟨fd, F⟩ := e.c.def_ 5 (d := dd "is_name" 7) rfl
  exact ⟨⟨fd, ok_is_name F e, kbn_fwd (FunD.kbindsN F 0 ["value"] fun _ _ _ _ _ _ us ws h1 h2 => match us, ws, h1, h2 with | [], [_], _, _ => rfl)⟩, F.kp, He.glo_ok e.X e.G (e.c.fact 12 rfl)⟩
/-- what is still due -/
def Due {α : Type} (T : List α) (k : Nat) (R : List α) : Prop := k ≤ T.length ∧ T.drop k = R
theorem due_at0 {α : Type} {T R : List α} {k : Nat} {x : α} (h : Due T k (x :: R)) : T[k]? = some x ∧ Due T (k + 1) R := by
  obtain ⟨_, h⟩ := h
  have hk : k < T.length := by
    by_cases q : k < T.length
    · exact q
    · rw [List.drop_eq_nil_of_le (by omega)] at h
      cases h
  rw [List.drop_eq_getElem_cons hk] at h
  obtain ⟨h1, h2⟩ := List.cons.inj h
  exact ⟨by rw [List.getElem?_eq_getElem hk, h1], hk, h2⟩
theorem due_end {α : Type} {T : List α} {k : Nat} (h : Due T k []) : k = T.length := by
  have := congrArg List.length h.2
  rw [List.length_drop, List.length_nil] at this
  have := h.1
  omega
def gI (ns : List Str) (i : Nat) : Str := ns.getD i ""
def four4 (ns : List Str) (a b c d : Nat) : List Str := [gI ns a, gI ns b, gI ns c, gI ns d]
def four3 (ns : List Str) (a b c : Nat) : List (List Str) := (List.range' (c + 1) (ns.length - (c + 1))).map (four4 ns a b c)
def four2 (ns : List Str) (a b : Nat) : List (List Str) := (List.range' (b + 1) (ns.length - (b + 1))).flatMap (four3 ns a b)
def four1 (ns : List Str) (a : Nat) : List (List Str) := (List.range' (a + 1) (ns.length - (a + 1))).flatMap (four2 ns a)
def fours (ns : List Str) : List (List Str) := (List.range' 0 ns.length).flatMap (four1 ns)
theorem rng_cons {i m : Nat} (h : i < m) : List.range' i (m - i) = i :: List.range' (i + 1) (m - (i + 1)) := by
  obtain ⟨k, rfl⟩ : ∃ k, m = i + 1 + k := ⟨m - (i + 1), by omega⟩
  rw [show i + 1 + k - i = k + 1 by omega, show i + 1 + k - (i + 1) = k by omega, List.range'_succ]
theorem flat_le {α β : Type} {f : α → List β} {m : Nat} : ∀ {l : List α}, (∀ x ∈ l, (f x).length ≤ m) → (l.flatMap f).length ≤ l.length * m
  | [], _ => by simp
  | a :: r, h => by
    rw [List.flatMap_cons, List.length_append, List.length_cons, Nat.succ_mul]
    have := flat_le (l := r) fun x hx => h x (List.mem_cons_of_mem _ hx)
    have := h a List.mem_cons_self
    omega
theorem fours_four {ns it : List Str} (h : it ∈ fours ns) : it.length = 4 := by
  simp only [fours, four1, four2, four3, List.mem_flatMap, List.mem_map] at h
  obtain ⟨_, _, _, _, _, _, _, _, rfl⟩ := h
  rfl
theorem fours_len {ns : List Str} (h : ns.length ≤ 12) : (fours ns).length ≤ 20736 := by
  have h3 : ∀ a b c, (four3 ns a b c).length ≤ 12 := fun a b c => by unfold four3; rw [List.length_map, List.length_range']; omega
  have h2 : ∀ a b, (four2 ns a b).length ≤ 144 := fun a b => by
    have := flat_le (f := four3 ns a b) (m := 12) (l := List.range' (b + 1) (ns.length - (b + 1))) fun x _ => h3 a b x
    rw [List.length_range'] at this
    unfold four2
    omega
  have h1 : ∀ a, (four1 ns a).length ≤ 1728 := fun a => by
    have := flat_le (f := four2 ns a) (m := 144) (l := List.range' (a + 1) (ns.length - (a + 1))) fun x _ => h2 a x
    rw [List.length_range'] at this
    unfold four1
    omega
  have := flat_le (f := four1 ns) (m := 1728) (l := List.range' 0 ns.length) fun x _ => h1 x
  rw [List.length_range'] at this
  unfold fours
  omega
theorem at_g {ns : List Str} {k : Nat} {x : Int} (h : k < ns.length) (e : x = (k : Int)) : atI (ns.map V.str) x = some (.str (gI ns k)) := by
  subst e
  refine atI_nat (j := k) ?_
  rw [List.getElem?_map, List.getElem?_eq_getElem h]
  unfold gI
  rw [List.getD_eq_getElem?_getD, List.getElem?_eq_getElem h]
  rfl
def spFours (K : PySem.W.Frag) : SpG2 := fun vs H S => ∃ (p : Addr) (ns : List Str), vs = [.ref p] ∧ H p = some (.tup (ns.map V.str)) ∧ ns.length ≤ 12 ∧ (∀ H1 H2 xs, S.ry H1 H2 → H1 p = some (.tup xs) → H2 p = some (.tup xs)) ∧
  (∀ ys Hw H1 a it, (fours ns)[ys.length]? = some it → Same Hw H1 → Hw a = none → H1 a = some (.tup (it.map V.str)) → S.yd ys (.ref a) Hw H1) ∧ ∀ ys Hw H1, ys.length = (fours ns).length → Same Hw H1 → S.en ys Hw H1
theorem sc_fours_of : GScope ["hosts", "many", "a", "b", "c", "d"] ["hosts"] (defScope (top 10)) := ⟨rfl, rfl, rfl, by decide +kernel, rfl, by decide +kernel, by decide +kernel⟩
theorem ok_fours_of {fd : FuncData} (F : FunD K "fours_of" "fours_of" (defArgs (top 10)) (defBody (top 10)) (defScope (top 10)) [] [] (He.ga K "fours_of") fd) (e : Ev K mg base) : GFn2 P w K mg base 5 (He.ga K "fours_of") fd ["hosts"] (spFours K) := by
  obtain ⟨oc, od, dV, kV, doc, pm, an, cdv, ct, osl, rfl, lk, hcd, hD, hK⟩ := F.ex
  refine gfn2_of lk hcd sc_fours_of (by decide +kernel) (fun vs H S h => ?_) (fun A outer n0 gno H vs S pn hr h => ?_)
  · obtain ⟨_, _, rfl, _⟩ := h
    rfl
  · skip
    refine ⟨_, (gss2_cons (gs2_ps (fun sw Hw => (ps_set (i := 1) sc_fours_of.nd rfl (Or.inl rfl) (pe_callB (kcall_len_seq (K := K)) (by rfl) (f_len e) (by decide +kernel) (pa_cons (pv 0) pa_nil)))))
      (gss2_cons (gs2_for (fun sw Hw => (pi_range1 (by rfl) (f_range e) (pa_cons (pv 1) pa_nil))) (fun sw Hw => (pg_name (i := 2) sc_fours_of.nd rfl (Or.inl rfl)))
      (gss2_cons (gs2_for (fun sw Hw => (pi_range2 (by rfl) (f_range e) (pa_cons (pe_op op_add (pv 2) pe_int) (pa_cons (pv 1) pa_nil)))) (fun sw Hw => (pg_name (i := 3) sc_fours_of.nd rfl (Or.inl rfl)))
      (gss2_cons (gs2_for (fun sw Hw => (pi_range2 (by rfl) (f_range e) (pa_cons (pe_op op_add (pv 3) pe_int) (pa_cons (pv 1) pa_nil)))) (fun sw Hw => (pg_name (i := 4) sc_fours_of.nd rfl (Or.inl rfl)))
      (gss2_cons (gs2_for (fun sw Hw => (pi_range2 (by rfl) (f_range e) (pa_cons (pe_op op_add (pv 4) pe_int) (pa_cons (pv 1) pa_nil)))) (fun sw Hw => (pg_name (i := 5) sc_fours_of.nd rfl (Or.inl rfl)))
      (gss2_cons (gs2_yield (fun sw Hw => (pe_tup (pa_cons (pe_ix (kix_tup (K := K)) (pv 0) (pv 2) (fun _ _ => rfl)) (pa_cons (pe_ix (kix_tup (K := K)) (pv 0) (pv 3) (fun _ _ => rfl)) (pa_cons (pe_ix (kix_tup (K := K)) (pv 0) (pv 4) (fun _ _ => rfl)) (pa_cons (pe_ix (kix_tup (K := K)) (pv 0) (pv 5) (fun _ _ => rfl)) pa_nil)))))))
      gss2_nil))
      gss2_nil))
      gss2_nil))
      gss2_nil))
      gss2_nil)), fun H2 hry => ?_⟩
    obtain ⟨p, ns, rfl, hp, few, rly, yd, en⟩ := h
    have hp2 := rly _ _ _ hry hp
    have szl : (20736 : Nat) < sizeLine := by decide +kernel
    have flen := fours_len few
    refine ⟨_, rfl, _, _, rfl, .inr (SqT.of hp2), ?_⟩
    rw [List.length_map]
    refine ⟨_, rfl, _, rfl, by omega, by omega, for_range2 (lo := 0) (n := ns.length) (fun i ys Hw σ H => ∃ x2 x3 x4 x5, σ = [some (.ref p), some (.int ns.length), x2, x3, x4, x5] ∧ Same Hw H ∧ H p = some (.tup (ns.map V.str)) ∧ Due (fours ns) ys.length ((List.range' i (ns.length - i)).flatMap (four1 ns)))
      ⟨_, _, _, _, rfl, Same.refl _, hp2, Nat.zero_le _, rfl⟩ ?_ ?_⟩
    · rintro i ys Hw σ H hi ⟨x2, x3, x4, x5, rfl, s, hp3, due⟩
      rw [rng_cons hi, List.flatMap_cons] at due
      refine ⟨_, rfl, _, _, rfl, rfl, _, rfl, _, _, rfl, ⟨by omega, by omega, by omega, by omega⟩, for_range2 (lo := 0 + (i : Nat) + 1) (n := ((ns.length : Int) - (0 + (i : Nat) + 1)).toNat)
        (fun j ys Hw σ H => ∃ x3 x4 x5, σ = [some (.ref p), some (.int ns.length), some (.int (0 + (i : Nat))), x3, x4, x5] ∧ Same Hw H ∧ H p = some (.tup (ns.map V.str)) ∧ Due (fours ns) ys.length ((List.range' (i + 1 + j) (ns.length - (i + 1 + j))).flatMap (four2 ns i) ++ (List.range' (i + 1) (ns.length - (i + 1))).flatMap (four1 ns)))
        ⟨_, _, _, rfl, s, hp3, due⟩ ?_ ?_⟩
      · rintro j ys Hw σ H hj ⟨x3, x4, x5, rfl, s, hp4, due⟩
        have hj : i + 1 + j < ns.length := by omega
        rw [rng_cons hj, List.flatMap_cons, List.append_assoc] at due
        refine ⟨_, rfl, _, _, rfl, rfl, _, rfl, _, _, rfl, ⟨by omega, by omega, by omega, by omega⟩, for_range2 (lo := 0 + (i : Nat) + 1 + (j : Nat) + 1) (n := ((ns.length : Int) - (0 + (i : Nat) + 1 + (j : Nat) + 1)).toNat)
          (fun k ys Hw σ H => ∃ x4 x5, σ = [some (.ref p), some (.int ns.length), some (.int (0 + (i : Nat))), some (.int (0 + (i : Nat) + 1 + (j : Nat))), x4, x5] ∧ Same Hw H ∧ H p = some (.tup (ns.map V.str)) ∧ Due (fours ns) ys.length ((List.range' (i + 1 + j + 1 + k) (ns.length - (i + 1 + j + 1 + k))).flatMap (four3 ns i (i + 1 + j)) ++ ((List.range' (i + 1 + j + 1) (ns.length - (i + 1 + j + 1))).flatMap (four2 ns i) ++ (List.range' (i + 1) (ns.length - (i + 1))).flatMap (four1 ns))))
          ⟨_, _, rfl, s, hp4, due⟩ ?_ ?_⟩
        · rintro k ys Hw σ H hk ⟨x4, x5, rfl, s, hp5, due⟩
          have hk : i + 1 + j + 1 + k < ns.length := by omega
          rw [rng_cons hk, List.flatMap_cons, List.append_assoc] at due
          refine ⟨_, rfl, _, _, rfl, rfl, _, rfl, _, _, rfl, ⟨by omega, by omega, by omega, by omega⟩, for_range2 (lo := 0 + (i : Nat) + 1 + (j : Nat) + 1 + (k : Nat) + 1) (n := ((ns.length : Int) - (0 + (i : Nat) + 1 + (j : Nat) + 1 + (k : Nat) + 1)).toNat)
            (fun l ys Hw σ H => ∃ x5, σ = [some (.ref p), some (.int ns.length), some (.int (0 + (i : Nat))), some (.int (0 + (i : Nat) + 1 + (j : Nat))), some (.int (0 + (i : Nat) + 1 + (j : Nat) + 1 + (k : Nat))), x5] ∧ Same Hw H ∧ H p = some (.tup (ns.map V.str)) ∧ Due (fours ns) ys.length ((List.range' (i + 1 + j + 1 + k + 1 + l) (ns.length - (i + 1 + j + 1 + k + 1 + l))).map (four4 ns i (i + 1 + j) (i + 1 + j + 1 + k)) ++ ((List.range' (i + 1 + j + 1 + k + 1) (ns.length - (i + 1 + j + 1 + k + 1))).flatMap (four3 ns i (i + 1 + j)) ++ ((List.range' (i + 1 + j + 1) (ns.length - (i + 1 + j + 1))).flatMap (four2 ns i) ++ (List.range' (i + 1) (ns.length - (i + 1))).flatMap (four1 ns)))))
            ⟨_, rfl, s, hp5, due⟩ ?_ ?_⟩
          · rintro l ys Hw σ H hl ⟨x5, rfl, s, hp6, due⟩
            have hl : i + 1 + j + 1 + k + 1 + l < ns.length := by omega
            rw [rng_cons hl, List.map_cons, List.cons_append] at due
            obtain ⟨at_, due⟩ := due_at0 due
            have ylt := (List.getElem?_eq_some_iff.mp at_).1
            refine ⟨by omega, _, rfl, _, rfl, _, _, _, _, rfl, rfl, SqT.of hp6, at_g (k := i) (by omega) (by omega), _, rfl, _, rfl, _, _, _, _, rfl, rfl, SqT.of hp6, at_g (k := i + 1 + j) (by omega) (by omega), _, rfl, _, rfl, _, _, _, _, rfl, rfl, SqT.of hp6, at_g (k := i + 1 + j + 1 + k) (by omega) (by omega), _, rfl, _, rfl, _, _, _, _, rfl, rfl, SqT.of hp6, at_g (k := i + 1 + j + 1 + k + 1 + l) (by omega) (by omega), fit (by simp), fun q hq => ?_⟩
            generalize gq : upd H q _ = H'
            obtain ⟨sq, eq⟩ := gen_new gq hq
            clear gq
            refine ⟨yd ys Hw H' q _ at_ (s.trans sq) (same_none s hq) eq, fun H3 r3 => ?_⟩
            exact ⟨_, rfl, Same.refl _, rly _ _ _ r3 (sq _ _ hp6), by rw [List.length_append, List.length_singleton]; exact due⟩
          · rintro ys Hw σ H ⟨x5, rfl, s, hp6, due⟩
            refine ⟨_, _, rfl, s, hp6, ?_⟩
            rw [show ns.length - (i + 1 + j + 1 + k + 1 + ((ns.length : Int) - (0 + (i : Nat) + 1 + (j : Nat) + 1 + (k : Nat) + 1)).toNat) = 0 by omega] at due
            exact due
        · rintro ys Hw σ H ⟨x4, x5, rfl, s, hp5, due⟩
          refine ⟨_, _, _, rfl, s, hp5, ?_⟩
          rw [show ns.length - (i + 1 + j + 1 + ((ns.length : Int) - (0 + (i : Nat) + 1 + (j : Nat) + 1)).toNat) = 0 by omega] at due
          exact due
      · rintro ys Hw σ H ⟨x3, x4, x5, rfl, s, hp4, due⟩
        refine ⟨_, _, _, _, rfl, s, hp4, ?_⟩
        rw [show ns.length - (i + 1 + ((ns.length : Int) - (0 + (i : Nat) + 1)).toNat) = 0 by omega] at due
        exact due
    · rintro ys Hw σ H ⟨x2, x3, x4, x5, rfl, s, hp3, due⟩
      rw [Nat.sub_self] at due
      exact en ys Hw H (due_end due) s
theorem d_fours_of (e : Ev K mg base) : ∃ fd, GFn2 P w K mg base 5 (He.ga K "fours_of") fd ["hosts"] (spFours K) ∧ FunD K "fours_of" "fours_of" (defArgs (top 10)) (defBody (top 10)) (defScope (top 10)) [] [] (He.ga K "fours_of") fd := by
  obtain ⟨fd, F⟩ := e.c.def_ 6 (d := dd "fours_of" 10) rfl
  exact ⟨fd, ok_fours_of F e, F⟩
theorem fours_mk (e : Ev K mg base) : ∃ fd, GFn2 P w K mg base 5 (He.ga K "fours_of") fd ["hosts"] (spFours K) ∧ PySem.W.keepIn K (.ref (He.ga K "fours_of")) = true ∧ mg "fours_of" = some (.ref (He.ga K "fours_of")) ∧ Binds K fd ["hosts"] [] ∧ KBn K fd ["hosts"] 0 ["hosts"] (fun us ws => us ++ ws) (fun us ws => us ++ ws) := by
  obtain ⟨fd, F, D⟩ := d_fours_of (P := P) (w := w) e
  refine ⟨fd, F, D.kp, g_fours_of e, fun s us _ hl => ?_, ?_⟩
  · rw [List.append_nil] at hl ⊢
    exact FunD.bindsA (ps := ["hosts"]) D (fun _ _ _ _ _ _ us hl => match us, hl with | [_], _ => rfl) s us hl
  exact FunD.kbindsN (ps := ["hosts"]) D 0 ["hosts"] fun _ _ _ _ _ _ us ws l1 l2 => match us, ws, l1, l2 with | [], [_], _, _ => rfl
section
variable {X : Cx} {a b : Expr} {ta tk : TA} {p pos p1 : Pos}
theorem pg_fours (e : Ev K mg base) (hr : Room 5 X.A) (hg : Gl X "fours_of") (ha : PA X [a] ta) (hK : X.K = K := by rfl) (hm : X.mg = mg := by rfl) (hb : X.base = base := by rfl) (he : starEach [a] X.env = (false, eval a X.env) :: starEach [] X.env := by rfl) (hpl : (backTo pos (starEach [] X.env)).any (·.1) = false := by rfl) : PGen2 X 5 (.Call (.Name "fours_of" p) [a] [] pos) (tCallG2 (spFours K) [] ta) := by
  subst hK hm hb
  obtain ⟨fd, F, kp, gl, b, _⟩ := fours_mk (P := X.prog) (w := X.w) e
  exact pgen2_call F hr hg gl kp b .nil ha (by decide) he hpl
theorem pg_foursK (e : Ev K mg base) (hr : Room 5 X.A) (hg : Gl X "fours_of") (hkw : PK X [⟨some "hosts", b, p1⟩] tk) (hK : X.K = K := by rfl) (hm : X.mg = mg := by rfl) (hb : X.base = base := by rfl) (hall : (backToKw pos (keywordEach [⟨some "hosts", b, p1⟩] X.env)).all (·.1.isSome) = true := by rfl) (hks : (backToKw pos (keywordEach [⟨some "hosts", b, p1⟩] X.env)).filterMap (·.1) = (["hosts"] : List Str) := by rfl)
    (hpl : ((backTo pos (starEach [] X.env)).any (·.1) || (backToKw pos (keywordEach [⟨some "hosts", b, p1⟩] X.env)).any (·.1.isNone)) = false := by rfl) : PGen2 X 5 (.Call (.Name "fours_of" p) [] [⟨some "hosts", b, p1⟩] pos) (tCallGK02 1 (spFours K) (fun us ws => us ++ ws) tk) := by
  subst hK hm hb
  obtain ⟨fd, F, kp, gl, _, kb⟩ := fours_mk (P := X.prog) (w := X.w) e
  exact pgen2_callK0 F hr hg gl kp kb hkw hall hks (by decide) hpl
theorem kpa_star {e : Expr} {te : TE} {p : Pos} (he : PE X e te) (hs : starEach (.Starred e p :: []) X.env = (true, eval e X.env) :: starEach [] X.env := by rfl) (hK : X.K = K := by rfl) : PA X (.Starred e p :: []) (StX.tStar K te tNil) := by
  subst hK
  exact StX.pa_star he pa_nil hs
end
/-- a loop of a generator's body over a tuple's items and their places -/
theorem for_enum2 {K : PySem.W.Frag} {a : Addr} {xs : List V} {g : TG} {tb : TG2} {D : GEnds2} {ys : List V} {Hw : Hp} {σ : L2.St} {H : Hp} (Pv : Nat → List V → Hp → L2.St → Hp → Prop) (h0 : Pv 0 ys Hw σ H) (hl : ∀ i ys Hw σ H, i ≤ xs.length → Pv i ys Hw σ H → SqT K H a xs)
    (hs : ∀ i x ys Hw σ H T, xs[i]? = some x → Pv i ys Hw σ H → H T = none → g (.ref T) σ (upd H T (.tup [.int (i : Nat), x])) fun σ2 H2 => tb { D with nx := Pv (i + 1), ct := Pv (i + 1), bk := D.nx } ys Hw σ2 H2) (hd : ∀ ys Hw σ H, Pv xs.length ys Hw σ H → D.nx ys Hw σ H) :
    ∃ W : Nat → Nat → List V → Hp → L2.St → Hp → Prop, (∃ m, W 0 m ys Hw σ H) ∧ ∀ i m ys Hw σ H, W i m ys Hw σ H →
      ((IteT K a).stop i H ∧ D.nx ys Hw σ H) ∨ ((IteT K a).go i H ∧ ∃ N : List V → Hp → L2.St → Hp → Prop, (∀ ys' Hw' σ' H', N ys' Hw' σ' H' → ∃ m', m' < m ∧ W (i + 1) m' ys' Hw' σ' H') ∧ ∀ x H', (IteT K a).yld i H x H' → g x σ H' fun σ2 H2 => tb { D with nx := N, ct := N, bk := D.nx } ys Hw σ2 H2) := by
  refine ⟨fun i m ys Hw σ H => m = xs.length - i ∧ i ≤ xs.length ∧ Pv i ys Hw σ H, ⟨xs.length, by simp, Nat.zero_le _, h0⟩, ?_⟩
  rintro i m ys Hw σ H ⟨rfl, hi, p⟩
  have q := hl i ys Hw σ H hi p
  by_cases hlt : i < xs.length
  · refine .inr ⟨⟨xs, xs[i], q, by simp [hlt]⟩, Pv (i + 1), fun ys' Hw' σ' H' p' => ⟨xs.length - (i + 1), by omega, rfl, hlt, p'⟩, fun x H' y => ?_⟩
    obtain ⟨T, z, rfl, hT, rfl, at_⟩ := y
    exact hs i z ys Hw σ H T (at_ xs q) p hT
  · have e : i = xs.length := by omega
    subst e
    exact .inl ⟨⟨xs, q, Nat.le_refl _⟩, hd ys Hw σ H p⟩
theorem cut_from {xs : List V} {k : Nat} (h : 0 < k) (l : k ≤ xs.length) : ¬ (HT.sIx xs.length 0 (some (((k - 1 : Nat) : Int) + 1)) = 0 ∧ HT.sIx xs.length xs.length none = xs.length) ∧ cutV xs (some (((k - 1 : Nat) : Int) + 1)) none = xs.drop k := by
  have e1 : HT.sIx xs.length 0 (some (((k - 1 : Nat) : Int) + 1)) = k := by
    rw [show ((k - 1 : Nat) : Int) + 1 = (k : Int) by omega, HT.sIx_nat]
    omega
  refine ⟨fun c => ?_, ?_⟩
  · rw [e1] at c
    omega
  · unfold cutV
    rw [e1, HT.sIx_none]
    exact List.take_of_length_le (by rw [List.length_drop]; omega)
def fives1 (ns : List Str) (i : Nat) : List (List Str) := (fours (ns.drop (i + 1))).map (gI ns i :: ·)
def fives (ns : List Str) : List (List Str) := (List.range' 0 ns.length).flatMap (fives1 ns)
theorem fives_len {ns : List Str} (h : ns.length ≤ 12) : (fives ns).length ≤ 248832 := by
  have h1 : ∀ a, (fives1 ns a).length ≤ 20736 := fun a => by unfold fives1; rw [List.length_map]; exact fours_len (by rw [List.length_drop]; omega)
  have := flat_le (f := fives1 ns) (m := 20736) (l := List.range' 0 ns.length) fun x _ => h1 x
  rw [List.length_range'] at this
  unfold fives
  omega
def spFives (K : PySem.W.Frag) : SpG2 := fun vs H S => ∃ (p : Addr) (ns : List Str), vs = [.ref p] ∧ H p = some (.tup (ns.map V.str)) ∧ ns.length ≤ 12 ∧ (∀ H1 H2 b xs, S.ry H1 H2 → H1 b = some (.tup xs) → H2 b = some (.tup xs)) ∧
  (∀ ys Hw H1 a it, (fives ns)[ys.length]? = some it → Same Hw H1 → Hw a = none → H1 a = some (.tup (it.map V.str)) → S.yd ys (.ref a) Hw H1) ∧ ∀ ys Hw H1, ys.length = (fives ns).length → Same Hw H1 → S.en ys Hw H1
theorem sc_fives_of : GScope ["hosts", "at", "host", "behind", "four"] ["hosts"] (defScope (top 11)) := ⟨rfl, rfl, rfl, by decide +kernel, rfl, by decide +kernel, by decide +kernel⟩
theorem ok_fives_of {fd : FuncData} (F : FunD K "fives_of" "fives_of" (defArgs (top 11)) (defBody (top 11)) (defScope (top 11)) [] [] (He.ga K "fives_of") fd) (e : Ev K mg base) : GFn2 P w K mg base 7 (He.ga K "fives_of") fd ["hosts"] (spFives K) := by
  obtain ⟨oc, od, dV, kV, doc, pm, an, cdv, ct, osl, rfl, lk, hcd, hD, hK⟩ := F.ex
  refine gfn2_of lk hcd sc_fives_of (by decide +kernel) (fun vs H S h => ?_) (fun A outer n0 gno H vs S pn hr h => ?_)
  · obtain ⟨_, _, rfl, _⟩ := h
    rfl
  · skip
    refine ⟨_, (gss2_cons (gs2_for (fun sw Hw => (kpi_enumT (K := K) (by rfl) (f_enumerate e) (pa_cons (pv 0) pa_nil))) (fun sw Hw => (kpg_tup (K := K) (n := 2) (by rfl) (pgs_cons (pg_name (i := 1) sc_fives_of.nd rfl (Or.inl rfl)) (pgs_cons (pg_name (i := 2) sc_fives_of.nd rfl (Or.inl rfl)) pgs_nil))))
      (gss2_cons (gs2_ps (fun sw Hw => (ps_set (i := 3) sc_fives_of.nd rfl (Or.inl rfl) (pe_slice (ksl_tup (K := K)) (pv 0) (po_some (pe_op op_add (pv 1) pe_int)) po_none))))
      (gss2_cons (gs2_forG (hr.mono (by decide)) (fun sw Hw => pg_fours e (hr.mono (by decide)) rfl (pa_cons (pv 3) pa_nil)) (fun sw Hw => (pg_name (i := 4) sc_fives_of.nd rfl (Or.inl rfl)))
      (gss2_cons (gs2_yield (fun sw Hw => (pe_tup (pa_cons (pv 2) (kpa_star (pv 4))))))
      gss2_nil))
      gss2_nil)))
      gss2_nil), fun H2 hry => ?_⟩
    obtain ⟨p, ns, rfl, hp, few, rly, yd, en⟩ := h
    have hp2 := rly _ _ _ _ hry hp
    have szl : (248832 : Nat) < sizeLine := by decide +kernel
    have flen := fives_len few
    refine ⟨_, rfl, p, _, rfl, SqT.of hp2, for_enum2 (xs := ns.map V.str) (fun i ys Hw σ H => ∃ x1 x2 x3 x4, σ = [some (.ref p), x1, x2, x3, x4] ∧ Same Hw H ∧ H p = some (.tup (ns.map V.str)) ∧ Due (fives ns) ys.length ((List.range' i (ns.length - i)).flatMap (fives1 ns)))
      ⟨_, _, _, _, rfl, Same.refl _, hp2, Nat.zero_le _, rfl⟩ (fun i ys Hw σ H hi ⟨_, _, _, _, _, _, hp, _⟩ => SqT.of hp) ?_ ?_⟩
    · rintro i x ys Hw σ H T hx ⟨x1, x2, x3, x4, rfl, s, hp3, due⟩ hT
      generalize gT : upd H T _ = H0
      obtain ⟨sT, eT⟩ := gen_new gT hT
      clear gT
      rw [List.getElem?_map] at hx
      obtain ⟨a, ha, rfl⟩ := Option.map_eq_some_iff.mp hx
      have hi := (List.getElem?_eq_some_iff.mp ha).1
      have ga : gI ns i = a := by unfold gI; rw [List.getD_eq_getElem?_getD, ha]; rfl
      rw [rng_cons hi, List.flatMap_cons] at due
      have hp4 := sT _ _ hp3
      obtain ⟨nw, cut⟩ := cut_from (xs := ns.map V.str) (k := i + 1) (by omega) (by rw [List.length_map]; omega)
      refine ⟨_, _, rfl, SqT.of eT, rfl, _, _, rfl, _, _, rfl, rfl, ?_⟩
      refine ⟨_, rfl, _, rfl, _, _, rfl, rfl, _, rfl, p, _, rfl, SqT.of hp4, nw, fun q hq => ?_⟩
      generalize gq : upd H0 q _ = H1
      obtain ⟨sq, eq⟩ := gen_new gq hq
      clear gq
      have eq : H1 q = some (.tup ((ns.drop (i + 1)).map V.str)) := by rw [eq, List.map_drop, ← cut]; rfl
      have hp5 := sq _ _ hp4
      have s5 := (s.trans sT).trans sq
      generalize hnb : ns.drop (i + 1) = nb at eq
      have fewb : nb.length ≤ 12 := by rw [← hnb, List.length_drop]; omega
      refine ⟨_, rfl, ⟨fun zs x Hi H1 => ∃ it a, x = .ref a ∧ (fours nb)[zs.length]? = some it ∧ Same Hi H1 ∧ H1 a = some (.tup (it.map V.str)), fun zs Hi H1 => zs.length = (fours nb).length ∧ Same Hi H1, fun H1 H2 => ∀ b xs, H1 b = some (.tup xs) → H2 b = some (.tup xs)⟩,
        ⟨q, nb, rfl, eq, fewb, fun H1 H2 xs r h => r _ _ h, fun ys Hw H1 a it h1 h2 _ h4 => ⟨it, a, rfl, h1, h2, h4⟩, fun ys Hw H1 h1 h2 => ⟨h1, h2⟩⟩,
        fun zs ys Hw σ H => ∃ x4, σ = [some (.ref p), some (.int (i : Nat)), some (.str a), some (.ref q), x4] ∧ Same Hw H ∧ H p = some (.tup (ns.map V.str)) ∧ Due (fives ns) ys.length ((((fours nb).drop zs.length).map (a :: ·)) ++ (List.range' (i + 1) (ns.length - (i + 1))).flatMap (fives1 ns)),
        fun b xs h => h, ⟨_, rfl, s5, hp5, ?_⟩, ?_, ?_⟩
      · have e1 : fives1 ns i = (fours nb).map (a :: ·) := by unfold fives1; rw [ga, hnb]
        rw [e1] at due
        exact due
      · rintro zs ys Hw σ Hi x H' ⟨x4, rfl, s6, hp6, due⟩ ⟨it, a', rfl, hit, si, ha'⟩
        obtain ⟨hz, hzz⟩ := List.getElem?_eq_some_iff.mp hit
        rw [List.drop_eq_getElem_cons hz, hzz, List.map_cons, List.cons_append] at due
        obtain ⟨at_, due⟩ := due_at0 due
        have ylt := (List.getElem?_eq_some_iff.mp at_).1
        refine ⟨by omega, _, rfl, _, rfl, _, _, rfl, .inl (SqT.of ha'), fit ?_, fun r hr => ?_⟩
        · have := fours_four (List.mem_of_getElem? hit)
          simp [this]
        generalize gr : upd H' r _ = H9
        obtain ⟨sr, er⟩ := gen_new gr hr
        clear gr
        have s9 := (s6.trans si).trans sr
        refine ⟨yd ys Hw H9 r _ at_ s9 (same_none (s6.trans si) hr) (by rw [er, List.append_nil]; rfl), fun H3 r3 => ?_⟩
        refine ⟨fun b xs h => rly _ _ _ _ r3 (sr _ _ h), _, rfl, Same.refl _, rly _ _ _ _ r3 (sr _ _ (si _ _ hp6)), ?_⟩
        rw [List.length_append, List.length_singleton, List.length_append, List.length_singleton]
        exact due
      · rintro zs ys Hw σ Hi H' ⟨x4, rfl, s6, hp6, due⟩ ⟨hz, si⟩
        refine ⟨_, _, _, _, rfl, s6.trans si, si _ _ hp6, ?_⟩
        rw [hz, List.drop_length] at due
        exact due
    · rintro ys Hw σ H ⟨x1, x2, x3, x4, rfl, s, hp3, due⟩
      rw [List.length_map, Nat.sub_self] at due
      exact en ys Hw H (due_end due) s
theorem d_fives_of (e : Ev K mg base) : ∃ fd, GFn2 P w K mg base 7 (He.ga K "fives_of") fd ["hosts"] (spFives K) ∧ FunD K "fives_of" "fives_of" (defArgs (top 11)) (defBody (top 11)) (defScope (top 11)) [] [] (He.ga K "fives_of") fd := by
  obtain ⟨fd, F⟩ := e.c.def_ 7 (d := dd "fives_of" 11) rfl
  exact ⟨fd, ok_fives_of F e, F⟩
/-- the rows of the next stage -/
def chn (ns : List Str) (x : List Str × Nat) : List (List Str × Nat) := (List.range' x.2 (ns.length - x.2)).map fun k => (x.1 ++ [gI ns k], k + 1)
def ch (ns : List Str) : Nat → List (List Str × Nat)
  | 0 => [([], 0)]
  | m + 1 => (ch ns m).flatMap (chn ns)
theorem chn_len {ns : List Str} (x : List Str × Nat) : (chn ns x).length ≤ ns.length := by unfold chn; rw [List.length_map, List.length_range']; omega
theorem ch_len {ns : List Str} (h : ns.length ≤ 12) : ∀ m, (ch ns m).length ≤ 12 ^ m
  | 0 => by simp [ch]
  | m + 1 => by
    have h1 := flat_le (f := chn ns) (m := 12) (l := ch ns m) fun x _ => Nat.le_trans (chn_len x) h
    have h2 := ch_len h m
    have h3 : (ch ns m).length * 12 ≤ 12 ^ m * 12 := Nat.mul_le_mul_right 12 h2
    rw [Nat.pow_succ]
    unfold ch
    omega
theorem ch_two {ns : List Str} : ∀ m x, x ∈ ch ns m → x.1.length = m ∧ x.2 ≤ ns.length
  | 0, x, h => by
    have : x = ([], 0) := by simpa [ch] using h
    subst this
    exact ⟨rfl, Nat.zero_le _⟩
  | m + 1, x, h => by
    unfold ch at h
    obtain ⟨y, hy, hx⟩ := List.mem_flatMap.mp h
    obtain ⟨h1, h2⟩ := ch_two m y hy
    unfold chn at hx
    obtain ⟨k, hk, rfl⟩ := List.mem_map.mp hx
    have := List.mem_range'_1.mp hk
    exact ⟨by rw [List.length_append, h1]; rfl, by show k + 1 ≤ _; omega⟩
theorem ch_four (ns : List Str) : (ch ns 4).map (·.1) = fours ns := by
  simp only [ch, chn, fours, four1, four2, four3, List.flatMap_cons, List.flatMap_nil, List.append_nil, List.map_map, List.flatMap_map, List.map_flatMap, List.flatMap_assoc, Nat.sub_zero]
  rfl
theorem gI_drop (ns : List Str) (s i : Nat) : gI (ns.drop s) i = gI ns (s + i) := by
  unfold gI
  rw [List.getD_eq_getElem?_getD, List.getD_eq_getElem?_getD, List.getElem?_drop]
theorem rng_shift (s c n : Nat) : List.range' (s + c + 1) (n - (s + c + 1)) = (List.range' (c + 1) (n - s - (c + 1))).map (s + ·) := by
  rw [List.map_add_range']
  congr 1
  omega
theorem four3_drop (ns : List Str) (s a b c : Nat) : four3 (ns.drop s) a b c = four3 ns (s + a) (s + b) (s + c) := by
  unfold four3
  rw [rng_shift, List.map_map, List.length_drop]
  refine List.map_congr_left fun d _ => ?_
  simp only [four4, gI_drop, Function.comp]
theorem four2_drop (ns : List Str) (s a b : Nat) : four2 (ns.drop s) a b = four2 ns (s + a) (s + b) := by
  unfold four2
  rw [rng_shift, List.flatMap_map, List.length_drop]
  exact congrArg (fun f => List.flatMap f _) (funext fun c => four3_drop ns s a b c)
theorem four1_drop (ns : List Str) (s a : Nat) : four1 (ns.drop s) a = four1 ns (s + a) := by
  unfold four1
  rw [rng_shift, List.flatMap_map, List.length_drop]
  exact congrArg (fun f => List.flatMap f _) (funext fun c => four2_drop ns s a c)
theorem fours_drop (ns : List Str) (s : Nat) : fours (ns.drop s) = (List.range' s (ns.length - s)).flatMap (four1 ns) := by
  unfold fours
  have e : List.range' s (ns.length - s) = (List.range' 0 (ns.length - s)).map (s + ·) := by rw [List.map_add_range']; rfl
  rw [e, List.flatMap_map, List.length_drop]
  exact congrArg (fun f => List.flatMap f _) (funext fun c => four1_drop ns s c)
theorem ch_five (ns : List Str) : (ch ns 5).map (·.1) = fives ns := by
  have e : fives1 ns = fun i => ((List.range' (i + 1) (ns.length - (i + 1))).flatMap (four1 ns)).map (gI ns i :: ·) := funext fun i => by unfold fives1; rw [fours_drop]
  unfold fives
  rw [e]
  simp only [ch, chn, four1, four2, four3, List.flatMap_cons, List.flatMap_nil, List.append_nil, List.map_map, List.flatMap_map, List.map_flatMap, List.flatMap_assoc, Nat.sub_zero]
  rfl
/-- a pair of a tuple of names and a place -/
def TPr (K : PySem.W.Frag) (H : Hp) (v : V) (x : List Str × Nat) : Prop := ∃ p t, v = .ref p ∧ SqT K H p [.ref t, .int (x.2 : Nat)] ∧ SqT K H t (x.1.map V.str)
theorem tupR_pr {K : PySem.W.Frag} : TupR K (TPr K) := ⟨fun _ _ _ _ s ⟨p, t, e, h1, h2⟩ => ⟨p, t, e, s _ _ h1, s _ _ h2⟩⟩
def spChosen (K : PySem.W.Frag) : Sp := fun vs H Q _ => ∃ (p : Addr) (ns : List Str) (m : Nat), vs = [.ref p, .int (m : Nat)] ∧ SqT K H p (ns.map V.str) ∧ ns.length ≤ 12 ∧ m ≤ 5 ∧
  ∀ f gs H', Same H H' → H f = none → H' f = some (.lst gs) → RowsR (TNm K) H' gs ((ch ns m).map (·.1)) → Q (.ref f) H'
theorem sc_law_chosen : FnScope ["row", "many", "rows", "turn", "longer", "found", "begin", "k"] ["row", "many"] (defScope (top 23)) := ⟨rfl, rfl, rfl, by decide +kernel, rfl, by decide +kernel, by decide +kernel⟩
theorem ok_law_chosen {fd : FuncData} (F : FunD K "_law_chosen" "_law_chosen" (defArgs (top 23)) (defBody (top 23)) (defScope (top 23)) [] [] (He.ga K "_law_chosen") fd) (e : Ev K mg base) : FnOk P w K mg base CX0 3 (He.ga K "_law_chosen") fd ["row", "many"] (spChosen K) := by
  refine F.ok sc_law_chosen (fun vs H Q E h => ?_) (fun cdv A outer s H vs Q E hr h => ?_)
  · obtain ⟨_, _, _, rfl, _⟩ := h
    rfl
  · skip
    refine ⟨_, PSs.nox ((pss_cons (ps_set (i := 2) sc_law_chosen.nd rfl (Or.inl rfl) (pe_lst (pa_cons (pe_tup (pa_cons (pe_tup pa_nil) (pa_cons pe_int pa_nil))) pa_nil)))
      (pss_cons (ps_for PassesOwn.never rfl (pi_range1 (by rfl) (f_range e) (pa_cons (pv 1) pa_nil)) (pg_name (i := 3) sc_law_chosen.nd rfl (Or.inl rfl))
      (pss_cons (ps_set (i := 4) sc_law_chosen.nd rfl (Or.inl rfl) (pe_lst pa_nil))
      (pss_cons (ps_for PassesOwn.never rfl (kpi_list (K := K) (pv 2)) (pg_tup (by rfl) (pgs_cons (pg_name (i := 5) sc_law_chosen.nd rfl (Or.inr rfl)) (pgs_cons (pg_name (i := 6) sc_law_chosen.nd rfl (Or.inl rfl)) pgs_nil)))
      (pss_one (ps_set (i := 4) sc_law_chosen.nd rfl (Or.inl rfl) (pe_op op_cat (pv 4) (pe_lc (own := [("k", 7)]) (by rfl) sc_law_chosen.nd (pi_range2 (by rfl) (f_range e) (pa_cons (pv 6) (pa_cons (pe_callB (kcall_len_seq (K := K)) (by rfl) (f_len e) (by decide +kernel) (pa_cons (pv 0) pa_nil)) pa_nil))) (blkOk_by (own := [("k", 7)]) (N := ["row", "many", "rows", "turn", "longer", "found", "begin", "k"]) (sc := defScope (top 23)) (by decide +kernel)) (fun _ _ _ _ _ => (pg_name (i := 7) sc_law_chosen.nd rfl (Or.inl rfl))) (fun _ _ _ _ _ => pts_nil) (fun _ _ _ _ _ => (pe_tup (pa_cons (pe_op (op_catA (K := K)) (pv 5) (pe_tup (pa_cons (pe_ix (kix_tup (K := K)) (pv 0) (pv 7) (fun _ _ => rfl)) pa_nil))) (pa_cons (pe_op op_add (pv 7) pe_int) pa_nil)))))))))
      (pss_one (ps_set (i := 2) sc_law_chosen.nd rfl (Or.inl rfl) (pv 4))))))
      (pss_one (ps_ret (pe_lc (own := [("found", 5), ("begin", 6)]) (by rfl) sc_law_chosen.nd (kpi_list (K := K) (pv 2)) (blkOk_by (own := [("found", 5), ("begin", 6)]) (N := ["row", "many", "rows", "turn", "longer", "found", "begin", "k"]) (sc := defScope (top 23)) (by decide +kernel)) (fun _ _ _ _ _ => (kpg_tup (K := K) (n := 2) (by rfl) (pgs_cons (pg_name (i := 5) sc_law_chosen.nd rfl (Or.inl rfl)) (pgs_cons (pg_name (i := 6) sc_law_chosen.nd rfl (Or.inl rfl)) pgs_nil)))) (fun _ _ _ _ _ => pts_nil) (fun _ _ _ _ _ => (pv 5)))))))), ?_⟩
    obtain ⟨p, ns, m, rfl, hp, few, hm, k⟩ := h
    refine ⟨(fit (by simp)), fun pa3 na4 => ?_⟩
    generalize ga6 : upd H pa3 (HO.tup []) = Ha5
    obtain ⟨sa8, ea7⟩ := gen_new ga6 na4
    clear ga6
    refine ⟨(fit (by simp)), fun pa11 na12 => ?_⟩
    generalize ga14 : upd Ha5 pa11 (HO.tup [V.ref pa3, V.int (0 : Int)]) = Ha13
    obtain ⟨sa16, ea15⟩ := gen_new ga14 na12
    clear ga14
    refine ⟨(fit (by simp)), fun pa19 na20 => ?_⟩
    generalize ga22 : upd Ha13 pa19 (HO.lst [V.ref pa11]) = Ha21
    obtain ⟨sa24, ea23⟩ := gen_new ga22 na20
    clear ga22
    have S0 := (sa8.trans sa16).trans sa24
    refine ⟨_, rfl, _, rfl, (by omega), (by omega), ?_⟩
    rw [show ((m : Nat) : Int).toNat = m from rfl]
    refine for_range (lo := 0) (n := m) (fun i σ H' => ∃ (l : Addr) (vs : List V) (x3 x4 x5 x6 x7 : Option V), σ = [some (.ref p), some (.int (m : Nat)), some (.ref l), x3, x4, x5, x6, x7] ∧ Same H H' ∧ H l = none ∧ H' l = some (.lst vs) ∧ RowsR (TPr K) H' vs (ch ns i))
      ⟨pa19, [V.ref pa11], none, none, none, none, none, rfl, S0, same_none (sa8.trans sa16) na20, ea23, ⟨pa11, pa3, rfl, SqT.of (sa24 _ _ ea15), SqT.of (sa24 _ _ (sa16 _ _ ea7))⟩, trivial⟩ ?_ ?_
    · rintro i σ H1 hi ⟨l, vs, x3, x4, x5, x6, x7, rfl, s1, nl, el, fa⟩
      have cl : (ch ns i).length ≤ 20736 := by
        have h1 := ch_len few i
        have h2 : 12 ^ i ≤ 12 ^ 4 := Nat.pow_le_pow_right (by decide) (by omega)
        omega
      refine ⟨(fit (by simp)), fun g0 ng0 => ?_⟩
      generalize gg : upd H1 g0 (HO.lst []) = H2
      obtain ⟨s2, e2⟩ := gen_new gg ng0
      clear gg
      have hl := fa.len
      refine ⟨_, rfl, ?_⟩
      refine ⟨_, rfl, ⟨_, SqL.of (s2 _ _ el)⟩, ?_⟩
      refine for_list (K := K) (a := l) (xs := vs) (fun j σ H' => ∃ (g : Addr) (ws : List V) (x5 x6 x7 : Option V), σ = [some (.ref p), some (.int (m : Nat)), some (.ref l), some (.int (0 + (i : Nat))), some (.ref g), x5, x6, x7] ∧ Same H H' ∧ H' l = some (.lst vs) ∧ RowsR (TPr K) H' vs (ch ns i) ∧ H g = none ∧ H' g = some (.lst ws) ∧ RowsR (TPr K) H' ws (((ch ns i).take j).flatMap (chn ns)))
        ⟨g0, [], _, _, _, rfl, s1.trans s2, s2 _ _ el, fa.up tupR_pr (TupT.same s2), same_none s1 ng0, e2, trivial⟩ (fun j σ H' hj ⟨_, _, _, _, _, _, _, h, _⟩ => SqL.of h) ?_ ?_
      · rintro j x σ H3 hx ⟨g, ws, x5, x6, x7, rfl, s3, el3, fa3, ng, eg, fg⟩
        obtain ⟨⟨fs, b⟩, hfb, q, t, rfl, tq, tt⟩ := fa3.at hx
        obtain ⟨lf, lb⟩ := ch_two i _ (List.mem_of_getElem? hfb)
        have lf : fs.length = i := lf
        have lb : b ≤ ns.length := lb
        have lw : ws.length ≤ 20736 * 12 := by
          rw [fg.len]
          have h1 := flat_le (f := chn ns) (m := 12) (l := (ch ns i).take j) fun x _ => Nat.le_trans (chn_len x) few
          have h2 : ((ch ns i).take j).length ≤ (ch ns i).length := by rw [List.length_take]; omega
          have h3 : ((ch ns i).take j).length * 12 ≤ 20736 * 12 := Nat.mul_le_mul_right 12 (by omega)
          omega
        have hp3 := seqT_same s3 hp
        refine ⟨_, _, rfl, tq, rfl, _, _, rfl, _, _, rfl, rfl, ?_⟩
        refine ⟨_, rfl, _, rfl, _, rfl, _, _, rfl, (.inr hp3), _, _, rfl, ⟨(by omega), ⟨(by omega), ⟨(by omega), (by simp only [List.length_map, List.length_append, List.length_cons, List.length_nil, List.length_take, List.length_drop, List.length_reverse]; omega)⟩⟩⟩, fun Dc3 nc4 => ?_⟩
        have en : (((ns.map V.str).length : Int) - (b : Nat)).toNat = ns.length - b := by rw [List.length_map]; omega
        refine lc_newR (K := K) tupR_pr walk_range (List.range _) (fun i : Nat => V.int ((b : Nat) + (i : Nat))) (fun i => (fs ++ [gI ns (b + i)], b + i + 1)) (by rw [List.length_range]) (yrange _ _) nc4 (fun _ _ => trivial) (by rw [List.length_range, en]; exact fit (by omega)) (fun k hk H4 s4 Kt Kf kt => ⟨rfl, ?_⟩) fun H4 rs s4 e4 f4 => ?_
        · rw [List.mem_range, en] at hk
          have hp4 := seqT_same s4 hp3
          have tt4 := seqT_same s4 tt
          have gk := at_g (ns := ns) (k := b + k) (x := (b : Nat) + (k : Nat)) (by omega) (by omega)
          refine ⟨_, rfl, _, rfl, _, rfl, _, _, _, _, rfl, rfl, hp4, gk, (fit (by simp)), fun pe3 ne4 => ?_⟩
          generalize ge6 : upd H4 pe3 (HO.tup [V.str (gI ns (b + k))]) = He5
          obtain ⟨se8, ee7⟩ := gen_new ge6 ne4
          clear ge6
          have ee7 : He5 pe3 = some (HO.tup (List.map V.str [gI ns (b + k)])) := ee7
          refine catA_of (seqT_same se8 tt4) (SqT.of ee7) (fit (by rw [List.length_map, List.length_map]; show fs.length + 1 ≤ _; omega)) fun pt Ht st et => ?_
          have kt2 : ∀ q H2, Same Ht H2 → H2 q = some (.tup [.ref pt, .int ((b : Nat) + (k : Nat) + 1)]) → Kt (.ref q) H2 := fun q H2 s2 e2 => kt _ _ ((se8.trans st).trans s2) ⟨q, pt, rfl, SqT.of e2, by rw [List.map_append]; exact seqT_same s2 et⟩
          refine ⟨_, rfl, _, _, rfl, rfl, (fit (by simp)), fun pe23 ne24 => ?_⟩
          generalize ge26 : upd Ht pe23 _ = He25
          obtain ⟨se28, ee27⟩ := gen_new ge26 ne24
          clear ge26
          exact kt2 _ _ se28 ee27
        · rw [en] at f4
          have lr : rs.length ≤ 12 := by
            have := f4.len
            rw [List.length_map, List.length_range] at this
            omega
          have ef : (List.range (ns.length - b)).map (fun i => (fs ++ [gI ns (b + i)], b + i + 1)) = chn ns (fs, b) := by
            unfold chn
            rw [List.range'_eq_map_range, List.map_map]
            rfl
          rw [ef] at f4
          refine ⟨_, _, _, _, rfl, rfl, (s4 _ _ eg), e4, (fit (by omega)), fun pf3 nf4 => ?_⟩
          generalize gf6 : upd H4 pf3 (HO.lst (ws ++ rs)) = Hf5
          obtain ⟨sf8, ef7⟩ := gen_new gf6 nf4
          clear gf6
          refine ⟨_, _, _, _, _, rfl, ((s3.trans s4).trans sf8), (sf8 _ _ (s4 _ _ el3)), fa3.up tupR_pr (TupT.same (s4.trans sf8)), ((s3.trans s4).free nf4), ef7, ?_⟩
          have et : (ch ns i).take (j + 1) = (ch ns i).take j ++ [(fs, b)] := by rw [List.take_add_one, hfb]; rfl
          rw [et, List.flatMap_append, List.flatMap_cons, List.flatMap_nil, List.append_nil]
          exact RowsR.app (f4.up tupR_pr (TupT.same sf8)) (fg.up tupR_pr (TupT.same (s4.trans sf8)))
      · rintro σ H3 ⟨g, ws, x5, x6, x7, rfl, s3, el3, fa3, ng, eg, fg⟩
        rw [hl, List.take_length] at fg
        exact ⟨_, rfl, g, ws, _, _, _, _, _, rfl, s3, ng, eg, fg⟩
    · rintro σ H1 ⟨l, vs, x3, x4, x5, x6, x7, rfl, s1, nl, el, fa⟩
      refine ⟨_, rfl, _, rfl, ⟨_, (SqL.of el)⟩, fun Dd3 nd4 => ?_⟩
      refine lc_overR (K := K) tupR_pr tupR_nm (·.1) fa el nd4 ?_ (fun v x hx H2 s2 r Kt Kf kt => ?_) fun H2 rs s2 e2 f2 => ?_
      · have h1 := ch_len few m
        have h2 : 12 ^ m ≤ 12 ^ 5 := Nat.pow_le_pow_right (by decide) hm
        have : (12 : Nat) ^ 5 < sizeLine := by decide +kernel
        omega
      · obtain ⟨q, t, rfl, tq, tt⟩ := r
        refine ⟨_, _, rfl, tq, rfl, _, _, rfl, _, _, rfl, rfl, rfl, _, rfl, ?_⟩
        exact kt _ _ (Same.refl _) ⟨_, ⟨rfl, tt⟩⟩
      · exact k _ _ _ (s1.trans s2) (same_none s1 nd4) e2 f2
theorem d_law_chosen (e : Ev K mg base) : DefN P w K mg base 3 "_law_chosen" ["row", "many"] (spChosen K) := by
  obtain ⟨fd, F⟩ := e.c.def_ 8 (d := dd "_law_chosen" 23) rfl
  exact ⟨⟨fd, ok_law_chosen F e, FunD.bindsN F fun _ _ _ _ _ _ us hl => match us, hl with | [_, _], _ => rfl⟩, F.kp, He.glo_ok e.X e.G (e.c.fact 16 rfl)⟩
theorem fives_mk (e : Ev K mg base) : ∃ fd, GFn2 P w K mg base 7 (He.ga K "fives_of") fd ["hosts"] (spFives K) ∧ PySem.W.keepIn K (.ref (He.ga K "fives_of")) = true ∧ mg "fives_of" = some (.ref (He.ga K "fives_of")) ∧ Binds K fd ["hosts"] [] ∧ KBn K fd ["hosts"] 0 ["hosts"] (fun us ws => us ++ ws) (fun us ws => us ++ ws) := by
  obtain ⟨fd, F, D⟩ := d_fives_of (P := P) (w := w) e
  refine ⟨fd, F, D.kp, g_fives_of e, fun s us _ hl => ?_, ?_⟩
  · rw [List.append_nil] at hl ⊢
    exact FunD.bindsA (ps := ["hosts"]) D (fun _ _ _ _ _ _ us hl => match us, hl with | [_], _ => rfl) s us hl
  exact FunD.kbindsN (ps := ["hosts"]) D 0 ["hosts"] fun _ _ _ _ _ _ us ws l1 l2 => match us, ws, l1, l2 with | [], [_], _, _ => rfl
section
variable {X : Cx} {a b : Expr} {ta tk : TA} {p pos p1 : Pos}
theorem pg_fives (e : Ev K mg base) (hr : Room 7 X.A) (hg : Gl X "fives_of") (ha : PA X [a] ta) (hK : X.K = K := by rfl) (hm : X.mg = mg := by rfl) (hb : X.base = base := by rfl) (he : starEach [a] X.env = (false, eval a X.env) :: starEach [] X.env := by rfl) (hpl : (backTo pos (starEach [] X.env)).any (·.1) = false := by rfl) : PGen2 X 7 (.Call (.Name "fives_of" p) [a] [] pos) (tCallG2 (spFives K) [] ta) := by
  subst hK hm hb
  obtain ⟨fd, F, kp, gl, b, _⟩ := fives_mk (P := X.prog) (w := X.w) e
  exact pgen2_call F hr hg gl kp b .nil ha (by decide) he hpl
theorem pg_fivesK (e : Ev K mg base) (hr : Room 7 X.A) (hg : Gl X "fives_of") (hkw : PK X [⟨some "hosts", b, p1⟩] tk) (hK : X.K = K := by rfl) (hm : X.mg = mg := by rfl) (hb : X.base = base := by rfl) (hall : (backToKw pos (keywordEach [⟨some "hosts", b, p1⟩] X.env)).all (·.1.isSome) = true := by rfl) (hks : (backToKw pos (keywordEach [⟨some "hosts", b, p1⟩] X.env)).filterMap (·.1) = (["hosts"] : List Str) := by rfl)
    (hpl : ((backTo pos (starEach [] X.env)).any (·.1) || (backToKw pos (keywordEach [⟨some "hosts", b, p1⟩] X.env)).any (·.1.isNone)) = false := by rfl) : PGen2 X 7 (.Call (.Name "fives_of" p) [] [⟨some "hosts", b, p1⟩] pos) (tCallGK02 1 (spFives K) (fun us ws => us ++ ws) tk) := by
  subst hK hm hb
  obtain ⟨fd, F, kp, gl, _, kb⟩ := fives_mk (P := X.prog) (w := X.w) e
  exact pgen2_callK0 F hr hg gl kp kb hkw hall hks (by decide) hpl
end
theorem fours_list {K : PySem.W.Frag} {H : Hp} {Q : Addr → Hp → List V → Prop} {p : Addr} {ns : List Str} (hp : H p = some (.tup (ns.map V.str))) (few : ns.length ≤ 12) (k : ∀ q H' vs, Same H H' → H' q = none → RowsR (TNm K) H' vs ((ch ns 4).map (·.1)) → Q q H' vs) :
    ∃ S : GSpec, spFours K [.ref p] H S ∧ ∃ P : List V → Hp → Prop, (∀ H, S.ry H H) ∧ P [] H ∧ (∀ ys Hw x H', P ys Hw → S.yd ys x Hw H' → P (ys ++ [x]) H') ∧ ∀ ys Hw H', P ys Hw → S.en ys Hw H' → ∀ p, H' p = none → Q p H' ys := by
  rw [ch_four] at k
  exact gen_listR tupR_nm ⟨p, ns, rfl, hp, few, fun H1 H2 xs s e => s _ _ e, fun ys Hw H1 a it h1 h2 _ h4 => ⟨it, h1, h2, a, rfl, SqT.of h4⟩, fun ys Hw H1 h1 h2 => ⟨h1, h2⟩⟩ k
theorem fives_list {K : PySem.W.Frag} {H : Hp} {Q : Addr → Hp → List V → Prop} {p : Addr} {ns : List Str} (hp : H p = some (.tup (ns.map V.str))) (few : ns.length ≤ 12) (k : ∀ q H' vs, Same H H' → H' q = none → RowsR (TNm K) H' vs ((ch ns 5).map (·.1)) → Q q H' vs) :
    ∃ S : GSpec, spFives K [.ref p] H S ∧ ∃ P : List V → Hp → Prop, (∀ H, S.ry H H) ∧ P [] H ∧ (∀ ys Hw x H', P ys Hw → S.yd ys x Hw H' → P (ys ++ [x]) H') ∧ ∀ ys Hw H', P ys Hw → S.en ys Hw H' → ∀ p, H' p = none → Q p H' ys := by
  rw [ch_five] at k
  exact gen_listR tupR_nm ⟨p, ns, rfl, hp, few, fun H1 H2 b xs s e => s _ _ e, fun ys Hw H1 a it h1 h2 _ h4 => ⟨it, h1, h2, a, rfl, SqT.of h4⟩, fun ys Hw H1 h1 h2 => ⟨h1, h2⟩⟩ k
theorem ch_mem {ns : List Str} : ∀ m x, x ∈ ch ns m → ∀ y ∈ x.1, y ∈ ns
  | 0, x, h => by
    have : x = ([], 0) := by simpa [ch] using h
    subst this
    exact fun y hy => nomatch hy
  | m + 1, x, h => by
    unfold ch at h
    obtain ⟨z, hz, hx⟩ := List.mem_flatMap.mp h
    unfold chn at hx
    obtain ⟨k, hk, rfl⟩ := List.mem_map.mp hx
    have := List.mem_range'_1.mp hk
    have lt : k < ns.length := by omega
    intro y hy
    rcases List.mem_append.mp hy with hy | hy
    · exact ch_mem m z hz y hy
    · rw [List.mem_singleton.mp hy]
      unfold gI
      rw [List.getD_eq_getElem?_getD, List.getElem?_eq_getElem lt]
      exact List.getElem_mem lt
def chD (ns : List Str) (m : Nat) : PyData := .list (((ch ns m).map (·.1)).map fun f => .tuple (f.map PyData.str))
theorem lit_ch {ns : List Str} (nm : ∀ n ∈ ns, IsNm n) (few : ns.length ≤ 12) (m : Nat) : ∃ w, Lit w 2 (chD ns m) := by
  refine ⟨_, Lit.list (LitAll.of (n := 9 * m) (k := 1) fun d hd => ?_)⟩
  obtain ⟨f, hf, rfl⟩ := List.mem_map.mp hd
  obtain ⟨x, hx, rfl⟩ := List.mem_map.mp hf
  have := Lit.strs (xs := x.1) fun y hy => nm y (ch_mem m x hx y hy)
  rw [(ch_two m x hx).1] at this
  exact this
theorem dp_ch {K : PySem.W.Frag} {H : Hp} {q : Addr} {vs : List V} {ns : List Str} {m : Nat} (hq : H q = some (.lst vs)) (r : RowsR (TNm K) H vs ((ch ns m).map (·.1))) : Dp K H (.ref q) (chD ns m) := .lst (SqL.of hq) (dp_tnm r)
/-- two such lists alike -/
theorem ne_ch {K : PySem.W.Frag} {H : Hp} {Q : VK} {f g : Addr} {vs ws : List V} {ns : List Str} {m : Nat} (nm : ∀ n ∈ ns, IsNm n) (few : ns.length ≤ 12) (hf : H f = some (.lst vs)) (hg : H g = some (.lst ws)) (rf : RowsR (TNm K) H vs ((ch ns m).map (·.1))) (rg : RowsR (TNm K) H ws ((ch ns m).map (·.1))) (q : Q (.bl false) H) : rNeD K (.ref f) (.ref g) H Q := by
  obtain ⟨w, l⟩ := lit_ch nm few m
  refine ⟨_, _, dp_ch hf rf, dp_ch hg rg, l.shaped, l.shaped, ?_⟩
  rw [SeqAt.eqv_refl _ l.c]
  exact q
/-- two such pairs of lists alike -/
theorem eq_ch {K : PySem.W.Frag} {H : Hp} {Q : VK} {x y f f' g g' : Addr} {vs vs' ws ws' : List V} {ns : List Str} {m m' : Nat} (nm : ∀ n ∈ ns, IsNm n) (few : ns.length ≤ 12) (hx : H x = some (.lst [.ref f, .ref f'])) (hy : H y = some (.lst [.ref g, .ref g'])) (hf : H f = some (.lst vs)) (hf' : H f' = some (.lst vs')) (hg : H g = some (.lst ws)) (hg' : H g' = some (.lst ws'))
    (rf : RowsR (TNm K) H vs ((ch ns m).map (·.1))) (rf' : RowsR (TNm K) H vs' ((ch ns m').map (·.1))) (rg : RowsR (TNm K) H ws ((ch ns m).map (·.1))) (rg' : RowsR (TNm K) H ws' ((ch ns m').map (·.1))) (q : Q (.bl true) H) : rEqD K (.ref x) (.ref y) H Q := by
  obtain ⟨w, l⟩ := lit_ch nm few m
  obtain ⟨w', l'⟩ := lit_ch nm few m'
  have ll := Lit.list (.cons l (.cons l' .nil))
  refine ⟨_, _, .lst (SqL.of hx) (.cons (dp_ch hf rf) (.cons (dp_ch hf' rf') .nil)), .lst (SqL.of hy) (.cons (dp_ch hg rg) (.cons (dp_ch hg' rg') .nil)), ll.shaped (by decide), ll.shaped (by decide), ?_⟩
  rw [SeqAt.eqv_refl _ ll.c]
  exact q
def spRight (K : PySem.W.Frag) : Sp := fun vs H Q _ => ∃ (p c : Addr) (ms : List Int) (t : Nat) (z : Int), vs = [.ref p] ∧ Pen H p c ms t z ∧ t < 700000 ∧ ∀ H' t' z', But p H H' → Pen H' p c ms t' z' → t' ≤ t + 120 → Q (.bl true) H'
theorem sc_law_chosen_right : FnScope ["pen", "row", "name"] ["pen"] (defScope (top 24)) := ⟨rfl, rfl, rfl, by decide +kernel, rfl, by decide +kernel, by decide +kernel⟩
theorem ok_law_chosen_right {fd : FuncData} (F : FunD K "_law_chosen_right" "_law_chosen_right" (defArgs (top 24)) (defBody (top 24)) (defScope (top 24)) [] [] (He.ga K "_law_chosen_right") fd) (e : Ev K mg base) : FnOk P w K mg base CX0 11 (He.ga K "_law_chosen_right") fd ["pen"] (spRight K) := by
  refine F.ok sc_law_chosen_right (fun vs H Q E h => ?_) (fun cdv A outer s H vs Q E hr h => ?_)
  · obtain ⟨_, _, _, _, _, rfl, _⟩ := h
    rfl
  · skip
    refine ⟨_, PSs.nox ((pss_cons (ps_set (i := 1) sc_law_chosen_right.nd rfl (Or.inl rfl) (pe_callTy (kcall_tuple_of (K := K)) (by rfl) (f_tuple e) (by decide +kernel) (pa_cons (pe_callB (kcr_sortedS (K := K)) (by rfl) (f_sorted e) (by decide +kernel) (pa_cons (pe_lc (own := [("name", 2)]) (by rfl) sc_law_chosen_right.nd (kpi_list (K := K) (pe_def (d_law_names (P := P) (w := w) (K := K) (mg := mg) (base := base) e) (hr.mono (by decide)) (by rfl) (pa_cons (pv 0) (pa_cons (pe_def (d_law_draw (P := P) (w := w) (K := K) (mg := mg) (base := base) e) (hr.mono (by decide)) (by rfl) (pa_cons (pv 0) (pa_cons pe_int pa_nil))) pa_nil)))) (blkOk_by (own := [("name", 2)]) (N := ["pen", "row", "name"]) (sc := defScope (top 24)) (by decide +kernel)) (fun _ _ _ _ _ => (pg_name (i := 2) sc_law_chosen_right.nd rfl (Or.inl rfl))) (fun _ _ _ _ _ => pts_nil) (fun _ _ _ _ _ => (pe_callTy SkE.call_str_str (by rfl) (f_str e) (by decide +kernel) (pa_cons (pv 2) pa_nil)))) pa_nil)) pa_nil)))
      (pss_cons (ps_if (PW.pt (pw_or (pt_cmpR (kop_neD (K := K) hr.units) (pe_listG2 (pg_fours e (by exact hr.mono (by decide)) (by rfl) (pa_cons (pv 1) pa_nil)) (by exact hr.mono (by decide)) (by rfl) (f_list e) (by decide +kernel)) (pe_def (d_law_chosen (P := P) (w := w) (K := K) (mg := mg) (base := base) e) (hr.mono (by decide)) (by rfl) (pa_cons (pv 1) (pa_cons pe_int pa_nil))) (nomark _)) (pw_or1 (pt_cmpR (kop_neD (K := K) hr.units) (pe_listG2 (pg_fives e (by exact hr.mono (by decide)) (by rfl) (pa_cons (pv 1) pa_nil)) (by exact hr.mono (by decide)) (by rfl) (f_list e) (by decide +kernel)) (pe_def (d_law_chosen (P := P) (w := w) (K := K) (mg := mg) (base := base) e) (hr.mono (by decide)) (by rfl) (pa_cons (pv 1) (pa_cons pe_int pa_nil))) (nomark _)))))
      (pss_one (ps_ret pe_bl)) pss_nil)
      (pss_one (ps_ret (pe_cmpR (kop_eqD (K := K) hr.units) (pe_lst (pa_cons (pe_listG2 (pg_foursK e (by exact hr.mono (by decide)) (by rfl) (pk_cons (pv 1) pk_nil)) (by exact hr.mono (by decide)) (by rfl) (f_list e) (by decide +kernel)) (pa_cons (pe_listG2 (pg_fivesK e (by exact hr.mono (by decide)) (by rfl) (pk_cons (pv 1) pk_nil)) (by exact hr.mono (by decide)) (by rfl) (f_list e) (by decide +kernel)) pa_nil))) (pe_lst (pa_cons (pe_def (d_law_chosen (P := P) (w := w) (K := K) (mg := mg) (base := base) e) (hr.mono (by decide)) (by rfl) (pa_cons (pv 1) (pa_cons pe_int pa_nil))) (pa_cons (pe_def (d_law_chosen (P := P) (w := w) (K := K) (mg := mg) (base := base) e) (hr.mono (by decide)) (by rfl) (pa_cons (pv 1) (pa_cons pe_int pa_nil))) pa_nil))) (nomark _))))))), ?_⟩
    obtain ⟨p, c, ms, t, z, rfl, hP, ht, k⟩ := h
    refine ⟨_, rfl, _, rfl, _, _, _, _, _, _, rfl, hP, (by omega), (by omega), (by omega), fun da10 Ha11 xa12 xa13 ha14 ha15 ba16 Pa17 ha18 => ?_⟩
    refine ⟨_, _, _, _, _, _, rfl, Pa17, (by omega), ha14, (by omega), fun xs f H1 t1 z1 ln nm nd nf ef bf P1 ht1 => ?_⟩
    refine ⟨_, rfl, ⟨_, (SqL.of ef)⟩, fun D nD => ?_⟩
    refine lc_mapS (walk_list (K := K) (a := f) (xs := xs.map V.str)) xs (fun x => V.str x) (by rw [List.length_map]) (yat _) nD (fun H' s => SqL.of (s _ _ ef)) (fits (by omega)) (fun x hx H3 s3 Kt Kf kt => ⟨rfl, ?_⟩) fun H3 s3 eD => ?_
    · refine ⟨_, rfl, _, rfl, ?_⟩
      exact kt _ (Same.refl _)
    refine ⟨_, _, rfl, (SqL.of eD), (by omega), fun ys pb7 hb8 eb9 nb10 => ?_⟩
    generalize gb12 : upd H3 pb7 (HO.lst (List.map V.str ys)) = Hb11
    obtain ⟨sb14, eb13⟩ := gen_new gb12 nb10
    clear gb12
    refine ⟨_, _, rfl, .inl ⟨(SqL.of eb13), fun l nb18 => ?_⟩⟩
    generalize gb20 : upd Hb11 l (HO.tup (List.map V.str ys)) = H4
    obtain ⟨sb22, el⟩ := gen_new gb20 nb18
    clear gb20
    have nmY : ∀ n ∈ ys, IsNm n := fun n hn => nm n (hb8.mem_iff.mp hn)
    have few : ys.length ≤ 12 := by rw [hb8.length_eq]; omega
    have S4 := (s3.trans sb14).trans sb22
    refine ⟨_, rfl, ?_⟩
    dsimp only [tNil]
    refine fours_list (K := K) el few fun q1 H5 vs1 s5 nq1 r1 => ?_
    generalize gl1 : upd H5 q1 (HO.lst vs1) = HL1
    obtain ⟨sl1, eL1⟩ := gen_new gl1 nq1
    clear gl1
    have S5 := s5.trans sl1
    refine ⟨_, rfl, l, ys, 4, rfl, SqT.of (S5 _ _ el), few, by omega, fun g1 gs1 H6 s6 ng1 eg1 rg1 => ?_⟩
    refine ne_ch nmY few (s6 _ _ eL1) eg1 (r1.up tupR_nm (TupT.same (sl1.trans s6))) rg1 ?_
    refine ⟨_, rfl, iteF ?_⟩
    refine ⟨_, rfl, ?_⟩
    dsimp only [tNil]
    refine fives_list (K := K) (s6 _ _ (S5 _ _ el)) few fun q2 H7 vs2 s7 nq2 r2 => ?_
    generalize gl2 : upd H7 q2 (HO.lst vs2) = HL2
    obtain ⟨sl2, eL2⟩ := gen_new gl2 nq2
    clear gl2
    have S7 := (S5.trans s6).trans (s7.trans sl2)
    refine ⟨_, rfl, l, ys, 5, rfl, SqT.of (S7 _ _ el), few, by omega, fun g2 gs2 H8 s8 ng2 eg2 rg2 => ?_⟩
    refine ne_ch nmY few (s8 _ _ eL2) eg2 (r2.up tupR_nm (TupT.same (sl2.trans s8))) rg2 ?_
    refine ⟨_, rfl, iteF ?_⟩
    have S8 := S7.trans s8
    refine ⟨_, rfl, rfl, ?_⟩
    dsimp only [tNil]
    refine fours_list (K := K) (S8 _ _ el) few fun q3 H9 vs3 s9 nq3 r3 => ?_
    generalize gl3 : upd H9 q3 (HO.lst vs3) = HL3
    obtain ⟨sl3, eL3⟩ := gen_new gl3 nq3
    clear gl3
    have S9 := S8.trans (s9.trans sl3)
    refine ⟨_, rfl, rfl, ?_⟩
    dsimp only [tNil]
    refine fives_list (K := K) (S9 _ _ el) few fun q4 H10 vs4 s10 nq4 r4 => ?_
    generalize gl4 : upd H10 q4 (HO.lst vs4) = HL4
    obtain ⟨sl4, eL4⟩ := gen_new gl4 nq4
    clear gl4
    have S10 := S9.trans (s10.trans sl4)
    refine ⟨(fit (by simp)), fun w1 nw1 => ?_⟩
    generalize gw1 : upd HL4 w1 _ = HW1
    obtain ⟨sw1, ew1⟩ := gen_new gw1 nw1
    clear gw1
    have S11 := S10.trans sw1
    refine ⟨_, rfl, l, ys, 4, rfl, SqT.of (S11 _ _ el), few, by omega, fun g3 gs3 H11 s11 ng3 eg3 rg3 => ?_⟩
    refine ⟨_, rfl, l, ys, 5, rfl, SqT.of (s11 _ _ (S11 _ _ el)), few, by omega, fun g4 gs4 H12 s12 ng4 eg4 rg4 => ?_⟩
    refine ⟨(fit (by simp)), fun w2 nw2 => ?_⟩
    generalize gw2 : upd H12 w2 _ = HW2
    obtain ⟨sw2, ew2⟩ := gen_new gw2 nw2
    clear gw2
    have z4 : Same HL4 HW2 := ((sw1.trans s11).trans s12).trans sw2
    have z3 : Same HL3 HW2 := (s10.trans sl4).trans z4
    refine eq_ch nmY few (sw2 _ _ (s12 _ _ (s11 _ _ ew1))) ew2 (z3 _ _ eL3) (z4 _ _ eL4) (sw2 _ _ (s12 _ _ eg3)) (sw2 _ _ eg4) (r3.up tupR_nm (TupT.same (sl3.trans z3))) (r4.up tupR_nm (TupT.same (sl4.trans z4))) (rg3.up tupR_nm (TupT.same (s12.trans sw2))) (rg4.up tupR_nm (TupT.same sw2)) ?_
    have S12 : Same H1 HW2 := ((S4.trans S11).trans (s11.trans s12)).trans sw2
    exact k _ _ _ ((ba16.trans bf).trans (Same.but S12)) (P1.same S12) (by omega)
theorem d_law_chosen_right (e : Ev K mg base) : DefN P w K mg base 11 "_law_chosen_right" ["pen"] (spRight K) := by
  obtain ⟨fd, F⟩ := e.c.def_ 9 (d := dd "_law_chosen_right" 24) rfl
  exact ⟨⟨fd, ok_law_chosen_right F e, FunD.bindsN F fun _ _ _ _ _ _ us hl => match us, hl with | [_], _ => rfl⟩, F.kp, He.glo_ok e.X e.G (e.c.fact 19 rfl)⟩
/-- what may stand in a row that the law draws: the value, and what it is as data -/
inductive It (H : Hp) : V → PyData → Prop
  | str {x : Str} : x.length ≤ 16 → Plain x → It H (.str x) (.str x)
  | non : It H .non .none
  | bl (b : Bool) : It H (.bl b) (.bool b)
  | int {i : Int} : i = 0 ∨ i = 10 ^ 59 → It H (.int i) (.int i)
  | tup0 {b : Addr} : H b = some (.tup []) → It H (.ref b) (.tuple [])
  | tup1 {b : Addr} {x : Str} : H b = some (.tup [.str x]) → IsNm x → It H (.ref b) (.tuple [.str x])
  | lst1 {b : Addr} {x : Str} : H b = some (.lst [.str x]) → IsNm x → It H (.ref b) (.list [.str x])
  | dict {b : Addr} : H b = some (.dK []) → It H (.ref b) (.dict [])
theorem IsNm.plain {x : Str} (h : IsNm x) : Plain x := fun c hc => by
  have := nmB_iff.mpr h
  unfold nmB at this
  simp only [Bool.and_eq_true, List.all_eq_true, decide_eq_true_eq] at this
  have q := letter_iff.mp (this.2.2 c hc)
  omega
theorem It.nm {H : Hp} {x : Str} (h : IsNm x) : It H (.str x) (.str x) := .str (Nat.le_trans h.hi (by decide)) h.plain
theorem It.same {H H' : Hp} {v : V} {d : PyData} (s : Same H H') (h : It H v d) : It H' v d := by
  cases h with
  | str a b => exact .str a b
  | non => exact .non
  | bl b => exact .bl b
  | int h => exact .int h
  | tup0 h => exact .tup0 (s _ _ h)
  | tup1 h n => exact .tup1 (s _ _ h) n
  | lst1 h n => exact .lst1 (s _ _ h) n
  | dict h => exact .dict (s _ _ h)
theorem It.but {H H' : Hp} {v : V} {d : PyData} {p : Addr} {L : List V} (hp : H p = some (.lst L)) (hL : ∀ x, L ≠ [.str x]) (s : But p H H') (h : It H v d) : It H' v d := by
  cases h with
  | str a b => exact .str a b
  | non => exact .non
  | bl b => exact .bl b
  | int h => exact .int h
  | tup0 h => exact .tup0 (s _ _ (ne_of h hp nofun) h)
  | tup1 h n => exact .tup1 (s _ _ (ne_of h hp nofun) h) n
  | lst1 h n => exact .lst1 (s _ _ (ne_of h hp (fun q => hL _ (HO.lst.inj q).symm)) h) n
  | dict h => exact .dict (s _ _ (ne_of h hp nofun) h)
theorem It.pen {H H' : Hp} {v : V} {d : PyData} {p c : Addr} {ms : List Int} {t : Nat} {z : Int} (P : Pen H p c ms t z) (s : But p H H') (h : It H v d) : It H' v d := h.but P.a (fun x q => by cases q) s
def ItO (d : PyData) : Prop := d.leavesShort 64 = true ∧ d.weight ≤ 200 ∧ d.showable = true ∧ d.depth ≤ 1
theorem plain_short {x : Str} (h : Plain x) : (PyData.str x).leavesShort 64 = true := by
  simp only [PyData.leavesShort, List.all_eq_true]
  intro c hc
  have := h c hc
  exact decide_eq_true (by omega)
theorem It.ok {H : Hp} {v : V} {d : PyData} (h : It H v d) : ItO d := by
  cases h with
  | @str x a b => exact ⟨plain_short b, by simp only [PyData.weight]; have : x.cps.size ≤ 16 := a; omega, by simp only [PyData.showable], by simp only [PyData.depth]; omega⟩
  | non => exact ⟨rfl, by decide +kernel, by decide +kernel, by decide +kernel⟩
  | bl b => exact ⟨rfl, by cases b <;> decide +kernel, by cases b <;> decide +kernel, by cases b <;> decide +kernel⟩
  | int h => rcases h with rfl | rfl <;> exact ⟨by decide +kernel, by decide +kernel, by decide +kernel, by decide +kernel⟩
  | tup0 h => exact ⟨by decide +kernel, by decide +kernel, by decide +kernel, by decide +kernel⟩
  | @tup1 b x h n =>
    have q : x.cps.size ≤ 8 := n.hi
    have q2 := plain_short n.plain
    exact ⟨by simp only [PyData.leavesShort, PyData.leavesShortAll, Bool.and_true] at q2 ⊢; exact q2, by simp only [PyData.weight, PyData.weightAll]; omega, by simp only [PyData.showable, PyData.showableAll, Bool.and_true], by simp only [PyData.depth, PyData.depthAll]; omega⟩
  | @lst1 b x h n =>
    have q : x.cps.size ≤ 8 := n.hi
    have q2 := plain_short n.plain
    exact ⟨by simp only [PyData.leavesShort, PyData.leavesShortAll, Bool.and_true] at q2 ⊢; exact q2, by simp only [PyData.weight, PyData.weightAll]; omega, by simp only [PyData.showable, PyData.showableAll, Bool.and_true], by simp only [PyData.depth, PyData.depthAll]; omega⟩
  | dict h => exact ⟨by decide +kernel, by decide +kernel, by decide +kernel, by decide +kernel⟩
theorem It.itd {K : PySem.W.Frag} {H : Hp} {v : V} {d : PyData} (h : It H v d) : ItD K H v d := by
  cases h with
  | str a b => exact .inl ⟨.str _, by simp only [PyData.hasDict]⟩
  | non => exact .inl ⟨.non, by simp only [PyData.hasDict]⟩
  | bl b => exact .inl ⟨.bl b, by simp only [PyData.hasDict]⟩
  | int h => exact .inl ⟨.int _, by simp only [PyData.hasDict]⟩
  | tup0 h => exact .inl ⟨.tup (SqT.of h) .nil, by simp only [PyData.hasDict, PyData.hasDictAll]⟩
  | tup1 h n => exact .inl ⟨.tup (SqT.of h) (.cons (.str _) .nil), by simp only [PyData.hasDict, PyData.hasDictAll, Bool.or_false]⟩
  | lst1 h n => exact .inl ⟨.lst (SqL.of h) (.cons (.str _) .nil), by simp only [PyData.hasDict, PyData.hasDictAll, Bool.or_false]⟩
  | dict h => exact .inr ⟨_, rfl, h, rfl⟩
theorem It.kind {K : PySem.W.Frag} {H : Hp} {v : V} {d : PyData} (h : It H v d) : Kind K H v := by
  cases h with
  | str a b => exact .inl ⟨_, rfl, Nat.le_trans a (by decide +kernel)⟩
  | non => exact kind_t .non (by decide +kernel)
  | bl b => exact kind_t (.bl _) (by decide +kernel)
  | int h => exact kind_t (.int _) (by decide +kernel)
  | tup0 h => exact kind_t (.tup h) (by decide +kernel)
  | tup1 h n => exact kind_t (.tup h) (by decide +kernel)
  | lst1 h n => exact kind_t (.lst h) (by decide +kernel)
  | dict h => exact kind_t (.dK h) (by decide +kernel)
/-- a row of such items -/
theorem its_ok {H : Hp} : ∀ {vs : List V} {ds : List PyData}, RowsR It H vs ds → PyData.leavesShortAll 64 ds = true ∧ PyData.weightAll ds ≤ 201 * ds.length ∧ PyData.showableAll ds = true ∧ PyData.depthAll ds ≤ 1
  | [], [], _ => ⟨rfl, by simp [PyData.weightAll], by simp [PyData.showableAll], by simp [PyData.depthAll]⟩
  | _ :: vs, _ :: ds, ⟨h, r⟩ => by
    obtain ⟨a1, a2, a3, a4⟩ := h.ok
    obtain ⟨b1, b2, b3, b4⟩ := its_ok (vs := vs) (ds := ds) r
    exact ⟨by simp only [PyData.leavesShortAll, a1, b1, Bool.and_true], by simp only [PyData.weightAll, List.length_cons]; omega, by simp only [PyData.showableAll, a3, b3, Bool.and_true], by simp only [PyData.depthAll]; omega⟩
theorem its_fit {H : Hp} {vs : List V} {ds : List PyData} (h : RowsR It H vs ds) (few : vs.length ≤ 100) : PyData.showableAll ds = true ∧ PyData.depthAll ds ≤ 60 ∧ (PyData.list ds).shown.length ≤ sizeLine ∧ (PyData.tuple ds).shown.length ≤ sizeLine := by
  obtain ⟨h1, h2, h3, h4⟩ := its_ok h
  have hl := h.len
  have sz : 66 * (201 * 100) + 64 ≤ sizeLine := by decide +kernel
  have q1 := PyData.shown_le 64 (by decide) (.list ds) (by simp only [PyData.leavesShort]; exact h1)
  have q2 := PyData.shown_le 64 (by decide) (.tuple ds) (by simp only [PyData.leavesShort]; exact h1)
  simp only [PyData.weight] at q1 q2
  exact ⟨h3, by omega, by omega, by omega⟩
theorem plain_of {x : Str} (h : (x.cps.toList.all fun c => decide (c < 128)) = true) : Plain x := fun c hc => of_decide_eq_true (List.all_eq_true.mp h c hc)
theorem cut_plain {x : Str} (hx : IsNm x) (k : Nat) : Plain (cutS x none (some (k : Int))) := fun c hc => by
  rw [cut_to] at hc
  exact hx.plain c (List.mem_of_mem_take hc)
theorem word_r {H : Hp} {x y : Str} (hx : IsNm x) (k : Nat) (hl : y.length ≤ 2) (hp : (y.cps.toList.all fun c => decide (c < 128)) = true) (hk : k ≤ 7 := by decide) : It H (.str (cutS x none (some (k : Int)) ++ y)) (.str (cutS x none (some (k : Int)) ++ y)) := by
  have h2 := cut_len x k
  refine .str ?_ fun c hc => ?_
  · rw [nm_len, app_tl, List.length_append, ← nm_len, ← nm_len]
    omega
  · rw [app_tl] at hc
    rcases List.mem_append.mp hc with hc | hc
    · exact cut_plain hx k c hc
    · exact plain_of hp c hc
theorem word_l {H : Hp} {x y : Str} (hx : IsNm x) (k : Nat) (hl : y.length ≤ 2) (hp : (y.cps.toList.all fun c => decide (c < 128)) = true) (hk : k ≤ 7 := by decide) : It H (.str (y ++ cutS x none (some (k : Int)))) (.str (y ++ cutS x none (some (k : Int)))) := by
  have h2 := cut_len x k
  refine .str ?_ fun c hc => ?_
  · rw [nm_len, app_tl, List.length_append, ← nm_len, ← nm_len]
    omega
  · rw [app_tl] at hc
    rcases List.mem_append.mp hc with hc | hc
    · exact plain_of hp c hc
    · exact cut_plain hx k c hc
def spOdd2 (K : PySem.W.Frag) : Sp := fun vs H Q _ => ∃ (p c : Addr) (ms : List Int) (t : Nat) (z : Int), vs = [.ref p] ∧ Pen H p c ms t z ∧ t < 700000 ∧
  ∀ (v : V) (d : PyData) (H' : Hp) (t' : Nat) (z' : Int), It H' v d → But p H H' → Pen H' p c ms t' z' → t' ≤ t + 11 → Q v H'
theorem sc_law_odd : FnScope ["pen", "word", "some"] ["pen"] (defScope (top 18)) := ⟨rfl, rfl, rfl, by decide +kernel, rfl, by decide +kernel, by decide +kernel⟩
theorem ok_law_odd {fd : FuncData} (F : FunD K "_law_odd" "_law_odd" (defArgs (top 18)) (defBody (top 18)) (defScope (top 18)) [] [] (He.ga K "_law_odd") fd) (e : Ev K mg base) : FnOk P w K mg base CX0 5 (He.ga K "_law_odd") fd ["pen"] (spOdd2 K) := by
  refine F.ok sc_law_odd (fun vs H Q E h => ?_) (fun cdv A outer s H vs Q E hr h => ?_)
  · obtain ⟨_, _, _, _, _, rfl, _⟩ := h
    rfl
  · skip
    refine ⟨_, PSs.nox ((pss_cons (ps_set (i := 1) sc_law_odd.nd rfl (Or.inl rfl) (pe_def (d_law_name (P := P) (w := w) (K := K) (mg := mg) (base := base) e) (hr.mono (by decide)) (by rfl) (pa_cons (pv 0) pa_nil)))
      (pss_cons (ps_set (i := 2) sc_law_odd.nd rfl (Or.inl rfl) (pe_lst (pa_cons pe_str (pa_cons (pe_op op_add_str pe_str (pe_slice sl_str (pv 1) po_none (po_some pe_int))) (pa_cons (pe_op op_add_str (pe_slice sl_str (pv 1) po_none (po_some pe_int)) pe_str) (pa_cons (pe_op op_add_str (pe_slice sl_str (pv 1) po_none (po_some pe_int)) pe_str) (pa_cons pe_str (pa_cons (pe_op op_add_str (pe_slice sl_str (pv 1) po_none (po_some pe_int)) pe_str) (pa_cons pe_str (pa_cons pe_str (pa_cons pe_str (pa_cons pe_str pa_nil))))))))))))
      (pss_one (ps_ret (pe_def (d_law_pick (P := P) (w := w) (K := K) (mg := mg) (base := base) e) (hr.mono (by decide)) (by rfl) (pa_cons (pv 0) (pa_cons (pe_op op_cat (pv 2) (pe_lst (pa_cons pe_non (pa_cons pe_bl (pa_cons pe_int (pa_cons (pe_op op_pow pe_int pe_int) (pa_cons (pe_tup (pa_cons (pv 1) pa_nil)) (pa_cons (pe_lst (pa_cons (pv 1) pa_nil)) (pa_cons pe_dnewK (pa_cons (pe_tup pa_nil) (pa_cons (pe_op op_add_str (pe_slice sl_str (pv 1) po_none (po_some pe_int)) pe_str) pa_nil))))))))))) pa_nil)))))))), ?_⟩
    obtain ⟨p, c, ms, t, z, rfl, hP, ht, k⟩ := h
    refine ⟨_, rfl, _, _, _, _, _, rfl, hP, (by omega), fun x Ha10 xa11 xa12 hx ba14 Pa15 ha16 => ?_⟩
    have f0 : x.length ≤ sizeLine := hx.fit
    have f1 : (Str.ofString "A").length + (cutS x none (some 7)).length ≤ sizeLine := by rw [Nat.add_comm]; exact cut7 hx 7 (by decide +kernel)
    have f2 : (cutS x none (some 7)).length + (Str.ofString "1").length ≤ sizeLine := cut7 hx 7 (by decide +kernel)
    have f3 : (cutS x none (some 6)).length + (Str.ofString " a").length ≤ sizeLine := cut7 hx 6 (by decide +kernel)
    have f4 : (cutS x none (some 7)).length + (Str.ofString "\n").length ≤ sizeLine := cut7 hx 7 (by decide +kernel)
    have f5 : (cutS x none (some 3)).length + (Str.ofString "_").length ≤ sizeLine := cut7 hx 3 (by decide +kernel)
    refine ⟨_, rfl, _, rfl, _, rfl, f0, _, _, rfl, rfl, f1, _, rfl, _, rfl, _, rfl, f0, _, _, rfl, rfl, f2, _, rfl, _, rfl, _, rfl, f0, _, _, rfl, rfl, f3, _, rfl, _, rfl, _, rfl, f0, _, _, rfl, rfl, f4, (fit (by simp)), fun pa19 na20 => ?_⟩
    generalize ga22 : upd Ha10 pa19 (HO.lst [V.str (Str.ofString ""), V.str (Str.ofString "A" ++ cutS x none (some (7 : Int))), V.str (cutS x none (some (7 : Int)) ++ Str.ofString "1"), V.str (cutS x none (some (6 : Int)) ++ Str.ofString " a"), V.str (Str.ofString "abcdefghi"), V.str (cutS x none (some (7 : Int)) ++ Str.ofString "\n"), V.str (Str.ofString " "), V.str (Str.ofString "*"), V.str (Str.ofString "-"), V.str (Str.ofString "a,")]) = Ha21
    obtain ⟨sa24, ea23⟩ := gen_new ga22 na20
    clear ga22
    refine ⟨_, rfl, _, rfl, _, _, rfl, rfl, ⟨(by omega), ⟨(by omega), (by omega)⟩⟩, _, rfl, (fit (by simp)), fun pa27 na28 => ?_⟩
    generalize ga30 : upd Ha21 pa27 (HO.tup [V.str x]) = Ha29
    obtain ⟨sa32, ea31⟩ := gen_new ga30 na28
    clear ga30
    refine ⟨_, rfl, (fit (by simp)), fun pa35 na36 => ?_⟩
    generalize ga38 : upd Ha29 pa35 (HO.lst [V.str x]) = Ha37
    obtain ⟨sa40, ea39⟩ := gen_new ga38 na36
    clear ga38
    intro pa41 na42
    generalize ga44 : upd Ha37 pa41 (HO.dK []) = Ha43
    obtain ⟨sa46, ea45⟩ := gen_new ga44 na42
    clear ga44
    refine ⟨(fit (by simp)), fun pa49 na50 => ?_⟩
    generalize ga52 : upd Ha43 pa49 (HO.tup []) = Ha51
    obtain ⟨sa54, ea53⟩ := gen_new ga52 na50
    clear ga52
    refine ⟨_, rfl, _, rfl, _, rfl, f0, _, _, rfl, rfl, f5, (fit (by simp)), fun pa57 na58 => ?_⟩
    generalize ga60 : upd Ha51 pa57 _ = Ha59
    obtain ⟨sa62, ea61⟩ := gen_new ga60 na58
    clear ga60
    refine ⟨_, _, _, _, rfl, rfl, (sa62 _ _ (sa54 _ _ (sa46 _ _ (sa40 _ _ (sa32 _ _ ea23))))), ea61, (fit (by simp)), fun pa65 na66 => ?_⟩
    generalize ga68 : upd Ha59 pa65 _ = Ha67
    obtain ⟨sa70, ea69⟩ := gen_new ga68 na66
    clear ga68
    refine ⟨_, _, _, _, _, _, _, rfl, (Pa15.same ((((((sa24.trans sa32).trans sa40).trans sa46).trans sa54).trans sa62).trans sa70)), (by omega), (SqL.of ea69), (ne_of_none (sa62 _ _ (sa54 _ _ (sa46 _ _ (sa40 _ _ (sa32 _ _ (sa24 _ _ Pa15.a)))))) na66).symm, (by simp), (by simp only [List.length_map, List.length_append, List.length_cons, List.length_nil, List.length_take, List.length_drop, List.length_reverse]; omega), fun v Ha80 xa81 xa82 hv ba84 Pa85 ha86 => ?_⟩
    have P70 := (Pa15.same ((((((sa24.trans sa32).trans sa40).trans sa46).trans sa54).trans sa62).trans sa70))
    have it : ∃ d, It Ha67 v d := by
      simp only [List.mem_append, List.mem_cons, List.not_mem_nil, or_false] at hv
      have z := sa62.trans sa70
      rcases hv with (rfl | rfl | rfl | rfl | rfl | rfl | rfl | rfl | rfl | rfl) | (rfl | rfl | rfl | rfl | rfl | rfl | rfl | rfl | rfl)
      · exact ⟨_, .str (by decide +kernel) (plain_of (by decide +kernel))⟩
      · exact ⟨_, word_l hx 7 (y := "A") (by decide +kernel) (by decide +kernel)⟩
      · exact ⟨_, word_r hx 7 (y := "1") (by decide +kernel) (by decide +kernel)⟩
      · exact ⟨_, word_r hx 6 (y := " a") (by decide +kernel) (by decide +kernel)⟩
      · exact ⟨_, .str (by decide +kernel) (plain_of (by decide +kernel))⟩
      · exact ⟨_, word_r hx 7 (y := "\n") (by decide +kernel) (by decide +kernel)⟩
      · exact ⟨_, .str (by decide +kernel) (plain_of (by decide +kernel))⟩
      · exact ⟨_, .str (by decide +kernel) (plain_of (by decide +kernel))⟩
      · exact ⟨_, .str (by decide +kernel) (plain_of (by decide +kernel))⟩
      · exact ⟨_, .str (by decide +kernel) (plain_of (by decide +kernel))⟩
      · exact ⟨_, .non⟩
      · exact ⟨_, .bl true⟩
      · exact ⟨_, .int (.inl rfl)⟩
      · exact ⟨_, .int (.inr rfl)⟩
      · exact ⟨_, .tup1 (((sa40.trans sa46).trans (sa54.trans z)) _ _ ea31) hx⟩
      · exact ⟨_, .lst1 ((sa46.trans (sa54.trans z)) _ _ ea39) hx⟩
      · exact ⟨_, .dict ((sa54.trans z) _ _ ea45)⟩
      · exact ⟨_, .tup0 (z _ _ ea53)⟩
      · exact ⟨_, word_r hx 3 (y := "_") (by decide +kernel) (by decide +kernel)⟩
    obtain ⟨d, it⟩ := it
    exact k _ d _ _ _ (it.pen P70 ba84) ((((((((ba14.trans (Same.but sa24)).trans (Same.but sa32)).trans (Same.but sa40)).trans (Same.but sa46)).trans (Same.but sa54)).trans (Same.but sa62)).trans (Same.but sa70)).trans ba84) Pa85 (by omega)
theorem d_law_odd (e : Ev K mg base) : DefN P w K mg base 5 "_law_odd" ["pen"] (spOdd2 K) := by
  obtain ⟨fd, F⟩ := e.c.def_ 10 (d := dd "_law_odd" 18) rfl
  exact ⟨⟨fd, ok_law_odd F e, FunD.bindsN F fun _ _ _ _ _ _ us hl => match us, hl with | [_], _ => rfl⟩, F.kp, He.glo_ok e.X e.G (e.c.fact 20 rfl)⟩
theorem RowsR.mem {α : Type} {R : Hp → V → α → Prop} {H : Hp} : ∀ {vs : List V} {xs : List α}, RowsR R H vs xs → ∀ v ∈ vs, ∃ x, x ∈ xs ∧ R H v x
  | v :: vs, x :: xs, ⟨h, r⟩, w, m => by
    rcases List.mem_cons.mp m with rfl | m
    · exact ⟨x, .head _, h⟩
    · obtain ⟨y, hy, q⟩ := RowsR.mem (vs := vs) (xs := xs) r w m
      exact ⟨y, .tail _ hy, q⟩
theorem letter_at {i : Int} (h0 : 0 ≤ i) (h1 : i < 26) : ∃ c, atI (Str.ofString "abcdefghijklmnopqrstuvwxyz").cps.toList i = some c ∧ c < 128 := by
  obtain ⟨n, rfl⟩ : ∃ n : Nat, i = (n : Int) := ⟨_, (Int.toNat_of_nonneg h0).symm⟩
  have lt : n < (Str.ofString "abcdefghijklmnopqrstuvwxyz").cps.toList.length := by rw [letters_len]; omega
  refine ⟨_, atI_nat (j := n) (List.getElem?_eq_getElem lt), ?_⟩
  have := letters_all _ (List.getElem_mem lt)
  omega
def Its (H : Hp) (vs : List V) : Prop := ∀ v ∈ vs, ∃ d, It H v d
theorem Its.same {H H' : Hp} {vs : List V} (s : Same H H') (h : Its H vs) : Its H' vs := fun v hv => let ⟨d, q⟩ := h v hv; ⟨d, q.same s⟩
theorem Its.pen {H H' : Hp} {vs : List V} {p c : Addr} {ms : List Int} {t : Nat} {z : Int} (P : Pen H p c ms t z) (s : But p H H') (h : Its H vs) : Its H' vs := fun v hv => let ⟨d, q⟩ := h v hv; ⟨d, q.pen P s⟩
theorem Its.names {H : Hp} {xs : List Str} (h : ∀ x ∈ xs, IsNm x) : Its H (xs.map V.str) := fun v hv => by
  obtain ⟨x, hx, rfl⟩ := List.mem_map.mp hv
  exact ⟨_, It.nm (h x hx)⟩
theorem Its.row {H : Hp} : ∀ {vs : List V}, Its H vs → ∃ ds, RowsR It H vs ds
  | [], _ => ⟨[], trivial⟩
  | v :: vs, h =>
    let ⟨d, q⟩ := h v (.head _)
    let ⟨ds, r⟩ := Its.row (vs := vs) fun x hx => h x (.tail _ hx)
    ⟨d :: ds, q, r⟩
theorem Its.mid {H : Hp} {vs : List V} {v : V} (h : Its H vs) (q : ∃ d, It H v d) (n : Nat) : Its H (vs.take n ++ [v] ++ vs.drop n) := fun w hw => by
  rcases List.mem_append.mp hw with hw | hw
  · rcases List.mem_append.mp hw with hw | hw
    · exact h w (List.mem_of_mem_take hw)
    · rw [List.mem_singleton.mp hw]; exact q
  · exact h w (List.mem_of_mem_drop hw)
theorem perm_eraseV (l : List V) (j : Nat) (h : j < l.length) : (l[j] :: l.eraseIdx j).Perm l := by
  rw [List.eraseIdx_eq_take_drop_succ]
  have e : l = l.take j ++ l[j] :: l.drop (j + 1) := by rw [← List.drop_eq_getElem_cons h, List.take_append_drop]
  conv => rhs; rw [e]
  exact List.perm_middle.symm
def spMany (K : PySem.W.Frag) : Sp := fun vs H Q _ => ∃ (p c : Addr) (ms : List Int) (t : Nat) (z : Int), vs = [.ref p] ∧ Pen H p c ms t z ∧ t < 600000 ∧
  ∀ (f : Addr) (vs : List V) (H' : Hp) (t' : Nat) (z' : Int), H f = none → H' f = some (.lst vs) → Its H' vs → vs ≠ [] → vs.length ≤ 60 → But p H H' → Pen H' p c ms t' z' → t' ≤ t + 300 → Q (.ref f) H'
theorem sc_law_many : FnScope ["pen", "way", "signs", "stem", "some", "turn", "spot", "thing", "left", "found", "k"] ["pen"] (defScope (top 20)) := ⟨rfl, rfl, rfl, by decide +kernel, rfl, by decide +kernel, by decide +kernel⟩
theorem ok_law_many {fd : FuncData} (F : FunD K "_law_many" "_law_many" (defArgs (top 20)) (defBody (top 20)) (defScope (top 20)) [] [] (He.ga K "_law_many") fd) (e : Ev K mg base) : FnOk P w K mg base CX0 6 (He.ga K "_law_many") fd ["pen"] (spMany K) := by
  refine F.ok sc_law_many (fun vs H Q E h => ?_) (fun cdv A outer s H vs Q E hr h => ?_)
  · obtain ⟨_, _, _, _, _, rfl, _⟩ := h
    rfl
  · skip
    refine ⟨_, PSs.nox ((pss_cons (ps_set (i := 1) sc_law_many.nd rfl (Or.inl rfl) (pe_def (d_law_draw (P := P) (w := w) (K := K) (mg := mg) (base := base) e) (hr.mono (by decide)) (by rfl) (pa_cons (pv 0) (pa_cons pe_int pa_nil))))
      (C8.pss_cut (ps_if (pt_cmpR op_eq (pv 1) pe_int (nomark _))
      (pss_cons (ps_set (i := 2) sc_law_many.nd rfl (Or.inr rfl) pe_str)
      (pss_cons (ps_set (i := 3) sc_law_many.nd rfl (Or.inr rfl) (pe_slice sl_str (pe_def (d_law_name (P := P) (w := w) (K := K) (mg := mg) (base := base) e) (hr.mono (by decide)) (by rfl) (pa_cons (pv 0) pa_nil)) po_none (po_some pe_int)))
      (pss_one (ps_setLc (i := 4) (own := [("k", 10)]) (by rfl) sc_law_many.nd rfl rfl (sw_true rfl rfl rfl (by decide +kernel)) (pi_range1 (by rfl) (f_range e) (pa_cons (pe_op op_add pe_int (pe_def (d_law_draw (P := P) (w := w) (K := K) (mg := mg) (base := base) e) (hr.mono (by decide)) (by rfl) (pa_cons (pv 0) (pa_cons pe_int pa_nil)))) pa_nil)) (blkOk_by (own := [("k", 10)]) (N := ["pen", "way", "signs", "stem", "some", "turn", "spot", "thing", "left", "found", "k"]) (sc := defScope (top 20)) (by decide +kernel)) (fun _ _ _ _ _ => (pg_name (i := 10) sc_law_many.nd rfl (Or.inl rfl))) (fun _ _ _ _ _ => pts_nil) (fun _ _ _ _ _ => (pe_op op_add_str (pe_op op_add_str (pv 3) (pe_ix ix_str (pv 2) (pe_op op_fdivN (pv 10) pe_int) (fun _ _ => rfl))) (pe_ix ix_str (pv 2) (pe_op op_modN (pe_callTy call_int1 (by rfl) (f_int e) (by decide +kernel) (pa_cons (pv 10) pa_nil)) pe_int) (fun _ _ => rfl)))))))) (pss_one (ps_set (i := 4) sc_law_many.nd rfl (Or.inl rfl) (pe_def (d_law_names (P := P) (w := w) (K := K) (mg := mg) (base := base) e) (hr.mono (by decide)) (by rfl) (pa_cons (pv 0) (pa_cons (pe_op op_add pe_int (pe_def (d_law_draw (P := P) (w := w) (K := K) (mg := mg) (base := base) e) (hr.mono (by decide)) (by rfl) (pa_cons (pv 0) (pa_cons pe_int pa_nil)))) pa_nil))))))
      (pss_cons (ps_for PassesOwn.never rfl (pi_range1 (by rfl) (f_range e) (pa_cons (pe_def (d_law_pick (P := P) (w := w) (K := K) (mg := mg) (base := base) e) (hr.mono (by decide)) (by rfl) (pa_cons (pv 0) (pa_cons (pe_lst (pa_cons pe_int (pa_cons pe_int (pa_cons pe_int (pa_cons pe_int pa_nil))))) pa_nil))) pa_nil)) (pg_name (i := 5) sc_law_many.nd rfl (Or.inl rfl))
      (pss_cons (ps_set (i := 6) sc_law_many.nd rfl (Or.inl rfl) (pe_def (d_law_draw (P := P) (w := w) (K := K) (mg := mg) (base := base) e) (hr.mono (by decide)) (by rfl) (pa_cons (pv 0) (pa_cons (pe_op op_add (pe_callB (kcall_len_seq (K := K)) (by rfl) (f_len e) (by decide +kernel) (pa_cons (pv 4) pa_nil)) pe_int) pa_nil))))
      (pss_cons (ps_set (i := 7) sc_law_many.nd rfl (Or.inl rfl) (pe_ifExp (pt_cmpR op_eq (pe_def (d_law_draw (P := P) (w := w) (K := K) (mg := mg) (base := base) e) (hr.mono (by decide)) (by rfl) (pa_cons (pv 0) (pa_cons pe_int pa_nil))) pe_int (nomark _)) (pe_def (d_law_odd (P := P) (w := w) (K := K) (mg := mg) (base := base) e) (hr.mono (by decide)) (by rfl) (pa_cons (pv 0) pa_nil)) (pe_def (d_law_pick (P := P) (w := w) (K := K) (mg := mg) (base := base) e) (hr.mono (by decide)) (by rfl) (pa_cons (pv 0) (pa_cons (pv 4) pa_nil)))))
      (pss_one (ps_set (i := 4) sc_law_many.nd rfl (Or.inl rfl) (pe_op op_cat (pe_op op_cat (pe_slice (ksl_list (K := K)) (pv 4) po_none (po_some (pv 6))) (pe_lst (pa_cons (pv 7) pa_nil))) (pe_slice (ksl_list (K := K)) (pv 4) (po_some (pv 6)) po_none)))))))
      (pss_cons (ps_par (i := 8) (j := 9) (by rfl) sc_law_many.nd rfl rfl (by decide) rfl rfl (pa_cons (pe_callTy (kcall_list_of (K := K)) (by rfl) (f_list e) (by decide +kernel) (pa_cons (pv 4) pa_nil)) (pa_cons (pe_lst pa_nil) pa_nil)) (by rfl))
      (pss_cons (ps_while PassesOwn.never (PW.pt (pw_and (pt_cmpR op_eq (pv 1) pe_int (nomark _)) (pw_and1 (pt_cmpR (op_neE (K := K) hr.units) (pv 8) (pe_lst pa_nil) (nomark _)))))
      (pss_one (ps_expr (kpe_bm (K := K) PySem.F.plainAttrs_list PySem.F.slot_list_append PySem.F.type_list_append mt_append (pv 9) (pa_cons (kpe_bm (K := K) PySem.F.plainAttrs_list PySem.F.slot_list_pop PySem.F.type_list_pop mt_popAt (pv 8) (pa_cons (pe_def (d_law_draw (P := P) (w := w) (K := K) (mg := mg) (base := base) e) (hr.mono (by decide)) (by rfl) (pa_cons (pv 0) (pa_cons (pe_callB (kcall_len_seq (K := K)) (by rfl) (f_len e) (by decide +kernel) (pa_cons (pv 8) pa_nil)) pa_nil))) pa_nil)) pa_nil)))))
      (pss_one (ps_ret (pe_ifExp (pt_cmpR op_eq (pv 1) pe_int (nomark _)) (pv 9) (pv 4)))))))))), ?_⟩
    obtain ⟨p, c, ms, t, z, rfl, hP, ht, k⟩ := h
    refine ⟨_, rfl, _, _, _, _, _, _, rfl, hP, (by omega), (by omega), (by omega), fun way H1 t1 z1 w0 w1 b1 P1 ht1 => ?_⟩
    refine ⟨fun σ H' => ∃ (f : Addr) (vs : List V) (t' : Nat) (z' : Int) (x2 x3 x5 x6 x7 x8 x9 x10 : Option V), σ = [some (.ref p), some (.int way), x2, x3, some (.ref f), x5, x6, x7, x8, x9, x10] ∧ H f = none ∧ H' f = some (.lst vs) ∧ Its H' vs ∧ vs ≠ [] ∧ vs.length ≤ 42 ∧ But p H H' ∧ Pen H' p c ms t' z' ∧ t' ≤ t + 120, ?_, ?_⟩
    · refine ⟨_, rfl, rfl, _, rfl, ?_⟩
      show @ite _ _ (_) _ _
      refine ite2 (fun ca19 => ?_) (fun ca19 => ?_)
      · refine ⟨_, rfl, _, _, _, _, _, rfl, P1, (by omega), fun x H2 t2 z2 hx b2 P2 ht2 => ?_⟩
        have f0 : x.length ≤ sizeLine := hx.fit
        refine ⟨_, rfl, _, rfl, f0, _, rfl, _, _, _, _, _, _, rfl, P2, (by omega), (by omega), (by omega), fun m H3 t3 z3 m0 m1 b3 P3 ht3 => ?_⟩
        refine ⟨_, _, rfl, rfl, _, rfl, (by omega), (by omega), fun D nD => ?_⟩
        refine lc_newR (K := K) (R := fun _ v (_ : Nat) => ∃ y, v = V.str y ∧ y.length ≤ 16 ∧ Plain y) ⟨fun _ _ _ _ _ h => h⟩ walk_range (List.range _) (fun i : Nat => V.int (0 + (i : Nat))) (fun i => i) (by rw [List.length_range]) (yrange _ _) nD (fun _ _ => trivial) (by rw [List.length_range]; exact fit (by omega)) (fun j hj H4 s4 Kt Kf kt => ⟨rfl, ?_⟩) fun H4 rs s4 e4 f4 => ?_
        · rw [List.mem_range] at hj
          have fa : (Str.ofString "abcdefghijklmnopqrstuvwxyz").length ≤ sizeLine := by decide +kernel
          have d0 : 0 ≤ (0 + (j : Int)).fdiv 26 ∧ (0 + (j : Int)).fdiv 26 < 26 := by rw [Int.fdiv_eq_ediv_of_nonneg _ (by decide)]; omega
          have d1 : 0 ≤ (0 + (j : Int)).fmod 26 ∧ (0 + (j : Int)).fmod 26 < 26 := by rw [Int.fmod_eq_emod_of_nonneg _ (by decide)]; omega
          obtain ⟨c1, hc1, l1⟩ := letter_at d0.1 d0.2
          obtain ⟨c2, hc2, l2⟩ := letter_at d1.1 d1.2
          have cl := cut_len x 6
          have g1 : (cutS x none (some 6)).length + (⟨#[c1]⟩ : Str).length ≤ sizeLine := Nat.le_trans (Nat.add_le_add_right cl 1) (by decide)
          have ln : (cutS x none (some 6) ++ (⟨#[c1]⟩ : Str)).length ≤ 7 := by rw [nm_len, app_tl, List.length_append, ← nm_len]; show _ + 1 ≤ 7; exact Nat.add_le_add_right cl 1
          have g2 : (cutS x none (some 6) ++ (⟨#[c1]⟩ : Str)).length + (⟨#[c2]⟩ : Str).length ≤ sizeLine := Nat.le_trans (Nat.add_le_add_right ln 1) (by decide)
          have kt2 : Kt (V.str (cutS x none (some 6) ++ (⟨#[c1]⟩ : Str) ++ (⟨#[c2]⟩ : Str))) H4 := by
            refine kt _ _ (Same.refl _) ⟨_, rfl, ?_, fun c hc => ?_⟩
            · rw [nm_len, app_tl, List.length_append, ← nm_len]
              show _ + 1 ≤ 16
              omega
            · rw [app_tl, app_tl] at hc
              rcases List.mem_append.mp hc with hc | hc
              · rcases List.mem_append.mp hc with hc | hc
                · exact cut_plain hx 6 c hc
                · rw [List.mem_singleton.mp hc]; exact l1
              · rw [List.mem_singleton.mp hc]; exact l2
          refine ⟨_, rfl, _, rfl, _, rfl, _, _, rfl, rfl, (by first | exact ⟨by omega, by omega⟩ | exact ⟨by omega, by omega, by omega⟩ | decide), _, _, _, rfl, rfl, fa, hc1, _, _, rfl, rfl, g1, _, rfl, _, rfl, .inl ⟨_, rfl, _, _, rfl, rfl, (show (26 : Int) ≠ 0 by decide), _, _, _, rfl, rfl, fa, hc2, _, _, rfl, rfl, g2, kt2⟩⟩
        · have hl := f4.len
          rw [List.length_map, List.length_range] at hl
          exact ⟨_, _, _, _, _, _, _, _, _, _, _, _, rfl, (((b1.trans b2).trans b3).free (ne_of_none P3.a nD).symm nD), e4, (fun v hv => by obtain ⟨_, _, y, rfl, h1, h2⟩ := f4.mem v hv; exact ⟨_, .str h1 h2⟩), (fun q => by rw [q] at hl; simp at hl; omega), (by omega), (((b1.trans b2).trans b3).trans (Same.but s4)), (P3.same s4), (by omega)⟩
      · refine ⟨_, rfl, _, rfl, _, _, _, _, _, _, rfl, P1, (by omega), (by omega), (by omega), fun dn10 Hn11 xn12 xn13 hn14 hn15 bn16 Pn17 hn18 => ?_⟩
        refine ⟨_, _, rfl, rfl, _, _, _, _, _, _, rfl, Pn17, (by omega), (by omega), (by omega), fun xsn32 fn33 Hn34 xn35 xn36 en37 hn38 hn39 nn40 en41 bn42 Pn43 hn44 => ?_⟩
        exact ⟨_, _, _, _, _, _, _, _, _, _, _, _, rfl, ((b1.trans bn16).free (ne_of_none Pn17.a nn40).symm nn40), en41, Its.names hn38, (fun q => by have := congrArg List.length q; rw [List.length_map] at this; simp at this; rw [this] at en37; simp at en37; omega), (by rw [List.length_map]; omega), ((b1.trans bn16).trans bn42), Pn43, (by omega)⟩
    · rintro σ H1 ⟨f, vs, t1, z1, x2, x3, x5, x6, x7, x8, x9, x10, rfl, nf, ef, it, ne, few, b1, P1, ht1⟩
      refine ⟨_, rfl, (fit (by simp)), fun pc3 nc4 => ?_⟩
      generalize gc6 : upd H1 pc3 (HO.lst [V.int (0 : Int), V.int (0 : Int), V.int (1 : Int), V.int (2 : Int)]) = Hc5
      obtain ⟨sc8, ec7⟩ := gen_new gc6 nc4
      clear gc6
      refine ⟨_, _, _, _, _, _, _, rfl, (P1.same sc8), (by omega), (SqL.of ec7), (ne_of_none P1.a nc4).symm, (by simp), (by simp only [List.length_map, List.length_append, List.length_cons, List.length_nil, List.length_take, List.length_drop, List.length_reverse]; omega), fun xc Hc tc zc hc bc Pc htc => ?_⟩
      obtain ⟨n, rfl, hn⟩ : ∃ n : Nat, xc = V.int (n : Nat) ∧ n ≤ 2 := by
        simp only [List.mem_cons, List.not_mem_nil, or_false] at hc
        rcases hc with rfl | rfl | rfl | rfl
        · exact ⟨0, rfl, by decide⟩
        · exact ⟨0, rfl, by decide⟩
        · exact ⟨1, rfl, by decide⟩
        · exact ⟨2, rfl, by decide⟩
      refine ⟨_, rfl, by omega, by omega, ?_⟩
      rw [show ((n : Nat) : Int).toNat = n from rfl]
      have fp : f ≠ p := (ne_of_none hP.a nf).symm
      have itc := (it.same sc8).pen (P1.same sc8) bc
      refine for_range (lo := 0) (n := n) (fun i σ H' => ∃ (f : Addr) (vs : List V) (t' : Nat) (z' : Int) (x5 x6 x7 x8 x9 x10 : Option V), σ = [some (.ref p), some (.int way), x2, x3, some (.ref f), x5, x6, x7, x8, x9, x10] ∧ H f = none ∧ H' f = some (.lst vs) ∧ Its H' vs ∧ vs ≠ [] ∧ vs.length ≤ 42 + i ∧ But p H H' ∧ Pen H' p c ms t' z' ∧ t' ≤ t + 122 + 20 * i)
        ⟨f, vs, _, _, _, _, _, _, _, _, rfl, nf, bc _ _ fp (sc8 _ _ ef), itc, ne, by omega, (b1.trans (Same.but sc8)).trans bc, Pc, by omega⟩ ?_ ?_
      · clear ef it ne few fp itc
        clear nf f vs
        rintro i σ H2 hi ⟨f, vs, t2, z2, x5, x6, x7, x8, x9, x10, rfl, nf, ef, it, ne, few, b2, P2, ht2⟩
        have fp : f ≠ p := (ne_of_none hP.a nf).symm
        have l0 : 0 < vs.length := List.length_pos_iff.mpr ne
        refine ⟨_, rfl, _, rfl, _, _, rfl, (.inl (SqL.of ef)), _, _, rfl, rfl, _, _, _, _, _, _, rfl, P2, (by omega), (by omega), (by omega), fun dt10 Ht11 xt12 xt13 ht14 ht15 bt16 Pt17 ht18 => ?_⟩
        refine ⟨_, rfl, _, _, _, _, _, _, rfl, Pt17, (by omega), (by omega), (by omega), fun dt28 Ht29 xt30 xt31 ht32 ht33 bt34 Pt35 ht36 => ?_⟩
        refine ⟨rfl, _, rfl, ?_⟩
        show @ite _ _ (_) _ _
        refine ite2 (fun ct37 => ?_) (fun ct37 => ?_)
        · have ct37 := of_decide_eq_true ct37
          refine ⟨_, rfl, _, _, _, _, _, rfl, Pt35, (by omega), fun vt47 dt48 Ht49 xt50 xt51 ht52 bt53 Pt54 ht55 => ?_⟩
          refine ⟨_, rfl, _, rfl, _, rfl, _, _, rfl, (SqL.of (bt53 _ _ fp (bt34 _ _ fp (bt16 _ _ fp ef)))), fun pt58 nt59 => ?_⟩
          generalize gt61 : upd Ht49 pt58 (HO.lst (cutV vs none (some dt10))) = Ht60
          obtain ⟨st63, et62⟩ := gen_new gt61 nt59
          clear gt61
          rw [cutV_to _ (by omega)] at et62
          refine ⟨_, rfl, (fit (by simp)), fun pt66 nt67 => ?_⟩
          generalize gt69 : upd Ht60 pt66 (HO.lst [vt47]) = Ht68
          obtain ⟨st71, et70⟩ := gen_new gt69 nt67
          clear gt69
          refine ⟨_, _, _, _, rfl, rfl, (st71 _ _ et62), et70, (fit (by simp only [List.length_map, List.length_append, List.length_cons, List.length_nil, List.length_take, List.length_drop, List.length_reverse]; omega)), fun pt74 nt75 => ?_⟩
          generalize gt77 : upd Ht68 pt74 (HO.lst (List.take dt10.toNat vs ++ [vt47])) = Ht76
          obtain ⟨st79, et78⟩ := gen_new gt77 nt75
          clear gt77
          refine ⟨_, rfl, _, rfl, _, rfl, _, _, rfl, (SqL.of (st79 _ _ (st71 _ _ (st63 _ _ (bt53 _ _ fp (bt34 _ _ fp (bt16 _ _ fp ef))))))), fun pt82 nt83 => ?_⟩
          generalize gt85 : upd Ht76 pt82 (HO.lst (cutV vs (some dt10) none)) = Ht84
          obtain ⟨st87, et86⟩ := gen_new gt85 nt83
          clear gt85
          rw [cutV_from _ (by omega)] at et86
          refine ⟨_, _, _, _, rfl, rfl, (st87 _ _ et78), et86, (fit (by simp only [List.length_map, List.length_append, List.length_cons, List.length_nil, List.length_take, List.length_drop, List.length_reverse]; omega)), fun pt90 nt91 => ?_⟩
          generalize gt93 : upd Ht84 pt90 (HO.lst (List.take dt10.toNat vs ++ [vt47] ++ List.drop dt10.toNat vs)) = Ht92
          obtain ⟨st95, et94⟩ := gen_new gt93 nt91
          clear gt93
          exact ⟨_, _, _, _, _, _, _, _, _, _, rfl, ((((((((b2.trans bt16).trans bt34).trans bt53).trans (Same.but st63)).trans (Same.but st71)).trans (Same.but st79)).trans (Same.but st87)).free (ne_of_none (st87 _ _ (st79 _ _ (st71 _ _ (st63 _ _ Pt54.a)))) nt91).symm nt91), et94, ((Its.mid (((it.pen P2 bt16).pen Pt17 bt34).pen Pt35 bt53) ⟨_, ht52⟩ _).same ((((st63.trans st71).trans st79).trans st87).trans st95)), (by simp), (by simp only [List.length_map, List.length_append, List.length_cons, List.length_nil, List.length_take, List.length_drop, List.length_reverse]; omega), ((((((((b2.trans bt16).trans bt34).trans bt53).trans (Same.but st63)).trans (Same.but st71)).trans (Same.but st79)).trans (Same.but st87)).trans (Same.but st95)), (Pt54.same ((((st63.trans st71).trans st79).trans st87).trans st95)), (by omega)⟩
        · have ct37 := of_dec ct37
          refine ⟨_, rfl, _, rfl, _, _, _, _, _, _, _, rfl, Pt35, (by omega), (SqL.of (bt34 _ _ fp (bt16 _ _ fp ef))), fp, ne, (by omega), fun xt104 Ht105 xt106 xt107 ht108 bt109 Pt110 ht111 => ?_⟩
          refine ⟨_, rfl, _, rfl, _, rfl, _, _, rfl, (SqL.of (bt109 _ _ fp (bt34 _ _ fp (bt16 _ _ fp ef)))), fun pt114 nt115 => ?_⟩
          generalize gt117 : upd Ht105 pt114 (HO.lst (cutV vs none (some dt10))) = Ht116
          obtain ⟨st119, et118⟩ := gen_new gt117 nt115
          clear gt117
          rw [cutV_to _ (by omega)] at et118
          refine ⟨_, rfl, (fit (by simp)), fun pt122 nt123 => ?_⟩
          generalize gt125 : upd Ht116 pt122 (HO.lst [xt104]) = Ht124
          obtain ⟨st127, et126⟩ := gen_new gt125 nt123
          clear gt125
          refine ⟨_, _, _, _, rfl, rfl, (st127 _ _ et118), et126, (fit (by simp only [List.length_map, List.length_append, List.length_cons, List.length_nil, List.length_take, List.length_drop, List.length_reverse]; omega)), fun pt130 nt131 => ?_⟩
          generalize gt133 : upd Ht124 pt130 (HO.lst (List.take dt10.toNat vs ++ [xt104])) = Ht132
          obtain ⟨st135, et134⟩ := gen_new gt133 nt131
          clear gt133
          refine ⟨_, rfl, _, rfl, _, rfl, _, _, rfl, (SqL.of (st135 _ _ (st127 _ _ (st119 _ _ (bt109 _ _ fp (bt34 _ _ fp (bt16 _ _ fp ef))))))), fun pt138 nt139 => ?_⟩
          generalize gt141 : upd Ht132 pt138 (HO.lst (cutV vs (some dt10) none)) = Ht140
          obtain ⟨st143, et142⟩ := gen_new gt141 nt139
          clear gt141
          rw [cutV_from _ (by omega)] at et142
          refine ⟨_, _, _, _, rfl, rfl, (st143 _ _ et134), et142, (fit (by simp only [List.length_map, List.length_append, List.length_cons, List.length_nil, List.length_take, List.length_drop, List.length_reverse]; omega)), fun pt146 nt147 => ?_⟩
          generalize gt149 : upd Ht140 pt146 (HO.lst (List.take dt10.toNat vs ++ [xt104] ++ List.drop dt10.toNat vs)) = Ht148
          obtain ⟨st151, et150⟩ := gen_new gt149 nt147
          clear gt149
          exact ⟨_, _, _, _, _, _, _, _, _, _, rfl, ((((((((b2.trans bt16).trans bt34).trans bt109).trans (Same.but st119)).trans (Same.but st127)).trans (Same.but st135)).trans (Same.but st143)).free (ne_of_none (st143 _ _ (st135 _ _ (st127 _ _ (st119 _ _ Pt110.a)))) nt147).symm nt147), et150, (let q0 := ((it.pen P2 bt16).pen Pt17 bt34).pen Pt35 bt109; (q0.mid (q0 _ ht108) _).same ((((st119.trans st127).trans st135).trans st143).trans st151)), (by simp), (by simp only [List.length_map, List.length_append, List.length_cons, List.length_nil, List.length_take, List.length_drop, List.length_reverse]; omega), ((((((((b2.trans bt16).trans bt34).trans bt109).trans (Same.but st119)).trans (Same.but st127)).trans (Same.but st135)).trans (Same.but st143)).trans (Same.but st151)), (Pt110.same ((((st119.trans st127).trans st135).trans st143).trans st151)), (by omega)⟩
      · clear ef it ne few fp itc
        clear nf f vs
        rintro σ H2 ⟨f, vs, t2, z2, x5, x6, x7, x8, x9, x10, rfl, nf, ef, it, ne, few, b2, P2, ht2⟩
        have fp : f ≠ p := (ne_of_none hP.a nf).symm
        refine ⟨_, rfl, _, _, rfl, (.inl (SqL.of ef)), fun lw3 nw4 => ?_⟩
        generalize gw6 : upd H2 lw3 (HO.lst vs) = Hw5
        obtain ⟨sw8, ew7⟩ := gen_new gw6 nw4
        clear gw6
        refine ⟨(fit (by simp)), fun pw11 nw12 => ?_⟩
        generalize gw14 : upd Hw5 pw11 (HO.lst []) = Hw13
        obtain ⟨sw16, ew15⟩ := gen_new gw14 nw12
        clear gw14
        refine ⟨_, _, rfl, ?_⟩
        have itw := it.same (sw8.trans sw16)
        have Pw := P2.same (sw8.trans sw16)
        have nlH : H lw3 = none := b2.free (ne_of_none P2.a nw4).symm nw4
        have nfH : H pw11 = none := b2.free (ne_of_none (sw8 _ _ P2.a) nw12).symm (same_none sw8 nw12)
        have nlp : lw3 ≠ p := (ne_of_none P2.a nw4).symm
        have nfp : pw11 ≠ p := (ne_of_none (sw8 _ _ P2.a) nw12).symm
        have nlf : lw3 ≠ pw11 := ne_of_none ew7 nw12
        have ffp : f ≠ lw3 := ne_of_none ef nw4
        have fff : f ≠ pw11 := ne_of_none (sw8 _ _ ef) nw12
        -- what is left, what was found; everything else as it was
        refine ⟨fun n σ H' => ∃ (ls gs : List V) (t' : Nat) (z' : Int) (x5 x6 x7 x10 : Option V), σ = [some (.ref p), some (.int way), x2, x3, some (.ref f), x5, x6, x7, some (.ref lw3), some (.ref pw11), x10] ∧ ls.length = n ∧ ls.length + gs.length = vs.length ∧ (∀ v ∈ ls ++ gs, v ∈ vs) ∧ H' lw3 = some (.lst ls) ∧ H' pw11 = some (.lst gs) ∧ (∀ b o, b ≠ p → b ≠ lw3 → b ≠ pw11 → Hw13 b = some o → H' b = some o) ∧ Pen H' p c ms t' z' ∧ t' ≤ t2 + gs.length, ⟨vs.length, vs, [], t2, z2, x5, x6, x7, x10, rfl, rfl, rfl, (fun v hv => by simpa using hv), sw16 _ _ ew7, ew15, fun b o _ _ _ h => h, Pw, by simp⟩, ?_⟩
        rintro n σ H3 ⟨ls, gs, t3, z3, x5, x6, x7, x10, rfl, ln, lg, mem, el, eg, rest, P3, ht3⟩
        have bx : But p H2 H3 := fun b o nb hb => rest b o nb (ne_of_none hb nw4) (ne_of_none (sw8 _ _ hb) nw12) ((sw8.trans sw16) _ _ hb)
        have itx := it.pen P2 bx
        have ef3 := bx _ _ fp ef
        have b3 := b2.trans bx
        refine ⟨_, rfl, rfl, _, rfl, ?_⟩
        show @ite _ _ (_) _ _
        refine ite2 (fun cx1 => ?_) (fun cx1 => ?_)
        · have cx1 := of_decide_eq_true cx1
          have cx2 : way = 1 := by simpa using cx1
          subst cx2
          refine ⟨_, rfl, (fit (by simp)), fun px4 nx5 => ?_⟩
          generalize gx7 : upd H3 px4 (HO.lst []) = Hx6
          obtain ⟨sx9, ex8⟩ := gen_new gx7 nx5
          clear gx7
          refine neE_of (sx9 _ _ el) ex8 ?_
          cases ls with
          | nil =>
            have lg : gs.length = vs.length := by simpa using lg
            have itg : Its Hx6 gs := fun v hv => (itx.same sx9) v (mem v (by simpa using hv))
            have gne : gs ≠ [] := fun q => ne (List.length_eq_zero_iff.mp (by rw [← lg, q]; rfl))
            have eg6 := sx9 _ _ eg
            have b6 := b3.trans (Same.but sx9)
            have P6 := P3.same sx9
            refine ⟨_, rfl, ?_⟩
            show @ite _ _ (_) _ _
            refine ite_no (by decide +kernel) ?_
            refine ⟨_, rfl, rfl, _, rfl, ?_⟩
            show @ite _ _ (_) _ _
            refine ite_same ?_
            refine ⟨_, rfl, ?_⟩
            exact k _ _ _ _ _ nfH eg6 itg gne (by omega) b6 P6 (by omega)
          | cons l0 lr =>
            have e6 := sx9 _ _ el
            have eg6 := sx9 _ _ eg
            have P6 := P3.same sx9
            have sne : l0 :: lr ≠ [] := nofun
            have spos : 0 < (l0 :: lr).length := Nat.succ_pos _
            refine ⟨_, rfl, ?_⟩
            show @ite _ _ (_) _ _
            refine iteT ?_
            refine ⟨_, fun σ' H' h => h, ?_⟩
            clear ex8 sne
            generalize l0 :: lr = ls at ln lg mem el e6 spos
            refine ⟨_, rfl, (.inl ⟨rfl, ⟨_, (SqL.of eg6)⟩⟩), _, rfl, (.inl ⟨rfl, ⟨_, (SqL.of e6)⟩⟩), _, rfl, _, rfl, _, _, rfl, (.inl (SqL.of e6)), _, _, _, _, _, _, rfl, P6, (by omega), (by omega), (by omega), fun dy10 Hy11 t4 z4 h0 h1 by16 P4 ht4 => ?_⟩
            obtain ⟨j, rfl⟩ : ∃ j : Nat, dy10 = (j : Int) := ⟨_, (Int.toNat_of_nonneg h0).symm⟩
            have lt : j < ls.length := by omega
            have pm := perm_eraseV ls j lt
            have l3 := pm.length_eq
            rw [List.length_cons] at l3
            refine ⟨_, _, _, j, ls[j], rfl, rfl, (by16 _ _ nlp e6), (by omega), (by omega), (by rw [seqIndex_of h0 h1]; rfl), (List.getElem?_eq_getElem lt), ?_⟩
            generalize gy20 : upd Hy11 lw3 (HO.lst (ls.eraseIdx j)) = Hy19
            obtain ⟨by22, ey21⟩ := gen_mut gy20
            clear gy20
            refine ⟨_, _, _, rfl, rfl, (by22 _ _ nlf.symm (by16 _ _ nfp eg6)), (fits (by omega)), ?_⟩
            generalize gy24 : upd Hy19 pw11 (HO.lst (gs ++ [ls[j]])) = Hy23
            obtain ⟨by26, ey25⟩ := gen_mut gy24
            clear gy24
            have nc1 : c ≠ lw3 := ne_of_none P2.b nw4
            have nc2 : c ≠ pw11 := ne_of_none (sw8 _ _ P2.b) nw12
            refine ⟨_, (by omega : (ls.eraseIdx j).length < n), ls.eraseIdx j, gs ++ [ls[j]], t4, z4, _, _, _, _, rfl, rfl, ?_, fun v hv => ?_, by26 _ _ nlf ey21, ey25, fun b o n1 n2 n3 h => ?_, ⟨by26 _ _ nfp.symm (by22 _ _ nlp.symm P4.a), by26 _ _ nc2 (by22 _ _ nc1 P4.b)⟩, ?_⟩
            · rw [List.length_append, List.length_singleton]
              omega
            · refine mem v ?_
              simp only [List.mem_append, List.mem_singleton] at hv ⊢
              rcases hv with hv | hv | hv
              · exact .inl (pm.mem_iff.mp (.tail _ hv))
              · exact .inr hv
              · rw [hv]; exact .inl (List.getElem_mem lt)
            · exact by26 _ _ n3 (by22 _ _ n2 (by16 _ _ n1 (sx9 _ _ (rest b o n1 n2 n3 h))))
            · rw [List.length_append, List.length_singleton]
              omega
        · have cx1 := of_dec cx1
          refine ⟨_, rfl, rfl, _, rfl, ?_⟩
          show @ite _ _ (_) _ _
          refine ite_no (fun h => absurd (of_decide_eq_true h) (by assumption)) ?_
          refine ⟨_, rfl, ?_⟩
          exact k _ _ _ _ _ nf ef3 itx ne (by omega) b3 P3 (by omega)
theorem d_law_many (e : Ev K mg base) : DefN P w K mg base 6 "_law_many" ["pen"] (spMany K) := by
  obtain ⟨fd, F⟩ := e.c.def_ 11 (d := dd "_law_many" 20) rfl
  exact ⟨⟨fd, ok_law_many F e, FunD.bindsN F fun _ _ _ _ _ _ us hl => match us, hl with | [_], _ => rfl⟩, F.kp, He.glo_ok e.X e.G (e.c.fact 21 rfl)⟩
theorem sc_BadHosts___init__ : FnScope ["self", "at"] ["self", "at"] (defScope (inClass (top 4) 0)) := ⟨rfl, rfl, rfl, by decide +kernel, rfl, by decide +kernel, by decide +kernel⟩
theorem ok_BadHosts___init__ {fd : FuncData} (F : FunD K "__init__" "BadHosts.__init__" (defArgs (inClass (top 4) 0)) (defBody (inClass (top 4) 0)) (defScope (inClass (top 4) 0)) [] [] (He.ma K (He.ga K "BadHosts") "__init__") fd) (e : Ev K mg base) : FnOk P w K mg base CX0 1 (He.ma K (He.ga K "BadHosts") "__init__") fd ["self", "at"] (spErr1 K (He.ga K "BadHosts") "at") := by
  refine F.ok sc_BadHosts___init__ (fun vs H Q E h => ?_) (fun cdv A outer s H vs Q E hr h => ?_)
  · obtain ⟨_, _, rfl, _⟩ := h
    rfl
  · skip
    refine ⟨_, PSs.nox ((pss_one (ps_ost (pv 0) (pv 1)))), ?_⟩
    obtain ⟨a, v, rfl, ha, k⟩ := h
    refine ⟨_, rfl, _, rfl, a, _, rfl, (err_BadHosts e).o, (no_BadHosts_at e), .inl ⟨ha, fun dx h1 h2 => ?_⟩⟩
    exact k dx h1 h2
theorem d_BadHosts___init__ (e : Ev K mg base) : DefM P w K mg base 1 (He.ma K (He.ga K "BadHosts") "__init__") ["self", "at"] (spErr1 K (He.ga K "BadHosts") "at") := by
  obtain ⟨fd, F⟩ := e.c.def_ 12 (d := dm "BadHosts" "__init__" "BadHosts.__init__" 4 0) rfl
  exact ⟨fd, ok_BadHosts___init__ F e, FunD.bindsN F fun _ _ _ _ _ _ us hl => match us, hl with | [_, _], _ => rfl⟩
theorem sc_TooMany___init__ : FnScope ["self", "what", "most"] ["self", "what", "most"] (defScope (inClass (top 5) 0)) := ⟨rfl, rfl, rfl, by decide +kernel, rfl, by decide +kernel, by decide +kernel⟩
theorem ok_TooMany___init__ {fd : FuncData} (F : FunD K "__init__" "TooMany.__init__" (defArgs (inClass (top 5) 0)) (defBody (inClass (top 5) 0)) (defScope (inClass (top 5) 0)) [] [] (He.ma K (He.ga K "TooMany") "__init__") fd) (e : Ev K mg base) : FnOk P w K mg base CX0 1 (He.ma K (He.ga K "TooMany") "__init__") fd ["self", "what", "most"] (spErr2 K (He.ga K "TooMany") "what" "most") := by
  refine F.ok sc_TooMany___init__ (fun vs H Q E h => ?_) (fun cdv A outer s H vs Q E hr h => ?_)
  · obtain ⟨_, _, _, rfl, _⟩ := h
    rfl
  · skip
    refine ⟨_, PSs.nox ((pss_cons (ps_ost (pv 0) (pv 1))
      (pss_one (ps_ost (pv 0) (pv 2))))), ?_⟩
    obtain ⟨a, u, v, rfl, ha, k⟩ := h
    refine ⟨_, rfl, _, rfl, a, _, rfl, (err_TooMany e).o, (no_TooMany_what e), .inl ⟨ha, fun dx h1 h2 => ?_⟩⟩
    refine ⟨_, rfl, _, rfl, a, _, rfl, (err_TooMany e).o, (no_TooMany_most e), .inr ⟨dx, _, upd_same, (by rw [upd_ne h2]; exact upd_same), ?_, ?_⟩⟩
    · show 1 ≤ 900
      decide
    · exact k dx _ h1 h2 (by rw [upd_ne (Ne.symm h2)]; exact upd_same) upd_same fun b n1 n2 => by rw [upd_ne n2, upd_ne n1, upd_ne n2]
theorem d_TooMany___init__ (e : Ev K mg base) : DefM P w K mg base 1 (He.ma K (He.ga K "TooMany") "__init__") ["self", "what", "most"] (spErr2 K (He.ga K "TooMany") "what" "most") := by
  obtain ⟨fd, F⟩ := e.c.def_ 13 (d := dm "TooMany" "__init__" "TooMany.__init__" 5 0) rfl
  exact ⟨fd, ok_TooMany___init__ F e, FunD.bindsN F fun _ _ _ _ _ _ us hl => match us, hl with | [_, _, _], _ => rfl⟩
theorem sc_ascending : FnScope ["names"] ["names"] (defScope (top 8)) := ⟨rfl, rfl, rfl, by decide +kernel, rfl, by decide +kernel, by decide +kernel⟩
theorem ok_ascending {fd : FuncData} (F : FunD K "ascending" "ascending" (defArgs (top 8)) (defBody (top 8)) (defScope (top 8)) [] [] (He.ga K "ascending") fd) (e : Ev K mg base) : FnOk P w K mg base CX0 1 (He.ga K "ascending") fd ["names"] (spAsc K) := by
  refine F.ok sc_ascending (fun vs H Q E h => ?_) (fun cdv A outer s H vs Q E hr h => ?_)
  · obtain ⟨_, _, rfl, _⟩ := h
    rfl
  · skip
    refine ⟨_, PSs.nox ((pss_one (ps_ret (pe_callTy (kcall_tuple_of (K := K)) (by rfl) (f_tuple e) (by decide +kernel) (pa_cons (pe_callB (cr_sortX rfl) (by rfl) (f_sorted e) (by decide +kernel) (pa_cons (pe_callTy (cr_setS (K := K) rfl) (by rfl) (f_set e) (by decide +kernel) (pa_cons (pv 0) pa_nil)) pa_nil)) pa_nil))))), ?_⟩
    obtain ⟨p, xs, rfl, hx, hl, k⟩ := h
    refine ⟨_, rfl, p, xs, rfl, hx, Nat.lt_of_le_of_lt (Nat.add_le_add_right hl 1) (by decide), fun a n ha hm => ?_⟩
    refine ⟨a, _, n, rfl, upd_same, fun ys q hs nd mem len hq => ?_⟩
    refine ⟨q, _, rfl, .inl ⟨SqL.of upd_same, fun t ht => ?_⟩⟩
    refine k ys t _ ⟨hs, nd, fun y => (mem y).trans decide_eq_true_iff⟩ ?_ ?_ upd_same
    · exact ((same_new ha).trans (same_new hq)).trans (same_new ht)
    · exact same_none ((same_new ha).trans (same_new hq)) ht
theorem d_ascending (e : Ev K mg base) : DefN P w K mg base 1 "ascending" ["names"] (spAsc K) := by
  obtain ⟨fd, F⟩ := e.c.def_ 14 (d := dd "ascending" 8) rfl
  exact ⟨⟨fd, ok_ascending F e, FunD.bindsN F fun _ _ _ _ _ _ us hl => match us, hl with | [_], _ => rfl⟩, F.kp, He.glo_ok e.X e.G (e.c.fact 28 rfl)⟩
/-- what the law must be told of a thing and a limit: the wrong place, that there are too many, or the names in order -/
inductive Dv
  | bad (o : Option Nat)
  | many (n : Nat)
  | ok (ys : List Str)
def GoodTo (vs : List V) (i : Nat) : Prop := ∃ ns : List Str, vs.take i = ns.map V.str ∧ (∀ n ∈ ns, IsNm n) ∧ ns.Nodup
inductive IsDue : Option (List V) → Nat → Dv → Prop
  | non {l : Nat} : IsDue none l (.bad none)
  | nil {l : Nat} : IsDue (some []) l (.bad none)
  | bad {vs : List V} {l i : Nat} : i < vs.length → GoodTo vs i → ¬ GoodTo vs (i + 1) → IsDue (some vs) l (.bad (some i))
  | many {vs : List V} {l : Nat} : vs ≠ [] → GoodTo vs vs.length → l < vs.length → IsDue (some vs) l (.many l)
  | ok {vs : List V} {l : Nat} {ys : List Str} : vs ≠ [] → GoodTo vs vs.length → vs.length ≤ l → sortedS ys = true → (ys.map V.str).Perm vs → IsDue (some vs) l (.ok ys)
def kvN (ns : List Str) : List (Key × V) := ns.map fun x => (Sum.inr x, V.bl true)
theorem val_kvN {ns : List Str} {x : Str} : (valV (kvN ns) (Sum.inr x)).isSome = decide (x ∈ ns) := by
  unfold valV kvN
  rw [Option.isSome_map, Bool.eq_iff_iff, List.find?_isSome]
  simp
  exact ⟨fun ⟨_, a, h, e, _⟩ => e ▸ h, fun h => ⟨_, x, h, rfl, rfl⟩⟩
theorem put_kvN {ns : List Str} {x : Str} (h : x ∉ ns) : putK (kvN ns) (Sum.inr x) (V.bl true) = kvN (ns ++ [x]) := by
  unfold putK
  rw [if_neg (by unfold kvN; simp [h])]
  unfold kvN
  rw [List.map_append]
  rfl
theorem Same.skip1 {H H' : Hp} {a : Addr} {o : HO} (s : Same H H') (h : H a = none) : Same H (upd H' a o) := fun b u e => by
  rw [upd_ne (ne_of_none e h)]
  exact s _ _ e
def optI (o : Option Nat) : V := match o with | none => .non | some i => .int (i : Nat)
/-- the call gives what is due -/
def Gives (K : PySem.W.Frag) (H : Hp) (Q : VK) (E : XK) : Dv → Prop
  | .bad o => ∀ d H', Same H H' → H d = none → H' d = some (.xd [("at", optI o)]) → E (.ref (He.ga K "BadHosts")) (some d) H'
  | .many n => ∀ d H', Same H H' → H d = none → H' d = some (.xd [("most", .int (n : Nat)), ("what", .str "hosts")]) → E (.ref (He.ga K "TooMany")) (some d) H'
  | .ok ys => ∀ t H', Same H H' → H t = none → H' t = some (.tup (ys.map V.str)) → Q (.ref t) H'
def spHosts2 (K : PySem.W.Frag) : Sp := fun vs H Q E => ∃ (v : V) (l : Nat), vs = [v, .int (l : Nat)] ∧
  ((∃ t, TyX K H v t ∧ PySem.W.kitAny K t [.type "list", .type "tuple"] = some false ∧ ∀ dv, IsDue none l dv → Gives K H Q E dv) ∨
   ∃ p xs, v = .ref p ∧ RowA H p xs ∧ (∀ x ∈ xs, Kind K H x) ∧ xs.length ≤ 100 ∧ ∀ dv, IsDue (some xs) l dv → Gives K H Q E dv)
theorem sc_hosts_of : FnScope ["values", "most", "known", "at", "value"] ["values", "most"] (defScope (top 9)) := ⟨rfl, rfl, rfl, by decide +kernel, rfl, by decide +kernel, by decide +kernel⟩
theorem ok_hosts_of {fd : FuncData} (F : FunD K "hosts_of" "hosts_of" (defArgs (top 9)) (defBody (top 9)) (defScope (top 9)) [(.int 40 : He.Dv).v K] [] (He.ga K "hosts_of") fd) (e : Ev K mg base) : FnOk P w K mg base (CX P w) 4 (He.ga K "hosts_of") fd ["values", "most"] (spHosts2 K) := by
  refine F.ok sc_hosts_of (fun vs H Q E h => ?_) (fun cdv A outer s H vs Q E hr h => ?_)
  · obtain ⟨_, _, rfl, _⟩ := h
    rfl
  · skip
    refine ⟨_, ((pss_cons (ps_if (PW.pt (pw_or (pt_not (pt_val (pe_callB (kcall_isiT (K := K)) (by rfl) (f_isinstance e) (by decide +kernel) (pa_cons (pv 0) (pa_cons (pe_tup (pa_cons (pe_bltn (by rfl) (f_list e) (by decide +kernel) (show RelV (.ty "list") (.type "list") from rfl)) (pa_cons (pe_bltn (by rfl) (f_tuple e) (by decide +kernel) (show RelV (.ty "tuple") (.type "tuple") from rfl)) pa_nil))) pa_nil))))) (pw_or1 (pt_cmpR op_eq (pe_callB (kcall_len_seq (K := K)) (by rfl) (f_len e) (by decide +kernel) (pa_cons (pv 0) pa_nil)) pe_int (nomark _)))))
      (pss_one (ps_raise1 (err_BadHosts e) (d_BadHosts___init__ e) (hr.mono (by decide)) rfl (takes_of rfl rfl rfl rfl) rfl (g_BadHosts e) (pa_cons pe_non pa_nil))) pss_nil)
      (pss_cons (ps_set (i := 2) sc_hosts_of.nd rfl (Or.inl rfl) pe_dnewK)
      (pss_cons (ps_for (passes_of rfl) rfl (pi_or (kpi_enum (K := K) (by rfl) (f_enumerate e) (pa_cons (pv 0) pa_nil)) (kpi_enumT (K := K) (by rfl) (f_enumerate e) (pa_cons (pv 0) pa_nil))) (pg_tup (by rfl) (pgs_cons (pg_name (i := 3) sc_hosts_of.nd rfl (Or.inl rfl)) (pgs_cons (pg_name (i := 4) sc_hosts_of.nd rfl (Or.inl rfl)) pgs_nil)))
      (pss_cons (ps_if (PW.pt (pw_or (pt_not (pt_val (pe_def (d_is_name (P := P) (w := w) (K := K) (mg := mg) (base := base) e) (hr.mono (by decide)) (by rfl) (pa_cons (pv 4) pa_nil)))) (pw_or1 (pt_cmp (pc_din (hu_of hr) (pv 4) (pv 2))))))
      (pss_one (ps_raise1 (err_BadHosts e) (d_BadHosts___init__ e) (hr.mono (by decide)) rfl (takes_of rfl rfl rfl rfl) rfl (g_BadHosts e) (pa_cons (pv 3) pa_nil))) pss_nil)
      (pss_one (ps_dput (hu_of hr) (pv 2) (pv 4) pe_bl rfl))))
      (pss_cons (ps_if (pt_cmpR op_gt (pe_callB (kcall_len_seq (K := K)) (by rfl) (f_len e) (by decide +kernel) (pa_cons (pv 0) pa_nil)) (pv 1) (nomark _))
      (pss_one (ps_raise2 (err_TooMany e) (d_TooMany___init__ e) (hr.mono (by decide)) rfl (takes_of rfl rfl rfl rfl) rfl (g_TooMany e) (pa_cons pe_str (pa_cons (pv 1) pa_nil)))) pss_nil)
      (pss_one (ps_ret (pe_def (d_ascending (P := P) (w := w) (K := K) (mg := mg) (base := base) e) (hr.mono (by decide)) (by rfl) (pa_cons (pv 0) pa_nil))))))))), ?_⟩
    obtain ⟨v, l, rfl, hv⟩ := h
    rcases hv with ⟨t, ty, kt, k⟩ | ⟨p, xs, rfl, hx, hk, few, k⟩
    · have k1 := k (.bad none) .non
      refine ⟨_, rfl, (fit (by simp)), fun pa3 na4 => ?_⟩
      generalize ga6 : upd H pa3 (HO.tup [V.ty "list", V.ty "tuple"]) = Ha5
      obtain ⟨sa8, ea7⟩ := gen_new ga6 na4
      clear ga6
      refine ⟨_, pa3, _, t, [.type "list", .type "tuple"], false, rfl, ea7, .cons (.ty _) (.cons (.ty _) .nil), tyX_same sa8 ty, kt, _, rfl, iteT (iteT ?_)⟩
      exact ⟨_, rfl, fun d H' s n e => k1 d H' (sa8.trans s) (same_none sa8 n) e⟩
    · refine ⟨_, rfl, (fit (by simp)), fun pb5 nb6 => ?_⟩
      generalize gb8 : upd H pb5 (HO.tup [V.ty "list", V.ty "tuple"]) = Hb
      obtain ⟨sb, eb9⟩ := gen_new gb8 nb6
      clear gb8
      have hx1 := hx.same sb
      obtain ⟨t, ty, kt⟩ := hx1.isi (K := K)
      refine ⟨_, pb5, _, t, [.type "list", .type "tuple"], true, rfl, eb9, .cons (.ty _) (.cons (.ty _) .nil), ty, kt, _, rfl, iteF ?_⟩
      refine ⟨_, rfl, p, xs, rfl, hx1.seq, rfl, _, rfl, ite2 (fun h0 => ?_) fun h0 => ?_⟩
      · have h0 : xs = [] := by simpa using h0
        subst h0
        exact ⟨_, rfl, fun d H' s n e => k (.bad none) .nil d H' (sb.trans s) (same_none sb n) e⟩
      have h0 : xs ≠ [] := by simpa using h0
      intro pk nk
      generalize gk : upd Hb pk (HO.dK []) = Hk
      obtain ⟨sk, ek⟩ := gen_new gk nk
      clear gk
      have npk : p ≠ pk := by rcases hx1 with h | h <;> exact ne_of_none h nk
      refine for_enumR (K := K) (hx1.same sk) (fun Q q => ⟨_, rfl, q⟩) (fun i σ H' => ∃ (x3 x4 : Option V) (ns : List Str), σ = [some (.ref p), some (.int (l : Nat)), some (.ref pk), x3, x4] ∧ Same Hb H' ∧ H' pk = some (.dK (kvN ns)) ∧ xs.take i = ns.map V.str ∧ (∀ n ∈ ns, IsNm n) ∧ ns.Nodup)
        ⟨_, _, [], rfl, sk, ek, rfl, nofun, .nil⟩ (fun i σ H' hi ⟨_, _, _, _, s, _⟩ o ho => by
          rcases hx1 with h | h
          · rw [sk _ _ h] at ho; cases ho; exact s _ _ h
          · rw [sk _ _ h] at ho; cases ho; exact s _ _ h) ?_ ?_
      · rintro i x T σ H1 hxi ⟨x3, x4, ns, rfl, s1, e1, tk, nm, nd⟩ hT
        generalize gT : upd H1 T _ = H2
        obtain ⟨sT, eT⟩ := gen_new gT hT
        clear gT
        have hi := (List.getElem?_eq_some_iff.mp hxi).1
        have tk1 : xs.take (i + 1) = ns.map V.str ++ [x] := by rw [List.take_add_one, hxi, tk]; rfl
        have good : GoodTo xs i := ⟨ns, tk, nm, nd⟩
        have ll : ns.length ≤ i := by
          have := congrArg List.length tk
          rw [List.length_take, List.length_map] at this
          omega
        have S2 := (sb.trans s1).trans sT
        refine ⟨_, _, rfl, SqT.of eT, rfl, _, _, rfl, _, _, rfl, rfl, ?_⟩
        refine ⟨_, rfl, ?_⟩
        dsimp only [tNil]
        refine is_named ((hk x (List.mem_of_getElem? hxi)).same S2) fun H3 s3 => ?_
        have S3 := S2.trans s3
        have e3 := s3 _ _ (sT _ _ e1)
        cases vn : vnm x with
        | false =>
          refine ⟨_, rfl, iteT (iteT ?_)⟩
          have ng : ¬ GoodTo xs (i + 1) := fun ⟨ms, e, hm, _⟩ => by
            rw [tk1] at e
            have hxm : x ∈ ms.map V.str := by rw [← e]; simp
            obtain ⟨y, hy, rfl⟩ := List.mem_map.mp hxm
            have : vnm (.str y) = true := nmB_iff.mpr (hm y hy)
            rw [vn] at this
            cases this
          exact ⟨_, rfl, _, rfl, fun d H' s n e => k (.bad (some i)) (.bad hi good ng) d H' (S3.trans s) (same_none S3 n) e⟩
        | true =>
          obtain ⟨z, rfl⟩ : ∃ z, x = .str z := by
            cases x <;> first | exact ⟨_, rfl⟩ | cases vn
          have nz : IsNm z := nmB_iff.mp vn
          refine ⟨_, rfl, iteF ?_⟩
          refine ⟨_, rfl, _, rfl, pk, _, rfl, DGet.k (k := .inr z) e3, ?_⟩
          rw [val_kvN]
          by_cases hz : z ∈ ns
          · rw [decide_eq_true hz]
            refine ⟨_, rfl, iteT ?_⟩
            have ng : ¬ GoodTo xs (i + 1) := fun ⟨ms, e, hm, hd⟩ => by
              rw [tk1] at e
              have e2 : ms = ns ++ [z] := by
                have := congrArg (List.filterMap fun v => match v with | V.str y => some y | _ => none) e
                simpa [List.filterMap_map, Function.comp_def] using this.symm
              rw [e2] at hd
              exact (List.nodup_append.mp hd).2.2 z hz z (List.mem_singleton.mpr rfl) rfl
            exact ⟨_, rfl, _, rfl, fun d H' s n e => k (.bad (some i)) (.bad hi good ng) d H' (S3.trans s) (same_none S3 n) e⟩
          · rw [decide_eq_false hz]
            refine ⟨_, rfl, iteF ?_⟩
            refine ⟨_, rfl, _, rfl, pk, _, rfl, DPut.k (k := .inr z) e3 (fit (by unfold kvN; rw [List.length_map]; omega)), ?_⟩
            rw [put_kvN hz]
            refine ⟨_, _, ns ++ [z], rfl, Same.skip1 ((s1.trans sT).trans s3) nk, upd_same, by rw [tk1, List.map_append]; rfl, ?_, ?_⟩
            · intro n hn
              rcases List.mem_append.mp hn with hn | hn
              · exact nm n hn
              · rw [List.mem_singleton.mp hn]; exact nz
            · refine List.nodup_append.mpr ⟨nd, by simp, fun a ha b hb e => ?_⟩
              rw [List.mem_singleton.mp hb] at e
              exact hz (e ▸ ha)
      · rintro σ H1 ⟨x3, x4, ns, rfl, s1, e1, tk, nm, nd⟩
        rw [List.take_length] at tk
        have good : GoodTo xs xs.length := ⟨ns, by rw [List.take_length]; exact tk, nm, nd⟩
        have hx4 := hx1.same s1
        have S1 := sb.trans s1
        refine ⟨_, rfl, p, xs, rfl, hx4.seq, _, rfl, _, _, rfl, rfl, _, rfl, ite2 (fun hm => ?_) fun hm => ?_⟩
        · have hm : l < xs.length := by simpa using hm
          exact ⟨_, rfl, _, _, rfl, fun d H' s n e => k (.many l) (.many h0 good hm) d H' (S1.trans s) (same_none S1 n) e⟩
        · have hm : xs.length ≤ l := by simpa using hm
          refine ⟨_, rfl, ?_⟩
          dsimp only [tNil]
          refine ⟨p, ns, rfl, by rw [← tk]; exact hx4.seq, by have := congrArg List.length tk; rw [List.length_map] at this; omega, fun ys t2 H' asc s n e => k (.ok ys) (.ok h0 good hm asc.1 ?_) t2 H' (S1.trans s) (same_none S1 n) e⟩
          rw [tk]
          exact ((List.perm_ext_iff_of_nodup asc.2.1 nd).mpr asc.2.2).map _
theorem d_hosts_of (e : Ev K mg base) : ∃ fd, FnOk P w K mg base (CX P w) 4 (He.ga K "hosts_of") fd ["values", "most"] (spHosts2 K) ∧ FunD K "hosts_of" "hosts_of" (defArgs (top 9)) (defBody (top 9)) (defScope (top 9)) [(.int 40 : He.Dv).v K] [] (He.ga K "hosts_of") fd := by
  obtain ⟨fd, F⟩ := e.c.def_ 15 (d := dd "hosts_of" 9 [.int 40]) rfl
  exact ⟨fd, ok_hosts_of F e, F⟩
theorem It.two {K : PySem.W.Frag} {H : Hp} {v : V} {d : PyData} (h : It H v d) : (∃ x, v = .str x ∧ x.length ≤ 16 ∧ Plain x) ∨ ∃ t, TyX K H v t ∧ PySem.W.kitOne K t (.type "str") = some false ∧ vnm v = false := by
  cases h with
  | str a b => exact .inl ⟨_, rfl, a, b⟩
  | non => exact .inr ⟨_, .base .non, kit_ty (by decide +kernel), rfl⟩
  | bl b => exact .inr ⟨_, .base (.bl _), kit_ty (by decide +kernel), rfl⟩
  | int h => exact .inr ⟨_, .base (.int _), kit_ty (by decide +kernel), rfl⟩
  | tup0 h => exact .inr ⟨_, .base (.tup h), kit_ty (by decide +kernel), rfl⟩
  | tup1 h n => exact .inr ⟨_, .base (.tup h), kit_ty (by decide +kernel), rfl⟩
  | lst1 h n => exact .inr ⟨_, .base (.lst h), kit_ty (by decide +kernel), rfl⟩
  | dict h => exact .inr ⟨_, .base (.dK h), kit_ty (by decide +kernel), rfl⟩
def spLnm2 (K : PySem.W.Frag) : Sp := fun vs H Q _ => ∃ (v : V), vs = [v] ∧ ((∃ x, v = .str x ∧ x.length ≤ sizeLine ∧ Plain x) ∨ ∃ t, TyX K H v t ∧ PySem.W.kitOne K t (.type "str") = some false ∧ vnm v = false) ∧ ∀ H', Same H H' → Q (.bl (vnm v)) H'
theorem sc_law_is_name : FnScope ["thing", "sign"] ["thing"] (defScope (top 19)) := ⟨rfl, rfl, rfl, by decide +kernel, rfl, by decide +kernel, by decide +kernel⟩
theorem ok_law_is_name {fd : FuncData} (F : FunD K "_law_is_name" "_law_is_name" (defArgs (top 19)) (defBody (top 19)) (defScope (top 19)) [] [] (He.ga K "_law_is_name") fd) (e : Ev K mg base) : FnOk P w K mg base CX0 1 (He.ga K "_law_is_name") fd ["thing"] (spLnm2 K) := by
  refine F.ok sc_law_is_name (fun vs H Q E h => ?_) (fun cdv A outer s H vs Q E hr h => ?_)
  · obtain ⟨_, rfl, _⟩ := h
    rfl
  · skip
    refine ⟨_, PSs.nox ((pss_cons (ps_if (PW.pt (pw_or (pt_not (pt_val (pe_callB (kcall_isi (K := K)) (by rfl) (f_isinstance e) (by decide +kernel) (pa_cons (pv 0) (pa_cons (pe_bltn (by rfl) (f_str e) (by decide +kernel) (show RelV (.ty "str") (.type "str") from rfl)) pa_nil))))) (pw_or (pt_cmpR op_eq (pe_callB call_len_str (by rfl) (f_len e) (by decide +kernel) (pa_cons (pv 0) pa_nil)) pe_int (nomark _)) (pw_or1 (pt_cmpR op_gt (pe_callB call_len_str (by rfl) (f_len e) (by decide +kernel) (pa_cons (pv 0) pa_nil)) pe_int (nomark _))))))
      (pss_one (ps_ret pe_bl)) pss_nil)
      (pss_one (ps_ret (pe_cmpR (kop_eqD (K := K) hr.units) (pe_lc (own := [("sign", 1)]) (by rfl) sc_law_is_name.nd (pi_str (pv 0)) (blkOk_by (own := [("sign", 1)]) (N := ["thing", "sign"]) (sc := defScope (top 19)) (by decide +kernel)) (fun _ _ _ _ _ => (pg_name (i := 1) sc_law_is_name.nd rfl (Or.inl rfl))) (fun _ _ _ _ _ => (pts_one (pt_cmpR op_notIn_sign (pv 1) pe_str (by rfl)))) (fun _ _ _ _ _ => (pv 1))) (pe_lst pa_nil) (nomark _)))))), ?_⟩
    obtain ⟨v, rfl, hv, k⟩ := h
    refine ⟨_, rfl, ?_⟩
    rcases hv with ⟨x, rfl, hx, pl⟩ | ⟨t, ty, kt, vn⟩
    rotate_left
    · refine ⟨v, _, _, _, false, rfl, .ty "str", ty, kt, _, rfl, iteT (iteT ?_)⟩
      have q := k H (Same.refl H)
      rw [vn] at q
      exact q
    have k : ∀ H', Same H H' → Q (.bl (nmB x)) H' := k
    refine ⟨.str x, _, _, _, true, rfl, .ty "str", .base (.str x), kit_ty (by decide +kernel), _, rfl, iteF ?_⟩
    refine ⟨_, rfl, x, rfl, hx, rfl, _, rfl, ite2 (fun h0 => iteT ?_) fun h0 => ?_⟩
    · have h0 : x.length = 0 := by simpa using h0
      have := k H (Same.refl H)
      have e : nmB x = false := by unfold nmB; rw [h0]; rfl
      rw [e] at this
      exact this
    have h0 : ¬ x.length = 0 := by simpa using h0
    refine ⟨_, rfl, x, rfl, hx, _, _, rfl, rfl, _, rfl, ite2 (fun h8 => ?_) fun h8 => ?_⟩
    · have h8 : 8 < x.length := by simp at h8; omega
      have := k H (Same.refl H)
      have e : nmB x = false := by unfold nmB; rw [decide_eq_false (show ¬ x.length ≤ 8 by omega)]; simp
      rw [e] at this
      exact this
    have h8 : x.length ≤ 8 := by simp at h8; omega
    refine ⟨_, rfl, x, rfl, fun D hD => lc_fm walk_str (sgV x) offAbc (by unfold sgV; simp) (ystr x) hD (fun _ _ => trivial) (by unfold sgV; rw [List.length_map, ← nm_len]; exact Nat.lt_of_le_of_lt h8 (by decide)) ?_ ?_⟩
    · rintro v hv H' hS Kt Kf k1 k2
      obtain ⟨o, ho, rfl⟩ := List.mem_map.mp hv
      refine ⟨rfl, ?_⟩
      refine ⟨_, rfl, o, _, rfl, rfl, ?_⟩
      have e : offAbc (V.str (sg o)) = if decide (o ∈ alpha.cps.toList) = true then none else some (V.str (sg o)) := by
        show (if ([o].all fun c => decide (c ∈ alpha.cps.toList)) = true then none else some (V.str (sg o))) = _
        rw [List.all_cons, List.all_nil, Bool.and_true]
      by_cases hm : o ∈ alpha.cps.toList
      · rw [decide_eq_true hm] at e
        refine ⟨_, rfl, ?_⟩
        rw [show decide (o ∈ (Str.ofString "abcdefghijklmnopqrstuvwxyz").cps.toList) = true from decide_eq_true hm]
        exact iteF (k2 e)
      · rw [decide_eq_false hm] at e
        refine ⟨_, rfl, ?_⟩
        rw [show decide (o ∈ (Str.ofString "abcdefghijklmnopqrstuvwxyz").cps.toList) = false from decide_eq_false hm]
        exact iteT ⟨_, rfl, k1 _ e⟩
    · rw [off_map]
      refine ⟨by show 0 ≤ sizeLine; decide, fun q hq => ?_⟩
      refine ⟨.list (((x.cps.toList.filter fun c => !decide (c ∈ alpha.cps.toList)).map sg).map .str), .list [], .lst (SqL.of (by rw [upd_ne (ne_of_none upd_same hq)]; exact upd_same)) (dp_strs _), .lst (SqL.of upd_same) .nil, shaped_strs (fun y hy => ?_), by decide +kernel, ?_⟩
      · obtain ⟨c, hc, rfl⟩ := List.mem_map.mp hy
        refine Plain.ok fun d hd => ?_
        have e : d = c := List.mem_singleton.mp hd
        rw [e]
        exact pl c (List.mem_filter.mp hc).1
      · rw [eqv_list_nil]
        have e : ((((x.cps.toList.filter fun c => !decide (c ∈ alpha.cps.toList)).map sg).map PyData.str)).isEmpty = nmB x := by
          rw [List.isEmpty_map, List.isEmpty_map, off_nil]
          unfold nmB
          rw [decide_eq_true (show 1 ≤ x.length by omega), decide_eq_true h8]
          rfl
        rw [e]
        exact k _ ((same_new hD).trans (same_new hq))
theorem d_law_is_name (e : Ev K mg base) : DefN P w K mg base 1 "_law_is_name" ["thing"] (spLnm2 K) := by
  obtain ⟨fd, F⟩ := e.c.def_ 16 (d := dd "_law_is_name" 19) rfl
  exact ⟨⟨fd, ok_law_is_name F e, FunD.bindsN F fun _ _ _ _ _ _ us hl => match us, hl with | [_], _ => rfl⟩, F.kp, He.glo_ok e.X e.G (e.c.fact 30 rfl)⟩
def dvO (H : Hp) (v : V) : Dv → Prop
  | .bad o => ∃ t, v = .ref t ∧ H t = some (.tup [.str "hosts", optI o])
  | .many n => ∃ t, v = .ref t ∧ H t = some (.tup [.str "many", .str "hosts", .int (n : Nat)])
  | .ok ys => ∃ t, v = .ref t ∧ H t = some (.tup (ys.map V.str))
def spDue2 (K : PySem.W.Frag) : Sp := fun vs H Q _ => ∃ (v : V) (l : Nat) (r : Option (List V)), vs = [v, .int (l : Nat)] ∧
  ((r = none ∧ ∃ t, TyX K H v t ∧ PySem.W.kitAny K t [.type "list", .type "tuple"] = some false) ∨ ∃ p xs, r = some xs ∧ v = .ref p ∧ RowA H p xs ∧ Its H xs ∧ xs.length ≤ 60) ∧
  ∀ dv v' H', IsDue r l dv → Same H H' → dvO H' v' dv → Q v' H'
theorem sc_law_due : FnScope ["some", "limit", "known", "spot", "thing"] ["some", "limit"] (defScope (top 21)) := ⟨rfl, rfl, rfl, by decide +kernel, rfl, by decide +kernel, by decide +kernel⟩
theorem ok_law_due {fd : FuncData} (F : FunD K "_law_due" "_law_due" (defArgs (top 21)) (defBody (top 21)) (defScope (top 21)) [] [] (He.ga K "_law_due") fd) (e : Ev K mg base) : FnOk P w K mg base CX0 4 (He.ga K "_law_due") fd ["some", "limit"] (spDue2 K) := by
  refine F.ok sc_law_due (fun vs H Q E h => ?_) (fun cdv A outer s H vs Q E hr h => ?_)
  · obtain ⟨_, _, _, rfl, _⟩ := h
    rfl
  · skip
    refine ⟨_, PSs.nox ((pss_cons (ps_if (PW.pt (pw_or (pt_not (pt_val (pe_callB (kcall_isiT (K := K)) (by rfl) (f_isinstance e) (by decide +kernel) (pa_cons (pv 0) (pa_cons (pe_tup (pa_cons (pe_bltn (by rfl) (f_list e) (by decide +kernel) (show RelV (.ty "list") (.type "list") from rfl)) (pa_cons (pe_bltn (by rfl) (f_tuple e) (by decide +kernel) (show RelV (.ty "tuple") (.type "tuple") from rfl)) pa_nil))) pa_nil))))) (pw_or1 (pt_cmpR op_eq (pe_callB (kcall_len_seq (K := K)) (by rfl) (f_len e) (by decide +kernel) (pa_cons (pv 0) pa_nil)) pe_int (nomark _)))))
      (pss_one (ps_ret (pe_tup (pa_cons pe_str (pa_cons pe_non pa_nil))))) pss_nil)
      (pss_cons (ps_set (i := 2) sc_law_due.nd rfl (Or.inl rfl) (pe_lst pa_nil))
      (pss_cons (ps_for PassesOwn.never rfl (pi_or (kpi_enum (K := K) (by rfl) (f_enumerate e) (pa_cons (pv 0) pa_nil)) (kpi_enumT (K := K) (by rfl) (f_enumerate e) (pa_cons (pv 0) pa_nil))) (pg_tup (by rfl) (pgs_cons (pg_name (i := 3) sc_law_due.nd rfl (Or.inl rfl)) (pgs_cons (pg_name (i := 4) sc_law_due.nd rfl (Or.inl rfl)) pgs_nil)))
      (pss_cons (ps_if (PW.pt (pw_or (pt_not (pt_val (pe_def (d_law_is_name (P := P) (w := w) (K := K) (mg := mg) (base := base) e) (hr.mono (by decide)) (by rfl) (pa_cons (pv 4) pa_nil)))) (pw_or1 (pt_cmpR (op_inS (K := K)) (pv 4) (pv 2) (by rfl)))))
      (pss_one (ps_ret (pe_tup (pa_cons pe_str (pa_cons (pv 3) pa_nil))))) pss_nil)
      (pss_one (ps_expr (kpe_bm (K := K) PySem.F.plainAttrs_list PySem.F.slot_list_append PySem.F.type_list_append mt_append (pv 2) (pa_cons (pv 4) pa_nil))))))
      (pss_cons (ps_if (pt_cmpR op_gt (pe_callB (kcall_len_seq (K := K)) (by rfl) (f_len e) (by decide +kernel) (pa_cons (pv 0) pa_nil)) (pv 1) (nomark _))
      (pss_one (ps_ret (pe_tup (pa_cons pe_str (pa_cons pe_str (pa_cons (pv 1) pa_nil)))))) pss_nil)
      (pss_one (ps_ret (pe_callTy (kcall_tuple_of (K := K)) (by rfl) (f_tuple e) (by decide +kernel) (pa_cons (pe_callB (kcr_sortedS (K := K)) (by rfl) (f_sorted e) (by decide +kernel) (pa_cons (pe_lc (own := [("thing", 4)]) (by rfl) sc_law_due.nd (pi_or (kpi_list (K := K) (pv 0)) (kpi_tup (K := K) (pv 0))) (blkOk_by (own := [("thing", 4)]) (N := ["some", "limit", "known", "spot", "thing"]) (sc := defScope (top 21)) (by decide +kernel)) (fun _ _ _ _ _ => (pg_name (i := 4) sc_law_due.nd rfl (Or.inl rfl))) (fun _ _ _ _ _ => pts_nil) (fun _ _ _ _ _ => (pe_callTy SkE.call_str_str (by rfl) (f_str e) (by decide +kernel) (pa_cons (pv 4) pa_nil)))) pa_nil)) pa_nil))))))))), ?_⟩
    obtain ⟨v, l, r, rfl, hv, k⟩ := h
    rcases hv with ⟨rfl, t, ty, kt⟩ | ⟨p, xs, rfl, rfl, hx, it, few⟩
    · refine ⟨_, rfl, (fit (by simp)), fun pa3 na4 => ?_⟩
      generalize ga6 : upd H pa3 (HO.tup [V.ty "list", V.ty "tuple"]) = Ha5
      obtain ⟨sa8, ea7⟩ := gen_new ga6 na4
      clear ga6
      refine ⟨_, pa3, _, t, [.type "list", .type "tuple"], false, rfl, ea7, .cons (.ty _) (.cons (.ty _) .nil), tyX_same sa8 ty, kt, _, rfl, iteT (iteT ?_)⟩
      refine ⟨(fit (by simp)), fun t2 ht2 => ?_⟩
      exact k (.bad none) _ _ .non (sa8.trans (same_new ht2)) ⟨t2, rfl, upd_same⟩
    · refine ⟨_, rfl, (fit (by simp)), fun pb5 nb6 => ?_⟩
      generalize gb8 : upd H pb5 (HO.tup [V.ty "list", V.ty "tuple"]) = Hb
      obtain ⟨sb, eb9⟩ := gen_new gb8 nb6
      clear gb8
      have hx1 := hx.same sb
      obtain ⟨t, ty, kt⟩ := hx1.isi (K := K)
      refine ⟨_, pb5, _, t, [.type "list", .type "tuple"], true, rfl, eb9, .cons (.ty _) (.cons (.ty _) .nil), ty, kt, _, rfl, iteF ?_⟩
      refine ⟨_, rfl, p, xs, rfl, hx1.seq, rfl, _, rfl, ite2 (fun h0 => ?_) fun h0 => ?_⟩
      · have h0 : xs = [] := by simpa using h0
        subst h0
        refine ⟨(fit (by simp)), fun t2 ht2 => ?_⟩
        exact k (.bad none) _ _ .nil (sb.trans (same_new ht2)) ⟨t2, rfl, upd_same⟩
      have h0 : xs ≠ [] := by simpa using h0
      refine ⟨(fit (by simp)), fun pk nk => ?_⟩
      generalize gk : upd Hb pk (HO.lst []) = Hk
      obtain ⟨sk, ek⟩ := gen_new gk nk
      clear gk
      have npk : p ≠ pk := by rcases hx1 with h | h <;> exact ne_of_none h nk
      refine for_enumR (K := K) (hx1.same sk) (fun Q q => ⟨_, rfl, q⟩) (fun i σ H' => ∃ (x3 x4 : Option V) (ns : List Str), σ = [some (.ref p), some (.int (l : Nat)), some (.ref pk), x3, x4] ∧ Same Hb H' ∧ H' pk = some (.lst (ns.map V.str)) ∧ xs.take i = ns.map V.str ∧ (∀ n ∈ ns, IsNm n) ∧ ns.Nodup)
        ⟨_, _, [], rfl, sk, ek, rfl, nofun, .nil⟩ (fun i σ H' hi ⟨_, _, _, _, s, _⟩ o ho => by
          rcases hx1 with h | h
          · rw [sk _ _ h] at ho; cases ho; exact s _ _ h
          · rw [sk _ _ h] at ho; cases ho; exact s _ _ h) ?_ ?_
      · rintro i x T σ H1 hxi ⟨x3, x4, ns, rfl, s1, e1, tk, nm, nd⟩ hT
        generalize gT : upd H1 T _ = H2
        obtain ⟨sT, eT⟩ := gen_new gT hT
        clear gT
        have hi := (List.getElem?_eq_some_iff.mp hxi).1
        have tk1 : xs.take (i + 1) = ns.map V.str ++ [x] := by rw [List.take_add_one, hxi, tk]; rfl
        have good : GoodTo xs i := ⟨ns, tk, nm, nd⟩
        have ll : ns.length ≤ i := by
          have := congrArg List.length tk
          rw [List.length_take, List.length_map] at this
          omega
        have S2 := (sb.trans s1).trans sT
        refine ⟨_, _, rfl, SqT.of eT, rfl, _, _, rfl, _, _, rfl, rfl, ?_⟩
        refine ⟨_, rfl, ?_⟩
        dsimp only [tNil]
        obtain ⟨dx, itx⟩ := (it.same S2) x (List.mem_of_getElem? hxi)
        refine ⟨x, rfl, (itx.two (K := K)).imp (fun ⟨y, e, h1, h2⟩ => ⟨y, e, Nat.le_trans h1 (by decide +kernel), h2⟩) id, fun H3 s3 => ?_⟩
        have S3 := S2.trans s3
        have e3 := s3 _ _ (sT _ _ e1)
        cases vn : vnm x with
        | false =>
          refine ⟨_, rfl, iteT (iteT ?_)⟩
          have ng : ¬ GoodTo xs (i + 1) := fun ⟨ms, e, hm, _⟩ => by
            rw [tk1] at e
            have hxm : x ∈ ms.map V.str := by rw [← e]; simp
            obtain ⟨y, hy, rfl⟩ := List.mem_map.mp hxm
            have : vnm (.str y) = true := nmB_iff.mpr (hm y hy)
            rw [vn] at this
            cases this
          refine ⟨_, rfl, (fit (by simp)), fun t2 ht2 => ?_⟩
          exact k (.bad (some i)) _ _ (.bad hi good ng) (S3.trans (same_new ht2)) ⟨t2, rfl, upd_same⟩
        | true =>
          obtain ⟨z, rfl⟩ : ∃ z, x = .str z := by
            cases x <;> first | exact ⟨_, rfl⟩ | cases vn
          have nz : IsNm z := nmB_iff.mp vn
          refine ⟨_, rfl, iteF ?_⟩
          refine ⟨_, rfl, _, rfl, z, pk, ns, rfl, rfl, .inl (SqL.of e3), ?_⟩
          by_cases hz : z ∈ ns
          · rw [decide_eq_true hz]
            refine ⟨_, rfl, iteT ?_⟩
            have ng : ¬ GoodTo xs (i + 1) := fun ⟨ms, e, hm, hd⟩ => by
              rw [tk1] at e
              have e2 : ms = ns ++ [z] := by
                have := congrArg (List.filterMap fun v => match v with | V.str y => some y | _ => none) e
                simpa [List.filterMap_map, Function.comp_def] using this.symm
              rw [e2] at hd
              exact (List.nodup_append.mp hd).2.2 z hz z (List.mem_singleton.mpr rfl) rfl
            refine ⟨_, rfl, (fit (by simp)), fun t2 ht2 => ?_⟩
            exact k (.bad (some i)) _ _ (.bad hi good ng) (S3.trans (same_new ht2)) ⟨t2, rfl, upd_same⟩
          · rw [decide_eq_false hz]
            refine ⟨_, rfl, iteF ?_⟩
            have nd2 : (ns ++ [z]).Nodup := List.nodup_append.mpr ⟨nd, by simp, fun a ha b hb e => by rw [List.mem_singleton.mp hb] at e; exact hz (e ▸ ha)⟩
            have nm2 : ∀ n ∈ ns ++ [z], IsNm n := fun n hn => by
              rcases List.mem_append.mp hn with hn | hn
              · exact nm n hn
              · rw [List.mem_singleton.mp hn]; exact nz
            refine ⟨_, rfl, .inl ⟨rfl, _, SqL.of e3⟩, _, rfl, ?_⟩
            refine ⟨_, _, _, rfl, rfl, e3, (fits (by rw [List.length_map]; omega)), ?_⟩
            exact ⟨_, _, ns ++ [z], rfl, Same.skip1 ((s1.trans sT).trans s3) nk, by rw [upd_same, List.map_append]; rfl, by rw [tk1, List.map_append]; rfl, nm2, nd2⟩
      · rintro σ H1 ⟨x3, x4, ns, rfl, s1, e1, tk, nm, nd⟩
        rw [List.take_length] at tk
        subst tk
        have good : GoodTo (ns.map V.str) (ns.map V.str).length := ⟨ns, by rw [List.take_length], nm, nd⟩
        have hx4 := hx1.same s1
        have S1 := sb.trans s1
        refine ⟨_, rfl, p, _, rfl, hx4.seq, _, rfl, _, _, rfl, rfl, _, rfl, ite2 (fun hm => ?_) fun hm => ?_⟩
        · have hm : l < (ns.map V.str).length := by simpa using hm
          refine ⟨_, rfl, (fit (by simp)), fun t2 ht2 => ?_⟩
          exact k (.many l) _ _ (.many h0 good hm) (S1.trans (same_new ht2)) ⟨t2, rfl, upd_same⟩
        · have hm : (ns.map V.str).length ≤ l := by simpa using hm
          refine row_walk hx4 rfl fun J G wk hG D hD => lc_same wk (ns.map V.str) (fun v => some v) rfl (yat _) hD hG (fits (by omega)) (fun x hxm H2 s2 Kt Kf k1 k2 => ⟨rfl, ?_⟩) fun H2 s2 e2 => ?_
          · obtain ⟨y, hy, rfl⟩ := List.mem_map.mp hxm
            refine ⟨_, rfl, _, rfl, ?_⟩
            exact k1 _ _ rfl (Same.refl _)
          · rw [show (ns.map V.str).filterMap (fun v => some v) = ns.map V.str by simp] at e2
            have len : ns.length < 64 := by rw [List.length_map] at few; omega
            refine ⟨_, _, rfl, (SqL.of e2), len, fun yss8 ps9 hs10 es11 ns12 => ?_⟩
            generalize gs14 : upd H2 ps9 (HO.lst (List.map V.str yss8)) = Hs13
            obtain ⟨ss16, es15⟩ := gen_new gs14 ns12
            clear gs14
            refine ⟨_, _, rfl, .inl ⟨(SqL.of es15), fun ls19 ns20 => ?_⟩⟩
            generalize gs22 : upd Hs13 ls19 (HO.tup (List.map V.str yss8)) = Hs21
            obtain ⟨ss24, es23⟩ := gen_new gs22 ns20
            clear gs22
            exact k (.ok yss8) _ _ (.ok h0 good hm es11 (hs10.map _)) (((S1.trans s2).trans ss16).trans ss24) ⟨_, rfl, es23⟩
theorem d_law_due (e : Ev K mg base) : DefN P w K mg base 4 "_law_due" ["some", "limit"] (spDue2 K) := by
  obtain ⟨fd, F⟩ := e.c.def_ 17 (d := dd "_law_due" 21) rfl
  exact ⟨⟨fd, ok_law_due F e, FunD.bindsN F fun _ _ _ _ _ _ us hl => match us, hl with | [_, _], _ => rfl⟩, F.kp, He.glo_ok e.X e.G (e.c.fact 31 rfl)⟩
theorem hosts_mk (e : Ev K mg base) : ∃ fd, FnOk P w K mg base (CX P w) 4 (He.ga K "hosts_of") fd ["values", "most"] (spHosts2 K) ∧ PySem.W.keepIn K (.ref (He.ga K "hosts_of")) = true ∧ mg "hosts_of" = some (.ref (He.ga K "hosts_of")) ∧
    (∃ ds, Vals [V.int 40] ds ∧ Binds K fd ["values", "most"] ds) ∧ Binds K fd ["values", "most"] [] ∧ ∃ g, KBn K fd ["values", "most"] 0 ["most", "values"] g (fun us ws => us ++ ws.reverse) := by
  obtain ⟨fd, F, D⟩ := d_hosts_of (P := P) (w := w) e
  obtain ⟨ds, v, b⟩ := FunD.binds1 (ps := ["values", "most"]) D 1 0 (by simp) rfl (fun T kV doc pm an cdv ct us its h1 h2 => match us, its, h1, h2 with
    | [_], [_], _, _ => ⟨_, rfl, rfl⟩)
  obtain ⟨ds', v', b'⟩ := FunD.binds1 (ps := ["values", "most"]) D 2 1 (by simp) rfl (fun T kV doc pm an cdv ct us its h1 h2 => match us, its, h1, h2 with
    | [_, _], [_], _, _ => ⟨_, rfl, rfl⟩)
  obtain ⟨its2, kb2⟩ := FunD.kbindsD (ps := ["values", "most"]) D 0 ["most", "values"] (fun us its ws => us ++ ws.reverse) (by simp) (fun r1 _ r3 => r1.append r3.reverse) (fun T kV doc pm an cdv ct us its ws h1 h2 h3 => match us, its, ws, h1, h2, h3 with
    | [], [_], [_, _], _, _, _ => ⟨_, rfl, rfl⟩)
  cases v'
  exact ⟨fd, F, D.kp, g_hosts_of e, ⟨ds, v, b⟩, b', _, kb2⟩
theorem sc_law_heard : FnScope ["ask", "caught", "found", "error"] ["ask"] (defScope (top 22)) := ⟨rfl, rfl, rfl, by decide +kernel, rfl, by decide +kernel, by decide +kernel⟩
/-- what the law makes of a call: what it gives, or the error told -/
def TTdue (K : PySem.W.Frag) : (XK → Hp → VK → Prop) → Hp → VK → Prop := fun tl H Q => ∀ H1, Same H H1 → ∃ (E : XK) (Q0 : VK), tl E H1 Q0 ∧
  (∀ cls d H', E cls d H' → (cls = .ref (He.ga K "BadHosts") ∧ ∃ (dd : Addr) (v : V), d = some dd ∧ H' dd = some (.xd [("at", v)]) ∧ ∀ t H'', Same H' H'' → H' t = none → H'' t = some (.tup [.str "hosts", v]) → Q (.ref t) H'') ∨
    (cls = .ref (He.ga K "TooMany") ∧ ∃ (dd : Addr) (n : Int), d = some dd ∧ H' dd = some (.xd [("most", .int n), ("what", .str "hosts")]) ∧ ∀ t H'', Same H' H'' → H' t = none → H'' t = some (.tup [.str "many", .str "hosts", .int n]) → Q (.ref t) H'')) ∧
  ∀ v H', Q0 v H' → Q v H'
theorem heard_gives {X : Cx} (e : Ev X.K X.mg X.base) (hr : Room 4 X.A) {g : Addr} {cdg : Value} {q : Str} : LamX.GivesTo X ["ask", "caught", "found", "error"] "_law_heard" (defScope (top 22)) g cdg (defBody (top 22)) "ask" q (TTdue X.K) := by
  intro f c' s H Q tl act hc h
  have nd := sc_law_heard.nd
  refine ⟨_, pss_cons (ps_asg (pe_tup (pa_cons pe_non (pa_cons pe_non pa_nil))) (pg_tup (by rfl) (pgs_cons (pg_name (i := 1) nd rfl (Or.inl rfl)) (pgs_cons (pg_name (i := 2) nd rfl (Or.inl rfl)) pgs_nil))))
    (C8.pss_cut (ps_try_keep (Wout := fun _ _ _ _ => False) (c := .ref (He.ga X.K "SeenError")) (i := 3) (tb := fun W => tAsk 4 2 f c' q tl W) rfl rfl rfl nd rfl rfl ⟨rfl, by decide, .inl (g_SeenError e)⟩ takes0
        (fun W pn xe tk _ => ps_ask (by rfl) (fun te h => ps_set (i := 2) nd rfl (Or.inl rfl) h) (fun E hW => act _ pn xe E _ _ (takes_len tk) hW))
        (fun a oe cls d pn _ _ => pss_one (ps_set (i := 1) nd rfl (Or.inl rfl) (pv 3))))
      (pss_cons (ps_if (pt_cmpR op_isN (pv 1) pe_non (nomark _)) (pss_one (ps_ret (pv 2))) pss_nil)
      (pss_cons (ps_if (pt_val (pe_callB (kcall_isX (K := X.K)) (by rfl) (f_isinstance e) (by decide +kernel) (pa_cons (pv 1) (pa_cons (pe_glob (by rfl) (g_TooMany e) (show RelV (.ref (He.ga X.K "TooMany")) (.ref (He.ga X.K "TooMany")) from rfl)) pa_nil)))) (pss_one (ps_ret (pe_tup (pa_cons pe_str (pa_cons (pe_xk (K := X.K) (pv 1)) (pa_cons (pe_xk (K := X.K) (pv 1)) pa_nil)))))) pss_nil)
        (pss_one (ps_ret (pe_ifExp (pt_val (pe_callB (kcall_isX (K := X.K)) (by rfl) (f_isinstance e) (by decide +kernel) (pa_cons (pv 1) (pa_cons (pe_glob (by rfl) (g_BadHosts e) (show RelV (.ref (He.ga X.K "BadHosts")) (.ref (He.ga X.K "BadHosts")) from rfl)) pa_nil)))) (pe_tup (pa_cons pe_str (pa_cons (pe_xk (K := X.K) (pv 1)) pa_nil))) (pe_tup (pa_cons pe_str pa_nil)))))))), ?_⟩
  refine ⟨by show 2 ≤ sizeLine; decide, fun t ht => ⟨t, _, rfl, SqT.of upd_same, rfl, _, _, rfl, _, _, rfl, rfl, ?_⟩⟩
  obtain ⟨E, Q0, h1, h2, h3⟩ := h _ (same_new (o := .tup [.non, .non]) ht)
  refine ⟨fun σ' H' => (∃ (v : V), σ' = [some (.ref f), some .non, some v, none] ∧ Q v H') ∨
      (∃ (a dd : Addr) (v : V) (s0 s2 : Option V), σ' = [s0, some (.ref a), s2, none] ∧ H' a = some (ExK (.ref (He.ga X.K "BadHosts")) (some dd) a) ∧ H' dd = some (.xd [("at", v)]) ∧ ∀ t H'', Same H' H'' → H' t = none → H'' t = some (.tup [.str "hosts", v]) → Q (.ref t) H'') ∨
      (∃ (a dd : Addr) (n : Int) (s0 s2 : Option V), σ' = [s0, some (.ref a), s2, none] ∧ H' a = some (ExK (.ref (He.ga X.K "TooMany")) (some dd) a) ∧ H' dd = some (.xd [("most", .int n), ("what", .str "hosts")]) ∧ ∀ t H'', Same H' H'' → H' t = none → H'' t = some (.tup [.str "many", .str "hosts", .int n]) → Q (.ref t) H''), ?_, ?_⟩
  · refine ⟨E, Q0, fun cls d σ' H' eh hl => ?_, rfl, (by rw [upd_ne (ne_of_none hc ht)]; exact hc), h1, fun v H1 q => ?_⟩
    · rcases h2 cls d H' eh with ⟨rfl, dd, v, rfl, hdd, hk⟩ | ⟨rfl, dd, n, rfl, hdd, hk⟩
      · refine ⟨true, exm_BadHosts_SeenError e, nofun, fun _ a ha => ?_⟩
        match σ', hl with
        | [s0, s1, s2, s3], _ => exact ⟨_, rfl, .inr (.inl ⟨a, dd, v, s0, s2, rfl, upd_same, by rw [upd_ne (ne_of_none hdd ha)]; exact hdd, fun t H'' s n et => hk t H'' ((same_new ha).trans s) (same_none (same_new ha) n) et⟩)⟩
      · refine ⟨true, exm_TooMany_SeenError e, nofun, fun _ a ha => ?_⟩
        match σ', hl with
        | [s0, s1, s2, s3], _ => exact ⟨_, rfl, .inr (.inr ⟨a, dd, n, s0, s2, rfl, upd_same, by rw [upd_ne (ne_of_none hdd ha)]; exact hdd, fun t H'' s n et => hk t H'' ((same_new ha).trans s) (same_none (same_new ha) n) et⟩)⟩
    · exact .inl ⟨v, rfl, h3 v H1 q⟩
  · rintro σ' H' (⟨v, rfl, hk⟩ | ⟨a, dd, v, s0, s2, rfl, ha, hdd, hk⟩ | ⟨a, dd, n, s0, s2, rfl, ha, hdd, hk⟩)
    · refine ⟨_, rfl, rfl, _, rfl, iteT ?_⟩
      exact ⟨_, rfl, hk⟩
    · refine ⟨_, rfl, rfl, _, rfl, iteF ?_⟩
      refine ⟨_, rfl, .inr ⟨a, _, _, _, _, false, rfl, ha, (fun d2 z => by cases z; exact ⟨_, hdd⟩), (err_BadHosts e).xc, .own _, (isn_BadHosts_TooMany e), _, rfl, iteF ?_⟩⟩
      refine ⟨_, rfl, .inr ⟨a, _, _, _, _, true, rfl, ha, (fun d2 z => by cases z; exact ⟨_, hdd⟩), (err_BadHosts e).xc, .own _, kit_same, _, rfl, iteT ?_⟩⟩
      refine ⟨_, rfl, a, _, dd, _, v, rfl, ha, hdd, (err_BadHosts e).xf, no_BadHosts_at e, rfl, ?_⟩
      exact ⟨by show 2 ≤ sizeLine; decide, fun t ht => hk t _ (same_new ht) ht upd_same⟩
    · refine ⟨_, rfl, rfl, _, rfl, iteF ?_⟩
      refine ⟨_, rfl, .inr ⟨a, _, _, _, _, true, rfl, ha, (fun d2 z => by cases z; exact ⟨_, hdd⟩), (err_TooMany e).xc, .own _, kit_same, _, rfl, iteT ?_⟩⟩
      refine ⟨_, rfl, a, _, dd, _, .str "hosts", rfl, ha, hdd, (err_TooMany e).xf, no_TooMany_what e, rfl, ?_⟩
      refine ⟨_, rfl, a, _, dd, _, .int n, rfl, ha, hdd, (err_TooMany e).xf, no_TooMany_most e, rfl, ?_⟩
      exact ⟨by show 3 ≤ sizeLine; decide, fun t ht => hk t _ (same_new ht) ht upd_same⟩
theorem pe_heardD {X : Cx} (e : Ev X.K X.mg X.base) {k : Nat} (hk : 2 ≤ k) {p : He.Defn} {T : List (Addr × Str)} (hT : ((He.cT X.K p).2, X.env.qual ++ "<lambda>") ∈ T ∧ ∀ q ∈ T, q.1 = (He.cT X.K p).2 → q.2 = X.env.qual ++ "<lambda>") (hp : p ∈ tf) {params : Arguments} {body : Expr} {scope : Scope} {t : XK → TE} {p1 lpos pos : Pos} (hcode : X.env.code = .ref (He.codeOf X.K p)) (hr : Room (k + 2) X.A) (hg : Gl X "_law_heard") (L : LamX.LamS X.env.scope scope) (hdef : defaultsOf params X.env = ([], []))
    (hbind : ∀ (q : Str) (cl : List (Str × Addr)) (pm cv ctv : Value), bindArgs (PySem.W.kla_fn "<lambda>" q params body scope cl pm cv ctv) ⟨[], []⟩ = pure [])
    (hbody : ∀ (A : Around) (outer : List Env) (s : Shared) (H : Hp) (E : XK) (f c' : Addr), Room k (A.deeper (LamX.lamEnv X scope s.heap.objs.size f c')) → PE (LamX.lamCx X A outer s H E scope f c') body (t E)) :
    PE X (.Call (.Name "_law_heard" p1) [.Lambda params body scope lpos] [] pos) (LamX.tLam T (TTdue X.K) t) := by
  obtain ⟨fd, F⟩ := e.c.def_ 18 (d := dd "_law_heard" 22) rfl
  obtain ⟨oc, od, dV, kV, doc, pm, an, cdv, ct, osl, hfd, lk, hcd, _, _⟩ := F.ex
  subst hfd
  have hb : Binds X.K _ ["ask"] [] := FunD.bindsN (ps := ["ask"]) F fun _ _ _ _ _ _ us hl => match us, hl with | [_], _ => rfl
  exact LamX.pe_lamcall (k := k) (Ng := ["ask", "caught", "found", "error"]) (a := "ask") hg (g_law_heard e) F.kp lk hcd hb sc_law_heard rfl (.inl rfl) (heard_gives e (hr.mono (by omega))) (e.tb _ (List.mem_map.mpr ⟨p, hp, rfl⟩)) hcode hT.1 hT.2 hr L hdef hbind hbody
theorem It.ext {H H' : Hp} {v : V} {d : PyData} (s : LamX.ExtN H H') (h : It H v d) : It H' v d := by
  cases h with
  | str a b => exact .str a b
  | non => exact .non
  | bl b => exact .bl b
  | int h => exact .int h
  | tup0 h => exact .tup0 (s _ _ h nofun)
  | tup1 h n => exact .tup1 (s _ _ h nofun) n
  | lst1 h n => exact .lst1 (s _ _ h nofun) n
  | dict h => exact .dict (s _ _ h nofun)
/-- a thing that the law shows: no row, or a row of items -/
def RowOf (K : PySem.W.Frag) (H : Hp) (v : V) (r : Option (List V)) : Prop :=
  (r = none ∧ ∃ t, TyX K H v t ∧ PySem.W.kitAny K t [.type "list", .type "tuple"] = some false) ∨ ∃ p xs, r = some xs ∧ v = .ref p ∧ RowA H p xs ∧ Its H xs ∧ xs.length ≤ 60
theorem RowOf.ext {K : PySem.W.Frag} {H H' : Hp} {v : V} {r : Option (List V)} (s : LamX.ExtN H H') (h : RowOf K H v r) : RowOf K H' v r := by
  rcases h with ⟨e, t, ty, kt⟩ | ⟨p, xs, e1, e2, hx, it, few⟩
  · exact .inl ⟨e, t, tyX_ext s ty, kt⟩
  · exact .inr ⟨p, xs, e1, e2, hx.imp (fun h => s _ _ h nofun) (fun h => s _ _ h nofun), fun v hv => let ⟨d, q⟩ := it v hv; ⟨d, q.ext s⟩, few⟩
theorem RowOf.hosts {K : PySem.W.Frag} {H : Hp} {v : V} {r : Option (List V)} {l : Nat} {Q : VK} {E : XK} (h : RowOf K H v r) (k : ∀ dv, IsDue r l dv → Gives K H Q E dv) : spHosts2 K [v, .int (l : Nat)] H Q E := by
  refine ⟨v, l, rfl, ?_⟩
  rcases h with ⟨rfl, t, ty, kt⟩ | ⟨p, xs, rfl, rfl, hx, it, few⟩
  · exact .inl ⟨t, ty, kt, k⟩
  · exact .inr ⟨p, xs, rfl, hx, fun x hx => let ⟨d, q⟩ := it x hx; q.kind, by omega, k⟩
theorem told_due {K : PySem.W.Frag} {T : List (Addr × Str)} {t : XK → TE} {σ : L2.St} {H : Hp} {Q : VK} {v : V} {l : Nat} {r : Option (List V)} (hT : LamX.Tabs T H) (rd : ∀ E H2 Q0, LamX.ExtN H H2 → spHosts2 K [v, .int (l : Nat)] H2 Q0 E → t E σ H2 Q0) (kv : RowOf K H v r)
    (k : ∀ dv v' H', IsDue r l dv → LamX.ExtN H H' → LamX.Tabs T H' → dvO H' v' dv → Q v' H') : LamX.tLam T (TTdue K) t σ H Q := by
  refine ⟨hT, fun H1 eN T1 H2 s2 => ⟨fun cls d H' => (cls = .ref (He.ga K "BadHosts") ∧ ∃ dd o, d = some dd ∧ H' dd = some (.xd [("at", optI o)]) ∧ Same H2 H' ∧ IsDue r l (.bad o)) ∨ (cls = .ref (He.ga K "TooMany") ∧ ∃ dd n, d = some dd ∧ H' dd = some (.xd [("most", .int (n : Nat)), ("what", .str "hosts")]) ∧ Same H2 H' ∧ IsDue r l (.many n)),
    fun v' H' => ∃ ys t, v' = .ref t ∧ H' t = some (.tup (ys.map V.str)) ∧ Same H2 H' ∧ IsDue r l (.ok ys), ?_, ?_, ?_⟩⟩
  · have e2 : LamX.ExtN H H2 := eN.trans (extS s2)
    refine rd _ H2 _ e2 ((kv.ext e2).hosts fun dv hd => ?_)
    cases dv with
    | bad o => exact fun d H' s n e => .inl ⟨rfl, d, o, rfl, e, s, hd⟩
    | many m => exact fun d H' s n e => .inr ⟨rfl, d, m, rfl, e, s, hd⟩
    | ok ys => exact fun t H' s n e => ⟨ys, t, rfl, e, s, hd⟩
  · have eH : ∀ {H' H''}, Same H2 H' → Same H' H'' → LamX.ExtN H H'' := fun s s' => (eN.trans (extS s2)).trans (extS (s.trans s'))
    rintro cls d H' (⟨rfl, dd, o, rfl, hd, s, hr⟩ | ⟨rfl, dd, n, rfl, hd, s, hr⟩)
    · exact .inl ⟨rfl, dd, optI o, rfl, hd, fun t H'' s' _ et => k _ _ H'' hr (eH s s') (((T1.ext s2).ext s).ext s') ⟨t, rfl, et⟩⟩
    · exact .inr ⟨rfl, dd, n, rfl, hd, fun t H'' s' _ et => k _ _ H'' hr (eH s s') (((T1.ext s2).ext s).ext s') ⟨t, rfl, et⟩⟩
  · rintro v' H' ⟨ys, t, rfl, et, s, hr⟩
    exact k _ _ H' hr ((eN.trans (extS s2)).trans (extS s)) ((T1.ext s2).ext s) ⟨t, rfl, et⟩
/-- what is due is one thing -/
theorem IsDue.one {r : Option (List V)} {l : Nat} {a b : Dv} (h : IsDue r l a) (h' : IsDue r l b) : a = b := by
  have goodLe : ∀ {vs : List V} {i j : Nat}, i ≤ j → GoodTo vs j → GoodTo vs i := fun {vs i j} hij ⟨ns, e, nm, nd⟩ => by
    refine ⟨ns.take i, ?_, fun n hn => nm n (List.mem_of_mem_take hn), nd.sublist (List.take_sublist ..)⟩
    rw [List.map_take, ← e, List.take_take, Nat.min_eq_left hij]
  cases h with
  | non => cases h'; rfl
  | nil =>
    cases h' with
    | nil => rfl
    | bad hi => simp at hi
    | many ne => exact absurd rfl ne
    | ok ne => exact absurd rfl ne
  | @bad vs l i hi g ng =>
    cases h' with
    | nil => simp at hi
    | @bad _ _ j hj g' ng' =>
      have : i = j := by
        rcases Nat.lt_trichotomy i j with q | q | q
        · exact absurd (goodLe q g') ng
        · exact q
        · exact absurd (goodLe q g) ng'
      rw [this]
    | many ne g' => exact absurd (goodLe hi g') ng
    | ok ne g' => exact absurd (goodLe hi g') ng
  | many ne g hl =>
    cases h' with
    | nil => exact absurd rfl ne
    | bad hi g' ng' => exact absurd (goodLe hi g) ng'
    | many => rfl
    | ok ne' g' hl' => omega
  | @ok vs l ys ne g hl so pm =>
    cases h' with
    | nil => exact absurd rfl ne
    | bad hi g' ng' => exact absurd (goodLe hi g) ng'
    | many ne' g' hl' => omega
    | @ok _ _ zs ne' g' hl' so' pm' =>
      have p : ys.Perm zs := by
        have := (pm.trans pm'.symm).filterMap fun v => match v with | V.str y => some y | _ => none
        simpa [List.filterMap_map, Function.comp_def] using this
      have nd : zs.Nodup := by
        obtain ⟨ns, e, _, nd⟩ := g
        rw [List.take_length] at e
        have := (pm'.trans (by rw [e])).filterMap (fun v => match v with | V.str y => some y | _ => none) (l₂ := ns.map V.str)
        have : zs.Perm ns := by simpa [List.filterMap_map, Function.comp_def] using this
        exact this.nodup_iff.mpr nd
      rw [AscOf.unique (AscOf.perm p so nd) (AscOf.perm (List.Perm.refl zs) so' nd)]
def lamQ (n : Str) : Str := (envOfC n (defScope (top 0)) 0 0 .none).qual ++ "<lambda>"
def lamT (K : PySem.W.Frag) : List (Addr × Str) := [((He.cT K ("law", none)).2, lamQ "law")]
theorem lamT_one {K : PySem.W.Frag} : ((He.cT K ("law", none)).2, lamQ "law") ∈ lamT K ∧ ∀ q ∈ lamT K, q.1 = (He.cT K ("law", none)).2 → q.2 = lamQ "law" := ⟨.head _, fun q hq _ => by rw [List.mem_singleton.mp hq]⟩
section
variable {X : Cx} {E : XK} {a b : Expr} {ta tk : TA} {p pos p1 p2 : Pos}
theorem pe_hosts2 (e : Ev X.K X.mg X.base) (hr : Room 4 X.A) (hg : Gl X "hosts_of") (hx : Passes (CX X.prog X.w) X E) (ha : PA X [a, b] ta) (he : starEach [a, b] X.env = (false, eval a X.env) :: starEach [b] X.env) (hpl : (backTo pos (starEach [b] X.env)).any (·.1) = false) : PE X (.Call (.Name "hosts_of" p) [a, b] [] pos) (tCall (spHosts2 X.K) [] E ta) := by
  obtain ⟨fd, F, kp, gl, _, b, _⟩ := hosts_mk (P := X.prog) (w := X.w) e
  exact pe_call F hr hg gl kp b .nil hx ha (by decide) he hpl
theorem pe_hosts1 (e : Ev X.K X.mg X.base) (hr : Room 4 X.A) (hg : Gl X "hosts_of") (hx : Passes (CX X.prog X.w) X E) (ha : PA X [a] ta) (he : starEach [a] X.env = (false, eval a X.env) :: starEach [] X.env) (hpl : (backTo pos (starEach [] X.env)).any (·.1) = false) : PE X (.Call (.Name "hosts_of" p) [a] [] pos) (tCall (spHosts2 X.K) [.int 40] E ta) := by
  obtain ⟨fd, F, kp, gl, ⟨ds, v, b⟩, _⟩ := hosts_mk (P := X.prog) (w := X.w) e
  exact pe_call F hr hg gl kp b v hx ha (by decide) he hpl
def tHostsK (K : PySem.W.Frag) (E : XK) (tk : TA) : TE := fun σ H Q => tk σ H fun zs H2 => zs.length = 2 ∧ spHosts2 K (zs.reverse) H2 Q E
theorem pe_hostsK (e : Ev X.K X.mg X.base) (hr : Room 4 X.A) (hg : Gl X "hosts_of") (hx : Passes (CX X.prog X.w) X E) (hkw : PK X [⟨some "most", a, p1⟩, ⟨some "values", b, p2⟩] tk) (hall : (backToKw pos (keywordEach [⟨some "most", a, p1⟩, ⟨some "values", b, p2⟩] X.env)).all (·.1.isSome) = true) (hks : (backToKw pos (keywordEach [⟨some "most", a, p1⟩, ⟨some "values", b, p2⟩] X.env)).filterMap (·.1) = (["most", "values"] : List Str))
    (hpl : ((backTo pos (starEach [] X.env)).any (·.1) || (backToKw pos (keywordEach [⟨some "most", a, p1⟩, ⟨some "values", b, p2⟩] X.env)).any (·.1.isNone)) = false) : PE X (.Call (.Name "hosts_of" p) [] [⟨some "most", a, p1⟩, ⟨some "values", b, p2⟩] pos) (tHostsK X.K E tk) := by
  obtain ⟨fd, F, kp, gl, _, _, g, kb⟩ := hosts_mk (P := X.prog) (w := X.w) e
  constructor
  intro pins s σ H Q I want
  refine wpAny_Call_Name_kw (ld_glob I hg gl ?_ (by decide))
  refine PySem.W.callWith_KW0 (h₀ := X.base) I.ok.mod.kin kp hall (thn (hkw.run pos pins s σ H _ I want) ?_) hpl
  rintro ws s2 ⟨zs, H2, J, rz, l, q⟩
  refine ⟨J.kIn, ?_⟩
  rw [hks]
  exact run_fnN (us := []) (vs := []) F hr kb hx J .nil rz rfl l q
end
section
variable {X : Cx} {params : Arguments} {a b : Expr} {scope : Scope} {ta tk : TA} {p1 p2 p3 q1 q2 lpos pos : Pos} {T : List (Addr × Str)} {pp : He.Defn}
theorem pe_due2 (e : Ev X.K X.mg X.base) (hT : ((He.cT X.K pp).2, X.env.qual ++ "<lambda>") ∈ T ∧ ∀ q ∈ T, q.1 = (He.cT X.K pp).2 → q.2 = X.env.qual ++ "<lambda>") (hp : pp ∈ tf) (hcode : X.env.code = .ref (He.codeOf X.K pp)) (hr : Room 6 X.A) (hg : Gl X "_law_heard") (L : LamX.LamS X.env.scope scope) (hF : scope.names.lookup ("hosts_of" : Str) = some .globalImplicit) (hdef : defaultsOf params X.env = ([], []))
    (hbind : ∀ (q : Str) (cl : List (Str × Addr)) (pm cv ctv : Value), bindArgs (PySem.W.kla_fn "<lambda>" q params (.Call (.Name "hosts_of" p2) [a, b] [] p3) scope cl pm cv ctv) ⟨[], []⟩ = pure [])
    (he : ∀ env, starEach [a, b] env = (false, eval a env) :: starEach [b] env) (hpl : ∀ env, (backTo p3 (starEach [b] env)).any (·.1) = false)
    (ha : ∀ (A : Around) (outer : List Env) (s : Shared) (H : Hp) (E : XK) (f c' : Addr), PA (LamX.lamCx X A outer s H E scope f c') [a, b] ta) :
    PE X (.Call (.Name "_law_heard" p1) [.Lambda params (.Call (.Name "hosts_of" p2) [a, b] [] p3) scope lpos] [] pos) (LamX.tLam T (TTdue X.K) (fun E => tCall (spHosts2 X.K) [] E ta)) :=
  pe_heardD e (k := 4) (by decide) hT hp hcode hr hg L hdef hbind fun A outer s H E f c' hr2 => pe_hosts2 (X := LamX.lamCx X A outer s H E scope f c') e hr2 hF (passes_call (takes_of rfl rfl rfl rfl) fun _ _ _ _ h => h) (ha A outer s H E f c') (he _) (hpl _)
theorem pe_due1 (e : Ev X.K X.mg X.base) (hT : ((He.cT X.K pp).2, X.env.qual ++ "<lambda>") ∈ T ∧ ∀ q ∈ T, q.1 = (He.cT X.K pp).2 → q.2 = X.env.qual ++ "<lambda>") (hp : pp ∈ tf) (hcode : X.env.code = .ref (He.codeOf X.K pp)) (hr : Room 6 X.A) (hg : Gl X "_law_heard") (L : LamX.LamS X.env.scope scope) (hF : scope.names.lookup ("hosts_of" : Str) = some .globalImplicit) (hdef : defaultsOf params X.env = ([], []))
    (hbind : ∀ (q : Str) (cl : List (Str × Addr)) (pm cv ctv : Value), bindArgs (PySem.W.kla_fn "<lambda>" q params (.Call (.Name "hosts_of" p2) [a] [] p3) scope cl pm cv ctv) ⟨[], []⟩ = pure [])
    (he : ∀ env, starEach [a] env = (false, eval a env) :: starEach [] env) (hpl : ∀ env, (backTo p3 (starEach [] env)).any (·.1) = false)
    (ha : ∀ (A : Around) (outer : List Env) (s : Shared) (H : Hp) (E : XK) (f c' : Addr), PA (LamX.lamCx X A outer s H E scope f c') [a] ta) :
    PE X (.Call (.Name "_law_heard" p1) [.Lambda params (.Call (.Name "hosts_of" p2) [a] [] p3) scope lpos] [] pos) (LamX.tLam T (TTdue X.K) (fun E => tCall (spHosts2 X.K) [.int 40] E ta)) :=
  pe_heardD e (k := 4) (by decide) hT hp hcode hr hg L hdef hbind fun A outer s H E f c' hr2 => pe_hosts1 (X := LamX.lamCx X A outer s H E scope f c') e hr2 hF (passes_call (takes_of rfl rfl rfl rfl) fun _ _ _ _ h => h) (ha A outer s H E f c') (he _) (hpl _)
theorem pe_dueK (e : Ev X.K X.mg X.base) (hT : ((He.cT X.K pp).2, X.env.qual ++ "<lambda>") ∈ T ∧ ∀ q ∈ T, q.1 = (He.cT X.K pp).2 → q.2 = X.env.qual ++ "<lambda>") (hp : pp ∈ tf) (hcode : X.env.code = .ref (He.codeOf X.K pp)) (hr : Room 6 X.A) (hg : Gl X "_law_heard") (L : LamX.LamS X.env.scope scope) (hF : scope.names.lookup ("hosts_of" : Str) = some .globalImplicit) (hdef : defaultsOf params X.env = ([], []))
    (hbind : ∀ (q : Str) (cl : List (Str × Addr)) (pm cv ctv : Value), bindArgs (PySem.W.kla_fn "<lambda>" q params (.Call (.Name "hosts_of" p2) [] [⟨some "most", a, q1⟩, ⟨some "values", b, q2⟩] p3) scope cl pm cv ctv) ⟨[], []⟩ = pure [])
    (hall : ∀ env, (backToKw p3 (keywordEach [⟨some "most", a, q1⟩, ⟨some "values", b, q2⟩] env)).all (·.1.isSome) = true) (hks : ∀ env, (backToKw p3 (keywordEach [⟨some "most", a, q1⟩, ⟨some "values", b, q2⟩] env)).filterMap (·.1) = (["most", "values"] : List Str))
    (hpl : ∀ env, ((backTo p3 (starEach [] env)).any (·.1) || (backToKw p3 (keywordEach [⟨some "most", a, q1⟩, ⟨some "values", b, q2⟩] env)).any (·.1.isNone)) = false)
    (ha : ∀ (A : Around) (outer : List Env) (s : Shared) (H : Hp) (E : XK) (f c' : Addr), PK (LamX.lamCx X A outer s H E scope f c') [⟨some "most", a, q1⟩, ⟨some "values", b, q2⟩] tk) :
    PE X (.Call (.Name "_law_heard" p1) [.Lambda params (.Call (.Name "hosts_of" p2) [] [⟨some "most", a, q1⟩, ⟨some "values", b, q2⟩] p3) scope lpos] [] pos) (LamX.tLam T (TTdue X.K) (fun E => tHostsK X.K E tk)) :=
  pe_heardD e (k := 4) (by decide) hT hp hcode hr hg L hdef hbind fun A outer s H E f c' hr2 => pe_hostsK (X := LamX.lamCx X A outer s H E scope f c') e hr2 hF (passes_call (takes_of rfl rfl rfl rfl) fun _ _ _ _ h => h) (ha A outer s H E f c') (hall _) (hks _) (hpl _)
end
/-- repr tells it, then and later, by z -/
def ShownBy (K : PySem.W.Frag) (H : Hp) (v : V) (z : Str) : Prop := ∀ H' Q, LamX.ExtN H H' → Q (.str z) H' → rReprI K [v] H' Q
theorem ShownBy.ext {K : PySem.W.Frag} {H H' : Hp} {v : V} {z : Str} (s : LamX.ExtN H H') (h : ShownBy K H v z) : ShownBy K H' v z := fun H2 Q e q => h H2 Q (s.trans e) q
theorem shown_row {K : PySem.W.Frag} {H : Hp} {p : Addr} {vs : List V} (hx : RowA H p vs) (it : Its H vs) (few : vs.length ≤ 60) : ∃ z, ShownBy K H (.ref p) z := by
  obtain ⟨ds, r⟩ := it.row
  obtain ⟨h1, h2, h3, h4⟩ := its_fit r (by omega)
  have up : ∀ H', LamX.ExtN H H' → RowsR (ItD K) H' vs ds := fun H' e => r.imp fun v d _ q => (q.ext e).itd
  rcases hx with hx | hx
  · exact ⟨_, fun H' Q e q => .inr (.inl ⟨p, vs, ds, rfl, e _ _ hx nofun, up H' e, h1, h2, h3, q⟩)⟩
  · exact ⟨_, fun H' Q e q => .inr (.inr (.inl ⟨p, vs, ds, rfl, e _ _ hx nofun, up H' e, h1, h2, h4, q⟩))⟩
theorem shown_lit {K : PySem.W.Frag} {H : Hp} {v : V} {z : Str} (h : ReprV K H v z) : ShownBy K H v z := fun H' Q e q => .inl ((h.ext e).go q)
theorem shown_one {K : PySem.W.Frag} {H : Hp} {p : Addr} (h : H p = some (.dK [(Sum.inr "a", V.int 1)])) : ∃ z, ShownBy K H (.ref p) z := ⟨_, fun H' Q e q => .inr (.inr (.inr ⟨p, rfl, e _ _ h nofun, q⟩))⟩
def NmOf (K : PySem.W.Frag) (H : Hp) (v : V) : Prop := (∃ x, v = .str x ∧ x.length ≤ sizeLine ∧ Plain x) ∨ ∃ t, TyX K H v t ∧ PySem.W.kitOne K t (.type "str") = some false ∧ vnm v = false
theorem NmOf.ext {K : PySem.W.Frag} {H H' : Hp} {v : V} (s : LamX.ExtN H H') (h : NmOf K H v) : NmOf K H' v := h.imp id fun ⟨t, ty, k, e⟩ => ⟨t, tyX_ext s ty, k, e⟩
theorem tyX_pen {K : PySem.W.Frag} {H H' : Hp} {v : V} {t : Value} {p : Addr} {L M : List V} (P : H p = some (.lst L)) (P' : H' p = some (.lst M)) (b : But p H H') (h : TyX K H v t) : TyX K H' v t := by
  cases h with
  | base h =>
    refine .base ?_
    cases h with
    | non => exact .non
    | bl b => exact .bl b
    | int i => exact .int i
    | str z => exact .str z
    | flt b => exact .flt b
    | @lst a xs e =>
      by_cases q : a = p
      · subst q; exact .lst P'
      · exact .lst (b _ _ q e)
    | frz e => exact .frz (b _ _ (ne_of e P nofun) e)
    | tup e => exact .tup (b _ _ (ne_of e P nofun) e)
    | dK e => exact .dK (b _ _ (ne_of e P nofun) e)
    | dT e => exact .dT (b _ _ (ne_of e P nofun) e)
    | ins e a1 b1 c1 d1 f1 => exact .ins (b _ _ (ne_of e P nofun) e) a1 b1 c1 d1 f1
  | byt b => exact .byt b
  | set e => exact .set (b _ _ (ne_of e P nofun) e)
  | kList e c => exact .kList e c
  | kTuple e c => exact .kTuple e c
  | kDict e c => exact .kDict e c
  | fTuple e => exact .fTuple (b _ _ (ne_of e P nofun) e)
  | fDict e => exact .fDict (b _ _ (ne_of e P nofun) e)
theorem NmOf.pen {K : PySem.W.Frag} {H H' : Hp} {v : V} {p : Addr} {L M : List V} (P : H p = some (.lst L)) (P' : H' p = some (.lst M)) (b : But p H H') (h : NmOf K H v) : NmOf K H' v := h.imp id fun ⟨t, ty, k, e⟩ => ⟨t, tyX_pen P P' b ty, k, e⟩
theorem NmOf.kind {K : PySem.W.Frag} {H : Hp} {v : V} (h : NmOf K H v) : Kind K H v := h.imp (fun ⟨x, e, l, _⟩ => ⟨x, e, l⟩) fun ⟨t, ty, k, _⟩ => ⟨t, ty, k⟩
/-- what the law shows -/
structure Shw (K : PySem.W.Frag) (H : Hp) (v : V) (r : Option (List V)) (z : Str) : Prop where
  row : RowOf K H v r
  sh : ShownBy K H v z
  nm : NmOf K H v
theorem Shw.ext {K : PySem.W.Frag} {H H' : Hp} {v : V} {r : Option (List V)} {z : Str} (s : LamX.ExtN H H') (h : Shw K H v r z) : Shw K H' v r z := ⟨h.row.ext s, h.sh.ext s, h.nm.ext s⟩
theorem shw_row {K : PySem.W.Frag} {H : Hp} {p : Addr} {vs : List V} (hx : RowA H p vs) (it : Its H vs) (few : vs.length ≤ 60) : ∃ r z, Shw K H (.ref p) r z := by
  obtain ⟨z, hz⟩ := shown_row (K := K) hx it few
  refine ⟨some vs, z, .inr ⟨p, vs, rfl, rfl, hx, it, few⟩, hz, .inr ?_⟩
  rcases hx with hx | hx
  · exact ⟨_, .base (.lst hx), kit_ty (by decide +kernel), rfl⟩
  · exact ⟨_, .base (.tup hx), kit_ty (by decide +kernel), rfl⟩
theorem kit_any {K : PySem.W.Frag} {a : String} (h : (kitB a "list" = some false) ∧ kitB a "tuple" = some false) : PySem.W.kitAny K (.type a) [.type "list", .type "tuple"] = some false := kitAny_cons (kit_ty h.1) (fun _ => kitAny_cons (kit_ty h.2) (fun _ => rfl) nofun) nofun
theorem shw_non {K : PySem.W.Frag} {H : Hp} : ∃ r z, Shw K H .non r z := ⟨none, _, .inl ⟨rfl, _, .base .non, kit_any (by decide +kernel)⟩, shown_lit (.of .non (by decide +kernel)), .inr ⟨_, .base .non, kit_ty (by decide +kernel), rfl⟩⟩
theorem shw_ab {K : PySem.W.Frag} {H : Hp} : ∃ r z, Shw K H (.str "ab") r z := ⟨none, _, .inl ⟨rfl, _, .base (.str _), kit_any (by decide +kernel)⟩, shown_lit (.of (.str _) (by decide +kernel)), .inl ⟨_, rfl, by decide +kernel, plain_of (by decide +kernel)⟩⟩
theorem shw_int {K : PySem.W.Frag} {H : Hp} : ∃ r z, Shw K H (.int 7) r z := ⟨none, _, .inl ⟨rfl, _, .base (.int _), kit_any (by decide +kernel)⟩, shown_lit (.of (.int _) (by decide +kernel)), .inr ⟨_, .base (.int _), kit_ty (by decide +kernel), rfl⟩⟩
theorem shw_one {K : PySem.W.Frag} {H : Hp} {p : Addr} (h : H p = some (.dK [(Sum.inr "a", V.int 1)])) : ∃ r z, Shw K H (.ref p) r z := by
  obtain ⟨z, hz⟩ := shown_one (K := K) h
  exact ⟨none, z, .inl ⟨rfl, _, .base (.dK h), kit_any (by decide +kernel)⟩, hz, .inr ⟨_, .base (.dK h), kit_ty (by decide +kernel), rfl⟩⟩
theorem Lit.int {i : Int} (h : i.natAbs < 10 ^ 12) : Lit 40 0 (.int i) := by
  have lo : ¬ i = 0 → i.natAbs.log2 < 40 := fun hz => (Nat.log2_lt (by omega)).mpr (by omega)
  refine ⟨by simp only [PyData.canLay0], ?_, ?_, ?_, by simp [PyData.depth]⟩
  rotate_left
  · simp only [PyData.showable]
    refine decide_eq_true ?_
    by_cases hz : i = 0
    · rw [hz]; decide
    · have := lo hz; omega
  rotate_left
  · simp only [PyData.weight]
    split
    · omega
    · rename_i hz
      have := lo (by intro q; apply hz; simp [q])
      omega
  · have := PyData.shown_int_le h
    simp only [PyData.intsShort]
    exact decide_eq_true this
theorem rRepr_of {K : PySem.W.Frag} {H : Hp} {Q : VK} {v : V} {d : PyData} {n k : Nat} (l : Lit n k d) (h : Dp K H v d) (q : Q (.str d.shown) H) (a : n ≤ 1000000 := by omega) (b : k ≤ 64 := by omega) : rRepr K [v] H Q := by
  obtain ⟨l1, l2, l3, l4⟩ := l.ok a b
  exact ⟨v, d, rfl, h, l1, l2, l3, l4, q⟩
def dvD : Dv → PyData
  | .bad none => .tuple [.str "hosts", .none]
  | .bad (some i) => .tuple [.str "hosts", .int (i : Nat)]
  | .many n => .tuple [.str "many", .str "hosts", .int (n : Nat)]
  | .ok ys => .tuple (ys.map PyData.str)
theorem dvO_ext {H H' : Hp} {v : V} : ∀ {dv : Dv}, LamX.ExtN H H' → dvO H v dv → dvO H' v dv
  | .bad _, s, ⟨t, e, h⟩ => ⟨t, e, s _ _ h nofun⟩
  | .many _, s, ⟨t, e, h⟩ => ⟨t, e, s _ _ h nofun⟩
  | .ok _, s, ⟨t, e, h⟩ => ⟨t, e, s _ _ h nofun⟩
theorem dvO_dp {K : PySem.W.Frag} {H : Hp} {v : V} : ∀ {dv : Dv}, dvO H v dv → Dp K H v (dvD dv)
  | .bad none, ⟨t, e, h⟩ => by subst e; exact .tup (SqT.of h) (.cons (.str _) (.cons .non .nil))
  | .bad (some i), ⟨t, e, h⟩ => by subst e; exact .tup (SqT.of h) (.cons (.str _) (.cons (.int _) .nil))
  | .many _, ⟨t, e, h⟩ => by subst e; exact .tup (SqT.of h) (.cons (.str _) (.cons (.str _) (.cons (.int _) .nil)))
  | .ok _, ⟨t, e, h⟩ => by subst e; exact .tup (SqT.of h) (dp_strs _)
theorem dvO_but {H H' : Hp} {v : V} {p : Addr} {L : List V} (hp : H p = some (.lst L)) (b : But p H H') : ∀ {dv : Dv}, dvO H v dv → dvO H' v dv
  | .bad _, ⟨t, e, h⟩ => ⟨t, e, b _ _ (ne_of h hp nofun) h⟩
  | .many _, ⟨t, e, h⟩ => ⟨t, e, b _ _ (ne_of h hp nofun) h⟩
  | .ok _, ⟨t, e, h⟩ => ⟨t, e, b _ _ (ne_of h hp nofun) h⟩
theorem tabs_lst {T : List (Addr × Str)} {H H' : Hp} {p : Addr} {L : List V} (t : LamX.Tabs T H) (hp : H p = some (.lst L)) (b : But p H H') : LamX.Tabs T H' := by
  intro q hq
  obtain ⟨ps, h1, h2, h3⟩ := t q hq
  refine ⟨ps, b _ _ (ne_of h1 hp nofun) h1, h2, fun pos cv hc => ?_⟩
  obtain ⟨d, e1, e2⟩ := h3 pos cv hc
  exact ⟨d, e1, b _ _ (ne_of e2 hp (fun z => by unfold LamX.CodeO at z; cases z)) e2⟩
theorem RowOf.few {K : PySem.W.Frag} {H : Hp} {v : V} {r : Option (List V)} (h : RowOf K H v r) : ∀ vs, r = some vs → vs.length ≤ 60 := by
  rintro vs rfl
  rcases h with ⟨e, _⟩ | ⟨p, xs, e, _, _, _, few⟩
  · cases e
  · cases e; exact few
theorem due_lit {r : Option (List V)} {l : Nat} {dv : Dv} (h : IsDue r l dv) (few : ∀ vs, r = some vs → vs.length ≤ 60) (hl : l ≤ 40) : Lit 700 1 (dvD dv) := by
  have wh : Lit 10 0 (.str "hosts") := Lit.word (word_of (by decide +kernel))
  have wm : Lit 10 0 (.str "many") := Lit.word (word_of (by decide +kernel))
  cases h with
  | non => exact (Lit.tup (.cons wh (.cons .non .nil))).mono (by decide) (by decide)
  | nil => exact (Lit.tup (.cons wh (.cons .non .nil))).mono (by decide) (by decide)
  | @bad vs _ i hi => 
    have := few vs rfl
    exact (Lit.tup (.cons wh (.cons (.int (by omega)) .nil))).mono (by decide) (by decide)
  | many => exact (Lit.tup (.cons wm (.cons wh (.cons (.int (by omega)) .nil)))).mono (by decide) (by decide)
  | @ok vs _ ys ne g hl2 so pm =>
    have len := few vs rfl
    have ly := pm.length_eq
    rw [List.length_map] at ly
    refine (Lit.strs (xs := ys) fun x hx => ?_).mono (by omega) (by decide)
    obtain ⟨ns, e, nm, _⟩ := g
    rw [List.take_length] at e
    have : V.str x ∈ ns.map V.str := by rw [← e]; exact pm.mem_iff.mp (List.mem_map.mpr ⟨x, hx, rfl⟩)
    obtain ⟨y, hy, q⟩ := List.mem_map.mp this
    rw [← V.str.inj q]
    exact nm y hy
def spLaw (K : PySem.W.Frag) : Sp := fun vs H Q _ => ∃ (a : Addr) (ns : List Int), vs = [.ref a] ∧ SqL K H a (ns.map V.int) ∧ ns.length ≤ 63 ∧ (∀ p ∈ tf.map (He.cT K), H p.2 = some (.tbl #[])) ∧ ∀ H', Q (.bl true) H'
theorem sc_law : FnScope ["script", "pen", "turn", "some", "limit", "odd", "shown", "kept", "heard", "thing"] ["script"] (defScope (top 25)) := ⟨rfl, rfl, rfl, by decide +kernel, rfl, by decide +kernel, by decide +kernel⟩
theorem ok_law {fd : FuncData} (F : FunD K "law" "law" (defArgs (top 25)) (defBody (top 25)) (defScope (top 25)) [] [] (He.ga K "law") fd) (e : Ev K mg base) : FnG P w K mg base CX0 14 (He.ga K "law") fd ["script"] (spLaw K) := by
  refine okGC (p := ("law", none)) rfl F sc_law (fun vs H Q E h => ?_) (fun A outer s H vs Q E hgu hr h => ?_)
  · obtain ⟨_, _, rfl, _⟩ := h
    rfl
  · skip
    refine ⟨_, PSs.nox ((pss_cons (ps_set (i := 1) sc_law.nd rfl (Or.inl rfl) (pe_def (d_law_pen (P := P) (w := w) (K := K) (mg := mg) (base := base) e) (hr.mono (by decide)) (by rfl) (pa_cons (pv 0) pa_nil)))
      (pss_cons (ps_for PassesOwn.never rfl (pi_range1 (by rfl) (f_range e) (pa_cons pe_int pa_nil)) (pg_name (i := 2) sc_law.nd rfl (Or.inl rfl))
      (pss_cons (ps_asg (pe_tup (pa_cons (pe_def (d_law_many (P := P) (w := w) (K := K) (mg := mg) (base := base) e) (hr.mono (by decide)) (by rfl) (pa_cons (pv 1) pa_nil)) (pa_cons (pe_def (d_law_pick (P := P) (w := w) (K := K) (mg := mg) (base := base) e) (hr.mono (by decide)) (by rfl) (pa_cons (pv 1) (pa_cons (pe_lst (pa_cons pe_int (pa_cons pe_int (pa_cons pe_int (pa_cons pe_int (pa_cons pe_int (pa_cons pe_int pa_nil))))))) pa_nil))) pa_nil))) (pg_tup (by rfl) (pgs_cons (pg_name (i := 3) sc_law.nd rfl (Or.inl rfl)) (pgs_cons (pg_name (i := 4) sc_law.nd rfl (Or.inr rfl)) pgs_nil))))
      (pss_cons (ps_set (i := 5) sc_law.nd rfl (Or.inl rfl) (pe_def (d_law_pick (P := P) (w := w) (K := K) (mg := mg) (base := base) e) (hr.mono (by decide)) (by rfl) (pa_cons (pv 1) (pa_cons (pe_lst (pa_cons pe_non (pa_cons pe_str (pa_cons (pe_disp (pps_cons pe_str pe_int pps_nil) rfl rfl (by simp) (by decide)) (pa_cons (pe_lst pa_nil) (pa_cons (pe_tup pa_nil) (pa_cons pe_int pa_nil))))))) pa_nil))))
      (pss_cons (ps_set (i := 6) sc_law.nd rfl (Or.inr rfl) (pe_def (d_law_pick (P := P) (w := w) (K := K) (mg := mg) (base := base) e) (hr.mono (by decide)) (by rfl) (pa_cons (pv 1) (pa_cons (pe_lst (pa_cons (pv 3) (pa_cons (pv 3) (pa_cons (pv 3) (pa_cons (pe_callTy (kcall_tuple_of (K := K)) (by rfl) (f_tuple e) (by decide +kernel) (pa_cons (pv 3) pa_nil)) (pa_cons (pe_callTy (kcall_tuple_of (K := K)) (by rfl) (f_tuple e) (by decide +kernel) (pa_cons (pv 3) pa_nil)) (pa_cons (pv 5) pa_nil))))))) pa_nil))))
      (pss_cons (ps_set (i := 7) sc_law.nd rfl (Or.inl rfl) (pe_callB (kcall_reprI (K := K) hgu (u70 hr)) (by rfl) (f_repr e) (by decide +kernel) (pa_cons (pv 6) pa_nil)))
      (pss_cons (ps_set (i := 8) sc_law.nd rfl (Or.inl rfl) (pe_lst (pa_cons (pe_due2 e (pp := ("law", none)) (T := lamT K) (by exact lamT_one) (by simp [tf]) rfl (hr.mono (by decide)) rfl (by exact LamX.lamS_by (sc := defScope (top 25)) (by decide +kernel)) rfl rfl (fun _ _ _ _ _ => rfl) (fun _ => rfl) (fun _ => rfl) (by exact fun _ _ _ _ _ _ _ => pa_cons (pv 6) (pa_cons (pv 4) pa_nil))) (pa_cons (pe_def (d_law_due (P := P) (w := w) (K := K) (mg := mg) (base := base) e) (hr.mono (by decide)) (by rfl) (pa_cons (pv 6) (pa_cons (pv 4) pa_nil))) pa_nil))))
      (pss_cons (ps_expr (kpe_bm (K := K) PySem.F.plainAttrs_list PySem.F.slot_list_append PySem.F.type_list_append mt_append (pv 8) (pa_cons (pe_dueK e (pp := ("law", none)) (T := lamT K) (by exact lamT_one) (by simp [tf]) rfl (hr.mono (by decide)) rfl (by exact LamX.lamS_by (sc := defScope (top 25)) (by decide +kernel)) rfl rfl (fun _ _ _ _ _ => rfl) (fun _ => rfl) (fun _ => rfl) (fun _ => rfl) (by exact fun _ _ _ _ _ _ _ => pk_cons (pv 4) (pk_cons (pv 6) pk_nil))) pa_nil)))
      (pss_cons (ps_if (PW.pt (pw_or (pt_cmpR op_ne (pe_callB (kcall_repr (K := K) hgu (u70 hr)) (by rfl) (f_repr e) (by decide +kernel) (pa_cons (pv 8) pa_nil)) (pe_callB (kcall_repr (K := K) hgu (u70 hr)) (by rfl) (f_repr e) (by decide +kernel) (pa_cons (pe_op op_rep (pe_lst (pa_cons (pe_ix (kix_list (K := K)) (pv 8) pe_int (fun _ _ => rfl)) pa_nil)) pe_int) pa_nil)) (nomark _)) (pw_or1 (pt_cmpR op_ne (pe_callB (kcall_reprI (K := K) hgu (u70 hr)) (by rfl) (f_repr e) (by decide +kernel) (pa_cons (pv 6) pa_nil)) (pv 7) (nomark _)))))
      (pss_one (ps_ret pe_bl)) pss_nil)
      (pss_cons (ps_if (pt_cmpR op_ne (pe_callB (kcall_repr (K := K) hgu (u70 hr)) (by rfl) (f_repr e) (by decide +kernel) (pa_cons (pe_due1 e (pp := ("law", none)) (T := lamT K) (by exact lamT_one) (by simp [tf]) rfl (hr.mono (by decide)) rfl (by exact LamX.lamS_by (sc := defScope (top 25)) (by decide +kernel)) rfl rfl (fun _ _ _ _ _ => rfl) (fun _ => rfl) (fun _ => rfl) (by exact fun _ _ _ _ _ _ _ => pa_cons (pv 6) pa_nil)) pa_nil)) (pe_callB (kcall_repr (K := K) hgu (u70 hr)) (by rfl) (f_repr e) (by decide +kernel) (pa_cons (pe_def (d_law_due (P := P) (w := w) (K := K) (mg := mg) (base := base) e) (hr.mono (by decide)) (by rfl) (pa_cons (pv 6) (pa_cons pe_int pa_nil))) pa_nil)) (nomark _))
      (pss_one (ps_ret pe_bl)) pss_nil)
      (pss_cons (ps_for PassesOwn.never rfl (kpi_list (K := K) (pe_lst (pa_cons (pe_def (d_law_odd (P := P) (w := w) (K := K) (mg := mg) (base := base) e) (hr.mono (by decide)) (by rfl) (pa_cons (pv 1) pa_nil)) (pa_cons (pe_def (d_law_name (P := P) (w := w) (K := K) (mg := mg) (base := base) e) (hr.mono (by decide)) (by rfl) (pa_cons (pv 1) pa_nil)) (pa_cons pe_str (pa_cons (pv 6) pa_nil)))))) (pg_name (i := 9) sc_law.nd rfl (Or.inl rfl))
      (pss_one (ps_if (pt_cmpR op_ne (pe_callB (kcall_repr (K := K) hgu (u70 hr)) (by rfl) (f_repr e) (by decide +kernel) (pa_cons (pe_lst (pa_cons (pe_def (d_is_name (P := P) (w := w) (K := K) (mg := mg) (base := base) e) (hr.mono (by decide)) (by rfl) (pa_cons (pv 9) pa_nil)) (pa_cons (pe_defW0 (dw0_is_name (P := P) (w := w) (K := K) (mg := mg) (base := base) e) (hr.mono (by decide)) (by rfl) pass0 (pk_cons (pv 9) pk_nil)) pa_nil))) pa_nil)) (pe_callB (kcall_repr (K := K) hgu (u70 hr)) (by rfl) (f_repr e) (by decide +kernel) (pa_cons (pe_op op_rep (pe_lst (pa_cons (pe_def (d_law_is_name (P := P) (w := w) (K := K) (mg := mg) (base := base) e) (hr.mono (by decide)) (by rfl) (pa_cons (pv 9) pa_nil)) pa_nil)) pe_int) pa_nil)) (nomark _))
      (pss_one (ps_ret pe_bl)) pss_nil)))
      (pss_one (ps_if (pt_not (pt_val (pe_def (d_law_chosen_right (P := P) (w := w) (K := K) (mg := mg) (base := base) e) (hr.mono (by decide)) (by rfl) (pa_cons (pv 1) pa_nil))))
      (pss_one (ps_ret pe_bl)) pss_nil))))))))))))
      (pss_one (ps_ret pe_bl))))), ?_⟩
    obtain ⟨a, ns, rfl, ha1, ha2, ha3, ka4⟩ := h
    refine ⟨_, rfl, _, _, rfl, ha1, ha2, fun H0 p c ms sa19 na20 na21 ha22 ha23 P0 => ?_⟩
    have T0 : LamX.Tabs (lamT K) H0 := by
      refine LamX.Tabs.ext (fun q hq => ?_) sa19
      rw [List.mem_singleton.mp hq]
      exact LamX.TabS.nil (ha3 _ (List.mem_map.mpr ⟨("law", none), by simp [tf], rfl⟩))
    refine ⟨_, rfl, (by omega), (by omega), ?_⟩
    refine for_range (lo := 0) (n := 8) (fun i σ H' => ∃ (t' : Nat) (z' : Int) (x2 x3 x4 x5 x6 x7 x8 x9 : Option V), σ = [some (.ref a), some (.ref p), x2, x3, x4, x5, x6, x7, x8, x9] ∧ Pen H' p c ms t' z' ∧ LamX.Tabs (lamT K) H' ∧ t' ≤ 1000 * i)
      ⟨0, 0, none, none, none, none, none, none, none, none, rfl, P0, T0, by omega⟩ ?_ ?_
    · rintro i σ H1 hi ⟨t1, z1, x2, x3, x4, x5, x6, x7, x8, x9, rfl, P1, T1, ht⟩
      refine ⟨_, rfl, _, _, _, _, _, rfl, P1, (by omega), fun fa vs H2 t2 z2 nf ef it ne few b2 P2 ht2 => ?_⟩
      refine ⟨_, rfl, (fit (by simp)), fun pa29 na30 => ?_⟩
      generalize ga32 : upd H2 pa29 (HO.lst [V.int (40 : Int), V.int (40 : Int), V.int (1 : Int), V.int (2 : Int), V.int (5 : Int), V.int (12 : Int)]) = Ha31
      obtain ⟨sa34, ea33⟩ := gen_new ga32 na30
      clear ga32
      refine ⟨_, _, _, _, _, _, _, rfl, (P2.same sa34), (by omega), (SqL.of ea33), (ne_of_none P2.a na30).symm, (by simp), (by simp only [List.length_map, List.length_append, List.length_cons, List.length_nil, List.length_take, List.length_drop, List.length_reverse]; omega), fun xl H3 t3 z3 hl b3 P3 ht3 => ?_⟩
      obtain ⟨l, rfl, l40⟩ : ∃ l : Nat, xl = V.int (l : Nat) ∧ l ≤ 40 := by
        simp only [List.mem_cons, List.not_mem_nil, or_false] at hl
        rcases hl with rfl | rfl | rfl | rfl | rfl | rfl
        · exact ⟨40, rfl, by decide⟩
        · exact ⟨40, rfl, by decide⟩
        · exact ⟨1, rfl, by decide⟩
        · exact ⟨2, rfl, by decide⟩
        · exact ⟨5, rfl, by decide⟩
        · exact ⟨12, rfl, by decide⟩
      have nfp : fa ≠ p := (ne_of_none P1.a nf).symm
      have ef3 := b3 _ _ nfp (sa34 _ _ ef)
      have it3 := (it.same sa34).pen (P2.same sa34) b3
      have T3 := tabs_but (T1) P1 ((b2.trans (Same.but sa34)).trans b3)
      refine ⟨(fit (by simp)), fun pa53 na54 => ?_⟩
      generalize ga56 : upd H3 pa53 (HO.tup [V.ref fa, V.int (l : Nat)]) = Ha55
      obtain ⟨sa58, ea57⟩ := gen_new ga56 na54
      clear ga56
      refine ⟨_, _, rfl, (SqT.of ea57), rfl, _, _, rfl, _, _, rfl, rfl, _, rfl, fun pa61 na62 => ?_⟩
      generalize ga64 : upd Ha55 pa61 (HO.dK []) = Ha63
      obtain ⟨sa66, ea65⟩ := gen_new ga64 na62
      clear ga64
      refine ⟨ea65, [(Sum.inr "a", V.int 1)], rfl, by decide, ?_⟩
      generalize gd : upd Ha63 pa61 _ = Hd
      have sd : Same Ha55 Hd := by rw [← gd]; exact Same.skip1 sa66 na62
      have ed : Hd pa61 = some (.dK [(Sum.inr "a", V.int 1)]) := by rw [← gd]; exact upd_same
      clear gd ea65 sa66
      have Pd := P3.same (sa58.trans sd)
      have efd := (sa58.trans sd) _ _ ef3
      refine ⟨(fit (by simp)), fun pb3 nb4 => ?_⟩
      generalize gb6 : upd Hd pb3 (HO.lst []) = Hb5
      obtain ⟨sb8, eb7⟩ := gen_new gb6 nb4
      clear gb6
      refine ⟨(fit (by simp)), fun pb11 nb12 => ?_⟩
      generalize gb14 : upd Hb5 pb11 (HO.tup []) = Hb13
      obtain ⟨sb16, eb15⟩ := gen_new gb14 nb12
      clear gb14
      refine ⟨(fit (by simp)), fun pb19 nb20 => ?_⟩
      generalize gb22 : upd Hb13 pb19 (HO.lst [V.non, V.str (Str.ofString "ab"), V.ref pa61, V.ref pb3, V.ref pb11, V.int (7 : Int)]) = Hb21
      obtain ⟨sb24, eb23⟩ := gen_new gb22 nb20
      clear gb22
      refine ⟨_, _, _, _, _, _, _, rfl, (Pd.same ((sb8.trans sb16).trans sb24)), (by omega), (SqL.of eb23), (ne_of_none (sb16 _ _ (sb8 _ _ Pd.a)) nb20).symm, (by simp), (by simp only [List.length_map, List.length_append, List.length_cons, List.length_nil, List.length_take, List.length_drop, List.length_reverse]; omega), fun xb33 Hb34 xb35 xb36 hb37 bb38 Pb39 hb40 => ?_⟩
      refine ⟨_, rfl, _, rfl, _, rfl, _, rfl, _, rfl, _, _, rfl, .inl ⟨(SqL.of (bb38 _ _ nfp (sb24 _ _ (sb16 _ _ (sb8 _ _ efd))))), fun lb43 nb44 => ?_⟩⟩
      generalize gb46 : upd Hb34 lb43 (HO.tup vs) = Hb45
      obtain ⟨sb48, eb47⟩ := gen_new gb46 nb44
      clear gb46
      refine ⟨_, rfl, _, _, rfl, .inl ⟨(SqL.of (sb48 _ _ (bb38 _ _ nfp (sb24 _ _ (sb16 _ _ (sb8 _ _ efd)))))), fun lb51 nb52 => ?_⟩⟩
      generalize gb54 : upd Hb45 lb51 (HO.tup vs) = Hb53
      obtain ⟨sb56, eb55⟩ := gen_new gb54 nb52
      clear gb54
      refine ⟨_, rfl, (fit (by simp)), fun pb59 nb60 => ?_⟩
      generalize gb62 : upd Hb53 pb59 (HO.lst [V.ref fa, V.ref fa, V.ref fa, V.ref lb43, V.ref lb51, xb33]) = Hb61
      obtain ⟨sb64, eb63⟩ := gen_new gb62 nb60
      clear gb62
      refine ⟨_, _, _, _, _, _, _, rfl, (Pb39.same ((sb48.trans sb56).trans sb64)), (by omega), (SqL.of eb63), (ne_of_none (sb56 _ _ (sb48 _ _ Pb39.a)) nb60).symm, (by simp), (by simp only [List.length_map, List.length_append, List.length_cons, List.length_nil, List.length_take, List.length_drop, List.length_reverse]; omega), fun xb73 Hb74 xb75 xb76 hb77 bb78 Pb79 hb80 => ?_⟩
      refine ⟨_, rfl, ?_⟩
      have n3 : pb3 ≠ p := (ne_of_none Pd.a nb4).symm
      have n11 : pb11 ≠ p := (ne_of_none (sb8 _ _ Pd.a) nb12).symm
      have n61 : pa61 ≠ p := ne_of ed Pd.a nofun
      have n43 : lb43 ≠ p := (ne_of_none Pb39.a nb44).symm
      have n51 : lb51 ≠ p := (ne_of_none (sb48 _ _ Pb39.a) nb52).symm
      have Bd : But p Hd Hb74 := (((Same.but ((sb8.trans sb16).trans sb24)).trans bb38).trans (Same.but ((sb48.trans sb56).trans sb64))).trans bb78
      have itd : Its Hb74 vs := ((it3.same (sa58.trans sd)).pen Pd Bd)
      have e34 : ∀ {b o}, b ≠ p → Hb21 b = some o → Hb74 b = some o := fun n h => bb78 _ _ n (sb64 _ _ (sb56 _ _ (sb48 _ _ (bb38 _ _ n h))))
      obtain ⟨r, z, S⟩ : ∃ r z, Shw K Hb74 xb73 r z := by
        simp only [List.mem_cons, List.not_mem_nil, or_false] at hb77 hb37
        rcases hb77 with rfl | rfl | rfl | rfl | rfl | rfl
        · exact shw_row (.inl (Bd _ _ nfp efd)) itd few
        · exact shw_row (.inl (Bd _ _ nfp efd)) itd few
        · exact shw_row (.inl (Bd _ _ nfp efd)) itd few
        · exact shw_row (.inr (bb78 _ _ n43 (sb64 _ _ (sb56 _ _ eb47)))) itd few
        · exact shw_row (.inr (bb78 _ _ n51 (sb64 _ _ eb55))) itd few
        · rcases hb37 with rfl | rfl | rfl | rfl | rfl | rfl
          · exact shw_non
          · exact shw_ab
          · exact shw_one (Bd _ _ n61 ed)
          · exact shw_row (.inl (e34 n3 (sb24 _ _ (sb16 _ _ eb7)))) nofun (by decide)
          · exact shw_row (.inr (e34 n11 (sb24 _ _ eb15))) nofun (by decide)
          · exact shw_int
      refine S.sh _ _ (fun _ _ h _ => h) ?_
      have T74 := tabs_but (T3.ext (sa58.trans sd)) Pd Bd
      clear e34 Bd
      refine told_due (K := K) (r := r) (l := l) (v := xb73) T74 (fun E H2 Q0 e h => ⟨_, rfl, _, rfl, h⟩) S.row fun dv v1 H4 d1 e1 T4 o1 => ?_
      refine ⟨_, rfl, _, rfl, xb73, l, r, rfl, S.row.ext e1, fun dv2 v2 H5 d2 s5 o2 => ?_⟩
      obtain rfl : dv2 = dv := d2.one d1
      refine ⟨(fit (by simp)), fun pl nl => ?_⟩
      generalize gl : upd H5 pl (HO.lst [v1, v2]) = H6
      obtain ⟨s6, e6⟩ := gen_new gl nl
      clear gl
      have E6 : LamX.ExtN Hb74 H6 := (e1.trans (extS s5)).trans (extS s6)
      have T6 := (T4.ext s5).ext s6
      have P6 : Pen H6 p c ms xb75 xb76 := ⟨E6 _ _ Pb79.a nofun, E6 _ _ Pb79.b nofun⟩
      refine ⟨_, rfl, ?_⟩
      refine ⟨.inl ⟨rfl, _, SqL.of e6⟩, ?_⟩
      refine told_due (K := K) (r := r) (l := l) (v := xb73) T6 (fun E H2 Q0 e h => ⟨_, rfl, _, rfl, rfl, h⟩) (S.row.ext E6) fun dv3 v3 H7 d3 e7 T7 o3 => ?_
      obtain rfl : dv3 = dv2 := d3.one d1
      dsimp only [tNil]
      refine ⟨_, _, _, rfl, rfl, (e7 _ _ e6 nofun), (fits (by simp)), ?_⟩
      generalize g8 : upd H7 pl _ = H8
      obtain ⟨b8, e8⟩ := gen_mut g8
      clear g8
      have e8 : H8 pl = some (.lst [v1, v2, v3]) := e8
      have el7 := e7 _ _ e6 nofun
      have T8 := tabs_lst T7 el7 b8
      have E5 := e1.trans (extS s5)
      have E8 : LamX.ExtN Hb74 H8 := fun b u h nt => b8 _ _ (fun q => by subst q; have := E5 _ _ h nt; rw [nl] at this; cases this) ((E6.trans e7) _ _ h nt)
      have P8 : Pen H8 p c ms xb75 xb76 := ⟨E8 _ _ Pb79.a nofun, E8 _ _ Pb79.b nofun⟩
      have S8 := S.ext E8
      have o18 := dvO_but el7 b8 (dvO_ext (((extS s5).trans (extS s6)).trans e7) o1)
      have o28 := dvO_but el7 b8 (dvO_ext ((extS s6).trans e7) o2)
      have o38 := dvO_but el7 b8 o3
      have L1 := due_lit d1 S.row.few l40
      refine ⟨_, rfl, ?_⟩
      dsimp only [tNil]
      refine rRepr_of (Lit.list (.cons L1 (.cons L1 (.cons L1 .nil)))) (.lst (SqL.of e8) (.cons (dvO_dp o18) (.cons (dvO_dp o28) (.cons (dvO_dp o38) .nil)))) ?_
      clear o1 o2 o3 e1 e7 s5 s6 E6 T4 T6 T7 E5
      refine ⟨_, rfl, _, _, _, _, rfl, rfl, (SqL.of e8), rfl, (fit (by simp)), fun pr3 nr4 => ?_⟩
      generalize gr6 : upd H8 pr3 (HO.lst [v2]) = Hr5
      obtain ⟨sr8, er7⟩ := gen_new gr6 nr4
      clear gr6
      refine ⟨_, _, _, rfl, rfl, er7, (by omega), (by omega), (fit (by simp)), fun pr11 nr12 => ?_⟩
      generalize gr14 : upd Hr5 pr11 (HO.lst (List.replicate (Int.toNat (3 : Int)) [v2]).flatten) = Hr13
      obtain ⟨sr16, er15⟩ := gen_new gr14 nr12
      clear gr14
      have er15 : Hr13 pr11 = some (.lst [v2, v2, v2]) := er15
      have sR := sr8.trans sr16
      have dR := dvO_dp (K := K) (dvO_ext (extS sR) o28)
      dsimp only [tNil]
      refine rRepr_of (Lit.list (.cons L1 (.cons L1 (.cons L1 .nil)))) (.lst (SqL.of er15) (.cons dR (.cons dR (.cons dR .nil)))) ?_
      refine ⟨rfl, _, rfl, ?_⟩
      rw [show (!decide (V.str (PyData.list [dvD dv3, dvD dv3, dvD dv3]).shown = V.str (PyData.list [dvD dv3, dvD dv3, dvD dv3]).shown)) = false by simp]
      refine iteF ?_
      have S9 := S8.ext (extS sR)
      have P9 := P8.same sR
      have T9 := T8.ext sR
      clear o18 o28 o38 e8 er7 er15 sr8 sr16 b8 el7 dR S8 P8 T8
      refine ⟨_, rfl, ?_⟩
      dsimp only [tNil]
      refine S9.sh _ _ (LamX.ExtN.refl _) ?_
      refine ⟨_, rfl, rfl, _, rfl, ?_⟩
      rw [show (!decide (V.str z = V.str z)) = false by simp]
      refine iteF ?_
      refine told_due (K := K) (r := r) (l := 40) (v := xb73) T9 (fun E H2 Q0 e h => ⟨_, rfl, h⟩) S9.row fun dw u1 H10 f1 g1 T10 w1 => ?_
      have LW := due_lit f1 S.row.few (by decide)
      dsimp only [tNil]
      refine rRepr_of LW (dvO_dp w1) ?_
      refine ⟨_, rfl, xb73, 40, r, rfl, (S9.row.ext g1), fun dw2 u2 H11 f2 s11 w2 => ?_⟩
      obtain rfl : dw2 = dw := f2.one f1
      dsimp only [tNil]
      refine rRepr_of LW (dvO_dp w2) ?_
      refine ⟨rfl, _, rfl, ?_⟩
      rw [show (!decide (V.str (dvD dw2).shown = V.str (dvD dw2).shown)) = false by simp]
      refine iteF ?_
      have G11 := g1.trans (extS s11)
      have S11 := S9.ext G11
      have P11 : Pen H11 p c ms xb75 xb76 := ⟨G11 _ _ P9.a nofun, G11 _ _ P9.b nofun⟩
      have T11 := T10.ext s11
      clear S9 P9 T9 w1 w2 g1 G11
      refine ⟨_, rfl, _, _, _, _, _, rfl, P11, (by omega), fun vt10 dt11 Ht12 xt13 xt14 ht15 bt16 Pt17 ht18 => ?_⟩
      refine ⟨_, rfl, _, _, _, _, _, rfl, Pt17, (by omega), fun xt27 Ht28 xt29 xt30 ht31 bt32 Pt33 ht34 => ?_⟩
      refine ⟨_, rfl, (fit (by simp)), fun pt37 nt38 => ?_⟩
      generalize gt40 : upd Ht28 pt37 (HO.lst [vt10, V.str xt27, V.str (Str.ofString "abcdefgh"), xb73]) = Ht39
      obtain ⟨st42, et41⟩ := gen_new gt40 nt38
      clear gt40
      refine ⟨_, rfl, ⟨_, (SqL.of et41)⟩, ?_⟩
      have Pq := Pt33.same st42
      have Tq := (tabs_but (tabs_but T11 P11 bt16) Pt17 bt32).ext st42
      have nq : ∀ v ∈ [vt10, V.str xt27, V.str (Str.ofString "abcdefgh"), xb73], NmOf K Ht39 v := fun v hv => by
        simp only [List.mem_cons, List.not_mem_nil, or_false] at hv
        rcases hv with rfl | rfl | rfl | rfl
        · exact (((ht15.pen Pt17 bt32).same st42).two (K := K)).imp (fun ⟨y, e, h1, h2⟩ => ⟨y, e, Nat.le_trans h1 (by decide +kernel), h2⟩) id
        · exact .inl ⟨_, rfl, ht31.fit, ht31.plain⟩
        · exact .inl ⟨_, rfl, by decide +kernel, plain_of (by decide +kernel)⟩
        · exact ((S11.nm.pen P11.a Pt17.a bt16).pen Pt17.a Pt33.a bt32).ext (extS st42)
      refine for_list (K := K) (a := pt37) (xs := [vt10, V.str xt27, V.str (Str.ofString "abcdefgh"), xb73]) (fun j σ H' => ∃ x9' : Option V, σ = [some (.ref a), some (.ref p), some (.int (0 + (i : Nat))), some (.ref fa), some (.int (l : Nat)), some xb33, some xb73, some (.str z), some (.ref pl), x9'] ∧ Same Ht39 H')
        ⟨_, rfl, Same.refl _⟩ (fun j σ H' hj ⟨_, _, s⟩ => SqL.of (s _ _ et41)) ?_ ?_
      · rintro j v σ H' hv ⟨x9', rfl, sq⟩
        have nv := (nq v (List.mem_of_getElem? hv)).ext (extS sq)
        refine ⟨_, rfl, ?_⟩
        dsimp only [tNil]
        refine is_named nv.kind fun Hz1 sz1 => ?_
        refine ⟨_, rfl, rfl, ?_⟩
        refine is_named (v := v) (nv.ext (extS sz1)).kind fun Hz2 sz2 => ?_
        refine ⟨(fit (by simp)), fun q1 nq1 => ?_⟩
        generalize gq1 : upd Hz2 q1 _ = Hz3
        obtain ⟨sz3, eq1'⟩ := gen_new gq1 nq1
        clear gq1
        refine rRepr_of (Lit.list (.cons (.bl (vnm v)) (.cons (.bl (vnm v)) .nil))) (.lst (SqL.of eq1') (.cons (.bl _) (.cons (.bl _) .nil))) ?_
        refine ⟨_, rfl, v, rfl, (nv.ext (extS ((sz1.trans sz2).trans sz3))), fun Hz4 sz4 => ?_⟩
        refine ⟨(fit (by simp)), fun pv3 nv4 => ?_⟩
        generalize gv6 : upd Hz4 pv3 (HO.lst [V.bl (vnm v)]) = Hv5
        obtain ⟨sv8, ev7⟩ := gen_new gv6 nv4
        clear gv6
        refine ⟨_, _, _, rfl, rfl, ev7, (by omega), (by omega), (fit (by simp)), fun pv11 nv12 => ?_⟩
        generalize gv14 : upd Hv5 pv11 (HO.lst (List.replicate (Int.toNat (2 : Int)) [V.bl (vnm v)]).flatten) = Hv13
        obtain ⟨sv16, ev15⟩ := gen_new gv14 nv12
        clear gv14
        have ev15 : Hv13 pv11 = some (.lst [V.bl (vnm v), V.bl (vnm v)]) := ev15
        dsimp only [tNil]
        refine rRepr_of (Lit.list (.cons (.bl (vnm v)) (.cons (.bl (vnm v)) .nil))) (.lst (SqL.of ev15) (.cons (.bl _) (.cons (.bl _) .nil))) ?_
        refine ⟨rfl, _, rfl, ?_⟩
        rw [show (!decide (V.str (PyData.list [PyData.bool (vnm v), PyData.bool (vnm v)]).shown = V.str (PyData.list [PyData.bool (vnm v), PyData.bool (vnm v)]).shown)) = false by simp]
        refine iteF ?_
        exact ⟨_, rfl, (((((sq.trans sz1).trans sz2).trans sz3).trans sz4).trans sv8).trans sv16⟩
      · rintro σ H' ⟨x9', rfl, sq⟩
        have Pz := Pq.same sq
        refine ⟨_, rfl, p, c, ms, _, _, rfl, Pz, by omega, fun Hz t9 z9 bz Pz9 htz => ?_⟩
        refine ⟨_, rfl, iteF ?_⟩
        exact ⟨_, _, _, _, _, _, _, _, _, _, rfl, Pz9, tabs_but (Tq.ext sq) Pz bz, by omega⟩
    · rintro σ H1 ⟨t1, z1, x2, x3, x4, x5, x6, x7, x8, x9, rfl, P1, T1, ht⟩
      exact ka4 _
end
theorem closing {P : Program} {w : World} {K : PySem.W.Frag} {h : Heap} {mg : Str → Option Value} (X : K.In h) (G : h.Ns mainGlobals mg) (c : SaysZ fa fn tf gs (fun K => exs.all fun f => f K) w h K) :
    ∃ fd : FuncData, (∀ (s : Shared) (v : Value), BindsTo s fd ⟨[v], []⟩ [("script", v)]) ∧ ∀ base : Heap, K.In base → base.Ns mainGlobals mg → (∀ p ∈ tf.map (He.cT K), LamX.TabB base mg p.1 p.2) → FnG P w K mg base CX0 14 (He.ga K "law") fd ["script"] (spLaw K) := by
  obtain ⟨fd, F⟩ := c.x.t.d.def_ 19 (d := dd "law" 25) rfl
  have b := FunD.bindsA (ps := ["script"]) F fun _ _ _ _ _ _ us hl => match us, hl with | [_], _ => rfl
  exact ⟨fd, fun s v => b s [v] rfl, fun base X' G' tb => ok_law F ⟨c.x.t.d, X', G', c.more, fun i d h => c.get i h, tb⟩⟩
abbrev R : PySem.W.OpenRow := PySem.W.OpenLaw.row PySem.Challenge.rw_seenframes_k02_names_and_hosts
abbrev hk : PySem.W.Hook := hookZ 6 fa fn tf gs (fun K => exs.all fun f => f K)
def ob (s : PySem.W.SharedT) : AlZ := obsZ 6 fa fn tf gs (fun K => exs.all fun f => f K) (HandSHeadRun.getT s)
theorem ob_eq (s : PySem.W.SharedT) : ob s = hk.obs s.abs := obsZ_eq (HandSHeadRun.getT_eq s)
def loose : List Str := [("__name__" : Str), ("SeenError" : Str), ("BadInput" : Str), ("Refused" : Str), ("BadHosts" : Str), ("TooMany" : Str), ("is_name" : Str), ("ascending" : Str), ("hosts_of" : Str), ("fours_of" : Str), ("fives_of" : Str), ("_law_pen" : Str), ("_law_draw" : Str), ("_law_pick" : Str), ("_law_name" : Str), ("_law_names" : Str), ("_law_odd" : Str), ("_law_is_name" : Str), ("_law_many" : Str), ("_law_due" : Str), ("_law_heard" : Str), ("_law_chosen" : Str), ("_law_chosen_right" : Str)]
theorem run (w : World) : HandSHeadRun.RunEq R (PySem.W.view R.prog [25]) hk ob 6000 loose w := by
  intro os
  kernel_rfl
end Z
open PySem PySem.W PySem.Calls PyProof.Rows
set_option maxRecDepth 100000 in
set_option maxHeartbeats 0 in
theorem PySem.Challenge.cw_seenframes_k02_names_and_hosts_holds : PySem.Challenge.rw_seenframes_k02_names_and_hosts.Holds := by
  w_on; o_law
  refine HandSHeadRun.head_any (r := OpenLaw.row PySem.Challenge.rw_seenframes_k02_names_and_hosts) (q := view (OpenLaw.row PySem.Challenge.rw_seenframes_k02_names_and_hosts).prog [25]) (H := Z.hk) (ob := Z.ob) (M := 6000) (loose := Z.loose) (d := HandSHeadRun.topDef (OpenLaw.row PySem.Challenge.rw_seenframes_k02_names_and_hosts).prog 25) (kwd := []) Z.ob_eq
    (by kernel_rfl) (fun s => by kernel_rfl) Z.run (by kernel_rfl) (by kernel_rfl) (by kernel_rfl) (by rfl) (by first | assumption | decide +kernel) (by decide +kernel) ⟨rfl, rfl, rfl, rfl, rfl, by decide +kernel⟩ ?hw ?hc
  case hw => w_witness2
  case hc =>
    refine Z.walk_TG (l := PySem.Challenge.rw_seenframes_k02_names_and_hosts) (n := 63) (k := 14) (x := "script") (CX := L2.CX0) rfl (by decide) (by kernel_rfl) ⟨rfl, by decide, by decide⟩ ?F (fun _ _ _ _ z => z)
    intro w mg fa h Y G hmg0
    obtain ⟨K, KX, c⟩ := Y
    have hmg : mg ("law" : PySem.Str) = some (.ref fa) := by
      have e : (HandSHeadRun.topDef (OpenLaw.row PySem.Challenge.rw_seenframes_k02_names_and_hosts).prog 25).name = ("law" : PySem.Str) := by kernel_rfl
      rw [← e]
      exact hmg0
    obtain ⟨fd, hb, hF⟩ := Z.closing (P := (PySem.Challenge.rw_seenframes_k02_names_and_hosts).prog) KX G c
    have eg := hmg.symm.trans (He.glo_ok KX G (c.x.t.d.fact 37 rfl))
    cases eg
    obtain ⟨t1, t2, t3⟩ := c.tabs KX
    exact ⟨K, fd, Z.spLaw K, Z.tf.map (He.cT K), KX, hb, t1, t2, t3, fun H a ns hl hT hS => ⟨a, ns, rfl, hS, hl, hT, fun _ => rfl⟩, hF⟩
