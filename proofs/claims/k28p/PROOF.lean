import PyProof.Rows.All
import Wide.All
import OpenK.AllK
import Wide.FinOn
import KE.KStateDown
import Lean
import HandS.ForMost
import HandS.More
import HandS.Codes
import HandS.Defaults
import HandS.WordsExc
import HandS.RaiseMore
import HandS.IsInst
import HandS.Walk
import HandS.Head0
import HandS.Head1
import HandS.Head2
import HandS.HeadEnd
import HandS.HeadHook1
import HandS.HeadHook2
import HandS.HeadHook4
import HandS.ExcValue
import HandS.ExcIs
import HandS.ExcField
import HandS.ExcInit
import HandS.EndTab
import HandS.Property
import HandS.ClsMeth
import HandS.MakeKw
import HandS.MakeKwOnly
import HandS.FStr
import HandS.StrMore
import HandS.Flow
import HandS.TupLe
import HandS.Lambda
import PyProof.Rows.Range3
import PyProof.CallStr
import PyProof.Rows.RegFStrParts
import HandS.IterVal
import HandS.Set
import HandS.SetFor
import HandS.Strs
import PyProof.Rows.SortShellAny
import HandS.Star
import HandS.Style
import HandS.Deep
import PyProof.P3In
import HandS.SuiteRaise
import HandS.RaiseFrom
import HandS.ExcInitHot
import HandS.NoneIn
import KE.DataCmp
import KE.DatumOrd
import KE.GoesEnum
import HandS.Zip0
import HandS.OwnEq
import PyProof.P3Eq
import HandS.ReplaceLit
import PySem.Challenge.RW_seenframes_k28_partings_refused_and_read
set_option Elab.async false
set_option linter.all false
set_option maxRecDepth 100000
set_option maxHeartbeats 8000000
namespace Z
open PySem PySem.Spec PyProof.Rows L2
/-! ### rules that name the written part by a letter -/
section
variable {X : Cx} {K : PySem.W.Frag}
theorem kix_list (hK : X.K = K := by rfl) : IxR X (rIxL K) := by subst hK; exact ix_list
theorem kix_tup (hK : X.K = K := by rfl) : IxR X (rIxT K) := by subst hK; exact ix_tup
theorem ksl_list (hK : X.K = K := by rfl) : SlR X (rSlL K) := by subst hK; exact sl_list
theorem ksl_tup (hK : X.K = K := by rfl) : SlR X (rSlT K) := by subst hK; exact sl_tup
def rLen (K : PySem.W.Frag) : List V → Hp → VK → Prop := fun xs H Q => ∃ p ys, xs = [.ref p] ∧ (SqL K H p ys ∨ SqT K H p ys) ∧ Q (.int ys.length) H
theorem kcall_len_seq (hK : X.K = K := by rfl) : CallR X (.builtin "len") (rLen K) := by subst hK; exact call_len_seq
def rListOf (K : PySem.W.Frag) : List V → Hp → VK → Prop := fun xs H Q => ∃ p ys, xs = [.ref p] ∧ (SqL K H p ys ∨ SqT K H p ys) ∧ ∀ l, H l = none → Q (.ref l) (upd H l (.lst ys))
theorem kcall_list_of (hK : X.K = K := by rfl) : CallR X (.type "list") (rListOf K) := by subst hK; exact call_list_of
def rTupleOf (K : PySem.W.Frag) : List V → Hp → VK → Prop := fun xs H Q => ∃ p ys, xs = [.ref p] ∧ ((SqL K H p ys ∧ ∀ l, H l = none → Q (.ref l) (upd H l (.tup ys))) ∨ (SqT K H p ys ∧ Q (.ref p) H))
theorem kcall_tuple_of (hK : X.K = K := by rfl) : CallR X (.type "tuple") (rTupleOf K) := by subst hK; exact call_tuple_of
theorem kop_eqD (hu : X.A.units + 64 < cLine) (hK : X.K = K := by rfl) : OpR X (compareOp .Eq) (rEqD K) := by subst hK; exact op_eqD hu
theorem kop_neD (hu : X.A.units + 64 < cLine) (hK : X.K = K := by rfl) : OpR X (compareOp .NotEq) (rNeD K) := by subst hK; exact op_neD hu
theorem kop_in_seq (hK : X.K = K := by rfl) : OpR X (compareOp .In) (rIn K false) := by subst hK; exact op_in_seq
theorem kop_notIn_seq (hK : X.K = K := by rfl) : OpR X (compareOp .NotIn) (rIn K true) := by subst hK; exact op_notIn_seq
theorem kcr_sortedS (hK : X.K = K := by rfl) : CallR X (.builtin "sorted") (rSortedS K) := by subst hK; exact cr_sortedS
theorem kcr_sorted (hK : X.K = K := by rfl) : CallR X (.builtin "sorted") (rSorted K) := by subst hK; exact cr_sorted
theorem kcr_sum (hc : X.calm = true) (hK : X.K = K := by rfl) : CallR X (.builtin "sum") (rSum K) := by subst hK; exact cr_sum hc
theorem kcr_all (hc : X.calm = true) (hK : X.K = K := by rfl) : CallR X (.builtin "all") (rAll K) := by subst hK; exact cr_all hc
theorem kcr_any (hc : X.calm = true) (hK : X.K = K := by rfl) : CallR X (.builtin "any") (rAny K) := by subst hK; exact cr_any hc
theorem kcall_isi (hK : X.K = K := by rfl) : CallR X (.builtin "isinstance") (rIsi K) := by subst hK; exact call_isi
theorem kcall_isiT (hK : X.K = K := by rfl) : CallR X (.builtin "isinstance") (rIsiT K) := by subst hK; exact call_isiT
theorem kop_catT (hK : X.K = K := by rfl) : OpR X (binaryOp .Add) (rCatT K) := by subst hK; exact op_catT
theorem kpi_list {tg l : Expr} {tl : TE} (hl : PE X l tl) (hK : X.K = K := by rfl) : PI X tg l (iList K tl) := by subst hK; exact pi_list hl
theorem kpi_tup {tg l : Expr} {tl : TE} (hl : PE X l tl) (hK : X.K = K := by rfl) : PI X tg l (iTup K tl) := by subst hK; exact pi_tup hl
theorem kpi_enum {e : Expr} {ta : TA} {p pos tpos : Pos} {elts : List Expr} {kk : Nat} (hg : Gl X "enumerate") (hm : X.mg "enumerate" = none) (ha : PA X [e] ta) (hs : starEach [e] X.env = [(false, eval e X.env)] := by rfl) (hK : X.K = K := by rfl) :
    PI X (.Tuple elts kk tpos) (.Call (.Name "enumerate" p) [e] [] pos) (iEnum K ta) := by subst hK; exact pi_enum hg hm ha hs
def rJoin (K : PySem.W.Frag) : V → List V → Hp → VK → Prop := fun x xs H Q => ∃ a p, ∃ ys : List Str, x = .str a ∧ xs = [.ref p] ∧ (SqL K H p (ys.map V.str) ∨ SqT K H p (ys.map V.str)) ∧
      (ys.map (·.length)).sum + ys.length * a.length ≤ 16777216 ∧ Q (.str (Txt.join a ys)) H
theorem kpe_join {o e : Expr} {to te : TE} {apos pos : Pos} (ho : PE X o to) (he : PE X e te) (hs : starEach [e] X.env = [(false, eval e X.env)] := by rfl) (hbase : attributeBase o "join" X.env (eval o X.env) = eval o X.env := by rfl) (hline : (apos.endLine == pos.line) = true := by rfl) (hK : X.K = K := by rfl) :
    PE X (.Call (.Attribute o "join" apos) [e] [] pos) (tM1 (rJoin K) to te) := by subst hK; exact pe_join ho he hs hbase hline
theorem kpe_bm {o e : Expr} {es : List Expr} {to : TE} {t : TA} {name : Str} {apos cpos : Pos} {T id : String} {r : V → List V → Hp → VK → Prop} (pa : PlainAttrs T) (slot : Slot T name id) (hty : typeOf (.builtin id) = pure (.type "method_descriptor")) (hm : MtR X id r) (ho : PE X o to) (ha : PA X (e :: es) t)
    (hbase : attributeBase o name X.env (eval o X.env) = eval o X.env := by rfl)
    (hfew : ((backTo cpos (starEach (e :: es) X.env)).all (fun x => !x.1) && (backToKw cpos (keywordEach [] X.env)).all (fun x => x.1.isSome)
      && decide ((e :: es).length + ([] : List Keyword).length + (if ([] : List Keyword).isEmpty then 0 else 1) < 30)) = true := by rfl)
    (hline : (apos.endLine == cpos.line) = true := by rfl) (hs : starEach (e :: es) X.env = (false, eval e X.env) :: starEach es X.env := by rfl) (hplain : (backTo cpos (starEach es X.env)).any (·.1) = false := by rfl) (hK : X.K = K := by rfl) :
    PE X (.Call (.Attribute o name apos) (e :: es) [] cpos) (tBM K T r to t) := by subst hK; exact pe_bm pa slot hty hm ho ha hbase hfew hline hs hplain
theorem kpe_bm0 {o : Expr} {to : TE} {name : Str} {apos cpos : Pos} {T id : String} {r : V → List V → Hp → VK → Prop} (pa : PlainAttrs T) (slot : Slot T name id) (hty : typeOf (.builtin id) = pure (.type "method_descriptor")) (hm : MtR X id r) (ho : PE X o to)
    (hbase : attributeBase o name X.env (eval o X.env) = eval o X.env := by rfl) (hline : (apos.endLine == cpos.line) = true := by rfl) (hK : X.K = K := by rfl) : PE X (.Call (.Attribute o name apos) [] [] cpos) (tBM0 K T r to) := by subst hK; exact pe_bm0 pa slot hty hm ho hbase hline
end
/-- the pen stands at p, its cells at c; t draws so far, z is left of a great one -/
structure Pen (H : Hp) (p c : Addr) (ms : List Int) (t : Nat) (z : Int) : Prop where
  a : H p = some (.lst [.ref c, .int t, .int z])
  b : H c = some (.lst (ms.map .int))
/-- all but what stands at p stands -/
def But (p : Addr) (H H' : Hp) : Prop := ∀ b o, b ≠ p → H b = some o → H' b = some o
theorem But.refl (p : Addr) (H : Hp) : But p H H := fun _ _ _ h => h
theorem But.trans {p : Addr} {H H1 H2 : Hp} (a : But p H H1) (b : But p H1 H2) : But p H H2 := fun c o n h => b c o n (a c o n h)
theorem Same.but {p : Addr} {H H' : Hp} (a : Same H H') : But p H H' := fun c o _ h => a c o h
theorem same_new {H : Hp} {q : Addr} {o : HO} (h : H q = none) : Same H (upd H q o) := fun b u e => by rw [upd_ne (ne_of_none e h)]; exact e
theorem but_upd {H : Hp} {p : Addr} {o : HO} : But p H (upd H p o) := fun b u n e => by rw [upd_ne n]; exact e
theorem But.new {p q : Addr} {H H' : Hp} {o : HO} (b : But p H H') (h : H' q = none) : But p H (upd H' q o) := fun a u n e => by rw [upd_ne (ne_of_none (b a u n e) h)]; exact b a u n e
theorem But.free {p q : Addr} {H H' : Hp} (b : But p H H') (n : q ≠ p) (h : H' q = none) : H q = none := by
  cases e : H q with
  | none => rfl
  | some o => rw [b q o n e] at h; cases h
theorem But.upn {p q : Addr} {H H' : Hp} {o : HO} (b : But p H H') (h : H q = none) : But p H (upd H' q o) := fun a u n e => by rw [upd_ne (ne_of_none e h)]; exact b a u n e
theorem dp_ints {K : PySem.W.Frag} {H : Hp} : ∀ ms : List Int, DpAll K H (ms.map V.int) (ms.map PyData.int)
  | [] => .nil
  | _ :: r => .cons (.int _) (dp_ints r)
theorem lay_ints : ∀ ms : List Int, PyData.canLayAll0 (ms.map PyData.int) = true
  | [] => by simp [PyData.canLayAll0]
  | _ :: r => by simp [PyData.canLayAll0, PyData.canLay0, lay_ints r]
theorem deep_ints : ∀ ms : List Int, PyData.depthAll (ms.map PyData.int) = 0
  | [] => by simp [PyData.depthAll]
  | _ :: r => by simp [PyData.depthAll, PyData.depth, deep_ints r]
theorem shaped_ints (ms : List Int) : SeqAt.shaped (.list (ms.map PyData.int)) = true := by
  unfold SeqAt.shaped
  simp [PyData.canLay0, lay_ints, PyData.depth, deep_ints]
theorem eqv_nil (ms : List Int) : PyData.eqv (.list (ms.map PyData.int)) (.list []) = ms.isEmpty := by
  cases ms <;> simp [PyData.eqv, PyData.eqvAll]
theorem mod_lo (a : Int) {m : Int} (h : 1 ≤ m) : 0 ≤ a.fmod m ∧ a.fmod m < m := ⟨Int.fmod_nonneg_of_pos a (by omega), Int.fmod_lt_of_pos a (by omega)⟩
theorem But.seq {K : PySem.W.Frag} {p : Addr} {H H' : Hp} {a : Addr} {xs : List V} (e : But p H H') (n : a ≠ p) (h : SqL K H a xs) : SqL K H' a xs := by
  rcases h with (h | ⟨o, h⟩) | h
  · exact .inl (.inl (e _ _ n h))
  · exact .inl (.inr ⟨o, e _ _ n h⟩)
  · exact .inr h
/-- a def of the module keeps its promise -/
structure DefN (P : Program) (w : World) (K : PySem.W.Frag) (mg : Str → Option Value) (base : Heap) (k : Nat) (x : Str) (ps : List Str) (sp : Sp) : Prop where
  ex : ∃ fd, FnOk P w K mg base CX0 k (He.ga K x) fd ps sp ∧ Binds K fd ps []
  kp : PySem.W.keepIn K (.ref (He.ga K x)) = true
  at_ : mg x = some (.ref (He.ga K x))
theorem pe_def {X : Cx} {k : Nat} {x : Str} {ps : List Str} {sp : Sp} {e : Expr} {es : List Expr} {p pos : Pos} {t : TA} (D : DefN X.prog X.w X.K X.mg X.base k x ps sp) (hr : Room k X.A) (hg : Gl X x) (ha : PA X (e :: es) t)
    (hdb : (x == ("__debug__" : Str)) = false := by decide) (he : starEach (e :: es) X.env = (false, eval e X.env) :: starEach es X.env := by rfl) (hpl : (backTo pos (starEach es X.env)).any (·.1) = false := by rfl) :
    PE X (.Call (.Name x p) (e :: es) [] pos) (tCall sp [] E0 t) := by
  obtain ⟨fd, F, b⟩ := D.ex
  exact pe_call F hr hg D.at_ D.kp b .nil pass0 ha hdb he hpl
def spPen (K : PySem.W.Frag) : Sp := fun vs H Q _ => ∃ (a : Addr) (ns : List Int), vs = [.ref a] ∧ SqL K H a (ns.map V.int) ∧ ns.length ≤ 63 ∧
  ∀ (H' : Hp) (p c : Addr) (ms : List Int), Same H H' → H p = none → H c = none → p ≠ c → ms.length ≤ 63 → Pen H' p c ms 0 0 → Q (.ref p) H'
def spDraw : Sp := fun vs H Q _ => ∃ (p c : Addr) (ms : List Int) (t : Nat) (z m : Int), vs = [.ref p, .int m] ∧ Pen H p c ms t z ∧ t < 1000000 ∧ 1 ≤ m ∧ m < 1000000 ∧
  ∀ (d : Int) (H' : Hp) (t' : Nat) (z' : Int), 0 ≤ d → d < m → But p H H' → Pen H' p c ms t' z' → t' ≤ t + 1 → Q (.int d) H'
/-- one of a list's items is picked -/
def spPick (K : PySem.W.Frag) : Sp := fun vs H Q _ => ∃ (p c a : Addr) (ms : List Int) (t : Nat) (z : Int) (xs : List V), vs = [.ref p, .ref a] ∧ Pen H p c ms t z ∧ t < 1000000 ∧ SqL K H a xs ∧ a ≠ p ∧ xs ≠ [] ∧ xs.length < 1000000 ∧
  ∀ (x : V) (H' : Hp) (t' : Nat) (z' : Int), x ∈ xs → But p H H' → Pen H' p c ms t' z' → t' ≤ t + 1 → Q x H'
end Z
namespace Z
open PySem PySem.Spec PyProof.Rows L2
/-! ### heaps step by step -/
theorem gen_new {H H1 : Hp} {p : Addr} {o : HO} (g : upd H p o = H1) (n : H p = none) : Same H H1 ∧ H1 p = some o := by
  subst g
  exact ⟨same_new n, upd_same⟩
theorem gen_mut {H H1 : Hp} {p : Addr} {o : HO} (g : upd H p o = H1) : But p H H1 ∧ H1 p = some o := by
  subst g
  exact ⟨but_upd, upd_same⟩
theorem Same.skip {A B C : Hp} {q : Addr} (s : Same A B) (b : But q B C) (n : A q = none) : Same A C := fun x o h => b _ _ (ne_of_none h n) (s _ _ h)
theorem But.skip {A B C : Hp} {p q : Addr} (s : But p A B) (b : But q B C) (n : A q = none) : But p A C := fun x o k h => b _ _ (ne_of_none h n) (s _ _ k h)
theorem ite_yes {c A B : Prop} [Decidable c] (h : c) (a : A) : if c then A else B := by rw [if_pos h]; exact a
theorem ite_no {c A B : Prop} [Decidable c] (h : ¬ c) (b : B) : if c then A else B := by rw [if_neg h]; exact b
theorem fit {n : Nat} (h : n ≤ 1000000) : n ≤ sizeLine := Nat.le_trans h (by decide)
theorem fits {n : Nat} (h : n ≤ 1000000) : n < sizeLine := Nat.lt_of_le_of_lt h (by decide)
theorem not_same {p : Prop} [Decidable p] (h : p) : ¬ (!decide p) = true := by rw [decide_eq_true h]; exact Bool.false_ne_true
theorem of_ndec {p : Prop} [Decidable p] (h : (!decide p) = true) : ¬ p := fun q => by rw [decide_eq_true q] at h; exact Bool.false_ne_true h
theorem of_nndec {p : Prop} [Decidable p] (h : ¬ (!decide p) = true) : p := Classical.byContradiction fun q => h (by rw [decide_eq_false q]; rfl)
theorem ndec_false {p : Prop} [Decidable p] (h : p) : (!decide p) = false := by rw [decide_eq_true h]; rfl
theorem ndec_true {p : Prop} [Decidable p] (h : ¬ p) : (!decide p) = true := by rw [decide_eq_false h]; rfl
theorem strs_app (a b : List Str) : a.map V.str ++ b.map V.str = (a ++ b).map V.str := by rw [List.map_append]
theorem strs_snoc (a : List Str) (x : Str) : a.map V.str ++ [V.str x] = (a ++ [x]).map V.str := by rw [List.map_append]; rfl
theorem ite_same {α : Type} [DecidableEq α] {x : α} {A B : Prop} (a : A) : if decide (x = x) = true then A else B := by rw [if_pos (decide_eq_true rfl)]; exact a
theorem ite_diff {α : Type} [DecidableEq α] {x : α} {A B : Prop} (b : B) : if (!decide (x = x)) = true then A else B := by rw [if_neg (not_same rfl)]; exact b
theorem not_self (b : Bool) : ¬ decide (V.bl (!b) = V.bl b) = true := by cases b <;> decide
theorem of_dec {p : Prop} [Decidable p] (h : ¬ decide p = true) : ¬ p := fun q => h (decide_eq_true q)
theorem Pen.alike {H H' : Hp} {p c : Addr} {ms : List Int} {t : Nat} {z : Int} (P : Pen H p c ms t z) (s : Same H H') : Pen H' p c ms t z := ⟨s _ _ P.a, s _ _ P.b⟩
end Z
namespace Z
open PySem PySem.Spec PyProof.Rows L2 TL
/-- a name: one to eight letters -/
structure IsNm (x : Str) : Prop where
  lo : 1 ≤ x.length
  hi : x.length ≤ 8
  az : ∀ c ∈ x.cps.toList, 97 ≤ c ∧ c ≤ 122
/-- the text of one sign -/
def sg (c : Nat) : Str := ⟨#[c]⟩
theorem join_signs (cs : List Nat) : (Txt.join (Str.ofString "") (cs.map sg)).cps.toList = cs := by
  show (PySem.Builtin.Str.glued (Str.ofString "") (cs.map sg)).cps.toList = cs
  rw [StrLaws.glued_eq_join]
  have h := tl_join (Str.ofString "") (cs.map sg)
  have e0 : tl (Str.ofString "") = [] := by decide +kernel
  rw [e0] at h
  have : ∀ l : List Nat, joinL [] ((l.map sg).map tl) = l := by
    intro l
    induction l with
    | nil => rfl
    | cons a r ih =>
      cases r with
      | nil => rfl
      | cons b q =>
        show tl (sg a) ++ ([] ++ joinL [] (((b :: q).map sg).map tl)) = a :: b :: q
        rw [ih]
        rfl
  rw [this] at h
  exact h
theorem letters_at {j : Nat} (h : j < 26) : (Str.ofString "abcdefghijklmnopqrstuvwxyz").cps.toList[j]? = some (97 + j) := by
  have : ∀ j, j < 26 → (Str.ofString "abcdefghijklmnopqrstuvwxyz").cps.toList[j]? = some (97 + j) := by decide +kernel
  exact this j h
theorem Pen.same {H H' : Hp} {p c : Addr} {ms : List Int} {t : Nat} {z : Int} (P : Pen H p c ms t z) (s : Same H H') : Pen H' p c ms t z := ⟨s _ _ P.a, s _ _ P.b⟩
theorem Pen.ne {H : Hp} {p c : Addr} {ms : List Int} {t : Nat} {z : Int} (P : Pen H p c ms t z) : p ≠ c := ne_of P.a P.b (by intro e; injection e with e; cases ms with | nil => cases e | cons x r => cases e)
def spName : Sp := fun vs H Q _ => ∃ (p c : Addr) (ms : List Int) (t : Nat) (z : Int), vs = [.ref p] ∧ Pen H p c ms t z ∧ t < 900000 ∧
  ∀ (x : Str) (H' : Hp) (t' : Nat) (z' : Int), IsNm x → But p H H' → Pen H' p c ms t' z' → t' ≤ t + 10 → Q (.str x) H'
end Z
namespace Z
open PySem PySem.Spec PyProof.Rows L2 TL
theorem But.same_upd {H H' : Hp} {D : Addr} {o : HO} (s : Same H H') (h : H D = none) : Same H (upd H' D o) := fun b u e => by rw [upd_ne (ne_of_none e h)]; exact s b u e
theorem filterMap_take {α β : Type} (F : α → Option β) (xs : List α) {i : Nat} {x : α} (h : xs[i]? = some x) : (xs.take (i + 1)).filterMap F = (xs.take i).filterMap F ++ (F x).toList := by
  have e : xs.take (i + 1) = xs.take i ++ [x] := by
    rw [List.take_succ, h]
    rfl
  rw [e, List.filterMap_append]
  cases e2 : F x <;> simp [e2]
/-- a comprehension whose elements make nothing: F of each item, none where it is left out -/
theorem lc_fm {J : It} {n : Nat} {G : Hp → Prop} {Y : Nat → Hp → V → Hp → Prop} (w : Walk J n G Y) {g : TG} {tt : TT} {te : TE} {vs : List Nat} {σ : L2.St} {H1 : Hp} {D : Addr} {Qd : Hp → Prop} (xs : List V) (F : V → Option V)
    (hn : n = xs.length) (hY : ∀ i H x H', i < n → Y i H x H' → H' = H ∧ xs[i]? = some x) (hD : H1 D = none) (hG : ∀ H', Same H1 H' → G H') (hz : xs.length < sizeLine)
    (hs : ∀ x ∈ xs, ∀ H', Same H1 H' → ∀ (Kt : V → Hp → Prop) (Kf : Hp → Prop), (∀ y, F x = some y → Kt y H') → (F x = none → Kf H') →
      g x (wipe σ vs) H' fun σ2 H2 => wipe σ2 vs = wipe σ vs ∧ tt σ2 H2 fun b H3 => if b = true then te σ2 H3 Kt else Kf H3)
    (hd : Qd (upd H1 D (.lst (xs.filterMap F)))) :
    ∃ W : Nat → Nat → Hp → Prop, (∃ m, W 0 m (upd H1 D (.lst []))) ∧ ∀ i m H, W i m H →
      (J.stop i H ∧ Qd H) ∨ (J.go i H ∧ ∃ Nx : Hp → Prop, (∀ H', Nx H' → ∃ m', m' < m ∧ W (i + 1) m' H') ∧ ∀ x H', J.yld i H x H' → g x (wipe σ vs) H' fun σ2 H2 => wipe σ2 vs = wipe σ vs ∧ tt σ2 H2 fun b H3 =>
        if b = true then te σ2 H3 fun y H4 => ∃ acc, H4 D = some (.lst acc) ∧ acc.length < sizeLine ∧ Nx (upd H4 D (.lst (acc ++ [y]))) else Nx H3) := by
  refine lc_it w (fun i H => H = upd H1 D (.lst ((xs.take i).filterMap F))) rfl (fun i H _ e => by subst e; exact hG _ (same_new hD)) ?_ ?_
  · rintro i x H H' hi rfl y
    obtain ⟨rfl, hx⟩ := hY i _ x H' hi y
    refine hs x (List.mem_of_getElem? hx) _ (same_new hD) _ _ (fun y e => ?_) fun e => ?_
    · refine ⟨_, upd_same, ?_, ?_⟩
      · have h1 : ((xs.take i).filterMap F).length ≤ (xs.take i).length := List.length_filterMap_le ..
        have h2 : (xs.take i).length ≤ xs.length := by rw [List.length_take]; omega
        omega
      · rw [upd_upd, filterMap_take F xs hx, e]
        rfl
    · show _ = _
      rw [filterMap_take F xs hx, e]
      simp
  · rintro H rfl
    rw [hn, List.take_length]
    exact hd
theorem yat (xs : List V) : ∀ i H x H', i < xs.length → YAt xs i H x H' → H' = H ∧ xs[i]? = some x := fun _ _ _ _ _ h => h
/-- the signs of a text as values -/
def sgV (z : Str) : List V := z.cps.toList.map fun c => V.str (sg c)
theorem ystr (z : Str) : ∀ i (H : Hp) (x : V) (H' : Hp), i < z.cps.size → (H' = H ∧ ∃ c, z.cps[i]? = some c ∧ x = .str ⟨#[c]⟩) → H' = H ∧ (sgV z)[i]? = some x := by
  rintro i H x H' hi ⟨rfl, c, hc, rfl⟩
  refine ⟨rfl, ?_⟩
  unfold sgV
  rw [List.getElem?_map, Array.getElem?_toList, hc]
  rfl
theorem yrange (lo : Int) (n : Nat) : ∀ i (H : Hp) (x : V) (H' : Hp), i < n → YFn (fun i => .int (lo + i)) i H x H' → H' = H ∧ ((List.range n).map fun i => V.int (lo + (i : Nat)))[i]? = some x := by
  rintro i H x H' hi ⟨rfl, rfl⟩
  refine ⟨rfl, ?_⟩
  rw [List.getElem?_map, List.getElem?_range hi]
  rfl
/-! ### texts as data -/
theorem IsNm.ok {x : Str} (h : IsNm x) : PyData.strOk x = true := by
  unfold PyData.strOk
  rw [Array.all_eq_true_iff_forall_mem]
  intro c hc
  have := h.az c (Array.mem_toList_iff.mpr hc)
  simp
  omega
theorem dp_strs {K : PySem.W.Frag} {H : Hp} : ∀ xs : List Str, DpAll K H (xs.map V.str) (xs.map PyData.str)
  | [] => .nil
  | _ :: r => .cons (.str _) (dp_strs r)
theorem lay_strs : ∀ xs : List Str, (∀ x ∈ xs, PyData.strOk x = true) → PyData.canLayAll0 (xs.map PyData.str) = true
  | [], _ => by simp [PyData.canLayAll0]
  | x :: r, h => by
    simp only [List.map_cons, PyData.canLayAll0, PyData.canLay0, Bool.and_eq_true]
    exact ⟨h x (List.mem_cons_self ..), lay_strs r fun y hy => h y (List.mem_cons_of_mem _ hy)⟩
theorem deep_strs : ∀ xs : List Str, PyData.depthAll (xs.map PyData.str) = 0
  | [] => by simp [PyData.depthAll]
  | _ :: r => by simp [PyData.depthAll, PyData.depth, deep_strs r]
theorem shaped_strs {xs : List Str} (h : ∀ x ∈ xs, PyData.strOk x = true) : SeqAt.shaped (.list (xs.map PyData.str)) = true := by
  unfold SeqAt.shaped
  simp [PyData.canLay0, lay_strs xs h, PyData.depth, deep_strs]
theorem eqv_list_nil (ds : List PyData) : PyData.eqv (.list ds) (.list []) = ds.isEmpty := by
  cases ds <;> simp [PyData.eqv, PyData.eqvAll]
theorem inV_str (x : Str) (xs : List Str) : inV (.str x) (xs.map V.str) = decide (x ∈ xs) := by
  unfold inV
  induction xs with
  | nil => rfl
  | cons a r ih =>
    rw [List.map_cons, List.any_cons, ih]
    show (a == x || _) = _
    by_cases h : a = x
    · subst h; simp
    · have h' : ¬ x = a := fun e => h e.symm
      simp [h, h']
theorem flat_strs (xs : List Str) : (xs.map V.str).all flatV = true := by
  rw [List.all_eq_true]
  intro v hv
  obtain ⟨x, _, rfl⟩ := List.mem_map.mp hv
  rfl
/-! ### slices of names -/
theorem cut_to (x : Str) (k : Nat) : (cutS x none (some (k : Int))).cps.toList = x.cps.toList.take k := by
  unfold cutS
  show (x.cps.toList.drop 0).take (HT.sIx x.length x.length (some (k : Int)) - 0) = _
  have e : HT.sIx x.length x.length (some (k : Int)) = min k x.length := by
    exact HT.sIx_nat _ _ _
  rw [e, List.drop_zero, Nat.sub_zero]
  have e2 : x.length = x.cps.toList.length := TL.len_tl x
  rw [e2, ← List.take_eq_take_min]
theorem app_tl (x y : Str) : (x ++ y).cps.toList = x.cps.toList ++ y.cps.toList := TL.tl_append x y
/-! ### a name that is not there yet -/
theorem len_le_of_sub {α : Type} [BEq α] [LawfulBEq α] : ∀ {l m : List α}, l.Nodup → (∀ x ∈ l, x ∈ m) → l.length ≤ m.length
  | [], _, _, _ => Nat.zero_le _
  | a :: r, m, nd, h => by
    have ha := h a (List.mem_cons_self ..)
    have nd' := List.nodup_cons.mp nd
    have := len_le_of_sub (l := r) (m := m.erase a) nd'.2 fun x hx => by
      have hne : x ≠ a := fun e => nd'.1 (e ▸ hx)
      exact (List.mem_erase_of_ne hne).mpr (h x (List.mem_cons_of_mem _ hx))
    rw [List.length_erase_of_mem ha] at this
    have hp : 0 < m.length := List.length_pos_of_mem ha
    show r.length + 1 ≤ m.length
    omega
/-- the candidates: the word, its first seven signs and each letter -/
def nearOf (x : Str) : List Str := x :: (Str.ofString "abcdefghijklmnopqrstuvwxyz").cps.toList.map fun c => cutS x none (some 7) ++ sg c
theorem letters_all : ∀ c ∈ (Str.ofString "abcdefghijklmnopqrstuvwxyz").cps.toList, 97 ≤ c ∧ c ≤ 122 := by decide +kernel
theorem letters_nd : (Str.ofString "abcdefghijklmnopqrstuvwxyz").cps.toList.Nodup := by decide +kernel
theorem letters_len : (Str.ofString "abcdefghijklmnopqrstuvwxyz").cps.toList.length = 26 := by decide +kernel
theorem nm_len {x : Str} : x.length = x.cps.toList.length := TL.len_tl x
theorem nm_cut {x y : Str} (hx : IsNm x) (hy : ∀ c ∈ y.cps.toList, 97 ≤ c ∧ c ≤ 122) (h1 : y.cps.toList.length = 1) : IsNm (cutS x none (some 7) ++ y) := by
  have e : (cutS x none (some 7) ++ y).cps.toList = x.cps.toList.take 7 ++ y.cps.toList := by
    rw [app_tl]
    exact congrArg (· ++ _) (cut_to x 7)
  refine ⟨?_, ?_, fun c hc => ?_⟩
  · rw [nm_len, e, List.length_append]; omega
  · rw [nm_len, e, List.length_append, List.length_take]; omega
  · rw [e] at hc
    rcases List.mem_append.mp hc with h | h
    · exact hx.az c (List.mem_of_mem_take h)
    · exact hy c h
theorem near_nm {x : Str} (hx : IsNm x) : ∀ y ∈ nearOf x, IsNm y := by
  intro y hy
  rcases List.mem_cons.mp hy with rfl | hy
  · exact hx
  · obtain ⟨c, hc, rfl⟩ := List.mem_map.mp hy
    refine nm_cut hx (fun d hd => ?_) rfl
    have : d = c := by simpa [sg] using hd
    rw [this]
    exact letters_all c hc
theorem sg_inj {a : Str} {c d : Nat} (h : a ++ sg c = a ++ sg d) : c = d := by
  have e := congrArg (fun z : Str => z.cps.toList) h
  have e2 : a.cps.toList ++ (sg c).cps.toList = a.cps.toList ++ (sg d).cps.toList := by rw [← app_tl, ← app_tl]; exact e
  have e3 := List.append_cancel_left e2
  simpa [sg] using e3
theorem near_new {x : Str} {xs : List Str} (h : xs.length ≤ 25) : (nearOf x).filterMap (fun y => if y ∈ xs then none else some y) ≠ [] := by
  intro e
  have all : ∀ y ∈ nearOf x, y ∈ xs := fun y hy => by
    by_cases hm : y ∈ xs
    · exact hm
    · have := List.filterMap_eq_nil_iff.mp e y hy
      rw [if_neg hm] at this
      cases this
  have nd : ((Str.ofString "abcdefghijklmnopqrstuvwxyz").cps.toList.map fun c => cutS x none (some 7) ++ sg c).Nodup := by
    rw [List.nodup_iff_pairwise_ne, List.pairwise_map]
    exact List.Pairwise.imp (fun {a b} hne he => hne (sg_inj he)) (List.nodup_iff_pairwise_ne.mp letters_nd)
  have := len_le_of_sub nd fun y hy => all y (List.mem_cons_of_mem _ hy)
  rw [List.length_map, letters_len] at this
  omega
theorem IsNm.fit {x : Str} (h : IsNm x) : x.length ≤ sizeLine := Nat.le_trans h.hi (by decide)
theorem nm_both {x y : Str} (hx : IsNm x) (hy : IsNm y) : IsNm (cutS x none (some 7) ++ cutS y none (some 1)) := by
  have e : (cutS y none (some 1)).cps.toList = y.cps.toList.take 1 := cut_to y 1
  refine nm_cut hx (fun c hc => ?_) ?_
  · rw [e] at hc
    exact hy.az c (List.mem_of_mem_take hc)
  · rw [e, List.length_take]
    have := hy.lo
    rw [nm_len] at this
    omega
theorem cut_len (x : Str) (k : Nat) : (cutS x none (some (k : Int))).length ≤ k := by
  rw [nm_len, cut_to, List.length_take]
  omega
abbrev alpha : Str := Str.ofString "abcdefghijklmnopqrstuvwxyz"
def glue7 (y : Str) (v : V) : Option V := match v with
  | .str s => some (.str (cutS y none (some 7) ++ s))
  | _ => none
theorem near_map (y : Str) : [V.str y] ++ (sgV alpha).filterMap (glue7 y) = (nearOf y).map V.str := by
  unfold nearOf sgV
  rw [List.map_cons, List.map_map]
  show V.str y :: _ = V.str y :: _
  refine congrArg (V.str y :: ·) ?_
  generalize alpha.cps.toList = l
  induction l with
  | nil => rfl
  | cons a r ih =>
    rw [List.map_cons, List.map_cons, List.filterMap_cons]
    exact congrArg (V.str _ :: ·) ih
def leftOut (xs : List Str) (v : V) : Option V := if inV v (xs.map V.str) = true then none else some v
theorem left_map (xs : List Str) (l : List Str) : (l.map V.str).filterMap (leftOut xs) = (l.filterMap fun s => if s ∈ xs then none else some s).map V.str := by
  induction l with
  | nil => rfl
  | cons a r ih =>
    rw [List.map_cons, List.filterMap_cons, List.filterMap_cons, ih]
    unfold leftOut
    rw [inV_str]
    by_cases h : a ∈ xs
    · simp [h]
    · simp [h]
theorem sgV_len : (sgV alpha).length = 26 := by decide +kernel
def spNames (K : PySem.W.Frag) : Sp := fun vs H Q _ => ∃ (p c : Addr) (ms : List Int) (t : Nat) (z n : Int), vs = [.ref p, .int n] ∧ Pen H p c ms t z ∧ t < 800000 ∧ 0 ≤ n ∧ n ≤ 25 ∧
  ∀ (xs : List Str) (f : Addr) (H' : Hp) (t' : Nat) (z' : Int), xs.length = n.toNat → (∀ x ∈ xs, IsNm x) → xs.Nodup → H f = none → H' f = some (.lst (xs.map V.str)) → But p H H' → Pen H' p c ms t' z' → t' ≤ t + 12 * n.toNat → Q (.ref f) H'
/-- whether a text is a name -/
def nmB (x : Str) : Bool := decide (1 ≤ x.length) && (decide (x.length ≤ 8) && x.cps.toList.all fun c => decide (c ∈ alpha.cps.toList))
theorem letter_iff {c : Nat} : c ∈ alpha.cps.toList ↔ 97 ≤ c ∧ c ≤ 122 := by
  refine ⟨letters_all c, fun h => ?_⟩
  have e := letters_at (j := c - 97) (by omega)
  rw [show 97 + (c - 97) = c by omega] at e
  exact List.mem_of_getElem? e
theorem nmB_iff {x : Str} : nmB x = true ↔ IsNm x := by
  unfold nmB
  rw [Bool.and_eq_true, Bool.and_eq_true, decide_eq_true_eq, decide_eq_true_eq, List.all_eq_true]
  constructor
  · rintro ⟨h1, h2, h3⟩
    exact ⟨h1, h2, fun c hc => letter_iff.mp (of_decide_eq_true (h3 c hc))⟩
  · intro h
    exact ⟨h.lo, h.hi, fun c hc => decide_eq_true (letter_iff.mpr (h.az c hc))⟩
def spIsName (K : PySem.W.Frag) : Sp := fun vs H Q _ => ∃ (v : V), vs = [v] ∧ ((∃ x, v = .str x ∧ x.length ≤ sizeLine ∧ ∀ H', Same H H' → Q (.bl (nmB x)) H') ∨
  ∃ t, TyX K H v t ∧ PySem.W.kitOne K t (.type "str") = some false ∧ Q (.bl false) H)
end Z
namespace Z
open PySem PySem.Spec PyProof.Rows L2
/-! ### defs that may ask for a repr: nothing is being shown around them -/
structure FnG (P : Program) (w : World) (K : PySem.W.Frag) (mg : Str → Option Value) (base : Heap) (CX : CXT) (k : Nat) (f : Addr) (fd : FuncData) (ps : List Str) (sp : Sp) : Prop where
  len : ∀ vs H Q E, sp vs H Q E → vs.length = ps.length
  run : ∀ (A : Around) (outer : List Env) (s : Shared) (H : Hp) (args : Args) (us : List Value) (vs : List V) (Q : VK) (E : XK), A.guards = some [] → Room k A → Env0 P w K mg base A outer s H → BindsTo s fd args (ps.zip us) → Vals vs us → sp vs H Q E → codeAny (model P w) A (.call (.ref f) args) (CR CX outer P w H s Q E) s
theorem FnG.of {P : Program} {w : World} {K : PySem.W.Frag} {mg : Str → Option Value} {base : Heap} {CX : CXT} {k : Nat} {f : Addr} {fd : FuncData} {ps : List Str} {sp : Sp} (F : FnOk P w K mg base CX k f fd ps sp) : FnG P w K mg base CX k f fd ps sp :=
  ⟨F.len, fun A outer s H args us vs Q E _ hr => F.run A outer s H args us vs Q E hr⟩
theorem FnG.mono {P : Program} {w : World} {K : PySem.W.Frag} {mg : Str → Option Value} {base : Heap} {CX : CXT} {j k : Nat} {f : Addr} {fd : FuncData} {ps : List Str} {sp : Sp} (F : FnG P w K mg base CX j f fd ps sp) (h : j ≤ k) : FnG P w K mg base CX k f fd ps sp :=
  ⟨F.len, fun A outer s H args us vs Q E hg hr => F.run A outer s H args us vs Q E hg (hr.mono h)⟩
section
variable {P : Program} {w : World} {K : PySem.W.Frag} {mg : Str → Option Value} {base : Heap} {x qual : Str} {params : Arguments} {body : List Stmt} {scope : Scope} {dvs : List V} {kws : List (Str × V)} {f : Addr} {fd : FuncData}
theorem okG {CX : CXT} {N ps : List Str} {k : Nat} {sp : Sp} (F : FunD K x qual params body scope dvs kws f fd) (S : FnScope N ps scope) (len : ∀ vs H Q E, sp vs H Q E → vs.length = ps.length)
    (hbody : ∀ (cdv : Value) (A : Around) (outer : List Env) (s : Shared) (H : Hp) (vs : List V) (Q : VK) (E : XK), A.guards = some [] → Room k (A.deeper (envOfC qual scope s.heap.objs.size f cdv)) → sp vs H Q E →
      ∃ t, PSs (cxOf CX P w K mg base N qual scope f cdv A outer s H E) body t ∧ t { nx := fun _ H' => Q .non H', rt := Q } (start N vs) H) : FnG P w K mg base CX (k + 1) f fd ps sp := by
  obtain ⟨oc, od, dV, kV, doc, pm, an, cdv, ct, osl, rfl, lk, hcd, _, _⟩ := F.ex
  constructor
  · exact len
  intro A outer s H args us vs Q E hgu hr e0 hb r hsp
  have hlen := len _ _ _ _ hsp
  have kx : K.In s.heap := e0.mod.kin.keeps (fun b o e => (e0.bs b o e).1)
  have nol : s.heap.NoLimit := e0.mod.nolimit.keeps (fun b o e => (e0.bs b o e).1)
  have kinds : ∀ y ∈ ps.zip us, scope.names.lookup y.1 = some .local ∨ (scope.names.lookup y.1 = some .cell ∧ ((cellsFrom (s.heap.objs.size + 1) scope.names []).lookup y.1).isSome = true) := by
    rintro ⟨n, v⟩ hy
    cases S.par n (List.of_mem_zip hy).1 with
    | inl q => exact Or.inl q
    | inr q => exact Or.inr ⟨q, PySem.W.cellsFrom_some _ _ _ (Or.inl q)⟩
  refine codeAny_call_function hr.depth (kx _ _ lk) rfl S.co S.gen rfl (PySem.W.codeRec_of kx hcd) ?_
  refine hb _ _ _ _ (wpAny_newFunctionEnv_cells S.kind kinds ?_)
  rintro env rfl s1 x1
  refine ⟨nol.keeps x1.toInCall.keep, ?_⟩
  obtain ⟨t, ht, hq⟩ := hbody cdv A outer s H vs Q E hgu (hr.deeper _) hsp
  have I : Inv (cxOf CX P w K mg base N qual scope f cdv A outer s H E) [] (start N vs) H s1 := inv_start S hr.hd e0 hlen r x1
  refine codeAny_func (wpAny_mono (ht.run [] s1 (start N vs) H _ I hq) (fun fl s' hs => ?_) (fun _ _ z => z))
  have ends : ∀ {σ' : L2.St} {H' : Hp} {v : V} {u : Value}, Inv (cxOf CX P w K mg base N qual scope f cdv A outer s H E) [] σ' H' s' → RelV v u → Q v H' → CE outer P w H s Q u s' := by
    intro σ' H' v u J rv q
    exact ⟨v, H', J.os, J.bare, J.base, J.hok, rv, q⟩
  match fl, hs with
  | .ret u, ⟨v, σ', H', J, rv, q⟩ => exact ends J rv q
  | .next, ⟨σ', H', J, q⟩ => exact ends (v := .non) (u := .none) J rfl q
  | .brk, ⟨_, _, _, q⟩ => exact q.elim
  | .cont, ⟨_, _, _, q⟩ => exact q.elim
end
/-- a def of the module that may show things -/
structure DefG (P : Program) (w : World) (K : PySem.W.Frag) (mg : Str → Option Value) (base : Heap) (k : Nat) (x : Str) (ps : List Str) (sp : Sp) : Prop where
  ex : ∃ fd, FnG P w K mg base CX0 k (He.ga K x) fd ps sp ∧ Binds K fd ps []
  kp : PySem.W.keepIn K (.ref (He.ga K x)) = true
  at_ : mg x = some (.ref (He.ga K x))
theorem run_fnG {X : Cx} {CX : CXT} {k : Nat} {f : Addr} {fd : FuncData} {ps : List Str} {sp : Sp} {ds : List Value} {dvs : List V} {E : XK} {pins : List (Addr × Obj)} {σ : L2.St} {H : Hp} {s : Shared} {Q : VK} {us : List Value} {vs : List V}
    (F : FnG X.prog X.w X.K X.mg X.base CX k f fd ps sp) (hgu : X.A.guards = some []) (hr : Room k X.A) (hb : Binds X.K fd ps ds) (hd : Vals dvs ds) (hx : Passes CX X E) (I : Inv X pins σ H s) (r : Vals vs us) (h : sp (vs ++ dvs) H Q E) :
    wpAny (model X.prog X.w) X.A (call (.ref f) us) (EP X pins σ Q) X.xe s := by
  have both : Vals (vs ++ dvs) (us ++ ds) := r.append hd
  have hlen : (us ++ ds).length = ps.length := (both.length.symm).trans (F.len _ _ _ _ h)
  refine wpAny_call ?_
  refine codeAny_mono (F.run X.A X.stack s H ⟨us, []⟩ (us ++ ds) (vs ++ dvs) Q E hgu hr I.env0 (hb s us I.kIn hlen) both h) ?_
  intro res s' hq
  match res, hq with
  | .error e, hq => exact hx pins σ H s e s' I hq
  | .ok (.ret u), hq => exact I.after hq
  | .ok .next, hq => exact hq.elim
  | .ok .brk, hq => exact hq.elim
  | .ok .cont, hq => exact hq.elim
theorem pe_defG {X : Cx} {k : Nat} {x : Str} {ps : List Str} {sp : Sp} {e : Expr} {es : List Expr} {p pos : Pos} {t : TA} (D : DefG X.prog X.w X.K X.mg X.base k x ps sp) (hgu : X.A.guards = some []) (hr : Room k X.A) (hg : Gl X x) (ha : PA X (e :: es) t)
    (hdb : (x == ("__debug__" : Str)) = false := by decide) (he : starEach (e :: es) X.env = (false, eval e X.env) :: starEach es X.env := by rfl) (hpl : (backTo pos (starEach es X.env)).any (·.1) = false := by rfl) :
    PE X (.Call (.Name x p) (e :: es) [] pos) (tCall sp [] E0 t) := by
  obtain ⟨fd, F, b⟩ := D.ex
  exact ⟨fun pins s σ H Q I h => wpAny_Call_Name_kw (ld_glob I hg D.at_ (PySem.W.callWith_K (h₀ := X.base) I.ok.mod.kin D.kp
    (thn (ha.run pos pins s σ H _ I h) fun us s1 ⟨vs, H1, I1, r, q⟩ => ⟨I1.kIn, run_fnG F hgu hr b .nil pass0 I1 r q⟩) he hpl) hdb)⟩
/-! ### repr of data -/
def rRepr (K : PySem.W.Frag) : List V → Hp → VK → Prop := fun xs H Q => ∃ x d, xs = [x] ∧ Dp K H x d ∧ PyData.showable d = true ∧ PyData.hasDict d = false ∧ d.depth ≤ 64 ∧ d.shown.length ≤ sizeLine ∧ Q (.str d.shown) H
theorem kcall_repr {X : Cx} {K : PySem.W.Frag} (hgu : X.A.guards = some []) (hu : X.A.units + 70 < cLine) (hK : X.K = K := by rfl) : CallR X (.builtin "repr") (rRepr K) := by
  subst hK
  rintro pins s σ H xs us Q I r ⟨x, d, rfl, hd, hs, hn, hdep, hz, q⟩
  cases r with
  | cons r1 rs =>
    cases rs
    rename_i u
    have fin : ∀ (h' : Heap) (y : Tok) (tk : Nat), (∀ b o, s.heap.get? b = some o → h'.get? b = some o) → EP X pins σ Q (.str d.shown y) { s with heap := h', toks := tk } := fun h' y tk hk => ⟨.str d.shown, H, I.kept hk, ⟨y, rfl⟩, q⟩
    have fin0 : ∀ (y : Tok) (tk : Nat), EP X pins σ Q (.str d.shown y) { s with toks := tk } := fun y tk => fin s.heap y tk fun _ _ e => e
    cases hd with
    | non => cases r1; exact PySem.P.repr_of_none (fin0 _ _)
    | bl b => cases r1; exact PySem.P.repr_of_bool (fin0 _ _)
    | int i =>
      obtain ⟨t, rfl⟩ := r1
      exact PySem.P.repr_of_int (by simpa [PyData.showable] using hs) (fin0 _ _)
    | str z =>
      obtain ⟨t, rfl⟩ := r1
      exact PySem.P.repr_of_str (fin0 _ _) hz
    | lst hq ha =>
      obtain ⟨as, rd⟩ := Dp.reads I _ _ _ (Dp.lst hq ha) r1
      cases r1
      exact repr_of_reads' rd hs (PyData.noDict_hsm hn) hgu (by omega) (fun _ _ e => e) (fun h' y tk hk => fin h' y tk hk) hz
    | tup hq ha =>
      obtain ⟨as, rd⟩ := Dp.reads I _ _ _ (Dp.tup hq ha) r1
      cases r1
      exact repr_of_reads' rd hs (PyData.noDict_hsm hn) hgu (by omega) (fun _ _ e => e) (fun h' y tk hk => fin h' y tk hk) hz
/-! ### a law whose def may show things -/
theorem law_callG {P : Program} {w : World} {K : PySem.W.Frag} {mg mb : Str → Option Value} {CX : CXT} {k : Nat} {fa a : Addr} {fd : FuncData} {x : Str} {sp : Sp} {s₁ : Shared} {vs : List Value} {ns : List Int}
    (KX : K.In s₁.heap) (hns : s₁.heap.Ns mainGlobals mg) (hb : s₁.heap.Ns builtinsNs mb) (hbb : ∀ x : Str, x ≠ "__name__" → mb x = bootBuiltins x) (hlim : s₁.heap.NoLimit) (hgens : s₁.gens = #[])
    (ha : s₁.heap.get? a = some { cls := .type "list", data := .seq vs.toArray }) (hi : IntsAre vs ns) (hl : ns.length ≤ sizeLine) (hr : Room k callerA)
    (F : ∀ base : Heap, K.In base → base.Ns mainGlobals mg → FnG P w K mg base CX k fa fd [x] sp) (hbind : ∀ (s : Shared) (u : Value), BindsTo s fd ⟨[u], []⟩ [(x, u)])
    (hsp : ∀ H : Hp, Only H → SqL K H a (ns.map V.int) → sp [.ref a] H (fun v _ => v = .bl true) fun _ _ _ => False) (hCX : ∀ H e s', CX [] H s₁ (fun _ _ _ => False) e s' → False) :
    codeAny (model P w) callerA (.call (.ref fa) ⟨[.ref a], []⟩) (fun r s' => r = .ok (.ret (.bool true)) ∧ OldK s₁.heap s'.heap ∧ s'.os = s₁.os ∧ AllBare s'.gens) s₁ := by
  have relV := vals_ints hi
  have sameLen := hi.length
  have main : ∀ H : Hp, Only H → SqL K H a (ns.map V.int) → HOk P w H s₁.heap → (∀ b, H b ≠ none → b = a) → (H a ≠ none → K.lookup a = none) →
      codeAny (model P w) callerA (.call (.ref fa) ⟨[.ref a], []⟩) (fun r s' => r = .ok (.ret (.bool true)) ∧ OldK s₁.heap s'.heap ∧ s'.os = s₁.os ∧ AllBare s'.gens) s₁ := by
    intro H hO hS hok onlyA freeK
    have seen : ∀ {b : Addr} {o : Obj}, s₁.heap.get? b = some o → H b = none → (hidT s₁.heap H).get? b = some o := by
      intro b o e n
      exact hidT_get e n
    have noDict : ∀ {b : Addr} {o : Obj} {es : Array DictEntry} {ep : Nat}, s₁.heap.get? b = some o → o.data = .dict es ep → H b = none := by
      intro b o es ep e d
      cases q : H b with
      | none => rfl
      | some u =>
        have eb : b = a := onlyA b (by rw [q]; simp)
        subst eb
        rw [ha] at e
        cases e
        have d2 : Data.seq vs.toArray _ = Data.dict es ep := d
        cases d2
    have nsKeep : ∀ {b : Addr} {m : Str → Option Value}, s₁.heap.Ns b m → (hidT s₁.heap H).Ns b m := by
      rintro b m ⟨o, es, ep, e, d, r⟩
      exact ⟨o, es, ep, seen e (noDict e d), d, r⟩
    have kBase : K.In (hidT s₁.heap H) := by
      intro b o e
      refine seen (KX b o e) ?_
      cases q : H b with
      | none => rfl
      | some u =>
        have eb : b = a := onlyA b (by rw [q]; simp)
        subst eb
        rw [freeK (by rw [q]; simp)] at e
        cases e
    have theMod : Mod K mg (hidT s₁.heap H) := ⟨kBase, nsKeep hns, ⟨mb, nsKeep hb, hbb⟩, let ⟨mc, h1, h2⟩ := hlim; ⟨mc, nsKeep h1, h2⟩⟩
    have start0 : Env0 P w K mg (hidT s₁.heap H) callerA [] s₁ H :=
      ⟨rfl, theMod, fun b o e => of_hidT e, Nat.le_of_eq (hidT_size _ _), trivial, fun b hb => absurd (show b ∈ ([] : List Addr) from hb) (by simp), hok, .of_eq hgens⟩
    have ran := (F _ kBase (nsKeep hns)).run callerA [] s₁ H ⟨[.ref a], []⟩ [.ref a] [.ref a] _ _ rfl hr start0 (hbind s₁ (.ref a)) (.cons rfl .nil) (hsp H hO hS)
    refine codeAny_mono ran ?_
    intro r s' h
    match r, h with
    | .error e, h => exact (hCX H e s' h).elim
    | .ok .next, h => exact h.elim
    | .ok .brk, h => exact h.elim
    | .ok .cont, h => exact h.elim
    | .ok (.ret u), ⟨v, H', os, bare, un, hok', rv, q⟩ =>
      have hv : v = .bl true := q
      subst hv
      obtain rfl : u = Value.bool true := rv
      refine ⟨rfl, OldK.of_keep (fun b o e => ?_), os, bare⟩
      cases q : H b with
      | none => exact un.keep b o e q (by intro z; exact absurd (show b ∈ ([] : List Addr) from z) (by simp)) (by simp)
      | some u =>
        cases hO b with
        | inl z => rw [q] at z; cases z
        | inr z =>
          obtain ⟨ob, xs, z⟩ := z
          obtain ⟨e1, _⟩ := hok b _ z
          obtain ⟨e2, _⟩ := hok' b _ (un.frzs b ob _ z)
          rw [e] at e1
          cases e1
          exact e2
  cases hk : K.lookup a with
  | some o =>
    have e := KX a o hk
    rw [ha] at e
    cases e
    exact main (fun _ => none) (fun _ => .inl rfl) (.inr ⟨_, vs.toArray, _, hk, rfl, rfl, rfl, by rw [List.size_toArray, sameLen]; exact hl, by simpa using relV⟩) (fun b u z => nomatch (show (none : Option HO) = some u from z)) (fun b z => absurd rfl z) (fun z => absurd rfl z)
  | none =>
    refine main (fun b => if b = a then some (.frz { cls := .type "list", data := .seq vs.toArray } (.lst (ns.map V.int))) else none) ?_ (.inl (.inr ⟨{ cls := .type "list", data := .seq vs.toArray }, if_pos rfl⟩)) ?_ ?_ (fun _ => hk)
    · intro b
      by_cases eb : b = a
      · exact .inr ⟨_, _, if_pos eb⟩
      · exact .inl (if_neg eb)
    · intro b u z
      by_cases eb : b = a
      · have z2 := (if_pos eb).symm.trans z
        cases z2
        subst eb
        exact ⟨ha, by rw [List.length_map]; exact hl, vs, _, relV, ha⟩
      · have z2 := (if_neg eb).symm.trans z
        cases z2
    · intro b z
      by_cases eb : b = a
      · exact eb
      · exact absurd (if_neg eb) z
/-- the end over a head by facts -/
theorem walk_G {l : PySem.W.OpenLaw} {n k : Nat} {q : Program} {loose : List Str} {XP : (Str → Option Value) → Heap → Prop} {YP : World → Heap → Prop} {d : DefRec} {CX : CXT} {x : Str} (hn : l.most = some n) (hn2 : n ≤ sizeLine) (hdf : d.params.defaults = []) (hr : Room k callerA)
    (F : ∀ (w : World) (mg : Str → Option Value) (fa : Addr) (h : Heap), YP w h → h.Ns mainGlobals mg → mg d.name = some (.ref fa) → ∃ (K : PySem.W.Frag) (fd : FuncData) (sp : Sp), K.In h ∧ (∀ (s : Shared) (u : Value), BindsTo s fd ⟨[u], []⟩ [(x, u)]) ∧
        (∀ (H : Hp) (a : Addr) (ns : List Int), ns.length ≤ n → Only H → SqL K H a (ns.map V.int) → sp [.ref a] H (fun v _ => v = .bl true) fun _ _ _ => False) ∧ ∀ base : Heap, K.In base → base.Ns mainGlobals mg → FnG l.prog w K mg base CX k fa fd [x] sp)
    (hCX : ∀ (H : Hp) (s : Shared) (e : Value) (s' : Shared), CX [] H s (fun _ _ _ => False) e s' → False) : PySem.W.WalkO q loose XP YP l.row.toRowW d [] (fun f vs => PySem.call f vs) := by
  refine Att.attach_call hn hdf ?_
  intro w s₀ s₁ mg mb fa o pm cd doc a vs ns G Y ho hd hcd hmg hobj hints hlen hg
  obtain ⟨K, fd, sp, kx, hbd, hsp, hF⟩ := F w mg fa _ Y G.T.g hmg
  exact law_callG kx G.T.g G.T.b G.T.builtins G.T.nolimit hg hobj hints (Nat.le_trans hlen hn2) hr hF hbd (fun H hO hS => hsp H a ns hlen hO hS) (fun H e s' => hCX H s₁ e s')
end Z
namespace Z
open PySem PySem.Spec PyProof.Rows L2
/-! ### comparisons by an own method -/
/-- a method of an own class keeps its promise -/
structure DefM (P : Program) (w : World) (K : PySem.W.Frag) (mg : Str → Option Value) (base : Heap) (k : Nat) (f : Addr) (ps : List Str) (sp : Sp) : Prop where
  ex : ∃ fd, FnOk P w K mg base CX0 k f fd ps sp ∧ Binds K fd ps []
/-- x op y by the method of x's class: what it is handed, what it gives back (a truth value) -/
def rOwn (K : PySem.W.Frag) (C : Addr) (sp : Sp) : R2 := fun x y H Q => ∃ (a dx : Addr) (fs : List (Str × V)) (tb : Value), x = .ref a ∧ H a = some (.ins C dx fs) ∧ TyX K H y tb ∧ PySem.W.notFirst K C tb = true ∧ sp [.ref a, y] H (fun v H' => ∃ b, v = .bl b ∧ Q (.bl b) H') E0
theorem op_own {X : Cx} {K : PySem.W.Frag} {op : CmpOp} {C f : Addr} {k : Nat} {ps : List Str} {sp : Sp} (D : DefM X.prog X.w K X.mg X.base k f ps sp) (hr : Room k X.A) (hs : PySem.W.findIn K (.ref C) (cmpInfo op).2.1 = some (some (.ref f))) (hf : PySem.W.isFn K (.ref f) = true)
    (ho : ∀ u v, compareOp op u v = richCompare op u v := by intro _ _; rfl) (hK : X.K = K := by rfl) : OpR X (compareOp op) (rOwn K C sp) := by
  subst hK
  obtain ⟨fd, F, hb⟩ := D.ex
  rintro pins s σ H x y v u Q I rx ry ⟨a, dx, fs, tb, rfl, ha, ty, hnf, hq⟩
  cases rx
  obtain ⟨mA, J, _⟩ := ins_get I.hok ha
  obtain ⟨od, J, _⟩ := J.look
  obtain ⟨m, hF⟩ := I.fr
  obtain ⟨Pk, Z1, pk, _⟩ := kit_of I ry ty
  rw [ho]
  refine PySem.W.cmp_K (op := op) (tb := tb) hr.units0 hF I.ok.mod.kin J (Z1.ty (model X.prog X.w) s.heap I.kIn pk) hnf hs hf ?_
  have hv : Vals [V.ref a, y] [Value.ref a, u] := .cons rfl (.cons ry .nil)
  refine wpAny_mono (run_fn F hr hb .nil pass0 I hv hq) (fun r s' z => ?_) (fun _ _ z => z)
  obtain ⟨v', H', I', rv, b, rfl, q⟩ := z
  cases rv
  exact ⟨.bl b, H', I', rfl, q⟩
section
variable {prog : Program} {w : World} {A : Around} {E : Value → Shared → Prop} {s : Shared} {K : PySem.W.Frag} {x C f : Addr} {ox : Obj} {od : Option Obj} {u : Value}
theorem ne_body {Q : Fin → Shared → Prop} (X : K.In s.heap) (I : PySem.W.InstAt s.heap x ox C od) (hs : PySem.W.findIn K (.ref C) "__eq__" = some (some (.ref f))) (hf : PySem.W.isFn K (.ref f) = true) (hu : A.units < cLine)
    (hc : wpAny (model prog w) A (call (.ref f) [.ref x, u]) (fun v s' => ∃ b, v = .bool b ∧ Q (.done (.ret (.bool (!b)))) s') E s) : wpAny (model prog w) A (Builtin.«object.__ne__» ⟨[.ref x, u], []⟩) Q E s := by
  unfold Builtin.«object.__ne__»
  repeat (first
    | (with_reducible refine wpAny_cRoomFor hu ?_)
    | (refine wpAny_bind (m := callSpecialIfBound? (.ref x) (Str.ofString "__eq__") [u]) (PySem.W.ifBound_K X I hs hf (wpAny_mono hc (fun r s' hr => ?_) fun _ _ e => e)))
    | wp_step)
  obtain ⟨b, rfl, hq⟩ := hr
  repeat (first | exact hq | exact wpAny_pure hq | exact wpAny_truthy_bool hq | (refine wpAny_bind (m := truthy (.bool _)) (wpAny_truthy_bool ?_)) | wp_step)
theorem ne_bound {M : Model} {args : List Value} {Q : Option Value → Shared → Prop} (X : K.In s.heap) (I : PySem.W.InstAt s.heap x ox C od) (hn : PySem.W.findIn K (.ref C) "__ne__" = some (some (.builtin "object.__ne__")))
    (h : wpAny M A (call (.builtin "object.__ne__") (.ref x :: args)) (fun v => Q (some v)) E s) : wpAny M A (callSpecialIfBound? (.ref x) "__ne__" args) Q E s := by
  have done : wpAny M A (call (.builtin "object.__ne__") ([.ref x] ++ args) >>= fun v => pure (some v)) Q E s := wpAny_bind (wpAny_mono h (fun v s' h' => wpAny_pure h') fun _ _ h' => h')
  simp only [callSpecialIfBound?, bindSpecialIfBound?]
  refine wpAny_holding (wpAny_bind (wpAny_bind (wpAny_bind (I.type.here ((PySem.W.looks_findIn X hn).here (wpAny_bind (wpAny_askSetting (wpAny_ite ?_))))))))
  split
  · exact wpAny_bind (wpAny_of_eq (F.cmp_object.ne.bind _) (wpAny_pure (by exact done)))
  · exact wpAny_tryCatch (wpAny_bind (wpAny_of_eq (F.cmp_object.ne.bind _) (wpAny_pure (by exact done))))
theorem ne_rich {tb : Value} {Q : Value → Shared → Prop} (hu : A.units + 1 < cLine) (X : K.In s.heap) (I : PySem.W.InstAt s.heap x ox C od) (hm : PySem.W.mroIn K C (.type "object") = some true) (hb : PySem.W.Looks (model prog w) s.heap (typeOf u) tb) (hnf : PySem.W.notFirst K C tb = true)
    (hs : PySem.W.findIn K (.ref C) "__eq__" = some (some (.ref f))) (hf : PySem.W.isFn K (.ref f) = true) (hn : PySem.W.findIn K (.ref C) "__ne__" = some (some (.builtin "object.__ne__")))
    (hc : wpAny (model prog w) A.in1 (call (.ref f) [.ref x, u]) (fun v s' => ∃ b, v = .bool b ∧ Q (.bool (!b)) s') E s) : wpAny (model prog w) A (richCompare .NotEq (.ref x) u) Q E s := by
  have one : wpAny (model prog w) A (tryCompare (.ref x) "__ne__" u) (fun r s' => ∃ v, r = some v ∧ Q v s') E s := by
    unfold tryCompare
    refine wpAny_bind (ne_bound X I hn (wpAny_call (codeAny_call_builtin F.cmp_object.ne.plain F.cmpEntry_ne (PySem.W.check_slot F.cmpKind_ne F.cmpSplit_ne (I.type.andThen (PySem.W.looks_mroIn X hm)) (F.cmpArgs_ne _ _) (ne_body (A := A.in1) X I hs hf hu (wpAny_mono hc (fun v s' hv => ?_) fun _ _ e => e))))))
    obtain ⟨b, rfl, hq⟩ := hv
    first | exact ⟨b, rfl, wpAny_pure ⟨_, rfl, hq⟩⟩ | exact ⟨b, rfl, wpAny_pure (wpAny_pure ⟨_, rfl, hq⟩)⟩ | exact ⟨b, rfl, ⟨_, rfl, hq⟩⟩
  unfold richCompare
  simp only [oneThing_ref]
  refine wpAny_holding (wpAny_bind (wpAny_cRoomFor (by omega) (wpAny_bind (I.type.here (wpAny_bind (hb.here ?_))))))
  split
  · rename_i q
    have e : PySem.W.subIn K tb (.ref C) = some false := by
      cases Bool.or_eq_true_iff.mp hnf with
      | inl e => rw [beq_iff_eq.mp e] at q; simp at q
      | inr e => exact beq_iff_eq.mp e
    refine wpAny_bind ((PySem.W.looks_subIn X e).here ?_)
    simp only [Bool.false_eq_true, if_false]
    refine wpAny_bind (wpAny_mono one (fun r s' z => ?_) (fun _ _ z => z))
    obtain ⟨v, rfl, hq⟩ := z
    exact wpAny_pure hq
  · refine wpAny_bind (wpAny_pure ?_)
    simp only [Bool.false_eq_true, if_false]
    refine wpAny_bind (wpAny_mono one (fun r s' z => ?_) (fun _ _ z => z))
    obtain ⟨v, rfl, hq⟩ := z
    exact wpAny_pure hq
end
/-- x != y by the own == of x's class -/
def rOwnNe (K : PySem.W.Frag) (C : Addr) (sp : Sp) : R2 := fun x y H Q => ∃ (a dx : Addr) (fs : List (Str × V)) (tb : Value), x = .ref a ∧ H a = some (.ins C dx fs) ∧ TyX K H y tb ∧ PySem.W.notFirst K C tb = true ∧ sp [.ref a, y] H (fun v H' => ∃ b, v = .bl b ∧ Q (.bl (!b)) H') E0
theorem op_ownNe {X : Cx} {K : PySem.W.Frag} {C f : Addr} {k : Nat} {ps : List Str} {sp : Sp} (D : DefM X.prog X.w K X.mg X.base k f ps sp) (hr : Room (k + 1) X.A) (hm : PySem.W.mroIn K C (.type "object") = some true)
    (hs : PySem.W.findIn K (.ref C) "__eq__" = some (some (.ref f))) (hf : PySem.W.isFn K (.ref f) = true) (hn : PySem.W.findIn K (.ref C) "__ne__" = some (some (.builtin "object.__ne__"))) (hK : X.K = K := by rfl) : OpR X (compareOp .NotEq) (rOwnNe K C sp) := by
  subst hK
  obtain ⟨fd, F, hb⟩ := D.ex
  rintro pins s σ H x y v u Q I rx ry ⟨a, dx, fs, tb, rfl, ha, ty, hnf, hq⟩
  cases rx
  obtain ⟨mA, J, _⟩ := ins_get I.hok ha
  obtain ⟨od, J, _⟩ := J.look
  obtain ⟨Pk, Z1, pk, _⟩ := kit_of I ry ty
  show wpAny (model X.prog X.w) X.A (richCompare .NotEq (.ref a) u) (EP X pins σ Q) X.xe s
  have hun := hr.units0
  refine ne_rich (by have := hr.un; omega) I.kIn J hm (Z1.ty (model X.prog X.w) s.heap I.kIn pk) hnf hs hf hn ?_
  have e0 : Env0 X.prog X.w X.K X.mg X.base X.A.in1 X.stack s H := by
    have e := I.env0
    exact ⟨e.frames, e.mod, e.bs, e.bsz, e.funs, e.frf, e.hok, e.bare⟩
  have hv : Vals [V.ref a, y] [Value.ref a, u] := .cons rfl (.cons ry .nil)
  have hl : [V.ref a, y].length = ps.length := F.len _ _ _ _ hq
  have bt : BindsTo s fd ⟨[.ref a, u], []⟩ (ps.zip [.ref a, u]) := by
    have := hb s [.ref a, u] I.kIn (by simpa using hl)
    simpa using this
  refine wpAny_call (codeAny_mono (F.run X.A.in1 X.stack s H ⟨[.ref a, u], []⟩ [.ref a, u] [.ref a, y] _ E0 hr.in1 e0 bt hv hq) (fun r s' hq => ?_))
  match r, hq with
  | .error e, hq => exact (show False from hq).elim
  | .ok .next, hq => exact hq.elim
  | .ok .brk, hq => exact hq.elim
  | .ok .cont, hq => exact hq.elim
  | .ok (.ret w), hq =>
    obtain ⟨z, H', I', rz, b, rfl, q⟩ := I.after hq
    cases rz
    exact ⟨b, rfl, .bl (!b), H', I', rfl, q⟩
end Z
namespace Z
open PySem PySem.Spec PyProof.Rows L2
/-! ### a caught exception that is kept -/
/-- a caught exception of the class cls stands at a, its own dict at d -/
def ExK (cls : Value) (d : Option Addr) (a : Addr) : HO := .ext fun h => ∃ (oe : Obj) (vs : Array Value), h.get? a = some oe ∧ Zc cls d oe ∧ oe.data = .fields vs
theorem exK_ok {P : Program} {w : World} {H : Hp} {h : Heap} {a : Addr} {cls : Value} {d : Option Addr} {oe : Obj} {vs : Array Value} (e : h.get? a = some oe) (z : Zc cls d oe) (f : oe.data = .fields vs) : ObjOk P w H h a (ExK cls d a) :=
  ⟨⟨oe, vs, e, z, f⟩, ⟨oe, e⟩, fun h1 h2 ⟨o1, v1, e1, z1, f1⟩ k => ⟨o1, v1, k o1 e1, z1, f1⟩⟩
theorem adopt {X : Cx} {pins : List (Addr × Obj)} {σ : L2.St} {H : Hp} {s : Shared} {a : Addr} {oe : Obj} {o : HO} (I : Inv X ((a, oe) :: pins) σ H s) (hnew : X.s_0.heap.get? a = none) (hp : ∀ p ∈ X.pn ++ pins, p.1 ≠ a) (ok : ObjOk X.prog X.w (upd H a o) s.heap a o) : Inv X pins σ (upd H a o) s := by
  obtain ⟨hget, hna, hnl, hnf, hnc⟩ := I.pin (a, oe) (List.mem_append_right _ (List.mem_cons_self ..))
  have other : ∀ b u, H b = some u → b ≠ a := by
    intro b u e z
    rw [z, hna] at e
    cases e
  have up : ∀ b u, H b = some u → upd H a o b = some u := fun b u e => by rw [upd_ne (other b u e)]; exact e
  refine ⟨I.ok, I.os, I.bare, ⟨I.base.keep, I.base.slot, ?_, I.base.there, ?_, ?_, ?_⟩, I.loc, I.cell, ?_, ?_, ?_, I.hok.laidN (fun _ _ e => e) hna ok, I.len⟩
  · intro b ob e n hx
    have nb : b ≠ a := by
      intro z
      rw [z, hnew] at e
      cases e
    rw [upd_ne nb]
    exact I.base.free b ob e n hx
  · exact fun b xs e => up b _ (I.base.tups b xs e)
  · exact fun b ob u e => up b _ (I.base.frzs b ob u e)
  · intro b ps e
    obtain ⟨more, e2⟩ := I.base.tbls b ps e
    exact ⟨more, up b _ e2⟩
  · rw [upd_ne (Ne.symm hnl)]
    exact I.free
  · intro x c e
    have nc : c ≠ a := by
      rintro rfl
      obtain ⟨v, ob, e2, d2⟩ := I.cell x c e
      have e3 : some oe = some ob := hget.symm.trans e2
      cases e3
      exact hnc v d2
    rw [upd_ne nc]
    exact I.freeC x c e
  · intro p hpp
    obtain ⟨q1, q2, q3⟩ := I.pin p (by
      rcases List.mem_append.mp hpp with z | z
      · exact List.mem_append_left _ z
      · exact List.mem_append_right _ (List.mem_cons_of_mem _ z))
    exact ⟨q1, by rw [upd_ne (hp p hpp)]; exact q2, q3⟩
/-- what the clause wishes: behind the suite the name is gone, and the exception is kept -/
def wKeep (K : PySem.W.Frag) (c : Value) (i : Nat) (ts : Addr → Value → Option Addr → TS) (Wout : WX) (D : Ends) : WX := fun cls d σ H =>
  ∃ b, PySem.W.exmOne K cls c = some b ∧ (b = false → Wout cls d σ H) ∧ (b = true → ∀ a, H a = none → ts a cls d { nx := fun σ' H' => D.nx (σ'.set i none) (upd H' a (ExK cls d a)), rt := fun _ _ => False } (σ.set i (some (.ref a))) H)
theorem ps_try_keep {X : Cx} (hex : X.ex = []) {x n : Str} {c : Value} {i : Nat} {body suite : List Stmt} {b₀ : Stmt} {np pos pos' : Pos} {tb : WX → TS} {ts : Addr → Value → Option Addr → TS} {Wout : WX} (hs : X.stack = X.env :: X.outer) (hf : X.env.frame = some X.env.locals) (hN : X.N.Nodup) (hi : X.N[i]? = some n)
    (hln : X.env.kindOf n = some .local) (hc : Names X x c) (tk : Takes X Wout) (hb : ∀ (W : WX) (pn : List (Addr × Obj)) (xe : Value → Shared → Prop), Takes (X.tr pn xe) W → PassesOwn (model X.prog X.w) X.A X.env xe → PSs (X.tr pn xe) body (tb W))
    (hsu : ∀ (a : Addr) (oe : Obj) (cls : Value) (d : Option Addr) (pn : List (Addr × Obj)), Zc cls d oe → (∃ vs, oe.data = .fields vs) → PSs (X.suite a ((a, oe) :: pn)) (b₀ :: suite) (ts a cls d)) :
    PS X (.Try body [.ExceptHandler (some (.Name x np)) (some n) (b₀ :: suite) pos'] [] [] pos) (fun D σ H => tb (wKeep X.K c i ts Wout D) D σ H) := by
  constructor
  intro pins s σ H D I h
  have okX := I.ok
  have frs0 : X.A.frames = some (X.env :: X.outer) := by rw [okX.frames, hs]
  have locn : Loc X.env.scope n := Or.inl hln
  apply wpAny_Try_except
  have whole := (hb (wKeep X.K c i ts Wout D) (X.pn ++ pins) (fun e s₁ => wpAny (model X.prog X.w) X.A (noteFrame e X.env) (fun _ s₂ => wpAny (model X.prog X.w) X.A (setFlight e none) (fun _ s₃ => wpAny (model X.prog X.w) X.A (handleBy e X.env [.ExceptHandler (some (.Name x np)) (some n) (b₀ :: suite) pos']) (SP X pins D) X.xe s₃) X.xe s₂) X.xe s₁) ?caught PassesOwn.looking).run [] s σ H D (I.toTry _) h
  case caught =>
    rintro u s' ⟨a, B, sI, pins', σ', H', cls, d, rfl, J', nb, up, sky, na, os, ag, b, hb1, hno, hyes⟩
    have J : Inv X pins σ' H' sI := J'.ofTry okX
    have sky' : Sky B (X.env :: X.outer) a (Zc cls d) X.env.locals s'.heap := by rw [← hs]; exact sky
    show wpAny (model X.prog X.w) X.A (noteFrame (.ref a) X.env) _ _ _
    apply Sky.land Zc.steady frs0 hf sky'
    intro h3 fl3 up3
    have J3 : Inv X pins σ' H' { s' with heap := h3 } := J.landed nb fl3.1 (up.trans up3) os ag
    obtain ⟨oe3, vs3, he3, hz3, hd3⟩ := fl3.there
    have noFrame : ∀ {g : Heap} {o : Obj} {vs : Array Value}, g.FunFrames B (X.env :: X.outer) → g.get? a = some o → o.data = .fields vs → a ∉ frs (X.env :: X.outer) := by
      intro g o vs ff e dd hm
      obtain ⟨_, o', e', hnf⟩ := ff.mem hm
      rw [e] at e'
      cases e'
      exact hnf _ dd
    have nfr := noFrame fl3.2.2.1 he3 hd3
    have nL : a ≠ X.env.locals := fun z => nfr (List.mem_filterMap.mpr ⟨X.env, List.mem_cons_self, by rw [hf, z]⟩)
    have nF : a ∉ X.fs := by
      intro hm
      obtain ⟨e, he, q⟩ := List.mem_filterMap.mp hm
      exact nfr (List.mem_filterMap.mpr ⟨e, List.mem_cons_of_mem _ he, q⟩)
    -- the exception was not there ahead of the call
    have ground : B.get? a = none := fl3.2.1
    have notI : sI.heap.get? a = none := by
      cases q : sI.heap.get? a with
      | none => rfl
      | some o =>
        have hfr : a ∉ frs X.stack := by rw [hs]; exact nfr
        rw [nb a o q hfr] at ground
        cases ground
    have not0 : X.ex = [] → X.s_0.heap.get? a = none := by
      intro hex
      cases q : X.s_0.heap.get? a with
      | none => rfl
      | some o =>
        obtain ⟨o', q'⟩ := J.base.there a o q (by rw [hex]; simp)
        rw [notI] at q'
        cases q'
    have apartPins : ∀ p ∈ X.pn ++ pins, p.1 ≠ a := by
      intro p hp z
      have := (J.pin p hp).1
      rw [z, notI] at this
      cases this
    have S3 := J3.suite he3 hd3 na nL nF
    refine wpAny_handleBy_cons (codeAny_handlers_test ?_) (by intro q; cases q)
    have LT : PySem.W.Looks (model X.prog X.w) h3 (typeOf (.ref a)) cls := fun A Q E s k q => wpAny_typeOf_ref (k _ _ he3) (by rw [hz3.1]; exact q)
    have LM := PySem.W.exm_one (M := model X.prog X.w) (J3.kIn) LT hb1
    have asked : ∀ {Q : Value → Shared → Prop} {E : Value → Shared → Prop}, Q c { s' with heap := h3 } → wpAny (model X.prog X.w) (X.A.mark (some (.ref a))) (eval (.Name x np) X.env) Q E { s' with heap := h3 } := by
      intro Q E q
      obtain ⟨hg, hdbg, hm⟩ := hc
      rcases hm with hm | ⟨hm, hv, hnn⟩
      · exact ld_glob (X := X.suite a ((a, oe3) :: (X.pn ++ pins))) S3 hg hm q hdbg
      · exact ld_blt (X := X.suite a ((a, oe3) :: (X.pn ++ pins))) S3 hg hm hv q hnn hdbg
    refine asked (LM.here ?_)
    cases b with
    | true =>
      refine codeAny_handlers_suite_as (HandSPX.lands_againZ fl3 ?_)
      intro h4 fl4 up4
      have J4 : Inv X pins σ' H' { s' with heap := h4 } := J.landed nb fl4.1 ((up.trans up3).trans up4) os ag
      obtain ⟨oe4, vs4, he4, hz4, hd4⟩ := fl4.there
      have S4 := J4.suite he4 hd4 na nL nF
      refine store_ok (X := X.suite a ((a, oe4) :: (X.pn ++ pins))) (v := .ref a) S4 hN hi locn rfl (fun s5 S5 => ?_) (Or.inr hln)
      refine wpAny_mono ((hsu a oe4 cls d (X.pn ++ pins) hz4 ⟨_, hd4⟩).run [] s5 _ H' _ S5 (hyes rfl a na)) ?_ (fun _ _ z => z.elim)
      intro f s6 hsp
      match f, hsp with
      | .brk, ⟨_, _, _, q⟩ => exact q.elim
      | .cont, ⟨_, _, _, q⟩ => exact q.elim
      | .ret _, ⟨_, _, _, _, _, q⟩ => exact q.elim
      | .next, ⟨σ6, H6, S6, q6⟩ =>
        have held : Inv X ((a, oe4) :: pins) σ6 H6 s6 := (S6.unsuite okX).pins_of (by
          intro p hp
          rcases List.mem_cons.mp hp with z | z
          · rw [z]; exact S6.pin (a, oe4) (List.mem_append_left _ (List.mem_cons_self ..))
          · exact S6.pin p (List.mem_append_left _ (List.mem_cons_of_mem _ (List.mem_append_right _ z))))
        refine gone_ok held hN hi hln (fun s7 J7 => ?_)
        have e7 := (J7.pin (a, oe4) (List.mem_append_right _ (List.mem_cons_self ..))).1
        refine ⟨_, _, adopt J7 (not0 hex) apartPins (exK_ok e7 hz4 hd4), q6⟩
    | false =>
      show wpAny _ X.A (handleBy (.ref a) X.env []) _ _ _
      refine wpAny_handleBy_nil ?_
      obtain ⟨k1, k2, k3, oe, vs, T, oT, ts', he, hz, hd, h1, hr⟩ := id fl3
      have go : wpAny (model X.prog X.w) X.A (setFlight (.ref a) X.env.frame) (fun _ s4 => wpAny (model X.prog X.w) X.A (throw (.ref a) : Sem Flow) (SP X pins D) X.xe s4) X.xe { s' with heap := h3 } := by
        rw [hf]
        refine HandSPX.setFlight_upZ fl3 (fun h4 hh4 up4 => wpAny_throw (tk _ _ ?_))
        exact ⟨a, B, sI, pins, σ', H', cls, d, rfl, J, nb, (up.trans up3).trans up4, Or.inr (Or.inr (by rw [hs]; exact hh4)), na, os, ag, hno rfl⟩
      unfold PySem.passOn
      refine wpAny_bind (wpAny_field he hd h1 ?_)
      rw [if_neg (show ¬ ((Value.ref T == Value.none) = true) from by simp)]
      first
        | exact wpAny_bind (wpAny_pure (wpAny_bind go))
        | exact wpAny_bind go
  refine wpAny_mono whole ?_ (fun e s1 he => he)
  intro f s1 hsp
  match f, hsp with
  | .next, ⟨σ', H', J', q⟩ => exact wpAny_execs_nil ⟨σ', H', J'.ofTry okX, q⟩
  | .brk, ⟨σ', H', J', q⟩ => exact ⟨σ', H', J'.ofTry okX, q⟩
  | .cont, ⟨σ', H', J', q⟩ => exact ⟨σ', H', J'.ofTry okX, q⟩
  | .ret u, ⟨v, σ', H', J', r, q⟩ => exact ⟨v, σ', H', J'.ofTry okX, r, q⟩
/-! ### isinstance of a kept exception, and its fields -/
section
variable {prog : Program} {w : World} {A : Around} {E : Value → Shared → Prop} {s : Shared} {K : PySem.W.Frag} {x D : Addr} {ox : Obj} {od : Option Obj}
open PySem.W PySem.Calls in
theorem its_class {Q : Option Value → Shared → Prop} (C : ExcC K D) (hf : findObj K D od "__class__" = some (.bind (.builtin "getset_descriptor.__get__") (.builtin "object.__class__"))) (X : K.In s.heap) (I : PySem.W.InstAt s.heap x ox D od)
    (h : Q (some (.ref D)) { s with toks := s.toks + 1 }) : wpAny (model prog w) A (getAttr? (.ref x) "__class__") Q E s := by
  obtain ⟨hp, g, d, t, os⟩ := s
  have k0 := I.type (M := model prog w)
  have k1 := looks_findIn (M := model prog w) X C.hg
  have k2 := looks_findIn (M := model prog w) X C.hk
  have k3 := looks_find (M := model prog w) X I hf
  have below : Looks (model prog w) hp (isInstance (.ref x) (.type "BaseException")) true := k0.andThen (looks_subIn X C.hs)
  have n0 : (false && onTheHeap (Value.builtin "BaseException.__getattribute__")) = false := rfl
  have n2 : (Value.builtin "BaseException.__getattribute__" == Value.builtin "object.__getattribute__") = false := by decide +kernel
  have n1 : (onTheHeap (Value.ref D) && Value.builtin "BaseException.__getattribute__" == Value.builtin "object.__getattribute__") = false := by rw [n2]; rfl
  unfold getAttr? getAttrBy? getAttrBy
  refine wpAny_bind (wpAny_mkText (wpAny_bind (wpAny_attempt (wpAny_holding (wpAny_bind (k0.at (wpAny_bind (k1.at ?_))))))))
  show wpAny (model prog w) _ (if (onTheHeap (Value.ref D) && Value.builtin "BaseException.__getattribute__" == Value.builtin "object.__getattribute__") = true then _ else _) _ _ _
  (rw [n1, if_neg Bool.false_ne_true]; unfold getAttrByItsOwn hookBefore; refine wpAny_bind ?_)
  (rw [if_pos (show onTheHeap (Value.ref D) = true from rfl)]; refine k2.at (wpAny_bind (wpAny_attempt (wpAny_holding ?_))))
  (unfold callGetattribute; rw [n0, if_neg Bool.false_ne_true]; unfold boundAndCalled; rw [PySem.F.excAttr_ValueError.ga.bind (.ref x)]; refine wpAny_bind (wpAny_pure ?_))
  show wpAny (model prog w) _ (call (.builtin "BaseException.__getattribute__") [.ref x, .str "__class__" t]) _ _ _
  refine wpAny_call (codeAny_call_builtin PySem.F.excAttr_ValueError.ga.plain PySem.F.entry_bexc_ga (@check_slot (model prog w) _ _ ⟨hp, g, d, t + 1, os⟩ "BaseException.__getattribute__" "BaseException" "__getattribute__" (.ref x) [.str "__class__" t] [] _ (by decide +kernel) (by decide +kernel) below (PySem.F.args_bexc_ga (.ref x) (.str "__class__" t)) ?_))
  (unfold Builtin.«object.__getattribute__»; refine wpAny_bind (wpAny_of_eq (a := ((Value.ref x : Value), [Value.str "__class__" t])) (by first | rfl | (simp only [slotArgs]; rfl)) (wpAny_bind (wpAny_pure (wpAny_bind (k0.at (wpAny_bind (k3.at ?_))))))))
  show wpAny (model prog w) _ (holding [Value.builtin "object.__class__"] (call (.builtin "getset_descriptor.__get__") [.builtin "object.__class__", .ref x, .ref D]) >>= ret) _ _ _
  refine wpAny_bind (wpAny_holding (wpAny_call (class_get (s := ⟨hp, g, d, t + 1, os⟩) (ox := ox) (od := od) X I C.hm (wpAny_pure ?_))))
  show wpAny (model prog w) _ (handedOut (.ref D)) _ _ _
  rw [handedOut_of (v := .ref D) rfl]
  first
    | exact wpAny_pure (wpAny_pure h)
    | exact wpAny_pure h
    | exact wpAny_pure (wpAny_bind (wpAny_pure (wpAny_pure h)))
open PySem.W in
theorem kit_kept (C : ExcC K D) (hf : findObj K D od "__class__" = some (.bind (.builtin "getset_descriptor.__get__") (.builtin "object.__class__"))) : KitX K (.ref x) (.ref D) (fun h => InstAt h x ox D od) := by
  obtain ⟨cdD, hcD, _⟩ := any_some C.hd
  unfold clsIn at hcD
  split at hcD
  · rename_i c' d' cd' sl' ho
    refine ⟨fun _ _ _ I => I.type, fun _ _ X _ => ?_, fun h tp dd its n sl X htp => ?_, fun X I k => its_class C hf X I k⟩
    · intro A' Q' E' s' k q
      unfold isType loadHead
      exact wpAny_bind (wpAny_loadPart (k _ _ (X _ _ ho)) (wpAny_pure q))
    · refine Bool.eq_false_iff.mpr (fun q => ?_)
      have e : D = tp := Value.ref.inj (beq_iff_eq.mp q)
      subst e
      have two := (X _ _ ho).symm.trans htp
      cases two
  · cases hcD
end
theorem kept_at {X : Cx} {pins : List (Addr × Obj)} {σ : L2.St} {H : Hp} {s : Shared} {a D : Addr} {d : Option Addr} (I : Inv X pins σ H s) (ha : H a = some (ExK (.ref D) d a)) (hd : ∀ dd, d = some dd → ∃ fs, H dd = some (.xd fs)) :
    ∃ (oe : Obj) (od : Option Obj), PySem.W.InstAt s.heap a oe D od ∧ (od.isSome = d.isSome) ∧ ∀ dd, d = some dd → ∃ o, od = some o ∧ s.heap.get? dd = some o := by
  obtain ⟨⟨oe, vs, hg, hz, hv⟩, _, _⟩ := I.hok a _ ha
  have nc : PySem.W.notCls oe = true := by unfold PySem.W.notCls; rw [hv]
  cases d with
  | none => exact ⟨oe, none, ⟨hg, hz.1, nc, by rw [hz.2]; trivial⟩, rfl, fun _ z => nomatch z⟩
  | some dd =>
    obtain ⟨fs, hx⟩ := hd dd rfl
    obtain ⟨mA, ⟨o, es, ep, ho, r⟩, _⟩ := (show ObjOk X.prog X.w H s.heap dd (.xd fs) from I.hok dd _ hx)
    exact ⟨oe, some o, ⟨hg, hz.1, nc, by rw [hz.2]; exact ho⟩, rfl, fun d2 z => by cases z; exact ⟨o, rfl, ho⟩⟩
/-- isinstance(e, C), e a kept exception; or any other value -/
def rIsX (K : PySem.W.Frag) : List V → Hp → VK → Prop := fun xs H Q => rIsi K xs H Q ∨ ∃ (a D : Addr) (d : Option Addr) (c : V) (u : Value) (b : Bool), xs = [.ref a, c] ∧ H a = some (ExK (.ref D) d a) ∧ (∀ dd, d = some dd → ∃ fs, H dd = some (.xd fs)) ∧ ExcC K D ∧ ClsV c u ∧ PySem.W.kitOne K (.ref D) u = some b ∧ Q (.bl b) H
theorem kcall_isX {X : Cx} {K : PySem.W.Frag} (hK : X.K = K := by rfl) : CallR X (.builtin "isinstance") (rIsX K) := by
  subst hK
  rintro pins s σ H xs us Q I r (h | ⟨a, D, d, c, u, b, rfl, ha, hd, C, hc, hk, q⟩)
  · exact call_isi pins s σ H xs us Q I r h
  cases r with
  | cons r1 rr =>
    cases rr with
    | cons r2 rr =>
      cases rr
      cases r1
      have e2 := hc.eq r2
      subst e2
      obtain ⟨oe, od, J, hs, _⟩ := kept_at I ha hd
      have hcls : (PySem.W.clsIn X.K D).isSome = true := by
        obtain ⟨cd, h1, _⟩ := PySem.W.any_some C.hd
        rw [h1]; rfl
      have hf : PySem.W.findObj X.K D od "__class__" = some (.bind (.builtin "getset_descriptor.__get__") (.builtin "object.__class__")) := by
        cases od with
        | none => exact PySem.W.findObj_dataN hcls C.ha C.hn C.ht
        | some o => exact PySem.W.findObj_data hcls C.ha C.hn C.ht
      exact PySem.W.kia_one (kit_kept C hf) I.kIn J hk (fun z => nomatch z) (fun tk => ⟨.bl b, H, I.tok tk, rfl, q⟩)
/-- e.f, e a kept exception -/
def tXk (K : PySem.W.Frag) (f : Str) (te : TE) : TE := fun σ H Q => te σ H fun x H1 => ∃ (a D dd : Addr) (fs : List (Str × V)) (v : V), x = .ref a ∧ H1 a = some (ExK (.ref D) (some dd) a) ∧ H1 dd = some (.xd fs) ∧ XfC K D ∧ PySem.W.findIn K (.ref D) f = some none ∧ fs.lookup f = some v ∧ Q v H1
theorem pe_xk {X : Cx} {K : PySem.W.Frag} {e : Expr} {te : TE} {pos : Pos} {n : Str} (he : PE X e te) (hb : attributeBase e n X.env (eval e X.env) = eval e X.env := by rfl) (hK : X.K = K := by rfl) : PE X (.Attribute e n pos) (tXk K n te) := by
  subst hK
  constructor
  intro pins s σ H Q I h
  refine attr_of hb (thn (he.run pins s σ H _ I h) (fun u s1 hh => ?_))
  obtain ⟨x, H1, I1, rx, a, D, dd, fs, v, rfl, ha, hx, T, hno, l, q⟩ := hh
  obtain rfl : u = Value.ref a := rx
  obtain ⟨oe, od, J, _, hod⟩ := kept_at I1 ha (fun d2 z => by cases z; exact ⟨fs, hx⟩)
  obtain ⟨o, rfl, ho⟩ := hod dd rfl
  obtain ⟨mA, hns, hr⟩ := (show ObjOk X.prog X.w H1 s1.heap dd (.xd fs) from I1.hok dd _ hx)
  obtain ⟨o2, ho2, hl⟩ := lookIn_ns hns
  have e2 : o = o2 := Option.some.inj (ho.symm.trans ho2)
  subst e2
  obtain ⟨u, hu, ru⟩ := RelO.some_of (v := v) (o := mA n) (by rw [← l]; exact hr n)
  exact HandSPX.exc_get I1.kIn J T.ga T.gg T.exC (PySem.W.findObj_own T.hdC hno rfl (by rw [hl, hu])) (handed_of ru) ⟨v, H1, I1.tok _, ru, q⟩
end Z
namespace Z
open PySem PySem.Spec PyProof.Rows L2
/-! ### own errors: an __init__ that keeps its arguments -/
def spErr1 (K : PySem.W.Frag) (C : Addr) (f : Str) : Sp := fun vs H Q _ => ∃ (a : Addr) (v : V), vs = [.ref a, v] ∧ H a = some (exo a C none) ∧ ∀ dx, H dx = none → dx ≠ a → Q .non (upd (upd H dx (exd dx [(f, v)])) a (exo a C (some dx)))
def spErr2 (K : PySem.W.Frag) (C : Addr) (f g : Str) : Sp := fun vs H Q _ => ∃ (a : Addr) (u v : V), vs = [.ref a, u, v] ∧ H a = some (exo a C none) ∧ ∀ dx H', H dx = none → dx ≠ a → H' a = some (exo a C (some dx)) → H' dx = some (exd dx [(g, v), (f, u)]) → (∀ b, b ≠ a → b ≠ dx → H' b = H b) → Q .non H'
theorem raised1 {K : PySem.W.Frag} {C : Addr} {f : Str} {v : V} {H : Hp} {a : Addr} {R : XK} (ha : H a = none) (k : ∀ d H', Same H H' → H d = none → H' d = some (.xd [(f, v)]) → R (.ref C) (some d) H') :
    spErr1 K C f [.ref a, v] (upd H a (exo a C none)) (fun z H2 => z = .non ∧ ∃ (d : Addr) (fs : List (Str × V)), H2 a = some (exo a C (some d)) ∧ H2 d = some (exd d fs) ∧ H d = none ∧ R (.ref C) (some d) (upd (del H2 a) d (.xd fs))) (fun _ _ _ => False) := by
  refine ⟨a, v, rfl, upd_same, fun dx h1 h2 => ⟨rfl, dx, [(f, v)], upd_same, by rw [upd_ne h2, upd_same], by rw [upd_ne h2] at h1; exact h1, k dx _ (fun b o e => ?_) (by rw [upd_ne h2] at h1; exact h1) upd_same⟩⟩
  have n1 : b ≠ dx := ne_of_none e (by rw [upd_ne h2] at h1; exact h1)
  have n2 : b ≠ a := ne_of_none e ha
  rw [upd_ne n1, del_ne n2, upd_ne n2, upd_ne n1, upd_ne n2]
  exact e
/-- no exception at all -/
theorem passNo {X : Cx} : Passes (CX X.prog X.w) X (fun _ _ _ => False) := by
  rintro pins σ H s e s' I ⟨_, _, _, _, _, _, _, _, _, _, _, _, z⟩
  exact z.elim
/-! ### frames -/
/-- what is_name may be asked of -/
def Kind (K : PySem.W.Frag) (H : Hp) (v : V) : Prop := (∃ z, v = .str z ∧ z.length ≤ sizeLine) ∨ ∃ t, TyX K H v t ∧ PySem.W.kitOne K t (.type "str") = some false
theorem tyOf_same {K : PySem.W.Frag} {H H' : Hp} {v : V} {t : Value} (s : Same H H') (h : TyOf K H v t) : TyOf K H' v t := by
  cases h with
  | non => exact .non
  | bl b => exact .bl b
  | int i => exact .int i
  | str z => exact .str z
  | flt b => exact .flt b
  | lst e => exact .lst (s _ _ e)
  | frz e => exact .frz (s _ _ e)
  | tup e => exact .tup (s _ _ e)
  | dK e => exact .dK (s _ _ e)
  | dT e => exact .dT (s _ _ e)
  | ins e a b c d f => exact .ins (s _ _ e) a b c d f
theorem tyX_same {K : PySem.W.Frag} {H H' : Hp} {v : V} {t : Value} (s : Same H H') (h : TyX K H v t) : TyX K H' v t := by
  cases h with
  | base b => exact .base (tyOf_same s b)
  | byt b => exact .byt b
  | set e => exact .set (s _ _ e)
  | kList e c => exact .kList e c
  | kTuple e c => exact .kTuple e c
  | kDict e c => exact .kDict e c
  | fTuple e => exact .fTuple (s _ _ e)
  | fDict e => exact .fDict (s _ _ e)
theorem Kind.same {K : PySem.W.Frag} {H H' : Hp} {v : V} (s : Same H H') (h : Kind K H v) : Kind K H' v := h.imp id fun ⟨t, a, b⟩ => ⟨t, tyX_same s a, b⟩
theorem Kind.str {K : PySem.W.Frag} {H : Hp} {z : Str} (h : IsNm z) : Kind K H (.str z) := .inl ⟨z, rfl, h.fit⟩
theorem Kind.non {K : PySem.W.Frag} {H : Hp} : Kind K H .non := .inr ⟨_, .base .non, kit_ty (by decide +kernel)⟩
def vnm : V → Bool
  | .str z => nmB z
  | _ => false
/-- whether a value may be the target of a frame of x -/
def tgt (x y : V) : Bool := decide (y = .non) || (vnm y && !decide (y = x))
theorem not_str {K : PySem.W.Frag} {H : Hp} {v : V} {t : Value} (h : TyX K H v t) (k : PySem.W.kitOne K t (.type "str") = some false) : vnm v = false := by
  cases v with
  | str z =>
    cases h with
    | base b =>
      cases b
      have e : PySem.W.kitOne K (.type "str") (.type "str") = some true := kit_ty (by decide +kernel)
      rw [e] at k
      cases k
  | _ => rfl
theorem is_named {K : PySem.W.Frag} {H : Hp} {v : V} {Q : VK} {E : XK} (h : Kind K H v) (k : ∀ H', Same H H' → Q (.bl (vnm v)) H') : spIsName K [v] H Q E := by
  refine ⟨v, rfl, ?_⟩
  rcases h with ⟨z, rfl, hz⟩ | ⟨t, a, b⟩
  · exact .inl ⟨z, rfl, hz, k⟩
  · have e := not_str a b
    refine .inr ⟨t, a, b, ?_⟩
    have := k H (Same.refl H)
    rw [e] at this
    exact this
def fFields (x y : V) : List (Str × V) := [("sender", x), ("target", y)]
/-- Frame(x, y) is made at p -/
def spFrame (K : PySem.W.Frag) : Sp := fun vs H Q E => ∃ (p dx : Addr) (x y : V), vs = [.ref p, x, y] ∧ H p = some (.ins (He.ga K "Frame") dx []) ∧ Kind K H x ∧ Kind K H y ∧
  (vnm x = false → ∀ d H', Same H H' → H d = none → H' d = some (.xd [("part", .str "sender")]) → E (.ref (He.ga K "BadFrame")) (some d) H') ∧
  (vnm x = true → tgt x y = false → ∀ d H', Same H H' → H d = none → H' d = some (.xd [("part", .str "target")]) → E (.ref (He.ga K "BadFrame")) (some d) H') ∧
  (vnm x = true → tgt x y = true → ∀ H', But p H H' → H' p = some (.ins (He.ga K "Frame") dx (fFields x y)) → Q .non H')
/-- a method of an own class that may raise -/
structure DefX (P : Program) (w : World) (K : PySem.W.Frag) (mg : Str → Option Value) (base : Heap) (k : Nat) (f : Addr) (ps : List Str) (dvs : List V) (sp : Sp) : Prop where
  ex : ∃ fd, FnOk P w K mg base (CX P w) k f fd ps sp ∧ ∀ j, j ≤ dvs.length → ∃ ds, Vals (dvs.drop j) ds ∧ Binds K fd ps ds
end Z
namespace Z
open PySem PySem.Spec PyProof.Rows L2
/-! ### a law whose def may show things, with tables of code objects -/
abbrev tab0 : Obj := { cls := .none, data := .fields #[] }
/-- the tracked part at the law's start: the tables, and the script where K doesn't hold it -/
def startT (T : List Addr) (a : Addr) (one : Option HO) : Hp := fun b => if b ∈ T then some (.tbl #[]) else if b = a then one else none
theorem law_callTG {P : Program} {w : World} {K : PySem.W.Frag} {mg mb : Str → Option Value} {CX : CXT} {k : Nat} {fa a : Addr} {cs : List (Addr × Addr)} {fd : FuncData} {x : Str} {sp : Sp} {s₁ : Shared} {vs : List Value} {ns : List Int}
    (KX : K.In s₁.heap) (hns : s₁.heap.Ns mainGlobals mg) (hb : s₁.heap.Ns builtinsNs mb) (hbb : ∀ x : Str, x ≠ "__name__" → mb x = bootBuiltins x) (hlim : s₁.heap.NoLimit) (hgens : s₁.gens = #[])
    (tabs : ∀ p ∈ cs, s₁.heap.get? p.2 = some tab0) (outK : ∀ p ∈ cs, K.lookup p.2 = none) (codes : ∀ p ∈ cs, PySem.W.CodeHd s₁.heap p.1 p.2)
    (bmain : ∃ (bm : Addr) (om : Obj), mg "__builtins__" = some (.ref bm) ∧ bm ≠ builtinsNs ∧ s₁.heap.get? bm = some om ∧ om.cls = .type "module" ∧ om.dict = some builtinsNs ∧ om.data = .plain)
    (ha : s₁.heap.get? a = some { cls := .type "list", data := .seq vs.toArray }) (hi : IntsAre vs ns) (hl : ns.length ≤ sizeLine) (hr : Room k callerA)
    (F : ∀ base : Heap, K.In base → base.Ns mainGlobals mg → (∀ p ∈ cs, LamX.TabB base mg p.1 p.2) → FnG P w K mg base CX k fa fd [x] sp) (hbind : ∀ (s : Shared) (u : Value), BindsTo s fd ⟨[u], []⟩ [(x, u)])
    (hsp : ∀ H : Hp, (∀ p ∈ cs, H p.2 = some (.tbl #[])) → SqL K H a (ns.map V.int) → sp [.ref a] H (fun v _ => v = .bl true) fun _ _ _ => False) (hCX : ∀ H e s', CX [] H s₁ (fun _ _ _ => False) e s' → False) :
    codeAny (model P w) callerA (.call (.ref fa) ⟨[.ref a], []⟩) (fun r s' => r = .ok (.ret (.bool true)) ∧ OldK s₁.heap s'.heap ∧ s'.os = s₁.os ∧ AllBare s'.gens) s₁ := by
  have relV := vals_ints hi
  have sameLen := hi.length
  generalize hT : cs.map (·.2) = T
  have inT : ∀ p ∈ cs, p.2 ∈ T := fun p hp => hT ▸ List.mem_map.mpr ⟨p, hp, rfl⟩
  have ofT : ∀ b ∈ T, ∃ p ∈ cs, p.2 = b := fun b hb => List.mem_map.mp (hT ▸ hb)
  have empty : ∀ b ∈ T, s₁.heap.get? b = some tab0 := by
    intro b hb
    obtain ⟨p, hp, rfl⟩ := ofT b hb
    exact tabs p hp
  have aOut : a ∉ T := by
    intro m
    have e := (empty a m).symm.trans ha
    cases e
  have main : ∀ one : Option HO, (∀ u, one = some u → K.lookup a = none ∧ (∃ xs, u = .frz { cls := .type "list", data := .seq vs.toArray } xs) ∧ ObjOk P w (startT T a one) s₁.heap a u) → SqL K (startT T a one) a (ns.map V.int) →
      codeAny (model P w) callerA (.call (.ref fa) ⟨[.ref a], []⟩) (fun r s' => r = .ok (.ret (.bool true)) ∧ OldK s₁.heap s'.heap ∧ s'.os = s₁.os ∧ AllBare s'.gens) s₁ := by
    intro one hone hS
    generalize hH : startT T a one = H at hone hS
    have atT : ∀ b ∈ T, H b = some (.tbl #[]) := fun b m => by rw [← hH]; exact if_pos m
    have atA : H a = one := by rw [← hH]; exact (if_neg aOut).trans (if_pos rfl)
    have off : ∀ b, b ∉ T → b ≠ a → H b = none := fun b m n => by rw [← hH]; exact (if_neg m).trans (if_neg n)
    have cases3 : ∀ {b : Addr} {u : HO}, H b = some u → (b ∈ T ∧ u = .tbl #[]) ∨ (b = a ∧ one = some u) := by
      intro b u e
      by_cases m : b ∈ T
      · rw [atT b m] at e
        exact .inl ⟨m, (Option.some.inj e).symm⟩
      · by_cases n : b = a
        · subst n
          exact .inr ⟨rfl, atA.symm.trans e⟩
        · rw [off b m n] at e
          cases e
    have seen : ∀ {b : Addr} {o : Obj}, s₁.heap.get? b = some o → H b = none → (hidT s₁.heap H).get? b = some o := fun e n => hidT_get e n
    have unseen : ∀ {b : Addr} {o : Obj}, s₁.heap.get? b = some o → (∀ us n, o.data ≠ .seq us n) → o.data ≠ .fields #[] → H b = none := by
      intro b o e d1 d2
      cases q : H b with
      | none => rfl
      | some u =>
        rcases cases3 q with ⟨m, _⟩ | ⟨rfl, _⟩
        · rw [empty b m] at e
          cases e
          exact (d2 rfl).elim
        · rw [ha] at e
          cases e
          exact (d1 _ _ rfl).elim
    have dictUnseen : ∀ {b : Addr} {o : Obj} {es : Array DictEntry} {ep : Nat}, s₁.heap.get? b = some o → o.data = .dict es ep → H b = none := fun e d => unseen e (fun _ _ z => by rw [d] at z; cases z) (fun z => by rw [d] at z; cases z)
    have nsKeep : ∀ {b : Addr} {m : Str → Option Value}, s₁.heap.Ns b m → (hidT s₁.heap H).Ns b m := by
      rintro b m ⟨o, es, ep, e, d, r⟩
      exact ⟨o, es, ep, seen e (dictUnseen e d), d, r⟩
    have kBase : K.In (hidT s₁.heap H) := by
      intro b o e
      refine seen (KX b o e) ?_
      cases q : H b with
      | none => rfl
      | some u =>
        rcases cases3 q with ⟨m, _⟩ | ⟨rfl, h1⟩
        · obtain ⟨p, hp, rfl⟩ := ofT b m
          rw [outK p hp] at e
          cases e
        · rw [(hone u h1).1] at e
          cases e
    have hok : HOk P w H s₁.heap := by
      intro b u e
      rcases cases3 e with ⟨m, rfl⟩ | ⟨rfl, h1⟩
      · exact empty b m
      · exact (hone u h1).2.2
    have theMod : L2.Mod K mg (hidT s₁.heap H) := ⟨kBase, nsKeep hns, ⟨mb, nsKeep hb, hbb⟩, let ⟨mc, h1, h2⟩ := hlim; ⟨mc, nsKeep h1, h2⟩⟩
    have theTabs : ∀ p ∈ cs, LamX.TabB (hidT s₁.heap H) mg p.1 p.2 := by
      intro p hp
      refine ⟨?_, ?_, ?_⟩
      · obtain ⟨o, us, file, tf, flags, tg, inF, text, tt, e1, r1, r2, r3, rest⟩ := codes p hp
        refine ⟨o, us, file, tf, flags, tg, inF, text, tt, seen e1 (unseen e1 (fun _ _ z => ?_) fun z => ?_), r1, r2, r3, rest⟩
        · rw [r2] at z
          cases z
        · rw [r2] at z
          cases z
          simp at r3
      · obtain ⟨bm, om, c1, c2, c3, c4, c5, c6⟩ := bmain
        refine ⟨bm, om, c1, c2, ?_, ?_, seen c3 (unseen c3 (fun _ _ z => ?_) fun z => ?_), c4, c5, c6⟩
        · rintro rfl
          obtain ⟨o, es, ep, e, hd, _⟩ := hns
          rw [c3] at e
          cases e
          rw [c6] at hd
          cases hd
        · rintro rfl
          rw [tabs p hp] at c3
          cases c3
          cases c6
        · rw [c6] at z
          cases z
        · rw [c6] at z
          cases z
      · intro z
        obtain ⟨o, es, ep, e, hd, _⟩ := hns
        rw [z, tabs p hp] at e
        cases e
        cases hd
    have start0 : Env0 P w K mg (hidT s₁.heap H) callerA [] s₁ H :=
      ⟨rfl, theMod, fun b o e => of_hidT e, Nat.le_of_eq (hidT_size _ _), trivial, fun b hb => absurd (show b ∈ ([] : List Addr) from hb) (by simp), hok, .of_eq hgens⟩
    have ran := (F _ kBase (nsKeep hns) theTabs).run callerA [] s₁ H ⟨[.ref a], []⟩ [.ref a] [.ref a] _ _ rfl hr start0 (hbind s₁ (.ref a)) (.cons rfl .nil) (hsp H (fun p hp => atT _ (inT p hp)) hS)
    refine codeAny_mono ran ?_
    intro r s' h
    match r, h with
    | .error e, h => exact (hCX H e s' h).elim
    | .ok .next, h => exact h.elim
    | .ok .brk, h => exact h.elim
    | .ok .cont, h => exact h.elim
    | .ok (.ret u), ⟨v, H', os, bare, un, hok', rv, q⟩ =>
      have hv : v = .bl true := q
      subst hv
      obtain rfl : u = Value.bool true := rv
      have stays : ∀ b o, b ∉ T → s₁.heap.get? b = some o → s'.heap.get? b = some o := by
        intro b o nb e
        cases z : H b with
        | none => exact un.keep b o e z (by intro y; exact absurd (show b ∈ ([] : List Addr) from y) (by simp)) (by simp)
        | some u =>
          rcases cases3 z with ⟨m, _⟩ | ⟨rfl, h1⟩
          · exact (nb m).elim
          · obtain ⟨_, ⟨xs, rfl⟩, _⟩ := hone u h1
            have z2 := un.frzs b _ _ z
            obtain ⟨e2, _⟩ := hok' b _ z2
            rw [ha] at e
            cases e
            exact e2
      have grows : ∀ p ∈ cs, ∃ more : Array Value, s'.heap.get? p.2 = some { cls := .none, data := .fields more } := by
        intro p hp
        obtain ⟨more, z⟩ := un.tbls p.2 #[] (atT _ (inT p hp))
        exact ⟨_, hok' p.2 _ z⟩
      refine ⟨rfl, ⟨fun b o e => ?_, fun b o e => ?_⟩, os, bare⟩
      · by_cases m : b ∈ T
        · obtain ⟨p, hp, rfl⟩ := ofT b m
          obtain ⟨more, hm⟩ := grows p hp
          rw [tabs p hp] at e
          cases e
          refine .inr (.inl ⟨((codes p hp).tab (tabs p hp)).isCodeTable, rfl, #[], more, rfl, ?_⟩)
          rw [Array.empty_append]
          exact hm
        · exact .inl (stays b o m e)
      · by_cases m : b ∈ T
        · obtain ⟨p, hp, rfl⟩ := ofT b m
          obtain ⟨more, hm⟩ := grows p hp
          exact ⟨_, hm⟩
        · exact ⟨o, stays b o m e⟩
  cases hk : K.lookup a with
  | some o =>
    have e := KX a o hk
    rw [ha] at e
    cases e
    refine main none (fun u z => nomatch z) (.inr ⟨_, vs.toArray, _, hk, rfl, rfl, rfl, ?_, ?_⟩)
    · rw [List.size_toArray, sameLen]; exact hl
    · simpa using relV
  | none =>
    refine main (some (.frz { cls := .type "list", data := .seq vs.toArray } (.lst (ns.map V.int)))) (fun u z => ?_) (.inl (.inr ⟨{ cls := .type "list", data := .seq vs.toArray }, (if_neg aOut).trans (if_pos rfl)⟩))
    cases z
    exact ⟨hk, ⟨_, rfl⟩, ha, by rw [List.length_map]; exact hl, vs, _, relV, ha⟩
/-- the end over a head by facts, with tables -/
theorem walk_TG {l : PySem.W.OpenLaw} {n k : Nat} {q : Program} {loose : List Str} {XP : (Str → Option Value) → Heap → Prop} {YP : World → Heap → Prop} {d : DefRec} {CX : CXT} {x : Str} (hn : l.most = some n) (hn2 : n ≤ sizeLine) (hdf : d.params.defaults = []) (hr : Room k callerA)
    (F : ∀ (w : World) (mg : Str → Option Value) (fa : Addr) (h : Heap), YP w h → h.Ns mainGlobals mg → mg d.name = some (.ref fa) → ∃ (K : PySem.W.Frag) (fd : FuncData) (sp : Sp) (cs : List (Addr × Addr)), K.In h ∧ (∀ (s : Shared) (u : Value), BindsTo s fd ⟨[u], []⟩ [(x, u)]) ∧
        (∀ p ∈ cs, h.get? p.2 = some tab0) ∧ (∀ p ∈ cs, K.lookup p.2 = none) ∧ (∀ p ∈ cs, PySem.W.CodeHd h p.1 p.2) ∧
        (∀ (H : Hp) (a : Addr) (ns : List Int), ns.length ≤ n → (∀ p ∈ cs, H p.2 = some (.tbl #[])) → SqL K H a (ns.map V.int) → sp [.ref a] H (fun v _ => v = .bl true) fun _ _ _ => False) ∧ ∀ base : Heap, K.In base → base.Ns mainGlobals mg → (∀ p ∈ cs, LamX.TabB base mg p.1 p.2) → FnG l.prog w K mg base CX k fa fd [x] sp)
    (hCX : ∀ (H : Hp) (s : Shared) (e : Value) (s' : Shared), CX [] H s (fun _ _ _ => False) e s' → False) : PySem.W.WalkO q loose XP YP l.row.toRowW d [] (fun f vs => PySem.call f vs) := by
  refine Att.attach_call hn hdf ?_
  intro w s₀ s₁ mg mb fa o pm cd doc a vs ns G Y ho hd hcd hmg hobj hints hlen hg
  obtain ⟨K, fd, sp, cs, kx, hbd, h1, h2, h3, hsp, hF⟩ := F w mg fa _ Y G.T.g hmg
  exact law_callTG kx G.T.g G.T.b G.T.builtins G.T.nolimit hg h1 h2 h3 G.T.bmain hobj hints (Nat.le_trans hlen hn2) hr hF hbd (fun H hO hS => hsp H a ns hlen hO hS) (fun H e s' => hCX H s₁ e s')
end Z
namespace Z
open PySem PySem.Spec PyProof.Rows L2
/-! ### facts of own errors, of own classes, by a Bool over K -/
def isO (a b : Option (Option Value)) : Bool := decide (a = b)
/-- an own error over ValueError whose __init__ is a def -/
structure ErrF (K : PySem.W.Frag) (x : Str) : Prop where
  o : OexC K (He.ga K x)
  iC : PySem.W.findIn K (.ref (He.ga K x)) "__init__" = some (some (.ref (He.ma K (He.ga K x) "__init__")))
  tI : PySem.W.typeIn K (.ref (He.ma K (He.ga K x) "__init__")) = some (.type "function")
  xf : XfC K (He.ga K x)
  xc : ExcC K (He.ga K x)
def oexB (K : PySem.W.Frag) (C : Addr) : Bool := match K.lookup C with
  | some ⟨.type t, _, .cls cd, sl⟩ => decide (t = "type") && (match cd.mro, sl.toList with
    | .ref D :: bm, [_, _, _, _, some (.builtin n), _] => decide (D = C) && (decide (n = "ValueError.__new__") && (!cd.hasDel && (cd.hasDict && PySem.HandSPX.refsVE bm)))
    | _, _ => false)
  | _ => false
theorem oexB_ok {K : PySem.W.Frag} {C : Addr} (h : oexB K C = true) : ∃ nm q N bs bm sn sub ab col dd k0 k1 k2 k3 k5, K.lookup C = some (excClassObj nm q C N bs bm true sn sub ab col dd k0 k1 k2 k3 k5 "ValueError.__new__") ∧ PySem.HandSPX.refsVE bm = true := by
  unfold oexB at h
  split at h
  · rename_i t dd cd sl ho
    obtain ⟨h1, h⟩ := He.ba h
    have et := of_decide_eq_true h1
    split at h
    · rename_i D bm k0 k1 k2 k3 n k5 hm hs
      obtain ⟨h2, h⟩ := He.ba h
      obtain ⟨h3, h⟩ := He.ba h
      obtain ⟨h4, h⟩ := He.ba h
      obtain ⟨h5, h6⟩ := He.ba h
      have eD := of_decide_eq_true h2
      have en := of_decide_eq_true h3
      obtain ⟨nm, bs, mro, ns, qn, hd, sn, sub, ab, col, del⟩ := cd
      dsimp only at hm h4 h5
      have ed : del = false := by cases del <;> simp_all
      have hsl : sl = #[k0, k1, k2, k3, some (.builtin n), k5] := by
        obtain ⟨l⟩ := sl
        simp only at hs
        rw [hs]
      subst et eD en hm ed hsl h5
      exact ⟨nm, qn, ns, bs, bm, sn, sub, ab, col, dd, k0, k1, k2, k3, k5, ho, h6⟩
    · cases h
  · cases h
def classB (K : PySem.W.Frag) (D : Addr) : Bool := isO (PySem.W.findIn K (.ref D) "__class__") (some (some (.builtin "object.__class__"))) && (isO (PySem.W.specialIn K (.builtin "object.__class__") "__get__") (some (some (.builtin "getset_descriptor.__get__"))) &&
  (decide (PySem.W.takesIn K (.builtin "object.__class__") = some true) && decide (PySem.W.mroIn K D (.type "object") = some true)))
structure ClassF (K : PySem.W.Frag) (D : Addr) : Prop where
  ha : PySem.W.findIn K (.ref D) "__class__" = some (some (.builtin "object.__class__"))
  hn : PySem.W.specialIn K (.builtin "object.__class__") "__get__" = some (some (.builtin "getset_descriptor.__get__"))
  ht : PySem.W.takesIn K (.builtin "object.__class__") = some true
  hm : PySem.W.mroIn K D (.type "object") = some true
theorem classB_ok {K : PySem.W.Frag} {D : Addr} (h : classB K D = true) : ClassF K D := by
  obtain ⟨h1, h⟩ := He.ba h
  obtain ⟨h2, h⟩ := He.ba h
  obtain ⟨h3, h4⟩ := He.ba h
  exact ⟨of_decide_eq_true h1, of_decide_eq_true h2, of_decide_eq_true h3, of_decide_eq_true h4⟩
def errB (x : Str) (K : PySem.W.Frag) : Bool := oexB K (He.ga K x) && (isO (PySem.W.findIn K (.ref (He.ga K x)) "__setattr__") (some (some (.builtin "object.__setattr__"))) && (decide (PySem.W.typeIn K (.ref (He.ga K x)) = some (.type "type")) && (PySem.W.keepIn K (.ref (He.ga K x)) &&
  (isO (PySem.W.findIn K (.ref (He.ga K x)) "__init__") (some (some (.ref (He.ma K (He.ga K x) "__init__")))) && (decide (PySem.W.typeIn K (.ref (He.ma K (He.ga K x) "__init__")) = some (.type "function")) && (xfB K (He.ga K x) && classB K (He.ga K x)))))))
theorem errB_ok {K : PySem.W.Frag} {x : Str} (h : errB x K = true) : ErrF K x := by
  obtain ⟨h1, h⟩ := He.ba h
  obtain ⟨h2, h⟩ := He.ba h
  obtain ⟨h3, h⟩ := He.ba h
  obtain ⟨h4, h⟩ := He.ba h
  obtain ⟨h5, h⟩ := He.ba h
  obtain ⟨h6, h⟩ := He.ba h
  obtain ⟨h7, h8⟩ := He.ba h
  have xf := xfB_ok h7
  have cf := classB_ok h8
  exact ⟨⟨oexB_ok h1, of_decide_eq_true h2, xf.exC, of_decide_eq_true h3, h4⟩, of_decide_eq_true h5, of_decide_eq_true h6, xf, ⟨xf.ga, xf.gg, xf.exC, xf.hdC, cf.ha, cf.hn, cf.ht, cf.hm⟩⟩
/-- types of Python's own -/
def kinds : List Value := [.type "NoneType", .type "bool", .type "int", .type "str", .type "list", .type "tuple", .type "dict"]
/-- an own class: its instances are told from all else -/
structure ClsF (K : PySem.W.Frag) (x : Str) : Prop where
  c : ClassF K (He.ga K x)
  ne : PySem.W.findIn K (.ref (He.ga K x)) "__ne__" = some (some (.builtin "object.__ne__"))
  nf : ∀ t ∈ kinds, PySem.W.notFirst K (He.ga K x) t = true
  ki : ∀ t ∈ kinds, PySem.W.kitOne K t (.ref (He.ga K x)) = some false
  ik : ∀ t ∈ kinds, PySem.W.kitOne K (.ref (He.ga K x)) t = some false
def clsB (x : Str) (K : PySem.W.Frag) : Bool := classB K (He.ga K x) && (isO (PySem.W.findIn K (.ref (He.ga K x)) "__ne__") (some (some (.builtin "object.__ne__"))) && (kinds.all (fun t => PySem.W.notFirst K (He.ga K x) t) &&
  (kinds.all (fun t => decide (PySem.W.kitOne K t (.ref (He.ga K x)) = some false)) && kinds.all (fun t => decide (PySem.W.kitOne K (.ref (He.ga K x)) t = some false)))))
theorem clsB_ok {K : PySem.W.Frag} {x : Str} (h : clsB x K = true) : ClsF K x := by
  obtain ⟨h1, h⟩ := He.ba h
  obtain ⟨h2, h⟩ := He.ba h
  obtain ⟨h3, h⟩ := He.ba h
  obtain ⟨h4, h5⟩ := He.ba h
  exact ⟨classB_ok h1, of_decide_eq_true h2, fun t m => List.all_eq_true.mp h3 t m, fun t m => of_decide_eq_true (List.all_eq_true.mp h4 t m), fun t m => of_decide_eq_true (List.all_eq_true.mp h5 t m)⟩
theorem ClsF.ty {K : PySem.W.Frag} {x : Str} (c : ClsF K x) (k : Cls K (He.ga K x)) {H : Hp} {a dx : Addr} {fs : List (Str × V)} (h : H a = some (.ins (He.ga K x) dx fs)) : TyX K H (.ref a) (.ref (He.ga K x)) := .base (.ins h k c.c.ha c.c.hn c.c.ht c.c.hm)
theorem kit_same {K : PySem.W.Frag} {t : Value} (h : (t == t) = true := by simp) : PySem.W.kitOne K t t = some true := by
  unfold PySem.W.kitOne
  rw [if_pos h]
theorem first_same {K : PySem.W.Frag} {C : Addr} : PySem.W.notFirst K C (.ref C) = true := by
  unfold PySem.W.notFirst
  simp
/-! ### a property's getter -/
/-- where the getter of a class's property stands; the property itself -/
def prA (K : PySem.W.Frag) (c f : Str) : Addr := match PySem.W.findIn K (.ref (He.ga K c)) f with
  | some (some (.ref p)) => p
  | _ => 0
def geA (K : PySem.W.Frag) (c f : Str) : Addr := match PySem.W.recIn K (prA K c f) "property" with
  | some (.ref g :: _) => g
  | _ => match PySem.W.recIn K (prA K c f) "classmethod" with
    | some (.ref g :: _) => g
    | _ => 0
structure GetD where
  c : Str
  f : Str
  qual : Str
  params : Arguments
  body : List Stmt
  scope : Scope
  cm : Bool := false
abbrev FnU : Type := Option (Str × Str × Arguments × FuncBody × Scope × Addr × List (Str × Addr) × Addr)
def fnU (K : PySem.W.Frag) (a : Addr) : FnU := match K.lookup a with
  | some ⟨_, _, .func fd, _⟩ => some (fd.name, fd.qualname, fd.params, fd.body, fd.scope, fd.globals, fd.closure, fd.builtins)
  | _ => none
def GetD.val (d : GetD) : FnU := some (d.f, d.qual, d.params, .stmts d.body, d.scope, mainGlobals, [], builtinsNs)
def prB (K : PySem.W.Frag) (c f : Str) : Bool := isO (PySem.W.findIn K (.ref (He.ga K c)) f) (some (some (.ref (prA K c f)))) && (isO (PySem.W.specialIn K (.ref (prA K c f)) "__get__") (some (some (.builtin "property.__get__"))) &&
  (decide (PySem.W.takesIn K (.ref (prA K c f)) = some true) && (match PySem.W.recIn K (prA K c f) "property" with
    | some (.ref g :: _) => true
    | _ => false)))
/-- a classmethod -/
structure CmOf (K : PySem.W.Frag) (C : Addr) (m : Str) (p g : Addr) : Prop where
  r : ClX.CRead K C (.type "type")
  c : ClX.CMet K C (.type "type") m p g
def cmB (K : PySem.W.Frag) (c f : Str) : Bool := PySem.W.readsIn K (He.ga K c) (.type "type") && (isO (PySem.W.specialIn K (.ref (He.ga K c)) "__getattribute__") (some (some (.builtin "type.__getattribute__"))) && ((match PySem.W.findCls K (.ref (He.ga K c)) (.type "type") f with
    | some (.get (.builtin b) (.ref p) .none (.ref C)) => decide (b = "classmethod.__get__") && (decide (p = prA K c f) && decide (C = He.ga K c))
    | _ => false) && ((match PySem.W.recIn K (prA K c f) "property" with
    | some (.ref _ :: _) => false
    | _ => true) && ((match PySem.W.recIn K (prA K c f) "classmethod" with
    | some (.ref _ :: _) => true
    | _ => false) && PySem.W.fnIn K (geA K c f)))))
theorem prB_ok {K : PySem.W.Frag} {c f : Str} (h : prB K c f = true) : PropOf K (He.ga K c) f (prA K c f) (geA K c f) := by
  obtain ⟨h1, h⟩ := He.ba h
  obtain ⟨h2, h⟩ := He.ba h
  obtain ⟨h3, h4⟩ := He.ba h
  refine ⟨of_decide_eq_true h1, of_decide_eq_true h2, of_decide_eq_true h3, ?_⟩
  unfold geA
  split at h4
  · rename_i g r e
    rw [e]
    exact ⟨r, rfl⟩
  · cases h4
theorem cmB_ok {K : PySem.W.Frag} {c f : Str} (h : cmB K c f = true) : CmOf K (He.ga K c) f (prA K c f) (geA K c f) := by
  obtain ⟨h1, h⟩ := He.ba h
  obtain ⟨h2, h⟩ := He.ba h
  obtain ⟨h3, h⟩ := He.ba h
  obtain ⟨h4, h⟩ := He.ba h
  obtain ⟨h5, h6⟩ := He.ba h
  refine ⟨⟨h1, of_decide_eq_true h2⟩, ⟨?_, ?_, h6⟩⟩
  · split at h3
    · rename_i b p C e
      obtain ⟨a1, h3⟩ := He.ba h3
      obtain ⟨a2, a3⟩ := He.ba h3
      rw [e, of_decide_eq_true a1, of_decide_eq_true a2, of_decide_eq_true a3]
    · cases h3
  · split at h4
    · cases h4
    · rename_i n1
      have hg : ∀ g r, PySem.W.recIn K (prA K c f) "classmethod" = some (.ref g :: r) → geA K c f = g := by
        intro g r e
        unfold geA
        rw [e]
        split
        · rename_i g' r' e'
          exact (n1 g' r' e').elim
        · rfl
      split at h5
      · rename_i g r e
        exact ⟨r, by rw [e, hg _ _ e]⟩
      · cases h5
def GetD.ok (d : GetD) (K : PySem.W.Frag) : Bool := (if d.cm then cmB K d.c d.f else prB K d.c d.f) && (PySem.W.keepIn K (.ref (geA K d.c d.f)) && (match K.lookup (geA K d.c d.f) with
    | some ⟨_, _, .func fd, _⟩ => PySem.W.codeIn K fd.code d.qual && decide (fd.defaults = .none)
    | _ => false))
theorem GetD.prop {d : GetD} {K : PySem.W.Frag} (h : d.ok K = true) (n : d.cm = false) : PropOf K (He.ga K d.c) d.f (prA K d.c d.f) (geA K d.c d.f) := by
  obtain ⟨h1, h⟩ := He.ba h
  rw [n] at h1
  exact prB_ok h1
theorem GetD.clsm {d : GetD} {K : PySem.W.Frag} (h : d.ok K = true) (n : d.cm = true) : CmOf K (He.ga K d.c) d.f (prA K d.c d.f) (geA K d.c d.f) := by
  obtain ⟨h1, h⟩ := He.ba h
  rw [n] at h1
  exact cmB_ok h1
theorem GetD.fun_ {d : GetD} {K : PySem.W.Frag} (e : fnU K (geA K d.c d.f) = d.val) (h : d.ok K = true) : ∃ fd, FunD K d.f d.qual d.params d.body d.scope [] [] (geA K d.c d.f) fd := by
  obtain ⟨_, h⟩ := He.ba h
  obtain ⟨kp, h⟩ := He.ba h
  unfold fnU GetD.val at e
  generalize geA K d.c d.f = a at *
  split at h
  · rename_i oc od fd osl ho
    rw [ho] at e
    obtain ⟨n1, n2, n3, n4, n5, n6, n7, n8, n9, n10, n11, n12, n13, n14, n15⟩ := fd
    obtain ⟨hc, hd0⟩ := He.ba h
    have hd : n8 = .none := of_decide_eq_true hd0
    simp only [Option.some.injEq, Prod.mk.injEq] at e
    obtain ⟨u1, u2, u3, u4, u5, u6, u7, u8⟩ := e
    clear hd0
    subst u1 u2 u3 u4 u5 u6 u7 u8 hd
    exact ⟨_, ⟨_, _, _, _, _, _, _, _, _, _, rfl, ho, hc, .inl ⟨rfl, rfl⟩, .inl rfl⟩, kp⟩
  · cases h
/-! ### the Hook: facts, defs, tables, getters, a Bool -/
abbrev AlZ : Type := He.AlX × List FnU
structure SaysZ (fa : List He.Fa) (fn : List He.DefD) (tf : List He.Defn) (gs : List GetD) (ex : PySem.W.Frag → Bool) (w : World) (h : Heap) (K : PySem.W.Frag) : Prop where
  x : He.SaysX fa fn [] tf (fun K => ex K && gs.all fun d => d.ok K) w h K
  g : gs.map (fun d => fnU K (geA K d.c d.f)) = gs.map GetD.val
/-- what the names reach in n steps, and the interpreter's statics -/
def asS (n : Nat) (g : Addr → Option Obj) : List Addr := He.asD g n ++ [cStatics]
def frS (n : Nat) (g : Addr → Option Obj) : PySem.W.Frag := He.frT g (asS n g)
def obsZ (n : Nat) (fa : List He.Fa) (fn : List He.DefD) (tf : List He.Defn) (gs : List GetD) (ex : PySem.W.Frag → Bool) (g : Addr → Option Obj) : AlZ :=
  ((He.obsT fa fn [] (frS n g), (ex (frS n g) && gs.all fun d => d.ok (frS n g)) && He.tabsB g tf (frS n g)), gs.map fun d => fnU (frS n g) (geA (frS n g) d.c d.f))
theorem says_at {as : List Addr} {fa : List He.Fa} {fn : List He.DefD} {tf : List He.Defn} {ex : PySem.W.Frag → Bool} {w : World} {h : Heap} (e1 : He.obsT fa fn [] (He.frT h.get? as) = He.valT fn [] w) (e2 : (ex (He.frT h.get? as) && He.tabsB h.get? tf (He.frT h.get? as)) = true) : He.SaysX fa fn [] tf ex w h (He.frT h.get? as) := by
  obtain ⟨h1, h2⟩ := He.ba e2
  have each : ∀ p, p ∈ tf → ∃ o, h.get? (He.cT (He.frT h.get? as) p).2 = some o ∧ He.emptyTab o = true ∧ PySem.W.codeHdIn (He.frT h.get? as) (He.cT (He.frT h.get? as) p).1 (He.cT (He.frT h.get? as) p).2 = true := by
    intro p hp
    obtain ⟨h3, h4⟩ := He.ba (List.all_eq_true.mp h2 p hp)
    split at h4
    · rename_i o q
      exact ⟨o, q, h4, h3⟩
    · cases h4
  refine { t := e1, more := h1, hd := ?_, out := ?_, empty := ?_ } <;> intro p hp <;> obtain ⟨o, a, b, c⟩ := each p hp
  · exact c
  · exact He.frT_none a b
  · exact a.trans (congrArg some (He.emptyTab_eq b))
def hookZ (n : Nat) (fa : List He.Fa) (fn : List He.DefD) (tf : List He.Defn) (gs : List GetD) (ex : PySem.W.Frag → Bool) : PySem.W.Hook where
  α := AlZ
  obs := fun s => obsZ n fa fn tf gs ex s.heap.get?
  val := fun w => (He.valX fn [] w, gs.map GetD.val)
  says := fun w h => ∃ K : PySem.W.Frag, K.In h ∧ SaysZ fa fn tf gs ex w h K
  of := fun _ _ e => ⟨_, He.frT_in, says_at (congrArg (fun z : AlZ => z.1.1) e) (congrArg (fun z : AlZ => z.1.2) e), congrArg (fun z : AlZ => z.2) e⟩
  keeps := fun _ _ _ ⟨K, hK, c⟩ k => ⟨K, PySem.W.Frag.In.keeps hK k, ⟨c.x.t, c.x.more, c.x.hd, c.x.out, fun p hp => k _ _ (c.x.empty p hp)⟩, c.g⟩
theorem obsZ_eq {n : Nat} {fa : List He.Fa} {fn : List He.DefD} {tf : List He.Defn} {gs : List GetD} {ex : PySem.W.Frag → Bool} {g : Addr → Option Obj} {s : Shared} (h : ∀ a, g a = s.heap.get? a) : obsZ n fa fn tf gs ex g = (hookZ n fa fn tf gs ex).obs s := by
  have e : g = s.heap.get? := funext h
  rw [e] <;> rfl
theorem SaysZ.more {fa : List He.Fa} {fn : List He.DefD} {tf : List He.Defn} {gs : List GetD} {ex : PySem.W.Frag → Bool} {w : World} {h : Heap} {K : PySem.W.Frag} (c : SaysZ fa fn tf gs ex w h K) : ex K = true := (He.ba c.x.more).1
theorem SaysZ.get {fa : List He.Fa} {fn : List He.DefD} {tf : List He.Defn} {gs : List GetD} {ex : PySem.W.Frag → Bool} {w : World} {h : Heap} {K : PySem.W.Frag} (c : SaysZ fa fn tf gs ex w h K) (i : Nat) {d : GetD} (hi : gs[i]? = some d := by rfl) :
    (d.cm = false → PropOf K (He.ga K d.c) d.f (prA K d.c d.f) (geA K d.c d.f)) ∧ (d.cm = true → CmOf K (He.ga K d.c) d.f (prA K d.c d.f) (geA K d.c d.f)) ∧ ∃ fd, FunD K d.f d.qual d.params d.body d.scope [] [] (geA K d.c d.f) fd := by
  have ok := List.all_eq_true.mp (He.ba c.x.more).2 d (List.mem_of_getElem? hi)
  refine ⟨GetD.prop ok, GetD.clsm ok, GetD.fun_ ?_ ok⟩
  have e := congrArg (fun l => l[i]?) c.g
  simp only [List.getElem?_map, hi, Option.map_some] at e
  exact Option.some.inj e
/-- the defs' tables, at the law's start -/
theorem SaysZ.tabs {fa : List He.Fa} {fn : List He.DefD} {tf : List He.Defn} {gs : List GetD} {ex : PySem.W.Frag → Bool} {w : World} {h : Heap} {K : PySem.W.Frag} (c : SaysZ fa fn tf gs ex w h K) (hK : K.In h) :
    (∀ p ∈ tf.map (He.cT K), h.get? p.2 = some tab0) ∧ (∀ p ∈ tf.map (He.cT K), K.lookup p.2 = none) ∧ ∀ p ∈ tf.map (He.cT K), PySem.W.CodeHd h p.1 p.2 := by
  refine ⟨?_, ?_, ?_⟩ <;> intro p hp <;> obtain ⟨q, hq, rfl⟩ := List.mem_map.mp hp
  · exact c.x.empty q hq
  · exact c.x.out q hq
  · exact PySem.W.codeHd_of_K hK (c.x.hd q hq)
/-! ### a def that may show things and makes lambdas: its code object is named -/
theorem okGC {P : Program} {w : World} {K : PySem.W.Frag} {mg : Str → Option Value} {base : Heap} {x qual : Str} {params : Arguments} {body : List Stmt} {scope : Scope} {dvs : List V} {kws : List (Str × V)} {fd : FuncData} {CX : CXT} {N ps : List Str} {k : Nat} {sp : Sp} {p : He.Defn} {f : Addr} (hf : f = He.fAd K p) (F : FunD K x qual params body scope dvs kws f fd) (S : FnScope N ps scope) (len : ∀ vs H Q E, sp vs H Q E → vs.length = ps.length)
    (hbody : ∀ (A : Around) (outer : List Env) (s : Shared) (H : Hp) (vs : List V) (Q : VK) (E : XK), A.guards = some [] → Room k (A.deeper (envOfC qual scope s.heap.objs.size f (.ref (He.codeOf K p)))) → sp vs H Q E →
      ∃ t, PSs (cxOf CX P w K mg base N qual scope f (.ref (He.codeOf K p)) A outer s H E) body t ∧ t { nx := fun _ H' => Q .non H', rt := Q } (start N vs) H) : FnG P w K mg base CX (k + 1) f fd ps sp := by
  obtain ⟨oc, od, dV, kV, doc, pm, an, cdv, ct, osl, hfd, lk, hcd, _, _⟩ := F.ex
  obtain ⟨c, rfl⟩ := He.codeIn_ref hcd
  have ec : He.codeOf K p = c := He.codeOf_eq (hf ▸ lk) (by rw [hfd])
  rw [ec] at hbody
  subst hfd
  constructor
  · exact len
  intro A outer s H args us vs Q E hgu hr e0 hb r hsp
  have hlen := len _ _ _ _ hsp
  have kx : K.In s.heap := e0.mod.kin.keeps (fun b o e => (e0.bs b o e).1)
  have nol : s.heap.NoLimit := e0.mod.nolimit.keeps (fun b o e => (e0.bs b o e).1)
  have kinds : ∀ y ∈ ps.zip us, scope.names.lookup y.1 = some .local ∨ (scope.names.lookup y.1 = some .cell ∧ ((cellsFrom (s.heap.objs.size + 1) scope.names []).lookup y.1).isSome = true) := by
    rintro ⟨n, v⟩ hy
    cases S.par n (List.of_mem_zip hy).1 with
    | inl q => exact Or.inl q
    | inr q => exact Or.inr ⟨q, PySem.W.cellsFrom_some _ _ _ (Or.inl q)⟩
  refine codeAny_call_function hr.depth (kx _ _ lk) rfl S.co S.gen rfl (PySem.W.codeRec_of kx hcd) ?_
  refine hb _ _ _ _ (wpAny_newFunctionEnv_cells S.kind kinds ?_)
  rintro env rfl s1 x1
  refine ⟨nol.keeps x1.toInCall.keep, ?_⟩
  obtain ⟨t, ht, hq⟩ := hbody A outer s H vs Q E hgu (hr.deeper _) hsp
  have I : Inv (cxOf CX P w K mg base N qual scope f (.ref c) A outer s H E) [] (start N vs) H s1 := inv_start S hr.hd e0 hlen r x1
  refine codeAny_func (wpAny_mono (ht.run [] s1 (start N vs) H _ I hq) (fun fl s' hs => ?_) (fun _ _ z => z))
  have ends : ∀ {σ' : L2.St} {H' : Hp} {v : V} {u : Value}, Inv (cxOf CX P w K mg base N qual scope f (.ref c) A outer s H E) [] σ' H' s' → RelV v u → Q v H' → CE outer P w H s Q u s' := by
    intro σ' H' v u J rv q
    exact ⟨v, H', J.os, J.bare, J.base, J.hok, rv, q⟩
  match fl, hs with
  | .ret u, ⟨v, σ', H', J, rv, q⟩ => exact ends J rv q
  | .next, ⟨σ', H', J, q⟩ => exact ends (v := .non) (u := .none) J rfl q
  | .brk, ⟨_, _, _, q⟩ => exact q.elim
  | .cont, ⟨_, _, _, q⟩ => exact q.elim
end Z
namespace Z
open PySem PySem.Spec PyProof.Rows L2
/-! ### raising own errors -/
def tUp (ta : TA) : TA := fun σ H Q => ∃ Q0 : List V → Hp → Prop, ta σ H Q0 ∧ ∀ vs H1, Q0 vs H1 → Q vs H1
theorem pa_up {X : Cx} {es : List Expr} {ta : TA} (h : PA X es ta) : PA X es (tUp ta) := by
  constructor
  rintro pos pins s σ H Q I ⟨Q0, h0, h1⟩
  refine wpAny_mono (h.run pos pins s σ H Q0 I h0) ?_ (fun _ _ z => z)
  rintro us s' ⟨vs, H1, I1, r, q⟩
  exact ⟨vs, H1, I1, r, h1 _ _ q⟩
/-- raise x(e): x keeps one value as f -/
def tRaise1 (C : Addr) (f : Str) (W : WX) (ta : TA) : TS := fun _ σ H => ta σ H fun vs H1 => ∃ v, vs = [v] ∧ ∀ d H', Same H1 H' → H1 d = none → H' d = some (.xd [(f, v)]) → W (.ref C) (some d) σ H'
theorem ps_raise1 {X : Cx} {W : WX} {x f : Str} {k : Nat} {e : Expr} {es : List Expr} {ta : TA} {p pos pos2 : Pos} (E : ErrF X.K x) (D : DefM X.prog X.w X.K X.mg X.base k (He.ma X.K (He.ga X.K x) "__init__") ["self", f] (spErr1 X.K (He.ga X.K x) f)) (hr : Room (k + 1) X.A) (hc : X.calm = true) (tk : Takes X W) (hg : Gl X x) (hm : X.mg x = some (.ref (He.ga X.K x))) (ha : PA X (e :: es) ta)
    (hdb : (x == ("__debug__" : Str)) = false := by decide) (he : starEach (e :: es) X.env = (false, eval e X.env) :: starEach es X.env := by rfl) (hpl : (backTo pos (starEach es X.env)).any (·.1) = false := by rfl) :
    PS X (.Raise (some (.Call (.Name x p) (e :: es) [] pos)) none pos2) (tRaise1 (He.ga X.K x) f W ta) := by
  obtain ⟨fd, F, b⟩ := D.ex
  constructor
  intro pins s σ H D I h
  refine (ps_raise hc tk (pmk_oex (p := p) (pos := pos) E.o E.iC E.tI F hr b .nil pass0 hg hm (pa_up ha) hdb he hpl)).run pins s σ H D I ⟨_, h, ?_⟩
  rintro vs H1 ⟨v, rfl, k⟩
  exact ⟨by show 1 ≤ 1000; decide, fun a ha => raised1 (R := fun cls d H' => W cls d σ H') ha k⟩
theorem raised2 {K : PySem.W.Frag} {C : Addr} {f g : Str} {u v : V} {H : Hp} {a : Addr} {R : XK} (ha : H a = none) (k : ∀ d H', Same H H' → H d = none → H' d = some (.xd [(g, v), (f, u)]) → R (.ref C) (some d) H') :
    spErr2 K C f g [.ref a, u, v] (upd H a (exo a C none)) (fun z H2 => z = .non ∧ ∃ (d : Addr) (fs : List (Str × V)), H2 a = some (exo a C (some d)) ∧ H2 d = some (exd d fs) ∧ H d = none ∧ R (.ref C) (some d) (upd (del H2 a) d (.xd fs))) (fun _ _ _ => False) := by
  refine ⟨a, u, v, rfl, upd_same, fun dx H' h1 h2 e1 e2 e3 => ?_⟩
  have h1' : H dx = none := by rw [upd_ne h2] at h1; exact h1
  refine ⟨rfl, dx, _, e1, e2, h1', k dx _ (fun b o e => ?_) h1' upd_same⟩
  have n1 : b ≠ dx := ne_of_none e h1'
  have n2 : b ≠ a := ne_of_none e ha
  rw [upd_ne n1, del_ne n2, e3 b n2 n1, upd_ne n2]
  exact e
/-- raise x(e, e'): x keeps two values as f, g -/
def tRaise2 (C : Addr) (f g : Str) (W : WX) (ta : TA) : TS := fun _ σ H => ta σ H fun vs H1 => ∃ u v, vs = [u, v] ∧ ∀ d H', Same H1 H' → H1 d = none → H' d = some (.xd [(g, v), (f, u)]) → W (.ref C) (some d) σ H'
theorem ps_raise2 {X : Cx} {W : WX} {x f g : Str} {k : Nat} {e : Expr} {es : List Expr} {ta : TA} {p pos pos2 : Pos} (E : ErrF X.K x) (D : DefM X.prog X.w X.K X.mg X.base k (He.ma X.K (He.ga X.K x) "__init__") ["self", f, g] (spErr2 X.K (He.ga X.K x) f g)) (hr : Room (k + 1) X.A) (hc : X.calm = true) (tk : Takes X W) (hg : Gl X x) (hm : X.mg x = some (.ref (He.ga X.K x))) (ha : PA X (e :: es) ta)
    (hdb : (x == ("__debug__" : Str)) = false := by decide) (he : starEach (e :: es) X.env = (false, eval e X.env) :: starEach es X.env := by rfl) (hpl : (backTo pos (starEach es X.env)).any (·.1) = false := by rfl) :
    PS X (.Raise (some (.Call (.Name x p) (e :: es) [] pos)) none pos2) (tRaise2 (He.ga X.K x) f g W ta) := by
  obtain ⟨fd, F, b⟩ := D.ex
  constructor
  intro pins s σ H D I h
  refine (ps_raise hc tk (pmk_oex (p := p) (pos := pos) E.o E.iC E.tI F hr b .nil pass0 hg hm (pa_up ha) hdb he hpl)).run pins s σ H D I ⟨_, h, ?_⟩
  rintro vs H1 ⟨u, v, rfl, k⟩
  exact ⟨by show 2 ≤ 1000; decide, fun a ha => raised2 (R := fun cls d H' => W cls d σ H') ha k⟩
theorem same_none {H H' : Hp} {d : Addr} (s : Same H H') (h : H' d = none) : H d = none := by
  cases e : H d with
  | none => rfl
  | some o => rw [s d o e] at h; cases h
theorem vnm_str {v : V} (h : vnm v = true) : ∃ z, v = .str z := by
  cases v with
  | str z => exact ⟨z, rfl⟩
  | _ => cases h
theorem tgt_non {x y : V} (h : y = .non) : tgt x y = true := by subst h; rfl
theorem tgt_bad {x y : V} (h : y ≠ .non) (v : vnm y = false) : tgt x y = false := by
  unfold tgt
  rw [v, decide_eq_false h]
  rfl
theorem tgt_self {x : V} (v : vnm x = true) : tgt x x = false := by
  obtain ⟨z, rfl⟩ := vnm_str v
  unfold tgt
  simp
theorem tgt_two {x y : V} (v : vnm y = true) (h : y ≠ x) : tgt x y = true := by
  unfold tgt
  rw [v, decide_eq_false h]
  simp
/-! ### new frames -/
def tNew (C : Addr) (sp : Sp) (E : XK) (ta : TA) : TE := fun σ H Q => ta σ H fun vs H1 => ∀ p dx, H1 p = none → H1 dx = none → dx ≠ p → sp (.ref p :: vs) (upd (upd H1 dx (.own p)) p (.ins C dx [])) (fun v H2 => v = .non ∧ Q (.ref p) H2) E
/-- a def of the module that may raise -/
structure DefC (P : Program) (w : World) (K : PySem.W.Frag) (mg : Str → Option Value) (base : Heap) (k : Nat) (x : Str) (ps : List Str) (sp : Sp) : Prop where
  ex : ∃ fd, FnOk P w K mg base (CX P w) k (He.ga K x) fd ps sp ∧ Binds K fd ps []
  kp : PySem.W.keepIn K (.ref (He.ga K x)) = true
  at_ : mg x = some (.ref (He.ga K x))
theorem pe_defC {X : Cx} {k : Nat} {x : Str} {ps : List Str} {sp : Sp} {E : XK} {e : Expr} {es : List Expr} {p pos : Pos} {t : TA} (D : DefC X.prog X.w X.K X.mg X.base k x ps sp) (hr : Room k X.A) (hg : Gl X x) (hx : Passes (CX X.prog X.w) X E) (ha : PA X (e :: es) t)
    (hdb : (x == ("__debug__" : Str)) = false := by decide) (he : starEach (e :: es) X.env = (false, eval e X.env) :: starEach es X.env := by rfl) (hpl : (backTo pos (starEach es X.env)).any (·.1) = false := by rfl) :
    PE X (.Call (.Name x p) (e :: es) [] pos) (tCall sp [] E t) := by
  obtain ⟨fd, F, b⟩ := D.ex
  exact pe_call F hr hg D.at_ D.kp b .nil hx ha hdb he hpl
end Z
namespace Z
open PySem PySem.Spec PyProof.Rows L2
/-! ### the order of pairs of texts -/
def sLt (a b : Str) : Bool := decide (a.cps.toList < b.cps.toList)
def cmpS : CmpOp → Str → Str → Bool
  | .Lt, a, b => sLt a b
  | .LtE, a, b => !sLt b a
  | .Gt, a, b => sLt b a
  | .GtE, a, b => !sLt a b
  | _, _, _ => false
def endS : CmpOp → Bool
  | .LtE => true
  | .GtE => true
  | _ => false
def ord2 (op : CmpOp) (a1 a2 b1 b2 : Str) : Bool := if a1 = b1 then (if a2 = b2 then endS op else cmpS op a2 b2) else cmpS op a1 b1
def rOrd2 (K : PySem.W.Frag) (op : CmpOp) : R2 := fun x y H Q => ∃ (p q : Addr) (a1 a2 b1 b2 : Str), x = .ref p ∧ y = .ref q ∧ SqT K H p [.str a1, .str a2] ∧ SqT K H q [.str b1, .str b2] ∧ Q (.bl (ord2 op a1 a2 b1 b2)) H
theorem op_ord2 {X : Cx} {K : PySem.W.Frag} {op : CmpOp} (he : ∀ u v, compareOp op u v = richCompare op u v)
    (tuples : ∀ {A : Around} {s : Shared} {l b : Addr} {items items2 : Array Value} {e r : Nat → Bool}, s.heap.IsTuple l items → s.heap.IsTuple b items2 → A.units < cLine → (∀ j (h1 : j < items.size) (h2 : j < items2.size), SeqAt.EqAt A.in1 s items[j] items2[j] (e j)) →
      (∀ j (h1 : j < items.size) (h2 : j < items2.size), e j = false → Ob.RcOp op A.in1 s items[j] items2[j] (r j)) → ∃ z, (items.size = items2.size → z = endS op) ∧ Ob.RcOp op A s (.ref l) (.ref b) (Ob.lexAt e r z 0 (min items.size items2.size)))
    (text : ∀ {A : Around} {s : Shared} {a b : Str} {t u : Tok}, Ob.RcOp op A s (.str a t) (.str b u) (cmpS op a b))
    (hu : X.A.units < cLine) (hK : X.K = K := by rfl) : OpR X (compareOp op) (rOrd2 K op) := by
  subst hK
  rintro pins s σ H x y v u Q I rx ry ⟨p, q, a1, a2, b1, b2, rfl, rfl, hp, hq, k⟩
  cases rx
  cases ry
  obtain ⟨its, r1, p1, _⟩ := I.tuple hp
  obtain ⟨its2, r2, p2, _⟩ := I.tuple hq
  cases r1 with
  | cons e1 r1 =>
  cases r1 with
  | cons e2 r1 =>
  cases r1
  cases r2 with
  | cons g1 r2 =>
  cases r2 with
  | cons g2 r2 =>
  cases r2
  obtain ⟨t1, rfl⟩ := e1
  obtain ⟨t2, rfl⟩ := e2
  obtain ⟨u1, rfl⟩ := g1
  obtain ⟨u2, rfl⟩ := g2
  have eqs : ∀ {A : Around} {a b : Str} {t u : Tok}, SeqAt.EqAt A s (.str a t) (.str b u) (decide (a = b)) := by
    intro A a b t u
    have z : (a == b) = decide (a = b) := by
      by_cases q : a = b
      · rw [decide_eq_true q]; exact beq_iff_eq.mpr q
      · rw [decide_eq_false q]; exact beq_eq_false_iff_ne.mpr q
    rw [← z]
    exact SeqAt.EqAt.str_str _ _ _ _
  obtain ⟨z, hz, R⟩ := tuples (A := X.A) (s := s) (e := fun j => decide ([a1, a2].getD j "" = [b1, b2].getD j "")) (r := fun j => cmpS op ([a1, a2].getD j "") ([b1, b2].getD j "")) p1 p2 hu
    (fun j h1 h2 => match j, h1, h2 with
      | 0, _, _ => eqs
      | 1, _, _ => eqs
      | n + 2, h1, _ => absurd h1 (by simp)) (fun j h1 h2 _ => match j, h1, h2 with
      | 0, _, _ => text
      | 1, _, _ => text
      | n + 2, h1, _ => absurd h1 (by simp))
  have hz := hz rfl
  subst hz
  have el : Ob.lexAt (fun j => decide ([a1, a2].getD j "" = [b1, b2].getD j "")) (fun j => cmpS op ([a1, a2].getD j "") ([b1, b2].getD j "")) (endS op) 0 2 = ord2 op a1 a2 b1 b2 := by
    show (if decide (a1 = b1) = true then (if decide (a2 = b2) = true then endS op else cmpS op a2 b2) else cmpS op a1 b1) = _
    unfold ord2
    simp only [decide_eq_true_eq]
  have R2 : Ob.RcOp op X.A s (.ref p) (.ref q) (ord2 op a1 a2 b1 b2) := el ▸ R
  rw [he]
  exact R2 X.prog X.w X.xe (EP X pins σ Q) ⟨.bl _, H, I, rfl, k⟩
section
variable {X : Cx} {K : PySem.W.Frag}
theorem op_lt2 (hu : X.A.units < cLine) (hK : X.K = K := by rfl) : OpR X (compareOp .Lt) (rOrd2 K .Lt) := op_ord2 (fun _ _ => rfl) (fun h1 h2 h3 h4 h5 => ⟨_, fun e => by rw [e]; simp [endS], Ob.RcOp.tuples_lt h1 h2 h3 h4 h5⟩) (fun _ _ _ _ h => PyProof.Rows.lt_str h) hu hK
theorem op_le2 (hu : X.A.units < cLine) (hK : X.K = K := by rfl) : OpR X (compareOp .LtE) (rOrd2 K .LtE) := op_ord2 (fun _ _ => rfl) (fun h1 h2 h3 h4 h5 => ⟨_, fun e => by rw [e]; simp [endS], Ob.RcOp.tuples_le h1 h2 h3 h4 h5⟩) (fun _ _ _ _ h => PySem.P.le_str h) hu hK
theorem op_gt2 (hu : X.A.units < cLine) (hK : X.K = K := by rfl) : OpR X (compareOp .Gt) (rOrd2 K .Gt) := op_ord2 (fun _ _ => rfl) (fun h1 h2 h3 h4 h5 => ⟨_, fun e => by rw [e]; simp [endS], Ob.RcOp.tuples_gt h1 h2 h3 h4 h5⟩) (fun _ _ _ _ h => PySem.P.gt_str h) hu hK
theorem op_ge2 (hu : X.A.units < cLine) (hK : X.K = K := by rfl) : OpR X (compareOp .GtE) (rOrd2 K .GtE) := op_ord2 (fun _ _ => rfl) (fun h1 h2 h3 h4 h5 => ⟨_, fun e => by rw [e]; simp [endS], Ob.RcOp.tuples_ge h1 h2 h3 h4 h5⟩) (fun _ _ _ _ h => PySem.P.ge_str h) hu hK
end
/-- a row that is not reached -/
theorem ps_never {X : Cx} {st : Stmt} : PS X st (fun _ _ _ => False) := ⟨fun _ _ _ _ _ _ h => h.elim⟩
theorem shaped2 {a b : Str} (ha : PyData.strOk a = true) (hb : PyData.strOk b = true) : SeqAt.shaped (.tuple [.str a, .str b]) = true := by
  unfold SeqAt.shaped
  simp [PyData.canLay0, PyData.canLayAll0, PyData.depth, PyData.depthAll, ha, hb]
/-! ### frames -/
def optV : Option Str → V
  | none => .non
  | some z => .str z
def kOf (o : Option Str) : Str := o.getD ""
/-- p is a frame from a to o -/
structure FrOk (a : Str) (o : Option Str) : Prop where
  a : IsNm a
  o : ∀ z, o = some z → IsNm z
theorem FrOk.k {a : Str} {o : Option Str} (h : FrOk a o) : PyData.strOk (kOf o) = true := by
  cases o with
  | none => decide +kernel
  | some z => exact (h.o z rfl).ok
def IsFr (K : PySem.W.Frag) (H : Hp) (p : Addr) (a : Str) (o : Option Str) : Prop := FrOk a o ∧ ∃ dx, H p = some (.ins (He.ga K "Frame") dx (fFields (.str a) (optV o)))
theorem IsFr.same {K : PySem.W.Frag} {H H' : Hp} {p : Addr} {a : Str} {o : Option Str} (s : Same H H') (h : IsFr K H p a o) : IsFr K H' p a o := let ⟨f, dx, e⟩ := h; ⟨f, dx, s _ _ e⟩
def spKey (K : PySem.W.Frag) : Sp := fun vs H Q _ => ∃ (p : Addr) (a : Str) (o : Option Str), vs = [.ref p] ∧ IsFr K H p a o ∧ ∀ t, H t = none → Q (.ref t) (upd H t (.tup [.str a, .str (kOf o)]))
def spOrd (K : PySem.W.Frag) (op : CmpOp) : Sp := fun vs H Q _ => ∃ (p q : Addr) (a b : Str) (o r : Option Str), vs = [.ref p, .ref q] ∧ IsFr K H p a o ∧ IsFr K H q b r ∧ ∀ H', Same H H' → Q (.bl (ord2 op a (kOf o) b (kOf r))) H'
def eq2 (a1 a2 b1 b2 : Str) : Bool := PyData.eqv (.tuple [.str a1, .str a2]) (.tuple [.str b1, .str b2])
def spEqF (K : PySem.W.Frag) : Sp := fun vs H Q _ => ∃ (p : Addr) (y : V) (a : Str) (o : Option Str), vs = [.ref p, y] ∧ IsFr K H p a o ∧
  ((∃ (q : Addr) (b : Str) (r : Option Str), y = .ref q ∧ IsFr K H q b r ∧ ∀ H', Same H H' → Q (.bl (eq2 a (kOf o) b (kOf r))) H') ∨ ∃ t, t ∈ kinds ∧ TyX K H y t ∧ Q (.bl false) H)
def starOf : Option Str → Str
  | none => "*"
  | some z => z
def textF (a : Str) (o : Option Str) : Str := a ++ " " ++ starOf o
theorem str_ext {a b : Str} (h : a.cps.toList = b.cps.toList) : a = b := by
  obtain ⟨⟨x⟩⟩ := a
  obtain ⟨⟨y⟩⟩ := b
  simp only at h
  rw [h]
theorem str_app (a b : Str) : (a ++ b).cps.toList = a.cps.toList ++ b.cps.toList := by
  show (a.cps ++ b.cps).toList = _
  simp
theorem str_nil (a : Str) : Str.empty ++ a = a := str_ext (by rw [str_app]; rfl)
theorem str_len (a : Str) : a.length = a.cps.toList.length := by
  show a.cps.size = _
  simp
theorem str_len_le {a b : Str} (h : IsNm a) {n : Nat} (hb : b.length ≤ n) : (a ++ b).length ≤ 8 + n := by
  have := h.hi
  rw [str_len, str_app, List.length_append, ← str_len, ← str_len]
  omega
theorem FrOk.text_none {a : Str} (_ : FrOk a none) : a ++ " *" = textF a none := str_ext (by
  unfold textF starOf
  rw [str_app, str_app, str_app, List.append_assoc]
  rfl)
theorem FrOk.text_fit {a z : Str} (h : FrOk a (some z)) : (a ++ " " ++ z).length ≤ sizeLine := by
  have h1 := h.a.hi
  have h2 := (h.o z rfl).hi
  have e : (a ++ " " ++ z).length = a.length + 1 + z.length := by
    rw [str_len, str_app, str_app, List.length_append, List.length_append, ← str_len, ← str_len]
    rfl
  rw [e]
  exact Nat.le_trans (show a.length + 1 + z.length ≤ 100 by omega) (by decide)
def spStrF (K : PySem.W.Frag) : Sp := fun vs H Q _ => ∃ (p : Addr) (a : Str) (o : Option Str), vs = [.ref p] ∧ IsFr K H p a o ∧ Q (.str (textF a o)) H
def spAllF (K : PySem.W.Frag) : Sp := fun vs H Q _ => ∃ (p : Addr) (a : Str) (o : Option Str), vs = [.ref p] ∧ IsFr K H p a o ∧ Q (.bl (decide (optV o = .non))) H
theorem nm_v {a : Str} (h : IsNm a) : vnm (.str a) = true := nmB_iff.mpr h
theorem tgt_ok {a : Str} {o : Option Str} (f : FrOk a o) (ne : ∀ z, o = some z → z ≠ a) : tgt (.str a) (optV o) = true := by
  cases o with
  | none => exact tgt_non rfl
  | some z => exact tgt_two (nm_v (f.o z rfl)) (fun e => ne z rfl (V.str.inj e))
theorem kind_opt {K : PySem.W.Frag} {H : Hp} {a : Str} {o : Option Str} (f : FrOk a o) : Kind K H (optV o) := by
  cases o with
  | none => exact .non
  | some z => exact .str (f.o z rfl)
/-- Frame(a, o) is made, at p -/
theorem frame_new {K : PySem.W.Frag} {H : Hp} {a : Str} {o : Option Str} {Q : Addr → Hp → Prop} {E : XK} (f : FrOk a o) (ne : ∀ z, o = some z → z ≠ a) (k : ∀ p H', Same H H' → H p = none → IsFr K H' p a o → Q p H') :
    ∀ x dx, H x = none → H dx = none → dx ≠ x → spFrame K [.ref x, .str a, optV o] (upd (upd H dx (.own x)) x (.ins (He.ga K "Frame") dx [])) (fun v H2 => v = .non ∧ Q x H2) E := by
  intro x dx h1 h2 h3
  refine ⟨x, dx, _, _, rfl, upd_same, .str f.a, kind_opt f, fun z => ?_, fun _ z => ?_, fun _ _ H' b e => ⟨rfl, k x H' (fun c u ec => ?_) h1 ⟨f, dx, e⟩⟩⟩
  · rw [nm_v f.a] at z
    cases z
  · rw [tgt_ok f ne] at z
    cases z
  · have n1 := ne_of_none ec h1
    have n2 := ne_of_none ec h2
    exact b c u n1 (by rw [upd_ne n1, upd_ne n2]; exact ec)
/-- Frame(x, y) is made, or refused -/
theorem frame_bad {K : PySem.W.Frag} {H : Hp} {u v : V} {Q : Addr → Hp → Prop} {E : XK} (ku : Kind K H u) (kv : Kind K H v) (h : vnm u = false ∨ tgt u v = false)
    (k1 : vnm u = false → ∀ d H', Same H H' → H d = none → H' d = some (.xd [("part", .str "sender")]) → E (.ref (He.ga K "BadFrame")) (some d) H')
    (k2 : vnm u = true → tgt u v = false → ∀ d H', Same H H' → H d = none → H' d = some (.xd [("part", .str "target")]) → E (.ref (He.ga K "BadFrame")) (some d) H') :
    ∀ x dx, H x = none → H dx = none → dx ≠ x → spFrame K [.ref x, u, v] (upd (upd H dx (.own x)) x (.ins (He.ga K "Frame") dx [])) (fun v H2 => v = .non ∧ Q x H2) E := by
  intro x dx h1 h2 h3
  have sm : Same H (upd (upd H dx (.own x)) x (.ins (He.ga K "Frame") dx [])) := fun c u ec => by
    rw [upd_ne (ne_of_none ec h1), upd_ne (ne_of_none ec h2)]
    exact ec
  refine ⟨x, dx, _, _, rfl, upd_same, ku.same sm, kv.same sm, fun z d H' s n e => k1 z d H' (sm.trans s) (same_none sm n) e, fun z t d H' s n e => k2 z t d H' (sm.trans s) (same_none sm n) e, fun z t => ?_⟩
  rcases h with h | h
  · rw [h] at z
    cases z
  · rw [h] at t
    cases t
theorem ne_pen {H H' : Hp} {p c q : Addr} {ms : List Int} {t : Nat} {z : Int} (P : Pen H p c ms t z) (s : Same H H') (h : H' q = none) : q ≠ p := (ne_of_none (s _ _ P.a) h).symm
theorem cut7 {x y : Str} (_ : IsNm x) (k : Nat) (hy : y.length ≤ 2) (hk : k ≤ 7 := by decide) : (cutS x none (some (k : Int))).length + y.length ≤ sizeLine := by
  have h2 := cut_len x k
  exact Nat.le_trans (show _ ≤ 10 by omega) (by decide)
theorem kind_cut {K : PySem.W.Frag} {H : Hp} {x y : Str} (hx : IsNm x) (k : Nat) (hy : y.length ≤ 2) (hk : k ≤ 7 := by decide) : Kind K H (.str (cutS x none (some (k : Int)) ++ y)) := by
  refine .inl ⟨_, rfl, ?_⟩
  rw [str_len, str_app, List.length_append, ← str_len, ← str_len]
  exact cut7 hx k hy hk
theorem not_nm {x y : Str} {b : Nat} (hb : b ∈ y.cps.toList) (hn : ¬ (97 ≤ b ∧ b ≤ 122)) : vnm (.str (x ++ y)) = false := by
  cases e : vnm (.str (x ++ y)) with
  | false => rfl
  | true =>
    have h := (nmB_iff.mp e).az b (by rw [str_app]; exact List.mem_append_right _ hb)
    exact absurd h hn
theorem kind_t {K : PySem.W.Frag} {H : Hp} {v : V} {a : String} (h : TyOf K H v (.type a)) (k : kitB a "str" = some false) : Kind K H v := .inr ⟨_, .base h, kit_ty k⟩
end Z
namespace Z
open PySem PySem.Spec PyProof.Rows L2
/-! ### a def that calls what it is handed, within a try -/
theorem takes_len {X : Cx} {W : WX} (t : Takes X W) : Takes X (fun cls d σ H => σ.length = X.N.length → W cls d σ H) := by
  rintro u s' ⟨a, B, sI, pins, σ, H, cls, d, e, I, nb, up, sky, na, os, ag, w⟩
  exact t u s' ⟨a, B, sI, pins, σ, H, cls, d, e, I, nb, up, sky, na, os, ag, w I.len⟩
theorem pe_up {X : Cx} {e : Expr} {te : TE} (h : PE X e te) : PE X e (fun σ H Q => ∃ Q0 : VK, te σ H Q0 ∧ ∀ v H1, Q0 v H1 → Q v H1) := by
  constructor
  rintro pins s σ H Q I ⟨Q0, h0, h1⟩
  refine wpAny_mono (h.run pins s σ H Q0 I h0) ?_ (fun _ _ z => z)
  rintro u s' ⟨v, H1, I1, r, q⟩
  exact ⟨v, H1, I1, r, h1 _ _ q⟩
/-- found = ask() -/
def tAsk (n j : Nat) (f c' : Addr) (q : Str) (tl : XK → Hp → VK → Prop) (W : WX) : TS := fun D σ H => ∃ (E : XK) (Q0 : VK), (∀ cls d σ' H', E cls d H' → σ'.length = n → W cls d σ' H') ∧ σ[0]? = some (some (.ref f)) ∧ H c' = some (LamX.CodeO c' q) ∧ tl E H Q0 ∧ ∀ v H1, Q0 v H1 → D.nx (σ.set j (some v)) H1
theorem ps_ask {Z : Cx} {W : WX} {n : Nat} {f c' : Addr} {q nm a : Str} {tl : XK → Hp → VK → Prop} {j : Nat} {p1 p2 p3 p4 : Pos} (hn : Z.N.length = n)
    (set_ : ∀ te, PE Z (.Call (.Name a p1) [] [] p2) te → PS Z (.Assign [.Name nm p3] (.Call (.Name a p1) [] [] p2) p4) (tAsg te (gName j)))
    (act : ∀ E : XK, (∀ cls d σ' H', E cls d H' → σ'.length = Z.N.length → W cls d σ' H') → PE Z (.Call (.Name a p1) [] [] p2) (fun σZ HZ Q => σZ[0]? = some (some (.ref f)) ∧ HZ c' = some (LamX.CodeO c' q) ∧ tl E HZ Q)) :
    PSs Z [.Assign [.Name nm p3] (.Call (.Name a p1) [] [] p2) p4] (tAsk n j f c' q tl W) := by
  constructor
  rintro pins s σ H D I ⟨E, Q0, hW, h1, h2, h3, h4⟩
  exact (pss_one (set_ _ (pe_up (act E (fun cls d σ' H' e l => hW cls d σ' H' e (l.trans hn)))))).run pins s σ H D I ⟨Q0, ⟨h1, h2, h3⟩, h4⟩
/-- what a law's _law_heard makes of a call that may raise x, whose only value is its field f -/
def TTheard (K : PySem.W.Frag) (x f : Str) : (XK → Hp → VK → Prop) → Hp → VK → Prop := fun tl H Q => ∀ H1, Same H H1 → ∃ (E : XK) (Q0 : VK), tl E H1 Q0 ∧
  (∀ cls d H', E cls d H' → cls = .ref (He.ga K x) ∧ ∃ (dd : Addr) (v : V), d = some dd ∧ H' dd = some (.xd [(f, v)]) ∧ ∀ H'', Same H' H'' → Q v H'') ∧ ∀ v H', Q0 v H' → ∀ l, H' l = none → Q (.ref l) (upd H' l (.lst [v]))
/-! ### all but the tables stays -/
theorem tyOf_ext {K : PySem.W.Frag} {H H' : Hp} {v : V} {t : Value} (s : LamX.ExtN H H') (h : TyOf K H v t) : TyOf K H' v t := by
  cases h with
  | non => exact .non
  | bl b => exact .bl b
  | int i => exact .int i
  | str z => exact .str z
  | flt b => exact .flt b
  | lst e => exact .lst (s _ _ e nofun)
  | frz e => exact .frz (s _ _ e nofun)
  | tup e => exact .tup (s _ _ e nofun)
  | dK e => exact .dK (s _ _ e nofun)
  | dT e => exact .dT (s _ _ e nofun)
  | ins e a b c d f => exact .ins (s _ _ e nofun) a b c d f
theorem tyX_ext {K : PySem.W.Frag} {H H' : Hp} {v : V} {t : Value} (s : LamX.ExtN H H') (h : TyX K H v t) : TyX K H' v t := by
  cases h with
  | base b => exact .base (tyOf_ext s b)
  | byt b => exact .byt b
  | set e => exact .set (s _ _ e nofun)
  | kList e c => exact .kList e c
  | kTuple e c => exact .kTuple e c
  | kDict e c => exact .kDict e c
  | fTuple e => exact .fTuple (s _ _ e nofun)
  | fDict e => exact .fDict (s _ _ e nofun)
theorem Kind.ext {K : PySem.W.Frag} {H H' : Hp} {v : V} (s : LamX.ExtN H H') (h : Kind K H v) : Kind K H' v := h.imp id fun ⟨t, a, b⟩ => ⟨t, tyX_ext s a, b⟩
/-- all but p and the tables stays -/
def ButT (p : Addr) (H H' : Hp) : Prop := ∀ b o, b ≠ p → H b = some o → (∀ ps, o ≠ .tbl ps) → H' b = some o
theorem ButT.refl {p : Addr} {H : Hp} : ButT p H H := fun _ _ _ h _ => h
theorem ButT.trans {p : Addr} {H H1 H2 : Hp} (a : ButT p H H1) (b : ButT p H1 H2) : ButT p H H2 := fun c o n h k => b c o n (a c o n h k) k
theorem ButT.of {p : Addr} {H H' : Hp} (b : But p H H') : ButT p H H' := fun c o n h _ => b c o n h
theorem ButT.ofS {p : Addr} {H H' : Hp} (b : Same H H') : ButT p H H' := fun c o _ h _ => b c o h
theorem ButT.ofN {p : Addr} {H H' : Hp} (b : LamX.ExtN H H') : ButT p H H' := fun c o _ h k => b c o h k
theorem Pen.ext {H H' : Hp} {p c : Addr} {ms : List Int} {t : Nat} {z : Int} (P : Pen H p c ms t z) (s : LamX.ExtN H H') : Pen H' p c ms t z := ⟨s _ _ P.a nofun, s _ _ P.b nofun⟩
theorem extS {H H' : Hp} (s : Same H H') : LamX.ExtN H H' := LamX.ExtN.of s
/-- _law_heard(lambda: Frame(..)), refused -/
theorem heard_bad {K : PySem.W.Frag} {T : List (Addr × Str)} {t : XK → TE} {σ : L2.St} {H : Hp} {Q : VK} {u v : V} (part : Str) (hT : LamX.Tabs T H)
    (rd : ∀ E H2, (∀ x dx, H2 x = none → H2 dx = none → dx ≠ x → spFrame K [.ref x, u, v] (upd (upd H2 dx (.own x)) x (.ins (He.ga K "Frame") dx [])) (fun v _ => v = .non ∧ False) E) → t E σ H2 (fun _ _ => False))
    (ku : Kind K H u) (kv : Kind K H v) (bad : (part = "sender" ∧ vnm u = false) ∨ (part = "target" ∧ vnm u = true ∧ tgt u v = false)) (k : ∀ H', LamX.ExtN H H' → LamX.Tabs T H' → Q (.str part) H') :
    LamX.tLam T (TTheard K "BadFrame" "part") t σ H Q := by
  refine ⟨hT, fun H1 eN T1 H2 s2 => ⟨fun cls d H' => cls = .ref (He.ga K "BadFrame") ∧ ∃ dd, d = some dd ∧ H' dd = some (.xd [("part", .str part)]) ∧ Same H2 H', fun _ _ => False, ?_, ?_, fun _ _ z => z.elim⟩⟩
  · have e2 : LamX.ExtN H H2 := eN.trans (extS s2)
    refine rd _ H2 (frame_bad (Q := fun _ _ => False) (ku.ext e2) (kv.ext e2) ?_ (fun z d H' s n e => ?_) (fun z zt d H' s n e => ?_))
    · rcases bad with ⟨_, b⟩ | ⟨_, _, b⟩
      · exact .inl b
      · exact .inr b
    · rcases bad with ⟨rfl, b⟩ | ⟨_, b, _⟩
      · exact ⟨rfl, d, rfl, e, s⟩
      · rw [b] at z
        cases z
    · rcases bad with ⟨_, b⟩ | ⟨rfl, _, _⟩
      · rw [b] at z
        cases z
      · exact ⟨rfl, d, rfl, e, s⟩
  · rintro cls d H' ⟨rfl, dd, rfl, hdd, sm⟩
    exact ⟨rfl, dd, _, rfl, hdd, fun H'' s => k H'' (((eN.trans (extS s2)).trans (extS sm)).trans (extS s)) (((T1.ext s2).ext sm).ext s)⟩
theorem tyX_gen {K : PySem.W.Frag} {H H' : Hp} {v : V} {t : Value} (s : ∀ b o, v = .ref b → H b = some o → (∀ ps, o ≠ .tbl ps) → H' b = some o) (h : TyX K H v t) : TyX K H' v t := by
  cases h with
  | base b =>
    refine .base ?_
    cases b with
    | non => exact .non
    | bl b => exact .bl b
    | int i => exact .int i
    | str z => exact .str z
    | flt b => exact .flt b
    | lst e => exact .lst (s _ _ rfl e nofun)
    | frz e => exact .frz (s _ _ rfl e nofun)
    | tup e => exact .tup (s _ _ rfl e nofun)
    | dK e => exact .dK (s _ _ rfl e nofun)
    | dT e => exact .dT (s _ _ rfl e nofun)
    | ins e a b c d f => exact .ins (s _ _ rfl e nofun) a b c d f
  | byt b => exact .byt b
  | set e => exact .set (s _ _ rfl e nofun)
  | kList e c => exact .kList e c
  | kTuple e c => exact .kTuple e c
  | kDict e c => exact .kDict e c
  | fTuple e => exact .fTuple (s _ _ rfl e nofun)
  | fDict e => exact .fDict (s _ _ rfl e nofun)
theorem Kind.but {K : PySem.W.Frag} {p : Addr} {H H' : Hp} {v : V} (s : But p H H') (n : v ≠ .ref p) (h : Kind K H v) : Kind K H' v :=
  h.imp id fun ⟨t, a, b⟩ => ⟨t, tyX_gen (fun b o e h _ => s b o (fun z => n (by rw [e, z])) h) a, b⟩
theorem tabs_upd {T : List (Addr × Str)} {H : Hp} {l : Addr} {xs ys : List V} (t : LamX.Tabs T H) (h : H l = some (.lst xs)) : LamX.Tabs T (upd H l (.lst ys)) := by
  intro p hp
  obtain ⟨ps, h1, h2, h3⟩ := t p hp
  have n1 : p.1 ≠ l := ne_of h1 h nofun
  refine ⟨ps, by rw [upd_ne n1]; exact h1, h2, fun pos cv hc => ?_⟩
  obtain ⟨c, e1, e2⟩ := h3 pos cv hc
  have n2 : c ≠ l := ne_of e2 h (fun z => by unfold LamX.CodeO at z; cases z)
  exact ⟨c, e1, by rw [upd_ne n2]; exact e2⟩
/-- a list of what was heard grows -/
structure Heard (T : List (Addr × Str)) (H Hk : Hp) (l : Addr) (xs : List V) : Prop where
  e : LamX.ExtN H Hk
  t : LamX.Tabs T Hk
  n : ∀ o, H l = some o → ∃ ps, o = .tbl ps
  a : Hk l = some (.lst xs)
theorem Heard.go {T : List (Addr × Str)} {H Hk H' : Hp} {l : Addr} {xs ys : List V} (h : Heard T H Hk l xs) (e : LamX.ExtN Hk H') (t : LamX.Tabs T H') : Heard T H (upd H' l (.lst ys)) l ys :=
  ⟨fun b o hb nb => by
    have n1 : b ≠ l := by
      rintro rfl
      obtain ⟨ps, rfl⟩ := h.n o hb
      exact nb ps rfl
    rw [upd_ne n1]
    exact e _ _ (h.e _ _ hb nb) nb, tabs_upd t (e _ _ h.a nofun), h.n, upd_same⟩
theorem Heard.new {T : List (Addr × Str)} {H H' : Hp} {l : Addr} {xs : List V} (e : LamX.ExtN H H') (t : LamX.Tabs T H') (n : H' l = none) : Heard T H (upd H' l (.lst xs)) l xs := by
  refine ⟨e.trans (extS (same_new n)), t.ext (same_new n), fun o q => ?_, upd_same⟩
  cases o with
  | tbl ps => exact ⟨ps, rfl⟩
  | _ =>
    have := e l _ q nofun
    rw [n] at this
    cases this
theorem tabs_but {T : List (Addr × Str)} {H H' : Hp} {p c : Addr} {ms : List Int} {n : Nat} {z : Int} (t : LamX.Tabs T H) (P : Pen H p c ms n z) (b : But p H H') : LamX.Tabs T H' := by
  intro q hq
  obtain ⟨ps, h1, h2, h3⟩ := t q hq
  refine ⟨ps, b _ _ (ne_of h1 P.a nofun) h1, h2, fun pos cv hc => ?_⟩
  obtain ⟨d, e1, e2⟩ := h3 pos cv hc
  exact ⟨d, e1, b _ _ (ne_of e2 P.a (fun z => by unfold LamX.CodeO at z; cases z)) e2⟩
def three (z : Str) : List V := [.str z, .str z, .str z]
def threeD (z : Str) : PyData := .list [.str z, .str z, .str z]
theorem three_dp {K : PySem.W.Frag} {H : Hp} {l : Addr} {z : Str} (h : H l = some (.lst (three z))) : Dp K H (.ref l) (threeD z) := .lst (SqL.of h) (.cons (.str _) (.cons (.str _) (.cons (.str _) .nil)))
end Z
namespace Z
open PySem PySem.Spec PyProof.Rows L2
/-! ### str(x) by an own __str__ -/
section
variable {prog : Program} {w : World} {A : Around} {E : Value → Shared → Prop} {s : Shared} {K : PySem.W.Frag} {x C f : Addr} {ox : Obj} {od : Option Obj}
theorem shown_own {R : Value → Shared → Prop} (hu : A.units < cLine) (X : K.In s.heap) (I : PySem.W.InstAt s.heap x ox C od) (hs : PySem.W.findIn K (.ref C) "__str__" = some (some (.ref f))) (hf : PySem.W.isFn K (.ref f) = true)
    (h : wpAny (model prog w) A (call (.ref f) [.ref x]) (fun v s' => ∃ y t, v = .str y t ∧ R v s') E s) : wpAny (model prog w) A (PySem.Builtin.Str.strOf (.ref x)) R E s := by
  unfold PySem.Builtin.Str.strOf
  rw [show Builtin.Str.isExactStr (.ref x) = false from rfl]
  refine wpAny_bind (m := cRoomFor _ _) (wpAny_cRoomFor hu ?_)
  refine wpAny_bind (m := callSpecial? (.ref x) (Str.ofString "__str__")) (PySem.W.special_fn X I hs (beq_iff_eq.mp hf) (wpAny_mono h (fun r s' z => ?_) fun _ _ y => y))
  obtain ⟨y, t, rfl, q⟩ := z
  exact wpAny_pure q
theorem str_own {Q : Value → Shared → Prop} (hu : A.in1.in1.units < cLine) (X : K.In s.heap) (I : PySem.W.InstAt s.heap x ox C od) (hs : PySem.W.findIn K (.ref C) "__str__" = some (some (.ref f))) (hf : PySem.W.isFn K (.ref f) = true)
    (h : wpAny (model prog w) A.in1.in1 (call (.ref f) [.ref x]) (fun v s' => ∃ y t, v = .str y t ∧ Q v s') E s) : wpAny (model prog w) A (call (.type "str") [.ref x]) Q E s := by
  refine callType_newIn PySem.F.called_str (by decide) (PySem.F.typeCall_str_1 _) (PySem.F.newCall_str_1 _) (fun obj => PySem.F.args_object_init_2 obj _) PySem.F.entry_str_new
    (S := fun A1 R s1 => A1 = A.in1 ∧ s1 = s ∧ (∀ y t s2, Q (.str y t) s2 → R (.ok (.ret (.str y t))) s2) ∧ ∀ er s2, E er s2 → R (.error er) s2) ?_ ⟨rfl, rfl, fun y t s2 q => ⟨typeIs_str _ _ _, q⟩, fun _ _ q => q⟩
  rintro A1 R s1 ⟨rfl, rfl, hR, hE⟩
  rw [str_new_tree]
  refine wpAny_bind (wpAny_pure ?_)
  refine wpAny_bind (wpAny_of_eq isSubtype_str_str ?_)
  refine wpAny_bind (wpAny_mono (shown_own (R := fun r s2 => ∃ y t, r = .str y t ∧ Q r s2) hu X I hs hf (wpAny_mono h (fun v s2 ⟨y, t, e, q⟩ => ⟨y, t, e, y, t, e, q⟩) fun _ _ z => z)) (fun r s2 hr => ?_) fun _ _ z => hE _ _ z)
  obtain ⟨y, t, rfl, q⟩ := hr
  exact wpAny_pure (hR y t s2 q)
end
def rStrOwn (C : Addr) (sp : Sp) : List V → Hp → VK → Prop := fun xs H Q => ∃ (a dx : Addr) (fs : List (Str × V)), xs = [.ref a] ∧ H a = some (.ins C dx fs) ∧ sp [.ref a] H (fun v H' => ∃ z, v = .str z ∧ Q (.str z) H') E0
theorem call_strOwn {X : Cx} {C f : Addr} {k : Nat} {ps : List Str} {sp : Sp} (D : DefM X.prog X.w X.K X.mg X.base k f ps sp) (hr : Room (k + 2) X.A) (hs : PySem.W.findIn X.K (.ref C) "__str__" = some (some (.ref f))) (hf : PySem.W.isFn X.K (.ref f) = true) : CallR X (.type "str") (rStrOwn C sp) := by
  obtain ⟨fd, F, hb⟩ := D.ex
  rintro pins s σ H xs us Q I r ⟨a, dx, fs, rfl, ha, hq⟩
  obtain ⟨u, rfl, e⟩ := vals1 r
  cases e
  obtain ⟨mA, J, _⟩ := ins_get I.hok ha
  obtain ⟨od, J, _⟩ := J.look
  have hun := hr.un
  refine str_own (by show X.A.units + 1 + 1 < cLine; omega) I.kIn J hs hf ?_
  have e0 : Env0 X.prog X.w X.K X.mg X.base X.A.in1.in1 X.stack s H := by
    have e := I.env0
    exact ⟨e.frames, e.mod, e.bs, e.bsz, e.funs, e.frf, e.hok, e.bare⟩
  have bt : BindsTo s fd ⟨[.ref a], []⟩ (ps.zip [.ref a]) := by
    have hl : [V.ref a].length = ps.length := F.len _ _ _ _ hq
    have := hb s [.ref a] I.kIn (by simpa using hl)
    simpa using this
  refine wpAny_call (codeAny_mono (F.run X.A.in1.in1 X.stack s H ⟨[.ref a], []⟩ [.ref a] [.ref a] _ E0 ?_ e0 bt r hq) (fun r s' hq => ?_))
  · exact hr.in1.in1
  match r, hq with
  | .error e, hq => exact (show False from hq).elim
  | .ok .next, hq => exact hq.elim
  | .ok .brk, hq => exact hq.elim
  | .ok .cont, hq => exact hq.elim
  | .ok (.ret w), hq =>
    obtain ⟨z, H', I', rz, y, rfl, q⟩ := I.after hq
    obtain ⟨t, rfl⟩ := rz
    exact ⟨y, t, rfl, .str y, H', I', ⟨t, rfl⟩, q⟩
/-! ### what is shown of frames -/
def optD : Option Str → PyData
  | none => .none
  | some z => .str z
def frD (a : Str) (o : Option Str) (b : Bool) (z : Str) : PyData := .list [.str a, optD o, .bool b, .str z, .str z, optD o]
def sixD (b1 b2 b3 b4 b5 b6 : Bool) : PyData := .list [.bool b1, .bool b2, .bool b3, .bool b4, .bool b5, .bool b6]
theorem shown_fit {d : PyData} (h : d.layable0 = true) (i : d.intsShort 13 = true) : d.shown.length ≤ sizeLine := Nat.le_trans (PyProof.Rows.shown_le13 h i) (by decide)
theorem textF_ok {a : Str} {o : Option Str} (f : FrOk a o) : PyData.strOk (textF a o) = true ∧ (textF a o).length ≤ 100 := by
  have h1 := f.a
  have h2 : ∀ c ∈ (starOf o).cps.toList, c ≤ 122 := by
    cases o with
    | none => decide +kernel
    | some z => exact fun c hc => ((f.o z rfl).az c hc).2
  have h3 : (starOf o).length ≤ 8 := by
    cases o with
    | none => decide +kernel
    | some z => exact (f.o z rfl).hi
  have hl : (textF a o).length ≤ 100 := by
    unfold textF
    have := h1.hi
    rw [str_len, str_app, str_app, List.length_append, List.length_append, ← str_len, ← str_len, ← str_len]
    have e : (Str.ofString " ").length = 1 := by decide +kernel
    omega
  refine ⟨?_, hl⟩
  have hc : ∀ c ∈ (textF a o).cps.toList, c ≤ 122 := by
    intro c hc
    unfold textF at hc
    rw [str_app, str_app] at hc
    rcases List.mem_append.mp hc with hc | hc
    · rcases List.mem_append.mp hc with hc | hc
      · exact (h1.az c hc).2
      · have e : (Str.ofString " ").cps.toList = [32] := by decide +kernel
        rw [e] at hc
        simp at hc
        omega
    · exact h2 c hc
  unfold PyData.strOk
  rw [Array.all_eq_true_iff_forall_mem]
  intro c h
  have := hc c (Array.mem_toList_iff.mpr h)
  simp
  omega
theorem frD_lay {a z : Str} {o : Option Str} {b : Bool} (f : FrOk a o) (hz : PyData.strOk z = true) (l2 : z.length ≤ 100) : (frD a o b z).layable0 = true := by
  have ha := f.a.ok
  have l1 : a.cps.size ≤ 8 := f.a.hi
  have l2 : z.cps.size ≤ 100 := l2
  unfold PyData.layable0 frD optD
  cases o with
  | none =>
    simp [PyData.canLay0, PyData.canLayAll0, PyData.depth, PyData.depthAll, PyData.weight, PyData.weightAll, ha, hz]
    omega
  | some y =>
    have hy := (f.o y rfl).ok
    have l3 : y.cps.size ≤ 8 := (f.o y rfl).hi
    simp [PyData.canLay0, PyData.canLayAll0, PyData.depth, PyData.depthAll, PyData.weight, PyData.weightAll, ha, hz, hy]
    omega
theorem frD_short {a z : Str} {o : Option Str} {b : Bool} : (frD a o b z).intsShort 13 = true := by
  unfold frD optD
  cases o <;> simp [PyData.intsShort, PyData.intsShortAll]
theorem frD_show {a z : Str} {o : Option Str} {b : Bool} : (frD a o b z).showable = true := by
  unfold frD optD
  cases o <;> simp [PyData.showable, PyData.showableAll]
theorem frD_dict {a z : Str} {o : Option Str} {b : Bool} : (frD a o b z).hasDict = false := by
  unfold frD optD
  cases o <;> simp [PyData.hasDict, PyData.hasDictAll]
theorem frD_deep {a z : Str} {o : Option Str} {b : Bool} : (frD a o b z).depth ≤ 64 := by
  unfold frD optD
  cases o <;> simp [PyData.depth, PyData.depthAll]
theorem six_ok : ∀ b1 b2 b3 b4 b5 b6 : Bool, (sixD b1 b2 b3 b4 b5 b6).showable = true ∧ (sixD b1 b2 b3 b4 b5 b6).hasDict = false ∧ (sixD b1 b2 b3 b4 b5 b6).depth ≤ 64 ∧ (sixD b1 b2 b3 b4 b5 b6).shown.length ≤ sizeLine := by
  intro b1 b2 b3 b4 b5 b6
  refine ⟨by simp [sixD, PyData.showable, PyData.showableAll], by simp [sixD, PyData.hasDict, PyData.hasDictAll], by simp [sixD, PyData.depth, PyData.depthAll], shown_fit ?_ ?_⟩
  · unfold PyData.layable0 sixD
    simp [PyData.canLay0, PyData.canLayAll0, PyData.depth, PyData.depthAll, PyData.weight, PyData.weightAll]
  · simp [sixD, PyData.intsShort, PyData.intsShortAll]
theorem dp_opt {K : PySem.W.Frag} {H : Hp} {o : Option Str} : Dp K H (optV o) (optD o) := by
  cases o with
  | none => exact .non
  | some z => exact .str z
def spTextP (K : PySem.W.Frag) : Sp := fun vs H Q _ => ∃ (q : Addr) (a : Str) (o : Option Str), vs = [.ref q] ∧ SqT K H q [.str a, optV o] ∧ FrOk a o ∧ Q (.str (textF a o)) H
/-- a pair of which a frame can be made -/
structure PairOk (a : Str) (o : Option Str) : Prop where
  f : FrOk a o
  n : ∀ z, o = some z → z ≠ a
def spFR (K : PySem.W.Frag) : Sp := fun vs H Q _ => ∃ (q : Addr) (a : Str) (o : Option Str), vs = [.ref q] ∧ SqT K H q [.str a, optV o] ∧ PairOk a o ∧ ∀ H', Same H H' → Q (.bl true) H'
theorem seqT_same {K : PySem.W.Frag} {H H' : Hp} {a : Addr} {xs : List V} (s : Same H H') (h : SqT K H a xs) : SqT K H' a xs := by
  rcases h with (h | ⟨o, h⟩) | h
  · exact .inl (.inl (s _ _ h))
  · exact .inl (.inr ⟨o, s _ _ h⟩)
  · exact .inr h
theorem seqT_ext {K : PySem.W.Frag} {H H' : Hp} {a : Addr} {xs : List V} (s : LamX.ExtN H H') (h : SqT K H a xs) : SqT K H' a xs := by
  rcases h with (h | ⟨o, h⟩) | h
  · exact .inl (.inl (s _ _ h nofun))
  · exact .inl (.inr ⟨o, s _ _ h nofun⟩)
  · exact .inr h
theorem eq2_refl (a b : Str) : eq2 a b a b = true := by
  unfold eq2
  simp [PyData.eqv, PyData.eqvAll]
theorem u70 {k : Nat} {A : Around} (h : Room k A) : A.units + 70 < cLine := by
  have := h.un
  omega
/-- a list of pairs of which frames can be made -/
def Pairs (K : PySem.W.Frag) (H : Hp) (qs : List Addr) : Prop := ∀ q ∈ qs, ∃ a o, SqT K H q [.str a, optV o] ∧ PairOk a o
theorem Pairs.same {K : PySem.W.Frag} {H H' : Hp} {qs : List Addr} (h : Pairs K H qs) (s : Same H H') : Pairs K H' qs := fun q hq => let ⟨a, o, e, p⟩ := h q hq; ⟨a, o, seqT_same s e, p⟩
theorem seqL_same {K : PySem.W.Frag} {H H' : Hp} {a : Addr} {xs : List V} (s : Same H H') (h : SqL K H a xs) : SqL K H' a xs := by
  rcases h with (h | ⟨o, h⟩) | h
  · exact .inl (.inl (s _ _ h))
  · exact .inl (.inr ⟨o, s _ _ h⟩)
  · exact .inr h
def spOR (K : PySem.W.Frag) : Sp := fun vs H Q _ => ∃ (l : Addr) (qs : List Addr), vs = [.ref l] ∧ SqL K H l (qs.map V.ref) ∧ Pairs K H qs ∧ ∀ H', Same H H' → Q (.bl true) H'
/-- x or '', x a target -/
theorem pe_orKey {X : Cx} {e : Expr} {ta : TE} {p1 p2 : Pos} {j : Nat} (he : PE X e ta) : PE X (.BoolOp .Or [e, .Constant (.str "") j p1] p2) (fun σ H Q => ta σ H fun x H1 => ∃ a o, x = optV o ∧ FrOk a o ∧ Q (.str (kOf o)) H1) := by
  constructor
  intro pins s σ H Q I h
  refine (pe_orT (pe_up he) (pe_one pe_str)).run pins s σ H Q I ⟨_, h, ?_⟩
  rintro v H1 ⟨a, o, rfl, f, q⟩
  cases o with
  | none => exact ⟨false, rfl, iteF q⟩
  | some z =>
    have h1 := (f.o z rfl).lo
    refine ⟨true, ⟨(f.o z rfl).fit, ?_⟩, iteT q⟩
    simp
    omega
theorem six_dp {K : PySem.W.Frag} {H : Hp} {l : Addr} {b1 b2 b3 b4 b5 b6 : Bool} (h : H l = some (.lst [.bl b1, .bl b2, .bl b3, .bl b4, .bl b5, .bl b6])) : Dp K H (.ref l) (sixD b1 b2 b3 b4 b5 b6) :=
  .lst (SqL.of h) (.cons (.bl _) (.cons (.bl _) (.cons (.bl _) (.cons (.bl _) (.cons (.bl _) (.cons (.bl _) .nil))))))
/-- a comprehension that leaves all out, whose tests may make things -/
theorem lc_none {J : It} {n : Nat} {G : Hp → Prop} {Y : Nat → Hp → V → Hp → Prop} (w : Walk J n G Y) {g : TG} {tt : TT} {te : TE} {vs : List Nat} {σ : L2.St} {H1 : Hp} {D : Addr} {Qd : Hp → Prop} (xs : List V)
    (hn : n = xs.length) (hY : ∀ i H x H', i < n → Y i H x H' → H' = H ∧ xs[i]? = some x) (hD : H1 D = none) (hG : ∀ H', Same H1 H' → G H')
    (hs : ∀ x ∈ xs, ∀ H', Same H1 H' → ∀ (Kt : V → Hp → Prop) (Kf : Hp → Prop), (∀ H'', Same H' H'' → Kf H'') →
      g x (wipe σ vs) H' fun σ2 H2 => wipe σ2 vs = wipe σ vs ∧ tt σ2 H2 fun b H3 => if b = true then te σ2 H3 Kt else Kf H3)
    (hd : ∀ H', Same (upd H1 D (.lst [])) H' → Qd H') :
    ∃ W : Nat → Nat → Hp → Prop, (∃ m, W 0 m (upd H1 D (.lst []))) ∧ ∀ i m H, W i m H →
      (J.stop i H ∧ Qd H) ∨ (J.go i H ∧ ∃ Nx : Hp → Prop, (∀ H', Nx H' → ∃ m', m' < m ∧ W (i + 1) m' H') ∧ ∀ x H', J.yld i H x H' → g x (wipe σ vs) H' fun σ2 H2 => wipe σ2 vs = wipe σ vs ∧ tt σ2 H2 fun b H3 =>
        if b = true then te σ2 H3 fun y H4 => ∃ acc, H4 D = some (.lst acc) ∧ acc.length < sizeLine ∧ Nx (upd H4 D (.lst (acc ++ [y]))) else Nx H3) := by
  refine lc_it w (fun i H => Same (upd H1 D (.lst [])) H) (Same.refl _) (fun i H _ e => hG _ ((same_new hD).trans e)) ?_ ?_
  · rintro i x H H' hi s y
    obtain ⟨rfl, hx⟩ := hY i _ x H' hi y
    exact hs x (List.mem_of_getElem? hx) _ ((same_new hD).trans s) _ _ fun H'' s2 => s.trans s2
  · intro H s
    exact hd H s
/-- tuples of which frames can be made -/
def Tups (H : Hp) (qs : List Addr) : Prop := ∀ q ∈ qs, ∃ a o, H q = some (.tup [.str a, optV o]) ∧ PairOk a o
theorem Tups.pairs {K : PySem.W.Frag} {H : Hp} {qs : List Addr} (h : Tups H qs) : Pairs K H qs := fun q hq => let ⟨a, o, e, p⟩ := h q hq; ⟨a, o, SqT.of e, p⟩
theorem Tups.same {H H' : Hp} {qs : List Addr} (h : Tups H qs) (s : Same H H') : Tups H' qs := fun q hq => let ⟨a, o, e, p⟩ := h q hq; ⟨a, o, s _ _ e, p⟩
theorem Tups.ext {H H' : Hp} {p c : Addr} {ms : List Int} {t : Nat} {z : Int} {qs : List Addr} (h : Tups H qs) (P : Pen H p c ms t z) (s : ButT p H H') : Tups H' qs := fun q hq => let ⟨a, o, e, k⟩ := h q hq; ⟨a, o, s _ _ (ne_of e P.a nofun) e nofun, k⟩
theorem Tups.but {H H' : Hp} {p c : Addr} {ms : List Int} {t : Nat} {z : Int} {qs : List Addr} (h : Tups H qs) (P : Pen H p c ms t z) (s : But p H H') : Tups H' qs := h.ext P (ButT.of s)
theorem Tups.grow {H : Hp} {l q : Addr} {xs ys : List V} {qs : List Addr} {a : Str} {o : Option Str} (h : Tups H qs) (hl : H l = some (.lst xs)) (hq : H q = some (.tup [.str a, optV o])) (pk : PairOk a o) : Tups (upd H l (.lst ys)) (qs ++ [q]) := by
  intro r hr
  rcases List.mem_append.mp hr with hr | hr
  · obtain ⟨a, o, e, k⟩ := h r hr
    exact ⟨a, o, by rw [upd_ne (ne_of e hl nofun)]; exact e, k⟩
  · simp at hr
    subst hr
    exact ⟨a, o, by rw [upd_ne (ne_of hq hl nofun)]; exact hq, pk⟩
/-! ### reading texts of frames -/
/-- what an error of BadText(0, n) keeps -/
def btF (n : Int) : List (Str × V) := [("word", .int n), ("line", .int 0)]
def spWords (K : PySem.W.Frag) : Sp := fun vs H Q E => ∃ v : V, vs = [v] ∧
  ((∃ z : Str, v = .str z ∧ z.length + 2 ≤ sizeLine ∧ ∀ l, H l = none → Q (.ref l) (upd H l (.lst ((Txt.split z " ").map V.str)))) ∨
   ∃ t, TyX K H v t ∧ PySem.W.kitOne K t (.type "str") = some false ∧ ∀ d H', Same H H' → H d = none → H' d = some (.xd (btF 0)) → E (.ref (He.ga K "BadText")) (some d) H')
/-- the hosts that stand at i in a row of words: the place of the first wrong word, or the two -/
def hostsT (ws : List Str) (i : Nat) (b : Str) : Sum Nat (Str × Option Str) := match ws[i]? with
  | none => .inl i
  | some w => if nmB w = false then .inl i else match ws[i + 1]? with
    | none => .inl (i + 1)
    | some y => if Txt.removesuffix y b = "*" then .inr (w, none) else if nmB (Txt.removesuffix y b) = false ∨ Txt.removesuffix y b = w then .inl (i + 1) else .inr (w, some (Txt.removesuffix y b))
theorem rs_len (a b : Str) : (Txt.removesuffix a b).length ≤ a.length := by
  unfold Txt.removesuffix
  split
  · unfold Txt.affix
    simp only
    split
    · exact Nat.le_refl _
    · show (Array.extract _ _ _).size ≤ a.cps.size
      rw [Array.size_extract]
      omega
  · exact Nat.le_refl _
def spTold (K : PySem.W.Frag) : Sp := fun vs H Q E => ∃ (l : Addr) (ws : List Str) (i : Nat) (b : Str), vs = [.ref l, .int i, .str b] ∧ SqL K H l (ws.map V.str) ∧ i < 1000000 ∧ (∀ w ∈ ws, w.length ≤ sizeLine) ∧
  (∀ n, hostsT ws i b = .inl n → ∀ d H', Same H H' → H d = none → H' d = some (.xd (btF n)) → E (.ref (He.ga K "BadText")) (some d) H') ∧
  ∀ a o, hostsT ws i b = .inr (a, o) → ∀ t H', Same H H' → H t = none → H' t = some (.tup [.str a, optV o]) → Q (.ref t) H'
end Z
namespace Z
open PySem PySem.Spec PyProof.Rows L2
/-! ### a class held in a local name is called -/
def tClsV (i : Nat) (C : Addr) (sp : Sp) (dvs : List V) (E : XK) (t : TA) : TE := fun σ H Q => σ[i]? = some (some (.ref C)) ∧ t σ H fun vs H1 => ∀ x dx, H1 x = none → H1 dx = none → dx ≠ x → sp (.ref x :: (vs ++ dvs)) (upd (upd H1 dx (.own x)) x (.ins C dx [])) (fun v H2 => v = .non ∧ Q (.ref x) H2) E
theorem pe_clsV {X : Cx} {CX : CXT} {k i : Nat} {C f : Addr} {fd : FuncData} {ps : List Str} {sp : Sp} {ds : List Value} {dvs : List V} {E : XK} {x : Str} {e : Expr} {es : List Expr} {t : TA} {p pos : Pos} (M : Mk X.K C f) (F : FnOk X.prog X.w X.K X.mg X.base CX k f fd ps sp) (hr : Room (k + 1) X.A) (hb : Binds X.K fd ps ds) (hdv : Vals dvs ds) (hx : Passes CX X E) (hN : X.N[i]? = some x) (hv : Vis X.env.scope x) (ha : PA X (e :: es) t)
    (hd : (x == ("__debug__" : Str)) = false := by decide) (hcd : (x == ("__classdict__" : Str)) = false := by decide)
    (he : starEach (e :: es) X.env = (false, eval e X.env) :: starEach es X.env := by rfl) (hpl : (backTo pos (starEach es X.env)).any (·.1) = false := by rfl) : PE X (.Call (.Name x p) (e :: es) [] pos) (tClsV i C sp dvs E t) := by
  refine ⟨fun pins s σ H Q I h => ?_⟩
  obtain ⟨hs, h⟩ := h
  refine wpAny_Call_Name_kw (thn ((pe_var (pos := p) (i := i) hN hv hd hcd).run pins s σ H (fun v H1 => v = .ref C ∧ H1 = H) I ⟨.ref C, hs, rfl, rfl⟩) fun u s1 ⟨v, H1, I1, r1, ev, eH⟩ => ?_)
  subst ev
  rw [eH] at I1
  cases r1
  refine PySem.W.callWith_K (h₀ := X.base) I.ok.mod.kin M.kp (thn (ha.run pos pins s1 σ H _ I1 h) fun us s2 ⟨vs, H2, I2, r, q⟩ => ⟨I2.kIn, ?_⟩) he hpl
  exact run_make M F hr hb hdv hx I2 r q
/-! ### class methods -/
theorem FunD.kbindsN {K : PySem.W.Frag} {x qual : Str} {params : Arguments} {body : List Stmt} {scope : Scope} {kws : List (Str × V)} {f : Addr} {fd : FuncData} {ps : List Str} (F : FunD K x qual params body scope [] kws f fd) (n : Nat) (ks : List Str)
    (h : ∀ (kV doc pm : Value) (an : Option Addr) (cdv ct : Value) (us ws : List Value), us.length = n → ws.length = ks.length → bindArgs (PySem.W.fnOf x qual params body scope .none kV doc pm an cdv ct) ⟨us, ks.zip ws⟩ = pure (ps.zip (us ++ ws))) : KBn K fd ps n ks (fun us ws => us ++ ws) (fun us ws => us ++ ws) := by
  obtain ⟨oc, od, dV, kV, doc, pm, an, cdv, ct, osl, rfl, lk, hcd, hD, hK⟩ := F.ex
  rcases hD with ⟨_, rfl⟩ | ⟨e, _⟩
  · exact ⟨fun s us ws X l1 l2 => .of_eq (h kV doc pm an cdv ct us ws l1 l2), fun r1 r2 => r1.append r2⟩
  · exact absurd rfl e
/-- a class method of a class of the module, of one parameter behind the class -/
structure DefK (P : Program) (w : World) (K : PySem.W.Frag) (mg : Str → Option Value) (base : Heap) (CX : CXT) (k : Nat) (c m : Str) (ps : List Str) (ks : List Str) (sp : Sp) : Prop where
  cm : CmOf K (He.ga K c) m (prA K c m) (geA K c m)
  ex : ∃ fd, FnOk P w K mg base CX k (geA K c m) fd ps sp ∧ Binds K fd ps [] ∧ KBn K fd ps 1 ks (fun us ws => us ++ ws) (fun us ws => us ++ ws)
theorem pe_clm {X : Cx} {CX : CXT} {k : Nat} {c m : Str} {ps ks : List Str} {sp : Sp} {E : XK} {o e : Expr} {es : List Expr} {ta : TE} {t : TA} {pos apos : Pos} {pl : Sem Bool} (D : DefK X.prog X.w X.K X.mg X.base CX k c m ps ks sp) (hr : Room k X.A) (hx : Passes CX X E) (he : PE X o ta) (ha : PA X (e :: es) t)
    (hst : starEach (e :: es) X.env = (false, eval e X.env) :: starEach es X.env := by rfl) (hpl : (backTo pos (starEach es X.env)).any (·.1) = false := by rfl)
    (ht : eval (.Call (.Attribute o m apos) (e :: es) [] pos) X.env = (do
      let ov ← eval o X.env
      standAt apos.atName
      let (f, first) ← holding [ov] (getMethod ov m pl)
      callWith pos f first (backTo pos (starEach (e :: es) X.env)) (backToKw pos (keywordEach [] X.env))) := by rfl) :
    PE X (.Call (.Attribute o m apos) (e :: es) [] pos) (ClX.tCMeth (He.ga X.K c) (fun vs H Q E => sp (vs ++ []) H Q E) E ta t) := by
  obtain ⟨fd, F, b, _⟩ := D.ex
  exact ClX.pe_cmeth he D.cm.r D.cm.c (F.raw b .nil) hr hx ha hst hpl ht
def tCMethK (C : Addr) (n : Nat) (sp : Sp) (E : XK) (ta : TE) (t : TA) : TE := fun σ H Q => ta σ H fun x H1 => x = .ref C ∧ t σ H1 fun zs H2 => zs.length = n ∧ sp (.ref C :: zs) H2 Q E
theorem pe_clmK {X : Cx} {CX : CXT} {k : Nat} {c m : Str} {ps ks : List Str} {sp : Sp} {E : XK} {o : Expr} {kws : List Keyword} {ta : TE} {tk : TA} {pos apos : Pos} {pl : Sem Bool} (D : DefK X.prog X.w X.K X.mg X.base CX k c m ps ks sp) (hr : Room k X.A) (hx : Passes CX X E) (he : PE X o ta) (hkw : PK X kws tk)
    (hall : (backToKw pos (keywordEach kws X.env)).all (·.1.isSome) = true := by rfl) (hks : (backToKw pos (keywordEach kws X.env)).filterMap (·.1) = ks := by rfl)
    (hpl : ((backTo pos (starEach [] X.env)).any (·.1) || (backToKw pos (keywordEach kws X.env)).any (·.1.isNone)) = false := by rfl)
    (ht : eval (.Call (.Attribute o m apos) [] kws pos) X.env = (do
      let ov ← eval o X.env
      standAt apos.atName
      let (f, first) ← holding [ov] (getMethod ov m pl)
      callWith pos f first (backTo pos (starEach [] X.env)) (backToKw pos (keywordEach kws X.env))) := by rfl) :
    PE X (.Call (.Attribute o m apos) [] kws pos) (tCMethK (He.ga X.K c) ks.length sp E ta tk) := by
  obtain ⟨fd, F, _, hb⟩ := D.ex
  refine ⟨fun pins s σ H Q I h => ?_⟩
  refine PySem.W.methodCall_KW (pl := pl) (thn (he.run pins s σ H _ I h) fun u s1 ⟨x, H1, I1, rx, ex, q⟩ => ?_) ht
  subst ex
  obtain rfl : u = Value.ref (He.ga X.K c) := rx
  refine ClX.getmethcm_ok I1 D.cm.r D.cm.c fun s2 I2 => ?_
  refine PySem.W.callWith_of (P := PySem.W.MethP X.K s1.heap.objs.size (geA X.K c m) (.ref (He.ga X.K c))) hpl (PySem.W.keeps_M D.cm.c.fi) (evalArgs_kw2_nil hall ?_)
  refine thn (hkw.run pos _ s2 σ H1 _ I2 q) fun ws s3 ⟨zs, H2, I3, rz, l2, hsp⟩ => ⟨⟨ClX.pin_at I3, I3.kIn⟩, ?_⟩
  rw [hks]
  have l1 : ws.length = ks.length := rz.length.symm.trans l2
  have z : wpAny (model X.prog X.w) X.A (call (.ref s1.heap.objs.size) [] (ks.zip ws)) (EP X ((s1.heap.objs.size, PySem.W.methodObj (.ref (geA X.K c m)) (.ref (He.ga X.K c))) :: pins) σ Q) X.xe s3 := by
    refine wpAny_call (PySem.W.method_call (ClX.pin_at I3) ?_)
    refine codeAny_mono (F.run X.A X.stack s3 H2 ⟨[.ref (He.ga X.K c)], ks.zip ws⟩ ([Value.ref (He.ga X.K c)] ++ ws) ([V.ref (He.ga X.K c)] ++ zs) Q E hr I3.env0 (hb.to _ [.ref (He.ga X.K c)] ws I3.kIn rfl l1) (hb.rel (.cons rfl .nil) rz) hsp) fun r s' hq => ?_
    cases r with
    | error e => exact hx _ σ H2 s3 e s' I3 hq
    | ok fl =>
      cases fl with
      | ret u => exact I3.after hq
      | next => exact False.elim hq
      | brk => exact False.elim hq
      | cont => exact False.elim hq
  exact thn z fun _ _ y => ClX.unpinE y
end Z
namespace Z
open PySem PySem.Spec PyProof.Rows L2
/-! ### Frame.read -/
theorem hostsT_ok {ws : List Str} {i : Nat} {b a : Str} {o : Option Str} (h : hostsT ws i b = .inr (a, o)) : FrOk a o ∧ ∀ z, o = some z → z ≠ a := by
  unfold hostsT at h
  split at h
  · cases h
  · rename_i w e0
    split at h
    · cases h
    · rename_i hw
      have nw : IsNm w := nmB_iff.mp (by simpa using hw)
      split at h
      · cases h
      · rename_i y e1
        split at h
        · cases h
          exact ⟨⟨nw, nofun⟩, nofun⟩
        · split at h
          · cases h
          · rename_i hn
            cases h
            have hn1 : nmB (Txt.removesuffix y b) = true := by
              cases e : nmB (Txt.removesuffix y b) with
              | true => rfl
              | false => exact absurd (.inl e) hn
            refine ⟨⟨nw, fun z hz => ?_⟩, fun z hz => ?_⟩
            · cases hz
              exact nmB_iff.mp hn1
            · cases hz
              exact fun q => hn (.inr q)
/-- what Frame.read makes of a text: the place of the first wrong word, or the two hosts -/
def readT (z : Str) : Sum Nat (Str × Option Str) := match hostsT (Txt.split z " ") 0 "" with
  | .inl n => .inl n
  | .inr r => if 2 < (Txt.split z " ").length then .inl 2 else .inr r
theorem readT_ok {z a : Str} {o : Option Str} (h : readT z = .inr (a, o)) : FrOk a o ∧ ∀ z, o = some z → z ≠ a := by
  unfold readT at h
  split at h
  · cases h
  · rename_i r e
    split at h
    · cases h
    · cases h
      exact hostsT_ok e
/-- what is asked of a reader of texts, where it reads a text as T tells -/
def spReads {α : Type} (K : PySem.W.Frag) (C : Addr) (T : Str → Sum Nat α) (R : Hp → Addr → α → Prop) : Sp := fun vs H Q E => ∃ v : V, vs = [.ref C, v] ∧
  ((∃ z : Str, v = .str z ∧ z.length + 2 ≤ sizeLine ∧ (∀ n, T z = .inl n → ∀ d H', Same H H' → H d = none → H' d = some (.xd (btF n)) → E (.ref (He.ga K "BadText")) (some d) H') ∧
      ∀ r, T z = .inr r → ∀ p H', Same H H' → H p = none → R H' p r → Q (.ref p) H') ∨
   ∃ t, TyX K H v t ∧ PySem.W.kitOne K t (.type "str") = some false ∧ ∀ d H', Same H H' → H d = none → H' d = some (.xd (btF 0)) → E (.ref (He.ga K "BadText")) (some d) H')
def spRead (K : PySem.W.Frag) : Sp := spReads K (He.ga K "Frame") readT fun H p r => IsFr K H p r.1 r.2
/-! ### plain texts -/
def Plain (z : Str) : Prop := ∀ c ∈ z.cps.toList, c < 128
theorem Plain.ok {z : Str} (h : Plain z) : PyData.strOk z = true := by
  unfold PyData.strOk
  rw [Array.all_eq_true_iff_forall_mem]
  intro c hc
  have := h c (Array.mem_toList_iff.mpr hc)
  simp
  omega
theorem plain_nm {x : Str} (h : IsNm x) : Plain x := fun c hc => by have := h.az c hc; omega
theorem plain_app {a b : Str} (ha : Plain a) (hb : Plain b) : Plain (a ++ b) := by
  intro c hc
  rw [str_app] at hc
  rcases List.mem_append.mp hc with h | h
  · exact ha c h
  · exact hb c h
theorem mem_joinL {S : List Nat} {c : Nat} : ∀ (ps : List (List Nat)) (w : List Nat), w ∈ ps → c ∈ w → c ∈ TL.joinL S ps
  | [], _, h, _ => by cases h
  | [p], w, h, hc => by
    rw [List.mem_singleton.mp h] at hc
    exact hc
  | p :: q :: r, w, h, hc => by
    show c ∈ p ++ (S ++ TL.joinL S (q :: r))
    rcases List.mem_cons.mp h with rfl | h
    · exact List.mem_append_left _ hc
    · exact List.mem_append_right _ (List.mem_append_right _ (mem_joinL (q :: r) w h hc))
theorem of_joinL {S : List Nat} {c : Nat} : ∀ (ps : List (List Nat)), c ∈ TL.joinL S ps → c ∈ S ∨ ∃ w ∈ ps, c ∈ w
  | [], h => by cases h
  | [p], h => .inr ⟨p, List.mem_singleton.mpr rfl, h⟩
  | p :: q :: r, h => by
    have h : c ∈ p ++ (S ++ TL.joinL S (q :: r)) := h
    rcases List.mem_append.mp h with h | h
    · exact .inr ⟨p, List.mem_cons_self .., h⟩
    · rcases List.mem_append.mp h with h | h
      · exact .inl h
      · rcases of_joinL (q :: r) h with h | ⟨w, hw, hc⟩
        · exact .inl h
        · exact .inr ⟨w, List.mem_cons_of_mem _ hw, hc⟩
theorem plain_split {z y : Str} (h : Plain z) : ∀ w ∈ Txt.split z y, Plain w := by
  intro w hw c hc
  refine h c ?_
  have e := PySem.StrLaws.join_split z y
  rw [← e]
  show c ∈ TL.tl (Str.join y (Txt.split z y))
  rw [TL.tl_join]
  exact mem_joinL _ _ (List.mem_map.mpr ⟨w, hw, rfl⟩) hc
theorem plain_join {y : Str} {ws : List Str} (hy : Plain y) (h : ∀ w ∈ ws, Plain w) : Plain (Txt.join y ws) := by
  intro c hc
  rw [TL.join_eq] at hc
  have hc : c ∈ TL.tl (Str.join y ws) := hc
  rw [TL.tl_join] at hc
  rcases of_joinL _ hc with hc | ⟨w, hw, hc⟩
  · exact hy c hc
  · obtain ⟨v, hv, rfl⟩ := List.mem_map.mp hw
    exact h v hv c hc
theorem rs_nil (y : Str) : Txt.removesuffix y "" = y := by
  have e : (Str.ofString "").length = 0 := rfl
  unfold Txt.removesuffix
  split
  · unfold Txt.affix
    simp only
    split
    · rfl
    · rename_i h
      exact absurd (by rw [e]; simp) h
  · rfl
/-- a word that a law takes for a name -/
def spLnm : Sp := fun vs H Q _ => ∃ x : Str, vs = [.str x] ∧ x.length ≤ sizeLine ∧ Plain x ∧ ∀ H', Same H H' → Q (.bl (nmB x)) H'
def offAbc : V → Option V := fun v => match v with
  | .str s => if s.cps.toList.all (fun c => decide (c ∈ alpha.cps.toList)) = true then none else some v
  | _ => none
theorem off_map (x : Str) : (sgV x).filterMap offAbc = ((x.cps.toList.filter fun c => !decide (c ∈ alpha.cps.toList)).map sg).map V.str := by
  unfold sgV
  generalize x.cps.toList = l
  induction l with
  | nil => rfl
  | cons a r ih =>
    rw [List.map_cons, List.filterMap_cons, ih, List.filter_cons]
    have o : offAbc (V.str (sg a)) = if decide (a ∈ alpha.cps.toList) = true then none else some (V.str (sg a)) := by
      show (if ([a].all fun c => decide (c ∈ alpha.cps.toList)) = true then none else some (V.str (sg a))) = _
      rw [List.all_cons, List.all_nil, Bool.and_true]
    rw [o]
    by_cases h : a ∈ alpha.cps.toList
    · rw [decide_eq_true h]
      rfl
    · rw [decide_eq_false h]
      rfl
theorem off_nil {x : Str} : (x.cps.toList.filter fun c => !decide (c ∈ alpha.cps.toList)).isEmpty = x.cps.toList.all fun c => decide (c ∈ alpha.cps.toList) := by
  generalize x.cps.toList = l
  induction l with
  | nil => rfl
  | cons a r ih =>
    rw [List.filter_cons, List.all_cons]
    by_cases h : a ∈ alpha.cps.toList
    · simp only [h, decide_true, Bool.not_true, Bool.false_eq_true, if_false, Bool.true_and]
      exact ih
    · simp [h]
def spDue (K : PySem.W.Frag) : Sp := fun vs H Q _ => ∃ v : V, vs = [v] ∧
  ((∃ z : Str, v = .str z ∧ z.length + 2 ≤ sizeLine ∧ Plain z ∧ (∀ n, readT z = .inl n → ∀ H', Same H H' → Q (.int n) H') ∧
      ∀ a o, readT z = .inr (a, o) → ∀ t H', Same H H' → H t = none → H' t = some (.tup [.str a, optV o]) → Q (.ref t) H') ∨
   ∃ t, TyX K H v t ∧ PySem.W.kitOne K t (.type "str") = some false ∧ Q (.int 0) H)
end Z
namespace Z
open PySem PySem.Spec PyProof.Rows L2
/-! ### what a law hears of Frame.read -/
def OutV (H : Hp) (v : V) : Sum Nat (Str × Option Str) → Prop
  | .inl n => v = .int n
  | .inr (a, o) => ∃ t, v = .ref t ∧ H t = some (.tup [.str a, optV o])
def dueOf : V → Sum Nat (Str × Option Str)
  | .str z => readT z
  | _ => .inl 0
def outD : Sum Nat (Str × Option Str) → PyData
  | .inl n => .int n
  | .inr (a, o) => .tuple [.str a, optD o]
theorem OutV.ext {H H' : Hp} {v : V} {r : Sum Nat (Str × Option Str)} (e : LamX.ExtN H H') (h : OutV H v r) : OutV H' v r := by
  cases r with
  | inl n => exact h
  | inr r => exact let ⟨t, a, b⟩ := h; ⟨t, a, e _ _ b nofun⟩
theorem OutV.same {H H' : Hp} {v : V} {r : Sum Nat (Str × Option Str)} (s : Same H H') (h : OutV H v r) : OutV H' v r := h.ext (extS s)
theorem OutV.dp {K : PySem.W.Frag} {H : Hp} {v : V} {r : Sum Nat (Str × Option Str)} (h : OutV H v r) : Dp K H v (outD r) := by
  cases r with
  | inl n => obtain rfl := h; exact .int _
  | inr r =>
    obtain ⟨t, rfl, e⟩ := h
    exact .tup (SqT.of e) (.cons (.str _) (.cons dp_opt .nil))
theorem readT_le {z : Str} {n : Nat} (h : readT z = .inl n) : n ≤ 2 := by
  unfold readT hostsT at h
  split at h
  · rename_i m e
    cases h
    split at e
    · cases e; omega
    · split at e
      · cases e; omega
      · split at e
        · cases e; omega
        · split at e
          · cases e
          · split at e
            · cases e; omega
            · cases e
  · split at h
    · cases h; omega
    · cases h
/-- right answers -/
def OutOk : Sum Nat (Str × Option Str) → Prop
  | .inl n => n ≤ 2
  | .inr (a, o) => FrOk a o
theorem outOk_of (v : V) : OutOk (dueOf v) := by
  cases v with
  | str z =>
    show OutOk (readT z)
    cases e : readT z with
    | inl n => exact readT_le e
    | inr r => exact (readT_ok (a := r.1) (o := r.2) e).1
  | _ => exact Nat.zero_le 2
theorem out_show {r : Sum Nat (Str × Option Str)} (h : OutOk r) : (outD r).showable = true ∧ (outD r).hasDict = false ∧ (outD r).depth ≤ 64 ∧ (outD r).shown.length ≤ sizeLine := by
  cases r with
  | inl n =>
    have h : n ≤ 2 := h
    have : ∀ n : Nat, n ≤ 2 → (outD (.inl n)).showable = true ∧ (outD (.inl n)).hasDict = false ∧ (outD (.inl n)).depth ≤ 64 ∧ (outD (.inl n)).shown.length ≤ sizeLine := by
      intro n hn
      match n, hn with
      | 0, _ => exact ⟨by decide +kernel, by decide +kernel, by decide +kernel, by decide +kernel⟩
      | 1, _ => exact ⟨by decide +kernel, by decide +kernel, by decide +kernel, by decide +kernel⟩
      | 2, _ => exact ⟨by decide +kernel, by decide +kernel, by decide +kernel, by decide +kernel⟩
    exact this n h
  | inr r =>
    obtain ⟨a, o⟩ := r
    have f : FrOk a o := h
    have ha := f.a.ok
    have l1 : a.cps.size ≤ 8 := f.a.hi
    cases o with
    | none =>
      refine ⟨by simp [outD, optD, PyData.showable, PyData.showableAll], by simp [outD, optD, PyData.hasDict, PyData.hasDictAll], by simp [outD, optD, PyData.depth, PyData.depthAll], shown_fit ?_ (by simp [outD, optD, PyData.intsShort, PyData.intsShortAll])⟩
      unfold PyData.layable0 outD optD
      simp [PyData.canLay0, PyData.canLayAll0, PyData.depth, PyData.depthAll, PyData.weight, PyData.weightAll, ha]
      omega
    | some y =>
      have hy := (f.o y rfl).ok
      have l3 : y.cps.size ≤ 8 := (f.o y rfl).hi
      refine ⟨by simp [outD, optD, PyData.showable, PyData.showableAll], by simp [outD, optD, PyData.hasDict, PyData.hasDictAll], by simp [outD, optD, PyData.depth, PyData.depthAll], shown_fit ?_ (by simp [outD, optD, PyData.intsShort, PyData.intsShortAll])⟩
      unfold PyData.layable0 outD optD
      simp [PyData.canLay0, PyData.canLayAll0, PyData.depth, PyData.depthAll, PyData.weight, PyData.weightAll, ha, hy]
      exact decide_eq_true (by omega)
theorem out_shaped {r : Sum Nat (Str × Option Str)} (h : OutOk r) : SeqAt.shaped (outD r) = true := by
  cases r with
  | inl n => unfold SeqAt.shaped outD; simp [PyData.canLay0, PyData.depth]
  | inr r =>
    obtain ⟨a, o⟩ := r
    have f : FrOk a o := h
    have ha := f.a.ok
    cases o with
    | none => unfold SeqAt.shaped outD optD; simp [PyData.canLay0, PyData.canLayAll0, PyData.depth, PyData.depthAll, ha]
    | some y =>
      have hy := (f.o y rfl).ok
      unfold SeqAt.shaped outD optD
      simp [PyData.canLay0, PyData.canLayAll0, PyData.depth, PyData.depthAll, ha, hy]
theorem out_eqv (r : Sum Nat (Str × Option Str)) : (outD r).eqv (outD r) = true := by
  cases r with
  | inl n => simp [outD, PyData.eqv]
  | inr r =>
    obtain ⟨a, o⟩ := r
    cases o <;> simp [outD, optD, PyData.eqv, PyData.eqvAll]
/-- what a law's _law_heard makes of a call that reads a frame, or raises BadText(0, n) -/
def TTold (K : PySem.W.Frag) : (XK → Hp → VK → Prop) → Hp → VK → Prop := fun tl H Q => ∀ H1, Same H H1 → ∃ (E : XK) (Q0 : VK), tl E H1 Q0 ∧
  (∀ cls d H', E cls d H' → cls = .ref (He.ga K "BadText") ∧ ∃ (dd : Addr) (n : Int), d = some dd ∧ H' dd = some (.xd (btF n)) ∧ ∀ H'', Same H' H'' → Q (.int n) H'') ∧
  ∀ v H', Q0 v H' → ∃ (p : Addr) (a : Str) (o : Option Str), v = .ref p ∧ IsFr K H' p a o ∧ ∀ t H'', Same H' H'' → H' t = none → H'' t = some (.tup [.str a, optV o]) → Q (.ref t) H''
theorem told_read {K : PySem.W.Frag} {T : List (Addr × Str)} {t : XK → TE} {σ : L2.St} {H : Hp} {Q : VK} {v : V} (hT : LamX.Tabs T H) (rd : ∀ E H2 Q0, spRead K [.ref (He.ga K "Frame"), v] H2 Q0 E → t E σ H2 Q0)
    (kv : (∃ z : Str, v = .str z ∧ z.length + 2 ≤ sizeLine) ∨ ∃ t, TyX K H v t ∧ PySem.W.kitOne K t (.type "str") = some false) (nd : (∀ z, v ≠ .str z) → dueOf v = .inl 0)
    (k : ∀ v' H', LamX.ExtN H H' → LamX.Tabs T H' → OutV H' v' (dueOf v) → Q v' H') : LamX.tLam T (TTold K) t σ H Q := by
  refine ⟨hT, fun H1 eN T1 H2 s2 => ⟨fun cls d H' => cls = .ref (He.ga K "BadText") ∧ ∃ dd n, d = some dd ∧ H' dd = some (.xd (btF (n : Nat))) ∧ Same H2 H' ∧ dueOf v = .inl n,
    fun v' H' => ∃ p a o, v' = .ref p ∧ IsFr K H' p a o ∧ Same H2 H' ∧ dueOf v = .inr (a, o), ?_, ?_, ?_⟩⟩
  · have e2 : LamX.ExtN H H2 := eN.trans (extS s2)
    refine rd _ H2 _ ⟨v, rfl, ?_⟩
    rcases kv with ⟨z, rfl, hz⟩ | ⟨t, ty, kt⟩
    · exact .inl ⟨z, rfl, hz, fun n hn d H' s nn e => ⟨rfl, d, n, rfl, e, s, hn⟩, fun r hr p H' s nn fr => ⟨p, r.1, r.2, rfl, fr, s, hr⟩⟩
    · refine .inr ⟨t, tyX_ext e2 ty, kt, fun d H' s nn e => ⟨rfl, d, 0, rfl, e, s, nd ?_⟩⟩
      rintro z rfl
      cases ty with
      | base b =>
        cases b
        rw [kit_same] at kt
        cases kt
  · rintro cls d H' ⟨rfl, dd, n, rfl, hdd, sm, hn⟩
    exact ⟨rfl, dd, n, rfl, hdd, fun H'' s => k _ H'' (((eN.trans (extS s2)).trans (extS sm)).trans (extS s)) (((T1.ext s2).ext sm).ext s) (by rw [hn]; rfl)⟩
  · rintro v' H' ⟨p, a, o, rfl, fr, sm, hr⟩
    exact ⟨p, a, o, rfl, fr, fun t H'' s nn e => k _ H'' (((eN.trans (extS s2)).trans (extS sm)).trans (extS s)) (((T1.ext s2).ext sm).ext s) (by rw [hr]; exact ⟨t, rfl, e⟩)⟩
end Z
namespace Z
open PySem PySem.Spec PyProof.Rows L2
/-! ### words bent -/
theorem cutV_strs (ws : List Str) (lo hi : Option Int) : ∃ us : List Str, cutV (ws.map V.str) lo hi = us.map V.str ∧ us.length ≤ ws.length ∧ ∀ u ∈ us, u ∈ ws := by
  refine ⟨(ws.drop (HT.sIx (ws.map V.str).length 0 lo)).take (HT.sIx (ws.map V.str).length (ws.map V.str).length hi - HT.sIx (ws.map V.str).length 0 lo), ?_, ?_, ?_⟩
  · unfold cutV
    rw [List.map_take, List.map_drop]
  · rw [List.length_take, List.length_drop]
    omega
  · exact fun u hu => List.mem_of_mem_drop (List.mem_of_mem_take hu)
/-- a plain text of at most n signs -/
structure Word (n : Nat) (x : Str) : Prop where
  p : Plain x
  l : x.length ≤ n
theorem Word.mono {m n : Nat} {x : Str} (h : Word m x) (k : m ≤ n) : Word n x := ⟨h.p, Nat.le_trans h.l k⟩
def wordB (n : Nat) (x : Str) : Bool := (x.cps.toList.all fun c => decide (c < 128)) && decide (x.length ≤ n)
theorem word_of {n : Nat} {x : Str} (h : wordB n x = true) : Word n x := by
  obtain ⟨a, b⟩ := He.ba h
  exact ⟨fun c hc => of_decide_eq_true (List.all_eq_true.mp a c hc), of_decide_eq_true b⟩
theorem Word.app {m n : Nat} {x y : Str} (h : Word m x) (k : Word n y) : Word (m + n) (x ++ y) := ⟨plain_app h.p k.p, by rw [Str.length_append]; exact Nat.add_le_add h.l k.l⟩
theorem sum_le {n : Nat} : ∀ ws : List Str, (∀ w ∈ ws, w.length ≤ n) → (ws.map (·.length)).sum ≤ ws.length * n
  | [], _ => Nat.zero_le _
  | a :: r, h => by
    have h1 := h a (List.mem_cons_self ..)
    have h2 := sum_le r fun w hw => h w (List.mem_cons_of_mem _ hw)
    simp only [List.map_cons, List.sum_cons, List.length_cons, Nat.succ_mul]
    omega
theorem Word.join {m n k : Nat} {y : Str} {ws : List Str} (hy : Word m y) (hw : ∀ w ∈ ws, Word n w) (hl : ws.length ≤ k) : Word (k * n + k * m) (Txt.join y ws) := by
  refine ⟨plain_join hy.p fun w h => (hw w h).p, ?_⟩
  rw [TL.join_eq]
  refine Nat.le_trans (StrLaws.join_length_le y ws) ?_
  have h1 := sum_le (n := n) ws fun w h => (hw w h).l
  have h2 := hy.l
  have h3 : ws.length * n ≤ k * n := Nat.mul_le_mul_right _ hl
  have h4 : ws.length * y.length ≤ k * m := Nat.mul_le_mul hl h2
  omega
theorem pick_word {n : Nat} {L : List Str} {v : V} (h : v ∈ L.map V.str) (hL : ∀ x ∈ L, Word n x) : ∃ x, v = .str x ∧ Word n x := by
  obtain ⟨x, hx, rfl⟩ := List.mem_map.mp h
  exact ⟨x, rfl, hL x hx⟩
def bentOf (a : Str) : List Str := ["", "*", "-", "**", "*,", a ++ ",", "A", "a1", "abcdefghi", "a\n", a, "\n", "a*", "to", "all"]
def tailOf (y : Str) : List Str := [" ", " " ++ y, ",", "\n", " *"]
def headOf : List Str := [" ", "\n", "- ", "* "]
def spBent (K : PySem.W.Frag) : Sp := fun vs H Q _ => ∃ (p c : Addr) (ms : List Int) (t : Nat) (z : Int) (x : Str), vs = [.ref p, .str x] ∧ Pen H p c ms t z ∧ t < 900000 ∧ Word 100 x ∧
  ∀ (y : Str) (H' : Hp) (t' : Nat) (z' : Int), Word 50000 y → But p H H' → Pen H' p c ms t' z' → t' ≤ t + 5 → Q (.str y) H'
/-! ### the text of a frame, read -/
theorem word_nm {x : Str} (h : IsNm x) : Word 8 x := ⟨plain_nm h, h.hi⟩
theorem word_star {a : Str} {o : Option Str} (f : FrOk a o) : Word 8 (starOf o) := by
  cases o with
  | none => exact word_of (by decide +kernel)
  | some z => exact word_nm (f.o z rfl)
theorem word_text {a : Str} {o : Option Str} (f : FrOk a o) : Word 17 (textF a o) := ((word_nm f.a).app (word_of (n := 1) (x := " ") (by decide +kernel))).app (word_star f)
theorem star_free {a : Str} {o : Option Str} (f : FrOk a o) : 32 ∉ (starOf o).cps.toList := by
  cases o with
  | none => decide +kernel
  | some z =>
    intro h
    have := (f.o z rfl).az _ h
    omega
theorem split_text {a : Str} {o : Option Str} (f : FrOk a o) : Txt.split (textF a o) " " = [a, starOf o] := by
  have e : textF a o = Txt.join " " [a, starOf o] := by
    rw [TL.join_eq]
    rfl
  rw [e]
  refine TL.split_join (s := 32) (S := []) (by decide +kernel) (by decide +kernel) (by simp) fun p hp => ?_
  simp only [List.mem_cons, List.not_mem_nil, or_false] at hp
  rcases hp with rfl | rfl
  · intro h
    have := f.a.az _ h
    omega
  · exact star_free f
theorem nm_true {x : Str} (h : IsNm x) : nmB x = true := nmB_iff.mpr h
theorem nm_no_star {z : Str} (h : IsNm z) : ¬ z = "*" := by
  intro e
  have h1 : (42 : Nat) ∈ z.cps.toList := by rw [e]; decide +kernel
  have := h.az _ h1
  omega
theorem readT_text {a : Str} {o : Option Str} (pk : PairOk a o) : readT (textF a o) = .inr (a, o) := by
  unfold readT
  rw [split_text pk.f]
  unfold hostsT
  cases o with
  | none => simp [nm_true pk.f.a, rs_nil, starOf]
  | some z =>
    have hz := pk.f.o z rfl
    have h1 := nm_no_star hz
    have h2 := pk.n z rfl
    simp [nm_true pk.f.a, nm_true hz, rs_nil, starOf, h1, h2]
theorem last_cut (x : Str) (c : Nat) (y : Str) (e : x = y ++ sg c) : cutS x (some (-1)) none = sg c := by
  refine str_ext ?_
  have l : x.cps.toList = y.cps.toList ++ [c] := by rw [e, str_app]; rfl
  have n : x.length = y.cps.toList.length + 1 := by rw [str_len, l, List.length_append]; rfl
  unfold cutS
  show (x.cps.toList.drop (HT.sIx x.length 0 (some (-1)))).take (HT.sIx x.length x.length none - HT.sIx x.length 0 (some (-1))) = [c]
  have e1 : HT.sIx x.length 0 (some (-1)) = y.cps.toList.length := by
    show (if (-1 : Int) < 0 then ((-1 : Int) + (x.length : Int)).toNat else min ((-1 : Int)).toNat x.length) = _
    rw [if_pos (by decide), n]
    omega
  have e2 : HT.sIx x.length x.length none = x.length := rfl
  rw [e1, e2, l, n, List.drop_left]
  have e3 : y.cps.toList.length + 1 - y.cps.toList.length = 1 := by omega
  rw [e3]
  rfl
theorem last_text {a : Str} {o : Option Str} (f : FrOk a o) : ∃ c, cutS (textF a o) (some (-1)) none = sg c ∧ (o = none → c = 42) ∧ (∀ z, o = some z → c ≠ 42) := by
  cases o with
  | none =>
    refine ⟨42, last_cut _ 42 (a ++ " ") ?_, fun _ => rfl, nofun⟩
    unfold textF starOf
    exact congrArg _ (show Str.ofString "*" = sg 42 by decide +kernel)
  | some z =>
    have hz := f.o z rfl
    have hl := hz.lo
    rw [str_len] at hl
    have hne : z.cps.toList ≠ [] := by intro e; rw [e] at hl; exact absurd hl (by decide)
    have el := List.dropLast_concat_getLast hne
    refine ⟨z.cps.toList.getLast hne, last_cut _ _ (a ++ " " ++ ⟨z.cps.toList.dropLast.toArray⟩) ?_, nofun, fun w hw => ?_⟩
    · unfold textF starOf
      refine str_ext ?_
      rw [str_app, str_app, str_app, str_app, str_app]
      show _ = a.cps.toList ++ _ ++ z.cps.toList.dropLast ++ [z.cps.toList.getLast hne]
      rw [List.append_assoc _ z.cps.toList.dropLast, el]
    · have := hz.az _ (List.getLast_mem hne)
      omega
theorem last_eq {a : Str} {o : Option Str} (f : FrOk a o) : (cutS (textF a o) (some (-1)) none = "*") ↔ o = none := by
  obtain ⟨c, e, h1, h2⟩ := last_text f
  rw [e]
  constructor
  · intro h
    cases o with
    | none => rfl
    | some z =>
      have : (sg c).cps.toList = [42] := by rw [h]; decide +kernel
      exact absurd (by simpa [sg] using this) (h2 z rfl)
  · intro h
    rw [h1 h]
    decide +kernel
/-- what stands while a law reads frames: the pen, the tables, two names, a frame -/
structure KL (K : PySem.W.Frag) (T : List (Addr × Str)) (p c : Addr) (ms : List Int) (f q : Addr) (a b : Str) (o : Option Str) (t : Nat) (z : Int) (H : Hp) : Prop where
  pen : Pen H p c ms t z
  tabs : LamX.Tabs T H
  names : H f = some (.lst [.str a, .str b])
  fr : IsFr K H q a o
theorem IsFr.ext {K : PySem.W.Frag} {H H' : Hp} {q : Addr} {a : Str} {o : Option Str} (h : IsFr K H q a o) (e : LamX.ExtN H H') : IsFr K H' q a o := let ⟨f, dx, hq⟩ := h; ⟨f, dx, e _ _ hq nofun⟩
theorem KL.ext {K : PySem.W.Frag} {T : List (Addr × Str)} {p c : Addr} {ms : List Int} {f q : Addr} {a b : Str} {o : Option Str} {t : Nat} {z : Int} {H H' : Hp} (h : KL K T p c ms f q a b o t z H) (e : LamX.ExtN H H') (k : LamX.Tabs T H') : KL K T p c ms f q a b o t z H' :=
  ⟨h.pen.ext e, k, e _ _ h.names nofun, h.fr.ext e⟩
theorem KL.same {K : PySem.W.Frag} {T : List (Addr × Str)} {p c : Addr} {ms : List Int} {f q : Addr} {a b : Str} {o : Option Str} {t : Nat} {z : Int} {H H' : Hp} (h : KL K T p c ms f q a b o t z H) (s : Same H H') : KL K T p c ms f q a b o t z H' := h.ext (extS s) (h.tabs.ext s)
theorem KL.nfp {K : PySem.W.Frag} {T : List (Addr × Str)} {p c : Addr} {ms : List Int} {f q : Addr} {a b : Str} {o : Option Str} {t : Nat} {z : Int} {H : Hp} (h : KL K T p c ms f q a b o t z H) : f ≠ p := ne_of h.names h.pen.a (fun e => by injection e with e; cases e)
theorem KL.but {K : PySem.W.Frag} {T : List (Addr × Str)} {p c : Addr} {ms : List Int} {f q : Addr} {a b : Str} {o : Option Str} {t t' : Nat} {z z' : Int} {H H' : Hp} (h : KL K T p c ms f q a b o t z H) (s : But p H H') (P : Pen H' p c ms t' z') : KL K T p c ms f q a b o t' z' H' :=
  ⟨P, tabs_but h.tabs h.pen s, s _ _ h.nfp h.names, let ⟨k, dx, hq⟩ := h.fr; ⟨k, dx, s _ _ (ne_of hq h.pen.a nofun) hq⟩⟩
theorem pow59 : CPow 10 59 := ⟨by decide, by decide, by decide⟩
def bad0 (z : Str) : Bool := match Txt.split z " " with
  | [] => false
  | w :: _ => !nmB w
theorem readT0 (z : Str) (h : bad0 z = true) : dueOf (.str z) = .inl 0 := by
  show readT z = _
  unfold bad0 at h
  unfold readT hostsT
  split at h
  · cases h
  · rename_i w r e
    rw [e]
    simp only [Bool.not_eq_true'] at h
    simp [h]
end Z
namespace Z
open PySem PySem.Spec PyProof.Rows L2
/-! ### sets of texts -/
/-- a row of a set's table that is a text's -/
def TxE (w : World) (e : Int × Value) : Prop := ∃ (x : Str) (tk : Tok), e.2 = .str x tk ∧ e.1 = hashStr w x
def txK (e : Int × Value) : Str := match e.2 with
  | .str x _ => x
  | _ => Str.empty
/-- the set of the texts S, n of them, at a -/
structure TxS (w : World) (h : Heap) (a : Addr) (S : Str → Bool) (n : Nat) (o : Obj) (es : Array (Int × Value)) (ep : Nat) (t : SetTable) : Prop where
  get : h.get? a = some o
  ex : o.ExactSet
  dat : o.data = .set es ep t
  good : ∀ e ∈ es.toList, TxE w e
  nd : (es.toList.map txK).Nodup
  mem : ∀ x, S x = true ↔ x ∈ es.toList.map txK
  few : es.size < scanBound
  fit : t.fits es.size = true
  num : es.size = n
  ris : Ris t.place.toList
  ord : w.params.followText "set-order" = true ∨ t.led = true
def TxR (w : World) (h : Heap) (a : Addr) (S : Str → Bool) (n : Nat) : Prop := ∃ o es ep t, TxS w h a S n o es ep t
theorem TxR.at {w : World} {h h' : Heap} {a : Addr} {S : Str → Bool} {n : Nat} (R : TxR w h a S n) (k : ∀ o, h.get? a = some o → h'.get? a = some o) : TxR w h' a S n := let ⟨o, es, ep, t, r⟩ := R; ⟨o, es, ep, t, { r with get := k o r.get }⟩
theorem TxR.congr {w : World} {h : Heap} {a : Addr} {S S' : Str → Bool} {n : Nat} (R : TxR w h a S n) (e : ∀ x, S' x = S x) : TxR w h a S' n := by
  rw [show S' = S from funext e]
  exact R
section
variable {P : Program} {w : World} {A : Around} {E : Value → Shared → Prop} {s : Shared} {a : Addr} {S : Str → Bool} {n : Nat}
theorem tx_is {e : Int × Value} (g : TxE w e) (x : Str) : (strKind P w).is x e.2 = true ↔ txK e = x := by
  obtain ⟨y, tk, h1, _⟩ := g
  unfold txK
  rw [h1]
  exact beq_iff_eq (a := y) (b := x)
theorem tx_mem {l : List (Int × Value)} (g : ∀ e ∈ l, TxE w e) (x : Str) : x ∈ l.map txK ↔ ∃ e ∈ l, (strKind P w).is x e.2 = true := by
  constructor <;> intro h
  · obtain ⟨e, he, q⟩ := List.mem_map.mp h; exact ⟨e, he, (tx_is (g e he) x).mpr q⟩
  · obtain ⟨e, he, q⟩ := h; exact List.mem_map.mpr ⟨e, he, (tx_is (g e he) x).mp q⟩
theorem tx_elems {l : List (Int × Value)} (g : ∀ e ∈ l, TxE w e) : ElemsOf (strKind P w) l := by
  intro e he
  obtain ⟨x, tk, h1, h2⟩ := g e he
  refine ⟨⟨x, ?_, h2⟩, ?_⟩ <;> rw [h1]
  · exact beq_self_eq_true x
  · rfl
theorem TxR.setOf (R : TxR w s.heap a S n) : s.heap.SetOf (strKind P w) a S n := by
  obtain ⟨o, es, ep, t, r⟩ := R
  exact ⟨o, es, ep, t, r.get, r.ex, r.dat, tx_elems r.good, fun x => (r.mem x).trans (tx_mem r.good x), r.few, r.fit, r.num⟩
/-- the rest of an adding, behind the new row -/
theorem tx_rest {g : Bool → Sem Unit} (hg : ∀ (b : Bool) (z : Shared) (R : Unit → Shared → Prop), R () z → wpAny (model P w) A (g b) R E z) {o : Obj} {es es1 : Array (Int × Value)} {ep : Nat} {t t2 : SetTable} {S' : Str → Bool} (r0 : s.heap.get? a = some o) (r1 : o.ExactSet) (r2 : o.data = .set es ep t)
    (q1 : ∀ e ∈ es1.toList, TxE w e) (q2 : (es1.toList.map txK).Nodup) (q3 : ∀ x, S' x = true ↔ x ∈ es1.toList.map txK) (q4 : es1.size < scanBound) (q5 : t2.fits es1.size = true) (q6 : Ris t2.place.toList) (q7 : w.params.followText "set-order" = true ∨ t2.led = true) {old : Bool} {R : Option Bool → Shared → Prop}
    (fin : ∀ h', Heap.SameBut a s.heap h' → TxR w h' a S' es1.size → R (some true) { s with heap := h' }) :
    wpAny (model P w) A (storeSet a es1 t2 >>= fun _ => if (!old && t2.tooFull) = true then (g (relayAll t2 es1 (SetTable.grown es1.size)).2.2 >>= fun _ => storeSet a (relayAll t2 es1 (SetTable.grown es1.size)).1 (relayAll t2 es1 (SetTable.grown es1.size)).2.1 >>= fun _ => pure (some true)) else pure (some true)) R E s := by
  have st1 := store_at (es' := es1) (t' := t2) r0 r2
  have same1 := Heap.SameBut.update s.heap a (Obj.putSet es1 t2)
  refine wpAny_bind (wpAny_storeSet_of r0 r2 ?_ (fits_of_scanBound q4))
  by_cases full : (!old && t2.tooFull) = true
  · rw [if_pos full]
    have pp := relayAll_perm t2 es1 (SetTable.grown es1.size); have pf := relayAll_fits t2 es1 (SetTable.grown es1.size)
    have pr := relayAll_ris t2 es1 (SetTable.grown es1.size); have pl := relayAll_led t2 es1 (SetTable.grown es1.size)
    generalize relayAll t2 es1 (SetTable.grown es1.size) = N at *
    obtain ⟨es2, t3, gave⟩ := N
    have sz : es2.size = es1.size := by simpa using pp.length_eq
    have few2 : es2.size < scanBound := sz ▸ q4
    have st2 := store_at (es' := es2) (t' := t3) st1 rfl
    refine wpAny_bind (hg gave _ _ (wpAny_bind (wpAny_storeSet_of st1 rfl (wpAny_pure (fin _ (same1.trans (Heap.SameBut.update _ a _)) ?_)) (fits_of_scanBound few2))))
    have mm := pp.map txK
    exact ⟨_, es2, _, t3, { get := st2, ex := r1, dat := rfl, good := fun e he => q1 e (pp.mem_iff.mp he), nd := mm.nodup_iff.mpr q2, mem := fun x => (q3 x).trans mm.mem_iff.symm, few := few2, fit := pf, num := sz, ris := pr, ord := q7.imp id fun z => pl.trans z }⟩
  · rw [if_neg full]
    exact wpAny_pure (fin _ same1 ⟨_, es1, _, t2, { get := st1, ex := r1, dat := rfl, good := q1, nd := q2, mem := q3, few := q4, fit := q5, num := rfl, ris := q6, ord := q7 }⟩)
theorem tx_put {x : Str} {tk : Tok} {Q : Bool → Shared → Prop} (R : TxR w s.heap a S n) (room : n + 1 < scanBound)
    (fin : ∀ h', Heap.SameBut a s.heap h' → TxR w h' a (fun y => S y || decide (y = x)) (if S x = true then n else n + 1) → Q (!S x) { s with heap := h' }) :
    wpAny (model P w) A (setAddHashed a (.str x tk) ((strKind P w).hash x)) Q E s := by
  obtain ⟨o, es, ep, t, r⟩ := R
  have key : (strKind P w).is x (.str x tk) = true := beq_self_eq_true x
  have scan : (Value.str x tk).scannable = true := rfl
  have el := tx_elems (P := P) r.good
  unfold setAddHashed setAddHashedIn
  refine wpAny_holding (wpAny_bind (wpAny_setState_of r.get r.dat r.fit ?_))
  dsimp only
  rw [byScan_of scan r.few el]
  simp only [↓reduceIte]
  unfold setAddByScan
  refine wpAny_bind (wpAny_bind (wpAny_rule (wpAny_bind (wpAny_setScan_of key r.get r.dat r.fit el ?_))))
  cases found : es.toList.findIdx? (fun e => (strKind P w).is x e.2) with
  | some j =>
    obtain ⟨lt, pj, _⟩ := List.findIdx?_eq_some_iff_getElem.mp found
    have inS : S x = true := (r.mem x).mpr ((tx_mem (P := P) r.good x).mpr ⟨_, List.getElem_mem lt, pj⟩)
    have q := fin s.heap (Heap.SameBut.refl a _) ⟨o, es, ep, t, { r with
      mem := fun y => by
        rw [← r.mem y, Bool.or_eq_true, decide_eq_true_eq]
        exact ⟨fun z => z.elim id fun e => e ▸ inS, .inl⟩
      num := by rw [if_pos inS]; exact r.num }⟩
    rw [inS] at q
    exact wpAny_pure (wpAny_pure q)
  | none =>
    have out : x ∉ es.toList.map txK := by
      intro z
      obtain ⟨e, he, q⟩ := (tx_mem (P := P) r.good x).mp z
      exact Bool.false_ne_true ((List.findIdx?_eq_none_iff.mp found e he).symm.trans q)
    have offS : S x = false := by
      cases q : S x
      · rfl
      · exact absurd ((r.mem x).mp q) out
    dsimp only
    have pp := layNew_perm t es ((strKind P w).hash x) (.str x tk); have pf := layNew_fits t es ((strKind P w).hash x) (.str x tk)
    have pr := layNew_ris t es ((strKind P w).hash x) (.str x tk) r.ris; have pl := layNew_led t es ((strKind P w).hash x) (.str x tk)
    generalize layNew t es ((strKind P w).hash x) (.str x tk) = N at *
    obtain ⟨es1, t1, old, gave⟩ := N
    dsimp only at pp pf pr pl ⊢
    have pc : es1.toList.Perm (((strKind P w).hash x, Value.str x tk) :: es.toList) := by
      rw [Array.toList_push] at pp
      exact pp.trans (List.perm_append_singleton _ _)
    have pk : (es1.toList.map txK).Perm (x :: es.toList.map txK) := pc.map txK
    have q1 : ∀ e ∈ es1.toList, TxE w e := fun e he => (List.mem_cons.mp (pc.mem_iff.mp he)).elim (fun z => z ▸ ⟨x, tk, rfl, rfl⟩) (r.good e)
    have q2 := pk.nodup_iff.mpr (List.nodup_cons.mpr ⟨out, r.nd⟩)
    have q3 : ∀ y, (S y || decide (y = x)) = true ↔ y ∈ es1.toList.map txK := fun y => by
      rw [pk.mem_iff, List.mem_cons, ← r.mem y, Bool.or_eq_true, decide_eq_true_eq]
      exact Or.comm
    have sz : es1.size = n + 1 := by
      have := pc.length_eq
      rw [← r.num]
      simpa using this
    have q4 : es1.size < scanBound := sz ▸ room
    have q7 : w.params.followText "set-order" = true ∨ t1.led = true := r.ord.imp id fun z => pl.trans z
    have last : ∀ h', Heap.SameBut a s.heap h' → TxR w h' a (fun y => S y || decide (y = x)) es1.size → Q true { s with heap := h' } := fun h' sb k => by
      have q := fin h' sb
      rw [offS] at q
      exact q (sz ▸ k)
    refine wpAny_bind ?_
    have quiet : ∀ (b : Bool) (z : Shared) (R : Unit → Shared → Prop), R () z → wpAny (model P w) A (match b with | true => rule "set.scan.the-table-gave-way" | false => pure ()) R E z := fun b z R q => by
      cases b
      · exact wpAny_pure q
      · exact wpAny_rule q
    refine quiet _ _ _ ?_
    split
    · refine wpAny_bind ?_
      rw [hashByValue_scannable 8 scan]
      refine wpAny_pure (tx_rest quiet r.get r.ex r.dat q1 q2 q3 q4 ?_ ?_ ?_ fun h' sb k => wpAny_pure (last h' sb k))
      · split
        · exact pf
        · exact SetTable.fits_plain_off pf
      · split <;> exact pr
      · split <;> exact q7
    · exact wpAny_bind (wpAny_pure (tx_rest quiet r.get r.ex r.dat q1 q2 q3 q4 pf pr q7 fun h' sb k => wpAny_pure (last h' sb k)))
/-- the texts of a row, each once -/
def inS (xs : List Str) : Str → Bool := fun y => decide (y ∈ xs)
theorem tx_loop {I : Addr} {fp wr : List Addr} {G : Array GenState → Array GenState → Prop} {m : Nat} {Pv : Nat → Value → Prop} {St : Nat → Shared → Prop} {R : Result → Shared → Prop} (W : WalksS P w A.in1 I fp wr G m Pv St) (D : Addr) (off : D ∉ fp) (xs : List Str) (hm : m = xs.length) (hb : xs.length + 1 < scanBound)
    (val : ∀ i v, Pv i v → ∃ x tk, xs[i]? = some x ∧ v = .str x tk) : ∀ (k i : Nat) (s : Shared), m - i = k → i ≤ m → St i s → (∃ c, c ≤ i ∧ TxR w s.heap D (inS (xs.take i)) c) →
      (∀ s' c, Moved (D :: wr) G s s' → c ≤ m → TxR w s'.heap D (inS xs) c → R (.ok (.ret .none)) s') → codeAny (model P w) A (.builtin "set.update.loop" ⟨[.ref D, .ref I], []⟩) R s := by
  have offw : D ∉ wr := fun h => off (W.sub _ h)
  have up : ∀ b ∈ wr, b ∈ D :: wr := fun _ h => .tail _ h
  intro k
  induction k with
  | zero =>
    rintro i s hk hi st ⟨c, hc, T⟩ fin
    obtain rfl : i = m := by omega
    refine codeAny_builtin F.entry_set_update_loop ?_
    rw [Around.under_plainId F.plain_set_update_loop _]
    refine wpAny_bind (m := pyNext (.ref I)) (W.done s _ _ st fun s' mv => wpAny_pure ?_)
    rw [List.take_of_length_le (by omega)] at T
    exact fin s' c (mv.mono up) hc (T.at fun o e => mv.heap D o offw e)
  | succ k ih =>
    rintro i s hk hi st ⟨c, hc, T⟩ fin
    have lt : i < m := by omega
    refine codeAny_builtin F.entry_set_update_loop ?_
    rw [Around.under_plainId F.plain_set_update_loop _]
    refine wpAny_bind (m := pyNext (.ref I)) (W.item i s _ _ lt st fun v s' pv st' mv => ?_)
    obtain ⟨x, tk, hx, rfl⟩ := val i v pv
    have T' := T.at (h' := s'.heap) fun o e => mv.heap D o offw e
    refine wpAny_bind (m := holding [Value.str x tk] (setAdd D (.str x tk))) (wpAny_holding ?_)
    unfold setAdd
    refine wpAny_holding (wpAny_bind ((strKind P w).pyHash (k := x) (beq_self_eq_true x) (tx_put (s := { s' with toks := s'.toks + 1 }) T' (by omega) fun h' sb T2 => ?_)))
    have T3 : TxR w h' D (inS (xs.take (i + 1))) (if inS (xs.take i) x = true then c else c + 1) := T2.congr fun y => by
      unfold inS
      rw [List.take_add_one, hx]
      simp [List.mem_append]
    have c3 : (if inS (xs.take i) x = true then c else c + 1) ≤ i + 1 := by
      cases inS (xs.take i) x
      · show c + 1 ≤ i + 1; omega
      · show c ≤ i + 1; omega
    have still : ∀ b, b ≠ D → ∀ o, s'.heap.get? b = some o → h'.get? b = some o := fun b nb o e => (sb.2 b nb).trans e
    refine wpAny_pure ⟨plainId_quiet F.plain_set_update_loop _, ih (i + 1) _ (by omega) lt (W.frame _ s' _ _ st' (Nat.le_succ _) fun b hb o e => still b (fun z => off (z ▸ hb)) o e) ⟨_, c3, T3⟩ fun s2 c2 mv2 hc2 T4 => fin s2 c2 ?_ hc2 T4⟩
    exact Moved.trans W.gtrans ((mv.mono up).then_heap (Nat.le_succ _) fun b o nb e => still b (fun z => nb (z ▸ .head _)) o e) mv2
theorem tx_fresh {h : Heap} {D : Addr} {xs : List Str} (e : h.get? D = some { cls := .type "set", dict := none, data := .set #[] 0 (.fresh 0 0 (!w.params.followText "set-order")) }) : TxR w h D (inS (xs.take 0)) 0 := by
  refine ⟨_, #[], 0, _, { get := e, ex := ⟨rfl, rfl, rfl⟩, dat := rfl, good := nofun, nd := .nil, mem := fun x => by simp [inS], few := by decide, fit := by rfl, num := rfl, ris := .nil, ord := ?_ }⟩
  cases w.params.followText "set-order"
  · exact .inr rfl
  · exact .inl rfl
/-- a set being made -/
abbrev newSet (w : World) : Obj := { cls := .type "set", dict := none, data := .set #[] 0 (.fresh 0 0 (!w.params.followText "set-order")) }
/-- set(xs), xs a list of texts -/
theorem set_of_list {l : Addr} {items : Array Value} (xs : List Str) {Q : Value → Shared → Prop} (calm : A.handled = none) (hl : s.heap.IsList l items) (num : items.size = xs.length) (val : ∀ (i : Nat) (v : Value), items[i]? = some v → ∃ x tk, xs[i]? = some x ∧ v = Value.str x tk) (hb : xs.length + 1 < scanBound)
    (fin : ∀ (h' : Heap) (tk c : Nat), TxR w h' s.heap.objs.size (inS xs) c → c ≤ xs.length → (∀ b o, s.heap.get? b = some o → h'.get? b = some o) → Q (.ref s.heap.objs.size) { s with heap := h', toks := tk }) : wpAny (model P w) A (call (.type "set") [.ref l]) Q E s := by
  obtain ⟨c0, tl, hmro⟩ := F.called_set.mro
  have a1 := F.called_set.made; have a2 := F.called_set.sub; have a3 := F.called_set.notType; have a4 := F.called_set.canCreate; have a5 := F.typeCall_set_1 (.ref l)
  refine wpAny_call (codeAny_of_tree ?_)
  show wpAny _ _ (callAny (.type "set") _) _ _ _
  refine wpAny_pure ⟨Code.quiet_builtin _ (by decide +kernel), codeAny_builtin F.entry_type_call ?_⟩
  rw [Around.under_plain (weight_type_call_type "set" [.ref l] []) rfl]
  repeat (any_goals (first | assumption | wp_step))
  refine codeAny_mono (code_set_led1 (.ref l) (E := E) (Q₁ := fun u z => u = .ref s.heap.objs.size ∧ z = { s with heap := s.heap.push (newSet w) }) ⟨rfl, rfl⟩) fun res s1 hres => ?_
  cases res with
  | error e => exact hres
  | ok fl =>
    cases fl with
    | next => exact hres.elim
    | brk => exact hres.elim
    | cont => exact hres.elim
    | ret u =>
      obtain ⟨rfl, rfl⟩ := hres
      have hD : (s.heap.push (newSet w)).get? s.heap.objs.size = some (newSet w) := Heap.get?_push_size _ rfl
      have hT : Shared.TypeIs { s with heap := s.heap.push (newSet w) } (.ref s.heap.objs.size) "set" := ⟨_, hD, rfl⟩
      have b1 := F.called_set.init.lookup; have b2 := F.called_set.init.bind (.ref s.heap.objs.size)
      repeat (any_goals (first | assumption | wp_step))
      refine codeAny_mono (codeAny_call_builtin (R := wants (fun r z => r = .none ∧ ∃ h' tk c, z = { s with heap := h', toks := tk } ∧ TxR w h' s.heap.objs.size (inS xs) c ∧ c ≤ xs.length ∧ ∀ b o, s.heap.get? b = some o → h'.get? b = some o) E) F.called_set.init.plain F.entry_set_init (check_set_init_1 hT ?_)) fun r2 s2 h2 => ?_
      · obtain ⟨ol, hol, hcl, nl, hdl⟩ := hl
        obtain ⟨oc, od, ot, osl⟩ := ol
        simp only at hcl hdl
        subst hcl hdl
        have at1 : (s.heap.push (newSet w)).get? l = some { cls := .type "list", dict := od, data := .seq items nl, slots := osl } := Heap.get?_push_of_some _ hol
        have d1 := F.sub_list_set; have d2 := F.sub_list_frozenset
        have d3 : (Value.type "list" == Value.type "dict") = false := by decide
        have is1 : (s.heap.push (newSet w)).IsList l items := ⟨_, at1, rfl, nl, rfl⟩
        unfold Builtin.«set.__init__» noKeywords Builtin.Frozenset.updateFrom
        generalize hPI : pyIter = PI
        wp_walk
        subst hPI
        refine wpAny_pyIter_list is1 (wpAny_bind (wpAny_runValue ?_))
        have lt : l < s.heap.objs.size := Heap.lt_size hol
        have cal3 : A.in1.in1.in1.handled = none := by simp [calm]
        have ne1 : l ≠ (s.heap.push (newSet w)).objs.size := by
          rw [Heap.size_push]
          exact Nat.ne_of_lt (Nat.lt_succ_of_lt lt)
        have off : s.heap.objs.size ∉ [(s.heap.push (newSet w)).objs.size, l] := by
          rw [Heap.size_push]
          simp only [List.mem_cons, List.not_mem_nil, or_false, not_or]
          exact ⟨Nat.ne_of_lt (Nat.lt_succ_self _), Nat.ne_of_gt lt⟩
        refine tx_loop ((Walks.list cal3 _ l ne1 items).toS) s.heap.objs.size off xs num hb val (items.size - 0) 0 _ (by omega) (Nat.zero_le _) ⟨⟨_, Heap.get?_push_size _ rfl, rfl, rfl⟩, is1.push _⟩ ⟨0, Nat.le_refl 0, tx_fresh (Heap.get?_push_of_some _ hD)⟩ ?_
        rintro ⟨h', g2, r2, tk', os'⟩ c' mv hc' T
        obtain rfl : g2 = s.gens := mv.gens; obtain rfl : r2 = s.drawn := mv.drawn; obtain rfl : os' = s.os := mv.os
        rw [num] at hc'
        refine wpAny_pure (wpAny_pure ⟨rfl, h', tk', c', rfl, T, hc', fun b o e => ?_⟩)
        have lb : b < s.heap.objs.size := Heap.lt_size e
        refine mv.heap b o ?_ (Heap.get?_push_of_some _ (Heap.get?_push_of_some _ e))
        rw [Heap.size_push]
        simp only [List.mem_cons, List.not_mem_nil, or_false, not_or]
        exact ⟨Nat.ne_of_lt lb, Nat.ne_of_lt (Nat.lt_succ_of_lt lb)⟩
      · cases r2 with
        | error e => exact h2
        | ok fl2 =>
          cases fl2 with
          | ret r =>
            obtain ⟨rfl, h', tk, c', rfl, T, hc', keep⟩ := h2
            repeat (any_goals (first | assumption | wp_step))
            exact fin _ _ _ T hc' keep
          | next => exact h2.elim
          | brk => exact h2.elim
          | cont => exact h2.elim
/-- set(xs), xs a tuple of texts -/
theorem set_of_tuple {l : Addr} {items : Array Value} (xs : List Str) {Q : Value → Shared → Prop} (calm : A.handled = none) (hl : s.heap.IsTuple l items) (num : items.size = xs.length) (val : ∀ (i : Nat) (v : Value), items[i]? = some v → ∃ x tk, xs[i]? = some x ∧ v = Value.str x tk) (hb : xs.length + 1 < scanBound)
    (fin : ∀ (h' : Heap) (tk c : Nat), TxR w h' s.heap.objs.size (inS xs) c → c ≤ xs.length → (∀ b o, s.heap.get? b = some o → h'.get? b = some o) → Q (.ref s.heap.objs.size) { s with heap := h', toks := tk }) : wpAny (model P w) A (call (.type "set") [.ref l]) Q E s := by
  obtain ⟨c0, tl, hmro⟩ := F.called_set.mro
  have a1 := F.called_set.made; have a2 := F.called_set.sub; have a3 := F.called_set.notType; have a4 := F.called_set.canCreate; have a5 := F.typeCall_set_1 (.ref l)
  refine wpAny_call (codeAny_of_tree ?_)
  show wpAny _ _ (callAny (.type "set") _) _ _ _
  refine wpAny_pure ⟨Code.quiet_builtin _ (by decide +kernel), codeAny_builtin F.entry_type_call ?_⟩
  rw [Around.under_plain (weight_type_call_type "set" [.ref l] []) rfl]
  repeat (any_goals (first | assumption | wp_step))
  refine codeAny_mono (code_set_led1 (.ref l) (E := E) (Q₁ := fun u z => u = .ref s.heap.objs.size ∧ z = { s with heap := s.heap.push (newSet w) }) ⟨rfl, rfl⟩) fun res s1 hres => ?_
  cases res with
  | error e => exact hres
  | ok fl =>
    cases fl with
    | next => exact hres.elim
    | brk => exact hres.elim
    | cont => exact hres.elim
    | ret u =>
      obtain ⟨rfl, rfl⟩ := hres
      have hD : (s.heap.push (newSet w)).get? s.heap.objs.size = some (newSet w) := Heap.get?_push_size _ rfl
      have hT : Shared.TypeIs { s with heap := s.heap.push (newSet w) } (.ref s.heap.objs.size) "set" := ⟨_, hD, rfl⟩
      have b1 := F.called_set.init.lookup; have b2 := F.called_set.init.bind (.ref s.heap.objs.size)
      repeat (any_goals (first | assumption | wp_step))
      refine codeAny_mono (codeAny_call_builtin (R := wants (fun r z => r = .none ∧ ∃ h' tk c, z = { s with heap := h', toks := tk } ∧ TxR w h' s.heap.objs.size (inS xs) c ∧ c ≤ xs.length ∧ ∀ b o, s.heap.get? b = some o → h'.get? b = some o) E) F.called_set.init.plain F.entry_set_init (check_set_init_1 hT ?_)) fun r2 s2 h2 => ?_
      · obtain ⟨ol, hol, hcl, nl, hdl⟩ := hl
        obtain ⟨oc, od, ot, osl⟩ := ol
        simp only at hcl hdl
        subst hcl hdl
        have at1 : (s.heap.push (newSet w)).get? l = some { cls := .type "tuple", dict := od, data := .seq items nl, slots := osl } := Heap.get?_push_of_some _ hol
        have d1 := F.sub_tuple_set; have d2 := F.sub_tuple_frozenset
        have d3 : (Value.type "tuple" == Value.type "dict") = false := by decide
        have is1 : (s.heap.push (newSet w)).IsTuple l items := ⟨_, at1, rfl, nl, rfl⟩
        unfold Builtin.«set.__init__» noKeywords Builtin.Frozenset.updateFrom
        generalize hPI : pyIter = PI
        wp_walk
        subst hPI
        refine wpAny_pyIter_tuple is1 (wpAny_bind (wpAny_runValue ?_))
        have lt : l < s.heap.objs.size := Heap.lt_size hol
        have cal3 : A.in1.in1.in1.handled = none := by simp [calm]
        have ne1 : l ≠ (s.heap.push (newSet w)).objs.size := by
          rw [Heap.size_push]
          exact Nat.ne_of_lt (Nat.lt_succ_of_lt lt)
        have off : s.heap.objs.size ∉ [(s.heap.push (newSet w)).objs.size, l] := by
          rw [Heap.size_push]
          simp only [List.mem_cons, List.not_mem_nil, or_false, not_or]
          exact ⟨Nat.ne_of_lt (Nat.lt_succ_self _), Nat.ne_of_gt lt⟩
        refine tx_loop ((Walks.tuple cal3 _ l ne1 items).toS) s.heap.objs.size off xs num hb val (items.size - 0) 0 _ (by omega) (Nat.zero_le _) ⟨⟨_, Heap.get?_push_size _ rfl, rfl, rfl⟩, is1.push _⟩ ⟨0, Nat.le_refl 0, tx_fresh (Heap.get?_push_of_some _ hD)⟩ ?_
        rintro ⟨h', g2, r2, tk', os'⟩ c' mv hc' T
        obtain rfl : g2 = s.gens := mv.gens; obtain rfl : r2 = s.drawn := mv.drawn; obtain rfl : os' = s.os := mv.os
        rw [num] at hc'
        refine wpAny_pure (wpAny_pure ⟨rfl, h', tk', c', rfl, T, hc', fun b o e => ?_⟩)
        have lb : b < s.heap.objs.size := Heap.lt_size e
        refine mv.heap b o ?_ (Heap.get?_push_of_some _ (Heap.get?_push_of_some _ e))
        rw [Heap.size_push]
        simp only [List.mem_cons, List.not_mem_nil, or_false, not_or]
        exact ⟨Nat.ne_of_lt lb, Nat.ne_of_lt (Nat.lt_succ_of_lt lb)⟩
      · cases r2 with
        | error e => exact h2
        | ok fl2 =>
          cases fl2 with
          | ret r =>
            obtain ⟨rfl, h', tk, c', rfl, T, hc', keep⟩ := h2
            repeat (any_goals (first | assumption | wp_step))
            exact fin _ _ _ T hc' keep
          | next => exact h2.elim
          | brk => exact h2.elim
          | cont => exact h2.elim
end
end Z
namespace Z
open PySem PySem.Spec PyProof.Rows L2
/-! ### sets of texts: what is asked of them -/
section
variable {P : Program} {w : World} {A : Around} {E : Value → Shared → Prop} {s : Shared} {a : Addr} {S : Str → Bool} {n : Nat}
theorem strs_of {l : List Value} (h : ∀ v ∈ l, ∃ x tk, v = Value.str x tk) : ∃ xs, StrsAre l xs ∧ xs = l.map fun v => txK (0, v) := by
  induction l with
  | nil => exact ⟨[], .nil, rfl⟩
  | cons v r ih =>
    obtain ⟨x, tk, rfl⟩ := h v (.head _)
    obtain ⟨xs, h1, h2⟩ := ih fun u hu => h u (.tail _ hu)
    exact ⟨x :: xs, .cons x tk h1, by rw [h2]; rfl⟩
theorem tx_sorted {Q : Value → Shared → Prop} (R : TxR w s.heap a S n) (calm : A.handled = none)
    (fin : ∀ s' p (out : Array Value) (c : Nat) (ys : List Str), (∀ b o, s.heap.get? b = some o → s'.heap.get? b = some o) → s'.gens = s.gens → s'.os = s.os → s.heap.objs.size ≤ p → s'.heap.get? p = some (seqObj "list" out c) → StrsAre out.toList ys → sortedS ys = true → ys.Nodup → (∀ y, y ∈ ys ↔ S y = true) → ys.length = n → n ≤ sizeLine → Q (.ref p) s') :
    wpAny (model P w) A (call (.builtin "sorted") [.ref a]) Q E s := by
  obtain ⟨o, es, ep, t, r⟩ := R
  refine Calls.call_function_entry kind_sorted plain_sorted entry_sorted (args_sorted1 _) ?_
  unfold Builtin.«sorted»
  refine wpAny_bind (m := checkCount "sorted" 1 1 _) (wpAny_pure (wpAny_bind (collect_set (A := A.in1) calm ⟨o, r.get, r.ex.1, r.dat⟩ r.fit r.few r.ris r.ord fun s1 vs k1 hz g1 o1 pm => ?_)))
  have len : vs.length = n := by
    have := pm.length_eq
    rw [← r.num]
    simpa using this
  have small : n ≤ sizeLine := r.num ▸ fits_of_scanBound r.few
  obtain ⟨xs, hxs, ex⟩ := strs_of (l := vs) fun v hv => by
    obtain ⟨e, he, q⟩ := List.mem_map.mp (pm.mem_iff.mp hv)
    obtain ⟨x, tk, h1, _⟩ := r.good e he
    exact ⟨x, tk, q ▸ h1⟩
  have px : xs.Perm (es.toList.map txK) := by
    have q := pm.map fun v => txK (0, v)
    rw [List.map_map, ← ex] at q
    exact q
  refine wpAny_bind (wpAny_newList ?_ (len ▸ small))
  have hoL : (s1.heap.push (seqObj "list" vs.toArray 0)).get? s1.heap.objs.size = some (seqObj "list" vs.toArray 0) := Heap.get?_push_size _ rfl
  refine wpAny_bind (wpAny_holding (wpAny_call_entry slot_list_sort ⟨_, hoL, rfl⟩ entry_list_sort (list_sort_treeKAny strKind_oneLt hoL hxs.keysOf (fun v₁ v₂ rest e => keyKind_strs (by rw [← e]; exact hxs)) (len ▸ small) fun st hp hs => ⟨_, rfl, ?_⟩) (args_list_sort _)))
  obtain ⟨ys, h1, h2, h3⟩ := sorted_out_str hxs hp hs
  obtain ⟨c, hc⟩ := sortedHeap_at (vs := vs) (out := (arrOf st).map (·.2)) hoL
  have py := h2.trans px
  refine wpAny_pure ⟨_, rfl, fin _ s1.heap.objs.size _ c ys (fun b u e => ?_) g1 o1 hz hc h1 h3 (py.nodup_iff.mpr r.nd) (fun y => py.mem_iff.trans (r.mem y).symm) ?_ small⟩
  · have q := k1 b u e
    have lt := Heap.lt_size q
    show (sortedHeap (s1.heap.push (seqObj "list" vs.toArray 0)) s1.heap.objs.size vs _).get? b = some u
    rw [sortedHeap_old (Nat.ne_of_lt lt) (by rw [size_push']; exact Nat.lt_succ_of_lt lt)]
    exact Heap.get?_push_of_some _ q
  · have := py.length_eq
    rw [← r.num]
    simpa using this
end
/-- the set of the texts S, n of them -/
def TxO (w : World) (a : Addr) (S : Str → Bool) (n : Nat) : HO := .ext fun h => TxR w h a S n
theorem txO_new {w : World} {P : Program} {H : Hp} {h : Heap} {a : Addr} {S : Str → Bool} {n : Nat} (R : TxR w h a S n) : ObjOk P w H h a (TxO w a S n) := ⟨R, let ⟨o, _, _, _, r⟩ := R; ⟨o, r.get⟩, fun _ _ p k => p.at k⟩
section
variable {X : Cx} {K : PySem.W.Frag}
theorem txO_get {pins : List (Addr × Obj)} {σ : L2.St} {H : Hp} {s : Shared} {a : Addr} {S : Str → Bool} {n : Nat} (I : Inv X pins σ H s) (ha : H a = some (TxO X.w a S n)) : TxR X.w s.heap a S n := (I.hok a _ ha).1
/-- n is how many texts stand in xs, each once -/
def ManyS (xs : List Str) (n : Nat) : Prop := ∃ L : List Str, L.Nodup ∧ (∀ y, y ∈ L ↔ y ∈ xs) ∧ L.length = n
theorem ManyS.le {xs : List Str} {n : Nat} (h : ManyS xs n) : n ≤ xs.length := by
  obtain ⟨L, h1, h2, rfl⟩ := h
  exact len_le_of_sub h1 fun x hx => (h2 x).mp hx
/-- set(xs), xs a list or a tuple of texts -/
def rSetS (K : PySem.W.Frag) (w : World) : List V → Hp → VK → Prop := fun vs H Q => ∃ (l : Addr) (xs : List Str), vs = [.ref l] ∧ (SqL K H l (xs.map V.str) ∨ SqT K H l (xs.map V.str)) ∧ xs.length + 1 < scanBound ∧
  ∀ a n, H a = none → ManyS xs n → Q (.ref a) (upd H a (TxO w a (inS xs) n))
theorem strs_at {xs : List Str} {its : List Value} (r : Vals (xs.map V.str) its) : ∀ (i : Nat) (v : Value), its.toArray[i]? = some v → ∃ x tk, xs[i]? = some x ∧ v = Value.str x tk := by
  intro i v h
  rw [List.getElem?_toArray] at h
  have len := r.length
  rw [List.length_map] at len
  have lt : i < xs.length := by
    rw [len]
    exact (List.getElem?_eq_some_iff.mp h).1
  obtain ⟨u, hu, tk, e⟩ := r.get (i := i) (x := .str xs[i]) (by simp [lt])
  rw [hu] at h
  exact ⟨xs[i], tk, List.getElem?_eq_getElem lt, (Option.some.inj h).symm.trans e⟩
theorem TxR.many {w : World} {h : Heap} {a : Addr} {xs : List Str} {n : Nat} (R : TxR w h a (inS xs) n) : ManyS xs n := by
  obtain ⟨o, es, ep, t, r⟩ := R
  refine ⟨es.toList.map txK, r.nd, fun y => ?_, ?_⟩
  · rw [← r.mem y]
    exact decide_eq_true_iff
  · rw [List.length_map, Array.length_toList, r.num]
theorem cr_setS (hc : X.calm = true) (hK : X.K = K := by rfl) : CallR X (.type "set") (rSetS K X.w) := by
  subst hK
  rintro pins s σ H vs us Q I r ⟨l, xs, rfl, hl, hb, q⟩
  rw [Vals.ref1 r]
  have fr : H s.heap.objs.size = none := I.hok.fresh (Nat.le_refl _)
  have fin : ∀ (h' : Heap) (tk c : Nat), TxR X.w h' s.heap.objs.size (inS xs) c → c ≤ xs.length → (∀ b o, s.heap.get? b = some o → h'.get? b = some o) → EP X pins σ Q (.ref s.heap.objs.size) { s with heap := h', toks := tk } := fun h' tk c T _ k =>
    ⟨.ref s.heap.objs.size, upd H s.heap.objs.size (TxO X.w s.heap.objs.size (inS xs) c), I.laid (t' := tk) k (Nat.le_refl _) (txO_new T), rfl, q _ c fr T.many⟩
  rcases hl with hl | hl
  · obtain ⟨its, rv, pl, hz⟩ := I.list hl
    exact set_of_list xs (I.ok.hd hc) pl.isList (by have := rv.length; simpa using this.symm) (strs_at rv) hb fin
  · obtain ⟨its, rv, pl, hz⟩ := I.tuple hl
    exact set_of_tuple xs (I.ok.hd hc) pl (by have := rv.length; simpa using this.symm) (strs_at rv) hb fin
/-- len(set) -/
def rLenX (w : World) : List V → Hp → VK → Prop := fun vs H Q => ∃ (a : Addr) (S : Str → Bool) (n : Nat), vs = [.ref a] ∧ H a = some (TxO w a S n) ∧ Q (.int n) H
theorem cr_lenX : CallR X (.builtin "len") (rLenX X.w) := by
  rintro pins s σ H vs us Q I r ⟨a, S, n, rfl, ha, q⟩
  rw [Vals.ref1 r]
  obtain ⟨o, es, ep, t, k⟩ := txO_get I ha
  have big : (es.size : Int) < 2 ^ 63 := by
    have h1 : es.size ≤ sizeLine := fits_of_scanBound k.few
    have h2 : sizeLine = 16777216 := by decide
    omega
  exact call_len_set k.get k.ex k.dat k.fit big ⟨.int n, H, I.tok _, ⟨_, by rw [k.num]⟩, q⟩
/-- sorted(set) -/
def rSortX (w : World) : List V → Hp → VK → Prop := fun vs H Q => ∃ (a : Addr) (S : Str → Bool) (n : Nat), vs = [.ref a] ∧ H a = some (TxO w a S n) ∧ ∀ (ys : List Str) (p : Addr), sortedS ys = true → ys.Nodup → (∀ y, y ∈ ys ↔ S y = true) → ys.length = n → H p = none → Q (.ref p) (upd H p (.lst (ys.map V.str)))
theorem cr_sortX (hc : X.calm = true) : CallR X (.builtin "sorted") (rSortX X.w) := by
  rintro pins s σ H vs us Q I r ⟨a, S, n, rfl, ha, q⟩
  rw [Vals.ref1 r]
  refine tx_sorted (txO_get I ha) (I.ok.hd hc) fun s' p out c ys k g o hp hg hi hs nd mem len small => ?_
  have fr : H p = none := I.hok.fresh hp
  have fit : (ys.map V.str).length ≤ sizeLine := by
    rw [List.length_map, len]
    exact small
  have J : Inv X pins σ (upd H p (.lst (ys.map V.str))) { s with heap := s'.heap, gens := s'.gens, drawn := s'.drawn, toks := s'.toks } := I.call (ch := []) (Un.laid k hp fr) (I.hok.laid k hp ⟨fit, out.toList, c, vals_of_strs hi, hg⟩) (by rw [g]; exact I.bare) nofun
  obtain ⟨h1, h2, h3, h4, h5⟩ := s'
  obtain rfl : h5 = s.os := o
  exact ⟨.ref p, _, J, rfl, q ys p hs nd mem len fr⟩
end
/-! ### the ascending texts of a row -/
/-- the ascending texts of xs, each once -/
def AscOf (xs ys : List Str) : Prop := sortedS ys = true ∧ ys.Nodup ∧ ∀ y, y ∈ ys ↔ y ∈ xs
end Z
namespace Z
open PySem PySem.Spec PyProof.Rows L2
/-! ### lists or tuples -/
theorem pi_or {X : Cx} {tg l : Expr} {w1 w2 : TI} (h1 : PI X tg l w1) (h2 : PI X tg l w2) : PI X tg l (fun σ H R => w1 σ H R ∨ w2 σ H R) := by
  refine ⟨fun pins s σ H R I h => ?_⟩
  rcases h with h | h
  · exact h1.run pins s σ H R I h
  · exact h2.run pins s σ H R I h
/-- the row xs stands at p, a list or a tuple -/
def RowA (H : Hp) (p : Addr) (xs : List V) : Prop := H p = some (.lst xs) ∨ H p = some (.tup xs)
theorem RowA.same {H H' : Hp} {p : Addr} {xs : List V} (s : Same H H') (h : RowA H p xs) : RowA H' p xs := h.imp (s _ _) (s _ _)
theorem RowA.seq {K : PySem.W.Frag} {H : Hp} {p : Addr} {xs : List V} (h : RowA H p xs) : SqL K H p xs ∨ SqT K H p xs := h.imp SqL.of SqT.of
theorem RowA.isi {K : PySem.W.Frag} {H : Hp} {p : Addr} {xs : List V} (h : RowA H p xs) : ∃ t, TyX K H (.ref p) t ∧ PySem.W.kitAny K t [.type "list", .type "tuple"] = some true := by
  rcases h with h | h
  · refine ⟨_, .base (.lst h), ?_⟩
    unfold PySem.W.kitAny
    rw [kit_same]
  · refine ⟨_, .base (.tup h), ?_⟩
    unfold PySem.W.kitAny
    rw [kit_ty (show kitB "tuple" "list" = some false by decide +kernel)]
    unfold PySem.W.kitAny
    rw [kit_same]
/-- what may be told for a row of names -/
def RowK (K : PySem.W.Frag) (H : Hp) (v : V) : Prop := (∃ p xs, v = .ref p ∧ RowA H p xs ∧ xs.length ≤ 1000 ∧ ∀ x ∈ xs, Kind K H x) ∨ ∃ t, TyX K H v t ∧ PySem.W.kitAny K t [.type "list", .type "tuple"] = some false
/-- the texts among some values -/
def strsV (xs : List V) : List Str := xs.filterMap fun v => match v with
  | .str z => some z
  | _ => none
/-- the names of a row that has no others, each once; none for any other row -/
def rowN (xs : List V) : Option (List Str) := if xs.all vnm = true ∧ (strsV xs).Nodup then some (strsV xs) else none
theorem strsV_map (ns : List Str) : strsV (ns.map V.str) = ns := by
  unfold strsV
  rw [List.filterMap_map]
  induction ns with
  | nil => rfl
  | cons a r ih => simpa using ih
theorem all_strs {xs : List V} (h : xs.all vnm = true) : xs = (strsV xs).map V.str ∧ ∀ n ∈ strsV xs, IsNm n := by
  induction xs with
  | nil => exact ⟨rfl, nofun⟩
  | cons v r ih =>
    rw [List.all_cons, Bool.and_eq_true] at h
    obtain ⟨z, rfl⟩ := vnm_str h.1
    obtain ⟨h1, h2⟩ := ih h.2
    have e : strsV (V.str z :: r) = z :: strsV r := rfl
    rw [e]
    refine ⟨by rw [List.map_cons, ← h1], fun n hn => ?_⟩
    rcases List.mem_cons.mp hn with rfl | hn
    · exact nmB_iff.mp h.1
    · exact h2 n hn
theorem rowN_some {xs : List V} {ns : List Str} (h : rowN xs = some ns) : xs = ns.map V.str ∧ (∀ n ∈ ns, IsNm n) ∧ ns.Nodup := by
  unfold rowN at h
  split at h
  · rename_i c
    cases h
    exact ⟨(all_strs c.1).1, (all_strs c.1).2, c.2⟩
  · cases h
theorem rowN_of {ns : List Str} (h : ∀ n ∈ ns, IsNm n) (d : ns.Nodup) : rowN (ns.map V.str) = some ns := by
  have a : (ns.map V.str).all vnm = true := by
    rw [List.all_map, List.all_eq_true]
    exact fun n hn => nmB_iff.mpr (h n hn)
  unfold rowN
  rw [strsV_map, if_pos ⟨a, d⟩]
theorem perm_full : ∀ (L xs : List Str), L.Nodup → (∀ x ∈ L, x ∈ xs) → xs.length ≤ L.length → L.Perm xs
  | [], xs, _, _, h => by
    rw [List.length_eq_zero_iff.mp (Nat.le_zero.mp h)]
  | a :: r, xs, d, m, h => by
    obtain ⟨d1, d2⟩ := List.nodup_cons.mp d
    have ha := m a (.head _)
    have pe := List.perm_cons_erase ha
    have le : (xs.erase a).length ≤ r.length := by
      have := pe.length_eq
      simp only [List.length_cons] at this h
      omega
    refine .trans (.cons a (perm_full r (xs.erase a) d2 (fun x hx => ?_) le)) pe.symm
    exact (List.mem_erase_of_ne (by intro e; subst e; exact d1 hx)).mpr (m x (.tail _ hx))
theorem many_eq {xs : List Str} {n : Nat} (h : ManyS xs n) : decide ((n : Int) = (xs.length : Int)) = decide xs.Nodup := by
  obtain ⟨L, h1, h2, rfl⟩ := h
  have key : L.length = xs.length ↔ xs.Nodup := by
    constructor
    · intro e
      exact (perm_full L xs h1 (fun x hx => (h2 x).mp hx) (Nat.le_of_eq e.symm)).nodup_iff.mp h1
    · intro d
      exact Nat.le_antisymm (len_le_of_sub h1 fun x hx => (h2 x).mp hx) (len_le_of_sub d fun x hx => (h2 x).mpr hx)
  by_cases d : xs.Nodup
  · rw [decide_eq_true d, decide_eq_true (by have := key.mpr d; omega)]
  · rw [decide_eq_false d, decide_eq_false (fun e => d (key.mp (by omega)))]
def spAreN (K : PySem.W.Frag) : Sp := fun vs H Q _ => ∃ v : V, vs = [v] ∧
  ((∃ p xs, v = .ref p ∧ RowA H p xs ∧ xs.length ≤ 1000 ∧ (∀ x ∈ xs, Kind K H x) ∧ ∀ H', Same H H' → Q (.bl (rowN xs).isSome) H') ∨
   ∃ t, TyX K H v t ∧ PySem.W.kitAny K t [.type "list", .type "tuple"] = some false ∧ ∀ H', Same H H' → Q (.bl false) H')
def spAsc (K : PySem.W.Frag) : Sp := fun vs H Q _ => ∃ (p : Addr) (xs : List Str), vs = [.ref p] ∧ (SqL K H p (xs.map V.str) ∨ SqT K H p (xs.map V.str)) ∧ xs.length ≤ 3000 ∧
  ∀ ys t H', AscOf xs ys → Same H H' → H t = none → H' t = some (.tup (ys.map V.str)) → Q (.ref t) H'
/-- a comprehension whose elements may make things -/
theorem lc_same {J : It} {n : Nat} {G : Hp → Prop} {Y : Nat → Hp → V → Hp → Prop} (w : Walk J n G Y) {g : TG} {tt : TT} {te : TE} {vs : List Nat} {σ : L2.St} {H1 : Hp} {D : Addr} {Qd : Hp → Prop} (xs : List V) (F : V → Option V) (hn : n = xs.length) (hY : ∀ i H x H', i < n → Y i H x H' → H' = H ∧ xs[i]? = some x) (hD : H1 D = none) (hG : ∀ H', Same H1 H' → G H') (hz : xs.length < sizeLine)
    (hs : ∀ x ∈ xs, ∀ H', Same H1 H' → ∀ (Kt : V → Hp → Prop) (Kf : Hp → Prop), (∀ y H2, F x = some y → Same H' H2 → Kt y H2) → (∀ H2, F x = none → Same H' H2 → Kf H2) → g x (wipe σ vs) H' fun σ2 H2 => wipe σ2 vs = wipe σ vs ∧ tt σ2 H2 fun b H3 => if b = true then te σ2 H3 Kt else Kf H3)
    (hd : ∀ H', Same H1 H' → H' D = some (.lst (xs.filterMap F)) → Qd H') :
    ∃ W : Nat → Nat → Hp → Prop, (∃ m, W 0 m (upd H1 D (.lst []))) ∧ ∀ i m H, W i m H → (J.stop i H ∧ Qd H) ∨ (J.go i H ∧ ∃ Nx : Hp → Prop, (∀ H', Nx H' → ∃ m', m' < m ∧ W (i + 1) m' H') ∧ ∀ x H', J.yld i H x H' → g x (wipe σ vs) H' fun σ2 H2 => wipe σ2 vs = wipe σ vs ∧ tt σ2 H2 fun b H3 => if b = true then te σ2 H3 fun y H4 => ∃ acc, H4 D = some (.lst acc) ∧ acc.length < sizeLine ∧ Nx (upd H4 D (.lst (acc ++ [y]))) else Nx H3) := by
  refine lc_it w (fun i H => Same H1 H ∧ H D = some (.lst ((xs.take i).filterMap F))) ⟨same_new hD, upd_same⟩ (fun i H _ k => hG _ k.1) ?_ ?_
  · rintro i x H H' hi ⟨sm, at_⟩ y
    obtain ⟨rfl, hx⟩ := hY i _ x H' hi y
    refine hs x (List.mem_of_getElem? hx) _ sm _ _ (fun y H2 e s2 => ⟨_, s2 _ _ at_, ?_, ?_, ?_⟩) fun H2 e s2 => ⟨sm.trans s2, ?_⟩
    · have a := List.length_filterMap_le F (xs.take i)
      have b : (xs.take i).length ≤ xs.length := by rw [List.length_take]; omega
      omega
    · exact fun b o h => by rw [upd_ne (ne_of_none h hD)]; exact s2 _ _ (sm _ _ h)
    · rw [upd_same, filterMap_take F xs hx, e]
      rfl
    · rw [filterMap_take F xs hx, e]
      simpa using s2 _ _ at_
  · rintro H ⟨sm, at_⟩
    rw [hn, List.take_length] at at_
    exact hd H sm at_
/-- a walk over a list or a tuple -/
theorem row_walk {K : PySem.W.Frag} {H : Hp} {p : Addr} {xs : List V} (h : RowA H p xs) {R : It → Hp → Prop} {σ : L2.St} {i : Nat} (hi : σ[i]? = some (some (.ref p)))
    (k : ∀ (J : It) (G : Hp → Prop), Walk J xs.length G (YAt xs) → (∀ H', Same H H' → G H') → R J H) : (iList K (tVar i)) σ H R ∨ (iTup K (tVar i)) σ H R := by
  rcases h with h | h
  · exact .inl ⟨_, hi, p, rfl, ⟨_, SqL.of h⟩, k _ _ walk_list fun H' s => SqL.of (s _ _ h)⟩
  · exact .inr ⟨_, hi, p, rfl, ⟨_, SqT.of h⟩, k _ _ walk_tup fun H' s => SqT.of (s _ _ h)⟩
theorem bools_of (xs : List V) : xs.filterMap (fun v => some (V.bl (vnm v))) = (xs.map vnm).map V.bl := by
  induction xs with
  | nil => rfl
  | cons a r ih => simp [ih]
end Z
namespace Z
open PySem PySem.Spec PyProof.Rows L2
/-! ### ascending rows are told by what they have -/
def leS (a b : Str) : Prop := ltCps b.cps.toList a.cps.toList = false
theorem leS_iff {a b : Str} : leS a b ↔ a.cps.toList ≤ b.cps.toList := by
  unfold leS
  rw [ltCps_eq, decide_eq_false_iff_not]
  exact List.not_lt
theorem leS_trans {a b c : Str} (h : leS a b) (k : leS b c) : leS a c := leS_iff.mpr (List.le_trans (leS_iff.mp h) (leS_iff.mp k))
theorem leS_anti {a b : Str} (h : leS a b) (k : leS b a) : a = b := str_ext (List.le_antisymm (leS_iff.mp h) (leS_iff.mp k))
theorem rising_all : ∀ (l : List Str) (p : Str), risingS p l = true → (∀ x ∈ l, leS p x) ∧ l.Pairwise leS
  | [], _, _ => ⟨nofun, .nil⟩
  | x :: r, p, h => by
    have h : (!ltCps x.cps.toList p.cps.toList && risingS x r) = true := h
    rw [Bool.and_eq_true, Bool.not_eq_true'] at h
    obtain ⟨h1, h2⟩ := rising_all r x h.2
    refine ⟨fun y hy => ?_, .cons h1 h2⟩
    rcases List.mem_cons.mp hy with rfl | hy
    · exact h.1
    · exact leS_trans h.1 (h1 y hy)
theorem sorted_pair {l : List Str} (h : sortedS l = true) : l.Pairwise leS := by
  cases l with
  | nil => exact .nil
  | cons x r => exact .cons (rising_all r x h).1 (rising_all r x h).2
theorem pair_unique : ∀ (ys zs : List Str), ys.Pairwise leS → zs.Pairwise leS → ys.Nodup → zs.Nodup → (∀ y, y ∈ ys ↔ y ∈ zs) → ys = zs
  | [], zs, _, _, _, _, m => by
    cases zs with
    | nil => rfl
    | cons b r => exact absurd ((m b).mpr (.head _)) nofun
  | a :: r, [], _, _, _, _, m => absurd ((m a).mp (.head _)) nofun
  | a :: r, b :: q, p1, p2, d1, d2, m => by
    obtain ⟨a1, a2⟩ := List.pairwise_cons.mp p1
    obtain ⟨b1, b2⟩ := List.pairwise_cons.mp p2
    obtain ⟨c1, c2⟩ := List.nodup_cons.mp d1
    obtain ⟨e1, e2⟩ := List.nodup_cons.mp d2
    have e : a = b := by
      rcases List.mem_cons.mp ((m a).mp (.head _)) with h | h
      · exact h
      · rcases List.mem_cons.mp ((m b).mpr (.head _)) with k | k
        · exact k.symm
        · exact leS_anti (a1 b k) (b1 a h)
    subst e
    rw [pair_unique r q a2 b2 c2 e2 fun y => ?_]
    constructor
    · intro h
      rcases List.mem_cons.mp ((m y).mp (.tail _ h)) with k | k
      · subst k; exact absurd h c1
      · exact k
    · intro h
      rcases List.mem_cons.mp ((m y).mpr (.tail _ h)) with k | k
      · subst k; exact absurd h e1
      · exact k
theorem AscOf.unique {xs ys zs : List Str} (h : AscOf xs ys) (k : AscOf xs zs) : ys = zs := pair_unique ys zs (sorted_pair h.1) (sorted_pair k.1) h.2.1 k.2.1 fun y => (h.2.2 y).trans (k.2.2 y).symm
theorem AscOf.perm {xs ys : List Str} (p : ys.Perm xs) (s : sortedS ys = true) (d : xs.Nodup) : AscOf xs ys := ⟨s, p.nodup_iff.mpr d, fun _ => p.mem_iff⟩
theorem AscOf.swap {xs zs ys : List Str} (h : AscOf xs ys) (e : ∀ y, y ∈ xs ↔ y ∈ zs) : AscOf zs ys := ⟨h.1, h.2.1, fun y => (h.2.2 y).trans (e y)⟩
theorem AscOf.len {xs ys : List Str} (h : AscOf xs ys) (d : xs.Nodup) : ys.length = xs.length := Nat.le_antisymm (len_le_of_sub h.2.1 fun x hx => (h.2.2 x).mp hx) (len_le_of_sub d fun x hx => (h.2.2 x).mpr hx)
theorem AscOf.le {xs ys : List Str} (h : AscOf xs ys) : ys.length ≤ xs.length := len_le_of_sub h.2.1 fun x hx => (h.2.2 x).mp hx
/-! ### what a value is as a row of unlike names -/
def RowD (K : PySem.W.Frag) (H : Hp) (v : V) (d : Option (List Str)) : Prop := (∃ p xs, v = .ref p ∧ RowA H p xs ∧ xs.length ≤ 1000 ∧ (∀ x ∈ xs, Kind K H x) ∧ d = rowN xs) ∨ (d = none ∧ ∃ t, TyX K H v t ∧ PySem.W.kitAny K t [.type "list", .type "tuple"] = some false)
theorem RowD.same {K : PySem.W.Frag} {H H' : Hp} {v : V} {d : Option (List Str)} (s : Same H H') (h : RowD K H v d) : RowD K H' v d := by
  rcases h with ⟨p, xs, e, a, l, k, ed⟩ | ⟨e, t, ty, kt⟩
  · exact .inl ⟨p, xs, e, a.same s, l, fun x hx => (k x hx).same s, ed⟩
  · exact .inr ⟨e, t, tyX_same s ty, kt⟩
theorem are_n {K : PySem.W.Frag} {H : Hp} {v : V} {d : Option (List Str)} {Q : VK} {E : XK} (h : RowD K H v d) (k : ∀ H', Same H H' → Q (.bl d.isSome) H') : spAreN K [v] H Q E := by
  rcases h with ⟨p, xs, rfl, a, l, kk, rfl⟩ | ⟨rfl, t, ty, kt⟩
  · exact ⟨_, rfl, .inl ⟨p, xs, rfl, a, l, kk, k⟩⟩
  · exact ⟨_, rfl, .inr ⟨t, ty, kt, k⟩⟩
/-- the row of the names ns -/
structure RowS (H : Hp) (v : V) (ns : List Str) : Prop where
  at_ : ∃ p, v = .ref p ∧ RowA H p (ns.map V.str)
  nm : ∀ n ∈ ns, IsNm n
  nd : ns.Nodup
  few : ns.length ≤ 1000
theorem RowD.row {K : PySem.W.Frag} {H : Hp} {v : V} {ns : List Str} (h : RowD K H v (some ns)) : RowS H v ns := by
  rcases h with ⟨p, xs, rfl, a, l, kk, e⟩ | ⟨e, _⟩
  · obtain ⟨rfl, h2, h3⟩ := rowN_some e.symm
    exact ⟨⟨p, rfl, a⟩, h2, h3, by rwa [List.length_map] at l⟩
  · cases e
def sideD : Option (List Str) → Bool
  | none => false
  | some ns => decide (2 ≤ ns.length)
theorem sideD_some (ns : List Str) : sideD (some ns) = decide ((2 : Int) ≤ (ns.length : Int)) := by
  show decide (2 ≤ ns.length) = _
  by_cases c : 2 ≤ ns.length
  · rw [decide_eq_true c, decide_eq_true (by omega)]
  · rw [decide_eq_false c, decide_eq_false (by omega)]
theorem sideD_true {d : Option (List Str)} (h : sideD d = true) : ∃ ns, d = some ns ∧ 2 ≤ ns.length := by
  cases d with
  | none => cases h
  | some ns => exact ⟨ns, rfl, of_decide_eq_true h⟩
def spSide (K : PySem.W.Frag) : Sp := fun vs H Q _ => ∃ (v : V) (d : Option (List Str)), vs = [v] ∧ RowD K H v d ∧ ∀ H', Same H H' → Q (.bl (sideD d)) H'
theorem RowS.same {H H' : Hp} {v : V} {ns : List Str} (s : Same H H') (h : RowS H v ns) : RowS H' v ns := ⟨let ⟨p, e, a⟩ := h.at_; ⟨p, e, a.same s⟩, h.nm, h.nd, h.few⟩
/-! ### cuts -/
def apartS (a b : List Str) : Prop := ∀ x ∈ a, x ∉ b
/-- what a cut of the sides a, b keeps -/
structure CutOf (a b hs ny fy : List Str) : Prop where
  hosts : AscOf (a ++ b) hs
  sides : ∃ ya yb, AscOf a ya ∧ AscOf b yb ∧ ((hs.head? = ya.head? ∧ ny = ya ∧ fy = yb) ∨ (hs.head? ≠ ya.head? ∧ ny = yb ∧ fy = ya))
def cutF (t1 t2 t3 : Addr) : List (Str × V) := [("hosts", .ref t1), ("near", .ref t2), ("far", .ref t3)]
def IsCut (K : PySem.W.Frag) (H : Hp) (p : Addr) (hs ny fy : List Str) : Prop := ∃ dx t1 t2 t3, H p = some (.ins (He.ga K "Cut") dx (cutF t1 t2 t3)) ∧ H t1 = some (.tup (hs.map V.str)) ∧ H t2 = some (.tup (ny.map V.str)) ∧ H t3 = some (.tup (fy.map V.str))
/-- the part of a refused cut that is told -/
def cutBad (part : Str) (du dv : Option (List Str)) : Prop := (part = "one" ∧ sideD du = false) ∨ (part = "other" ∧ sideD du = true ∧ (sideD dv = false ∨ ∃ a b, du = some a ∧ dv = some b ∧ ¬ apartS a b))
def spCut (K : PySem.W.Frag) : Sp := fun vs H Q E => ∃ (p dx : Addr) (u v : V) (du dv : Option (List Str)), vs = [.ref p, u, v] ∧ H p = some (.ins (He.ga K "Cut") dx []) ∧ RowD K H u du ∧ RowD K H v dv ∧
  (∀ part d H', cutBad part du dv → But p H H' → H d = none → H' d = some (.xd [("part", .str part)]) → E (.ref (He.ga K "BadCut")) (some d) H') ∧
  ∀ a b hs ny fy H', du = some a → dv = some b → 2 ≤ a.length → 2 ≤ b.length → apartS a b → CutOf a b hs ny fy → But p H H' → IsCut K H' p hs ny fy → Q .non H'
theorem RowS.but {H H' : Hp} {v : V} {ns : List Str} {p C dx : Addr} {fs : List (Str × V)} (s : But p H H') (hp : H p = some (.ins C dx fs)) (h : RowS H v ns) : RowS H' v ns := by
  obtain ⟨⟨q, e, a⟩, h2, h3, h4⟩ := h
  refine ⟨⟨q, e, ?_⟩, h2, h3, h4⟩
  rcases a with a | a
  · exact .inl (s _ _ (ne_of a hp nofun) a)
  · exact .inr (s _ _ (ne_of a hp nofun) a)
theorem apart_len {a b hs : List Str} (h : AscOf (a ++ b) hs) (da : a.Nodup) (db : b.Nodup) : apartS a b ↔ hs.length = a.length + b.length := by
  constructor
  · intro ap
    rw [h.len (List.nodup_append.mpr ⟨da, db, fun x hx y hy e => ap x hx (e ▸ hy)⟩), List.length_append]
  · intro e
    have d := (perm_full hs (a ++ b) h.2.1 (fun x hx => (h.2.2 x).mp hx) (by rw [List.length_append]; omega)).nodup_iff.mp h.2.1
    exact fun x hx hy => (List.nodup_append.mp d).2.2 x hx x hy rfl
theorem eqv_strs : ∀ a b : List Str, PyData.eqvAll (a.map PyData.str) (b.map PyData.str) = decide (a = b)
  | [], [] => by simp [PyData.eqvAll]
  | [], _ :: _ => by simp [PyData.eqvAll]
  | _ :: _, [] => by simp [PyData.eqvAll]
  | x :: r, y :: q => by
    simp only [List.map_cons, PyData.eqvAll, eqv_strs r q, PyData.eqv]
    by_cases h : x = y
    · by_cases k : r = q
      · simp [h, k]
      · simp [h, k]
    · simp [h]
theorem eqv_tup (a b : List Str) : PyData.eqv (.tuple (a.map PyData.str)) (.tuple (b.map PyData.str)) = decide (a = b) := by
  rw [← eqv_strs]
  simp [PyData.eqv]
theorem shaped_tup {xs : List Str} (h : ∀ x ∈ xs, PyData.strOk x = true) : SeqAt.shaped (.tuple (xs.map PyData.str)) = true := by
  unfold SeqAt.shaped
  simp [PyData.canLay0, lay_strs xs h, PyData.depth, deep_strs]
theorem tup_dp {K : PySem.W.Frag} {H : Hp} {t : Addr} {ns : List Str} (h : H t = some (.tup (ns.map V.str))) : Dp K H (.ref t) (.tuple (ns.map PyData.str)) := .tup (SqT.of h) (dp_strs ns)
/-- a cut whose sides are names -/
structure CutAt (K : PySem.W.Frag) (H : Hp) (p : Addr) (hs ny fy : List Str) : Prop where
  c : IsCut K H p hs ny fy
  h : ∀ n ∈ hs, IsNm n
  n : ∀ n ∈ ny, IsNm n
  f : ∀ n ∈ fy, IsNm n
theorem IsCut.same {K : PySem.W.Frag} {H H' : Hp} {p : Addr} {hs ny fy : List Str} (s : Same H H') (h : IsCut K H p hs ny fy) : IsCut K H' p hs ny fy := let ⟨dx, t1, t2, t3, a, b, c, d⟩ := h; ⟨dx, t1, t2, t3, s _ _ a, s _ _ b, s _ _ c, s _ _ d⟩
theorem CutAt.same {K : PySem.W.Frag} {H H' : Hp} {p : Addr} {hs ny fy : List Str} (s : Same H H') (h : CutAt K H p hs ny fy) : CutAt K H' p hs ny fy := ⟨h.c.same s, h.h, h.n, h.f⟩
def spEqC (K : PySem.W.Frag) : Sp := fun vs H Q _ => ∃ (p : Addr) (y : V) (hs ny fy : List Str), vs = [.ref p, y] ∧ CutAt K H p hs ny fy ∧
  ((∃ (q : Addr) (ks my gy : List Str), y = .ref q ∧ CutAt K H q ks my gy ∧ ∀ H', Same H H' → Q (.bl (decide (ny = my) && decide (fy = gy))) H') ∨ ∃ t, t ∈ kinds ∧ TyX K H y t ∧ Q (.bl false) H)
/-- texts are told in another order -/
def spMixed (K : PySem.W.Frag) : Sp := fun vs H Q _ => ∃ (p c l : Addr) (ms : List Int) (t : Nat) (z : Int) (xs : List Str), vs = [.ref p, .ref l] ∧ Pen H p c ms t z ∧ t < 800000 ∧ SqL K H l (xs.map V.str) ∧ xs.length ≤ 100 ∧
  ∀ (ys : List Str) (f : Addr) (H' : Hp) (t' : Nat) (z' : Int), ys.Perm xs → H f = none → H' f = some (.lst (ys.map V.str)) → But p H H' → Pen H' p c ms t' z' → t' ≤ t + xs.length → Q (.ref f) H'
theorem perm_erase {α : Type} : ∀ (l : List α) (j : Nat) (h : j < l.length), l.Perm (l[j] :: l.eraseIdx j)
  | a :: r, 0, _ => .refl _
  | a :: r, j + 1, h => by
    have ih := perm_erase r j (Nat.lt_of_succ_lt_succ h)
    exact (List.Perm.cons a ih).trans (.swap _ _ _)
theorem map_erase {α β : Type} (f : α → β) : ∀ (l : List α) (j : Nat), (l.map f).eraseIdx j = (l.eraseIdx j).map f
  | [], _ => rfl
  | _ :: _, 0 => rfl
  | a :: r, j + 1 => congrArg (f a :: ·) (map_erase f r j)
end Z
namespace Z
open PySem PySem.Spec PyProof.Rows L2
/-! ### the two sides that a law draws -/
theorem cut_take (ns : List Str) (n : Nat) (h : n ≤ ns.length) : cutV (ns.map V.str) none (some (n : Int)) = (ns.take n).map V.str := by
  have e : HT.sIx (ns.map V.str).length (ns.map V.str).length (some (n : Int)) = n := by
    unfold HT.sIx
    simp only [List.length_map]
    split <;> omega
  unfold cutV
  rw [e]
  simp [HT.sIx, List.map_take]
theorem cut_drop (ns : List Str) (n : Nat) (h : n ≤ ns.length) : cutV (ns.map V.str) (some (n : Int)) none = (ns.drop n).map V.str := by
  have e : HT.sIx (ns.map V.str).length 0 (some (n : Int)) = n := by
    unfold HT.sIx
    simp only [List.length_map]
    split <;> omega
  unfold cutV
  rw [e]
  have e2 : HT.sIx (ns.map V.str).length (ns.map V.str).length none - n = (ns.drop n).length := by
    simp [HT.sIx]
  rw [e2, ← List.map_drop]
  exact List.take_of_length_le (by simp)
def L12 : List Str := ["a", "b", "c", "d", "e", "f", "h", "ab", "zz", "m", "switch", "abcdefgh"]
structure Sides (xs ys : List Str) : Prop where
  sub : ∀ n ∈ xs ++ ys, n ∈ L12
  nd : (xs ++ ys).Nodup
  lx : 2 ≤ xs.length
  ly : 2 ≤ ys.length
  few : xs.length + ys.length ≤ 8
theorem L12_nm : ∀ n ∈ L12, IsNm n := by
  have h : (L12.all nmB) = true := by decide +kernel
  exact fun n hn => nmB_iff.mp (List.all_eq_true.mp h n hn)
theorem Sides.nm {xs ys : List Str} (h : Sides xs ys) : ∀ n ∈ xs ++ ys, IsNm n := fun n hn => L12_nm n (h.sub n hn)
def spSides (K : PySem.W.Frag) : Sp := fun vs H Q _ => ∃ (p c : Addr) (ms : List Int) (t : Nat) (z : Int), vs = [.ref p] ∧ Pen H p c ms t z ∧ t < 700000 ∧
  ∀ (xs ys : List Str) (f a b : Addr) (H' : Hp) (t' : Nat) (z' : Int), Sides xs ys → a ≠ b → a ≠ p → b ≠ p → H' f = some (.tup [.ref a, .ref b]) → H' a = some (.lst (xs.map V.str)) → H' b = some (.lst (ys.map V.str)) → But p H H' → Pen H' p c ms t' z' → t' ≤ t + 20 → Q (.ref f) H'
/-- names are told in their order -/
def spUp (K : PySem.W.Frag) : Sp := fun vs H Q _ => ∃ (p : Addr) (xs : List Str), vs = [.ref p] ∧ SqL K H p (xs.map V.str) ∧ xs.length ≤ 50 ∧ (∀ x ∈ xs, IsNm x) ∧ xs.Nodup ∧
  ∀ ys t H', AscOf xs ys → Same H H' → H t = none → H' t = some (.tup (ys.map V.str)) → Q (.ref t) H'
/-- the two sides of a cut, the near one first -/
def Turned (xs ys ny fy : List Str) : Prop := ∃ ya yb, AscOf xs ya ∧ AscOf ys yb ∧ ∃ y0 z0, ya.head? = some y0 ∧ yb.head? = some z0 ∧ ((ltCps y0.cps.toList z0.cps.toList = true ∧ ny = ya ∧ fy = yb) ∨ (ltCps y0.cps.toList z0.cps.toList = false ∧ ny = yb ∧ fy = ya))
def TwoT (H : Hp) (f : Addr) (ny fy : List Str) : Prop := ∃ t1 t2, H f = some (.tup [.ref t1, .ref t2]) ∧ H t1 = some (.tup (ny.map V.str)) ∧ H t2 = some (.tup (fy.map V.str))
theorem TwoT.same {H H' : Hp} {f : Addr} {ny fy : List Str} (s : Same H H') (h : TwoT H f ny fy) : TwoT H' f ny fy := let ⟨a, b, x, y, z⟩ := h; ⟨a, b, s _ _ x, s _ _ y, s _ _ z⟩
def spTurned (K : PySem.W.Frag) : Sp := fun vs H Q _ => ∃ (p q : Addr) (xs ys : List Str), vs = [.ref p, .ref q] ∧ SqL K H p (xs.map V.str) ∧ SqL K H q (ys.map V.str) ∧ xs.length ≤ 50 ∧ ys.length ≤ 50 ∧ xs ≠ [] ∧ ys ≠ [] ∧ (∀ x ∈ xs ++ ys, IsNm x) ∧ xs.Nodup ∧ ys.Nodup ∧
  ∀ ny fy f H', Turned xs ys ny fy → Same H H' → H f = none → TwoT H' f ny fy → Q (.ref f) H'
theorem AscOf.ne {xs ys : List Str} (h : AscOf xs ys) (n : xs ≠ []) : ∃ y r, ys = y :: r := by
  cases ys with
  | nil =>
    cases xs with
    | nil => exact absurd rfl n
    | cons a r => exact absurd ((h.2.2 a).mpr (.head _)) nofun
  | cons y r => exact ⟨y, r, rfl⟩
/-- the first of the sorted: nothing is less -/
theorem AscOf.min {xs ys : List Str} {y : Str} {r : List Str} (h : AscOf xs (y :: r)) (e : ys = y :: r) : y ∈ xs ∧ ∀ x ∈ xs, leS y x := by
  refine ⟨(h.2.2 y).mp (.head _), fun x hx => ?_⟩
  obtain ⟨a1, _⟩ := List.pairwise_cons.mp (sorted_pair h.1)
  rcases List.mem_cons.mp ((h.2.2 x).mpr hx) with k | k
  · rw [k]
    exact leS_iff.mpr (List.le_refl _)
  · exact a1 x k
theorem leS_of_lt {a b : Str} (h : ltCps a.cps.toList b.cps.toList = true) : leS a b := by
  rw [ltCps_eq, decide_eq_true_eq] at h
  exact leS_iff.mpr (List.not_lt.mp (List.lt_asymm h))
theorem cut_turned {a b hs ny fy my gy : List Str} (h : CutOf a b hs ny fy) (t : Turned a b my gy) (na : a ≠ []) (nb : b ≠ []) (ap : apartS a b) : ny = my ∧ fy = gy := by
  obtain ⟨ah, ya, yb, aa, ab, side⟩ := h
  obtain ⟨za, zb, ca, cb, y0, z0, e1, e2, tn⟩ := t
  obtain rfl := aa.unique ca
  obtain rfl := ab.unique cb
  obtain ⟨y, yr, rfl⟩ := aa.ne na
  obtain ⟨z, zr, rfl⟩ := ab.ne nb
  obtain ⟨g, gr, rfl⟩ := ah.ne (by simp [na])
  obtain rfl : y = y0 := by simpa using e1
  obtain rfl : z = z0 := by simpa using e2
  obtain ⟨my, ly⟩ := aa.min rfl
  obtain ⟨mz, lz⟩ := ab.min rfl
  obtain ⟨mg, lg⟩ := ah.min rfl
  have hyz : y ≠ z := fun q => ap y my (by rw [q]; exact mz)
  rcases tn with ⟨lt, rfl, rfl⟩ | ⟨lt, rfl, rfl⟩
  · have e : g = y := by
      refine leS_anti (lg y (List.mem_append_left _ my)) ?_
      rcases List.mem_append.mp mg with k | k
      · exact ly g k
      · exact leS_trans (leS_of_lt lt) (lz g k)
    rcases side with ⟨_, rfl, rfl⟩ | ⟨n, _, _⟩
    · exact ⟨rfl, rfl⟩
    · exact absurd (by rw [e]; rfl) n
  · have e : g = z := by
      refine leS_anti (lg z (List.mem_append_right _ mz)) ?_
      rcases List.mem_append.mp mg with k | k
      · exact leS_trans (show leS z y from lt) (ly g k)
      · exact lz g k
    rcases side with ⟨n, _, _⟩ | ⟨_, rfl, rfl⟩
    · have n : g = y := by simpa using n
      exact absurd (n.symm.trans e) hyz
    · exact ⟨rfl, rfl⟩
def spToldC (K : PySem.W.Frag) : Sp := fun vs H Q _ => ∃ (p : Addr) (hs ny fy : List Str), vs = [.ref p] ∧ IsCut K H p hs ny fy ∧
  ∀ f tn tf th H', Same H H' → H f = none → H' f = some (.tup [.ref tn, .ref tf, .ref th]) → H' tn = some (.tup (ny.map V.str)) → H' tf = some (.tup (fy.map V.str)) → H' th = some (.tup (hs.map V.str)) → Q (.ref f) H'
/-- two rows of names that are the sides of a cut -/
structure Cuts (xs ys : List Str) : Prop where
  nm : ∀ n ∈ xs ++ ys, IsNm n
  nd : (xs ++ ys).Nodup
  lx : 2 ≤ xs.length
  ly : 2 ≤ ys.length
  few : xs.length + ys.length ≤ 16
theorem Sides.cuts {xs ys : List Str} (h : Sides xs ys) : Cuts xs ys := ⟨h.nm, h.nd, h.lx, h.ly, by have := h.few; omega⟩
theorem Cuts.apart {xs ys : List Str} (h : Cuts xs ys) : apartS xs ys := fun x hx hy => (List.nodup_append.mp h.nd).2.2 x hx x hy rfl
theorem Cuts.of_perm {xs ys us ws : List Str} (h : Cuts xs ys) (p : (us ++ ws).Perm (xs ++ ys)) (a : 2 ≤ us.length) (b : 2 ≤ ws.length) : Cuts us ws :=
  ⟨fun n hn => h.nm n (p.mem_iff.mp hn), p.nodup_iff.mpr h.nd, a, b, by have := p.length_eq; have := h.few; simp only [List.length_append] at *; omega⟩
theorem Cuts.sub {xs ys us ws : List Str} (h : Cuts xs ys) (p : (us ++ ws).Sublist (xs ++ ys)) (a : 2 ≤ us.length) (b : 2 ≤ ws.length) : Cuts us ws :=
  ⟨fun n hn => h.nm n (p.subset hn), p.nodup h.nd, a, b, by have := p.length_le; have := h.few; simp only [List.length_append] at *; omega⟩
theorem near0 {xs ys : List Str} (h : Sides xs ys) (j : Nat) (hj : j < xs.length) (l : 2 < xs.length) : Cuts (xs.eraseIdx j) (ys ++ [xs[j]]) := by
  have pe := perm_erase xs j hj
  refine h.cuts.of_perm ?_ (by rw [List.length_eraseIdx, if_pos hj]; omega) (by have := h.ly; rw [List.length_append]; simp; omega)
  · refine .trans ?_ (List.Perm.append_right ys pe.symm)
    rw [← List.append_assoc]
    refine .trans List.perm_append_comm ?_
    exact .refl _
theorem near1 {xs ys : List Str} (h : Sides xs ys) (j : Nat) (hj : j < ys.length) (l : 2 < ys.length) : Cuts xs (ys.eraseIdx j) :=
  h.cuts.sub ((List.Sublist.refl _).append (List.eraseIdx_sublist ..)) h.lx (by rw [List.length_eraseIdx, if_pos hj]; omega)
theorem near2 {xs ys : List Str} (h : Sides xs ys) : Cuts (xs.drop 1 ++ [Str.ofString "other"]) ys := by
  have hl := h.lx
  have sub : (xs.drop 1 ++ ys).Sublist (xs ++ ys) := (List.drop_sublist 1 xs).append (.refl _)
  have c := h.cuts
  have no : ("other" : Str) ∉ xs.drop 1 ++ ys := fun q => absurd (h.sub _ (sub.subset q)) (by decide +kernel)
  have pe : (xs.drop 1 ++ [Str.ofString "other"] ++ ys).Perm (Str.ofString "other" :: (xs.drop 1 ++ ys)) := by
    rw [List.append_assoc]
    exact List.perm_middle
  refine ⟨fun n hn => ?_, pe.nodup_iff.mpr (List.nodup_cons.mpr ⟨no, sub.nodup h.nd⟩), by rw [List.length_append, List.length_drop]; simp; omega, h.ly, by have := h.few; rw [List.length_append, List.length_drop]; simp; omega⟩
  rcases List.mem_cons.mp (pe.mem_iff.mp hn) with rfl | k
  · exact nmB_iff.mp (by decide +kernel)
  · exact h.nm n (sub.subset k)
theorem near3 {xs ys : List Str} (h : Sides xs ys) : Cuts (ys.take 1 ++ xs.drop 1) (xs.take 1 ++ ys.drop 1) := by
  have c := h.cuts
  obtain ⟨x, xr, rfl⟩ : ∃ x xr, xs = x :: xr := by
    cases xs with
    | nil => exact absurd h.lx (by simp)
    | cons a r => exact ⟨_, _, rfl⟩
  obtain ⟨y, yr, rfl⟩ : ∃ y yr, ys = y :: yr := by
    cases ys with
    | nil => exact absurd h.ly (by simp)
    | cons a r => exact ⟨_, _, rfl⟩
  refine c.of_perm ?_ h.lx h.ly
  show (y :: (xr ++ (x :: yr))).Perm (x :: (xr ++ (y :: yr)))
  refine .trans (List.Perm.cons y List.perm_middle) (.trans (.swap ..) (List.Perm.cons x List.perm_middle.symm))
/-! ### what a class is under -/
def isB (a b : Str) (K : PySem.W.Frag) : Bool := decide (PySem.W.kitOne K (.ref (He.ga K a)) (.ref (He.ga K b)) = some true)
def isT (a : Str) (t : String) (K : PySem.W.Frag) : Bool := decide (PySem.W.kitOne K (.ref (He.ga K a)) (.type t) = some true)
/-! ### return [ask()] within a try -/
def tAskR (n : Nat) (f c' : Addr) (q : Str) (tl : XK → Hp → VK → Prop) (W : WX) : TS := fun D σ H => ∃ (E : XK) (Q0 : VK), (∀ cls d σ' H', E cls d H' → σ'.length = n → W cls d σ' H') ∧ σ[0]? = some (some (.ref f)) ∧ H c' = some (LamX.CodeO c' q) ∧ tl E H Q0 ∧ ∀ v H1, Q0 v H1 → ∀ l, H1 l = none → D.rt (.ref l) (upd H1 l (.lst [v]))
theorem ps_askR {Z : Cx} {W : WX} {n : Nat} {f c' : Addr} {q a : Str} {tl : XK → Hp → VK → Prop} {p1 p2 p3 p4 : Pos} (hn : Z.N.length = n)
    (act : ∀ E : XK, (∀ cls d σ' H', E cls d H' → σ'.length = Z.N.length → W cls d σ' H') → PE Z (.Call (.Name a p1) [] [] p2) (fun σZ HZ Q => σZ[0]? = some (some (.ref f)) ∧ HZ c' = some (LamX.CodeO c' q) ∧ tl E HZ Q)) :
    PSs Z [.Return (some (.List [.Call (.Name a p1) [] [] p2] p3)) p4] (tAskR n f c' q tl W) := by
  constructor
  rintro pins s σ H D I ⟨E, Q0, hW, h1, h2, h3, h4⟩
  exact (pss_one (ps_ret (pe_lst (pa_cons (pe_up (act E (fun cls d σ' H' e l => hW cls d σ' H' e (l.trans hn)))) pa_nil)))).run pins s σ H D I ⟨Q0, ⟨h1, h2, h3⟩, fun v H1 q => ⟨by show 1 ≤ sizeLine; decide, fun l hl => h4 v H1 q l hl⟩⟩
/-- what a law's _law_heard makes of a call that always raises x, whose only value is its field f: the word w with it -/
def TTword (K : PySem.W.Frag) (x f w : Str) : (XK → Hp → VK → Prop) → Hp → VK → Prop := fun tl H Q => ∀ H1, Same H H1 → ∃ (E : XK) (Q0 : VK), tl E H1 Q0 ∧
  (∀ cls d H', E cls d H' → cls = .ref (He.ga K x) ∧ ∃ (dd : Addr) (v : V), d = some dd ∧ H' dd = some (.xd [(f, v)]) ∧ ∀ t H'', Same H' H'' → H' t = none → H'' t = some (.tup [.str w, v]) → Q (.ref t) H'') ∧ ∀ v H', Q0 v H' → ∀ l, H' l = none → Q (.ref l) (upd H' l (.lst [v]))
/-- arguments by keywords, told the other way about -/
theorem FunD.kbindsR {K : PySem.W.Frag} {x qual : Str} {params : Arguments} {body : List Stmt} {scope : Scope} {kws : List (Str × V)} {f : Addr} {fd : FuncData} {ps : List Str} (F : FunD K x qual params body scope [] kws f fd) (n : Nat) (ks : List Str)
    (h : ∀ (kV doc pm : Value) (an : Option Addr) (cdv ct : Value) (us ws : List Value), us.length = n → ws.length = ks.length → bindArgs (PySem.W.fnOf x qual params body scope .none kV doc pm an cdv ct) ⟨us, ks.zip ws⟩ = pure (ps.zip (us ++ ws.reverse))) : KBn K fd ps n ks (fun us ws => us ++ ws.reverse) (fun us ws => us ++ ws.reverse) := by
  obtain ⟨oc, od, dV, kV, doc, pm, an, cdv, ct, osl, rfl, lk, hcd, hD, hK⟩ := F.ex
  rcases hD with ⟨_, rfl⟩ | ⟨e, _⟩
  · exact ⟨fun s us ws X l1 l2 => .of_eq (h kV doc pm an cdv ct us ws l1 l2), fun r1 r2 => r1.append r2.reverse⟩
  · exact absurd rfl e
theorem RowA.ext {H H' : Hp} {p : Addr} {xs : List V} (s : LamX.ExtN H H') (h : RowA H p xs) : RowA H' p xs := h.imp (fun h => s _ _ h nofun) (fun h => s _ _ h nofun)
theorem RowD.ext {K : PySem.W.Frag} {H H' : Hp} {v : V} {d : Option (List Str)} (s : LamX.ExtN H H') (h : RowD K H v d) : RowD K H' v d := by
  rcases h with ⟨p, xs, e, a, l, k, ed⟩ | ⟨e, t, ty, kt⟩
  · exact .inl ⟨p, xs, e, a.ext s, l, fun x hx => (k x hx).ext s, ed⟩
  · exact .inr ⟨e, t, tyX_ext s ty, kt⟩
theorem cutBad_uniq {p q : Str} {du dv : Option (List Str)} (h : cutBad p du dv) (k : cutBad q du dv) : p = q := by
  rcases h with ⟨rfl, h⟩ | ⟨rfl, h, _⟩ <;> rcases k with ⟨rfl, k⟩ | ⟨rfl, k, _⟩
  · rfl
  · rw [h] at k; cases k
  · rw [h] at k; cases k
  · rfl
/-- _law_heard(lambda: Cut(..)), refused -/
theorem heard_badC {K : PySem.W.Frag} {T : List (Addr × Str)} {t : XK → TE} {σ : L2.St} {H : Hp} {Q : VK} {u v : V} {du dv : Option (List Str)} (part : Str) (hT : LamX.Tabs T H)
    (rd : ∀ E H2, (∀ x dx, H2 x = none → H2 dx = none → dx ≠ x → spCut K [.ref x, u, v] (upd (upd H2 dx (.own x)) x (.ins (He.ga K "Cut") dx [])) (fun v _ => v = .non ∧ False) E) → t E σ H2 (fun _ _ => False))
    (ku : RowD K H u du) (kv : RowD K H v dv) (bad : cutBad part du dv) (k : ∀ f H', LamX.ExtN H H' → LamX.Tabs T H' → H' f = some (.tup [.str "cut", .str part]) → Q (.ref f) H') :
    LamX.tLam T (TTword K "BadCut" "part" "cut") t σ H Q := by
  refine ⟨hT, fun H1 eN T1 H2 s2 => ⟨fun cls d H' => cls = .ref (He.ga K "BadCut") ∧ ∃ dd, d = some dd ∧ H' dd = some (.xd [("part", .str part)]) ∧ Same H2 H', fun _ _ => False, ?_, ?_, fun _ _ z => z.elim⟩⟩
  · have e2 : LamX.ExtN H H2 := eN.trans (extS s2)
    refine rd _ H2 fun x dx hx hdx ne => ?_
    have s3 : Same H2 (upd (upd H2 dx (.own x)) x (.ins (He.ga K "Cut") dx [])) := (same_new hdx).trans (same_new (by rw [upd_ne ne.symm]; exact hx))
    refine ⟨x, dx, u, v, du, dv, rfl, upd_same, (ku.ext e2).same s3, (kv.ext e2).same s3, fun pt d H' b bt n e => ?_, fun a b hs ny fy H' ea eb la lb ap _ _ _ => ?_⟩
    · obtain rfl := cutBad_uniq b bad
      exact ⟨rfl, d, rfl, e, fun c o h => bt c o (ne_of_none h hx) (s3 c o h)⟩
    · subst ea
      subst eb
      rcases bad with ⟨_, z⟩ | ⟨_, _, z | ⟨a', b', e1, e2, z⟩⟩
      · exact absurd (z.symm.trans (decide_eq_true la)) nofun
      · exact absurd (z.symm.trans (decide_eq_true lb)) nofun
      · cases e1
        cases e2
        exact (z ap).elim
  · rintro cls d H' ⟨rfl, dd, rfl, hdd, sm⟩
    exact ⟨rfl, dd, _, rfl, hdd, fun f H'' s _ ef => k f H'' (((eN.trans (extS s2)).trans (extS sm)).trans (extS s)) (((T1.ext s2).ext sm).ext s) ef⟩
theorem RowS.data {K : PySem.W.Frag} {H : Hp} {v : V} {ns : List Str} (h : RowS H v ns) : RowD K H v (some ns) := by
  obtain ⟨p, rfl, a⟩ := h.at_
  exact .inl ⟨p, _, rfl, a, by rw [List.length_map]; exact h.few, fun x hx => by
    obtain ⟨n, hn, rfl⟩ := List.mem_map.mp hx
    exact .str (h.nm n hn), (rowN_of h.nm h.nd).symm⟩
/-- a cut of two sides is made -/
theorem cut_new {K : PySem.W.Frag} {H : Hp} {u v : V} {a b : List Str} {Q : Addr → Hp → Prop} {E : XK} (ru : RowS H u a) (rv : RowS H v b) (la : 2 ≤ a.length) (lb : 2 ≤ b.length) (ap : apartS a b) (k : ∀ p hs ny fy H', Same H H' → H p = none → CutOf a b hs ny fy → IsCut K H' p hs ny fy → Q p H') :
    ∀ x dx, H x = none → H dx = none → dx ≠ x → spCut K [.ref x, u, v] (upd (upd H dx (.own x)) x (.ins (He.ga K "Cut") dx [])) (fun v H2 => v = .non ∧ Q x H2) E := by
  intro x dx hx hdx ne
  have s3 : Same H (upd (upd H dx (.own x)) x (.ins (He.ga K "Cut") dx [])) := (same_new hdx).trans (same_new (by rw [upd_ne ne.symm]; exact hx))
  refine ⟨x, dx, u, v, some a, some b, rfl, upd_same, ru.data.same s3, rv.data.same s3, fun pt d H' bad _ _ _ => ?_, fun a' b' hs ny fy H' ea eb _ _ _ co bt ic => ?_⟩
  · rcases bad with ⟨_, z⟩ | ⟨_, _, z | ⟨a', b', e1, e2, z⟩⟩
    · exact absurd (z.symm.trans (decide_eq_true la)) nofun
    · exact absurd (z.symm.trans (decide_eq_true lb)) nofun
    · cases e1
      cases e2
      exact (z ap).elim
  · cases ea
    cases eb
    exact ⟨rfl, k x hs ny fy H' (fun c o h => bt c o (ne_of_none h hx) (s3 c o h)) hx co ic⟩
/-- three rows of names, as data -/
def trioD (a b c : List Str) : PyData := .tuple [.tuple (a.map .str), .tuple (b.map .str), .tuple (c.map .str)]
theorem show_strs : ∀ xs : List Str, PyData.showableAll (xs.map PyData.str) = true
  | [] => by simp [PyData.showableAll]
  | _ :: r => by simp [PyData.showableAll, PyData.showable, show_strs r]
theorem dict_strs : ∀ xs : List Str, PyData.hasDictAll (xs.map PyData.str) = false
  | [] => by simp [PyData.hasDictAll]
  | _ :: r => by simp [PyData.hasDictAll, PyData.hasDict, dict_strs r]
theorem ints_strs : ∀ xs : List Str, PyData.intsShortAll 13 (xs.map PyData.str) = true
  | [] => by simp [PyData.intsShortAll]
  | _ :: r => by simp [PyData.intsShortAll, PyData.intsShort, ints_strs r]
theorem weight_strs : ∀ xs : List Str, (∀ x ∈ xs, x.length ≤ 8) → PyData.weightAll (xs.map PyData.str) ≤ 9 * xs.length
  | [], _ => by simp [PyData.weightAll]
  | x :: r, h => by
    have h1 := weight_strs r fun y hy => h y (List.mem_cons_of_mem _ hy)
    have h2 : x.cps.size ≤ 8 := h x (List.mem_cons_self ..)
    simp only [List.map_cons, PyData.weightAll, PyData.weight, List.length_cons]
    omega
theorem trio_ok {a b c : List Str} (ha : ∀ n ∈ a, IsNm n) (hb : ∀ n ∈ b, IsNm n) (hc : ∀ n ∈ c, IsNm n) (la : a.length ≤ 100) (lb : b.length ≤ 100) (lc : c.length ≤ 100) : (trioD a b c).showable = true ∧ (trioD a b c).hasDict = false ∧ (trioD a b c).depth ≤ 64 ∧ (trioD a b c).shown.length ≤ sizeLine := by
  have dp : (trioD a b c).depth ≤ 64 := by simp [trioD, PyData.depth, PyData.depthAll, deep_strs]
  refine ⟨by simp [trioD, PyData.showable, PyData.showableAll, show_strs], by simp [trioD, PyData.hasDict, PyData.hasDictAll, dict_strs], dp, shown_fit ?_ ?_⟩
  · unfold PyData.layable0
    rw [Bool.and_eq_true, Bool.and_eq_true]
    refine ⟨⟨?_, decide_eq_true dp⟩, decide_eq_true ?_⟩
    · simp [trioD, PyData.canLay0, PyData.canLayAll0, lay_strs a fun n h => (ha n h).ok, lay_strs b fun n h => (hb n h).ok, lay_strs c fun n h => (hc n h).ok]
    · have h1 := weight_strs a fun n h => (ha n h).hi
      have h2 := weight_strs b fun n h => (hb n h).hi
      have h3 := weight_strs c fun n h => (hc n h).hi
      simp only [trioD, PyData.weight, PyData.weightAll]
      omega
  · simp [trioD, PyData.intsShort, PyData.intsShortAll, ints_strs]
theorem trio_dp {K : PySem.W.Frag} {H : Hp} {t x y z : Addr} {a b c : List Str} (h : H t = some (.tup [.ref x, .ref y, .ref z])) (h1 : H x = some (.tup (a.map V.str))) (h2 : H y = some (.tup (b.map V.str))) (h3 : H z = some (.tup (c.map V.str))) : Dp K H (.ref t) (trioD a b c) :=
  .tup (SqT.of h) (.cons (tup_dp h1) (.cons (tup_dp h2) (.cons (tup_dp h3) .nil)))
theorem turned_ok {xs ys ny fy : List Str} (t : Turned xs ys ny fy) (nm : ∀ n ∈ xs ++ ys, IsNm n) : (∀ n ∈ ny, IsNm n) ∧ (∀ n ∈ fy, IsNm n) ∧ ny.length ≤ xs.length + ys.length ∧ fy.length ≤ xs.length + ys.length := by
  obtain ⟨ya, yb, aa, ab, _, _, _, _, h⟩ := t
  have na : ∀ n ∈ ya, IsNm n := fun n hn => nm n (List.mem_append_left _ ((aa.2.2 n).mp hn))
  have nb : ∀ n ∈ yb, IsNm n := fun n hn => nm n (List.mem_append_right _ ((ab.2.2 n).mp hn))
  have la := aa.le
  have lb := ab.le
  rcases h with ⟨_, rfl, rfl⟩ | ⟨_, rfl, rfl⟩
  · exact ⟨na, nb, by omega, by omega⟩
  · exact ⟨nb, na, by omega, by omega⟩
end Z
namespace Z
open PySem PySem.Spec PyProof.Rows L2
theorem eqv_lst (a b : List Str) : PyData.eqv (.list (a.map PyData.str)) (.list (b.map PyData.str)) = decide (a = b) := by
  rw [← eqv_strs]
  simp [PyData.eqv]
/-- a comprehension that leaves all out, told by steps -/
theorem lc_no {J : It} {n : Nat} {G : Hp → Prop} {Y : Nat → Hp → V → Hp → Prop} (w : Walk J n G Y) {g : TG} {tt : TT} {te : TE} {vs : List Nat} {σ : L2.St} {H1 : Hp} {D : Addr} {Qd : Hp → Prop} (xs : List V)
    (hn : n = xs.length) (hY : ∀ i H x H', i < n → Y i H x H' → H' = H ∧ xs[i]? = some x) (hD : H1 D = none) (hG : ∀ H', Same H1 H' → G H')
    (hs : ∀ x ∈ xs, ∀ H', Same H1 H' → ∀ (Kt : V → Hp → Prop) (Kf : Hp → Prop), (∀ H'', Same H' H'' → Kf H'') →
      g x (wipe σ vs) H' fun σ2 H2 => wipe σ2 vs = wipe σ vs ∧ tt σ2 H2 fun b H3 => if b = true then te σ2 H3 Kt else Kf H3)
    (hd : ∀ H', Same H1 H' → H' D = some (.lst []) → Qd H') :
    ∃ W : Nat → Nat → Hp → Prop, (∃ m, W 0 m (upd H1 D (.lst []))) ∧ ∀ i m H, W i m H →
      (J.stop i H ∧ Qd H) ∨ (J.go i H ∧ ∃ Nx : Hp → Prop, (∀ H', Nx H' → ∃ m', m' < m ∧ W (i + 1) m' H') ∧ ∀ x H', J.yld i H x H' → g x (wipe σ vs) H' fun σ2 H2 => wipe σ2 vs = wipe σ vs ∧ tt σ2 H2 fun b H3 =>
        if b = true then te σ2 H3 fun y H4 => ∃ acc, H4 D = some (.lst acc) ∧ acc.length < sizeLine ∧ Nx (upd H4 D (.lst (acc ++ [y]))) else Nx H3) :=
  lc_none w xs hn hY hD hG hs fun H' s => hd H' ((same_new hD).trans s) (s _ _ upd_same)
theorem turned_n {K : PySem.W.Frag} {H : Hp} {p q : Addr} {xs ys : List Str} {Q : VK} {E : XK} (hp : SqL K H p (xs.map V.str)) (hq : SqL K H q (ys.map V.str)) (cu : Cuts xs ys)
    (k : ∀ ny fy f H', Turned xs ys ny fy → Same H H' → H f = none → TwoT H' f ny fy → (∀ n ∈ ny, IsNm n) → (∀ n ∈ fy, IsNm n) → Q (.ref f) H') : spTurned K [.ref p, .ref q] H Q E := by
  have l := cu.few
  have lx := cu.lx
  have ly := cu.ly
  obtain ⟨ndx, ndy, _⟩ := List.nodup_append.mp cu.nd
  exact ⟨p, q, xs, ys, rfl, hp, hq, by omega, by omega, by rintro rfl; simp at lx, by rintro rfl; simp at ly, cu.nm, ndx, ndy, fun ny fy f H' t s n w => k ny fy f H' t s n w (turned_ok t cu.nm).1 (turned_ok t cu.nm).2.1⟩
/-- a cut whose rows are known ahead -/
theorem cut_newT {K : PySem.W.Frag} {H : Hp} {u v : V} {a b ny fy : List Str} {Q : Addr → Hp → Prop} {E : XK} (hu : ∃ q, u = .ref q ∧ RowA H q (a.map V.str)) (hv : ∃ q, v = .ref q ∧ RowA H q (b.map V.str)) (cu : Cuts a b) (tn : Turned a b ny fy)
    (k : ∀ p hs H', Same H H' → H p = none → AscOf (a ++ b) hs → CutAt K H' p hs ny fy → Q p H') :
    ∀ x dx, H x = none → H dx = none → dx ≠ x → spCut K [.ref x, u, v] (upd (upd H dx (.own x)) x (.ins (He.ga K "Cut") dx [])) (fun v H2 => v = .non ∧ Q x H2) E := by
  have l := cu.few
  have lx := cu.lx
  have ly := cu.ly
  obtain ⟨nda, ndb, _⟩ := List.nodup_append.mp cu.nd
  refine cut_new ⟨hu, fun n hn => cu.nm n (List.mem_append_left _ hn), nda, by omega⟩ ⟨hv, fun n hn => cu.nm n (List.mem_append_right _ hn), ndb, by omega⟩ lx ly cu.apart fun p hs ny' fy' H' s n co ic => ?_
  obtain ⟨rfl, rfl⟩ := cut_turned co tn (by rintro rfl; simp at lx) (by rintro rfl; simp at ly) cu.apart
  obtain ⟨nmN, nmF, _, _⟩ := turned_ok tn cu.nm
  exact k p hs H' s n co.hosts ⟨ic, fun n hn => cu.nm n ((co.hosts.2.2 n).mp hn), nmN, nmF⟩
theorem shaped_two {a b : List Str} (ha : ∀ n ∈ a, IsNm n) (hb : ∀ n ∈ b, IsNm n) : SeqAt.shaped (.tuple [.tuple (a.map PyData.str), .tuple (b.map PyData.str)]) = true := by
  unfold SeqAt.shaped
  simp [PyData.canLay0, PyData.canLayAll0, lay_strs a fun x h => (ha x h).ok, lay_strs b fun x h => (hb x h).ok, PyData.depth, PyData.depthAll, deep_strs]
theorem eqv_two (a b c d : List Str) : PyData.eqv (.tuple [.tuple (a.map PyData.str), .tuple (b.map PyData.str)]) (.tuple [.tuple (c.map PyData.str), .tuple (d.map PyData.str)]) = (decide (a = c) && decide (b = d)) := by
  rw [← eqv_strs, ← eqv_strs]
  simp [PyData.eqv, PyData.eqvAll]
end Z
namespace Z
open PySem PySem.Spec PyProof.Rows L2
/-! ### a row, whether a list or a tuple -/
def rowO (t : Bool) (xs : List V) : HO := match t with
  | true => .tup xs
  | false => .lst xs
theorem rowO_seq {K : PySem.W.Frag} {H : Hp} {q : Addr} {t : Bool} {xs : List V} (h : H q = some (rowO t xs)) : SqL K H q xs ∨ SqT K H q xs := by
  cases t
  · exact .inl (SqL.of h)
  · exact .inr (SqT.of h)
theorem rowA_of {H : Hp} {q : Addr} {t : Bool} {xs : List V} (h : H q = some (rowO t xs)) : RowA H q xs := by
  cases t
  · exact .inl h
  · exact .inr h
theorem RowA.rowO {H : Hp} {q : Addr} {xs : List V} (h : RowA H q xs) : ∃ t, H q = some (rowO t xs) := by
  rcases h with h | h
  · exact ⟨false, h⟩
  · exact ⟨true, h⟩
theorem RowS.rowO {H : Hp} {q : Addr} {ns : List Str} (h : RowS H (.ref q) ns) : ∃ t, H q = some (Z.rowO t (ns.map V.str)) := by
  obtain ⟨p, e, w⟩ := h.at_
  cases e
  exact w.rowO
theorem rowO_ne {t : Bool} {xs : List V} {o : HO} (h : ∀ ys, o ≠ .lst ys) (k : ∀ ys, o ≠ .tup ys) : rowO t xs ≠ o := by
  cases t
  · exact fun q => h xs q.symm
  · exact fun q => k xs q.symm
theorem rowO_dp {K : PySem.W.Frag} {H : Hp} {q : Addr} {xs : List V} {t : Bool} (h : H q = some (Z.rowO t xs)) : RowA H q xs := rowA_of h
end Z
namespace Z
open PySem PySem.Spec PyProof.Rows L2
/-! ### partings -/
def coupleD : Option (List Str) → Bool
  | none => false
  | some ns => decide (ns.length = 2)
theorem coupleD_some (ns : List Str) : coupleD (some ns) = decide (V.int (ns.length : Int) = V.int 2) := by
  show decide (ns.length = 2) = _
  by_cases c : ns.length = 2
  · rw [decide_eq_true c, decide_eq_true (by rw [c]; rfl)]
  · rw [decide_eq_false c, decide_eq_false (fun q => c (by injection q with q; omega))]
theorem coupleD_true {d : Option (List Str)} (h : coupleD d = true) : ∃ ns, d = some ns ∧ ns.length = 2 := by
  cases d with
  | none => cases h
  | some ns => exact ⟨ns, rfl, of_decide_eq_true h⟩
def spCouple (K : PySem.W.Frag) : Sp := fun vs H Q _ => ∃ (v : V) (d : Option (List Str)), vs = [v] ∧ RowD K H v d ∧ ∀ H', Same H H' → Q (.bl (coupleD d)) H'
def partF (t1 t2 : Addr) : List (Str × V) := [("four", .ref t1), ("pairs", .ref t2)]
/-- a parting of the four hs, its pairs ny and fy -/
def IsPart (K : PySem.W.Frag) (H : Hp) (p : Addr) (hs ny fy : List Str) : Prop := ∃ dx t1 t2 t3 t4, H p = some (.ins (He.ga K "Parting") dx (partF t1 t2)) ∧ H t1 = some (.tup (hs.map V.str)) ∧ H t2 = some (.tup [.ref t3, .ref t4]) ∧ H t3 = some (.tup (ny.map V.str)) ∧ H t4 = some (.tup (fy.map V.str))
theorem IsPart.same {K : PySem.W.Frag} {H H' : Hp} {p : Addr} {hs ny fy : List Str} (s : Same H H') (h : IsPart K H p hs ny fy) : IsPart K H' p hs ny fy := let ⟨dx, t1, t2, t3, t4, a, b, c, d, e⟩ := h; ⟨dx, t1, t2, t3, t4, s _ _ a, s _ _ b, s _ _ c, s _ _ d, s _ _ e⟩
theorem IsPart.ext {K : PySem.W.Frag} {H H' : Hp} {p : Addr} {hs ny fy : List Str} (s : LamX.ExtN H H') (h : IsPart K H p hs ny fy) : IsPart K H' p hs ny fy := let ⟨dx, t1, t2, t3, t4, a, b, c, d, e⟩ := h; ⟨dx, t1, t2, t3, t4, s _ _ a nofun, s _ _ b nofun, s _ _ c nofun, s _ _ d nofun, s _ _ e nofun⟩
theorem IsCut.ext {K : PySem.W.Frag} {H H' : Hp} {p : Addr} {hs ny fy : List Str} (s : LamX.ExtN H H') (h : IsCut K H p hs ny fy) : IsCut K H' p hs ny fy := let ⟨dx, t1, t2, t3, a, b, c, d⟩ := h; ⟨dx, t1, t2, t3, s _ _ a nofun, s _ _ b nofun, s _ _ c nofun, s _ _ d nofun⟩
/-- the part of a refused parting that is told -/
def partBad (part : Str) (du dv : Option (List Str)) : Prop := (part = "one" ∧ coupleD du = false) ∨ (part = "other" ∧ coupleD du = true ∧ (coupleD dv = false ∨ ∃ a b, du = some a ∧ dv = some b ∧ ¬ apartS a b))
def spPart (K : PySem.W.Frag) : Sp := fun vs H Q E => ∃ (p dx : Addr) (u v : V) (du dv : Option (List Str)), vs = [.ref p, u, v] ∧ H p = some (.ins (He.ga K "Parting") dx []) ∧ RowD K H u du ∧ RowD K H v dv ∧
  (∀ part d H', partBad part du dv → But p H H' → H d = none → H' d = some (.xd [("part", .str part)]) → E (.ref (He.ga K "BadParting")) (some d) H') ∧
  ∀ a b hs ny fy H', du = some a → dv = some b → a.length = 2 → b.length = 2 → apartS a b → CutOf a b hs ny fy → But p H H' → IsPart K H' p hs ny fy → Q .non H'
/-- a parting of two pairs of unlike names is made, its pairs known ahead -/
structure Two (a b : List Str) : Prop where
  nm : ∀ n ∈ a ++ b, IsNm n
  nd : (a ++ b).Nodup
  la : a.length = 2
  lb : b.length = 2
theorem Two.cuts {a b : List Str} (h : Two a b) : Cuts a b := ⟨h.nm, h.nd, by rw [h.la]; decide, by rw [h.lb]; decide, by rw [h.la, h.lb]; decide⟩
/-- a parting whose pairs are names -/
structure PartAt (K : PySem.W.Frag) (H : Hp) (p : Addr) (hs ny fy : List Str) : Prop where
  c : IsPart K H p hs ny fy
  t : Two ny fy
  h : AscOf (ny ++ fy) hs
theorem PartAt.same {K : PySem.W.Frag} {H H' : Hp} {p : Addr} {hs ny fy : List Str} (s : Same H H') (h : PartAt K H p hs ny fy) : PartAt K H' p hs ny fy := ⟨h.c.same s, h.t, h.h⟩
theorem AscOf.perm_of {a y : List Str} (h : AscOf a y) (nd : a.Nodup) : y.Perm a := (List.perm_ext_iff_of_nodup h.2.1 nd).mpr h.2.2
theorem CutOf.rows {a b hs ny fy : List Str} (c : CutOf a b hs ny fy) (t : Two a b) : Two ny fy ∧ AscOf (ny ++ fy) hs ∧ ((ny.Perm a ∧ fy.Perm b) ∨ (ny.Perm b ∧ fy.Perm a)) := by
  obtain ⟨nda, ndb, _⟩ := List.nodup_append.mp t.nd
  obtain ⟨ah, ya, yb, aa, ab, side⟩ := c
  have pa := aa.perm_of nda
  have pb := ab.perm_of ndb
  have la := pa.length_eq.trans t.la
  have lb := pb.length_eq.trans t.lb
  have key : ∀ us ws : List Str, (us ++ ws).Perm (a ++ b) → us.length = 2 → ws.length = 2 → Two us ws ∧ AscOf (us ++ ws) hs := fun us ws p l1 l2 =>
    ⟨⟨fun n hn => t.nm n (p.mem_iff.mp hn), p.nodup_iff.mpr t.nd, l1, l2⟩, ah.swap fun y => p.symm.mem_iff⟩
  rcases side with ⟨_, rfl, rfl⟩ | ⟨_, rfl, rfl⟩
  · obtain ⟨k1, k2⟩ := key _ _ (pa.append pb) la lb
    exact ⟨k1, k2, .inl ⟨pa, pb⟩⟩
  · obtain ⟨k1, k2⟩ := key _ _ ((pb.append pa).trans List.perm_append_comm) lb la
    exact ⟨k1, k2, .inr ⟨pb, pa⟩⟩
theorem part_new {K : PySem.W.Frag} {H : Hp} {u v : V} {a b : List Str} {Q : Addr → Hp → Prop} {E : XK} (hu : ∃ q, u = .ref q ∧ RowA H q (a.map V.str)) (hv : ∃ q, v = .ref q ∧ RowA H q (b.map V.str)) (t : Two a b)
    (k : ∀ p hs ny fy H', Same H H' → H p = none → CutOf a b hs ny fy → PartAt K H' p hs ny fy → Q p H') :
    ∀ x dx, H x = none → H dx = none → dx ≠ x → spPart K [.ref x, u, v] (upd (upd H dx (.own x)) x (.ins (He.ga K "Parting") dx [])) (fun v H2 => v = .non ∧ Q x H2) E := by
  intro x dx hx hdx ne
  have cu := t.cuts
  have la := t.la
  have lb := t.lb
  obtain ⟨nda, ndb, _⟩ := List.nodup_append.mp t.nd
  have ru : RowS H u a := ⟨hu, fun n hn => t.nm n (List.mem_append_left _ hn), nda, by omega⟩
  have rv : RowS H v b := ⟨hv, fun n hn => t.nm n (List.mem_append_right _ hn), ndb, by omega⟩
  have s3 : Same H (upd (upd H dx (.own x)) x (.ins (He.ga K "Parting") dx [])) := (same_new hdx).trans (same_new (by rw [upd_ne ne.symm]; exact hx))
  refine ⟨x, dx, u, v, some a, some b, rfl, upd_same, ru.data.same s3, rv.data.same s3, fun pt d H' bad _ _ _ => ?_, fun a' b' hs ny fy H' ea eb _ _ _ co bt ic => ?_⟩
  · rcases bad with ⟨_, z⟩ | ⟨_, _, z | ⟨a', b', e1, e2, z⟩⟩
    · exact absurd (z.symm.trans (decide_eq_true la)) nofun
    · exact absurd (z.symm.trans (decide_eq_true lb)) nofun
    · cases e1
      cases e2
      exact (z cu.apart).elim
  · cases ea
    cases eb
    obtain ⟨r1, r2, _⟩ := co.rows t
    exact ⟨rfl, k x hs ny fy H' (fun c o h => bt c o (ne_of_none h hx) (s3 c o h)) hx co ⟨ic, r1, r2⟩⟩
end Z
namespace Z
open PySem PySem.Spec PyProof.Rows L2
/-! ### in, of rows of data -/
section
variable {X : Cx} {K : PySem.W.Frag}
theorem kpe_fld {e : Expr} {ta : TE} {f : Str} {pos : Pos} (he : PE X e ta) (hb : attributeBase e f X.env (eval e X.env) = eval e X.env) (hK : X.K = K := by rfl) : PE X (.Attribute e f pos) (tFld K ta f) := by subst hK; exact pe_fld he hb
def rInS (K : PySem.W.Frag) : R2 := fun x y H Q => ∃ (a : Str) (p : Addr) (xs : List Str), x = .str a ∧ y = .ref p ∧ (SqL K H p (xs.map V.str) ∨ SqT K H p (xs.map V.str)) ∧ Q (.bl (decide (a ∈ xs))) H
def rNotInS (K : PySem.W.Frag) : R2 := fun x y H Q => ∃ (a : Str) (p : Addr) (xs : List Str), x = .str a ∧ y = .ref p ∧ (SqL K H p (xs.map V.str) ∨ SqT K H p (xs.map V.str)) ∧ Q (.bl (!decide (a ∈ xs))) H
theorem op_inS (hK : X.K = K := by rfl) : OpR X (compareOp .In) (rInS K) := by
  subst hK
  rintro pins s σ H x y v u Q I rx ry ⟨a, p, xs, rfl, rfl, h, q⟩
  exact op_in_seq pins s σ H _ _ v u Q I rx ry ⟨p, _, rfl, h, rfl, flat_strs xs, by rw [← inV_str] at q; exact q⟩
theorem op_notInS (hK : X.K = K := by rfl) : OpR X (compareOp .NotIn) (rNotInS K) := by
  subst hK
  rintro pins s σ H x y v u Q I rx ry ⟨a, p, xs, rfl, rfl, h, q⟩
  exact op_notIn_seq pins s σ H _ _ v u Q I rx ry ⟨p, _, rfl, h, rfl, flat_strs xs, by rw [← inV_str] at q; exact q⟩
theorem room_shaped {d : PyData} {ds : List PyData} {A : Around} (sd : SeqAt.shaped d = true) (hu : A.units + 70 < cLine) : A.units + 1 + min (PyData.depthAll ds) d.depth < cLine := by
  have : d.depth ≤ 64 := by
    unfold SeqAt.shaped at sd
    simp only [Bool.and_eq_true, decide_eq_true_eq] at sd
    omega
  have := Nat.min_le_right (PyData.depthAll ds) d.depth
  omega
theorem kop_inD (hu : X.A.units + 70 < cLine) (hK : X.K = K := by rfl) : OpR X (compareOp .In) (rInD K) := by subst hK; exact op_inD (by omega)
theorem kop_notInD (hu : X.A.units + 70 < cLine) (hK : X.K = K := by rfl) : OpR X (compareOp .NotIn) (rNotInD K) := by subst hK; exact op_notInD (by omega)
def rInT (K : PySem.W.Frag) : R2 := fun x y H Q => ∃ d ds, Dp K H x d ∧ Dp K H y (.tuple ds) ∧ SeqAt.shaped d = true ∧ SeqAt.shaped (.list ds) = true ∧ Q (.bl (ds.any fun z => PyData.eqv z d)) H
theorem kop_inT (hu : X.A.units + 70 < cLine) (hK : X.K = K := by rfl) : OpR X (compareOp .In) (rInT K) := by
  subst hK
  intro pins s σ H x y v u Q I rx ry h
  obtain ⟨d, ds, hd, he, sd, se, q⟩ := h
  obtain ⟨as, r1⟩ := Dp.reads I d x v hd rx
  obtain ⟨bs, r2⟩ := Dp.reads I (.tuple ds) y u he ry
  exact SeqAt.in_tuple_reads r2 r1 (SeqAt.canLay_of_shaped (d := .list ds) se) (SeqAt.canLay_of_shaped sd) (room_shaped sd hu) ⟨.bl _, H, I, rfl, q⟩
end
theorem dp_bools {K : PySem.W.Frag} {H : Hp} : ∀ bs : List Bool, DpAll K H (bs.map V.bl) (bs.map PyData.bool)
  | [] => .nil
  | _ :: r => .cons (.bl _) (dp_bools r)
theorem eqv_bools : ∀ a b : List Bool, PyData.eqvAll (a.map PyData.bool) (b.map PyData.bool) = decide (a = b)
  | [], [] => by simp [PyData.eqvAll]
  | [], _ :: _ => by simp [PyData.eqvAll]
  | _ :: _, [] => by simp [PyData.eqvAll]
  | x :: r, y :: q => by
    simp only [List.map_cons, PyData.eqvAll, eqv_bools r q, PyData.eqv]
    cases x <;> cases y <;> simp
theorem lay_bools : ∀ bs : List Bool, PyData.canLayAll0 (bs.map PyData.bool) = true
  | [] => by simp [PyData.canLayAll0]
  | _ :: r => by simp [PyData.canLayAll0, PyData.canLay0, lay_bools r]
theorem deep_bools : ∀ bs : List Bool, PyData.depthAll (bs.map PyData.bool) = 0
  | [] => by simp [PyData.depthAll]
  | _ :: r => by simp [PyData.depthAll, PyData.depth, deep_bools r]
theorem shaped_bools (bs : List Bool) : SeqAt.shaped (.list (bs.map PyData.bool)) = true := by
  unfold SeqAt.shaped
  simp [PyData.canLay0, lay_bools, PyData.depth, deep_bools]
theorem eqv_bl (a b : List Bool) : PyData.eqv (.list (a.map PyData.bool)) (.list (b.map PyData.bool)) = decide (a = b) := by
  rw [← eqv_bools]
  simp [PyData.eqv]
/-! ### walks over rows of texts -/
theorem fil_if {α : Type} (p : α → Bool) : ∀ xs : List α, xs.filterMap (fun v => if p v = true then some v else none) = xs.filter p
  | [] => rfl
  | a :: r => by
    rw [List.filterMap_cons, List.filter_cons, fil_if p r]
    by_cases h : p a = true <;> simp [h]
theorem row_at {xs : List Str} {i : Nat} {v : V} (h : (xs.map V.str)[i]? = some v) : ∃ x, v = .str x ∧ xs[i]? = some x := by
  rw [List.getElem?_map] at h
  cases e : xs[i]? with
  | none => rw [e] at h; cases h
  | some x => rw [e] at h; cases h; exact ⟨x, rfl, rfl⟩
theorem for_tupS {K : PySem.W.Frag} {a : Addr} {xs : List Str} {g : TG} {tb : TS} {D : Ends} {σ : L2.St} {H : Hp} (Pv : Nat → L2.St → Hp → Prop) (h0 : Pv 0 σ H) (hl : ∀ i σ H, i ≤ xs.length → Pv i σ H → SqT K H a (xs.map V.str))
    (hs : ∀ i x σ H, xs[i]? = some x → Pv i σ H → g (.str x) σ H fun σ2 H2 => tb { D with nx := Pv (i + 1), ct := Pv (i + 1), bk := D.nx } σ2 H2) (hd : ∀ σ H, Pv xs.length σ H → D.nx σ H) :
    ∃ W : Nat → Nat → L2.St → Hp → Prop, (∃ m, W 0 m σ H) ∧ ∀ i m σ H, W i m σ H →
      ((Itt K a).stop i H ∧ D.nx σ H) ∨ ((Itt K a).go i H ∧ ∃ N : L2.St → Hp → Prop, (∀ σ' H', N σ' H' → ∃ m', m' < m ∧ W (i + 1) m' σ' H') ∧ ∀ x H', (Itt K a).yld i H x H' → g x σ H' fun σ2 H2 => tb { D with nx := N, ct := N, bk := D.nx } σ2 H2) :=
  for_tup (xs := xs.map V.str) Pv h0 (fun i σ H hi p => hl i σ H (by rwa [List.length_map] at hi) p) (fun i x σ H e p => by
    obtain ⟨y, rfl, hy⟩ := row_at e
    exact hs i y σ H hy p) (fun σ H p => hd σ H (by rwa [List.length_map] at p))
theorem for_listS {K : PySem.W.Frag} {a : Addr} {xs : List Str} {g : TG} {tb : TS} {D : Ends} {σ : L2.St} {H : Hp} (Pv : Nat → L2.St → Hp → Prop) (h0 : Pv 0 σ H) (hl : ∀ i σ H, i ≤ xs.length → Pv i σ H → SqL K H a (xs.map V.str))
    (hs : ∀ i x σ H, xs[i]? = some x → Pv i σ H → g (.str x) σ H fun σ2 H2 => tb { D with nx := Pv (i + 1), ct := Pv (i + 1), bk := D.nx } σ2 H2) (hd : ∀ σ H, Pv xs.length σ H → D.nx σ H) :
    ∃ W : Nat → Nat → L2.St → Hp → Prop, (∃ m, W 0 m σ H) ∧ ∀ i m σ H, W i m σ H →
      ((Itl K a).stop i H ∧ D.nx σ H) ∨ ((Itl K a).go i H ∧ ∃ N : L2.St → Hp → Prop, (∀ σ' H', N σ' H' → ∃ m', m' < m ∧ W (i + 1) m' σ' H') ∧ ∀ x H', (Itl K a).yld i H x H' → g x σ H' fun σ2 H2 => tb { D with nx := N, ct := N, bk := D.nx } σ2 H2) :=
  for_list (xs := xs.map V.str) Pv h0 (fun i σ H hi p => hl i σ H (by rwa [List.length_map] at hi) p) (fun i x σ H e p => by
    obtain ⟨y, rfl, hy⟩ := row_at e
    exact hs i y σ H hy p) (fun σ H p => hd σ H (by rwa [List.length_map] at p))
section
variable {J : It} {n : Nat} {G : Hp → Prop} {Y : Nat → Hp → V → Hp → Prop} {g : TG} {tt : TT} {te : TE} {vs : List Nat} {σ : L2.St} {H1 : Hp} {D : Addr} {Qd : Hp → Prop}
/-- a comprehension over values: each item's own f -/
theorem lc_mapV (w : Walk J n G Y) (xs : List V) (f : V → V) (hn : n = xs.length) (hY : ∀ i H x H', i < n → Y i H x H' → H' = H ∧ xs[i]? = some x) (hD : H1 D = none) (hG : ∀ H', Same H1 H' → G H') (hz : xs.length < sizeLine)
    (hs : ∀ x ∈ xs, ∀ H', Same H1 H' → ∀ (Kt : V → Hp → Prop) (Kf : Hp → Prop), (∀ H2, Same H' H2 → Kt (f x) H2) → g x (wipe σ vs) H' fun σ2 H2 => wipe σ2 vs = wipe σ vs ∧ tt σ2 H2 fun b H3 => if b = true then te σ2 H3 Kt else Kf H3)
    (hd : ∀ H', Same H1 H' → H' D = some (.lst (xs.map f)) → Qd H') :
    ∃ W : Nat → Nat → Hp → Prop, (∃ m, W 0 m (upd H1 D (.lst []))) ∧ ∀ i m H, W i m H → (J.stop i H ∧ Qd H) ∨ (J.go i H ∧ ∃ Nx : Hp → Prop, (∀ H', Nx H' → ∃ m', m' < m ∧ W (i + 1) m' H') ∧ ∀ x H', J.yld i H x H' → g x (wipe σ vs) H' fun σ2 H2 => wipe σ2 vs = wipe σ vs ∧ tt σ2 H2 fun b H3 => if b = true then te σ2 H3 fun y H4 => ∃ acc, H4 D = some (.lst acc) ∧ acc.length < sizeLine ∧ Nx (upd H4 D (.lst (acc ++ [y]))) else Nx H3) :=
  lc_same w xs (fun v => some (f v)) hn hY hD hG hz (fun x hx H' s Kt Kf k1 _ => hs x hx H' s Kt Kf fun H2 s2 => k1 _ H2 rfl s2) fun H' s e => hd H' s (by rw [show (fun v => some (f v)) = some ∘ f from rfl, List.filterMap_eq_map] at e; exact e)
/-- a comprehension that keeps what p says -/
theorem lc_filV (w : Walk J n G Y) (xs : List V) (p : V → Bool) (hn : n = xs.length) (hY : ∀ i H x H', i < n → Y i H x H' → H' = H ∧ xs[i]? = some x) (hD : H1 D = none) (hG : ∀ H', Same H1 H' → G H') (hz : xs.length < sizeLine)
    (hs : ∀ x ∈ xs, ∀ H', Same H1 H' → ∀ (Kt : V → Hp → Prop) (Kf : Hp → Prop), (p x = true → ∀ H2, Same H' H2 → Kt x H2) → (p x = false → ∀ H2, Same H' H2 → Kf H2) → g x (wipe σ vs) H' fun σ2 H2 => wipe σ2 vs = wipe σ vs ∧ tt σ2 H2 fun b H3 => if b = true then te σ2 H3 Kt else Kf H3)
    (hd : ∀ H', Same H1 H' → H' D = some (.lst (xs.filter p)) → Qd H') :
    ∃ W : Nat → Nat → Hp → Prop, (∃ m, W 0 m (upd H1 D (.lst []))) ∧ ∀ i m H, W i m H → (J.stop i H ∧ Qd H) ∨ (J.go i H ∧ ∃ Nx : Hp → Prop, (∀ H', Nx H' → ∃ m', m' < m ∧ W (i + 1) m' H') ∧ ∀ x H', J.yld i H x H' → g x (wipe σ vs) H' fun σ2 H2 => wipe σ2 vs = wipe σ vs ∧ tt σ2 H2 fun b H3 => if b = true then te σ2 H3 fun y H4 => ∃ acc, H4 D = some (.lst acc) ∧ acc.length < sizeLine ∧ Nx (upd H4 D (.lst (acc ++ [y]))) else Nx H3) :=
  lc_same w xs (fun v => if p v = true then some v else none) hn hY hD hG hz (fun x hx H' s Kt Kf k1 k2 => hs x hx H' s Kt Kf (fun h H2 s2 => k1 _ H2 (if_pos h) s2) (fun h H2 s2 => k2 H2 (if_neg (by rw [h]; exact Bool.false_ne_true)) s2)) fun H' s e => hd H' s (by
    rw [fil_if] at e
    exact e)
/-- of texts: each its own f -/
theorem lc_mapS (w : Walk J n G Y) (xs : List Str) (f : Str → V) (hn : n = xs.length) (hY : ∀ i H x H', i < n → Y i H x H' → H' = H ∧ (xs.map V.str)[i]? = some x) (hD : H1 D = none) (hG : ∀ H', Same H1 H' → G H') (hz : xs.length < sizeLine)
    (hs : ∀ x ∈ xs, ∀ H', Same H1 H' → ∀ (Kt : V → Hp → Prop) (Kf : Hp → Prop), (∀ H2, Same H' H2 → Kt (f x) H2) → g (.str x) (wipe σ vs) H' fun σ2 H2 => wipe σ2 vs = wipe σ vs ∧ tt σ2 H2 fun b H3 => if b = true then te σ2 H3 Kt else Kf H3)
    (hd : ∀ H', Same H1 H' → H' D = some (.lst (xs.map f)) → Qd H') :
    ∃ W : Nat → Nat → Hp → Prop, (∃ m, W 0 m (upd H1 D (.lst []))) ∧ ∀ i m H, W i m H → (J.stop i H ∧ Qd H) ∨ (J.go i H ∧ ∃ Nx : Hp → Prop, (∀ H', Nx H' → ∃ m', m' < m ∧ W (i + 1) m' H') ∧ ∀ x H', J.yld i H x H' → g x (wipe σ vs) H' fun σ2 H2 => wipe σ2 vs = wipe σ vs ∧ tt σ2 H2 fun b H3 => if b = true then te σ2 H3 fun y H4 => ∃ acc, H4 D = some (.lst acc) ∧ acc.length < sizeLine ∧ Nx (upd H4 D (.lst (acc ++ [y]))) else Nx H3) :=
  lc_mapV w (xs.map V.str) (fun v => match v with | .str x => f x | v => v) (by rw [List.length_map]; exact hn) hY hD hG (by rw [List.length_map]; exact hz) (fun v hv H' s Kt Kf k => by
    obtain ⟨x, hx, rfl⟩ := List.mem_map.mp hv
    exact hs x hx H' s Kt Kf k) fun H' s e => hd H' s (by rw [List.map_map] at e; exact e)
/-- of texts: those that p keeps -/
theorem lc_filS (w : Walk J n G Y) (xs : List Str) (p : Str → Bool) (hn : n = xs.length) (hY : ∀ i H x H', i < n → Y i H x H' → H' = H ∧ (xs.map V.str)[i]? = some x) (hD : H1 D = none) (hG : ∀ H', Same H1 H' → G H') (hz : xs.length < sizeLine)
    (hs : ∀ x ∈ xs, ∀ H', Same H1 H' → ∀ (Kt : V → Hp → Prop) (Kf : Hp → Prop), (p x = true → ∀ H2, Same H' H2 → Kt (.str x) H2) → (p x = false → ∀ H2, Same H' H2 → Kf H2) → g (.str x) (wipe σ vs) H' fun σ2 H2 => wipe σ2 vs = wipe σ vs ∧ tt σ2 H2 fun b H3 => if b = true then te σ2 H3 Kt else Kf H3)
    (hd : ∀ H', Same H1 H' → H' D = some (.lst ((xs.filter p).map V.str)) → Qd H') :
    ∃ W : Nat → Nat → Hp → Prop, (∃ m, W 0 m (upd H1 D (.lst []))) ∧ ∀ i m H, W i m H → (J.stop i H ∧ Qd H) ∨ (J.go i H ∧ ∃ Nx : Hp → Prop, (∀ H', Nx H' → ∃ m', m' < m ∧ W (i + 1) m' H') ∧ ∀ x H', J.yld i H x H' → g x (wipe σ vs) H' fun σ2 H2 => wipe σ2 vs = wipe σ vs ∧ tt σ2 H2 fun b H3 => if b = true then te σ2 H3 fun y H4 => ∃ acc, H4 D = some (.lst acc) ∧ acc.length < sizeLine ∧ Nx (upd H4 D (.lst (acc ++ [y]))) else Nx H3) :=
  lc_filV w (xs.map V.str) (fun v => match v with | .str x => p x | _ => false) (by rw [List.length_map]; exact hn) hY hD hG (by rw [List.length_map]; exact hz) (fun v hv H' s Kt Kf k1 k2 => by
    obtain ⟨x, hx, rfl⟩ := List.mem_map.mp hv
    exact hs x hx H' s Kt Kf k1 k2) fun H' s e => hd H' s (by rw [List.filter_map] at e; exact e)
end
end Z
namespace Z
open PySem PySem.Spec PyProof.Rows L2
/-! ### o.m(k = v) -/
def tMethK (C : Addr) (m : Str) (n : Nat) (sp : Sp) (gV : List V → List V → List V) (E : XK) (ta : TE) (tk : TA) : TE := fun σ H Q => ta σ H fun x H1 => ∃ a dx fs, x = .ref a ∧ H1 a = some (.ins C dx fs) ∧ fs.lookup m = none ∧ tk σ H1 fun zs H2 => zs.length = n ∧ sp (gV [.ref a] zs) H2 Q E
theorem pe_methK {X : Cx} {CX : CXT} {k : Nat} {C f : Addr} {fd : FuncData} {m : Str} {ps ks : List Str} {sp : Sp} {E : XK} {o : Expr} {kws : List Keyword} {ta : TE} {tk : TA} {pos apos : Pos} {pl : Sem Bool} {g : List Value → List Value → List Value} {gV : List V → List V → List V}
    (he : PE X o ta) (c : Cls X.K C) (hm : Meth X.K C m f) (F : FnOk X.prog X.w X.K X.mg X.base CX k f fd ps sp) (hr : Room k X.A) (hb : KBn X.K fd ps 1 ks g gV) (hx : Passes CX X E) (hkw : PK X kws tk)
    (hall : (backToKw pos (keywordEach kws X.env)).all (·.1.isSome) = true := by rfl) (hks : (backToKw pos (keywordEach kws X.env)).filterMap (·.1) = ks := by rfl)
    (hpl : ((backTo pos (starEach [] X.env)).any (·.1) || (backToKw pos (keywordEach kws X.env)).any (·.1.isNone)) = false := by rfl)
    (ht : eval (.Call (.Attribute o m apos) [] kws pos) X.env = (do
      let ov ← eval o X.env
      standAt apos.atName
      let (f, first) ← holding [ov] (getMethod ov m pl)
      callWith pos f first (backTo pos (starEach [] X.env)) (backToKw pos (keywordEach kws X.env))) := by rfl) :
    PE X (.Call (.Attribute o m apos) [] kws pos) (tMethK C m ks.length sp gV E ta tk) := by
  refine ⟨fun pins s σ H Q I h => ?_⟩
  refine PySem.W.methodCall_KW (pl := pl) (thn (he.run pins s σ H _ I h) fun u s1 ⟨x, H1, I1, rx, a, dx, fs, ex, ea, l, q⟩ => ?_) ht
  subst ex
  obtain rfl : u = Value.ref a := rx
  refine getmeth_ok I1 ea c hm l ?_
  refine PySem.W.callWith_KW0 (first := [.ref a]) (h₀ := X.base) I.ok.mod.kin hm.kp hall (thn (hkw.run pos pins s1 σ H1 _ I1 q) fun ws s2 ⟨zs, H2, I2, rz, l2, hsp⟩ => ⟨I2.kIn, ?_⟩) hpl
  rw [hks]
  exact run_fnN (vs := [V.ref a]) F hr hb hx I2 (.cons rfl .nil) rz rfl l2 hsp
/-! ### xs[::-1] -/
theorem kpe_revL {X : Cx} {K : PySem.W.Frag} {e : Expr} {te : TE} {k : Nat} {p1 p2 p3 pos : Pos} (he : PE X e te) (hK : X.K = K := by rfl) : PE X (.Subscript e (.Slice none none (some (.UnaryOp .USub (.Constant (.int 1) k p1) p2)) p3) pos) (tRevL K te) := by subst hK; exact pe_revL he
end Z
namespace Z
open PySem PySem.Spec PyProof.Rows L2
theorem eqv_pair (a b c d : PyData) : PyData.eqv (.list [a, b]) (.list [c, d]) = (a.eqv c && b.eqv d) := by simp [PyData.eqv, PyData.eqvAll]
theorem eqv_pairT (a b c d : PyData) : PyData.eqv (.tuple [a, b]) (.tuple [c, d]) = (a.eqv c && b.eqv d) := by simp [PyData.eqv, PyData.eqvAll]
theorem shaped_twoB (a b : List Bool) : SeqAt.shaped (.list [.list (a.map PyData.bool), .list (b.map PyData.bool)]) = true := by
  unfold SeqAt.shaped
  simp [PyData.canLay0, PyData.canLayAll0, lay_bools, PyData.depth, PyData.depthAll, deep_bools]
end Z
namespace Z
open PySem PySem.Spec PyProof.Rows L2
/-! ### which cuts make which partings -/
def markB (xs us ws : List Str) : Bool := let mu := us.map (fun x => decide (x ∈ xs)); let mw := ws.map (fun x => decide (x ∈ xs)); (decide ([true, true] = mu) && decide ([false, false] = mw)) || (decide ([false, false] = mu) && decide ([true, true] = mw))
def makesB (fy py qy : List Str) : Bool := let bs := (py ++ qy).map fun x => decide (x ∈ fy); decide ([false, false, true, true] = bs) || decide ([true, true, false, false] = bs)
theorem all_of {α : Type} {f g : α → Bool} : ∀ {l : List α}, (∀ x ∈ l, f x = g x) → l.all f = l.all g
  | [], _ => rfl
  | a :: r, h => by rw [List.all_cons, List.all_cons, h a (.head _), all_of fun x hx => h x (.tail _ hx)]
theorem two_map {p : Str → Bool} {l : List Str} (h : l.length = 2) (b : Bool) : decide ([b, b] = l.map p) = l.all (fun x => p x == b) := by
  match l, h with
  | [a, c], _ =>
    simp only [List.map_cons, List.map_nil, List.all_cons, List.all_nil]
    cases p a <;> cases p c <;> cases b <;> rfl
theorem four_map {p : Str → Bool} {k l : List Str} (hk : k.length = 2) (h : l.length = 2) (b c : Bool) : decide ([b, b, c, c] = (k ++ l).map p) = (k.all (fun x => p x == b) && l.all (fun x => p x == c)) := by
  rw [← two_map hk, ← two_map h, List.map_append]
  match k, hk, l, h with
  | [x, y], _, [z, w], _ =>
    simp only [List.map_cons, List.map_nil, List.cons_append, List.nil_append]
    cases p x <;> cases p y <;> cases p z <;> cases p w <;> cases b <;> cases c <;> rfl
theorem makes_mark {xs ys ny fy us ws py qy : List Str} (tn : Turned xs ys ny fy) (cu : Cuts xs ys) (sub : ∀ x ∈ us ++ ws, x ∈ xs ++ ys) (t : Two us ws) (rows : (py.Perm us ∧ qy.Perm ws) ∨ (py.Perm ws ∧ qy.Perm us)) : makesB fy py qy = markB xs us ws := by
  have lu := t.la
  have lw := t.lb
  have ap := cu.apart
  have e1 : makesB fy py qy = ((us.all (fun x => decide (x ∈ fy) == false) && ws.all (fun x => decide (x ∈ fy) == true)) || (us.all (fun x => decide (x ∈ fy) == true) && ws.all (fun x => decide (x ∈ fy) == false))) := by
    show (decide ([false, false, true, true] = (py ++ qy).map fun x => decide (x ∈ fy)) || decide ([true, true, false, false] = (py ++ qy).map fun x => decide (x ∈ fy))) = _
    rcases rows with ⟨a, b⟩ | ⟨a, b⟩
    · rw [four_map (a.length_eq.trans lu) (b.length_eq.trans lw), four_map (a.length_eq.trans lu) (b.length_eq.trans lw), a.all_eq, b.all_eq, a.all_eq, b.all_eq]
    · rw [four_map (a.length_eq.trans lw) (b.length_eq.trans lu), four_map (a.length_eq.trans lw) (b.length_eq.trans lu), a.all_eq, b.all_eq, a.all_eq, b.all_eq, Bool.or_comm, Bool.and_comm, Bool.and_comm (ws.all _)]
  have e2 : markB xs us ws = ((us.all (fun x => decide (x ∈ xs) == true) && ws.all (fun x => decide (x ∈ xs) == false)) || (us.all (fun x => decide (x ∈ xs) == false) && ws.all (fun x => decide (x ∈ xs) == true))) := by
    show ((decide ([true, true] = us.map fun x => decide (x ∈ xs)) && decide ([false, false] = ws.map fun x => decide (x ∈ xs))) || (decide ([false, false] = us.map fun x => decide (x ∈ xs)) && decide ([true, true] = ws.map fun x => decide (x ∈ xs)))) = _
    rw [two_map lu, two_map lw, two_map lu, two_map lw]
  rw [e1, e2]
  obtain ⟨ya, yb, aa, ab, y0, z0, _, _, h⟩ := tn
  have su : ∀ x ∈ us, x ∈ xs ++ ys := fun x hx => sub x (List.mem_append_left _ hx)
  have sw : ∀ x ∈ ws, x ∈ xs ++ ys := fun x hx => sub x (List.mem_append_right _ hx)
  rcases h with ⟨_, rfl, rfl⟩ | ⟨_, rfl, rfl⟩
  · have k : ∀ x, x ∈ xs ++ ys → decide (x ∈ fy) = !decide (x ∈ xs) := fun x hx => by
      by_cases m : x ∈ xs
      · rw [decide_eq_true m, decide_eq_false (fun q => ap x m ((ab.2.2 x).mp q))]; rfl
      · have : x ∈ ys := (List.mem_append.mp hx).resolve_left m
        rw [decide_eq_false m, decide_eq_true ((ab.2.2 x).mpr this)]; rfl
    have c : ∀ (l : List Str) (b : Bool), (∀ x ∈ l, x ∈ xs ++ ys) → l.all (fun x => decide (x ∈ fy) == b) = l.all (fun x => decide (x ∈ xs) == !b) := fun l b hl => all_of fun x hx => by rw [k x (hl x hx)]; cases decide (x ∈ xs) <;> cases b <;> rfl
    rw [c us _ su, c us _ su, c ws _ sw, c ws _ sw]
    rfl
  · have k : ∀ x, decide (x ∈ fy) = decide (x ∈ xs) := fun x => decide_eq_decide.mpr (aa.2.2 x)
    have c : ∀ (l : List Str) (b : Bool), l.all (fun x => decide (x ∈ fy) == b) = l.all (fun x => decide (x ∈ xs) == b) := fun l b => all_of fun x hx => by rw [k x]
    rw [c us, c us, c ws, c ws, Bool.or_comm]
end Z
namespace Z
open PySem PySem.Spec PyProof.Rows L2
/-- _law_heard(lambda: ..) of a call that always raises cls(f = v) -/
theorem heard_word {K : PySem.W.Frag} {T : List (Addr × Str)} {t : XK → TE} {σ : L2.St} {H : Hp} {Q : VK} (cls f w : Str) (v : V) (hT : LamX.Tabs T H)
    (rd : ∀ H2, LamX.ExtN H H2 → t (fun c d H' => c = .ref (He.ga K cls) ∧ ∃ dd, d = some dd ∧ H' dd = some (.xd [(f, v)]) ∧ Same H2 H') σ H2 (fun _ _ => False))
    (k : ∀ g H', LamX.ExtN H H' → LamX.Tabs T H' → H' g = some (.tup [.str w, v]) → Q (.ref g) H') : LamX.tLam T (TTword K cls f w) t σ H Q := by
  refine ⟨hT, fun H1 eN T1 H2 s2 => ⟨_, fun _ _ => False, rd H2 (eN.trans (extS s2)), ?_, fun _ _ z => z.elim⟩⟩
  rintro c d H' ⟨rfl, dd, rfl, hdd, sm⟩
  exact ⟨rfl, dd, _, rfl, hdd, fun g H'' s _ ef => k g H'' (((eN.trans (extS s2)).trans (extS sm)).trans (extS s)) (((T1.ext s2).ext sm).ext s) ef⟩
end Z
namespace Z
open PySem PySem.Spec PyProof.Rows L2
theorem cutV_to (xs : List V) {k : Int} (h : 0 ≤ k) : cutV xs none (some k) = xs.take k.toNat := by
  have e : HT.sIx xs.length xs.length (some k) = min k.toNat xs.length := by
    unfold HT.sIx
    simp only []
    split <;> omega
  unfold cutV
  rw [e]
  simp only [HT.sIx, List.drop_zero, Nat.sub_zero]
  by_cases c : k.toNat ≤ xs.length
  · rw [Nat.min_eq_left c]
  · rw [Nat.min_eq_right (by omega), List.take_of_length_le (Nat.le_refl _), List.take_of_length_le (by omega)]
theorem cutV_from (xs : List V) {k : Int} (h : 0 ≤ k) : cutV xs (some k) none = xs.drop k.toNat := by
  have e : HT.sIx xs.length 0 (some k) = min k.toNat xs.length := by
    unfold HT.sIx
    simp only []
    split <;> omega
  unfold cutV
  rw [e]
  simp only [HT.sIx]
  rw [List.take_of_length_le (by rw [List.length_drop]; omega)]
  by_cases c : k.toNat ≤ xs.length
  · rw [Nat.min_eq_left c]
  · rw [Nat.min_eq_right (by omega), List.drop_of_length_le (Nat.le_refl _), List.drop_of_length_le (by omega)]
theorem lt_flip {a b : Str} (h : ltCps a.cps.toList b.cps.toList = false) (n : a ≠ b) : ltCps b.cps.toList a.cps.toList = true := by
  cases e : ltCps b.cps.toList a.cps.toList with
  | true => rfl
  | false => exact absurd (leS_anti (show leS a b from e) (show leS b a from h)) n
theorem lt_asym {a b : Str} (h : ltCps a.cps.toList b.cps.toList = true) : ltCps b.cps.toList a.cps.toList = false := leS_of_lt h
theorem Turned.swap {a b ny fy : List Str} (t : Turned a b ny fy) (ap : apartS a b) : Turned b a ny fy := by
  obtain ⟨ya, yb, aa, ab, y0, z0, e1, e2, h⟩ := t
  have n : y0 ≠ z0 := by
    rintro rfl
    exact ap y0 ((aa.2.2 _).mp (List.mem_of_mem_head? e1)) ((ab.2.2 _).mp (List.mem_of_mem_head? e2))
  refine ⟨yb, ya, ab, aa, z0, y0, e2, e1, ?_⟩
  rcases h with ⟨l, rfl, rfl⟩ | ⟨l, rfl, rfl⟩
  · exact .inr ⟨lt_asym l, rfl, rfl⟩
  · exact .inl ⟨lt_flip l n, rfl, rfl⟩
theorem AscOf.self {a y : List Str} (h : AscOf a y) : AscOf y y := ⟨h.1, h.2.1, fun _ => .rfl⟩
theorem Turned.fix {a b ny fy : List Str} (t : Turned a b ny fy) (ap : apartS a b) : Turned ny fy ny fy := by
  obtain ⟨ya, yb, aa, ab, y0, z0, e1, e2, h⟩ := t
  have n : y0 ≠ z0 := by
    rintro rfl
    exact ap y0 ((aa.2.2 _).mp (List.mem_of_mem_head? e1)) ((ab.2.2 _).mp (List.mem_of_mem_head? e2))
  rcases h with ⟨l, rfl, rfl⟩ | ⟨l, rfl, rfl⟩
  · exact ⟨_, _, aa.self, ab.self, y0, z0, e1, e2, .inl ⟨l, rfl, rfl⟩⟩
  · exact ⟨_, _, ab.self, aa.self, z0, y0, e2, e1, .inl ⟨lt_flip l n, rfl, rfl⟩⟩
theorem Turned.sides {a b ny fy : List Str} (t : Turned a b ny fy) (cu : Cuts a b) : Cuts ny fy := by
  have ap := cu.apart
  obtain ⟨nda, ndb, _⟩ := List.nodup_append.mp cu.nd
  obtain ⟨ya, yb, aa, ab, y0, z0, e1, e2, h⟩ := t
  have la := aa.len nda
  have lb := ab.len ndb
  have pa : ya.Perm a := (List.perm_ext_iff_of_nodup aa.2.1 nda).mpr aa.2.2
  have pb : yb.Perm b := (List.perm_ext_iff_of_nodup ab.2.1 ndb).mpr ab.2.2
  rcases h with ⟨l, rfl, rfl⟩ | ⟨l, rfl, rfl⟩
  · exact cu.of_perm (pa.append pb) (by rw [la]; exact cu.lx) (by rw [lb]; exact cu.ly)
  · exact cu.of_perm ((pb.append pa).trans List.perm_append_comm) (by rw [lb]; exact cu.ly) (by rw [la]; exact cu.lx)
theorem Cuts.swap {a b : List Str} (h : Cuts a b) : Cuts b a := h.of_perm List.perm_append_comm h.ly h.lx
theorem turned_of {a b hs ny fy : List Str} (h : CutOf a b hs ny fy) (na : a ≠ []) (nb : b ≠ []) (ap : apartS a b) : Turned a b ny fy := by
  obtain ⟨ah, ya, yb, aa, ab, side⟩ := id h
  obtain ⟨y0, yr, rfl⟩ := aa.ne na
  obtain ⟨z0, zr, rfl⟩ := ab.ne nb
  cases e : ltCps y0.cps.toList z0.cps.toList with
  | true =>
    have t : Turned a b (y0 :: yr) (z0 :: zr) := ⟨_, _, aa, ab, y0, z0, rfl, rfl, .inl ⟨e, rfl, rfl⟩⟩
    obtain ⟨rfl, rfl⟩ := cut_turned h t na nb ap
    exact t
  | false =>
    have t : Turned a b (z0 :: zr) (y0 :: yr) := ⟨_, _, aa, ab, y0, z0, rfl, rfl, .inr ⟨e, rfl, rfl⟩⟩
    obtain ⟨rfl, rfl⟩ := cut_turned h t na nb ap
    exact t
theorem Cuts.nx {a b : List Str} (h : Cuts a b) : a ≠ [] := by
  have := h.lx
  rintro rfl
  simp at this
theorem Cuts.ny {a b : List Str} (h : Cuts a b) : b ≠ [] := h.swap.nx
theorem cut_newC {K : PySem.W.Frag} {H : Hp} {u v : V} {a b : List Str} {Q : Addr → Hp → Prop} {E : XK} (hu : ∃ q, u = .ref q ∧ RowA H q (a.map V.str)) (hv : ∃ q, v = .ref q ∧ RowA H q (b.map V.str)) (cu : Cuts a b)
    (k : ∀ p hs ny fy H', Same H H' → H p = none → Turned a b ny fy → AscOf (a ++ b) hs → CutAt K H' p hs ny fy → Q p H') :
    ∀ x dx, H x = none → H dx = none → dx ≠ x → spCut K [.ref x, u, v] (upd (upd H dx (.own x)) x (.ins (He.ga K "Cut") dx [])) (fun v H2 => v = .non ∧ Q x H2) E := by
  have l := cu.few
  have lx := cu.lx
  have ly := cu.ly
  obtain ⟨nda, ndb, _⟩ := List.nodup_append.mp cu.nd
  refine cut_new ⟨hu, fun n hn => cu.nm n (List.mem_append_left _ hn), nda, by omega⟩ ⟨hv, fun n hn => cu.nm n (List.mem_append_right _ hn), ndb, by omega⟩ lx ly cu.apart fun p hs ny' fy' H' s n co ic => ?_
  have tn := turned_of co cu.nx cu.ny cu.apart
  obtain ⟨nmN, nmF, _, _⟩ := turned_ok tn cu.nm
  exact k p hs ny' fy' H' s n tn co.hosts ⟨ic, fun n hn => cu.nm n ((co.hosts.2.2 n).mp hn), nmN, nmF⟩
end Z
namespace Z
open PySem PySem.Spec PyProof.Rows L2
section
open L2H HotX
/-! ### an own error raised while another one is handled -/
theorem ps_raiseH2 {X : Cx} {W : WX} {x f g : Str} {k : Nat} {e : Expr} {es : List Expr} {ta : TA} {j : Nat} {p pos cpos pos2 : Pos} (E : ErrF X.K x) (D : ∃ fd, FnH X.prog X.w X.K X.mg X.base CX0 k (He.ma X.K (He.ga X.K x) "__init__") fd ["self", f, g] (spErr2 X.K (He.ga X.K x) f g) ∧ Binds X.K fd ["self", f, g] []) (hr : RoomH (k + 1) X.A) (hc : HotC X) (tk : L2.Takes X W) (hg : Gl X x) (hm : X.mg x = some (.ref (He.ga X.K x))) (ha : PA X (e :: es) ta)
    (hdb : (x == ("__debug__" : Str)) = false := by decide) (he : starEach (e :: es) X.env = (false, eval e X.env) :: starEach es X.env := by rfl) (hpl : (backTo pos (starEach es X.env)).any (·.1) = false := by rfl) :
    PS X (.Raise (some (.Call (.Name x p) (e :: es) [] pos)) (some (.Constant .none j cpos)) pos2) (tRaise2 (He.ga X.K x) f g W ta) := by
  obtain ⟨fd, F, b⟩ := D
  constructor
  intro pins s σ H D I h
  refine (ps_raiseHN hc tk (pmk5_oexH (p := p) (pos := pos) E.o E.iC E.tI F hr hc b pass0 hg hm (pa_up ha) hdb he hpl)).run pins s σ H D I ⟨_, h, ?_⟩
  rintro vs H1 ⟨u, v, rfl, k⟩
  exact ⟨by show 2 ≤ 1000; decide, fun a ha => raised2 (R := fun cls d H' => W cls d σ H') ha k⟩
end
/-! ### x = e within a try, e may raise -/
def tTrySet (n j : Nat) (t : XK → TE) (W : WX) : TS := fun D σ H => ∃ (E : XK) (Q0 : VK), (∀ cls d σ' H', E cls d H' → σ'.length = n → W cls d σ' H') ∧ t E σ H Q0 ∧ ∀ v H1, Q0 v H1 → D.nx (σ.set j (some v)) H1
theorem ps_setTry {Y : Cx} {W : WX} {n j : Nat} {x : Str} {e : Expr} {t : XK → TE} {p1 p2 : Pos} (hn : Y.N.length = n) (hN : Y.N.Nodup) (hj : Y.N[j]? = some x) (hx : Loc Y.env.scope x)
    (act : ∀ E : XK, (∀ cls d σ' H', E cls d H' → σ'.length = Y.N.length → W cls d σ' H') → PE Y e (t E)) (hs : swapsWith e (some (.Name x p1)) p2.line Y.env = pure false := by rfl) (hf : Y.fn x = true ∨ Y.env.scope.names.lookup x = some .local := by first | exact .inl rfl | exact .inr rfl | assumption) :
    PS Y (.Assign [.Name x p1] e p2) (tTrySet n j t W) := by
  constructor
  rintro pins s σ H D I ⟨E, Q0, hW, h3, h4⟩
  exact (ps_set (i := j) hN hj hx (pe_up (act E (fun cls d σ' H' e l => hW cls d σ' H' e (l.trans hn)))) hs hf).run pins s σ H D I ⟨Q0, h3, fun v H1 q => h4 v H1 q⟩
/-! ### a, b = l -/
theorem kpg_unl {X : Cx} {K : PySem.W.Frag} {pos : Pos} {es : List Expr} {k : Nat} {t : TGs} {n : Nat} (hc : X.calm = true) (h : PGs X es t)
    (hn : (assignEach es X.env).length = n := by rfl) (hst : (assignEach es X.env).findIdx? (·.1) = none := by rfl) (hK : X.K = K := by rfl) : PG X (.Tuple es k pos) (gUnl K n t) := by subst hK; exact pg_unl hc h hn hst
end Z
namespace Z
open PySem PySem.Spec PyProof.Rows L2
/-! ### own errors raised with what they are told of their context -/
section
open L2H HotX
theorem pmk_oexN {X : Cx} {CX : CXT} {e : Expr} {es : List Expr} {ta : TA} {p pos : Pos} {x : Str} {C fI : Addr} {k : Nat} {fd : FuncData} {ps : List Str} {sp : Sp} {ds : List Value} {dvs : List V} (T : OexC X.K C) (iC : PySem.W.findIn X.K (.ref C) "__init__" = some (some (.ref fI))) (tI : PySem.W.typeIn X.K (.ref fI) = some (.type "function"))
    (F1 : FnOk X.prog X.w X.K X.mg X.base CX k fI fd ps sp) (hr : Room (k + 1) X.A) (hb : Binds X.K fd ps ds) (hd : Vals dvs ds) (hx : Passes CX X (fun _ _ _ => False)) (hg : Gl X x) (hm : X.mg x = some (.ref C)) (ha : PA X (e :: es) ta)
    (hdb : (x == ("__debug__" : Str)) = false := by decide) (he : starEach (e :: es) X.env = (false, eval e X.env) :: starEach es X.env := by rfl) (hpl : (backTo pos (starEach es X.env)).any (·.1) = false := by rfl) :
    L2N.PMk X (.Call (.Name x p) (e :: es) [] pos) (tMkO C sp dvs ta) := by
  intro pins s σ H Q I h
  obtain ⟨nm, q, N, bs, bm, sn, sub, ab, col, dd, k0, k1, k2, k3, k5, hC, hbm⟩ := T.cls
  refine wpAny_Call_Name_kw (ld_glob I hg hm ?_ hdb)
  refine PySem.W.callWith_K (h₀ := X.base) I.ok.mod.kin T.kC (thn (ha.run pos pins s σ H _ I h) fun us s1 ⟨vs, H1, I1, r1, hz, q1⟩ => ⟨I1.kIn, ?_⟩) he hpl
  show wpAny _ _ (call (.ref C) us) _ _ _
  obtain ⟨hp, g, dr, tk, os⟩ := s1
  have hsz : hp.objs.size ≤ hp.objs.size + 1 := Nat.le_succ _
  have hn : H1 (hp.objs.size + 1) = none := I1.hok.fresh hsz
  have hq := q1 (hp.objs.size + 1) hn
  have kk : ∀ b o, hp.get? b = some o → ((hp.push (PySem.W.kdv_tup us)).push (PySem.HandSPX.excO C hp.objs.size)).get? b = some o := fun b o e => Heap.get?_push_of_some _ (Heap.get?_push_of_some _ e)
  have hget : ((hp.push (PySem.W.kdv_tup us)).push (PySem.HandSPX.excO C hp.objs.size)).get? (hp.objs.size + 1) = some (PySem.HandSPX.excO C hp.objs.size) := by heap_get
  have I2 : Inv X pins σ (upd H1 (hp.objs.size + 1) (exo (hp.objs.size + 1) C none)) ⟨(hp.push (PySem.W.kdv_tup us)).push (PySem.HandSPX.excO C hp.objs.size), g, dr, tk, os⟩ :=
    I1.laid (t' := tk) (a := hp.objs.size + 1) (o := exo (hp.objs.size + 1) C none) (h' := (hp.push (PySem.W.kdv_tup us)).push (PySem.HandSPX.excO C hp.objs.size)) kk hsz (exo_ok hget)
  have r2 : Vals (V.ref (hp.objs.size + 1) :: (vs ++ dvs)) (Value.ref (hp.objs.size + 1) :: (us ++ ds)) := .cons rfl (r1.append hd)
  have hl : (Value.ref (hp.objs.size + 1) :: us ++ ds).length = ps.length := by
    have e := r2.length
    rw [F1.len _ _ _ _ hq] at e
    exact e.symm
  have hus : us.length ≤ sizeLine := by
    rw [← Paired.length r1, sizeLine_eq]
    omega
  refine wpAny_call (PySem.HandSPX.call_own F.excBase_ValueError (fun Y => PySem.HandSPX.refsVE_contains Y bm hbm) (I1.kIn _ _ hC) (PySem.W.looks_findIn I1.kIn iC) (fun self => PySem.W.bind_fn I1.kIn self tI) hus
    (codeAny_mono (F1.run _ X.stack _ _ ⟨Value.ref (hp.objs.size + 1) :: us, []⟩ (Value.ref (hp.objs.size + 1) :: (us ++ ds)) _ _ (fun _ _ _ => False) (hr.make C us []) (I2.env0.make C us []) (hb _ (Value.ref (hp.objs.size + 1) :: us) I2.kIn hl) r2 hq) fun r s' hq' => ?_))
  cases r with
  | error er => exact hx pins σ _ _ er s' I2 hq'
  | ok fl =>
    cases fl with
    | ret u =>
      obtain ⟨v, H2, os2, bare2, un2, hok2, rv, ev, d, fs, ea, ed, hd1, q2⟩ := hq'
      subst ev
      obtain ⟨h2, g2, d2, t2, os'⟩ := s'
      obtain ⟨t0, G, J, kG, ge, hoe, na⟩ := mk_end0 (d2 := d2) (t2 := t2) I1 hsz kk un2 hok2 os2 bare2 ea ed hd1
      refine ⟨rv, ⟨hp.objs.size + 1, _, _, ⟨G, g2, d2, t2, os'⟩, _, .ref C, some d, rfl, J, kG, ge, hoe, ⟨rfl, rfl, fun vs hv => ?_⟩, rfl, rfl, na, rfl, bare2, raises_own T.exC T.tyC, q2⟩⟩
      cases hv
      rfl
    | next => exact False.elim hq'
    | brk => exact False.elim hq'
    | cont => exact False.elim hq'
theorem ps_raiseN1 {X : Cx} {W : WX} {x f : Str} {k : Nat} {e : Expr} {es : List Expr} {ta : TA} {p pos pos2 : Pos} (E : ErrF X.K x) (D : DefM X.prog X.w X.K X.mg X.base k (He.ma X.K (He.ga X.K x) "__init__") ["self", f] (spErr1 X.K (He.ga X.K x) f)) (hr : Room (k + 1) X.A) (hc : X.calm = true) (tk : L2N.Takes X W) (hg : Gl X x) (hm : X.mg x = some (.ref (He.ga X.K x))) (ha : PA X (e :: es) ta)
    (hdb : (x == ("__debug__" : Str)) = false := by decide) (he : starEach (e :: es) X.env = (false, eval e X.env) :: starEach es X.env := by rfl) (hpl : (backTo pos (starEach es X.env)).any (·.1) = false := by rfl) :
    PS X (.Raise (some (.Call (.Name x p) (e :: es) [] pos)) none pos2) (tRaise1 (He.ga X.K x) f W ta) := by
  obtain ⟨fd, F, b⟩ := D.ex
  constructor
  intro pins s σ H D I h
  refine (L2N.ps_raise hc tk (pmk_oexN (p := p) (pos := pos) E.o E.iC E.tI F hr b .nil pass0 hg hm (pa_up ha) hdb he hpl)).run pins s σ H D I ⟨_, h, ?_⟩
  rintro vs H1 ⟨v, rfl, k⟩
  exact ⟨by show 1 ≤ 1000; decide, fun a ha => raised1 (R := fun cls d H' => W cls d σ H') ha k⟩
theorem cxN {P : Program} {w : World} {outer : List Env} {H : Hp} {s : Shared} {E : XK} {u : Value} {s' : Shared} (h : L2N.CX P w outer H s E u s') : CX P w outer H s E u s' := by
  obtain ⟨a, B, H', cls, d, e, f, r⟩ := h
  exact ⟨a, B, H', cls, d, e, flyingZ_imp (fun _ z => z.zc) f, r⟩
theorem FnOk.ofN {P : Program} {w : World} {K : PySem.W.Frag} {mg : Str → Option Value} {base : Heap} {k : Nat} {f : Addr} {fd : FuncData} {ps : List Str} {sp : Sp} (F : FnOk P w K mg base (L2N.CX P w) k f fd ps sp) : FnOk P w K mg base (CX P w) k f fd ps sp :=
  ⟨F.len, fun A outer s H args us vs Q E hr e0 hb r h => codeAny_mono (F.run A outer s H args us vs Q E hr e0 hb r h) fun r s' q => by
    match r, q with
    | .error e, q => exact cxN q
    | .ok (.ret u), q => exact q
    | .ok .next, q => exact q
    | .ok .brk, q => exact q
    | .ok .cont, q => exact q⟩
theorem takes_lenN {X : Cx} {W : WX} (t : L2N.Takes X W) : L2N.Takes X (fun cls d σ H => σ.length = X.N.length → W cls d σ H) := by
  rintro u s' ⟨a, B, sI, pins, σ, H, cls, d, e, I, nb, up, sky, na, os, ag, w⟩
  exact t u s' ⟨a, B, sI, pins, σ, H, cls, d, e, I, nb, up, sky, na, os, ag, w I.len⟩
end
end Z
namespace Z
open PySem PySem.Spec PyProof.Rows L2 TL
/-! ### texts with bars -/
section
open PySem.Builtin.Str
theorem split_count {x y : Str} (hy : tl y ≠ []) (hk : y.cps.all (· < 256) = true) : Txt.count x y = ((Txt.split x y).length : Int) - 1 := by
  obtain ⟨f, g, hn⟩ := StrLaws.occ_tight x y (len1 hy)
  unfold Txt.count Txt.split
  split
  · rename_i h1
    have hlt : x.length < y.length := by
      simp only [Bool.or_eq_true, decide_eq_true_eq] at h1
      rcases h1 with h | h
      · exact h
      · exact absurd h (kind_ok hk)
    cases ho : occurrences x y 0 x.length (x.length + 1) with
    | nil => rfl
    | cons c r =>
      rw [ho] at g
      have hc : c + y.length ≤ x.length := g.2.1.1
      omega
  · split
    · rename_i h1 h2
      rw [List.isEmpty_iff.mp h2]
      rfl
    · rw [len_partsBetween]
      omega
end
theorem tl_bar : tl (Str.ofString " | ") = [32, 124, 32] := by decide +kernel
theorem tl_sp : tl (Str.ofString " ") = [32] := by decide +kernel
theorem split_back (x y : Str) : Txt.join y (Txt.split x y) = x := by
  rw [join_eq]
  exact StrLaws.join_split x y
theorem bars_one {a b c d : List Nat} {k : Nat} (h : a ++ k :: b = c ++ k :: d) (ha : k ∉ a) (hc : k ∉ c) : a = c ∧ b = d := by
  induction a generalizing c with
  | nil =>
    cases c with
    | nil => exact ⟨rfl, (List.cons.inj h).2⟩
    | cons x r => exact absurd (by rw [(List.cons.inj h).1]; exact .head _) hc
  | cons x r ih =>
    cases c with
    | nil => exact absurd (by rw [← (List.cons.inj h).1]; exact .head _) ha
    | cons y q =>
      obtain ⟨e1, e2⟩ := List.cons.inj h
      obtain ⟨h1, h2⟩ := ih e2 (fun m => ha (.tail _ m)) (fun m => hc (.tail _ m))
      exact ⟨by rw [e1, h1], h2⟩
theorem nm_no {x : Str} (h : IsNm x) {k : Nat} (hk : ¬ (97 ≤ k ∧ k ≤ 122)) : k ∉ tl x := fun m => hk (h.az k m)
theorem join_no {ws : List Str} (h : ∀ w ∈ ws, IsNm w) : 124 ∉ tl (Txt.join (Str.ofString " ") ws) := fun m => by
  rw [join_eq, tl_join, tl_sp] at m
  rcases of_joinL _ m with m | ⟨w, hw, m⟩
  · simp at m
  · obtain ⟨z, hz, rfl⟩ := List.mem_map.mp hw
    exact nm_no (h z hz) (by omega) m
theorem join_inj {ws us : List Str} (h : ∀ w ∈ ws, IsNm w) (k : ∀ w ∈ us, IsNm w) (hw : ws ≠ []) (hu : us ≠ []) (e : Txt.join (Str.ofString " ") ws = Txt.join (Str.ofString " ") us) : ws = us := by
  have e1 := TL.split_join (y := Str.ofString " ") tl_sp (by decide +kernel) hw (fun p hp => nm_no (h p hp) (by omega))
  have e2 := TL.split_join (y := Str.ofString " ") tl_sp (by decide +kernel) hu (fun p hp => nm_no (k p hp) (by omega))
  rw [← e1, ← e2, e]
def cutText (ny fy : List Str) : Str := Txt.join (Str.ofString " ") ny ++ Str.ofString " | " ++ Txt.join (Str.ofString " ") fy
theorem cutText_inj {a b c d : List Str} (ha : ∀ w ∈ a, IsNm w) (hb : ∀ w ∈ b, IsNm w) (hc : ∀ w ∈ c, IsNm w) (hd : ∀ w ∈ d, IsNm w) (na : a ≠ []) (nb : b ≠ []) (nc : c ≠ []) (nd : d ≠ []) (e : cutText a b = cutText c d) : a = c ∧ b = d := by
  have e := congrArg tl e
  unfold cutText at e
  rw [tl_append, tl_append, tl_append, tl_append, tl_bar, List.append_assoc, List.append_assoc] at e
  have e : (tl (Txt.join (Str.ofString " ") a) ++ [32]) ++ 124 :: ([32] ++ tl (Txt.join (Str.ofString " ") b)) = (tl (Txt.join (Str.ofString " ") c) ++ [32]) ++ 124 :: ([32] ++ tl (Txt.join (Str.ofString " ") d)) := by simpa using e
  have no : ∀ {ws : List Str}, (∀ w ∈ ws, IsNm w) → 124 ∉ tl (Txt.join (Str.ofString " ") ws) ++ [32] := fun h m => by
    rcases List.mem_append.mp m with m | m
    · exact join_no h m
    · simp at m
  obtain ⟨e1, e2⟩ := bars_one e (no ha) (no hc)
  exact ⟨join_inj ha hc na nc (str_ext (List.append_cancel_right e1)), join_inj hb hd nb nd (str_ext (List.append_cancel_left e2))⟩
theorem join_room {ws : List Str} (h : ∀ w ∈ ws, IsNm w) (l : ws.length ≤ 1000) : (List.map (fun x => x.length) ws).sum + ws.length * (Str.ofString " ").length ≤ 16777216 := by
  have := sum_le (n := 8) ws fun w hw => (h w hw).hi
  have e : (Str.ofString " ").length = 1 := rfl
  rw [e]
  omega
theorem join_word {ws : List Str} (h : ∀ w ∈ ws, IsNm w) (l : ws.length ≤ 1000) : Word 9000 (Txt.join (Str.ofString " ") ws) :=
  Word.join (m := 1) (n := 8) (k := 1000) (word_of (by decide +kernel)) (fun w hw => word_nm (h w hw)) l
/-! ### the cut that a text tells -/
/-- rising, each word above the one ahead of it -/
def riseB : List Str → Bool
  | a :: b :: r => ltCps a.cps.toList b.cps.toList && riseB (b :: r)
  | _ => true
def sideB (ws : List Str) : Bool := decide (2 ≤ ws.length) && (ws.all nmB && riseB ws)
def apartB (a b : List Str) : Bool := a.all fun x => !decide (x ∈ b)
theorem apartB_iff {a b : List Str} : apartB a b = true ↔ apartS a b := by
  unfold apartB apartS
  simp [List.all_eq_true]
def readC (z : Str) : Option (List Str × List Str) := match Txt.split z (Str.ofString " | ") with
  | [a, b] =>
    let ns := Txt.split a (Str.ofString " ")
    let ms := Txt.split b (Str.ofString " ")
    if (sideB ns && (sideB ms && (apartB ns ms && ltCps (ns.headD "").cps.toList (ms.headD "").cps.toList))) = true then some (ns, ms) else none
  | _ => none
theorem lt_iff {a b : Str} : ltCps a.cps.toList b.cps.toList = true ↔ a.cps.toList < b.cps.toList := by rw [ltCps_eq]; exact decide_eq_true_iff
theorem rise_pair : ∀ {ws : List Str}, riseB ws = true → ws.Pairwise fun a b => a.cps.toList < b.cps.toList
  | [], _ => .nil
  | [a], _ => List.pairwise_singleton ..
  | a :: b :: r, h => by
    have h : (ltCps a.cps.toList b.cps.toList && riseB (b :: r)) = true := h
    rw [Bool.and_eq_true] at h
    have ih := rise_pair h.2
    have ab := lt_iff.mp h.1
    refine List.pairwise_cons.mpr ⟨fun y hy => ?_, ih⟩
    rcases List.mem_cons.mp hy with rfl | hy
    · exact ab
    · exact List.lt_trans ab ((List.pairwise_cons.mp ih).1 y hy)
theorem asc_rise : ∀ {ws : List Str}, ws.Pairwise leS → ws.Nodup → riseB ws = true
  | [], _, _ => rfl
  | [a], _, _ => rfl
  | a :: b :: r, p, d => by
    obtain ⟨p1, p2⟩ := List.pairwise_cons.mp p
    obtain ⟨d1, d2⟩ := List.nodup_cons.mp d
    show (ltCps a.cps.toList b.cps.toList && riseB (b :: r)) = true
    rw [Bool.and_eq_true]
    refine ⟨?_, asc_rise p2 d2⟩
    cases e : ltCps a.cps.toList b.cps.toList with
    | true => rfl
    | false => exact absurd (leS_anti (p1 b (.head _)) (show leS b a from e)) fun q => d1 (by rw [q]; exact .head _)
theorem rising_of : ∀ {l : List Str} {p : Str}, (p :: l).Pairwise leS → risingS p l = true
  | [], _, _ => rfl
  | x :: r, p, h => by
    obtain ⟨h1, h2⟩ := List.pairwise_cons.mp h
    show (!ltCps x.cps.toList p.cps.toList && risingS x r) = true
    rw [Bool.and_eq_true, Bool.not_eq_true']
    exact ⟨h1 x (.head _), rising_of h2⟩
theorem sorted_of {l : List Str} (h : l.Pairwise leS) : sortedS l = true := by
  cases l with
  | nil => rfl
  | cons x r => exact rising_of h
theorem rise_asc {ws : List Str} (h : riseB ws = true) : AscOf ws ws := by
  have p := rise_pair h
  refine ⟨sorted_of (p.imp fun {a b} q => leS_iff.mpr (List.le_of_lt q)), List.nodup_iff_pairwise_ne.mpr (p.imp fun {a b} q (e : a = b) => by rw [e] at q; exact List.lt_irrefl _ q), fun _ => .rfl⟩
theorem rise_iff {ws : List Str} : riseB ws = true ↔ AscOf ws ws := ⟨rise_asc, fun h => asc_rise (sorted_pair h.1) h.2.1⟩
theorem sideB_iff {ws : List Str} : sideB ws = true ↔ 2 ≤ ws.length ∧ (∀ w ∈ ws, IsNm w) ∧ AscOf ws ws := by
  unfold sideB
  rw [Bool.and_eq_true, Bool.and_eq_true, decide_eq_true_iff, rise_iff, List.all_eq_true]
  exact ⟨fun ⟨a, b, c⟩ => ⟨a, fun w h => nmB_iff.mp (b w h), c⟩, fun ⟨a, b, c⟩ => ⟨a, fun w h => nmB_iff.mpr (b w h), c⟩⟩
theorem split_two {z a b : Str} (e : Txt.split z (Str.ofString " | ") = [a, b]) : z = cutText (Txt.split a (Str.ofString " ")) (Txt.split b (Str.ofString " ")) := by
  unfold cutText
  rw [split_back, split_back]
  have := split_back z (Str.ofString " | ")
  rw [e] at this
  exact this.symm
/-- a cut of the words of a text has this text exactly if the text is read -/
theorem read_iff {z a b : Str} {ns ms hs ny fy : List Str} (e : Txt.split z (Str.ofString " | ") = [a, b]) (en : ns = Txt.split a (Str.ofString " ")) (em : ms = Txt.split b (Str.ofString " ")) (cn : CutOf ns ms hs ny fy) (nn : ∀ w ∈ ns, IsNm w) (nm : ∀ w ∈ ms, IsNm w) (ln : 2 ≤ ns.length) (lm : 2 ≤ ms.length) (ap : apartS ns ms) :
    (cutText ny fy = z → readC z = some (ny, fy)) ∧ (cutText ny fy ≠ z → readC z = none) := by
  have ez := split_two e
  rw [← en, ← em] at ez
  have hn : ns ≠ [] := by rintro rfl; simp at ln
  have hm : ms ≠ [] := by rintro rfl; simp at lm
  have tn := turned_of cn hn hm ap
  obtain ⟨ya, yb, aa, ab, y0, z0, ey, ez0, h⟩ := id tn
  have nya : ∀ w ∈ ya, IsNm w := fun w hw => nn w ((aa.2.2 w).mp hw)
  have nyb : ∀ w ∈ yb, IsNm w := fun w hw => nm w ((ab.2.2 w).mp hw)
  have hya : ya ≠ [] := by rintro rfl; cases ey
  have hyb : yb ≠ [] := by rintro rfl; cases ez0
  have hd : ∀ {l : List Str} {x : Str}, l.head? = some x → l.headD "" = x := fun {l x} q => by cases l with | nil => cases q | cons a r => cases q; rfl
  have fwd : cutText ny fy = z → ny = ns ∧ fy = ms ∧ ya = ns ∧ yb = ms ∧ ltCps y0.cps.toList z0.cps.toList = true := fun q => by
    rw [ez] at q
    rcases h with ⟨lt, rfl, rfl⟩ | ⟨lt, rfl, rfl⟩
    · obtain ⟨q1, q2⟩ := cutText_inj nya nyb nn nm hya hyb hn hm q
      exact ⟨q1, q2, q1, q2, lt⟩
    · obtain ⟨q1, q2⟩ := cutText_inj nyb nya nn nm hyb hya hn hm q
      refine absurd ?_ (ap z0 ?_)
      · exact (ab.2.2 z0).mp (List.mem_of_mem_head? ez0)
      · rw [← q1]; exact List.mem_of_mem_head? ez0
  have rd : readC z = if (sideB ns && (sideB ms && (apartB ns ms && ltCps (ns.headD "").cps.toList (ms.headD "").cps.toList))) = true then some (ns, ms) else none := by
    unfold readC
    rw [e, en, em]
  constructor
  · intro q
    obtain ⟨rfl, rfl, r1, r2, lt⟩ := fwd q
    rw [rd, if_pos]
    rw [Bool.and_eq_true, Bool.and_eq_true, Bool.and_eq_true]
    refine ⟨sideB_iff.mpr ⟨ln, nn, r1 ▸ aa.self⟩, sideB_iff.mpr ⟨lm, nm, r2 ▸ ab.self⟩, apartB_iff.mpr ap, ?_⟩
    rw [← r1, ← r2, hd ey, hd ez0]
    exact lt
  · intro q
    rw [rd, if_neg]
    intro c
    rw [Bool.and_eq_true, Bool.and_eq_true, Bool.and_eq_true] at c
    obtain ⟨c1, c2, _, c4⟩ := c
    obtain ⟨_, _, a1⟩ := sideB_iff.mp c1
    obtain ⟨_, _, a2⟩ := sideB_iff.mp c2
    have r1 := aa.unique a1
    have r2 := ab.unique a2
    rw [← r1, ← r2, hd ey, hd ez0] at c4
    rcases h with ⟨lt, rfl, rfl⟩ | ⟨lt, rfl, rfl⟩
    · exact q (by rw [ez, r1, r2])
    · rw [c4] at lt
      cases lt
theorem read_none {z a b : Str} (e : Txt.split z (Str.ofString " | ") = [a, b]) (h : ¬ ((2 ≤ (Txt.split a (Str.ofString " ")).length ∧ (∀ w ∈ Txt.split a (Str.ofString " "), IsNm w) ∧ (Txt.split a (Str.ofString " ")).Nodup) ∧ (2 ≤ (Txt.split b (Str.ofString " ")).length ∧ (∀ w ∈ Txt.split b (Str.ofString " "), IsNm w) ∧ (Txt.split b (Str.ofString " ")).Nodup) ∧ apartS (Txt.split a (Str.ofString " ")) (Txt.split b (Str.ofString " ")))) : readC z = none := by
  unfold readC
  rw [e]
  refine if_neg fun c => h ?_
  rw [Bool.and_eq_true, Bool.and_eq_true, Bool.and_eq_true] at c
  obtain ⟨c1, c2, c3, _⟩ := c
  obtain ⟨l1, n1, a1⟩ := sideB_iff.mp c1
  obtain ⟨l2, n2, a2⟩ := sideB_iff.mp c2
  exact ⟨⟨l1, n1, a1.2.1⟩, ⟨l2, n2, a2.2.1⟩, apartB_iff.mp c3⟩
end Z
namespace Z
open PySem PySem.Spec PyProof.Rows L2 TL
theorem rowN_side {ns : List Str} (l : 2 ≤ ns.length) (h : ∀ n ∈ ns, IsNm n) (d : ns.Nodup) : sideD (rowN (ns.map V.str)) = true := by
  rw [rowN_of h d]
  exact decide_eq_true l
/-- words that make no cut -/
theorem bad_none {z a b part : Str} (e : Txt.split z (Str.ofString " | ") = [a, b]) (h : cutBad part (rowN ((Txt.split a (Str.ofString " ")).map V.str)) (rowN ((Txt.split b (Str.ofString " ")).map V.str))) : readC z = none := by
  refine read_none e ?_
  rintro ⟨⟨l1, n1, d1⟩, ⟨l2, n2, d2⟩, ap⟩
  rcases h with ⟨_, q⟩ | ⟨_, _, q | ⟨x, y, q1, q2, q⟩⟩
  · rw [rowN_side l1 n1 d1] at q
    cases q
  · rw [rowN_side l2 n2 d2] at q
    cases q
  · rw [rowN_of n1 d1] at q1
    rw [rowN_of n2 d2] at q2
    cases q1
    cases q2
    exact q ap
theorem read_three {z : Str} (h : ∀ a b, Txt.split z (Str.ofString " | ") ≠ [a, b]) : readC z = none := by
  unfold readC
  split
  · rename_i a b e
    exact absurd e (h a b)
  · rfl
theorem kind_words {K : PySem.W.Frag} {H : Hp} {ws : List Str} {n : Nat} (h : ∀ w ∈ ws, w.length ≤ n) (hn : n ≤ 1000000) : ∀ v ∈ ws.map V.str, Kind K H v := fun v hv => by
  obtain ⟨w, hw, rfl⟩ := List.mem_map.mp hv
  exact .inl ⟨w, rfl, fit (Nat.le_trans (h w hw) hn)⟩
end Z
namespace Z
open PySem PySem.Spec PyProof.Rows L2 TL
/-! ### texts with a slash -/
theorem tl_slash : tl (Str.ofString " / ") = [32, 47, 32] := by decide +kernel
theorem join_noP {ws : List Str} (h : ∀ w ∈ ws, IsNm w) : 47 ∉ tl (Txt.join (Str.ofString " ") ws) := fun m => by
  rw [join_eq, tl_join, tl_sp] at m
  rcases of_joinL _ m with m | ⟨w, hw, m⟩
  · simp at m
  · obtain ⟨z, hz, rfl⟩ := List.mem_map.mp hw
    exact nm_no (h z hz) (by omega) m
def partText (ny fy : List Str) : Str := Txt.join (Str.ofString " ") ny ++ Str.ofString " / " ++ Txt.join (Str.ofString " ") fy
theorem partText_inj {a b c d : List Str} (ha : ∀ w ∈ a, IsNm w) (hb : ∀ w ∈ b, IsNm w) (hc : ∀ w ∈ c, IsNm w) (hd : ∀ w ∈ d, IsNm w) (na : a ≠ []) (nb : b ≠ []) (nc : c ≠ []) (nd : d ≠ []) (e : partText a b = partText c d) : a = c ∧ b = d := by
  have e := congrArg tl e
  unfold partText at e
  rw [tl_append, tl_append, tl_append, tl_append, tl_slash, List.append_assoc, List.append_assoc] at e
  have e : (tl (Txt.join (Str.ofString " ") a) ++ [32]) ++ 47 :: ([32] ++ tl (Txt.join (Str.ofString " ") b)) = (tl (Txt.join (Str.ofString " ") c) ++ [32]) ++ 47 :: ([32] ++ tl (Txt.join (Str.ofString " ") d)) := by simpa using e
  have no : ∀ {ws : List Str}, (∀ w ∈ ws, IsNm w) → 47 ∉ tl (Txt.join (Str.ofString " ") ws) ++ [32] := fun h m => by
    rcases List.mem_append.mp m with m | m
    · exact join_noP h m
    · simp at m
  obtain ⟨e1, e2⟩ := bars_one e (no ha) (no hc)
  exact ⟨join_inj ha hc na nc (str_ext (List.append_cancel_right e1)), join_inj hb hd nb nd (str_ext (List.append_cancel_left e2))⟩
def coupB (ws : List Str) : Bool := decide (ws.length = 2) && (ws.all nmB && riseB ws)
def readP (z : Str) : Option (List Str × List Str) := match Txt.split z (Str.ofString " / ") with
  | [a, b] =>
    let ns := Txt.split a (Str.ofString " ")
    let ms := Txt.split b (Str.ofString " ")
    if (coupB ns && (coupB ms && (apartB ns ms && ltCps (ns.headD "").cps.toList (ms.headD "").cps.toList))) = true then some (ns, ms) else none
  | _ => none
theorem coupB_iff {ws : List Str} : coupB ws = true ↔ ws.length = 2 ∧ (∀ w ∈ ws, IsNm w) ∧ AscOf ws ws := by
  unfold coupB
  rw [Bool.and_eq_true, Bool.and_eq_true, decide_eq_true_iff, rise_iff, List.all_eq_true]
  exact ⟨fun ⟨a, b, c⟩ => ⟨a, fun w h => nmB_iff.mp (b w h), c⟩, fun ⟨a, b, c⟩ => ⟨a, fun w h => nmB_iff.mpr (b w h), c⟩⟩
theorem split_twoP {z a b : Str} (e : Txt.split z (Str.ofString " / ") = [a, b]) : z = partText (Txt.split a (Str.ofString " ")) (Txt.split b (Str.ofString " ")) := by
  unfold partText
  rw [split_back, split_back]
  have := split_back z (Str.ofString " / ")
  rw [e] at this
  exact this.symm
theorem read_iffP {z a b : Str} {ns ms hs ny fy : List Str} (e : Txt.split z (Str.ofString " / ") = [a, b]) (en : ns = Txt.split a (Str.ofString " ")) (em : ms = Txt.split b (Str.ofString " ")) (cn : CutOf ns ms hs ny fy) (nn : ∀ w ∈ ns, IsNm w) (nm : ∀ w ∈ ms, IsNm w) (ln : ns.length = 2) (lm : ms.length = 2) (ap : apartS ns ms) :
    (partText ny fy = z → readP z = some (ny, fy)) ∧ (partText ny fy ≠ z → readP z = none) := by
  have ez := split_twoP e
  rw [← en, ← em] at ez
  have hn : ns ≠ [] := by rintro rfl; simp at ln
  have hm : ms ≠ [] := by rintro rfl; simp at lm
  have tn := turned_of cn hn hm ap
  obtain ⟨ya, yb, aa, ab, y0, z0, ey, ez0, h⟩ := id tn
  have nya : ∀ w ∈ ya, IsNm w := fun w hw => nn w ((aa.2.2 w).mp hw)
  have nyb : ∀ w ∈ yb, IsNm w := fun w hw => nm w ((ab.2.2 w).mp hw)
  have hya : ya ≠ [] := by rintro rfl; cases ey
  have hyb : yb ≠ [] := by rintro rfl; cases ez0
  have hd : ∀ {l : List Str} {x : Str}, l.head? = some x → l.headD "" = x := fun {l x} q => by cases l with | nil => cases q | cons a r => cases q; rfl
  have fwd : partText ny fy = z → ny = ns ∧ fy = ms ∧ ya = ns ∧ yb = ms ∧ ltCps y0.cps.toList z0.cps.toList = true := fun q => by
    rw [ez] at q
    rcases h with ⟨lt, rfl, rfl⟩ | ⟨lt, rfl, rfl⟩
    · obtain ⟨q1, q2⟩ := partText_inj nya nyb nn nm hya hyb hn hm q
      exact ⟨q1, q2, q1, q2, lt⟩
    · obtain ⟨q1, q2⟩ := partText_inj nyb nya nn nm hyb hya hn hm q
      refine absurd ?_ (ap z0 ?_)
      · exact (ab.2.2 z0).mp (List.mem_of_mem_head? ez0)
      · rw [← q1]; exact List.mem_of_mem_head? ez0
  have rd : readP z = if (coupB ns && (coupB ms && (apartB ns ms && ltCps (ns.headD "").cps.toList (ms.headD "").cps.toList))) = true then some (ns, ms) else none := by
    unfold readP
    rw [e, en, em]
  constructor
  · intro q
    obtain ⟨rfl, rfl, r1, r2, lt⟩ := fwd q
    rw [rd, if_pos]
    rw [Bool.and_eq_true, Bool.and_eq_true, Bool.and_eq_true]
    refine ⟨coupB_iff.mpr ⟨ln, nn, r1 ▸ aa.self⟩, coupB_iff.mpr ⟨lm, nm, r2 ▸ ab.self⟩, apartB_iff.mpr ap, ?_⟩
    rw [← r1, ← r2, hd ey, hd ez0]
    exact lt
  · intro q
    rw [rd, if_neg]
    intro c
    rw [Bool.and_eq_true, Bool.and_eq_true, Bool.and_eq_true] at c
    obtain ⟨c1, c2, _, c4⟩ := c
    obtain ⟨_, _, a1⟩ := coupB_iff.mp c1
    obtain ⟨_, _, a2⟩ := coupB_iff.mp c2
    have r1 := aa.unique a1
    have r2 := ab.unique a2
    rw [← r1, ← r2, hd ey, hd ez0] at c4
    rcases h with ⟨lt, rfl, rfl⟩ | ⟨lt, rfl, rfl⟩
    · exact q (by rw [ez, r1, r2])
    · rw [c4] at lt
      cases lt
theorem read_noneP {z a b : Str} (e : Txt.split z (Str.ofString " / ") = [a, b]) (h : ¬ (((Txt.split a (Str.ofString " ")).length = 2 ∧ (∀ w ∈ Txt.split a (Str.ofString " "), IsNm w) ∧ (Txt.split a (Str.ofString " ")).Nodup) ∧ ((Txt.split b (Str.ofString " ")).length = 2 ∧ (∀ w ∈ Txt.split b (Str.ofString " "), IsNm w) ∧ (Txt.split b (Str.ofString " ")).Nodup) ∧ apartS (Txt.split a (Str.ofString " ")) (Txt.split b (Str.ofString " ")))) : readP z = none := by
  unfold readP
  rw [e]
  refine if_neg fun c => h ?_
  rw [Bool.and_eq_true, Bool.and_eq_true, Bool.and_eq_true] at c
  obtain ⟨c1, c2, c3, _⟩ := c
  obtain ⟨l1, n1, a1⟩ := coupB_iff.mp c1
  obtain ⟨l2, n2, a2⟩ := coupB_iff.mp c2
  exact ⟨⟨l1, n1, a1.2.1⟩, ⟨l2, n2, a2.2.1⟩, apartB_iff.mp c3⟩
theorem rowN_coup {ns : List Str} (l : ns.length = 2) (h : ∀ n ∈ ns, IsNm n) (d : ns.Nodup) : coupleD (rowN (ns.map V.str)) = true := by
  rw [rowN_of h d]
  exact decide_eq_true l
theorem bad_noneP {z a b part : Str} (e : Txt.split z (Str.ofString " / ") = [a, b]) (h : partBad part (rowN ((Txt.split a (Str.ofString " ")).map V.str)) (rowN ((Txt.split b (Str.ofString " ")).map V.str))) : readP z = none := by
  refine read_noneP e ?_
  rintro ⟨⟨l1, n1, d1⟩, ⟨l2, n2, d2⟩, ap⟩
  rcases h with ⟨_, q⟩ | ⟨_, _, q | ⟨x, y, q1, q2, q⟩⟩
  · rw [rowN_coup l1 n1 d1] at q
    cases q
  · rw [rowN_coup l2 n2 d2] at q
    cases q
  · rw [rowN_of n1 d1] at q1
    rw [rowN_of n2 d2] at q2
    cases q1
    cases q2
    exact q ap
theorem read_threeP {z : Str} (h : ∀ a b, Txt.split z (Str.ofString " / ") ≠ [a, b]) : readP z = none := by
  unfold readP
  split
  · rename_i a b e
    exact absurd e (h a b)
  · rfl
end Z
namespace Z
open PySem PySem.Spec PyProof.Rows L2
/-! ### the order of data -/
def rOrdD (K : PySem.W.Frag) (f : PyData → PyData → Bool) : R2 := fun x y H Q => ∃ d e, Dp K H x d ∧ Dp K H y e ∧ PySem.W.alike d e = true ∧ d ≠ .none ∧ d.depth ≤ 64 ∧ Q (.bl (f d e)) H
section
variable {X : Cx} {K : PySem.W.Frag}
theorem room_ord {A : Around} {d e : PyData} (hu : A.units + 70 < cLine) (h : d.depth ≤ 64) : A.units + min d.depth e.depth < cLine := by omega
theorem kop_ltD (hu : X.A.units + 70 < cLine) (hK : X.K = K := by rfl) : OpR X (compareOp .Lt) (rOrdD K fun d e => PySem.W.dataLt d e) := by
  subst hK
  rintro pins s σ H x y v u Q I rx ry ⟨d, e, hd, he, al, nn, dp, q⟩
  obtain ⟨as, r1⟩ := Dp.reads I d x v hd rx
  obtain ⟨bs, r2⟩ := Dp.reads I e y u he ry
  exact PySem.W.lt_data r1 r2 al nn (room_ord hu dp) ⟨.bl _, H, I, rfl, q⟩
theorem kop_gtD (hu : X.A.units + 70 < cLine) (hK : X.K = K := by rfl) : OpR X (compareOp .Gt) (rOrdD K fun d e => PySem.W.dataLt e d) := by
  subst hK
  rintro pins s σ H x y v u Q I rx ry ⟨d, e, hd, he, al, nn, dp, q⟩
  obtain ⟨as, r1⟩ := Dp.reads I d x v hd rx
  obtain ⟨bs, r2⟩ := Dp.reads I e y u he ry
  exact PySem.W.gt_data r1 r2 al nn (room_ord hu dp) ⟨.bl _, H, I, rfl, q⟩
theorem kop_leD (hu : X.A.units + 70 < cLine) (hK : X.K = K := by rfl) : OpR X (compareOp .LtE) (rOrdD K fun d e => !PySem.W.dataLt e d) := by
  subst hK
  rintro pins s σ H x y v u Q I rx ry ⟨d, e, hd, he, al, nn, dp, q⟩
  obtain ⟨as, r1⟩ := Dp.reads I d x v hd rx
  obtain ⟨bs, r2⟩ := Dp.reads I e y u he ry
  exact PySem.W.le_data r1 r2 al nn (room_ord hu dp) ⟨.bl _, H, I, rfl, q⟩
theorem kop_geD (hu : X.A.units + 70 < cLine) (hK : X.K = K := by rfl) : OpR X (compareOp .GtE) (rOrdD K fun d e => !PySem.W.dataLt d e) := by
  subst hK
  rintro pins s σ H x y v u Q I rx ry ⟨d, e, hd, he, al, nn, dp, q⟩
  obtain ⟨as, r1⟩ := Dp.reads I d x v hd rx
  obtain ⟨bs, r2⟩ := Dp.reads I e y u he ry
  exact PySem.W.ge_data r1 r2 al nn (room_ord hu dp) ⟨.bl _, H, I, rfl, q⟩
end
/-- rows of texts, by the first place at which they differ -/
def lexS : List Str → List Str → Bool
  | [], [] => false
  | [], _ :: _ => true
  | _ :: _, [] => false
  | x :: xs, y :: ys => if x = y then lexS xs ys else sLt x y
theorem alike_strs : ∀ xs ys : List Str, PySem.W.alikeAll (xs.map PyData.str) (ys.map PyData.str) = true
  | [], _ => by simp only [List.map_nil, PySem.W.alikeAll]
  | _ :: _, [] => by simp only [List.map_cons, List.map_nil, PySem.W.alikeAll]
  | x :: xs, y :: ys => by
    simp only [List.map_cons, PySem.W.alikeAll, PySem.W.alike, Bool.true_and]
    exact alike_strs xs ys
theorem lex_strs : ∀ xs ys : List Str, PyProof.Rows.lexLt PyProof.Rows.itemOrd (PySem.W.keyToksAll (xs.map PyData.str)) (PySem.W.keyToksAll (ys.map PyData.str)) = lexS xs ys
  | [], [] => by simp only [List.map_nil, PySem.W.keyToksAll, lexS]; rfl
  | [], _ :: _ => by simp only [List.map_nil, List.map_cons, PySem.W.keyToksAll, lexS]; rfl
  | _ :: _, [] => by simp only [List.map_nil, List.map_cons, PySem.W.keyToksAll, lexS]; rfl
  | x :: xs, y :: ys => by
    have al : PySem.W.alike (.str x) (.str y) = true := by simp only [PySem.W.alike]
    have eq : PyData.eqv (.str x) (.str y) = decide (x = y) := by
      have := eqv_strs [x] [y]
      simp only [List.map_cons, List.map_nil, PyData.eqvAll, Bool.and_true] at this
      rw [this]
      simp
    show PyProof.Rows.lexLt PyProof.Rows.itemOrd (PySem.W.keyToksAll (PyData.str x :: xs.map PyData.str)) (PySem.W.keyToksAll (PyData.str y :: ys.map PyData.str)) = if x = y then lexS xs ys else sLt x y
    by_cases h : x = y
    · rw [PySem.W.dataLt_all_yes al (by rw [eq, decide_eq_true h]), if_pos h, lex_strs xs ys]
    · rw [PySem.W.dataLt_all_no al (by rw [eq, decide_eq_false h]), if_neg h, PySem.W.dataLt_str]
      rfl
theorem lt_strs (xs ys : List Str) : PySem.W.dataLt (.tuple (xs.map PyData.str)) (.tuple (ys.map PyData.str)) = lexS xs ys := by rw [PySem.W.dataLt_tuple, lex_strs]
theorem alike_tup (xs ys : List Str) : PySem.W.alike (.tuple (xs.map PyData.str)) (.tuple (ys.map PyData.str)) = true := by
  simp only [PySem.W.alike]
  exact alike_strs xs ys
theorem lex_two {a b c d : PyData} (h1 : PySem.W.alike a c = true) (h2 : PySem.W.alike b d = true) : PySem.W.dataLt (.tuple [a, b]) (.tuple [c, d]) = if PyData.eqv a c = true then PySem.W.dataLt b d else PySem.W.dataLt a c := by
  rw [PySem.W.dataLt_tuple]
  cases e : PyData.eqv a c with
  | true =>
    rw [PySem.W.dataLt_all_yes h1 e, if_pos rfl]
    cases e2 : PyData.eqv b d with
    | true =>
      rw [PySem.W.dataLt_all_yes h2 e2]
      have k : PySem.W.keyToks b = PySem.W.keyToks d := (PySem.W.toks_eqv b d h2).1 e2
      unfold PySem.W.dataLt
      rw [k]
      refine Eq.trans ?_ (PySem.W.dataLt_self d).symm
      simp only [PySem.W.keyToksAll]; rfl
    | false => rw [PySem.W.dataLt_all_no h2 e2]
  | false => rw [PySem.W.dataLt_all_no h1 e, if_neg Bool.false_ne_true]
theorem alike_two {a b c d : PyData} (h1 : PySem.W.alike a c = true) (h2 : PySem.W.alike b d = true) : PySem.W.alike (.tuple [a, b]) (.tuple [c, d]) = true := by
  simp only [PySem.W.alike, PySem.W.alikeAll, h1, h2, Bool.and_true]
/-! ### partings by their order -/
def pKey (a : List Str × List Str × List Str) : PyData := .tuple [.tuple (a.1.map .str), .tuple [.tuple (a.2.1.map .str), .tuple (a.2.2.map .str)]]
def ltP (a b : List Str × List Str × List Str) : Bool := if a.1 = b.1 then (if a.2.1 = b.2.1 then lexS a.2.2 b.2.2 else lexS a.2.1 b.2.1) else lexS a.1 b.1
theorem alike_pKey (a b : List Str × List Str × List Str) : PySem.W.alike (pKey a) (pKey b) = true := alike_two (alike_tup _ _) (alike_two (alike_tup _ _) (alike_tup _ _))
theorem lt_pKey (a b : List Str × List Str × List Str) : PySem.W.dataLt (pKey a) (pKey b) = ltP a b := by
  unfold pKey ltP
  rw [lex_two (alike_tup _ _) (alike_two (alike_tup _ _) (alike_tup _ _)), lex_two (alike_tup _ _) (alike_tup _ _), eqv_tup, eqv_tup, lt_strs, lt_strs, lt_strs]
  simp only [decide_eq_true_eq]
theorem depth_pKey (a : List Str × List Str × List Str) : (pKey a).depth ≤ 64 := by simp [pKey, PyData.depth, PyData.depthAll, deep_strs]
end Z
namespace Z
open PySem PySem.Spec PyProof.Rows L2
/-! ### enumerate of a tuple -/
section
abbrev enumO (it : Addr) : Obj := { cls := .type "enumerate", data := .fields #[.none, .bool false, .ref it, rawInt 0, .none, .none] }
theorem enum_made {v : Value} {o : Obj} {L : Heap → Prop} (B : Begins v o L) : Meets (Builtin.«enumerate.__new__» ⟨[.type "enumerate", v], []⟩) (fun _ R s => L s.heap ∧ R (.ok (.ret (.ref (s.heap.push o).objs.size))) { s with heap := (s.heap.push o).push (enumO s.heap.objs.size) }) :=
  .of_wp fun prog w A R s h => by
    obtain ⟨hp, g, d, tk, os⟩ := s; obtain ⟨l, k⟩ := h
    have u := sub_enumerate
    have it : ∀ {A' : Around} {E Q : Value → Shared → Prop}, Q (.ref hp.objs.size) ⟨hp.push o, g, d, tk, os⟩ → wpAny (model prog w) A' (pyIter v) Q E ⟨hp, g, d, tk, os⟩ := fun q => B.iter prog w _ _ ⟨hp, g, d, tk, os⟩ _ l q
    wp_walk using it
    refine wpAny_stack_any (fun x => (wpAny_pure ?_)); split
    · rename_i c _ _ _ _ _; cases (c == Value.type "enumerate") <;> (wp_walk using it; exact ⟨_, rfl, k⟩)
    · wp_walk using it; exact ⟨_, rfl, k⟩
variable {prog : Program} {w : World} {A : Around} {E : Value → Shared → Prop} {s : Shared}
theorem call_enumB {v : Value} {o : Obj} {L : Heap → Prop} {Q : Value → Shared → Prop} (B : Begins v o L) (l : L s.heap)
    (h : ∀ h', IsEnum h' (s.heap.objs.size + 1) s.heap.objs.size 0 .none → h'.get? s.heap.objs.size = some o → (∀ b o, s.heap.get? b = some o → h'.get? b = some o) → Q (.ref (s.heap.objs.size + 1)) { s with heap := h' }) : wpAny (model prog w) A (call (.type "enumerate") [v]) Q E s := by
  have z : (s.heap.push o).objs.size = s.heap.objs.size + 1 := Heap.size_push ..
  refine callType_new F.called_enumerate (by decide) (F.typeCall_enumerate_1 _) (F.newCall_enumerate_1 _) (fun q => F.args_object_init_2 q _) F.entry_enumerate_new (enum_made B) ⟨l, ?_⟩
  show _ ∧ _; rw [z]
  have e : IsEnum ((s.heap.push o).push (enumO s.heap.objs.size)) (s.heap.objs.size + 1) s.heap.objs.size 0 .none := by have q := Heap.get?_push_size (s.heap.push o) (o := enumO s.heap.objs.size) rfl; rw [z] at q; exact q
  exact ⟨⟨_, e, rfl⟩, h _ e (Heap.get?_push_of_some _ (Heap.get?_push_size _ B.free)) fun b o x => Heap.get?_push_of_some _ (Heap.get?_push_of_some _ x)⟩
end
/-- the items of the tuple at a in new pairs -/
def IteT (K : PySem.W.Frag) (a : Addr) : It := ⟨fun i H => ∃ (xs : List V) (x : V), SqT K H a xs ∧ xs[i]? = some x,
  fun i H v H' => ∃ T x, v = .ref T ∧ H T = none ∧ H' = upd H T (.tup [.int (i : Nat), x]) ∧ ∀ xs, SqT K H a xs → xs[i]? = some x, fun i H => ∃ xs : List V, SqT K H a xs ∧ xs.length ≤ i⟩
theorem enum_apart {h : Heap} {e it a : Addr} {i : Int} {old : Value} {its : Array Value} (he : IsEnum h e it i old) (ht : h.IsTuple a its) : e ≠ a := fun q => by
  subst q; obtain ⟨o, e1, c, _⟩ := ht; have e2 := he.symm.trans e1; cases e2; simp at c
theorem iter_apart {h : Heap} {it a : Addr} {i : Nat} {its : Array Value} (hi : h.IsTupleIter it a i) (ht : h.IsTuple a its) : a ≠ it := fun q => by
  subst q; obtain ⟨o, e1, c, _⟩ := ht; obtain ⟨o2, e2, c2, _⟩ := hi; rw [e1] at e2; cases e2; rw [c] at c2; simp at c2
theorem turn_enumT {P : Program} {w : World} {K : PySem.W.Frag} {elts : List Expr} {kk : Nat} {tpos : Pos} (a e it : Addr) :
    Turn P w K (.Tuple elts kk tpos) (IteT K a) [e, it] e (fun i h => (∃ old, IsEnum h e it ((i : Nat) : Int) old) ∧ h.IsTupleIter it a i ∧ e ≠ it) where
  mem := List.mem_cons_self ..
  obj := fun i h st b hb => by
    obtain ⟨⟨old, he⟩, ⟨o, ho, hc, hd⟩, _⟩ := st
    rcases List.mem_cons.mp hb with z | z
    · subst z; exact ⟨_, he, fun v q => nomatch q⟩
    · obtain rfl := List.mem_singleton.mp z; exact ⟨o, ho, fun v q => by rw [hd] at q; cases q⟩
  keep := fun i h h' ⟨⟨old, he⟩, hi, ne⟩ k => ⟨⟨old, k e (by simp) _ he⟩, hi.at fun o q => k it (by simp) o q, ne⟩
  item := by
    intro X hP hw hK hc i pins s σ H E I hf st hg
    subst hP hw hK
    obtain ⟨⟨old, he⟩, hit, ne⟩ := st; obtain ⟨xs, x, hq, hx⟩ := hg
    obtain ⟨its, rv, p, hz⟩ := I.tuple hq; obtain ⟨u, hu, ru⟩ := rv.get hx
    have le : e < s.heap.objs.size := Heap.lt_size he
    have li : it < s.heap.objs.size := by obtain ⟨_, q, _⟩ := hit; exact Heap.lt_size q
    have nea := enum_apart he p
    have nai := iter_apart hit p
    have lt : i < its.toArray.size := by have := (List.getElem?_eq_some_iff.mp hu).1; simpa using this
    refine wpAny_pyNext_enum_itemD (Draws.tuple (A := X.A.in1) (show X.A.in1.handled = none from I.ok.hd hc) it a nai its.toArray) he ⟨hit, p⟩ lt ne (by simp [ne, nea]) (fun y h' tk hy ho st' hT _ hk => ?_)
    have ey : y = u := by have q : its.toArray[i]? = some u := by simpa using hu
                          exact Option.some.inj (hy.symm.trans q)
    subst ey
    refine ⟨_, rfl, wpAny_letOwnedTupleGo_enum (s := { s with heap := h', toks := tk + 1 }) ho (fun h'' he' sb => ?_)⟩
    have T2 : h''.get? s.heap.objs.size = some { cls := .type "tuple", data := .seq #[.int i tk, y] } := (sb.2 _ (Nat.ne_of_gt le)).trans hT
    have I1 := I.turnedNew (t' := tk + 1) (ch := [e, it]) (T := s.heap.objs.size) (ob := .tup [.int (i : Nat), x]) (fun b ob hb q => (sb.2 b (fun z => hb (by simp [z]))).trans (hk b ob (fun z => hb (by simp [z])) (fun z => hb (by simp [z])) q)) hf (Nat.le_refl _)
      ⟨by show 2 ≤ sizeLine; decide, [.int i tk, y], .cons ⟨_, rfl⟩ (.cons ru .nil), ⟨_, T2, rfl, _, rfl⟩⟩
    refine ⟨.ref s.heap.objs.size, _, I1, rfl, ⟨_, x, rfl, I.hok.fresh (Nat.le_refl _), rfl, fun ys hy => by rw [I.tuple_inj hy hq]; exact hx⟩, ⟨⟨y, ?_⟩, st'.1.at fun o q => (sb.2 it (Ne.symm ne)).trans q, ne⟩, fun b hb => ?_⟩
    · rw [show ((i + 1 : Nat) : Int) = (i : Int) + 1 by omega]; exact he'
    · have lb : b < s.heap.objs.size := by
        rcases List.mem_cons.mp hb with z | z
        · rw [z]; exact le
        · rw [List.mem_singleton.mp z]; exact li
      rw [upd_ne (Nat.ne_of_lt lb)]; exact (hf b hb).1
  done := by
    intro X hP hw hK hc i pins s σ H E I hf st hg
    subst hP hw hK
    obtain ⟨⟨old, he⟩, hit, ne⟩ := st; obtain ⟨xs, hq, hx⟩ := hg
    obtain ⟨its, rv, p, hz⟩ := I.tuple hq; obtain ⟨f0, f1, f2, f3, f4, f5⟩ := hf it (by simp)
    have nai := iter_apart hit p
    have hl := rv.length
    unfold pyNext
    have T : s.TypeIs (.ref e) "enumerate" := ⟨_, he, rfl⟩
    refine wpAny_bind (wpAny_attempt (wpAny_callSpecial?_slot (name := "__next__") T F.slot_enumerate_next (wpAny_call_entry F.slot_enumerate_next T F.entry_enumerate_next ?_ (F.args_enumerate_next_1 _))))
    show wpAny _ _ (field (.ref e) 2 >>= _) _ _ _
    refine wpAny_bind (wpAny_field he rfl (x := .ref it) rfl (wpAny_bind (RZ.nextOf_tuple_end (I.ok.hd hc) hit p (by simp; omega) fun h' x eb hx' => ?_)))
    obtain ⟨o, ho, c⟩ := hx'
    exact wpAny_bind (wpAny_isInstance (T := "StopIteration") (b := true) ⟨o, ho, c⟩ isSubtype_stop (wpAny_pure ⟨rfl, I.turned (t' := s.toks) (fun b o hb q => eb b o hb q) f0 f1 f3 f4 f5⟩))
  self := fun A i s Q E ⟨⟨_, he⟩, _⟩ h => wpAny_pyIter_enum he h
def iEnumT (K : PySem.W.Frag) (ta : TA) : TI := fun σ H R => ta σ H fun vs H1 => ∃ a xs, vs = [.ref a] ∧ SqT K H1 a xs ∧ R (IteT K a) H1
theorem kpi_enumT {X : Cx} {K : PySem.W.Frag} {e : Expr} {ta : TA} {p pos tpos : Pos} {elts : List Expr} {kk : Nat} (hg : Gl X "enumerate") (hm : X.mg "enumerate" = none) (ha : PA X [e] ta) (hs : starEach [e] X.env = [(false, eval e X.env)] := by rfl) (hK : X.K = K := by rfl) :
    PI X (.Tuple elts kk tpos) (.Call (.Name "enumerate" p) [e] [] pos) (iEnumT K ta) := by
  subst hK
  refine ⟨fun pins s σ H R I h => Call_ (ld_blt I hg hm boot_enumerate (PyProof.Rows.callWith_type1 (thn (ha.run pos pins s σ H _ I h) fun us s1 ⟨vs, H1, I1, r1, q1⟩ => ?_) hs rfl))⟩
  obtain ⟨a, xs, rfl, hq, q⟩ := q1
  cases r1 with
  | cons r rr =>
    cases rr; cases r
    obtain ⟨its, rv, p', hz⟩ := I1.tuple hq
    refine call_enumB (begins_tuple a its.toArray) p' fun h' he hi hk => wpAny_pyIter_enum he ?_
    refine ⟨s1.heap.objs.size + 1, [s1.heap.objs.size + 1, s1.heap.objs.size], _, _, H1, rfl, I1.kept (t' := s1.toks) hk, turn_enumT a (s1.heap.objs.size + 1) s1.heap.objs.size, ⟨⟨.none, he⟩, ⟨_, hi, rfl, rfl⟩, Nat.succ_ne_self _⟩, fun b hb => ?_, q⟩
    have le : s1.heap.objs.size ≤ b := by
      rcases List.mem_cons.mp hb with z | z
      · rw [z]; exact Nat.le_add_right _ _
      · rw [List.mem_singleton.mp z]; exact Nat.le_refl _
    exact I1.fpOk le (I1.hok.fresh le)
theorem walk_enumT {K : PySem.W.Frag} {a : Addr} {xs : List V} : Walk (IteT K a) xs.length (fun H => SqT K H a xs) (YPair (fun i => some (.int (i : Nat))) (fun i => xs[i]?)) := by
  refine ⟨fun i _ hi q => ⟨xs, xs[i], q, by simp [hi]⟩, fun _ q => ⟨xs, q, Nat.le_refl _⟩, fun i H v H' _ q ⟨T, x, h1, h2, h3, h4⟩ => ⟨T, .int (i : Nat), x, h1, h2, h3, rfl, h4 xs q⟩⟩
end Z
namespace Z
open PySem PySem.Spec PyProof.Rows L2
/-! ### comprehensions whose items are new things -/
def RowsV (R : V → V → Hp → Prop) (H : Hp) : List V → List V → Prop
  | [], [] => True
  | r :: rs, x :: xs => R x r H ∧ RowsV R H rs xs
  | _, _ => False
theorem RowsV.len {R : V → V → Hp → Prop} {H : Hp} : ∀ {rs xs : List V}, RowsV R H rs xs → rs.length = xs.length
  | [], [], _ => rfl
  | _ :: rs, _ :: xs, h => by rw [List.length_cons, List.length_cons, RowsV.len (rs := rs) (xs := xs) h.2]
theorem RowsV.imp {R S : V → V → Hp → Prop} {H H' : Hp} : ∀ {rs xs : List V}, (∀ x r, R x r H → S x r H') → RowsV R H rs xs → RowsV S H' rs xs
  | [], [], _, _ => trivial
  | _ :: rs, _ :: xs, k, h => ⟨k _ _ h.1, RowsV.imp (rs := rs) (xs := xs) k h.2⟩
theorem RowsV.snoc {R : V → V → Hp → Prop} {H : Hp} {r x : V} (e : R x r H) : ∀ {rs xs : List V}, RowsV R H rs xs → RowsV R H (rs ++ [r]) (xs ++ [x])
  | [], [], _ => ⟨e, trivial⟩
  | _ :: rs, _ :: xs, h => ⟨h.1, RowsV.snoc e (rs := rs) (xs := xs) h.2⟩
theorem RowsV.app {R : V → V → Hp → Prop} {H : Hp} {rs2 xs2 : List V} (e : RowsV R H rs2 xs2) : ∀ {rs xs : List V}, RowsV R H rs xs → RowsV R H (rs ++ rs2) (xs ++ xs2)
  | [], [], _ => e
  | _ :: rs, _ :: xs, h => ⟨h.1, RowsV.app e (rs := rs) (xs := xs) h.2⟩
theorem RowsV.at {R : V → V → Hp → Prop} {H : Hp} : ∀ {rs xs : List V} {i : Nat} {x : V}, RowsV R H rs xs → xs[i]? = some x → ∃ r, rs[i]? = some r ∧ R x r H := by
  intro rs
  induction rs with
  | nil => intro xs i x h e; cases xs with
    | nil => cases e
    | cons _ _ => exact h.elim
  | cons r rs ih => intro xs i x h e; cases xs with
    | nil => exact h.elim
    | cons y xs => cases i with
      | zero => cases e; exact ⟨r, rfl, h.1⟩
      | succ i => exact ih (xs := xs) (i := i) h.2 e
theorem RowsV.at2 {R : V → V → Hp → Prop} {H : Hp} : ∀ {rs xs : List V} {i : Nat} {r : V}, RowsV R H rs xs → rs[i]? = some r → ∃ x, xs[i]? = some x ∧ R x r H := by
  intro rs
  induction rs with
  | nil => intro xs i x h e; cases e
  | cons r rs ih => intro xs i x h e; cases xs with
    | nil => exact h.elim
    | cons y xs => cases i with
      | zero => cases e; exact ⟨y, rfl, h.1⟩
      | succ i => exact ih (xs := xs) (i := i) h.2 e
structure Stays (R : V → V → Hp → Prop) : Prop where
  same : ∀ x r H H', Same H H' → R x r H → R x r H'
  lst : ∀ x r H a ys zs, H a = some (.lst ys) → R x r H → R x r (upd H a (.lst zs))
theorem Stays.but {R : V → V → Hp → Prop} (st : Stays R) {H H' : Hp} {p : Addr} {ys zs : List V} (hp : H p = some (.lst ys)) (hp' : H' p = some (.lst zs)) (b : But p H H') {x r : V} (h : R x r H) : R x r H' := by
  refine st.same x r _ _ (fun q o e => ?_) (st.lst x r H p ys zs hp h)
  by_cases z : q = p
  · rw [z] at e ⊢; rw [upd_same] at e; rw [hp']; exact e
  · rw [upd_ne z] at e; exact b _ _ z e
section
variable {J : It} {n : Nat} {G : Hp → Prop} {Y : Nat → Hp → V → Hp → Prop} {g : TG} {tt : TT} {te : TE} {vs : List Nat} {σ : L2.St} {H1 : Hp} {D : Addr} {Qd : Hp → Prop}
theorem lc_newV (w : Walk J n G Y) (xs : List V) (R : V → V → Hp → Prop) (st : Stays R) (hn : n = xs.length) (hY : ∀ i H x H', i < n → Y i H x H' → H' = H ∧ xs[i]? = some x) (hD : H1 D = none) (hG : ∀ H', Same H1 H' → G H') (hz : xs.length < sizeLine)
    (hs : ∀ x ∈ xs, ∀ H', Same H1 H' → ∀ (Kt : V → Hp → Prop) (Kf : Hp → Prop), (∀ r H2, Same H' H2 → R x r H2 → Kt r H2) → g x (wipe σ vs) H' fun σ2 H2 => wipe σ2 vs = wipe σ vs ∧ tt σ2 H2 fun b H3 => if b = true then te σ2 H3 Kt else Kf H3)
    (hd : ∀ H' rs, Same H1 H' → H' D = some (.lst rs) → RowsV R H' rs xs → Qd H') :
    ∃ W : Nat → Nat → Hp → Prop, (∃ m, W 0 m (upd H1 D (.lst []))) ∧ ∀ i m H, W i m H → (J.stop i H ∧ Qd H) ∨ (J.go i H ∧ ∃ Nx : Hp → Prop, (∀ H', Nx H' → ∃ m', m' < m ∧ W (i + 1) m' H') ∧ ∀ x H', J.yld i H x H' → g x (wipe σ vs) H' fun σ2 H2 => wipe σ2 vs = wipe σ vs ∧ tt σ2 H2 fun b H3 => if b = true then te σ2 H3 fun y H4 => ∃ acc, H4 D = some (.lst acc) ∧ acc.length < sizeLine ∧ Nx (upd H4 D (.lst (acc ++ [y]))) else Nx H3) := by
  refine lc_it w (fun i H => Same H1 H ∧ ∃ rs : List V, H D = some (.lst rs) ∧ RowsV R H rs (xs.take i)) ⟨same_new hD, [], upd_same, trivial⟩ (fun i H _ k => hG _ k.1) ?_ ?_
  · rintro i x H H' hi ⟨sm, rs, at_, fa⟩ y
    obtain ⟨rfl, hx⟩ := hY i _ x H' hi y
    refine hs x (List.mem_of_getElem? hx) _ sm _ _ (fun r H2 s2 re => ⟨_, s2 _ _ at_, ?_, fun b o h => by rw [upd_ne (ne_of_none h hD)]; exact s2 _ _ (sm _ _ h), rs ++ [r], upd_same, ?_⟩)
    · have := fa.len
      have b : (xs.take i).length ≤ xs.length := by rw [List.length_take]; omega
      omega
    · rw [show xs.take (i + 1) = xs.take i ++ [x] by rw [List.take_add_one, hx]; rfl]
      exact RowsV.snoc (st.lst _ _ _ _ _ _ (s2 _ _ at_) re) (fa.imp fun x r q => st.lst _ _ _ _ _ _ (s2 _ _ at_) (st.same _ _ _ _ s2 q))
  · rintro H ⟨sm, rs, at_, fa⟩
    rw [hn, List.take_length] at fa
    exact hd H rs sm at_ fa
end
/-! ### items with their places -/
def idxF (p : Nat → Bool) : Nat → List Str → List Str
  | _, [] => []
  | i, x :: xs => if p i = true then x :: idxF p (i + 1) xs else idxF p (i + 1) xs
theorem idxF_snoc (p : Nat → Bool) (x : Str) : ∀ (l : List Str) (k : Nat), idxF p k (l ++ [x]) = idxF p k l ++ if p (k + l.length) = true then [x] else []
  | [], k => by simp only [List.nil_append, idxF, List.length_nil, Nat.add_zero]
  | y :: l, k => by
    have ih := idxF_snoc p x l (k + 1)
    rw [show k + 1 + l.length = k + (y :: l).length by rw [List.length_cons]; omega] at ih
    simp only [List.cons_append, idxF, ih]
    split <;> rfl
section
variable {J : It} {n : Nat} {G : Hp → Prop} {g : TG} {tt : TT} {te : TE} {vs : List Nat} {σ : L2.St} {H1 : Hp} {D : Addr} {Qd : Hp → Prop}
theorem lc_enumF {xs : List Str} (w : Walk J n G (YPair (fun i => some (.int (i : Nat))) (fun i => (xs.map V.str)[i]?))) (p : Nat → Bool) (hn : n = xs.length) (hD : H1 D = none) (hG : ∀ H', Same H1 H' → G H') (hz : xs.length < sizeLine)
    (hs : ∀ i x T H', xs[i]? = some x → Same H1 H' → H' T = some (.tup [.int (i : Nat), .str x]) → ∀ (Kt : V → Hp → Prop) (Kf : Hp → Prop), (p i = true → ∀ H2, Same H' H2 → Kt (.str x) H2) → (p i = false → ∀ H2, Same H' H2 → Kf H2) → g (.ref T) (wipe σ vs) H' fun σ2 H2 => wipe σ2 vs = wipe σ vs ∧ tt σ2 H2 fun b H3 => if b = true then te σ2 H3 Kt else Kf H3)
    (hd : ∀ H', Same H1 H' → H' D = some (.lst ((idxF p 0 xs).map V.str)) → Qd H') :
    ∃ W : Nat → Nat → Hp → Prop, (∃ m, W 0 m (upd H1 D (.lst []))) ∧ ∀ i m H, W i m H → (J.stop i H ∧ Qd H) ∨ (J.go i H ∧ ∃ Nx : Hp → Prop, (∀ H', Nx H' → ∃ m', m' < m ∧ W (i + 1) m' H') ∧ ∀ x H', J.yld i H x H' → g x (wipe σ vs) H' fun σ2 H2 => wipe σ2 vs = wipe σ vs ∧ tt σ2 H2 fun b H3 => if b = true then te σ2 H3 fun y H4 => ∃ acc, H4 D = some (.lst acc) ∧ acc.length < sizeLine ∧ Nx (upd H4 D (.lst (acc ++ [y]))) else Nx H3) := by
  refine lc_it w (fun i H => Same H1 H ∧ H D = some (.lst ((idxF p 0 (xs.take i)).map V.str)) ∧ (idxF p 0 (xs.take i)).length ≤ i) ⟨same_new hD, upd_same, Nat.le_refl _⟩ (fun i H _ k => hG _ k.1) ?_ ?_
  · rintro i y H H' hi ⟨sm, at_, ln⟩ ⟨T, u, x, rfl, hT, rfl, e1, e2⟩
    obtain rfl : V.int (i : Nat) = u := Option.some.inj e1
    have e2 : (xs.map V.str)[i]? = some x := e2
    rw [List.getElem?_map] at e2
    obtain ⟨x, hx, rfl⟩ := Option.map_eq_some_iff.mp e2
    have sT := same_new (o := .tup [.int (i : Nat), .str x]) hT
    have lt : i < xs.length := by omega
    have ti : xs.take (i + 1) = xs.take i ++ [x] := by rw [List.take_add_one, hx]; rfl
    have li : (xs.take i).length = i := by rw [List.length_take]; omega
    have nx : idxF p 0 (xs.take (i + 1)) = idxF p 0 (xs.take i) ++ if p i = true then [x] else [] := by rw [ti, idxF_snoc, li, Nat.zero_add]
    refine hs i x T _ hx (sm.trans sT) upd_same _ _ (fun pt H2 s2 => ⟨_, s2 _ _ (sT _ _ at_), ?_, fun b o h => by rw [upd_ne (ne_of_none h hD)]; exact s2 _ _ (sT _ _ (sm _ _ h)), ?_, ?_⟩) fun pf H2 s2 => ⟨(sm.trans sT).trans s2, ?_, ?_⟩
    · rw [List.length_map]; omega
    · rw [upd_same, nx, if_pos pt, List.map_append]; rfl
    · rw [nx, if_pos pt, List.length_append, List.length_singleton]; omega
    · rw [nx, pf, if_neg Bool.false_ne_true, List.append_nil]; exact s2 _ _ (sT _ _ at_)
    · rw [nx, pf, if_neg Bool.false_ne_true, List.append_nil]; omega
  · rintro H ⟨sm, at_, _⟩
    rw [hn, List.take_length] at at_
    exact hd H sm at_
end
/-! ### data that can be shown and compared -/
structure Lit (n k : Nat) (d : PyData) : Prop where
  c : d.canLay0 = true
  w : d.weight ≤ n
  s : d.showable = true
  i : d.intsShort 13 = true
  d : d.depth ≤ k
structure LitAll (n k : Nat) (ds : List PyData) : Prop where
  c : PyData.canLayAll0 ds = true
  w : PyData.weightAll ds ≤ n
  s : PyData.showableAll ds = true
  i : PyData.intsShortAll 13 ds = true
  d : PyData.depthAll ds ≤ k
theorem Lit.str {x : Str} (h : IsNm x) : Lit 8 0 (.str x) := ⟨by simp only [PyData.canLay0]; exact h.ok, by simp only [PyData.weight]; exact h.hi, by simp only [PyData.showable], by simp only [PyData.intsShort], by simp [PyData.depth]⟩
theorem Lit.word {x : Str} {n : Nat} (h : Word n x) : Lit n 0 (.str x) := ⟨by simp only [PyData.canLay0]; exact h.p.ok, by simp only [PyData.weight]; exact h.l, by simp only [PyData.showable], by simp only [PyData.intsShort], by simp [PyData.depth]⟩
theorem Lit.bl (b : Bool) : Lit 0 0 (.bool b) := ⟨by simp only [PyData.canLay0], by simp only [PyData.weight]; omega, by simp only [PyData.showable], by simp only [PyData.intsShort], by simp [PyData.depth]⟩
theorem Lit.non : Lit 0 0 .none := ⟨by simp only [PyData.canLay0], by simp only [PyData.weight]; omega, by simp only [PyData.showable], by simp only [PyData.intsShort], by simp [PyData.depth]⟩
theorem Lit.mono {n m k l : Nat} {d : PyData} (h : Lit n k d) (a : n ≤ m) (b : k ≤ l) : Lit m l d := ⟨h.c, Nat.le_trans h.w a, h.s, h.i, Nat.le_trans h.d b⟩
theorem LitAll.nil : LitAll 0 0 [] := ⟨by simp only [PyData.canLayAll0], by simp only [PyData.weightAll]; omega, by simp only [PyData.showableAll], by simp only [PyData.intsShortAll], by simp [PyData.depthAll]⟩
theorem LitAll.cons {n m k l : Nat} {d : PyData} {ds : List PyData} (h : Lit n k d) (t : LitAll m l ds) : LitAll (n + 1 + m) (max k l) (d :: ds) :=
  ⟨by simp only [PyData.canLayAll0, h.c, t.c, Bool.and_self], by have := h.w; have := t.w; simp only [PyData.weightAll]; omega, by simp only [PyData.showableAll, h.s, t.s, Bool.and_self], by simp only [PyData.intsShortAll, h.i, t.i, Bool.and_self], by have := h.d; have := t.d; simp only [PyData.depthAll]; omega⟩
theorem LitAll.mono {n m k l : Nat} {ds : List PyData} (h : LitAll n k ds) (a : n ≤ m) (b : k ≤ l) : LitAll m l ds := ⟨h.c, Nat.le_trans h.w a, h.s, h.i, Nat.le_trans h.d b⟩
theorem Lit.list {n k : Nat} {ds : List PyData} (h : LitAll n k ds) : Lit n (k + 1) (.list ds) := ⟨by simp only [PyData.canLay0]; exact h.c, by simp only [PyData.weight]; exact h.w, by simp only [PyData.showable]; exact h.s, by simp only [PyData.intsShort]; exact h.i, by have := h.d; simp only [PyData.depth]; omega⟩
theorem Lit.tup {n k : Nat} {ds : List PyData} (h : LitAll n k ds) : Lit n (k + 1) (.tuple ds) := ⟨by simp only [PyData.canLay0]; exact h.c, by simp only [PyData.weight]; exact h.w, by simp only [PyData.showable]; exact h.s, by simp only [PyData.intsShort]; exact h.i, by have := h.d; simp only [PyData.depth]; omega⟩
theorem LitAll.of {n k : Nat} : ∀ {ds : List PyData}, (∀ d ∈ ds, Lit n k d) → LitAll ((n + 1) * ds.length) k ds
  | [], _ => by have := LitAll.nil.mono (Nat.le_refl 0) (Nat.zero_le k); simpa using this
  | d :: ds, h => by
    have := LitAll.cons (h d (.head _)) (LitAll.of fun x hx => h x (.tail _ hx))
    refine this.mono ?_ (by omega)
    rw [List.length_cons, Nat.mul_succ]; omega
theorem LitAll.strs {xs : List Str} (h : ∀ x ∈ xs, IsNm x) : LitAll (9 * xs.length) 0 (xs.map PyData.str) := by
  have := LitAll.of (n := 8) (k := 0) (ds := xs.map PyData.str) fun d hd => by obtain ⟨x, hx, rfl⟩ := List.mem_map.mp hd; exact .str (h x hx)
  rw [List.length_map] at this
  exact this
theorem LitAll.bools (bs : List Bool) : LitAll bs.length 0 (bs.map PyData.bool) := by
  have := LitAll.of (n := 0) (k := 0) (ds := bs.map PyData.bool) fun d hd => by obtain ⟨x, hx, rfl⟩ := List.mem_map.mp hd; exact .bl x
  rw [List.length_map] at this
  exact this.mono (by omega) (Nat.le_refl _)
theorem Lit.strs {xs : List Str} (h : ∀ x ∈ xs, IsNm x) : Lit (9 * xs.length) 1 (.tuple (xs.map PyData.str)) := .tup (.strs h)
theorem Lit.strsL {xs : List Str} (h : ∀ x ∈ xs, IsNm x) : Lit (9 * xs.length) 1 (.list (xs.map PyData.str)) := .list (.strs h)
theorem Lit.shaped {n k : Nat} {d : PyData} (h : Lit n k d) (b : k ≤ 64 := by omega) : SeqAt.shaped d = true := by
  unfold SeqAt.shaped
  rw [h.c, decide_eq_true (Nat.le_trans h.d b)]; rfl
theorem Lit.dict {n k : Nat} {d : PyData} (h : Lit n k d) : d.hasDict = false := PyData.hasDict_of_canLay d h.c
theorem Lit.ok {n k : Nat} {d : PyData} (h : Lit n k d) (a : n ≤ 1000000 := by omega) (b : k ≤ 64 := by omega) : d.showable = true ∧ d.hasDict = false ∧ d.depth ≤ 64 ∧ d.shown.length ≤ sizeLine := by
  refine ⟨h.s, h.dict, Nat.le_trans h.d b, shown_fit ?_ h.i⟩
  unfold PyData.layable0
  have w := h.w
  rw [h.c, decide_eq_true (Nat.le_trans h.d b), decide_eq_true (show d.weight ≤ 2 ^ 20 by omega)]; rfl
theorem kpg_tup {X : Cx} {K : PySem.W.Frag} {es : List Expr} {k : Nat} {pos : Pos} {t : TGs} {n : Nat} (hc : X.calm = true) (h : PGs X es t) (hn : (assignEach es X.env).length = n := by rfl) (hst : (assignEach es X.env).findIdx? (·.1) = none := by rfl) (hK : X.K = K := by rfl) : PG X (.Tuple es k pos) (gTup K n t) := by
  subst hK
  exact pg_tup hc h hn hst
/-! ### hosts that a law draws -/
structure Hosts (n : Nat) (hs : List Str) : Prop where
  len : hs.length = n
  nm : ∀ x ∈ hs, IsNm x
  nd : hs.Nodup
  so : sortedS hs = true
theorem names_of {L : List Str} (h : L.all nmB = true) : ∀ n ∈ L, IsNm n := fun n hn => nmB_iff.mp (List.all_eq_true.mp h n hn)
theorem Hosts.pair {n : Nat} {hs : List Str} (h : Hosts n hs) : hs.Pairwise leS := sorted_pair h.so
end Z
namespace Z
open PySem PySem.Spec PyProof.Rows L2 TL
/-! ### the text of a parting, read -/
theorem slash_pre {l : List Nat} (h : pre [32, 47, 32] l = true) : l[1]? = some 47 := by
  match l, h with
  | [], h => exact absurd h (by decide)
  | [a], h => simp [pre] at h
  | a :: b :: r, h =>
    simp [pre] at h
    simp [h]
theorem slash_free {p q : List Nat} (h : 47 ∉ p) (hq : q = [] ∨ ∃ r, q = 32 :: r) : ∀ i, i < p.length → pre [32, 47, 32] ((p ++ q).drop i) = false := fun i hi => by
  cases e : pre [32, 47, 32] ((p ++ q).drop i) with
  | false => rfl
  | true =>
    have e := slash_pre e
    rw [List.getElem?_drop] at e
    by_cases hl : i + 1 < p.length
    · rw [List.getElem?_append_left hl] at e
      exact absurd (List.mem_of_getElem? e) h
    · have q0 : i + 1 = p.length := by omega
      rw [q0, List.getElem?_append_right (Nat.le_refl _), Nat.sub_self] at e
      rcases hq with rfl | ⟨r, rfl⟩
      · simp at e
      · simp at e
theorem split_slash {a b : Str} (ha : 47 ∉ tl a) (hb : 47 ∉ tl b) : Txt.split (a ++ Str.ofString " / " ++ b) (Str.ofString " / ") = [a, b] := by
  refine map_tl_inj ?_
  rw [split_spl _ _ (by rw [tl_slash]; simp) (kind_ok (by decide +kernel)), tl_append, tl_append, tl_slash, List.append_assoc, spl_part (by simp) (slash_free ha (.inr ⟨_, rfl⟩)), spl_last (fun i hi => by
    have z := slash_free (q := []) hb (.inl rfl) i hi
    rw [List.append_nil] at z
    exact z)]
  rfl
theorem split_sps {ws : List Str} (hn : ws ≠ []) (h : ∀ w ∈ ws, IsNm w) : Txt.split (Txt.join (Str.ofString " ") ws) (Str.ofString " ") = ws :=
  split_join tl_sp (by decide +kernel) hn fun w hw => nm_no (h w hw) (by omega)
theorem readP_text {a b : List Str} (t : Two a b) (ha : AscOf a a) (hb : AscOf b b) {x y : Str} (ea : a.head? = some x) (eb : b.head? = some y) (lt : ltCps x.cps.toList y.cps.toList = true) : readP (partText a b) = some (a, b) := by
  have nmA : ∀ n ∈ a, IsNm n := fun n hn => t.nm n (List.mem_append_left _ hn)
  have nmB : ∀ n ∈ b, IsNm n := fun n hn => t.nm n (List.mem_append_right _ hn)
  have hN : a ≠ [] := by rintro rfl; cases ea
  have hF : b ≠ [] := by rintro rfl; cases eb
  have hd : ∀ {l : List Str} {x : Str}, l.head? = some x → l.headD "" = x := fun {l x} q => by cases l with | nil => cases q | cons a r => cases q; rfl
  unfold readP
  rw [show partText a b = Txt.join (Str.ofString " ") a ++ Str.ofString " / " ++ Txt.join (Str.ofString " ") b from rfl, split_slash (join_noP nmA) (join_noP nmB)]
  show (if (coupB (Txt.split (Txt.join (Str.ofString " ") a) (Str.ofString " ")) && _) = true then _ else _) = _
  rw [split_sps hN nmA, split_sps hF nmB, coupB_iff.mpr ⟨t.la, nmA, ha⟩, coupB_iff.mpr ⟨t.lb, nmB, hb⟩, apartB_iff.mpr t.cuts.apart, hd ea, hd eb, lt]
  rfl
theorem partText_len {a b : List Str} (t : Two a b) : (partText a b).length ≤ 900 := by
  have wn := Word.join (m := 1) (n := 8) (k := 2) (y := Str.ofString " ") (word_of (by decide +kernel)) (fun w hw => word_nm (t.nm w (List.mem_append_left _ hw))) (Nat.le_of_eq t.la)
  have wf := Word.join (m := 1) (n := 8) (k := 2) (y := Str.ofString " ") (word_of (by decide +kernel)) (fun w hw => word_nm (t.nm w (List.mem_append_right _ hw))) (Nat.le_of_eq t.lb)
  exact Nat.le_trans ((wn.app (word_of (n := 3) (x := Str.ofString " / ") (by decide +kernel))).app wf).l (by decide)
/-- four hosts in their order, and one of their partings -/
structure RowOk (f0 f1 f2 f3 m u v : Str) : Prop where
  two : Two [f0, m] [u, v]
  a1 : AscOf [f0, m] [f0, m]
  a2 : AscOf [u, v] [u, v]
  a4 : AscOf ([f0, m] ++ [u, v]) [f0, f1, f2, f3]
  lt : ltCps f0.cps.toList u.cps.toList = true
theorem AscOf.of_perm {xs zs ys : List Str} (p : xs.Perm zs) (h : AscOf xs ys) : AscOf zs ys := h.swap fun y => p.mem_iff
theorem RowOk.part {f0 f1 f2 f3 m u v : Str} {us ws hs ny fy : List Str} (ok : RowOk f0 f1 f2 f3 m u v) (pm : (us.Perm [f0, m] ∧ ws.Perm [u, v]) ∨ (us.Perm [u, v] ∧ ws.Perm [f0, m])) (c : CutOf us ws hs ny fy) : hs = [f0, f1, f2, f3] ∧ ny = [f0, m] ∧ fy = [u, v] := by
  have ne : f0 ≠ u := fun q => by have := ok.two.nd; rw [q] at this; simp at this
  have hh : hs = [f0, f1, f2, f3] := by
    refine (c.hosts.of_perm ?_).unique ok.a4
    rcases pm with ⟨a, b⟩ | ⟨a, b⟩
    · exact a.append b
    · exact (a.append b).trans List.perm_append_comm
  refine ⟨hh, ?_⟩
  obtain ⟨ya, yb, aa, ab, side⟩ := c.sides
  rw [hh] at side
  rcases pm with ⟨a, b⟩ | ⟨a, b⟩
  · obtain rfl := (aa.of_perm a).unique ok.a1
    obtain rfl := (ab.of_perm b).unique ok.a2
    rcases side with ⟨_, e1, e2⟩ | ⟨q, _, _⟩
    · exact ⟨e1, e2⟩
    · exact absurd rfl q
  · obtain rfl := (aa.of_perm a).unique ok.a2
    obtain rfl := (ab.of_perm b).unique ok.a1
    rcases side with ⟨q, _, _⟩ | ⟨_, e1, e2⟩
    · exact absurd (Option.some.inj q) ne
    · exact ⟨e1, e2⟩
theorem RowOk.turn {f0 f1 f2 f3 m u v : Str} {us ws : List Str} (ok : RowOk f0 f1 f2 f3 m u v) (pm : (us.Perm [f0, m] ∧ ws.Perm [u, v]) ∨ (us.Perm [u, v] ∧ ws.Perm [f0, m])) : Two us ws := by
  rcases pm with ⟨a, b⟩ | ⟨a, b⟩
  · exact ⟨fun n hn => ok.two.nm n ((a.append b).mem_iff.mp hn), (a.append b).nodup_iff.mpr ok.two.nd, a.length_eq, b.length_eq⟩
  · have p := (a.append b).trans List.perm_append_comm
    exact ⟨fun n hn => ok.two.nm n (p.mem_iff.mp hn), p.nodup_iff.mpr ok.two.nd, a.length_eq, b.length_eq⟩
/-! ### methods of own things, called by place -/
theorem pe_methB {X : Cx} {CX : CXT} {k : Nat} {C m : Str} {ps : List Str} {sp : Sp} {E : XK} {o e : Expr} {es : List Expr} {to : TE} {ta : TA} {apos pos : Pos} {pl : Sem Bool} (D : ∃ fd, FnOk X.prog X.w X.K X.mg X.base CX k (He.ma X.K (He.ga X.K C) m) fd ps sp ∧ Binds X.K fd ps []) (c : Cls X.K (He.ga X.K C)) (hm : Meth X.K (He.ga X.K C) m (He.ma X.K (He.ga X.K C) m)) (hr : Room k X.A) (hx : Passes CX X E) (ho : PE X o to) (ha : PA X (e :: es) ta)
    (hst : starEach (e :: es) X.env = (false, eval e X.env) :: starEach es X.env := by rfl) (hpl : (backTo pos (starEach es X.env)).any (·.1) = false := by rfl)
    (ht : eval (.Call (.Attribute o m apos) (e :: es) [] pos) X.env = (do
      let v ← eval o X.env
      standAt apos.atName
      let (g, first) ← holding [v] (getMethod v m pl)
      callWith pos g first (backTo pos (starEach (e :: es) X.env)) (backToKw pos (keywordEach [] X.env))) := by rfl) :
    PE X (.Call (.Attribute o m apos) (e :: es) [] pos) (tMeth (He.ga X.K C) m sp [] E to ta) := by
  obtain ⟨fd, F, b⟩ := D
  exact pe_meth ho c hm F hr b .nil hx ha hst hpl ht
theorem pe_methB0 {X : Cx} {CX : CXT} {k : Nat} {C m : Str} {ps : List Str} {sp : Sp} {E : XK} {o : Expr} {to : TE} {apos pos : Pos} {pl : Sem Bool} (D : ∃ fd, FnOk X.prog X.w X.K X.mg X.base CX k (He.ma X.K (He.ga X.K C) m) fd ps sp ∧ Binds X.K fd ps []) (c : Cls X.K (He.ga X.K C)) (hm : Meth X.K (He.ga X.K C) m (He.ma X.K (He.ga X.K C) m)) (hr : Room k X.A) (hx : Passes CX X E) (ho : PE X o to)
    (ht : eval (.Call (.Attribute o m apos) [] [] pos) X.env = (do
      let v ← eval o X.env
      standAt apos.atName
      let (g, first) ← holding [v] (getMethod v m pl)
      callWith pos g first (backTo pos (starEach [] X.env)) (backToKw pos (keywordEach [] X.env))) := by rfl) :
    PE X (.Call (.Attribute o m apos) [] [] pos) (tMeth (He.ga X.K C) m sp [] E to tNil) := by
  obtain ⟨fd, F, b⟩ := D
  exact pe_meth0 ho c hm F hr b .nil hx ht
end Z
namespace Z
open PySem PySem.Spec PyProof.Rows L2 TL
/-! ### hosts told by their places in an ascending row -/
def hAt (hs : List Str) (l : List Nat) : List Str := l.map fun i => hs.getD i ""
theorem getD_at {hs : List Str} {i : Nat} (h : i < hs.length) : hs.getD i "" = hs[i] := by rw [List.getD_eq_getElem?_getD, List.getElem?_eq_getElem h]; rfl
theorem Hosts.lt {n : Nat} {hs : List Str} (h : Hosts n hs) {i j : Nat} (ij : i < j) (jn : j < n) : ltCps (hs.getD i "").cps.toList (hs.getD j "").cps.toList = true := by
  have lj : j < hs.length := by rw [h.len]; exact jn
  have li : i < hs.length := by omega
  rw [getD_at lj, getD_at li]
  have le := List.pairwise_iff_getElem.mp h.pair i j li lj ij
  cases e : ltCps hs[i].cps.toList hs[j].cps.toList with
  | true => rfl
  | false => exact absurd (leS_anti le (show leS hs[j] hs[i] from e)) (List.pairwise_iff_getElem.mp (List.nodup_iff_pairwise_ne.mp h.nd) i j li lj ij)
theorem Hosts.inj {n : Nat} {hs : List Str} (h : Hosts n hs) {i j : Nat} (hi : i < n) (hj : j < n) (e : hs.getD i "" = hs.getD j "") : i = j := by
  rcases Nat.lt_trichotomy i j with q | q | q
  · have := h.lt q hj
    rw [e] at this
    exact absurd (lt_iff.mp this) (List.lt_irrefl _)
  · exact q
  · have := h.lt q hi
    rw [e] at this
    exact absurd (lt_iff.mp this) (List.lt_irrefl _)
theorem Hosts.mem {n : Nat} {hs : List Str} (h : Hosts n hs) {i : Nat} (hi : i < n) : hs.getD i "" ∈ hs := by rw [getD_at (by rw [h.len]; exact hi)]; exact List.getElem_mem _
theorem Hosts.nmAt {n : Nat} {hs : List Str} (h : Hosts n hs) {l : List Nat} (hl : ∀ i ∈ l, i < n) : ∀ x ∈ hAt hs l, IsNm x := fun x hx => by
  obtain ⟨i, hi, rfl⟩ := List.mem_map.mp hx
  exact h.nm _ (h.mem (hl i hi))
theorem Hosts.memAt {n : Nat} {hs : List Str} (h : Hosts n hs) {l : List Nat} (hl : ∀ i ∈ l, i < n) {i : Nat} (hi : i < n) : hs.getD i "" ∈ hAt hs l ↔ i ∈ l := by
  refine ⟨fun m => ?_, fun m => List.mem_map.mpr ⟨i, m, rfl⟩⟩
  obtain ⟨j, hj, e⟩ := List.mem_map.mp m
  exact h.inj (hl j hj) hi e ▸ hj
theorem Hosts.ndAt {n : Nat} {hs : List Str} (h : Hosts n hs) : ∀ {l : List Nat}, (∀ i ∈ l, i < n) → l.Nodup → (hAt hs l).Nodup
  | [], _, _ => List.nodup_nil
  | i :: l, hl, nd => by
    obtain ⟨a, b⟩ := List.nodup_cons.mp nd
    refine List.nodup_cons.mpr ⟨fun m => a ?_, h.ndAt (fun j hj => hl j (.tail _ hj)) b⟩
    exact (h.memAt (fun j hj => hl j (.tail _ hj)) (hl i (.head _))).mp m
theorem Hosts.riseAt {n : Nat} {hs : List Str} (h : Hosts n hs) : ∀ {l : List Nat}, (∀ i ∈ l, i < n) → l.Pairwise (· < ·) → riseB (hAt hs l) = true
  | [], _, _ => rfl
  | [_], _, _ => rfl
  | i :: j :: l, hl, p => by
    obtain ⟨a, b⟩ := List.pairwise_cons.mp p
    have ih := h.riseAt (l := j :: l) (fun k hk => hl k (.tail _ hk)) b
    show (ltCps (hs.getD i "").cps.toList (hs.getD j "").cps.toList && riseB (hAt hs (j :: l))) = true
    rw [h.lt (a j (.head _)) (hl j (.tail _ (.head _))), ih]
    rfl
theorem Hosts.ascAt {n : Nat} {hs : List Str} (h : Hosts n hs) {l : List Nat} (hl : ∀ i ∈ l, i < n) (p : l.Pairwise (· < ·)) : AscOf (hAt hs l) (hAt hs l) := rise_asc (h.riseAt hl p)
theorem Hosts.ascTo {n : Nat} {hs : List Str} (h : Hosts n hs) {l m : List Nat} (hl : ∀ i ∈ l, i < n) (p : l.Pairwise (· < ·)) (e : ∀ i, i ∈ l ↔ i ∈ m) : AscOf (hAt hs m) (hAt hs l) :=
  (h.ascAt hl p).swap fun y => ⟨fun q => by obtain ⟨i, hi, rfl⟩ := List.mem_map.mp q; exact List.mem_map.mpr ⟨i, (e i).mp hi, rfl⟩, fun q => by obtain ⟨i, hi, rfl⟩ := List.mem_map.mp q; exact List.mem_map.mpr ⟨i, (e i).mpr hi, rfl⟩⟩
theorem Hosts.eqAt {n : Nat} {hs : List Str} (h : Hosts n hs) : ∀ {l m : List Nat}, (∀ i ∈ l, i < n) → (∀ i ∈ m, i < n) → (hAt hs l = hAt hs m ↔ l = m)
  | [], [], _, _ => ⟨fun _ => rfl, fun _ => rfl⟩
  | [], _ :: _, _, _ => ⟨fun e => (List.cons_ne_nil _ _ e.symm).elim, fun e => (List.cons_ne_nil _ _ e.symm).elim⟩
  | _ :: _, [], _, _ => ⟨fun e => (List.cons_ne_nil _ _ e).elim, fun e => (List.cons_ne_nil _ _ e).elim⟩
  | i :: l, j :: m, hl, hm => by
    have ih := h.eqAt (l := l) (m := m) (fun k hk => hl k (.tail _ hk)) fun k hk => hm k (.tail _ hk)
    refine ⟨fun e => ?_, fun e => by rw [e]⟩
    obtain ⟨e1, e2⟩ := List.cons.inj e
    rw [h.inj (hl i (.head _)) (hm j (.head _)) e1, ih.mp e2]
def lexN : List Nat → List Nat → Bool
  | [], [] => false
  | [], _ :: _ => true
  | _ :: _, [] => false
  | x :: xs, y :: ys => if x = y then lexN xs ys else decide (x < y)
theorem Hosts.sLt {n : Nat} {hs : List Str} (h : Hosts n hs) {i j : Nat} (hi : i < n) (hj : j < n) : Z.sLt (hs.getD i "") (hs.getD j "") = decide (i < j) := by
  unfold Z.sLt
  rcases Nat.lt_trichotomy i j with q | q | q
  · rw [decide_eq_true q, decide_eq_true (lt_iff.mp (h.lt q hj))]
  · rw [q, decide_eq_false (List.lt_irrefl _), decide_eq_false (Nat.lt_irrefl _)]
  · rw [decide_eq_false (Nat.not_lt.mpr (Nat.le_of_lt q)), decide_eq_false (List.lt_asymm (lt_iff.mp (h.lt q hi)))]
theorem Hosts.lexAt {n : Nat} {hs : List Str} (h : Hosts n hs) : ∀ {l m : List Nat}, (∀ i ∈ l, i < n) → (∀ i ∈ m, i < n) → lexS (hAt hs l) (hAt hs m) = lexN l m
  | [], [], _, _ => rfl
  | [], _ :: _, _, _ => rfl
  | _ :: _, [], _, _ => rfl
  | i :: l, j :: m, hl, hm => by
    have ih := h.lexAt (l := l) (m := m) (fun k hk => hl k (.tail _ hk)) fun k hk => hm k (.tail _ hk)
    show (if hs.getD i "" = hs.getD j "" then lexS (hAt hs l) (hAt hs m) else Z.sLt (hs.getD i "") (hs.getD j "")) = if i = j then lexN l m else decide (i < j)
    by_cases q : i = j
    · rw [if_pos q, if_pos (by rw [q]), ih]
    · rw [if_neg q, if_neg fun e => q (h.inj (hl i (.head _)) (hm j (.head _)) e), h.sLt (hl i (.head _)) (hm j (.head _))]
/-- four places, told as a parting -/
def ltI (a b : List Nat × List Nat × List Nat) : Bool := if a.1 = b.1 then (if a.2.1 = b.2.1 then lexN a.2.2 b.2.2 else lexN a.2.1 b.2.1) else lexN a.1 b.1
structure InI (n : Nat) (a : List Nat × List Nat × List Nat) : Prop where
  f : ∀ i ∈ a.1, i < n
  p : ∀ i ∈ a.2.1, i < n
  q : ∀ i ∈ a.2.2, i < n
def hAt3 (hs : List Str) (a : List Nat × List Nat × List Nat) : List Str × List Str × List Str := (hAt hs a.1, hAt hs a.2.1, hAt hs a.2.2)
theorem Hosts.ltAt {n : Nat} {hs : List Str} (h : Hosts n hs) {a b : List Nat × List Nat × List Nat} (ha : InI n a) (hb : InI n b) : ltP (hAt3 hs a) (hAt3 hs b) = ltI a b := by
  unfold ltP ltI hAt3
  simp only [h.eqAt ha.f hb.f, h.eqAt ha.p hb.p, h.lexAt ha.f hb.f, h.lexAt ha.p hb.p, h.lexAt ha.q hb.q]
/-- what a parting of an ascending row of places keeps -/
theorem Hosts.rowOk {n : Nat} {hs : List Str} (h : Hosts n hs) {a b c d m u v : Nat} (i4 : [a, b, c, d].Pairwise (· < ·)) (dn : d < n) (p1 : a < m) (p2 : u < v) (p3 : a < u) (nd : ([a, m] ++ [u, v]).Nodup) (e : ∀ i, i ∈ [a, b, c, d] ↔ i ∈ [a, m] ++ [u, v]) : RowOk (hs.getD a "") (hs.getD b "") (hs.getD c "") (hs.getD d "") (hs.getD m "") (hs.getD u "") (hs.getD v "") := by
  have f4 : ∀ i ∈ [a, b, c, d], i < n := by
    simp only [List.pairwise_cons, List.mem_cons, List.not_mem_nil, or_false, forall_eq_or_imp, forall_eq] at i4
    intro i hi
    simp only [List.mem_cons, List.not_mem_nil, or_false] at hi
    omega
  have fa : ∀ i ∈ [a, m] ++ [u, v], i < n := fun i hi => f4 i ((e i).mpr hi)
  have f1 : ∀ i ∈ [a, m], i < n := fun i hi => fa i (List.mem_append_left _ hi)
  have f2 : ∀ i ∈ [u, v], i < n := fun i hi => fa i (List.mem_append_right _ hi)
  refine ⟨⟨?_, ?_, rfl, rfl⟩, h.ascAt f1 (by simpa using p1), h.ascAt f2 (by simpa using p2), ?_, h.lt p3 (f2 u (.head _))⟩
  · exact h.nmAt fa
  · exact h.ndAt fa nd
  · exact h.ascTo f4 i4 e
end Z
namespace Z
open PySem PySem.Spec PyProof.Rows L2
open AutoSeq1 (wpAny_loadPart')
open MeetsSeq MeetsSeq2 MeetsSeq3 SeqRoads2 SeqAt
/-! ### == and != of rows, item by item, each item by its own rule, to both ends -/
def allFrom (e : Nat → Bool) : Nat → Nat → Bool
  | _, 0 => true
  | i, k + 1 => e i && allFrom e (i + 1) k
section
variable {prog : Program} {w : World} {A : Around} {R : Result → Shared → Prop}
abbrev lObj (its : Array Value) (n : Nat) : Obj := { cls := .type "list", data := .seq its n }
/-- what a comparison of two lists keeps -/
structure LKeep (prog : Program) (w : World) (A : Around) (E : Value → Shared → Prop) (l b : Addr) (N : Nat) (e : Nat → Bool) (I : Shared → Prop) : Prop where
  at_ : ∀ s, I s → ∃ (xs ys : Array Value) (n m : Nat), s.heap.get? l = some (lObj xs n) ∧ s.heap.get? b = some (lObj ys m) ∧ xs.size = N ∧ ys.size = N ∧
    ∀ i (h1 : i < xs.size) (h2 : i < ys.size), wpAny (model prog w) A.in1 (eqBool xs[i] ys[i]) (fun r s' => r = e i ∧ I s') E s
theorem loopB (c : Nat) (f : Bool → Bool) (hc : (c = 2 ∧ f = id) ∨ (c = 3 ∧ f = not)) (l b : Addr) (N : Nat) (e : Nat → Bool) (I : Shared → Prop) (L : LKeep prog w A (fun e s' => R (.error e) s') l b N e I) (k : Nat) :
    ∀ i : Nat, N - i = k → i ≤ N → (∀ s, I s → R (.ok (.ret (.bool (f (allFrom e i k))))) s) → ∀ s, I s →
      wpAny (model prog w) A.in1 (Builtin.«list.__eq__.loop» ⟨[.ref l, .ref b, rawInt i, rawInt c], []⟩) (GQ.FinOf prog w A R) (fun e s' => R (.error e) s') s := by
  induction k with
  | zero =>
    intro i hk hi fin s h
    obtain ⟨xs, ys, n, m, q1, q2, z1, z2, _⟩ := L.at_ _ h
    have r := fin s h
    obtain ⟨hp, g, d, tk, os⟩ := s
    have x1 : xs[((i : Nat) : Int).toNat]? = none := by simp; omega
    have x2 : ys[((i : Nat) : Int).toNat]? = none := by simp; omega
    rcases hc with ⟨rfl, rfl⟩ | ⟨rfl, rfl⟩
    · wp_walk using wpAny_loadPart' q1, wpAny_loadPart' q2
      rw [x1, x2]; wp_walk using wpAny_loadPart' q1, wpAny_loadPart' q2
      show R (.ok (.ret (.bool (xs.size == ys.size)))) _
      rw [z1, z2]; simpa [allFrom] using r
    · wp_walk using wpAny_loadPart' q1, wpAny_loadPart' q2
      rw [x1, x2]; wp_walk using wpAny_loadPart' q1, wpAny_loadPart' q2
      show R (.ok (.ret (.bool (xs.size != ys.size)))) _
      rw [z1, z2]; simpa [allFrom] using r
  | succ k ih =>
    intro i hk hi fin s h
    obtain ⟨xs, ys, n, m, q1, q2, z1, z2, turn⟩ := L.at_ _ h
    have l1 : i < xs.size := by omega
    have l2 : i < ys.size := by omega
    have t := turn i l1 l2
    obtain ⟨hp, g, d, tk, os⟩ := s
    have x1 : xs[((i : Nat) : Int).toNat]? = some xs[i] := by simp [l1]
    have x2 : ys[((i : Nat) : Int).toNat]? = some ys[i] := by simp [l2]
    have up : ((i : Int) + 1) = ((i + 1 : Nat) : Int) := by omega
    rcases hc with ⟨rfl, rfl⟩ | ⟨rfl, rfl⟩
    · wp_walk using wpAny_loadPart' q1, wpAny_loadPart' q2
      rw [x1, x2]
      refine wpAny_bind (wpAny_mono t (fun r s2 h2 => ?_) (fun _ _ x => x))
      obtain ⟨rfl, h2⟩ := h2
      cases ei : e i with
      | true =>
        have rec_ := ih (i + 1) (by omega) (by omega) (fun s q => by have := fin s q; simp only [allFrom, ei, Bool.true_and] at this; exact this) s2 h2
        obtain ⟨hp2, g2, d2, tk2, os2⟩ := s2
        wp_walk
        rw [up]; exact ⟨plainId_quiet plain_eq_loop _, codeAny_builtin entry_eq_loop (by rw [Around.under_plainId plain_eq_loop _]; exact rec_)⟩
      | false =>
        have r := fin s2 h2
        simp only [allFrom, ei, Bool.false_and] at r
        obtain ⟨us, vs, n', m', p1, p2, y1, y2, _⟩ := L.at_ _ h2
        obtain ⟨hp2, g2, d2, tk2, os2⟩ := s2
        have x3 : us[((i : Nat) : Int).toNat]? = some (us[i]'(by omega)) := by simp [show i < us.size by omega]
        have x4 : vs[((i : Nat) : Int).toNat]? = some (vs[i]'(by omega)) := by simp [show i < vs.size by omega]
        wp_walk using wpAny_loadPart' p1, wpAny_loadPart' p2
        rw [x3, x4]; wp_walk
        exact r
    · wp_walk using wpAny_loadPart' q1, wpAny_loadPart' q2
      rw [x1, x2]
      refine wpAny_bind (wpAny_mono t (fun r s2 h2 => ?_) (fun _ _ x => x))
      obtain ⟨rfl, h2⟩ := h2
      cases ei : e i with
      | true =>
        have rec_ := ih (i + 1) (by omega) (by omega) (fun s q => by have := fin s q; simp only [allFrom, ei, Bool.true_and] at this; exact this) s2 h2
        obtain ⟨hp2, g2, d2, tk2, os2⟩ := s2
        wp_walk
        rw [up]; exact ⟨plainId_quiet plain_eq_loop _, codeAny_builtin entry_eq_loop (by rw [Around.under_plainId plain_eq_loop _]; exact rec_)⟩
      | false =>
        have r := fin s2 h2
        simp only [allFrom, ei, Bool.false_and] at r
        obtain ⟨us, vs, n', m', p1, p2, y1, y2, _⟩ := L.at_ _ h2
        obtain ⟨hp2, g2, d2, tk2, os2⟩ := s2
        have x3 : us[((i : Nat) : Int).toNat]? = some (us[i]'(by omega)) := by simp [show i < us.size by omega]
        have x4 : vs[((i : Nat) : Int).toNat]? = some (vs[i]'(by omega)) := by simp [show i < vs.size by omega]
        wp_walk using wpAny_loadPart' p1, wpAny_loadPart' p2
        rw [x3, x4]; wp_walk
        exact r
theorem list_eqB {l b : Addr} {N : Nat} {e : Nat → Bool} {I : Shared → Prop} (L : LKeep prog w A (fun e s' => R (.error e) s') l b N e I) (fin : ∀ s, I s → R (.ok (.ret (.bool (id (allFrom e 0 N))))) s) {s : Shared} (h : I s) :
    wpAny (model prog w) A.in1 (Builtin.«list.__eq__» ⟨[.ref l, .ref b], []⟩) (GQ.FinOf prog w A R) (fun e s' => R (.error e) s') s := by
  obtain ⟨xs, ys, n, m, q1, q2, z1, z2, _⟩ := L.at_ _ h
  have rec_ := loopB 2 id (.inl ⟨rfl, rfl⟩) l b N e I L N 0 (by omega) (by omega) fin s h
  obtain ⟨hp, g, d, tk, os⟩ := s
  have f3 := AutoSeq1.sub_list_list
  have ne : ¬ (xs.size != ys.size) = true := by simp [z1, z2]
  wp_walk using wpAny_loadPart' q1, wpAny_loadPart' q2
  exact ⟨plainId_quiet plain_eq_loop _, codeAny_builtin entry_eq_loop (by rw [Around.under_plainId plain_eq_loop _]; exact rec_)⟩
theorem list_eqS {l b : Addr} {xs ys : Array Value} {n m : Nat} {s : Shared} (q1 : s.heap.get? l = some (lObj xs n)) (q2 : s.heap.get? b = some (lObj ys m)) (z : xs.size ≠ ys.size) (r : R (.ok (.ret (.bool (id false)))) s) :
    wpAny (model prog w) A.in1 (Builtin.«list.__eq__» ⟨[.ref l, .ref b], []⟩) (GQ.FinOf prog w A R) (fun e s' => R (.error e) s') s := by
  obtain ⟨hp, g, d, tk, os⟩ := s
  have f3 := AutoSeq1.sub_list_list
  have ne : (xs.size != ys.size) = true := by simp [z]
  wp_walk using wpAny_loadPart' q1, wpAny_loadPart' q2
  exact r
theorem rc_list_eq {E : Value → Shared → Prop} {s : Shared} {l b : Addr} {N : Nat} {e : Nat → Bool} {Q : Value → Shared → Prop} (hu : A.units < cLine) (I : Shared → Prop) (L : LKeep prog w A E l b N e I) (fin : ∀ s, I s → Q (.bool (id (allFrom e 0 N))) s) (h : I s) : wpAny (model prog w) A (richCompare .Eq (.ref l) (.ref b)) Q E s := by
  obtain ⟨xs, ys, n, m, q1, q2, z1, z2, _⟩ := L.at_ _ h
  refine wpAny_richCompare_same_room (op := .Eq) ⟨_, q1, rfl⟩ ⟨_, q2, rfl⟩ F.slot_list_eq (GQ.call_here F.slot_list_eq ⟨_, q1, rfl⟩ F.entry_list_eq (F.args_list_eq_2 _ _) ?_) hu
  exact list_eqB (R := wants (fun v s' => v ≠ .notImplemented ∧ Q v s') E) L (fun s' q => ⟨(fun x => nomatch x), fin s' q⟩) h
theorem rc_list_eqS {E : Value → Shared → Prop} {s : Shared} {l b : Addr} {xs ys : Array Value} {n m : Nat} {Q : Value → Shared → Prop} (hu : A.units < cLine) (q1 : s.heap.get? l = some (lObj xs n)) (q2 : s.heap.get? b = some (lObj ys m)) (z : xs.size ≠ ys.size) (h : Q (.bool (id false)) s) : wpAny (model prog w) A (richCompare .Eq (.ref l) (.ref b)) Q E s := by
  refine wpAny_richCompare_same_room (op := .Eq) ⟨_, q1, rfl⟩ ⟨_, q2, rfl⟩ F.slot_list_eq (GQ.call_here F.slot_list_eq ⟨_, q1, rfl⟩ F.entry_list_eq (F.args_list_eq_2 _ _) ?_) hu
  exact list_eqS (R := wants (fun v s' => v ≠ .notImplemented ∧ Q v s') E) q1 q2 z ⟨(fun x => nomatch x), h⟩
theorem list_neB {l b : Addr} {N : Nat} {e : Nat → Bool} {I : Shared → Prop} (L : LKeep prog w A (fun e s' => R (.error e) s') l b N e I) (fin : ∀ s, I s → R (.ok (.ret (.bool (not (allFrom e 0 N))))) s) {s : Shared} (h : I s) :
    wpAny (model prog w) A.in1 (Builtin.«list.__ne__» ⟨[.ref l, .ref b], []⟩) (GQ.FinOf prog w A R) (fun e s' => R (.error e) s') s := by
  obtain ⟨xs, ys, n, m, q1, q2, z1, z2, _⟩ := L.at_ _ h
  have rec_ := loopB 3 not (.inr ⟨rfl, rfl⟩) l b N e I L N 0 (by omega) (by omega) fin s h
  obtain ⟨hp, g, d, tk, os⟩ := s
  have f3 := AutoSeq1.sub_list_list
  have ne : ¬ (xs.size != ys.size) = true := by simp [z1, z2]
  wp_walk using wpAny_loadPart' q1, wpAny_loadPart' q2
  exact ⟨plainId_quiet plain_eq_loop _, codeAny_builtin entry_eq_loop (by rw [Around.under_plainId plain_eq_loop _]; exact rec_)⟩
theorem list_neS {l b : Addr} {xs ys : Array Value} {n m : Nat} {s : Shared} (q1 : s.heap.get? l = some (lObj xs n)) (q2 : s.heap.get? b = some (lObj ys m)) (z : xs.size ≠ ys.size) (r : R (.ok (.ret (.bool (not false)))) s) :
    wpAny (model prog w) A.in1 (Builtin.«list.__ne__» ⟨[.ref l, .ref b], []⟩) (GQ.FinOf prog w A R) (fun e s' => R (.error e) s') s := by
  obtain ⟨hp, g, d, tk, os⟩ := s
  have f3 := AutoSeq1.sub_list_list
  have ne : (xs.size != ys.size) = true := by simp [z]
  wp_walk using wpAny_loadPart' q1, wpAny_loadPart' q2
  exact r
theorem rc_list_ne {E : Value → Shared → Prop} {s : Shared} {l b : Addr} {N : Nat} {e : Nat → Bool} {Q : Value → Shared → Prop} (hu : A.units < cLine) (I : Shared → Prop) (L : LKeep prog w A E l b N e I) (fin : ∀ s, I s → Q (.bool (not (allFrom e 0 N))) s) (h : I s) : wpAny (model prog w) A (richCompare .NotEq (.ref l) (.ref b)) Q E s := by
  obtain ⟨xs, ys, n, m, q1, q2, z1, z2, _⟩ := L.at_ _ h
  refine wpAny_richCompare_same_room (op := .NotEq) ⟨_, q1, rfl⟩ ⟨_, q2, rfl⟩ F.slot_list_ne (GQ.call_here F.slot_list_ne ⟨_, q1, rfl⟩ F.entry_list_ne (F.args_list_ne_2 _ _) ?_) hu
  exact list_neB (R := wants (fun v s' => v ≠ .notImplemented ∧ Q v s') E) L (fun s' q => ⟨(fun x => nomatch x), fin s' q⟩) h
theorem rc_list_neS {E : Value → Shared → Prop} {s : Shared} {l b : Addr} {xs ys : Array Value} {n m : Nat} {Q : Value → Shared → Prop} (hu : A.units < cLine) (q1 : s.heap.get? l = some (lObj xs n)) (q2 : s.heap.get? b = some (lObj ys m)) (z : xs.size ≠ ys.size) (h : Q (.bool (not false)) s) : wpAny (model prog w) A (richCompare .NotEq (.ref l) (.ref b)) Q E s := by
  refine wpAny_richCompare_same_room (op := .NotEq) ⟨_, q1, rfl⟩ ⟨_, q2, rfl⟩ F.slot_list_ne (GQ.call_here F.slot_list_ne ⟨_, q1, rfl⟩ F.entry_list_ne (F.args_list_ne_2 _ _) ?_) hu
  exact list_neS (R := wants (fun v s' => v ≠ .notImplemented ∧ Q v s') E) q1 q2 z ⟨(fun x => nomatch x), h⟩
theorem tup_eqB {l b : Addr} {xs ys : Array Value} {n m : Nat} {dd dd2 : Option Addr} {sl sl2 : Array (Option Value)} {e : Nat → Bool} {I : Shared → Prop} (z : xs.size = ys.size)
    (turn : ∀ i (h1 : i < xs.size) (h2 : i < ys.size) s, I s → wpAny (model prog w) A.in1 (eqBool xs[i] ys[i]) (fun r s' => r = e i ∧ I s') (fun e s' => R (.error e) s') s) (fin : ∀ s, I s → R (.ok (.ret (.bool (id (allFrom e 0 xs.size))))) s)
    {s : Shared} (q1 : s.heap.get? l = some { cls := .type "tuple", dict := dd, data := .seq xs n, slots := sl }) (q2 : s.heap.get? b = some { cls := .type "tuple", dict := dd2, data := .seq ys m, slots := sl2 }) (h : I s) :
    wpAny (model prog w) A.in1 (Builtin.«tuple.__eq__» ⟨[.ref l, .ref b], []⟩) (GQ.FinOf prog w A R) (fun e s' => R (.error e) s') s := by
  have f2 := AutoSeq1.sub_tuple_tuple
  have zl : (xs.toList.zip ys.toList).length = xs.size := by simp [z]
  have h0 := h
  obtain ⟨hp, g, d, tk, os⟩ := s
  wp_walk using wpAny_loadPart' q1, wpAny_loadPart' q2, wpAny_forIn_list _ (fun rest b s' => b.1 = none ∧ ∃ i, rest = (xs.toList.zip ys.toList).drop i ∧ i ≤ xs.size ∧ I s' ∧ allFrom e 0 xs.size = allFrom e i (xs.size - i)) _
  case turn =>
    rintro ⟨y, x⟩ rest b s' ⟨hb, i, hz, hi, hI, al⟩
    have lt : i < (xs.toList.zip ys.toList).length := by
      rcases Nat.lt_or_ge i (xs.toList.zip ys.toList).length with q | q
      · exact q
      · rw [List.drop_of_length_le q] at hz; cases hz
    have h1 : i < xs.size := zl ▸ lt
    have h2 : i < ys.size := z ▸ h1
    rw [List.drop_eq_getElem_cons lt] at hz
    injection hz with e1 e2
    have ey : y = xs[i] := by have := congrArg Prod.fst e1; simpa using this
    have ex : x = ys[i] := by have := congrArg Prod.snd e1; simpa using this
    subst ey ex
    rw [show xs.size - i = (xs.size - (i + 1)) + 1 by omega, allFrom] at al
    refine wpAny_bind (wpAny_mono (turn i h1 h2 s' hI) (fun r s2 k2 => ?_) (fun _ _ x => x))
    obtain ⟨rfl, k2⟩ := k2
    cases ei : e i with
    | true =>
      rw [ei, Bool.true_and] at al; wp_walk
      exact ⟨rfl, i + 1, e2, h1, k2, al⟩
    | false =>
      rw [ei, Bool.false_and] at al
      have r := fin s2 k2
      rw [al] at r; wp_walk
      exact r
  case fin =>
    rintro ⟨b1, b2⟩ s' ⟨hb, i, hz, hi, hI, al⟩
    simp only at hb
    subst hb
    have ge : xs.size ≤ i := by
      rcases Nat.lt_or_ge i (xs.toList.zip ys.toList).length with q | q
      · rw [List.drop_eq_getElem_cons q] at hz; cases hz
      · exact zl ▸ q
    have r := fin s' hI
    rw [al, Nat.sub_eq_zero_of_le ge] at r; wp_walk
    simpa [Builtin.Tuple.tupleCompareSizes, z, allFrom] using r
  case h =>
    exact ⟨rfl, 0, rfl, Nat.zero_le _, h0, rfl⟩
theorem rc_tup_eq {E : Value → Shared → Prop} {s : Shared} {l b : Addr} {xs ys : Array Value} {e : Nat → Bool} {Q : Value → Shared → Prop} (z : xs.size = ys.size) (hu : A.units < cLine) (I : Shared → Prop) (hl : s.heap.IsTuple l xs) (hb : s.heap.IsTuple b ys)
    (turn : ∀ i (h1 : i < xs.size) (h2 : i < ys.size) s, I s → wpAny (model prog w) A.in1 (eqBool xs[i] ys[i]) (fun r s' => r = e i ∧ I s') E s) (fin : ∀ s, I s → Q (.bool (id (allFrom e 0 xs.size))) s) (h : I s) : wpAny (model prog w) A (richCompare .Eq (.ref l) (.ref b)) Q E s := by
  obtain ⟨⟨cls, dd, data, sl⟩, ho, hc, n, hd⟩ := id hl; obtain ⟨⟨cls2, dd2, data2, sl2⟩, ho2, hc2, n2, hd2⟩ := id hb
  simp only at hc hd hc2 hd2; subst hc hd hc2 hd2
  refine wpAny_richCompare_same_room (op := .Eq) ⟨_, ho, rfl⟩ ⟨_, ho2, rfl⟩ F.slot_tuple_eq (GQ.call_here F.slot_tuple_eq ⟨_, ho, rfl⟩ F.entry_tuple_eq (F.args_tuple_eq_2 _ _) ?_) hu
  exact tup_eqB (R := wants (fun v s' => v ≠ .notImplemented ∧ Q v s') E) z turn (fun s' q => ⟨(fun x => nomatch x), fin s' q⟩) ho ho2 h
theorem tup_neB {l b : Addr} {xs ys : Array Value} {n m : Nat} {dd dd2 : Option Addr} {sl sl2 : Array (Option Value)} {e : Nat → Bool} {I : Shared → Prop} (z : xs.size = ys.size)
    (turn : ∀ i (h1 : i < xs.size) (h2 : i < ys.size) s, I s → wpAny (model prog w) A.in1 (eqBool xs[i] ys[i]) (fun r s' => r = e i ∧ I s') (fun e s' => R (.error e) s') s) (fin : ∀ s, I s → R (.ok (.ret (.bool (not (allFrom e 0 xs.size))))) s)
    {s : Shared} (q1 : s.heap.get? l = some { cls := .type "tuple", dict := dd, data := .seq xs n, slots := sl }) (q2 : s.heap.get? b = some { cls := .type "tuple", dict := dd2, data := .seq ys m, slots := sl2 }) (h : I s) :
    wpAny (model prog w) A.in1 (Builtin.«tuple.__ne__» ⟨[.ref l, .ref b], []⟩) (GQ.FinOf prog w A R) (fun e s' => R (.error e) s') s := by
  have f2 := AutoSeq1.sub_tuple_tuple
  have zl : (xs.toList.zip ys.toList).length = xs.size := by simp [z]
  have h0 := h
  obtain ⟨hp, g, d, tk, os⟩ := s
  wp_walk using wpAny_loadPart' q1, wpAny_loadPart' q2, wpAny_forIn_list _ (fun rest b s' => b.1 = none ∧ ∃ i, rest = (xs.toList.zip ys.toList).drop i ∧ i ≤ xs.size ∧ I s' ∧ allFrom e 0 xs.size = allFrom e i (xs.size - i)) _
  case turn =>
    rintro ⟨y, x⟩ rest b s' ⟨hb, i, hz, hi, hI, al⟩
    have lt : i < (xs.toList.zip ys.toList).length := by
      rcases Nat.lt_or_ge i (xs.toList.zip ys.toList).length with q | q
      · exact q
      · rw [List.drop_of_length_le q] at hz; cases hz
    have h1 : i < xs.size := zl ▸ lt
    have h2 : i < ys.size := z ▸ h1
    rw [List.drop_eq_getElem_cons lt] at hz
    injection hz with e1 e2
    have ey : y = xs[i] := by have := congrArg Prod.fst e1; simpa using this
    have ex : x = ys[i] := by have := congrArg Prod.snd e1; simpa using this
    subst ey ex
    rw [show xs.size - i = (xs.size - (i + 1)) + 1 by omega, allFrom] at al
    refine wpAny_bind (wpAny_mono (turn i h1 h2 s' hI) (fun r s2 k2 => ?_) (fun _ _ x => x))
    obtain ⟨rfl, k2⟩ := k2
    cases ei : e i with
    | true =>
      rw [ei, Bool.true_and] at al; wp_walk
      exact ⟨rfl, i + 1, e2, h1, k2, al⟩
    | false =>
      rw [ei, Bool.false_and] at al
      have r := fin s2 k2
      rw [al] at r; wp_walk
      exact r
  case fin =>
    rintro ⟨b1, b2⟩ s' ⟨hb, i, hz, hi, hI, al⟩
    simp only at hb
    subst hb
    have ge : xs.size ≤ i := by
      rcases Nat.lt_or_ge i (xs.toList.zip ys.toList).length with q | q
      · rw [List.drop_eq_getElem_cons q] at hz; cases hz
      · exact zl ▸ q
    have r := fin s' hI
    rw [al, Nat.sub_eq_zero_of_le ge] at r; wp_walk
    simpa [Builtin.Tuple.tupleCompareSizes, z, allFrom] using r
  case h =>
    exact ⟨rfl, 0, rfl, Nat.zero_le _, h0, rfl⟩
theorem rc_tup_ne {E : Value → Shared → Prop} {s : Shared} {l b : Addr} {xs ys : Array Value} {e : Nat → Bool} {Q : Value → Shared → Prop} (z : xs.size = ys.size) (hu : A.units < cLine) (I : Shared → Prop) (hl : s.heap.IsTuple l xs) (hb : s.heap.IsTuple b ys)
    (turn : ∀ i (h1 : i < xs.size) (h2 : i < ys.size) s, I s → wpAny (model prog w) A.in1 (eqBool xs[i] ys[i]) (fun r s' => r = e i ∧ I s') E s) (fin : ∀ s, I s → Q (.bool (not (allFrom e 0 xs.size))) s) (h : I s) : wpAny (model prog w) A (richCompare .NotEq (.ref l) (.ref b)) Q E s := by
  obtain ⟨⟨cls, dd, data, sl⟩, ho, hc, n, hd⟩ := id hl; obtain ⟨⟨cls2, dd2, data2, sl2⟩, ho2, hc2, n2, hd2⟩ := id hb
  simp only at hc hd hc2 hd2; subst hc hd hc2 hd2
  refine wpAny_richCompare_same_room (op := .NotEq) ⟨_, ho, rfl⟩ ⟨_, ho2, rfl⟩ F.slot_tuple_ne (GQ.call_here F.slot_tuple_ne ⟨_, ho, rfl⟩ F.entry_tuple_ne (F.args_tuple_ne_2 _ _) ?_) hu
  exact tup_neB (R := wants (fun v s' => v ≠ .notImplemented ∧ Q v s') E) z turn (fun s' q => ⟨(fun x => nomatch x), fin s' q⟩) ho ho2 h
end
end Z
namespace Z
open PySem PySem.Spec PyProof.Rows L2
abbrev EqvB := V → V → Bool → Hp → Prop
def MonB (D : EqvB) : Prop := ∀ x y b H H', Same H H' → D x y b H → D x y b H'
/-- == of two items gives the Bool that D says, and only makes things -/
def EqB (X : Cx) (n : Nat) (D : EqvB) : Prop := ∀ (A : Around) (pins : List (Addr × Obj)) (s : Shared) (σ : L2.St) (H : Hp) (x y : V) (u v : Value) (b : Bool), Sub X n A → Inv X pins σ H s → RelV x u → RelV y v → D x y b H →
  wpAny (model X.prog X.w) A (eqBool u v) (fun r s' => r = b ∧ ∃ H', Inv X pins σ H' s' ∧ Same H H') X.xe s
section
variable {X : Cx} {n m : Nat} {D D' : EqvB}
theorem EqB.mono (h : EqB X n D) (l : n ≤ m) : EqB X m D := fun A pins s σ H x y u v b sb => h A pins s σ H x y u v b (sb.mono l)
theorem EqB.or (h : EqB X n D) (k : EqB X n D') : EqB X n (fun x y b H => D x y b H ∨ D' x y b H) := fun A pins s σ H x y u v b sb I rx ry d => d.elim (h A pins s σ H x y u v b sb I rx ry) (k A pins s σ H x y u v b sb I rx ry)
theorem MonB.or (h : MonB D) (k : MonB D') : MonB (fun x y b H => D x y b H ∨ D' x y b H) := fun x y b H H' s d => d.imp (h x y b H H' s) (k x y b H H' s)
def BFlat : EqvB := fun x y b _ => flatV x = true ∧ flatV y = true ∧ eqV x y = b
theorem monB_flat : MonB BFlat := fun _ _ _ _ _ _ d => d
theorem eqB_flat : EqB X 0 BFlat := fun A pins s σ H x y u v b sb I rx ry ⟨fx, fy, e⟩ => by
  have q := eqAt_V (A := A) (s := s) rx ry fx fy
  rw [e] at q; exact q X.prog X.w X.xe _ ⟨rfl, H, I, Same.refl _⟩
def BSelf : EqvB := fun x y b _ => ∃ a, x = .ref a ∧ y = .ref a ∧ b = true
theorem monB_self : MonB BSelf := fun _ _ _ _ _ _ d => d
theorem eqB_self : EqB X 0 BSelf := fun A pins s σ H x y u v b sb I rx ry ⟨a, e1, e2, e3⟩ => by
  subst e1 e2 e3
  cases rx; cases ry
  exact SeqAt.EqAt.same (A := A) (s := s) (.ref a) X.prog X.w X.xe _ ⟨rfl, H, I, Same.refl _⟩
def BData (K : PySem.W.Frag) : EqvB := fun x y b H => ∃ d e, (∀ H', Same H H' → Dp K H' x d) ∧ (∀ H', Same H H' → Dp K H' y e) ∧ SeqAt.shaped d = true ∧ SeqAt.shaped e = true ∧ PyData.eqv d e = b
theorem monB_data (K : PySem.W.Frag) : MonB (BData K) := fun x y b H H' s ⟨d, e, h1, h2, r⟩ => ⟨d, e, fun H2 s2 => h1 H2 (s.trans s2), fun H2 s2 => h2 H2 (s.trans s2), r⟩
theorem eqB_data {K : PySem.W.Frag} (hK : X.K = K := by rfl) : EqB X 0 (BData K) := fun A pins s σ H x y u v b sb I rx ry ⟨d, e, h1, h2, c1, c2, eb⟩ => by
  subst hK
  obtain ⟨as, r1⟩ := Dp.reads I d x u (h1 H (Same.refl _)) rx
  obtain ⟨bs, r2⟩ := Dp.reads I e y v (h2 H (Same.refl _)) ry
  have hu := u70 sb.room
  have dd := SeqAt.depth_of_shaped c1
  exact SeqAt.eqAt_reads d e A s u v as bs r1 r2 (SeqAt.canLay_of_shaped c1) (SeqAt.canLay_of_shaped c2) (by omega) X.prog X.w X.xe _ ⟨eb, H, I, Same.refl _⟩
/-- two instances of one class with its own == -/
def BOwn (C : Addr) (sp : Sp) : EqvB := fun x y b H => ∃ a c dx dy fs gs, x = .ref a ∧ y = .ref c ∧ H a = some (.ins C dx fs) ∧ H c = some (.ins C dy gs) ∧ (a = c → b = true) ∧ ∀ H', Same H H' → sp [.ref a, .ref c] H' (fun v H2 => v = .bl b ∧ Same H' H2) E0
theorem monB_own {C : Addr} {sp : Sp} : MonB (BOwn C sp) := fun x y b H H' s ⟨a, c, dx, dy, fs, gs, e1, e2, h1, h2, i, k⟩ => ⟨a, c, dx, dy, fs, gs, e1, e2, s _ _ h1, s _ _ h2, i, fun H2 s2 => k H2 (s.trans s2)⟩
theorem eqB_own {C f : Addr} {ps : List Str} {sp : Sp} {K : PySem.W.Frag} (M : DefM X.prog X.w K X.mg X.base n f ps sp) (hs : PySem.W.findIn K (.ref C) "__eq__" = some (some (.ref f))) (hf : PySem.W.isFn K (.ref f) = true) (hK : X.K = K := by rfl) : EqB X n (BOwn C sp) := by
  subst hK
  obtain ⟨fd, F, hb⟩ := M.ex
  rintro A pins s σ H x y u v b sb I rx ry ⟨a, c, dx, dy, fs, gs, rfl, rfl, ha, hc, same, k⟩
  cases rx; cases ry
  by_cases ac : a = c
  · subst ac
    rw [same rfl]
    exact SeqAt.EqAt.same (A := A) (s := s) (.ref a) X.prog X.w X.xe _ ⟨rfl, H, I, Same.refl _⟩
  refine GQ.eqBool_refG ac ?_
  obtain ⟨mA, J, _⟩ := ins_get I.hok ha
  obtain ⟨mB, J2, _⟩ := ins_get I.hok hc
  obtain ⟨od, J, _⟩ := J.look; obtain ⟨od2, J2, _⟩ := J2.look; obtain ⟨mF, hF⟩ := I.fr
  refine PySem.W.cmp_K (op := .Eq) (tb := .ref C) sb.room.units0 hF I.ok.mod.kin J J2.type (by simp [PySem.W.notFirst]) hs hf ?_
  have q := k H (Same.refl _)
  have e0 : Env0 X.prog X.w X.K X.mg X.base A X.stack s H := by have e := I.env0; exact ⟨by rw [sb.fr]; exact e.frames, e.mod, e.bs, e.bsz, e.funs, e.frf, e.hok, e.bare⟩
  have hl := F.len _ _ _ _ q
  refine wpAny_call (codeAny_mono (F.run A X.stack s H ⟨[.ref a, .ref c], []⟩ [.ref a, .ref c] [.ref a, .ref c] _ E0 sb.room e0 (by have := hb s [.ref a, .ref c] I.kIn (by simpa using hl); simpa using this) (.cons rfl (.cons rfl .nil)) q) (fun r s' hq => ?_))
  cases r with
  | error e => exact absurd hq (fun q => q.elim)
  | ok fl =>
    cases fl with
    | ret w =>
      obtain ⟨z, H2, I2, rz, ez, ex⟩ := I.after hq
      subst ez; cases rz
      exact ⟨b, rfl, rfl, H2, I2, ex⟩
    | next => exact hq.elim
    | brk => exact hq.elim
    | cont => exact hq.elim
/-! ### rows -/
def PrsB (D : EqvB) (xs ys : List V) (e : Nat → Bool) (H : Hp) : Prop := xs.length = ys.length ∧ ∀ (i : Nat) x y, xs[i]? = some x → ys[i]? = some y → D x y (e i) H
theorem turnB (hD : MonB D) (h : EqB X n D) {A : Around} (sb : Sub X (n + 1) A) {pins : List (Addr × Obj)} {σ : L2.St} {H : Hp} {xs ys : List V} {its ots : List Value} {e : Nat → Bool} (p : PrsB D xs ys e H) (r : Vals xs its) (r2 : Vals ys ots)
    (i : Nat) (h1 : i < its.toArray.size) (h2 : i < ots.toArray.size) (s' : Shared) (l : ∃ H', Inv X pins σ H' s' ∧ Same H H') :
    wpAny (model X.prog X.w) A.in1 (eqBool its.toArray[i] ots.toArray[i]) (fun r s2 => r = e i ∧ ∃ H', Inv X pins σ H' s2 ∧ Same H H') X.xe s' := by
  obtain ⟨H1, I1, s1⟩ := l
  have i1 : i < its.length := by simpa using h1
  have i2 : i < ots.length := by simpa using h2
  have k1 : i < xs.length := by rw [r.length]; exact i1
  have k2 : i < ys.length := by rw [r2.length]; exact i2
  obtain ⟨u, hu, ru⟩ := r.get (List.getElem?_eq_getElem k1); obtain ⟨v, hv, rv⟩ := r2.get (List.getElem?_eq_getElem k2)
  have g1 : its[i]? = some its.toArray[i] := by rw [List.getElem?_eq_getElem i1]; simp
  have g2 : ots[i]? = some ots.toArray[i] := by rw [List.getElem?_eq_getElem i2]; simp
  rw [g1] at hu; rw [g2] at hv
  rw [Option.some.inj hu, Option.some.inj hv]
  refine wpAny_mono (h A.in1 pins s' σ H1 _ _ u v _ sb.in1 I1 ru rv (hD _ _ _ _ _ s1 (p.2 i _ _ (List.getElem?_eq_getElem k1) (List.getElem?_eq_getElem k2)))) (fun r s2 q => ?_) (fun _ _ x => x)
  obtain ⟨hr, H2, I2, s2'⟩ := q
  exact ⟨hr, H2, I2, s1.trans s2'⟩
def rRowB (K : PySem.W.Frag) (f : Bool → Bool) (D : EqvB) : R2 := fun x y H Q => ∃ (a b : Addr) (xs ys : List V) (e : Nat → Bool), x = .ref a ∧ y = .ref b ∧ ((H a = some (.lst xs) ∧ H b = some (.lst ys)) ∨ (SqT K H a xs ∧ SqT K H b ys)) ∧ PrsB D xs ys e H ∧ ∀ H', Same H H' → Q (.bl (f (allFrom e 0 xs.length))) H'
theorem keepB (hD : MonB D) (h : EqB X n D) {A : Around} (sb : Sub X (n + 1) A) {pins : List (Addr × Obj)} {σ : L2.St} {H : Hp} {xs ys : List V} {e : Nat → Bool} {a b : Addr} (p : PrsB D xs ys e H) (ha : H a = some (.lst xs)) (hb : H b = some (.lst ys)) : LKeep X.prog X.w A X.xe a b xs.length e (fun s' => ∃ H', Inv X pins σ H' s' ∧ Same H H') := by
  refine ⟨fun s' q => ?_⟩
  obtain ⟨H1, I1, s1⟩ := id q
  obtain ⟨z, its, k, r, e1⟩ := I1.hok a _ (s1 _ _ ha); obtain ⟨z2, ots, k2, r2, e2⟩ := I1.hok b _ (s1 _ _ hb)
  exact ⟨its.toArray, ots.toArray, k, k2, e1, e2, by rw [List.size_toArray, ← r.length], by rw [List.size_toArray, ← r2.length, ← p.1], fun i h1 h2 => turnB hD h sb p r r2 i h1 h2 s' q⟩
theorem op_rowEq {K : PySem.W.Frag} (hD : MonB D) (h : EqB X n D) (hr : Room (n + 1) X.A) (hK : X.K = K := by rfl) : OpR X (compareOp .Eq) (rRowB K id D) := by
  subst hK
  rintro pins s σ H x y v u Q I rx ry ⟨a, b, xs, ys, e, rfl, rfl, hs, p, q⟩
  cases rx; cases ry
  show wpAny (model X.prog X.w) X.A (richCompare .Eq _ _) (EP X pins σ Q) X.xe s
  rcases hs with ⟨ha, hb⟩ | ⟨ha, hb⟩
  · exact rc_list_eq hr.units0 _ (keepB hD h ⟨hr, rfl⟩ p ha hb) (fun s' ⟨H', I', s1⟩ => ⟨.bl _, H', I', rfl, q H' s1⟩) ⟨H, I, Same.refl _⟩
  · obtain ⟨its, r, e1, z⟩ := I.tuple ha; obtain ⟨ots, r2, e2, z2⟩ := I.tuple hb
    have l1 : its.toArray.size = xs.length := by rw [List.size_toArray, ← r.length]
    refine rc_tup_eq (e := e) (by rw [l1, List.size_toArray, ← r2.length]; exact p.1) hr.units0 (fun s' => ∃ H', Inv X pins σ H' s' ∧ Same H H') e1 e2 (fun i h1 h2 s' k => turnB hD h ⟨hr, rfl⟩ p r r2 i h1 h2 s' k) (fun s' ⟨H', I', s1⟩ => ⟨.bl _, H', I', rfl, by rw [l1]; exact q H' s1⟩) ⟨H, I, Same.refl _⟩
theorem op_rowNe {K : PySem.W.Frag} (hD : MonB D) (h : EqB X n D) (hr : Room (n + 1) X.A) (hK : X.K = K := by rfl) : OpR X (compareOp .NotEq) (rRowB K not D) := by
  subst hK
  rintro pins s σ H x y v u Q I rx ry ⟨a, b, xs, ys, e, rfl, rfl, hs, p, q⟩
  cases rx; cases ry
  show wpAny (model X.prog X.w) X.A (richCompare .NotEq _ _) (EP X pins σ Q) X.xe s
  rcases hs with ⟨ha, hb⟩ | ⟨ha, hb⟩
  · exact rc_list_ne hr.units0 _ (keepB hD h ⟨hr, rfl⟩ p ha hb) (fun s' ⟨H', I', s1⟩ => ⟨.bl _, H', I', rfl, q H' s1⟩) ⟨H, I, Same.refl _⟩
  · obtain ⟨its, r, e1, z⟩ := I.tuple ha; obtain ⟨ots, r2, e2, z2⟩ := I.tuple hb
    have l1 : its.toArray.size = xs.length := by rw [List.size_toArray, ← r.length]
    refine rc_tup_ne (e := e) (by rw [l1, List.size_toArray, ← r2.length]; exact p.1) hr.units0 (fun s' => ∃ H', Inv X pins σ H' s' ∧ Same H H') e1 e2 (fun i h1 h2 s' k => turnB hD h ⟨hr, rfl⟩ p r r2 i h1 h2 s' k) (fun s' ⟨H', I', s1⟩ => ⟨.bl _, H', I', rfl, by rw [l1]; exact q H' s1⟩) ⟨H, I, Same.refl _⟩
/-- one rule or another -/
theorem op_or2 {f : Value → Value → Sem Value} {r1 r2 : R2} (h1 : OpR X f r1) (h2 : OpR X f r2) : OpR X f (fun x y H Q => r1 x y H Q ∨ r2 x y H Q) := fun pins s σ H x y v u Q I rx ry q => q.elim (h1 pins s σ H x y v u Q I rx ry) (h2 pins s σ H x y v u Q I rx ry)
end
end Z
namespace Z
open PySem PySem.Spec PyProof.Rows L2
open AutoSeq1 (wpAny_loadPart')
open MeetsSeq MeetsSeq2 MeetsSeq3 SeqRoads2 SeqAt
/-! ### a dict is no text -/
abbrev dObj (dd : Option Addr) (es : Array DictEntry) (ep : Nat) (sl : Array (Option Value)) : Obj := { cls := .type "dict", dict := dd, data := .dict es ep, slots := sl }
theorem dict_no_str (l : Addr) (dd : Option Addr) (es : Array DictEntry) (ep : Nat) (sl : Array (Option Value)) (b : Str) (u : Tok) : Meets (Builtin.«dict.__eq__» ⟨[.ref l, .str b u], []⟩) (fun _ R s => s.heap.get? l = some (dObj dd es ep sl) ∧ R (.ok (.ret .notImplemented)) s) :=
  .of_wp fun prog w A R s h => by
    obtain ⟨hp, g, d, tk, os⟩ := s; obtain ⟨q, k⟩ := h
    have f1 := F.sub_str_dict; wp_walk using wpAny_loadPart' q
    exact ⟨_, rfl, k⟩
theorem str_no_dict (l : Addr) (dd : Option Addr) (es : Array DictEntry) (ep : Nat) (sl : Array (Option Value)) (b : Str) (u : Tok) : Meets (Builtin.«str.__eq__» ⟨[.str b u, .ref l], []⟩) (fun _ R s => s.heap.get? l = some (dObj dd es ep sl) ∧ R (.ok (.ret .notImplemented)) s) :=
  .of_wp fun prog w A R s h => by
    obtain ⟨hp, g, d, tk, os⟩ := s; obtain ⟨q, k⟩ := h
    wp_walk using wpAny_loadPart' q, wpAny_load q; exact ⟨_, rfl, k⟩
theorem rc_dict_str {A : Around} {s : Shared} {l : Addr} {dd : Option Addr} {es : Array DictEntry} {ep : Nat} {sl : Array (Option Value)} (ho : s.heap.get? l = some (dObj dd es ep sl)) (b : Str) (u : Tok) (hu : A.units < cLine) : RcAt A s (.ref l) (.str b u) false := fun prog w E Q h =>
  rc_eq_decline_or (k := false) ⟨_, ho, rfl⟩ (typeIs_str s b u) (by decide) F.sub_str_dict F.slot_dict_eq F.slot_str_eq_refl
    (fun _ k => call_meets F.slot_dict_eq ⟨_, ho, rfl⟩ F.entry_dict_eq (F.args_dict_eq_2 _ _) (dict_no_str l dd es ep sl b u) ⟨ho, k⟩)
    (fun _ k => call_meets F.slot_str_eq_refl (typeIs_str s b u) F.entry_str_eq (F.args_str_eq_2 _ _) (str_no_dict l dd es ep sl b u) ⟨ho, k⟩)
    (fun _ k => wpAny_of_eq (rfl : isSame (.ref l) (.str b u) = pure false) k) (.inr hu) h
def rDictStr : R2 := fun x y H Q => ∃ (a : Addr) (kvs : List (Key × V)) (z : Str), x = .ref a ∧ y = .str z ∧ H a = some (.dK kvs) ∧ Q (.bl false) H
theorem op_dictStr {X : Cx} (hu : X.A.units < cLine) : OpR X (compareOp .Eq) rDictStr := by
  rintro pins s σ H x y v u Q I rx ry ⟨a, kvs, z, rfl, rfl, ha, q⟩
  cases rx; obtain ⟨t, rfl⟩ := ry
  obtain ⟨_, _, vs, _, ⟨cls, dd, dat, sl⟩, es, ep, ho, ex, hd, _⟩ := I.hok a _ ha
  have hc : cls = .type "dict" := ex.1
  subst hc
  simp only at hd
  subst hd
  exact rc_dict_str ho z t hu X.prog X.w X.xe _ ⟨.bl _, H, I, rfl, q⟩
def isN (a b : Str) (K : PySem.W.Frag) : Bool := decide (PySem.W.kitOne K (.ref (He.ga K a)) (.ref (He.ga K b)) = some false)
theorem part_ok {K : PySem.W.Frag} {H : Hp} {u v : V} {f0 f1 f2 f3 m a b : Str} {Q : Addr → Hp → Prop} {E : XK} (hu : ∃ q, u = .ref q ∧ RowA H q ([f0, m].map V.str)) (hv : ∃ q, v = .ref q ∧ RowA H q ([a, b].map V.str)) (ok : RowOk f0 f1 f2 f3 m a b)
    (k : ∀ p H', Same H H' → H p = none → PartAt K H' p [f0, f1, f2, f3] [f0, m] [a, b] → Q p H') :
    ∀ x dx, H x = none → H dx = none → dx ≠ x → spPart K [.ref x, u, v] (upd (upd H dx (.own x)) x (.ins (He.ga K "Parting") dx [])) (fun v H2 => v = .non ∧ Q x H2) E :=
  part_new hu hv ok.two fun p hs ny fy H' s n c h => by
    obtain ⟨rfl, rfl, rfl⟩ := ok.part (.inl ⟨.refl _, .refl _⟩) c
    exact k p H' s n h
def tabN (a b : Str) (K : PySem.W.Frag) : Bool := decide ((He.cT K (a, none)).2 ≠ (He.cT K (b, none)).2)
end Z
namespace Z
open PySem PySem.Spec PyProof.Rows L2 TL
/-! ### the text of a parting, told by its words -/
def fourB (a b s c d : Str) : Bool := decide (s = Str.ofString "/") && ([a, b, c, d].all nmB && (decide [a, b, c, d].Nodup && (!ltCps b.cps.toList a.cps.toList && (!ltCps d.cps.toList c.cps.toList && !ltCps c.cps.toList a.cps.toList))))
def readL (ws : List Str) : Option (List Str × List Str) := match ws with
  | [a, b, s, c, d] => if fourB a b s c d = true then some ([a, b], [c, d]) else none
  | _ => none
theorem join_five (a b c d : Str) : Txt.join (Str.ofString " ") [a, b, Str.ofString "/", c, d] = partText [a, b] [c, d] := by
  refine str_ext ?_
  show tl _ = tl _
  unfold partText
  rw [tl_append, tl_append, join_eq, join_eq, join_eq, tl_join, tl_join, tl_join, tl_sp, tl_slash]
  simp [joinL, show tl (Str.ofString "/") = [47] by decide +kernel]
theorem lt_of_n {a b : Str} (n : a ≠ b) (h : ltCps b.cps.toList a.cps.toList = false) : ltCps a.cps.toList b.cps.toList = true := by
  cases e : ltCps a.cps.toList b.cps.toList with
  | true => rfl
  | false => exact absurd (leS_anti h e) n
theorem n_of_lt {a b : Str} (h : ltCps a.cps.toList b.cps.toList = true) : ltCps b.cps.toList a.cps.toList = false := by
  cases e : ltCps b.cps.toList a.cps.toList with
  | false => rfl
  | true => exact absurd (lt_iff.mp e) (List.lt_asymm (lt_iff.mp h))
theorem readL_to {z : Str} {ns ms : List Str} (h : readL (Txt.split z (Str.ofString " ")) = some (ns, ms)) : readP z = some (ns, ms) := by
  have eb := split_back z (Str.ofString " ")
  generalize Txt.split z (Str.ofString " ") = ws at h eb
  unfold readL at h
  split at h
  · rename_i a b s c d
    split at h
    · rename_i f
      cases h
      unfold fourB at f
      simp only [Bool.and_eq_true, decide_eq_true_eq, Bool.not_eq_true'] at f
      obtain ⟨rfl, nm, nd, f1, f2, f3⟩ := f
      have nm : ∀ w ∈ [a, b, c, d], IsNm w := fun w hw => nmB_iff.mp (List.all_eq_true.mp nm w hw)
      have nd' := nd
      simp only [List.nodup_cons, List.mem_cons, List.not_mem_nil, or_false, not_or] at nd'
      obtain ⟨⟨n1, n2, n3⟩, _, n4, _⟩ := nd'
      rw [← eb, join_five]
      exact readP_text (x := a) (y := c) ⟨nm, nd, rfl, rfl⟩ (rise_asc (by show (ltCps a.cps.toList b.cps.toList && true) = true; rw [lt_of_n n1 f1]; rfl)) (rise_asc (by show (ltCps c.cps.toList d.cps.toList && true) = true; rw [lt_of_n n4 f2]; rfl)) rfl rfl (lt_of_n n2 f3)
    · cases h
  · cases h
theorem readP_to {z : Str} {ns ms : List Str} (h : readP z = some (ns, ms)) : readL (Txt.split z (Str.ofString " ")) = some (ns, ms) := by
  unfold readP at h
  split at h
  · rename_i a b e
    dsimp only at h
    have ez := split_twoP e
    split at h
    · rename_i f
      cases h
      rw [Bool.and_eq_true, Bool.and_eq_true, Bool.and_eq_true] at f
      obtain ⟨f1, f2, f3, f4⟩ := f
      obtain ⟨l1, m1, a1⟩ := coupB_iff.mp f1
      obtain ⟨l2, m2, a2⟩ := coupB_iff.mp f2
      have ap := apartB_iff.mp f3
      generalize Txt.split a (Str.ofString " ") = ns at ez l1 m1 a1 ap f4 ⊢
      generalize Txt.split b (Str.ofString " ") = ms at ez l2 m2 a2 ap f4 ⊢
      obtain ⟨x, y, rfl⟩ : ∃ x y, ns = [x, y] := by
        match ns, l1 with
        | [x, y], _ => exact ⟨x, y, rfl⟩
      obtain ⟨u, v, rfl⟩ : ∃ u v, ms = [u, v] := by
        match ms, l2 with
        | [u, v], _ => exact ⟨u, v, rfl⟩
      have f4 : ltCps x.cps.toList u.cps.toList = true := f4
      have r1 : ltCps x.cps.toList y.cps.toList = true := by
        have q : (ltCps x.cps.toList y.cps.toList && true) = true := rise_iff.mpr a1
        rw [Bool.and_true] at q
        exact q
      have r2 : ltCps u.cps.toList v.cps.toList = true := by
        have q : (ltCps u.cps.toList v.cps.toList && true) = true := rise_iff.mpr a2
        rw [Bool.and_true] at q
        exact q
      have nd : [x, y, u, v].Nodup := List.nodup_append.mpr ⟨a1.2.1, a2.2.1, fun p hp q hq e => ap p hp (e ▸ hq)⟩
      have es : Txt.split z (Str.ofString " ") = [x, y, Str.ofString "/", u, v] := by
        rw [ez, ← join_five]
        refine split_join tl_sp (by decide +kernel) (by simp) fun w hw => ?_
        simp only [List.mem_cons, List.not_mem_nil, or_false] at hw
        rcases hw with rfl | rfl | rfl | rfl | rfl
        · exact nm_no (m1 _ (by simp)) (by omega)
        · exact nm_no (m1 _ (by simp)) (by omega)
        · decide +kernel
        · exact nm_no (m2 _ (by simp)) (by omega)
        · exact nm_no (m2 _ (by simp)) (by omega)
      rw [es]
      show (if fourB x y (Str.ofString "/") u v = true then _ else _) = _
      rw [if_pos]
      unfold fourB
      simp only [Bool.and_eq_true, decide_eq_true_eq, Bool.not_eq_true']
      refine ⟨trivial, List.all_eq_true.mpr fun w hw => nmB_iff.mpr ?_, nd, n_of_lt r1, n_of_lt r2, n_of_lt f4⟩
      rcases List.mem_append.mp (show w ∈ [x, y] ++ [u, v] from hw) with hw | hw
      · exact m1 w hw
      · exact m2 w hw
    · cases h
  · cases h
theorem readP_words (z : Str) : readP z = readL (Txt.split z (Str.ofString " ")) := by
  cases e : readP z with
  | some q => exact (readP_to e).symm
  | none =>
    cases e2 : readL (Txt.split z (Str.ofString " ")) with
    | none => rfl
    | some q =>
      rw [readL_to e2] at e
      cases e
end Z
/-! ### text.replace, also with a count; statements behind which a token is out -/
namespace Z
open PySem PySem.Spec PyProof.Rows L2 TL Builtin Builtin.Str
theorem fold_mem (z : Str) : ∀ (rest : List Str) (acc : Array Nat) (c : Nat), c ∈ (rest.foldl (fun acc p => acc ++ z.cps ++ p.cps) acc).toList → c ∈ acc.toList ∨ c ∈ z.cps.toList ∨ ∃ p ∈ rest, c ∈ p.cps.toList
  | [], acc, c, h => .inl h
  | p :: r, acc, c, h => by
    rcases fold_mem z r _ c h with h | h | ⟨q, hq, h⟩
    · rw [Array.toList_append, Array.toList_append] at h
      rcases List.mem_append.mp h with h | h
      · rcases List.mem_append.mp h with h | h
        · exact .inl h
        · exact .inr (.inl h)
      · exact .inr (.inr ⟨p, .head _, h⟩)
    · exact .inr (.inl h)
    · exact .inr (.inr ⟨q, .tail _ hq, h⟩)
theorem glued_mem {z : Str} : ∀ {parts : List Str} {c : Nat}, c ∈ (glued z parts).cps.toList → c ∈ z.cps.toList ∨ ∃ p ∈ parts, c ∈ p.cps.toList
  | [], c, h => by simp [glued, Str.empty] at h
  | p :: r, c, h => by
    rcases fold_mem z r _ c h with h | h | ⟨q, hq, h⟩
    · exact .inr ⟨p, .head _, h⟩
    · exact .inl h
    · exact .inr ⟨q, .tail _ hq, h⟩
theorem parts_mem {x p : Str} {cuts : List Nat} {w : Nat} (hp : p ∈ partsBetween x cuts w) {c : Nat} (h : c ∈ p.cps.toList) : c ∈ x.cps.toList := by
  unfold partsBetween at hp
  obtain ⟨⟨i, j⟩, _, rfl⟩ := List.mem_map.mp hp
  have h : c ∈ (x.cps.extract i j).toList := h
  rw [Array.toList_extract] at h
  exact List.mem_of_mem_drop (List.mem_of_mem_take h)
/-- a text of letters of x and z, not longer than each place widened -/
def RepOf (x z r : Str) : Prop := (∀ c ∈ r.cps.toList, c ∈ x.cps.toList ∨ c ∈ z.cps.toList) ∧ r.length ≤ x.length + (x.length + 1) * z.length
theorem repOf_self (x z : Str) : RepOf x z x := ⟨fun c h => .inl h, Nat.le_add_right _ _⟩
theorem repOf_glued (x y z : Str) (l : Nat) (hl : l ≤ x.length + 1) : RepOf x z (glued z (partsBetween x (occurrences x y 0 x.length l) y.length)) := by
  refine ⟨fun c h => ?_, ?_⟩
  · rcases glued_mem h with h | ⟨p, hp, h⟩
    · exact .inr h
    · exact .inl (parts_mem hp h)
  · have h1 := StrLaws.occ_length_le x y 0 x.length l
    have hy : (glued y (partsBetween x (occurrences x y 0 x.length l) y.length)).length = x.length := by rw [StrLaws.glued_between_self]
    rw [size_glued, length_partsBetween, Nat.add_sub_cancel] at hy
    rw [size_glued, length_partsBetween, Nat.add_sub_cancel]
    have h2 : (occurrences x y 0 x.length l).length * z.length ≤ (x.length + 1) * z.length := Nat.mul_le_mul_right _ (Nat.le_trans h1 hl)
    omega
theorem repOf_txt (x y z : Str) : RepOf x z (Txt.replace x y z) := by
  unfold Txt.replace
  split
  · exact repOf_self _ _
  · exact repOf_glued _ _ _ _ (Nat.le_refl _)
theorem gives_replace1 (x y z : Str) (t u v w : Tok) (hu : u ≠ 0) (hv : v ≠ 0) (huv : u ≠ v) (hyz : (y == z) = false) (hb : x.length + (x.length + 1) * z.length ≤ 16777216) :
    Gives («str.replace» ⟨[.str x t, .str y u, .str z v, .int 1 w], []⟩) (if ((occurrences x y 0 x.length 1).isEmpty || (y.length == 0 && z.length == 0)) = true then .val (.str x t) else .str (glued z (partsBetween x (occurrences x y 0 x.length 1) y.length))) := by
  have e : (2 : Nat) ^ 24 = 16777216 := by decide
  have hl : tooLong (x.length + (occurrences x y 0 x.length 1).length * z.length) = false := by
    have h1 := StrLaws.occ_length_le x y 0 x.length 1
    have h2 : (occurrences x y 0 x.length 1).length * z.length ≤ (x.length + 1) * z.length := Nat.mul_le_mul_right _ (by omega)
    unfold tooLong sizeLine
    exact decide_eq_false (by omega)
  show Gives (do
      let limit ← countLimit "str.replace" (some (.int 1 w)) (x.length + 1)
      if ((occurrences x y 0 x.length limit).isEmpty || (y.length == 0 && z.length == 0)) = true then (do rule "str.replace.nothing"; ret (.str x t)) else
          (do let same ← isSame (.str y u) (.str z v)
              if same = true then (do rule "str.replace.old-is-new"; ret (.str x t)) else
              if tooLong (x.length + (occurrences x y 0 x.length limit).length * z.length) = true then unsupported "str.replace:memory" else
              retStr (glued z (partsBetween x (occurrences x y 0 x.length limit) y.length)))) _
  rw [countLimit_int "str.replace" 1 w (x.length + 1) (by decide)]
  show Gives (if ((occurrences x y 0 x.length 1).isEmpty || (y.length == 0 && z.length == 0)) = true then (do rule "str.replace.nothing"; ret (.str x t)) else
          (do let same ← isSame (.str y u) (.str z v)
              if same = true then (do rule "str.replace.old-is-new"; ret (.str x t)) else
              if tooLong (x.length + (occurrences x y 0 x.length 1).length * z.length) = true then unsupported "str.replace:memory" else
              retStr (glued z (partsBetween x (occurrences x y 0 x.length 1) y.length)))) _
  cases hc : ((occurrences x y 0 x.length 1).isEmpty || (y.length == 0 && z.length == 0))
  · rw [isSame_str_other y z u v (by simp [hu, hv]) (by simp [huv]) hyz, hl]
    exact .of_eq rfl
  · exact .rule (.of_eq rfl)
theorem replace1 {prog : Program} {w : World} {A : Around} {E : Value → Shared → Prop} {s : Shared} {x y z : Str} {t u v k : Tok} {Q : Value → Shared → Prop} (hu : u ≠ 0) (hv : v ≠ 0) (huv : u ≠ v) (hyz : (y == z) = false) (hb : x.length + (x.length + 1) * z.length ≤ 16777216)
    (hq : ∀ r t' n, RepOf x z r → Q (.str r t') { s with toks := n }) : wpAny (model prog w) A (call (.builtin "str.replace") [.str x t, .str y u, .str z v, .int 1 k]) Q E s := by
  refine call_gives F.slot_str_replace (typeIs_str _ _ _) F.entry_str_replace (F.args_str_replace_4 _ _ _ _) (gives_replace1 x y z t u v k hu hv huv hyz hb) ?_
  split
  · exact hq x t s.toks (repOf_self _ _)
  · exact ⟨by have h := (repOf_glued x y z 1 (by omega)).2; rw [sizeLine_eq]; omega, hq _ _ _ (repOf_glued x y z 1 (by omega))⟩
theorem Call_method3 {prog : Program} {w : World} {A : Around} {E : Value → Shared → Prop} {s : Shared} {env : Env} {o e₁ e₂ e₃ : Expr} {name : Str} {apos pos : Pos} {Q : Value → Shared → Prop}
    (hbase : attributeBase o name env (PySem.eval o env) = PySem.eval o env) (hs : starEach [e₁, e₂, e₃] env = [(false, PySem.eval e₁ env), (false, PySem.eval e₂ env), (false, PySem.eval e₃ env)]) (hline : (apos.endLine == pos.line) = true)
    (h : wpAny (model prog w) A (PySem.eval o env) (fun ov s₁ => MethodOnS prog w A E name ov pos [(false, PySem.eval e₁ env), (false, PySem.eval e₂ env), (false, PySem.eval e₃ env)] Q s₁) E s) :
    wpAny (model prog w) A (PySem.eval (.Call (.Attribute o name apos) [e₁, e₂, e₃] [] pos) env) Q E s := by
  refine wpAny_Call_method_lateS hbase (by rw [hs]; rfl) hline ?_
  rw [hs]; exact h
def tRepA (to : TE) (z : Str) : TE := fun σ H Q => to σ H fun v H1 => ∃ x, v = .str x ∧ x.length + (x.length + 1) * z.length ≤ 16777216 ∧ ∀ r, RepOf x z r → Q (.str r) H1
section
variable {X : Cx} {o e : Expr} {te : TE} {to : TE} {ta : TA} {y z : Str} {j k l : Nat} {c0 c1 c2 apos pos p p' : Pos} {st : Stmt} {rest a b : List Stmt} {t u : TS}
theorem pet_rep2 (ho : PE X o to) (hyz : (y == z) = false := by decide)
    (hst : starEach [.Constant (.str y) j c0, .Constant (.str z) k c1] X.env = [(false, eval (.Constant (.str y) j c0) X.env), (false, eval (.Constant (.str z) k c1) X.env)] := by rfl)
    (hbase : attributeBase o "replace" X.env (eval o X.env) = eval o X.env := by rfl) (hline : (apos.endLine == pos.line) = true := by rfl) :
    PET X (.Call (.Attribute o "replace" apos) [.Constant (.str y) j c0, .Constant (.str z) k c1] [] pos) (tRepA to z) := by
  intro pins s σ H Q h0 I h
  refine PySem.Call_method2 hbase hst hline (wpAny_mono (PySem.wpAny_toks (ho.run pins s σ H _ I h)) (fun v s1 q => ?_) fun _ _ z => z.2)
  obtain ⟨hk, v', H1, I1, r1, x, e1, hb, q⟩ := q
  subst e1
  obtain ⟨tx, e2⟩ := r1
  subst e2
  refine ⟨"str", _, PySem.F.plainAttrs_str, PySem.F.slot_str_replace, PySem.F.type_str_replace, typeIs_str _ _ _, (fun _ e => nomatch e), Calls.callWith_builtin rfl (Calls.evalArgs_plain (Calls.spliced_cons ?_))⟩
  refine Calls.Constant_str (Calls.spliced_cons (Calls.Constant_str (Calls.spliced_nil ?_)))
  exact PySem.SC.replace (by show s1.toks ≠ 0; omega) (by show s1.toks + 1 ≠ 0; omega) (by show s1.toks ≠ s1.toks + 1; omega) hyz hb fun t' k => ⟨.str (Txt.replace x y z), H1, I1.tok k, ⟨t', rfl⟩, q _ (repOf_txt x y z)⟩
theorem pet_rep3 (ho : PE X o to) (hyz : (y == z) = false := by decide)
    (hst : starEach [.Constant (.str y) j c0, .Constant (.str z) k c1, .Constant (.int 1) l c2] X.env = [(false, eval (.Constant (.str y) j c0) X.env), (false, eval (.Constant (.str z) k c1) X.env), (false, eval (.Constant (.int 1) l c2) X.env)] := by rfl)
    (hbase : attributeBase o "replace" X.env (eval o X.env) = eval o X.env := by rfl) (hline : (apos.endLine == pos.line) = true := by rfl) :
    PET X (.Call (.Attribute o "replace" apos) [.Constant (.str y) j c0, .Constant (.str z) k c1, .Constant (.int 1) l c2] [] pos) (tRepA to z) := by
  intro pins s σ H Q h0 I h
  refine Call_method3 hbase hst hline (wpAny_mono (PySem.wpAny_toks (ho.run pins s σ H _ I h)) (fun v s1 q => ?_) fun _ _ z => z.2)
  obtain ⟨hk, v', H1, I1, r1, x, e1, hb, q⟩ := q
  subst e1
  obtain ⟨tx, e2⟩ := r1
  subst e2
  refine ⟨"str", _, PySem.F.plainAttrs_str, PySem.F.slot_str_replace, PySem.F.type_str_replace, typeIs_str _ _ _, (fun _ e => nomatch e), Calls.callWith_builtin rfl (Calls.evalArgs_plain (Calls.spliced_cons ?_))⟩
  refine Calls.Constant_str (Calls.spliced_cons (Calls.Constant_str (Calls.spliced_cons (wpAny_Constant_int (Calls.spliced_nil ?_)))))
  exact replace1 (by show s1.toks ≠ 0; omega) (by show s1.toks + 1 ≠ 0; omega) (by show s1.toks ≠ s1.toks + 1; omega) hyz hb fun r t' n hr => ⟨.str r, H1, I1.tok n, ⟨t', rfl⟩, q _ hr⟩
theorem PET.of (h : PE X e te) : PET X e te := fun pins s σ H Q _ I q => h.run pins s σ H Q I q
theorem pet_def {k : Nat} {x : Str} {ps : List Str} {sp : Sp} {e : Expr} {es : List Expr} {p pos : Pos} {t : TA} (D : DefN X.prog X.w X.K X.mg X.base k x ps sp) (hr : Room k X.A) (hg : Gl X x) (ha : PAT X (e :: es) t)
    (hdb : (x == ("__debug__" : Str)) = false := by decide) (he : starEach (e :: es) X.env = (false, eval e X.env) :: starEach es X.env := by rfl) (hpl : (backTo pos (starEach es X.env)).any (·.1) = false := by rfl) :
    PET X (.Call (.Name x p) (e :: es) [] pos) (tCall sp [] E0 t) := by
  obtain ⟨fd, F, b⟩ := D.ex
  intro pins s σ H Q h0 I h
  refine wpAny_Call_Name_kw (ld_glob I hg D.at_ ?_ hdb)
  refine PySem.W.callWith_K (h₀ := X.base) I.ok.mod.kin D.kp (thn (ha pos pins s σ H _ h0 I h) fun us s1 ⟨vs, H1, I1, r, q⟩ => ⟨I1.kIn, ?_⟩) he hpl
  exact run_fn F hr b .nil pass0 I1 r q
theorem pst_set {i : Nat} {x : Str} {e : Expr} {te : TE} {pos' : Pos} (hN : X.N.Nodup) (hi : X.N[i]? = some x) (hx : Loc X.env.scope x) (he : PET X e te) (hs : swapsWith e (some (.Name x pos')) pos.line X.env = pure false := by rfl) (hf : X.fn x = true ∨ X.env.scope.names.lookup x = some .local := by first | exact .inl rfl | exact .inr rfl | assumption) :
    PST X (.Assign [.Name x pos'] e pos) (tAsg te (gName i)) := by
  intro pins s σ H D h0 I h
  refine wpAny_Assign_Name (thn (he pins s σ H _ h0 I h) fun v s1 ⟨y, H1, I1, r1, q1⟩ => ?_) hs
  exact store_ok I1 hN hi hx r1 (fun s2 I2 => ⟨_, H1, I2, q1⟩) hf
/-- behind the test of a number a token is out -/
theorem ps_ifI {c : Expr} {op : CmpOp} {r : R2} {ta : TE} {n : Int} (ho : OpR X (compareOp op) r) (ha : PE X c ta) (hm : behindInMarks op (.Constant (.int n) j c0) = false) (ht : PSsT X a t) (hf : PSsT X b u) :
    PS X (.If (.Compare c [op] [.Constant (.int n) j c0] pos) a b p) (tIfS (tTest (tOp r ta (tC (.int n)))) t u) := by
  refine ⟨fun pins s σ H D I h => ?_⟩
  have h : tTest (tOp r ta (tC (.int n))) σ H (fun d H1 => if d = true then t D σ H1 else u D σ H1) := h
  refine wpAny_If (Q := fun d s1 => _) (wpAny_isTrue_Compare1 (thn (ha.run pins s σ H _ I h) fun v s1 ⟨x, H1, I1, r1, q1⟩ => wpAny_Constant_int ?_) hm)
  have I2 := I1.tok (s1.toks + 1)
  refine wpAny_mono (PySem.wpAny_toks (ho pins _ σ H1 x (.int n) v _ _ I2 r1 ⟨_, rfl⟩ q1)) (fun c s3 w => ?_) fun _ _ z => z.2
  obtain ⟨hk, z, H3, I3, r3, k, e, q3⟩ := w
  have hk : s1.toks + 1 ≤ s3.toks := hk
  subst e
  cases r3
  refine wpAny_truthy_bool ?_
  cases k with
  | true => exact ht pins s3 σ H3 D (by omega) I3 q3
  | false => exact hf pins s3 σ H3 D (by omega) I3 q3
end
end Z
namespace Z
open PySem PySem.Spec PyProof.Rows L2
def top (i : Nat) : Stmt := PySem.Challenge.pw_seenframes_k28_partings_refused_and_read.main.body.getD i (.Pass ⟨0, 0, 0, 0⟩)
def dd (x : Str) (i : Nat) (dfl : List He.Dv := []) : He.DefD := ⟨(x, none), x, x, defArgs (top i), defBody (top i), defScope (top i), dfl, []⟩
def dm (c m q : Str) (i j : Nat) (dfl : List He.Dv := []) : He.DefD := ⟨(c, some m), m, q, defArgs (inClass (top i) j), defBody (inClass (top i) j), defScope (inClass (top i) j), dfl, []⟩
def gd (c m q : Str) (i j : Nat) (cm : Bool := false) : GetD := ⟨c, m, q, defArgs (inClass (top i) j), defBody (inClass (top i) j), defScope (inClass (top i) j), cm⟩
def fn : List He.DefD := [dd "_law_pen" 19, dd "_law_draw" 20, dd "_law_pick" 21, dd "is_name" 9, dd "are_names" 10, dd "ascending" 11, dm "BadParting" "__init__" "BadParting.__init__" 5 0, dd "is_couple" 16, dm "Parting" "__init__" "Parting.__init__" 15 0, dm "BadText" "__init__" "BadText.__init__" 6 0, dd "sides_told" 13, dm "Parting" "__str__" "Parting.__str__" 15 8, dm "Parting" "__eq__" "Parting.__eq__" 15 3, dm "NoHost" "__init__" "NoHost.__init__" 7 0, dm "BadFour" "__init__" "BadFour.__init__" 4 0, dm "Parting" "mate" "Parting.mate" 15 2, dd "answers_of" 17, dd "_law_hosts" 22, dd "_law_row" 23, dd "_law_mixed" 25, dd "_law_made" 24, dd "_law_heard" 26, dd "_law_odd_pair" 27, dd "_law_refused_right" 28, dd "_law_is_name" 29, dd "_law_read" 30, dd "_law_bent" 31, dd "_law_texts_right" 32, dd "law" 33]
def fa : List He.Fa := [.free "list", .glo "_law_pen", .free "int", .free "len", .free "abs", .glo "_law_draw", .glo "_law_pick", .free "str", .free "isinstance", .glo "is_name", .free "set", .free "sorted", .free "all", .free "tuple", .glo "are_names", .glo "ascending", .glo "BadParting", .glo "Parting", .noat "BadParting" "part", .cls "Parting", .mkr "Parting", .noat "Parting" "four", .noat "Parting" "pairs", .glo "is_couple", .glo "BadText", .noat "BadText" "line", .noat "BadText" "word", .exm "BadText" "SeenError" true, .meth "Parting" "__str__", .exm "BadParting" "BadParting" true, .glo "sides_told", .meth "Parting" "__eq__", .meth "Parting" "mate", .glo "NoHost", .noat "NoHost" "name", .glo "BadFour", .noat "BadFour" "value", .free "repr", .free "range", .glo "answers_of", .glo "_law_hosts", .free "enumerate", .glo "_law_row", .glo "_law_mixed", .glo "_law_made", .glo "SeenError", .glo "BadInput", .glo "Refused", .exm "BadParting" "SeenError" true, .exm "BadFour" "SeenError" true, .exm "NoHost" "SeenError" true, .glo "_law_heard", .glo "_law_odd_pair", .glo "_law_refused_right", .glo "_law_is_name", .glo "_law_read", .glo "_law_bent", .glo "_law_texts_right", .glo "law"]
def tf : List He.Defn := [("_law_refused_right", none), ("_law_texts_right", none), ("law", none)]
def gs : List GetD := [gd "Parting" "read" "Parting.read" 15 1 true]
def exs : List (PySem.W.Frag → Bool) := [errB "BadParting", clsB "Parting", errB "BadText", errB "NoHost", errB "BadFour", isB "BadFour" "BadInput", isB "BadParting" "BadInput", isB "BadText" "BadInput", isB "NoHost" "Refused", isN "BadFour" "BadParting", isN "BadFour" "BadText", isN "BadFour" "NoHost", isN "BadFour" "Refused", isN "BadParting" "BadFour", isN "BadParting" "BadText", isN "BadParting" "NoHost", isN "BadParting" "Refused", isN "BadText" "BadFour", isN "BadText" "BadParting", isN "BadText" "NoHost", isN "BadText" "Refused", isN "NoHost" "BadFour", isN "NoHost" "BadInput", isN "NoHost" "BadParting", isN "NoHost" "BadText", tabN "_law_refused_right" "_law_texts_right", tabN "_law_refused_right" "law", tabN "_law_texts_right" "law"]
structure Ev (K : PySem.W.Frag) (mg : Str → Option Value) (base : Heap) : Prop where
  c : He.SaysD fa fn K
  X : K.In base
  G : base.Ns mainGlobals mg
  m : (exs.all fun f => f K) = true
  g : ∀ (i : Nat) (d : GetD), gs[i]? = some d → (d.cm = false → PropOf K (He.ga K d.c) d.f (prA K d.c d.f) (geA K d.c d.f)) ∧ (d.cm = true → CmOf K (He.ga K d.c) d.f (prA K d.c d.f) (geA K d.c d.f)) ∧ ∃ fd, FunD K d.f d.qual d.params d.body d.scope [] [] (geA K d.c d.f) fd
  tb : ∀ p ∈ tf.map (He.cT K), LamX.TabB base mg p.1 p.2
section
variable {K : PySem.W.Frag} {mg : Str → Option Value} {base : Heap}
theorem err_BadParting (e : Ev K mg base) : ErrF K "BadParting" := errB_ok (List.all_eq_true.mp e.m _ (List.mem_of_getElem? (l := exs) (i := 0) rfl))
theorem own_Parting (e : Ev K mg base) : ClsF K "Parting" := clsB_ok (List.all_eq_true.mp e.m _ (List.mem_of_getElem? (l := exs) (i := 1) rfl))
theorem err_BadText (e : Ev K mg base) : ErrF K "BadText" := errB_ok (List.all_eq_true.mp e.m _ (List.mem_of_getElem? (l := exs) (i := 2) rfl))
theorem err_NoHost (e : Ev K mg base) : ErrF K "NoHost" := errB_ok (List.all_eq_true.mp e.m _ (List.mem_of_getElem? (l := exs) (i := 3) rfl))
theorem err_BadFour (e : Ev K mg base) : ErrF K "BadFour" := errB_ok (List.all_eq_true.mp e.m _ (List.mem_of_getElem? (l := exs) (i := 4) rfl))
theorem is_BadFour_BadInput (e : Ev K mg base) : PySem.W.kitOne K (.ref (He.ga K "BadFour")) (.ref (He.ga K "BadInput")) = some true := of_decide_eq_true (List.all_eq_true.mp e.m _ (List.mem_of_getElem? (l := exs) (i := 5) rfl))
theorem is_BadParting_BadInput (e : Ev K mg base) : PySem.W.kitOne K (.ref (He.ga K "BadParting")) (.ref (He.ga K "BadInput")) = some true := of_decide_eq_true (List.all_eq_true.mp e.m _ (List.mem_of_getElem? (l := exs) (i := 6) rfl))
theorem is_BadText_BadInput (e : Ev K mg base) : PySem.W.kitOne K (.ref (He.ga K "BadText")) (.ref (He.ga K "BadInput")) = some true := of_decide_eq_true (List.all_eq_true.mp e.m _ (List.mem_of_getElem? (l := exs) (i := 7) rfl))
theorem is_NoHost_Refused (e : Ev K mg base) : PySem.W.kitOne K (.ref (He.ga K "NoHost")) (.ref (He.ga K "Refused")) = some true := of_decide_eq_true (List.all_eq_true.mp e.m _ (List.mem_of_getElem? (l := exs) (i := 8) rfl))
theorem isn_BadFour_BadParting (e : Ev K mg base) : PySem.W.kitOne K (.ref (He.ga K "BadFour")) (.ref (He.ga K "BadParting")) = some false := of_decide_eq_true (List.all_eq_true.mp e.m _ (List.mem_of_getElem? (l := exs) (i := 9) rfl))
theorem isn_BadFour_BadText (e : Ev K mg base) : PySem.W.kitOne K (.ref (He.ga K "BadFour")) (.ref (He.ga K "BadText")) = some false := of_decide_eq_true (List.all_eq_true.mp e.m _ (List.mem_of_getElem? (l := exs) (i := 10) rfl))
theorem isn_BadFour_NoHost (e : Ev K mg base) : PySem.W.kitOne K (.ref (He.ga K "BadFour")) (.ref (He.ga K "NoHost")) = some false := of_decide_eq_true (List.all_eq_true.mp e.m _ (List.mem_of_getElem? (l := exs) (i := 11) rfl))
theorem isn_BadFour_Refused (e : Ev K mg base) : PySem.W.kitOne K (.ref (He.ga K "BadFour")) (.ref (He.ga K "Refused")) = some false := of_decide_eq_true (List.all_eq_true.mp e.m _ (List.mem_of_getElem? (l := exs) (i := 12) rfl))
theorem isn_BadParting_BadFour (e : Ev K mg base) : PySem.W.kitOne K (.ref (He.ga K "BadParting")) (.ref (He.ga K "BadFour")) = some false := of_decide_eq_true (List.all_eq_true.mp e.m _ (List.mem_of_getElem? (l := exs) (i := 13) rfl))
theorem isn_BadParting_BadText (e : Ev K mg base) : PySem.W.kitOne K (.ref (He.ga K "BadParting")) (.ref (He.ga K "BadText")) = some false := of_decide_eq_true (List.all_eq_true.mp e.m _ (List.mem_of_getElem? (l := exs) (i := 14) rfl))
theorem isn_BadParting_NoHost (e : Ev K mg base) : PySem.W.kitOne K (.ref (He.ga K "BadParting")) (.ref (He.ga K "NoHost")) = some false := of_decide_eq_true (List.all_eq_true.mp e.m _ (List.mem_of_getElem? (l := exs) (i := 15) rfl))
theorem isn_BadParting_Refused (e : Ev K mg base) : PySem.W.kitOne K (.ref (He.ga K "BadParting")) (.ref (He.ga K "Refused")) = some false := of_decide_eq_true (List.all_eq_true.mp e.m _ (List.mem_of_getElem? (l := exs) (i := 16) rfl))
theorem isn_BadText_BadFour (e : Ev K mg base) : PySem.W.kitOne K (.ref (He.ga K "BadText")) (.ref (He.ga K "BadFour")) = some false := of_decide_eq_true (List.all_eq_true.mp e.m _ (List.mem_of_getElem? (l := exs) (i := 17) rfl))
theorem isn_BadText_BadParting (e : Ev K mg base) : PySem.W.kitOne K (.ref (He.ga K "BadText")) (.ref (He.ga K "BadParting")) = some false := of_decide_eq_true (List.all_eq_true.mp e.m _ (List.mem_of_getElem? (l := exs) (i := 18) rfl))
theorem isn_BadText_NoHost (e : Ev K mg base) : PySem.W.kitOne K (.ref (He.ga K "BadText")) (.ref (He.ga K "NoHost")) = some false := of_decide_eq_true (List.all_eq_true.mp e.m _ (List.mem_of_getElem? (l := exs) (i := 19) rfl))
theorem isn_BadText_Refused (e : Ev K mg base) : PySem.W.kitOne K (.ref (He.ga K "BadText")) (.ref (He.ga K "Refused")) = some false := of_decide_eq_true (List.all_eq_true.mp e.m _ (List.mem_of_getElem? (l := exs) (i := 20) rfl))
theorem isn_NoHost_BadFour (e : Ev K mg base) : PySem.W.kitOne K (.ref (He.ga K "NoHost")) (.ref (He.ga K "BadFour")) = some false := of_decide_eq_true (List.all_eq_true.mp e.m _ (List.mem_of_getElem? (l := exs) (i := 21) rfl))
theorem isn_NoHost_BadInput (e : Ev K mg base) : PySem.W.kitOne K (.ref (He.ga K "NoHost")) (.ref (He.ga K "BadInput")) = some false := of_decide_eq_true (List.all_eq_true.mp e.m _ (List.mem_of_getElem? (l := exs) (i := 22) rfl))
theorem isn_NoHost_BadParting (e : Ev K mg base) : PySem.W.kitOne K (.ref (He.ga K "NoHost")) (.ref (He.ga K "BadParting")) = some false := of_decide_eq_true (List.all_eq_true.mp e.m _ (List.mem_of_getElem? (l := exs) (i := 23) rfl))
theorem isn_NoHost_BadText (e : Ev K mg base) : PySem.W.kitOne K (.ref (He.ga K "NoHost")) (.ref (He.ga K "BadText")) = some false := of_decide_eq_true (List.all_eq_true.mp e.m _ (List.mem_of_getElem? (l := exs) (i := 24) rfl))
theorem tabn__law_refused_right__law_texts_right (e : Ev K mg base) : (He.cT K ("_law_refused_right", none)).2 ≠ (He.cT K ("_law_texts_right", none)).2 := of_decide_eq_true (List.all_eq_true.mp e.m _ (List.mem_of_getElem? (l := exs) (i := 25) rfl))
theorem tabn__law_refused_right_law (e : Ev K mg base) : (He.cT K ("_law_refused_right", none)).2 ≠ (He.cT K ("law", none)).2 := of_decide_eq_true (List.all_eq_true.mp e.m _ (List.mem_of_getElem? (l := exs) (i := 26) rfl))
theorem tabn__law_texts_right_law (e : Ev K mg base) : (He.cT K ("_law_texts_right", none)).2 ≠ (He.cT K ("law", none)).2 := of_decide_eq_true (List.all_eq_true.mp e.m _ (List.mem_of_getElem? (l := exs) (i := 27) rfl))
theorem f_list (e : Ev K mg base) : mg "list" = none := He.free_ok e.X e.G (e.c.fact 0 rfl)
theorem g_law_pen (e : Ev K mg base) : mg "_law_pen" = some (.ref (He.ga K "_law_pen")) := He.glo_ok e.X e.G (e.c.fact 1 rfl)
theorem f_int (e : Ev K mg base) : mg "int" = none := He.free_ok e.X e.G (e.c.fact 2 rfl)
theorem f_len (e : Ev K mg base) : mg "len" = none := He.free_ok e.X e.G (e.c.fact 3 rfl)
theorem f_abs (e : Ev K mg base) : mg "abs" = none := He.free_ok e.X e.G (e.c.fact 4 rfl)
theorem g_law_draw (e : Ev K mg base) : mg "_law_draw" = some (.ref (He.ga K "_law_draw")) := He.glo_ok e.X e.G (e.c.fact 5 rfl)
theorem g_law_pick (e : Ev K mg base) : mg "_law_pick" = some (.ref (He.ga K "_law_pick")) := He.glo_ok e.X e.G (e.c.fact 6 rfl)
theorem f_str (e : Ev K mg base) : mg "str" = none := He.free_ok e.X e.G (e.c.fact 7 rfl)
theorem f_isinstance (e : Ev K mg base) : mg "isinstance" = none := He.free_ok e.X e.G (e.c.fact 8 rfl)
theorem g_is_name (e : Ev K mg base) : mg "is_name" = some (.ref (He.ga K "is_name")) := He.glo_ok e.X e.G (e.c.fact 9 rfl)
theorem f_set (e : Ev K mg base) : mg "set" = none := He.free_ok e.X e.G (e.c.fact 10 rfl)
theorem f_sorted (e : Ev K mg base) : mg "sorted" = none := He.free_ok e.X e.G (e.c.fact 11 rfl)
theorem f_all (e : Ev K mg base) : mg "all" = none := He.free_ok e.X e.G (e.c.fact 12 rfl)
theorem f_tuple (e : Ev K mg base) : mg "tuple" = none := He.free_ok e.X e.G (e.c.fact 13 rfl)
theorem g_are_names (e : Ev K mg base) : mg "are_names" = some (.ref (He.ga K "are_names")) := He.glo_ok e.X e.G (e.c.fact 14 rfl)
theorem g_ascending (e : Ev K mg base) : mg "ascending" = some (.ref (He.ga K "ascending")) := He.glo_ok e.X e.G (e.c.fact 15 rfl)
theorem g_BadParting (e : Ev K mg base) : mg "BadParting" = some (.ref (He.ga K "BadParting")) := He.glo_ok e.X e.G (e.c.fact 16 rfl)
theorem g_Parting (e : Ev K mg base) : mg "Parting" = some (.ref (He.ga K "Parting")) := He.glo_ok e.X e.G (e.c.fact 17 rfl)
theorem no_BadParting_part (e : Ev K mg base) : NoAttr K (He.ga K "BadParting") "part" := He.noat_ok (e.c.fact 18 rfl)
theorem cls_Parting (e : Ev K mg base) : Cls K (He.ga K "Parting") := He.cls_ok (e.c.fact 19 rfl)
theorem mk_Parting (e : Ev K mg base) : Mk K (He.ga K "Parting") (He.ma K (He.ga K "Parting") "__init__") := He.mkr_ok (e.c.fact 20 rfl)
theorem no_Parting_four (e : Ev K mg base) : NoAttr K (He.ga K "Parting") "four" := He.noat_ok (e.c.fact 21 rfl)
theorem no_Parting_pairs (e : Ev K mg base) : NoAttr K (He.ga K "Parting") "pairs" := He.noat_ok (e.c.fact 22 rfl)
theorem g_is_couple (e : Ev K mg base) : mg "is_couple" = some (.ref (He.ga K "is_couple")) := He.glo_ok e.X e.G (e.c.fact 23 rfl)
theorem g_BadText (e : Ev K mg base) : mg "BadText" = some (.ref (He.ga K "BadText")) := He.glo_ok e.X e.G (e.c.fact 24 rfl)
theorem no_BadText_line (e : Ev K mg base) : NoAttr K (He.ga K "BadText") "line" := He.noat_ok (e.c.fact 25 rfl)
theorem no_BadText_word (e : Ev K mg base) : NoAttr K (He.ga K "BadText") "word" := He.noat_ok (e.c.fact 26 rfl)
theorem exm_BadText_SeenError (e : Ev K mg base) : PySem.W.exmOne K (.ref (He.ga K "BadText")) (.ref (He.ga K "SeenError")) = some true := He.exm_ok (e.c.fact 27 rfl)
theorem me_Parting___str__ (e : Ev K mg base) : Meth K (He.ga K "Parting") "__str__" (He.ma K (He.ga K "Parting") "__str__") := He.meth_ok (e.c.fact 28 rfl)
theorem exm_BadParting_BadParting (e : Ev K mg base) : PySem.W.exmOne K (.ref (He.ga K "BadParting")) (.ref (He.ga K "BadParting")) = some true := He.exm_ok (e.c.fact 29 rfl)
theorem g_sides_told (e : Ev K mg base) : mg "sides_told" = some (.ref (He.ga K "sides_told")) := He.glo_ok e.X e.G (e.c.fact 30 rfl)
theorem me_Parting___eq__ (e : Ev K mg base) : Meth K (He.ga K "Parting") "__eq__" (He.ma K (He.ga K "Parting") "__eq__") := He.meth_ok (e.c.fact 31 rfl)
theorem me_Parting_mate (e : Ev K mg base) : Meth K (He.ga K "Parting") "mate" (He.ma K (He.ga K "Parting") "mate") := He.meth_ok (e.c.fact 32 rfl)
theorem g_NoHost (e : Ev K mg base) : mg "NoHost" = some (.ref (He.ga K "NoHost")) := He.glo_ok e.X e.G (e.c.fact 33 rfl)
theorem no_NoHost_name (e : Ev K mg base) : NoAttr K (He.ga K "NoHost") "name" := He.noat_ok (e.c.fact 34 rfl)
theorem g_BadFour (e : Ev K mg base) : mg "BadFour" = some (.ref (He.ga K "BadFour")) := He.glo_ok e.X e.G (e.c.fact 35 rfl)
theorem no_BadFour_value (e : Ev K mg base) : NoAttr K (He.ga K "BadFour") "value" := He.noat_ok (e.c.fact 36 rfl)
theorem f_repr (e : Ev K mg base) : mg "repr" = none := He.free_ok e.X e.G (e.c.fact 37 rfl)
theorem f_range (e : Ev K mg base) : mg "range" = none := He.free_ok e.X e.G (e.c.fact 38 rfl)
theorem g_answers_of (e : Ev K mg base) : mg "answers_of" = some (.ref (He.ga K "answers_of")) := He.glo_ok e.X e.G (e.c.fact 39 rfl)
theorem g_law_hosts (e : Ev K mg base) : mg "_law_hosts" = some (.ref (He.ga K "_law_hosts")) := He.glo_ok e.X e.G (e.c.fact 40 rfl)
theorem f_enumerate (e : Ev K mg base) : mg "enumerate" = none := He.free_ok e.X e.G (e.c.fact 41 rfl)
theorem g_law_row (e : Ev K mg base) : mg "_law_row" = some (.ref (He.ga K "_law_row")) := He.glo_ok e.X e.G (e.c.fact 42 rfl)
theorem g_law_mixed (e : Ev K mg base) : mg "_law_mixed" = some (.ref (He.ga K "_law_mixed")) := He.glo_ok e.X e.G (e.c.fact 43 rfl)
theorem g_law_made (e : Ev K mg base) : mg "_law_made" = some (.ref (He.ga K "_law_made")) := He.glo_ok e.X e.G (e.c.fact 44 rfl)
theorem g_SeenError (e : Ev K mg base) : mg "SeenError" = some (.ref (He.ga K "SeenError")) := He.glo_ok e.X e.G (e.c.fact 45 rfl)
theorem g_BadInput (e : Ev K mg base) : mg "BadInput" = some (.ref (He.ga K "BadInput")) := He.glo_ok e.X e.G (e.c.fact 46 rfl)
theorem g_Refused (e : Ev K mg base) : mg "Refused" = some (.ref (He.ga K "Refused")) := He.glo_ok e.X e.G (e.c.fact 47 rfl)
theorem exm_BadParting_SeenError (e : Ev K mg base) : PySem.W.exmOne K (.ref (He.ga K "BadParting")) (.ref (He.ga K "SeenError")) = some true := He.exm_ok (e.c.fact 48 rfl)
theorem exm_BadFour_SeenError (e : Ev K mg base) : PySem.W.exmOne K (.ref (He.ga K "BadFour")) (.ref (He.ga K "SeenError")) = some true := He.exm_ok (e.c.fact 49 rfl)
theorem exm_NoHost_SeenError (e : Ev K mg base) : PySem.W.exmOne K (.ref (He.ga K "NoHost")) (.ref (He.ga K "SeenError")) = some true := He.exm_ok (e.c.fact 50 rfl)
theorem g_law_heard (e : Ev K mg base) : mg "_law_heard" = some (.ref (He.ga K "_law_heard")) := He.glo_ok e.X e.G (e.c.fact 51 rfl)
theorem g_law_odd_pair (e : Ev K mg base) : mg "_law_odd_pair" = some (.ref (He.ga K "_law_odd_pair")) := He.glo_ok e.X e.G (e.c.fact 52 rfl)
theorem g_law_refused_right (e : Ev K mg base) : mg "_law_refused_right" = some (.ref (He.ga K "_law_refused_right")) := He.glo_ok e.X e.G (e.c.fact 53 rfl)
theorem g_law_is_name (e : Ev K mg base) : mg "_law_is_name" = some (.ref (He.ga K "_law_is_name")) := He.glo_ok e.X e.G (e.c.fact 54 rfl)
theorem g_law_read (e : Ev K mg base) : mg "_law_read" = some (.ref (He.ga K "_law_read")) := He.glo_ok e.X e.G (e.c.fact 55 rfl)
theorem g_law_bent (e : Ev K mg base) : mg "_law_bent" = some (.ref (He.ga K "_law_bent")) := He.glo_ok e.X e.G (e.c.fact 56 rfl)
theorem g_law_texts_right (e : Ev K mg base) : mg "_law_texts_right" = some (.ref (He.ga K "_law_texts_right")) := He.glo_ok e.X e.G (e.c.fact 57 rfl)
theorem g_law (e : Ev K mg base) : mg "law" = some (.ref (He.ga K "law")) := He.glo_ok e.X e.G (e.c.fact 58 rfl)
end
section
variable {P : Program} {w : World} {K : PySem.W.Frag} {mg : Str → Option Value} {base : Heap}
theorem sc_law_pen : FnScope ["script"] ["script"] (defScope (top 19)) := ⟨rfl, rfl, rfl, by decide +kernel, rfl, by decide +kernel, by decide +kernel⟩
theorem ok_law_pen {fd : FuncData} (F : FunD K "_law_pen" "_law_pen" (defArgs (top 19)) (defBody (top 19)) (defScope (top 19)) [] [] (He.ga K "_law_pen") fd) (e : Ev K mg base) : FnOk P w K mg base CX0 1 (He.ga K "_law_pen") fd ["script"] (spPen K) := by
  refine F.ok sc_law_pen (fun vs H Q E h => ?_) (fun cdv A outer s H vs Q E hr h => ?_)
  · obtain ⟨_, _, rfl, _⟩ := h
    rfl
  · skip
    refine ⟨_, PSs.nox ((pss_one (ps_ret (pe_lst (pa_cons (pe_callTy (kcall_list_of (K := K)) (by rfl) (f_list e) (by decide +kernel) (pa_cons (pe_slice (ksl_list (K := K)) (pv 0) po_none (po_some pe_int)) pa_nil)) (pa_cons pe_int (pa_cons pe_int pa_nil))))))), ?_⟩
    obtain ⟨a, ns, rfl, hS, hl, k⟩ := h
    refine ⟨_, rfl, 63, rfl, a, _, rfl, hS, fun q hq => ?_⟩
    refine ⟨q, _, rfl, .inl (SqL.of upd_same), fun c hc => ?_⟩
    refine ⟨by show 3 ≤ sizeLine; decide, fun p hp => ?_⟩
    have n1 : c ≠ q := fun e => by rw [e, upd_same] at hc; cases hc
    have hc0 : H c = none := by rw [upd_ne n1] at hc; exact hc
    have n2 : p ≠ c := fun e => by rw [e, upd_same] at hp; cases hp
    rw [upd_ne n2] at hp
    have n3 : p ≠ q := fun e => by rw [e, upd_same] at hp; cases hp
    rw [upd_ne n3] at hp
    have e : ∃ ms : List Int, cutV (ns.map V.int) none (some 63) = ms.map V.int ∧ ms.length ≤ 63 := by
      unfold cutV
      refine ⟨(ns.drop _).take _, by rw [List.map_take, List.map_drop], ?_⟩
      rw [List.length_take, List.length_drop]
      omega
    obtain ⟨ms, e1, e2⟩ := e
    refine k _ p c ms (fun b o h => ?_) hp hc0 n2 e2 ⟨upd_same, ?_⟩
    · rw [upd_ne (ne_of_none h hp), upd_ne (ne_of_none h hc0), upd_ne (ne_of_none h hq)]
      exact h
    · rw [upd_ne n2.symm, upd_same, e1]
theorem d_law_pen (e : Ev K mg base) : DefN P w K mg base 1 "_law_pen" ["script"] (spPen K) := by
  obtain ⟨fd, F⟩ := e.c.def_ 0 (d := dd "_law_pen" 19) rfl
  exact ⟨⟨fd, ok_law_pen F e, FunD.bindsN F fun _ _ _ _ _ _ us hl => match us, hl with | [_], _ => rfl⟩, F.kp, He.glo_ok e.X e.G (e.c.fact 1 rfl)⟩
theorem sc_law_draw : FnScope ["pen", "many", "digit", "at", "cell", "great", "mixed"] ["pen", "many"] (defScope (top 20)) := ⟨rfl, rfl, rfl, by decide +kernel, rfl, by decide +kernel, by decide +kernel⟩
theorem ok_law_draw {fd : FuncData} (F : FunD K "_law_draw" "_law_draw" (defArgs (top 20)) (defBody (top 20)) (defScope (top 20)) [] [] (He.ga K "_law_draw") fd) (e : Ev K mg base) : FnOk P w K mg base CX0 1 (He.ga K "_law_draw") fd ["pen", "many"] (spDraw) := by
  refine F.ok sc_law_draw (fun vs H Q E h => ?_) (fun cdv A outer s H vs Q E hr h => ?_)
  · obtain ⟨_, _, _, _, _, _, rfl, _⟩ := h
    rfl
  · skip
    refine ⟨_, PSs.nox ((pss_cons (ps_if (pt_cmpR op_gt (pe_ix (kix_list (K := K)) (pv 0) pe_int (fun _ _ => rfl)) pe_int (nomark _))
      (pss_cons (ps_set (i := 2) sc_law_draw.nd rfl (Or.inl rfl) (pe_op op_modN (pe_callTy call_int1 (by rfl) (f_int e) (by decide +kernel) (pa_cons (pe_ix (kix_list (K := K)) (pv 0) pe_int (fun _ _ => rfl)) pa_nil)) (pv 1)))
      (pss_cons (ps_asg (pe_op op_fdivN (pe_callTy call_int1 (by rfl) (f_int e) (by decide +kernel) (pa_cons (pe_ix (kix_list (K := K)) (pv 0) pe_int (fun _ _ => rfl)) pa_nil)) (pv 1)) (pg_sub (pv 0) pe_int set_list))
      (pss_one (ps_ret (pv 2))))) pss_nil)
      (pss_cons (ps_set (i := 3) sc_law_draw.nd rfl (Or.inl rfl) (pe_ix (kix_list (K := K)) (pv 0) pe_int (fun _ _ => rfl)))
      (pss_cons (ps_asg (pe_op op_add (pv 3) pe_int) (pg_sub (pv 0) pe_int set_list))
      (pss_cons (ps_set (i := 4) sc_law_draw.nd rfl (Or.inl rfl) (pe_op op_add (pe_op op_mul pe_int (pv 3)) pe_int))
      (C8.pss_cut (ps_if (pt_cmpR (kop_neD (K := K) hr.units) (pe_ix (kix_list (K := K)) (pv 0) pe_int (fun _ _ => rfl)) (pe_lst pa_nil) (nomark _))
      (pss_one (ps_set (i := 4) sc_law_draw.nd rfl (Or.inl rfl) (pe_ix (kix_list (K := K)) (pe_ix (kix_list (K := K)) (pv 0) pe_int (fun _ _ => rfl)) (pe_op op_modN (pe_callTy call_int1 (by rfl) (f_int e) (by decide +kernel) (pa_cons (pv 3) pa_nil)) (pe_callB (kcall_len_seq (K := K)) (by rfl) (f_len e) (by decide +kernel) (pa_cons (pe_ix (kix_list (K := K)) (pv 0) pe_int (fun _ _ => rfl)) pa_nil))) (fun _ _ => rfl)))) pss_nil)
      (C8.pss_cut (ps_if (PW.pt (pw_and (pt_cmpR op_lt (pv 3) (pe_callB (kcall_len_seq (K := K)) (by rfl) (f_len e) (by decide +kernel) (pa_cons (pe_ix (kix_list (K := K)) (pv 0) pe_int (fun _ _ => rfl)) pa_nil)) (nomark _)) (pw_and1 (pt_cmpR op_ge (pe_callB call_abs (by rfl) (f_abs e) (by decide +kernel) (pa_cons (pv 4) pa_nil)) (pe_op op_pow pe_int pe_int) (nomark _)))))
      (pss_cons (ps_set (i := 5) sc_law_draw.nd rfl (Or.inl rfl) (pe_op op_add (pe_op op_mul pe_int (pe_op op_sub (pe_callB call_abs (by rfl) (f_abs e) (by decide +kernel) (pa_cons (pv 4) pa_nil)) (pe_op op_pow pe_int pe_int))) (pe_callTy call_int1 (by rfl) (f_int e) (by decide +kernel) (pa_cons (pe_cmpR op_lt (pv 4) pe_int (nomark _)) pa_nil))))
      (pss_cons (ps_asg (pe_op op_fdivN (pe_callTy call_int1 (by rfl) (f_int e) (by decide +kernel) (pa_cons (pv 5) pa_nil)) (pv 1)) (pg_sub (pv 0) pe_int set_list))
      (pss_one (ps_ret (pe_op op_modN (pe_callTy call_int1 (by rfl) (f_int e) (by decide +kernel) (pa_cons (pv 5) pa_nil)) (pv 1)))))) pss_nil)
      (pss_cons (ps_set (i := 6) sc_law_draw.nd rfl (Or.inl rfl) (pe_op op_modN (pe_callTy call_int1 (by rfl) (f_int e) (by decide +kernel) (pa_cons (pe_op op_pow (pe_op op_add (pe_op op_add (pe_op op_modN (pe_callTy call_int1 (by rfl) (f_int e) (by decide +kernel) (pa_cons (pv 4) pa_nil)) pe_int) (pe_op op_mul pe_int (pv 3))) pe_int) pe_int) pa_nil)) pe_int))
      (pss_cons (ps_set (i := 6) sc_law_draw.nd rfl (Or.inl rfl) (pe_op op_modN (pe_callTy call_int1 (by rfl) (f_int e) (by decide +kernel) (pa_cons (pe_op op_pow (pe_op op_add (pe_op op_add (pe_op op_mul (pv 6) (pe_op op_add (pe_op op_mul pe_int (pv 3)) pe_int)) (pe_op op_mul (pe_op op_mul pe_int (pv 3)) (pv 3))) pe_int) pe_int) pa_nil)) pe_int))
      (pss_one (ps_ret (pe_op op_modN (pe_callTy call_int1 (by rfl) (f_int e) (by decide +kernel) (pa_cons (pe_op op_fdivN (pv 6) pe_int) pa_nil)) (pv 1))))))))))))), ?_⟩
    obtain ⟨p, c, ms, t, z, m, rfl, hP, ht, hm, hm2, k⟩ := h
    have i0 : atI [V.ref c, V.int t, V.int z] 0 = some (.ref c) := rfl
    have i1 : atI [V.ref c, V.int t, V.int z] 1 = some (.int t) := rfl
    have i2 : atI [V.ref c, V.int t, V.int z] 2 = some (.int z) := rfl
    -- pen[2] > 0
    refine ⟨_, rfl, p, _, _, _, rfl, rfl, SqL.of hP.a, i2, _, _, rfl, rfl, _, rfl, ?_⟩
    have npc : p ≠ c := ne_of hP.a hP.b (by intro e; injection e with e; cases ms with | nil => cases e | cons x r => cases e)
    refine ite2 (fun _ => ?_) fun _ => ?_
    · refine ⟨_, rfl, p, _, _, _, rfl, rfl, SqL.of hP.a, i2, .inl ⟨_, rfl, ?_⟩⟩
      refine ⟨_, rfl, _, _, rfl, rfl, by omega, ?_⟩
      refine ⟨_, rfl, p, _, _, _, rfl, rfl, SqL.of hP.a, i2, .inl ⟨_, rfl, ?_⟩⟩
      refine ⟨_, rfl, _, _, rfl, rfl, ⟨by omega, by omega⟩, ?_⟩
      refine ⟨_, rfl, p, _, _, 2, rfl, rfl, hP.a, rfl, ?_⟩
      refine ⟨_, rfl, ?_⟩
      obtain ⟨a1, a2⟩ := mod_lo z hm
      exact k _ _ t _ a1 a2 (fun b o n h => by rw [upd_ne n]; exact h) ⟨upd_same, by rw [upd_ne npc.symm]; exact hP.b⟩ (Nat.le_succ _)
    · -- turn = pen[1]; pen[1] = turn + 1; cell = ..
      refine ⟨_, rfl, p, _, _, _, rfl, rfl, SqL.of hP.a, i1, ?_⟩
      refine ⟨_, rfl, _, _, rfl, rfl, _, rfl, p, _, _, 1, rfl, rfl, hP.a, rfl, ?_⟩
      refine ⟨_, rfl, _, _, rfl, rfl, .inl ⟨by decide, by decide⟩, _, _, rfl, rfl, ?_⟩
      -- the rows behind the if: once, for any cell
      have hb1 : (upd H p (.lst [.ref c, .int ((t : Int) + 1), .int z])) c = some (.lst (ms.map .int)) := by rw [upd_ne npc.symm]; exact hP.b
      refine ⟨fun σ' H' => ∃ cell : Int, σ' = [some (.ref p), some (.int m), none, some (.int t), some (.int cell), none, none] ∧ But p H H' ∧ Pen H' p c ms (t + 1) z, ?_, ?_⟩
      · refine ⟨_, rfl, p, _, _, .ref c, rfl, rfl, SqL.of upd_same, rfl, ?_⟩
        refine ⟨by show 0 ≤ sizeLine; decide, fun q hq => ?_⟩
        have hpq : p ≠ q := ne_of_none upd_same hq
        have hcq : c ≠ q := ne_of_none hb1 hq
        have P2 : Pen (upd (upd H p (.lst [.ref c, .int ((t : Int) + 1), .int z])) q (.lst [])) p c ms (t + 1) z := ⟨by rw [upd_ne hpq, upd_same]; rfl, by rw [upd_ne hcq]; exact hb1⟩
        have B2 : But p H (upd (upd H p (.lst [.ref c, .int ((t : Int) + 1), .int z])) q (.lst [])) := fun b o n h => by
          have h1 : (upd H p (.lst [.ref c, .int ((t : Int) + 1), .int z])) b = some o := by rw [upd_ne n]; exact h
          rw [upd_ne (ne_of_none h1 hq)]
          exact h1
        refine ⟨.list (ms.map .int), .list [], .lst (SqL.of P2.b) (dp_ints ms), .lst (SqL.of upd_same) .nil, shaped_ints ms, by decide +kernel, _, rfl, ?_⟩
        rw [eqv_nil]
        cases ems : ms.isEmpty with
        | true => exact iteF ⟨_, rfl, B2, P2⟩
        | false =>
          refine iteT ?_
          have hl0 : 0 < ms.length := by cases ms with | nil => cases ems | cons x r => exact Nat.succ_pos _
          have hl1 : (0 : Int) < ((ms.map V.int).length : Int) := by rw [List.length_map]; omega
          have hl2 := mod_lo (t : Int) (m := ((ms.map V.int).length : Int)) (by omega)
          have hix : ∃ y, atI (ms.map V.int) ((t : Int).fmod ((ms.map V.int).length : Int)) = some (V.int y) := by
            obtain ⟨j, hj⟩ : ∃ j : Nat, (t : Int).fmod ((ms.map V.int).length : Int) = (j : Int) := ⟨_, (Int.toNat_of_nonneg hl2.1).symm⟩
            rw [hj]
            have hjl : j < ms.length := by
              have e9 : (ms.map V.int).length = ms.length := List.length_map ..
              omega
            exact ⟨ms[j], atI_nat (by rw [List.getElem?_map, List.getElem?_eq_getElem hjl]; rfl)⟩
          obtain ⟨y, hy⟩ := hix
          refine ⟨_, rfl, p, _, _, .ref c, rfl, rfl, SqL.of P2.a, rfl, ?_⟩
          refine ⟨_, rfl, .inl ⟨_, rfl, ?_⟩⟩
          refine ⟨_, rfl, p, _, _, .ref c, rfl, rfl, SqL.of P2.a, rfl, ?_⟩
          refine ⟨c, _, rfl, .inl (SqL.of P2.b), ?_⟩
          refine ⟨_, _, rfl, rfl, by omega, ?_⟩
          refine ⟨c, _, _, _, rfl, rfl, SqL.of P2.b, hy, ?_⟩
          exact ⟨y, rfl, B2, P2⟩
      · rintro σ' H' ⟨cell, rfl, B2, P2⟩
        refine ⟨fun σ'' H'' => σ'' = [some (.ref p), some (.int m), none, some (.int t), some (.int cell), none, none] ∧ H'' = H', ?_, ?_⟩
        · refine ⟨_, rfl, _, rfl, p, _, _, .ref c, rfl, rfl, SqL.of P2.a, rfl, c, _, rfl, .inl (SqL.of P2.b), _, _, rfl, rfl, _, rfl, ?_⟩
          refine ite2 (fun h1 => ?_) fun h1 => iteF ⟨rfl, rfl⟩
          refine ⟨_, rfl, _, rfl, _, _, rfl, rfl, ⟨by decide, by decide, by decide⟩, _, _, rfl, rfl, _, rfl, ?_⟩
          refine ite2 (fun h2 => ?_) fun h2 => ⟨rfl, rfl⟩
          refine ⟨_, rfl, _, rfl, _, _, rfl, rfl, ⟨by decide, by decide, by decide⟩, _, _, rfl, rfl, ?_⟩
          refine ⟨_, _, rfl, rfl, .inl ⟨by decide, by decide⟩, _, rfl, _, _, rfl, rfl, .inr ⟨_, rfl, ?_⟩⟩
          refine ⟨_, _, rfl, rfl, ?_⟩
          refine ⟨_, rfl, .inl ⟨_, rfl, _, rfl, _, _, rfl, rfl, ⟨by omega, by omega⟩, ?_⟩⟩
          refine ⟨_, rfl, p, _, _, 2, rfl, rfl, P2.a, rfl, ?_⟩
          refine ⟨_, rfl, .inl ⟨_, rfl, _, rfl, _, _, rfl, rfl, by omega, ?_⟩⟩
          obtain ⟨a1, a2⟩ := mod_lo (2 * ((if cell < 0 then -cell else cell) - 10 ^ (18 : Int).toNat) + (if decide (cell < 0) = true then 1 else 0)) hm
          exact k _ _ (t + 1) _ a1 a2 (fun b o n h => by rw [upd_ne n]; exact B2 b o n h) ⟨upd_same, by rw [upd_ne npc.symm]; exact P2.b⟩ (Nat.le_refl _)
        · rintro σ'' H'' ⟨rfl, rfl⟩
          have m1 := mod_lo cell (m := 2147483549) (by decide)
          refine ⟨_, rfl, .inl ⟨_, rfl, _, _, rfl, rfl, (by show (_ : Int) ≠ 0; decide), ?_⟩⟩
          refine ⟨_, rfl, _, _, rfl, rfl, .inl ⟨by decide, by decide⟩, _, _, rfl, rfl, _, _, rfl, rfl, ?_⟩
          refine ⟨_, _, rfl, rfl, ⟨by decide, by decide, ?_⟩, .inl ⟨_, rfl, _, _, rfl, rfl, (by show (_ : Int) ≠ 0; decide), ?_⟩⟩
          · show (cell.fmod 2147483549 + 55585 * (t : Int) + 103).natAbs < 2 ^ 64
            omega
          generalize hmx : ((cell.fmod 2147483549 + 55585 * (t : Int) + 103) ^ (5 : Int).toNat) = big
          have m2 := mod_lo big (m := 2147483489) (by decide)
          generalize hmy : big.fmod 2147483489 = b2 at m2
          have hmul : 0 ≤ b2 * (2 * (t : Int) + 286) ∧ b2 * (2 * (t : Int) + 286) ≤ 2147483489 * (2000000 + 286) := ⟨Int.mul_nonneg m2.1 (by omega), Int.mul_le_mul (by omega) (by omega) (by omega) (by decide)⟩
          have hsq : 0 ≤ 79763 * (t : Int) * (t : Int) ∧ 79763 * (t : Int) * (t : Int) ≤ 79763 * 1000000 * 1000000 := ⟨Int.mul_nonneg (by omega) (by omega), Int.mul_le_mul (by omega) (by omega) (by omega) (by decide)⟩
          refine ⟨_, rfl, _, rfl, _, _, rfl, rfl, .inl ⟨by decide, by decide⟩, _, _, rfl, rfl, _, _, rfl, rfl, .inl ⟨?_, ?_⟩, ?_⟩
          · show -(2 ^ 64) < big.fmod 2147483489
            omega
          · show big.fmod 2147483489 < 2 ^ 64
            omega
          refine ⟨_, rfl, _, _, rfl, rfl, .inl ⟨by decide, by decide⟩, _, rfl, _, _, rfl, rfl, .inl ⟨?_, ?_⟩, _, _, rfl, rfl, _, _, rfl, rfl, ?_⟩
          · show -(2 ^ 64) < 79763 * (t : Int)
            omega
          · show 79763 * (t : Int) < 2 ^ 64
            omega
          refine ⟨_, _, rfl, rfl, ⟨by decide, by decide, ?_⟩, .inl ⟨_, rfl, _, _, rfl, rfl, (by show (_ : Int) ≠ 0; decide), ?_⟩⟩
          · show (big.fmod 2147483489 * (2 * (t : Int) + 286) + 79763 * (t : Int) * (t : Int) + 67).natAbs < 2 ^ 64
            rw [hmy]
            omega
          refine ⟨_, rfl, _, _, rfl, rfl, ⟨by show (_ : Int) ≠ 0; decide, by decide⟩, .inl ⟨_, rfl, _, rfl, _, _, rfl, rfl, by omega, ?_⟩⟩
          obtain ⟨a1, a2⟩ := mod_lo (Int.fdiv (((big.fmod 2147483489 * (2 * (t : Int) + 286) + 79763 * (t : Int) * (t : Int) + 67) ^ (3 : Int).toNat).fmod 2147483587) 32) hm
          exact k _ _ (t + 1) z a1 a2 B2 P2 (Nat.le_refl _)
theorem d_law_draw (e : Ev K mg base) : DefN P w K mg base 1 "_law_draw" ["pen", "many"] (spDraw) := by
  obtain ⟨fd, F⟩ := e.c.def_ 1 (d := dd "_law_draw" 20) rfl
  exact ⟨⟨fd, ok_law_draw F e, FunD.bindsN F fun _ _ _ _ _ _ us hl => match us, hl with | [_, _], _ => rfl⟩, F.kp, He.glo_ok e.X e.G (e.c.fact 5 rfl)⟩
theorem sc_law_pick : FnScope ["pen", "some"] ["pen", "some"] (defScope (top 21)) := ⟨rfl, rfl, rfl, by decide +kernel, rfl, by decide +kernel, by decide +kernel⟩
theorem ok_law_pick {fd : FuncData} (F : FunD K "_law_pick" "_law_pick" (defArgs (top 21)) (defBody (top 21)) (defScope (top 21)) [] [] (He.ga K "_law_pick") fd) (e : Ev K mg base) : FnOk P w K mg base CX0 2 (He.ga K "_law_pick") fd ["pen", "some"] (spPick K) := by
  refine F.ok sc_law_pick (fun vs H Q E h => ?_) (fun cdv A outer s H vs Q E hr h => ?_)
  · obtain ⟨_, _, _, _, _, _, _, rfl, _⟩ := h
    rfl
  · skip
    refine ⟨_, PSs.nox ((pss_one (ps_ret (pe_ix (kix_list (K := K)) (pv 1) (pe_def (d_law_draw (P := P) (w := w) (K := K) (mg := mg) (base := base) e) (hr.mono (by decide)) (by rfl) (pa_cons (pv 0) (pa_cons (pe_callB (kcall_len_seq (K := K)) (by rfl) (f_len e) (by decide +kernel) (pa_cons (pv 1) pa_nil)) pa_nil))) (fun _ _ => rfl))))), ?_⟩
    obtain ⟨p, c, a, ms, t, z, xs, rfl, hP, ht, hS, nap, hx, hx2, k⟩ := h
    have hpos : 0 < xs.length := List.length_pos_iff.mpr hx
    refine ⟨_, rfl, _, rfl, _, rfl, a, _, rfl, .inl hS, p, c, ms, t, z, _, rfl, hP, ht, by omega, by omega, fun d H' t' z' h0 h1 hb hP' ht' => ?_⟩
    obtain ⟨j, rfl⟩ : ∃ j : Nat, d = (j : Int) := ⟨_, (Int.toNat_of_nonneg h0).symm⟩
    have hj : j < xs.length := by omega
    exact ⟨a, xs, _, xs[j], rfl, rfl, hb.seq nap hS, atI_nat (List.getElem?_eq_getElem hj), k _ H' t' z' (List.getElem_mem hj) hb hP' ht'⟩
theorem d_law_pick (e : Ev K mg base) : DefN P w K mg base 2 "_law_pick" ["pen", "some"] (spPick K) := by
  obtain ⟨fd, F⟩ := e.c.def_ 2 (d := dd "_law_pick" 21) rfl
  exact ⟨⟨fd, ok_law_pick F e, FunD.bindsN F fun _ _ _ _ _ _ us hl => match us, hl with | [_, _], _ => rfl⟩, F.kp, He.glo_ok e.X e.G (e.c.fact 6 rfl)⟩
theorem sc_is_name : FnScope ["value"] ["value"] (defScope (top 9)) := ⟨rfl, rfl, rfl, by decide +kernel, rfl, by decide +kernel, by decide +kernel⟩
theorem az_all : ∀ c, c < 128 → (PySem.Unicode.isLower c = true → PySem.Unicode.isAlpha c = true) ∧ (PySem.Unicode.isLower c = true → (PySem.Unicode.isUpper c || PySem.Unicode.isTitle c) = false) ∧ (PySem.Unicode.isAlpha c = true → PySem.Unicode.isLower c = false → (PySem.Unicode.isUpper c || PySem.Unicode.isTitle c) = true) ∧ (PySem.Unicode.isLower c = decide (c ∈ alpha.cps.toList)) := by decide +kernel
theorem az_small : ∀ c ∈ alpha.cps.toList, c < 128 := by decide +kernel
theorem nm3 {x : Str} (h : 1 ≤ x.length) : (Txt.isascii x && (Txt.isalpha x && Txt.islower x)) = x.cps.toList.all fun c => decide (c ∈ alpha.cps.toList) := by
  rw [Bool.eq_iff_iff]
  unfold Txt.isascii Txt.isalpha Txt.islower
  have hl : x.cps.toList ≠ [] := by
    intro e
    have : x.length = 0 := by show x.cps.size = 0; rw [← Array.length_toList, e]; rfl
    omega
  simp only [Bool.and_eq_true, Bool.not_eq_true', List.all_eq_true, decide_eq_true_eq, ← Array.all_toList, ← Array.any_toList]
  constructor
  · rintro ⟨h1, ⟨-, h2⟩, -, h4⟩ c hc
    obtain ⟨a1, a2, a3, a4⟩ := az_all c (h1 c hc)
    cases e : PySem.Unicode.isLower c with
    | true => rw [e] at a4; exact of_decide_eq_true a4.symm
    | false =>
      have h5 := a3 (h2 c hc) e
      rw [List.any_eq_false] at h4
      exact absurd h5 (h4 c hc)
  · intro k
    have kk : ∀ c ∈ x.cps.toList, c < 128 ∧ PySem.Unicode.isLower c = true := fun c hc => by
      have hs := az_small c (k c hc)
      exact ⟨hs, by rw [(az_all c hs).2.2.2]; exact decide_eq_true (k c hc)⟩
    refine ⟨fun c hc => (kk c hc).1, ⟨h, fun c hc => (az_all c (kk c hc).1).1 (kk c hc).2⟩, ?_, ?_⟩
    · obtain ⟨c, hc⟩ := List.exists_mem_of_ne_nil _ hl
      rw [List.any_eq_true]
      exact ⟨c, hc, (kk c hc).2⟩
    · rw [List.any_eq_false]
      intro c hc
      have := (az_all c (kk c hc).1).2.1 (kk c hc).2
      rw [this]
      simp
theorem ok_is_name {fd : FuncData} (F : FunD K "is_name" "is_name" (defArgs (top 9)) (defBody (top 9)) (defScope (top 9)) [] [] (He.ga K "is_name") fd) (e : Ev K mg base) : FnOk P w K mg base CX0 1 (He.ga K "is_name") fd ["value"] (spIsName K) := by
  refine F.ok sc_is_name (fun vs H Q E h => ?_) (fun cdv A outer s H vs Q E hr h => ?_)
  · obtain ⟨_, rfl, _⟩ := h
    rfl
  · skip
    refine ⟨_, PSs.nox ((pss_cons (ps_if (PW.pt (pw_or (pt_not (pt_val (pe_callB (kcall_isi (K := K)) (by rfl) (f_isinstance e) (by decide +kernel) (pa_cons (pv 0) (pa_cons (pe_bltn (by rfl) (f_str e) (by decide +kernel) (show RelV (.ty "str") (.type "str") from rfl)) pa_nil))))) (pw_or1 (pt_not (pt_chain op_le op_le pe_int (pe_callB call_len_str (by rfl) (f_len e) (by decide +kernel) (pa_cons (pv 0) pa_nil)) pe_int)))))
      (pss_one (ps_ret pe_bl)) pss_nil)
      (pss_one (ps_ret (pe_and (kpe_bm0 (K := K) PySem.F.plainAttrs_str PySem.F.slot_str_isascii PySem.F.type_str_isascii mt_isascii (pv 0)) (pe_and (kpe_bm0 (K := K) PySem.F.plainAttrs_str PySem.F.slot_str_isalpha PySem.F.type_str_isalpha mt_isalpha (pv 0)) (pe_one (kpe_bm0 (K := K) PySem.F.plainAttrs_str PySem.F.slot_str_islower PySem.F.type_str_islower mt_islower (pv 0))))))))), ?_⟩
    obtain ⟨v, rfl, hv⟩ := h
    refine ⟨_, rfl, ?_⟩
    rcases hv with ⟨x, rfl, hx, k⟩ | ⟨t, ty, hk, q⟩
    · have kf : ¬ IsNm x → Q (.bl false) H := fun hn => by
        have e1 : nmB x = false := by
          cases e2 : nmB x with
          | false => rfl
          | true => exact absurd (nmB_iff.mp e2) hn
        have := k H (Same.refl H)
        rw [e1] at this
        exact this
      refine ⟨.str x, _, _, _, true, rfl, .ty "str", .base (.str x), kit_ty (by decide +kernel), _, rfl, iteF ?_⟩
      refine ⟨_, rfl, x, rfl, hx, _, _, rfl, rfl, _, rfl, ?_⟩
      refine ite2 (fun h1 => ?_) fun h1 => ⟨_, rfl, kf fun n => h1 (decide_eq_true (by have := n.lo; omega))⟩
      refine ⟨_, _, rfl, rfl, _, rfl, ?_⟩
      have h1' := of_decide_eq_true h1
      by_cases h2 : ((x.length : Int) ≤ 8)
      · rw [decide_eq_true h2]
        refine iteF ?_
        have fin : (Txt.isascii x && (Txt.isalpha x && Txt.islower x)) = nmB x := by
          rw [nm3 (show 1 ≤ x.length by omega)]
          unfold nmB
          rw [decide_eq_true (show 1 ≤ x.length by omega), decide_eq_true (show x.length ≤ 8 by omega)]
          rfl
        have k' := k H (Same.refl H)
        rw [← fin] at k'
        refine ⟨_, rfl, rfl, x, rfl, rfl, trivial, _, rfl, ?_⟩
        cases e1 : Txt.isascii x with
        | false =>
          rw [e1] at k'
          exact iteF (by exact k')
        | true =>
          rw [e1] at k'
          refine iteT ⟨_, rfl, rfl, x, rfl, rfl, trivial, _, rfl, ?_⟩
          cases e2 : Txt.isalpha x with
          | false =>
            rw [e2] at k'
            exact iteF (by exact k')
          | true =>
            rw [e2] at k'
            exact iteT ⟨_, rfl, rfl, x, rfl, rfl, trivial, by exact k'⟩
      · rw [decide_eq_false h2]
        exact iteT (kf fun n => h2 (by have := n.hi; omega))
    · refine ⟨v, _, t, _, false, rfl, .ty "str", ty, hk, _, rfl, ?_⟩
      exact q
theorem d_is_name (e : Ev K mg base) : DefN P w K mg base 1 "is_name" ["value"] (spIsName K) := by
  obtain ⟨fd, F⟩ := e.c.def_ 3 (d := dd "is_name" 9) rfl
  exact ⟨⟨fd, ok_is_name F e, FunD.bindsN F fun _ _ _ _ _ _ us hl => match us, hl with | [_], _ => rfl⟩, F.kp, He.glo_ok e.X e.G (e.c.fact 9 rfl)⟩
theorem sc_are_names : FnScope ["value", "name"] ["value"] (defScope (top 10)) := ⟨rfl, rfl, rfl, by decide +kernel, rfl, by decide +kernel, by decide +kernel⟩
theorem ok_are_names {fd : FuncData} (F : FunD K "are_names" "are_names" (defArgs (top 10)) (defBody (top 10)) (defScope (top 10)) [] [] (He.ga K "are_names") fd) (e : Ev K mg base) : FnOk P w K mg base CX0 2 (He.ga K "are_names") fd ["value"] (spAreN K) := by
  refine F.ok sc_are_names (fun vs H Q E h => ?_) (fun cdv A outer s H vs Q E hr h => ?_)
  · obtain ⟨_, rfl, _⟩ := h
    rfl
  · skip
    refine ⟨_, PSs.nox ((pss_cons (ps_if (PW.pt (pw_or (pt_not (pt_val (pe_callB (kcall_isiT (K := K)) (by rfl) (f_isinstance e) (by decide +kernel) (pa_cons (pv 0) (pa_cons (pe_tup (pa_cons (pe_bltn (by rfl) (f_list e) (by decide +kernel) (show RelV (.ty "list") (.type "list") from rfl)) (pa_cons (pe_bltn (by rfl) (f_tuple e) (by decide +kernel) (show RelV (.ty "tuple") (.type "tuple") from rfl)) pa_nil))) pa_nil))))) (pw_or1 (pt_not (pt_val (pe_callB (kcr_all (K := K) rfl) (by rfl) (f_all e) (by decide +kernel) (pa_cons (pe_lc (own := [("name", 1)]) (by rfl) sc_are_names.nd (pi_or (kpi_list (K := K) (pv 0)) (kpi_tup (K := K) (pv 0))) (blkOk_by (own := [("name", 1)]) (N := ["value", "name"]) (sc := defScope (top 10)) (by decide +kernel)) (fun _ _ _ _ _ => (pg_name (i := 1) sc_are_names.nd rfl (Or.inl rfl))) (fun _ _ _ _ _ => pts_nil) (fun _ _ _ _ _ => (pe_def (d_is_name (P := P) (w := w) (K := K) (mg := mg) (base := base) e) (hr.mono (by decide)) (by rfl) (pa_cons (pv 1) pa_nil)))) pa_nil)))))))
      (pss_one (ps_ret pe_bl)) pss_nil)
      (pss_one (ps_ret (pe_cmpR op_eq (pe_callB cr_lenX (by rfl) (f_len e) (by decide +kernel) (pa_cons (pe_callTy (cr_setS (K := K) rfl) (by rfl) (f_set e) (by decide +kernel) (pa_cons (pv 0) pa_nil)) pa_nil)) (pe_callB (kcall_len_seq (K := K)) (by rfl) (f_len e) (by decide +kernel) (pa_cons (pv 0) pa_nil)) (nomark _)))))), ?_⟩
    obtain ⟨v, rfl, hv⟩ := h
    refine ⟨_, rfl, by show 2 ≤ sizeLine; decide, fun tp htp => ?_⟩
    have sp := same_new (o := .tup [.ty "list", .ty "tuple"]) htp
    rcases hv with ⟨p, xs, rfl, hx, hl, hk, k⟩ | ⟨t, ty, kt, k⟩
    · have hx1 := hx.same sp
      obtain ⟨t, ty, kt⟩ := hx1.isi (K := K)
      refine ⟨_, tp, _, t, [.type "list", .type "tuple"], true, rfl, upd_same, .cons (.ty _) (.cons (.ty _) .nil), ty, kt, _, rfl, iteF ?_⟩
      refine row_walk hx1 rfl fun J G wk hG D hD => lc_same wk xs (fun v => some (V.bl (vnm v))) rfl (yat _) hD hG (Nat.lt_of_le_of_lt hl (by decide)) (fun x hm H2 s2 Kt Kf k1 k2 => ⟨rfl, ?_⟩) fun H2 s2 hD2 => ?_
      · refine ⟨_, rfl, ?_⟩
        dsimp only [tNil]
        exact is_named ((hk x hm).same (sp.trans s2)) fun H3 s3 => k1 _ H3 rfl s3
      · rw [bools_of] at hD2
        refine ⟨D, xs.map vnm, rfl, SqL.of hD2, _, rfl, ?_⟩
        have ea : (xs.map vnm).all id = xs.all vnm := by rw [List.all_map]; rfl
        rw [ea]
        have S2 := sp.trans s2
        cases all : xs.all vnm with
        | false =>
          have e : rowN xs = none := by unfold rowN; rw [if_neg (by rw [all]; simp)]
          have q := k H2 S2
          rw [e] at q
          exact iteT q
        | true =>
          refine iteF ?_
          obtain ⟨ex, en⟩ := all_strs all
          have hx2 := hx.same S2
          have few : (strsV xs).length ≤ xs.length := List.length_filterMap_le ..
          refine ⟨_, rfl, p, strsV xs, rfl, (by rw [← ex]; exact hx2.seq), Nat.lt_of_le_of_lt (Nat.add_le_add_right (Nat.le_trans few hl) 1) (by decide), fun a n ha hm => ?_⟩
          refine ⟨a, _, n, rfl, upd_same, ?_⟩
          have s3 := same_new (o := TxO w a (inS (strsV xs)) n) ha
          refine ⟨_, rfl, p, xs, rfl, (hx2.same s3).seq, rfl, ?_⟩
          have e2 : xs.length = (strsV xs).length := by
            have := congrArg List.length ex
            rwa [List.length_map] at this
          have q := k _ (S2.trans s3)
          have e3 : (rowN xs).isSome = decide (strsV xs).Nodup := by
            unfold rowN
            by_cases d : (strsV xs).Nodup
            · rw [if_pos ⟨all, d⟩, decide_eq_true d]; rfl
            · rw [if_neg (fun c => d c.2), decide_eq_false d]; rfl
          have e4 : decide (V.int (n : Int) = V.int (xs.length : Int)) = decide ((n : Int) = ((strsV xs).length : Int)) := by
            rw [e2]
            simp
          rw [e3, ← many_eq hm, ← e4] at q
          exact q
    · refine ⟨_, tp, _, t, [.type "list", .type "tuple"], false, rfl, upd_same, .cons (.ty _) (.cons (.ty _) .nil), tyX_same sp ty, kt, _, rfl, iteT (iteT ?_)⟩
      exact k _ sp
theorem d_are_names (e : Ev K mg base) : DefN P w K mg base 2 "are_names" ["value"] (spAreN K) := by
  obtain ⟨fd, F⟩ := e.c.def_ 4 (d := dd "are_names" 10) rfl
  exact ⟨⟨fd, ok_are_names F e, FunD.bindsN F fun _ _ _ _ _ _ us hl => match us, hl with | [_], _ => rfl⟩, F.kp, He.glo_ok e.X e.G (e.c.fact 14 rfl)⟩
theorem sc_ascending : FnScope ["names"] ["names"] (defScope (top 11)) := ⟨rfl, rfl, rfl, by decide +kernel, rfl, by decide +kernel, by decide +kernel⟩
theorem ok_ascending {fd : FuncData} (F : FunD K "ascending" "ascending" (defArgs (top 11)) (defBody (top 11)) (defScope (top 11)) [] [] (He.ga K "ascending") fd) (e : Ev K mg base) : FnOk P w K mg base CX0 1 (He.ga K "ascending") fd ["names"] (spAsc K) := by
  refine F.ok sc_ascending (fun vs H Q E h => ?_) (fun cdv A outer s H vs Q E hr h => ?_)
  · obtain ⟨_, _, rfl, _⟩ := h
    rfl
  · skip
    refine ⟨_, PSs.nox ((pss_one (ps_ret (pe_callTy (kcall_tuple_of (K := K)) (by rfl) (f_tuple e) (by decide +kernel) (pa_cons (pe_callB (cr_sortX rfl) (by rfl) (f_sorted e) (by decide +kernel) (pa_cons (pe_callTy (cr_setS (K := K) rfl) (by rfl) (f_set e) (by decide +kernel) (pa_cons (pv 0) pa_nil)) pa_nil)) pa_nil))))), ?_⟩
    obtain ⟨p, xs, rfl, hx, hl, k⟩ := h
    refine ⟨_, rfl, p, xs, rfl, hx, Nat.lt_of_le_of_lt (Nat.add_le_add_right hl 1) (by decide), fun a n ha hm => ?_⟩
    refine ⟨a, _, n, rfl, upd_same, fun ys q hs nd mem len hq => ?_⟩
    refine ⟨q, _, rfl, .inl ⟨SqL.of upd_same, fun t ht => ?_⟩⟩
    refine k ys t _ ⟨hs, nd, fun y => (mem y).trans decide_eq_true_iff⟩ ?_ ?_ upd_same
    · exact ((same_new ha).trans (same_new hq)).trans (same_new ht)
    · exact same_none ((same_new ha).trans (same_new hq)) ht
theorem d_ascending (e : Ev K mg base) : DefN P w K mg base 1 "ascending" ["names"] (spAsc K) := by
  obtain ⟨fd, F⟩ := e.c.def_ 5 (d := dd "ascending" 11) rfl
  exact ⟨⟨fd, ok_ascending F e, FunD.bindsN F fun _ _ _ _ _ _ us hl => match us, hl with | [_], _ => rfl⟩, F.kp, He.glo_ok e.X e.G (e.c.fact 15 rfl)⟩
theorem sc_BadParting___init__ : FnScope ["self", "part"] ["self", "part"] (defScope (inClass (top 5) 0)) := ⟨rfl, rfl, rfl, by decide +kernel, rfl, by decide +kernel, by decide +kernel⟩
theorem ok_BadParting___init__ {fd : FuncData} (F : FunD K "__init__" "BadParting.__init__" (defArgs (inClass (top 5) 0)) (defBody (inClass (top 5) 0)) (defScope (inClass (top 5) 0)) [] [] (He.ma K (He.ga K "BadParting") "__init__") fd) (e : Ev K mg base) : FnOk P w K mg base CX0 1 (He.ma K (He.ga K "BadParting") "__init__") fd ["self", "part"] (spErr1 K (He.ga K "BadParting") "part") := by
  refine F.ok sc_BadParting___init__ (fun vs H Q E h => ?_) (fun cdv A outer s H vs Q E hr h => ?_)
  · obtain ⟨_, _, rfl, _⟩ := h
    rfl
  · skip
    refine ⟨_, PSs.nox ((pss_one (ps_ost (pv 0) (pv 1)))), ?_⟩
    obtain ⟨a, v, rfl, ha, k⟩ := h
    refine ⟨_, rfl, _, rfl, a, _, rfl, (err_BadParting e).o, (no_BadParting_part e), .inl ⟨ha, fun dx h1 h2 => ?_⟩⟩
    exact k dx h1 h2
theorem d_BadParting___init__ (e : Ev K mg base) : DefM P w K mg base 1 (He.ma K (He.ga K "BadParting") "__init__") ["self", "part"] (spErr1 K (He.ga K "BadParting") "part") := by
  obtain ⟨fd, F⟩ := e.c.def_ 6 (d := dm "BadParting" "__init__" "BadParting.__init__" 5 0) rfl
  exact ⟨fd, ok_BadParting___init__ F e, FunD.bindsN F fun _ _ _ _ _ _ us hl => match us, hl with | [_, _], _ => rfl⟩
theorem sc_is_couple : FnScope ["value"] ["value"] (defScope (top 16)) := ⟨rfl, rfl, rfl, by decide +kernel, rfl, by decide +kernel, by decide +kernel⟩
theorem ok_is_couple {fd : FuncData} (F : FunD K "is_couple" "is_couple" (defArgs (top 16)) (defBody (top 16)) (defScope (top 16)) [] [] (He.ga K "is_couple") fd) (e : Ev K mg base) : FnOk P w K mg base CX0 3 (He.ga K "is_couple") fd ["value"] (spCouple K) := by
  refine F.ok sc_is_couple (fun vs H Q E h => ?_) (fun cdv A outer s H vs Q E hr h => ?_)
  · obtain ⟨_, _, rfl, _⟩ := h
    rfl
  · skip
    refine ⟨_, PSs.nox ((pss_one (ps_ret (pe_and (pe_def (d_are_names (P := P) (w := w) (K := K) (mg := mg) (base := base) e) (hr.mono (by decide)) (by rfl) (pa_cons (pv 0) pa_nil)) (pe_one (pe_cmpR op_eq (pe_callB (kcall_len_seq (K := K)) (by rfl) (f_len e) (by decide +kernel) (pa_cons (pv 0) pa_nil)) pe_int (nomark _))))))), ?_⟩
    obtain ⟨v, d, rfl, hd, k⟩ := h
    refine ⟨_, rfl, ?_⟩
    dsimp only [tNil]
    refine are_n hd fun H1 s1 => ⟨_, rfl, ?_⟩
    cases d with
    | none => exact iteF (k H1 s1)
    | some ns =>
      refine iteT ?_
      obtain ⟨p, rfl, a⟩ := (hd.row.same s1).at_
      have q := k H1 s1
      rw [coupleD_some, ← List.length_map (f := V.str)] at q
      exact ⟨_, rfl, p, _, rfl, a.seq, rfl, q⟩
theorem d_is_couple (e : Ev K mg base) : DefN P w K mg base 3 "is_couple" ["value"] (spCouple K) := by
  obtain ⟨fd, F⟩ := e.c.def_ 7 (d := dd "is_couple" 16) rfl
  exact ⟨⟨fd, ok_is_couple F e, FunD.bindsN F fun _ _ _ _ _ _ us hl => match us, hl with | [_], _ => rfl⟩, F.kp, He.glo_ok e.X e.G (e.c.fact 23 rfl)⟩
theorem sc_Parting___init__ : FnScope ["self", "one", "other", "pairs", "first_at"] ["self", "one", "other"] (defScope (inClass (top 15) 0)) := ⟨rfl, rfl, rfl, by decide +kernel, rfl, by decide +kernel, by decide +kernel⟩
theorem ok_Parting___init__ {fd : FuncData} (F : FunD K "__init__" "Parting.__init__" (defArgs (inClass (top 15) 0)) (defBody (inClass (top 15) 0)) (defScope (inClass (top 15) 0)) [] [] (He.ma K (He.ga K "Parting") "__init__") fd) (e : Ev K mg base) : FnOk P w K mg base (L2N.CX P w) 4 (He.ma K (He.ga K "Parting") "__init__") fd ["self", "one", "other"] (spPart K) := by
  refine F.ok sc_Parting___init__ (fun vs H Q E h => ?_) (fun cdv A outer s H vs Q E hr h => ?_)
  · obtain ⟨_, _, _, _, _, _, rfl, _⟩ := h
    rfl
  · skip
    refine ⟨_, ((pss_cons (ps_if (pt_not (pt_val (pe_def (d_is_couple (P := P) (w := w) (K := K) (mg := mg) (base := base) e) (hr.mono (by decide)) (by rfl) (pa_cons (pv 1) pa_nil))))
      (pss_one (ps_raiseN1 (err_BadParting e) (d_BadParting___init__ e) (hr.mono (by decide)) rfl (L2N.takes_of rfl rfl rfl rfl) rfl (g_BadParting e) (pa_cons pe_str pa_nil))) pss_nil)
      (pss_cons (ps_if (pt_not (pt_val (pe_def (d_is_couple (P := P) (w := w) (K := K) (mg := mg) (base := base) e) (hr.mono (by decide)) (by rfl) (pa_cons (pv 2) pa_nil))))
      (pss_one (ps_raiseN1 (err_BadParting e) (d_BadParting___init__ e) (hr.mono (by decide)) rfl (L2N.takes_of rfl rfl rfl rfl) rfl (g_BadParting e) (pa_cons pe_str pa_nil))) pss_nil)
      (pss_cons (ps_fld (pv 0) (pe_def (d_ascending (P := P) (w := w) (K := K) (mg := mg) (base := base) e) (hr.mono (by decide)) (by rfl) (pa_cons (pe_lst (StX.pa_star (pv 1) (StX.pa_star (pv 2) pa_nil))) pa_nil)) rfl)
      (pss_cons (ps_if (pt_cmpR op_lt (pe_callB (kcall_len_seq (K := K)) (by rfl) (f_len e) (by decide +kernel) (pa_cons (kpe_fld (K := K) (pv 0) rfl) pa_nil)) pe_int (nomark _))
      (pss_one (ps_raiseN1 (err_BadParting e) (d_BadParting___init__ e) (hr.mono (by decide)) rfl (L2N.takes_of rfl rfl rfl rfl) rfl (g_BadParting e) (pa_cons pe_str pa_nil))) pss_nil)
      (pss_cons (ps_set (i := 3) sc_Parting___init__.nd rfl (Or.inl rfl) (pe_lst (pa_cons (pe_def (d_ascending (P := P) (w := w) (K := K) (mg := mg) (base := base) e) (hr.mono (by decide)) (by rfl) (pa_cons (pv 1) pa_nil)) (pa_cons (pe_def (d_ascending (P := P) (w := w) (K := K) (mg := mg) (base := base) e) (hr.mono (by decide)) (by rfl) (pa_cons (pv 2) pa_nil)) pa_nil))))
      (C8.pss_cut (ps_set (i := 4) sc_Parting___init__.nd rfl (Or.inl rfl) (pe_ifExp (pt_cmpR op_eq (pe_ix (kix_tup (K := K)) (kpe_fld (K := K) (pv 0) rfl) pe_int (fun _ _ => rfl)) (pe_ix (kix_tup (K := K)) (pe_ix (kix_list (K := K)) (pv 3) pe_int (fun _ _ => rfl)) pe_int (fun _ _ => rfl)) (nomark _)) pe_int pe_int))
      (pss_one (ps_fld (pv 0) (pe_tup (pa_cons (pe_ix (kix_list (K := K)) (pv 3) (pv 4) (fun _ _ => rfl)) (pa_cons (pe_ix (kix_list (K := K)) (pv 3) (pe_op op_sub pe_int (pv 4)) (fun _ _ => rfl)) pa_nil))) rfl))))))))), ?_⟩
    obtain ⟨p, dx, u, v, du, dv, rfl, hp, hu, hv, k1, k2⟩ := h
    cases su : coupleD du with
    | false => refine ⟨_, rfl, _, _, rfl, hu, fun Ha3 sa4 => ?_⟩
               refine ⟨_, rfl, ?_⟩
               show @ite _ _ _ _ _
               rw [su]
               refine ite_yes (by decide +kernel) ?_
               refine ⟨_, rfl, fun da10 Ha11 sa12 na13 ea14 => ?_⟩
               exact k1 _ _ _ (.inl ⟨rfl, su⟩) ((Same.but sa4).trans (Same.but sa12)) (sa4.free na13) ea14
    | true =>
      cases sv : coupleD dv with
      | false => refine ⟨_, rfl, _, _, rfl, hu, fun Hb3 sb4 => ?_⟩
                 refine ⟨_, rfl, ?_⟩
                 show @ite _ _ _ _ _
                 rw [su]
                 refine ite_no (by decide +kernel) ?_
                 refine ⟨_, rfl, _, _, rfl, (hv.same sb4), fun Hb7 sb8 => ?_⟩
                 refine ⟨_, rfl, ?_⟩
                 show @ite _ _ _ _ _
                 rw [sv]
                 refine ite_yes (by decide +kernel) ?_
                 refine ⟨_, rfl, fun db14 Hb15 sb16 nb17 eb18 => ?_⟩
                 exact k1 _ _ _ (.inr ⟨rfl, ⟨su, (.inl sv)⟩⟩) (((Same.but sb4).trans (Same.but sb8)).trans (Same.but sb16)) ((sb4.trans sb8).free nb17) eb18
      | true =>
        obtain ⟨a, rfl, la⟩ := coupleD_true su
        obtain ⟨b, rfl, lb⟩ := coupleD_true sv
        have ra := hu.row
        have rb := hv.row
        obtain ⟨q1, rfl, wa⟩ := id ra.at_
        obtain ⟨q2, rfl, wb⟩ := id rb.at_
        obtain ⟨tc1, ec2⟩ := wa.rowO
        obtain ⟨tc3, ec4⟩ := ra.rowO
        obtain ⟨tc5, ec6⟩ := wb.rowO
        obtain ⟨tc7, ec8⟩ := rb.rowO
        refine ⟨_, rfl, _, _, rfl, hu, fun Hc11 sc12 => ?_⟩
        refine ⟨_, rfl, ?_⟩
        show @ite _ _ _ _ _
        rw [su]
        refine ite_no (by decide +kernel) ?_
        refine ⟨_, rfl, _, _, rfl, (hv.same sc12), fun Hc15 sc16 => ?_⟩
        refine ⟨_, rfl, ?_⟩
        show @ite _ _ _ _ _
        rw [sv]
        refine ite_no (by decide +kernel) ?_
        refine ⟨_, rfl, _, _, rfl, (rowO_seq (sc16 _ _ (sc12 _ _ ec4))).symm, _, rfl, _, _, rfl, (rowO_seq (sc16 _ _ (sc12 _ _ ec8))).symm, (fit (by simp only [List.length_map, List.length_append, List.length_cons, List.length_nil, List.length_take, List.length_drop, List.length_reverse]; omega)), fun pc19 nc20 => ?_⟩
        generalize gc22 : upd Hc15 pc19 (HO.lst (List.map V.str a ++ (List.map V.str b ++ []))) = Hc21
        obtain ⟨sc24, ec23⟩ := gen_new gc22 nc20
        clear gc22
        simp only [List.append_nil, strs_app, strs_snoc] at ec23
        refine ⟨_, _, rfl, (.inl (SqL.of ec23)), (by simp only [List.length_map, List.length_append, List.length_cons, List.length_nil, List.length_take, List.length_drop, List.length_reverse]; omega), fun ysc32 tc33 Hc34 hc35 sc36 nc37 ec38 => ?_⟩
        refine ⟨_, rfl, _, _, _, _, rfl, (sc36 _ _ (sc24 _ _ (sc16 _ _ (sc12 _ _ hp)))), (cls_Parting e), (no_Parting_four e), (by simp only [List.length_map, List.length_append, List.length_cons, List.length_nil, List.length_take, List.length_drop, List.length_reverse]; omega), ?_⟩
        generalize gc40 : upd Hc34 p (HO.ins (He.ga K (Str.ofString "Parting")) dx (putF (Str.ofString "four") (V.ref tc33) [])) = Hc39
        obtain ⟨bc42, ec41⟩ := gen_mut gc40
        clear gc40
        refine ⟨_, rfl, _, _, _, _, _, rfl, ec41, (cls_Parting e), (no_Parting_four e), rfl, _, _, rfl, (.inr (SqT.of (bc42 _ _ (ne_of_none (sc24 _ _ (sc16 _ _ (sc12 _ _ hp))) nc37).symm ec38))), _, _, rfl, rfl, _, rfl, ?_⟩
        show @ite _ _ _ _ _
        refine ite2 (fun cc43 => ?_) (fun cc43 => ?_)
        · have cc43 := of_decide_eq_true cc43
          refine ⟨_, rfl, fun dc49 Hc50 sc51 nc52 ec53 => ?_⟩
          exact k1 _ _ _ (.inr ⟨rfl, su, .inr ⟨a, b, rfl, rfl, fun ap => by have := (apart_len hc35 ra.nd rb.nd).mp ap; simp only [List.length_map] at cc43; omega⟩⟩) ((((((Same.but sc12).trans (Same.but sc16)).trans (Same.but sc24)).trans (Same.but sc36)).trans bc42).trans (Same.but sc51)) ((((((Same.but sc12).trans (Same.but sc16)).trans (Same.but sc24)).trans (Same.but sc36)).trans bc42).free (ne_of_none ec41 nc52).symm nc52) ec53
        · have cc43 := of_dec cc43
          refine ⟨_, rfl, _, _, rfl, (rowO_seq (bc42 _ _ (ne_of ec2 hp (rowO_ne nofun nofun)) (sc36 _ _ (sc24 _ _ (sc16 _ _ (sc12 _ _ ec4)))))), (by omega), fun ysc61 tc62 Hc63 hc64 sc65 nc66 ec67 => ?_⟩
          refine ⟨_, rfl, _, _, rfl, (rowO_seq (sc65 _ _ (bc42 _ _ (ne_of ec6 hp (rowO_ne nofun nofun)) (sc36 _ _ (sc24 _ _ (sc16 _ _ (sc12 _ _ ec8))))))), (by omega), fun ysc75 tc76 Hc77 hc78 sc79 nc80 ec81 => ?_⟩
          refine ⟨(fit (by simp)), fun pc84 nc85 => ?_⟩
          generalize gm : upd Hc77 pc84 (HO.lst [V.ref tc62, V.ref tc76]) = H7
          obtain ⟨sm, em⟩ := gen_new gm nc85
          clear gm
          have al := apart_len hc35 ra.nd rb.nd
          have le := hc35.le
          rw [List.length_append] at le
          simp only [List.length_map] at cc43
          have ap := al.mpr (by omega)
          have npt := ne_of_none ec41 nc66
          have npt2 := ne_of_none (sc65 _ _ ec41) nc80
          obtain ⟨h0, hq, rfl⟩ : ∃ h0 hq, ysc32 = h0 :: hq := by
            cases ysc32 with
            | nil =>
              simp only [List.length_nil] at cc43
              omega
            | cons x r => exact ⟨x, r, rfl⟩
          obtain ⟨y0, yr, rfl⟩ : ∃ y0 yr, ysc61 = y0 :: yr := by
            cases ysc61 with
            | nil =>
              have := hc64.len ra.nd
              simp only [List.length_nil] at this
              omega
            | cons x r => exact ⟨x, r, rfl⟩
          refine ⟨fun σ' H' => H' = H7 ∧ ∃ (i : Int) (tn tf : Addr) (ny fy : List Str), σ' = [some (.ref p), some (.ref q1), some (.ref q2), some (.ref pc84), some (.int i)] ∧ atI [V.ref tc62, V.ref tc76] i = some (.ref tn) ∧ atI [V.ref tc62, V.ref tc76] (1 - i) = some (.ref tf) ∧ H7 tn = some (.tup (ny.map V.str)) ∧ H7 tf = some (.tup (fy.map V.str)) ∧ tn ≠ p ∧ tf ≠ p ∧ CutOf a b (h0 :: hq) ny fy, ?_, ?_⟩
          · obtain ⟨td1, ed2⟩ := wa.rowO
            obtain ⟨td3, ed4⟩ := ra.rowO
            obtain ⟨td5, ed6⟩ := wb.rowO
            obtain ⟨td7, ed8⟩ := rb.rowO
            refine ⟨_, rfl, _, _, _, _, _, rfl, (sm _ _ (sc79 _ _ (sc65 _ _ ec41))), (cls_Parting e), (no_Parting_four e), rfl, _, _, _, _, rfl, rfl, (SqT.of (sm _ _ (sc79 _ _ (sc65 _ _ (bc42 _ _ (ne_of_none (sc24 _ _ (sc16 _ _ (sc12 _ _ hp))) nc37).symm ec38))))), (atI_nat (j := 0) rfl), _, rfl, _, _, _, _, rfl, rfl, (SqL.of em), rfl, _, _, _, _, rfl, rfl, (SqT.of (sm _ _ (sc79 _ _ ec67))), (atI_nat (j := 0) rfl), rfl, _, rfl, ?_⟩
            show @ite _ _ _ _ _
            refine ite2 (fun cd9 => ?_) (fun cd9 => ?_)
            · have cd9 := of_decide_eq_true cd9
              refine ⟨rfl, _, _, _, _, _, rfl, rfl, rfl, (sm _ _ (sc79 _ _ ec67)), (sm _ _ ec81), npt.symm, npt2.symm, ?_⟩
              exact ⟨hc35, _, _, hc64, hc78, .inl ⟨by rw [V.str.inj cd9]; rfl, rfl, rfl⟩⟩
            · have cd9 := of_dec cd9
              refine ⟨rfl, _, _, _, _, _, rfl, rfl, rfl, (sm _ _ ec81), (sm _ _ (sc79 _ _ ec67)), npt2.symm, npt.symm, ?_⟩
              exact ⟨hc35, _, _, hc64, hc78, .inr ⟨fun q => cd9 (by simpa using q), rfl, rfl⟩⟩
          · rintro σ' H' ⟨rfl, i, tn, tf, ny, fy, rfl, i1, i2, en, ef, pn, pf, co⟩
            refine ⟨_, rfl, _, rfl, _, _, _, _, rfl, rfl, (SqL.of em), i1, _, rfl, _, rfl, _, _, rfl, rfl, _, _, _, _, rfl, rfl, (SqL.of em), i2, (fit (by simp)), fun pe3 ne4 => ?_⟩
            generalize ge6 : upd H' pe3 (HO.tup [V.ref tn, V.ref tf]) = He5
            obtain ⟨se8, ee7⟩ := gen_new ge6 ne4
            clear ge6
            refine ⟨_, rfl, _, _, _, _, rfl, (se8 _ _ (sm _ _ (sc79 _ _ (sc65 _ _ ec41)))), (cls_Parting e), (no_Parting_pairs e), (by show 1 < 1000; decide), ?_⟩
            generalize ge10 : upd He5 p (HO.ins (He.ga K (Str.ofString "Parting")) dx
              (putF (Str.ofString "pairs") (V.ref pe3) (putF (Str.ofString "four") (V.ref tc33) []))) = He9
            obtain ⟨be12, ee11⟩ := gen_mut ge10
            clear ge10
            exact k2 _ _ _ _ _ _ rfl rfl la lb ap co ((((((((((Same.but sc12).trans (Same.but sc16)).trans (Same.but sc24)).trans (Same.but sc36)).trans bc42).trans (Same.but sc65)).trans (Same.but sc79)).trans (Same.but sm)).trans (Same.but se8)).trans be12) ⟨_, ⟨_, ⟨_, ⟨_, ⟨_, ⟨ee11, ⟨(be12 _ _ (ne_of_none (sc24 _ _ (sc16 _ _ (sc12 _ _ hp))) nc37).symm (se8 _ _ (sm _ _ (sc79 _ _ (sc65 _ _ (bc42 _ _ (ne_of_none (sc24 _ _ (sc16 _ _ (sc12 _ _ hp))) nc37).symm ec38)))))), ⟨(be12 _ _ (ne_of_none (sm _ _ (sc79 _ _ (sc65 _ _ ec41))) ne4).symm ee7), ⟨(be12 _ _ pn (se8 _ _ en)), (be12 _ _ pf (se8 _ _ ef))⟩⟩⟩⟩⟩⟩⟩⟩⟩
theorem d_Parting___init__ (e : Ev K mg base) : ∃ fd, FnOk P w K mg base (L2N.CX P w) 4 (He.ma K (He.ga K "Parting") "__init__") fd ["self", "one", "other"] (spPart K) ∧ FunD K "__init__" "Parting.__init__" (defArgs (inClass (top 15) 0)) (defBody (inClass (top 15) 0)) (defScope (inClass (top 15) 0)) [] [] (He.ma K (He.ga K "Parting") "__init__") fd := by
  obtain ⟨fd, F⟩ := e.c.def_ 8 (d := dm "Parting" "__init__" "Parting.__init__" 15 0) rfl
  exact ⟨fd, ok_Parting___init__ F e, F⟩
theorem db_Parting___init__ (e : Ev K mg base) : ∃ fd, FnOk P w K mg base (L2N.CX P w) 4 (He.ma K (He.ga K "Parting") "__init__") fd ["self", "one", "other"] (spPart K) ∧ Binds K fd ["self", "one", "other"] [] := by
  obtain ⟨fd, F, D⟩ := d_Parting___init__ (P := P) (w := w) e
  exact ⟨fd, F, FunD.bindsN (ps := ["self", "one", "other"]) D fun _ _ _ _ _ _ us hl => match us, hl with | [_, _, _], _ => rfl⟩
theorem part_mk (e : Ev K mg base) : ∃ fd, FnOk P w K mg base (L2N.CX P w) 4 (He.ma K (He.ga K "Parting") "__init__") fd ["self", "one", "other"] (spPart K) ∧ Binds K fd ["self", "one", "other"] [] ∧
    KBn K fd ["self", "one", "other"] 1 ["other", "one"] (fun us ws => us ++ ws.reverse) (fun us ws => us ++ ws.reverse) := by
  obtain ⟨fd, F, D⟩ := d_Parting___init__ (P := P) (w := w) e
  have kb := FunD.kbindsR (ps := ["self", "one", "other"]) D 1 ["other", "one"] (fun _ _ _ _ _ _ us ws h1 h2 => match us, ws, h1, h2 with
    | [_], [_, _], _, _ => rfl)
  exact ⟨fd, F, FunD.bindsN (ps := ["self", "one", "other"]) D fun _ _ _ _ _ _ us hl => match us, hl with | [_, _, _], _ => rfl, kb⟩
section
variable {X : Cx} {a b : Expr} {ta : TA} {p pos : Pos} {E : XK}
/-- Parting(a, b), Parting(other=b, one=a) -/
theorem pe_part2 (e : Ev X.K X.mg X.base) (hr : Room 5 X.A) (hx : Passes (CX X.prog X.w) X E) (hg : Gl X "Parting") (ha : PA X [a, b] ta) (he : starEach [a, b] X.env = (false, eval a X.env) :: starEach [b] X.env := by rfl) (hpl : (backTo pos (starEach [b] X.env)).any (·.1) = false := by rfl) :
    PE X (.Call (.Name "Parting" p) [a, b] [] pos) (tMake (He.ga X.K "Parting") (spPart X.K) [] E ta) := by
  obtain ⟨fd, F, b, _⟩ := part_mk (P := X.prog) (w := X.w) e
  exact pe_make (mk_Parting e) (FnOk.ofN F) hr hg (g_Parting e) b .nil hx ha (by decide) he hpl
theorem kpe_part2 {K : PySem.W.Frag} (e : Ev X.K X.mg X.base) (hr : Room 5 X.A) (hx : Passes (CX X.prog X.w) X E) (hg : Gl X "Parting") (ha : PA X [a, b] ta) (he : starEach [a, b] X.env = (false, eval a X.env) :: starEach [b] X.env := by rfl) (hpl : (backTo pos (starEach [b] X.env)).any (·.1) = false := by rfl) (hK : X.K = K := by rfl) :
    PE X (.Call (.Name "Parting" p) [a, b] [] pos) (tMake (He.ga K "Parting") (spPart K) [] E ta) := by
  subst hK
  exact pe_part2 e hr hx hg ha he hpl
theorem pe_partK (e : Ev X.K X.mg X.base) (hr : Room 5 X.A) (hx : Passes (CX X.prog X.w) X E) (hg : Gl X "Parting") {p1 p2 : Pos} (ha : PK X [⟨some "other", b, p1⟩, ⟨some "one", a, p2⟩] ta) (hall : (backToKw pos (keywordEach [⟨some "other", b, p1⟩, ⟨some "one", a, p2⟩] X.env)).all (·.1.isSome) = true := by rfl) (hks : (backToKw pos (keywordEach [⟨some "other", b, p1⟩, ⟨some "one", a, p2⟩] X.env)).filterMap (·.1) = (["other", "one"] : List Str) := by rfl)
    (hpl : ((backTo pos (starEach [] X.env)).any (·.1) || (backToKw pos (keywordEach [⟨some "other", b, p1⟩, ⟨some "one", a, p2⟩] X.env)).any (·.1.isNone)) = false := by rfl) :
    PE X (.Call (.Name "Parting" p) [] [⟨some "other", b, p1⟩, ⟨some "one", a, p2⟩] pos) (tMakeK (He.ga X.K "Parting") 0 2 (spPart X.K) (fun us ws => us ++ ws.reverse) E tNil ta) := by
  obtain ⟨fd, F, _, kb⟩ := part_mk (P := X.prog) (w := X.w) e
  exact pe_makeK0 (mk_Parting e) (FnOk.ofN F) hr hg (g_Parting e) kb hx ha hall hks (by decide) hpl
end

theorem sc_BadText___init__ : FnScope ["self", "line", "word"] ["self", "line", "word"] (defScope (inClass (top 6) 0)) := ⟨rfl, rfl, rfl, by decide +kernel, rfl, by decide +kernel, by decide +kernel⟩
theorem ok_BadText___init__ {fd : FuncData} (F : FunD K "__init__" "BadText.__init__" (defArgs (inClass (top 6) 0)) (defBody (inClass (top 6) 0)) (defScope (inClass (top 6) 0)) [] [] (He.ma K (He.ga K "BadText") "__init__") fd) (e : Ev K mg base) : FnOk P w K mg base CX0 1 (He.ma K (He.ga K "BadText") "__init__") fd ["self", "line", "word"] (spErr2 K (He.ga K "BadText") "line" "word") := by
  refine F.ok sc_BadText___init__ (fun vs H Q E h => ?_) (fun cdv A outer s H vs Q E hr h => ?_)
  · obtain ⟨_, _, _, rfl, _⟩ := h
    rfl
  · skip
    refine ⟨_, PSs.nox ((pss_cons (ps_ost (pv 0) (pv 1))
      (pss_one (ps_ost (pv 0) (pv 2))))), ?_⟩
    obtain ⟨a, u, v, rfl, ha, k⟩ := h
    refine ⟨_, rfl, _, rfl, a, _, rfl, (err_BadText e).o, (no_BadText_line e), .inl ⟨ha, fun dx h1 h2 => ?_⟩⟩
    refine ⟨_, rfl, _, rfl, a, _, rfl, (err_BadText e).o, (no_BadText_word e), .inr ⟨dx, _, upd_same, (by rw [upd_ne h2]; exact upd_same), ?_, ?_⟩⟩
    · show 1 ≤ 900
      decide
    · exact k dx _ h1 h2 (by rw [upd_ne (Ne.symm h2)]; exact upd_same) upd_same fun b n1 n2 => by rw [upd_ne n2, upd_ne n1, upd_ne n2]
theorem d_BadText___init__ (e : Ev K mg base) : DefM P w K mg base 1 (He.ma K (He.ga K "BadText") "__init__") ["self", "line", "word"] (spErr2 K (He.ga K "BadText") "line" "word") := by
  obtain ⟨fd, F⟩ := e.c.def_ 9 (d := dm "BadText" "__init__" "BadText.__init__" 6 0) rfl
  exact ⟨fd, ok_BadText___init__ F e, FunD.bindsN F fun _ _ _ _ _ _ us hl => match us, hl with | [_, _, _], _ => rfl⟩
theorem dh_BadText___init__ (e : Ev K mg base) : ∃ fd, L2H.FnH P w K mg base CX0 1 (He.ma K (He.ga K "BadText") "__init__") fd ["self", "line", "word"] (spErr2 K (He.ga K "BadText") "line" "word") ∧ Binds K fd ["self", "line", "word"] [] := by
  obtain ⟨fd, F⟩ := e.c.def_ 9 (d := dm "BadText" "__init__" "BadText.__init__" 6 0) rfl
  obtain ⟨oc, od, dV, kV, doc, pm, an, cdv, ct, osl, rfl, lk, hcd, hD, hK⟩ := id F.ex
  refine ⟨_, L2H.fn_ofH lk hcd sc_BadText___init__ (fun vs H Q E h => ?_) (fun A outer s H vs Q E pp hot hr h => ?_), FunD.bindsN F fun _ _ _ _ _ _ us hl => match us, hl with | [_, _, _], _ => rfl⟩
  · obtain ⟨_, _, _, rfl, _⟩ := h
    rfl
  · skip
    refine ⟨_, ((pss_cons (ps_ost (pv 0) (pv 1))
      (pss_one (ps_ost (pv 0) (pv 2))))), ?_⟩
    obtain ⟨a, u, v, rfl, ha, k⟩ := h
    refine ⟨_, rfl, _, rfl, a, _, rfl, (err_BadText e).o, (no_BadText_line e), .inl ⟨ha, fun dx h1 h2 => ?_⟩⟩
    refine ⟨_, rfl, _, rfl, a, _, rfl, (err_BadText e).o, (no_BadText_word e), .inr ⟨dx, _, upd_same, (by rw [upd_ne h2]; exact upd_same), ?_, ?_⟩⟩
    · show 1 ≤ 900
      decide
    · exact k dx _ h1 h2 (by rw [upd_ne (Ne.symm h2)]; exact upd_same) upd_same fun b n1 n2 => by rw [upd_ne n2, upd_ne n1, upd_ne n2]
def BadT (K : PySem.W.Frag) (H : Hp) (E : XK) : Prop := ∀ d H', Same H H' → H d = none → H' d = some (.xd (btF 0)) → E (.ref (He.ga K "BadText")) (some d) H'
def spSides2 (K : PySem.W.Frag) : Sp := fun vs H Q E => ∃ (v : V) (y : Str), vs = [v, .str y] ∧ TL.tl y ≠ [] ∧ y.cps.all (· < 256) = true ∧ (y.length == 0) = false ∧
  ((∃ z, v = .str z ∧ z.length ≤ 900 ∧ (∀ a b, Txt.split z y = [a, b] → ∀ f l1 l2 H', Same H H' → H f = none → H' f = some (.tup [.ref l1, .ref l2]) → H' l1 = some (.lst ((Txt.split a (Str.ofString " ")).map V.str)) → H' l2 = some (.lst ((Txt.split b (Str.ofString " ")).map V.str)) → Q (.ref f) H') ∧ ((∀ a b, Txt.split z y ≠ [a, b]) → BadT K H E)) ∨
   ∃ t, TyX K H v t ∧ PySem.W.kitOne K t (.type "str") = some false ∧ BadT K H E)
theorem sc_sides_told : FnScope ["text", "between", "one", "other"] ["text", "between"] (defScope (top 13)) := ⟨rfl, rfl, rfl, by decide +kernel, rfl, by decide +kernel, by decide +kernel⟩
theorem ok_sides_told {fd : FuncData} (F : FunD K "sides_told" "sides_told" (defArgs (top 13)) (defBody (top 13)) (defScope (top 13)) [] [] (He.ga K "sides_told") fd) (e : Ev K mg base) : FnOk P w K mg base (CX P w) 3 (He.ga K "sides_told") fd ["text", "between"] (spSides2 K) := by
  refine F.ok sc_sides_told (fun vs H Q E h => ?_) (fun cdv A outer s H vs Q E hr h => ?_)
  · obtain ⟨_, _, rfl, _⟩ := h
    rfl
  · skip
    refine ⟨_, ((pss_cons (ps_if (PW.pt (pw_or (pt_not (pt_val (pe_callB (kcall_isi (K := K)) (by rfl) (f_isinstance e) (by decide +kernel) (pa_cons (pv 0) (pa_cons (pe_bltn (by rfl) (f_str e) (by decide +kernel) (show RelV (.ty "str") (.type "str") from rfl)) pa_nil))))) (pw_or1 (pt_cmpR op_ne (kpe_bm (K := K) PySem.F.plainAttrs_str PySem.F.slot_str_count PySem.F.type_str_count mt_count (pv 0) (pa_cons (pv 1) pa_nil)) pe_int (nomark _)))))
      (pss_one (ps_raise2 (err_BadText e) (d_BadText___init__ e) (hr.mono (by decide)) rfl (takes_of rfl rfl rfl rfl) rfl (g_BadText e) (pa_cons pe_int (pa_cons pe_int pa_nil)))) pss_nil)
      (pss_cons (ps_asg (pe_split (pv 0) (pv 1)) (kpg_unl (K := K) rfl (pgs_cons (pg_name (i := 2) sc_sides_told.nd rfl (Or.inl rfl)) (pgs_cons (pg_name (i := 3) sc_sides_told.nd rfl (Or.inl rfl)) pgs_nil))))
      (pss_one (ps_ret (pe_tup (pa_cons (pe_split (pv 2) pe_str) (pa_cons (pe_split (pv 3) pe_str) pa_nil)))))))), ?_⟩
    obtain ⟨v, y, rfl, hy, hk, h0, hv⟩ := h
    rcases hv with ⟨z, rfl, hz, k1, k2⟩ | ⟨t, ty, kt, k2⟩
    · by_cases two : ∃ a b, Txt.split z y = [a, b]
      · obtain ⟨a, b, e⟩ := two
        have cv : V.int (Txt.count z y) = V.int 1 := by rw [split_count hy hk, e]; rfl
        have la : a.length ≤ z.length := part_short (x := z) (y := y) (by rw [e]; exact .head _)
        have lb : b.length ≤ z.length := part_short (x := z) (y := y) (by rw [e]; exact .tail _ (.head _))
        have k1 := k1 a b e
        refine ⟨_, rfl, _, _, _, _, _, rfl, (.ty _), (.base (.str _)), rfl, _, rfl, ?_⟩
        show @ite _ _ (_) _ _
        refine ite_no (by decide +kernel) ?_
        refine ⟨_, rfl, rfl, _, rfl, _, _, rfl, rfl, rfl, _, rfl, ?_⟩
        show @ite _ _ (_) _ _
        refine ite_no (not_same (by assumption)) ?_
        refine ⟨_, rfl, ⟨_, rfl⟩, _, rfl, _, _, rfl, rfl, h0, (fit (by omega)), fun pa3 na4 => ?_⟩
        generalize ga6 : upd H pa3 (HO.lst (List.map V.str (Txt.split z y))) = Ha5
        obtain ⟨sa8, ea7⟩ := gen_new ga6 na4
        clear ga6
        rw [e] at ea7
        refine ⟨_, _, rfl, (SqL.of ea7), rfl, _, _, rfl, _, _, rfl, rfl, _, rfl, ⟨_, rfl⟩, _, _, rfl, rfl, rfl, (fit (by omega)), fun pa11 na12 => ?_⟩
        generalize ga14 : upd Ha5 pa11 (HO.lst (List.map V.str (Txt.split a (Str.ofString " ")))) = Ha13
        obtain ⟨sa16, ea15⟩ := gen_new ga14 na12
        clear ga14
        refine ⟨_, rfl, ⟨_, rfl⟩, _, _, rfl, rfl, rfl, (fit (by omega)), fun pa19 na20 => ?_⟩
        generalize ga22 : upd Ha13 pa19 (HO.lst (List.map V.str (Txt.split b (Str.ofString " ")))) = Ha21
        obtain ⟨sa24, ea23⟩ := gen_new ga22 na20
        clear ga22
        refine ⟨(fit (by simp)), fun pa27 na28 => ?_⟩
        generalize ga30 : upd Ha21 pa27 (HO.tup [V.ref pa11, V.ref pa19]) = Ha29
        obtain ⟨sa32, ea31⟩ := gen_new ga30 na28
        clear ga30
        exact k1 _ _ _ _ (((sa8.trans sa16).trans sa24).trans sa32) (((sa8.trans sa16).trans sa24).free na28) ea31 (sa32 _ _ (sa24 _ _ ea15)) (sa32 _ _ ea23)
      · have cv : ¬ V.int (Txt.count z y) = V.int 1 := fun q => by
          rw [split_count hy hk] at q
          have q : ((Txt.split z y).length : Int) - 1 = 1 := V.int.inj q
          match l : Txt.split z y with
          | [] => rw [l] at q; simp at q
          | [x] => rw [l] at q; simp at q
          | [x, w] => exact two ⟨x, w, l⟩
          | x :: w :: v :: r => rw [l] at q; simp at q; omega
        have k2 := k2 fun a b q => two ⟨a, b, q⟩
        unfold BadT at k2
        refine ⟨_, rfl, _, _, _, _, _, rfl, (.ty _), (.base (.str _)), rfl, _, rfl, ?_⟩
        show @ite _ _ (_) _ _
        refine ite_no (by decide +kernel) ?_
        refine ⟨_, rfl, rfl, _, rfl, _, _, rfl, rfl, rfl, _, rfl, ?_⟩
        show @ite _ _ (_) _ _
        refine ite_yes (ndec_true (by assumption)) ?_
        refine ⟨_, _, rfl, fun db6 Hb7 sb8 nb9 eb10 => ?_⟩
        exact k2 _ _ sb8 nb9 eb10
    · unfold BadT at k2
      refine ⟨_, rfl, _, _, _, _, _, rfl, (.ty _), ty, kt, _, rfl, ?_⟩
      show @ite _ _ (_) _ _
      refine ite_yes (by decide +kernel) ?_
      refine ⟨_, _, rfl, fun dc6 Hc7 sc8 nc9 ec10 => ?_⟩
      exact k2 _ _ sc8 nc9 ec10
theorem d_sides_told (e : Ev K mg base) : DefC P w K mg base 3 "sides_told" ["text", "between"] (spSides2 K) := by
  obtain ⟨fd, F⟩ := e.c.def_ 10 (d := dd "sides_told" 13) rfl
  exact ⟨⟨fd, ok_sides_told F e, FunD.bindsN F fun _ _ _ _ _ _ us hl => match us, hl with | [_, _], _ => rfl⟩, F.kp, He.glo_ok e.X e.G (e.c.fact 30 rfl)⟩
def spStrP (K : PySem.W.Frag) : Sp := fun vs H Q _ => ∃ (p : Addr) (hs ny fy : List Str), vs = [.ref p] ∧ PartAt K H p hs ny fy ∧ Q (.str (partText ny fy)) H
theorem sc_Parting___str__ : FnScope ["self"] ["self"] (defScope (inClass (top 15) 8)) := ⟨rfl, rfl, rfl, by decide +kernel, rfl, by decide +kernel, by decide +kernel⟩
theorem ok_Parting___str__ {fd : FuncData} (F : FunD K "__str__" "Parting.__str__" (defArgs (inClass (top 15) 8)) (defBody (inClass (top 15) 8)) (defScope (inClass (top 15) 8)) [] [] (He.ma K (He.ga K "Parting") "__str__") fd) (e : Ev K mg base) : FnOk P w K mg base CX0 1 (He.ma K (He.ga K "Parting") "__str__") fd ["self"] (spStrP K) := by
  refine F.ok sc_Parting___str__ (fun vs H Q E h => ?_) (fun cdv A outer s H vs Q E hr h => ?_)
  · obtain ⟨_, _, _, _, rfl, _⟩ := h
    rfl
  · skip
    refine ⟨_, PSs.nox ((pss_one (ps_ret (pe_joined (.cons (pe_fmt (kpe_join (K := K) pe_str (pe_ix (kix_tup (K := K)) (kpe_fld (K := K) (pv 0) rfl) pe_int (fun _ _ => rfl)))) (.cons pe_str (.cons (pe_fmt (kpe_join (K := K) pe_str (pe_ix (kix_tup (K := K)) (kpe_fld (K := K) (pv 0) rfl) pe_int (fun _ _ => rfl)))) .nil))))))), ?_⟩
    obtain ⟨p, hs, ny, fy, rfl, hc, k⟩ := h
    have la := hc.t.la
    have lb := hc.t.lb
    have nN : ∀ n ∈ ny, IsNm n := fun n hn => hc.t.nm n (List.mem_append_left _ hn)
    have nF : ∀ n ∈ fy, IsNm n := fun n hn => hc.t.nm n (List.mem_append_right _ hn)
    have jn := join_room nN (by omega)
    have jf := join_room nF (by omega)
    have wn := join_word nN (by omega)
    have wf := join_word nF (by omega)
    have f1 : (Txt.join (Str.ofString " ") ny).length ≤ sizeLine := fit (Nat.le_trans wn.l (by decide))
    have f2 : (Str.empty ++ Txt.join (Str.ofString " ") ny).length ≤ sizeLine := by rw [str_nil]; exact f1
    have w3 := wn.app (word_of (n := 3) (x := Str.ofString " / ") (by decide +kernel))
    have f3 : (Str.empty ++ Txt.join (Str.ofString " ") ny ++ Str.ofString " / ").length ≤ sizeLine := by rw [str_nil]; exact fit (Nat.le_trans w3.l (by decide))
    have f4 : (Txt.join (Str.ofString " ") fy).length ≤ sizeLine := fit (Nat.le_trans wf.l (by decide))
    have w5 := w3.app wf
    have f5 : (Str.empty ++ Txt.join (Str.ofString " ") ny ++ Str.ofString " / " ++ Txt.join (Str.ofString " ") fy).length ≤ sizeLine := by rw [str_nil]; exact fit (Nat.le_trans w5.l (by decide))
    have k : Q (.str (Str.empty ++ Txt.join (Str.ofString " ") ny ++ Str.ofString " / " ++ Txt.join (Str.ofString " ") fy)) H := by rw [str_nil]; exact k
    obtain ⟨⟨dxa1, t1a2, t2a3, t3a4, t4a5, ea6, ea7, ea8, ea9, ea10⟩, ea11, ea12⟩ := id hc
    have ha13 := ea11.la
    have ha14 := ea11.lb
    refine ⟨⟨_, rfl⟩, _, rfl, _, _, _, _, _, rfl, ea6, (cls_Parting e), (no_Parting_pairs e), rfl, _, _, _, _, rfl, rfl, (SqT.of ea8), rfl, _, _, _, rfl, rfl, (.inr (SqT.of ea9)), jn, .inl ⟨_, rfl, f1, _, rfl, f2, _, rfl, f3, ⟨_, rfl⟩, _, rfl, _, _, _, _, _, rfl, ea6, (cls_Parting e), (no_Parting_pairs e), rfl, _, _, _, _, rfl, rfl, (SqT.of ea8), rfl, _, _, _, rfl, rfl, (.inr (SqT.of ea10)), jf, .inl ⟨_, rfl, f4, _, rfl, f5, ?_⟩⟩⟩
    exact k
theorem d_Parting___str__ (e : Ev K mg base) : DefM P w K mg base 1 (He.ma K (He.ga K "Parting") "__str__") ["self"] (spStrP K) := by
  obtain ⟨fd, F⟩ := e.c.def_ 11 (d := dm "Parting" "__str__" "Parting.__str__" 15 8) rfl
  exact ⟨fd, ok_Parting___str__ F e, FunD.bindsN F fun _ _ _ _ _ _ us hl => match us, hl with | [_], _ => rfl⟩
def spReadP (K : PySem.W.Frag) : Sp := fun vs H Q E => ∃ v : V, vs = [.ref (He.ga K "Parting"), v] ∧
  ((∃ z, v = .str z ∧ z.length ≤ 900 ∧ (∀ ny fy, readP z = some (ny, fy) → ∀ p hs H', Same H H' → H p = none → PartAt K H' p hs ny fy → Q (.ref p) H') ∧ (readP z = none → BadT K H E)) ∨ ∃ t, TyX K H v t ∧ PySem.W.kitOne K t (.type "str") = some false ∧ BadT K H E)
theorem sc_Parting_read : FnScope ["cls", "text", "pairs", "parting"] ["cls", "text"] (defScope (inClass (top 15) 1)) := ⟨rfl, rfl, rfl, by decide +kernel, rfl, by decide +kernel, by decide +kernel⟩
theorem part_cls {X : Cx} {a b : Expr} {ta : TA} {p pos : Pos} {E : XK} (e : Ev X.K X.mg X.base) (hr : Room 5 X.A) (hx : Passes (L2N.CX X.prog X.w) X E) (hN : X.N[0]? = some ("cls" : Str)) (hv : Vis X.env.scope ("cls" : Str)) (ha : PA X [a, b] ta) (he : starEach [a, b] X.env = (false, eval a X.env) :: starEach [b] X.env := by rfl) (hpl : (backTo pos (starEach [b] X.env)).any (·.1) = false := by rfl) :
    PE X (.Call (.Name "cls" p) [a, b] [] pos) (tClsV 0 (He.ga X.K "Parting") (spPart X.K) [] E ta) := by
  obtain ⟨fd, F, b, _⟩ := part_mk (P := X.prog) (w := X.w) e
  exact pe_clsV (mk_Parting e) F hr b .nil hx hN hv ha (by decide) (by decide) he hpl
theorem ok_Parting_read {fd : FuncData} (F : FunD K "read" "Parting.read" (defArgs (inClass (top 15) 1)) (defBody (inClass (top 15) 1)) (defScope (inClass (top 15) 1)) [] [] (geA K "Parting" "read") fd) (e : Ev K mg base) : FnOk P w K mg base (CX P w) 7 (geA K "Parting" "read") fd ["cls", "text"] (spReadP K) := by
  refine F.ok sc_Parting_read (fun vs H Q E h => ?_) (fun cdv A outer s H vs Q E hr h => ?_)
  · obtain ⟨_, rfl, _⟩ := h
    rfl
  · skip
    refine ⟨_, ((pss_cons (ps_set (i := 2) sc_Parting_read.nd rfl (Or.inl rfl) (pe_defC (d_sides_told (P := P) (w := w) (K := K) (mg := mg) (base := base) e) (hr.mono (by decide)) (by rfl) (by exact passes_call (takes_of rfl rfl rfl rfl) fun _ _ _ _ h => h) (pa_cons (pv 1) (pa_cons pe_str pa_nil))))
      (pss_cons (L2H.ps_try_onlyX (tb := fun W => tTrySet 4 3 (fun E => tClsV 0 (He.ga K "Parting") (spPart K) [] E _) W) (ts := fun a cls d => tRaise2 (He.ga K "BadText") "line" "word" _ _) rfl rfl ⟨rfl, by decide, .inl (g_BadParting e)⟩ (fun hd => L2H.passesAt_of rfl hd) (takes_of rfl rfl rfl rfl) (fun W pn xe tk tkP own => pss_one (ps_setTry (by rfl) sc_Parting_read.nd rfl (Or.inl rfl) (fun E hE => part_cls e (hr.mono (by decide)) (L2N.passes_call (takes_lenN tk) fun cls d σ H h l => hE cls d σ H h l) rfl (.inl rfl) (pa_cons (pe_ix (kix_tup (K := K)) (pv 2) pe_int (fun _ _ => rfl)) (pa_cons (pe_ix (kix_tup (K := K)) (pv 2) pe_int (fun _ _ => rfl)) pa_nil))))) (fun a oe cls d pn hz hf tk hot => pss_one (ps_raiseH2 (err_BadText e) (dh_BadText___init__ e) (L2H.roomH_mark (hr.mono (by decide)) _) hot tk (by rfl) (g_BadText e) (pa_cons pe_int (pa_cons pe_int pa_nil)))))
      (pss_cons (ps_if (pt_cmpR op_ne (pe_callTy (call_strOwn (d_Parting___str__ e) (hr.mono (by decide)) (me_Parting___str__ e).at_ (me_Parting___str__ e).fn) (by rfl) (f_str e) (by decide +kernel) (pa_cons (pv 3) pa_nil)) (pv 1) (nomark _))
      (pss_one (ps_raise2 (err_BadText e) (d_BadText___init__ e) (hr.mono (by decide)) rfl (takes_of rfl rfl rfl rfl) rfl (g_BadText e) (pa_cons pe_int (pa_cons pe_int pa_nil)))) pss_nil)
      (pss_one (ps_ret (pv 3))))))), ?_⟩
    obtain ⟨v, rfl, hv⟩ := h
    rcases hv with ⟨z, rfl, hz, k1, k2⟩ | ⟨t, ty, kt, k2⟩
    · refine ⟨_, rfl, _, _, rfl, (by decide), (by decide +kernel), rfl, .inl ⟨z, rfl, hz, fun a b eq f l1 l2 H1 s1 n1 ef e1 e2 => ?_, fun no => ?_⟩⟩
      · have la : a.length ≤ z.length := part_short (x := z) (y := Str.ofString " / ") (by rw [eq]; exact .head _)
        have lb : b.length ≤ z.length := part_short (x := z) (y := Str.ofString " / ") (by rw [eq]; exact .tail _ (.head _))
        have wa : ∀ w ∈ Txt.split a (Str.ofString " "), w.length ≤ 900 := fun w hw => Nat.le_trans (part_short hw) (by omega)
        have wb : ∀ w ∈ Txt.split b (Str.ofString " "), w.length ≤ 900 := fun w hw => Nat.le_trans (part_short hw) (by omega)
        have ca := split_le a (Str.ofString " ")
        have cb := split_le b (Str.ofString " ")
        have bn : ∀ part, partBad part (rowN ((Txt.split a (Str.ofString " ")).map V.str)) (rowN ((Txt.split b (Str.ofString " ")).map V.str)) → readP z = none := fun part q => bad_noneP eq q
        have ri : ∀ {hs ny fy : List Str}, CutOf (Txt.split a (Str.ofString " ")) (Txt.split b (Str.ofString " ")) hs ny fy → (∀ w ∈ Txt.split a (Str.ofString " "), IsNm w) → (∀ w ∈ Txt.split b (Str.ofString " "), IsNm w) → (Txt.split a (Str.ofString " ")).length = 2 → (Txt.split b (Str.ofString " ")).length = 2 → apartS (Txt.split a (Str.ofString " ")) (Txt.split b (Str.ofString " ")) → (partText ny fy = z → readP z = some (ny, fy)) ∧ (partText ny fy ≠ z → readP z = none) := fun c n1 n2 l1 l2 ap => read_iffP eq rfl rfl c n1 n2 l1 l2 ap
        generalize Txt.split a (Str.ofString " ") = ns at e1 wa ca bn ri
        generalize Txt.split b (Str.ofString " ") = ms at e2 wb cb bn ri
        refine ⟨fun cls d H' => cls = .ref (He.ga K "BadParting") ∧ Same H1 H' ∧ readP z = none, fun v H' => ∃ p hs ny fy, v = .ref p ∧ Same H1 H' ∧ H1 p = none ∧ PartAt K H' p hs ny fy ∧ (partText ny fy = z → readP z = some (ny, fy)) ∧ (partText ny fy ≠ z → readP z = none), ?_, ?_, ?_⟩
        · rintro cls d σ' H' ⟨rfl, s2, rn⟩ hl
          have k2 := k2 rn
          unfold BadT at k2
          refine ⟨true, exm_BadParting_BadParting e, ?_, nofun⟩
          rintro _ x hx
          refine ⟨_, _, rfl, fun dd6 Hd7 sd8 nd9 ed10 => ?_⟩
          exact k2 _ _ ((s1.trans s2).trans sd8) ((s1.trans s2).free nd9) ed10
        · refine ⟨rfl, _, rfl, _, _, _, _, rfl, rfl, (SqT.of ef), rfl, _, rfl, _, _, _, _, rfl, rfl, (SqT.of ef), rfl, ?_⟩
          intro x dx hx hdx ne
          have s3 : Same H1 (upd (upd H1 dx (.own x)) x (.ins (He.ga K "Parting") dx [])) := (same_new hdx).trans (same_new (by rw [upd_ne ne.symm]; exact hx))
          have l9 : ns.length ≤ 1000 := by omega
          have m9 : ms.length ≤ 1000 := by omega
          refine ⟨x, dx, _, _, _, _, rfl, upd_same, .inl ⟨l1, _, rfl, .inl (s3 _ _ e1), by rw [List.length_map]; exact l9, kind_words wa (by decide), rfl⟩, .inl ⟨l2, _, rfl, .inl (s3 _ _ e2), by rw [List.length_map]; exact m9, kind_words wb (by decide), rfl⟩, fun pt d H' bad bt _ _ => ⟨rfl, fun c o h => bt c o (ne_of_none h hx) (s3 c o h), bn pt bad⟩, fun a' b' hs ny fy H' ea eb la' lb' ap co bt ic => ⟨rfl, ?_⟩⟩
          obtain ⟨qa, nma, nda⟩ := rowN_some ea
          obtain ⟨qb, nmb, ndb⟩ := rowN_some eb
          obtain rfl : ns = _ := (List.map_inj_right fun _ _ e => V.str.inj e).mp qa
          obtain rfl : ms = _ := (List.map_inj_right fun _ _ e => V.str.inj e).mp qb
          have tw : Two ns ms := ⟨fun n hn => (List.mem_append.mp hn).elim (nma n) (nmb n), List.nodup_append.mpr ⟨nda, ndb, fun x hx y hy q => ap x hx (q ▸ hy)⟩, la', lb'⟩
          obtain ⟨tn, asc, _⟩ := co.rows tw
          obtain ⟨r1, r2⟩ := ri co nma nmb la' lb' ap
          exact ⟨x, hs, ny, fy, rfl, fun c o h => bt c o (ne_of_none h hx) (s3 c o h), hx, ⟨ic, tn, asc⟩, r1, r2⟩
        · rintro v H' ⟨p, hs, ny, fy, rfl, s2, n2, ic, r1, r2⟩
          obtain ⟨⟨dxa1, t1a2, t2a3, t3a4, t4a5, ea6, ea7, ea8, ea9, ea10⟩, tw, asc⟩ := id ic
          refine ⟨_, rfl, _, _, _, rfl, ea6, _, _, _, _, rfl, ic, _, rfl, _, rfl, rfl, _, rfl, ?_⟩
          show @ite _ _ (_) _ _
          refine ite2 (fun cf12 => ?_) (fun cf12 => ?_)
          · have k2 := k2 (r2 fun q => of_ndec cf12 (congrArg V.str q))
            unfold BadT at k2
            refine ⟨_, _, rfl, fun df18 Hf19 sf20 nf21 ef22 => ?_⟩
            exact k2 _ _ ((s1.trans s2).trans sf20) ((s1.trans s2).free nf21) ef22
          · have cf12 := of_nndec cf12
            refine ⟨_, rfl, ?_⟩
            exact k1 _ _ (r1 (V.str.inj cf12)) _ _ _ (s1.trans s2) (s1.free n2) ic
      · have k2 := k2 (read_threeP no)
        exact k2
    · unfold BadT at k2
      refine ⟨_, rfl, _, _, rfl, (by decide), (by decide +kernel), rfl, .inr ⟨_, ty, kt, fun dc8 Hc9 sc10 nc11 ec12 => ?_⟩⟩
      exact k2 _ _ sc10 nc11 ec12
theorem d_Parting_read (e : Ev K mg base) : DefK P w K mg base (CX P w) 7 "Parting" "read" ["cls", "text"] ["text"] (spReadP K) := by
  obtain ⟨_, pr, fd, F⟩ := e.g 0 (gd "Parting" "read" "Parting.read" 15 1 true) rfl
  exact ⟨pr rfl, fd, ok_Parting_read F e, FunD.bindsN F fun _ _ _ _ _ _ us hl => match us, hl with | [_, _], _ => rfl, FunD.kbindsN F 1 ["text"] fun _ _ _ _ _ _ us ws h1 h2 => match us, ws, h1, h2 with | [_], [_], _, _ => rfl⟩
theorem readP_n {K : PySem.W.Frag} {H : Hp} {z : Str} {ny fy : List Str} {Q : VK} {E : XK} (rd : readP z = some (ny, fy)) (l : z.length ≤ 900) (k : ∀ p hs H', Same H H' → H p = none → PartAt K H' p hs ny fy → Q (.ref p) H') : spReadP K [.ref (He.ga K "Parting"), .str z] H Q E :=
  ⟨_, rfl, .inl ⟨z, rfl, l, fun a b e p hs H' s n pa => by rw [rd] at e; cases e; exact k p hs H' s n pa, fun e => by rw [rd] at e; cases e⟩⟩

def spEqP (K : PySem.W.Frag) : Sp := fun vs H Q _ => ∃ (p : Addr) (y : V) (hs ny fy : List Str), vs = [.ref p, y] ∧ PartAt K H p hs ny fy ∧
  ((∃ (q : Addr) (ks my gy : List Str), y = .ref q ∧ PartAt K H q ks my gy ∧ ∀ H', Same H H' → Q (.bl (decide (ny = my) && decide (fy = gy))) H') ∨ ∃ t, t ∈ kinds ∧ TyX K H y t ∧ Q (.bl false) H)
theorem sc_Parting___eq__ : FnScope ["self", "other"] ["self", "other"] (defScope (inClass (top 15) 3)) := ⟨rfl, rfl, rfl, by decide +kernel, rfl, by decide +kernel, by decide +kernel⟩
theorem ok_Parting___eq__ {fd : FuncData} (F : FunD K "__eq__" "Parting.__eq__" (defArgs (inClass (top 15) 3)) (defBody (inClass (top 15) 3)) (defScope (inClass (top 15) 3)) [] [] (He.ma K (He.ga K "Parting") "__eq__") fd) (e : Ev K mg base) : FnOk P w K mg base CX0 1 (He.ma K (He.ga K "Parting") "__eq__") fd ["self", "other"] (spEqP K) := by
  refine F.ok sc_Parting___eq__ (fun vs H Q E h => ?_) (fun cdv A outer s H vs Q E hr h => ?_)
  · obtain ⟨_, _, _, _, _, rfl, _⟩ := h
    rfl
  · skip
    refine ⟨_, PSs.nox ((pss_cons (ps_if (pt_not (pt_val (pe_callB (kcall_isi (K := K)) (by rfl) (f_isinstance e) (by decide +kernel) (pa_cons (pv 1) (pa_cons (pe_glob (by rfl) (g_Parting e) (show RelV (.ref (He.ga K "Parting")) (.ref (He.ga K "Parting")) from rfl)) pa_nil)))))
      (pss_one (ps_ret pe_bl)) pss_nil)
      (pss_one (ps_ret (pe_cmpR (kop_eqD (K := K) hr.units) (kpe_fld (K := K) (pv 0) rfl) (kpe_fld (K := K) (pv 1) rfl) (nomark _)))))), ?_⟩
    obtain ⟨p, y, hs, ny, fy, rfl, hp, hv⟩ := h
    rcases hv with ⟨q, ks, my, gy, rfl, hq, k⟩ | ⟨t, ht, ty, k⟩
    · obtain ⟨⟨dxa1, t1a2, t2a3, t3a4, t4a5, ea6, ea7, ea8, ea9, ea10⟩, ea11, ea12⟩ := id hq
      have ha13 := ea11.la
      have ha14 := ea11.lb
      refine ⟨_, rfl, _, _, _, _, _, rfl, (.own _), ((own_Parting e).ty (cls_Parting e) ea6), kit_same, _, rfl, ?_⟩
      show @ite _ _ (_) _ _
      refine ite_no (by decide +kernel) ?_
      obtain ⟨⟨dxa15, t1a16, t2a17, t3a18, t4a19, ea20, ea21, ea22, ea23, ea24⟩, ea25, ea26⟩ := id hp
      have ha27 := ea25.la
      have ha28 := ea25.lb
      refine ⟨_, rfl, _, _, _, _, _, rfl, ea20, (cls_Parting e), (no_Parting_pairs e), rfl, _, rfl, _, _, _, _, _, rfl, ea6, (cls_Parting e), (no_Parting_pairs e), rfl, _, _, (.tup (SqT.of ea22) (.cons (.tup (SqT.of ea23) (dp_strs _)) (.cons (.tup (SqT.of ea24) (dp_strs _)) .nil))), (.tup (SqT.of ea8) (.cons (.tup (SqT.of ea9) (dp_strs _)) (.cons (.tup (SqT.of ea10) (dp_strs _)) .nil))), shaped_two (fun n hn => ea25.nm n (List.mem_append_left _ hn)) (fun n hn => ea25.nm n (List.mem_append_right _ hn)), shaped_two (fun n hn => ea11.nm n (List.mem_append_left _ hn)) (fun n hn => ea11.nm n (List.mem_append_right _ hn)), ?_⟩
      rw [eqv_two]
      exact k _ (Same.refl _)
    · refine ⟨_, rfl, _, _, _, _, _, rfl, (.own _), ty, ((own_Parting e).ki _ (by assumption)), _, rfl, ?_⟩
      show @ite _ _ (_) _ _
      refine ite_yes (by decide +kernel) ?_
      exact k
theorem d_Parting___eq__ (e : Ev K mg base) : DefM P w K mg base 1 (He.ma K (He.ga K "Parting") "__eq__") ["self", "other"] (spEqP K) := by
  obtain ⟨fd, F⟩ := e.c.def_ 12 (d := dm "Parting" "__eq__" "Parting.__eq__" 15 3) rfl
  exact ⟨fd, ok_Parting___eq__ F e, FunD.bindsN F fun _ _ _ _ _ _ us hl => match us, hl with | [_, _], _ => rfl⟩
theorem sc_NoHost___init__ : FnScope ["self", "name"] ["self", "name"] (defScope (inClass (top 7) 0)) := ⟨rfl, rfl, rfl, by decide +kernel, rfl, by decide +kernel, by decide +kernel⟩
theorem ok_NoHost___init__ {fd : FuncData} (F : FunD K "__init__" "NoHost.__init__" (defArgs (inClass (top 7) 0)) (defBody (inClass (top 7) 0)) (defScope (inClass (top 7) 0)) [] [] (He.ma K (He.ga K "NoHost") "__init__") fd) (e : Ev K mg base) : FnOk P w K mg base CX0 1 (He.ma K (He.ga K "NoHost") "__init__") fd ["self", "name"] (spErr1 K (He.ga K "NoHost") "name") := by
  refine F.ok sc_NoHost___init__ (fun vs H Q E h => ?_) (fun cdv A outer s H vs Q E hr h => ?_)
  · obtain ⟨_, _, rfl, _⟩ := h
    rfl
  · skip
    refine ⟨_, PSs.nox ((pss_one (ps_ost (pv 0) (pv 1)))), ?_⟩
    obtain ⟨a, v, rfl, ha, k⟩ := h
    refine ⟨_, rfl, _, rfl, a, _, rfl, (err_NoHost e).o, (no_NoHost_name e), .inl ⟨ha, fun dx h1 h2 => ?_⟩⟩
    exact k dx h1 h2
theorem d_NoHost___init__ (e : Ev K mg base) : DefM P w K mg base 1 (He.ma K (He.ga K "NoHost") "__init__") ["self", "name"] (spErr1 K (He.ga K "NoHost") "name") := by
  obtain ⟨fd, F⟩ := e.c.def_ 13 (d := dm "NoHost" "__init__" "NoHost.__init__" 7 0) rfl
  exact ⟨fd, ok_NoHost___init__ F e, FunD.bindsN F fun _ _ _ _ _ _ us hl => match us, hl with | [_, _], _ => rfl⟩
theorem sc_BadFour___init__ : FnScope ["self", "value"] ["self", "value"] (defScope (inClass (top 4) 0)) := ⟨rfl, rfl, rfl, by decide +kernel, rfl, by decide +kernel, by decide +kernel⟩
theorem ok_BadFour___init__ {fd : FuncData} (F : FunD K "__init__" "BadFour.__init__" (defArgs (inClass (top 4) 0)) (defBody (inClass (top 4) 0)) (defScope (inClass (top 4) 0)) [] [] (He.ma K (He.ga K "BadFour") "__init__") fd) (e : Ev K mg base) : FnOk P w K mg base CX0 1 (He.ma K (He.ga K "BadFour") "__init__") fd ["self", "value"] (spErr1 K (He.ga K "BadFour") "value") := by
  refine F.ok sc_BadFour___init__ (fun vs H Q E h => ?_) (fun cdv A outer s H vs Q E hr h => ?_)
  · obtain ⟨_, _, rfl, _⟩ := h
    rfl
  · skip
    refine ⟨_, PSs.nox ((pss_one (ps_ost (pv 0) (pv 1)))), ?_⟩
    obtain ⟨a, v, rfl, ha, k⟩ := h
    refine ⟨_, rfl, _, rfl, a, _, rfl, (err_BadFour e).o, (no_BadFour_value e), .inl ⟨ha, fun dx h1 h2 => ?_⟩⟩
    exact k dx h1 h2
theorem d_BadFour___init__ (e : Ev K mg base) : DefM P w K mg base 1 (He.ma K (He.ga K "BadFour") "__init__") ["self", "value"] (spErr1 K (He.ga K "BadFour") "value") := by
  obtain ⟨fd, F⟩ := e.c.def_ 14 (d := dm "BadFour" "__init__" "BadFour.__init__" 4 0) rfl
  exact ⟨fd, ok_BadFour___init__ F e, FunD.bindsN F fun _ _ _ _ _ _ us hl => match us, hl with | [_, _], _ => rfl⟩
def rHost (K : PySem.W.Frag) : R2 := fun x y H Q => rEq x y H Q ∨ (rDictStr x y H Q ∨ (rEqD K x y H Q ∨ rOwn K (He.ga K "Parting") (spEqP K) x y H Q))
def spMateN (K : PySem.W.Frag) : Sp := fun vs H Q E => ∃ (p : Addr) (hs ny fy : List Str) (v : V), vs = [.ref p, v] ∧ PartAt K H p hs ny fy ∧ (∀ g, g ∈ ny ++ fy → ∀ H' (Q : VK), Same H H' → (∀ H2, Same H' H2 → Q (.bl false) H2) → rHost K v (.str g) H' Q) ∧
  ∀ d H', Same H H' → H d = none → H' d = some (.xd [("name", v)]) → E (.ref (He.ga K "NoHost")) (some d) H'
theorem sc_Parting_mate : FnScope ["self", "host", "one", "other"] ["self", "host"] (defScope (inClass (top 15) 2)) := ⟨rfl, rfl, rfl, by decide +kernel, rfl, by decide +kernel, by decide +kernel⟩
theorem ok_Parting_mate {fd : FuncData} (F : FunD K "mate" "Parting.mate" (defArgs (inClass (top 15) 2)) (defBody (inClass (top 15) 2)) (defScope (inClass (top 15) 2)) [] [] (He.ma K (He.ga K "Parting") "mate") fd) (e : Ev K mg base) : FnOk P w K mg base (CX P w) 3 (He.ma K (He.ga K "Parting") "mate") fd ["self", "host"] (spMateN K) := by
  refine F.ok sc_Parting_mate (fun vs H Q E h => ?_) (fun cdv A outer s H vs Q E hr h => ?_)
  · obtain ⟨_, _, _, _, _, rfl, _⟩ := h
    rfl
  · skip
    refine ⟨_, ((pss_cons (ps_for (passes_of rfl) rfl (kpi_tup (K := K) (kpe_fld (K := K) (pv 0) rfl)) (pg_tup (by rfl) (pgs_cons (pg_name (i := 2) sc_Parting_mate.nd rfl (Or.inl rfl)) (pgs_cons (pg_name (i := 3) sc_Parting_mate.nd rfl (Or.inl rfl)) pgs_nil)))
      (pss_cons (ps_if (pt_cmpR (op_or2 op_eq (op_or2 (op_dictStr hr.units0) (op_or2 (kop_eqD (K := K) hr.units) (op_own (op := .Eq) (K := K) (d_Parting___eq__ e) (hr.mono (by decide)) (me_Parting___eq__ e).at_ (me_Parting___eq__ e).fn)))) (pv 1) (pv 2) (nomark _))
      (pss_one (ps_ret (pv 3))) pss_nil)
      (pss_one (ps_if (pt_cmpR (op_or2 op_eq (op_or2 (op_dictStr hr.units0) (op_or2 (kop_eqD (K := K) hr.units) (op_own (op := .Eq) (K := K) (d_Parting___eq__ e) (hr.mono (by decide)) (me_Parting___eq__ e).at_ (me_Parting___eq__ e).fn)))) (pv 1) (pv 3) (nomark _))
      (pss_one (ps_ret (pv 2))) pss_nil))))
      (pss_one (ps_raise1 (err_NoHost e) (d_NoHost___init__ e) (hr.mono (by decide)) rfl (takes_of rfl rfl rfl rfl) rfl (g_NoHost e) (pa_cons (pv 1) pa_nil))))), ?_⟩
    obtain ⟨p, hs, ny, fy, v, rfl, hc, hv, k⟩ := h
    obtain ⟨⟨dxa1, t1a2, t2a3, t3a4, t4a5, ea6, ea7, ea8, ea9, ea10⟩, two, asc⟩ := id hc
    have la := two.la
    have lb := two.lb
    refine ⟨_, rfl, _, _, _, _, _, rfl, ea6, (cls_Parting e), (no_Parting_pairs e), rfl, _, rfl, ⟨_, (SqT.of ea8)⟩, ?_⟩
    refine for_tup (xs := [V.ref t3a4, V.ref t4a5]) (fun i σ H' => Same H H' ∧ ∃ x2 x3, σ = [some (.ref p), some v, x2, x3]) ⟨Same.refl _, none, none, rfl⟩ (fun i σ H1 hi q => SqT.of (q.1 _ _ ea8)) ?_ ?_
    · rintro i x σ H1 hx ⟨s1, x2, x3, rfl⟩
      obtain ⟨q, g, o, rfl, eq, hg, ho⟩ : ∃ q g o, x = .ref q ∧ H1 q = some (.tup ([g, o].map V.str)) ∧ g ∈ ny ++ fy ∧ o ∈ ny ++ fy := by
        match i, hx with
        | 0, hx =>
          match ny, la with
          | [g, o], _ => exact ⟨t3a4, g, o, (Option.some.inj hx).symm, s1 _ _ ea9, by simp, by simp⟩
        | 1, hx =>
          match fy, lb with
          | [g, o], _ => exact ⟨t4a5, g, o, (Option.some.inj hx).symm, s1 _ _ ea10, by simp, by simp⟩
      refine ⟨_, _, rfl, (SqT.of eq), rfl, _, _, rfl, _, _, rfl, rfl, _, rfl, _, rfl, ?_⟩
      refine hv g hg H1 _ s1 fun H2 s2 => ?_
      refine ⟨_, rfl, iteF ?_⟩
      refine ⟨_, rfl, _, rfl, ?_⟩
      refine hv o ho H2 _ (s1.trans s2) fun H3 s3 => ?_
      refine ⟨_, rfl, iteF ?_⟩
      exact ⟨(s1.trans s2).trans s3, _, _, rfl⟩
    · rintro σ H1 ⟨s1, x2, x3, rfl⟩
      refine ⟨_, rfl, _, rfl, fun d H' s n ed => ?_⟩
      exact k d H' (s1.trans s) (s1.free n) ed
theorem d_Parting_mate (e : Ev K mg base) : ∃ fd, FnOk P w K mg base (CX P w) 3 (He.ma K (He.ga K "Parting") "mate") fd ["self", "host"] (spMateN K) ∧ FunD K "mate" "Parting.mate" (defArgs (inClass (top 15) 2)) (defBody (inClass (top 15) 2)) (defScope (inClass (top 15) 2)) [] [] (He.ma K (He.ga K "Parting") "mate") fd := by
  obtain ⟨fd, F⟩ := e.c.def_ 15 (d := dm "Parting" "mate" "Parting.mate" 15 2) rfl
  exact ⟨fd, ok_Parting_mate F e, F⟩
theorem db_Parting_mate (e : Ev K mg base) : ∃ fd, FnOk P w K mg base (CX P w) 3 (He.ma K (He.ga K "Parting") "mate") fd ["self", "host"] (spMateN K) ∧ Binds K fd ["self", "host"] [] := by
  obtain ⟨fd, F, D⟩ := d_Parting_mate (P := P) (w := w) e
  exact ⟨fd, F, FunD.bindsN (ps := ["self", "host"]) D fun _ _ _ _ _ _ us hl => match us, hl with | [_, _], _ => rfl⟩
def fourD : Option (List Str) → Bool
  | none => false
  | some ns => decide (ns.length = 4)
structure Ans (K : PySem.W.Frag) (H : Hp) (r p1 p2 p3 : Addr) (a b c d : Str) : Prop where
  e : H r = some (.tup [.non, .ref p1, .ref p2, .ref p3])
  q1 : PartAt K H p1 [a, b, c, d] [a, b] [c, d]
  q2 : PartAt K H p2 [a, b, c, d] [a, c] [b, d]
  q3 : PartAt K H p3 [a, b, c, d] [a, d] [b, c]
def spAnswers (K : PySem.W.Frag) : Sp := fun vs H Q E => ∃ (v : V) (dv : Option (List Str)), vs = [v] ∧ RowD K H v dv ∧
  (fourD dv = false → ∀ d H', Same H H' → H d = none → H' d = some (.xd [("value", v)]) → E (.ref (He.ga K "BadFour")) (some d) H') ∧
  ∀ ns a b c d, dv = some ns → AscOf ns [a, b, c, d] → ∀ r p1 p2 p3 H', Same H H' → H r = none → Ans K H' r p1 p2 p3 a b c d → Q (.ref r) H'
theorem sc_answers_of : FnScope ["four", "a", "b", "c", "d"] ["four"] (defScope (top 17)) := ⟨rfl, rfl, rfl, by decide +kernel, rfl, by decide +kernel, by decide +kernel⟩
theorem four_rows {ns : List Str} {a b c d : Str} (nm : ∀ n ∈ ns, IsNm n) (h : AscOf ns [a, b, c, d]) : RowOk a b c d b c d ∧ RowOk a b c d c b d ∧ RowOk a b c d d b c := by
  have hH : Hosts 4 [a, b, c, d] := ⟨rfl, fun x hx => nm x ((h.2.2 x).mp hx), h.2.1, h.1⟩
  have ge : ∀ (m u v : Nat), ([0, 1, 2, 3].all fun i => decide (i ∈ [0, m] ++ [u, v])) = true → (([0, m] ++ [u, v]).all fun i => decide (i ∈ [0, 1, 2, 3])) = true → ∀ i, i ∈ [0, 1, 2, 3] ↔ i ∈ [0, m] ++ [u, v] := fun m u v h1 h2 i => ⟨fun q => of_decide_eq_true (List.all_eq_true.mp h1 i q), fun q => of_decide_eq_true (List.all_eq_true.mp h2 i q)⟩
  exact ⟨hH.rowOk (a := 0) (b := 1) (c := 2) (d := 3) (m := 1) (u := 2) (v := 3) (by decide) (by decide) (by decide) (by decide) (by decide) (by decide) (ge _ _ _ (by decide) (by decide)), hH.rowOk (a := 0) (b := 1) (c := 2) (d := 3) (m := 2) (u := 1) (v := 3) (by decide) (by decide) (by decide) (by decide) (by decide) (by decide) (ge _ _ _ (by decide) (by decide)),
    hH.rowOk (a := 0) (b := 1) (c := 2) (d := 3) (m := 3) (u := 1) (v := 2) (by decide) (by decide) (by decide) (by decide) (by decide) (by decide) (ge _ _ _ (by decide) (by decide))⟩
theorem ok_answers_of {fd : FuncData} (F : FunD K "answers_of" "answers_of" (defArgs (top 17)) (defBody (top 17)) (defScope (top 17)) [] [] (He.ga K "answers_of") fd) (e : Ev K mg base) : FnOk P w K mg base (CX P w) 6 (He.ga K "answers_of") fd ["four"] (spAnswers K) := by
  refine F.ok sc_answers_of (fun vs H Q E h => ?_) (fun cdv A outer s H vs Q E hr h => ?_)
  · obtain ⟨_, _, rfl, _⟩ := h
    rfl
  · skip
    refine ⟨_, ((pss_cons (ps_if (PW.pt (pw_or (pt_not (pt_val (pe_def (d_are_names (P := P) (w := w) (K := K) (mg := mg) (base := base) e) (hr.mono (by decide)) (by rfl) (pa_cons (pv 0) pa_nil)))) (pw_or1 (pt_cmpR op_ne (pe_callB (kcall_len_seq (K := K)) (by rfl) (f_len e) (by decide +kernel) (pa_cons (pv 0) pa_nil)) pe_int (nomark _)))))
      (pss_one (ps_raise1 (err_BadFour e) (d_BadFour___init__ e) (hr.mono (by decide)) rfl (takes_of rfl rfl rfl rfl) rfl (g_BadFour e) (pa_cons (pv 0) pa_nil))) pss_nil)
      (pss_cons (ps_asg (pe_def (d_ascending (P := P) (w := w) (K := K) (mg := mg) (base := base) e) (hr.mono (by decide)) (by rfl) (pa_cons (pv 0) pa_nil)) (pg_tup (by rfl) (pgs_cons (pg_name (i := 1) sc_answers_of.nd rfl (Or.inl rfl)) (pgs_cons (pg_name (i := 2) sc_answers_of.nd rfl (Or.inl rfl)) (pgs_cons (pg_name (i := 3) sc_answers_of.nd rfl (Or.inl rfl)) (pgs_cons (pg_name (i := 4) sc_answers_of.nd rfl (Or.inl rfl)) pgs_nil))))))
      (pss_one (ps_ret (pe_tup (pa_cons pe_non (pa_cons (pe_part2 e (hr.mono (by decide)) passNo (by rfl) (pa_cons (pe_tup (pa_cons (pv 1) (pa_cons (pv 2) pa_nil))) (pa_cons (pe_tup (pa_cons (pv 3) (pa_cons (pv 4) pa_nil))) pa_nil))) (pa_cons (pe_part2 e (hr.mono (by decide)) passNo (by rfl) (pa_cons (pe_tup (pa_cons (pv 1) (pa_cons (pv 3) pa_nil))) (pa_cons (pe_tup (pa_cons (pv 2) (pa_cons (pv 4) pa_nil))) pa_nil))) (pa_cons (pe_part2 e (hr.mono (by decide)) passNo (by rfl) (pa_cons (pe_tup (pa_cons (pv 1) (pa_cons (pv 4) pa_nil))) (pa_cons (pe_tup (pa_cons (pv 2) (pa_cons (pv 3) pa_nil))) pa_nil))) pa_nil)))))))))), ?_⟩
    obtain ⟨v, dv, rfl, hd, k1, k2⟩ := h
    cases dv with
    | none =>
      have k1 := k1 rfl
      refine ⟨_, rfl, ?_⟩
      dsimp only [tNil]
      refine are_n hd fun Ha1 sa2 => ?_
      refine ⟨_, rfl, ?_⟩
      refine ite_yes (by decide +kernel) ?_
      refine ⟨_, rfl, _, rfl, fun da8 Ha9 sa10 na11 ea12 => ?_⟩
      exact k1 _ _ (sa2.trans sa10) (sa2.free na11) ea12
    | some ns =>
      have row := hd.row
      obtain ⟨q, rfl, ra⟩ := row.at_
      by_cases l4 : ns.length = 4
      · have y4 : V.int ((List.map V.str ns).length : Int) = V.int 4 := by rw [List.length_map, l4]; rfl
        have l3 : ns.length ≤ 3000 := by omega
        obtain ⟨tc1, ec2⟩ := ra.rowO
        refine ⟨_, rfl, ?_⟩
        dsimp only [tNil]
        refine are_n hd fun Hc3 sc4 => ?_
        refine ⟨_, rfl, ?_⟩
        refine iteF ?_
        refine ⟨_, rfl, _, _, rfl, (rowO_seq (sc4 _ _ ec2)), rfl, _, rfl, ?_⟩
        show @ite _ _ (_) _ _
        refine ite_no (not_same (by assumption)) ?_
        refine ⟨_, rfl, ?_⟩
        refine ⟨q, ns, rfl, (rowO_seq (sc4 _ _ ec2)), l3, fun ys t H5 asc s5 nt et => ?_⟩
        obtain ⟨a, b, c, d, rfl⟩ : ∃ a b c d, ys = [a, b, c, d] := by
          match ys, (asc.len row.nd).trans l4 with
          | [a, b, c, d], _ => exact ⟨a, b, c, d, rfl⟩
        have k2 := k2 ns a b c d rfl asc
        obtain ⟨o1, o2, o3⟩ := four_rows row.nm asc
        have e1 : List.map V.str [a, b, c, d] = [V.str a, V.str b, V.str c, V.str d] := rfl
        refine ⟨_, _, rfl, (SqT.of et), rfl, _, _, rfl, _, _, rfl, _, _, rfl, _, _, rfl, rfl, _, rfl, _, rfl, (fit (by simp)), fun pd3 nd4 => ?_⟩
        generalize gd6 : upd H5 pd3 (HO.tup [V.str a, V.str b]) = Hd5
        obtain ⟨sd8, ed7⟩ := gen_new gd6 nd4
        clear gd6
        have ed7 : Hd5 pd3 = some (HO.tup (List.map V.str [a, b])) := ed7
        refine ⟨_, rfl, _, rfl, (fit (by simp)), fun pd11 nd12 => ?_⟩
        generalize gd14 : upd Hd5 pd11 (HO.tup [V.str c, V.str d]) = Hd13
        obtain ⟨sd16, ed15⟩ := gen_new gd14 nd12
        clear gd14
        have ed15 : Hd13 pd11 = some (HO.tup (List.map V.str [c, d])) := ed15
        dsimp only [tNil]
        refine part_ok ⟨_, ⟨rfl, (.inr (sd16 _ _ ed7))⟩⟩ ⟨_, ⟨rfl, (.inr ed15)⟩⟩ o1 fun pd17 Hd18 sd19 nd20 hd21 => ?_
        refine ⟨_, rfl, _, rfl, (fit (by simp)), fun pd24 nd25 => ?_⟩
        generalize gd27 : upd Hd18 pd24 (HO.tup [V.str a, V.str c]) = Hd26
        obtain ⟨sd29, ed28⟩ := gen_new gd27 nd25
        clear gd27
        have ed28 : Hd26 pd24 = some (HO.tup (List.map V.str [a, c])) := ed28
        refine ⟨_, rfl, _, rfl, (fit (by simp)), fun pd32 nd33 => ?_⟩
        generalize gd35 : upd Hd26 pd32 (HO.tup [V.str b, V.str d]) = Hd34
        obtain ⟨sd37, ed36⟩ := gen_new gd35 nd33
        clear gd35
        have ed36 : Hd34 pd32 = some (HO.tup (List.map V.str [b, d])) := ed36
        dsimp only [tNil]
        refine part_ok ⟨_, ⟨rfl, (.inr (sd37 _ _ ed28))⟩⟩ ⟨_, ⟨rfl, (.inr ed36)⟩⟩ o2 fun pd38 Hd39 sd40 nd41 hd42 => ?_
        refine ⟨_, rfl, _, rfl, (fit (by simp)), fun pd45 nd46 => ?_⟩
        generalize gd48 : upd Hd39 pd45 (HO.tup [V.str a, V.str d]) = Hd47
        obtain ⟨sd50, ed49⟩ := gen_new gd48 nd46
        clear gd48
        have ed49 : Hd47 pd45 = some (HO.tup (List.map V.str [a, d])) := ed49
        refine ⟨_, rfl, _, rfl, (fit (by simp)), fun pd53 nd54 => ?_⟩
        generalize gd56 : upd Hd47 pd53 (HO.tup [V.str b, V.str c]) = Hd55
        obtain ⟨sd58, ed57⟩ := gen_new gd56 nd54
        clear gd56
        have ed57 : Hd55 pd53 = some (HO.tup (List.map V.str [b, c])) := ed57
        dsimp only [tNil]
        refine part_ok ⟨_, ⟨rfl, (.inr (sd58 _ _ ed49))⟩⟩ ⟨_, ⟨rfl, (.inr ed57)⟩⟩ o3 fun pd59 Hd60 sd61 nd62 hd63 => ?_
        refine ⟨(fit (by simp)), fun pd66 nd67 => ?_⟩
        generalize gd69 : upd Hd60 pd66 (HO.tup [V.non, V.ref pd17, V.ref pd38, V.ref pd59]) = Hd68
        obtain ⟨sd71, ed70⟩ := gen_new gd69 nd67
        clear gd69
        exact k2 _ _ _ _ _ (((((((((((sc4.trans s5).trans sd8).trans sd16).trans sd19).trans sd29).trans sd37).trans sd40).trans sd50).trans sd58).trans sd61).trans sd71) (((((((((((sc4.trans s5).trans sd8).trans sd16).trans sd19).trans sd29).trans sd37).trans sd40).trans sd50).trans sd58).trans sd61).free nd67) ⟨ed70, hd21.same ((((((sd29.trans sd37).trans sd40).trans sd50).trans sd58).trans sd61).trans sd71), hd42.same (((sd50.trans sd58).trans sd61).trans sd71), hd63.same sd71⟩
      · have k1 := k1 (decide_eq_false l4)
        have n4 : ¬ V.int ((List.map V.str ns).length : Int) = V.int 4 := fun q => l4 (by have := V.int.inj q; rw [List.length_map] at this; omega)
        obtain ⟨tb1, eb2⟩ := ra.rowO
        refine ⟨_, rfl, ?_⟩
        dsimp only [tNil]
        refine are_n hd fun Hb3 sb4 => ?_
        refine ⟨_, rfl, ?_⟩
        refine iteF ?_
        refine ⟨_, rfl, _, _, rfl, (rowO_seq (sb4 _ _ eb2)), rfl, _, rfl, ?_⟩
        show @ite _ _ (_) _ _
        refine ite_yes (ndec_true (by assumption)) ?_
        refine ⟨_, rfl, _, rfl, fun db10 Hb11 sb12 nb13 eb14 => ?_⟩
        exact k1 _ _ (sb4.trans sb12) (sb4.free nb13) eb14
theorem d_answers_of (e : Ev K mg base) : DefC P w K mg base 6 "answers_of" ["four"] (spAnswers K) := by
  obtain ⟨fd, F⟩ := e.c.def_ 16 (d := dd "answers_of" 17) rfl
  exact ⟨⟨fd, ok_answers_of F e, FunD.bindsN F fun _ _ _ _ _ _ us hl => match us, hl with | [_], _ => rfl⟩, F.kp, He.glo_ok e.X e.G (e.c.fact 39 rfl)⟩
def spHostsL (K : PySem.W.Frag) : Sp := fun vs H Q _ => ∃ (p c : Addr) (ms : List Int) (t : Nat) (z : Int) (n : Nat), vs = [.ref p, .int (n : Int)] ∧ Pen H p c ms t z ∧ t < 700000 ∧ n ≤ 12 ∧
  ∀ (hs : List Str) (f : Addr) (H' : Hp) (t' : Nat) (z' : Int), Hosts n hs → H f = none → H' f = some (.lst (hs.map V.str)) → But p H H' → Pen H' p c ms t' z' → t' ≤ t + 20 → Q (.ref f) H'
theorem sc_law_hosts : FnScope ["pen", "many", "pools", "left", "k"] ["pen", "many"] (defScope (top 22)) := ⟨rfl, rfl, rfl, by decide +kernel, rfl, by decide +kernel, by decide +kernel⟩
theorem ok_law_hosts {fd : FuncData} (F : FunD K "_law_hosts" "_law_hosts" (defArgs (top 22)) (defBody (top 22)) (defScope (top 22)) [] [] (He.ga K "_law_hosts") fd) (e : Ev K mg base) : FnOk P w K mg base CX0 3 (He.ga K "_law_hosts") fd ["pen", "many"] (spHostsL K) := by
  refine F.ok sc_law_hosts (fun vs H Q E h => ?_) (fun cdv A outer s H vs Q E hr h => ?_)
  · obtain ⟨_, _, _, _, _, _, rfl, _⟩ := h
    rfl
  · skip
    refine ⟨_, PSs.nox ((pss_cons (ps_set (i := 2) sc_law_hosts.nd rfl (Or.inl rfl) (pe_lst (pa_cons (pe_lst (pa_cons pe_str (pa_cons pe_str (pa_cons pe_str (pa_cons pe_str (pa_cons pe_str (pa_cons pe_str (pa_cons pe_str (pa_cons pe_str (pa_cons pe_str (pa_cons pe_str (pa_cons pe_str (pa_cons pe_str pa_nil))))))))))))) pa_nil)))
      (pss_cons (ps_expr (kpe_bm (K := K) PySem.F.plainAttrs_list PySem.F.slot_list_append PySem.F.type_list_append mt_append (pv 2) (pa_cons (pe_lst (pa_cons pe_str (pa_cons pe_str (pa_cons pe_str (pa_cons pe_str (pa_cons pe_str (pa_cons pe_str (pa_cons pe_str (pa_cons pe_str (pa_cons pe_str (pa_cons pe_str (pa_cons pe_str (pa_cons pe_str pa_nil))))))))))))) pa_nil)))
      (pss_cons (ps_expr (kpe_bm (K := K) PySem.F.plainAttrs_list PySem.F.slot_list_append PySem.F.type_list_append mt_append (pv 2) (pa_cons (pe_lst (pa_cons pe_str (pa_cons pe_str (pa_cons pe_str (pa_cons pe_str (pa_cons pe_str (pa_cons pe_str (pa_cons pe_str (pa_cons pe_str (pa_cons pe_str (pa_cons pe_str (pa_cons pe_str (pa_cons pe_str pa_nil))))))))))))) pa_nil)))
      (pss_cons (ps_set (i := 3) sc_law_hosts.nd rfl (Or.inr rfl) (pe_callTy (kcall_list_of (K := K)) (by rfl) (f_list e) (by decide +kernel) (pa_cons (pe_def (d_law_pick (P := P) (w := w) (K := K) (mg := mg) (base := base) e) (hr.mono (by decide)) (by rfl) (pa_cons (pv 0) (pa_cons (pv 2) pa_nil))) pa_nil)))
      (pss_one (ps_ret (pe_callB (kcr_sortedS (K := K)) (by rfl) (f_sorted e) (by decide +kernel) (pa_cons (pe_lc (own := [("k", 4)]) (by rfl) sc_law_hosts.nd (pi_range1 (by rfl) (f_range e) (pa_cons (pv 1) pa_nil)) (blkOk_by (own := [("k", 4)]) (N := ["pen", "many", "pools", "left", "k"]) (sc := defScope (top 22)) (by decide +kernel)) (fun _ _ _ _ _ => (pg_name (i := 4) sc_law_hosts.nd rfl (Or.inl rfl))) (fun _ _ _ _ _ => pts_nil) (fun _ _ _ _ _ => (pe_callTy SkE.call_str_str (by rfl) (f_str e) (by decide +kernel) (pa_cons (kpe_bm (K := K) PySem.F.plainAttrs_list PySem.F.slot_list_pop PySem.F.type_list_pop mt_popAt (pv 3) (pa_cons (pe_def (d_law_draw (P := P) (w := w) (K := K) (mg := mg) (base := base) e) (hr.mono (by decide)) (by rfl) (pa_cons (pv 0) (pa_cons (pe_callB (kcall_len_seq (K := K)) (by rfl) (f_len e) (by decide +kernel) (pa_cons (pv 3) pa_nil)) pa_nil))) pa_nil)) pa_nil)))) pa_nil))))))))), ?_⟩
    obtain ⟨p, c, ms, t, z, n, rfl, hP, ht, hn, k⟩ := h
    refine ⟨(fit (by simp)), fun pa3 na4 => ?_⟩
    generalize ga6 : upd H pa3 (HO.lst [V.str (Str.ofString "a"), V.str (Str.ofString "b"), V.str (Str.ofString "c"), V.str (Str.ofString "d"), V.str (Str.ofString "e"), V.str (Str.ofString "f"), V.str (Str.ofString "g"), V.str (Str.ofString "h"), V.str (Str.ofString "i"), V.str (Str.ofString "j"), V.str (Str.ofString "k"), V.str (Str.ofString "l")]) = Ha5
    obtain ⟨sa8, ea7⟩ := gen_new ga6 na4
    clear ga6
    have ea7 : Ha5 pa3 = some (HO.lst (List.map V.str [Str.ofString "a", Str.ofString "b", Str.ofString "c", Str.ofString "d", Str.ofString "e", Str.ofString "f", Str.ofString "g", Str.ofString "h", Str.ofString "i", Str.ofString "j", Str.ofString "k", Str.ofString "l"])) := ea7
    refine ⟨(fit (by simp)), fun pa11 na12 => ?_⟩
    generalize ga14 : upd Ha5 pa11 (HO.lst [V.ref pa3]) = Ha13
    obtain ⟨sa16, ea15⟩ := gen_new ga14 na12
    clear ga14
    refine ⟨_, rfl, (.inl ⟨rfl, ⟨_, (SqL.of ea15)⟩⟩), (fit (by simp)), fun pa19 na20 => ?_⟩
    generalize ga22 : upd Ha13 pa19 (HO.lst [V.str (Str.ofString "b"), V.str (Str.ofString "ba"), V.str (Str.ofString "bab"), V.str (Str.ofString "a"), V.str (Str.ofString "aa"), V.str (Str.ofString "z"), V.str (Str.ofString "zz"), V.str (Str.ofString "c"), V.str (Str.ofString "ab"), V.str (Str.ofString "abb"), V.str (Str.ofString "y"), V.str (Str.ofString "zzzzzzzz")]) = Ha21
    obtain ⟨sa24, ea23⟩ := gen_new ga22 na20
    clear ga22
    have ea23 : Ha21 pa19 = some (HO.lst (List.map V.str [Str.ofString "b", Str.ofString "ba", Str.ofString "bab", Str.ofString "a", Str.ofString "aa", Str.ofString "z", Str.ofString "zz", Str.ofString "c", Str.ofString "ab", Str.ofString "abb", Str.ofString "y", Str.ofString "zzzzzzzz"])) := ea23
    refine ⟨_, _, _, rfl, rfl, (sa24 _ _ ea15), (fits (by simp)), ?_⟩
    generalize ga26 : upd Ha21 pa11 (HO.lst ([V.ref pa3] ++ [V.ref pa19])) = Ha25
    obtain ⟨ba28, ea27⟩ := gen_mut ga26
    clear ga26
    refine ⟨_, rfl, (.inl ⟨rfl, ⟨_, (SqL.of ea27)⟩⟩), (fit (by simp)), fun pa31 na32 => ?_⟩
    generalize ga34 : upd Ha25 pa31 (HO.lst [V.str (Str.ofString "all"), V.str (Str.ofString "none"), V.str (Str.ofString "host"), V.str (Str.ofString "seen"), V.str (Str.ofString "tree"), V.str (Str.ofString "to"), V.str (Str.ofString "at"), V.str (Str.ofString "saw"), V.str (Str.ofString "w"), V.str (Str.ofString "table"), V.str (Str.ofString "cut"), V.str (Str.ofString "star")]) = Ha33
    obtain ⟨sa36, ea35⟩ := gen_new ga34 na32
    clear ga34
    have ea35 : Ha33 pa31 = some (HO.lst (List.map V.str [Str.ofString "all", Str.ofString "none", Str.ofString "host", Str.ofString "seen", Str.ofString "tree", Str.ofString "to", Str.ofString "at", Str.ofString "saw", Str.ofString "w", Str.ofString "table", Str.ofString "cut", Str.ofString "star"])) := ea35
    refine ⟨_, _, _, rfl, rfl, (sa36 _ _ ea27), (fits (by simp)), ?_⟩
    generalize ga38 : upd Ha33 pa11 (HO.lst ([V.ref pa3] ++ [V.ref pa19] ++ [V.ref pa31])) = Ha37
    obtain ⟨ba40, ea39⟩ := gen_mut ga38
    clear ga38
    refine ⟨_, rfl, _, rfl, ?_⟩
    have n11H : H pa11 = none := same_none sa8 na12
    have S1 : Same H Ha21 := (sa8.trans sa16).trans sa24
    have S2 : Same H Ha25 := Same.skip S1 ba28 n11H
    have S4 : Same H Ha37 := Same.skip (S2.trans sa36) ba40 n11H
    have n3 := ne_of_none ea7 na12
    have n19 := (ne_of_none ea15 na20).symm
    have n31 := (ne_of_none ea27 na32).symm
    have n11 := (ne_of_none (sa8 _ _ hP.a) na12).symm
    have pool : ∀ x ∈ [V.ref pa3] ++ [V.ref pa19] ++ [V.ref pa31], ∃ (q : Addr) (L : List Str), x = .ref q ∧ Ha37 q = some (.lst (L.map V.str)) ∧ q ≠ p ∧ L.length = 12 ∧ (∀ n ∈ L, IsNm n) ∧ L.Nodup := fun x hx => by
      simp only [List.mem_append, List.mem_singleton] at hx
      rcases hx with (rfl | rfl) | rfl
      · exact ⟨_, _, rfl, ba40 _ _ n3 (sa36 _ _ (ba28 _ _ n3 (sa24 _ _ (sa16 _ _ ea7)))), (ne_of_none hP.a na4).symm, rfl, names_of (by decide +kernel), by decide +kernel⟩
      · exact ⟨_, _, rfl, ba40 _ _ n19 (sa36 _ _ (ba28 _ _ n19 ea23)), (ne_of_none (sa16 _ _ (sa8 _ _ hP.a)) na20).symm, rfl, names_of (by decide +kernel), by decide +kernel⟩
      · exact ⟨_, _, rfl, ba40 _ _ n31 ea35, (ne_of_none (S2 _ _ hP.a) na32).symm, rfl, names_of (by decide +kernel), by decide +kernel⟩
    clear ea7 ea23 ea35
    refine ⟨p, c, pa11, ms, t, z, _, rfl, hP.same S4, by omega, SqL.of ea39, n11, by simp, by simp, fun x H4 t4 z4 hx b4 P4 ht4 => ?_⟩
    obtain ⟨q, L, rfl, eL, nqp, lL, nmL, ndL⟩ := pool x hx
    refine ⟨q, _, rfl, .inl (SqL.of (b4 _ _ nqp eL)), fun a ha => ?_⟩
    have P1 := P4.same (same_new (o := .lst (L.map V.str)) ha)
    have npa : p ≠ a := ne_of_none P4.a ha
    have nca : c ≠ a := ne_of_none P4.b ha
    have e1 : upd H4 a (.lst (L.map V.str)) a = some (.lst (L.map V.str)) := upd_same
    have b1 : But p H (upd H4 a (.lst (L.map V.str))) := ((Same.but S4).trans b4).trans (Same.but (same_new ha))
    have haH : H a = none := ((Same.but S4).trans b4).free npa.symm ha
    generalize upd H4 a (.lst (L.map V.str)) = H1 at P1 e1 b1
    refine ⟨_, rfl, _, rfl, by omega, by omega, fun D hD => ?_⟩
    have npD : p ≠ D := ne_of_none P1.a hD
    have ncD : c ≠ D := ne_of_none P1.b hD
    have naD : a ≠ D := ne_of_none e1 hD
    have hD0 : H D = none := b1.free npD.symm hD
    have nn : ((n : Nat) : Int).toNat = n := rfl
    rw [nn]
    refine lc_range (lo := 0) (n := n) (fun i H' => ∃ (ys rs : List Str) (t' : Nat) (z' : Int), ys.length = i ∧ (ys ++ rs).Perm L ∧ H' D = some (.lst (ys.map V.str)) ∧ H' a = some (.lst (rs.map V.str)) ∧ But p H H' ∧ Pen H' p c ms t' z' ∧ t' ≤ t + 1 + i)
      ⟨[], L, t4, z4, rfl, .refl _, upd_same, by rw [upd_ne naD]; exact e1, b1.upn hD0, P1.same (same_new hD), by omega⟩ ?_ ?_
    · rintro i H3 hi ⟨ys, rs, t3, z3, hy, pm, hD3, ha3, b3, P3, ht3⟩
      have len := pm.length_eq
      rw [List.length_append] at len
      refine ⟨rfl, ?_⟩
      refine ⟨_, rfl, .inl ⟨rfl, _, SqL.of ha3⟩, _, rfl, _, rfl, a, _, rfl, .inl (SqL.of ha3), p, c, ms, t3, z3, _, rfl, P3, by omega, by rw [List.length_map]; omega, by rw [List.length_map]; omega, fun d H4 t4 z4 h0 h1 b4 P4 ht4 => ?_⟩
      rw [List.length_map] at h1
      obtain ⟨j, rfl⟩ : ∃ j : Nat, d = (j : Int) := ⟨_, (Int.toNat_of_nonneg h0).symm⟩
      have lt : j < rs.length := by omega
      have ha4 := b4 _ _ npa.symm ha3
      have hD4 := b4 _ _ npD.symm hD3
      refine ⟨a, _, (j : Int), j, .str rs[j], rfl, rfl, ha4, by omega, by omega, by rw [seqIndex_of h0 (by rw [List.length_map]; exact h1)]; rfl, by rw [List.getElem?_map, List.getElem?_eq_getElem lt]; rfl, ?_⟩
      refine ⟨_, rfl, _, by rw [upd_ne naD.symm]; exact hD4, by rw [List.length_map, hy]; exact Nat.lt_of_lt_of_le (show i < 101 by omega) (by decide), ?_⟩
      have b5 : But p H H4 := b3.trans b4
      refine ⟨ys ++ [rs[j]], rs.eraseIdx j, t4, z4, by rw [List.length_append, hy]; rfl, ?_, by rw [upd_same]; simp, by rw [upd_ne naD, upd_same, map_erase], (b5.upn haH).upn hD0, ⟨by rw [upd_ne npD, upd_ne npa]; exact P4.a, by rw [upd_ne ncD, upd_ne nca]; exact P4.b⟩, by omega⟩
      rw [List.append_assoc]
      refine .trans (List.Perm.append_left _ ?_) pm
      exact (perm_erase rs j lt).symm
    · rintro H3 ⟨ys, rs, t3, z3, hy, pm, hD3, ha3, b3, P3, ht3⟩
      have sub : ∀ x ∈ ys, x ∈ L := fun x hx => pm.mem_iff.mp (List.mem_append_left _ hx)
      have nd : ys.Nodup := (List.nodup_append.mp (pm.nodup_iff.mpr ndL)).1
      refine ⟨D, ys, rfl, SqL.of hD3, by omega, fun hs f hp so hf => ?_⟩
      have nfp : f ≠ p := (ne_of_none P3.a hf).symm
      exact k hs f _ t3 z3 ⟨by rw [hp.length_eq, hy], fun x hx => nmL x (sub x (hp.mem_iff.mp hx)), hp.nodup_iff.mpr nd, so⟩ (b3.free nfp hf) upd_same (b3.trans (Same.but (same_new hf))) (P3.same (same_new hf)) (by omega)
theorem d_law_hosts (e : Ev K mg base) : DefN P w K mg base 3 "_law_hosts" ["pen", "many"] (spHostsL K) := by
  obtain ⟨fd, F⟩ := e.c.def_ 17 (d := dd "_law_hosts" 22) rfl
  exact ⟨⟨fd, ok_law_hosts F e, FunD.bindsN F fun _ _ _ _ _ _ us hl => match us, hl with | [_, _], _ => rfl⟩, F.kp, He.glo_ok e.X e.G (e.c.fact 40 rfl)⟩
def restP (c : Nat) (i : Nat) : Bool := !inV (.int (i : Nat)) [.int 0, .int (c : Int)]
def restOf (l : List Str) (c : Nat) : List Str := idxF (restP c) 0 l
def spRow4 (K : PySem.W.Frag) : Sp := fun vs H Q _ => ∃ (p : Addr) (f0 f1 f2 f3 : Str) (c : Nat) (m : Str), vs = [.ref p, .int (c : Int)] ∧ SqT K H p ([f0, f1, f2, f3].map V.str) ∧ [f0, f1, f2, f3][c]? = some m ∧
  ∀ r t3 t4 H', Same H H' → H r = none → H' r = some (.tup [.ref t3, .ref t4]) → H' t3 = some (.tup ([f0, m].map V.str)) → H' t4 = some (.tup ((restOf [f0, f1, f2, f3] c).map V.str)) → Q (.ref r) H'
theorem sc_law_row : FnScope ["four", "code", "rest", "at", "host"] ["four", "code"] (defScope (top 23)) := ⟨rfl, rfl, rfl, by decide +kernel, rfl, by decide +kernel, by decide +kernel⟩
theorem ok_law_row {fd : FuncData} (F : FunD K "_law_row" "_law_row" (defArgs (top 23)) (defBody (top 23)) (defScope (top 23)) [] [] (He.ga K "_law_row") fd) (e : Ev K mg base) : FnOk P w K mg base CX0 1 (He.ga K "_law_row") fd ["four", "code"] (spRow4 K) := by
  refine F.ok sc_law_row (fun vs H Q E h => ?_) (fun cdv A outer s H vs Q E hr h => ?_)
  · obtain ⟨_, _, _, _, _, _, _, rfl, _⟩ := h
    rfl
  · skip
    refine ⟨_, PSs.nox ((pss_cons (ps_setLc (i := 2) (own := [("at", 3), ("host", 4)]) (by rfl) sc_law_row.nd rfl rfl (sw_true rfl rfl rfl (by decide +kernel)) (kpi_enumT (K := K) (by rfl) (f_enumerate e) (pa_cons (pv 0) pa_nil)) (blkOk_by (own := [("at", 3), ("host", 4)]) (N := ["four", "code", "rest", "at", "host"]) (sc := defScope (top 23)) (by decide +kernel)) (fun _ _ _ _ _ => (kpg_tup (K := K) (n := 2) (by rfl) (pgs_cons (pg_name (i := 3) sc_law_row.nd rfl (Or.inl rfl)) (pgs_cons (pg_name (i := 4) sc_law_row.nd rfl (Or.inl rfl)) pgs_nil)))) (fun _ _ _ _ _ => (pts_one (pt_cmpR (kop_notIn_seq (K := K)) (pv 3) (pe_tup (pa_cons pe_int (pa_cons (pv 1) pa_nil))) (by rfl)))) (fun _ _ _ _ _ => (pv 4)))
      (pss_one (ps_ret (pe_tup (pa_cons (pe_tup (pa_cons (pe_ix (kix_tup (K := K)) (pv 0) pe_int (fun _ _ => rfl)) (pa_cons (pe_ix (kix_tup (K := K)) (pv 0) (pv 1) (fun _ _ => rfl)) pa_nil))) (pa_cons (pe_callTy (kcall_tuple_of (K := K)) (by rfl) (f_tuple e) (by decide +kernel) (pa_cons (pv 2) pa_nil)) pa_nil))))))), ?_⟩
    obtain ⟨p, f0, f1, f2, f3, c, m, rfl, hp, hm, k⟩ := h
    have am : atI ([f0, f1, f2, f3].map V.str) (c : Int) = some (.str m) := atI_nat (by rw [List.getElem?_map, hm]; rfl)
    refine ⟨_, rfl, _, _, rfl, hp, fun D hD => ?_⟩
    refine lc_enumF (xs := [f0, f1, f2, f3]) walk_enumT (restP c) rfl hD (fun H' s => seqT_same s hp) (fits (by simp)) (fun i x T H2 hx s2 eT Kt Kf kt kf => ?_) fun H2 s2 eD => ?_
    · refine ⟨_, _, rfl, (SqT.of eT), rfl, _, _, rfl, _, _, rfl, rfl, rfl, _, rfl, _, rfl, (fit (by simp)), fun pa3 na4 => ?_⟩
      generalize ga6 : upd H2 pa3 (HO.tup [V.int (0 : Int), V.int (↑c : Int)]) = Ha5
      obtain ⟨sa8, ea7⟩ := gen_new ga6 na4
      clear ga6
      refine ⟨_, _, rfl, (.inr (SqT.of ea7)), rfl, rfl, _, rfl, ?_⟩
      show @ite _ _ (_) _ _
      refine ite2 (fun ca9 => ?_) (fun ca9 => ?_)
      · refine ⟨_, rfl, ?_⟩
        exact kt (show restP c i = true from ca9) _ sa8
      · exact kf (Bool.eq_false_iff.mpr ca9) _ sa8
    · refine ⟨_, rfl, _, _, _, _, rfl, rfl, (seqT_same s2 hp), rfl, _, rfl, _, rfl, _, _, _, _, rfl, rfl, (seqT_same s2 hp), am, (fit (by simp)), fun pb3 nb4 => ?_⟩
      generalize gb6 : upd H2 pb3 (HO.tup [V.str f0, V.str m]) = Hb5
      obtain ⟨sb8, eb7⟩ := gen_new gb6 nb4
      clear gb6
      have eb7 : Hb5 pb3 = some (HO.tup (List.map V.str [f0, m])) := eb7
      refine ⟨_, rfl, _, _, rfl, .inl ⟨(SqL.of (sb8 _ _ eD)), fun lb11 nb12 => ?_⟩⟩
      generalize gb14 : upd Hb5 lb11 (HO.tup (List.map V.str (idxF (restP c) (0 : Nat) [f0, f1, f2, f3]))) = Hb13
      obtain ⟨sb16, eb15⟩ := gen_new gb14 nb12
      clear gb14
      refine ⟨(fit (by simp)), fun pb19 nb20 => ?_⟩
      generalize gb22 : upd Hb13 pb19 (HO.tup [V.ref pb3, V.ref lb11]) = Hb21
      obtain ⟨sb24, eb23⟩ := gen_new gb22 nb20
      clear gb22
      exact k _ _ _ _ (((s2.trans sb8).trans sb16).trans sb24) (((s2.trans sb8).trans sb16).free nb20) eb23 (sb24 _ _ (sb16 _ _ eb7)) (sb24 _ _ eb15)
theorem d_law_row (e : Ev K mg base) : DefN P w K mg base 1 "_law_row" ["four", "code"] (spRow4 K) := by
  obtain ⟨fd, F⟩ := e.c.def_ 18 (d := dd "_law_row" 23) rfl
  exact ⟨⟨fd, ok_law_row F e, FunD.bindsN F fun _ _ _ _ _ _ us hl => match us, hl with | [_, _], _ => rfl⟩, F.kp, He.glo_ok e.X e.G (e.c.fact 42 rfl)⟩
def spMixedT (K : PySem.W.Frag) : Sp := fun vs H Q _ => ∃ (p c l : Addr) (ms : List Int) (t : Nat) (z : Int) (xs : List Str), vs = [.ref p, .ref l] ∧ Pen H p c ms t z ∧ t < 800000 ∧ (SqL K H l (xs.map V.str) ∨ SqT K H l (xs.map V.str)) ∧ xs.length ≤ 100 ∧
  ∀ (ys : List Str) (f : Addr) (H' : Hp) (t' : Nat) (z' : Int), ys.Perm xs → H f = none → H' f = some (.lst (ys.map V.str)) → But p H H' → Pen H' p c ms t' z' → t' ≤ t + xs.length → Q (.ref f) H'
theorem sc_law_mixed : FnScope ["pen", "some", "left", "k"] ["pen", "some"] (defScope (top 25)) := ⟨rfl, rfl, rfl, by decide +kernel, rfl, by decide +kernel, by decide +kernel⟩
theorem ok_law_mixed {fd : FuncData} (F : FunD K "_law_mixed" "_law_mixed" (defArgs (top 25)) (defBody (top 25)) (defScope (top 25)) [] [] (He.ga K "_law_mixed") fd) (e : Ev K mg base) : FnOk P w K mg base CX0 3 (He.ga K "_law_mixed") fd ["pen", "some"] (spMixedT K) := by
  refine F.ok sc_law_mixed (fun vs H Q E h => ?_) (fun cdv A outer s H vs Q E hr h => ?_)
  · obtain ⟨_, _, _, _, _, _, _, rfl, _⟩ := h
    rfl
  · skip
    refine ⟨_, PSs.nox ((pss_cons (ps_set (i := 2) sc_law_mixed.nd rfl (Or.inr rfl) (pe_callTy (kcall_list_of (K := K)) (by rfl) (f_list e) (by decide +kernel) (pa_cons (pv 1) pa_nil)))
      (pss_one (ps_ret (pe_lc (own := [("k", 3)]) (by rfl) sc_law_mixed.nd (pi_range1 (by rfl) (f_range e) (pa_cons (pe_callB (kcall_len_seq (K := K)) (by rfl) (f_len e) (by decide +kernel) (pa_cons (pv 2) pa_nil)) pa_nil)) (blkOk_by (own := [("k", 3)]) (N := ["pen", "some", "left", "k"]) (sc := defScope (top 25)) (by decide +kernel)) (fun _ _ _ _ _ => (pg_name (i := 3) sc_law_mixed.nd rfl (Or.inl rfl))) (fun _ _ _ _ _ => pts_nil) (fun _ _ _ _ _ => (kpe_bm (K := K) PySem.F.plainAttrs_list PySem.F.slot_list_pop PySem.F.type_list_pop mt_popAt (pv 2) (pa_cons (pe_def (d_law_draw (P := P) (w := w) (K := K) (mg := mg) (base := base) e) (hr.mono (by decide)) (by rfl) (pa_cons (pv 0) (pa_cons (pe_callB (kcall_len_seq (K := K)) (by rfl) (f_len e) (by decide +kernel) (pa_cons (pv 2) pa_nil)) pa_nil))) pa_nil)))))))), ?_⟩
    obtain ⟨p, c, l, ms, t, z, xs, rfl, hP, ht, hl, hn, k⟩ := h
    refine ⟨_, rfl, l, _, rfl, hl, fun a ha => ?_⟩
    have P1 := hP.same (same_new (o := .lst (xs.map V.str)) ha)
    have npa : p ≠ a := ne_of_none hP.a ha
    have nca : c ≠ a := ne_of_none hP.b ha
    have e1 : upd H a (.lst (xs.map V.str)) a = some (.lst (xs.map V.str)) := upd_same
    have b1 : But p H (upd H a (.lst (xs.map V.str))) := Same.but (same_new ha)
    generalize upd H a (.lst (xs.map V.str)) = H1 at P1 e1 b1
    refine ⟨_, rfl, a, _, rfl, .inl (SqL.of e1), _, rfl, by omega, by rw [List.length_map]; omega, fun D hD => ?_⟩
    have npD : p ≠ D := ne_of_none P1.a hD
    have ncD : c ≠ D := ne_of_none P1.b hD
    have naD : a ≠ D := ne_of_none e1 hD
    have hD0 : H D = none := b1.free npD.symm hD
    have nn : ((xs.map V.str).length : Int).toNat = xs.length := by rw [List.length_map]; rfl
    rw [nn]
    refine lc_range (lo := 0) (n := xs.length) (fun i H' => ∃ (ys rs : List Str) (t' : Nat) (z' : Int), ys.length = i ∧ (ys ++ rs).Perm xs ∧ H' D = some (.lst (ys.map V.str)) ∧ H' a = some (.lst (rs.map V.str)) ∧ But p H H' ∧ Pen H' p c ms t' z' ∧ t' ≤ t + i)
      ⟨[], xs, t, z, rfl, .refl _, upd_same, by rw [upd_ne naD]; exact e1, b1.upn hD0, P1.same (same_new hD), Nat.le_refl _⟩ ?_ ?_
    · rintro i H3 hi ⟨ys, rs, t3, z3, hy, pm, hD3, ha3, b3, P3, ht3⟩
      have len := pm.length_eq
      rw [List.length_append] at len
      refine ⟨rfl, ?_⟩
      refine ⟨_, rfl, .inl ⟨rfl, _, SqL.of ha3⟩, _, rfl, _, rfl, a, _, rfl, .inl (SqL.of ha3), p, c, ms, t3, z3, _, rfl, P3, by omega, by rw [List.length_map]; omega, by rw [List.length_map]; omega, fun d H4 t4 z4 h0 h1 b4 P4 ht4 => ?_⟩
      rw [List.length_map] at h1
      obtain ⟨j, rfl⟩ : ∃ j : Nat, d = (j : Int) := ⟨_, (Int.toNat_of_nonneg h0).symm⟩
      have lt : j < rs.length := by omega
      have ha4 := b4 _ _ npa.symm ha3
      have hD4 := b4 _ _ npD.symm hD3
      refine ⟨a, _, (j : Int), j, .str rs[j], rfl, rfl, ha4, by omega, by omega, by rw [seqIndex_of h0 (by rw [List.length_map]; exact h1)]; rfl, by rw [List.getElem?_map, List.getElem?_eq_getElem lt]; rfl, ?_⟩
      refine ⟨_, by rw [upd_ne naD.symm]; exact hD4, by rw [List.length_map, hy]; exact Nat.lt_of_lt_of_le (show i < 101 by omega) (by decide), ?_⟩
      have b5 : But p H H4 := b3.trans b4
      refine ⟨ys ++ [rs[j]], rs.eraseIdx j, t4, z4, by rw [List.length_append, hy]; rfl, ?_, by rw [upd_same]; simp, by rw [upd_ne naD, upd_same, map_erase], (b5.upn ha).upn hD0, ⟨by rw [upd_ne npD, upd_ne npa]; exact P4.a, by rw [upd_ne ncD, upd_ne nca]; exact P4.b⟩, by omega⟩
      rw [List.append_assoc]
      refine .trans (List.Perm.append_left _ ?_) pm
      exact (perm_erase rs j lt).symm
    · rintro H3 ⟨ys, rs, t3, z3, hy, pm, hD3, ha3, b3, P3, ht3⟩
      have len := pm.length_eq
      rw [List.length_append] at len
      obtain rfl : rs = [] := List.length_eq_zero_iff.mp (by omega)
      rw [List.append_nil] at pm
      exact k ys D H3 t3 z3 pm hD0 hD3 b3 P3 ht3
theorem d_law_mixed (e : Ev K mg base) : DefN P w K mg base 3 "_law_mixed" ["pen", "some"] (spMixedT K) := by
  obtain ⟨fd, F⟩ := e.c.def_ 19 (d := dd "_law_mixed" 25) rfl
  exact ⟨⟨fd, ok_law_mixed F e, FunD.bindsN F fun _ _ _ _ _ _ us hl => match us, hl with | [_, _], _ => rfl⟩, F.kp, He.glo_ok e.X e.G (e.c.fact 43 rfl)⟩
def spMade28 (K : PySem.W.Frag) : Sp := fun vs H Q _ => ∃ (p : Addr) (f0 f1 f2 f3 : Str) (c : Nat) (m : Str), vs = [.ref p, .int (c : Int)] ∧ SqT K H p ([f0, f1, f2, f3].map V.str) ∧ [f0, f1, f2, f3][c]? = some m ∧
  ((c = 0 ∧ ∀ H', Same H H' → Q .non H') ∨ ∃ u v, c ≠ 0 ∧ restOf [f0, f1, f2, f3] c = [u, v] ∧ RowOk f0 f1 f2 f3 m u v ∧ ∀ q H', Same H H' → H q = none → PartAt K H' q [f0, f1, f2, f3] [f0, m] [u, v] → Q (.ref q) H')
theorem sc_law_made : FnScope ["four", "code", "pairs"] ["four", "code"] (defScope (top 24)) := ⟨rfl, rfl, rfl, by decide +kernel, rfl, by decide +kernel, by decide +kernel⟩
theorem ok_law_made {fd : FuncData} (F : FunD K "_law_made" "_law_made" (defArgs (top 24)) (defBody (top 24)) (defScope (top 24)) [] [] (He.ga K "_law_made") fd) (e : Ev K mg base) : FnOk P w K mg base CX0 6 (He.ga K "_law_made") fd ["four", "code"] (spMade28 K) := by
  refine F.ok sc_law_made (fun vs H Q E h => ?_) (fun cdv A outer s H vs Q E hr h => ?_)
  · obtain ⟨_, _, _, _, _, _, _, rfl, _⟩ := h
    rfl
  · skip
    refine ⟨_, PSs.nox ((pss_cons (ps_set (i := 2) sc_law_made.nd rfl (Or.inl rfl) (pe_def (d_law_row (P := P) (w := w) (K := K) (mg := mg) (base := base) e) (hr.mono (by decide)) (by rfl) (pa_cons (pv 0) (pa_cons (pv 1) pa_nil))))
      (pss_one (ps_ret (pe_ifExp (pt_cmpR op_eq (pv 1) pe_int (nomark _)) pe_non (pe_part2 e (hr.mono (by decide)) passNo (by rfl) (pa_cons (pe_ix (kix_tup (K := K)) (pv 2) pe_int (fun _ _ => rfl)) (pa_cons (pe_ix (kix_tup (K := K)) (pv 2) pe_int (fun _ _ => rfl)) pa_nil)))))))), ?_⟩
    obtain ⟨p, f0, f1, f2, f3, c, m, rfl, hp, hm, hk⟩ := h
    refine ⟨_, rfl, _, rfl, p, f0, f1, f2, f3, c, m, rfl, hp, hm, fun r t3 t4 H1 s1 nr er e3 e4 => ?_⟩
    rcases hk with ⟨rfl, k⟩ | ⟨u, v, c0, er2, ok, k⟩
    · refine ⟨_, rfl, rfl, _, rfl, ?_⟩
      show @ite _ _ (_) _ _
      refine ite_same ?_
      exact k _ s1
    · rw [er2] at e4
      have nc : ¬ V.int ((c : Nat) : Int) = V.int 0 := fun q => c0 (by have := V.int.inj q; omega)
      refine ⟨_, rfl, rfl, _, rfl, ?_⟩
      show @ite _ _ (_) _ _
      refine ite_no (fun h => absurd (of_decide_eq_true h) (by assumption)) ?_
      refine ⟨_, rfl, _, _, _, _, rfl, rfl, (SqT.of er), rfl, _, rfl, _, _, _, _, rfl, rfl, (SqT.of er), rfl, ?_⟩
      dsimp only [tNil]
      refine part_ok ⟨_, ⟨rfl, (.inr e3)⟩⟩ ⟨_, ⟨rfl, (.inr e4)⟩⟩ ok fun pb1 Hb2 sb3 nb4 hb5 => ?_
      exact k _ _ (s1.trans sb3) (s1.free nb4) hb5
theorem d_law_made (e : Ev K mg base) : DefN P w K mg base 6 "_law_made" ["four", "code"] (spMade28 K) := by
  obtain ⟨fd, F⟩ := e.c.def_ 20 (d := dd "_law_made" 24) rfl
  exact ⟨⟨fd, ok_law_made F e, FunD.bindsN F fun _ _ _ _ _ _ us hl => match us, hl with | [_, _], _ => rfl⟩, F.kp, He.glo_ok e.X e.G (e.c.fact 44 rfl)⟩
theorem sc_law_heard : FnScope ["ask", "caught", "found", "error", "told"] ["ask"] (defScope (top 26)) := ⟨rfl, rfl, rfl, by decide +kernel, rfl, by decide +kernel, by decide +kernel⟩
def Told28 (K : PySem.W.Frag) (cls : Value) (fs : List (Str × V)) (items : List V) : Prop := (cls = .ref (He.ga K "BadParting") ∧ ∃ v0 : V, fs = ([("part", v0)] : List (Str × V)) ∧ items = [.str "parting", v0]) ∨ (cls = .ref (He.ga K "BadText") ∧ ∃ v0 v1 : V, fs = ([("word", v1), ("line", v0)] : List (Str × V)) ∧ items = [.str "text", v0, v1]) ∨ (cls = .ref (He.ga K "BadFour") ∧ ∃ v0 : V, fs = ([("value", v0)] : List (Str × V)) ∧ items = [.str "four", v0]) ∨ (cls = .ref (He.ga K "NoHost") ∧ ∃ v0 : V, fs = ([("name", v0)] : List (Str × V)) ∧ items = [.str "host", v0])
def TT28 (K : PySem.W.Frag) : (XK → Hp → VK → Prop) → Hp → VK → Prop := fun tl H Q => ∀ H1, Same H H1 → ∃ (E : XK) (Q0 : VK), tl E H1 Q0 ∧
  (∀ cls d H', E cls d H' → ∃ dd fs items, d = some dd ∧ H' dd = some (.xd fs) ∧ Told28 K cls fs items ∧ ∀ t H'', Same H' H'' → H' t = none → H'' t = some (.tup items) → Q (.ref t) H'') ∧ ∀ v H', Q0 v H' → ∀ l, H' l = none → Q (.ref l) (upd H' l (.lst [v]))
theorem exm_told28 {K : PySem.W.Frag} {mg : Str → Option Value} {base : Heap} (e : Ev K mg base) {cls : Value} {fs : List (Str × V)} {items : List V} (h : Told28 K cls fs items) : PySem.W.exmOne K cls (.ref (He.ga K "SeenError")) = some true := by
  rcases h with ⟨rfl, _⟩ | ⟨rfl, _⟩ | ⟨rfl, _⟩ | ⟨rfl, _⟩
  · exact exm_BadParting_SeenError e
  · exact exm_BadText_SeenError e
  · exact exm_BadFour_SeenError e
  · exact exm_NoHost_SeenError e
theorem heard_gives {X : Cx} (e : Ev X.K X.mg X.base) {g : Addr} {cdg : Value} {q : Str} : LamX.GivesTo X ["ask", "caught", "found", "error", "told"] "_law_heard" (defScope (top 26)) g cdg (defBody (top 26)) "ask" q (TT28 X.K) := by
  intro f c' s H Q tl act hc h
  have nd := sc_law_heard.nd
  refine ⟨_, pss_cons (ps_asg (pe_tup (pa_cons pe_non (pa_cons pe_non pa_nil))) (pg_tup (by rfl) (pgs_cons (pg_name (i := 1) nd rfl (Or.inl rfl)) (pgs_cons (pg_name (i := 2) nd rfl (Or.inl rfl)) pgs_nil))))
    (C8.pss_cut (ps_try_keep (Wout := fun _ _ _ _ => False) (c := .ref (He.ga X.K "SeenError")) (i := 3) (tb := fun W => tAsk 5 2 f c' q tl W) rfl rfl rfl nd rfl rfl ⟨rfl, by decide, .inl (g_SeenError e)⟩ takes0
        (fun W pn xe tk _ => ps_ask (by rfl) (fun te h => ps_set (i := 2) nd rfl (Or.inl rfl) h) (fun E hW => act _ pn xe E _ _ (takes_len tk) hW))
        (fun a oe cls d pn _ _ => pss_one (ps_set (i := 1) nd rfl (Or.inl rfl) (pv 3))))
      (pss_cons (ps_if (pt_cmpR op_isN (pv 1) pe_non (nomark _)) (pss_one (ps_ret (pe_lst (pa_cons (pv 2) pa_nil)))) pss_nil)
      (pss_cons (ps_set (i := 4) nd rfl (Or.inl rfl) (pe_lst pa_nil))
        (pss_cons (ps_if (pt_val (pe_callB (kcall_isX (K := X.K)) (by rfl) (f_isinstance e) (by decide +kernel) (pa_cons (pv 1) (pa_cons (pe_glob (by rfl) (g_BadParting e) (show RelV (.ref (He.ga X.K "BadParting")) (.ref (He.ga X.K "BadParting")) from rfl)) pa_nil)))) (pss_one (ps_expr (kpe_bm (K := X.K) PySem.F.plainAttrs_list PySem.F.slot_list_append PySem.F.type_list_append mt_append (pv 4) (pa_cons (pe_tup (pa_cons pe_str (pa_cons (pe_xk (K := X.K) (pv 1)) pa_nil))) pa_nil)))) pss_nil)
        (pss_cons (ps_if (pt_val (pe_callB (kcall_isX (K := X.K)) (by rfl) (f_isinstance e) (by decide +kernel) (pa_cons (pv 1) (pa_cons (pe_glob (by rfl) (g_BadText e) (show RelV (.ref (He.ga X.K "BadText")) (.ref (He.ga X.K "BadText")) from rfl)) pa_nil)))) (pss_one (ps_expr (kpe_bm (K := X.K) PySem.F.plainAttrs_list PySem.F.slot_list_append PySem.F.type_list_append mt_append (pv 4) (pa_cons (pe_tup (pa_cons pe_str (pa_cons (pe_xk (K := X.K) (pv 1)) (pa_cons (pe_xk (K := X.K) (pv 1)) pa_nil)))) pa_nil)))) pss_nil)
        (pss_cons (ps_if (pt_val (pe_callB (kcall_isX (K := X.K)) (by rfl) (f_isinstance e) (by decide +kernel) (pa_cons (pv 1) (pa_cons (pe_glob (by rfl) (g_BadFour e) (show RelV (.ref (He.ga X.K "BadFour")) (.ref (He.ga X.K "BadFour")) from rfl)) pa_nil)))) (pss_one (ps_expr (kpe_bm (K := X.K) PySem.F.plainAttrs_list PySem.F.slot_list_append PySem.F.type_list_append mt_append (pv 4) (pa_cons (pe_tup (pa_cons pe_str (pa_cons (pe_xk (K := X.K) (pv 1)) pa_nil))) pa_nil)))) pss_nil)
        (pss_cons (ps_if (pt_val (pe_callB (kcall_isX (K := X.K)) (by rfl) (f_isinstance e) (by decide +kernel) (pa_cons (pv 1) (pa_cons (pe_glob (by rfl) (g_NoHost e) (show RelV (.ref (He.ga X.K "NoHost")) (.ref (He.ga X.K "NoHost")) from rfl)) pa_nil)))) (pss_one (ps_expr (kpe_bm (K := X.K) PySem.F.plainAttrs_list PySem.F.slot_list_append PySem.F.type_list_append mt_append (pv 4) (pa_cons (pe_tup (pa_cons pe_str (pa_cons (pe_xk (K := X.K) (pv 1)) pa_nil))) pa_nil)))) pss_nil)
        (pss_cons (ps_if (PW.pt (pw_or (pt_cmpR op_ne (pe_callB (kcall_len_seq (K := X.K)) (by rfl) (f_len e) (by decide +kernel) (pa_cons (pv 4) pa_nil)) pe_int (nomark _)) (pw_or1 (pt_cmpR op_eq (pe_callB (kcall_isX (K := X.K)) (by rfl) (f_isinstance e) (by decide +kernel) (pa_cons (pv 1) (pa_cons (pe_glob (by rfl) (g_BadInput e) (show RelV (.ref (He.ga X.K "BadInput")) (.ref (He.ga X.K "BadInput")) from rfl)) pa_nil))) (pe_callB (kcall_isX (K := X.K)) (by rfl) (f_isinstance e) (by decide +kernel) (pa_cons (pv 1) (pa_cons (pe_glob (by rfl) (g_Refused e) (show RelV (.ref (He.ga X.K "Refused")) (.ref (He.ga X.K "Refused")) from rfl)) pa_nil))) (nomark _))))) (pss_one (ps_ret pe_str)) pss_nil)
        (pss_one (ps_ret (pe_ifExp (pt_cmpR op_eq (pe_callB (kcall_isX (K := X.K)) (by rfl) (f_isinstance e) (by decide +kernel) (pa_cons (pv 1) (pa_cons (pe_glob (by rfl) (g_Refused e) (show RelV (.ref (He.ga X.K "Refused")) (.ref (He.ga X.K "Refused")) from rfl)) pa_nil))) (pe_callB (kcall_isX (K := X.K)) (by rfl) (f_isinstance e) (by decide +kernel) (pa_cons (pv 1) (pa_cons (pe_glob (by rfl) (g_NoHost e) (show RelV (.ref (He.ga X.K "NoHost")) (.ref (He.ga X.K "NoHost")) from rfl)) pa_nil))) (nomark _)) (pe_ix (kix_list (K := X.K)) (pv 4) pe_int (fun _ _ => rfl)) pe_str))))))))))), ?_⟩
  refine ⟨by show 2 ≤ sizeLine; decide, fun t ht => ⟨t, _, rfl, SqT.of upd_same, rfl, _, _, rfl, _, _, rfl, rfl, ?_⟩⟩
  obtain ⟨E, Q0, h1, h2, h3⟩ := h _ (same_new (o := .tup [.non, .non]) ht)
  refine ⟨fun σ' H' => (∃ v, σ' = [some (.ref f), some .non, some v, none, none] ∧ ∀ l, H' l = none → Q (.ref l) (upd H' l (.lst [v]))) ∨
      ∃ (a dd : Addr) (cls : Value) (fs : List (Str × V)) (items : List V) (s0 s2 s4 : Option V), σ' = [s0, some (.ref a), s2, none, s4] ∧ H' a = some (ExK cls (some dd) a) ∧ H' dd = some (.xd fs) ∧ Told28 X.K cls fs items ∧ ∀ t H'', Same H' H'' → H' t = none → H'' t = some (.tup items) → Q (.ref t) H'', ?_, ?_⟩
  · refine ⟨E, Q0, fun cls d σ' H' eh hl => ?_, rfl, (by rw [upd_ne (ne_of_none hc ht)]; exact hc), h1, fun v H1 q => .inl ⟨v, rfl, h3 v H1 q⟩⟩
    obtain ⟨dd, fs, items, rfl, hdd, hc, hk⟩ := h2 cls d H' eh
    refine ⟨true, exm_told28 e hc, nofun, fun _ a ha => ?_⟩
    match σ', hl with
    | [s0, s1, s2, s3, s4], _ => exact ⟨_, rfl, .inr ⟨a, dd, cls, fs, items, s0, s2, s4, rfl, upd_same, by rw [upd_ne (ne_of_none hdd ha)]; exact hdd, hc, fun t H'' s n et => hk t H'' ((same_new ha).trans s) (same_none (same_new ha) n) et⟩⟩
  · rintro σ' H2 (⟨v, rfl, hk⟩ | ⟨a, dd, cls, fs, items, s0, s2, s4, rfl, ha, hdd, hc, hk⟩)
    · refine ⟨_, rfl, rfl, _, rfl, iteT ?_⟩
      exact ⟨_, rfl, by show 1 ≤ sizeLine; decide, fun l hl => hk l hl⟩
    · refine ⟨_, rfl, rfl, _, rfl, iteF ?_⟩
      refine ⟨by show 0 ≤ sizeLine; decide, fun l nl0 => ?_⟩
      have s1 := same_new (o := .lst []) nl0
      have el : upd H2 l (.lst []) l = some (.lst []) := upd_same
      have ha1 := s1 _ _ ha
      have hd1 := s1 _ _ hdd
      generalize upd H2 l (.lst []) = H1 at s1 el ha1 hd1
      rcases hc with hc | hc | hc | hc
      · obtain ⟨rfl, v0, rfl, rfl⟩ := hc
        have fz1 : ∀ d2, some dd = some d2 → ∃ fs, H1 d2 = some (.xd fs) := fun d2 z => by cases z; exact ⟨_, hd1⟩
        refine ⟨_, rfl, .inr ⟨a, _, _, _, _, true, rfl, ha1, fz1, (err_BadParting e).xc, .own _, kit_same, _, rfl, iteT ?_⟩⟩
        refine ⟨_, rfl, .inl ⟨rfl, _, SqL.of el⟩, _, rfl, a, _, dd, _, v0, rfl, ha1, hd1, (err_BadParting e).xf, no_BadParting_part e, rfl, by show 2 ≤ sizeLine; decide, fun t ht => ?_⟩
        have ht0 : H2 t = none := same_none s1 ht
        refine ⟨l, [], _, rfl, rfl, same_new ht _ _ el, fits (by simp), ?_⟩
        have nl : a ≠ l := fun q => by rw [q, el] at ha1; cases ha1
        have nd2 : dd ≠ l := fun q => by rw [q, el] at hd1; cases hd1
        have ntl : t ≠ l := (ne_of_none el ht).symm
        have ha2 : upd (upd H1 t (.tup [.str "parting", v0])) l (.lst ([] ++ [.ref t])) a = some (ExK (.ref (He.ga X.K "BadParting")) (some dd) a) := by rw [upd_ne nl]; exact same_new ht _ _ ha1
        have hd2 : upd (upd H1 t (.tup [.str "parting", v0])) l (.lst ([] ++ [.ref t])) dd = some (.xd [("part", v0)]) := by rw [upd_ne nd2]; exact same_new ht _ _ hd1
        have et2 : upd (upd H1 t (.tup [.str "parting", v0])) l (.lst ([] ++ [.ref t])) t = some (.tup [.str "parting", v0]) := by rw [upd_ne ntl]; exact upd_same
        have el2 : upd (upd H1 t (.tup [.str "parting", v0])) l (.lst ([] ++ [.ref t])) l = some (.lst [.ref t]) := upd_same
        have s2 : Same H2 (upd (upd H1 t (.tup [.str "parting", v0])) l (.lst ([] ++ [.ref t]))) := fun b o h => by rw [upd_ne (ne_of_none h nl0)]; exact same_new ht _ _ (s1 _ _ h)
        generalize upd (upd H1 t (.tup [.str "parting", v0])) l (.lst ([] ++ [.ref t])) = H3 at ha2 hd2 et2 el2 s2
        have fz2 : ∀ d2, some dd = some d2 → ∃ fs, H3 d2 = some (.xd fs) := fun d2 z => by cases z; exact ⟨_, hd2⟩
        refine ⟨_, rfl, .inr ⟨a, _, _, _, _, false, rfl, ha2, fz2, (err_BadParting e).xc, .own _, isn_BadParting_BadText e, _, rfl, iteF ?_⟩⟩
        refine ⟨_, rfl, .inr ⟨a, _, _, _, _, false, rfl, ha2, fz2, (err_BadParting e).xc, .own _, isn_BadParting_BadFour e, _, rfl, iteF ?_⟩⟩
        refine ⟨_, rfl, .inr ⟨a, _, _, _, _, false, rfl, ha2, fz2, (err_BadParting e).xc, .own _, isn_BadParting_NoHost e, _, rfl, iteF ?_⟩⟩
        refine ⟨_, rfl, _, _, rfl, .inl (SqL.of el2), rfl, _, rfl, ?_⟩
        refine ite_no (not_same rfl) ?_
        refine ⟨_, rfl, .inr ⟨a, _, _, _, _, true, rfl, ha2, fz2, (err_BadParting e).xc, .own _, is_BadParting_BadInput e, _, rfl, .inr ⟨a, _, _, _, _, false, rfl, ha2, fz2, (err_BadParting e).xc, .own _, isn_BadParting_Refused e, rfl, _, rfl, ?_⟩⟩⟩
        refine ite_no (by decide +kernel) ?_
        refine ⟨_, rfl, .inr ⟨a, _, _, _, _, false, rfl, ha2, fz2, (err_BadParting e).xc, .own _, isn_BadParting_Refused e, _, rfl, .inr ⟨a, _, _, _, _, false, rfl, ha2, fz2, (err_BadParting e).xc, .own _, isn_BadParting_NoHost e, rfl, _, rfl, ?_⟩⟩⟩
        refine ite_yes (by decide +kernel) ?_
        refine ⟨_, rfl, _, _, _, _, rfl, rfl, SqL.of el2, rfl, ?_⟩
        exact hk t _ s2 ht0 et2
      · obtain ⟨rfl, v0, v1, rfl, rfl⟩ := hc
        have fz1 : ∀ d2, some dd = some d2 → ∃ fs, H1 d2 = some (.xd fs) := fun d2 z => by cases z; exact ⟨_, hd1⟩
        refine ⟨_, rfl, .inr ⟨a, _, _, _, _, false, rfl, ha1, fz1, (err_BadText e).xc, .own _, isn_BadText_BadParting e, _, rfl, iteF ?_⟩⟩
        refine ⟨_, rfl, .inr ⟨a, _, _, _, _, true, rfl, ha1, fz1, (err_BadText e).xc, .own _, kit_same, _, rfl, iteT ?_⟩⟩
        refine ⟨_, rfl, .inl ⟨rfl, _, SqL.of el⟩, _, rfl, a, _, dd, _, v0, rfl, ha1, hd1, (err_BadText e).xf, no_BadText_line e, rfl, _, rfl, a, _, dd, _, v1, rfl, ha1, hd1, (err_BadText e).xf, no_BadText_word e, rfl, by show 3 ≤ sizeLine; decide, fun t ht => ?_⟩
        have ht0 : H2 t = none := same_none s1 ht
        refine ⟨l, [], _, rfl, rfl, same_new ht _ _ el, fits (by simp), ?_⟩
        have nl : a ≠ l := fun q => by rw [q, el] at ha1; cases ha1
        have nd2 : dd ≠ l := fun q => by rw [q, el] at hd1; cases hd1
        have ntl : t ≠ l := (ne_of_none el ht).symm
        have ha2 : upd (upd H1 t (.tup [.str "text", v0, v1])) l (.lst ([] ++ [.ref t])) a = some (ExK (.ref (He.ga X.K "BadText")) (some dd) a) := by rw [upd_ne nl]; exact same_new ht _ _ ha1
        have hd2 : upd (upd H1 t (.tup [.str "text", v0, v1])) l (.lst ([] ++ [.ref t])) dd = some (.xd [("word", v1), ("line", v0)]) := by rw [upd_ne nd2]; exact same_new ht _ _ hd1
        have et2 : upd (upd H1 t (.tup [.str "text", v0, v1])) l (.lst ([] ++ [.ref t])) t = some (.tup [.str "text", v0, v1]) := by rw [upd_ne ntl]; exact upd_same
        have el2 : upd (upd H1 t (.tup [.str "text", v0, v1])) l (.lst ([] ++ [.ref t])) l = some (.lst [.ref t]) := upd_same
        have s2 : Same H2 (upd (upd H1 t (.tup [.str "text", v0, v1])) l (.lst ([] ++ [.ref t]))) := fun b o h => by rw [upd_ne (ne_of_none h nl0)]; exact same_new ht _ _ (s1 _ _ h)
        generalize upd (upd H1 t (.tup [.str "text", v0, v1])) l (.lst ([] ++ [.ref t])) = H3 at ha2 hd2 et2 el2 s2
        have fz2 : ∀ d2, some dd = some d2 → ∃ fs, H3 d2 = some (.xd fs) := fun d2 z => by cases z; exact ⟨_, hd2⟩
        refine ⟨_, rfl, .inr ⟨a, _, _, _, _, false, rfl, ha2, fz2, (err_BadText e).xc, .own _, isn_BadText_BadFour e, _, rfl, iteF ?_⟩⟩
        refine ⟨_, rfl, .inr ⟨a, _, _, _, _, false, rfl, ha2, fz2, (err_BadText e).xc, .own _, isn_BadText_NoHost e, _, rfl, iteF ?_⟩⟩
        refine ⟨_, rfl, _, _, rfl, .inl (SqL.of el2), rfl, _, rfl, ?_⟩
        refine ite_no (not_same rfl) ?_
        refine ⟨_, rfl, .inr ⟨a, _, _, _, _, true, rfl, ha2, fz2, (err_BadText e).xc, .own _, is_BadText_BadInput e, _, rfl, .inr ⟨a, _, _, _, _, false, rfl, ha2, fz2, (err_BadText e).xc, .own _, isn_BadText_Refused e, rfl, _, rfl, ?_⟩⟩⟩
        refine ite_no (by decide +kernel) ?_
        refine ⟨_, rfl, .inr ⟨a, _, _, _, _, false, rfl, ha2, fz2, (err_BadText e).xc, .own _, isn_BadText_Refused e, _, rfl, .inr ⟨a, _, _, _, _, false, rfl, ha2, fz2, (err_BadText e).xc, .own _, isn_BadText_NoHost e, rfl, _, rfl, ?_⟩⟩⟩
        refine ite_yes (by decide +kernel) ?_
        refine ⟨_, rfl, _, _, _, _, rfl, rfl, SqL.of el2, rfl, ?_⟩
        exact hk t _ s2 ht0 et2
      · obtain ⟨rfl, v0, rfl, rfl⟩ := hc
        have fz1 : ∀ d2, some dd = some d2 → ∃ fs, H1 d2 = some (.xd fs) := fun d2 z => by cases z; exact ⟨_, hd1⟩
        refine ⟨_, rfl, .inr ⟨a, _, _, _, _, false, rfl, ha1, fz1, (err_BadFour e).xc, .own _, isn_BadFour_BadParting e, _, rfl, iteF ?_⟩⟩
        refine ⟨_, rfl, .inr ⟨a, _, _, _, _, false, rfl, ha1, fz1, (err_BadFour e).xc, .own _, isn_BadFour_BadText e, _, rfl, iteF ?_⟩⟩
        refine ⟨_, rfl, .inr ⟨a, _, _, _, _, true, rfl, ha1, fz1, (err_BadFour e).xc, .own _, kit_same, _, rfl, iteT ?_⟩⟩
        refine ⟨_, rfl, .inl ⟨rfl, _, SqL.of el⟩, _, rfl, a, _, dd, _, v0, rfl, ha1, hd1, (err_BadFour e).xf, no_BadFour_value e, rfl, by show 2 ≤ sizeLine; decide, fun t ht => ?_⟩
        have ht0 : H2 t = none := same_none s1 ht
        refine ⟨l, [], _, rfl, rfl, same_new ht _ _ el, fits (by simp), ?_⟩
        have nl : a ≠ l := fun q => by rw [q, el] at ha1; cases ha1
        have nd2 : dd ≠ l := fun q => by rw [q, el] at hd1; cases hd1
        have ntl : t ≠ l := (ne_of_none el ht).symm
        have ha2 : upd (upd H1 t (.tup [.str "four", v0])) l (.lst ([] ++ [.ref t])) a = some (ExK (.ref (He.ga X.K "BadFour")) (some dd) a) := by rw [upd_ne nl]; exact same_new ht _ _ ha1
        have hd2 : upd (upd H1 t (.tup [.str "four", v0])) l (.lst ([] ++ [.ref t])) dd = some (.xd [("value", v0)]) := by rw [upd_ne nd2]; exact same_new ht _ _ hd1
        have et2 : upd (upd H1 t (.tup [.str "four", v0])) l (.lst ([] ++ [.ref t])) t = some (.tup [.str "four", v0]) := by rw [upd_ne ntl]; exact upd_same
        have el2 : upd (upd H1 t (.tup [.str "four", v0])) l (.lst ([] ++ [.ref t])) l = some (.lst [.ref t]) := upd_same
        have s2 : Same H2 (upd (upd H1 t (.tup [.str "four", v0])) l (.lst ([] ++ [.ref t]))) := fun b o h => by rw [upd_ne (ne_of_none h nl0)]; exact same_new ht _ _ (s1 _ _ h)
        generalize upd (upd H1 t (.tup [.str "four", v0])) l (.lst ([] ++ [.ref t])) = H3 at ha2 hd2 et2 el2 s2
        have fz2 : ∀ d2, some dd = some d2 → ∃ fs, H3 d2 = some (.xd fs) := fun d2 z => by cases z; exact ⟨_, hd2⟩
        refine ⟨_, rfl, .inr ⟨a, _, _, _, _, false, rfl, ha2, fz2, (err_BadFour e).xc, .own _, isn_BadFour_NoHost e, _, rfl, iteF ?_⟩⟩
        refine ⟨_, rfl, _, _, rfl, .inl (SqL.of el2), rfl, _, rfl, ?_⟩
        refine ite_no (not_same rfl) ?_
        refine ⟨_, rfl, .inr ⟨a, _, _, _, _, true, rfl, ha2, fz2, (err_BadFour e).xc, .own _, is_BadFour_BadInput e, _, rfl, .inr ⟨a, _, _, _, _, false, rfl, ha2, fz2, (err_BadFour e).xc, .own _, isn_BadFour_Refused e, rfl, _, rfl, ?_⟩⟩⟩
        refine ite_no (by decide +kernel) ?_
        refine ⟨_, rfl, .inr ⟨a, _, _, _, _, false, rfl, ha2, fz2, (err_BadFour e).xc, .own _, isn_BadFour_Refused e, _, rfl, .inr ⟨a, _, _, _, _, false, rfl, ha2, fz2, (err_BadFour e).xc, .own _, isn_BadFour_NoHost e, rfl, _, rfl, ?_⟩⟩⟩
        refine ite_yes (by decide +kernel) ?_
        refine ⟨_, rfl, _, _, _, _, rfl, rfl, SqL.of el2, rfl, ?_⟩
        exact hk t _ s2 ht0 et2
      · obtain ⟨rfl, v0, rfl, rfl⟩ := hc
        have fz1 : ∀ d2, some dd = some d2 → ∃ fs, H1 d2 = some (.xd fs) := fun d2 z => by cases z; exact ⟨_, hd1⟩
        refine ⟨_, rfl, .inr ⟨a, _, _, _, _, false, rfl, ha1, fz1, (err_NoHost e).xc, .own _, isn_NoHost_BadParting e, _, rfl, iteF ?_⟩⟩
        refine ⟨_, rfl, .inr ⟨a, _, _, _, _, false, rfl, ha1, fz1, (err_NoHost e).xc, .own _, isn_NoHost_BadText e, _, rfl, iteF ?_⟩⟩
        refine ⟨_, rfl, .inr ⟨a, _, _, _, _, false, rfl, ha1, fz1, (err_NoHost e).xc, .own _, isn_NoHost_BadFour e, _, rfl, iteF ?_⟩⟩
        refine ⟨_, rfl, .inr ⟨a, _, _, _, _, true, rfl, ha1, fz1, (err_NoHost e).xc, .own _, kit_same, _, rfl, iteT ?_⟩⟩
        refine ⟨_, rfl, .inl ⟨rfl, _, SqL.of el⟩, _, rfl, a, _, dd, _, v0, rfl, ha1, hd1, (err_NoHost e).xf, no_NoHost_name e, rfl, by show 2 ≤ sizeLine; decide, fun t ht => ?_⟩
        have ht0 : H2 t = none := same_none s1 ht
        refine ⟨l, [], _, rfl, rfl, same_new ht _ _ el, fits (by simp), ?_⟩
        have nl : a ≠ l := fun q => by rw [q, el] at ha1; cases ha1
        have nd2 : dd ≠ l := fun q => by rw [q, el] at hd1; cases hd1
        have ntl : t ≠ l := (ne_of_none el ht).symm
        have ha2 : upd (upd H1 t (.tup [.str "host", v0])) l (.lst ([] ++ [.ref t])) a = some (ExK (.ref (He.ga X.K "NoHost")) (some dd) a) := by rw [upd_ne nl]; exact same_new ht _ _ ha1
        have hd2 : upd (upd H1 t (.tup [.str "host", v0])) l (.lst ([] ++ [.ref t])) dd = some (.xd [("name", v0)]) := by rw [upd_ne nd2]; exact same_new ht _ _ hd1
        have et2 : upd (upd H1 t (.tup [.str "host", v0])) l (.lst ([] ++ [.ref t])) t = some (.tup [.str "host", v0]) := by rw [upd_ne ntl]; exact upd_same
        have el2 : upd (upd H1 t (.tup [.str "host", v0])) l (.lst ([] ++ [.ref t])) l = some (.lst [.ref t]) := upd_same
        have s2 : Same H2 (upd (upd H1 t (.tup [.str "host", v0])) l (.lst ([] ++ [.ref t]))) := fun b o h => by rw [upd_ne (ne_of_none h nl0)]; exact same_new ht _ _ (s1 _ _ h)
        generalize upd (upd H1 t (.tup [.str "host", v0])) l (.lst ([] ++ [.ref t])) = H3 at ha2 hd2 et2 el2 s2
        have fz2 : ∀ d2, some dd = some d2 → ∃ fs, H3 d2 = some (.xd fs) := fun d2 z => by cases z; exact ⟨_, hd2⟩
        refine ⟨_, rfl, _, _, rfl, .inl (SqL.of el2), rfl, _, rfl, ?_⟩
        refine ite_no (not_same rfl) ?_
        refine ⟨_, rfl, .inr ⟨a, _, _, _, _, false, rfl, ha2, fz2, (err_NoHost e).xc, .own _, isn_NoHost_BadInput e, _, rfl, .inr ⟨a, _, _, _, _, true, rfl, ha2, fz2, (err_NoHost e).xc, .own _, is_NoHost_Refused e, rfl, _, rfl, ?_⟩⟩⟩
        refine ite_no (by decide +kernel) ?_
        refine ⟨_, rfl, .inr ⟨a, _, _, _, _, true, rfl, ha2, fz2, (err_NoHost e).xc, .own _, is_NoHost_Refused e, _, rfl, .inr ⟨a, _, _, _, _, true, rfl, ha2, fz2, (err_NoHost e).xc, .own _, kit_same, rfl, _, rfl, ?_⟩⟩⟩
        refine ite_yes (by decide +kernel) ?_
        refine ⟨_, rfl, _, _, _, _, rfl, rfl, SqL.of el2, rfl, ?_⟩
        exact hk t _ s2 ht0 et2
theorem pe_heard {X : Cx} (e : Ev X.K X.mg X.base) {k : Nat} {p : He.Defn} (hp : p ∈ tf) {params : Arguments} {body : Expr} {scope : Scope} {t : XK → TE} {T : List (Addr × Str)} {p1 lpos pos : Pos} (hT : ((He.cT X.K p).2, X.env.qual ++ "<lambda>") ∈ T ∧ ∀ q ∈ T, q.1 = (He.cT X.K p).2 → q.2 = X.env.qual ++ "<lambda>") (hcode : X.env.code = .ref (He.codeOf X.K p)) (hr : Room (k + 2) X.A) (hg : Gl X "_law_heard") (L : LamX.LamS X.env.scope scope) (hdef : defaultsOf params X.env = ([], []))
    (hbind : ∀ (q : Str) (cl : List (Str × Addr)) (pm cv ctv : Value), bindArgs (PySem.W.kla_fn "<lambda>" q params body scope cl pm cv ctv) ⟨[], []⟩ = pure [])
    (hbody : ∀ (A : Around) (outer : List Env) (s : Shared) (H : Hp) (E : XK) (f c' : Addr), Room k (A.deeper (LamX.lamEnv X scope s.heap.objs.size f c')) → PE (LamX.lamCx X A outer s H E scope f c') body (t E)) :
    PE X (.Call (.Name "_law_heard" p1) [.Lambda params body scope lpos] [] pos) (LamX.tLam T (TT28 X.K) t) := by
  obtain ⟨fd, F⟩ := e.c.def_ 21 (d := dd "_law_heard" 26) rfl
  obtain ⟨oc, od, dV, kV, doc, pm, an, cdv, ct, osl, hfd, lk, hcd, _, _⟩ := F.ex
  subst hfd
  have hb : Binds X.K _ ["ask"] [] := FunD.bindsN (ps := ["ask"]) F fun _ _ _ _ _ _ us hl => match us, hl with | [_], _ => rfl
  exact LamX.pe_lamcall (k := k) (Ng := ["ask", "caught", "found", "error", "told"]) (a := "ask") hg (g_law_heard e) F.kp lk hcd hb sc_law_heard rfl (.inl rfl) (heard_gives e) (e.tb _ (List.mem_map.mpr ⟨p, hp, rfl⟩)) hcode hT.1 hT.2 hr L hdef hbind hbody
def lamQ (n : Str) : Str := (envOfC n (defScope (top 0)) 0 0 .none).qual ++ "<lambda>"
def lamT (K : PySem.W.Frag) : List (Addr × Str) := [((He.cT K ("_law_refused_right", none)).2, lamQ "_law_refused_right"), ((He.cT K ("_law_texts_right", none)).2, lamQ "_law_texts_right"), ((He.cT K ("law", none)).2, lamQ "law")]
theorem lamT_one (e : Ev K mg base) {n : Str} (h : n = "_law_refused_right" ∨ n = "_law_texts_right" ∨ n = "law") : ((He.cT K (n, none)).2, lamQ n) ∈ lamT K ∧ ∀ q ∈ lamT K, q.1 = (He.cT K (n, none)).2 → q.2 = lamQ n := by
  have n1 := tabn__law_refused_right__law_texts_right e
  have n2 := tabn__law_refused_right_law e
  have n3 := tabn__law_texts_right_law e
  rcases h with rfl | rfl | rfl
  · refine ⟨.head _, fun q hq e1 => ?_⟩
    simp only [lamT, List.mem_cons, List.not_mem_nil, or_false] at hq
    rcases hq with rfl | rfl | rfl
    · rfl
    · exact absurd e1.symm n1
    · exact absurd e1.symm n2
  · refine ⟨.tail _ (.head _), fun q hq e1 => ?_⟩
    simp only [lamT, List.mem_cons, List.not_mem_nil, or_false] at hq
    rcases hq with rfl | rfl | rfl
    · exact absurd e1 n1
    · rfl
    · exact absurd e1.symm n3
  · refine ⟨.tail _ (.tail _ (.head _)), fun q hq e1 => ?_⟩
    simp only [lamT, List.mem_cons, List.not_mem_nil, or_false] at hq
    rcases hq with rfl | rfl | rfl
    · exact absurd e1 n2
    · exact absurd e1 n3
    · rfl
theorem heard28 {T : List (Addr × Str)} {t : XK → TE} {σ : L2.St} {H : Hp} {Q : VK} {cls : Value} {fs : List (Str × V)} {items : List V} (c : Told28 K cls fs items) (hT : LamX.Tabs T H)
    (rd : ∀ H2, LamX.ExtN H H2 → t (fun c d H' => c = cls ∧ ∃ dd, d = some dd ∧ H' dd = some (.xd fs) ∧ Same H2 H') σ H2 (fun _ _ => False))
    (k : ∀ g H', LamX.ExtN H H' → LamX.Tabs T H' → H' g = some (.tup items) → Q (.ref g) H') : LamX.tLam T (TT28 K) t σ H Q := by
  refine ⟨hT, fun H1 eN T1 H2 s2 => ⟨_, fun _ _ => False, rd H2 (eN.trans (extS s2)), ?_, fun _ _ z => z.elim⟩⟩
  rintro c' d H' ⟨rfl, dd, rfl, hdd, sm⟩
  exact ⟨dd, fs, items, rfl, hdd, c, fun g H'' s _ ef => k g H'' (((eN.trans (extS s2)).trans (extS sm)).trans (extS s)) (((T1.ext s2).ext sm).ext s) ef⟩
theorem heard28v {T : List (Addr × Str)} {t : XK → TE} {σ : L2.St} {H : Hp} {Q : VK} (hT : LamX.Tabs T H) (R : V → Hp → Prop)
    (rd : ∀ H2, LamX.ExtN H H2 → t (fun _ _ _ => False) σ H2 (fun v H' => R v H' ∧ Same H2 H'))
    (k : ∀ v g H' H'', LamX.ExtN H H' → R v H' → Same H' H'' → LamX.Tabs T H'' → H'' g = some (.lst [v]) → Q (.ref g) H'') : LamX.tLam T (TT28 K) t σ H Q := by
  refine ⟨hT, fun H1 eN T1 H2 s2 => ⟨_, _, rd H2 (eN.trans (extS s2)), fun _ _ _ z => z.elim, ?_⟩⟩
  rintro v H' ⟨r, sm⟩ l hl
  exact k v l H' _ ((eN.trans (extS s2)).trans (extS sm)) r (same_new hl) (((T1.ext s2).ext sm).ext (same_new hl)) upd_same
theorem partBad_uniq {p q : Str} {du dv : Option (List Str)} (h : partBad p du dv) (k : partBad q du dv) : p = q := by
  rcases h with ⟨e, a⟩ | ⟨e, a, _⟩ <;> rcases k with ⟨f, b⟩ | ⟨f, b, _⟩
  · rw [e, f]
  · rw [a] at b; cases b
  · rw [a] at b; cases b
  · rw [e, f]
theorem heard_badP {T : List (Addr × Str)} {t : XK → TE} {σ : L2.St} {H : Hp} {Q : VK} {u v : V} {du dv : Option (List Str)} (part : Str) (hT : LamX.Tabs T H)
    (rd : ∀ E H2, (∀ x dx, H2 x = none → H2 dx = none → dx ≠ x → spPart K [.ref x, u, v] (upd (upd H2 dx (.own x)) x (.ins (He.ga K "Parting") dx [])) (fun v _ => v = .non ∧ False) E) → t E σ H2 (fun _ _ => False))
    (ku : RowD K H u du) (kv : RowD K H v dv) (bad : partBad part du dv) (k : ∀ f H', LamX.ExtN H H' → LamX.Tabs T H' → H' f = some (.tup [.str "parting", .str part]) → Q (.ref f) H') :
    LamX.tLam T (TT28 K) t σ H Q := by
  refine heard28 (cls := .ref (He.ga K "BadParting")) (fs := [("part", .str part)]) (items := [.str "parting", .str part]) (.inl ⟨rfl, _, rfl, rfl⟩) hT (fun H2 e2 => ?_) k
  refine rd _ H2 fun x dx hx hdx ne => ?_
  have s3 : Same H2 (upd (upd H2 dx (.own x)) x (.ins (He.ga K "Parting") dx [])) := (same_new hdx).trans (same_new (by rw [upd_ne ne.symm]; exact hx))
  refine ⟨x, dx, u, v, du, dv, rfl, upd_same, (ku.ext e2).same s3, (kv.ext e2).same s3, fun pt d H' b bt n e => ?_, fun a b hs ny fy H' ea eb la lb ap _ _ _ => ?_⟩
  · obtain rfl := partBad_uniq b bad
    exact ⟨rfl, d, rfl, e, fun c o h => bt c o (ne_of_none h hx) (s3 c o h)⟩
  · subst ea
    subst eb
    rcases bad with ⟨_, z⟩ | ⟨_, _, z | ⟨a', b', e1, e2, z⟩⟩
    · exact absurd (z.symm.trans (decide_eq_true la)) nofun
    · exact absurd (z.symm.trans (decide_eq_true lb)) nofun
    · cases e1
      cases e2
      exact (z ap).elim
def oddB : V → Bool
  | .str z => decide (z.length ≤ 1000)
  | .int _ => true
  | .non => true
  | _ => false
theorem odd_kind {H : Hp} {v : V} {p : Addr} (h : oddB v = true) : Kind K H v ∧ v ≠ .ref p := by
  cases v with
  | str z => exact ⟨.inl ⟨z, rfl, Nat.le_trans (of_decide_eq_true h) (by decide)⟩, nofun⟩
  | int i => exact ⟨kind_t (.int _) (by decide +kernel), nofun⟩
  | non => exact ⟨.non, nofun⟩
  | _ => cases h
/-- a value that is no couple; p neither, nor in it -/
def OddP (K : PySem.W.Frag) (p : Addr) (H : Hp) (v : V) : Prop := v ≠ .ref p ∧ ((∃ a xs, v = .ref a ∧ RowA H a xs ∧ xs.length ≤ 1000 ∧ (∀ x ∈ xs, Kind K H x ∧ x ≠ .ref p) ∧ coupleD (rowN xs) = false) ∨ ∃ t, TyX K H v t ∧ PySem.W.kitAny K t [.type "list", .type "tuple"] = some false)
theorem OddP.same {p : Addr} {H H' : Hp} {v : V} (s : Same H H') (h : OddP K p H v) : OddP K p H' v := by
  obtain ⟨n, ⟨a, xs, e, r, l, k, z⟩ | ⟨t, ty, kt⟩⟩ := h
  · exact ⟨n, .inl ⟨a, xs, e, r.same s, l, fun x hx => ⟨(k x hx).1.same s, (k x hx).2⟩, z⟩⟩
  · exact ⟨n, .inr ⟨t, tyX_same s ty, kt⟩⟩
theorem OddP.but {p : Addr} {H H' : Hp} {v : V} (s : But p H H') (h : OddP K p H v) : OddP K p H' v := by
  obtain ⟨n, ⟨a, xs, e, r, l, k, z⟩ | ⟨t, ty, kt⟩⟩ := h
  · have na : a ≠ p := fun q => n (by rw [e, q])
    exact ⟨n, .inl ⟨a, xs, e, r.imp (s _ _ na) (s _ _ na), l, fun x hx => ⟨(k x hx).1.but s (k x hx).2, (k x hx).2⟩, z⟩⟩
  · exact ⟨n, .inr ⟨t, tyX_gen (fun b o e h _ => s b o (fun z => n (by rw [e, z])) h) ty, kt⟩⟩
theorem OddP.data {p : Addr} {H : Hp} {v : V} (h : OddP K p H v) : ∃ d, RowD K H v d ∧ coupleD d = false := by
  obtain ⟨n, ⟨a, xs, e, r, l, k, z⟩ | ⟨t, ty, kt⟩⟩ := h
  · exact ⟨_, .inl ⟨a, xs, e, r, l, fun x hx => (k x hx).1, rfl⟩, z⟩
  · exact ⟨none, .inr ⟨rfl, t, ty, kt⟩, rfl⟩
def AllOdd (K : PySem.W.Frag) (p : Addr) (H : Hp) (vs : List V) : Prop := ∀ v ∈ vs, OddP K p H v
theorem AllOdd.same {p : Addr} {H H' : Hp} {vs : List V} (s : Same H H') (h : AllOdd K p H vs) : AllOdd K p H' vs := fun v hv => (h v hv).same s
theorem AllOdd.snoc {p : Addr} {H : Hp} {vs : List V} {v : V} (h : AllOdd K p H vs) (k : OddP K p H v) : AllOdd K p H (vs ++ [v]) := fun x hx => by
  rcases List.mem_append.mp hx with hx | hx
  · exact h x hx
  · rw [List.mem_singleton.mp hx]
    exact k
theorem kit_not {n : String} (h1 : kitB n "list" = some false) (h2 : kitB n "tuple" = some false) : PySem.W.kitAny K (.type n) [.type "list", .type "tuple"] = some false := by
  unfold PySem.W.kitAny
  rw [kit_ty h1]
  unfold PySem.W.kitAny
  rw [kit_ty h2]
  rfl
theorem odd_row {p a : Addr} {H : Hp} {op o : HO} {vs xs : List V} (A : AllOdd K p H vs) (hP : H p = some op) (ha : H a = none) (ho : o = .lst xs ∨ o = .tup xs) (hx : ∀ x ∈ xs, Kind K H x ∧ x ≠ .ref p) (hl : xs.length ≤ 1000) (hs : coupleD (rowN xs) = false) : AllOdd K p (upd H a o) (vs ++ [.ref a]) := by
  have s := same_new (o := o) ha
  refine (A.same s).snoc ⟨fun q => (ne_of_none hP ha).symm (V.ref.inj q), .inl ⟨a, xs, rfl, ?_, hl, fun x h => ⟨(hx x h).1.same s, (hx x h).2⟩, hs⟩⟩
  rcases ho with rfl | rfl
  · exact .inl upd_same
  · exact .inr upd_same
theorem odd_lits {p a : Addr} {H : Hp} {op o : HO} {vs xs : List V} (A : AllOdd K p H vs) (hP : H p = some op) (ha : H a = none) (ho : o = .lst xs ∨ o = .tup xs) (h : (xs.all oddB && decide (xs.length ≤ 1000) && !coupleD (rowN xs)) = true) : AllOdd K p (upd H a o) (vs ++ [.ref a]) := by
  rw [Bool.and_eq_true, Bool.and_eq_true, Bool.not_eq_true'] at h
  exact odd_row A hP ha ho (fun x hx => odd_kind (List.all_eq_true.mp h.1.1 x hx)) (of_decide_eq_true h.1.2) h.2
def spOddPair (K : PySem.W.Frag) : Sp := fun vs H Q _ => ∃ (p c : Addr) (ms : List Int) (t : Nat) (z : Int), vs = [.ref p] ∧ Pen H p c ms t z ∧ t < 700000 ∧ ∀ (v : V) (H' : Hp) (t' : Nat) (z' : Int), OddP K p H' v → But p H H' → Pen H' p c ms t' z' → t' ≤ t + 1 → Q v H'
theorem sc_law_odd_pair : FnScope ["pen", "some"] ["pen"] (defScope (top 27)) := ⟨rfl, rfl, rfl, by decide +kernel, rfl, by decide +kernel, by decide +kernel⟩
theorem ok_law_odd_pair {fd : FuncData} (F : FunD K "_law_odd_pair" "_law_odd_pair" (defArgs (top 27)) (defBody (top 27)) (defScope (top 27)) [] [] (He.ga K "_law_odd_pair") fd) (e : Ev K mg base) : FnOk P w K mg base CX0 3 (He.ga K "_law_odd_pair") fd ["pen"] (spOddPair K) := by
  refine F.ok sc_law_odd_pair (fun vs H Q E h => ?_) (fun cdv A outer s H vs Q E hr h => ?_)
  · obtain ⟨_, _, _, _, _, rfl, _⟩ := h
    rfl
  · skip
    refine ⟨_, PSs.nox ((pss_cons (ps_set (i := 1) sc_law_odd_pair.nd rfl (Or.inl rfl) (pe_lst (pa_cons pe_non (pa_cons pe_str (pa_cons pe_int (pa_cons pe_bl (pa_cons (pe_lst pa_nil) (pa_cons (pe_tup pa_nil) (pa_cons (pe_lst (pa_cons pe_str pa_nil)) (pa_cons (pe_tup (pa_cons pe_str (pa_cons pe_str pa_nil))) (pa_cons (pe_lst (pa_cons pe_str (pa_cons pe_str (pa_cons pe_str pa_nil)))) (pa_cons (pe_tup (pa_cons pe_str (pa_cons pe_int pa_nil))) (pa_cons (pe_lst (pa_cons pe_str (pa_cons pe_str pa_nil))) (pa_cons (pe_lst (pa_cons pe_str (pa_cons pe_str pa_nil))) pa_nil))))))))))))))
      (pss_cons (ps_set (i := 1) sc_law_odd_pair.nd rfl (Or.inl rfl) (pe_op op_cat (pv 1) (pe_lst (pa_cons (pe_tup (pa_cons pe_str (pa_cons pe_str pa_nil))) (pa_cons (pe_lst (pa_cons pe_str (pa_cons pe_str pa_nil))) (pa_cons (pe_tup (pa_cons pe_str (pa_cons pe_non pa_nil))) (pa_cons (pe_lst (pa_cons (pe_lst (pa_cons pe_str pa_nil)) (pa_cons pe_str pa_nil))) (pa_cons (pe_disp (pps_cons pe_str pe_int (pps_cons pe_str pe_int pps_nil)) rfl rfl (by simp) (by decide)) (pa_cons (pe_tup (pa_cons pe_str (pa_cons pe_str pa_nil))) pa_nil)))))))))
      (pss_one (ps_ret (pe_def (d_law_pick (P := P) (w := w) (K := K) (mg := mg) (base := base) e) (hr.mono (by decide)) (by rfl) (pa_cons (pv 0) (pa_cons (pv 1) pa_nil)))))))), ?_⟩
    obtain ⟨p, c, ms, t, z, rfl, P0, ht, k⟩ := h
    have A0 : AllOdd K p H [.non, .str "ab", .int 7, .bl true] := by
      intro v hv
      simp only [List.mem_cons, List.not_mem_nil, or_false] at hv
      rcases hv with rfl | rfl | rfl | rfl
      · exact ⟨nofun, .inr ⟨_, .base .non, kit_not (by decide +kernel) (by decide +kernel)⟩⟩
      · exact ⟨nofun, .inr ⟨_, .base (.str _), kit_not (by decide +kernel) (by decide +kernel)⟩⟩
      · exact ⟨nofun, .inr ⟨_, .base (.int _), kit_not (by decide +kernel) (by decide +kernel)⟩⟩
      · exact ⟨nofun, .inr ⟨_, .base (.bl _), kit_not (by decide +kernel) (by decide +kernel)⟩⟩
    have S0 : Same H H := Same.refl _
    obtain ⟨H0, eH⟩ : ∃ H0, H0 = H := ⟨H, rfl⟩
    rw [← eH] at A0 P0
    have S0 : Same H H0 := by rw [eH]; exact Same.refl _
    rw [← eH]
    refine ⟨by show 0 ≤ sizeLine; decide, fun a1 h1 => ?_⟩
    have A1 := odd_lits (xs := []) A0 P0.a h1 (.inl rfl) (by decide +kernel)
    have P1 := P0.same (same_new (o := .lst []) h1)
    have S1 : Same H (upd H0 a1 (.lst [])) := S0.trans (same_new h1)
    generalize upd H0 a1 (.lst []) = H1 at A1 P1 S1
    refine ⟨by show 0 ≤ sizeLine; decide, fun a2 h2 => ?_⟩
    have A2 := odd_lits (xs := []) A1 P1.a h2 (.inr rfl) (by decide +kernel)
    have P2 := P1.same (same_new (o := .tup []) h2)
    have S2 : Same H (upd H1 a2 (.tup [])) := S1.trans (same_new h2)
    generalize upd H1 a2 (.tup []) = H2 at A2 P2 S2
    refine ⟨by show 1 ≤ sizeLine; decide, fun a3 h3 => ?_⟩
    have A3 := odd_lits (xs := [.str "a"]) A2 P2.a h3 (.inl rfl) (by decide +kernel)
    have P3 := P2.same (same_new (o := .lst [.str "a"]) h3)
    have S3 : Same H (upd H2 a3 (.lst [.str "a"])) := S2.trans (same_new h3)
    generalize upd H2 a3 (.lst [.str "a"]) = H3 at A3 P3 S3
    refine ⟨by show 2 ≤ sizeLine; decide, fun a4 h4 => ?_⟩
    have A4 := odd_lits (xs := [.str "a", .str "a"]) A3 P3.a h4 (.inr rfl) (by decide +kernel)
    have P4 := P3.same (same_new (o := .tup [.str "a", .str "a"]) h4)
    have S4 : Same H (upd H3 a4 (.tup [.str "a", .str "a"])) := S3.trans (same_new h4)
    generalize upd H3 a4 (.tup [.str "a", .str "a"]) = H4 at A4 P4 S4
    refine ⟨by show 3 ≤ sizeLine; decide, fun a5 h5 => ?_⟩
    have A5 := odd_lits (xs := [.str "a", .str "b", .str "c"]) A4 P4.a h5 (.inl rfl) (by decide +kernel)
    have P5 := P4.same (same_new (o := .lst [.str "a", .str "b", .str "c"]) h5)
    have S5 : Same H (upd H4 a5 (.lst [.str "a", .str "b", .str "c"])) := S4.trans (same_new h5)
    generalize upd H4 a5 (.lst [.str "a", .str "b", .str "c"]) = H5 at A5 P5 S5
    refine ⟨by show 2 ≤ sizeLine; decide, fun a6 h6 => ?_⟩
    have A6 := odd_lits (xs := [.str "a", .int 1]) A5 P5.a h6 (.inr rfl) (by decide +kernel)
    have P6 := P5.same (same_new (o := .tup [.str "a", .int 1]) h6)
    have S6 : Same H (upd H5 a6 (.tup [.str "a", .int 1])) := S5.trans (same_new h6)
    generalize upd H5 a6 (.tup [.str "a", .int 1]) = H6 at A6 P6 S6
    refine ⟨by show 2 ≤ sizeLine; decide, fun a7 h7 => ?_⟩
    have A7 := odd_lits (xs := [.str "a", .str "B"]) A6 P6.a h7 (.inl rfl) (by decide +kernel)
    have P7 := P6.same (same_new (o := .lst [.str "a", .str "B"]) h7)
    have S7 : Same H (upd H6 a7 (.lst [.str "a", .str "B"])) := S6.trans (same_new h7)
    generalize upd H6 a7 (.lst [.str "a", .str "B"]) = H7 at A7 P7 S7
    refine ⟨by show 2 ≤ sizeLine; decide, fun a8 h8 => ?_⟩
    have A8 := odd_lits (xs := [.str "a", .str ""]) A7 P7.a h8 (.inl rfl) (by decide +kernel)
    have P8 := P7.same (same_new (o := .lst [.str "a", .str ""]) h8)
    have S8 : Same H (upd H7 a8 (.lst [.str "a", .str ""])) := S7.trans (same_new h8)
    generalize upd H7 a8 (.lst [.str "a", .str ""]) = H8 at A8 P8 S8
    refine ⟨by show 12 ≤ sizeLine; decide, fun a9 h9 => ?_⟩
    have E1 : upd H8 a9 (.lst [.non, .str "ab", .int 7, .bl true, .ref a1, .ref a2, .ref a3, .ref a4, .ref a5, .ref a6, .ref a7, .ref a8]) a9 = some (.lst [.non, .str "ab", .int 7, .bl true, .ref a1, .ref a2, .ref a3, .ref a4, .ref a5, .ref a6, .ref a7, .ref a8]) := upd_same
    have A9 := A8.same (same_new (o := .lst [.non, .str "ab", .int 7, .bl true, .ref a1, .ref a2, .ref a3, .ref a4, .ref a5, .ref a6, .ref a7, .ref a8]) h9)
    have P9 := P8.same (same_new (o := .lst [.non, .str "ab", .int 7, .bl true, .ref a1, .ref a2, .ref a3, .ref a4, .ref a5, .ref a6, .ref a7, .ref a8]) h9)
    have S9 : Same H (upd H8 a9 (.lst [.non, .str "ab", .int 7, .bl true, .ref a1, .ref a2, .ref a3, .ref a4, .ref a5, .ref a6, .ref a7, .ref a8])) := S8.trans (same_new h9)
    generalize upd H8 a9 (.lst [.non, .str "ab", .int 7, .bl true, .ref a1, .ref a2, .ref a3, .ref a4, .ref a5, .ref a6, .ref a7, .ref a8]) = H9 at A9 P9 S9 E1
    refine ⟨_, rfl, ?_⟩
    refine ⟨by show 2 ≤ sizeLine; decide, fun a10 h10 => ?_⟩
    have A10 := odd_lits (xs := [.str "a", .str "ninesigns"]) A9 P9.a h10 (.inr rfl) (by decide +kernel)
    have P10 := P9.same (same_new (o := .tup [.str "a", .str "ninesigns"]) h10)
    have S10 : Same H (upd H9 a10 (.tup [.str "a", .str "ninesigns"])) := S9.trans (same_new h10)
    have E1 := same_new (o := .tup [.str "a", .str "ninesigns"]) h10 _ _ E1
    generalize upd H9 a10 (.tup [.str "a", .str "ninesigns"]) = H10 at A10 P10 S10 E1
    refine ⟨by show 2 ≤ sizeLine; decide, fun a11 h11 => ?_⟩
    have A11 := odd_lits (xs := [.str "a", .str "b "]) A10 P10.a h11 (.inl rfl) (by decide +kernel)
    have P11 := P10.same (same_new (o := .lst [.str "a", .str "b "]) h11)
    have S11 : Same H (upd H10 a11 (.lst [.str "a", .str "b "])) := S10.trans (same_new h11)
    have E1 := same_new (o := .lst [.str "a", .str "b "]) h11 _ _ E1
    generalize upd H10 a11 (.lst [.str "a", .str "b "]) = H11 at A11 P11 S11 E1
    refine ⟨by show 2 ≤ sizeLine; decide, fun a12 h12 => ?_⟩
    have A12 := odd_lits (xs := [.str "a", .non]) A11 P11.a h12 (.inr rfl) (by decide +kernel)
    have P12 := P11.same (same_new (o := .tup [.str "a", .non]) h12)
    have S12 : Same H (upd H11 a12 (.tup [.str "a", .non])) := S11.trans (same_new h12)
    have E1 := same_new (o := .tup [.str "a", .non]) h12 _ _ E1
    generalize upd H11 a12 (.tup [.str "a", .non]) = H12 at A12 P12 S12 E1
    refine ⟨by show 1 ≤ sizeLine; decide, fun a13 h13 => ?_⟩
    have E3 : upd H12 a13 (.lst [.str "a"]) a13 = some (.lst [.str "a"]) := upd_same
    have A13 := A12.same (same_new (o := .lst [.str "a"]) h13)
    have P13 := P12.same (same_new (o := .lst [.str "a"]) h13)
    have S13 : Same H (upd H12 a13 (.lst [.str "a"])) := S12.trans (same_new h13)
    have E1 := same_new (o := .lst [.str "a"]) h13 _ _ E1
    generalize upd H12 a13 (.lst [.str "a"]) = H13 at A13 P13 S13 E1 E3
    have nin : a13 ≠ p := by rintro rfl; exact absurd (E3.symm.trans P13.a) nofun
    refine ⟨by show 2 ≤ sizeLine; decide, fun a14 h14 => ?_⟩
    have A14 := odd_row (xs := [.ref a13, .str "b"]) A13 P13.a h14 (.inl rfl) (fun x hx => by rcases List.mem_cons.mp hx with rfl | hx; exact ⟨kind_t (.lst E3) (by decide +kernel), fun q => nin (V.ref.inj q)⟩; rw [List.mem_singleton.mp hx]; exact odd_kind (by decide +kernel)) (by show 2 ≤ 1000; decide) (by rfl)
    have P14 := P13.same (same_new (o := .lst [.ref a13, .str "b"]) h14)
    have S14 : Same H (upd H13 a14 (.lst [.ref a13, .str "b"])) := S13.trans (same_new h14)
    have E1 := same_new (o := .lst [.ref a13, .str "b"]) h14 _ _ E1
    generalize upd H13 a14 (.lst [.ref a13, .str "b"]) = H14 at A14 P14 S14 E1
    refine fun a15 h15 => ⟨upd_same, [(.inr "a", .int 1), (.inr "b", .int 2)], rfl, by decide, ?_⟩
    have s15 : Same H14 (upd (upd H14 a15 (.dK [])) a15 (.dK (mergeK [] [(.inr "a", .int 1), (.inr "b", .int 2)]))) := fun b o q => by rw [upd_ne (ne_of_none q h15), upd_ne (ne_of_none q h15)]; exact q
    have A15 := (A14.same s15).snoc ⟨fun q => (ne_of_none P14.a h15).symm (V.ref.inj q), .inr ⟨_, .base (.dK upd_same), kit_not (by decide +kernel) (by decide +kernel)⟩⟩
    have P15 := P14.same s15
    have S15 := S14.trans s15
    have E1 := s15 _ _ E1
    generalize upd (upd H14 a15 (.dK [])) a15 (.dK (mergeK [] [(.inr "a", .int 1), (.inr "b", .int 2)])) = H15 at A15 P15 S15 E1
    refine ⟨by show 2 ≤ sizeLine; decide, fun a16 h16 => ?_⟩
    have A16 := odd_lits (xs := [.str "a1", .str "b"]) A15 P15.a h16 (.inr rfl) (by decide +kernel)
    have P16 := P15.same (same_new (o := .tup [.str "a1", .str "b"]) h16)
    have S16 : Same H (upd H15 a16 (.tup [.str "a1", .str "b"])) := S15.trans (same_new h16)
    have E1 := same_new (o := .tup [.str "a1", .str "b"]) h16 _ _ E1
    generalize upd H15 a16 (.tup [.str "a1", .str "b"]) = H16 at A16 P16 S16 E1
    refine ⟨by show 6 ≤ sizeLine; decide, fun a17 h17 => ?_⟩
    have E2 : upd H16 a17 (.lst [.ref a10, .ref a11, .ref a12, .ref a14, .ref a15, .ref a16]) a17 = some (.lst [.ref a10, .ref a11, .ref a12, .ref a14, .ref a15, .ref a16]) := upd_same
    have A17 := A16.same (same_new (o := .lst [.ref a10, .ref a11, .ref a12, .ref a14, .ref a15, .ref a16]) h17)
    have P17 := P16.same (same_new (o := .lst [.ref a10, .ref a11, .ref a12, .ref a14, .ref a15, .ref a16]) h17)
    have S17 : Same H (upd H16 a17 (.lst [.ref a10, .ref a11, .ref a12, .ref a14, .ref a15, .ref a16])) := S16.trans (same_new h17)
    have E1 := same_new (o := .lst [.ref a10, .ref a11, .ref a12, .ref a14, .ref a15, .ref a16]) h17 _ _ E1
    generalize upd H16 a17 (.lst [.ref a10, .ref a11, .ref a12, .ref a14, .ref a15, .ref a16]) = H17 at A17 P17 S17 E1 E2
    refine ⟨a9, a17, _, _, rfl, rfl, E1, E2, by show 18 ≤ sizeLine; decide, fun o3 h18 => ?_⟩
    have A18 : AllOdd K p (upd H17 o3 (.lst ([.non, .str "ab", .int 7, .bl true, .ref a1, .ref a2, .ref a3, .ref a4, .ref a5, .ref a6, .ref a7, .ref a8] ++ [.ref a10, .ref a11, .ref a12, .ref a14, .ref a15, .ref a16]))) ([.non, .str "ab", .int 7, .bl true, .ref a1, .ref a2, .ref a3, .ref a4, .ref a5, .ref a6, .ref a7, .ref a8] ++ [.ref a10, .ref a11, .ref a12, .ref a14, .ref a15, .ref a16]) := A17.same (same_new h18)
    have P18 := P17.same (same_new (o := .lst ([.non, .str "ab", .int 7, .bl true, .ref a1, .ref a2, .ref a3, .ref a4, .ref a5, .ref a6, .ref a7, .ref a8] ++ [.ref a10, .ref a11, .ref a12, .ref a14, .ref a15, .ref a16])) h18)
    have S18 : Same H (upd H17 o3 (.lst ([.non, .str "ab", .int 7, .bl true, .ref a1, .ref a2, .ref a3, .ref a4, .ref a5, .ref a6, .ref a7, .ref a8] ++ [.ref a10, .ref a11, .ref a12, .ref a14, .ref a15, .ref a16]))) := S17.trans (same_new h18)
    have E4 : upd H17 o3 (.lst ([.non, .str "ab", .int 7, .bl true, .ref a1, .ref a2, .ref a3, .ref a4, .ref a5, .ref a6, .ref a7, .ref a8] ++ [.ref a10, .ref a11, .ref a12, .ref a14, .ref a15, .ref a16])) o3 = some (.lst ([.non, .str "ab", .int 7, .bl true, .ref a1, .ref a2, .ref a3, .ref a4, .ref a5, .ref a6, .ref a7, .ref a8] ++ [.ref a10, .ref a11, .ref a12, .ref a14, .ref a15, .ref a16])) := upd_same
    have no3 : o3 ≠ p := (ne_of_none P17.a h18).symm
    generalize upd H17 o3 (.lst ([.non, .str "ab", .int 7, .bl true, .ref a1, .ref a2, .ref a3, .ref a4, .ref a5, .ref a6, .ref a7, .ref a8] ++ [.ref a10, .ref a11, .ref a12, .ref a14, .ref a15, .ref a16])) = Hz at A18 P18 S18 E4
    generalize hodd : ([.non, .str "ab", .int 7, .bl true, .ref a1, .ref a2, .ref a3, .ref a4, .ref a5, .ref a6, .ref a7, .ref a8] ++ [.ref a10, .ref a11, .ref a12, .ref a14, .ref a15, .ref a16] : List V) = odds at A18 E4
    have o18 : odds.length = 18 := by rw [← hodd]; rfl
    have odd0 : odds ≠ [] := by intro q; rw [q] at o18; cases o18
    refine ⟨_, rfl, _, rfl, p, c, o3, ms, t, z, odds, rfl, P18, by omega, SqL.of E4, no3, odd0, by omega, fun u Hu tu zu hu bu Pu htu => ?_⟩
    exact k u Hu tu zu ((A18 u hu).but bu) ((Same.but S18).trans bu) Pu htu
theorem d_law_odd_pair (e : Ev K mg base) : DefN P w K mg base 3 "_law_odd_pair" ["pen"] (spOddPair K) := by
  obtain ⟨fd, F⟩ := e.c.def_ 22 (d := dd "_law_odd_pair" 27) rfl
  exact ⟨⟨fd, ok_law_odd_pair F e, FunD.bindsN F fun _ _ _ _ _ _ us hl => match us, hl with | [_], _ => rfl⟩, F.kp, He.glo_ok e.X e.G (e.c.fact 52 rfl)⟩
theorem pe_heardP {X : Cx} (e : Ev X.K X.mg X.base) {p : He.Defn} {T : List (Addr × Str)} (hT : ((He.cT X.K p).2, X.env.qual ++ "<lambda>") ∈ T ∧ ∀ q ∈ T, q.1 = (He.cT X.K p).2 → q.2 = X.env.qual ++ "<lambda>") (hp : p ∈ tf) {params : Arguments} {a b : Expr} {scope : Scope} {ta : TA} {p1 p2 p3 lpos pos : Pos} (hcode : X.env.code = .ref (He.codeOf X.K p)) (hr : Room 7 X.A) (hg : Gl X "_law_heard") (L : LamX.LamS X.env.scope scope) (hF : scope.names.lookup ("Parting" : Str) = some .globalImplicit) (hdef : defaultsOf params X.env = ([], []))
    (hbind : ∀ (q : Str) (cl : List (Str × Addr)) (pm cv ctv : Value), bindArgs (PySem.W.kla_fn "<lambda>" q params (.Call (.Name "Parting" p2) [a, b] [] p3) scope cl pm cv ctv) ⟨[], []⟩ = pure [])
    (he : ∀ env, starEach [a, b] env = (false, eval a env) :: starEach [b] env) (hpl : ∀ env, (backTo p3 (starEach [b] env)).any (·.1) = false)
    (ha : ∀ (A : Around) (outer : List Env) (s : Shared) (H : Hp) (E : XK) (f c' : Addr), PA (LamX.lamCx X A outer s H E scope f c') [a, b] ta) :
    PE X (.Call (.Name "_law_heard" p1) [.Lambda params (.Call (.Name "Parting" p2) [a, b] [] p3) scope lpos] [] pos) (LamX.tLam T (TT28 X.K) (fun E => tMake (He.ga X.K "Parting") (spPart X.K) [] E ta)) :=
  pe_heard e hp hT hcode hr hg L hdef hbind fun A outer s H E f c' hr2 => pe_part2 (X := LamX.lamCx X A outer s H E scope f c') e hr2 (passes_call (takes_of rfl rfl rfl rfl) fun _ _ _ _ h => h) hF (ha A outer s H E f c') (he _) (hpl _)
def spRefused28 (K : PySem.W.Frag) : Sp := fun vs H Q _ => ∃ (p c l : Addr) (ms : List Int) (t : Nat) (z : Int) (h0 h1 h2 h3 h4 : Str), vs = [.ref p, .ref l] ∧ Pen H p c ms t z ∧ t < 600000 ∧ H l = some (.lst ([h0, h1, h2, h3, h4].map V.str)) ∧ l ≠ p ∧ Hosts 5 [h0, h1, h2, h3, h4] ∧ LamX.Tabs (lamT K) H ∧
  ∀ (H' : Hp) (t' : Nat) (z' : Int), ButT p H H' → Pen H' p c ms t' z' → t' ≤ t + 5 → LamX.Tabs (lamT K) H' → Q (.bl true) H'
theorem sc_law_refused_right : FnScope ["pen", "hosts", "pair", "other", "odd", "more", "heard", "shared"] ["pen", "hosts"] (defScope (top 28)) := ⟨rfl, rfl, rfl, by decide +kernel, rfl, by decide +kernel, by decide +kernel⟩
def parD : PyData := .list [.tuple [.str "parting", .str "one"], .tuple [.str "parting", .str "one"], .tuple [.str "parting", .str "other"], .tuple [.str "parting", .str "other"]]
theorem ok_law_refused_right {fd : FuncData} (F : FunD K "_law_refused_right" "_law_refused_right" (defArgs (top 28)) (defBody (top 28)) (defScope (top 28)) [] [] (He.ga K "_law_refused_right") fd) (e : Ev K mg base) : FnG P w K mg base CX0 8 (He.ga K "_law_refused_right") fd ["pen", "hosts"] (spRefused28 K) := by
  refine okGC (p := ("_law_refused_right", none)) rfl F sc_law_refused_right (fun vs H Q E h => ?_) (fun A outer s H vs Q E hgu hr h => ?_)
  · obtain ⟨_, _, _, _, _, _, _, _, _, _, _, rfl, _⟩ := h
    rfl
  · skip
    refine ⟨_, PSs.nox ((pss_cons (ps_asg (pe_tup (pa_cons (pe_slice (ksl_list (K := K)) (pv 1) po_none (po_some pe_int)) (pa_cons (pe_callTy (kcall_tuple_of (K := K)) (by rfl) (f_tuple e) (by decide +kernel) (pa_cons (pe_slice (ksl_list (K := K)) (pv 1) (po_some pe_int) (po_some pe_int)) pa_nil)) pa_nil))) (pg_tup (by rfl) (pgs_cons (pg_name (i := 2) sc_law_refused_right.nd rfl (Or.inr rfl)) (pgs_cons (pg_name (i := 3) sc_law_refused_right.nd rfl (Or.inr rfl)) pgs_nil))))
      (pss_cons (ps_asg (pe_tup (pa_cons (pe_def (d_law_odd_pair (P := P) (w := w) (K := K) (mg := mg) (base := base) e) (hr.mono (by decide)) (by rfl) (pa_cons (pv 0) pa_nil)) (pa_cons (pe_def (d_law_odd_pair (P := P) (w := w) (K := K) (mg := mg) (base := base) e) (hr.mono (by decide)) (by rfl) (pa_cons (pv 0) pa_nil)) pa_nil))) (pg_tup (by rfl) (pgs_cons (pg_name (i := 4) sc_law_refused_right.nd rfl (Or.inr rfl)) (pgs_cons (pg_name (i := 5) sc_law_refused_right.nd rfl (Or.inr rfl)) pgs_nil))))
      (pss_cons (ps_set (i := 6) sc_law_refused_right.nd rfl (Or.inl rfl) (pe_lst (pa_cons (pe_heardP e (p := ("_law_refused_right", none)) (T := lamT K) (by exact lamT_one e (.inl rfl)) (by simp [tf]) rfl (hr.mono (by decide)) rfl (by exact LamX.lamS_by (sc := defScope (top 28)) (by decide +kernel)) rfl rfl (fun _ _ _ _ _ => rfl) (fun _ => rfl) (fun _ => rfl) (by exact fun _ _ _ _ _ _ _ => pa_cons (pv 4) (pa_cons (pv 3) pa_nil))) pa_nil)))
      (pss_cons (ps_expr (kpe_bm (K := K) PySem.F.plainAttrs_list PySem.F.slot_list_append PySem.F.type_list_append mt_append (pv 6) (pa_cons (pe_heardP e (p := ("_law_refused_right", none)) (T := lamT K) (by exact lamT_one e (.inl rfl)) (by simp [tf]) rfl (hr.mono (by decide)) rfl (by exact LamX.lamS_by (sc := defScope (top 28)) (by decide +kernel)) rfl rfl (fun _ _ _ _ _ => rfl) (fun _ => rfl) (fun _ => rfl) (by exact fun _ _ _ _ _ _ _ => pa_cons (pv 4) (pa_cons (pv 5) pa_nil))) pa_nil)))
      (pss_cons (ps_expr (kpe_bm (K := K) PySem.F.plainAttrs_list PySem.F.slot_list_append PySem.F.type_list_append mt_append (pv 6) (pa_cons (pe_heardP e (p := ("_law_refused_right", none)) (T := lamT K) (by exact lamT_one e (.inl rfl)) (by simp [tf]) rfl (hr.mono (by decide)) rfl (by exact LamX.lamS_by (sc := defScope (top 28)) (by decide +kernel)) rfl rfl (fun _ _ _ _ _ => rfl) (fun _ => rfl) (fun _ => rfl) (by exact fun _ _ _ _ _ _ _ => pa_cons (pv 2) (pa_cons (pv 4) pa_nil))) pa_nil)))
      (pss_cons (ps_set (i := 7) sc_law_refused_right.nd rfl (Or.inr rfl) (pe_def (d_law_pick (P := P) (w := w) (K := K) (mg := mg) (base := base) e) (hr.mono (by decide)) (by rfl) (pa_cons (pv 0) (pa_cons (pe_lst (pa_cons (pe_lst (pa_cons (pe_ix (kix_list (K := K)) (pv 2) pe_int (fun _ _ => rfl)) (pa_cons (pe_ix (kix_tup (K := K)) (pv 3) pe_int (fun _ _ => rfl)) pa_nil))) (pa_cons (pe_tup (pa_cons (pe_ix (kix_tup (K := K)) (pv 3) pe_int (fun _ _ => rfl)) (pa_cons (pe_ix (kix_list (K := K)) (pv 2) pe_int (fun _ _ => rfl)) pa_nil))) (pa_cons (pv 2) (pa_cons (pe_tup (pa_cons (pe_ix (kix_list (K := K)) (pv 2) pe_int (fun _ _ => rfl)) (pa_cons (pe_ix (kix_list (K := K)) (pv 2) pe_int (fun _ _ => rfl)) pa_nil))) pa_nil))))) pa_nil))))
      (pss_cons (ps_expr (kpe_bm (K := K) PySem.F.plainAttrs_list PySem.F.slot_list_append PySem.F.type_list_append mt_append (pv 6) (pa_cons (pe_heardP e (p := ("_law_refused_right", none)) (T := lamT K) (by exact lamT_one e (.inl rfl)) (by simp [tf]) rfl (hr.mono (by decide)) rfl (by exact LamX.lamS_by (sc := defScope (top 28)) (by decide +kernel)) rfl rfl (fun _ _ _ _ _ => rfl) (fun _ => rfl) (fun _ => rfl) (by exact fun _ _ _ _ _ _ _ => pa_cons (pv 2) (pa_cons (pv 7) pa_nil))) pa_nil)))
      (pss_one (ps_ret (pe_cmpR (kop_eqD (K := K) hr.units) (pv 6) (pe_op op_cat (pe_op op_rep (pe_lst (pa_cons (pe_tup (pa_cons pe_str (pa_cons pe_str pa_nil))) pa_nil)) pe_int) (pe_op op_rep (pe_lst (pa_cons (pe_tup (pa_cons pe_str (pa_cons pe_str pa_nil))) pa_nil)) pe_int)) (nomark _)))))))))))), ?_⟩
    obtain ⟨p, c, l, ms, t, z, h0, h1, h2, h3, h4, rfl, hP, ht, el, nlp, hH, hT, k⟩ := h
    have sl : SqL K H l ([h0, h1, h2, h3, h4].map V.str) := SqL.of el
    refine ⟨_, rfl, _, rfl, _, _, rfl, sl, fun pa3 na4 => ?_⟩
    generalize ga6 : upd H pa3 (HO.lst (cutV (List.map V.str [h0, h1, h2, h3, h4]) none (some (2 : Int)))) = Ha5
    obtain ⟨sa8, ea7⟩ := gen_new ga6 na4
    clear ga6
    rw [cutV_to _ (by omega)] at ea7
    simp only [← List.map_take, ← List.map_drop, Int.reduceToNat, strs_app] at ea7
    refine ⟨_, rfl, _, rfl, _, rfl, _, _, rfl, (seqL_same sa8 sl), fun pa11 na12 => ?_⟩
    generalize ga14 : upd Ha5 pa11 (HO.lst (cutV (List.map V.str [h0, h1, h2, h3, h4]) (some (2 : Int)) (some (4 : Int)))) = Ha13
    obtain ⟨sa16, ea15⟩ := gen_new ga14 na12
    clear ga14
    refine ⟨_, _, rfl, .inl ⟨(SqL.of ea15), fun la19 na20 => ?_⟩⟩
    generalize ga22 : upd Ha13 la19 (HO.tup (cutV (List.map V.str [h0, h1, h2, h3, h4]) (some (2 : Int)) (some (4 : Int)))) = Ha21
    obtain ⟨sa24, ea23⟩ := gen_new ga22 na20
    clear ga22
    refine ⟨(fit (by simp)), fun pa27 na28 => ?_⟩
    generalize ga30 : upd Ha21 pa27 (HO.tup [V.ref pa3, V.ref la19]) = Ha29
    obtain ⟨sa32, ea31⟩ := gen_new ga30 na28
    clear ga30
    refine ⟨_, _, rfl, (SqT.of ea31), rfl, _, _, rfl, _, _, rfl, rfl, _, rfl, ?_⟩
    have ea7 : Ha5 pa3 = some (HO.lst ([h0, h1].map V.str)) := ea7
    have ea23 : Ha21 la19 = some (HO.tup ([h2, h3].map V.str)) := ea23
    have S0 : Same H Ha29 := ((sa8.trans sa16).trans sa24).trans sa32
    have P1 := hP.same S0
    have n1 : pa3 ≠ p := (ne_of_none hP.a na4).symm
    have n2 : la19 ≠ p := (ne_of_none (sa16 _ _ (sa8 _ _ hP.a)) na20).symm
    refine ⟨p, c, ms, t, z, rfl, P1, by omega, fun od H2 t2 z2 o2 b2 P2 ht2 => ?_⟩
    refine ⟨_, rfl, p, c, ms, t2, z2, rfl, P2, by omega, fun mo H3 t3 z3 o3 b3 P3 ht3 => ?_⟩
    have e1 := b3 _ _ n1 (b2 _ _ n1 (sa32 _ _ (sa24 _ _ (sa16 _ _ ea7))))
    have e2 := b3 _ _ n2 (b2 _ _ n2 (sa32 _ _ ea23))
    have B3 : But p H H3 := ((Same.but S0).trans b2).trans b3
    have T3 : LamX.Tabs (lamT K) H3 := tabs_but hT hP B3
    obtain ⟨d1, r1, c1⟩ := (o2.but b3).data
    obtain ⟨d2, r2, c2⟩ := o3.data
    have nm : ∀ x ∈ [h0, h1, h2, h3, h4], IsNm x := hH.nm
    have nd := hH.nd
    have rp : RowS H3 (.ref pa3) [h0, h1] := ⟨⟨pa3, rfl, .inl e1⟩, fun x hx => nm x (by simp only [List.mem_cons, List.not_mem_nil, or_false] at hx ⊢; rcases hx with rfl | rfl <;> simp), by simp at nd ⊢; exact nd.1.1, by simp⟩
    have ro : RowS H3 (.ref la19) [h2, h3] := ⟨⟨la19, rfl, .inr e2⟩, fun x hx => nm x (by simp only [List.mem_cons, List.not_mem_nil, or_false] at hx ⊢; rcases hx with rfl | rfl <;> simp), by simp at nd ⊢; exact nd.2.2.1.1, by simp⟩
    have n1' := n1
    clear ea7 ea23 ea15 ea31 o2 o3 sl
    obtain ⟨tb1, eb2⟩ := rp.rowO
    obtain ⟨tb3, eb4⟩ := ro.rowO
    refine ⟨(fit (by simp)), fun pb7 nb8 => ?_⟩
    generalize gb10 : upd H3 pb7 (HO.tup [od, mo]) = Hb9
    obtain ⟨sb12, eb11⟩ := gen_new gb10 nb8
    clear gb10
    refine ⟨_, _, rfl, (SqT.of eb11), rfl, _, _, rfl, _, _, rfl, rfl, ?_⟩
    have T4 := T3.ext sb12
    have P4 := P3.same sb12
    have B4 : But p H Hb9 := B3.trans (Same.but sb12)
    have ru := r1.same sb12
    have rv := r2.same sb12
    have rx := rp.same sb12
    have ry := ro.same sb12
    have ex := sb12 _ _ e1
    have ey := sb12 _ _ e2
    clear sb12 eb11 eb2 eb4 e1 e2 rp ro r1 r2 T3 P3 B3 na4 na12 na20 na28 nb8 b2 b3
    have cx : coupleD (some [h0, h1]) = true := by rfl
    refine heard_badP (K := K) (T := lamT K) "one" T4 (fun E H2 h => ⟨_, rfl, _, rfl, h⟩) ru ry.data (.inl ⟨rfl, c1⟩) (fun f1 Hf e1 T1 ef1 => ?_)
    refine ⟨by show 1 ≤ sizeLine; decide, fun k1 hk1 => ?_⟩
    have nkc : c ≠ k1 := ne_of_none (P4.ext e1).b hk1
    have R0 : Heard (lamT K) Hb9 _ k1 [.ref f1] := Heard.new e1 T1 hk1
    have g1 := same_new (o := .lst [.ref f1]) hk1 _ _ ef1
    have n1 : f1 ≠ k1 := ne_of_none ef1 hk1
    refine ⟨_, rfl, .inl ⟨rfl, _, SqL.of R0.a⟩, ?_⟩
    refine heard_badP (K := K) (T := lamT K) "one" R0.t (fun E H2 h => ⟨_, rfl, _, rfl, h⟩) (ru.ext R0.e) (rv.ext R0.e) (.inl ⟨rfl, c1⟩) (fun f2 H4 e4 T4 ef2 => ⟨k1, _, _, rfl, rfl, e4 _ _ R0.a nofun, by show 1 < sizeLine; decide, ?_⟩)
    have R1 : Heard (lamT K) Hb9 _ k1 [.ref f1, .ref f2] := R0.go e4 T4
    have n2 : f2 ≠ k1 := ne_of ef2 (e4 _ _ R0.a nofun) nofun
    have g1 : upd H4 k1 (.lst [.ref f1, .ref f2]) f1 = _ := (upd_ne n1).trans (e4 _ _ g1 nofun)
    have g2 : upd H4 k1 (.lst [.ref f1, .ref f2]) f2 = _ := (upd_ne n2).trans ef2
    refine ⟨_, rfl, .inl ⟨rfl, _, SqL.of R1.a⟩, ?_⟩
    refine heard_badP (K := K) (T := lamT K) "other" R1.t (fun E H2 h => ⟨_, rfl, _, rfl, h⟩) (rx.data.ext R1.e) (ru.ext R1.e) (.inr ⟨rfl, cx, .inl c1⟩) (fun f3 H5 e5 T5 ef3 => ⟨k1, _, _, rfl, rfl, e5 _ _ R1.a nofun, by show 2 < sizeLine; decide, ?_⟩)
    have R2 : Heard (lamT K) Hb9 _ k1 [.ref f1, .ref f2, .ref f3] := R1.go e5 T5
    have n3 : f3 ≠ k1 := ne_of ef3 (e5 _ _ R1.a nofun) nofun
    have g1 : upd H5 k1 (.lst [.ref f1, .ref f2, .ref f3]) f1 = _ := (upd_ne n1).trans (e5 _ _ g1 nofun)
    have g2 : upd H5 k1 (.lst [.ref f1, .ref f2, .ref f3]) f2 = _ := (upd_ne n2).trans (e5 _ _ g2 nofun)
    have g3 : upd H5 k1 (.lst [.ref f1, .ref f2, .ref f3]) f3 = _ := (upd_ne n3).trans ef3
    have ex := R2.e _ _ ex nofun
    have ey := R2.e _ _ ey nofun
    have P5 := P4.ext R2.e
    have ek := R2.a
    have T6 := R2.t
    have nk : k1 ≠ p := ne_of ek P5.a nofun
    have E5 := R2.e
    have kn := R2.n
    have B5 : ButT p H _ := (ButT.of B4).trans (ButT.ofN R2.e)
    rw [show upd H5 k1 (.lst ([V.ref f1, V.ref f2] ++ [V.ref f3])) = upd H5 k1 (.lst [.ref f1, .ref f2, .ref f3]) from rfl]
    generalize upd H5 k1 (.lst [.ref f1, .ref f2, .ref f3]) = H6 at R2 g1 g2 g3 ex ey P5 ek T6 E5 B5 ⊢
    clear R2 R1 R0 e5 e4 ef3 ef2 ef1 P4
    obtain ⟨tc1, ec2⟩ := rx.rowO
    obtain ⟨tc3, ec4⟩ := ry.rowO
    refine ⟨_, rfl, _, rfl, _, _, _, _, rfl, rfl, (SqL.of ex), rfl, _, rfl, _, _, _, _, rfl, rfl, (SqT.of ey), rfl, (fit (by simp)), fun pc7 nc8 => ?_⟩
    generalize gc10 : upd H6 pc7 (HO.lst [V.str h0, V.str h2]) = Hc9
    obtain ⟨sc12, ec11⟩ := gen_new gc10 nc8
    clear gc10
    have ec11 : Hc9 pc7 = some (HO.lst (List.map V.str [h0, h2])) := ec11
    refine ⟨_, rfl, _, _, _, _, rfl, rfl, (SqT.of (sc12 _ _ ey)), rfl, _, rfl, _, _, _, _, rfl, rfl, (SqL.of (sc12 _ _ ex)), rfl, (fit (by simp)), fun pc15 nc16 => ?_⟩
    generalize gc18 : upd Hc9 pc15 (HO.tup [V.str h3, V.str h1]) = Hc17
    obtain ⟨sc20, ec19⟩ := gen_new gc18 nc16
    clear gc18
    have ec19 : Hc17 pc15 = some (HO.tup (List.map V.str [h3, h1])) := ec19
    refine ⟨_, rfl, _, rfl, _, _, _, _, rfl, rfl, (SqL.of (sc20 _ _ (sc12 _ _ ex))), rfl, _, rfl, _, _, _, _, rfl, rfl, (SqL.of (sc20 _ _ (sc12 _ _ ex))), rfl, (fit (by simp)), fun pc23 nc24 => ?_⟩
    generalize gc26 : upd Hc17 pc23 (HO.tup [V.str h1, V.str h0]) = Hc25
    obtain ⟨sc28, ec27⟩ := gen_new gc26 nc24
    clear gc26
    have ec27 : Hc25 pc23 = some (HO.tup (List.map V.str [h1, h0])) := ec27
    refine ⟨(fit (by simp)), fun pc31 nc32 => ?_⟩
    generalize gc34 : upd Hc25 pc31 (HO.lst [V.ref pc7, V.ref pc15, V.ref pa3, V.ref pc23]) = Hc33
    obtain ⟨sc36, ec35⟩ := gen_new gc34 nc32
    clear gc34
    have SC : Same H6 Hc33 := ((sc12.trans sc20).trans sc28).trans sc36
    have P6 := P5.same SC
    refine ⟨p, c, pc31, ms, t3, z3, _, rfl, P6, by omega, SqL.of ec35, (ne_of_none (((sc12.trans sc20).trans sc28) _ _ P5.a) nc32).symm, nofun, by show 4 < 1000000; decide, fun w Hd td zd hw bd Pd htd => ?_⟩
    have q1 := bd _ _ (ne_of_none P5.a nc8).symm (sc36 _ _ (sc28 _ _ (sc20 _ _ ec11)))
    have q2 := bd _ _ (ne_of_none (sc12 _ _ P5.a) nc16).symm (sc36 _ _ (sc28 _ _ ec19))
    have q3 := bd _ _ (ne_of_none ((sc12.trans sc20) _ _ P5.a) nc24).symm (sc36 _ _ ec27)
    have q0 := bd _ _ n1' (SC _ _ ex)
    have ek := bd _ _ nk (SC _ _ ek)
    have g1 := bd _ _ (ne_of (SC _ _ g1) P6.a nofun) (SC _ _ g1)
    have g2 := bd _ _ (ne_of (SC _ _ g2) P6.a nofun) (SC _ _ g2)
    have g3 := bd _ _ (ne_of (SC _ _ g3) P6.a nofun) (SC _ _ g3)
    have Td := tabs_but (T6.ext SC) P6 bd
    have Bd := (B5.trans (ButT.ofS SC)).trans (ButT.of bd)
    have hw : ∃ a b, RowS Hd w [a, b] ∧ ¬ apartS [h0, h1] [a, b] := by
      have row : ∀ a b (q : Addr), (Hd q = some (.lst ([a, b].map V.str)) ∨ Hd q = some (.tup ([a, b].map V.str))) → a ∈ [h0, h1, h2, h3, h4] → b ∈ [h0, h1, h2, h3, h4] → a ≠ b → RowS Hd (.ref q) [a, b] := fun a b q h1 h2 h3 h4 => ⟨⟨q, rfl, h1⟩, fun x hx => nm x (by simp only [List.mem_cons, List.not_mem_nil, or_false] at hx; rcases hx with rfl | rfl <;> assumption), by simp [h4], by simp⟩
      have nd' := nd
      simp only [List.nodup_cons, List.mem_cons, List.not_mem_nil, or_false, not_or] at nd'
      simp only [List.mem_cons, List.not_mem_nil, or_false] at hw
      rcases hw with rfl | rfl | rfl | rfl
      · exact ⟨h0, h2, row _ _ _ (.inl q1) (by simp) (by simp) nd'.1.2.1, fun z => z h0 (by simp) (by simp)⟩
      · exact ⟨h3, h1, row _ _ _ (.inr q2) (by simp) (by simp) (fun z => nd'.2.1.2.1 z.symm), fun z => z h1 (by simp) (by simp)⟩
      · exact ⟨h0, h1, row _ _ _ (.inl q0) (by simp) (by simp) nd'.1.1, fun z => z h0 (by simp) (by simp)⟩
      · exact ⟨h1, h0, row _ _ _ (.inr q3) (by simp) (by simp) (fun z => nd'.1.1 z.symm), fun z => z h0 (by simp) (by simp)⟩
    obtain ⟨wa, wb, rw', nap⟩ := hw
    have rx : RowS Hd (.ref pa3) [h0, h1] := ⟨⟨pa3, rfl, .inl q0⟩, rx.nm, rx.nd, rx.few⟩
    refine ⟨_, rfl, .inl ⟨rfl, _, SqL.of ek⟩, ?_⟩
    refine heard_badP (K := K) (T := lamT K) "other" Td (fun E H2 h => ⟨_, rfl, _, rfl, h⟩) rx.data rw'.data (.inr ⟨rfl, cx, .inr ⟨_, _, rfl, rfl, nap⟩⟩) (fun f4 H7 e7 T7 ef4 => ⟨k1, _, _, rfl, rfl, e7 _ _ ek nofun, by show 3 < sizeLine; decide, ?_⟩)
    have T8 : LamX.Tabs (lamT K) (upd H7 k1 (.lst [.ref f1, .ref f2, .ref f3, .ref f4])) := tabs_upd T7 (e7 _ _ ek nofun)
    have P7 := Pd.ext e7
    have P8 : Pen (upd H7 k1 (.lst [.ref f1, .ref f2, .ref f3, .ref f4])) p c ms td zd := ⟨(upd_ne nk.symm).trans P7.a, (upd_ne nkc).trans P7.b⟩
    have B8 : ButT p H (upd H7 k1 (.lst [.ref f1, .ref f2, .ref f3, .ref f4])) := fun b o nb hb nt => by
      have nb1 : b ≠ k1 := by
        rintro rfl
        obtain ⟨ps, rfl⟩ := kn o (B4 _ _ nb hb)
        exact nt ps rfl
      rw [upd_ne nb1]
      exact e7 _ _ (Bd _ _ nb hb nt) nt
    have k8 : upd H7 k1 (.lst [.ref f1, .ref f2, .ref f3, .ref f4]) k1 = _ := upd_same
    have n4 : f4 ≠ k1 := ne_of ef4 (e7 _ _ ek nofun) nofun
    have g1 : upd H7 k1 (.lst [.ref f1, .ref f2, .ref f3, .ref f4]) f1 = _ := (upd_ne n1).trans (e7 _ _ g1 nofun)
    have g2 : upd H7 k1 (.lst [.ref f1, .ref f2, .ref f3, .ref f4]) f2 = _ := (upd_ne n2).trans (e7 _ _ g2 nofun)
    have g3 : upd H7 k1 (.lst [.ref f1, .ref f2, .ref f3, .ref f4]) f3 = _ := (upd_ne n3).trans (e7 _ _ g3 nofun)
    have g4 : upd H7 k1 (.lst [.ref f1, .ref f2, .ref f3, .ref f4]) f4 = _ := (upd_ne n4).trans ef4
    refine ⟨_, rfl, by show 2 ≤ sizeLine; decide, fun t1 ht1 => ?_⟩
    refine ⟨by show 1 ≤ sizeLine; decide, fun t2 ht2 => ?_⟩
    refine ⟨t2, 2, _, rfl, rfl, upd_same, by decide, by decide, by show 1 * 2 ≤ sizeLine; decide, fun t3' ht3' => ?_⟩
    refine ⟨by show 2 ≤ sizeLine; decide, fun t4 ht4 => ?_⟩
    refine ⟨by show 1 ≤ sizeLine; decide, fun t5 ht5 => ?_⟩
    refine ⟨t5, 2, _, rfl, rfl, upd_same, by decide, by decide, by show 1 * 2 ≤ sizeLine; decide, fun t6 ht6 => ?_⟩
    have W1 := same_new (o := .tup [.str "parting", .str "one"]) ht1
    have W2 := same_new (o := .lst [.ref t1]) ht2
    have W3 := same_new (o := .lst [.ref t1, .ref t1]) ht3'
    have W4 := same_new (o := .tup [.str "parting", .str "other"]) ht4
    have W5 := same_new (o := .lst [.ref t4]) ht5
    have W6 := same_new (o := .lst [.ref t4, .ref t4]) ht6
    refine ⟨t3', t6, _, _, rfl, rfl, ((W4.trans W5).trans W6) _ _ upd_same, upd_same, by show 4 ≤ sizeLine; decide, fun t7 ht7 => ?_⟩
    have W7 := same_new (o := .lst [.ref t1, .ref t1, .ref t4, .ref t4]) ht7
    have W27 := ((((W2.trans W3).trans W4).trans W5).trans W6).trans W7
    have CH := W1.trans W27
    have W57 := (W5.trans W6).trans W7
    refine ⟨parD, parD, .lst (SqL.of (CH _ _ k8)) (.cons (.tup (SqT.of (CH _ _ g1)) (.cons (.str _) (.cons (.str _) .nil))) (.cons (.tup (SqT.of (CH _ _ g2)) (.cons (.str _) (.cons (.str _) .nil))) (.cons (.tup (SqT.of (CH _ _ g3)) (.cons (.str _) (.cons (.str _) .nil))) (.cons (.tup (SqT.of (CH _ _ g4)) (.cons (.str _) (.cons (.str _) .nil))) .nil)))),
      .lst (SqL.of upd_same) (.cons (.tup (SqT.of (W27 _ _ upd_same)) (.cons (.str _) (.cons (.str _) .nil))) (.cons (.tup (SqT.of (W27 _ _ upd_same)) (.cons (.str _) (.cons (.str _) .nil))) (.cons (.tup (SqT.of (W57 _ _ upd_same)) (.cons (.str _) (.cons (.str _) .nil))) (.cons (.tup (SqT.of (W57 _ _ upd_same)) (.cons (.str _) (.cons (.str _) .nil))) .nil)))), by decide +kernel, by decide +kernel, ?_⟩
    rw [show parD.eqv parD = true by decide +kernel]
    exact k _ td zd (B8.trans (ButT.ofS CH)) (P8.same CH) (by omega) (T8.ext CH)
theorem d_law_refused_right (e : Ev K mg base) : DefG P w K mg base 8 "_law_refused_right" ["pen", "hosts"] (spRefused28 K) := by
  obtain ⟨fd, F⟩ := e.c.def_ 23 (d := dd "_law_refused_right" 28) rfl
  exact ⟨⟨fd, ok_law_refused_right F e, FunD.bindsN F fun _ _ _ _ _ _ us hl => match us, hl with | [_, _], _ => rfl⟩, F.kp, He.glo_ok e.X e.G (e.c.fact 53 rfl)⟩
theorem sc_law_is_name : FnScope ["word", "sign"] ["word"] (defScope (top 29)) := ⟨rfl, rfl, rfl, by decide +kernel, rfl, by decide +kernel, by decide +kernel⟩
theorem ok_law_is_name {fd : FuncData} (F : FunD K "_law_is_name" "_law_is_name" (defArgs (top 29)) (defBody (top 29)) (defScope (top 29)) [] [] (He.ga K "_law_is_name") fd) (e : Ev K mg base) : FnOk P w K mg base CX0 1 (He.ga K "_law_is_name") fd ["word"] (spLnm) := by
  refine F.ok sc_law_is_name (fun vs H Q E h => ?_) (fun cdv A outer s H vs Q E hr h => ?_)
  · obtain ⟨_, rfl, _⟩ := h
    rfl
  · skip
    refine ⟨_, PSs.nox ((pss_one (ps_ret (pe_and (pe_chain op_le op_le pe_int (pe_callB call_len_str (by rfl) (f_len e) (by decide +kernel) (pa_cons (pv 0) pa_nil)) pe_int) (pe_one (pe_cmpR (kop_eqD (K := K) hr.units) (pe_lc (own := [("sign", 1)]) (by rfl) sc_law_is_name.nd (pi_str (pv 0)) (blkOk_by (own := [("sign", 1)]) (N := ["word", "sign"]) (sc := defScope (top 29)) (by decide +kernel)) (fun _ _ _ _ _ => (pg_name (i := 1) sc_law_is_name.nd rfl (Or.inl rfl))) (fun _ _ _ _ _ => (pts_one (pt_cmpR op_notIn_sign (pv 1) pe_str (by rfl)))) (fun _ _ _ _ _ => (pv 1))) (pe_lst pa_nil) (nomark _))))))), ?_⟩
    obtain ⟨x, rfl, hx, pl, k⟩ := h
    refine ⟨_, rfl, _, rfl, hx, _, _, rfl, rfl, _, rfl, ?_⟩
    refine ite2 (fun ca1 => ?_) (fun ca1 => ?_)
    · have ca1 := of_decide_eq_true ca1
      refine ⟨_, _, rfl, rfl, _, rfl, ?_⟩
      refine ite2 (fun ca2 => ?_) (fun ca2 => ?_)
      · have ca2 := of_decide_eq_true ca2
        have h8 : x.length ≤ 8 := by omega
        refine ⟨_, rfl, _, rfl, fun D hD => ?_⟩
        refine lc_fm walk_str (sgV x) offAbc (by unfold sgV; simp) (ystr x) hD (fun _ _ => trivial) (by unfold sgV; rw [List.length_map, ← nm_len]; exact Nat.lt_of_le_of_lt h8 (by decide)) ?_ ?_
        · rintro v hv H' hS Kt Kf k1 k2
          obtain ⟨o, ho, rfl⟩ := List.mem_map.mp hv
          refine ⟨rfl, ?_⟩
          refine ⟨_, rfl, o, _, rfl, rfl, ?_⟩
          have e : offAbc (V.str (sg o)) = if decide (o ∈ alpha.cps.toList) = true then none else some (V.str (sg o)) := by
            show (if ([o].all fun c => decide (c ∈ alpha.cps.toList)) = true then none else some (V.str (sg o))) = _
            rw [List.all_cons, List.all_nil, Bool.and_true]
          by_cases hm : o ∈ alpha.cps.toList
          · rw [decide_eq_true hm] at e
            refine ⟨_, rfl, ?_⟩
            rw [show decide (o ∈ (Str.ofString "abcdefghijklmnopqrstuvwxyz").cps.toList) = true from decide_eq_true hm]
            exact iteF (k2 e)
          · rw [decide_eq_false hm] at e
            refine ⟨_, rfl, ?_⟩
            rw [show decide (o ∈ (Str.ofString "abcdefghijklmnopqrstuvwxyz").cps.toList) = false from decide_eq_false hm]
            exact iteT ⟨_, rfl, k1 _ e⟩
        · rw [off_map]
          refine ⟨by show 0 ≤ sizeLine; decide, fun q hq => ?_⟩
          refine ⟨.list (((x.cps.toList.filter fun c => !decide (c ∈ alpha.cps.toList)).map sg).map .str), .list [], .lst (SqL.of (by rw [upd_ne (ne_of_none upd_same hq)]; exact upd_same)) (dp_strs _), .lst (SqL.of upd_same) .nil, shaped_strs (fun y hy => ?_), by decide +kernel, ?_⟩
          · obtain ⟨c, hc, rfl⟩ := List.mem_map.mp hy
            refine Plain.ok fun d hd => ?_
            have e : d = c := List.mem_singleton.mp hd
            rw [e]
            exact pl c (List.mem_filter.mp hc).1
          · rw [eqv_list_nil]
            have e : ((((x.cps.toList.filter fun c => !decide (c ∈ alpha.cps.toList)).map sg).map PyData.str)).isEmpty = nmB x := by
              rw [List.isEmpty_map, List.isEmpty_map, off_nil]
              unfold nmB
              rw [decide_eq_true (show 1 ≤ x.length by omega), decide_eq_true h8]
              rfl
            rw [e]
            exact k _ ((same_new hD).trans (same_new hq))
      · have ca2 := of_dec ca2
        have := k H (Same.refl H)
        have e : nmB x = false := by unfold nmB; rw [decide_eq_false (show ¬ x.length ≤ 8 by omega)]; simp
        rw [e] at this
        exact this
    · have ca1 := of_dec ca1
      refine ⟨_, rfl, ?_⟩
      have := k H (Same.refl H)
      have e : nmB x = false := by unfold nmB; rw [show decide (1 ≤ x.length) = false from decide_eq_false (by omega)]; rfl
      rw [e] at this
      exact this
theorem d_law_is_name (e : Ev K mg base) : DefN P w K mg base 1 "_law_is_name" ["word"] (spLnm) := by
  obtain ⟨fd, F⟩ := e.c.def_ 24 (d := dd "_law_is_name" 29) rfl
  exact ⟨⟨fd, ok_law_is_name F e, FunD.bindsN F fun _ _ _ _ _ _ us hl => match us, hl with | [_], _ => rfl⟩, F.kp, He.glo_ok e.X e.G (e.c.fact 54 rfl)⟩
def spLrdP (K : PySem.W.Frag) : Sp := fun vs H Q _ => ∃ z : Str, vs = [.str z] ∧ z.length ≤ 900 ∧ Plain z ∧
  (∀ a b c d, readP z = some ([a, b], [c, d]) → ∀ t u v H', Same H H' → H t = none → H' t = some (.tup [.ref u, .ref v]) → H' u = some (.tup ([a, b].map V.str)) → H' v = some (.tup ([c, d].map V.str)) → Q (.ref t) H') ∧
  (readP z = none → ∀ H', Same H H' → Q .non H')
theorem sc_law_read : FnScope ["text", "words", "names", "word"] ["text"] (defScope (top 30)) := ⟨rfl, rfl, rfl, by decide +kernel, rfl, by decide +kernel, by decide +kernel⟩
theorem ok_law_read {fd : FuncData} (F : FunD K "_law_read" "_law_read" (defArgs (top 30)) (defBody (top 30)) (defScope (top 30)) [] [] (He.ga K "_law_read") fd) (e : Ev K mg base) : FnOk P w K mg base CX0 3 (He.ga K "_law_read") fd ["text"] (spLrdP K) := by
  refine F.ok sc_law_read (fun vs H Q E h => ?_) (fun cdv A outer s H vs Q E hr h => ?_)
  · obtain ⟨_, rfl, _⟩ := h
    rfl
  · skip
    refine ⟨_, PSs.nox ((pss_cons (ps_set (i := 1) sc_law_read.nd rfl (Or.inl rfl) (pe_split (pv 0) pe_str))
      (pss_cons (ps_if (PW.pt (pw_or (pt_cmpR op_ne (pe_callB (kcall_len_seq (K := K)) (by rfl) (f_len e) (by decide +kernel) (pa_cons (pv 1) pa_nil)) pe_int (nomark _)) (pw_or1 (pt_cmpR op_ne (pe_ix (kix_list (K := K)) (pv 1) pe_int (fun _ _ => rfl)) pe_str (nomark _)))))
      (pss_one (ps_ret pe_non)) pss_nil)
      (pss_cons (ps_set (i := 2) sc_law_read.nd rfl (Or.inl rfl) (pe_op op_cat (pe_slice (ksl_list (K := K)) (pv 1) po_none (po_some pe_int)) (pe_slice (ksl_list (K := K)) (pv 1) (po_some pe_int) po_none)))
      (pss_cons (ps_if (PW.pt (pw_or (pt_cmpR (kop_neD (K := K) hr.units) (pe_lc (own := [("word", 3)]) (by rfl) sc_law_read.nd (kpi_list (K := K) (pv 2)) (blkOk_by (own := [("word", 3)]) (N := ["text", "words", "names", "word"]) (sc := defScope (top 30)) (by decide +kernel)) (fun _ _ _ _ _ => (pg_name (i := 3) sc_law_read.nd rfl (Or.inl rfl))) (fun _ _ _ _ _ => (pts_one (pt_not (pt_val (pe_def (d_law_is_name (P := P) (w := w) (K := K) (mg := mg) (base := base) e) (hr.mono (by decide)) (by rfl) (pa_cons (pv 3) pa_nil)))))) (fun _ _ _ _ _ => (pv 3))) (pe_lst pa_nil) (nomark _)) (pw_or1 (pt_cmpR op_lt (pe_callB cr_lenX (by rfl) (f_len e) (by decide +kernel) (pa_cons (pe_callTy (cr_setS (K := K) rfl) (by rfl) (f_set e) (by decide +kernel) (pa_cons (pv 2) pa_nil)) pa_nil)) pe_int (nomark _)))))
      (pss_one (ps_ret pe_non)) pss_nil)
      (pss_cons (ps_if (PW.pt (pw_or (pt_cmpR op_gt_str (pe_ix (kix_list (K := K)) (pv 1) pe_int (fun _ _ => rfl)) (pe_ix (kix_list (K := K)) (pv 1) pe_int (fun _ _ => rfl)) (nomark _)) (pw_or (pt_cmpR op_gt_str (pe_ix (kix_list (K := K)) (pv 1) pe_int (fun _ _ => rfl)) (pe_ix (kix_list (K := K)) (pv 1) pe_int (fun _ _ => rfl)) (nomark _)) (pw_or1 (pt_cmpR op_gt_str (pe_ix (kix_list (K := K)) (pv 1) pe_int (fun _ _ => rfl)) (pe_ix (kix_list (K := K)) (pv 1) pe_int (fun _ _ => rfl)) (nomark _))))))
      (pss_one (ps_ret pe_non)) pss_nil)
      (pss_one (ps_ret (pe_tup (pa_cons (pe_tup (pa_cons (pe_ix (kix_list (K := K)) (pv 1) pe_int (fun _ _ => rfl)) (pa_cons (pe_ix (kix_list (K := K)) (pv 1) pe_int (fun _ _ => rfl)) pa_nil))) (pa_cons (pe_tup (pa_cons (pe_ix (kix_list (K := K)) (pv 1) pe_int (fun _ _ => rfl)) (pa_cons (pe_ix (kix_list (K := K)) (pv 1) pe_int (fun _ _ => rfl)) pa_nil))) pa_nil))))))))))), ?_⟩
    obtain ⟨z, rfl, hz, pl, k1, k2⟩ := h
    rw [readP_words] at k1 k2
    have lz := split_le z (Str.ofString " ")
    have wl : ∀ w ∈ Txt.split z (Str.ofString " "), w.length ≤ 900 ∧ Plain w := fun w hw => ⟨Nat.le_trans (part_short hw) hz, plain_split pl w hw⟩
    refine ⟨_, rfl, ⟨_, rfl⟩, _, _, rfl, rfl, rfl, (fit (by omega)), fun pa3 na4 => ?_⟩
    generalize ga6 : upd H pa3 (HO.lst (List.map V.str (Txt.split z (Str.ofString " ")))) = Ha5
    obtain ⟨sa8, ea7⟩ := gen_new ga6 na4
    clear ga6
    generalize Txt.split z (Str.ofString " ") = ws at *
    by_cases five : ws.length = 5
    · obtain ⟨a, b, o, c, d, rfl⟩ : ∃ a b o c d, ws = [a, b, o, c, d] := by
        match ws, five with
        | [a, b, o, c, d], _ => exact ⟨a, b, o, c, d, rfl⟩
      refine ⟨_, rfl, _, _, rfl, (.inl (SqL.of ea7)), rfl, _, rfl, ?_⟩
      show @ite _ _ (_) _ _
      refine ite_diff ?_
      refine ⟨_, rfl, _, _, _, _, rfl, rfl, (SqL.of ea7), rfl, rfl, _, rfl, ?_⟩
      show @ite _ _ (_) _ _
      refine ite2 (fun ca1 => ?_) (fun ca1 => ?_)
      · have ca1 := of_ndec ca1
        exact k2 (by show (if fourB a b o c d = true then _ else _) = _; rw [if_neg]; unfold fourB; rw [decide_eq_false (fun q => ca1 (congrArg V.str q))]; exact nofun) _ sa8
      · have ca1 := of_nndec ca1
        refine ⟨_, rfl, _, rfl, _, _, rfl, (SqL.of ea7), fun pa4 na5 => ?_⟩
        generalize ga7 : upd Ha5 pa4 (HO.lst (cutV (List.map V.str [a, b, o, c, d]) none (some (2 : Int)))) = Ha6
        obtain ⟨sa9, ea8⟩ := gen_new ga7 na5
        clear ga7
        rw [cutV_to _ (by omega)] at ea8
        simp only [← List.map_take, ← List.map_drop, Int.reduceToNat, strs_app] at ea8
        refine ⟨_, rfl, _, rfl, _, _, rfl, (SqL.of (sa9 _ _ ea7)), fun pa12 na13 => ?_⟩
        generalize ga15 : upd Ha6 pa12 (HO.lst (cutV (List.map V.str [a, b, o, c, d]) (some (3 : Int)) none)) = Ha14
        obtain ⟨sa17, ea16⟩ := gen_new ga15 na13
        clear ga15
        rw [cutV_from _ (by omega)] at ea16
        simp only [← List.map_take, ← List.map_drop, Int.reduceToNat, strs_app] at ea16
        refine ⟨_, _, _, _, rfl, rfl, (sa17 _ _ ea8), ea16, (fit (by simp)), fun pa20 na21 => ?_⟩
        generalize ga23 : upd Ha14 pa20 (HO.lst (List.map V.str (List.take (2 : Nat) [a, b, o, c, d]) ++ List.map V.str (List.drop (3 : Nat) [a, b, o, c, d]))) = Ha22
        obtain ⟨sa25, ea24⟩ := gen_new ga23 na21
        clear ga23
        simp only [List.append_nil, strs_app, strs_snoc, ← List.map_reverse] at ea24
        refine ⟨_, rfl, _, rfl, ⟨_, (SqL.of ea24)⟩, fun Da28 na29 => ?_⟩
        have s5 : o = Str.ofString "/" := V.str.inj ca1
        have Ia := ((sa8.trans sa9).trans sa17).trans sa25
        have en : Ha22 pa20 = some (.lst ([a, b, c, d].map V.str)) := ea24
        have ew := sa25 _ _ (sa17 _ _ (sa9 _ _ ea7))
        have wl4 : ∀ w ∈ [a, b, c, d], w.length ≤ 900 ∧ Plain w := fun w hw => wl w (by simp only [List.mem_cons, List.not_mem_nil, or_false] at hw ⊢; rcases hw with rfl | rfl | rfl | rfl <;> simp)
        clear ea24 ea16 ea8 ea7 sa25 sa17 sa9 sa8 na5 na13 na21 na4 ca1
        refine lc_filS (walk_list (K := K) (a := pa20) (xs := [a, b, c, d].map V.str)) [a, b, c, d] (fun y => !nmB y) (by rw [List.length_map]) (yat _) na29 (fun H' s => SqL.of (s _ _ en)) (fits (by simp)) (fun x hx H2 s2 Kt Kf kt kf => ⟨rfl, ?_⟩) fun H2 s2 eD => ?_
        · have px := (wl4 x hx).2
          have wx := (wl4 x hx).1
          cases ex : nmB x with
          | true => refine ⟨_, rfl, _, rfl, (fit (by omega)), px, fun Hc3 sc4 => ?_⟩
                    refine ⟨_, rfl, ?_⟩
                    show @ite _ _ (_) _ _
                    rw [ex]
                    refine ite_no (by decide +kernel) ?_
                    exact kf (by rw [ex]; rfl) _ sc4
          | false => refine ⟨_, rfl, _, rfl, (fit (by omega)), px, fun Hd3 sd4 => ?_⟩
                     refine ⟨_, rfl, ?_⟩
                     show @ite _ _ (_) _ _
                     rw [ex]
                     refine ite_yes (by decide +kernel) ?_
                     refine ⟨_, rfl, ?_⟩
                     exact kt (by rw [ex]; rfl) _ sd4
        · have en := s2 _ _ en
          have ew := s2 _ _ ew
          have S2 := Ia.trans s2
          have ea : (([a, b, c, d].filter fun y => !nmB y).map PyData.str).isEmpty = [a, b, c, d].all nmB := by
            rw [List.isEmpty_map, Bool.eq_iff_iff, List.isEmpty_iff, List.filter_eq_nil_iff, List.all_eq_true]
            simp
          have few : [a, b, c, d].length + 1 < scanBound := by show 5 < scanBound; decide
          refine ⟨(fit (by simp)), fun pe3 ne4 => ?_⟩
          generalize ge6 : upd H2 pe3 (HO.lst []) = He5
          obtain ⟨se8, ee7⟩ := gen_new ge6 ne4
          clear ge6
          refine ⟨_, _, (.lst (SqL.of (se8 _ _ eD)) (dp_strs _)), (.lst (SqL.of ee7) .nil), shaped_strs (fun y hy => (wl4 y (List.mem_filter.mp hy).1).2.ok), rfl, _, rfl, ?_⟩
          show @ite _ _ (_) _ _
          rw [eqv_list_nil]
          rw [ea]
          have un : readL [a, b, o, c, d] = if fourB a b o c d = true then some ([a, b], [c, d]) else none := rfl
          unfold fourB at un
          rw [decide_eq_true s5] at un
          cases al : [a, b, c, d].all nmB with
          | false =>
            refine ite_yes (by decide +kernel) ?_
            rw [al] at un
            exact k2 un _ (S2.trans se8)
          | true =>
            refine ite_no (by decide +kernel) ?_
            rw [al] at un
            rw [Bool.true_and, Bool.true_and] at un
            have no : ∀ {q : Bool}, readL [a, b, o, c, d] = (if q = true then some ([a, b], [c, d]) else none) → q = false → readL [a, b, o, c, d] = none := fun {q} h e => by rw [h, e]; rfl
            refine ⟨_, rfl, _, _, rfl, (.inl (SqL.of (se8 _ _ en))), few, fun ae14 ne15 ne16 he17 => ?_⟩
            have mn := many_eq he17
            have f0 : ∀ {x y : Str}, ¬ x.cps.toList < y.cps.toList → ltCps x.cps.toList y.cps.toList = false := fun {x y} q => by cases e : ltCps x.cps.toList y.cps.toList with | false => rfl | true => exact absurd (lt_iff.mp e) q
            have yes : ¬ (ne15 : Int) < 4 → ¬ b.cps.toList < a.cps.toList → ¬ d.cps.toList < c.cps.toList → ¬ c.cps.toList < a.cps.toList → readL [a, b, o, c, d] = some ([a, b], [c, d]) := fun q q1 q2 q3 => by
              have l4 : ne15 ≤ 4 := he17.le
              rw [un, ← mn, decide_eq_true (show (ne15 : Int) = ([a, b, c, d].length : Int) by show (ne15 : Int) = 4; omega), f0 q1, f0 q2, f0 q3]
              rfl
            generalize gf2 : upd He5 ae14 (TxO (cxOf CX0 P w K mg base [Str.ofString "text", Str.ofString "words", Str.ofString "names", Str.ofString "word"] (Str.ofString "_law_read") (defScope (top (30 : Nat))) (He.ga K (Str.ofString "_law_read")) cdv A outer s H E).nox.w ae14 (inS [a, b, c, d]) ne15) = Hf1
            obtain ⟨sf4, ef3⟩ := gen_new gf2 ne16
            clear gf2
            refine ⟨_, _, _, rfl, ef3, _, _, rfl, rfl, _, rfl, ?_⟩
            show @ite _ _ (_) _ _
            refine ite2 (fun cf5 => ?_) (fun cf5 => ?_)
            · have cf5 := of_decide_eq_true cf5
              exact k2 (no un (by rw [← mn, decide_eq_false (show ¬ ((ne15 : Int) = ([a, b, c, d].length : Int)) from fun q => by have q : (ne15 : Int) = 4 := q; omega)]; rfl)) _ ((S2.trans se8).trans sf4)
            · have cf5 := of_dec cf5
              refine ⟨_, rfl, _, _, _, _, rfl, rfl, (SqL.of (sf4 _ _ (se8 _ _ ew))), rfl, _, rfl, _, _, _, _, rfl, rfl, (SqL.of (sf4 _ _ (se8 _ _ ew))), rfl, _, _, rfl, rfl, _, rfl, ?_⟩
              show @ite _ _ (_) _ _
              refine ite2 (fun cf6 => ?_) (fun cf6 => ?_)
              · have cf6 := of_decide_eq_true cf6
                exact k2 (no un (by rw [lt_iff.mpr cf6]; simp)) _ ((S2.trans se8).trans sf4)
              · have cf6 := of_dec cf6
                refine ⟨_, rfl, _, _, _, _, rfl, rfl, (SqL.of (sf4 _ _ (se8 _ _ ew))), rfl, _, rfl, _, _, _, _, rfl, rfl, (SqL.of (sf4 _ _ (se8 _ _ ew))), rfl, _, _, rfl, rfl, _, rfl, ?_⟩
                show @ite _ _ (_) _ _
                refine ite2 (fun cf7 => ?_) (fun cf7 => ?_)
                · have cf7 := of_decide_eq_true cf7
                  exact k2 (no un (by rw [lt_iff.mpr cf7]; simp)) _ ((S2.trans se8).trans sf4)
                · have cf7 := of_dec cf7
                  refine ⟨_, rfl, _, _, _, _, rfl, rfl, (SqL.of (sf4 _ _ (se8 _ _ ew))), rfl, _, rfl, _, _, _, _, rfl, rfl, (SqL.of (sf4 _ _ (se8 _ _ ew))), rfl, _, _, rfl, rfl, _, rfl, ?_⟩
                  show @ite _ _ (_) _ _
                  refine ite2 (fun cf8 => ?_) (fun cf8 => ?_)
                  · have cf8 := of_decide_eq_true cf8
                    exact k2 (no un (by rw [lt_iff.mpr cf8]; simp)) _ ((S2.trans se8).trans sf4)
                  · have cf8 := of_dec cf8
                    refine ⟨_, rfl, _, _, _, _, rfl, rfl, (SqL.of (sf4 _ _ (se8 _ _ ew))), rfl, _, rfl, _, _, _, _, rfl, rfl, (SqL.of (sf4 _ _ (se8 _ _ ew))), rfl, (fit (by simp)), fun pf11 nf12 => ?_⟩
                    generalize gf14 : upd Hf1 pf11 (HO.tup [V.str a, V.str b]) = Hf13
                    obtain ⟨sf16, ef15⟩ := gen_new gf14 nf12
                    clear gf14
                    have ef15 : Hf13 pf11 = some (HO.tup (List.map V.str [a, b])) := ef15
                    refine ⟨_, rfl, _, _, _, _, rfl, rfl, (SqL.of (sf16 _ _ (sf4 _ _ (se8 _ _ ew)))), rfl, _, rfl, _, _, _, _, rfl, rfl, (SqL.of (sf16 _ _ (sf4 _ _ (se8 _ _ ew)))), rfl, (fit (by simp)), fun pf19 nf20 => ?_⟩
                    generalize gf22 : upd Hf13 pf19 (HO.tup [V.str c, V.str d]) = Hf21
                    obtain ⟨sf24, ef23⟩ := gen_new gf22 nf20
                    clear gf22
                    have ef23 : Hf21 pf19 = some (HO.tup (List.map V.str [c, d])) := ef23
                    refine ⟨(fit (by simp)), fun pf27 nf28 => ?_⟩
                    generalize gf30 : upd Hf21 pf27 (HO.tup [V.ref pf11, V.ref pf19]) = Hf29
                    obtain ⟨sf32, ef31⟩ := gen_new gf30 nf28
                    clear gf30
                    exact k1 _ _ _ _ (yes cf5 cf6 cf7 cf8) _ _ _ _ (((((S2.trans se8).trans sf4).trans sf16).trans sf24).trans sf32) (((((S2.trans se8).trans sf4).trans sf16).trans sf24).free nf28) ef31 (sf32 _ _ (sf24 _ _ ef15)) (sf32 _ _ ef23)
    · have cv : ¬ V.int ((ws.map V.str).length) = V.int 5 := fun q => five (by have q := V.int.inj q; rw [List.length_map] at q; omega)
      refine ⟨_, rfl, _, _, rfl, (.inl (SqL.of ea7)), rfl, _, rfl, ?_⟩
      show @ite _ _ (_) _ _
      refine ite_yes (ndec_true (by assumption)) ?_
      exact k2 (by
        match ws, five with
        | [], _ => rfl
        | [_], _ => rfl
        | [_, _], _ => rfl
        | [_, _, _], _ => rfl
        | [_, _, _, _], _ => rfl
        | [_, _, _, _, _], q => exact absurd rfl q
        | _ :: _ :: _ :: _ :: _ :: _ :: _, _ => rfl) _ sa8
theorem d_law_read (e : Ev K mg base) : DefN P w K mg base 3 "_law_read" ["text"] (spLrdP K) := by
  obtain ⟨fd, F⟩ := e.c.def_ 25 (d := dd "_law_read" 30) rfl
  exact ⟨⟨fd, ok_law_read F e, FunD.bindsN F fun _ _ _ _ _ _ us hl => match us, hl with | [_], _ => rfl⟩, F.kp, He.glo_ok e.X e.G (e.c.fact 55 rfl)⟩
def spBentP (K : PySem.W.Frag) : Sp := fun vs H Q _ => ∃ (p c : Addr) (ms : List Int) (t : Nat) (z : Int) (x : Str), vs = [.ref p, .str x] ∧ Pen H p c ms t z ∧ t < 900000 ∧ Word 40 x ∧ (Txt.split x (Str.ofString " ")).length = 5 ∧
  ∀ (y : Str) (H' : Hp) (t' : Nat) (z' : Int), Word 900 y → But p H H' → Pen H' p c ms t' z' → t' ≤ t + 3 → Q (.str y) H'
theorem sc_law_bent : FnScope ["pen", "text", "words", "way", "at", "some"] ["pen", "text"] (defScope (top 31)) := ⟨rfl, rfl, rfl, by decide +kernel, rfl, by decide +kernel, by decide +kernel⟩
theorem app40 {us vs : List Str} (h : ∀ w ∈ us, Word 40 w) (k : ∀ w ∈ vs, Word 40 w) : ∀ w ∈ us ++ vs, Word 40 w := fun w hw => (List.mem_append.mp hw).elim (h w) (k w)
theorem take40 {us : List Str} (n : Nat) (h : ∀ w ∈ us, Word 40 w) : ∀ w ∈ us.take n, Word 40 w := fun w hw => h w (List.mem_of_mem_take hw)
theorem drop40 {us : List Str} (n : Nat) (h : ∀ w ∈ us, Word 40 w) : ∀ w ∈ us.drop n, Word 40 w := fun w hw => h w (List.mem_of_mem_drop hw)
theorem rev40 {us : List Str} (h : ∀ w ∈ us, Word 40 w) : ∀ w ∈ us.reverse, Word 40 w := fun w hw => h w (List.mem_reverse.mp hw)
theorem one40 {y : Str} (h : Word 40 y) : ∀ w ∈ [y], Word 40 w := fun w hw => by rw [List.mem_singleton.mp hw]; exact h
theorem join40 {us : List Str} (h : ∀ w ∈ us, Word 40 w) (l : us.length ≤ 6) : Word 900 (Txt.join (Str.ofString " ") us) := (Word.join (m := 1) (n := 40) (k := 6) (word_of (by decide +kernel)) h l).mono (by decide)
theorem sum40 : ∀ {us : List Str}, (∀ w ∈ us, Word 40 w) → (us.map (·.length)).sum ≤ us.length * 40
  | [], _ => Nat.le_refl _
  | a :: r, h => by
    have ih := sum40 (us := r) fun w hw => h w (.tail _ hw)
    have h0 := (h a (.head _)).l
    simp only [List.map_cons, List.sum_cons, List.length_cons]
    omega
theorem few40 {us : List Str} (h : ∀ w ∈ us, Word 40 w) (l : us.length ≤ 6) : (us.map (·.length)).sum + us.length * (Str.ofString " ").length ≤ 16777216 := by
  have h1 := sum40 h
  have h2 : (Str.ofString " ").length = 1 := by decide +kernel
  rw [h2]
  omega
theorem rep_word {x z r : Str} (wx : Word 40 x) (wz : Word 4 z) (h : RepOf x z r) : Word 900 r := by
  refine ⟨fun c hc => ?_, ?_⟩
  · rcases h.1 c hc with q | q
    · exact wx.p c q
    · exact wz.p c q
  · have a := wx.l
    have b := wz.l
    have : (x.length + 1) * z.length ≤ 41 * 4 := Nat.mul_le_mul (by omega) b
    exact Nat.le_trans h.2 (by omega)
theorem texts_ok {x r1 r2 : Str} (wx : Word 40 x) (h1 : RepOf x (Str.ofString "  ") r1) (h2 : RepOf x (Str.ofString "/") r2) : ∀ y ∈ [Str.ofString " " ++ x, x ++ Str.ofString " ", x ++ Str.ofString "\n", r1, Str.ofString "", r2], Word 900 y := by
  have w1 : Word 4 (Str.ofString " ") := word_of (by decide +kernel)
  have w2 : Word 4 (Str.ofString "\n") := word_of (by decide +kernel)
  intro y hy
  simp only [List.mem_cons, List.not_mem_nil, or_false] at hy
  rcases hy with rfl | rfl | rfl | rfl | rfl | rfl
  · exact (w1.app wx).mono (by decide)
  · exact (wx.app w1).mono (by decide)
  · exact (wx.app w2).mono (by decide)
  · exact rep_word wx (word_of (by decide +kernel)) h1
  · exact word_of (by decide +kernel)
  · exact rep_word wx (word_of (by decide +kernel)) h2
def signsP : List Str := ["/", "a", "", "A", "-", "x"]
theorem signsP_ok : ∀ x ∈ signsP, Word 40 x := by
  have h : signsP.all (wordB 40) = true := by decide +kernel
  exact fun x hx => word_of (List.all_eq_true.mp h x hx)
theorem signsQ_ok {w0 : Str} (h0 : Word 40 w0) : ∀ x ∈ [Str.ofString "/", Str.ofString "|", Str.ofString "", Str.ofString "B", w0, Str.ofString "a1", Str.ofString "ninesigns", Str.ofString "z"], Word 40 x := by
  intro x hx
  simp only [List.mem_cons, List.not_mem_nil, or_false] at hx
  rcases hx with rfl | rfl | rfl | rfl | rfl | rfl | rfl | rfl
  all_goals first | exact h0 | exact word_of (by decide +kernel)
theorem ok_law_bent {fd : FuncData} (F : FunD K "_law_bent" "_law_bent" (defArgs (top 31)) (defBody (top 31)) (defScope (top 31)) [] [] (He.ga K "_law_bent") fd) (e : Ev K mg base) : FnOk P w K mg base CX0 4 (He.ga K "_law_bent") fd ["pen", "text"] (spBentP K) := by
  refine F.ok sc_law_bent (fun vs H Q E h => ?_) (fun cdv A outer s H vs Q E hr h => ?_)
  · obtain ⟨_, _, _, _, _, _, rfl, _⟩ := h
    rfl
  · skip
    refine ⟨_, PSs.nox ((pss_cons (ps_par (i := 2) (j := 3) (by rfl) sc_law_bent.nd rfl rfl (by decide) rfl rfl (pa_cons (pe_split (pv 1) pe_str) (pa_cons (pe_def (d_law_draw (P := P) (w := w) (K := K) (mg := mg) (base := base) e) (hr.mono (by decide)) (by rfl) (pa_cons (pv 0) (pa_cons pe_int pa_nil))) pa_nil)) (by rfl))
      (pss_cons (ps_set (i := 4) sc_law_bent.nd rfl (Or.inl rfl) (pe_def (d_law_draw (P := P) (w := w) (K := K) (mg := mg) (base := base) e) (hr.mono (by decide)) (by rfl) (pa_cons (pv 0) (pa_cons (pe_callB (kcall_len_seq (K := K)) (by rfl) (f_len e) (by decide +kernel) (pa_cons (pv 2) pa_nil)) pa_nil))))
      (pss_cons (ps_if (pt_cmpR op_eq (pv 3) pe_int (nomark _))
      (pss_one (ps_set (i := 2) sc_law_bent.nd rfl (Or.inl rfl) (pe_op op_cat (pe_slice (ksl_list (K := K)) (pv 2) po_none (po_some (pv 4))) (pe_slice (ksl_list (K := K)) (pv 2) (po_some (pe_op op_add (pv 4) pe_int)) po_none)))) (pss_one (ps_if (pt_cmpR op_eq (pv 3) pe_int (nomark _))
      (pss_one (ps_set (i := 2) sc_law_bent.nd rfl (Or.inl rfl) (pe_op op_cat (pe_op op_cat (pe_slice (ksl_list (K := K)) (pv 2) po_none (po_some (pv 4))) (pe_lst (pa_cons (pe_def (d_law_pick (P := P) (w := w) (K := K) (mg := mg) (base := base) e) (hr.mono (by decide)) (by rfl) (pa_cons (pv 0) (pa_cons (pe_lst (pa_cons pe_str (pa_cons pe_str (pa_cons pe_str (pa_cons pe_str (pa_cons pe_str (pa_cons pe_str pa_nil))))))) pa_nil))) pa_nil))) (pe_slice (ksl_list (K := K)) (pv 2) (po_some (pv 4)) po_none)))) (pss_one (ps_if (pt_cmpR op_eq (pv 3) pe_int (nomark _))
      (pss_one (ps_set (i := 2) sc_law_bent.nd rfl (Or.inl rfl) (pe_op op_cat (pe_op op_cat (pe_slice (ksl_list (K := K)) (pv 2) po_none (po_some (pv 4))) (pe_lst (pa_cons (pe_def (d_law_pick (P := P) (w := w) (K := K) (mg := mg) (base := base) e) (hr.mono (by decide)) (by rfl) (pa_cons (pv 0) (pa_cons (pe_lst (pa_cons pe_str (pa_cons pe_str (pa_cons pe_str (pa_cons pe_str (pa_cons (pe_ix (kix_list (K := K)) (pv 2) pe_int (fun _ _ => rfl)) (pa_cons pe_str (pa_cons pe_str (pa_cons pe_str pa_nil))))))))) pa_nil))) pa_nil))) (pe_slice (ksl_list (K := K)) (pv 2) (po_some (pe_op op_add (pv 4) pe_int)) po_none)))) (pss_one (ps_if (pt_cmpR op_eq (pv 3) pe_int (nomark _))
      (pss_one (ps_set (i := 2) sc_law_bent.nd rfl (Or.inl rfl) (kpe_revL (K := K) (pv 2)))) (pss_one (ps_if (pt_cmpR op_eq (pv 3) pe_int (nomark _))
      (pss_one (ps_set (i := 2) sc_law_bent.nd rfl (Or.inl rfl) (pe_op op_cat (pe_lst (pa_cons (pe_ix (kix_list (K := K)) (pv 2) pe_int (fun _ _ => rfl)) (pa_cons (pe_ix (kix_list (K := K)) (pv 2) pe_int (fun _ _ => rfl)) pa_nil))) (pe_slice (ksl_list (K := K)) (pv 2) (po_some pe_int) po_none)))) (pss_one (ps_if (pt_cmpR op_eq (pv 3) pe_int (nomark _))
      (pss_one (ps_set (i := 2) sc_law_bent.nd rfl (Or.inl rfl) (pe_op op_cat (pe_op op_cat (pe_slice (ksl_list (K := K)) (pv 2) (po_some pe_int) po_none) (pe_slice (ksl_list (K := K)) (pv 2) (po_some pe_int) (po_some pe_int))) (pe_slice (ksl_list (K := K)) (pv 2) po_none (po_some pe_int))))) (pss_one (ps_ifI op_eq (pv 3) (nomark _) (psst_cons (pst_set (i := 5) sc_law_bent.nd rfl (Or.inl rfl) (pet_lst (pat_cons (PET.of (pe_op op_add_str pe_str (pv 1))) (pat_cons (PET.of (pe_op op_add_str (pv 1) pe_str)) (pat_cons (PET.of (pe_op op_add_str (pv 1) pe_str)) (pat_cons (pet_rep3 (pv 1)) (pat_cons (PET.of pe_str) pat_nil))))))) (CwR.psst_one (CwR.pst_ret (pet_def (d_law_pick (P := P) (w := w) (K := K) (mg := mg) (base := base) e) (hr.mono (by decide)) (by rfl) (pat_cons (PET.of (pv 0)) (pat_cons (CwR.pet_op op_cat (PET.of (pv 5)) (pet_lst (pat_cons (pet_rep2 (pv 1)) pat_nil))) pat_nil)))))) (PSsT.of pss_nil))))))))))))))
      (pss_one (ps_ret (kpe_join (K := K) pe_str (pv 2)))))))), ?_⟩
    obtain ⟨p, c, ms, t, z, x, rfl, hP, ht, wx, h5, k⟩ := h
    have hz := wx.l
    have sp := split_pos x (Str.ofString " ")
    have sl := split_le x (Str.ofString " ")
    have wl : ∀ w ∈ Txt.split x (Str.ofString " "), Word 40 w := fun w hw => ⟨plain_split wx.p w hw, Nat.le_trans (part_short hw) hz⟩
    generalize hws : Txt.split x (Str.ofString " ") = ws at *
    obtain ⟨w0, w1, w2, w3, w4, rfl⟩ : ∃ w0 w1 w2 w3 w4, ws = [w0, w1, w2, w3, w4] := by
      match ws, h5 with
      | [w0, w1, w2, w3, w4], _ => exact ⟨w0, w1, w2, w3, w4, rfl⟩
    refine ⟨_, rfl, ⟨_, rfl⟩, _, _, rfl, rfl, rfl, (fit (by omega)), fun pa3 na4 => ?_⟩
    generalize ga6 : upd H pa3 (HO.lst (List.map V.str (Txt.split x (Str.ofString " ")))) = Ha5
    obtain ⟨sa8, ea7⟩ := gen_new ga6 na4
    clear ga6
    rw [hws] at ea7
    refine ⟨_, rfl, _, _, _, _, _, _, rfl, (hP.same sa8), (by omega), (by omega), (by omega), fun da18 Ha19 xa20 xa21 ha22 ha23 ba24 Pa25 ha26 => ?_⟩
    refine ⟨_, _, rfl, _, rfl, _, rfl, _, _, rfl, (.inl (SqL.of (ba24 _ _ (ne_of_none hP.a na4).symm ea7))), _, _, _, _, _, _, rfl, Pa25, (by omega), (by simp only [List.length_map, List.length_append, List.length_cons, List.length_nil, List.length_take, List.length_drop, List.length_reverse]; omega), (by simp only [List.length_map, List.length_append, List.length_cons, List.length_nil, List.length_take, List.length_drop, List.length_reverse]; omega), fun da36 Ha37 xa38 xa39 ha40 ha41 ba42 Pa43 ha44 => ?_⟩
    have nw : pa3 ≠ p := (ne_of_none hP.a na4).symm
    have ew : Ha37 pa3 = some (HO.lst (List.map V.str [w0, w1, w2, w3, w4])) := ba42 _ _ nw (ba24 _ _ nw ea7)
    have bt : But p H Ha37 := ((Same.but sa8).trans ba24).trans ba42
    have k : ∀ (y : Str) (H' : Hp) (t' : Nat) (z' : Int), Word 900 y → But p Ha37 H' → Pen H' p c ms t' z' → t' ≤ xa38 + 1 → Q (.str y) H' := fun y H' t' z' w b P h => k y H' t' z' w (bt.trans b) P (by omega)
    have ht' : xa38 ≤ t + 2 := by omega
    have h36 : da36 < 5 := by
      have q : da36 < ((List.map V.str [w0, w1, w2, w3, w4]).length : Int) := ha41
      exact q
    clear ha41 ba42 ba24 ea7 sa8 bt na4
    refine ⟨_, rfl, rfl, _, rfl, ?_⟩
    show @ite _ _ (_) _ _
    refine ite2 (fun ca45 => ?_) (fun ca45 => ?_)
    · refine ⟨_, rfl, _, rfl, _, rfl, _, _, rfl, (SqL.of ew), fun pa3 na4 => ?_⟩
      generalize ga6 : upd Ha37 pa3 (HO.lst (cutV (List.map V.str [w0, w1, w2, w3, w4]) none (some da36))) = Ha5
      obtain ⟨sa8, ea7⟩ := gen_new ga6 na4
      clear ga6
      rw [cutV_to _ (by omega)] at ea7
      simp only [← List.map_take, ← List.map_drop, Int.reduceToNat, strs_app] at ea7
      refine ⟨_, rfl, _, rfl, _, _, rfl, rfl, _, rfl, _, _, rfl, (SqL.of (sa8 _ _ ew)), fun pa11 na12 => ?_⟩
      generalize ga14 : upd Ha5 pa11 (HO.lst (cutV (List.map V.str [w0, w1, w2, w3, w4]) (some (da36 + (1 : Int))) none)) = Ha13
      obtain ⟨sa16, ea15⟩ := gen_new ga14 na12
      clear ga14
      rw [cutV_from _ (by omega)] at ea15
      simp only [← List.map_take, ← List.map_drop, Int.reduceToNat, strs_app] at ea15
      refine ⟨_, _, _, _, rfl, rfl, (sa16 _ _ ea7), ea15, (fit (by simp only [List.length_map, List.length_append, List.length_cons, List.length_nil, List.length_take, List.length_drop, List.length_reverse]; omega)), fun pa19 na20 => ?_⟩
      generalize ga22 : upd Ha13 pa19 (HO.lst (List.map V.str (List.take da36.toNat [w0, w1, w2, w3, w4]) ++ List.map V.str (List.drop (da36 + (1 : Int)).toNat [w0, w1, w2, w3, w4]))) = Ha21
      obtain ⟨sa24, ea23⟩ := gen_new ga22 na20
      clear ga22
      simp only [List.append_nil, strs_app, strs_snoc, ← List.map_reverse] at ea23
      refine ⟨⟨_, rfl⟩, _, rfl, _, _, _, rfl, rfl, (.inl (SqL.of ea23)), few40 (app40 (take40 _ wl) (drop40 _ wl)) (by simp only [List.length_append, List.length_cons, List.length_nil, List.length_take, List.length_drop, List.length_reverse]; omega), ?_⟩
      exact k _ _ _ _ (join40 (app40 (take40 _ wl) (drop40 _ wl)) (by simp only [List.length_append, List.length_cons, List.length_nil, List.length_take, List.length_drop, List.length_reverse]; omega)) (((Same.but sa8).trans (Same.but sa16)).trans (Same.but sa24)) (Pa43.same ((sa8.trans sa16).trans sa24)) (by omega)
    have ca45 := of_dec ca45
    refine ⟨_, rfl, rfl, _, rfl, ?_⟩
    show @ite _ _ (_) _ _
    refine ite2 (fun ca45 => ?_) (fun ca45 => ?_)
    · refine ⟨_, rfl, _, rfl, _, rfl, _, _, rfl, (SqL.of ew), fun pb3 nb4 => ?_⟩
      generalize gb6 : upd Ha37 pb3 (HO.lst (cutV (List.map V.str [w0, w1, w2, w3, w4]) none (some da36))) = Hb5
      obtain ⟨sb8, eb7⟩ := gen_new gb6 nb4
      clear gb6
      rw [cutV_to _ (by omega)] at eb7
      simp only [← List.map_take, ← List.map_drop, Int.reduceToNat, strs_app] at eb7
      refine ⟨_, rfl, (fit (by simp)), fun pb11 nb12 => ?_⟩
      generalize gb14 : upd Hb5 pb11 (HO.lst [V.str (Str.ofString "/"), V.str (Str.ofString "a"), V.str (Str.ofString ""), V.str (Str.ofString "A"), V.str (Str.ofString "-"), V.str (Str.ofString "x")]) = Hb13
      obtain ⟨sb16, eb15⟩ := gen_new gb14 nb12
      clear gb14
      have eb15 : Hb13 pb11 = some (HO.lst (List.map V.str [Str.ofString "/", Str.ofString "a", Str.ofString "", Str.ofString "A", Str.ofString "-", Str.ofString "x"])) := eb15
      refine ⟨_, _, _, _, _, _, _, rfl, (Pa43.same (sb8.trans sb16)), (by omega), (SqL.of eb15), (ne_of_none (sb8 _ _ Pa43.a) nb12).symm, (by simp), (by simp only [List.length_map, List.length_append, List.length_cons, List.length_nil, List.length_take, List.length_drop, List.length_reverse]; omega), fun xb95 Hb96 xb97 xb98 hb99 bb100 Pb101 hb102 => ?_⟩
      obtain ⟨y, rfl, wy⟩ := pick_word (n := 40) hb99 signsP_ok
      have ew := bb100 _ _ nw (sb16 _ _ (sb8 _ _ ew))
      have eb7' := bb100 _ _ (ne_of_none Pa43.a nb4).symm (sb16 _ _ eb7)
      have bt := ((Same.but sb8).trans (Same.but sb16)).trans bb100
      have k : ∀ (y : Str) (H' : Hp) (t' : Nat) (z' : Int), Word 900 y → But p Hb96 H' → Pen H' p c ms t' z' → t' ≤ xb97 → Q (.str y) H' := fun y H' t' z' w b P h => k y H' t' z' w (bt.trans b) P (by omega)
      clear bt eb15 sb16 sb8 nb4 nb12 bb100 hb99 eb7
      refine ⟨(fit (by simp)), fun pB3 nB4 => ?_⟩
      generalize gB6 : upd Hb96 pB3 (HO.lst [V.str y]) = HB5
      obtain ⟨sB8, eB7⟩ := gen_new gB6 nB4
      clear gB6
      have eB7 : HB5 pB3 = some (HO.lst (List.map V.str [y])) := eB7
      refine ⟨_, _, _, _, rfl, rfl, (sB8 _ _ eb7'), eB7, (fit (by simp only [List.length_map, List.length_append, List.length_cons, List.length_nil, List.length_take, List.length_drop, List.length_reverse]; omega)), fun pB11 nB12 => ?_⟩
      generalize gB14 : upd HB5 pB11 (HO.lst (List.map V.str (List.take da36.toNat [w0, w1, w2, w3, w4]) ++ List.map V.str [y])) = HB13
      obtain ⟨sB16, eB15⟩ := gen_new gB14 nB12
      clear gB14
      simp only [List.append_nil, strs_app, strs_snoc, ← List.map_reverse] at eB15
      refine ⟨_, rfl, _, rfl, _, rfl, _, _, rfl, (SqL.of (sB16 _ _ (sB8 _ _ ew))), fun pB19 nB20 => ?_⟩
      generalize gB22 : upd HB13 pB19 (HO.lst (cutV (List.map V.str [w0, w1, w2, w3, w4]) (some da36) none)) = HB21
      obtain ⟨sB24, eB23⟩ := gen_new gB22 nB20
      clear gB22
      rw [cutV_from _ (by omega)] at eB23
      simp only [← List.map_take, ← List.map_drop, Int.reduceToNat, strs_app] at eB23
      refine ⟨_, _, _, _, rfl, rfl, (sB24 _ _ eB15), eB23, (fit (by simp only [List.length_map, List.length_append, List.length_cons, List.length_nil, List.length_take, List.length_drop, List.length_reverse]; omega)), fun pB27 nB28 => ?_⟩
      generalize gB30 : upd HB21 pB27 (HO.lst (List.map V.str (List.take da36.toNat [w0, w1, w2, w3, w4] ++ [y]) ++ List.map V.str (List.drop da36.toNat [w0, w1, w2, w3, w4]))) = HB29
      obtain ⟨sB32, eB31⟩ := gen_new gB30 nB28
      clear gB30
      simp only [List.append_nil, strs_app, strs_snoc, ← List.map_reverse] at eB31
      refine ⟨⟨_, rfl⟩, _, rfl, _, _, _, rfl, rfl, (.inl (SqL.of eB31)), few40 (app40 (app40 (take40 _ wl) (one40 wy)) (drop40 _ wl)) (by simp only [List.length_append, List.length_cons, List.length_nil, List.length_take, List.length_drop, List.length_reverse]; omega), ?_⟩
      exact k _ _ _ _ (join40 (app40 (app40 (take40 _ wl) (one40 wy)) (drop40 _ wl)) (by simp only [List.length_append, List.length_cons, List.length_nil, List.length_take, List.length_drop, List.length_reverse]; omega)) ((((Same.but sB8).trans (Same.but sB16)).trans (Same.but sB24)).trans (Same.but sB32)) (Pb101.same (((sB8.trans sB16).trans sB24).trans sB32)) (by omega)
    have ca45 := of_dec ca45
    refine ⟨_, rfl, rfl, _, rfl, ?_⟩
    show @ite _ _ (_) _ _
    refine ite2 (fun ca45 => ?_) (fun ca45 => ?_)
    · refine ⟨_, rfl, _, rfl, _, rfl, _, _, rfl, (SqL.of ew), fun pc3 nc4 => ?_⟩
      generalize gc6 : upd Ha37 pc3 (HO.lst (cutV (List.map V.str [w0, w1, w2, w3, w4]) none (some da36))) = Hc5
      obtain ⟨sc8, ec7⟩ := gen_new gc6 nc4
      clear gc6
      rw [cutV_to _ (by omega)] at ec7
      simp only [← List.map_take, ← List.map_drop, Int.reduceToNat, strs_app] at ec7
      refine ⟨_, rfl, _, rfl, _, _, _, _, rfl, rfl, (SqL.of (sc8 _ _ ew)), rfl, (fit (by simp)), fun pc11 nc12 => ?_⟩
      generalize gc14 : upd Hc5 pc11 (HO.lst [V.str (Str.ofString "/"), V.str (Str.ofString "|"), V.str (Str.ofString ""), V.str (Str.ofString "B"), V.str w0, V.str (Str.ofString "a1"), V.str (Str.ofString "ninesigns"), V.str (Str.ofString "z")]) = Hc13
      obtain ⟨sc16, ec15⟩ := gen_new gc14 nc12
      clear gc14
      have ec15 : Hc13 pc11 = some (HO.lst (List.map V.str [Str.ofString "/", Str.ofString "|", Str.ofString "", Str.ofString "B", w0, Str.ofString "a1", Str.ofString "ninesigns", Str.ofString "z"])) := ec15
      refine ⟨_, _, _, _, _, _, _, rfl, (Pa43.same (sc8.trans sc16)), (by omega), (SqL.of ec15), (ne_of_none (sc8 _ _ Pa43.a) nc12).symm, (by simp), (by simp only [List.length_map, List.length_append, List.length_cons, List.length_nil, List.length_take, List.length_drop, List.length_reverse]; omega), fun xb95 Hb96 xb97 xb98 hb99 bb100 Pb101 hb102 => ?_⟩
      obtain ⟨y, rfl, wy⟩ := pick_word (n := 40) hb99 (signsQ_ok (wl w0 (by simp)))
      have ew := bb100 _ _ nw (sc16 _ _ (sc8 _ _ ew))
      have ec7' := bb100 _ _ (ne_of_none Pa43.a nc4).symm (sc16 _ _ ec7)
      have bt := ((Same.but sc8).trans (Same.but sc16)).trans bb100
      have k : ∀ (y : Str) (H' : Hp) (t' : Nat) (z' : Int), Word 900 y → But p Hb96 H' → Pen H' p c ms t' z' → t' ≤ xb97 → Q (.str y) H' := fun y H' t' z' w b P h => k y H' t' z' w (bt.trans b) P (by omega)
      clear bt ec15 sc16 sc8 nc4 nc12 bb100 hb99 ec7
      refine ⟨(fit (by simp)), fun pC3 nC4 => ?_⟩
      generalize gC6 : upd Hb96 pC3 (HO.lst [V.str y]) = HC5
      obtain ⟨sC8, eC7⟩ := gen_new gC6 nC4
      clear gC6
      have eC7 : HC5 pC3 = some (HO.lst (List.map V.str [y])) := eC7
      refine ⟨_, _, _, _, rfl, rfl, (sC8 _ _ ec7'), eC7, (fit (by simp only [List.length_map, List.length_append, List.length_cons, List.length_nil, List.length_take, List.length_drop, List.length_reverse]; omega)), fun pC11 nC12 => ?_⟩
      generalize gC14 : upd HC5 pC11 (HO.lst (List.map V.str (List.take da36.toNat [w0, w1, w2, w3, w4]) ++ List.map V.str [y])) = HC13
      obtain ⟨sC16, eC15⟩ := gen_new gC14 nC12
      clear gC14
      simp only [List.append_nil, strs_app, strs_snoc, ← List.map_reverse] at eC15
      refine ⟨_, rfl, _, rfl, _, _, rfl, rfl, _, rfl, _, _, rfl, (SqL.of (sC16 _ _ (sC8 _ _ ew))), fun pC19 nC20 => ?_⟩
      generalize gC22 : upd HC13 pC19 (HO.lst (cutV (List.map V.str [w0, w1, w2, w3, w4]) (some (da36 + (1 : Int))) none)) = HC21
      obtain ⟨sC24, eC23⟩ := gen_new gC22 nC20
      clear gC22
      rw [cutV_from _ (by omega)] at eC23
      simp only [← List.map_take, ← List.map_drop, Int.reduceToNat, strs_app] at eC23
      refine ⟨_, _, _, _, rfl, rfl, (sC24 _ _ eC15), eC23, (fit (by simp only [List.length_map, List.length_append, List.length_cons, List.length_nil, List.length_take, List.length_drop, List.length_reverse]; omega)), fun pC27 nC28 => ?_⟩
      generalize gC30 : upd HC21 pC27 (HO.lst (List.map V.str (List.take da36.toNat [w0, w1, w2, w3, w4] ++ [y]) ++ List.map V.str (List.drop (da36 + (1 : Int)).toNat [w0, w1, w2, w3, w4]))) = HC29
      obtain ⟨sC32, eC31⟩ := gen_new gC30 nC28
      clear gC30
      simp only [List.append_nil, strs_app, strs_snoc, ← List.map_reverse] at eC31
      refine ⟨⟨_, rfl⟩, _, rfl, _, _, _, rfl, rfl, (.inl (SqL.of eC31)), few40 (app40 (app40 (take40 _ wl) (one40 wy)) (drop40 _ wl)) (by simp only [List.length_append, List.length_cons, List.length_nil, List.length_take, List.length_drop, List.length_reverse]; omega), ?_⟩
      exact k _ _ _ _ (join40 (app40 (app40 (take40 _ wl) (one40 wy)) (drop40 _ wl)) (by simp only [List.length_append, List.length_cons, List.length_nil, List.length_take, List.length_drop, List.length_reverse]; omega)) ((((Same.but sC8).trans (Same.but sC16)).trans (Same.but sC24)).trans (Same.but sC32)) (Pb101.same (((sC8.trans sC16).trans sC24).trans sC32)) (by omega)
    have ca45 := of_dec ca45
    refine ⟨_, rfl, rfl, _, rfl, ?_⟩
    show @ite _ _ (_) _ _
    refine ite2 (fun ca45 => ?_) (fun ca45 => ?_)
    · refine ⟨_, rfl, _, _, rfl, (SqL.of ew), fun pd3 nd4 => ?_⟩
      generalize gd6 : upd Ha37 pd3 (HO.lst (List.map V.str [w0, w1, w2, w3, w4]).reverse) = Hd5
      obtain ⟨sd8, ed7⟩ := gen_new gd6 nd4
      clear gd6
      simp only [List.append_nil, strs_app, strs_snoc, ← List.map_reverse] at ed7
      refine ⟨⟨_, rfl⟩, _, rfl, _, _, _, rfl, rfl, (.inl (SqL.of ed7)), few40 (rev40 wl) (by simp only [List.length_append, List.length_cons, List.length_nil, List.length_take, List.length_drop, List.length_reverse]; omega), ?_⟩
      exact k _ _ _ _ (join40 (rev40 wl) (by simp only [List.length_append, List.length_cons, List.length_nil, List.length_take, List.length_drop, List.length_reverse]; omega)) (Same.but sd8) (Pa43.same sd8) (by omega)
    have ca45 := of_dec ca45
    refine ⟨_, rfl, rfl, _, rfl, ?_⟩
    show @ite _ _ (_) _ _
    refine ite2 (fun ca45 => ?_) (fun ca45 => ?_)
    · refine ⟨_, rfl, _, _, _, _, rfl, rfl, (SqL.of ew), rfl, _, rfl, _, _, _, _, rfl, rfl, (SqL.of ew), rfl, (fit (by simp)), fun pe3 ne4 => ?_⟩
      generalize ge6 : upd Ha37 pe3 (HO.lst [V.str w1, V.str w0]) = He5
      obtain ⟨se8, ee7⟩ := gen_new ge6 ne4
      clear ge6
      have ee7 : He5 pe3 = some (HO.lst (List.map V.str [w1, w0])) := ee7
      refine ⟨_, rfl, _, rfl, _, _, rfl, (SqL.of (se8 _ _ ew)), fun pe11 ne12 => ?_⟩
      generalize ge14 : upd He5 pe11 (HO.lst (cutV (List.map V.str [w0, w1, w2, w3, w4]) (some (2 : Int)) none)) = He13
      obtain ⟨se16, ee15⟩ := gen_new ge14 ne12
      clear ge14
      rw [cutV_from _ (by omega)] at ee15
      simp only [← List.map_take, ← List.map_drop, Int.reduceToNat, strs_app] at ee15
      refine ⟨_, _, _, _, rfl, rfl, (se16 _ _ ee7), ee15, (fit (by simp)), fun pe19 ne20 => ?_⟩
      generalize ge22 : upd He13 pe19 (HO.lst (List.map V.str [w1, w0] ++ List.map V.str (List.drop (2 : Nat) [w0, w1, w2, w3, w4]))) = He21
      obtain ⟨se24, ee23⟩ := gen_new ge22 ne20
      clear ge22
      simp only [List.append_nil, strs_app, strs_snoc, ← List.map_reverse] at ee23
      refine ⟨⟨_, rfl⟩, _, rfl, _, _, _, rfl, rfl, (.inl (SqL.of ee23)), few40 (app40 (fun w hw => wl w (by simp only [List.mem_cons, List.not_mem_nil, or_false] at hw ⊢; rcases hw with rfl | rfl <;> simp)) (drop40 _ wl)) (by simp only [List.length_append, List.length_cons, List.length_nil, List.length_take, List.length_drop, List.length_reverse]; omega), ?_⟩
      exact k _ _ _ _ (join40 (app40 (fun w hw => wl w (by simp only [List.mem_cons, List.not_mem_nil, or_false] at hw ⊢; rcases hw with rfl | rfl <;> simp)) (drop40 _ wl)) (by simp only [List.length_append, List.length_cons, List.length_nil, List.length_take, List.length_drop, List.length_reverse]; omega)) (((Same.but se8).trans (Same.but se16)).trans (Same.but se24)) (Pa43.same ((se8.trans se16).trans se24)) (by omega)
    have ca45 := of_dec ca45
    refine ⟨_, rfl, rfl, _, rfl, ?_⟩
    show @ite _ _ (_) _ _
    refine ite2 (fun ca45 => ?_) (fun ca45 => ?_)
    · refine ⟨_, rfl, _, rfl, _, _, rfl, (SqL.of ew), fun pf3 nf4 => ?_⟩
      generalize gf6 : upd Ha37 pf3 (HO.lst (cutV (List.map V.str [w0, w1, w2, w3, w4]) (some (3 : Int)) none)) = Hf5
      obtain ⟨sf8, ef7⟩ := gen_new gf6 nf4
      clear gf6
      rw [cutV_from _ (by omega)] at ef7
      simp only [← List.map_take, ← List.map_drop, Int.reduceToNat, strs_app] at ef7
      refine ⟨_, rfl, _, rfl, _, rfl, _, _, rfl, (SqL.of (sf8 _ _ ew)), fun pf11 nf12 => ?_⟩
      generalize gf14 : upd Hf5 pf11 (HO.lst (cutV (List.map V.str [w0, w1, w2, w3, w4]) (some (2 : Int)) (some (3 : Int)))) = Hf13
      obtain ⟨sf16, ef15⟩ := gen_new gf14 nf12
      clear gf14
      have ef15 : Hf13 pf11 = some (HO.lst (List.map V.str [w2])) := ef15
      refine ⟨_, _, _, _, rfl, rfl, (sf16 _ _ ef7), ef15, (fit (by simp)), fun pF3 nF4 => ?_⟩
      generalize gF6 : upd Hf13 pF3 (HO.lst (List.map V.str (List.drop (3 : Nat) [w0, w1, w2, w3, w4]) ++ List.map V.str [w2])) = HF5
      obtain ⟨sF8, eF7⟩ := gen_new gF6 nF4
      clear gF6
      simp only [List.append_nil, strs_app, strs_snoc, ← List.map_reverse] at eF7
      refine ⟨_, rfl, _, rfl, _, _, rfl, (SqL.of (sF8 _ _ (sf16 _ _ (sf8 _ _ ew)))), fun pF11 nF12 => ?_⟩
      generalize gF14 : upd HF5 pF11 (HO.lst (cutV (List.map V.str [w0, w1, w2, w3, w4]) none (some (2 : Int)))) = HF13
      obtain ⟨sF16, eF15⟩ := gen_new gF14 nF12
      clear gF14
      rw [cutV_to _ (by omega)] at eF15
      simp only [← List.map_take, ← List.map_drop, Int.reduceToNat, strs_app] at eF15
      refine ⟨_, _, _, _, rfl, rfl, (sF16 _ _ eF7), eF15, (fit (by simp)), fun pF19 nF20 => ?_⟩
      generalize gF22 : upd HF13 pF19 (HO.lst (List.map V.str (List.drop (3 : Nat) [w0, w1, w2, w3, w4] ++ [w2]) ++ List.map V.str (List.take (2 : Nat) [w0, w1, w2, w3, w4]))) = HF21
      obtain ⟨sF24, eF23⟩ := gen_new gF22 nF20
      clear gF22
      simp only [List.append_nil, strs_app, strs_snoc, ← List.map_reverse] at eF23
      refine ⟨⟨_, rfl⟩, _, rfl, _, _, _, rfl, rfl, (.inl (SqL.of eF23)), few40 (app40 (app40 (drop40 _ wl) (one40 (wl w2 (by simp)))) (take40 _ wl)) (by simp only [List.length_append, List.length_cons, List.length_nil, List.length_take, List.length_drop, List.length_reverse]; omega), ?_⟩
      exact k _ _ _ _ (join40 (app40 (app40 (drop40 _ wl) (one40 (wl w2 (by simp)))) (take40 _ wl)) (by simp only [List.length_append, List.length_cons, List.length_nil, List.length_take, List.length_drop, List.length_reverse]; omega)) (((((Same.but sf8).trans (Same.but sf16)).trans (Same.but sF8)).trans (Same.but sF16)).trans (Same.but sF24)) (Pa43.same ((((sf8.trans sf16).trans sF8).trans sF16).trans sF24)) (by omega)
    have ca45 := of_dec ca45
    refine ⟨_, rfl, rfl, _, rfl, ?_⟩
    show @ite _ _ (_) _ _
    refine ite2 (fun ca45 => ?_) (fun ca45 => ?_)
    · have b1 : (Str.ofString " ").length = 1 := by decide +kernel
      have b2 : (Str.ofString "\n").length = 1 := by decide +kernel
      have b3 : (Str.ofString "  ").length = 2 := by decide +kernel
      have b4 : (Str.ofString "/").length = 1 := by decide +kernel
      have a1 : (Str.ofString " ").length + x.length ≤ sizeLine := fit (by rw [b1]; omega)
      have a2 : x.length + (Str.ofString " ").length ≤ sizeLine := fit (by rw [b1]; omega)
      have a3 : x.length + (Str.ofString "\n").length ≤ sizeLine := fit (by rw [b2]; omega)
      have a4 : x.length + (x.length + 1) * (Str.ofString "  ").length ≤ 16777216 := by rw [b3]; omega
      have a5 : x.length + (x.length + 1) * (Str.ofString "/").length ≤ 16777216 := by rw [b4]; omega
      refine ⟨_, rfl, _, _, rfl, rfl, a1, _, rfl, _, _, rfl, rfl, a2, _, rfl, _, _, rfl, rfl, a3, ?_⟩
      refine ⟨_, rfl, x, rfl, a4, fun r1 hr1 => ?_⟩
      refine ⟨(fit (by simp)), fun pg3 ng4 => ?_⟩
      generalize gg6 : upd Ha37 pg3 (HO.lst [V.str (Str.ofString " " ++ x), V.str (x ++ Str.ofString " "), V.str (x ++ Str.ofString "\n"), V.str r1, V.str (Str.ofString "")]) = Hg5
      obtain ⟨sg8, eg7⟩ := gen_new gg6 ng4
      clear gg6
      have eg7 : Hg5 pg3 = some (HO.lst (List.map V.str [Str.ofString " " ++ x, x ++ Str.ofString " ", x ++ Str.ofString "\n", r1, Str.ofString ""])) := eg7
      refine ⟨_, rfl, _, rfl, ?_⟩
      refine ⟨_, rfl, x, rfl, a5, fun r2 hr2 => ?_⟩
      refine ⟨(fit (by simp)), fun pG3 nG4 => ?_⟩
      generalize gG6 : upd Hg5 pG3 (HO.lst [V.str r2]) = HG5
      obtain ⟨sG8, eG7⟩ := gen_new gG6 nG4
      clear gG6
      have eG7 : HG5 pG3 = some (HO.lst (List.map V.str [r2])) := eG7
      refine ⟨_, _, _, _, rfl, rfl, (sG8 _ _ eg7), eG7, (fit (by simp)), fun pG11 nG12 => ?_⟩
      generalize gG14 : upd HG5 pG11 (HO.lst (List.map V.str [Str.ofString " " ++ x, x ++ Str.ofString " ", x ++ Str.ofString "\n", r1, Str.ofString ""] ++ List.map V.str [r2])) = HG13
      obtain ⟨sG16, eG15⟩ := gen_new gG14 nG12
      clear gG14
      simp only [List.append_nil, strs_app, strs_snoc, ← List.map_reverse] at eG15
      have eG15 : HG13 pG11 = some (HO.lst (List.map V.str [Str.ofString " " ++ x, x ++ Str.ofString " ", x ++ Str.ofString "\n", r1, Str.ofString "", r2])) := eG15
      refine ⟨_, _, _, _, _, _, _, rfl, (Pa43.same ((sg8.trans sG8).trans sG16)), (by omega), (SqL.of eG15), (ne_of_none (sG8 _ _ (sg8 _ _ Pa43.a)) nG12).symm, (by simp), (by simp only [List.length_map, List.length_cons, List.length_nil]; omega), fun v Hz tz zz hv bz Pz hz => ?_⟩
      obtain ⟨y, rfl, wy⟩ := pick_word (n := 900) hv (texts_ok wx hr1 hr2)
      exact k _ _ _ _ wy ((Same.but ((sg8.trans sG8).trans sG16)).trans bz) Pz (by omega)
    have ca45 := of_dec ca45
    refine ⟨⟨_, rfl⟩, _, rfl, _, _, _, rfl, rfl, (.inl (SqL.of ew)), few40 wl (by simp only [List.length_append, List.length_cons, List.length_nil, List.length_take, List.length_drop, List.length_reverse]; omega), ?_⟩
    exact k _ _ _ _ (join40 wl (by simp only [List.length_append, List.length_cons, List.length_nil, List.length_take, List.length_drop, List.length_reverse]; omega)) (But.refl _ _) Pa43 (by omega)
theorem d_law_bent (e : Ev K mg base) : DefN P w K mg base 4 "_law_bent" ["pen", "text"] (spBentP K) := by
  obtain ⟨fd, F⟩ := e.c.def_ 26 (d := dd "_law_bent" 31) rfl
  exact ⟨⟨fd, ok_law_bent F e, FunD.bindsN F fun _ _ _ _ _ _ us hl => match us, hl with | [_, _], _ => rfl⟩, F.kp, He.glo_ok e.X e.G (e.c.fact 56 rfl)⟩
theorem pe_heardR {X : Cx} (e : Ev X.K X.mg X.base) {p : He.Defn} {T : List (Addr × Str)} (hT : ((He.cT X.K p).2, X.env.qual ++ "<lambda>") ∈ T ∧ ∀ q ∈ T, q.1 = (He.cT X.K p).2 → q.2 = X.env.qual ++ "<lambda>") (hp : p ∈ tf) {params : Arguments} {a : Expr} {scope : Scope} {ta : TA} {p1 p2 p3 ap lpos pos : Pos} (hcode : X.env.code = .ref (He.codeOf X.K p)) (hr : Room 9 X.A) (hg : Gl X "_law_heard") (L : LamX.LamS X.env.scope scope) (hF : scope.names.lookup ("Parting" : Str) = some .globalImplicit) (hdef : defaultsOf params X.env = ([], []))
    (hbind : ∀ (q : Str) (cl : List (Str × Addr)) (pm cv ctv : Value), bindArgs (PySem.W.kla_fn "<lambda>" q params (.Call (.Attribute (.Name "Parting" p2) "read" ap) [a] [] p3) scope cl pm cv ctv) ⟨[], []⟩ = pure [])
    (he : ∀ env, starEach [a] env = (false, eval a env) :: starEach [] env) (hpl : ∀ env, (backTo p3 (starEach [] env)).any (·.1) = false)
    (ht : ∀ env, ∃ pl, eval (.Call (.Attribute (.Name "Parting" p2) "read" ap) [a] [] p3) env = (do
      let ov ← eval (.Name "Parting" p2) env
      standAt ap.atName
      let (f, first) ← holding [ov] (getMethod ov "read" pl)
      callWith p3 f first (backTo p3 (starEach [a] env)) (backToKw p3 (keywordEach [] env))))
    (ha : ∀ (A : Around) (outer : List Env) (s : Shared) (H : Hp) (E : XK) (f c' : Addr), PA (LamX.lamCx X A outer s H E scope f c') [a] ta) :
    PE X (.Call (.Name "_law_heard" p1) [.Lambda params (.Call (.Attribute (.Name "Parting" p2) "read" ap) [a] [] p3) scope lpos] [] pos) (LamX.tLam T (TT28 X.K) (fun E => ClX.tCMeth (He.ga X.K "Parting") (fun vs H Q E => spReadP X.K (vs ++ []) H Q E) E (tC (.ref (He.ga X.K "Parting"))) ta)) :=
  pe_heard e hp hT hcode hr hg L hdef hbind fun A outer s H E f c' hr2 => by
    obtain ⟨pl, ht⟩ := ht (LamX.lamCx X A outer s H E scope f c').env
    exact pe_clm (X := LamX.lamCx X A outer s H E scope f c') (d_Parting_read e) hr2 (passes_call (takes_of rfl rfl rfl rfl) fun _ _ _ _ h => h) (pe_glob hF (g_Parting e) (show RelV (.ref (He.ga X.K "Parting")) (.ref (He.ga X.K "Parting")) from rfl)) (ha A outer s H E f c') (he _) (hpl _) ht
def spTexts28 (K : PySem.W.Frag) : Sp := fun vs H Q _ => ∃ (p c q : Addr) (ms : List Int) (t : Nat) (z : Int) (hs ny fy : List Str), vs = [.ref p, .ref q] ∧ Pen H p c ms t z ∧ t < 700000 ∧ PartAt K H q hs ny fy ∧ q ≠ p ∧ (∃ x y, ny.head? = some x ∧ fy.head? = some y ∧ ltCps x.cps.toList y.cps.toList = true) ∧ AscOf ny ny ∧ AscOf fy fy ∧ LamX.Tabs (lamT K) H ∧
  ∀ (H' : Hp) (t' : Nat) (z' : Int), ButT p H H' → Pen H' p c ms t' z' → t' ≤ t + 30 → LamX.Tabs (lamT K) H' → Q (.bl true) H'
theorem sc_law_texts_right : FnScope ["pen", "thing", "turn", "text", "due", "heard", "odd"] ["pen", "thing"] (defScope (top 32)) := ⟨rfl, rfl, rfl, by decide +kernel, rfl, by decide +kernel, by decide +kernel⟩
theorem PartAt.butT {K : PySem.W.Frag} {H H' : Hp} {p c q : Addr} {ms : List Int} {t : Nat} {z : Int} {hs ny fy : List Str} (P : Pen H p c ms t z) (n : q ≠ p) (s : ButT p H H') (h : PartAt K H q hs ny fy) : PartAt K H' q hs ny fy := by
  obtain ⟨⟨dx, t1, t2, t3, t4, a1, a2, a3, a4, a5⟩, u, v⟩ := h
  exact ⟨⟨dx, t1, t2, t3, t4, s _ _ n a1 nofun, s _ _ (ne_of a2 P.a nofun) a2 nofun, s _ _ (ne_of a3 P.a nofun) a3 nofun, s _ _ (ne_of a4 P.a nofun) a4 nofun, s _ _ (ne_of a5 P.a nofun) a5 nofun⟩, u, v⟩
theorem part40 {a b : List Str} (t : Two a b) : Word 40 (partText a b) := by
  have wn := Word.join (m := 1) (n := 8) (k := 2) (y := Str.ofString " ") (word_of (by decide +kernel)) (fun w hw => word_nm (t.nm w (List.mem_append_left _ hw))) (Nat.le_of_eq t.la)
  have wf := Word.join (m := 1) (n := 8) (k := 2) (y := Str.ofString " ") (word_of (by decide +kernel)) (fun w hw => word_nm (t.nm w (List.mem_append_right _ hw))) (Nat.le_of_eq t.lb)
  exact ((wn.app (word_of (n := 3) (x := Str.ofString " / ") (by decide +kernel))).app wf).mono (by decide)
theorem readL_five {ws : List Str} {q : List Str × List Str} (h : readL ws = some q) : ∃ a b c d, q = ([a, b], [c, d]) ∧ ws.length = 5 := by
  unfold readL at h
  split at h
  · split at h
    · cases h
      exact ⟨_, _, _, _, rfl, rfl⟩
    · cases h
  · cases h
theorem ok_law_texts_right {fd : FuncData} (F : FunD K "_law_texts_right" "_law_texts_right" (defArgs (top 32)) (defBody (top 32)) (defScope (top 32)) [] [] (He.ga K "_law_texts_right") fd) (e : Ev K mg base) : FnG P w K mg base CX0 11 (He.ga K "_law_texts_right") fd ["pen", "thing"] (spTexts28 K) := by
  refine okGC (p := ("_law_texts_right", none)) rfl F sc_law_texts_right (fun vs H Q E h => ?_) (fun A outer s H vs Q E hgu hr h => ?_)
  · obtain ⟨_, _, _, _, _, _, _, _, _, rfl, _⟩ := h
    rfl
  · skip
    refine ⟨_, PSs.nox ((pss_cons (ps_for PassesOwn.never rfl (pi_range1 (by rfl) (f_range e) (pa_cons pe_int pa_nil)) (pg_name (i := 2) sc_law_texts_right.nd rfl (Or.inl rfl))
      (pss_cons (ps_set (i := 3) sc_law_texts_right.nd rfl (Or.inr rfl) (pe_def (d_law_bent (P := P) (w := w) (K := K) (mg := mg) (base := base) e) (hr.mono (by decide)) (by rfl) (pa_cons (pv 0) (pa_cons (pe_callTy (call_strOwn (d_Parting___str__ e) (hr.mono (by decide)) (me_Parting___str__ e).at_ (me_Parting___str__ e).fn) (by rfl) (f_str e) (by decide +kernel) (pa_cons (pv 1) pa_nil)) pa_nil))))
      (pss_cons (ps_par (i := 4) (j := 5) (by rfl) sc_law_texts_right.nd rfl rfl (by decide) rfl rfl (pa_cons (pe_def (d_law_read (P := P) (w := w) (K := K) (mg := mg) (base := base) e) (hr.mono (by decide)) (by rfl) (pa_cons (pv 3) pa_nil)) (pa_cons (pe_heardR e (p := ("_law_texts_right", none)) (T := lamT K) (by exact lamT_one e (.inr (.inl rfl))) (by simp [tf]) rfl (hr.mono (by decide)) rfl (by exact LamX.lamS_by (sc := defScope (top 32)) (by decide +kernel)) rfl rfl (fun _ _ _ _ _ => rfl) (fun _ => rfl) (fun _ => rfl) (fun _ => ⟨_, rfl⟩) (by exact fun _ _ _ _ _ _ _ => pa_cons (pv 3) pa_nil)) pa_nil)) (by rfl))
      (pss_one (ps_if (pt_cmpR op_isN (pv 4) pe_non (nomark _))
      (pss_one (ps_if (pt_cmpR (kop_neD (K := K) hr.units) (pv 5) (pe_tup (pa_cons pe_str (pa_cons pe_int (pa_cons pe_int pa_nil)))) (nomark _))
      (pss_one (ps_ret pe_bl)) pss_nil)) (pss_one (ps_if (PW.pt (pw_or (pt_not (pt_val (pe_callB (kcall_isi (K := K)) (by rfl) (f_isinstance e) (by decide +kernel) (pa_cons (pv 5) (pa_cons (pe_bltn (by rfl) (f_list e) (by decide +kernel) (show RelV (.ty "list") (.type "list") from rfl)) pa_nil))))) (pw_or (pt_not (pt_val (pe_callB (kcall_isi (K := K)) (by rfl) (f_isinstance e) (by decide +kernel) (pa_cons (pe_ix (kix_list (K := K)) (pv 5) pe_int (fun _ _ => rfl)) (pa_cons (pe_glob (by rfl) (g_Parting e) (show RelV (.ref (He.ga K "Parting")) (.ref (He.ga K "Parting")) from rfl)) pa_nil))))) (pw_or1 (pt_cmpR (kop_neD (K := K) hr.units) (kpe_fld (K := K) (pe_ix (kix_list (K := K)) (pv 5) pe_int (fun _ _ => rfl)) rfl) (pv 4) (nomark _))))))
      (pss_one (ps_ret pe_bl)) pss_nil)))))))
      (pss_cons (ps_set (i := 6) sc_law_texts_right.nd rfl (Or.inr rfl) (pe_def (d_law_pick (P := P) (w := w) (K := K) (mg := mg) (base := base) e) (hr.mono (by decide)) (by rfl) (pa_cons (pv 0) (pa_cons (pe_lst (pa_cons pe_non (pa_cons pe_int (pa_cons pe_bl (pa_cons (pe_lst (pa_cons pe_str pa_nil)) (pa_cons (pe_tup (pa_cons pe_str (pa_cons pe_str pa_nil))) (pa_cons pe_dnewK (pa_cons (pv 1) pa_nil)))))))) pa_nil))))
      (pss_one (ps_ret (pe_cmpR (kop_eqD (K := K) hr.units) (pe_heardR e (p := ("_law_texts_right", none)) (T := lamT K) (by exact lamT_one e (.inr (.inl rfl))) (by simp [tf]) rfl (hr.mono (by decide)) rfl (by exact LamX.lamS_by (sc := defScope (top 32)) (by decide +kernel)) rfl rfl (fun _ _ _ _ _ => rfl) (fun _ => rfl) (fun _ => rfl) (fun _ => ⟨_, rfl⟩) (by exact fun _ _ _ _ _ _ _ => pa_cons (pv 6) pa_nil)) (pe_tup (pa_cons pe_str (pa_cons pe_int (pa_cons pe_int pa_nil)))) (nomark _))))))), ?_⟩
    obtain ⟨p, c, q, ms, t, z, hs, ny, fy, rfl, hP, ht, hq, nqp, lt, an, af, hT, k⟩ := h
    obtain ⟨hx, hy, ex, ey, lt⟩ := lt
    have rt := readP_text hq.t an af ex ey lt
    have wt := part40 hq.t
    have h5 : (Txt.split (partText ny fy) (Str.ofString " ")).length = 5 := by
      rw [readP_words] at rt
      obtain ⟨_, _, _, _, _, h⟩ := readL_five rt
      exact h
    clear rt ex ey lt an af
    refine ⟨_, rfl, (by omega), (by omega), ?_⟩
    refine for_range (lo := 0) (n := 6) (fun i σ H' => ∃ (t' : Nat) (z' : Int) (x2 x3 x4 x5 x6 : Option V), σ = [some (.ref p), some (.ref q), x2, x3, x4, x5, x6] ∧ Pen H' p c ms t' z' ∧ LamX.Tabs (lamT K) H' ∧ ButT p H H' ∧ t' ≤ t + 4 * i)
      ⟨t, z, none, none, none, none, none, rfl, hP, hT, ButT.refl, by omega⟩ ?_ ?_
    · rintro i σ H1 hi ⟨t1, z1, x2, x3, x4, x5, x6, rfl, P1, T1, B1, ht1⟩
      have hq1 := hq.butT hP nqp B1
      clear hq
      obtain ⟨⟨dxa9, t1a10, t2a11, t3a12, t4a13, ea14, ea15, ea16, ea17, ea18⟩, ea19, ea20⟩ := id hq1
      have ha21 := ea19.la
      have ha22 := ea19.lb
      refine ⟨_, rfl, _, rfl, _, _, _, rfl, ea14, _, _, _, _, rfl, hq1, _, rfl, _, _, _, _, _, _, rfl, P1, (by omega), wt, h5, fun ya31 Ha32 xa33 xa34 ha35 ba36 Pa37 ha38 => ?_⟩
      have Bq := Same.but (p := p) (Same.refl H1)
      have T2 := tabs_but T1 P1 ba36
      have B2 := B1.trans (ButT.of ba36)
      clear ea14 ea15 ea16 ea17 ea18 ha21 ha22 ea19 ea20
      have hy := ha35
      refine ⟨_, rfl, ?_⟩
      cases er : readP ya31 with
      | none =>
        refine ⟨_, rfl, hy.l, hy.p, (fun a b c d z => absurd (er.symm.trans z) nofun), fun _ H3 s3 => ?_⟩
        have P3 := Pa37.same s3
        have T3 := T2.ext s3
        have B3 := B2.trans (ButT.ofS s3)
        refine heard28 (K := K) (T := lamT K) (cls := .ref (He.ga K "BadText")) (fs := btF 0) (items := [.str "text", .int 0, .int 0]) (.inr (.inl ⟨rfl, .int 0, .int 0, rfl, rfl⟩)) T3 (fun H4 e4 => ?_) (fun g H4 e4 T4 eg => ?_)
        · exact ⟨rfl, _, rfl, _, rfl, .inl ⟨_, rfl, hy.l, (fun ny fy z => absurd (er.symm.trans z) nofun), fun _ d H' s n ed => ⟨rfl, d, rfl, ed, s⟩⟩⟩
        · have P4 := P3.ext e4
          have B4 := B3.trans (ButT.ofN e4)
          clear P3 T3 B3 e4
          refine ⟨_, _, rfl, _, rfl, rfl, _, rfl, ?_⟩
          show @ite _ _ (_) _ _
          refine ite_same ?_
          refine ⟨_, rfl, (fit (by simp)), fun pc3 nc4 => ?_⟩
          generalize gc6 : upd H4 pc3 (HO.tup [V.str (Str.ofString "text"), V.int (0 : Int), V.int (0 : Int)]) = Hc5
          obtain ⟨sc8, ec7⟩ := gen_new gc6 nc4
          clear gc6
          refine ⟨_, _, (.tup (SqT.of (sc8 _ _ eg)) (.cons (.str _) (.cons (.int _) (.cons (.int _) .nil)))), (.tup (SqT.of ec7) (.cons (.str _) (.cons (.int _) (.cons (.int _) .nil)))), (by decide +kernel), (by decide +kernel), _, rfl, ?_⟩
          show @ite _ _ (_) _ _
          refine ite_no (by decide +kernel) ?_
          exact ⟨_, _, _, _, _, _, _, rfl, (P4.same sc8), (T4.ext sc8), (B4.trans (ButT.ofS sc8)), (by omega)⟩
      | some w =>
        obtain ⟨a, b, c', d, ew, _⟩ := readL_five (by rw [← readP_words]; exact er)
        subst ew
        refine ⟨_, rfl, hy.l, hy.p, (fun a b c d z tt u v H3 s3 n3 e3 e4 e5 => ?_), fun z => absurd (er.symm.trans z) nofun⟩
        have P3 := Pa37.same s3
        have T3 := T2.ext s3
        have B3 := B2.trans (ButT.ofS s3)
        refine heard28v (K := K) (T := lamT K) T3 (fun v H' => ∃ q hs, v = .ref q ∧ PartAt K H' q hs [a, b] [c, d]) (fun H4 x4 => ?_) (fun v g H4 H5 x4 r4 s5 T5 eg => ?_)
        · exact ⟨rfl, _, rfl, _, rfl, .inl ⟨_, rfl, hy.l, (fun ny fy z2 p hs H' s n pa => by rw [z] at z2; cases z2; exact ⟨⟨p, hs, rfl, pa⟩, s⟩), fun z2 => absurd (z.symm.trans z2) nofun⟩⟩
        · obtain ⟨q2, hs2, rfl, pa4⟩ := r4
          have e3 := s5 _ _ (x4 _ _ e3 nofun)
          have e4 := s5 _ _ (x4 _ _ e4 nofun)
          have e5 := s5 _ _ (x4 _ _ e5 nofun)
          have P5 := (P3.ext x4).same s5
          have B5 := (B3.trans (ButT.ofN x4)).trans (ButT.ofS s5)
          have pa5 := pa4.same s5
          clear P3 T3 B3 x4 pa4 s5 hq1
          refine ⟨_, _, rfl, _, rfl, rfl, _, rfl, ?_⟩
          show @ite _ _ (_) _ _
          refine iteF ?_
          refine ⟨_, rfl, _, _, _, _, _, rfl, (.ty _), (.base (.lst eg)), rfl, _, rfl, ?_⟩
          show @ite _ _ (_) _ _
          refine ite_no (by decide +kernel) ?_
          obtain ⟨⟨dxd1, t1d2, t2d3, t3d4, t4d5, ed6, ed7, ed8, ed9, ed10⟩, ed11, ed12⟩ := id pa5
          have hd13 := ed11.la
          have hd14 := ed11.lb
          refine ⟨_, rfl, _, _, _, _, rfl, rfl, (SqL.of eg), rfl, _, _, _, _, _, rfl, (.own _), ((own_Parting e).ty (cls_Parting e) ed6), kit_same, _, rfl, ?_⟩
          show @ite _ _ (_) _ _
          refine ite_no (by decide +kernel) ?_
          refine ⟨_, rfl, _, _, _, _, rfl, rfl, (SqL.of eg), rfl, _, _, _, _, _, rfl, ed6, (cls_Parting e), (no_Parting_pairs e), rfl, _, rfl, _, _, (.tup (SqT.of ed8) (.cons (.tup (SqT.of ed9) (dp_strs _)) (.cons (.tup (SqT.of ed10) (dp_strs _)) .nil))), (.tup (SqT.of e3) (.cons (.tup (SqT.of e4) (dp_strs _)) (.cons (.tup (SqT.of e5) (dp_strs _)) .nil))), (shaped_two (fun n hn => ed11.nm n (List.mem_append_left _ hn)) (fun n hn => ed11.nm n (List.mem_append_right _ hn))), (shaped_two (fun n hn => ed11.nm n (List.mem_append_left _ hn)) (fun n hn => ed11.nm n (List.mem_append_right _ hn))), _, rfl, ?_⟩
          show @ite _ _ (_) _ _
          rw [eqv_two]
          refine ite_no (by simp) ?_
          exact ⟨_, _, _, _, _, _, _, rfl, P5, T5, B5, (by omega)⟩
    · rintro σ H1 ⟨t1, z1, x2, x3, x4, x5, x6, rfl, P1, T1, B1, ht1⟩
      have hq1 := hq.butT hP nqp B1
      refine ⟨_, rfl, (fit (by simp)), fun pb3 nb4 => ?_⟩
      generalize gb6 : upd H1 pb3 (HO.lst [V.str (Str.ofString "a b / c d")]) = Hb5
      obtain ⟨sb8, eb7⟩ := gen_new gb6 nb4
      clear gb6
      refine ⟨(fit (by simp)), fun pb11 nb12 => ?_⟩
      generalize gb14 : upd Hb5 pb11 (HO.tup [V.str (Str.ofString "a"), V.str (Str.ofString "b")]) = Hb13
      obtain ⟨sb16, eb15⟩ := gen_new gb14 nb12
      clear gb14
      intro pb17 nb18
      generalize gb20 : upd Hb13 pb17 (HO.dK []) = Hb19
      obtain ⟨sb22, eb21⟩ := gen_new gb20 nb18
      clear gb20
      refine ⟨_, rfl, (fit (by simp)), fun pb25 nb26 => ?_⟩
      generalize gb28 : upd Hb19 pb25 (HO.lst [V.non, V.int (0 : Int), V.bl true, V.ref pb3, V.ref pb11, V.ref pb17, V.ref q]) = Hb27
      obtain ⟨sb30, eb29⟩ := gen_new gb28 nb26
      clear gb28
      have SS := ((sb8.trans sb16).trans sb22).trans sb30
      refine ⟨p, c, pb25, ms, t1, z1, _, rfl, P1.same SS, by omega, SqL.of eb29, (ne_of_none (((sb8.trans sb16).trans sb22) _ _ P1.a) nb26).symm, nofun, by show 7 < 1000000; decide, fun v Hd td zd hv bd Pd htd => ?_⟩
      have Td := tabs_but (T1.ext SS) (P1.same SS) bd
      have Bd := (B1.trans (ButT.ofS SS)).trans (ButT.of bd)
      have key : ∃ t, TyX K Hd v t ∧ PySem.W.kitOne K t (.type "str") = some false := by
        simp only [List.mem_cons, List.not_mem_nil, or_false] at hv
        rcases hv with rfl | rfl | rfl | rfl | rfl | rfl | rfl
        · exact ⟨_, .base .non, kit_ty (by decide +kernel)⟩
        · exact ⟨_, .base (.int _), kit_ty (by decide +kernel)⟩
        · exact ⟨_, .base (.bl _), kit_ty (by decide +kernel)⟩
        · exact ⟨_, .base (.lst (bd _ _ (ne_of_none P1.a nb4).symm (sb30 _ _ (sb22 _ _ (sb16 _ _ eb7))))), kit_ty (by decide +kernel)⟩
        · exact ⟨_, .base (.tup (bd _ _ (ne_of_none (sb8 _ _ P1.a) nb12).symm (sb30 _ _ (sb22 _ _ eb15)))), kit_ty (by decide +kernel)⟩
        · exact ⟨_, .base (.dK (bd _ _ (ne_of_none ((sb8.trans sb16) _ _ P1.a) nb18).symm (sb30 _ _ eb21))), kit_ty (by decide +kernel)⟩
        · obtain ⟨⟨dx, u1, u2, u3, u4, a1, _⟩, _⟩ := hq1
          exact ⟨_, (own_Parting e).ty (cls_Parting e) (bd _ _ nqp (SS _ _ a1)), (own_Parting e).ik _ (by simp [kinds])⟩
      obtain ⟨ty, hty, kty⟩ := key
      refine heard28 (K := K) (T := lamT K) (cls := .ref (He.ga K "BadText")) (fs := btF 0) (items := [.str "text", .int 0, .int 0]) (.inr (.inl ⟨rfl, .int 0, .int 0, rfl, rfl⟩)) Td (fun H3 e3 => ?_) (fun g H4 e4 T4 eg => ?_)
      · refine ⟨rfl, _, rfl, v, rfl, .inr ⟨ty, tyX_ext e3 hty, kty, fun d H' s n ed => ⟨rfl, d, rfl, ed, s⟩⟩⟩
      · refine ⟨(fit (by simp)), fun pb3 nb4 => ?_⟩
        generalize gb6 : upd H4 pb3 (HO.tup [V.str (Str.ofString "text"), V.int (0 : Int), V.int (0 : Int)]) = Hb5
        obtain ⟨sb8, eb7⟩ := gen_new gb6 nb4
        clear gb6
        refine ⟨_, _, (.tup (SqT.of (sb8 _ _ eg)) (.cons (.str _) (.cons (.int _) (.cons (.int _) .nil)))), (.tup (SqT.of eb7) (.cons (.str _) (.cons (.int _) (.cons (.int _) .nil)))), (by decide +kernel), (by decide +kernel), ?_⟩
        exact k _ _ _ ((Bd.trans (ButT.ofN e4)).trans (ButT.ofS sb8)) (Pd.ext (e4.trans (extS sb8))) (by omega) (T4.ext sb8)
theorem d_law_texts_right (e : Ev K mg base) : DefG P w K mg base 11 "_law_texts_right" ["pen", "thing"] (spTexts28 K) := by
  obtain ⟨fd, F⟩ := e.c.def_ 27 (d := dd "_law_texts_right" 32) rfl
  exact ⟨⟨fd, ok_law_texts_right F e, FunD.bindsN F fun _ _ _ _ _ _ us hl => match us, hl with | [_, _], _ => rfl⟩, F.kp, He.glo_ok e.X e.G (e.c.fact 57 rfl)⟩
theorem pe_heardM {X : Cx} (e : Ev X.K X.mg X.base) {p : He.Defn} {T : List (Addr × Str)} (hT : ((He.cT X.K p).2, X.env.qual ++ "<lambda>") ∈ T ∧ ∀ q ∈ T, q.1 = (He.cT X.K p).2 → q.2 = X.env.qual ++ "<lambda>") (hp : p ∈ tf) {params : Arguments} {o a : Expr} {scope : Scope} {to : TE} {ta : TA} {p1 p3 ap lpos pos : Pos} (hcode : X.env.code = .ref (He.codeOf X.K p)) (hr : Room 5 X.A) (hg : Gl X "_law_heard") (L : LamX.LamS X.env.scope scope) (hdef : defaultsOf params X.env = ([], []))
    (hbind : ∀ (q : Str) (cl : List (Str × Addr)) (pm cv ctv : Value), bindArgs (PySem.W.kla_fn "<lambda>" q params (.Call (.Attribute o "mate" ap) [a] [] p3) scope cl pm cv ctv) ⟨[], []⟩ = pure [])
    (he : ∀ env, starEach [a] env = (false, eval a env) :: starEach [] env) (hpl : ∀ env, (backTo p3 (starEach [] env)).any (·.1) = false)
    (ht : ∀ env, ∃ pl, eval (.Call (.Attribute o "mate" ap) [a] [] p3) env = (do
      let v ← eval o env
      standAt ap.atName
      let (g, first) ← holding [v] (getMethod v "mate" pl)
      callWith p3 g first (backTo p3 (starEach [a] env)) (backToKw p3 (keywordEach [] env))))
    (ho : ∀ (A : Around) (outer : List Env) (s : Shared) (H : Hp) (E : XK) (f c' : Addr), PE (LamX.lamCx X A outer s H E scope f c') o to)
    (ha : ∀ (A : Around) (outer : List Env) (s : Shared) (H : Hp) (E : XK) (f c' : Addr), PA (LamX.lamCx X A outer s H E scope f c') [a] ta) :
    PE X (.Call (.Name "_law_heard" p1) [.Lambda params (.Call (.Attribute o "mate" ap) [a] [] p3) scope lpos] [] pos) (LamX.tLam T (TT28 X.K) (fun E => tMeth (He.ga X.K "Parting") "mate" (spMateN X.K) [] E to ta)) :=
  pe_heard e hp hT hcode hr hg L hdef hbind fun A outer s H E f c' hr2 => by
    obtain ⟨pl, ht⟩ := ht (LamX.lamCx X A outer s H E scope f c').env
    exact pe_methB (X := LamX.lamCx X A outer s H E scope f c') (db_Parting_mate e) (cls_Parting e) (me_Parting_mate e) hr2 (passes_call (takes_of rfl rfl rfl rfl) fun _ _ _ _ h => h) (ho A outer s H E f c') (ha A outer s H E f c') (he _) (hpl _) ht
theorem pe_heardA {X : Cx} (e : Ev X.K X.mg X.base) {p : He.Defn} {T : List (Addr × Str)} (hT : ((He.cT X.K p).2, X.env.qual ++ "<lambda>") ∈ T ∧ ∀ q ∈ T, q.1 = (He.cT X.K p).2 → q.2 = X.env.qual ++ "<lambda>") (hp : p ∈ tf) {params : Arguments} {a : Expr} {scope : Scope} {ta : TA} {p1 p2 p3 lpos pos : Pos} (hcode : X.env.code = .ref (He.codeOf X.K p)) (hr : Room 8 X.A) (hg : Gl X "_law_heard") (L : LamX.LamS X.env.scope scope) (hF : scope.names.lookup ("answers_of" : Str) = some .globalImplicit) (hdef : defaultsOf params X.env = ([], []))
    (hbind : ∀ (q : Str) (cl : List (Str × Addr)) (pm cv ctv : Value), bindArgs (PySem.W.kla_fn "<lambda>" q params (.Call (.Name "answers_of" p2) [a] [] p3) scope cl pm cv ctv) ⟨[], []⟩ = pure [])
    (he : ∀ env, starEach [a] env = (false, eval a env) :: starEach [] env) (hpl : ∀ env, (backTo p3 (starEach [] env)).any (·.1) = false)
    (ha : ∀ (A : Around) (outer : List Env) (s : Shared) (H : Hp) (E : XK) (f c' : Addr), PA (LamX.lamCx X A outer s H E scope f c') [a] ta) :
    PE X (.Call (.Name "_law_heard" p1) [.Lambda params (.Call (.Name "answers_of" p2) [a] [] p3) scope lpos] [] pos) (LamX.tLam T (TT28 X.K) (fun E => tCall (spAnswers X.K) [] E ta)) :=
  pe_heard e hp hT hcode hr hg L hdef hbind fun A outer s H E f c' hr2 =>
    pe_defC (X := LamX.lamCx X A outer s H E scope f c') (d_answers_of e) hr2 hF (passes_call (takes_of rfl rfl rfl rfl) fun _ _ _ _ h => h) (ha A outer s H E f c') (by decide) (he _) (hpl _)
def spLaw (K : PySem.W.Frag) : Sp := fun vs H Q _ => ∃ (a : Addr) (ns : List Int), vs = [.ref a] ∧ SqL K H a (ns.map V.int) ∧ ns.length ≤ 63 ∧ (∀ p ∈ tf.map (He.cT K), H p.2 = some (.tbl #[])) ∧ ∀ H', Q (.bl true) H'
theorem sc_law : FnScope ["script", "pen", "bout", "hosts", "four", "thing", "odd", "mixed", "found", "some", "code"] ["script"] (defScope (top 33)) := ⟨rfl, rfl, rfl, by decide +kernel, rfl, by decide +kernel, by decide +kernel⟩
theorem made3 {h0 h1 h2 h3 h4 : Str} (hH : Hosts 5 [h0, h1, h2, h3, h4]) {c : Nat} (l1 : 1 ≤ c) (l3 : c ≤ 3) : ∃ m u v, [h0, h1, h2, h3][c]? = some m ∧ restOf [h0, h1, h2, h3] c = [u, v] ∧ RowOk h0 h1 h2 h3 m u v := by
  have ge : ∀ (m u v : Nat), ([0, 1, 2, 3].all fun i => decide (i ∈ [0, m] ++ [u, v])) = true → (([0, m] ++ [u, v]).all fun i => decide (i ∈ [0, 1, 2, 3])) = true → ∀ i, i ∈ [0, 1, 2, 3] ↔ i ∈ [0, m] ++ [u, v] := fun m u v h1 h2 i => ⟨fun q => of_decide_eq_true (List.all_eq_true.mp h1 i q), fun q => of_decide_eq_true (List.all_eq_true.mp h2 i q)⟩
  match c, l1, l3 with
  | 1, _, _ => exact ⟨h1, h2, h3, rfl, rfl, hH.rowOk (a := 0) (b := 1) (c := 2) (d := 3) (m := 1) (u := 2) (v := 3) (by decide) (by decide) (by decide) (by decide) (by decide) (by decide) (ge _ _ _ (by decide) (by decide))⟩
  | 2, _, _ => exact ⟨h2, h1, h3, rfl, rfl, hH.rowOk (a := 0) (b := 1) (c := 2) (d := 3) (m := 2) (u := 1) (v := 3) (by decide) (by decide) (by decide) (by decide) (by decide) (by decide) (ge _ _ _ (by decide) (by decide))⟩
  | 3, _, _ => exact ⟨h3, h1, h2, rfl, rfl, hH.rowOk (a := 0) (b := 1) (c := 2) (d := 3) (m := 3) (u := 1) (v := 2) (by decide) (by decide) (by decide) (by decide) (by decide) (by decide) (ge _ _ _ (by decide) (by decide))⟩
theorem part_lst {K : PySem.W.Frag} {H : Hp} {p a : Addr} {hs ny fy : List Str} {ys zs : List V} (ha : H a = some (.lst ys)) (h : PartAt K H p hs ny fy) : PartAt K (upd H a (.lst zs)) p hs ny fy := by
  obtain ⟨⟨dx, t1, t2, t3, t4, e1, e2, e3, e4, e5⟩, tw, asc⟩ := h
  exact ⟨⟨dx, t1, t2, t3, t4, by rw [upd_ne (ne_of e1 ha nofun)]; exact e1, by rw [upd_ne (ne_of e2 ha nofun)]; exact e2, by rw [upd_ne (ne_of e3 ha nofun)]; exact e3, by rw [upd_ne (ne_of e4 ha nofun)]; exact e4, by rw [upd_ne (ne_of e5 ha nofun)]; exact e5⟩, tw, asc⟩
def MadeC (K : PySem.W.Frag) (hs : List Str) : V → V → Hp → Prop := fun x r H => ∃ k : Nat, x = .int (0 + (k : Nat)) ∧ ((k = 0 ∧ r = .non) ∨ ∃ p a m u v, 1 ≤ k ∧ hs[0]? = some a ∧ hs[k]? = some m ∧ restOf hs k = [u, v] ∧ r = .ref p ∧ PartAt K H p hs [a, m] [u, v])
theorem stays_madeC (K : PySem.W.Frag) (hs : List Str) : Stays (MadeC K hs) := ⟨fun x r H H' s ⟨k, e, h⟩ => ⟨k, e, h.imp id fun ⟨p, a, m, u, v, l, ea, em, er, e2, h⟩ => ⟨p, a, m, u, v, l, ea, em, er, e2, h.same s⟩⟩,
  fun x r H a ys zs ha ⟨k, e, h⟩ => ⟨k, e, h.imp id fun ⟨p, a', m, u, v, l, ea, em, er, e2, h⟩ => ⟨p, a', m, u, v, l, ea, em, er, e2, part_lst ha h⟩⟩⟩
theorem madeC_at {K : PySem.W.Frag} {h0 h1 h2 h3 : Str} {H : Hp} {r : V} {j : Nat} (h : MadeC K [h0, h1, h2, h3] (.int (0 + (j : Nat))) r H) (l : 1 ≤ j) : ∃ p m u v, r = .ref p ∧ [h0, h1, h2, h3][j]? = some m ∧ restOf [h0, h1, h2, h3] j = [u, v] ∧ PartAt K H p [h0, h1, h2, h3] [h0, m] [u, v] := by
  obtain ⟨k, e, h⟩ := h
  have e := V.int.inj e
  obtain rfl : k = j := by omega
  rcases h with ⟨z, _⟩ | ⟨p, a, m, u, v, l, ea, em, er, e2, h⟩
  · omega
  · cases ea
    exact ⟨p, m, u, v, e2, em, er, h⟩
theorem four_made {K : PySem.W.Frag} {h0 h1 h2 h3 : Str} {H : Hp} {rs : List V} (h : RowsV (MadeC K [h0, h1, h2, h3]) H rs ((List.range 4).map fun i : Nat => V.int (0 + (i : Nat)))) : ∃ r1 r2 r3, rs = [.non, .ref r1, .ref r2, .ref r3] ∧ PartAt K H r1 [h0, h1, h2, h3] [h0, h1] [h2, h3] ∧ PartAt K H r2 [h0, h1, h2, h3] [h0, h2] [h1, h3] ∧ PartAt K H r3 [h0, h1, h2, h3] [h0, h3] [h1, h2] := by
  have h : RowsV (MadeC K [h0, h1, h2, h3]) H rs [.int (0 + ((0 : Nat) : Int)), .int (0 + ((1 : Nat) : Int)), .int (0 + ((2 : Nat) : Int)), .int (0 + ((3 : Nat) : Int))] := h
  match rs, h with
  | [a, b, c, d], ⟨ha, hb, hc, hd, _⟩ =>
    obtain ⟨k, e, ha⟩ := ha
    have e := V.int.inj e
    obtain rfl : k = 0 := by omega
    obtain ⟨p1, m1, u1, v1, rfl, m1e, r1e, q1⟩ := madeC_at (j := 1) hb (by omega)
    obtain ⟨p2, m2, u2, v2, rfl, m2e, r2e, q2⟩ := madeC_at (j := 2) hc (by omega)
    obtain ⟨p3, m3, u3, v3, rfl, m3e, r3e, q3⟩ := madeC_at (j := 3) hd (by omega)
    cases m1e
    cases m2e
    cases m3e
    cases r1e
    cases r2e
    cases r3e
    rcases ha with ⟨_, rfl⟩ | ⟨_, _, _, _, _, z, _⟩
    · exact ⟨p1, p2, p3, rfl, q1, q2, q3⟩
    · omega
theorem own_item {K : PySem.W.Frag} {H : Hp} {p r : Addr} {hs ny fy : List Str} (hp : PartAt K H p hs ny fy) (hr : PartAt K H r hs ny fy) : BOwn (He.ga K "Parting") (spEqP K) (.ref p) (.ref r) true H := by
  obtain ⟨⟨dx, t1, t2, t3, t4, e1, e2⟩, e3⟩ := id hp
  obtain ⟨⟨dy, u1, u2, u3, u4, f1, f2⟩, f3⟩ := id hr
  refine ⟨p, r, dx, dy, _, _, rfl, rfl, e1, f1, fun _ => rfl, fun H' s => ⟨p, .ref r, hs, ny, fy, rfl, hp.same s, .inl ⟨r, hs, ny, fy, rfl, hr.same s, fun H2 s2 => ⟨?_, s2⟩⟩⟩⟩
  simp
theorem four_same {K : PySem.W.Frag} {H : Hp} {p1 p2 p3 r1 r2 r3 : Addr} {hs n1 f1 n2 f2 n3 f3 : List Str} (a1 : PartAt K H p1 hs n1 f1) (a2 : PartAt K H p2 hs n2 f2) (a3 : PartAt K H p3 hs n3 f3) (b1 : PartAt K H r1 hs n1 f1) (b2 : PartAt K H r2 hs n2 f2) (b3 : PartAt K H r3 hs n3 f3) :
    PrsB (fun x y b H => BFlat x y b H ∨ BOwn (He.ga K "Parting") (spEqP K) x y b H) [.non, .ref p1, .ref p2, .ref p3] [.non, .ref r1, .ref r2, .ref r3] (fun _ => true) H := by
  refine ⟨rfl, fun i x y hx hy => ?_⟩
  match i, hx, hy with
  | 0, hx, hy =>
    cases hx
    cases hy
    exact .inl ⟨rfl, rfl, rfl⟩
  | 1, hx, hy =>
    cases hx
    cases hy
    exact .inr (own_item a1 b1)
  | 2, hx, hy =>
    cases hx
    cases hy
    exact .inr (own_item a2 b2)
  | 3, hx, hy =>
    cases hx
    cases hy
    exact .inr (own_item a3 b3)
theorem four_no {xs : List V} (h : ∀ ns : List Str, xs = ns.map V.str → (∀ n ∈ ns, IsNm n) → ns.Nodup → ns.length ≠ 4) : fourD (rowN xs) = false := by
  cases e : rowN xs with
  | none => rfl
  | some ns =>
    obtain ⟨e1, e2, e3⟩ := rowN_some e
    exact decide_eq_false (h ns e1 e2 e3)
theorem kind_nm {K : PySem.W.Frag} {H : Hp} {ns : List Str} (h : ∀ n ∈ ns, n.length ≤ sizeLine) : ∀ x ∈ ns.map V.str, Kind K H x := fun x hx => by
  obtain ⟨n, hn, rfl⟩ := List.mem_map.mp hx
  exact .inl ⟨n, rfl, h n hn⟩
theorem odd_four {K : PySem.W.Frag} {H : Hp} {a : Addr} {xs : List V} (hr : RowA H a xs) (l : xs.length ≤ 1000) (k : ∀ x ∈ xs, Kind K H x) (h : ∀ ns : List Str, xs = ns.map V.str → (∀ n ∈ ns, IsNm n) → ns.Nodup → ns.length ≠ 4) : ∃ dv, RowD K H (.ref a) dv ∧ fourD dv = false := ⟨_, .inl ⟨a, xs, rfl, hr, l, k, rfl⟩, four_no h⟩
theorem strs_eq {a b : List Str} (h : a.map V.str = b.map V.str) : a = b := (List.map_inj_right fun _ _ e => V.str.inj e).mp h
theorem odd_flat {K : PySem.W.Frag} {H : Hp} {v : V} {n : String} (h : TyX K H v (.type n)) (h1 : kitB n "list" = some false) (h2 : kitB n "tuple" = some false) : ∃ dv, RowD K H v dv ∧ fourD dv = false := ⟨none, .inr ⟨rfl, _, h, kit_not h1 h2⟩, rfl⟩
theorem ite_te {b : Bool} {ta tb : TE} {σ : L2.St} {H : Hp} {Q : VK} (P : V → Hp → Prop) (ha : ∀ Q' : VK, (∀ x H', P x H' → Q' x H') → ta σ H Q') (hb : ∀ Q' : VK, (∀ x H', P x H' → Q' x H') → tb σ H Q') (k : ∀ x H', P x H' → Q x H') : if b = true then ta σ H Q else tb σ H Q := by
  cases b
  · exact hb Q k
  · exact ha Q k
theorem strsh {g : Str} (h : PyData.strOk g = true) : SeqAt.shaped (.str g) = true := by
  unfold SeqAt.shaped
  simp [PyData.canLay0, PyData.depth, h]
theorem self_item {K : PySem.W.Frag} {H : Hp} {w : V} (h : flatV w = true ∨ ∃ a, w = .ref a) : BFlat w w true H ∨ BSelf w w true H := by
  rcases h with h | ⟨a, rfl⟩
  · refine .inl ⟨h, h, ?_⟩
    cases w <;> first | rfl | (simp [eqV]; done) | cases h
  · exact .inr ⟨a, rfl, rfl, rfl⟩
theorem self_two {K : PySem.W.Frag} {H : Hp} {w : V} {n : Str} (h : flatV w = true ∨ ∃ a, w = .ref a) : PrsB (fun x y b H => BFlat x y b H ∨ BSelf x y b H) [.str n, w] [.str n, w] (fun _ => true) H := by
  refine ⟨rfl, fun i x y hx hy => ?_⟩
  match i, hx, hy with
  | 0, hx, hy =>
    cases hx
    cases hy
    exact self_item (K := K) (.inl rfl)
  | 1, hx, hy =>
    cases hx
    cases hy
    exact self_item (K := K) h
theorem ok_law {fd : FuncData} (F : FunD K "law" "law" (defArgs (top 33)) (defBody (top 33)) (defScope (top 33)) [] [] (He.ga K "law") fd) (e : Ev K mg base) : FnG P w K mg base CX0 12 (He.ga K "law") fd ["script"] (spLaw K) := by
  refine okGC (p := ("law", none)) rfl F sc_law (fun vs H Q E h => ?_) (fun A outer s H vs Q E hgu hr h => ?_)
  · obtain ⟨_, _, rfl, _⟩ := h
    rfl
  · skip
    refine ⟨_, PSs.nox ((pss_cons (ps_set (i := 1) sc_law.nd rfl (Or.inl rfl) (pe_def (d_law_pen (P := P) (w := w) (K := K) (mg := mg) (base := base) e) (hr.mono (by decide)) (by rfl) (pa_cons (pv 0) pa_nil)))
      (pss_cons (ps_for PassesOwn.never rfl (pi_range1 (by rfl) (f_range e) (pa_cons pe_int pa_nil)) (pg_name (i := 2) sc_law.nd rfl (Or.inl rfl))
      (pss_cons (ps_set (i := 3) sc_law.nd rfl (Or.inl rfl) (pe_def (d_law_hosts (P := P) (w := w) (K := K) (mg := mg) (base := base) e) (hr.mono (by decide)) (by rfl) (pa_cons (pv 1) (pa_cons pe_int pa_nil))))
      (pss_cons (ps_if (pt_not (pt_val (pe_defG (d_law_refused_right (P := P) (w := w) (K := K) (mg := mg) (base := base) e) (by exact hgu) (by exact hr.mono (by decide)) (by rfl) (pa_cons (pv 1) (pa_cons (pv 3) pa_nil)))))
      (pss_one (ps_ret pe_bl)) pss_nil)
      (pss_cons (ps_set (i := 4) sc_law.nd rfl (Or.inr rfl) (pe_callTy (kcall_tuple_of (K := K)) (by rfl) (f_tuple e) (by decide +kernel) (pa_cons (pe_slice (ksl_list (K := K)) (pv 3) po_none (po_some pe_int)) pa_nil)))
      (pss_cons (ps_set (i := 5) sc_law.nd rfl (Or.inr rfl) (pe_def (d_law_made (P := P) (w := w) (K := K) (mg := mg) (base := base) e) (hr.mono (by decide)) (by rfl) (pa_cons (pv 4) (pa_cons (pe_op op_add pe_int (pe_def (d_law_draw (P := P) (w := w) (K := K) (mg := mg) (base := base) e) (hr.mono (by decide)) (by rfl) (pa_cons (pv 1) (pa_cons pe_int pa_nil)))) pa_nil))))
      (pss_cons (ps_if (pt_not (pt_val (pe_defG (d_law_texts_right (P := P) (w := w) (K := K) (mg := mg) (base := base) e) (by exact hgu) (by exact hr.mono (by decide)) (by rfl) (pa_cons (pv 1) (pa_cons (pv 5) pa_nil)))))
      (pss_one (ps_ret pe_bl)) pss_nil)
      (pss_cons (ps_set (i := 6) sc_law.nd rfl (Or.inr rfl) (pe_def (d_law_pick (P := P) (w := w) (K := K) (mg := mg) (base := base) e) (hr.mono (by decide)) (by rfl) (pa_cons (pv 1) (pa_cons (pe_lst (pa_cons (pe_ix (kix_list (K := K)) (pv 3) pe_int (fun _ _ => rfl)) (pa_cons pe_non (pa_cons pe_int (pa_cons pe_bl (pa_cons pe_str (pa_cons (pe_lst (pa_cons (pe_ix (kix_list (K := K)) (pv 3) pe_int (fun _ _ => rfl)) pa_nil)) (pa_cons (pe_tup (pa_cons (pe_ix (kix_list (K := K)) (pv 3) pe_int (fun _ _ => rfl)) pa_nil)) (pa_cons pe_dnewK (pa_cons (pv 5) pa_nil)))))))))) pa_nil))))
      (pss_cons (ps_if (pt_cmpR (op_rowNe (monB_flat.or monB_self) (eqB_flat.or eqB_self) (hr.mono (by decide))) (pe_heardM e (p := ("law", none)) (T := lamT K) (by exact lamT_one e (.inr (.inr rfl))) (by simp [tf]) rfl (hr.mono (by decide)) rfl (by exact LamX.lamS_by (sc := defScope (top 33)) (by decide +kernel)) rfl (fun _ _ _ _ _ => rfl) (fun _ => rfl) (fun _ => rfl) (fun _ => ⟨_, rfl⟩) (by exact fun _ _ _ _ _ _ _ => pv 5) (by exact fun _ _ _ _ _ _ _ => pa_cons (pv 6) pa_nil)) (pe_tup (pa_cons pe_str (pa_cons (pv 6) pa_nil))) (nomark _))
      (pss_one (ps_ret pe_bl)) pss_nil)
      (pss_cons (ps_set (i := 7) sc_law.nd rfl (Or.inl rfl) (pe_def (d_law_mixed (P := P) (w := w) (K := K) (mg := mg) (base := base) e) (hr.mono (by decide)) (by rfl) (pa_cons (pv 1) (pa_cons (pv 4) pa_nil))))
      (pss_cons (ps_set (i := 8) sc_law.nd rfl (Or.inl rfl) (pe_defC (d_answers_of (P := P) (w := w) (K := K) (mg := mg) (base := base) e) (hr.mono (by decide)) (by rfl) passNo (pa_cons (pe_ifExp (pt_cmpR op_eq (pe_def (d_law_draw (P := P) (w := w) (K := K) (mg := mg) (base := base) e) (hr.mono (by decide)) (by rfl) (pa_cons (pv 1) (pa_cons pe_int pa_nil))) pe_int (nomark _)) (pv 7) (pe_callTy (kcall_tuple_of (K := K)) (by rfl) (f_tuple e) (by decide +kernel) (pa_cons (pv 7) pa_nil))) pa_nil)))
      (pss_cons (ps_if (PW.pt (pw_or (pt_not (pt_val (pe_callB (kcall_isi (K := K)) (by rfl) (f_isinstance e) (by decide +kernel) (pa_cons (pv 8) (pa_cons (pe_bltn (by rfl) (f_tuple e) (by decide +kernel) (show RelV (.ty "tuple") (.type "tuple") from rfl)) pa_nil))))) (pw_or1 (pt_cmpR (op_rowNe (n := 1) (monB_flat.or monB_own) ((eqB_flat.mono (Nat.zero_le _)).or (eqB_own (d_Parting___eq__ e) (me_Parting___eq__ e).at_ (me_Parting___eq__ e).fn)) (hr.mono (by decide))) (pe_callTy (kcall_list_of (K := K)) (by rfl) (f_list e) (by decide +kernel) (pa_cons (pv 8) pa_nil)) (pe_lc (own := [("code", 10)]) (by rfl) sc_law.nd (pi_range1 (by rfl) (f_range e) (pa_cons pe_int pa_nil)) (blkOk_by (own := [("code", 10)]) (N := ["script", "pen", "bout", "hosts", "four", "thing", "odd", "mixed", "found", "some", "code"]) (sc := defScope (top 33)) (by decide +kernel)) (fun _ _ _ _ _ => (pg_name (i := 10) sc_law.nd rfl (Or.inl rfl))) (fun _ _ _ _ _ => pts_nil) (fun _ _ _ _ _ => (pe_def (d_law_made (P := P) (w := w) (K := K) (mg := mg) (base := base) e) (hr.mono (by decide)) (by rfl) (pa_cons (pv 4) (pa_cons (pv 10) pa_nil))))) (nomark _)))))
      (pss_one (ps_ret pe_bl)) pss_nil)
      (pss_cons (ps_set (i := 9) sc_law.nd rfl (Or.inl rfl) (pe_lst (pa_cons pe_non (pa_cons pe_str (pa_cons pe_int (pa_cons (pe_slice (ksl_list (K := K)) (pv 7) po_none (po_some pe_int)) (pa_cons (pe_op op_cat (pv 7) (pe_lst (pa_cons (pe_ix (kix_list (K := K)) (pv 3) pe_int (fun _ _ => rfl)) pa_nil))) (pa_cons (pe_op op_cat (pe_slice (ksl_list (K := K)) (pv 7) po_none (po_some pe_int)) (pe_slice (ksl_list (K := K)) (pv 7) po_none (po_some pe_int))) (pa_cons (pe_op op_cat (pe_slice (ksl_list (K := K)) (pv 7) po_none (po_some pe_int)) (pe_lst (pa_cons pe_str pa_nil))) (pa_cons pe_dnewK pa_nil))))))))))
      (pss_cons (ps_set (i := 6) sc_law.nd rfl (Or.inr rfl) (pe_def (d_law_pick (P := P) (w := w) (K := K) (mg := mg) (base := base) e) (hr.mono (by decide)) (by rfl) (pa_cons (pv 1) (pa_cons (pe_op op_cat (pv 9) (pe_lst (pa_cons (pe_op (kop_catT (K := K)) (pe_callTy (kcall_tuple_of (K := K)) (by rfl) (f_tuple e) (by decide +kernel) (pa_cons (pe_slice (ksl_list (K := K)) (pv 7) po_none (po_some pe_int)) pa_nil)) (pe_tup (pa_cons pe_non pa_nil))) (pa_cons (pe_op op_cat (pe_slice (ksl_list (K := K)) (pv 7) po_none (po_some pe_int)) (pe_lst (pa_cons (pv 7) pa_nil))) (pa_cons (pe_disp (pps_cons pe_str pe_int (pps_cons pe_str pe_int (pps_cons pe_str pe_int (pps_cons pe_str pe_int pps_nil)))) rfl rfl (by simp) (by decide)) pa_nil))))) pa_nil))))
      (pss_one (ps_if (pt_cmpR (op_rowNe (monB_flat.or monB_self) (eqB_flat.or eqB_self) (hr.mono (by decide))) (pe_heardA e (p := ("law", none)) (T := lamT K) (by exact lamT_one e (.inr (.inr rfl))) (by simp [tf]) rfl (hr.mono (by decide)) rfl (by exact LamX.lamS_by (sc := defScope (top 33)) (by decide +kernel)) rfl rfl (fun _ _ _ _ _ => rfl) (fun _ => rfl) (fun _ => rfl) (by exact fun _ _ _ _ _ _ _ => pa_cons (pv 6) pa_nil)) (pe_tup (pa_cons pe_str (pa_cons (pv 6) pa_nil))) (nomark _))
      (pss_one (ps_ret pe_bl)) pss_nil)))))))))))))))
      (pss_one (ps_ret pe_bl))))), ?_⟩
    obtain ⟨a, ns, rfl, ha1, ha2, ha3, ka4⟩ := h
    refine ⟨_, rfl, _, _, rfl, ha1, ha2, fun Ha15 p c ms sa19 na20 na21 ha22 ha23 Pa24 => ?_⟩
    have T0 : LamX.Tabs (lamT K) Ha15 := by
      refine LamX.Tabs.ext (fun q hq => ?_) sa19
      simp only [lamT, List.mem_cons, List.not_mem_nil, or_false] at hq
      rcases hq with rfl | rfl | rfl
      · exact LamX.TabS.nil (ha3 _ (List.mem_map.mpr ⟨("_law_refused_right", none), by simp [tf], rfl⟩))
      · exact LamX.TabS.nil (ha3 _ (List.mem_map.mpr ⟨("_law_texts_right", none), by simp [tf], rfl⟩))
      · exact LamX.TabS.nil (ha3 _ (List.mem_map.mpr ⟨("law", none), by simp [tf], rfl⟩))
    refine ⟨_, rfl, (by omega), (by omega), ?_⟩
    refine for_range (lo := 0) (n := 5) (fun i σ H' => ∃ (t' : Nat) (z' : Int) (x2 x3 x4 x5 x6 x7 x8 x9 x10 : Option V), σ = [some (.ref a), some (.ref p), x2, x3, x4, x5, x6, x7, x8, x9, x10] ∧ Pen H' p c ms t' z' ∧ LamX.Tabs (lamT K) H' ∧ t' ≤ 100 * i)
      ⟨0, 0, none, none, none, none, none, none, none, none, none, rfl, Pa24, T0, by omega⟩ ?_ ?_
    · rintro i σ H1 hi ⟨t1, z1, x2, x3, x4, x5, x6, x7, x8, x9, x10, rfl, P1, T1, ht⟩
      refine ⟨_, rfl, p, c, ms, t1, z1, 5, rfl, P1, by omega, by decide, fun hs f H2 t2 z2 hH hfn hf b2 P2 ht2 => ?_⟩
      obtain ⟨h0, h1, h2, h3, h4, rfl⟩ : ∃ h0 h1 h2 h3 h4, hs = [h0, h1, h2, h3, h4] := by
        match hs, hH.len with
        | [h0, h1, h2, h3, h4], _ => exact ⟨_, _, _, _, _, rfl⟩
      have T2 := tabs_but T1 P1 b2
      have nfp : f ≠ p := (ne_of_none P1.a hfn).symm
      refine ⟨_, rfl, _, rfl, p, c, f, ms, t2, z2, h0, h1, h2, h3, h4, rfl, P2, by omega, hf, nfp, hH, T2, fun H3 t3 z3 b3 P3 ht3 T3 => ?_⟩
      have ef3 := b3 _ _ nfp hf nofun
      clear hf b2 P2 T2 T1 P1 hfn b3
      refine ⟨_, rfl, ?_⟩
      show @ite _ _ (_) _ _
      refine ite_no (by decide +kernel) ?_
      refine ⟨_, rfl, _, rfl, _, _, rfl, (SqL.of ef3), fun pa3 na4 => ?_⟩
      generalize ga6 : upd H3 pa3 (HO.lst (cutV (List.map V.str [h0, h1, h2, h3, h4]) none (some (4 : Int)))) = Ha5
      obtain ⟨sa8, ea7⟩ := gen_new ga6 na4
      clear ga6
      rw [cutV_to _ (by omega)] at ea7
      simp only [← List.map_take, ← List.map_drop, Int.reduceToNat, strs_app] at ea7
      refine ⟨_, _, rfl, .inl ⟨(SqL.of ea7), fun la11 na12 => ?_⟩⟩
      generalize ga14 : upd Ha5 la11 (HO.tup (List.map V.str (List.take (4 : Nat) [h0, h1, h2, h3, h4]))) = Ha13
      obtain ⟨sa16, ea15⟩ := gen_new ga14 na12
      clear ga14
      refine ⟨_, rfl, _, rfl, _, _, _, _, _, _, rfl, (P3.same (sa8.trans sa16)), (by omega), (by omega), (by omega), fun da26 Ha27 xa28 xa29 ha30 ha31 ba32 Pa33 ha34 => ?_⟩
      refine ⟨_, _, rfl, rfl, ?_⟩
      obtain ⟨cd, rfl⟩ : ∃ cd : Nat, da26 = (cd : Int) := ⟨da26.toNat, by omega⟩
      obtain ⟨m, u, v, em, er, ok⟩ := made3 hH (c := 1 + cd) (by omega) (by omega)
      have nlp : la11 ≠ p := (ne_of_none (sa8 _ _ P3.a) na12).symm
      have el4 : Ha27 la11 = some (.tup ([h0, h1, h2, h3].map V.str)) := ba32 _ _ nlp ea15
      have T4 := tabs_but (T3.ext (sa8.trans sa16)) (P3.same (sa8.trans sa16)) ba32
      have ef4 := ba32 _ _ nfp ((sa8.trans sa16) _ _ ef3)
      clear ea7 ea15 sa8 sa16 na4 na12 ef3 T3 P3 ba32
      refine ⟨la11, h0, h1, h2, h3, 1 + cd, m, ⟨by rw [Int.natCast_add]; rfl, SqT.of el4, em, .inr ⟨u, v, by omega, er, ok, fun q H5 s5 nq pq => ?_⟩⟩⟩
      have P5 := Pa33.same s5
      have T5 := T4.ext s5
      have ef5 := s5 _ _ ef4
      have el5 := s5 _ _ el4
      have nqp : q ≠ p := (ne_of_none Pa33.a nq).symm
      clear ef4 el4 s5 T4 Pa33
      refine ⟨_, rfl, _, rfl, p, c, q, ms, _, _, _, _, _, rfl, P5, by omega, pq, nqp, ⟨h0, u, rfl, rfl, ok.lt⟩, ok.a1, ok.a2, T5, fun H6 t6 z6 b6 P6 ht6 T6 => ?_⟩
      have ef6 := b6 _ _ nfp ef5 nofun
      have el6 := b6 _ _ nlp el5 nofun
      have pq6 := pq.butT P5 nqp b6
      clear ef5 el5 pq P5 T5 b6 nq
      refine ⟨_, rfl, ?_⟩
      show @ite _ _ (_) _ _
      refine ite_no (by decide +kernel) ?_
      refine ⟨_, rfl, _, rfl, _, _, _, _, rfl, rfl, (SqL.of ef6), rfl, _, rfl, _, _, _, _, rfl, rfl, (SqL.of ef6), rfl, (fit (by simp)), fun pb3 nb4 => ?_⟩
      generalize gb6 : upd H6 pb3 (HO.lst [V.str h0]) = Hb5
      obtain ⟨sb8, eb7⟩ := gen_new gb6 nb4
      clear gb6
      have eb7 : Hb5 pb3 = some (HO.lst (List.map V.str [h0])) := eb7
      refine ⟨_, rfl, _, _, _, _, rfl, rfl, (SqL.of (sb8 _ _ ef6)), rfl, (fit (by simp)), fun pb11 nb12 => ?_⟩
      generalize gb14 : upd Hb5 pb11 (HO.tup [V.str h0]) = Hb13
      obtain ⟨sb16, eb15⟩ := gen_new gb14 nb12
      clear gb14
      have eb15 : Hb13 pb11 = some (HO.tup (List.map V.str [h0])) := eb15
      intro pb17 nb18
      generalize gb20 : upd Hb13 pb17 (HO.dK []) = Hb19
      obtain ⟨sb22, eb21⟩ := gen_new gb20 nb18
      clear gb20
      refine ⟨_, rfl, (fit (by simp)), fun pb25 nb26 => ?_⟩
      generalize gb28 : upd Hb19 pb25 (HO.lst [V.str h4, V.non, V.int (0 : Int), V.bl true, V.str (Str.ofString ""), V.ref pb3, V.ref pb11, V.ref pb17, V.ref q]) = Hb27
      obtain ⟨sb30, eb29⟩ := gen_new gb28 nb26
      clear gb28
      have SS := ((sb8.trans sb16).trans sb22).trans sb30
      refine ⟨p, c, pb25, ms, t6, z6, _, rfl, P6.same SS, by omega, SqL.of eb29, (ne_of_none (((sb8.trans sb16).trans sb22) _ _ P6.a) nb26).symm, nofun, by show 9 < 1000000; decide, fun w Hd td zd hv bd Pd htd => ?_⟩
      have Td := tabs_but (T6.ext SS) (P6.same SS) bd
      have ef7 := bd _ _ nfp (SS _ _ ef6)
      have el7 := bd _ _ nlp (SS _ _ el6)
      have pq7 := (pq6.same SS).butT (P6.same SS) nqp (ButT.of bd)
      have nm := hH.nm
      have nd := hH.nd
      have mem : ∀ g ∈ [h0, m] ++ [u, v], IsNm g ∧ g ≠ h4 := fun g hg => by
        have hg := (ok.a4.2.2 g).mpr hg
        simp only [List.nodup_cons, List.mem_cons, List.not_mem_nil, or_false, not_or] at nd
        simp only [List.mem_cons, List.not_mem_nil, or_false] at hg
        rcases hg with rfl | rfl | rfl | rfl
        · exact ⟨nm _ (by simp), nd.1.2.2.2⟩
        · exact ⟨nm _ (by simp), nd.2.1.2.2⟩
        · exact ⟨nm _ (by simp), nd.2.2.1.2⟩
        · exact ⟨nm _ (by simp), nd.2.2.2.1⟩
      have key : (flatV w = true ∨ ∃ a, w = .ref a) ∧ ∀ g ∈ [h0, m] ++ [u, v], ∀ H' (Q : VK), LamX.ExtN Hd H' → (∀ H2, Same H' H2 → Q (.bl false) H2) → rHost K w (.str g) H' Q := by
        simp only [List.mem_cons, List.not_mem_nil, or_false] at hv
        rcases hv with rfl | rfl | rfl | rfl | rfl | rfl | rfl | rfl | rfl
        · refine ⟨.inl rfl, fun g hg H' Q s kq => .inl ⟨rfl, ?_⟩⟩
          rw [decide_eq_false (fun q => (mem g hg).2 (V.str.inj q).symm)]
          exact kq _ (Same.refl _)
        · exact ⟨.inl rfl, fun g hg H' Q s kq => .inl ⟨rfl, kq _ (Same.refl _)⟩⟩
        · exact ⟨.inl rfl, fun g hg H' Q s kq => .inl ⟨rfl, kq _ (Same.refl _)⟩⟩
        · exact ⟨.inl rfl, fun g hg H' Q s kq => .inl ⟨rfl, kq _ (Same.refl _)⟩⟩
        · refine ⟨.inl rfl, fun g hg H' Q s kq => .inl ⟨rfl, ?_⟩⟩
          have lo := (mem g hg).1.lo
          rw [decide_eq_false (fun q => by rw [← V.str.inj q] at lo; exact absurd lo (by decide +kernel))]
          exact kq _ (Same.refl _)
        · have eb := bd _ _ (ne_of_none P6.a nb4).symm (sb30 _ _ (sb22 _ _ (sb16 _ _ eb7)))
          exact ⟨.inr ⟨_, rfl⟩, fun g hg H' Q s kq => .inr (.inr (.inl ⟨_, _, .lst (SqL.of (s _ _ eb nofun)) (dp_strs _), .str _, shaped_strs (fun y hy => by rw [List.mem_singleton.mp hy]; exact (nm h0 (by simp)).ok), strsh (mem g hg).1.ok, kq _ (Same.refl _)⟩))⟩
        · have eb := bd _ _ (ne_of_none (sb8 _ _ P6.a) nb12).symm (sb30 _ _ (sb22 _ _ eb15))
          exact ⟨.inr ⟨_, rfl⟩, fun g hg H' Q s kq => .inr (.inr (.inl ⟨_, _, .tup (SqT.of (s _ _ eb nofun)) (dp_strs _), .str _, shaped_tup (fun y hy => by rw [List.mem_singleton.mp hy]; exact (nm h0 (by simp)).ok), strsh (mem g hg).1.ok, kq _ (Same.refl _)⟩))⟩
        · have eb := bd _ _ (ne_of_none ((sb8.trans sb16) _ _ P6.a) nb18).symm (sb30 _ _ eb21)
          exact ⟨.inr ⟨_, rfl⟩, fun g hg H' Q s kq => .inr (.inl ⟨_, _, _, rfl, rfl, s _ _ eb nofun, kq _ (Same.refl _)⟩)⟩
        · refine ⟨.inr ⟨_, rfl⟩, fun g hg H' Q s kq => .inr (.inr (.inr ?_))⟩
          have pq8 := pq7.butT Pd nqp (ButT.ofN s)
          obtain ⟨⟨dx, u1, u2, u3, u4, a1, a2⟩, a3⟩ := id pq8
          exact ⟨_, _, _, _, rfl, a1, .base (.str _), (own_Parting e).nf _ (by simp [kinds]), _, _, _, _, _, rfl, pq8, .inr ⟨_, by simp [kinds], .base (.str _), false, rfl, kq _ (Same.refl _)⟩⟩
      obtain ⟨fl, key⟩ := key
      clear hv eb7 eb15 eb21 eb29 ef6 el6 pq6
      refine heard28 (K := K) (T := lamT K) (cls := .ref (He.ga K "NoHost")) (fs := [("name", w)]) (items := [.str "host", w]) (.inr (.inr (.inr ⟨rfl, w, rfl, rfl⟩))) Td (fun H7 e7 => ?_) (fun g H8 e8 T8 eg => ?_)
      · have pq8 := pq7.butT Pd nqp (ButT.ofN e7)
        obtain ⟨⟨dx, u1, u2, u3, u4, a1, a2⟩, a3⟩ := id pq8
        exact ⟨_, rfl, _, _, _, rfl, a1, rfl, _, rfl, _, _, _, _, _, rfl, pq8, (fun g hg H' Q s kq => key g hg H' Q (e7.trans (extS s)) kq), fun d H' s n ed => ⟨rfl, d, rfl, ed, s⟩⟩
      have ef8 := e8 _ _ ef7 nofun
      have el8 := e8 _ _ el7 nofun
      have P8 := Pd.ext e8
      clear ef7 el7 pq7 Td key e8
      refine ⟨_, rfl, (fit (by simp)), fun pt nt => ?_⟩
      have st := same_new (o := .tup [.str "host", w]) nt
      have et : upd H8 pt (.tup [.str "host", w]) pt = some (.tup [.str "host", w]) := upd_same
      have et' := st _ _ eg
      have ef9 := st _ _ ef8
      have el9 := st _ _ el8
      have P9 := P8.same st
      have T9 := T8.ext st
      generalize upd H8 pt (.tup [.str "host", w]) = H9 at et et' ef9 el9 P9 T9 ⊢
      clear st nt ef8 el8 P8 T8 eg
      refine ⟨g, pt, _, _, fun _ => true, rfl, rfl, .inr ⟨SqT.of et', SqT.of et⟩, self_two (K := K) fl, fun H10 s10 => ?_⟩
      have ef10 := s10 _ _ ef9
      have el10 := s10 _ _ el9
      have P10 := P9.same s10
      have T10 := T9.ext s10
      clear ef9 el9 P9 T9 s10 et et'
      refine ⟨_, rfl, ?_⟩
      show @ite _ _ (_) _ _
      refine iteF ?_
      refine ⟨_, rfl, _, rfl, p, c, la11, ms, td, zd, _, rfl, P10, by omega, .inr (SqT.of el10), by simp, fun mx f2 H11 t11 z11 pm nf2 ef2 b11 P11 ht11 => ?_⟩
      have ht11 : t11 ≤ td + 4 := ht11
      have nf2p : f2 ≠ p := (ne_of_none P10.a nf2).symm
      have T11 := tabs_but T10 P10 b11
      have ef11 := b11 _ _ nfp ef10
      have el11 := b11 _ _ nlp el10
      clear T10 P10 ef10 el10 nf2 b11
      refine ⟨_, rfl, _, _, _, _, _, _, rfl, P11, (by omega), (by omega), (by omega), fun dc10 Hc11 xc12 xc13 hc14 hc15 bc16 Pc17 hc18 => ?_⟩
      refine ⟨rfl, _, rfl, ?_⟩
      have ef2 := bc16 _ _ nf2p ef2
      have ef12 := bc16 _ _ nfp ef11
      have T12 := tabs_but T11 P11 bc16
      have el12 := bc16 _ _ nlp el11
      clear ef11 T11 P11 el11 bc16
      refine ite_te (fun x H' => ∃ lq, x = .ref lq ∧ (H' lq = some (.lst (mx.map V.str)) ∨ H' lq = some (.tup (mx.map V.str))) ∧ Same Hc11 H') (fun Q' kq => ⟨_, rfl, kq _ _ ⟨f2, rfl, .inl ef2, Same.refl _⟩⟩) (fun Q' kq => ?_) ?_
      · exact ⟨_, rfl, _, _, rfl, .inl ⟨SqL.of ef2, fun lc nc => kq _ _ ⟨lc, rfl, .inr upd_same, same_new nc⟩⟩⟩
      rintro x H12 ⟨lq, rfl, er, s12⟩
      have mm : ∀ g ∈ mx, g ∈ [h0, h1, h2, h3] := fun g hg => pm.mem_iff.mp hg
      have nmx : ∀ g ∈ mx, IsNm g := fun g hg => nm g (by have := mm g hg; simp only [List.mem_cons, List.not_mem_nil, or_false] at this ⊢; rcases this with rfl | rfl | rfl | rfl <;> simp)
      have a4 := ok.a4.self
      have ndm : mx.Nodup := pm.nodup_iff.mpr a4.2.1
      have lmx : mx.length = 4 := pm.length_eq
      have rw12 : RowS H12 (.ref lq) mx := ⟨⟨lq, rfl, er⟩, nmx, ndm, by omega⟩
      have amx : AscOf mx [h0, h1, h2, h3] := a4.swap fun y => pm.mem_iff.symm
      refine ⟨_, some mx, rfl, rw12.data, (fun z => absurd z (by show ¬ decide (mx.length = 4) = false; rw [lmx]; decide)), fun ns' a' b' c' d' e' asc r p1 p2 p3 H13 s13 nr an => ?_⟩
      cases e'
      have e4 := (asc.unique amx).symm
      simp only [List.cons.injEq, and_true] at e4
      obtain ⟨rfl, rfl, rfl, rfl⟩ := e4
      have ef13 := s13 _ _ (s12 _ _ ef12)
      have el13 := s13 _ _ (s12 _ _ el12)
      have em13 := s13 _ _ (s12 _ _ ef2)
      have T13 := (T12.ext s12).ext s13
      have P13 := (Pc17.same s12).same s13
      clear ef12 el12 ef2 T12 Pc17 s12 s13 er rw12 asc nr
      obtain ⟨ean, q1, q2, q3⟩ := an
      refine ⟨_, rfl, _, _, _, _, _, rfl, (.ty _), (.base (.tup ean)), rfl, _, rfl, ?_⟩
      show @ite _ _ (_) _ _
      refine ite_no (by decide +kernel) ?_
      refine ⟨_, rfl, _, _, rfl, (.inr (SqT.of ean)), fun ld3 nd4 => ?_⟩
      generalize gd6 : upd H13 ld3 (HO.lst [V.non, V.ref p1, V.ref p2, V.ref p3]) = Hd5
      obtain ⟨sd8, ed7⟩ := gen_new gd6 nd4
      clear gd6
      refine ⟨_, rfl, (by omega), (by omega), fun Dd11 nd12 => ?_⟩
      refine lc_newV (walk_range (lo := 0) (n := 4)) ((List.range 4).map fun i : Nat => V.int (0 + (i : Nat))) (MadeC K [h0, h1, h2, h3]) (stays_madeC _ _) rfl (yrange _ _) nd12 (fun _ _ => trivial) (by decide) (fun x hx H14 s14 Kt Kf kt => ⟨rfl, ?_⟩) fun H14 rs s14 eD fa => ?_
      · obtain ⟨j, hj, rfl⟩ := List.mem_map.mp hx
        have hj := List.mem_range.mp hj
        have el14 := s14 _ _ (sd8 _ _ el13)
        by_cases j0 : j = 0
        · subst j0
          exact ⟨_, rfl, _, rfl, la11, h0, h1, h2, h3, 0, h0, rfl, SqT.of el14, rfl, .inl ⟨rfl, fun H15 s15 => kt _ _ s15 ⟨0, rfl, .inl ⟨rfl, rfl⟩⟩⟩⟩
        · obtain ⟨m', u', v', em', er', ok'⟩ := made3 hH (c := j) (by omega) (by omega)
          exact ⟨_, rfl, _, rfl, la11, h0, h1, h2, h3, j, m', by rw [Int.zero_add]; rfl, SqT.of el14, em', .inr ⟨u', v', j0, er', ok', fun q' H15 s15 nq' pq' => kt _ _ s15 ⟨j, rfl, .inr ⟨q', h0, m', u', v', by omega, rfl, em', er', rfl, pq'⟩⟩⟩⟩
      · obtain ⟨r1, r2, r3, rfl, b1, b2, b3⟩ := four_made fa
        have ss := sd8.trans s14
        refine ⟨ld3, Dd11, _, _, fun _ => true, rfl, rfl, .inl ⟨s14 _ _ ed7, eD⟩, four_same (q1.same ss) (q2.same ss) (q3.same ss) b1 b2 b3, fun H15 s15 => ?_⟩
        have S15 := ss.trans s15
        have ef15 := S15 _ _ ef13
        have em15 := S15 _ _ em13
        have T15 := T13.ext S15
        have P15 := P13.same S15
        clear ef13 el13 em13 T13 P13 S15 ss s14 s15 sd8 ed7 eD fa b1 b2 b3 q1 q2 q3 ean
        refine ⟨_, rfl, ?_⟩
        show @ite _ _ (_) _ _
        refine iteF ?_
        have tk3 : List.map V.str (List.take 3 mx) ≠ [] := fun q => by have := congrArg List.length q; simp only [List.length_map, List.length_take, List.length_nil] at this; omega
        refine ⟨_, rfl, _, rfl, _, _, rfl, (SqL.of em15), fun pe3 ne4 => ?_⟩
        generalize ge6 : upd H15 pe3 (HO.lst (cutV (List.map V.str mx) none (some (3 : Int)))) = He5
        obtain ⟨se8, ee7⟩ := gen_new ge6 ne4
        clear ge6
        rw [cutV_to _ (by omega)] at ee7
        simp only [← List.map_take, ← List.map_drop, Int.reduceToNat, strs_app] at ee7
        refine ⟨_, rfl, _, rfl, _, _, _, _, rfl, rfl, (SqL.of (se8 _ _ ef15)), rfl, (fit (by simp)), fun pe11 ne12 => ?_⟩
        generalize ge14 : upd He5 pe11 (HO.lst [V.str h4]) = He13
        obtain ⟨se16, ee15⟩ := gen_new ge14 ne12
        clear ge14
        have ee15 : He13 pe11 = some (HO.lst (List.map V.str [h4])) := ee15
        refine ⟨_, _, _, _, rfl, rfl, (se16 _ _ (se8 _ _ em15)), ee15, (fit (by simp only [List.length_map, List.length_append, List.length_cons, List.length_nil, List.length_take, List.length_drop, List.length_reverse]; omega)), fun pe19 ne20 => ?_⟩
        generalize ge22 : upd He13 pe19 (HO.lst (List.map V.str mx ++ List.map V.str [h4])) = He21
        obtain ⟨se24, ee23⟩ := gen_new ge22 ne20
        clear ge22
        simp only [List.append_nil, strs_app, strs_snoc, ← List.map_reverse] at ee23
        refine ⟨_, rfl, _, rfl, _, _, rfl, (SqL.of (se24 _ _ (se16 _ _ (se8 _ _ em15)))), fun pe27 ne28 => ?_⟩
        generalize ge30 : upd He21 pe27 (HO.lst (cutV (List.map V.str mx) none (some (3 : Int)))) = He29
        obtain ⟨se32, ee31⟩ := gen_new ge30 ne28
        clear ge30
        rw [cutV_to _ (by omega)] at ee31
        simp only [← List.map_take, ← List.map_drop, Int.reduceToNat, strs_app] at ee31
        refine ⟨_, rfl, _, rfl, _, _, rfl, (SqL.of (se32 _ _ (se24 _ _ (se16 _ _ (se8 _ _ em15))))), fun pe35 ne36 => ?_⟩
        generalize ge38 : upd He29 pe35 (HO.lst (cutV (List.map V.str mx) none (some (1 : Int)))) = He37
        obtain ⟨se40, ee39⟩ := gen_new ge38 ne36
        clear ge38
        rw [cutV_to _ (by omega)] at ee39
        simp only [← List.map_take, ← List.map_drop, Int.reduceToNat, strs_app] at ee39
        refine ⟨_, _, _, _, rfl, rfl, (se40 _ _ ee31), ee39, (fit (by simp only [List.length_map, List.length_append, List.length_cons, List.length_nil, List.length_take, List.length_drop, List.length_reverse]; omega)), fun pe43 ne44 => ?_⟩
        generalize ge46 : upd He37 pe43 (HO.lst (List.map V.str (List.take (3 : Nat) mx) ++ List.map V.str (List.take (1 : Nat) mx))) = He45
        obtain ⟨se48, ee47⟩ := gen_new ge46 ne44
        clear ge46
        simp only [List.append_nil, strs_app, strs_snoc, ← List.map_reverse] at ee47
        refine ⟨_, rfl, _, rfl, _, _, rfl, (SqL.of (se48 _ _ (se40 _ _ (se32 _ _ (se24 _ _ (se16 _ _ (se8 _ _ em15))))))), fun pe51 ne52 => ?_⟩
        generalize ge54 : upd He45 pe51 (HO.lst (cutV (List.map V.str mx) none (some (3 : Int)))) = He53
        obtain ⟨se56, ee55⟩ := gen_new ge54 ne52
        clear ge54
        rw [cutV_to _ (by omega)] at ee55
        simp only [← List.map_take, ← List.map_drop, Int.reduceToNat, strs_app] at ee55
        refine ⟨(fit (by simp)), fun pe59 ne60 => ?_⟩
        generalize ge62 : upd He53 pe59 (HO.lst [V.str (Str.ofString "A")]) = He61
        obtain ⟨se64, ee63⟩ := gen_new ge62 ne60
        clear ge62
        have ee63 : He61 pe59 = some (HO.lst (List.map V.str [Str.ofString "A"])) := ee63
        refine ⟨_, _, _, _, rfl, rfl, (se64 _ _ ee55), ee63, (fit (by simp only [List.length_map, List.length_append, List.length_cons, List.length_nil, List.length_take, List.length_drop, List.length_reverse]; omega)), fun pe67 ne68 => ?_⟩
        generalize ge70 : upd He61 pe67 (HO.lst (List.map V.str (List.take (3 : Nat) mx) ++ List.map V.str [Str.ofString "A"])) = He69
        obtain ⟨se72, ee71⟩ := gen_new ge70 ne68
        clear ge70
        simp only [List.append_nil, strs_app, strs_snoc, ← List.map_reverse] at ee71
        intro pe73 ne74
        generalize ge76 : upd He69 pe73 (HO.dK []) = He75
        obtain ⟨se78, ee77⟩ := gen_new ge76 ne74
        clear ge76
        refine ⟨(fit (by simp)), fun pe81 ne82 => ?_⟩
        generalize ge84 : upd He75 pe81 (HO.lst [V.non, V.str (Str.ofString "abcd"), V.int (4 : Int), V.ref pe3, V.ref pe19, V.ref pe43, V.ref pe67, V.ref pe73]) = He83
        obtain ⟨se86, ee85⟩ := gen_new ge84 ne82
        clear ge84
        refine ⟨_, rfl, _, rfl, _, rfl, _, rfl, _, _, rfl, (SqL.of (se86 _ _ (se78 _ _ (se72 _ _ (se64 _ _ (se56 _ _ (se48 _ _ (se40 _ _ (se32 _ _ (se24 _ _ (se16 _ _ (se8 _ _ em15)))))))))))), fun pe89 ne90 => ?_⟩
        generalize ge92 : upd He83 pe89 (HO.lst (cutV (List.map V.str mx) none (some (3 : Int)))) = He91
        obtain ⟨se94, ee93⟩ := gen_new ge92 ne90
        clear ge92
        rw [cutV_to _ (by omega)] at ee93
        simp only [← List.map_take, ← List.map_drop, Int.reduceToNat, strs_app] at ee93
        refine ⟨_, _, rfl, .inl ⟨(SqL.of ee93), fun le97 ne98 => ?_⟩⟩
        generalize ge100 : upd He91 le97 (HO.tup (List.map V.str (List.take (3 : Nat) mx))) = He99
        obtain ⟨se102, ee101⟩ := gen_new ge100 ne98
        clear ge100
        refine ⟨(fit (by simp)), fun pe105 ne106 => ?_⟩
        generalize ge108 : upd He99 pe105 (HO.tup [V.non]) = He107
        obtain ⟨se110, ee109⟩ := gen_new ge108 ne106
        clear ge108
        refine ⟨_, _, _, _, rfl, rfl, (SqT.of (se110 _ _ ee101)), (SqT.of ee109), tk3, (fit (by simp only [List.length_map, List.length_append, List.length_cons, List.length_nil, List.length_take, List.length_drop, List.length_reverse]; omega)), nofun, fun he114 pe115 ne116 => ?_⟩
        generalize ge118 : upd He107 pe115 (HO.tup (List.map V.str (List.take (3 : Nat) mx) ++ [V.non])) = He117
        obtain ⟨se120, ee119⟩ := gen_new ge118 ne116
        clear ge118
        refine ⟨_, rfl, _, rfl, _, _, rfl, (SqL.of (se120 _ _ (se110 _ _ (se102 _ _ (se94 _ _ (se86 _ _ (se78 _ _ (se72 _ _ (se64 _ _ (se56 _ _ (se48 _ _ (se40 _ _ (se32 _ _ (se24 _ _ (se16 _ _ (se8 _ _ em15)))))))))))))))), fun pe123 ne124 => ?_⟩
        generalize ge126 : upd He117 pe123 (HO.lst (cutV (List.map V.str mx) none (some (3 : Int)))) = He125
        obtain ⟨se128, ee127⟩ := gen_new ge126 ne124
        clear ge126
        rw [cutV_to _ (by omega)] at ee127
        simp only [← List.map_take, ← List.map_drop, Int.reduceToNat, strs_app] at ee127
        refine ⟨_, rfl, (fit (by simp)), fun pe131 ne132 => ?_⟩
        generalize ge134 : upd He125 pe131 (HO.lst [V.ref f2]) = He133
        obtain ⟨se136, ee135⟩ := gen_new ge134 ne132
        clear ge134
        refine ⟨_, _, _, _, rfl, rfl, (se136 _ _ ee127), ee135, (fit (by simp only [List.length_map, List.length_append, List.length_cons, List.length_nil, List.length_take, List.length_drop, List.length_reverse]; omega)), fun pe139 ne140 => ?_⟩
        generalize ge142 : upd He133 pe139 (HO.lst (List.map V.str (List.take (3 : Nat) mx) ++ [V.ref f2])) = He141
        obtain ⟨se144, ee143⟩ := gen_new ge142 ne140
        clear ge142
        refine fun dd hdd => ⟨upd_same, [(.inr "a", .int 1), (.inr "b", .int 2), (.inr "c", .int 3), (.inr "d", .int 4)], rfl, by decide, ?_⟩
        have sdd : Same He141 (upd (upd He141 dd (.dK [])) dd (.dK (mergeK [] [(.inr "a", .int 1), (.inr "b", .int 2), (.inr "c", .int 3), (.inr "d", .int 4)]))) := fun b o q => by rw [upd_ne (ne_of_none q hdd), upd_ne (ne_of_none q hdd)]; exact q
        have edd : upd (upd He141 dd (.dK [])) dd (.dK (mergeK [] [(.inr "a", .int 1), (.inr "b", .int 2), (.inr "c", .int 3), (.inr "d", .int 4)])) dd = _ := upd_same
        generalize upd (upd He141 dd (.dK [])) dd (.dK (mergeK [] [(.inr "a", .int 1), (.inr "b", .int 2), (.inr "c", .int 3), (.inr "d", .int 4)])) = Hg at sdd edd ⊢
        have U144 := se144.trans sdd
        have U136 := se136.trans U144
        have U128 := se128.trans U136
        have U120 := se120.trans U128
        have U110 := se110.trans U120
        have U102 := se102.trans U110
        have U94 := se94.trans U102
        have U86 := se86.trans U94
        have U78 := se78.trans U86
        have U72 := se72.trans U78
        have U64 := se64.trans U72
        have U56 := se56.trans U64
        have U48 := se48.trans U56
        have U40 := se40.trans U48
        have U32 := se32.trans U40
        have U24 := se24.trans U32
        have U16 := se16.trans U24
        have U8 := se8.trans U16
        have V8 := se8
        have V16 := V8.trans se16
        have V24 := V16.trans se24
        have V32 := V24.trans se32
        have V40 := V32.trans se40
        have V48 := V40.trans se48
        have V56 := V48.trans se56
        have V64 := V56.trans se64
        have V72 := V64.trans se72
        have V78 := V72.trans se78
        have V86 := V78.trans se86
        have V94 := V86.trans se94
        have V102 := V94.trans se102
        have V110 := V102.trans se110
        have V120 := V110.trans se120
        have V128 := V120.trans se128
        have V136 := V128.trans se136
        have i1 : pe3 ≠ p := (ne_of_none P15.a ne4).symm
        have i2 : pe19 ≠ p := (ne_of_none (V16 _ _ P15.a) ne20).symm
        have i3 : pe43 ≠ p := (ne_of_none (V40 _ _ P15.a) ne44).symm
        have i4 : pe67 ≠ p := (ne_of_none (V64 _ _ P15.a) ne68).symm
        have i7 : pe139 ≠ p := (ne_of_none (V136 _ _ P15.a) ne140).symm
        clear V8 V16 V24 V32 V40 V48 V56 V64 V72 V78 V86 V94 V102 V110 V120 V128 V136
        have g1 := U16 _ _ ee7
        have g2 := U32 _ _ ee23
        have g3 := U56 _ _ ee47
        have g4 := U78 _ _ ee71
        have g5 := U86 _ _ ee77
        have gs := U94 _ _ ee85
        have g6 := U128 _ _ ee119
        have g7 := sdd _ _ ee143
        have ef16 := U8 _ _ ef15
        have em16 := U8 _ _ em15
        have P16 := P15.same U8
        have T16 := T15.ext U8
        clear U8 U16 U24 U32 U40 U48 U56 U64 U72 U78 U86 U94 U102 U110 U120 U128 U136 U144 sdd se8 se16 se24 se32 se40 se48 se56 se64 se72 se78 se86 se94 se102 se110 se120 se128 se136 se144 ee7 ee23 ee47 ee71 ee77 ee85 ee119 ee143 ef15 em15 P15 T15 hdd ne4 ne12 ne20 ne28 ne36 ne44 ne52 ne60 ne68 ne74 ne82 ne90 ne98 ne106 ne116 ne124 ne132 ne140 ee15 ee31 ee39 ee55 ee63 ee93 ee101 ee109 ee127 ee135
        refine ⟨(fit (by simp)), fun pf3 nf4 => ?_⟩
        generalize gf6 : upd Hg pf3 (HO.lst [V.ref pe115, V.ref pe139, V.ref dd]) = Hf5
        obtain ⟨sf8, ef7⟩ := gen_new gf6 nf4
        clear gf6
        refine ⟨_, _, _, _, rfl, rfl, (sf8 _ _ gs), ef7, (fit (by simp)), fun pf11 nf12 => ?_⟩
        generalize gf14 : upd Hf5 pf11 (HO.lst ([V.non, V.str (Str.ofString "abcd"), V.int (4 : Int), V.ref pe3, V.ref pe19, V.ref pe43, V.ref pe67, V.ref pe73] ++ [V.ref pe115, V.ref pe139, V.ref dd])) = Hf13
        obtain ⟨sf16, ef15⟩ := gen_new gf14 nf12
        clear gf14
        have SF := sf8.trans sf16
        refine ⟨p, c, pf11, ms, _, _, _, rfl, P16.same SF, by omega, SqL.of ef15, (ne_of_none (sf8 _ _ P16.a) nf12).symm, nofun, by show 11 < 1000000; decide, fun w2 Hw tw zw hw bw Pw htw => ?_⟩
        have Tw := tabs_but (T16.ext SF) (P16.same SF) bw
        have PF := P16.same SF
        have h1' := bw _ _ i1 (SF _ _ g1)
        have h2' := bw _ _ i2 (SF _ _ g2)
        have h3' := bw _ _ i3 (SF _ _ g3)
        have h4' := bw _ _ i4 (SF _ _ g4)
        have h5' := bw _ _ (ne_of g5 P16.a nofun) (SF _ _ g5)
        have h6' := bw _ _ (ne_of g6 P16.a nofun) (SF _ _ g6)
        have h7' := bw _ _ i7 (SF _ _ g7)
        have h8' := bw _ _ (ne_of edd P16.a nofun) (SF _ _ edd)
        have hm' := bw _ _ nf2p (SF _ _ em16)
        have fm : ∀ n ∈ mx, n.length ≤ sizeLine := fun n hn => (nmx n hn).fit
        have f3 : ∀ n ∈ mx.take 3, n.length ≤ sizeLine := fun n hn => fm n (List.mem_of_mem_take hn)
        have l3 : (mx.take 3).length = 3 := by rw [List.length_take]; omega
        have key : (flatV w2 = true ∨ ∃ a, w2 = .ref a) ∧ ∃ dv, RowD K Hw w2 dv ∧ fourD dv = false := by
          have hw : w2 ∈ [V.non, V.str (Str.ofString "abcd"), V.int (4 : Int), V.ref pe3, V.ref pe19, V.ref pe43, V.ref pe67, V.ref pe73, V.ref pe115, V.ref pe139, V.ref dd] := hw
          simp only [List.mem_cons, List.not_mem_nil, or_false] at hw
          rcases hw with rfl | rfl | rfl | rfl | rfl | rfl | rfl | rfl | rfl | rfl | rfl
          · exact ⟨.inl rfl, odd_flat (.base .non) (by decide +kernel) (by decide +kernel)⟩
          · exact ⟨.inl rfl, odd_flat (.base (.str _)) (by decide +kernel) (by decide +kernel)⟩
          · exact ⟨.inl rfl, odd_flat (.base (.int _)) (by decide +kernel) (by decide +kernel)⟩
          · refine ⟨.inr ⟨_, rfl⟩, odd_four (.inl h1') (by rw [List.length_map]; omega) (kind_nm f3) fun ns e _ _ => ?_⟩
            rw [← strs_eq e, l3]
            decide
          · refine ⟨.inr ⟨_, rfl⟩, odd_four (.inl h2') (by rw [List.length_map, List.length_append, lmx]; simp) (kind_nm fun n hn => ?_) fun ns e _ _ => ?_⟩
            · rcases List.mem_append.mp hn with hn | hn
              · exact fm n hn
              · rw [List.mem_singleton.mp hn]; exact (nm h4 (by simp)).fit
            · rw [← strs_eq e, List.length_append, lmx]
              simp
          · refine ⟨.inr ⟨_, rfl⟩, odd_four (.inl h3') (by rw [List.length_map, List.length_append, l3, List.length_take]; omega) (kind_nm fun n hn => ?_) fun ns e _ d => ?_⟩
            · rcases List.mem_append.mp hn with hn | hn
              · exact f3 n hn
              · exact fm n (List.mem_of_mem_take hn)
            · rw [← strs_eq e] at d
              refine absurd d fun d => ?_
              match mx, lmx, d with
              | y :: ys, _, d => exact (List.nodup_append.mp d).2.2 y (.head _) y (.head _) rfl
          · refine ⟨.inr ⟨_, rfl⟩, odd_four (.inl h4') (by rw [List.length_map, List.length_append, l3]; simp) (kind_nm fun n hn => ?_) fun ns e nn _ => ?_⟩
            · rcases List.mem_append.mp hn with hn | hn
              · exact f3 n hn
              · rw [List.mem_singleton.mp hn]; exact fit (by decide +kernel)
            · rw [← strs_eq e] at nn
              exact absurd (nmB_iff.mpr (nn (Str.ofString "A") (List.mem_append_right _ (.head _)))) (by decide +kernel)
          · exact ⟨.inr ⟨_, rfl⟩, odd_flat (.base (.dK h5')) (by decide +kernel) (by decide +kernel)⟩
          · refine ⟨.inr ⟨_, rfl⟩, odd_four (.inr h6') (by rw [List.length_append, List.length_map, l3]; simp) (fun x hx => ?_) fun ns e _ _ => ?_⟩
            · rcases List.mem_append.mp hx with hx | hx
              · exact kind_nm f3 x hx
              · rw [List.mem_singleton.mp hx]; exact .non
            · have q : V.non ∈ ns.map V.str := by rw [← e]; exact List.mem_append_right _ (.head _)
              obtain ⟨_, _, z⟩ := List.mem_map.mp q
              cases z
          · refine ⟨.inr ⟨_, rfl⟩, odd_four (.inl h7') (by rw [List.length_append, List.length_map, l3]; simp) (fun x hx => ?_) fun ns e _ _ => ?_⟩
            · rcases List.mem_append.mp hx with hx | hx
              · exact kind_nm f3 x hx
              · rw [List.mem_singleton.mp hx]; exact kind_t (.lst hm') (by decide +kernel)
            · have q : V.ref f2 ∈ ns.map V.str := by rw [← e]; exact List.mem_append_right _ (.head _)
              obtain ⟨_, _, z⟩ := List.mem_map.mp q
              cases z
          · exact ⟨.inr ⟨_, rfl⟩, odd_flat (.base (.dK h8')) (by decide +kernel) (by decide +kernel)⟩
        obtain ⟨fl2, dv, rd, fd4⟩ := key
        clear hw h1' h2' h3' h4' h5' h6' h7' h8' hm' g1 g2 g3 g4 g5 g6 g7 edd em16 gs ef7 ef15 PF
        refine heard28 (K := K) (T := lamT K) (cls := .ref (He.ga K "BadFour")) (fs := [("value", w2)]) (items := [.str "four", w2]) (.inr (.inr (.inl ⟨rfl, w2, rfl, rfl⟩))) Tw (fun Hx ex => ?_) (fun gx Hy ey Ty egy => ?_)
        · exact ⟨_, rfl, w2, dv, rfl, rd.ext ex, fun _ d H' s n ed => ⟨rfl, d, rfl, ed, s⟩, fun ns a b c d e asc => by subst e; have l := asc.len rd.row.nd; exact absurd (show decide (ns.length = 4) = false from fd4) (by rw [decide_eq_true (show ns.length = 4 from l.symm)]; decide)⟩
        refine ⟨_, rfl, (fit (by simp)), fun pt nt => ?_⟩
        have st := same_new (o := .tup [.str "four", w2]) nt
        have et : upd Hy pt (.tup [.str "four", w2]) pt = some (.tup [.str "four", w2]) := upd_same
        have et' := st _ _ egy
        have Pz := (Pw.ext ey).same st
        have Tz := Ty.ext st
        generalize upd Hy pt (.tup [.str "four", w2]) = Hz at et et' Pz Tz ⊢
        refine ⟨gx, pt, _, _, fun _ => true, rfl, rfl, .inr ⟨SqT.of et', SqT.of et⟩, self_two (K := K) fl2, fun Ha1 sa1 => ?_⟩
        refine ⟨_, rfl, ?_⟩
        show @ite _ _ (_) _ _
        refine iteF ?_
        exact ⟨_, _, _, _, _, _, _, _, _, _, _, rfl, Pz.same sa1, Tz.ext sa1, by omega⟩
    · rintro σ H1 ⟨t1, z1, x2, x3, x4, x5, x6, x7, x8, x9, x10, rfl, P1, T1, ht⟩
      exact ka4 _
end
theorem closing {P : Program} {w : World} {K : PySem.W.Frag} {h : Heap} {mg : Str → Option Value} (X : K.In h) (G : h.Ns mainGlobals mg) (c : SaysZ fa fn tf gs (fun K => exs.all fun f => f K) w h K) :
    ∃ fd : FuncData, (∀ (s : Shared) (v : Value), BindsTo s fd ⟨[v], []⟩ [("script", v)]) ∧ ∀ base : Heap, K.In base → base.Ns mainGlobals mg → (∀ p ∈ tf.map (He.cT K), LamX.TabB base mg p.1 p.2) → FnG P w K mg base CX0 12 (He.ga K "law") fd ["script"] (spLaw K) := by
  obtain ⟨fd, F⟩ := c.x.t.d.def_ 28 (d := dd "law" 33) rfl
  have b := FunD.bindsA (ps := ["script"]) F fun _ _ _ _ _ _ us hl => match us, hl with | [_], _ => rfl
  exact ⟨fd, fun s v => b s [v] rfl, fun base X' G' tb => ok_law F ⟨c.x.t.d, X', G', c.more, fun i d h => c.get i h, tb⟩⟩
abbrev R : PySem.W.OpenRow := PySem.W.OpenLaw.row PySem.Challenge.rw_seenframes_k28_partings_refused_and_read
abbrev hk : PySem.W.Hook := hookZ 6 fa fn tf gs (fun K => exs.all fun f => f K)
def ob (s : PySem.W.SharedT) : AlZ := obsZ 6 fa fn tf gs (fun K => exs.all fun f => f K) (HandSHeadRun.getT s)
theorem ob_eq (s : PySem.W.SharedT) : ob s = hk.obs s.abs := obsZ_eq (HandSHeadRun.getT_eq s)
def loose : List Str := ["__name__", "SeenError", "BadInput", "Refused", "BadFour", "BadParting", "BadText", "NoHost", "is_name", "are_names", "ascending", "sides_told", "Parting", "is_couple", "answers_of", "_law_pen", "_law_draw", "_law_pick", "_law_hosts", "_law_row", "_law_made", "_law_mixed", "_law_heard", "_law_odd_pair", "_law_refused_right", "_law_is_name", "_law_read", "_law_bent", "_law_texts_right"]
theorem run (w : World) : HandSHeadRun.RunEq R (PySem.W.view R.prog [33]) hk ob 6000 loose w := by
  intro os
  kernel_rfl
end Z
open PySem PySem.W PySem.Calls PyProof.Rows
set_option maxRecDepth 100000 in
set_option maxHeartbeats 0 in
theorem PySem.Challenge.cw_seenframes_k28_partings_refused_and_read_holds : PySem.Challenge.rw_seenframes_k28_partings_refused_and_read.Holds := by
  w_on; o_law
  refine HandSHeadRun.head_any (r := OpenLaw.row PySem.Challenge.rw_seenframes_k28_partings_refused_and_read) (q := view (OpenLaw.row PySem.Challenge.rw_seenframes_k28_partings_refused_and_read).prog [33]) (H := Z.hk) (ob := Z.ob) (M := 6000) (loose := Z.loose) (d := HandSHeadRun.topDef (OpenLaw.row PySem.Challenge.rw_seenframes_k28_partings_refused_and_read).prog 33) (kwd := []) Z.ob_eq
    (by kernel_rfl) (fun s => by kernel_rfl) Z.run (by kernel_rfl) (by kernel_rfl) (by kernel_rfl) (by rfl) (by first | assumption | decide +kernel) (by decide +kernel) ⟨rfl, rfl, rfl, rfl, rfl, by decide +kernel⟩ ?hw ?hc
  case hw => w_witness2
  case hc =>
    refine Z.walk_TG (l := PySem.Challenge.rw_seenframes_k28_partings_refused_and_read) (n := 63) (k := 12) (x := "script") (CX := L2.CX0) rfl (by decide) (by kernel_rfl) ⟨rfl, by decide, by decide⟩ ?F (fun _ _ _ _ z => z)
    intro w mg fa h Y G hmg0
    obtain ⟨K, KX, c⟩ := Y
    have hmg : mg ("law" : PySem.Str) = some (.ref fa) := by
      have e : (HandSHeadRun.topDef (OpenLaw.row PySem.Challenge.rw_seenframes_k28_partings_refused_and_read).prog 33).name = ("law" : PySem.Str) := by kernel_rfl
      rw [← e]
      exact hmg0
    obtain ⟨fd, hb, hF⟩ := Z.closing (P := (PySem.Challenge.rw_seenframes_k28_partings_refused_and_read).prog) KX G c
    have eg := hmg.symm.trans (He.glo_ok KX G (c.x.t.d.fact 58 rfl))
    cases eg
    obtain ⟨t1, t2, t3⟩ := c.tabs KX
    exact ⟨K, fd, Z.spLaw K, Z.tf.map (He.cT K), KX, hb, t1, t2, t3, fun H a ns hl hT hS => ⟨a, ns, rfl, hS, hl, hT, fun _ => rfl⟩, hF⟩
