import PyProof.Rows.All
import Wide.All
import OpenK.AllK
import Wide.FinOn
import KE.KStateDown
import Lean
import HandS.ForMost
import HandS.More
import HandS.Codes
import HandS.Defaults
import HandS.WordsExc
import HandS.RaiseMore
import HandS.IsInst
import HandS.Walk
import HandS.Head0
import HandS.Head1
import HandS.Head2
import HandS.HeadEnd
import HandS.HeadHook1
import HandS.HeadHook2
import HandS.HeadHook4
import HandS.ExcValue
import HandS.ExcIs
import HandS.ExcField
import HandS.ExcInit
import HandS.EndTab
import HandS.Property
import HandS.ClsMeth
import HandS.MakeKw
import HandS.MakeKwOnly
import HandS.FStr
import HandS.StrMore
import HandS.Flow
import HandS.TupLe
import HandS.Lambda
import PyProof.Rows.Range3
import PyProof.CallStr
import PyProof.Rows.RegFStrParts
import PySem.Challenge.RW_seenframes_k03_frames_made
set_option Elab.async false
set_option linter.all false
set_option maxRecDepth 100000
set_option maxHeartbeats 8000000
namespace Z
open PySem PySem.Spec PyProof.Rows L2
/-! ### rules that name the written part by a letter -/
section
variable {X : Cx} {K : PySem.W.Frag}
theorem kix_list (hK : X.K = K := by rfl) : IxR X (rIxL K) := by subst hK; exact ix_list
theorem kix_tup (hK : X.K = K := by rfl) : IxR X (rIxT K) := by subst hK; exact ix_tup
theorem ksl_list (hK : X.K = K := by rfl) : SlR X (rSlL K) := by subst hK; exact sl_list
theorem ksl_tup (hK : X.K = K := by rfl) : SlR X (rSlT K) := by subst hK; exact sl_tup
def rLen (K : PySem.W.Frag) : List V → Hp → VK → Prop := fun xs H Q => ∃ p ys, xs = [.ref p] ∧ (SqL K H p ys ∨ SqT K H p ys) ∧ Q (.int ys.length) H
theorem kcall_len_seq (hK : X.K = K := by rfl) : CallR X (.builtin "len") (rLen K) := by subst hK; exact call_len_seq
def rListOf (K : PySem.W.Frag) : List V → Hp → VK → Prop := fun xs H Q => ∃ p ys, xs = [.ref p] ∧ (SqL K H p ys ∨ SqT K H p ys) ∧ ∀ l, H l = none → Q (.ref l) (upd H l (.lst ys))
theorem kcall_list_of (hK : X.K = K := by rfl) : CallR X (.type "list") (rListOf K) := by subst hK; exact call_list_of
def rTupleOf (K : PySem.W.Frag) : List V → Hp → VK → Prop := fun xs H Q => ∃ p ys, xs = [.ref p] ∧ ((SqL K H p ys ∧ ∀ l, H l = none → Q (.ref l) (upd H l (.tup ys))) ∨ (SqT K H p ys ∧ Q (.ref p) H))
theorem kcall_tuple_of (hK : X.K = K := by rfl) : CallR X (.type "tuple") (rTupleOf K) := by subst hK; exact call_tuple_of
theorem kop_eqD (hu : X.A.units + 64 < cLine) (hK : X.K = K := by rfl) : OpR X (compareOp .Eq) (rEqD K) := by subst hK; exact op_eqD hu
theorem kop_neD (hu : X.A.units + 64 < cLine) (hK : X.K = K := by rfl) : OpR X (compareOp .NotEq) (rNeD K) := by subst hK; exact op_neD hu
theorem kop_in_seq (hK : X.K = K := by rfl) : OpR X (compareOp .In) (rIn K false) := by subst hK; exact op_in_seq
theorem kop_notIn_seq (hK : X.K = K := by rfl) : OpR X (compareOp .NotIn) (rIn K true) := by subst hK; exact op_notIn_seq
theorem kcr_sortedS (hK : X.K = K := by rfl) : CallR X (.builtin "sorted") (rSortedS K) := by subst hK; exact cr_sortedS
theorem kcr_sorted (hK : X.K = K := by rfl) : CallR X (.builtin "sorted") (rSorted K) := by subst hK; exact cr_sorted
theorem kcr_sum (hc : X.calm = true) (hK : X.K = K := by rfl) : CallR X (.builtin "sum") (rSum K) := by subst hK; exact cr_sum hc
theorem kcr_all (hc : X.calm = true) (hK : X.K = K := by rfl) : CallR X (.builtin "all") (rAll K) := by subst hK; exact cr_all hc
theorem kcr_any (hc : X.calm = true) (hK : X.K = K := by rfl) : CallR X (.builtin "any") (rAny K) := by subst hK; exact cr_any hc
theorem kcall_isi (hK : X.K = K := by rfl) : CallR X (.builtin "isinstance") (rIsi K) := by subst hK; exact call_isi
theorem kcall_isiT (hK : X.K = K := by rfl) : CallR X (.builtin "isinstance") (rIsiT K) := by subst hK; exact call_isiT
theorem kop_catT (hK : X.K = K := by rfl) : OpR X (binaryOp .Add) (rCatT K) := by subst hK; exact op_catT
theorem kpi_list {tg l : Expr} {tl : TE} (hl : PE X l tl) (hK : X.K = K := by rfl) : PI X tg l (iList K tl) := by subst hK; exact pi_list hl
theorem kpi_tup {tg l : Expr} {tl : TE} (hl : PE X l tl) (hK : X.K = K := by rfl) : PI X tg l (iTup K tl) := by subst hK; exact pi_tup hl
theorem kpi_enum {e : Expr} {ta : TA} {p pos tpos : Pos} {elts : List Expr} {kk : Nat} (hg : Gl X "enumerate") (hm : X.mg "enumerate" = none) (ha : PA X [e] ta) (hs : starEach [e] X.env = [(false, eval e X.env)] := by rfl) (hK : X.K = K := by rfl) :
    PI X (.Tuple elts kk tpos) (.Call (.Name "enumerate" p) [e] [] pos) (iEnum K ta) := by subst hK; exact pi_enum hg hm ha hs
def rJoin (K : PySem.W.Frag) : V → List V → Hp → VK → Prop := fun x xs H Q => ∃ a p, ∃ ys : List Str, x = .str a ∧ xs = [.ref p] ∧ (SqL K H p (ys.map V.str) ∨ SqT K H p (ys.map V.str)) ∧
      (ys.map (·.length)).sum + ys.length * a.length ≤ 16777216 ∧ Q (.str (Txt.join a ys)) H
theorem kpe_join {o e : Expr} {to te : TE} {apos pos : Pos} (ho : PE X o to) (he : PE X e te) (hs : starEach [e] X.env = [(false, eval e X.env)] := by rfl) (hbase : attributeBase o "join" X.env (eval o X.env) = eval o X.env := by rfl) (hline : (apos.endLine == pos.line) = true := by rfl) (hK : X.K = K := by rfl) :
    PE X (.Call (.Attribute o "join" apos) [e] [] pos) (tM1 (rJoin K) to te) := by subst hK; exact pe_join ho he hs hbase hline
theorem kpe_bm {o e : Expr} {es : List Expr} {to : TE} {t : TA} {name : Str} {apos cpos : Pos} {T id : String} {r : V → List V → Hp → VK → Prop} (pa : PlainAttrs T) (slot : Slot T name id) (hty : typeOf (.builtin id) = pure (.type "method_descriptor")) (hm : MtR X id r) (ho : PE X o to) (ha : PA X (e :: es) t)
    (hbase : attributeBase o name X.env (eval o X.env) = eval o X.env := by rfl)
    (hfew : ((backTo cpos (starEach (e :: es) X.env)).all (fun x => !x.1) && (backToKw cpos (keywordEach [] X.env)).all (fun x => x.1.isSome)
      && decide ((e :: es).length + ([] : List Keyword).length + (if ([] : List Keyword).isEmpty then 0 else 1) < 30)) = true := by rfl)
    (hline : (apos.endLine == cpos.line) = true := by rfl) (hs : starEach (e :: es) X.env = (false, eval e X.env) :: starEach es X.env := by rfl) (hplain : (backTo cpos (starEach es X.env)).any (·.1) = false := by rfl) (hK : X.K = K := by rfl) :
    PE X (.Call (.Attribute o name apos) (e :: es) [] cpos) (tBM K T r to t) := by subst hK; exact pe_bm pa slot hty hm ho ha hbase hfew hline hs hplain
theorem kpe_bm0 {o : Expr} {to : TE} {name : Str} {apos cpos : Pos} {T id : String} {r : V → List V → Hp → VK → Prop} (pa : PlainAttrs T) (slot : Slot T name id) (hty : typeOf (.builtin id) = pure (.type "method_descriptor")) (hm : MtR X id r) (ho : PE X o to)
    (hbase : attributeBase o name X.env (eval o X.env) = eval o X.env := by rfl) (hline : (apos.endLine == cpos.line) = true := by rfl) (hK : X.K = K := by rfl) : PE X (.Call (.Attribute o name apos) [] [] cpos) (tBM0 K T r to) := by subst hK; exact pe_bm0 pa slot hty hm ho hbase hline
end
/-- the pen stands at p, its cells at c; t draws so far, z is left of a great one -/
structure Pen (H : Hp) (p c : Addr) (ms : List Int) (t : Nat) (z : Int) : Prop where
  a : H p = some (.lst [.ref c, .int t, .int z])
  b : H c = some (.lst (ms.map .int))
/-- all but what stands at p stands -/
def But (p : Addr) (H H' : Hp) : Prop := ∀ b o, b ≠ p → H b = some o → H' b = some o
theorem But.refl (p : Addr) (H : Hp) : But p H H := fun _ _ _ h => h
theorem But.trans {p : Addr} {H H1 H2 : Hp} (a : But p H H1) (b : But p H1 H2) : But p H H2 := fun c o n h => b c o n (a c o n h)
theorem Same.but {p : Addr} {H H' : Hp} (a : Same H H') : But p H H' := fun c o _ h => a c o h
theorem same_new {H : Hp} {q : Addr} {o : HO} (h : H q = none) : Same H (upd H q o) := fun b u e => by rw [upd_ne (ne_of_none e h)]; exact e
theorem but_upd {H : Hp} {p : Addr} {o : HO} : But p H (upd H p o) := fun b u n e => by rw [upd_ne n]; exact e
theorem But.new {p q : Addr} {H H' : Hp} {o : HO} (b : But p H H') (h : H' q = none) : But p H (upd H' q o) := fun a u n e => by rw [upd_ne (ne_of_none (b a u n e) h)]; exact b a u n e
theorem But.free {p q : Addr} {H H' : Hp} (b : But p H H') (n : q ≠ p) (h : H' q = none) : H q = none := by
  cases e : H q with
  | none => rfl
  | some o => rw [b q o n e] at h; cases h
theorem But.upn {p q : Addr} {H H' : Hp} {o : HO} (b : But p H H') (h : H q = none) : But p H (upd H' q o) := fun a u n e => by rw [upd_ne (ne_of_none e h)]; exact b a u n e
theorem dp_ints {K : PySem.W.Frag} {H : Hp} : ∀ ms : List Int, DpAll K H (ms.map V.int) (ms.map PyData.int)
  | [] => .nil
  | _ :: r => .cons (.int _) (dp_ints r)
theorem lay_ints : ∀ ms : List Int, PyData.canLayAll0 (ms.map PyData.int) = true
  | [] => by simp [PyData.canLayAll0]
  | _ :: r => by simp [PyData.canLayAll0, PyData.canLay0, lay_ints r]
theorem deep_ints : ∀ ms : List Int, PyData.depthAll (ms.map PyData.int) = 0
  | [] => by simp [PyData.depthAll]
  | _ :: r => by simp [PyData.depthAll, PyData.depth, deep_ints r]
theorem shaped_ints (ms : List Int) : SeqAt.shaped (.list (ms.map PyData.int)) = true := by
  unfold SeqAt.shaped
  simp [PyData.canLay0, lay_ints, PyData.depth, deep_ints]
theorem eqv_nil (ms : List Int) : PyData.eqv (.list (ms.map PyData.int)) (.list []) = ms.isEmpty := by
  cases ms <;> simp [PyData.eqv, PyData.eqvAll]
theorem mod_lo (a : Int) {m : Int} (h : 1 ≤ m) : 0 ≤ a.fmod m ∧ a.fmod m < m := ⟨Int.fmod_nonneg_of_pos a (by omega), Int.fmod_lt_of_pos a (by omega)⟩
theorem But.seq {K : PySem.W.Frag} {p : Addr} {H H' : Hp} {a : Addr} {xs : List V} (e : But p H H') (n : a ≠ p) (h : SqL K H a xs) : SqL K H' a xs := by
  rcases h with (h | ⟨o, h⟩) | h
  · exact .inl (.inl (e _ _ n h))
  · exact .inl (.inr ⟨o, e _ _ n h⟩)
  · exact .inr h
/-- a def of the module keeps its promise -/
structure DefN (P : Program) (w : World) (K : PySem.W.Frag) (mg : Str → Option Value) (base : Heap) (k : Nat) (x : Str) (ps : List Str) (sp : Sp) : Prop where
  ex : ∃ fd, FnOk P w K mg base CX0 k (He.ga K x) fd ps sp ∧ Binds K fd ps []
  kp : PySem.W.keepIn K (.ref (He.ga K x)) = true
  at_ : mg x = some (.ref (He.ga K x))
theorem pe_def {X : Cx} {k : Nat} {x : Str} {ps : List Str} {sp : Sp} {e : Expr} {es : List Expr} {p pos : Pos} {t : TA} (D : DefN X.prog X.w X.K X.mg X.base k x ps sp) (hr : Room k X.A) (hg : Gl X x) (ha : PA X (e :: es) t)
    (hdb : (x == ("__debug__" : Str)) = false := by decide) (he : starEach (e :: es) X.env = (false, eval e X.env) :: starEach es X.env := by rfl) (hpl : (backTo pos (starEach es X.env)).any (·.1) = false := by rfl) :
    PE X (.Call (.Name x p) (e :: es) [] pos) (tCall sp [] E0 t) := by
  obtain ⟨fd, F, b⟩ := D.ex
  exact pe_call F hr hg D.at_ D.kp b .nil pass0 ha hdb he hpl
def spPen (K : PySem.W.Frag) : Sp := fun vs H Q _ => ∃ (a : Addr) (ns : List Int), vs = [.ref a] ∧ SqL K H a (ns.map V.int) ∧ ns.length ≤ 63 ∧
  ∀ (H' : Hp) (p c : Addr) (ms : List Int), Same H H' → H p = none → H c = none → p ≠ c → ms.length ≤ 63 → Pen H' p c ms 0 0 → Q (.ref p) H'
def spDraw : Sp := fun vs H Q _ => ∃ (p c : Addr) (ms : List Int) (t : Nat) (z m : Int), vs = [.ref p, .int m] ∧ Pen H p c ms t z ∧ t < 1000000 ∧ 1 ≤ m ∧ m < 1000000 ∧
  ∀ (d : Int) (H' : Hp) (t' : Nat) (z' : Int), 0 ≤ d → d < m → But p H H' → Pen H' p c ms t' z' → t' ≤ t + 1 → Q (.int d) H'
/-- one of a list's items is picked -/
def spPick (K : PySem.W.Frag) : Sp := fun vs H Q _ => ∃ (p c a : Addr) (ms : List Int) (t : Nat) (z : Int) (xs : List V), vs = [.ref p, .ref a] ∧ Pen H p c ms t z ∧ t < 1000000 ∧ SqL K H a xs ∧ a ≠ p ∧ xs ≠ [] ∧ xs.length < 1000000 ∧
  ∀ (x : V) (H' : Hp) (t' : Nat) (z' : Int), x ∈ xs → But p H H' → Pen H' p c ms t' z' → t' ≤ t + 1 → Q x H'
end Z
namespace Z
open PySem PySem.Spec PyProof.Rows L2 TL
/-- a name: one to eight letters -/
structure IsNm (x : Str) : Prop where
  lo : 1 ≤ x.length
  hi : x.length ≤ 8
  az : ∀ c ∈ x.cps.toList, 97 ≤ c ∧ c ≤ 122
/-- the text of one sign -/
def sg (c : Nat) : Str := ⟨#[c]⟩
theorem join_signs (cs : List Nat) : (Txt.join (Str.ofString "") (cs.map sg)).cps.toList = cs := by
  show (PySem.Builtin.Str.glued (Str.ofString "") (cs.map sg)).cps.toList = cs
  rw [StrLaws.glued_eq_join]
  have h := tl_join (Str.ofString "") (cs.map sg)
  have e0 : tl (Str.ofString "") = [] := by decide +kernel
  rw [e0] at h
  have : ∀ l : List Nat, joinL [] ((l.map sg).map tl) = l := by
    intro l
    induction l with
    | nil => rfl
    | cons a r ih =>
      cases r with
      | nil => rfl
      | cons b q =>
        show tl (sg a) ++ ([] ++ joinL [] (((b :: q).map sg).map tl)) = a :: b :: q
        rw [ih]
        rfl
  rw [this] at h
  exact h
theorem letters_at {j : Nat} (h : j < 26) : (Str.ofString "abcdefghijklmnopqrstuvwxyz").cps.toList[j]? = some (97 + j) := by
  have : ∀ j, j < 26 → (Str.ofString "abcdefghijklmnopqrstuvwxyz").cps.toList[j]? = some (97 + j) := by decide +kernel
  exact this j h
theorem Pen.same {H H' : Hp} {p c : Addr} {ms : List Int} {t : Nat} {z : Int} (P : Pen H p c ms t z) (s : Same H H') : Pen H' p c ms t z := ⟨s _ _ P.a, s _ _ P.b⟩
theorem Pen.ne {H : Hp} {p c : Addr} {ms : List Int} {t : Nat} {z : Int} (P : Pen H p c ms t z) : p ≠ c := ne_of P.a P.b (by intro e; injection e with e; cases ms with | nil => cases e | cons x r => cases e)
def spName : Sp := fun vs H Q _ => ∃ (p c : Addr) (ms : List Int) (t : Nat) (z : Int), vs = [.ref p] ∧ Pen H p c ms t z ∧ t < 900000 ∧
  ∀ (x : Str) (H' : Hp) (t' : Nat) (z' : Int), IsNm x → But p H H' → Pen H' p c ms t' z' → t' ≤ t + 10 → Q (.str x) H'
end Z
namespace Z
open PySem PySem.Spec PyProof.Rows L2 TL
theorem But.same_upd {H H' : Hp} {D : Addr} {o : HO} (s : Same H H') (h : H D = none) : Same H (upd H' D o) := fun b u e => by rw [upd_ne (ne_of_none e h)]; exact s b u e
theorem filterMap_take {α β : Type} (F : α → Option β) (xs : List α) {i : Nat} {x : α} (h : xs[i]? = some x) : (xs.take (i + 1)).filterMap F = (xs.take i).filterMap F ++ (F x).toList := by
  have e : xs.take (i + 1) = xs.take i ++ [x] := by
    rw [List.take_succ, h]
    rfl
  rw [e, List.filterMap_append]
  cases e2 : F x <;> simp [e2]
/-- a comprehension whose elements make nothing: F of each item, none where it is left out -/
theorem lc_fm {J : It} {n : Nat} {G : Hp → Prop} {Y : Nat → Hp → V → Hp → Prop} (w : Walk J n G Y) {g : TG} {tt : TT} {te : TE} {vs : List Nat} {σ : L2.St} {H1 : Hp} {D : Addr} {Qd : Hp → Prop} (xs : List V) (F : V → Option V)
    (hn : n = xs.length) (hY : ∀ i H x H', i < n → Y i H x H' → H' = H ∧ xs[i]? = some x) (hD : H1 D = none) (hG : ∀ H', Same H1 H' → G H') (hz : xs.length < sizeLine)
    (hs : ∀ x ∈ xs, ∀ H', Same H1 H' → ∀ (Kt : V → Hp → Prop) (Kf : Hp → Prop), (∀ y, F x = some y → Kt y H') → (F x = none → Kf H') →
      g x (wipe σ vs) H' fun σ2 H2 => wipe σ2 vs = wipe σ vs ∧ tt σ2 H2 fun b H3 => if b = true then te σ2 H3 Kt else Kf H3)
    (hd : Qd (upd H1 D (.lst (xs.filterMap F)))) :
    ∃ W : Nat → Nat → Hp → Prop, (∃ m, W 0 m (upd H1 D (.lst []))) ∧ ∀ i m H, W i m H →
      (J.stop i H ∧ Qd H) ∨ (J.go i H ∧ ∃ Nx : Hp → Prop, (∀ H', Nx H' → ∃ m', m' < m ∧ W (i + 1) m' H') ∧ ∀ x H', J.yld i H x H' → g x (wipe σ vs) H' fun σ2 H2 => wipe σ2 vs = wipe σ vs ∧ tt σ2 H2 fun b H3 =>
        if b = true then te σ2 H3 fun y H4 => ∃ acc, H4 D = some (.lst acc) ∧ acc.length < sizeLine ∧ Nx (upd H4 D (.lst (acc ++ [y]))) else Nx H3) := by
  refine lc_it w (fun i H => H = upd H1 D (.lst ((xs.take i).filterMap F))) rfl (fun i H _ e => by subst e; exact hG _ (same_new hD)) ?_ ?_
  · rintro i x H H' hi rfl y
    obtain ⟨rfl, hx⟩ := hY i _ x H' hi y
    refine hs x (List.mem_of_getElem? hx) _ (same_new hD) _ _ (fun y e => ?_) fun e => ?_
    · refine ⟨_, upd_same, ?_, ?_⟩
      · have h1 : ((xs.take i).filterMap F).length ≤ (xs.take i).length := List.length_filterMap_le ..
        have h2 : (xs.take i).length ≤ xs.length := by rw [List.length_take]; omega
        omega
      · rw [upd_upd, filterMap_take F xs hx, e]
        rfl
    · show _ = _
      rw [filterMap_take F xs hx, e]
      simp
  · rintro H rfl
    rw [hn, List.take_length]
    exact hd
theorem yat (xs : List V) : ∀ i H x H', i < xs.length → YAt xs i H x H' → H' = H ∧ xs[i]? = some x := fun _ _ _ _ _ h => h
/-- the signs of a text as values -/
def sgV (z : Str) : List V := z.cps.toList.map fun c => V.str (sg c)
theorem ystr (z : Str) : ∀ i (H : Hp) (x : V) (H' : Hp), i < z.cps.size → (H' = H ∧ ∃ c, z.cps[i]? = some c ∧ x = .str ⟨#[c]⟩) → H' = H ∧ (sgV z)[i]? = some x := by
  rintro i H x H' hi ⟨rfl, c, hc, rfl⟩
  refine ⟨rfl, ?_⟩
  unfold sgV
  rw [List.getElem?_map, Array.getElem?_toList, hc]
  rfl
theorem yrange (lo : Int) (n : Nat) : ∀ i (H : Hp) (x : V) (H' : Hp), i < n → YFn (fun i => .int (lo + i)) i H x H' → H' = H ∧ ((List.range n).map fun i => V.int (lo + (i : Nat)))[i]? = some x := by
  rintro i H x H' hi ⟨rfl, rfl⟩
  refine ⟨rfl, ?_⟩
  rw [List.getElem?_map, List.getElem?_range hi]
  rfl
/-! ### texts as data -/
theorem IsNm.ok {x : Str} (h : IsNm x) : PyData.strOk x = true := by
  unfold PyData.strOk
  rw [Array.all_eq_true_iff_forall_mem]
  intro c hc
  have := h.az c (Array.mem_toList_iff.mpr hc)
  simp
  omega
theorem dp_strs {K : PySem.W.Frag} {H : Hp} : ∀ xs : List Str, DpAll K H (xs.map V.str) (xs.map PyData.str)
  | [] => .nil
  | _ :: r => .cons (.str _) (dp_strs r)
theorem lay_strs : ∀ xs : List Str, (∀ x ∈ xs, PyData.strOk x = true) → PyData.canLayAll0 (xs.map PyData.str) = true
  | [], _ => by simp [PyData.canLayAll0]
  | x :: r, h => by
    simp only [List.map_cons, PyData.canLayAll0, PyData.canLay0, Bool.and_eq_true]
    exact ⟨h x (List.mem_cons_self ..), lay_strs r fun y hy => h y (List.mem_cons_of_mem _ hy)⟩
theorem deep_strs : ∀ xs : List Str, PyData.depthAll (xs.map PyData.str) = 0
  | [] => by simp [PyData.depthAll]
  | _ :: r => by simp [PyData.depthAll, PyData.depth, deep_strs r]
theorem shaped_strs {xs : List Str} (h : ∀ x ∈ xs, PyData.strOk x = true) : SeqAt.shaped (.list (xs.map PyData.str)) = true := by
  unfold SeqAt.shaped
  simp [PyData.canLay0, lay_strs xs h, PyData.depth, deep_strs]
theorem eqv_list_nil (ds : List PyData) : PyData.eqv (.list ds) (.list []) = ds.isEmpty := by
  cases ds <;> simp [PyData.eqv, PyData.eqvAll]
theorem inV_str (x : Str) (xs : List Str) : inV (.str x) (xs.map V.str) = decide (x ∈ xs) := by
  unfold inV
  induction xs with
  | nil => rfl
  | cons a r ih =>
    rw [List.map_cons, List.any_cons, ih]
    show (a == x || _) = _
    by_cases h : a = x
    · subst h; simp
    · have h' : ¬ x = a := fun e => h e.symm
      simp [h, h']
theorem flat_strs (xs : List Str) : (xs.map V.str).all flatV = true := by
  rw [List.all_eq_true]
  intro v hv
  obtain ⟨x, _, rfl⟩ := List.mem_map.mp hv
  rfl
/-! ### slices of names -/
theorem cut_to (x : Str) (k : Nat) : (cutS x none (some (k : Int))).cps.toList = x.cps.toList.take k := by
  unfold cutS
  show (x.cps.toList.drop 0).take (HT.sIx x.length x.length (some (k : Int)) - 0) = _
  have e : HT.sIx x.length x.length (some (k : Int)) = min k x.length := by
    exact HT.sIx_nat _ _ _
  rw [e, List.drop_zero, Nat.sub_zero]
  have e2 : x.length = x.cps.toList.length := TL.len_tl x
  rw [e2, ← List.take_eq_take_min]
theorem app_tl (x y : Str) : (x ++ y).cps.toList = x.cps.toList ++ y.cps.toList := TL.tl_append x y
/-! ### a name that is not there yet -/
theorem len_le_of_sub {α : Type} [BEq α] [LawfulBEq α] : ∀ {l m : List α}, l.Nodup → (∀ x ∈ l, x ∈ m) → l.length ≤ m.length
  | [], _, _, _ => Nat.zero_le _
  | a :: r, m, nd, h => by
    have ha := h a (List.mem_cons_self ..)
    have nd' := List.nodup_cons.mp nd
    have := len_le_of_sub (l := r) (m := m.erase a) nd'.2 fun x hx => by
      have hne : x ≠ a := fun e => nd'.1 (e ▸ hx)
      exact (List.mem_erase_of_ne hne).mpr (h x (List.mem_cons_of_mem _ hx))
    rw [List.length_erase_of_mem ha] at this
    have hp : 0 < m.length := List.length_pos_of_mem ha
    show r.length + 1 ≤ m.length
    omega
/-- the candidates: the word, its first seven signs and each letter -/
def nearOf (x : Str) : List Str := x :: (Str.ofString "abcdefghijklmnopqrstuvwxyz").cps.toList.map fun c => cutS x none (some 7) ++ sg c
theorem letters_all : ∀ c ∈ (Str.ofString "abcdefghijklmnopqrstuvwxyz").cps.toList, 97 ≤ c ∧ c ≤ 122 := by decide +kernel
theorem letters_nd : (Str.ofString "abcdefghijklmnopqrstuvwxyz").cps.toList.Nodup := by decide +kernel
theorem letters_len : (Str.ofString "abcdefghijklmnopqrstuvwxyz").cps.toList.length = 26 := by decide +kernel
theorem nm_len {x : Str} : x.length = x.cps.toList.length := TL.len_tl x
theorem nm_cut {x y : Str} (hx : IsNm x) (hy : ∀ c ∈ y.cps.toList, 97 ≤ c ∧ c ≤ 122) (h1 : y.cps.toList.length = 1) : IsNm (cutS x none (some 7) ++ y) := by
  have e : (cutS x none (some 7) ++ y).cps.toList = x.cps.toList.take 7 ++ y.cps.toList := by
    rw [app_tl]
    exact congrArg (· ++ _) (cut_to x 7)
  refine ⟨?_, ?_, fun c hc => ?_⟩
  · rw [nm_len, e, List.length_append]; omega
  · rw [nm_len, e, List.length_append, List.length_take]; omega
  · rw [e] at hc
    rcases List.mem_append.mp hc with h | h
    · exact hx.az c (List.mem_of_mem_take h)
    · exact hy c h
theorem near_nm {x : Str} (hx : IsNm x) : ∀ y ∈ nearOf x, IsNm y := by
  intro y hy
  rcases List.mem_cons.mp hy with rfl | hy
  · exact hx
  · obtain ⟨c, hc, rfl⟩ := List.mem_map.mp hy
    refine nm_cut hx (fun d hd => ?_) rfl
    have : d = c := by simpa [sg] using hd
    rw [this]
    exact letters_all c hc
theorem sg_inj {a : Str} {c d : Nat} (h : a ++ sg c = a ++ sg d) : c = d := by
  have e := congrArg (fun z : Str => z.cps.toList) h
  have e2 : a.cps.toList ++ (sg c).cps.toList = a.cps.toList ++ (sg d).cps.toList := by rw [← app_tl, ← app_tl]; exact e
  have e3 := List.append_cancel_left e2
  simpa [sg] using e3
theorem near_new {x : Str} {xs : List Str} (h : xs.length ≤ 25) : (nearOf x).filterMap (fun y => if y ∈ xs then none else some y) ≠ [] := by
  intro e
  have all : ∀ y ∈ nearOf x, y ∈ xs := fun y hy => by
    by_cases hm : y ∈ xs
    · exact hm
    · have := List.filterMap_eq_nil_iff.mp e y hy
      rw [if_neg hm] at this
      cases this
  have nd : ((Str.ofString "abcdefghijklmnopqrstuvwxyz").cps.toList.map fun c => cutS x none (some 7) ++ sg c).Nodup := by
    rw [List.nodup_iff_pairwise_ne, List.pairwise_map]
    exact List.Pairwise.imp (fun {a b} hne he => hne (sg_inj he)) (List.nodup_iff_pairwise_ne.mp letters_nd)
  have := len_le_of_sub nd fun y hy => all y (List.mem_cons_of_mem _ hy)
  rw [List.length_map, letters_len] at this
  omega
theorem IsNm.fit {x : Str} (h : IsNm x) : x.length ≤ sizeLine := Nat.le_trans h.hi (by decide)
theorem nm_both {x y : Str} (hx : IsNm x) (hy : IsNm y) : IsNm (cutS x none (some 7) ++ cutS y none (some 1)) := by
  have e : (cutS y none (some 1)).cps.toList = y.cps.toList.take 1 := cut_to y 1
  refine nm_cut hx (fun c hc => ?_) ?_
  · rw [e] at hc
    exact hy.az c (List.mem_of_mem_take hc)
  · rw [e, List.length_take]
    have := hy.lo
    rw [nm_len] at this
    omega
theorem cut_len (x : Str) (k : Nat) : (cutS x none (some (k : Int))).length ≤ k := by
  rw [nm_len, cut_to, List.length_take]
  omega
abbrev alpha : Str := Str.ofString "abcdefghijklmnopqrstuvwxyz"
def glue7 (y : Str) (v : V) : Option V := match v with
  | .str s => some (.str (cutS y none (some 7) ++ s))
  | _ => none
theorem near_map (y : Str) : [V.str y] ++ (sgV alpha).filterMap (glue7 y) = (nearOf y).map V.str := by
  unfold nearOf sgV
  rw [List.map_cons, List.map_map]
  show V.str y :: _ = V.str y :: _
  refine congrArg (V.str y :: ·) ?_
  generalize alpha.cps.toList = l
  induction l with
  | nil => rfl
  | cons a r ih =>
    rw [List.map_cons, List.map_cons, List.filterMap_cons]
    exact congrArg (V.str _ :: ·) ih
def leftOut (xs : List Str) (v : V) : Option V := if inV v (xs.map V.str) = true then none else some v
theorem left_map (xs : List Str) (l : List Str) : (l.map V.str).filterMap (leftOut xs) = (l.filterMap fun s => if s ∈ xs then none else some s).map V.str := by
  induction l with
  | nil => rfl
  | cons a r ih =>
    rw [List.map_cons, List.filterMap_cons, List.filterMap_cons, ih]
    unfold leftOut
    rw [inV_str]
    by_cases h : a ∈ xs
    · simp [h]
    · simp [h]
theorem sgV_len : (sgV alpha).length = 26 := by decide +kernel
def spNames (K : PySem.W.Frag) : Sp := fun vs H Q _ => ∃ (p c : Addr) (ms : List Int) (t : Nat) (z n : Int), vs = [.ref p, .int n] ∧ Pen H p c ms t z ∧ t < 800000 ∧ 0 ≤ n ∧ n ≤ 25 ∧
  ∀ (xs : List Str) (f : Addr) (H' : Hp) (t' : Nat) (z' : Int), xs.length = n.toNat → (∀ x ∈ xs, IsNm x) → xs.Nodup → H f = none → H' f = some (.lst (xs.map V.str)) → But p H H' → Pen H' p c ms t' z' → t' ≤ t + 12 * n.toNat → Q (.ref f) H'
/-- whether a text is a name -/
def nmB (x : Str) : Bool := decide (1 ≤ x.length) && (decide (x.length ≤ 8) && x.cps.toList.all fun c => decide (c ∈ alpha.cps.toList))
theorem letter_iff {c : Nat} : c ∈ alpha.cps.toList ↔ 97 ≤ c ∧ c ≤ 122 := by
  refine ⟨letters_all c, fun h => ?_⟩
  have e := letters_at (j := c - 97) (by omega)
  rw [show 97 + (c - 97) = c by omega] at e
  exact List.mem_of_getElem? e
theorem nmB_iff {x : Str} : nmB x = true ↔ IsNm x := by
  unfold nmB
  rw [Bool.and_eq_true, Bool.and_eq_true, decide_eq_true_eq, decide_eq_true_eq, List.all_eq_true]
  constructor
  · rintro ⟨h1, h2, h3⟩
    exact ⟨h1, h2, fun c hc => letter_iff.mp (of_decide_eq_true (h3 c hc))⟩
  · intro h
    exact ⟨h.lo, h.hi, fun c hc => decide_eq_true (letter_iff.mpr (h.az c hc))⟩
def spIsName (K : PySem.W.Frag) : Sp := fun vs H Q _ => ∃ (v : V), vs = [v] ∧ ((∃ x, v = .str x ∧ x.length ≤ sizeLine ∧ ∀ H', Same H H' → Q (.bl (nmB x)) H') ∨
  ∃ t, TyX K H v t ∧ PySem.W.kitOne K t (.type "str") = some false ∧ Q (.bl false) H)
end Z
namespace Z
open PySem PySem.Spec PyProof.Rows L2
/-! ### defs that may ask for a repr: nothing is being shown around them -/
structure FnG (P : Program) (w : World) (K : PySem.W.Frag) (mg : Str → Option Value) (base : Heap) (CX : CXT) (k : Nat) (f : Addr) (fd : FuncData) (ps : List Str) (sp : Sp) : Prop where
  len : ∀ vs H Q E, sp vs H Q E → vs.length = ps.length
  run : ∀ (A : Around) (outer : List Env) (s : Shared) (H : Hp) (args : Args) (us : List Value) (vs : List V) (Q : VK) (E : XK), A.guards = some [] → Room k A → Env0 P w K mg base A outer s H → BindsTo s fd args (ps.zip us) → Vals vs us → sp vs H Q E → codeAny (model P w) A (.call (.ref f) args) (CR CX outer P w H s Q E) s
theorem FnG.of {P : Program} {w : World} {K : PySem.W.Frag} {mg : Str → Option Value} {base : Heap} {CX : CXT} {k : Nat} {f : Addr} {fd : FuncData} {ps : List Str} {sp : Sp} (F : FnOk P w K mg base CX k f fd ps sp) : FnG P w K mg base CX k f fd ps sp :=
  ⟨F.len, fun A outer s H args us vs Q E _ hr => F.run A outer s H args us vs Q E hr⟩
theorem FnG.mono {P : Program} {w : World} {K : PySem.W.Frag} {mg : Str → Option Value} {base : Heap} {CX : CXT} {j k : Nat} {f : Addr} {fd : FuncData} {ps : List Str} {sp : Sp} (F : FnG P w K mg base CX j f fd ps sp) (h : j ≤ k) : FnG P w K mg base CX k f fd ps sp :=
  ⟨F.len, fun A outer s H args us vs Q E hg hr => F.run A outer s H args us vs Q E hg (hr.mono h)⟩
section
variable {P : Program} {w : World} {K : PySem.W.Frag} {mg : Str → Option Value} {base : Heap} {x qual : Str} {params : Arguments} {body : List Stmt} {scope : Scope} {dvs : List V} {kws : List (Str × V)} {f : Addr} {fd : FuncData}
theorem okG {CX : CXT} {N ps : List Str} {k : Nat} {sp : Sp} (F : FunD K x qual params body scope dvs kws f fd) (S : FnScope N ps scope) (len : ∀ vs H Q E, sp vs H Q E → vs.length = ps.length)
    (hbody : ∀ (cdv : Value) (A : Around) (outer : List Env) (s : Shared) (H : Hp) (vs : List V) (Q : VK) (E : XK), A.guards = some [] → Room k (A.deeper (envOfC qual scope s.heap.objs.size f cdv)) → sp vs H Q E →
      ∃ t, PSs (cxOf CX P w K mg base N qual scope f cdv A outer s H E) body t ∧ t { nx := fun _ H' => Q .non H', rt := Q } (start N vs) H) : FnG P w K mg base CX (k + 1) f fd ps sp := by
  obtain ⟨oc, od, dV, kV, doc, pm, an, cdv, ct, osl, rfl, lk, hcd, _, _⟩ := F.ex
  constructor
  · exact len
  intro A outer s H args us vs Q E hgu hr e0 hb r hsp
  have hlen := len _ _ _ _ hsp
  have kx : K.In s.heap := e0.mod.kin.keeps (fun b o e => (e0.bs b o e).1)
  have nol : s.heap.NoLimit := e0.mod.nolimit.keeps (fun b o e => (e0.bs b o e).1)
  have kinds : ∀ y ∈ ps.zip us, scope.names.lookup y.1 = some .local ∨ (scope.names.lookup y.1 = some .cell ∧ ((cellsFrom (s.heap.objs.size + 1) scope.names []).lookup y.1).isSome = true) := by
    rintro ⟨n, v⟩ hy
    cases S.par n (List.of_mem_zip hy).1 with
    | inl q => exact Or.inl q
    | inr q => exact Or.inr ⟨q, PySem.W.cellsFrom_some _ _ _ (Or.inl q)⟩
  refine codeAny_call_function hr.depth (kx _ _ lk) rfl S.co S.gen rfl (PySem.W.codeRec_of kx hcd) ?_
  refine hb _ _ _ _ (wpAny_newFunctionEnv_cells S.kind kinds ?_)
  rintro env rfl s1 x1
  refine ⟨nol.keeps x1.toInCall.keep, ?_⟩
  obtain ⟨t, ht, hq⟩ := hbody cdv A outer s H vs Q E hgu (hr.deeper _) hsp
  have I : Inv (cxOf CX P w K mg base N qual scope f cdv A outer s H E) [] (start N vs) H s1 := inv_start S hr.hd e0 hlen r x1
  refine codeAny_func (wpAny_mono (ht.run [] s1 (start N vs) H _ I hq) (fun fl s' hs => ?_) (fun _ _ z => z))
  have ends : ∀ {σ' : L2.St} {H' : Hp} {v : V} {u : Value}, Inv (cxOf CX P w K mg base N qual scope f cdv A outer s H E) [] σ' H' s' → RelV v u → Q v H' → CE outer P w H s Q u s' := by
    intro σ' H' v u J rv q
    exact ⟨v, H', J.os, J.bare, J.base, J.hok, rv, q⟩
  match fl, hs with
  | .ret u, ⟨v, σ', H', J, rv, q⟩ => exact ends J rv q
  | .next, ⟨σ', H', J, q⟩ => exact ends (v := .non) (u := .none) J rfl q
  | .brk, ⟨_, _, _, q⟩ => exact q.elim
  | .cont, ⟨_, _, _, q⟩ => exact q.elim
end
/-- a def of the module that may show things -/
structure DefG (P : Program) (w : World) (K : PySem.W.Frag) (mg : Str → Option Value) (base : Heap) (k : Nat) (x : Str) (ps : List Str) (sp : Sp) : Prop where
  ex : ∃ fd, FnG P w K mg base CX0 k (He.ga K x) fd ps sp ∧ Binds K fd ps []
  kp : PySem.W.keepIn K (.ref (He.ga K x)) = true
  at_ : mg x = some (.ref (He.ga K x))
theorem run_fnG {X : Cx} {CX : CXT} {k : Nat} {f : Addr} {fd : FuncData} {ps : List Str} {sp : Sp} {ds : List Value} {dvs : List V} {E : XK} {pins : List (Addr × Obj)} {σ : L2.St} {H : Hp} {s : Shared} {Q : VK} {us : List Value} {vs : List V}
    (F : FnG X.prog X.w X.K X.mg X.base CX k f fd ps sp) (hgu : X.A.guards = some []) (hr : Room k X.A) (hb : Binds X.K fd ps ds) (hd : Vals dvs ds) (hx : Passes CX X E) (I : Inv X pins σ H s) (r : Vals vs us) (h : sp (vs ++ dvs) H Q E) :
    wpAny (model X.prog X.w) X.A (call (.ref f) us) (EP X pins σ Q) X.xe s := by
  have both : Vals (vs ++ dvs) (us ++ ds) := r.append hd
  have hlen : (us ++ ds).length = ps.length := (both.length.symm).trans (F.len _ _ _ _ h)
  refine wpAny_call ?_
  refine codeAny_mono (F.run X.A X.stack s H ⟨us, []⟩ (us ++ ds) (vs ++ dvs) Q E hgu hr I.env0 (hb s us I.kIn hlen) both h) ?_
  intro res s' hq
  match res, hq with
  | .error e, hq => exact hx pins σ H s e s' I hq
  | .ok (.ret u), hq => exact I.after hq
  | .ok .next, hq => exact hq.elim
  | .ok .brk, hq => exact hq.elim
  | .ok .cont, hq => exact hq.elim
theorem pe_defG {X : Cx} {k : Nat} {x : Str} {ps : List Str} {sp : Sp} {e : Expr} {es : List Expr} {p pos : Pos} {t : TA} (D : DefG X.prog X.w X.K X.mg X.base k x ps sp) (hgu : X.A.guards = some []) (hr : Room k X.A) (hg : Gl X x) (ha : PA X (e :: es) t)
    (hdb : (x == ("__debug__" : Str)) = false := by decide) (he : starEach (e :: es) X.env = (false, eval e X.env) :: starEach es X.env := by rfl) (hpl : (backTo pos (starEach es X.env)).any (·.1) = false := by rfl) :
    PE X (.Call (.Name x p) (e :: es) [] pos) (tCall sp [] E0 t) := by
  obtain ⟨fd, F, b⟩ := D.ex
  exact ⟨fun pins s σ H Q I h => wpAny_Call_Name_kw (ld_glob I hg D.at_ (PySem.W.callWith_K (h₀ := X.base) I.ok.mod.kin D.kp
    (thn (ha.run pos pins s σ H _ I h) fun us s1 ⟨vs, H1, I1, r, q⟩ => ⟨I1.kIn, run_fnG F hgu hr b .nil pass0 I1 r q⟩) he hpl) hdb)⟩
/-! ### repr of data -/
def rRepr (K : PySem.W.Frag) : List V → Hp → VK → Prop := fun xs H Q => ∃ x d, xs = [x] ∧ Dp K H x d ∧ PyData.showable d = true ∧ PyData.hasDict d = false ∧ d.depth ≤ 64 ∧ d.shown.length ≤ sizeLine ∧ Q (.str d.shown) H
theorem kcall_repr {X : Cx} {K : PySem.W.Frag} (hgu : X.A.guards = some []) (hu : X.A.units + 70 < cLine) (hK : X.K = K := by rfl) : CallR X (.builtin "repr") (rRepr K) := by
  subst hK
  rintro pins s σ H xs us Q I r ⟨x, d, rfl, hd, hs, hn, hdep, hz, q⟩
  cases r with
  | cons r1 rs =>
    cases rs
    rename_i u
    have fin : ∀ (h' : Heap) (y : Tok) (tk : Nat), (∀ b o, s.heap.get? b = some o → h'.get? b = some o) → EP X pins σ Q (.str d.shown y) { s with heap := h', toks := tk } := fun h' y tk hk => ⟨.str d.shown, H, I.kept hk, ⟨y, rfl⟩, q⟩
    have fin0 : ∀ (y : Tok) (tk : Nat), EP X pins σ Q (.str d.shown y) { s with toks := tk } := fun y tk => fin s.heap y tk fun _ _ e => e
    cases hd with
    | non => cases r1; exact PySem.P.repr_of_none (fin0 _ _)
    | bl b => cases r1; exact PySem.P.repr_of_bool (fin0 _ _)
    | int i =>
      obtain ⟨t, rfl⟩ := r1
      exact PySem.P.repr_of_int (by simpa [PyData.showable] using hs) (fin0 _ _)
    | str z =>
      obtain ⟨t, rfl⟩ := r1
      exact PySem.P.repr_of_str (fin0 _ _) hz
    | lst hq ha =>
      obtain ⟨as, rd⟩ := Dp.reads I _ _ _ (Dp.lst hq ha) r1
      cases r1
      exact repr_of_reads' rd hs (PyData.noDict_hsm hn) hgu (by omega) (fun _ _ e => e) (fun h' y tk hk => fin h' y tk hk) hz
    | tup hq ha =>
      obtain ⟨as, rd⟩ := Dp.reads I _ _ _ (Dp.tup hq ha) r1
      cases r1
      exact repr_of_reads' rd hs (PyData.noDict_hsm hn) hgu (by omega) (fun _ _ e => e) (fun h' y tk hk => fin h' y tk hk) hz
/-! ### a law whose def may show things -/
theorem law_callG {P : Program} {w : World} {K : PySem.W.Frag} {mg mb : Str → Option Value} {CX : CXT} {k : Nat} {fa a : Addr} {fd : FuncData} {x : Str} {sp : Sp} {s₁ : Shared} {vs : List Value} {ns : List Int}
    (KX : K.In s₁.heap) (hns : s₁.heap.Ns mainGlobals mg) (hb : s₁.heap.Ns builtinsNs mb) (hbb : ∀ x : Str, x ≠ "__name__" → mb x = bootBuiltins x) (hlim : s₁.heap.NoLimit) (hgens : s₁.gens = #[])
    (ha : s₁.heap.get? a = some { cls := .type "list", data := .seq vs.toArray }) (hi : IntsAre vs ns) (hl : ns.length ≤ sizeLine) (hr : Room k callerA)
    (F : ∀ base : Heap, K.In base → base.Ns mainGlobals mg → FnG P w K mg base CX k fa fd [x] sp) (hbind : ∀ (s : Shared) (u : Value), BindsTo s fd ⟨[u], []⟩ [(x, u)])
    (hsp : ∀ H : Hp, Only H → SqL K H a (ns.map V.int) → sp [.ref a] H (fun v _ => v = .bl true) fun _ _ _ => False) (hCX : ∀ H e s', CX [] H s₁ (fun _ _ _ => False) e s' → False) :
    codeAny (model P w) callerA (.call (.ref fa) ⟨[.ref a], []⟩) (fun r s' => r = .ok (.ret (.bool true)) ∧ OldK s₁.heap s'.heap ∧ s'.os = s₁.os ∧ AllBare s'.gens) s₁ := by
  have relV := vals_ints hi
  have sameLen := hi.length
  have main : ∀ H : Hp, Only H → SqL K H a (ns.map V.int) → HOk P w H s₁.heap → (∀ b, H b ≠ none → b = a) → (H a ≠ none → K.lookup a = none) →
      codeAny (model P w) callerA (.call (.ref fa) ⟨[.ref a], []⟩) (fun r s' => r = .ok (.ret (.bool true)) ∧ OldK s₁.heap s'.heap ∧ s'.os = s₁.os ∧ AllBare s'.gens) s₁ := by
    intro H hO hS hok onlyA freeK
    have seen : ∀ {b : Addr} {o : Obj}, s₁.heap.get? b = some o → H b = none → (hidT s₁.heap H).get? b = some o := by
      intro b o e n
      exact hidT_get e n
    have noDict : ∀ {b : Addr} {o : Obj} {es : Array DictEntry} {ep : Nat}, s₁.heap.get? b = some o → o.data = .dict es ep → H b = none := by
      intro b o es ep e d
      cases q : H b with
      | none => rfl
      | some u =>
        have eb : b = a := onlyA b (by rw [q]; simp)
        subst eb
        rw [ha] at e
        cases e
        have d2 : Data.seq vs.toArray _ = Data.dict es ep := d
        cases d2
    have nsKeep : ∀ {b : Addr} {m : Str → Option Value}, s₁.heap.Ns b m → (hidT s₁.heap H).Ns b m := by
      rintro b m ⟨o, es, ep, e, d, r⟩
      exact ⟨o, es, ep, seen e (noDict e d), d, r⟩
    have kBase : K.In (hidT s₁.heap H) := by
      intro b o e
      refine seen (KX b o e) ?_
      cases q : H b with
      | none => rfl
      | some u =>
        have eb : b = a := onlyA b (by rw [q]; simp)
        subst eb
        rw [freeK (by rw [q]; simp)] at e
        cases e
    have theMod : Mod K mg (hidT s₁.heap H) := ⟨kBase, nsKeep hns, ⟨mb, nsKeep hb, hbb⟩, let ⟨mc, h1, h2⟩ := hlim; ⟨mc, nsKeep h1, h2⟩⟩
    have start0 : Env0 P w K mg (hidT s₁.heap H) callerA [] s₁ H :=
      ⟨rfl, theMod, fun b o e => of_hidT e, Nat.le_of_eq (hidT_size _ _), trivial, fun b hb => absurd (show b ∈ ([] : List Addr) from hb) (by simp), hok, .of_eq hgens⟩
    have ran := (F _ kBase (nsKeep hns)).run callerA [] s₁ H ⟨[.ref a], []⟩ [.ref a] [.ref a] _ _ rfl hr start0 (hbind s₁ (.ref a)) (.cons rfl .nil) (hsp H hO hS)
    refine codeAny_mono ran ?_
    intro r s' h
    match r, h with
    | .error e, h => exact (hCX H e s' h).elim
    | .ok .next, h => exact h.elim
    | .ok .brk, h => exact h.elim
    | .ok .cont, h => exact h.elim
    | .ok (.ret u), ⟨v, H', os, bare, un, hok', rv, q⟩ =>
      have hv : v = .bl true := q
      subst hv
      obtain rfl : u = Value.bool true := rv
      refine ⟨rfl, OldK.of_keep (fun b o e => ?_), os, bare⟩
      cases q : H b with
      | none => exact un.keep b o e q (by intro z; exact absurd (show b ∈ ([] : List Addr) from z) (by simp)) (by simp)
      | some u =>
        cases hO b with
        | inl z => rw [q] at z; cases z
        | inr z =>
          obtain ⟨ob, xs, z⟩ := z
          obtain ⟨e1, _⟩ := hok b _ z
          obtain ⟨e2, _⟩ := hok' b _ (un.frzs b ob _ z)
          rw [e] at e1
          cases e1
          exact e2
  cases hk : K.lookup a with
  | some o =>
    have e := KX a o hk
    rw [ha] at e
    cases e
    exact main (fun _ => none) (fun _ => .inl rfl) (.inr ⟨_, vs.toArray, _, hk, rfl, rfl, rfl, by rw [List.size_toArray, sameLen]; exact hl, by simpa using relV⟩) (fun b u z => nomatch (show (none : Option HO) = some u from z)) (fun b z => absurd rfl z) (fun z => absurd rfl z)
  | none =>
    refine main (fun b => if b = a then some (.frz { cls := .type "list", data := .seq vs.toArray } (.lst (ns.map V.int))) else none) ?_ (.inl (.inr ⟨{ cls := .type "list", data := .seq vs.toArray }, if_pos rfl⟩)) ?_ ?_ (fun _ => hk)
    · intro b
      by_cases eb : b = a
      · exact .inr ⟨_, _, if_pos eb⟩
      · exact .inl (if_neg eb)
    · intro b u z
      by_cases eb : b = a
      · have z2 := (if_pos eb).symm.trans z
        cases z2
        subst eb
        exact ⟨ha, by rw [List.length_map]; exact hl, vs, _, relV, ha⟩
      · have z2 := (if_neg eb).symm.trans z
        cases z2
    · intro b z
      by_cases eb : b = a
      · exact eb
      · exact absurd (if_neg eb) z
/-- the end over a head by facts -/
theorem walk_G {l : PySem.W.OpenLaw} {n k : Nat} {q : Program} {loose : List Str} {XP : (Str → Option Value) → Heap → Prop} {YP : World → Heap → Prop} {d : DefRec} {CX : CXT} {x : Str} (hn : l.most = some n) (hn2 : n ≤ sizeLine) (hdf : d.params.defaults = []) (hr : Room k callerA)
    (F : ∀ (w : World) (mg : Str → Option Value) (fa : Addr) (h : Heap), YP w h → h.Ns mainGlobals mg → mg d.name = some (.ref fa) → ∃ (K : PySem.W.Frag) (fd : FuncData) (sp : Sp), K.In h ∧ (∀ (s : Shared) (u : Value), BindsTo s fd ⟨[u], []⟩ [(x, u)]) ∧
        (∀ (H : Hp) (a : Addr) (ns : List Int), ns.length ≤ n → Only H → SqL K H a (ns.map V.int) → sp [.ref a] H (fun v _ => v = .bl true) fun _ _ _ => False) ∧ ∀ base : Heap, K.In base → base.Ns mainGlobals mg → FnG l.prog w K mg base CX k fa fd [x] sp)
    (hCX : ∀ (H : Hp) (s : Shared) (e : Value) (s' : Shared), CX [] H s (fun _ _ _ => False) e s' → False) : PySem.W.WalkO q loose XP YP l.row.toRowW d [] (fun f vs => PySem.call f vs) := by
  refine Att.attach_call hn hdf ?_
  intro w s₀ s₁ mg mb fa o pm cd doc a vs ns G Y ho hd hcd hmg hobj hints hlen hg
  obtain ⟨K, fd, sp, kx, hbd, hsp, hF⟩ := F w mg fa _ Y G.T.g hmg
  exact law_callG kx G.T.g G.T.b G.T.builtins G.T.nolimit hg hobj hints (Nat.le_trans hlen hn2) hr hF hbd (fun H hO hS => hsp H a ns hlen hO hS) (fun H e s' => hCX H s₁ e s')
end Z
namespace Z
open PySem PySem.Spec PyProof.Rows L2
/-! ### comparisons by an own method -/
/-- a method of an own class keeps its promise -/
structure DefM (P : Program) (w : World) (K : PySem.W.Frag) (mg : Str → Option Value) (base : Heap) (k : Nat) (f : Addr) (ps : List Str) (sp : Sp) : Prop where
  ex : ∃ fd, FnOk P w K mg base CX0 k f fd ps sp ∧ Binds K fd ps []
/-- x op y by the method of x's class: what it is handed, what it gives back (a truth value) -/
def rOwn (K : PySem.W.Frag) (C : Addr) (sp : Sp) : R2 := fun x y H Q => ∃ (a dx : Addr) (fs : List (Str × V)) (tb : Value), x = .ref a ∧ H a = some (.ins C dx fs) ∧ TyX K H y tb ∧ PySem.W.notFirst K C tb = true ∧ sp [.ref a, y] H (fun v H' => ∃ b, v = .bl b ∧ Q (.bl b) H') E0
theorem op_own {X : Cx} {K : PySem.W.Frag} {op : CmpOp} {C f : Addr} {k : Nat} {ps : List Str} {sp : Sp} (D : DefM X.prog X.w K X.mg X.base k f ps sp) (hr : Room k X.A) (hs : PySem.W.findIn K (.ref C) (cmpInfo op).2.1 = some (some (.ref f))) (hf : PySem.W.isFn K (.ref f) = true)
    (ho : ∀ u v, compareOp op u v = richCompare op u v := by intro _ _; rfl) (hK : X.K = K := by rfl) : OpR X (compareOp op) (rOwn K C sp) := by
  subst hK
  obtain ⟨fd, F, hb⟩ := D.ex
  rintro pins s σ H x y v u Q I rx ry ⟨a, dx, fs, tb, rfl, ha, ty, hnf, hq⟩
  cases rx
  obtain ⟨mA, J, _⟩ := ins_get I.hok ha
  obtain ⟨od, J, _⟩ := J.look
  obtain ⟨m, hF⟩ := I.fr
  obtain ⟨Pk, Z1, pk, _⟩ := kit_of I ry ty
  rw [ho]
  refine PySem.W.cmp_K (op := op) (tb := tb) hr.units0 hF I.ok.mod.kin J (Z1.ty (model X.prog X.w) s.heap I.kIn pk) hnf hs hf ?_
  have hv : Vals [V.ref a, y] [Value.ref a, u] := .cons rfl (.cons ry .nil)
  refine wpAny_mono (run_fn F hr hb .nil pass0 I hv hq) (fun r s' z => ?_) (fun _ _ z => z)
  obtain ⟨v', H', I', rv, b, rfl, q⟩ := z
  cases rv
  exact ⟨.bl b, H', I', rfl, q⟩
section
variable {prog : Program} {w : World} {A : Around} {E : Value → Shared → Prop} {s : Shared} {K : PySem.W.Frag} {x C f : Addr} {ox : Obj} {od : Option Obj} {u : Value}
theorem ne_body {Q : Fin → Shared → Prop} (X : K.In s.heap) (I : PySem.W.InstAt s.heap x ox C od) (hs : PySem.W.findIn K (.ref C) "__eq__" = some (some (.ref f))) (hf : PySem.W.isFn K (.ref f) = true) (hu : A.units < cLine)
    (hc : wpAny (model prog w) A (call (.ref f) [.ref x, u]) (fun v s' => ∃ b, v = .bool b ∧ Q (.done (.ret (.bool (!b)))) s') E s) : wpAny (model prog w) A (Builtin.«object.__ne__» ⟨[.ref x, u], []⟩) Q E s := by
  unfold Builtin.«object.__ne__»
  repeat (first
    | (with_reducible refine wpAny_cRoomFor hu ?_)
    | (refine wpAny_bind (m := callSpecialIfBound? (.ref x) (Str.ofString "__eq__") [u]) (PySem.W.ifBound_K X I hs hf (wpAny_mono hc (fun r s' hr => ?_) fun _ _ e => e)))
    | wp_step)
  obtain ⟨b, rfl, hq⟩ := hr
  repeat (first | exact hq | exact wpAny_pure hq | exact wpAny_truthy_bool hq | (refine wpAny_bind (m := truthy (.bool _)) (wpAny_truthy_bool ?_)) | wp_step)
theorem ne_bound {M : Model} {args : List Value} {Q : Option Value → Shared → Prop} (X : K.In s.heap) (I : PySem.W.InstAt s.heap x ox C od) (hn : PySem.W.findIn K (.ref C) "__ne__" = some (some (.builtin "object.__ne__")))
    (h : wpAny M A (call (.builtin "object.__ne__") (.ref x :: args)) (fun v => Q (some v)) E s) : wpAny M A (callSpecialIfBound? (.ref x) "__ne__" args) Q E s := by
  have done : wpAny M A (call (.builtin "object.__ne__") ([.ref x] ++ args) >>= fun v => pure (some v)) Q E s := wpAny_bind (wpAny_mono h (fun v s' h' => wpAny_pure h') fun _ _ h' => h')
  simp only [callSpecialIfBound?, bindSpecialIfBound?]
  refine wpAny_holding (wpAny_bind (wpAny_bind (wpAny_bind (I.type.here ((PySem.W.looks_findIn X hn).here (wpAny_bind (wpAny_askSetting (wpAny_ite ?_))))))))
  split
  · exact wpAny_bind (wpAny_of_eq (F.cmp_object.ne.bind _) (wpAny_pure (by exact done)))
  · exact wpAny_tryCatch (wpAny_bind (wpAny_of_eq (F.cmp_object.ne.bind _) (wpAny_pure (by exact done))))
theorem ne_rich {tb : Value} {Q : Value → Shared → Prop} (hu : A.units + 1 < cLine) (X : K.In s.heap) (I : PySem.W.InstAt s.heap x ox C od) (hm : PySem.W.mroIn K C (.type "object") = some true) (hb : PySem.W.Looks (model prog w) s.heap (typeOf u) tb) (hnf : PySem.W.notFirst K C tb = true)
    (hs : PySem.W.findIn K (.ref C) "__eq__" = some (some (.ref f))) (hf : PySem.W.isFn K (.ref f) = true) (hn : PySem.W.findIn K (.ref C) "__ne__" = some (some (.builtin "object.__ne__")))
    (hc : wpAny (model prog w) A.in1 (call (.ref f) [.ref x, u]) (fun v s' => ∃ b, v = .bool b ∧ Q (.bool (!b)) s') E s) : wpAny (model prog w) A (richCompare .NotEq (.ref x) u) Q E s := by
  have one : wpAny (model prog w) A (tryCompare (.ref x) "__ne__" u) (fun r s' => ∃ v, r = some v ∧ Q v s') E s := by
    unfold tryCompare
    refine wpAny_bind (ne_bound X I hn (wpAny_call (codeAny_call_builtin F.cmp_object.ne.plain F.cmpEntry_ne (PySem.W.check_slot F.cmpKind_ne F.cmpSplit_ne (I.type.andThen (PySem.W.looks_mroIn X hm)) (F.cmpArgs_ne _ _) (ne_body (A := A.in1) X I hs hf hu (wpAny_mono hc (fun v s' hv => ?_) fun _ _ e => e))))))
    obtain ⟨b, rfl, hq⟩ := hv
    first | exact ⟨b, rfl, wpAny_pure ⟨_, rfl, hq⟩⟩ | exact ⟨b, rfl, wpAny_pure (wpAny_pure ⟨_, rfl, hq⟩)⟩ | exact ⟨b, rfl, ⟨_, rfl, hq⟩⟩
  unfold richCompare
  simp only [oneThing_ref]
  refine wpAny_holding (wpAny_bind (wpAny_cRoomFor (by omega) (wpAny_bind (I.type.here (wpAny_bind (hb.here ?_))))))
  split
  · rename_i q
    have e : PySem.W.subIn K tb (.ref C) = some false := by
      cases Bool.or_eq_true_iff.mp hnf with
      | inl e => rw [beq_iff_eq.mp e] at q; simp at q
      | inr e => exact beq_iff_eq.mp e
    refine wpAny_bind ((PySem.W.looks_subIn X e).here ?_)
    simp only [Bool.false_eq_true, if_false]
    refine wpAny_bind (wpAny_mono one (fun r s' z => ?_) (fun _ _ z => z))
    obtain ⟨v, rfl, hq⟩ := z
    exact wpAny_pure hq
  · refine wpAny_bind (wpAny_pure ?_)
    simp only [Bool.false_eq_true, if_false]
    refine wpAny_bind (wpAny_mono one (fun r s' z => ?_) (fun _ _ z => z))
    obtain ⟨v, rfl, hq⟩ := z
    exact wpAny_pure hq
end
/-- x != y by the own == of x's class -/
def rOwnNe (K : PySem.W.Frag) (C : Addr) (sp : Sp) : R2 := fun x y H Q => ∃ (a dx : Addr) (fs : List (Str × V)) (tb : Value), x = .ref a ∧ H a = some (.ins C dx fs) ∧ TyX K H y tb ∧ PySem.W.notFirst K C tb = true ∧ sp [.ref a, y] H (fun v H' => ∃ b, v = .bl b ∧ Q (.bl (!b)) H') E0
theorem op_ownNe {X : Cx} {K : PySem.W.Frag} {C f : Addr} {k : Nat} {ps : List Str} {sp : Sp} (D : DefM X.prog X.w K X.mg X.base k f ps sp) (hr : Room (k + 1) X.A) (hm : PySem.W.mroIn K C (.type "object") = some true)
    (hs : PySem.W.findIn K (.ref C) "__eq__" = some (some (.ref f))) (hf : PySem.W.isFn K (.ref f) = true) (hn : PySem.W.findIn K (.ref C) "__ne__" = some (some (.builtin "object.__ne__"))) (hK : X.K = K := by rfl) : OpR X (compareOp .NotEq) (rOwnNe K C sp) := by
  subst hK
  obtain ⟨fd, F, hb⟩ := D.ex
  rintro pins s σ H x y v u Q I rx ry ⟨a, dx, fs, tb, rfl, ha, ty, hnf, hq⟩
  cases rx
  obtain ⟨mA, J, _⟩ := ins_get I.hok ha
  obtain ⟨od, J, _⟩ := J.look
  obtain ⟨Pk, Z1, pk, _⟩ := kit_of I ry ty
  show wpAny (model X.prog X.w) X.A (richCompare .NotEq (.ref a) u) (EP X pins σ Q) X.xe s
  have hun := hr.units0
  refine ne_rich (by have := hr.un; omega) I.kIn J hm (Z1.ty (model X.prog X.w) s.heap I.kIn pk) hnf hs hf hn ?_
  have e0 : Env0 X.prog X.w X.K X.mg X.base X.A.in1 X.stack s H := by
    have e := I.env0
    exact ⟨e.frames, e.mod, e.bs, e.bsz, e.funs, e.frf, e.hok, e.bare⟩
  have hv : Vals [V.ref a, y] [Value.ref a, u] := .cons rfl (.cons ry .nil)
  have hl : [V.ref a, y].length = ps.length := F.len _ _ _ _ hq
  have bt : BindsTo s fd ⟨[.ref a, u], []⟩ (ps.zip [.ref a, u]) := by
    have := hb s [.ref a, u] I.kIn (by simpa using hl)
    simpa using this
  refine wpAny_call (codeAny_mono (F.run X.A.in1 X.stack s H ⟨[.ref a, u], []⟩ [.ref a, u] [.ref a, y] _ E0 hr.in1 e0 bt hv hq) (fun r s' hq => ?_))
  match r, hq with
  | .error e, hq => exact (show False from hq).elim
  | .ok .next, hq => exact hq.elim
  | .ok .brk, hq => exact hq.elim
  | .ok .cont, hq => exact hq.elim
  | .ok (.ret w), hq =>
    obtain ⟨z, H', I', rz, b, rfl, q⟩ := I.after hq
    cases rz
    exact ⟨b, rfl, .bl (!b), H', I', rfl, q⟩
end Z
namespace Z
open PySem PySem.Spec PyProof.Rows L2
/-! ### a caught exception that is kept -/
/-- a caught exception of the class cls stands at a, its own dict at d -/
def ExK (cls : Value) (d : Option Addr) (a : Addr) : HO := .ext fun h => ∃ (oe : Obj) (vs : Array Value), h.get? a = some oe ∧ Zc cls d oe ∧ oe.data = .fields vs
theorem exK_ok {P : Program} {w : World} {H : Hp} {h : Heap} {a : Addr} {cls : Value} {d : Option Addr} {oe : Obj} {vs : Array Value} (e : h.get? a = some oe) (z : Zc cls d oe) (f : oe.data = .fields vs) : ObjOk P w H h a (ExK cls d a) :=
  ⟨⟨oe, vs, e, z, f⟩, ⟨oe, e⟩, fun h1 h2 ⟨o1, v1, e1, z1, f1⟩ k => ⟨o1, v1, k o1 e1, z1, f1⟩⟩
theorem adopt {X : Cx} {pins : List (Addr × Obj)} {σ : L2.St} {H : Hp} {s : Shared} {a : Addr} {oe : Obj} {o : HO} (I : Inv X ((a, oe) :: pins) σ H s) (hnew : X.s_0.heap.get? a = none) (hp : ∀ p ∈ X.pn ++ pins, p.1 ≠ a) (ok : ObjOk X.prog X.w (upd H a o) s.heap a o) : Inv X pins σ (upd H a o) s := by
  obtain ⟨hget, hna, hnl, hnf, hnc⟩ := I.pin (a, oe) (List.mem_append_right _ (List.mem_cons_self ..))
  have other : ∀ b u, H b = some u → b ≠ a := by
    intro b u e z
    rw [z, hna] at e
    cases e
  have up : ∀ b u, H b = some u → upd H a o b = some u := fun b u e => by rw [upd_ne (other b u e)]; exact e
  refine ⟨I.ok, I.os, I.bare, ⟨I.base.keep, I.base.slot, ?_, I.base.there, ?_, ?_, ?_⟩, I.loc, I.cell, ?_, ?_, ?_, I.hok.laidN (fun _ _ e => e) hna ok, I.len⟩
  · intro b ob e n hx
    have nb : b ≠ a := by
      intro z
      rw [z, hnew] at e
      cases e
    rw [upd_ne nb]
    exact I.base.free b ob e n hx
  · exact fun b xs e => up b _ (I.base.tups b xs e)
  · exact fun b ob u e => up b _ (I.base.frzs b ob u e)
  · intro b ps e
    obtain ⟨more, e2⟩ := I.base.tbls b ps e
    exact ⟨more, up b _ e2⟩
  · rw [upd_ne (Ne.symm hnl)]
    exact I.free
  · intro x c e
    have nc : c ≠ a := by
      rintro rfl
      obtain ⟨v, ob, e2, d2⟩ := I.cell x c e
      have e3 : some oe = some ob := hget.symm.trans e2
      cases e3
      exact hnc v d2
    rw [upd_ne nc]
    exact I.freeC x c e
  · intro p hpp
    obtain ⟨q1, q2, q3⟩ := I.pin p (by
      rcases List.mem_append.mp hpp with z | z
      · exact List.mem_append_left _ z
      · exact List.mem_append_right _ (List.mem_cons_of_mem _ z))
    exact ⟨q1, by rw [upd_ne (hp p hpp)]; exact q2, q3⟩
/-- what the clause wishes: behind the suite the name is gone, and the exception is kept -/
def wKeep (K : PySem.W.Frag) (c : Value) (i : Nat) (ts : Addr → Value → Option Addr → TS) (Wout : WX) (D : Ends) : WX := fun cls d σ H =>
  ∃ b, PySem.W.exmOne K cls c = some b ∧ (b = false → Wout cls d σ H) ∧ (b = true → ∀ a, H a = none → ts a cls d { nx := fun σ' H' => D.nx (σ'.set i none) (upd H' a (ExK cls d a)), rt := fun _ _ => False } (σ.set i (some (.ref a))) H)
theorem ps_try_keep {X : Cx} (hex : X.ex = []) {x n : Str} {c : Value} {i : Nat} {body suite : List Stmt} {b₀ : Stmt} {np pos pos' : Pos} {tb : WX → TS} {ts : Addr → Value → Option Addr → TS} {Wout : WX} (hs : X.stack = X.env :: X.outer) (hf : X.env.frame = some X.env.locals) (hN : X.N.Nodup) (hi : X.N[i]? = some n)
    (hln : X.env.kindOf n = some .local) (hc : Names X x c) (tk : Takes X Wout) (hb : ∀ (W : WX) (pn : List (Addr × Obj)) (xe : Value → Shared → Prop), Takes (X.tr pn xe) W → PassesOwn (model X.prog X.w) X.A X.env xe → PSs (X.tr pn xe) body (tb W))
    (hsu : ∀ (a : Addr) (oe : Obj) (cls : Value) (d : Option Addr) (pn : List (Addr × Obj)), Zc cls d oe → (∃ vs, oe.data = .fields vs) → PSs (X.suite a ((a, oe) :: pn)) (b₀ :: suite) (ts a cls d)) :
    PS X (.Try body [.ExceptHandler (some (.Name x np)) (some n) (b₀ :: suite) pos'] [] [] pos) (fun D σ H => tb (wKeep X.K c i ts Wout D) D σ H) := by
  constructor
  intro pins s σ H D I h
  have okX := I.ok
  have frs0 : X.A.frames = some (X.env :: X.outer) := by rw [okX.frames, hs]
  have locn : Loc X.env.scope n := Or.inl hln
  apply wpAny_Try_except
  have whole := (hb (wKeep X.K c i ts Wout D) (X.pn ++ pins) (fun e s₁ => wpAny (model X.prog X.w) X.A (noteFrame e X.env) (fun _ s₂ => wpAny (model X.prog X.w) X.A (setFlight e none) (fun _ s₃ => wpAny (model X.prog X.w) X.A (handleBy e X.env [.ExceptHandler (some (.Name x np)) (some n) (b₀ :: suite) pos']) (SP X pins D) X.xe s₃) X.xe s₂) X.xe s₁) ?caught PassesOwn.looking).run [] s σ H D (I.toTry _) h
  case caught =>
    rintro u s' ⟨a, B, sI, pins', σ', H', cls, d, rfl, J', nb, up, sky, na, os, ag, b, hb1, hno, hyes⟩
    have J : Inv X pins σ' H' sI := J'.ofTry okX
    have sky' : Sky B (X.env :: X.outer) a (Zc cls d) X.env.locals s'.heap := by rw [← hs]; exact sky
    show wpAny (model X.prog X.w) X.A (noteFrame (.ref a) X.env) _ _ _
    apply Sky.land Zc.steady frs0 hf sky'
    intro h3 fl3 up3
    have J3 : Inv X pins σ' H' { s' with heap := h3 } := J.landed nb fl3.1 (up.trans up3) os ag
    obtain ⟨oe3, vs3, he3, hz3, hd3⟩ := fl3.there
    have noFrame : ∀ {g : Heap} {o : Obj} {vs : Array Value}, g.FunFrames B (X.env :: X.outer) → g.get? a = some o → o.data = .fields vs → a ∉ frs (X.env :: X.outer) := by
      intro g o vs ff e dd hm
      obtain ⟨_, o', e', hnf⟩ := ff.mem hm
      rw [e] at e'
      cases e'
      exact hnf _ dd
    have nfr := noFrame fl3.2.2.1 he3 hd3
    have nL : a ≠ X.env.locals := fun z => nfr (List.mem_filterMap.mpr ⟨X.env, List.mem_cons_self, by rw [hf, z]⟩)
    have nF : a ∉ X.fs := by
      intro hm
      obtain ⟨e, he, q⟩ := List.mem_filterMap.mp hm
      exact nfr (List.mem_filterMap.mpr ⟨e, List.mem_cons_of_mem _ he, q⟩)
    -- the exception was not there ahead of the call
    have ground : B.get? a = none := fl3.2.1
    have notI : sI.heap.get? a = none := by
      cases q : sI.heap.get? a with
      | none => rfl
      | some o =>
        have hfr : a ∉ frs X.stack := by rw [hs]; exact nfr
        rw [nb a o q hfr] at ground
        cases ground
    have not0 : X.ex = [] → X.s_0.heap.get? a = none := by
      intro hex
      cases q : X.s_0.heap.get? a with
      | none => rfl
      | some o =>
        obtain ⟨o', q'⟩ := J.base.there a o q (by rw [hex]; simp)
        rw [notI] at q'
        cases q'
    have apartPins : ∀ p ∈ X.pn ++ pins, p.1 ≠ a := by
      intro p hp z
      have := (J.pin p hp).1
      rw [z, notI] at this
      cases this
    have S3 := J3.suite he3 hd3 na nL nF
    refine wpAny_handleBy_cons (codeAny_handlers_test ?_) (by intro q; cases q)
    have LT : PySem.W.Looks (model X.prog X.w) h3 (typeOf (.ref a)) cls := fun A Q E s k q => wpAny_typeOf_ref (k _ _ he3) (by rw [hz3.1]; exact q)
    have LM := PySem.W.exm_one (M := model X.prog X.w) (J3.kIn) LT hb1
    have asked : ∀ {Q : Value → Shared → Prop} {E : Value → Shared → Prop}, Q c { s' with heap := h3 } → wpAny (model X.prog X.w) (X.A.mark (some (.ref a))) (eval (.Name x np) X.env) Q E { s' with heap := h3 } := by
      intro Q E q
      obtain ⟨hg, hdbg, hm⟩ := hc
      rcases hm with hm | ⟨hm, hv, hnn⟩
      · exact ld_glob (X := X.suite a ((a, oe3) :: (X.pn ++ pins))) S3 hg hm q hdbg
      · exact ld_blt (X := X.suite a ((a, oe3) :: (X.pn ++ pins))) S3 hg hm hv q hnn hdbg
    refine asked (LM.here ?_)
    cases b with
    | true =>
      refine codeAny_handlers_suite_as (HandSPX.lands_againZ fl3 ?_)
      intro h4 fl4 up4
      have J4 : Inv X pins σ' H' { s' with heap := h4 } := J.landed nb fl4.1 ((up.trans up3).trans up4) os ag
      obtain ⟨oe4, vs4, he4, hz4, hd4⟩ := fl4.there
      have S4 := J4.suite he4 hd4 na nL nF
      refine store_ok (X := X.suite a ((a, oe4) :: (X.pn ++ pins))) (v := .ref a) S4 hN hi locn rfl (fun s5 S5 => ?_) (Or.inr hln)
      refine wpAny_mono ((hsu a oe4 cls d (X.pn ++ pins) hz4 ⟨_, hd4⟩).run [] s5 _ H' _ S5 (hyes rfl a na)) ?_ (fun _ _ z => z.elim)
      intro f s6 hsp
      match f, hsp with
      | .brk, ⟨_, _, _, q⟩ => exact q.elim
      | .cont, ⟨_, _, _, q⟩ => exact q.elim
      | .ret _, ⟨_, _, _, _, _, q⟩ => exact q.elim
      | .next, ⟨σ6, H6, S6, q6⟩ =>
        have held : Inv X ((a, oe4) :: pins) σ6 H6 s6 := (S6.unsuite okX).pins_of (by
          intro p hp
          rcases List.mem_cons.mp hp with z | z
          · rw [z]; exact S6.pin (a, oe4) (List.mem_append_left _ (List.mem_cons_self ..))
          · exact S6.pin p (List.mem_append_left _ (List.mem_cons_of_mem _ (List.mem_append_right _ z))))
        refine gone_ok held hN hi hln (fun s7 J7 => ?_)
        have e7 := (J7.pin (a, oe4) (List.mem_append_right _ (List.mem_cons_self ..))).1
        refine ⟨_, _, adopt J7 (not0 hex) apartPins (exK_ok e7 hz4 hd4), q6⟩
    | false =>
      show wpAny _ X.A (handleBy (.ref a) X.env []) _ _ _
      refine wpAny_handleBy_nil ?_
      obtain ⟨k1, k2, k3, oe, vs, T, oT, ts', he, hz, hd, h1, hr⟩ := id fl3
      have go : wpAny (model X.prog X.w) X.A (setFlight (.ref a) X.env.frame) (fun _ s4 => wpAny (model X.prog X.w) X.A (throw (.ref a) : Sem Flow) (SP X pins D) X.xe s4) X.xe { s' with heap := h3 } := by
        rw [hf]
        refine HandSPX.setFlight_upZ fl3 (fun h4 hh4 up4 => wpAny_throw (tk _ _ ?_))
        exact ⟨a, B, sI, pins, σ', H', cls, d, rfl, J, nb, (up.trans up3).trans up4, Or.inr (Or.inr (by rw [hs]; exact hh4)), na, os, ag, hno rfl⟩
      unfold PySem.passOn
      refine wpAny_bind (wpAny_field he hd h1 ?_)
      rw [if_neg (show ¬ ((Value.ref T == Value.none) = true) from by simp)]
      first
        | exact wpAny_bind (wpAny_pure (wpAny_bind go))
        | exact wpAny_bind go
  refine wpAny_mono whole ?_ (fun e s1 he => he)
  intro f s1 hsp
  match f, hsp with
  | .next, ⟨σ', H', J', q⟩ => exact wpAny_execs_nil ⟨σ', H', J'.ofTry okX, q⟩
  | .brk, ⟨σ', H', J', q⟩ => exact ⟨σ', H', J'.ofTry okX, q⟩
  | .cont, ⟨σ', H', J', q⟩ => exact ⟨σ', H', J'.ofTry okX, q⟩
  | .ret u, ⟨v, σ', H', J', r, q⟩ => exact ⟨v, σ', H', J'.ofTry okX, r, q⟩
/-! ### isinstance of a kept exception, and its fields -/
section
variable {prog : Program} {w : World} {A : Around} {E : Value → Shared → Prop} {s : Shared} {K : PySem.W.Frag} {x D : Addr} {ox : Obj} {od : Option Obj}
open PySem.W PySem.Calls in
theorem its_class {Q : Option Value → Shared → Prop} (C : ExcC K D) (hf : findObj K D od "__class__" = some (.bind (.builtin "getset_descriptor.__get__") (.builtin "object.__class__"))) (X : K.In s.heap) (I : PySem.W.InstAt s.heap x ox D od)
    (h : Q (some (.ref D)) { s with toks := s.toks + 1 }) : wpAny (model prog w) A (getAttr? (.ref x) "__class__") Q E s := by
  obtain ⟨hp, g, d, t, os⟩ := s
  have k0 := I.type (M := model prog w)
  have k1 := looks_findIn (M := model prog w) X C.hg
  have k2 := looks_findIn (M := model prog w) X C.hk
  have k3 := looks_find (M := model prog w) X I hf
  have below : Looks (model prog w) hp (isInstance (.ref x) (.type "BaseException")) true := k0.andThen (looks_subIn X C.hs)
  have n0 : (false && onTheHeap (Value.builtin "BaseException.__getattribute__")) = false := rfl
  have n2 : (Value.builtin "BaseException.__getattribute__" == Value.builtin "object.__getattribute__") = false := by decide +kernel
  have n1 : (onTheHeap (Value.ref D) && Value.builtin "BaseException.__getattribute__" == Value.builtin "object.__getattribute__") = false := by rw [n2]; rfl
  unfold getAttr? getAttrBy? getAttrBy
  refine wpAny_bind (wpAny_mkText (wpAny_bind (wpAny_attempt (wpAny_holding (wpAny_bind (k0.at (wpAny_bind (k1.at ?_))))))))
  show wpAny (model prog w) _ (if (onTheHeap (Value.ref D) && Value.builtin "BaseException.__getattribute__" == Value.builtin "object.__getattribute__") = true then _ else _) _ _ _
  (rw [n1, if_neg Bool.false_ne_true]; unfold getAttrByItsOwn hookBefore; refine wpAny_bind ?_)
  (rw [if_pos (show onTheHeap (Value.ref D) = true from rfl)]; refine k2.at (wpAny_bind (wpAny_attempt (wpAny_holding ?_))))
  (unfold callGetattribute; rw [n0, if_neg Bool.false_ne_true]; unfold boundAndCalled; rw [PySem.F.excAttr_ValueError.ga.bind (.ref x)]; refine wpAny_bind (wpAny_pure ?_))
  show wpAny (model prog w) _ (call (.builtin "BaseException.__getattribute__") [.ref x, .str "__class__" t]) _ _ _
  refine wpAny_call (codeAny_call_builtin PySem.F.excAttr_ValueError.ga.plain PySem.F.entry_bexc_ga (@check_slot (model prog w) _ _ ⟨hp, g, d, t + 1, os⟩ "BaseException.__getattribute__" "BaseException" "__getattribute__" (.ref x) [.str "__class__" t] [] _ (by decide +kernel) (by decide +kernel) below (PySem.F.args_bexc_ga (.ref x) (.str "__class__" t)) ?_))
  (unfold Builtin.«object.__getattribute__»; refine wpAny_bind (wpAny_of_eq (a := ((Value.ref x : Value), [Value.str "__class__" t])) (by first | rfl | (simp only [slotArgs]; rfl)) (wpAny_bind (wpAny_pure (wpAny_bind (k0.at (wpAny_bind (k3.at ?_))))))))
  show wpAny (model prog w) _ (holding [Value.builtin "object.__class__"] (call (.builtin "getset_descriptor.__get__") [.builtin "object.__class__", .ref x, .ref D]) >>= ret) _ _ _
  refine wpAny_bind (wpAny_holding (wpAny_call (class_get (s := ⟨hp, g, d, t + 1, os⟩) (ox := ox) (od := od) X I C.hm (wpAny_pure ?_))))
  show wpAny (model prog w) _ (handedOut (.ref D)) _ _ _
  rw [handedOut_of (v := .ref D) rfl]
  first
    | exact wpAny_pure (wpAny_pure h)
    | exact wpAny_pure h
    | exact wpAny_pure (wpAny_bind (wpAny_pure (wpAny_pure h)))
open PySem.W in
theorem kit_kept (C : ExcC K D) (hf : findObj K D od "__class__" = some (.bind (.builtin "getset_descriptor.__get__") (.builtin "object.__class__"))) : KitX K (.ref x) (.ref D) (fun h => InstAt h x ox D od) := by
  obtain ⟨cdD, hcD, _⟩ := any_some C.hd
  unfold clsIn at hcD
  split at hcD
  · rename_i c' d' cd' sl' ho
    refine ⟨fun _ _ _ I => I.type, fun _ _ X _ => ?_, fun h tp dd its n sl X htp => ?_, fun X I k => its_class C hf X I k⟩
    · intro A' Q' E' s' k q
      unfold isType loadHead
      exact wpAny_bind (wpAny_loadPart (k _ _ (X _ _ ho)) (wpAny_pure q))
    · refine Bool.eq_false_iff.mpr (fun q => ?_)
      have e : D = tp := Value.ref.inj (beq_iff_eq.mp q)
      subst e
      have two := (X _ _ ho).symm.trans htp
      cases two
  · cases hcD
end
theorem kept_at {X : Cx} {pins : List (Addr × Obj)} {σ : L2.St} {H : Hp} {s : Shared} {a D : Addr} {d : Option Addr} (I : Inv X pins σ H s) (ha : H a = some (ExK (.ref D) d a)) (hd : ∀ dd, d = some dd → ∃ fs, H dd = some (.xd fs)) :
    ∃ (oe : Obj) (od : Option Obj), PySem.W.InstAt s.heap a oe D od ∧ (od.isSome = d.isSome) ∧ ∀ dd, d = some dd → ∃ o, od = some o ∧ s.heap.get? dd = some o := by
  obtain ⟨⟨oe, vs, hg, hz, hv⟩, _, _⟩ := I.hok a _ ha
  have nc : PySem.W.notCls oe = true := by unfold PySem.W.notCls; rw [hv]
  cases d with
  | none => exact ⟨oe, none, ⟨hg, hz.1, nc, by rw [hz.2]; trivial⟩, rfl, fun _ z => nomatch z⟩
  | some dd =>
    obtain ⟨fs, hx⟩ := hd dd rfl
    obtain ⟨mA, ⟨o, es, ep, ho, r⟩, _⟩ := (show ObjOk X.prog X.w H s.heap dd (.xd fs) from I.hok dd _ hx)
    exact ⟨oe, some o, ⟨hg, hz.1, nc, by rw [hz.2]; exact ho⟩, rfl, fun d2 z => by cases z; exact ⟨o, rfl, ho⟩⟩
/-- isinstance(e, C), e a kept exception; or any other value -/
def rIsX (K : PySem.W.Frag) : List V → Hp → VK → Prop := fun xs H Q => rIsi K xs H Q ∨ ∃ (a D : Addr) (d : Option Addr) (c : V) (u : Value) (b : Bool), xs = [.ref a, c] ∧ H a = some (ExK (.ref D) d a) ∧ (∀ dd, d = some dd → ∃ fs, H dd = some (.xd fs)) ∧ ExcC K D ∧ ClsV c u ∧ PySem.W.kitOne K (.ref D) u = some b ∧ Q (.bl b) H
theorem kcall_isX {X : Cx} {K : PySem.W.Frag} (hK : X.K = K := by rfl) : CallR X (.builtin "isinstance") (rIsX K) := by
  subst hK
  rintro pins s σ H xs us Q I r (h | ⟨a, D, d, c, u, b, rfl, ha, hd, C, hc, hk, q⟩)
  · exact call_isi pins s σ H xs us Q I r h
  cases r with
  | cons r1 rr =>
    cases rr with
    | cons r2 rr =>
      cases rr
      cases r1
      have e2 := hc.eq r2
      subst e2
      obtain ⟨oe, od, J, hs, _⟩ := kept_at I ha hd
      have hcls : (PySem.W.clsIn X.K D).isSome = true := by
        obtain ⟨cd, h1, _⟩ := PySem.W.any_some C.hd
        rw [h1]; rfl
      have hf : PySem.W.findObj X.K D od "__class__" = some (.bind (.builtin "getset_descriptor.__get__") (.builtin "object.__class__")) := by
        cases od with
        | none => exact PySem.W.findObj_dataN hcls C.ha C.hn C.ht
        | some o => exact PySem.W.findObj_data hcls C.ha C.hn C.ht
      exact PySem.W.kia_one (kit_kept C hf) I.kIn J hk (fun z => nomatch z) (fun tk => ⟨.bl b, H, I.tok tk, rfl, q⟩)
/-- e.f, e a kept exception -/
def tXk (K : PySem.W.Frag) (f : Str) (te : TE) : TE := fun σ H Q => te σ H fun x H1 => ∃ (a D dd : Addr) (fs : List (Str × V)) (v : V), x = .ref a ∧ H1 a = some (ExK (.ref D) (some dd) a) ∧ H1 dd = some (.xd fs) ∧ XfC K D ∧ PySem.W.findIn K (.ref D) f = some none ∧ fs.lookup f = some v ∧ Q v H1
theorem pe_xk {X : Cx} {K : PySem.W.Frag} {e : Expr} {te : TE} {pos : Pos} {n : Str} (he : PE X e te) (hb : attributeBase e n X.env (eval e X.env) = eval e X.env := by rfl) (hK : X.K = K := by rfl) : PE X (.Attribute e n pos) (tXk K n te) := by
  subst hK
  constructor
  intro pins s σ H Q I h
  refine attr_of hb (thn (he.run pins s σ H _ I h) (fun u s1 hh => ?_))
  obtain ⟨x, H1, I1, rx, a, D, dd, fs, v, rfl, ha, hx, T, hno, l, q⟩ := hh
  obtain rfl : u = Value.ref a := rx
  obtain ⟨oe, od, J, _, hod⟩ := kept_at I1 ha (fun d2 z => by cases z; exact ⟨fs, hx⟩)
  obtain ⟨o, rfl, ho⟩ := hod dd rfl
  obtain ⟨mA, hns, hr⟩ := (show ObjOk X.prog X.w H1 s1.heap dd (.xd fs) from I1.hok dd _ hx)
  obtain ⟨o2, ho2, hl⟩ := lookIn_ns hns
  have e2 : o = o2 := Option.some.inj (ho.symm.trans ho2)
  subst e2
  obtain ⟨u, hu, ru⟩ := RelO.some_of (v := v) (o := mA n) (by rw [← l]; exact hr n)
  exact HandSPX.exc_get I1.kIn J T.ga T.gg T.exC (PySem.W.findObj_own T.hdC hno rfl (by rw [hl, hu])) (handed_of ru) ⟨v, H1, I1.tok _, ru, q⟩
end Z
namespace Z
open PySem PySem.Spec PyProof.Rows L2
/-! ### own errors: an __init__ that keeps its arguments -/
def spErr1 (K : PySem.W.Frag) (C : Addr) (f : Str) : Sp := fun vs H Q _ => ∃ (a : Addr) (v : V), vs = [.ref a, v] ∧ H a = some (exo a C none) ∧ ∀ dx, H dx = none → dx ≠ a → Q .non (upd (upd H dx (exd dx [(f, v)])) a (exo a C (some dx)))
def spErr2 (K : PySem.W.Frag) (C : Addr) (f g : Str) : Sp := fun vs H Q _ => ∃ (a : Addr) (u v : V), vs = [.ref a, u, v] ∧ H a = some (exo a C none) ∧ ∀ dx H', H dx = none → dx ≠ a → H' a = some (exo a C (some dx)) → H' dx = some (exd dx [(g, v), (f, u)]) → (∀ b, b ≠ a → b ≠ dx → H' b = H b) → Q .non H'
theorem raised1 {K : PySem.W.Frag} {C : Addr} {f : Str} {v : V} {H : Hp} {a : Addr} {R : XK} (ha : H a = none) (k : ∀ d H', Same H H' → H d = none → H' d = some (.xd [(f, v)]) → R (.ref C) (some d) H') :
    spErr1 K C f [.ref a, v] (upd H a (exo a C none)) (fun z H2 => z = .non ∧ ∃ (d : Addr) (fs : List (Str × V)), H2 a = some (exo a C (some d)) ∧ H2 d = some (exd d fs) ∧ H d = none ∧ R (.ref C) (some d) (upd (del H2 a) d (.xd fs))) (fun _ _ _ => False) := by
  refine ⟨a, v, rfl, upd_same, fun dx h1 h2 => ⟨rfl, dx, [(f, v)], upd_same, by rw [upd_ne h2, upd_same], by rw [upd_ne h2] at h1; exact h1, k dx _ (fun b o e => ?_) (by rw [upd_ne h2] at h1; exact h1) upd_same⟩⟩
  have n1 : b ≠ dx := ne_of_none e (by rw [upd_ne h2] at h1; exact h1)
  have n2 : b ≠ a := ne_of_none e ha
  rw [upd_ne n1, del_ne n2, upd_ne n2, upd_ne n1, upd_ne n2]
  exact e
/-- no exception at all -/
theorem passNo {X : Cx} : Passes (CX X.prog X.w) X (fun _ _ _ => False) := by
  rintro pins σ H s e s' I ⟨_, _, _, _, _, _, _, _, _, _, _, _, z⟩
  exact z.elim
/-! ### frames -/
/-- what is_name may be asked of -/
def Kind (K : PySem.W.Frag) (H : Hp) (v : V) : Prop := (∃ z, v = .str z ∧ z.length ≤ sizeLine) ∨ ∃ t, TyX K H v t ∧ PySem.W.kitOne K t (.type "str") = some false
theorem tyOf_same {K : PySem.W.Frag} {H H' : Hp} {v : V} {t : Value} (s : Same H H') (h : TyOf K H v t) : TyOf K H' v t := by
  cases h with
  | non => exact .non
  | bl b => exact .bl b
  | int i => exact .int i
  | str z => exact .str z
  | flt b => exact .flt b
  | lst e => exact .lst (s _ _ e)
  | frz e => exact .frz (s _ _ e)
  | tup e => exact .tup (s _ _ e)
  | dK e => exact .dK (s _ _ e)
  | dT e => exact .dT (s _ _ e)
  | ins e a b c d f => exact .ins (s _ _ e) a b c d f
theorem tyX_same {K : PySem.W.Frag} {H H' : Hp} {v : V} {t : Value} (s : Same H H') (h : TyX K H v t) : TyX K H' v t := by
  cases h with
  | base b => exact .base (tyOf_same s b)
  | byt b => exact .byt b
  | set e => exact .set (s _ _ e)
  | kList e c => exact .kList e c
  | kTuple e c => exact .kTuple e c
  | kDict e c => exact .kDict e c
  | fTuple e => exact .fTuple (s _ _ e)
  | fDict e => exact .fDict (s _ _ e)
theorem Kind.same {K : PySem.W.Frag} {H H' : Hp} {v : V} (s : Same H H') (h : Kind K H v) : Kind K H' v := h.imp id fun ⟨t, a, b⟩ => ⟨t, tyX_same s a, b⟩
theorem Kind.str {K : PySem.W.Frag} {H : Hp} {z : Str} (h : IsNm z) : Kind K H (.str z) := .inl ⟨z, rfl, h.fit⟩
theorem Kind.non {K : PySem.W.Frag} {H : Hp} : Kind K H .non := .inr ⟨_, .base .non, kit_ty (by decide +kernel)⟩
def vnm : V → Bool
  | .str z => nmB z
  | _ => false
/-- whether a value may be the target of a frame of x -/
def tgt (x y : V) : Bool := decide (y = .non) || (vnm y && !decide (y = x))
theorem not_str {K : PySem.W.Frag} {H : Hp} {v : V} {t : Value} (h : TyX K H v t) (k : PySem.W.kitOne K t (.type "str") = some false) : vnm v = false := by
  cases v with
  | str z =>
    cases h with
    | base b =>
      cases b
      have e : PySem.W.kitOne K (.type "str") (.type "str") = some true := kit_ty (by decide +kernel)
      rw [e] at k
      cases k
  | _ => rfl
theorem is_named {K : PySem.W.Frag} {H : Hp} {v : V} {Q : VK} {E : XK} (h : Kind K H v) (k : ∀ H', Same H H' → Q (.bl (vnm v)) H') : spIsName K [v] H Q E := by
  refine ⟨v, rfl, ?_⟩
  rcases h with ⟨z, rfl, hz⟩ | ⟨t, a, b⟩
  · exact .inl ⟨z, rfl, hz, k⟩
  · have e := not_str a b
    refine .inr ⟨t, a, b, ?_⟩
    have := k H (Same.refl H)
    rw [e] at this
    exact this
def fFields (x y : V) : List (Str × V) := [("sender", x), ("target", y)]
/-- Frame(x, y) is made at p -/
def spFrame (K : PySem.W.Frag) : Sp := fun vs H Q E => ∃ (p dx : Addr) (x y : V), vs = [.ref p, x, y] ∧ H p = some (.ins (He.ga K "Frame") dx []) ∧ Kind K H x ∧ Kind K H y ∧
  (vnm x = false → ∀ d H', Same H H' → H d = none → H' d = some (.xd [("part", .str "sender")]) → E (.ref (He.ga K "BadFrame")) (some d) H') ∧
  (vnm x = true → tgt x y = false → ∀ d H', Same H H' → H d = none → H' d = some (.xd [("part", .str "target")]) → E (.ref (He.ga K "BadFrame")) (some d) H') ∧
  (vnm x = true → tgt x y = true → ∀ H', But p H H' → H' p = some (.ins (He.ga K "Frame") dx (fFields x y)) → Q .non H')
/-- a method of an own class that may raise -/
structure DefX (P : Program) (w : World) (K : PySem.W.Frag) (mg : Str → Option Value) (base : Heap) (k : Nat) (f : Addr) (ps : List Str) (dvs : List V) (sp : Sp) : Prop where
  ex : ∃ fd, FnOk P w K mg base (CX P w) k f fd ps sp ∧ ∀ j, j ≤ dvs.length → ∃ ds, Vals (dvs.drop j) ds ∧ Binds K fd ps ds
end Z
namespace Z
open PySem PySem.Spec PyProof.Rows L2
/-! ### a law whose def may show things, with tables of code objects -/
abbrev tab0 : Obj := { cls := .none, data := .fields #[] }
/-- the tracked part at the law's start: the tables, and the script where K doesn't hold it -/
def startT (T : List Addr) (a : Addr) (one : Option HO) : Hp := fun b => if b ∈ T then some (.tbl #[]) else if b = a then one else none
theorem law_callTG {P : Program} {w : World} {K : PySem.W.Frag} {mg mb : Str → Option Value} {CX : CXT} {k : Nat} {fa a : Addr} {cs : List (Addr × Addr)} {fd : FuncData} {x : Str} {sp : Sp} {s₁ : Shared} {vs : List Value} {ns : List Int}
    (KX : K.In s₁.heap) (hns : s₁.heap.Ns mainGlobals mg) (hb : s₁.heap.Ns builtinsNs mb) (hbb : ∀ x : Str, x ≠ "__name__" → mb x = bootBuiltins x) (hlim : s₁.heap.NoLimit) (hgens : s₁.gens = #[])
    (tabs : ∀ p ∈ cs, s₁.heap.get? p.2 = some tab0) (outK : ∀ p ∈ cs, K.lookup p.2 = none) (codes : ∀ p ∈ cs, PySem.W.CodeHd s₁.heap p.1 p.2)
    (bmain : ∃ (bm : Addr) (om : Obj), mg "__builtins__" = some (.ref bm) ∧ bm ≠ builtinsNs ∧ s₁.heap.get? bm = some om ∧ om.cls = .type "module" ∧ om.dict = some builtinsNs ∧ om.data = .plain)
    (ha : s₁.heap.get? a = some { cls := .type "list", data := .seq vs.toArray }) (hi : IntsAre vs ns) (hl : ns.length ≤ sizeLine) (hr : Room k callerA)
    (F : ∀ base : Heap, K.In base → base.Ns mainGlobals mg → (∀ p ∈ cs, LamX.TabB base mg p.1 p.2) → FnG P w K mg base CX k fa fd [x] sp) (hbind : ∀ (s : Shared) (u : Value), BindsTo s fd ⟨[u], []⟩ [(x, u)])
    (hsp : ∀ H : Hp, (∀ p ∈ cs, H p.2 = some (.tbl #[])) → SqL K H a (ns.map V.int) → sp [.ref a] H (fun v _ => v = .bl true) fun _ _ _ => False) (hCX : ∀ H e s', CX [] H s₁ (fun _ _ _ => False) e s' → False) :
    codeAny (model P w) callerA (.call (.ref fa) ⟨[.ref a], []⟩) (fun r s' => r = .ok (.ret (.bool true)) ∧ OldK s₁.heap s'.heap ∧ s'.os = s₁.os ∧ AllBare s'.gens) s₁ := by
  have relV := vals_ints hi
  have sameLen := hi.length
  generalize hT : cs.map (·.2) = T
  have inT : ∀ p ∈ cs, p.2 ∈ T := fun p hp => hT ▸ List.mem_map.mpr ⟨p, hp, rfl⟩
  have ofT : ∀ b ∈ T, ∃ p ∈ cs, p.2 = b := fun b hb => List.mem_map.mp (hT ▸ hb)
  have empty : ∀ b ∈ T, s₁.heap.get? b = some tab0 := by
    intro b hb
    obtain ⟨p, hp, rfl⟩ := ofT b hb
    exact tabs p hp
  have aOut : a ∉ T := by
    intro m
    have e := (empty a m).symm.trans ha
    cases e
  have main : ∀ one : Option HO, (∀ u, one = some u → K.lookup a = none ∧ (∃ xs, u = .frz { cls := .type "list", data := .seq vs.toArray } xs) ∧ ObjOk P w (startT T a one) s₁.heap a u) → SqL K (startT T a one) a (ns.map V.int) →
      codeAny (model P w) callerA (.call (.ref fa) ⟨[.ref a], []⟩) (fun r s' => r = .ok (.ret (.bool true)) ∧ OldK s₁.heap s'.heap ∧ s'.os = s₁.os ∧ AllBare s'.gens) s₁ := by
    intro one hone hS
    generalize hH : startT T a one = H at hone hS
    have atT : ∀ b ∈ T, H b = some (.tbl #[]) := fun b m => by rw [← hH]; exact if_pos m
    have atA : H a = one := by rw [← hH]; exact (if_neg aOut).trans (if_pos rfl)
    have off : ∀ b, b ∉ T → b ≠ a → H b = none := fun b m n => by rw [← hH]; exact (if_neg m).trans (if_neg n)
    have cases3 : ∀ {b : Addr} {u : HO}, H b = some u → (b ∈ T ∧ u = .tbl #[]) ∨ (b = a ∧ one = some u) := by
      intro b u e
      by_cases m : b ∈ T
      · rw [atT b m] at e
        exact .inl ⟨m, (Option.some.inj e).symm⟩
      · by_cases n : b = a
        · subst n
          exact .inr ⟨rfl, atA.symm.trans e⟩
        · rw [off b m n] at e
          cases e
    have seen : ∀ {b : Addr} {o : Obj}, s₁.heap.get? b = some o → H b = none → (hidT s₁.heap H).get? b = some o := fun e n => hidT_get e n
    have unseen : ∀ {b : Addr} {o : Obj}, s₁.heap.get? b = some o → (∀ us n, o.data ≠ .seq us n) → o.data ≠ .fields #[] → H b = none := by
      intro b o e d1 d2
      cases q : H b with
      | none => rfl
      | some u =>
        rcases cases3 q with ⟨m, _⟩ | ⟨rfl, _⟩
        · rw [empty b m] at e
          cases e
          exact (d2 rfl).elim
        · rw [ha] at e
          cases e
          exact (d1 _ _ rfl).elim
    have dictUnseen : ∀ {b : Addr} {o : Obj} {es : Array DictEntry} {ep : Nat}, s₁.heap.get? b = some o → o.data = .dict es ep → H b = none := fun e d => unseen e (fun _ _ z => by rw [d] at z; cases z) (fun z => by rw [d] at z; cases z)
    have nsKeep : ∀ {b : Addr} {m : Str → Option Value}, s₁.heap.Ns b m → (hidT s₁.heap H).Ns b m := by
      rintro b m ⟨o, es, ep, e, d, r⟩
      exact ⟨o, es, ep, seen e (dictUnseen e d), d, r⟩
    have kBase : K.In (hidT s₁.heap H) := by
      intro b o e
      refine seen (KX b o e) ?_
      cases q : H b with
      | none => rfl
      | some u =>
        rcases cases3 q with ⟨m, _⟩ | ⟨rfl, h1⟩
        · obtain ⟨p, hp, rfl⟩ := ofT b m
          rw [outK p hp] at e
          cases e
        · rw [(hone u h1).1] at e
          cases e
    have hok : HOk P w H s₁.heap := by
      intro b u e
      rcases cases3 e with ⟨m, rfl⟩ | ⟨rfl, h1⟩
      · exact empty b m
      · exact (hone u h1).2.2
    have theMod : L2.Mod K mg (hidT s₁.heap H) := ⟨kBase, nsKeep hns, ⟨mb, nsKeep hb, hbb⟩, let ⟨mc, h1, h2⟩ := hlim; ⟨mc, nsKeep h1, h2⟩⟩
    have theTabs : ∀ p ∈ cs, LamX.TabB (hidT s₁.heap H) mg p.1 p.2 := by
      intro p hp
      refine ⟨?_, ?_, ?_⟩
      · obtain ⟨o, us, file, tf, flags, tg, inF, text, tt, e1, r1, r2, r3, rest⟩ := codes p hp
        refine ⟨o, us, file, tf, flags, tg, inF, text, tt, seen e1 (unseen e1 (fun _ _ z => ?_) fun z => ?_), r1, r2, r3, rest⟩
        · rw [r2] at z
          cases z
        · rw [r2] at z
          cases z
          simp at r3
      · obtain ⟨bm, om, c1, c2, c3, c4, c5, c6⟩ := bmain
        refine ⟨bm, om, c1, c2, ?_, ?_, seen c3 (unseen c3 (fun _ _ z => ?_) fun z => ?_), c4, c5, c6⟩
        · rintro rfl
          obtain ⟨o, es, ep, e, hd, _⟩ := hns
          rw [c3] at e
          cases e
          rw [c6] at hd
          cases hd
        · rintro rfl
          rw [tabs p hp] at c3
          cases c3
          cases c6
        · rw [c6] at z
          cases z
        · rw [c6] at z
          cases z
      · intro z
        obtain ⟨o, es, ep, e, hd, _⟩ := hns
        rw [z, tabs p hp] at e
        cases e
        cases hd
    have start0 : Env0 P w K mg (hidT s₁.heap H) callerA [] s₁ H :=
      ⟨rfl, theMod, fun b o e => of_hidT e, Nat.le_of_eq (hidT_size _ _), trivial, fun b hb => absurd (show b ∈ ([] : List Addr) from hb) (by simp), hok, .of_eq hgens⟩
    have ran := (F _ kBase (nsKeep hns) theTabs).run callerA [] s₁ H ⟨[.ref a], []⟩ [.ref a] [.ref a] _ _ rfl hr start0 (hbind s₁ (.ref a)) (.cons rfl .nil) (hsp H (fun p hp => atT _ (inT p hp)) hS)
    refine codeAny_mono ran ?_
    intro r s' h
    match r, h with
    | .error e, h => exact (hCX H e s' h).elim
    | .ok .next, h => exact h.elim
    | .ok .brk, h => exact h.elim
    | .ok .cont, h => exact h.elim
    | .ok (.ret u), ⟨v, H', os, bare, un, hok', rv, q⟩ =>
      have hv : v = .bl true := q
      subst hv
      obtain rfl : u = Value.bool true := rv
      have stays : ∀ b o, b ∉ T → s₁.heap.get? b = some o → s'.heap.get? b = some o := by
        intro b o nb e
        cases z : H b with
        | none => exact un.keep b o e z (by intro y; exact absurd (show b ∈ ([] : List Addr) from y) (by simp)) (by simp)
        | some u =>
          rcases cases3 z with ⟨m, _⟩ | ⟨rfl, h1⟩
          · exact (nb m).elim
          · obtain ⟨_, ⟨xs, rfl⟩, _⟩ := hone u h1
            have z2 := un.frzs b _ _ z
            obtain ⟨e2, _⟩ := hok' b _ z2
            rw [ha] at e
            cases e
            exact e2
      have grows : ∀ p ∈ cs, ∃ more : Array Value, s'.heap.get? p.2 = some { cls := .none, data := .fields more } := by
        intro p hp
        obtain ⟨more, z⟩ := un.tbls p.2 #[] (atT _ (inT p hp))
        exact ⟨_, hok' p.2 _ z⟩
      refine ⟨rfl, ⟨fun b o e => ?_, fun b o e => ?_⟩, os, bare⟩
      · by_cases m : b ∈ T
        · obtain ⟨p, hp, rfl⟩ := ofT b m
          obtain ⟨more, hm⟩ := grows p hp
          rw [tabs p hp] at e
          cases e
          refine .inr (.inl ⟨((codes p hp).tab (tabs p hp)).isCodeTable, rfl, #[], more, rfl, ?_⟩)
          rw [Array.empty_append]
          exact hm
        · exact .inl (stays b o m e)
      · by_cases m : b ∈ T
        · obtain ⟨p, hp, rfl⟩ := ofT b m
          obtain ⟨more, hm⟩ := grows p hp
          exact ⟨_, hm⟩
        · exact ⟨o, stays b o m e⟩
  cases hk : K.lookup a with
  | some o =>
    have e := KX a o hk
    rw [ha] at e
    cases e
    refine main none (fun u z => nomatch z) (.inr ⟨_, vs.toArray, _, hk, rfl, rfl, rfl, ?_, ?_⟩)
    · rw [List.size_toArray, sameLen]; exact hl
    · simpa using relV
  | none =>
    refine main (some (.frz { cls := .type "list", data := .seq vs.toArray } (.lst (ns.map V.int)))) (fun u z => ?_) (.inl (.inr ⟨{ cls := .type "list", data := .seq vs.toArray }, (if_neg aOut).trans (if_pos rfl)⟩))
    cases z
    exact ⟨hk, ⟨_, rfl⟩, ha, by rw [List.length_map]; exact hl, vs, _, relV, ha⟩
/-- the end over a head by facts, with tables -/
theorem walk_TG {l : PySem.W.OpenLaw} {n k : Nat} {q : Program} {loose : List Str} {XP : (Str → Option Value) → Heap → Prop} {YP : World → Heap → Prop} {d : DefRec} {CX : CXT} {x : Str} (hn : l.most = some n) (hn2 : n ≤ sizeLine) (hdf : d.params.defaults = []) (hr : Room k callerA)
    (F : ∀ (w : World) (mg : Str → Option Value) (fa : Addr) (h : Heap), YP w h → h.Ns mainGlobals mg → mg d.name = some (.ref fa) → ∃ (K : PySem.W.Frag) (fd : FuncData) (sp : Sp) (cs : List (Addr × Addr)), K.In h ∧ (∀ (s : Shared) (u : Value), BindsTo s fd ⟨[u], []⟩ [(x, u)]) ∧
        (∀ p ∈ cs, h.get? p.2 = some tab0) ∧ (∀ p ∈ cs, K.lookup p.2 = none) ∧ (∀ p ∈ cs, PySem.W.CodeHd h p.1 p.2) ∧
        (∀ (H : Hp) (a : Addr) (ns : List Int), ns.length ≤ n → (∀ p ∈ cs, H p.2 = some (.tbl #[])) → SqL K H a (ns.map V.int) → sp [.ref a] H (fun v _ => v = .bl true) fun _ _ _ => False) ∧ ∀ base : Heap, K.In base → base.Ns mainGlobals mg → (∀ p ∈ cs, LamX.TabB base mg p.1 p.2) → FnG l.prog w K mg base CX k fa fd [x] sp)
    (hCX : ∀ (H : Hp) (s : Shared) (e : Value) (s' : Shared), CX [] H s (fun _ _ _ => False) e s' → False) : PySem.W.WalkO q loose XP YP l.row.toRowW d [] (fun f vs => PySem.call f vs) := by
  refine Att.attach_call hn hdf ?_
  intro w s₀ s₁ mg mb fa o pm cd doc a vs ns G Y ho hd hcd hmg hobj hints hlen hg
  obtain ⟨K, fd, sp, cs, kx, hbd, h1, h2, h3, hsp, hF⟩ := F w mg fa _ Y G.T.g hmg
  exact law_callTG kx G.T.g G.T.b G.T.builtins G.T.nolimit hg h1 h2 h3 G.T.bmain hobj hints (Nat.le_trans hlen hn2) hr hF hbd (fun H hO hS => hsp H a ns hlen hO hS) (fun H e s' => hCX H s₁ e s')
end Z
namespace Z
open PySem PySem.Spec PyProof.Rows L2
/-! ### facts of own errors, of own classes, by a Bool over K -/
def isO (a b : Option (Option Value)) : Bool := decide (a = b)
/-- an own error over ValueError whose __init__ is a def -/
structure ErrF (K : PySem.W.Frag) (x : Str) : Prop where
  o : OexC K (He.ga K x)
  iC : PySem.W.findIn K (.ref (He.ga K x)) "__init__" = some (some (.ref (He.ma K (He.ga K x) "__init__")))
  tI : PySem.W.typeIn K (.ref (He.ma K (He.ga K x) "__init__")) = some (.type "function")
  xf : XfC K (He.ga K x)
  xc : ExcC K (He.ga K x)
def oexB (K : PySem.W.Frag) (C : Addr) : Bool := match K.lookup C with
  | some ⟨.type t, _, .cls cd, sl⟩ => decide (t = "type") && (match cd.mro, sl.toList with
    | .ref D :: bm, [_, _, _, _, some (.builtin n), _] => decide (D = C) && (decide (n = "ValueError.__new__") && (!cd.hasDel && (cd.hasDict && PySem.HandSPX.refsVE bm)))
    | _, _ => false)
  | _ => false
theorem oexB_ok {K : PySem.W.Frag} {C : Addr} (h : oexB K C = true) : ∃ nm q N bs bm sn sub ab col dd k0 k1 k2 k3 k5, K.lookup C = some (excClassObj nm q C N bs bm true sn sub ab col dd k0 k1 k2 k3 k5 "ValueError.__new__") ∧ PySem.HandSPX.refsVE bm = true := by
  unfold oexB at h
  split at h
  · rename_i t dd cd sl ho
    obtain ⟨h1, h⟩ := He.ba h
    have et := of_decide_eq_true h1
    split at h
    · rename_i D bm k0 k1 k2 k3 n k5 hm hs
      obtain ⟨h2, h⟩ := He.ba h
      obtain ⟨h3, h⟩ := He.ba h
      obtain ⟨h4, h⟩ := He.ba h
      obtain ⟨h5, h6⟩ := He.ba h
      have eD := of_decide_eq_true h2
      have en := of_decide_eq_true h3
      obtain ⟨nm, bs, mro, ns, qn, hd, sn, sub, ab, col, del⟩ := cd
      dsimp only at hm h4 h5
      have ed : del = false := by cases del <;> simp_all
      have hsl : sl = #[k0, k1, k2, k3, some (.builtin n), k5] := by
        obtain ⟨l⟩ := sl
        simp only at hs
        rw [hs]
      subst et eD en hm ed hsl h5
      exact ⟨nm, qn, ns, bs, bm, sn, sub, ab, col, dd, k0, k1, k2, k3, k5, ho, h6⟩
    · cases h
  · cases h
def classB (K : PySem.W.Frag) (D : Addr) : Bool := isO (PySem.W.findIn K (.ref D) "__class__") (some (some (.builtin "object.__class__"))) && (isO (PySem.W.specialIn K (.builtin "object.__class__") "__get__") (some (some (.builtin "getset_descriptor.__get__"))) &&
  (decide (PySem.W.takesIn K (.builtin "object.__class__") = some true) && decide (PySem.W.mroIn K D (.type "object") = some true)))
structure ClassF (K : PySem.W.Frag) (D : Addr) : Prop where
  ha : PySem.W.findIn K (.ref D) "__class__" = some (some (.builtin "object.__class__"))
  hn : PySem.W.specialIn K (.builtin "object.__class__") "__get__" = some (some (.builtin "getset_descriptor.__get__"))
  ht : PySem.W.takesIn K (.builtin "object.__class__") = some true
  hm : PySem.W.mroIn K D (.type "object") = some true
theorem classB_ok {K : PySem.W.Frag} {D : Addr} (h : classB K D = true) : ClassF K D := by
  obtain ⟨h1, h⟩ := He.ba h
  obtain ⟨h2, h⟩ := He.ba h
  obtain ⟨h3, h4⟩ := He.ba h
  exact ⟨of_decide_eq_true h1, of_decide_eq_true h2, of_decide_eq_true h3, of_decide_eq_true h4⟩
def errB (x : Str) (K : PySem.W.Frag) : Bool := oexB K (He.ga K x) && (isO (PySem.W.findIn K (.ref (He.ga K x)) "__setattr__") (some (some (.builtin "object.__setattr__"))) && (decide (PySem.W.typeIn K (.ref (He.ga K x)) = some (.type "type")) && (PySem.W.keepIn K (.ref (He.ga K x)) &&
  (isO (PySem.W.findIn K (.ref (He.ga K x)) "__init__") (some (some (.ref (He.ma K (He.ga K x) "__init__")))) && (decide (PySem.W.typeIn K (.ref (He.ma K (He.ga K x) "__init__")) = some (.type "function")) && (xfB K (He.ga K x) && classB K (He.ga K x)))))))
theorem errB_ok {K : PySem.W.Frag} {x : Str} (h : errB x K = true) : ErrF K x := by
  obtain ⟨h1, h⟩ := He.ba h
  obtain ⟨h2, h⟩ := He.ba h
  obtain ⟨h3, h⟩ := He.ba h
  obtain ⟨h4, h⟩ := He.ba h
  obtain ⟨h5, h⟩ := He.ba h
  obtain ⟨h6, h⟩ := He.ba h
  obtain ⟨h7, h8⟩ := He.ba h
  have xf := xfB_ok h7
  have cf := classB_ok h8
  exact ⟨⟨oexB_ok h1, of_decide_eq_true h2, xf.exC, of_decide_eq_true h3, h4⟩, of_decide_eq_true h5, of_decide_eq_true h6, xf, ⟨xf.ga, xf.gg, xf.exC, xf.hdC, cf.ha, cf.hn, cf.ht, cf.hm⟩⟩
/-- types of Python's own -/
def kinds : List Value := [.type "NoneType", .type "bool", .type "int", .type "str", .type "list", .type "tuple", .type "dict"]
/-- an own class: its instances are told from all else -/
structure ClsF (K : PySem.W.Frag) (x : Str) : Prop where
  c : ClassF K (He.ga K x)
  ne : PySem.W.findIn K (.ref (He.ga K x)) "__ne__" = some (some (.builtin "object.__ne__"))
  nf : ∀ t ∈ kinds, PySem.W.notFirst K (He.ga K x) t = true
  ki : ∀ t ∈ kinds, PySem.W.kitOne K t (.ref (He.ga K x)) = some false
  ik : ∀ t ∈ kinds, PySem.W.kitOne K (.ref (He.ga K x)) t = some false
def clsB (x : Str) (K : PySem.W.Frag) : Bool := classB K (He.ga K x) && (isO (PySem.W.findIn K (.ref (He.ga K x)) "__ne__") (some (some (.builtin "object.__ne__"))) && (kinds.all (fun t => PySem.W.notFirst K (He.ga K x) t) &&
  (kinds.all (fun t => decide (PySem.W.kitOne K t (.ref (He.ga K x)) = some false)) && kinds.all (fun t => decide (PySem.W.kitOne K (.ref (He.ga K x)) t = some false)))))
theorem clsB_ok {K : PySem.W.Frag} {x : Str} (h : clsB x K = true) : ClsF K x := by
  obtain ⟨h1, h⟩ := He.ba h
  obtain ⟨h2, h⟩ := He.ba h
  obtain ⟨h3, h⟩ := He.ba h
  obtain ⟨h4, h5⟩ := He.ba h
  exact ⟨classB_ok h1, of_decide_eq_true h2, fun t m => List.all_eq_true.mp h3 t m, fun t m => of_decide_eq_true (List.all_eq_true.mp h4 t m), fun t m => of_decide_eq_true (List.all_eq_true.mp h5 t m)⟩
theorem ClsF.ty {K : PySem.W.Frag} {x : Str} (c : ClsF K x) (k : Cls K (He.ga K x)) {H : Hp} {a dx : Addr} {fs : List (Str × V)} (h : H a = some (.ins (He.ga K x) dx fs)) : TyX K H (.ref a) (.ref (He.ga K x)) := .base (.ins h k c.c.ha c.c.hn c.c.ht c.c.hm)
theorem kit_same {K : PySem.W.Frag} {t : Value} (h : (t == t) = true := by simp) : PySem.W.kitOne K t t = some true := by
  unfold PySem.W.kitOne
  rw [if_pos h]
theorem first_same {K : PySem.W.Frag} {C : Addr} : PySem.W.notFirst K C (.ref C) = true := by
  unfold PySem.W.notFirst
  simp
/-! ### a property's getter -/
/-- where the getter of a class's property stands; the property itself -/
def prA (K : PySem.W.Frag) (c f : Str) : Addr := match PySem.W.findIn K (.ref (He.ga K c)) f with
  | some (some (.ref p)) => p
  | _ => 0
def geA (K : PySem.W.Frag) (c f : Str) : Addr := match PySem.W.recIn K (prA K c f) "property" with
  | some (.ref g :: _) => g
  | _ => match PySem.W.recIn K (prA K c f) "classmethod" with
    | some (.ref g :: _) => g
    | _ => 0
structure GetD where
  c : Str
  f : Str
  qual : Str
  params : Arguments
  body : List Stmt
  scope : Scope
  cm : Bool := false
abbrev FnU : Type := Option (Str × Str × Arguments × FuncBody × Scope × Addr × List (Str × Addr) × Addr)
def fnU (K : PySem.W.Frag) (a : Addr) : FnU := match K.lookup a with
  | some ⟨_, _, .func fd, _⟩ => some (fd.name, fd.qualname, fd.params, fd.body, fd.scope, fd.globals, fd.closure, fd.builtins)
  | _ => none
def GetD.val (d : GetD) : FnU := some (d.f, d.qual, d.params, .stmts d.body, d.scope, mainGlobals, [], builtinsNs)
def prB (K : PySem.W.Frag) (c f : Str) : Bool := isO (PySem.W.findIn K (.ref (He.ga K c)) f) (some (some (.ref (prA K c f)))) && (isO (PySem.W.specialIn K (.ref (prA K c f)) "__get__") (some (some (.builtin "property.__get__"))) &&
  (decide (PySem.W.takesIn K (.ref (prA K c f)) = some true) && (match PySem.W.recIn K (prA K c f) "property" with
    | some (.ref g :: _) => true
    | _ => false)))
/-- a classmethod -/
structure CmOf (K : PySem.W.Frag) (C : Addr) (m : Str) (p g : Addr) : Prop where
  r : ClX.CRead K C (.type "type")
  c : ClX.CMet K C (.type "type") m p g
def cmB (K : PySem.W.Frag) (c f : Str) : Bool := PySem.W.readsIn K (He.ga K c) (.type "type") && (isO (PySem.W.specialIn K (.ref (He.ga K c)) "__getattribute__") (some (some (.builtin "type.__getattribute__"))) && ((match PySem.W.findCls K (.ref (He.ga K c)) (.type "type") f with
    | some (.get (.builtin b) (.ref p) .none (.ref C)) => decide (b = "classmethod.__get__") && (decide (p = prA K c f) && decide (C = He.ga K c))
    | _ => false) && ((match PySem.W.recIn K (prA K c f) "property" with
    | some (.ref _ :: _) => false
    | _ => true) && ((match PySem.W.recIn K (prA K c f) "classmethod" with
    | some (.ref _ :: _) => true
    | _ => false) && PySem.W.fnIn K (geA K c f)))))
theorem prB_ok {K : PySem.W.Frag} {c f : Str} (h : prB K c f = true) : PropOf K (He.ga K c) f (prA K c f) (geA K c f) := by
  obtain ⟨h1, h⟩ := He.ba h
  obtain ⟨h2, h⟩ := He.ba h
  obtain ⟨h3, h4⟩ := He.ba h
  refine ⟨of_decide_eq_true h1, of_decide_eq_true h2, of_decide_eq_true h3, ?_⟩
  unfold geA
  split at h4
  · rename_i g r e
    rw [e]
    exact ⟨r, rfl⟩
  · cases h4
theorem cmB_ok {K : PySem.W.Frag} {c f : Str} (h : cmB K c f = true) : CmOf K (He.ga K c) f (prA K c f) (geA K c f) := by
  obtain ⟨h1, h⟩ := He.ba h
  obtain ⟨h2, h⟩ := He.ba h
  obtain ⟨h3, h⟩ := He.ba h
  obtain ⟨h4, h⟩ := He.ba h
  obtain ⟨h5, h6⟩ := He.ba h
  refine ⟨⟨h1, of_decide_eq_true h2⟩, ⟨?_, ?_, h6⟩⟩
  · split at h3
    · rename_i b p C e
      obtain ⟨a1, h3⟩ := He.ba h3
      obtain ⟨a2, a3⟩ := He.ba h3
      rw [e, of_decide_eq_true a1, of_decide_eq_true a2, of_decide_eq_true a3]
    · cases h3
  · split at h4
    · cases h4
    · rename_i n1
      have hg : ∀ g r, PySem.W.recIn K (prA K c f) "classmethod" = some (.ref g :: r) → geA K c f = g := by
        intro g r e
        unfold geA
        rw [e]
        split
        · rename_i g' r' e'
          exact (n1 g' r' e').elim
        · rfl
      split at h5
      · rename_i g r e
        exact ⟨r, by rw [e, hg _ _ e]⟩
      · cases h5
def GetD.ok (d : GetD) (K : PySem.W.Frag) : Bool := (if d.cm then cmB K d.c d.f else prB K d.c d.f) && (PySem.W.keepIn K (.ref (geA K d.c d.f)) && (match K.lookup (geA K d.c d.f) with
    | some ⟨_, _, .func fd, _⟩ => PySem.W.codeIn K fd.code d.qual && decide (fd.defaults = .none)
    | _ => false))
theorem GetD.prop {d : GetD} {K : PySem.W.Frag} (h : d.ok K = true) (n : d.cm = false) : PropOf K (He.ga K d.c) d.f (prA K d.c d.f) (geA K d.c d.f) := by
  obtain ⟨h1, h⟩ := He.ba h
  rw [n] at h1
  exact prB_ok h1
theorem GetD.clsm {d : GetD} {K : PySem.W.Frag} (h : d.ok K = true) (n : d.cm = true) : CmOf K (He.ga K d.c) d.f (prA K d.c d.f) (geA K d.c d.f) := by
  obtain ⟨h1, h⟩ := He.ba h
  rw [n] at h1
  exact cmB_ok h1
theorem GetD.fun_ {d : GetD} {K : PySem.W.Frag} (e : fnU K (geA K d.c d.f) = d.val) (h : d.ok K = true) : ∃ fd, FunD K d.f d.qual d.params d.body d.scope [] [] (geA K d.c d.f) fd := by
  obtain ⟨_, h⟩ := He.ba h
  obtain ⟨kp, h⟩ := He.ba h
  unfold fnU GetD.val at e
  generalize geA K d.c d.f = a at *
  split at h
  · rename_i oc od fd osl ho
    rw [ho] at e
    obtain ⟨n1, n2, n3, n4, n5, n6, n7, n8, n9, n10, n11, n12, n13, n14, n15⟩ := fd
    obtain ⟨hc, hd0⟩ := He.ba h
    have hd : n8 = .none := of_decide_eq_true hd0
    simp only [Option.some.injEq, Prod.mk.injEq] at e
    obtain ⟨u1, u2, u3, u4, u5, u6, u7, u8⟩ := e
    clear hd0
    subst u1 u2 u3 u4 u5 u6 u7 u8 hd
    exact ⟨_, ⟨_, _, _, _, _, _, _, _, _, _, rfl, ho, hc, .inl ⟨rfl, rfl⟩, .inl rfl⟩, kp⟩
  · cases h
/-! ### the Hook: facts, defs, tables, getters, a Bool -/
abbrev AlZ : Type := He.AlX × List FnU
structure SaysZ (fa : List He.Fa) (fn : List He.DefD) (tf : List He.Defn) (gs : List GetD) (ex : PySem.W.Frag → Bool) (w : World) (h : Heap) (K : PySem.W.Frag) : Prop where
  x : He.SaysX fa fn [] tf (fun K => ex K && gs.all fun d => d.ok K) w h K
  g : gs.map (fun d => fnU K (geA K d.c d.f)) = gs.map GetD.val
/-- what the names reach in n steps, and the interpreter's statics -/
def asS (n : Nat) (g : Addr → Option Obj) : List Addr := He.asD g n ++ [cStatics]
def frS (n : Nat) (g : Addr → Option Obj) : PySem.W.Frag := He.frT g (asS n g)
def obsZ (n : Nat) (fa : List He.Fa) (fn : List He.DefD) (tf : List He.Defn) (gs : List GetD) (ex : PySem.W.Frag → Bool) (g : Addr → Option Obj) : AlZ :=
  ((He.obsT fa fn [] (frS n g), (ex (frS n g) && gs.all fun d => d.ok (frS n g)) && He.tabsB g tf (frS n g)), gs.map fun d => fnU (frS n g) (geA (frS n g) d.c d.f))
theorem says_at {as : List Addr} {fa : List He.Fa} {fn : List He.DefD} {tf : List He.Defn} {ex : PySem.W.Frag → Bool} {w : World} {h : Heap} (e1 : He.obsT fa fn [] (He.frT h.get? as) = He.valT fn [] w) (e2 : (ex (He.frT h.get? as) && He.tabsB h.get? tf (He.frT h.get? as)) = true) : He.SaysX fa fn [] tf ex w h (He.frT h.get? as) := by
  obtain ⟨h1, h2⟩ := He.ba e2
  have each : ∀ p, p ∈ tf → ∃ o, h.get? (He.cT (He.frT h.get? as) p).2 = some o ∧ He.emptyTab o = true ∧ PySem.W.codeHdIn (He.frT h.get? as) (He.cT (He.frT h.get? as) p).1 (He.cT (He.frT h.get? as) p).2 = true := by
    intro p hp
    obtain ⟨h3, h4⟩ := He.ba (List.all_eq_true.mp h2 p hp)
    split at h4
    · rename_i o q
      exact ⟨o, q, h4, h3⟩
    · cases h4
  refine { t := e1, more := h1, hd := ?_, out := ?_, empty := ?_ } <;> intro p hp <;> obtain ⟨o, a, b, c⟩ := each p hp
  · exact c
  · exact He.frT_none a b
  · exact a.trans (congrArg some (He.emptyTab_eq b))
def hookZ (n : Nat) (fa : List He.Fa) (fn : List He.DefD) (tf : List He.Defn) (gs : List GetD) (ex : PySem.W.Frag → Bool) : PySem.W.Hook where
  α := AlZ
  obs := fun s => obsZ n fa fn tf gs ex s.heap.get?
  val := fun w => (He.valX fn [] w, gs.map GetD.val)
  says := fun w h => ∃ K : PySem.W.Frag, K.In h ∧ SaysZ fa fn tf gs ex w h K
  of := fun _ _ e => ⟨_, He.frT_in, says_at (congrArg (fun z : AlZ => z.1.1) e) (congrArg (fun z : AlZ => z.1.2) e), congrArg (fun z : AlZ => z.2) e⟩
  keeps := fun _ _ _ ⟨K, hK, c⟩ k => ⟨K, PySem.W.Frag.In.keeps hK k, ⟨c.x.t, c.x.more, c.x.hd, c.x.out, fun p hp => k _ _ (c.x.empty p hp)⟩, c.g⟩
theorem obsZ_eq {n : Nat} {fa : List He.Fa} {fn : List He.DefD} {tf : List He.Defn} {gs : List GetD} {ex : PySem.W.Frag → Bool} {g : Addr → Option Obj} {s : Shared} (h : ∀ a, g a = s.heap.get? a) : obsZ n fa fn tf gs ex g = (hookZ n fa fn tf gs ex).obs s := by
  have e : g = s.heap.get? := funext h
  rw [e] <;> rfl
theorem SaysZ.more {fa : List He.Fa} {fn : List He.DefD} {tf : List He.Defn} {gs : List GetD} {ex : PySem.W.Frag → Bool} {w : World} {h : Heap} {K : PySem.W.Frag} (c : SaysZ fa fn tf gs ex w h K) : ex K = true := (He.ba c.x.more).1
theorem SaysZ.get {fa : List He.Fa} {fn : List He.DefD} {tf : List He.Defn} {gs : List GetD} {ex : PySem.W.Frag → Bool} {w : World} {h : Heap} {K : PySem.W.Frag} (c : SaysZ fa fn tf gs ex w h K) (i : Nat) {d : GetD} (hi : gs[i]? = some d := by rfl) :
    (d.cm = false → PropOf K (He.ga K d.c) d.f (prA K d.c d.f) (geA K d.c d.f)) ∧ (d.cm = true → CmOf K (He.ga K d.c) d.f (prA K d.c d.f) (geA K d.c d.f)) ∧ ∃ fd, FunD K d.f d.qual d.params d.body d.scope [] [] (geA K d.c d.f) fd := by
  have ok := List.all_eq_true.mp (He.ba c.x.more).2 d (List.mem_of_getElem? hi)
  refine ⟨GetD.prop ok, GetD.clsm ok, GetD.fun_ ?_ ok⟩
  have e := congrArg (fun l => l[i]?) c.g
  simp only [List.getElem?_map, hi, Option.map_some] at e
  exact Option.some.inj e
/-- the defs' tables, at the law's start -/
theorem SaysZ.tabs {fa : List He.Fa} {fn : List He.DefD} {tf : List He.Defn} {gs : List GetD} {ex : PySem.W.Frag → Bool} {w : World} {h : Heap} {K : PySem.W.Frag} (c : SaysZ fa fn tf gs ex w h K) (hK : K.In h) :
    (∀ p ∈ tf.map (He.cT K), h.get? p.2 = some tab0) ∧ (∀ p ∈ tf.map (He.cT K), K.lookup p.2 = none) ∧ ∀ p ∈ tf.map (He.cT K), PySem.W.CodeHd h p.1 p.2 := by
  refine ⟨?_, ?_, ?_⟩ <;> intro p hp <;> obtain ⟨q, hq, rfl⟩ := List.mem_map.mp hp
  · exact c.x.empty q hq
  · exact c.x.out q hq
  · exact PySem.W.codeHd_of_K hK (c.x.hd q hq)
/-! ### a def that may show things and makes lambdas: its code object is named -/
theorem okGC {P : Program} {w : World} {K : PySem.W.Frag} {mg : Str → Option Value} {base : Heap} {x qual : Str} {params : Arguments} {body : List Stmt} {scope : Scope} {dvs : List V} {kws : List (Str × V)} {fd : FuncData} {CX : CXT} {N ps : List Str} {k : Nat} {sp : Sp} {p : He.Defn} {f : Addr} (hf : f = He.fAd K p) (F : FunD K x qual params body scope dvs kws f fd) (S : FnScope N ps scope) (len : ∀ vs H Q E, sp vs H Q E → vs.length = ps.length)
    (hbody : ∀ (A : Around) (outer : List Env) (s : Shared) (H : Hp) (vs : List V) (Q : VK) (E : XK), A.guards = some [] → Room k (A.deeper (envOfC qual scope s.heap.objs.size f (.ref (He.codeOf K p)))) → sp vs H Q E →
      ∃ t, PSs (cxOf CX P w K mg base N qual scope f (.ref (He.codeOf K p)) A outer s H E) body t ∧ t { nx := fun _ H' => Q .non H', rt := Q } (start N vs) H) : FnG P w K mg base CX (k + 1) f fd ps sp := by
  obtain ⟨oc, od, dV, kV, doc, pm, an, cdv, ct, osl, hfd, lk, hcd, _, _⟩ := F.ex
  obtain ⟨c, rfl⟩ := He.codeIn_ref hcd
  have ec : He.codeOf K p = c := He.codeOf_eq (hf ▸ lk) (by rw [hfd])
  rw [ec] at hbody
  subst hfd
  constructor
  · exact len
  intro A outer s H args us vs Q E hgu hr e0 hb r hsp
  have hlen := len _ _ _ _ hsp
  have kx : K.In s.heap := e0.mod.kin.keeps (fun b o e => (e0.bs b o e).1)
  have nol : s.heap.NoLimit := e0.mod.nolimit.keeps (fun b o e => (e0.bs b o e).1)
  have kinds : ∀ y ∈ ps.zip us, scope.names.lookup y.1 = some .local ∨ (scope.names.lookup y.1 = some .cell ∧ ((cellsFrom (s.heap.objs.size + 1) scope.names []).lookup y.1).isSome = true) := by
    rintro ⟨n, v⟩ hy
    cases S.par n (List.of_mem_zip hy).1 with
    | inl q => exact Or.inl q
    | inr q => exact Or.inr ⟨q, PySem.W.cellsFrom_some _ _ _ (Or.inl q)⟩
  refine codeAny_call_function hr.depth (kx _ _ lk) rfl S.co S.gen rfl (PySem.W.codeRec_of kx hcd) ?_
  refine hb _ _ _ _ (wpAny_newFunctionEnv_cells S.kind kinds ?_)
  rintro env rfl s1 x1
  refine ⟨nol.keeps x1.toInCall.keep, ?_⟩
  obtain ⟨t, ht, hq⟩ := hbody A outer s H vs Q E hgu (hr.deeper _) hsp
  have I : Inv (cxOf CX P w K mg base N qual scope f (.ref c) A outer s H E) [] (start N vs) H s1 := inv_start S hr.hd e0 hlen r x1
  refine codeAny_func (wpAny_mono (ht.run [] s1 (start N vs) H _ I hq) (fun fl s' hs => ?_) (fun _ _ z => z))
  have ends : ∀ {σ' : L2.St} {H' : Hp} {v : V} {u : Value}, Inv (cxOf CX P w K mg base N qual scope f (.ref c) A outer s H E) [] σ' H' s' → RelV v u → Q v H' → CE outer P w H s Q u s' := by
    intro σ' H' v u J rv q
    exact ⟨v, H', J.os, J.bare, J.base, J.hok, rv, q⟩
  match fl, hs with
  | .ret u, ⟨v, σ', H', J, rv, q⟩ => exact ends J rv q
  | .next, ⟨σ', H', J, q⟩ => exact ends (v := .non) (u := .none) J rfl q
  | .brk, ⟨_, _, _, q⟩ => exact q.elim
  | .cont, ⟨_, _, _, q⟩ => exact q.elim
end Z
namespace Z
open PySem PySem.Spec PyProof.Rows L2
/-! ### raising own errors -/
def tUp (ta : TA) : TA := fun σ H Q => ∃ Q0 : List V → Hp → Prop, ta σ H Q0 ∧ ∀ vs H1, Q0 vs H1 → Q vs H1
theorem pa_up {X : Cx} {es : List Expr} {ta : TA} (h : PA X es ta) : PA X es (tUp ta) := by
  constructor
  rintro pos pins s σ H Q I ⟨Q0, h0, h1⟩
  refine wpAny_mono (h.run pos pins s σ H Q0 I h0) ?_ (fun _ _ z => z)
  rintro us s' ⟨vs, H1, I1, r, q⟩
  exact ⟨vs, H1, I1, r, h1 _ _ q⟩
/-- raise x(e): x keeps one value as f -/
def tRaise1 (C : Addr) (f : Str) (W : WX) (ta : TA) : TS := fun _ σ H => ta σ H fun vs H1 => ∃ v, vs = [v] ∧ ∀ d H', Same H1 H' → H1 d = none → H' d = some (.xd [(f, v)]) → W (.ref C) (some d) σ H'
theorem ps_raise1 {X : Cx} {W : WX} {x f : Str} {k : Nat} {e : Expr} {es : List Expr} {ta : TA} {p pos pos2 : Pos} (E : ErrF X.K x) (D : DefM X.prog X.w X.K X.mg X.base k (He.ma X.K (He.ga X.K x) "__init__") ["self", f] (spErr1 X.K (He.ga X.K x) f)) (hr : Room (k + 1) X.A) (hc : X.calm = true) (tk : Takes X W) (hg : Gl X x) (hm : X.mg x = some (.ref (He.ga X.K x))) (ha : PA X (e :: es) ta)
    (hdb : (x == ("__debug__" : Str)) = false := by decide) (he : starEach (e :: es) X.env = (false, eval e X.env) :: starEach es X.env := by rfl) (hpl : (backTo pos (starEach es X.env)).any (·.1) = false := by rfl) :
    PS X (.Raise (some (.Call (.Name x p) (e :: es) [] pos)) none pos2) (tRaise1 (He.ga X.K x) f W ta) := by
  obtain ⟨fd, F, b⟩ := D.ex
  constructor
  intro pins s σ H D I h
  refine (ps_raise hc tk (pmk_oex (p := p) (pos := pos) E.o E.iC E.tI F hr b .nil pass0 hg hm (pa_up ha) hdb he hpl)).run pins s σ H D I ⟨_, h, ?_⟩
  rintro vs H1 ⟨v, rfl, k⟩
  exact ⟨by show 1 ≤ 1000; decide, fun a ha => raised1 (R := fun cls d H' => W cls d σ H') ha k⟩
theorem raised2 {K : PySem.W.Frag} {C : Addr} {f g : Str} {u v : V} {H : Hp} {a : Addr} {R : XK} (ha : H a = none) (k : ∀ d H', Same H H' → H d = none → H' d = some (.xd [(g, v), (f, u)]) → R (.ref C) (some d) H') :
    spErr2 K C f g [.ref a, u, v] (upd H a (exo a C none)) (fun z H2 => z = .non ∧ ∃ (d : Addr) (fs : List (Str × V)), H2 a = some (exo a C (some d)) ∧ H2 d = some (exd d fs) ∧ H d = none ∧ R (.ref C) (some d) (upd (del H2 a) d (.xd fs))) (fun _ _ _ => False) := by
  refine ⟨a, u, v, rfl, upd_same, fun dx H' h1 h2 e1 e2 e3 => ?_⟩
  have h1' : H dx = none := by rw [upd_ne h2] at h1; exact h1
  refine ⟨rfl, dx, _, e1, e2, h1', k dx _ (fun b o e => ?_) h1' upd_same⟩
  have n1 : b ≠ dx := ne_of_none e h1'
  have n2 : b ≠ a := ne_of_none e ha
  rw [upd_ne n1, del_ne n2, e3 b n2 n1, upd_ne n2]
  exact e
/-- raise x(e, e'): x keeps two values as f, g -/
def tRaise2 (C : Addr) (f g : Str) (W : WX) (ta : TA) : TS := fun _ σ H => ta σ H fun vs H1 => ∃ u v, vs = [u, v] ∧ ∀ d H', Same H1 H' → H1 d = none → H' d = some (.xd [(g, v), (f, u)]) → W (.ref C) (some d) σ H'
theorem ps_raise2 {X : Cx} {W : WX} {x f g : Str} {k : Nat} {e : Expr} {es : List Expr} {ta : TA} {p pos pos2 : Pos} (E : ErrF X.K x) (D : DefM X.prog X.w X.K X.mg X.base k (He.ma X.K (He.ga X.K x) "__init__") ["self", f, g] (spErr2 X.K (He.ga X.K x) f g)) (hr : Room (k + 1) X.A) (hc : X.calm = true) (tk : Takes X W) (hg : Gl X x) (hm : X.mg x = some (.ref (He.ga X.K x))) (ha : PA X (e :: es) ta)
    (hdb : (x == ("__debug__" : Str)) = false := by decide) (he : starEach (e :: es) X.env = (false, eval e X.env) :: starEach es X.env := by rfl) (hpl : (backTo pos (starEach es X.env)).any (·.1) = false := by rfl) :
    PS X (.Raise (some (.Call (.Name x p) (e :: es) [] pos)) none pos2) (tRaise2 (He.ga X.K x) f g W ta) := by
  obtain ⟨fd, F, b⟩ := D.ex
  constructor
  intro pins s σ H D I h
  refine (ps_raise hc tk (pmk_oex (p := p) (pos := pos) E.o E.iC E.tI F hr b .nil pass0 hg hm (pa_up ha) hdb he hpl)).run pins s σ H D I ⟨_, h, ?_⟩
  rintro vs H1 ⟨u, v, rfl, k⟩
  exact ⟨by show 2 ≤ 1000; decide, fun a ha => raised2 (R := fun cls d H' => W cls d σ H') ha k⟩
theorem same_none {H H' : Hp} {d : Addr} (s : Same H H') (h : H' d = none) : H d = none := by
  cases e : H d with
  | none => rfl
  | some o => rw [s d o e] at h; cases h
theorem vnm_str {v : V} (h : vnm v = true) : ∃ z, v = .str z := by
  cases v with
  | str z => exact ⟨z, rfl⟩
  | _ => cases h
theorem tgt_non {x y : V} (h : y = .non) : tgt x y = true := by subst h; rfl
theorem tgt_bad {x y : V} (h : y ≠ .non) (v : vnm y = false) : tgt x y = false := by
  unfold tgt
  rw [v, decide_eq_false h]
  rfl
theorem tgt_self {x : V} (v : vnm x = true) : tgt x x = false := by
  obtain ⟨z, rfl⟩ := vnm_str v
  unfold tgt
  simp
theorem tgt_two {x y : V} (v : vnm y = true) (h : y ≠ x) : tgt x y = true := by
  unfold tgt
  rw [v, decide_eq_false h]
  simp
/-! ### new frames -/
def tNew (C : Addr) (sp : Sp) (E : XK) (ta : TA) : TE := fun σ H Q => ta σ H fun vs H1 => ∀ p dx, H1 p = none → H1 dx = none → dx ≠ p → sp (.ref p :: vs) (upd (upd H1 dx (.own p)) p (.ins C dx [])) (fun v H2 => v = .non ∧ Q (.ref p) H2) E
/-- a def of the module that may raise -/
structure DefC (P : Program) (w : World) (K : PySem.W.Frag) (mg : Str → Option Value) (base : Heap) (k : Nat) (x : Str) (ps : List Str) (sp : Sp) : Prop where
  ex : ∃ fd, FnOk P w K mg base (CX P w) k (He.ga K x) fd ps sp ∧ Binds K fd ps []
  kp : PySem.W.keepIn K (.ref (He.ga K x)) = true
  at_ : mg x = some (.ref (He.ga K x))
theorem pe_defC {X : Cx} {k : Nat} {x : Str} {ps : List Str} {sp : Sp} {E : XK} {e : Expr} {es : List Expr} {p pos : Pos} {t : TA} (D : DefC X.prog X.w X.K X.mg X.base k x ps sp) (hr : Room k X.A) (hg : Gl X x) (hx : Passes (CX X.prog X.w) X E) (ha : PA X (e :: es) t)
    (hdb : (x == ("__debug__" : Str)) = false := by decide) (he : starEach (e :: es) X.env = (false, eval e X.env) :: starEach es X.env := by rfl) (hpl : (backTo pos (starEach es X.env)).any (·.1) = false := by rfl) :
    PE X (.Call (.Name x p) (e :: es) [] pos) (tCall sp [] E t) := by
  obtain ⟨fd, F, b⟩ := D.ex
  exact pe_call F hr hg D.at_ D.kp b .nil hx ha hdb he hpl
end Z
namespace Z
open PySem PySem.Spec PyProof.Rows L2
/-! ### the order of pairs of texts -/
def sLt (a b : Str) : Bool := decide (a.cps.toList < b.cps.toList)
def cmpS : CmpOp → Str → Str → Bool
  | .Lt, a, b => sLt a b
  | .LtE, a, b => !sLt b a
  | .Gt, a, b => sLt b a
  | .GtE, a, b => !sLt a b
  | _, _, _ => false
def endS : CmpOp → Bool
  | .LtE => true
  | .GtE => true
  | _ => false
def ord2 (op : CmpOp) (a1 a2 b1 b2 : Str) : Bool := if a1 = b1 then (if a2 = b2 then endS op else cmpS op a2 b2) else cmpS op a1 b1
def rOrd2 (K : PySem.W.Frag) (op : CmpOp) : R2 := fun x y H Q => ∃ (p q : Addr) (a1 a2 b1 b2 : Str), x = .ref p ∧ y = .ref q ∧ SqT K H p [.str a1, .str a2] ∧ SqT K H q [.str b1, .str b2] ∧ Q (.bl (ord2 op a1 a2 b1 b2)) H
theorem op_ord2 {X : Cx} {K : PySem.W.Frag} {op : CmpOp} (he : ∀ u v, compareOp op u v = richCompare op u v)
    (tuples : ∀ {A : Around} {s : Shared} {l b : Addr} {items items2 : Array Value} {e r : Nat → Bool}, s.heap.IsTuple l items → s.heap.IsTuple b items2 → A.units < cLine → (∀ j (h1 : j < items.size) (h2 : j < items2.size), SeqAt.EqAt A.in1 s items[j] items2[j] (e j)) →
      (∀ j (h1 : j < items.size) (h2 : j < items2.size), e j = false → Ob.RcOp op A.in1 s items[j] items2[j] (r j)) → ∃ z, (items.size = items2.size → z = endS op) ∧ Ob.RcOp op A s (.ref l) (.ref b) (Ob.lexAt e r z 0 (min items.size items2.size)))
    (text : ∀ {A : Around} {s : Shared} {a b : Str} {t u : Tok}, Ob.RcOp op A s (.str a t) (.str b u) (cmpS op a b))
    (hu : X.A.units < cLine) (hK : X.K = K := by rfl) : OpR X (compareOp op) (rOrd2 K op) := by
  subst hK
  rintro pins s σ H x y v u Q I rx ry ⟨p, q, a1, a2, b1, b2, rfl, rfl, hp, hq, k⟩
  cases rx
  cases ry
  obtain ⟨its, r1, p1, _⟩ := I.tuple hp
  obtain ⟨its2, r2, p2, _⟩ := I.tuple hq
  cases r1 with
  | cons e1 r1 =>
  cases r1 with
  | cons e2 r1 =>
  cases r1
  cases r2 with
  | cons g1 r2 =>
  cases r2 with
  | cons g2 r2 =>
  cases r2
  obtain ⟨t1, rfl⟩ := e1
  obtain ⟨t2, rfl⟩ := e2
  obtain ⟨u1, rfl⟩ := g1
  obtain ⟨u2, rfl⟩ := g2
  have eqs : ∀ {A : Around} {a b : Str} {t u : Tok}, SeqAt.EqAt A s (.str a t) (.str b u) (decide (a = b)) := by
    intro A a b t u
    have z : (a == b) = decide (a = b) := by
      by_cases q : a = b
      · rw [decide_eq_true q]; exact beq_iff_eq.mpr q
      · rw [decide_eq_false q]; exact beq_eq_false_iff_ne.mpr q
    rw [← z]
    exact SeqAt.EqAt.str_str _ _ _ _
  obtain ⟨z, hz, R⟩ := tuples (A := X.A) (s := s) (e := fun j => decide ([a1, a2].getD j "" = [b1, b2].getD j "")) (r := fun j => cmpS op ([a1, a2].getD j "") ([b1, b2].getD j "")) p1 p2 hu
    (fun j h1 h2 => match j, h1, h2 with
      | 0, _, _ => eqs
      | 1, _, _ => eqs
      | n + 2, h1, _ => absurd h1 (by simp)) (fun j h1 h2 _ => match j, h1, h2 with
      | 0, _, _ => text
      | 1, _, _ => text
      | n + 2, h1, _ => absurd h1 (by simp))
  have hz := hz rfl
  subst hz
  have el : Ob.lexAt (fun j => decide ([a1, a2].getD j "" = [b1, b2].getD j "")) (fun j => cmpS op ([a1, a2].getD j "") ([b1, b2].getD j "")) (endS op) 0 2 = ord2 op a1 a2 b1 b2 := by
    show (if decide (a1 = b1) = true then (if decide (a2 = b2) = true then endS op else cmpS op a2 b2) else cmpS op a1 b1) = _
    unfold ord2
    simp only [decide_eq_true_eq]
  have R2 : Ob.RcOp op X.A s (.ref p) (.ref q) (ord2 op a1 a2 b1 b2) := el ▸ R
  rw [he]
  exact R2 X.prog X.w X.xe (EP X pins σ Q) ⟨.bl _, H, I, rfl, k⟩
section
variable {X : Cx} {K : PySem.W.Frag}
theorem op_lt2 (hu : X.A.units < cLine) (hK : X.K = K := by rfl) : OpR X (compareOp .Lt) (rOrd2 K .Lt) := op_ord2 (fun _ _ => rfl) (fun h1 h2 h3 h4 h5 => ⟨_, fun e => by rw [e]; simp [endS], Ob.RcOp.tuples_lt h1 h2 h3 h4 h5⟩) (fun _ _ _ _ h => PyProof.Rows.lt_str h) hu hK
theorem op_le2 (hu : X.A.units < cLine) (hK : X.K = K := by rfl) : OpR X (compareOp .LtE) (rOrd2 K .LtE) := op_ord2 (fun _ _ => rfl) (fun h1 h2 h3 h4 h5 => ⟨_, fun e => by rw [e]; simp [endS], Ob.RcOp.tuples_le h1 h2 h3 h4 h5⟩) (fun _ _ _ _ h => PySem.P.le_str h) hu hK
theorem op_gt2 (hu : X.A.units < cLine) (hK : X.K = K := by rfl) : OpR X (compareOp .Gt) (rOrd2 K .Gt) := op_ord2 (fun _ _ => rfl) (fun h1 h2 h3 h4 h5 => ⟨_, fun e => by rw [e]; simp [endS], Ob.RcOp.tuples_gt h1 h2 h3 h4 h5⟩) (fun _ _ _ _ h => PySem.P.gt_str h) hu hK
theorem op_ge2 (hu : X.A.units < cLine) (hK : X.K = K := by rfl) : OpR X (compareOp .GtE) (rOrd2 K .GtE) := op_ord2 (fun _ _ => rfl) (fun h1 h2 h3 h4 h5 => ⟨_, fun e => by rw [e]; simp [endS], Ob.RcOp.tuples_ge h1 h2 h3 h4 h5⟩) (fun _ _ _ _ h => PySem.P.ge_str h) hu hK
end
/-- a row that is not reached -/
theorem ps_never {X : Cx} {st : Stmt} : PS X st (fun _ _ _ => False) := ⟨fun _ _ _ _ _ _ h => h.elim⟩
theorem shaped2 {a b : Str} (ha : PyData.strOk a = true) (hb : PyData.strOk b = true) : SeqAt.shaped (.tuple [.str a, .str b]) = true := by
  unfold SeqAt.shaped
  simp [PyData.canLay0, PyData.canLayAll0, PyData.depth, PyData.depthAll, ha, hb]
/-! ### frames -/
def optV : Option Str → V
  | none => .non
  | some z => .str z
def kOf (o : Option Str) : Str := o.getD ""
/-- p is a frame from a to o -/
structure FrOk (a : Str) (o : Option Str) : Prop where
  a : IsNm a
  o : ∀ z, o = some z → IsNm z
theorem FrOk.k {a : Str} {o : Option Str} (h : FrOk a o) : PyData.strOk (kOf o) = true := by
  cases o with
  | none => decide +kernel
  | some z => exact (h.o z rfl).ok
def IsFr (K : PySem.W.Frag) (H : Hp) (p : Addr) (a : Str) (o : Option Str) : Prop := FrOk a o ∧ ∃ dx, H p = some (.ins (He.ga K "Frame") dx (fFields (.str a) (optV o)))
theorem IsFr.same {K : PySem.W.Frag} {H H' : Hp} {p : Addr} {a : Str} {o : Option Str} (s : Same H H') (h : IsFr K H p a o) : IsFr K H' p a o := let ⟨f, dx, e⟩ := h; ⟨f, dx, s _ _ e⟩
def spKey (K : PySem.W.Frag) : Sp := fun vs H Q _ => ∃ (p : Addr) (a : Str) (o : Option Str), vs = [.ref p] ∧ IsFr K H p a o ∧ ∀ t, H t = none → Q (.ref t) (upd H t (.tup [.str a, .str (kOf o)]))
def spOrd (K : PySem.W.Frag) (op : CmpOp) : Sp := fun vs H Q _ => ∃ (p q : Addr) (a b : Str) (o r : Option Str), vs = [.ref p, .ref q] ∧ IsFr K H p a o ∧ IsFr K H q b r ∧ ∀ H', Same H H' → Q (.bl (ord2 op a (kOf o) b (kOf r))) H'
def eq2 (a1 a2 b1 b2 : Str) : Bool := PyData.eqv (.tuple [.str a1, .str a2]) (.tuple [.str b1, .str b2])
def spEqF (K : PySem.W.Frag) : Sp := fun vs H Q _ => ∃ (p : Addr) (y : V) (a : Str) (o : Option Str), vs = [.ref p, y] ∧ IsFr K H p a o ∧
  ((∃ (q : Addr) (b : Str) (r : Option Str), y = .ref q ∧ IsFr K H q b r ∧ ∀ H', Same H H' → Q (.bl (eq2 a (kOf o) b (kOf r))) H') ∨ ∃ t, t ∈ kinds ∧ TyX K H y t ∧ Q (.bl false) H)
def starOf : Option Str → Str
  | none => "*"
  | some z => z
def textF (a : Str) (o : Option Str) : Str := a ++ " " ++ starOf o
theorem str_ext {a b : Str} (h : a.cps.toList = b.cps.toList) : a = b := by
  obtain ⟨⟨x⟩⟩ := a
  obtain ⟨⟨y⟩⟩ := b
  simp only at h
  rw [h]
theorem str_app (a b : Str) : (a ++ b).cps.toList = a.cps.toList ++ b.cps.toList := by
  show (a.cps ++ b.cps).toList = _
  simp
theorem str_nil (a : Str) : Str.empty ++ a = a := str_ext (by rw [str_app]; rfl)
theorem str_len (a : Str) : a.length = a.cps.toList.length := by
  show a.cps.size = _
  simp
theorem str_len_le {a b : Str} (h : IsNm a) {n : Nat} (hb : b.length ≤ n) : (a ++ b).length ≤ 8 + n := by
  have := h.hi
  rw [str_len, str_app, List.length_append, ← str_len, ← str_len]
  omega
theorem FrOk.text_none {a : Str} (_ : FrOk a none) : a ++ " *" = textF a none := str_ext (by
  unfold textF starOf
  rw [str_app, str_app, str_app, List.append_assoc]
  rfl)
theorem FrOk.text_fit {a z : Str} (h : FrOk a (some z)) : (a ++ " " ++ z).length ≤ sizeLine := by
  have h1 := h.a.hi
  have h2 := (h.o z rfl).hi
  have e : (a ++ " " ++ z).length = a.length + 1 + z.length := by
    rw [str_len, str_app, str_app, List.length_append, List.length_append, ← str_len, ← str_len]
    rfl
  rw [e]
  exact Nat.le_trans (show a.length + 1 + z.length ≤ 100 by omega) (by decide)
def spStrF (K : PySem.W.Frag) : Sp := fun vs H Q _ => ∃ (p : Addr) (a : Str) (o : Option Str), vs = [.ref p] ∧ IsFr K H p a o ∧ Q (.str (textF a o)) H
def spAllF (K : PySem.W.Frag) : Sp := fun vs H Q _ => ∃ (p : Addr) (a : Str) (o : Option Str), vs = [.ref p] ∧ IsFr K H p a o ∧ Q (.bl (decide (optV o = .non))) H
theorem nm_v {a : Str} (h : IsNm a) : vnm (.str a) = true := nmB_iff.mpr h
theorem tgt_ok {a : Str} {o : Option Str} (f : FrOk a o) (ne : ∀ z, o = some z → z ≠ a) : tgt (.str a) (optV o) = true := by
  cases o with
  | none => exact tgt_non rfl
  | some z => exact tgt_two (nm_v (f.o z rfl)) (fun e => ne z rfl (V.str.inj e))
theorem kind_opt {K : PySem.W.Frag} {H : Hp} {a : Str} {o : Option Str} (f : FrOk a o) : Kind K H (optV o) := by
  cases o with
  | none => exact .non
  | some z => exact .str (f.o z rfl)
/-- Frame(a, o) is made, at p -/
theorem frame_new {K : PySem.W.Frag} {H : Hp} {a : Str} {o : Option Str} {Q : Addr → Hp → Prop} {E : XK} (f : FrOk a o) (ne : ∀ z, o = some z → z ≠ a) (k : ∀ p H', Same H H' → H p = none → IsFr K H' p a o → Q p H') :
    ∀ x dx, H x = none → H dx = none → dx ≠ x → spFrame K [.ref x, .str a, optV o] (upd (upd H dx (.own x)) x (.ins (He.ga K "Frame") dx [])) (fun v H2 => v = .non ∧ Q x H2) E := by
  intro x dx h1 h2 h3
  refine ⟨x, dx, _, _, rfl, upd_same, .str f.a, kind_opt f, fun z => ?_, fun _ z => ?_, fun _ _ H' b e => ⟨rfl, k x H' (fun c u ec => ?_) h1 ⟨f, dx, e⟩⟩⟩
  · rw [nm_v f.a] at z
    cases z
  · rw [tgt_ok f ne] at z
    cases z
  · have n1 := ne_of_none ec h1
    have n2 := ne_of_none ec h2
    exact b c u n1 (by rw [upd_ne n1, upd_ne n2]; exact ec)
/-- Frame(x, y) is made, or refused -/
theorem frame_bad {K : PySem.W.Frag} {H : Hp} {u v : V} {Q : Addr → Hp → Prop} {E : XK} (ku : Kind K H u) (kv : Kind K H v) (h : vnm u = false ∨ tgt u v = false)
    (k1 : vnm u = false → ∀ d H', Same H H' → H d = none → H' d = some (.xd [("part", .str "sender")]) → E (.ref (He.ga K "BadFrame")) (some d) H')
    (k2 : vnm u = true → tgt u v = false → ∀ d H', Same H H' → H d = none → H' d = some (.xd [("part", .str "target")]) → E (.ref (He.ga K "BadFrame")) (some d) H') :
    ∀ x dx, H x = none → H dx = none → dx ≠ x → spFrame K [.ref x, u, v] (upd (upd H dx (.own x)) x (.ins (He.ga K "Frame") dx [])) (fun v H2 => v = .non ∧ Q x H2) E := by
  intro x dx h1 h2 h3
  have sm : Same H (upd (upd H dx (.own x)) x (.ins (He.ga K "Frame") dx [])) := fun c u ec => by
    rw [upd_ne (ne_of_none ec h1), upd_ne (ne_of_none ec h2)]
    exact ec
  refine ⟨x, dx, _, _, rfl, upd_same, ku.same sm, kv.same sm, fun z d H' s n e => k1 z d H' (sm.trans s) (same_none sm n) e, fun z t d H' s n e => k2 z t d H' (sm.trans s) (same_none sm n) e, fun z t => ?_⟩
  rcases h with h | h
  · rw [h] at z
    cases z
  · rw [h] at t
    cases t
theorem ne_pen {H H' : Hp} {p c q : Addr} {ms : List Int} {t : Nat} {z : Int} (P : Pen H p c ms t z) (s : Same H H') (h : H' q = none) : q ≠ p := (ne_of_none (s _ _ P.a) h).symm
theorem cut7 {x y : Str} (_ : IsNm x) (k : Nat) (hy : y.length ≤ 2) (hk : k ≤ 7 := by decide) : (cutS x none (some (k : Int))).length + y.length ≤ sizeLine := by
  have h2 := cut_len x k
  exact Nat.le_trans (show _ ≤ 10 by omega) (by decide)
theorem kind_cut {K : PySem.W.Frag} {H : Hp} {x y : Str} (hx : IsNm x) (k : Nat) (hy : y.length ≤ 2) (hk : k ≤ 7 := by decide) : Kind K H (.str (cutS x none (some (k : Int)) ++ y)) := by
  refine .inl ⟨_, rfl, ?_⟩
  rw [str_len, str_app, List.length_append, ← str_len, ← str_len]
  exact cut7 hx k hy hk
theorem not_nm {x y : Str} {b : Nat} (hb : b ∈ y.cps.toList) (hn : ¬ (97 ≤ b ∧ b ≤ 122)) : vnm (.str (x ++ y)) = false := by
  cases e : vnm (.str (x ++ y)) with
  | false => rfl
  | true =>
    have h := (nmB_iff.mp e).az b (by rw [str_app]; exact List.mem_append_right _ hb)
    exact absurd h hn
theorem kind_t {K : PySem.W.Frag} {H : Hp} {v : V} {a : String} (h : TyOf K H v (.type a)) (k : kitB a "str" = some false) : Kind K H v := .inr ⟨_, .base h, kit_ty k⟩
end Z
namespace Z
open PySem PySem.Spec PyProof.Rows L2
/-! ### a def that calls what it is handed, within a try -/
theorem takes_len {X : Cx} {W : WX} (t : Takes X W) : Takes X (fun cls d σ H => σ.length = X.N.length → W cls d σ H) := by
  rintro u s' ⟨a, B, sI, pins, σ, H, cls, d, e, I, nb, up, sky, na, os, ag, w⟩
  exact t u s' ⟨a, B, sI, pins, σ, H, cls, d, e, I, nb, up, sky, na, os, ag, w I.len⟩
theorem pe_up {X : Cx} {e : Expr} {te : TE} (h : PE X e te) : PE X e (fun σ H Q => ∃ Q0 : VK, te σ H Q0 ∧ ∀ v H1, Q0 v H1 → Q v H1) := by
  constructor
  rintro pins s σ H Q I ⟨Q0, h0, h1⟩
  refine wpAny_mono (h.run pins s σ H Q0 I h0) ?_ (fun _ _ z => z)
  rintro u s' ⟨v, H1, I1, r, q⟩
  exact ⟨v, H1, I1, r, h1 _ _ q⟩
/-- found = ask() -/
def tAsk (n j : Nat) (f c' : Addr) (q : Str) (tl : XK → Hp → VK → Prop) (W : WX) : TS := fun D σ H => ∃ (E : XK) (Q0 : VK), (∀ cls d σ' H', E cls d H' → σ'.length = n → W cls d σ' H') ∧ σ[0]? = some (some (.ref f)) ∧ H c' = some (LamX.CodeO c' q) ∧ tl E H Q0 ∧ ∀ v H1, Q0 v H1 → D.nx (σ.set j (some v)) H1
theorem ps_ask {Z : Cx} {W : WX} {n : Nat} {f c' : Addr} {q nm a : Str} {tl : XK → Hp → VK → Prop} {j : Nat} {p1 p2 p3 p4 : Pos} (hn : Z.N.length = n)
    (set_ : ∀ te, PE Z (.Call (.Name a p1) [] [] p2) te → PS Z (.Assign [.Name nm p3] (.Call (.Name a p1) [] [] p2) p4) (tAsg te (gName j)))
    (act : ∀ E : XK, (∀ cls d σ' H', E cls d H' → σ'.length = Z.N.length → W cls d σ' H') → PE Z (.Call (.Name a p1) [] [] p2) (fun σZ HZ Q => σZ[0]? = some (some (.ref f)) ∧ HZ c' = some (LamX.CodeO c' q) ∧ tl E HZ Q)) :
    PSs Z [.Assign [.Name nm p3] (.Call (.Name a p1) [] [] p2) p4] (tAsk n j f c' q tl W) := by
  constructor
  rintro pins s σ H D I ⟨E, Q0, hW, h1, h2, h3, h4⟩
  exact (pss_one (set_ _ (pe_up (act E (fun cls d σ' H' e l => hW cls d σ' H' e (l.trans hn)))))).run pins s σ H D I ⟨Q0, ⟨h1, h2, h3⟩, h4⟩
/-- what a law's _law_heard makes of a call that may raise x, whose only value is its field f -/
def TTheard (K : PySem.W.Frag) (x f : Str) : (XK → Hp → VK → Prop) → Hp → VK → Prop := fun tl H Q => ∀ H1, Same H H1 → ∃ (E : XK) (Q0 : VK), tl E H1 Q0 ∧
  (∀ cls d H', E cls d H' → cls = .ref (He.ga K x) ∧ ∃ (dd : Addr) (v : V), d = some dd ∧ H' dd = some (.xd [(f, v)]) ∧ ∀ H'', Same H' H'' → Q v H'') ∧ ∀ v H', Q0 v H' → ∀ l, H' l = none → Q (.ref l) (upd H' l (.lst [v]))
/-! ### all but the tables stays -/
theorem tyOf_ext {K : PySem.W.Frag} {H H' : Hp} {v : V} {t : Value} (s : LamX.ExtN H H') (h : TyOf K H v t) : TyOf K H' v t := by
  cases h with
  | non => exact .non
  | bl b => exact .bl b
  | int i => exact .int i
  | str z => exact .str z
  | flt b => exact .flt b
  | lst e => exact .lst (s _ _ e nofun)
  | frz e => exact .frz (s _ _ e nofun)
  | tup e => exact .tup (s _ _ e nofun)
  | dK e => exact .dK (s _ _ e nofun)
  | dT e => exact .dT (s _ _ e nofun)
  | ins e a b c d f => exact .ins (s _ _ e nofun) a b c d f
theorem tyX_ext {K : PySem.W.Frag} {H H' : Hp} {v : V} {t : Value} (s : LamX.ExtN H H') (h : TyX K H v t) : TyX K H' v t := by
  cases h with
  | base b => exact .base (tyOf_ext s b)
  | byt b => exact .byt b
  | set e => exact .set (s _ _ e nofun)
  | kList e c => exact .kList e c
  | kTuple e c => exact .kTuple e c
  | kDict e c => exact .kDict e c
  | fTuple e => exact .fTuple (s _ _ e nofun)
  | fDict e => exact .fDict (s _ _ e nofun)
theorem Kind.ext {K : PySem.W.Frag} {H H' : Hp} {v : V} (s : LamX.ExtN H H') (h : Kind K H v) : Kind K H' v := h.imp id fun ⟨t, a, b⟩ => ⟨t, tyX_ext s a, b⟩
/-- all but p and the tables stays -/
def ButT (p : Addr) (H H' : Hp) : Prop := ∀ b o, b ≠ p → H b = some o → (∀ ps, o ≠ .tbl ps) → H' b = some o
theorem ButT.refl {p : Addr} {H : Hp} : ButT p H H := fun _ _ _ h _ => h
theorem ButT.trans {p : Addr} {H H1 H2 : Hp} (a : ButT p H H1) (b : ButT p H1 H2) : ButT p H H2 := fun c o n h k => b c o n (a c o n h k) k
theorem ButT.of {p : Addr} {H H' : Hp} (b : But p H H') : ButT p H H' := fun c o n h _ => b c o n h
theorem ButT.ofS {p : Addr} {H H' : Hp} (b : Same H H') : ButT p H H' := fun c o _ h _ => b c o h
theorem ButT.ofN {p : Addr} {H H' : Hp} (b : LamX.ExtN H H') : ButT p H H' := fun c o _ h k => b c o h k
theorem Pen.ext {H H' : Hp} {p c : Addr} {ms : List Int} {t : Nat} {z : Int} (P : Pen H p c ms t z) (s : LamX.ExtN H H') : Pen H' p c ms t z := ⟨s _ _ P.a nofun, s _ _ P.b nofun⟩
theorem extS {H H' : Hp} (s : Same H H') : LamX.ExtN H H' := LamX.ExtN.of s
/-- _law_heard(lambda: Frame(..)), refused -/
theorem heard_bad {K : PySem.W.Frag} {T : List (Addr × Str)} {t : XK → TE} {σ : L2.St} {H : Hp} {Q : VK} {u v : V} (part : Str) (hT : LamX.Tabs T H)
    (rd : ∀ E H2, (∀ x dx, H2 x = none → H2 dx = none → dx ≠ x → spFrame K [.ref x, u, v] (upd (upd H2 dx (.own x)) x (.ins (He.ga K "Frame") dx [])) (fun v _ => v = .non ∧ False) E) → t E σ H2 (fun _ _ => False))
    (ku : Kind K H u) (kv : Kind K H v) (bad : (part = "sender" ∧ vnm u = false) ∨ (part = "target" ∧ vnm u = true ∧ tgt u v = false)) (k : ∀ H', LamX.ExtN H H' → LamX.Tabs T H' → Q (.str part) H') :
    LamX.tLam T (TTheard K "BadFrame" "part") t σ H Q := by
  refine ⟨hT, fun H1 eN T1 H2 s2 => ⟨fun cls d H' => cls = .ref (He.ga K "BadFrame") ∧ ∃ dd, d = some dd ∧ H' dd = some (.xd [("part", .str part)]) ∧ Same H2 H', fun _ _ => False, ?_, ?_, fun _ _ z => z.elim⟩⟩
  · have e2 : LamX.ExtN H H2 := eN.trans (extS s2)
    refine rd _ H2 (frame_bad (Q := fun _ _ => False) (ku.ext e2) (kv.ext e2) ?_ (fun z d H' s n e => ?_) (fun z zt d H' s n e => ?_))
    · rcases bad with ⟨_, b⟩ | ⟨_, _, b⟩
      · exact .inl b
      · exact .inr b
    · rcases bad with ⟨rfl, b⟩ | ⟨_, b, _⟩
      · exact ⟨rfl, d, rfl, e, s⟩
      · rw [b] at z
        cases z
    · rcases bad with ⟨_, b⟩ | ⟨rfl, _, _⟩
      · rw [b] at z
        cases z
      · exact ⟨rfl, d, rfl, e, s⟩
  · rintro cls d H' ⟨rfl, dd, rfl, hdd, sm⟩
    exact ⟨rfl, dd, _, rfl, hdd, fun H'' s => k H'' (((eN.trans (extS s2)).trans (extS sm)).trans (extS s)) (((T1.ext s2).ext sm).ext s)⟩
theorem tyX_gen {K : PySem.W.Frag} {H H' : Hp} {v : V} {t : Value} (s : ∀ b o, v = .ref b → H b = some o → (∀ ps, o ≠ .tbl ps) → H' b = some o) (h : TyX K H v t) : TyX K H' v t := by
  cases h with
  | base b =>
    refine .base ?_
    cases b with
    | non => exact .non
    | bl b => exact .bl b
    | int i => exact .int i
    | str z => exact .str z
    | flt b => exact .flt b
    | lst e => exact .lst (s _ _ rfl e nofun)
    | frz e => exact .frz (s _ _ rfl e nofun)
    | tup e => exact .tup (s _ _ rfl e nofun)
    | dK e => exact .dK (s _ _ rfl e nofun)
    | dT e => exact .dT (s _ _ rfl e nofun)
    | ins e a b c d f => exact .ins (s _ _ rfl e nofun) a b c d f
  | byt b => exact .byt b
  | set e => exact .set (s _ _ rfl e nofun)
  | kList e c => exact .kList e c
  | kTuple e c => exact .kTuple e c
  | kDict e c => exact .kDict e c
  | fTuple e => exact .fTuple (s _ _ rfl e nofun)
  | fDict e => exact .fDict (s _ _ rfl e nofun)
theorem Kind.but {K : PySem.W.Frag} {p : Addr} {H H' : Hp} {v : V} (s : But p H H') (n : v ≠ .ref p) (h : Kind K H v) : Kind K H' v :=
  h.imp id fun ⟨t, a, b⟩ => ⟨t, tyX_gen (fun b o e h _ => s b o (fun z => n (by rw [e, z])) h) a, b⟩
theorem tabs_upd {T : List (Addr × Str)} {H : Hp} {l : Addr} {xs ys : List V} (t : LamX.Tabs T H) (h : H l = some (.lst xs)) : LamX.Tabs T (upd H l (.lst ys)) := by
  intro p hp
  obtain ⟨ps, h1, h2, h3⟩ := t p hp
  have n1 : p.1 ≠ l := ne_of h1 h nofun
  refine ⟨ps, by rw [upd_ne n1]; exact h1, h2, fun pos cv hc => ?_⟩
  obtain ⟨c, e1, e2⟩ := h3 pos cv hc
  have n2 : c ≠ l := ne_of e2 h (fun z => by unfold LamX.CodeO at z; cases z)
  exact ⟨c, e1, by rw [upd_ne n2]; exact e2⟩
/-- a list of what was heard grows -/
structure Heard (T : List (Addr × Str)) (H Hk : Hp) (l : Addr) (xs : List V) : Prop where
  e : LamX.ExtN H Hk
  t : LamX.Tabs T Hk
  n : ∀ o, H l = some o → ∃ ps, o = .tbl ps
  a : Hk l = some (.lst xs)
theorem Heard.go {T : List (Addr × Str)} {H Hk H' : Hp} {l : Addr} {xs ys : List V} (h : Heard T H Hk l xs) (e : LamX.ExtN Hk H') (t : LamX.Tabs T H') : Heard T H (upd H' l (.lst ys)) l ys :=
  ⟨fun b o hb nb => by
    have n1 : b ≠ l := by
      rintro rfl
      obtain ⟨ps, rfl⟩ := h.n o hb
      exact nb ps rfl
    rw [upd_ne n1]
    exact e _ _ (h.e _ _ hb nb) nb, tabs_upd t (e _ _ h.a nofun), h.n, upd_same⟩
theorem Heard.new {T : List (Addr × Str)} {H H' : Hp} {l : Addr} {xs : List V} (e : LamX.ExtN H H') (t : LamX.Tabs T H') (n : H' l = none) : Heard T H (upd H' l (.lst xs)) l xs := by
  refine ⟨e.trans (extS (same_new n)), t.ext (same_new n), fun o q => ?_, upd_same⟩
  cases o with
  | tbl ps => exact ⟨ps, rfl⟩
  | _ =>
    have := e l _ q nofun
    rw [n] at this
    cases this
theorem tabs_but {T : List (Addr × Str)} {H H' : Hp} {p c : Addr} {ms : List Int} {n : Nat} {z : Int} (t : LamX.Tabs T H) (P : Pen H p c ms n z) (b : But p H H') : LamX.Tabs T H' := by
  intro q hq
  obtain ⟨ps, h1, h2, h3⟩ := t q hq
  refine ⟨ps, b _ _ (ne_of h1 P.a nofun) h1, h2, fun pos cv hc => ?_⟩
  obtain ⟨d, e1, e2⟩ := h3 pos cv hc
  exact ⟨d, e1, b _ _ (ne_of e2 P.a (fun z => by unfold LamX.CodeO at z; cases z)) e2⟩
def three (z : Str) : List V := [.str z, .str z, .str z]
def threeD (z : Str) : PyData := .list [.str z, .str z, .str z]
theorem three_dp {K : PySem.W.Frag} {H : Hp} {l : Addr} {z : Str} (h : H l = some (.lst (three z))) : Dp K H (.ref l) (threeD z) := .lst (SqL.of h) (.cons (.str _) (.cons (.str _) (.cons (.str _) .nil)))
end Z
namespace Z
open PySem PySem.Spec PyProof.Rows L2
/-! ### str(x) by an own __str__ -/
section
variable {prog : Program} {w : World} {A : Around} {E : Value → Shared → Prop} {s : Shared} {K : PySem.W.Frag} {x C f : Addr} {ox : Obj} {od : Option Obj}
theorem shown_own {R : Value → Shared → Prop} (hu : A.units < cLine) (X : K.In s.heap) (I : PySem.W.InstAt s.heap x ox C od) (hs : PySem.W.findIn K (.ref C) "__str__" = some (some (.ref f))) (hf : PySem.W.isFn K (.ref f) = true)
    (h : wpAny (model prog w) A (call (.ref f) [.ref x]) (fun v s' => ∃ y t, v = .str y t ∧ R v s') E s) : wpAny (model prog w) A (PySem.Builtin.Str.strOf (.ref x)) R E s := by
  unfold PySem.Builtin.Str.strOf
  rw [show Builtin.Str.isExactStr (.ref x) = false from rfl]
  refine wpAny_bind (m := cRoomFor _ _) (wpAny_cRoomFor hu ?_)
  refine wpAny_bind (m := callSpecial? (.ref x) (Str.ofString "__str__")) (PySem.W.special_fn X I hs (beq_iff_eq.mp hf) (wpAny_mono h (fun r s' z => ?_) fun _ _ y => y))
  obtain ⟨y, t, rfl, q⟩ := z
  exact wpAny_pure q
theorem str_own {Q : Value → Shared → Prop} (hu : A.in1.in1.units < cLine) (X : K.In s.heap) (I : PySem.W.InstAt s.heap x ox C od) (hs : PySem.W.findIn K (.ref C) "__str__" = some (some (.ref f))) (hf : PySem.W.isFn K (.ref f) = true)
    (h : wpAny (model prog w) A.in1.in1 (call (.ref f) [.ref x]) (fun v s' => ∃ y t, v = .str y t ∧ Q v s') E s) : wpAny (model prog w) A (call (.type "str") [.ref x]) Q E s := by
  refine callType_newIn PySem.F.called_str (by decide) (PySem.F.typeCall_str_1 _) (PySem.F.newCall_str_1 _) (fun obj => PySem.F.args_object_init_2 obj _) PySem.F.entry_str_new
    (S := fun A1 R s1 => A1 = A.in1 ∧ s1 = s ∧ (∀ y t s2, Q (.str y t) s2 → R (.ok (.ret (.str y t))) s2) ∧ ∀ er s2, E er s2 → R (.error er) s2) ?_ ⟨rfl, rfl, fun y t s2 q => ⟨typeIs_str _ _ _, q⟩, fun _ _ q => q⟩
  rintro A1 R s1 ⟨rfl, rfl, hR, hE⟩
  rw [str_new_tree]
  refine wpAny_bind (wpAny_pure ?_)
  refine wpAny_bind (wpAny_of_eq isSubtype_str_str ?_)
  refine wpAny_bind (wpAny_mono (shown_own (R := fun r s2 => ∃ y t, r = .str y t ∧ Q r s2) hu X I hs hf (wpAny_mono h (fun v s2 ⟨y, t, e, q⟩ => ⟨y, t, e, y, t, e, q⟩) fun _ _ z => z)) (fun r s2 hr => ?_) fun _ _ z => hE _ _ z)
  obtain ⟨y, t, rfl, q⟩ := hr
  exact wpAny_pure (hR y t s2 q)
end
def rStrOwn (C : Addr) (sp : Sp) : List V → Hp → VK → Prop := fun xs H Q => ∃ (a dx : Addr) (fs : List (Str × V)), xs = [.ref a] ∧ H a = some (.ins C dx fs) ∧ sp [.ref a] H (fun v H' => ∃ z, v = .str z ∧ Q (.str z) H') E0
theorem call_strOwn {X : Cx} {C f : Addr} {k : Nat} {ps : List Str} {sp : Sp} (D : DefM X.prog X.w X.K X.mg X.base k f ps sp) (hr : Room (k + 2) X.A) (hs : PySem.W.findIn X.K (.ref C) "__str__" = some (some (.ref f))) (hf : PySem.W.isFn X.K (.ref f) = true) : CallR X (.type "str") (rStrOwn C sp) := by
  obtain ⟨fd, F, hb⟩ := D.ex
  rintro pins s σ H xs us Q I r ⟨a, dx, fs, rfl, ha, hq⟩
  obtain ⟨u, rfl, e⟩ := vals1 r
  cases e
  obtain ⟨mA, J, _⟩ := ins_get I.hok ha
  obtain ⟨od, J, _⟩ := J.look
  have hun := hr.un
  refine str_own (by show X.A.units + 1 + 1 < cLine; omega) I.kIn J hs hf ?_
  have e0 : Env0 X.prog X.w X.K X.mg X.base X.A.in1.in1 X.stack s H := by
    have e := I.env0
    exact ⟨e.frames, e.mod, e.bs, e.bsz, e.funs, e.frf, e.hok, e.bare⟩
  have bt : BindsTo s fd ⟨[.ref a], []⟩ (ps.zip [.ref a]) := by
    have hl : [V.ref a].length = ps.length := F.len _ _ _ _ hq
    have := hb s [.ref a] I.kIn (by simpa using hl)
    simpa using this
  refine wpAny_call (codeAny_mono (F.run X.A.in1.in1 X.stack s H ⟨[.ref a], []⟩ [.ref a] [.ref a] _ E0 ?_ e0 bt r hq) (fun r s' hq => ?_))
  · exact hr.in1.in1
  match r, hq with
  | .error e, hq => exact (show False from hq).elim
  | .ok .next, hq => exact hq.elim
  | .ok .brk, hq => exact hq.elim
  | .ok .cont, hq => exact hq.elim
  | .ok (.ret w), hq =>
    obtain ⟨z, H', I', rz, y, rfl, q⟩ := I.after hq
    obtain ⟨t, rfl⟩ := rz
    exact ⟨y, t, rfl, .str y, H', I', ⟨t, rfl⟩, q⟩
/-! ### what is shown of frames -/
def optD : Option Str → PyData
  | none => .none
  | some z => .str z
def frD (a : Str) (o : Option Str) (b : Bool) (z : Str) : PyData := .list [.str a, optD o, .bool b, .str z, .str z, optD o]
def sixD (b1 b2 b3 b4 b5 b6 : Bool) : PyData := .list [.bool b1, .bool b2, .bool b3, .bool b4, .bool b5, .bool b6]
theorem shown_fit {d : PyData} (h : d.layable0 = true) (i : d.intsShort 13 = true) : d.shown.length ≤ sizeLine := Nat.le_trans (PyProof.Rows.shown_le13 h i) (by decide)
theorem textF_ok {a : Str} {o : Option Str} (f : FrOk a o) : PyData.strOk (textF a o) = true ∧ (textF a o).length ≤ 100 := by
  have h1 := f.a
  have h2 : ∀ c ∈ (starOf o).cps.toList, c ≤ 122 := by
    cases o with
    | none => decide +kernel
    | some z => exact fun c hc => ((f.o z rfl).az c hc).2
  have h3 : (starOf o).length ≤ 8 := by
    cases o with
    | none => decide +kernel
    | some z => exact (f.o z rfl).hi
  have hl : (textF a o).length ≤ 100 := by
    unfold textF
    have := h1.hi
    rw [str_len, str_app, str_app, List.length_append, List.length_append, ← str_len, ← str_len, ← str_len]
    have e : (Str.ofString " ").length = 1 := by decide +kernel
    omega
  refine ⟨?_, hl⟩
  have hc : ∀ c ∈ (textF a o).cps.toList, c ≤ 122 := by
    intro c hc
    unfold textF at hc
    rw [str_app, str_app] at hc
    rcases List.mem_append.mp hc with hc | hc
    · rcases List.mem_append.mp hc with hc | hc
      · exact (h1.az c hc).2
      · have e : (Str.ofString " ").cps.toList = [32] := by decide +kernel
        rw [e] at hc
        simp at hc
        omega
    · exact h2 c hc
  unfold PyData.strOk
  rw [Array.all_eq_true_iff_forall_mem]
  intro c h
  have := hc c (Array.mem_toList_iff.mpr h)
  simp
  omega
theorem frD_lay {a z : Str} {o : Option Str} {b : Bool} (f : FrOk a o) (hz : PyData.strOk z = true) (l2 : z.length ≤ 100) : (frD a o b z).layable0 = true := by
  have ha := f.a.ok
  have l1 : a.cps.size ≤ 8 := f.a.hi
  have l2 : z.cps.size ≤ 100 := l2
  unfold PyData.layable0 frD optD
  cases o with
  | none =>
    simp [PyData.canLay0, PyData.canLayAll0, PyData.depth, PyData.depthAll, PyData.weight, PyData.weightAll, ha, hz]
    omega
  | some y =>
    have hy := (f.o y rfl).ok
    have l3 : y.cps.size ≤ 8 := (f.o y rfl).hi
    simp [PyData.canLay0, PyData.canLayAll0, PyData.depth, PyData.depthAll, PyData.weight, PyData.weightAll, ha, hz, hy]
    omega
theorem frD_short {a z : Str} {o : Option Str} {b : Bool} : (frD a o b z).intsShort 13 = true := by
  unfold frD optD
  cases o <;> simp [PyData.intsShort, PyData.intsShortAll]
theorem frD_show {a z : Str} {o : Option Str} {b : Bool} : (frD a o b z).showable = true := by
  unfold frD optD
  cases o <;> simp [PyData.showable, PyData.showableAll]
theorem frD_dict {a z : Str} {o : Option Str} {b : Bool} : (frD a o b z).hasDict = false := by
  unfold frD optD
  cases o <;> simp [PyData.hasDict, PyData.hasDictAll]
theorem frD_deep {a z : Str} {o : Option Str} {b : Bool} : (frD a o b z).depth ≤ 64 := by
  unfold frD optD
  cases o <;> simp [PyData.depth, PyData.depthAll]
theorem six_ok : ∀ b1 b2 b3 b4 b5 b6 : Bool, (sixD b1 b2 b3 b4 b5 b6).showable = true ∧ (sixD b1 b2 b3 b4 b5 b6).hasDict = false ∧ (sixD b1 b2 b3 b4 b5 b6).depth ≤ 64 ∧ (sixD b1 b2 b3 b4 b5 b6).shown.length ≤ sizeLine := by
  intro b1 b2 b3 b4 b5 b6
  refine ⟨by simp [sixD, PyData.showable, PyData.showableAll], by simp [sixD, PyData.hasDict, PyData.hasDictAll], by simp [sixD, PyData.depth, PyData.depthAll], shown_fit ?_ ?_⟩
  · unfold PyData.layable0 sixD
    simp [PyData.canLay0, PyData.canLayAll0, PyData.depth, PyData.depthAll, PyData.weight, PyData.weightAll]
  · simp [sixD, PyData.intsShort, PyData.intsShortAll]
theorem dp_opt {K : PySem.W.Frag} {H : Hp} {o : Option Str} : Dp K H (optV o) (optD o) := by
  cases o with
  | none => exact .non
  | some z => exact .str z
def spTextP (K : PySem.W.Frag) : Sp := fun vs H Q _ => ∃ (q : Addr) (a : Str) (o : Option Str), vs = [.ref q] ∧ SqT K H q [.str a, optV o] ∧ FrOk a o ∧ Q (.str (textF a o)) H
/-- a pair of which a frame can be made -/
structure PairOk (a : Str) (o : Option Str) : Prop where
  f : FrOk a o
  n : ∀ z, o = some z → z ≠ a
def spFR (K : PySem.W.Frag) : Sp := fun vs H Q _ => ∃ (q : Addr) (a : Str) (o : Option Str), vs = [.ref q] ∧ SqT K H q [.str a, optV o] ∧ PairOk a o ∧ ∀ H', Same H H' → Q (.bl true) H'
theorem seqT_same {K : PySem.W.Frag} {H H' : Hp} {a : Addr} {xs : List V} (s : Same H H') (h : SqT K H a xs) : SqT K H' a xs := by
  rcases h with (h | ⟨o, h⟩) | h
  · exact .inl (.inl (s _ _ h))
  · exact .inl (.inr ⟨o, s _ _ h⟩)
  · exact .inr h
theorem seqT_ext {K : PySem.W.Frag} {H H' : Hp} {a : Addr} {xs : List V} (s : LamX.ExtN H H') (h : SqT K H a xs) : SqT K H' a xs := by
  rcases h with (h | ⟨o, h⟩) | h
  · exact .inl (.inl (s _ _ h nofun))
  · exact .inl (.inr ⟨o, s _ _ h nofun⟩)
  · exact .inr h
theorem eq2_refl (a b : Str) : eq2 a b a b = true := by
  unfold eq2
  simp [PyData.eqv, PyData.eqvAll]
theorem u70 {k : Nat} {A : Around} (h : Room k A) : A.units + 70 < cLine := by
  have := h.un
  omega
/-- a list of pairs of which frames can be made -/
def Pairs (K : PySem.W.Frag) (H : Hp) (qs : List Addr) : Prop := ∀ q ∈ qs, ∃ a o, SqT K H q [.str a, optV o] ∧ PairOk a o
theorem Pairs.same {K : PySem.W.Frag} {H H' : Hp} {qs : List Addr} (h : Pairs K H qs) (s : Same H H') : Pairs K H' qs := fun q hq => let ⟨a, o, e, p⟩ := h q hq; ⟨a, o, seqT_same s e, p⟩
theorem seqL_same {K : PySem.W.Frag} {H H' : Hp} {a : Addr} {xs : List V} (s : Same H H') (h : SqL K H a xs) : SqL K H' a xs := by
  rcases h with (h | ⟨o, h⟩) | h
  · exact .inl (.inl (s _ _ h))
  · exact .inl (.inr ⟨o, s _ _ h⟩)
  · exact .inr h
def spOR (K : PySem.W.Frag) : Sp := fun vs H Q _ => ∃ (l : Addr) (qs : List Addr), vs = [.ref l] ∧ SqL K H l (qs.map V.ref) ∧ Pairs K H qs ∧ ∀ H', Same H H' → Q (.bl true) H'
/-- x or '', x a target -/
theorem pe_orKey {X : Cx} {e : Expr} {ta : TE} {p1 p2 : Pos} {j : Nat} (he : PE X e ta) : PE X (.BoolOp .Or [e, .Constant (.str "") j p1] p2) (fun σ H Q => ta σ H fun x H1 => ∃ a o, x = optV o ∧ FrOk a o ∧ Q (.str (kOf o)) H1) := by
  constructor
  intro pins s σ H Q I h
  refine (pe_orT (pe_up he) (pe_one pe_str)).run pins s σ H Q I ⟨_, h, ?_⟩
  rintro v H1 ⟨a, o, rfl, f, q⟩
  cases o with
  | none => exact ⟨false, rfl, iteF q⟩
  | some z =>
    have h1 := (f.o z rfl).lo
    refine ⟨true, ⟨(f.o z rfl).fit, ?_⟩, iteT q⟩
    simp
    omega
theorem six_dp {K : PySem.W.Frag} {H : Hp} {l : Addr} {b1 b2 b3 b4 b5 b6 : Bool} (h : H l = some (.lst [.bl b1, .bl b2, .bl b3, .bl b4, .bl b5, .bl b6])) : Dp K H (.ref l) (sixD b1 b2 b3 b4 b5 b6) :=
  .lst (SqL.of h) (.cons (.bl _) (.cons (.bl _) (.cons (.bl _) (.cons (.bl _) (.cons (.bl _) (.cons (.bl _) .nil))))))
/-- a comprehension that leaves all out, whose tests may make things -/
theorem lc_none {J : It} {n : Nat} {G : Hp → Prop} {Y : Nat → Hp → V → Hp → Prop} (w : Walk J n G Y) {g : TG} {tt : TT} {te : TE} {vs : List Nat} {σ : L2.St} {H1 : Hp} {D : Addr} {Qd : Hp → Prop} (xs : List V)
    (hn : n = xs.length) (hY : ∀ i H x H', i < n → Y i H x H' → H' = H ∧ xs[i]? = some x) (hD : H1 D = none) (hG : ∀ H', Same H1 H' → G H')
    (hs : ∀ x ∈ xs, ∀ H', Same H1 H' → ∀ (Kt : V → Hp → Prop) (Kf : Hp → Prop), (∀ H'', Same H' H'' → Kf H'') →
      g x (wipe σ vs) H' fun σ2 H2 => wipe σ2 vs = wipe σ vs ∧ tt σ2 H2 fun b H3 => if b = true then te σ2 H3 Kt else Kf H3)
    (hd : ∀ H', Same (upd H1 D (.lst [])) H' → Qd H') :
    ∃ W : Nat → Nat → Hp → Prop, (∃ m, W 0 m (upd H1 D (.lst []))) ∧ ∀ i m H, W i m H →
      (J.stop i H ∧ Qd H) ∨ (J.go i H ∧ ∃ Nx : Hp → Prop, (∀ H', Nx H' → ∃ m', m' < m ∧ W (i + 1) m' H') ∧ ∀ x H', J.yld i H x H' → g x (wipe σ vs) H' fun σ2 H2 => wipe σ2 vs = wipe σ vs ∧ tt σ2 H2 fun b H3 =>
        if b = true then te σ2 H3 fun y H4 => ∃ acc, H4 D = some (.lst acc) ∧ acc.length < sizeLine ∧ Nx (upd H4 D (.lst (acc ++ [y]))) else Nx H3) := by
  refine lc_it w (fun i H => Same (upd H1 D (.lst [])) H) (Same.refl _) (fun i H _ e => hG _ ((same_new hD).trans e)) ?_ ?_
  · rintro i x H H' hi s y
    obtain ⟨rfl, hx⟩ := hY i _ x H' hi y
    exact hs x (List.mem_of_getElem? hx) _ ((same_new hD).trans s) _ _ fun H'' s2 => s.trans s2
  · intro H s
    exact hd H s
/-- tuples of which frames can be made -/
def Tups (H : Hp) (qs : List Addr) : Prop := ∀ q ∈ qs, ∃ a o, H q = some (.tup [.str a, optV o]) ∧ PairOk a o
theorem Tups.pairs {K : PySem.W.Frag} {H : Hp} {qs : List Addr} (h : Tups H qs) : Pairs K H qs := fun q hq => let ⟨a, o, e, p⟩ := h q hq; ⟨a, o, SqT.of e, p⟩
theorem Tups.same {H H' : Hp} {qs : List Addr} (h : Tups H qs) (s : Same H H') : Tups H' qs := fun q hq => let ⟨a, o, e, p⟩ := h q hq; ⟨a, o, s _ _ e, p⟩
theorem Tups.ext {H H' : Hp} {p c : Addr} {ms : List Int} {t : Nat} {z : Int} {qs : List Addr} (h : Tups H qs) (P : Pen H p c ms t z) (s : ButT p H H') : Tups H' qs := fun q hq => let ⟨a, o, e, k⟩ := h q hq; ⟨a, o, s _ _ (ne_of e P.a nofun) e nofun, k⟩
theorem Tups.but {H H' : Hp} {p c : Addr} {ms : List Int} {t : Nat} {z : Int} {qs : List Addr} (h : Tups H qs) (P : Pen H p c ms t z) (s : But p H H') : Tups H' qs := h.ext P (ButT.of s)
theorem Tups.grow {H : Hp} {l q : Addr} {xs ys : List V} {qs : List Addr} {a : Str} {o : Option Str} (h : Tups H qs) (hl : H l = some (.lst xs)) (hq : H q = some (.tup [.str a, optV o])) (pk : PairOk a o) : Tups (upd H l (.lst ys)) (qs ++ [q]) := by
  intro r hr
  rcases List.mem_append.mp hr with hr | hr
  · obtain ⟨a, o, e, k⟩ := h r hr
    exact ⟨a, o, by rw [upd_ne (ne_of e hl nofun)]; exact e, k⟩
  · simp at hr
    subst hr
    exact ⟨a, o, by rw [upd_ne (ne_of hq hl nofun)]; exact hq, pk⟩
/-! ### reading texts of frames -/
/-- what an error of BadText(0, n) keeps -/
def btF (n : Int) : List (Str × V) := [("word", .int n), ("line", .int 0)]
def spWords (K : PySem.W.Frag) : Sp := fun vs H Q E => ∃ v : V, vs = [v] ∧
  ((∃ z : Str, v = .str z ∧ z.length + 2 ≤ sizeLine ∧ ∀ l, H l = none → Q (.ref l) (upd H l (.lst ((Txt.split z " ").map V.str)))) ∨
   ∃ t, TyX K H v t ∧ PySem.W.kitOne K t (.type "str") = some false ∧ ∀ d H', Same H H' → H d = none → H' d = some (.xd (btF 0)) → E (.ref (He.ga K "BadText")) (some d) H')
/-- the hosts that stand at i in a row of words: the place of the first wrong word, or the two -/
def hostsT (ws : List Str) (i : Nat) (b : Str) : Sum Nat (Str × Option Str) := match ws[i]? with
  | none => .inl i
  | some w => if nmB w = false then .inl i else match ws[i + 1]? with
    | none => .inl (i + 1)
    | some y => if Txt.removesuffix y b = "*" then .inr (w, none) else if nmB (Txt.removesuffix y b) = false ∨ Txt.removesuffix y b = w then .inl (i + 1) else .inr (w, some (Txt.removesuffix y b))
theorem rs_len (a b : Str) : (Txt.removesuffix a b).length ≤ a.length := by
  unfold Txt.removesuffix
  split
  · unfold Txt.affix
    simp only
    split
    · exact Nat.le_refl _
    · show (Array.extract _ _ _).size ≤ a.cps.size
      rw [Array.size_extract]
      omega
  · exact Nat.le_refl _
def spTold (K : PySem.W.Frag) : Sp := fun vs H Q E => ∃ (l : Addr) (ws : List Str) (i : Nat) (b : Str), vs = [.ref l, .int i, .str b] ∧ SqL K H l (ws.map V.str) ∧ i < 1000000 ∧ (∀ w ∈ ws, w.length ≤ sizeLine) ∧
  (∀ n, hostsT ws i b = .inl n → ∀ d H', Same H H' → H d = none → H' d = some (.xd (btF n)) → E (.ref (He.ga K "BadText")) (some d) H') ∧
  ∀ a o, hostsT ws i b = .inr (a, o) → ∀ t H', Same H H' → H t = none → H' t = some (.tup [.str a, optV o]) → Q (.ref t) H'
end Z
namespace Z
open PySem PySem.Spec PyProof.Rows L2
def top (i : Nat) : Stmt := PySem.Challenge.pw_seenframes_k03_frames_made.main.body.getD i (.Pass ⟨0, 0, 0, 0⟩)
def dd (x : Str) (i : Nat) (dfl : List He.Dv := []) : He.DefD := ⟨(x, none), x, x, defArgs (top i), defBody (top i), defScope (top i), dfl, []⟩
def dm (c m q : Str) (i j : Nat) (dfl : List He.Dv := []) : He.DefD := ⟨(c, some m), m, q, defArgs (inClass (top i) j), defBody (inClass (top i) j), defScope (inClass (top i) j), dfl, []⟩
def gd (c m q : Str) (i j : Nat) (cm : Bool := false) : GetD := ⟨c, m, q, defArgs (inClass (top i) j), defBody (inClass (top i) j), defScope (inClass (top i) j), cm⟩
def fn : List He.DefD := [dd "_law_pen" 13, dd "_law_draw" 14, dd "_law_pick" 15, dd "_law_name" 16, dd "_law_names" 17, dd "is_name" 6, dm "BadFrame" "__init__" "BadFrame.__init__" 3 0, dm "Frame" "__init__" "Frame.__init__" 8 0 [.non], dd "frame_key" 9, dm "Frame" "__lt__" "Frame.__lt__" 8 3, dm "Frame" "__le__" "Frame.__le__" 8 4, dm "Frame" "__gt__" "Frame.__gt__" 8 5, dm "Frame" "__ge__" "Frame.__ge__" 8 6, dm "Frame" "__eq__" "Frame.__eq__" 8 2, dm "Frame" "__str__" "Frame.__str__" 8 7, dd "_law_odd" 18, dd "_law_heard" 19, dd "_law_refused_right" 23, dd "_law_text" 20, dd "_law_frame_right" 21, dd "_law_order_right" 22, dd "law" 24]
def fa : List He.Fa := [.free "list", .glo "_law_pen", .free "int", .free "len", .free "abs", .glo "_law_draw", .glo "_law_pick", .free "range", .glo "_law_name", .glo "_law_names", .free "str", .free "isinstance", .glo "is_name", .glo "BadFrame", .glo "SeenError", .glo "Frame", .free "repr", .noat "BadFrame" "part", .exm "BadFrame" "SeenError" true, .cls "Frame", .mkr "Frame", .noat "Frame" "sender", .noat "Frame" "target", .meth "Frame" "__eq__", .meth "Frame" "__lt__", .meth "Frame" "__le__", .meth "Frame" "__gt__", .meth "Frame" "__ge__", .meth "Frame" "__str__", .glo "frame_key", .glo "_law_odd", .glo "_law_heard", .glo "_law_refused_right", .glo "_law_text", .glo "_law_frame_right", .glo "_law_order_right", .glo "law"]
def tf : List He.Defn := [("_law_refused_right", none)]
def gs : List GetD := [gd "Frame" "is_to_all" "Frame.is_to_all" 8 1]
def exs : List (PySem.W.Frag → Bool) := [errB "BadFrame", clsB "Frame"]
structure Ev (K : PySem.W.Frag) (mg : Str → Option Value) (base : Heap) : Prop where
  c : He.SaysD fa fn K
  X : K.In base
  G : base.Ns mainGlobals mg
  m : (exs.all fun f => f K) = true
  g : ∀ (i : Nat) (d : GetD), gs[i]? = some d → (d.cm = false → PropOf K (He.ga K d.c) d.f (prA K d.c d.f) (geA K d.c d.f)) ∧ (d.cm = true → CmOf K (He.ga K d.c) d.f (prA K d.c d.f) (geA K d.c d.f)) ∧ ∃ fd, FunD K d.f d.qual d.params d.body d.scope [] [] (geA K d.c d.f) fd
  tb : ∀ p ∈ tf.map (He.cT K), LamX.TabB base mg p.1 p.2
section
variable {K : PySem.W.Frag} {mg : Str → Option Value} {base : Heap}
theorem err_BadFrame (e : Ev K mg base) : ErrF K "BadFrame" := errB_ok (List.all_eq_true.mp e.m _ (List.mem_of_getElem? (l := exs) (i := 0) rfl))
theorem own_Frame (e : Ev K mg base) : ClsF K "Frame" := clsB_ok (List.all_eq_true.mp e.m _ (List.mem_of_getElem? (l := exs) (i := 1) rfl))
theorem f_list (e : Ev K mg base) : mg "list" = none := He.free_ok e.X e.G (e.c.fact 0 rfl)
theorem g_law_pen (e : Ev K mg base) : mg "_law_pen" = some (.ref (He.ga K "_law_pen")) := He.glo_ok e.X e.G (e.c.fact 1 rfl)
theorem f_int (e : Ev K mg base) : mg "int" = none := He.free_ok e.X e.G (e.c.fact 2 rfl)
theorem f_len (e : Ev K mg base) : mg "len" = none := He.free_ok e.X e.G (e.c.fact 3 rfl)
theorem f_abs (e : Ev K mg base) : mg "abs" = none := He.free_ok e.X e.G (e.c.fact 4 rfl)
theorem g_law_draw (e : Ev K mg base) : mg "_law_draw" = some (.ref (He.ga K "_law_draw")) := He.glo_ok e.X e.G (e.c.fact 5 rfl)
theorem g_law_pick (e : Ev K mg base) : mg "_law_pick" = some (.ref (He.ga K "_law_pick")) := He.glo_ok e.X e.G (e.c.fact 6 rfl)
theorem f_range (e : Ev K mg base) : mg "range" = none := He.free_ok e.X e.G (e.c.fact 7 rfl)
theorem g_law_name (e : Ev K mg base) : mg "_law_name" = some (.ref (He.ga K "_law_name")) := He.glo_ok e.X e.G (e.c.fact 8 rfl)
theorem g_law_names (e : Ev K mg base) : mg "_law_names" = some (.ref (He.ga K "_law_names")) := He.glo_ok e.X e.G (e.c.fact 9 rfl)
theorem f_str (e : Ev K mg base) : mg "str" = none := He.free_ok e.X e.G (e.c.fact 10 rfl)
theorem f_isinstance (e : Ev K mg base) : mg "isinstance" = none := He.free_ok e.X e.G (e.c.fact 11 rfl)
theorem g_is_name (e : Ev K mg base) : mg "is_name" = some (.ref (He.ga K "is_name")) := He.glo_ok e.X e.G (e.c.fact 12 rfl)
theorem g_BadFrame (e : Ev K mg base) : mg "BadFrame" = some (.ref (He.ga K "BadFrame")) := He.glo_ok e.X e.G (e.c.fact 13 rfl)
theorem g_SeenError (e : Ev K mg base) : mg "SeenError" = some (.ref (He.ga K "SeenError")) := He.glo_ok e.X e.G (e.c.fact 14 rfl)
theorem g_Frame (e : Ev K mg base) : mg "Frame" = some (.ref (He.ga K "Frame")) := He.glo_ok e.X e.G (e.c.fact 15 rfl)
theorem f_repr (e : Ev K mg base) : mg "repr" = none := He.free_ok e.X e.G (e.c.fact 16 rfl)
theorem no_BadFrame_part (e : Ev K mg base) : NoAttr K (He.ga K "BadFrame") "part" := He.noat_ok (e.c.fact 17 rfl)
theorem exm_BadFrame_SeenError (e : Ev K mg base) : PySem.W.exmOne K (.ref (He.ga K "BadFrame")) (.ref (He.ga K "SeenError")) = some true := He.exm_ok (e.c.fact 18 rfl)
theorem cls_Frame (e : Ev K mg base) : Cls K (He.ga K "Frame") := He.cls_ok (e.c.fact 19 rfl)
theorem mk_Frame (e : Ev K mg base) : Mk K (He.ga K "Frame") (He.ma K (He.ga K "Frame") "__init__") := He.mkr_ok (e.c.fact 20 rfl)
theorem no_Frame_sender (e : Ev K mg base) : NoAttr K (He.ga K "Frame") "sender" := He.noat_ok (e.c.fact 21 rfl)
theorem no_Frame_target (e : Ev K mg base) : NoAttr K (He.ga K "Frame") "target" := He.noat_ok (e.c.fact 22 rfl)
theorem me_Frame___eq__ (e : Ev K mg base) : Meth K (He.ga K "Frame") "__eq__" (He.ma K (He.ga K "Frame") "__eq__") := He.meth_ok (e.c.fact 23 rfl)
theorem me_Frame___lt__ (e : Ev K mg base) : Meth K (He.ga K "Frame") "__lt__" (He.ma K (He.ga K "Frame") "__lt__") := He.meth_ok (e.c.fact 24 rfl)
theorem me_Frame___le__ (e : Ev K mg base) : Meth K (He.ga K "Frame") "__le__" (He.ma K (He.ga K "Frame") "__le__") := He.meth_ok (e.c.fact 25 rfl)
theorem me_Frame___gt__ (e : Ev K mg base) : Meth K (He.ga K "Frame") "__gt__" (He.ma K (He.ga K "Frame") "__gt__") := He.meth_ok (e.c.fact 26 rfl)
theorem me_Frame___ge__ (e : Ev K mg base) : Meth K (He.ga K "Frame") "__ge__" (He.ma K (He.ga K "Frame") "__ge__") := He.meth_ok (e.c.fact 27 rfl)
theorem me_Frame___str__ (e : Ev K mg base) : Meth K (He.ga K "Frame") "__str__" (He.ma K (He.ga K "Frame") "__str__") := He.meth_ok (e.c.fact 28 rfl)
theorem g_frame_key (e : Ev K mg base) : mg "frame_key" = some (.ref (He.ga K "frame_key")) := He.glo_ok e.X e.G (e.c.fact 29 rfl)
theorem g_law_odd (e : Ev K mg base) : mg "_law_odd" = some (.ref (He.ga K "_law_odd")) := He.glo_ok e.X e.G (e.c.fact 30 rfl)
theorem g_law_heard (e : Ev K mg base) : mg "_law_heard" = some (.ref (He.ga K "_law_heard")) := He.glo_ok e.X e.G (e.c.fact 31 rfl)
theorem g_law_refused_right (e : Ev K mg base) : mg "_law_refused_right" = some (.ref (He.ga K "_law_refused_right")) := He.glo_ok e.X e.G (e.c.fact 32 rfl)
theorem g_law_text (e : Ev K mg base) : mg "_law_text" = some (.ref (He.ga K "_law_text")) := He.glo_ok e.X e.G (e.c.fact 33 rfl)
theorem g_law_frame_right (e : Ev K mg base) : mg "_law_frame_right" = some (.ref (He.ga K "_law_frame_right")) := He.glo_ok e.X e.G (e.c.fact 34 rfl)
theorem g_law_order_right (e : Ev K mg base) : mg "_law_order_right" = some (.ref (He.ga K "_law_order_right")) := He.glo_ok e.X e.G (e.c.fact 35 rfl)
theorem g_law (e : Ev K mg base) : mg "law" = some (.ref (He.ga K "law")) := He.glo_ok e.X e.G (e.c.fact 36 rfl)
end
section
variable {P : Program} {w : World} {K : PySem.W.Frag} {mg : Str → Option Value} {base : Heap}
theorem sc_law_pen : FnScope ["script"] ["script"] (defScope (top 13)) := ⟨rfl, rfl, rfl, by decide +kernel, rfl, by decide +kernel, by decide +kernel⟩
theorem ok_law_pen {fd : FuncData} (F : FunD K "_law_pen" "_law_pen" (defArgs (top 13)) (defBody (top 13)) (defScope (top 13)) [] [] (He.ga K "_law_pen") fd) (e : Ev K mg base) : FnOk P w K mg base CX0 1 (He.ga K "_law_pen") fd ["script"] (spPen K) := by
  refine F.ok sc_law_pen (fun vs H Q E h => ?_) (fun cdv A outer s H vs Q E hr h => ?_)
  · obtain ⟨_, _, rfl, _⟩ := h
    rfl
  · skip
    refine ⟨_, PSs.nox ((pss_one (ps_ret (pe_lst (pa_cons (pe_callTy (kcall_list_of (K := K)) (by rfl) (f_list e) (by decide +kernel) (pa_cons (pe_slice (ksl_list (K := K)) (pv 0) po_none (po_some pe_int)) pa_nil)) (pa_cons pe_int (pa_cons pe_int pa_nil))))))), ?_⟩
    obtain ⟨a, ns, rfl, hS, hl, k⟩ := h
    refine ⟨_, rfl, 63, rfl, a, _, rfl, hS, fun q hq => ?_⟩
    refine ⟨q, _, rfl, .inl (SqL.of upd_same), fun c hc => ?_⟩
    refine ⟨by show 3 ≤ sizeLine; decide, fun p hp => ?_⟩
    have n1 : c ≠ q := fun e => by rw [e, upd_same] at hc; cases hc
    have hc0 : H c = none := by rw [upd_ne n1] at hc; exact hc
    have n2 : p ≠ c := fun e => by rw [e, upd_same] at hp; cases hp
    rw [upd_ne n2] at hp
    have n3 : p ≠ q := fun e => by rw [e, upd_same] at hp; cases hp
    rw [upd_ne n3] at hp
    have e : ∃ ms : List Int, cutV (ns.map V.int) none (some 63) = ms.map V.int ∧ ms.length ≤ 63 := by
      unfold cutV
      refine ⟨(ns.drop _).take _, by rw [List.map_take, List.map_drop], ?_⟩
      rw [List.length_take, List.length_drop]
      omega
    obtain ⟨ms, e1, e2⟩ := e
    refine k _ p c ms (fun b o h => ?_) hp hc0 n2 e2 ⟨upd_same, ?_⟩
    · rw [upd_ne (ne_of_none h hp), upd_ne (ne_of_none h hc0), upd_ne (ne_of_none h hq)]
      exact h
    · rw [upd_ne n2.symm, upd_same, e1]
theorem d_law_pen (e : Ev K mg base) : DefN P w K mg base 1 "_law_pen" ["script"] (spPen K) := by
  obtain ⟨fd, F⟩ := e.c.def_ 0 (d := dd "_law_pen" 13) rfl
  exact ⟨⟨fd, ok_law_pen F e, FunD.bindsN F fun _ _ _ _ _ _ us hl => match us, hl with | [_], _ => rfl⟩, F.kp, He.glo_ok e.X e.G (e.c.fact 1 rfl)⟩
theorem sc_law_draw : FnScope ["pen", "many", "digit", "turn", "cell", "great", "mixed"] ["pen", "many"] (defScope (top 14)) := ⟨rfl, rfl, rfl, by decide +kernel, rfl, by decide +kernel, by decide +kernel⟩
theorem ok_law_draw {fd : FuncData} (F : FunD K "_law_draw" "_law_draw" (defArgs (top 14)) (defBody (top 14)) (defScope (top 14)) [] [] (He.ga K "_law_draw") fd) (e : Ev K mg base) : FnOk P w K mg base CX0 1 (He.ga K "_law_draw") fd ["pen", "many"] (spDraw) := by
  refine F.ok sc_law_draw (fun vs H Q E h => ?_) (fun cdv A outer s H vs Q E hr h => ?_)
  · obtain ⟨_, _, _, _, _, _, rfl, _⟩ := h
    rfl
  · skip
    refine ⟨_, PSs.nox ((pss_cons (ps_if (pt_cmpR op_gt (pe_ix (kix_list (K := K)) (pv 0) pe_int (fun _ _ => rfl)) pe_int (nomark _))
      (pss_cons (ps_set (i := 2) sc_law_draw.nd rfl (Or.inl rfl) (pe_op op_modN (pe_callTy call_int1 (by rfl) (f_int e) (by decide +kernel) (pa_cons (pe_ix (kix_list (K := K)) (pv 0) pe_int (fun _ _ => rfl)) pa_nil)) (pv 1)))
      (pss_cons (ps_asg (pe_op op_fdivN (pe_callTy call_int1 (by rfl) (f_int e) (by decide +kernel) (pa_cons (pe_ix (kix_list (K := K)) (pv 0) pe_int (fun _ _ => rfl)) pa_nil)) (pv 1)) (pg_sub (pv 0) pe_int set_list))
      (pss_one (ps_ret (pv 2))))) pss_nil)
      (pss_cons (ps_set (i := 3) sc_law_draw.nd rfl (Or.inl rfl) (pe_ix (kix_list (K := K)) (pv 0) pe_int (fun _ _ => rfl)))
      (pss_cons (ps_asg (pe_op op_add (pv 3) pe_int) (pg_sub (pv 0) pe_int set_list))
      (pss_cons (ps_set (i := 4) sc_law_draw.nd rfl (Or.inl rfl) (pe_op op_add (pe_op op_mul pe_int (pv 3)) pe_int))
      (C8.pss_cut (ps_if (pt_cmpR (kop_neD (K := K) hr.units) (pe_ix (kix_list (K := K)) (pv 0) pe_int (fun _ _ => rfl)) (pe_lst pa_nil) (nomark _))
      (pss_one (ps_set (i := 4) sc_law_draw.nd rfl (Or.inl rfl) (pe_ix (kix_list (K := K)) (pe_ix (kix_list (K := K)) (pv 0) pe_int (fun _ _ => rfl)) (pe_op op_modN (pe_callTy call_int1 (by rfl) (f_int e) (by decide +kernel) (pa_cons (pv 3) pa_nil)) (pe_callB (kcall_len_seq (K := K)) (by rfl) (f_len e) (by decide +kernel) (pa_cons (pe_ix (kix_list (K := K)) (pv 0) pe_int (fun _ _ => rfl)) pa_nil))) (fun _ _ => rfl)))) pss_nil)
      (C8.pss_cut (ps_if (PW.pt (pw_and (pt_cmpR op_lt (pv 3) (pe_callB (kcall_len_seq (K := K)) (by rfl) (f_len e) (by decide +kernel) (pa_cons (pe_ix (kix_list (K := K)) (pv 0) pe_int (fun _ _ => rfl)) pa_nil)) (nomark _)) (pw_and1 (pt_cmpR op_ge (pe_callB call_abs (by rfl) (f_abs e) (by decide +kernel) (pa_cons (pv 4) pa_nil)) (pe_op op_pow pe_int pe_int) (nomark _)))))
      (pss_cons (ps_set (i := 5) sc_law_draw.nd rfl (Or.inl rfl) (pe_op op_add (pe_op op_mul pe_int (pe_op op_sub (pe_callB call_abs (by rfl) (f_abs e) (by decide +kernel) (pa_cons (pv 4) pa_nil)) (pe_op op_pow pe_int pe_int))) (pe_callTy call_int1 (by rfl) (f_int e) (by decide +kernel) (pa_cons (pe_cmpR op_lt (pv 4) pe_int (nomark _)) pa_nil))))
      (pss_cons (ps_asg (pe_op op_fdivN (pe_callTy call_int1 (by rfl) (f_int e) (by decide +kernel) (pa_cons (pv 5) pa_nil)) (pv 1)) (pg_sub (pv 0) pe_int set_list))
      (pss_one (ps_ret (pe_op op_modN (pe_callTy call_int1 (by rfl) (f_int e) (by decide +kernel) (pa_cons (pv 5) pa_nil)) (pv 1)))))) pss_nil)
      (pss_cons (ps_set (i := 6) sc_law_draw.nd rfl (Or.inl rfl) (pe_op op_modN (pe_callTy call_int1 (by rfl) (f_int e) (by decide +kernel) (pa_cons (pe_op op_pow (pe_op op_add (pe_op op_add (pe_op op_modN (pe_callTy call_int1 (by rfl) (f_int e) (by decide +kernel) (pa_cons (pv 4) pa_nil)) pe_int) (pe_op op_mul pe_int (pv 3))) pe_int) pe_int) pa_nil)) pe_int))
      (pss_cons (ps_set (i := 6) sc_law_draw.nd rfl (Or.inl rfl) (pe_op op_modN (pe_callTy call_int1 (by rfl) (f_int e) (by decide +kernel) (pa_cons (pe_op op_pow (pe_op op_add (pe_op op_add (pe_op op_mul (pv 6) (pe_op op_add (pe_op op_mul pe_int (pv 3)) pe_int)) (pe_op op_mul (pe_op op_mul pe_int (pv 3)) (pv 3))) pe_int) pe_int) pa_nil)) pe_int))
      (pss_one (ps_ret (pe_op op_modN (pe_callTy call_int1 (by rfl) (f_int e) (by decide +kernel) (pa_cons (pe_op op_fdivN (pv 6) pe_int) pa_nil)) (pv 1))))))))))))), ?_⟩
    obtain ⟨p, c, ms, t, z, m, rfl, hP, ht, hm, hm2, k⟩ := h
    have i0 : atI [V.ref c, V.int t, V.int z] 0 = some (.ref c) := rfl
    have i1 : atI [V.ref c, V.int t, V.int z] 1 = some (.int t) := rfl
    have i2 : atI [V.ref c, V.int t, V.int z] 2 = some (.int z) := rfl
    -- pen[2] > 0
    refine ⟨_, rfl, p, _, _, _, rfl, rfl, SqL.of hP.a, i2, _, _, rfl, rfl, _, rfl, ?_⟩
    have npc : p ≠ c := ne_of hP.a hP.b (by intro e; injection e with e; cases ms with | nil => cases e | cons x r => cases e)
    refine ite2 (fun _ => ?_) fun _ => ?_
    · refine ⟨_, rfl, p, _, _, _, rfl, rfl, SqL.of hP.a, i2, .inl ⟨_, rfl, ?_⟩⟩
      refine ⟨_, rfl, _, _, rfl, rfl, by omega, ?_⟩
      refine ⟨_, rfl, p, _, _, _, rfl, rfl, SqL.of hP.a, i2, .inl ⟨_, rfl, ?_⟩⟩
      refine ⟨_, rfl, _, _, rfl, rfl, ⟨by omega, by omega⟩, ?_⟩
      refine ⟨_, rfl, p, _, _, 2, rfl, rfl, hP.a, rfl, ?_⟩
      refine ⟨_, rfl, ?_⟩
      obtain ⟨a1, a2⟩ := mod_lo z hm
      exact k _ _ t _ a1 a2 (fun b o n h => by rw [upd_ne n]; exact h) ⟨upd_same, by rw [upd_ne npc.symm]; exact hP.b⟩ (Nat.le_succ _)
    · -- turn = pen[1]; pen[1] = turn + 1; cell = ..
      refine ⟨_, rfl, p, _, _, _, rfl, rfl, SqL.of hP.a, i1, ?_⟩
      refine ⟨_, rfl, _, _, rfl, rfl, _, rfl, p, _, _, 1, rfl, rfl, hP.a, rfl, ?_⟩
      refine ⟨_, rfl, _, _, rfl, rfl, .inl ⟨by decide, by decide⟩, _, _, rfl, rfl, ?_⟩
      -- the rows behind the if: once, for any cell
      have hb1 : (upd H p (.lst [.ref c, .int ((t : Int) + 1), .int z])) c = some (.lst (ms.map .int)) := by rw [upd_ne npc.symm]; exact hP.b
      refine ⟨fun σ' H' => ∃ cell : Int, σ' = [some (.ref p), some (.int m), none, some (.int t), some (.int cell), none, none] ∧ But p H H' ∧ Pen H' p c ms (t + 1) z, ?_, ?_⟩
      · refine ⟨_, rfl, p, _, _, .ref c, rfl, rfl, SqL.of upd_same, rfl, ?_⟩
        refine ⟨by show 0 ≤ sizeLine; decide, fun q hq => ?_⟩
        have hpq : p ≠ q := ne_of_none upd_same hq
        have hcq : c ≠ q := ne_of_none hb1 hq
        have P2 : Pen (upd (upd H p (.lst [.ref c, .int ((t : Int) + 1), .int z])) q (.lst [])) p c ms (t + 1) z := ⟨by rw [upd_ne hpq, upd_same]; rfl, by rw [upd_ne hcq]; exact hb1⟩
        have B2 : But p H (upd (upd H p (.lst [.ref c, .int ((t : Int) + 1), .int z])) q (.lst [])) := fun b o n h => by
          have h1 : (upd H p (.lst [.ref c, .int ((t : Int) + 1), .int z])) b = some o := by rw [upd_ne n]; exact h
          rw [upd_ne (ne_of_none h1 hq)]
          exact h1
        refine ⟨.list (ms.map .int), .list [], .lst (SqL.of P2.b) (dp_ints ms), .lst (SqL.of upd_same) .nil, shaped_ints ms, by decide +kernel, _, rfl, ?_⟩
        rw [eqv_nil]
        cases ems : ms.isEmpty with
        | true => exact iteF ⟨_, rfl, B2, P2⟩
        | false =>
          refine iteT ?_
          have hl0 : 0 < ms.length := by cases ms with | nil => cases ems | cons x r => exact Nat.succ_pos _
          have hl1 : (0 : Int) < ((ms.map V.int).length : Int) := by rw [List.length_map]; omega
          have hl2 := mod_lo (t : Int) (m := ((ms.map V.int).length : Int)) (by omega)
          have hix : ∃ y, atI (ms.map V.int) ((t : Int).fmod ((ms.map V.int).length : Int)) = some (V.int y) := by
            obtain ⟨j, hj⟩ : ∃ j : Nat, (t : Int).fmod ((ms.map V.int).length : Int) = (j : Int) := ⟨_, (Int.toNat_of_nonneg hl2.1).symm⟩
            rw [hj]
            have hjl : j < ms.length := by
              have e9 : (ms.map V.int).length = ms.length := List.length_map ..
              omega
            exact ⟨ms[j], atI_nat (by rw [List.getElem?_map, List.getElem?_eq_getElem hjl]; rfl)⟩
          obtain ⟨y, hy⟩ := hix
          refine ⟨_, rfl, p, _, _, .ref c, rfl, rfl, SqL.of P2.a, rfl, ?_⟩
          refine ⟨_, rfl, .inl ⟨_, rfl, ?_⟩⟩
          refine ⟨_, rfl, p, _, _, .ref c, rfl, rfl, SqL.of P2.a, rfl, ?_⟩
          refine ⟨c, _, rfl, .inl (SqL.of P2.b), ?_⟩
          refine ⟨_, _, rfl, rfl, by omega, ?_⟩
          refine ⟨c, _, _, _, rfl, rfl, SqL.of P2.b, hy, ?_⟩
          exact ⟨y, rfl, B2, P2⟩
      · rintro σ' H' ⟨cell, rfl, B2, P2⟩
        refine ⟨fun σ'' H'' => σ'' = [some (.ref p), some (.int m), none, some (.int t), some (.int cell), none, none] ∧ H'' = H', ?_, ?_⟩
        · refine ⟨_, rfl, _, rfl, p, _, _, .ref c, rfl, rfl, SqL.of P2.a, rfl, c, _, rfl, .inl (SqL.of P2.b), _, _, rfl, rfl, _, rfl, ?_⟩
          refine ite2 (fun h1 => ?_) fun h1 => iteF ⟨rfl, rfl⟩
          refine ⟨_, rfl, _, rfl, _, _, rfl, rfl, ⟨by decide, by decide, by decide⟩, _, _, rfl, rfl, _, rfl, ?_⟩
          refine ite2 (fun h2 => ?_) fun h2 => ⟨rfl, rfl⟩
          refine ⟨_, rfl, _, rfl, _, _, rfl, rfl, ⟨by decide, by decide, by decide⟩, _, _, rfl, rfl, ?_⟩
          refine ⟨_, _, rfl, rfl, .inl ⟨by decide, by decide⟩, _, rfl, _, _, rfl, rfl, .inr ⟨_, rfl, ?_⟩⟩
          refine ⟨_, _, rfl, rfl, ?_⟩
          refine ⟨_, rfl, .inl ⟨_, rfl, _, rfl, _, _, rfl, rfl, ⟨by omega, by omega⟩, ?_⟩⟩
          refine ⟨_, rfl, p, _, _, 2, rfl, rfl, P2.a, rfl, ?_⟩
          refine ⟨_, rfl, .inl ⟨_, rfl, _, rfl, _, _, rfl, rfl, by omega, ?_⟩⟩
          obtain ⟨a1, a2⟩ := mod_lo (2 * ((if cell < 0 then -cell else cell) - 10 ^ (18 : Int).toNat) + (if decide (cell < 0) = true then 1 else 0)) hm
          exact k _ _ (t + 1) _ a1 a2 (fun b o n h => by rw [upd_ne n]; exact B2 b o n h) ⟨upd_same, by rw [upd_ne npc.symm]; exact P2.b⟩ (Nat.le_refl _)
        · rintro σ'' H'' ⟨rfl, rfl⟩
          have m1 := mod_lo cell (m := 2147483579) (by decide)
          refine ⟨_, rfl, .inl ⟨_, rfl, _, _, rfl, rfl, (by show (_ : Int) ≠ 0; decide), ?_⟩⟩
          refine ⟨_, rfl, _, _, rfl, rfl, .inl ⟨by decide, by decide⟩, _, _, rfl, rfl, _, _, rfl, rfl, ?_⟩
          refine ⟨_, _, rfl, rfl, ⟨by decide, by decide, ?_⟩, .inl ⟨_, rfl, _, _, rfl, rfl, (by show (_ : Int) ≠ 0; decide), ?_⟩⟩
          · show (cell.fmod 2147483579 + 53392 * (t : Int) + 250).natAbs < 2 ^ 64
            omega
          generalize hmx : ((cell.fmod 2147483579 + 53392 * (t : Int) + 250) ^ (5 : Int).toNat) = big
          have m2 := mod_lo big (m := 2147483563) (by decide)
          generalize hmy : big.fmod 2147483563 = b2 at m2
          have hmul : 0 ≤ b2 * (2 * (t : Int) + 173) ∧ b2 * (2 * (t : Int) + 173) ≤ 2147483563 * (2000000 + 173) := ⟨Int.mul_nonneg m2.1 (by omega), Int.mul_le_mul (by omega) (by omega) (by omega) (by decide)⟩
          have hsq : 0 ≤ 61424 * (t : Int) * (t : Int) ∧ 61424 * (t : Int) * (t : Int) ≤ 61424 * 1000000 * 1000000 := ⟨Int.mul_nonneg (by omega) (by omega), Int.mul_le_mul (by omega) (by omega) (by omega) (by decide)⟩
          refine ⟨_, rfl, _, rfl, _, _, rfl, rfl, .inl ⟨by decide, by decide⟩, _, _, rfl, rfl, _, _, rfl, rfl, .inl ⟨?_, ?_⟩, ?_⟩
          · show -(2 ^ 64) < big.fmod 2147483563
            omega
          · show big.fmod 2147483563 < 2 ^ 64
            omega
          refine ⟨_, rfl, _, _, rfl, rfl, .inl ⟨by decide, by decide⟩, _, rfl, _, _, rfl, rfl, .inl ⟨?_, ?_⟩, _, _, rfl, rfl, _, _, rfl, rfl, ?_⟩
          · show -(2 ^ 64) < 61424 * (t : Int)
            omega
          · show 61424 * (t : Int) < 2 ^ 64
            omega
          refine ⟨_, _, rfl, rfl, ⟨by decide, by decide, ?_⟩, .inl ⟨_, rfl, _, _, rfl, rfl, (by show (_ : Int) ≠ 0; decide), ?_⟩⟩
          · show (big.fmod 2147483563 * (2 * (t : Int) + 173) + 61424 * (t : Int) * (t : Int) + 52).natAbs < 2 ^ 64
            rw [hmy]
            omega
          refine ⟨_, rfl, _, _, rfl, rfl, ⟨by show (_ : Int) ≠ 0; decide, by decide⟩, .inl ⟨_, rfl, _, rfl, _, _, rfl, rfl, by omega, ?_⟩⟩
          obtain ⟨a1, a2⟩ := mod_lo (Int.fdiv (((big.fmod 2147483563 * (2 * (t : Int) + 173) + 61424 * (t : Int) * (t : Int) + 52) ^ (3 : Int).toNat).fmod 2147483549) 32) hm
          exact k _ _ (t + 1) z a1 a2 B2 P2 (Nat.le_refl _)
theorem d_law_draw (e : Ev K mg base) : DefN P w K mg base 1 "_law_draw" ["pen", "many"] (spDraw) := by
  obtain ⟨fd, F⟩ := e.c.def_ 1 (d := dd "_law_draw" 14) rfl
  exact ⟨⟨fd, ok_law_draw F e, FunD.bindsN F fun _ _ _ _ _ _ us hl => match us, hl with | [_, _], _ => rfl⟩, F.kp, He.glo_ok e.X e.G (e.c.fact 5 rfl)⟩
theorem sc_law_pick : FnScope ["pen", "some"] ["pen", "some"] (defScope (top 15)) := ⟨rfl, rfl, rfl, by decide +kernel, rfl, by decide +kernel, by decide +kernel⟩
theorem ok_law_pick {fd : FuncData} (F : FunD K "_law_pick" "_law_pick" (defArgs (top 15)) (defBody (top 15)) (defScope (top 15)) [] [] (He.ga K "_law_pick") fd) (e : Ev K mg base) : FnOk P w K mg base CX0 2 (He.ga K "_law_pick") fd ["pen", "some"] (spPick K) := by
  refine F.ok sc_law_pick (fun vs H Q E h => ?_) (fun cdv A outer s H vs Q E hr h => ?_)
  · obtain ⟨_, _, _, _, _, _, _, rfl, _⟩ := h
    rfl
  · skip
    refine ⟨_, PSs.nox ((pss_one (ps_ret (pe_ix (kix_list (K := K)) (pv 1) (pe_def (d_law_draw (P := P) (w := w) (K := K) (mg := mg) (base := base) e) (hr.mono (by decide)) (by rfl) (pa_cons (pv 0) (pa_cons (pe_callB (kcall_len_seq (K := K)) (by rfl) (f_len e) (by decide +kernel) (pa_cons (pv 1) pa_nil)) pa_nil))) (fun _ _ => rfl))))), ?_⟩
    obtain ⟨p, c, a, ms, t, z, xs, rfl, hP, ht, hS, nap, hx, hx2, k⟩ := h
    have hpos : 0 < xs.length := List.length_pos_iff.mpr hx
    refine ⟨_, rfl, _, rfl, _, rfl, a, _, rfl, .inl hS, p, c, ms, t, z, _, rfl, hP, ht, by omega, by omega, fun d H' t' z' h0 h1 hb hP' ht' => ?_⟩
    obtain ⟨j, rfl⟩ : ∃ j : Nat, d = (j : Int) := ⟨_, (Int.toNat_of_nonneg h0).symm⟩
    have hj : j < xs.length := by omega
    exact ⟨a, xs, _, xs[j], rfl, rfl, hb.seq nap hS, atI_nat (List.getElem?_eq_getElem hj), k _ H' t' z' (List.getElem_mem hj) hb hP' ht'⟩
theorem d_law_pick (e : Ev K mg base) : DefN P w K mg base 2 "_law_pick" ["pen", "some"] (spPick K) := by
  obtain ⟨fd, F⟩ := e.c.def_ 2 (d := dd "_law_pick" 15) rfl
  exact ⟨⟨fd, ok_law_pick F e, FunD.bindsN F fun _ _ _ _ _ _ us hl => match us, hl with | [_, _], _ => rfl⟩, F.kp, He.glo_ok e.X e.G (e.c.fact 6 rfl)⟩
theorem sc_law_name : FnScope ["pen", "signs", "size", "k"] ["pen"] (defScope (top 16)) := ⟨rfl, rfl, rfl, by decide +kernel, rfl, by decide +kernel, by decide +kernel⟩
theorem ok_law_name {fd : FuncData} (F : FunD K "_law_name" "_law_name" (defArgs (top 16)) (defBody (top 16)) (defScope (top 16)) [] [] (He.ga K "_law_name") fd) (e : Ev K mg base) : FnOk P w K mg base CX0 3 (He.ga K "_law_name") fd ["pen"] (spName) := by
  refine F.ok sc_law_name (fun vs H Q E h => ?_) (fun cdv A outer s H vs Q E hr h => ?_)
  · obtain ⟨_, _, _, _, _, rfl, _⟩ := h
    rfl
  · skip
    refine ⟨_, PSs.nox ((pss_cons (ps_set (i := 1) sc_law_name.nd rfl (Or.inr rfl) pe_str)
      (pss_cons (ps_set (i := 2) sc_law_name.nd rfl (Or.inl rfl) (pe_op op_add pe_int (pe_def (d_law_draw (P := P) (w := w) (K := K) (mg := mg) (base := base) e) (hr.mono (by decide)) (by rfl) (pa_cons (pv 0) (pa_cons (pe_def (d_law_pick (P := P) (w := w) (K := K) (mg := mg) (base := base) e) (hr.mono (by decide)) (by rfl) (pa_cons (pv 0) (pa_cons (pe_lst (pa_cons pe_int (pa_cons pe_int (pa_cons pe_int (pa_cons pe_int pa_nil))))) pa_nil))) pa_nil)))))
      (pss_one (ps_ret (kpe_join (K := K) pe_str (pe_lc (own := [("k", 3)]) (by rfl) sc_law_name.nd (pi_range1 (by rfl) (f_range e) (pa_cons (pv 2) pa_nil)) (blkOk_by (own := [("k", 3)]) (N := ["pen", "signs", "size", "k"]) (sc := defScope (top 16)) (by decide +kernel)) (fun _ _ _ _ _ => (pg_name (i := 3) sc_law_name.nd rfl (Or.inl rfl))) (fun _ _ _ _ _ => pts_nil) (fun _ _ _ _ _ => (pe_ix ix_str (pv 1) (pe_def (d_law_draw (P := P) (w := w) (K := K) (mg := mg) (base := base) e) (hr.mono (by decide)) (by rfl) (pa_cons (pv 0) (pa_cons pe_int pa_nil))) (fun _ _ => rfl)))))))))), ?_⟩
    obtain ⟨p, c, ms, t, z, rfl, hP, ht, k⟩ := h
    refine ⟨_, rfl, _, rfl, (by show 4 ≤ sizeLine; decide), fun l hl => ?_⟩
    have P1 := hP.same (same_new (o := .lst [.int 1, .int 1, .int 2, .int 8]) hl)
    refine ⟨p, c, l, ms, t, z, _, rfl, P1, by omega, SqL.of upd_same, (ne_of_none hP.a hl).symm, by simp, by decide, fun x H1 t1 z1 hx b1 P2 ht1 => ?_⟩
    obtain ⟨m, rfl, hm1, hm2⟩ : ∃ m : Int, x = .int m ∧ 1 ≤ m ∧ m ≤ 8 := by
      simp at hx
      rcases hx with rfl | rfl | rfl <;> exact ⟨_, rfl, by decide, by decide⟩
    refine ⟨p, c, ms, t1, z1, m, rfl, P2, by omega, hm1, by omega, fun d H2 t2 z2 h0 h1 b2 P3 ht2 => ?_⟩
    refine ⟨_, _, rfl, rfl, ?_⟩
    have b4 : But p H H2 := ((Same.but (same_new hl)).trans b1).trans b2
    refine ⟨⟨_, rfl⟩, _, rfl, _, rfl, by show -(2 ^ 62) ≤ 1 + d; omega, by show 1 + d < 2 ^ 62; omega, fun D hD => ?_⟩
    have npD : p ≠ D := ne_of_none P3.a hD
    have ncD : c ≠ D := ne_of_none P3.b hD
    have hD0 : H D = none := b4.free npD.symm hD
    refine lc_range (lo := 0) (n := (1 + d).toNat) (fun i H' => ∃ (cs : List Nat) (t' : Nat) (z' : Int), cs.length = i ∧ (∀ x ∈ cs, 97 ≤ x ∧ x ≤ 122) ∧ H' D = some (.lst ((cs.map sg).map V.str)) ∧ But p H H' ∧ Pen H' p c ms t' z' ∧ t' ≤ t2 + i)
      ⟨[], t2, z2, rfl, by simp, upd_same, b4.upn hD0, P3.same (same_new hD), by omega⟩ ?_ ?_
    · rintro i H3 hi ⟨cs, t3, z3, hl3, haz, hD3, b3, P4, ht3⟩
      refine ⟨rfl, ?_⟩
      refine ⟨_, rfl, _, rfl, p, c, ms, t3, z3, 26, rfl, P4, by omega, by decide, by decide, fun d' H4 t4 z4 h0' h1' b5 P5 ht4 => ?_⟩
      obtain ⟨j, rfl⟩ : ∃ j : Nat, d' = (j : Int) := ⟨_, (Int.toNat_of_nonneg h0').symm⟩
      have hD4 := b5 _ _ npD.symm hD3
      refine ⟨_, _, 97 + j, rfl, rfl, by decide +kernel, atI_nat (letters_at (by omega)), _, hD4, small1000 (by simp; omega), cs ++ [97 + j], t4, z4, by simp [hl3], fun x hx => ?_, ?_, (b3.trans b5).upn hD0, ⟨by rw [upd_ne npD]; exact P5.a, by rw [upd_ne ncD]; exact P5.b⟩, by omega⟩
      · rcases List.mem_append.mp hx with h | h
        · exact haz x h
        · simp at h
          omega
      · rw [upd_same]
        simp [sg]
    · rintro H3 ⟨cs, t3, z3, hl3, haz, hD3, b3, P4, ht3⟩
      refine ⟨_, D, cs.map sg, rfl, rfl, .inl (SqL.of hD3), ?_, ?_⟩
      · have e1 : ((cs.map sg).map (·.length)).sum = cs.length := by
          clear hl3 haz hD3
          induction cs with
          | nil => rfl
          | cons a r ih => simp only [List.map_cons, List.sum_cons, ih, List.length_cons]; show 1 + _ = _; omega
        have e2 : (Str.ofString "").length = 0 := by decide +kernel
        rw [e1, e2]
        omega
      · have ec := join_signs cs
        have el : (Txt.join (Str.ofString "") (cs.map sg)).length = cs.length := by rw [TL.len_tl]; exact congrArg List.length ec
        exact k _ H3 t3 z3 ⟨by omega, by omega, fun x hx => haz x (by rw [← ec]; exact hx)⟩ b3 P4 (by omega)
theorem d_law_name (e : Ev K mg base) : DefN P w K mg base 3 "_law_name" ["pen"] (spName) := by
  obtain ⟨fd, F⟩ := e.c.def_ 3 (d := dd "_law_name" 16) rfl
  exact ⟨⟨fd, ok_law_name F e, FunD.bindsN F fun _ _ _ _ _ _ us hl => match us, hl with | [_], _ => rfl⟩, F.kp, He.glo_ok e.X e.G (e.c.fact 8 rfl)⟩
theorem sc_law_names : FnScope ["pen", "many", "found", "k", "word", "near", "sign", "one"] ["pen", "many"] (defScope (top 17)) := ⟨rfl, rfl, rfl, by decide +kernel, rfl, by decide +kernel, by decide +kernel⟩
theorem ok_law_names {fd : FuncData} (F : FunD K "_law_names" "_law_names" (defArgs (top 17)) (defBody (top 17)) (defScope (top 17)) [] [] (He.ga K "_law_names") fd) (e : Ev K mg base) : FnOk P w K mg base CX0 4 (He.ga K "_law_names") fd ["pen", "many"] (spNames K) := by
  refine F.ok sc_law_names (fun vs H Q E h => ?_) (fun cdv A outer s H vs Q E hr h => ?_)
  · obtain ⟨_, _, _, _, _, _, rfl, _⟩ := h
    rfl
  · skip
    refine ⟨_, PSs.nox ((pss_cons (ps_set (i := 2) sc_law_names.nd rfl (Or.inr rfl) (pe_lst pa_nil))
      (pss_cons (ps_for PassesOwn.never rfl (pi_range1 (by rfl) (f_range e) (pa_cons (pv 1) pa_nil)) (pg_name (i := 3) sc_law_names.nd rfl (Or.inl rfl))
      (pss_cons (ps_set (i := 4) sc_law_names.nd rfl (Or.inr rfl) (pe_def (d_law_name (P := P) (w := w) (K := K) (mg := mg) (base := base) e) (hr.mono (by decide)) (by rfl) (pa_cons (pv 0) pa_nil)))
      (C8.pss_cut (ps_if (PW.pt (pw_and (pt_cmpR (kop_neD (K := K) hr.units) (pv 2) (pe_lst pa_nil) (nomark _)) (pw_and1 (pt_cmpR op_eq (pe_def (d_law_draw (P := P) (w := w) (K := K) (mg := mg) (base := base) e) (hr.mono (by decide)) (by rfl) (pa_cons (pv 0) (pa_cons pe_int pa_nil))) pe_int (nomark _)))))
      (pss_one (ps_set (i := 4) sc_law_names.nd rfl (Or.inr rfl) (pe_op op_add_str (pe_slice sl_str (pe_def (d_law_pick (P := P) (w := w) (K := K) (mg := mg) (base := base) e) (hr.mono (by decide)) (by rfl) (pa_cons (pv 0) (pa_cons (pv 2) pa_nil))) po_none (po_some pe_int)) (pe_slice sl_str (pv 4) po_none (po_some pe_int))))) pss_nil)
      (pss_cons (ps_set (i := 5) sc_law_names.nd rfl (Or.inl rfl) (pe_op op_cat (pe_lst (pa_cons (pv 4) pa_nil)) (pe_lc (own := [("sign", 6)]) (by rfl) sc_law_names.nd (pi_str pe_str) (blkOk_by (own := [("sign", 6)]) (N := ["pen", "many", "found", "k", "word", "near", "sign", "one"]) (sc := defScope (top 17)) (by decide +kernel)) (fun _ _ _ _ _ => (pg_name (i := 6) sc_law_names.nd rfl (Or.inl rfl))) (fun _ _ _ _ _ => pts_nil) (fun _ _ _ _ _ => (pe_op op_add_str (pe_slice sl_str (pv 4) po_none (po_some pe_int)) (pv 6))))))
      (pss_one (ps_expr (kpe_bm (K := K) PySem.F.plainAttrs_list PySem.F.slot_list_append PySem.F.type_list_append mt_append (pv 2) (pa_cons (pe_ix (kix_list (K := K)) (pe_lc (own := [("one", 7)]) (by rfl) sc_law_names.nd (kpi_list (K := K) (pv 5)) (blkOk_by (own := [("one", 7)]) (N := ["pen", "many", "found", "k", "word", "near", "sign", "one"]) (sc := defScope (top 17)) (by decide +kernel)) (fun _ _ _ _ _ => (pg_name (i := 7) sc_law_names.nd rfl (Or.inl rfl))) (fun _ _ _ _ _ => (pts_one (pt_cmpR (kop_notIn_seq (K := K)) (pv 7) (pv 2) (by rfl)))) (fun _ _ _ _ _ => (pv 7))) pe_int (fun _ _ => rfl)) pa_nil))))))))
      (pss_one (ps_ret (pv 2)))))), ?_⟩
    obtain ⟨p, c, ms, t, z, n, rfl, hP, ht, hn0, hn, k⟩ := h
    refine ⟨by show 0 ≤ sizeLine; decide, fun f hf => ?_⟩
    have npf : p ≠ f := ne_of_none hP.a hf
    have ncf : c ≠ f := ne_of_none hP.b hf
    refine ⟨_, rfl, n, rfl, by show -(2 ^ 62) ≤ n; omega, by show n < 2 ^ 62; omega, for_range (lo := 0) (n := n.toNat) (fun i σ H' => ∃ (xs : List Str) (t' : Nat) (z' : Int) (a b d g h : Option V), xs.length = i ∧ (∀ x ∈ xs, IsNm x) ∧ xs.Nodup ∧
        σ = [some (.ref p), some (.int n), some (.ref f), a, b, d, g, h] ∧ H' f = some (.lst (xs.map V.str)) ∧ But p H H' ∧ Pen H' p c ms t' z' ∧ t' ≤ t + 12 * i)
      ⟨[], t, z, none, none, none, none, none, rfl, by simp, List.nodup_nil, rfl, upd_same, Same.but (same_new hf), hP.same (same_new hf), Nat.le_refl _⟩ ?_ ?_⟩
    · rintro i σ H3 hi ⟨xs, t3, z3, a, b, d, g, h, hl3, hnm, hnd, rfl, hf3, b3, P3, ht3⟩
      -- word = _law_name(pen)
      refine ⟨_, rfl, p, c, ms, t3, z3, rfl, P3, by omega, fun x H4 t4 z4 hx b4 P4 ht4 => ?_⟩
      have hf4 := b4 _ _ npf.symm hf3
      refine ⟨fun σ' H' => ∃ (y : Str) (t' : Nat) (z' : Int), IsNm y ∧ σ' = [some (.ref p), some (.int n), some (.ref f), some (.int (0 + (i : Nat))), some (.str y), d, g, h] ∧ But p H3 H' ∧ Pen H' p c ms t' z' ∧ t' ≤ t4 + 2, ?_, ?_⟩
      · refine ⟨_, rfl, by show 0 ≤ sizeLine; decide, fun q hq => ?_⟩
        have hf5 : (upd H4 q (.lst [])) f = some (.lst (xs.map V.str)) := by rw [upd_ne (ne_of_none hf4 hq)]; exact hf4
        have P5 := P4.same (same_new (o := .lst []) hq)
        have b5 : But p H3 (upd H4 q (.lst [])) := b4.new hq
        refine ⟨.list (xs.map .str), .list [], .lst (SqL.of hf5) (dp_strs xs), .lst (SqL.of upd_same) .nil, shaped_strs fun x hx => (hnm x hx).ok, by decide +kernel, _, rfl, ?_⟩
        rw [eqv_list_nil]
        cases em : (xs.map PyData.str).isEmpty with
        | true => exact iteF (iteF ⟨x, t4, z4, hx, rfl, b5, P5, by omega⟩)
        | false =>
          refine iteT ?_
          have hne : xs.map V.str ≠ [] := by
            cases xs with
            | nil => cases em
            | cons a r => simp
          refine ⟨_, rfl, p, c, ms, t4, z4, 3, rfl, P5, by omega, by decide, by decide, fun e3 H6 t6 z6 h60 h61 b6 P6 ht6 => ?_⟩
          have hf6 := b6 _ _ npf.symm hf5
          refine ⟨rfl, _, rfl, ite2 (fun he => ?_) fun he => ⟨x, t6, z6, hx, rfl, b5.trans b6, P6, by omega⟩⟩
          refine ⟨_, rfl, _, rfl, p, c, f, ms, t6, z6, _, rfl, P6, by omega, SqL.of hf6, npf.symm, hne, by rw [List.length_map]; omega, fun v H7 t7 z7 hv b7 P7 ht7 => ?_⟩
          obtain ⟨u, hu, rfl⟩ := List.mem_map.mp hv
          have nu := hnm u hu
          refine ⟨7, rfl, u, rfl, nu.fit, _, rfl, 1, rfl, x, rfl, hx.fit, _, _, rfl, rfl, ?_, _, t7, z7, nm_both nu hx, rfl, (b5.trans b6).trans b7, P7, by omega⟩
          have l1 := cut_len u 7
          have l2 := cut_len x 1
          exact Nat.le_trans (Nat.add_le_add l1 l2) (by decide)
      · rintro σ' H5 ⟨y, t5, z5, hy, rfl, b5, P5, ht5⟩
        have hf5 := b5 _ _ npf.symm hf3
        -- near = [word] + [..]
        refine ⟨_, rfl, by show 1 ≤ sizeLine; decide, fun q hq => ?_⟩
        have npq : p ≠ q := ne_of_none P5.a hq
        have nfq : f ≠ q := ne_of_none hf5 hq
        refine ⟨_, rfl, fun D hD => lc_fm walk_str (sgV alpha) (glue7 y) (by rw [sgV_len]; decide +kernel) (ystr alpha) hD (fun _ _ => trivial) (by rw [sgV_len]; decide) ?_ ?_⟩
        · rintro v hv H' hS Kt Kf k1 k2
          obtain ⟨o, ho, rfl⟩ := List.mem_map.mp hv
          refine ⟨rfl, ?_⟩
          refine ⟨_, rfl, 7, rfl, y, rfl, hy.fit, _, rfl, _, _, rfl, rfl, ?_, k1 _ rfl⟩
          have l1 := cut_len y 7
          exact Nat.le_trans (Nat.add_le_add l1 (Nat.le_refl 1)) (by decide)
        have nqD : q ≠ D := ne_of_none upd_same hD
        refine ⟨q, D, _, _, rfl, rfl, by rw [upd_ne nqD]; exact upd_same, upd_same, ?_, fun r hr => ?_⟩
        · have : ((sgV alpha).filterMap (glue7 y)).length ≤ (sgV alpha).length := List.length_filterMap_le ..
          rw [sgV_len] at this
          exact Nat.le_trans (Nat.add_le_add (Nat.le_refl 1) this) (by decide)
        rw [near_map]
        generalize hH6 : upd (upd (upd H5 q (HO.lst [V.str y])) D (HO.lst ((sgV alpha).filterMap (glue7 y)))) r (HO.lst ((nearOf y).map V.str)) = H6
        have s6 : Same H5 H6 := by
          rw [← hH6]
          exact ((same_new hq).trans (same_new hD)).trans (same_new hr)
        have hr6 : H6 r = some (.lst ((nearOf y).map V.str)) := by rw [← hH6]; exact upd_same
        have hf6 := s6 _ _ hf5
        have P6 := P5.same s6
        have b6 : But p H3 H6 := b5.trans (Same.but s6)
        -- found.append(..)
        refine ⟨_, rfl, .inl ⟨rfl, _, SqL.of hf6⟩, _, rfl, r, rfl, ⟨_, SqL.of hr6⟩, fun D2 hD2 => lc_fm (walk_list (K := K) (a := r) (xs := (nearOf y).map V.str)) _ (leftOut xs) rfl (yat _) hD2 (fun H' hS => SqL.of (hS _ _ hr6)) (by rw [List.length_map]; show 27 < _; decide) ?_ ?_⟩
        · rintro v hv H' hS Kt Kf k1 k2
          obtain ⟨o, ho, rfl⟩ := List.mem_map.mp hv
          refine ⟨rfl, ?_⟩
          refine ⟨_, rfl, _, rfl, f, _, rfl, .inl (SqL.of (hS _ _ hf6)), rfl, flat_strs xs, _, rfl, ?_⟩
          show if (!inV (V.str o) (xs.map V.str)) = true then _ else _
          cases ei : inV (V.str o) (xs.map V.str) with
          | true => exact iteF (k2 (by unfold leftOut; rw [ei]; rfl))
          | false => exact iteT ⟨_, rfl, k1 _ (by unfold leftOut; rw [ei]; rfl)⟩
        rw [left_map]
        cases el : (nearOf y).filterMap (fun s => if s ∈ xs then none else some s) with
        | nil => exact absurd el (near_new (by omega))
        | cons a2 r2 =>
          have ha : a2 ∈ (nearOf y).filterMap (fun s => if s ∈ xs then none else some s) := by rw [el]; exact List.mem_cons_self ..
          obtain ⟨s2, hs2, he2⟩ := List.mem_filterMap.mp ha
          have hs3 : s2 ∉ xs ∧ s2 = a2 := by
            by_cases hm : s2 ∈ xs
            · rw [if_pos hm] at he2; cases he2
            · rw [if_neg hm] at he2; exact ⟨hm, Option.some.inj he2⟩
          obtain ⟨hn3, rfl⟩ := hs3
          have na := near_nm hy _ hs2
          have hfD : f ≠ D2 := ne_of_none hf6 hD2
          refine ⟨D2, _, 0, V.str s2, rfl, rfl, SqL.of upd_same, atI_nat (j := 0) rfl, f, xs.map V.str, _, rfl, rfl, by rw [upd_ne hfD]; exact hf6, by rw [List.length_map]; exact Nat.lt_of_le_of_lt (show xs.length ≤ 25 by omega) (by decide), ?_⟩
          have hf0 : H f = none := hf
          refine ⟨xs ++ [s2], t5, z5, _, _, _, _, _, by rw [List.length_append, hl3]; rfl, fun x hx => ?_, ?_, rfl, by rw [upd_same]; simp, ?_, ?_, by omega⟩
          · rcases List.mem_append.mp hx with h | h
            · exact hnm x h
            · simp at h; rw [h]; exact na
          · rw [List.nodup_append]
            exact ⟨hnd, by simp, fun a ha b hb => by simp at hb; rw [hb]; intro e; rw [e] at ha; exact hn3 ha⟩
          · exact ((b3.trans b6).new hD2).upn hf0
          · have P7 := P6.same (same_new (o := .lst ((s2 :: r2).map V.str)) hD2)
            exact ⟨by rw [upd_ne npf]; exact P7.a, by rw [upd_ne ncf]; exact P7.b⟩
    · rintro σ H3 ⟨xs, t3, z3, a, b, d, g, h, hl3, hnm, hnd, rfl, hf3, b3, P3, ht3⟩
      exact ⟨_, rfl, k xs f H3 t3 z3 hl3 hnm hnd hf hf3 b3 P3 (by omega)⟩
theorem d_law_names (e : Ev K mg base) : DefN P w K mg base 4 "_law_names" ["pen", "many"] (spNames K) := by
  obtain ⟨fd, F⟩ := e.c.def_ 4 (d := dd "_law_names" 17) rfl
  exact ⟨⟨fd, ok_law_names F e, FunD.bindsN F fun _ _ _ _ _ _ us hl => match us, hl with | [_, _], _ => rfl⟩, F.kp, He.glo_ok e.X e.G (e.c.fact 9 rfl)⟩
theorem sc_is_name : FnScope ["value"] ["value"] (defScope (top 6)) := ⟨rfl, rfl, rfl, by decide +kernel, rfl, by decide +kernel, by decide +kernel⟩
theorem az_all : ∀ c, c < 128 → (PySem.Unicode.isLower c = true → PySem.Unicode.isAlpha c = true) ∧ (PySem.Unicode.isLower c = true → (PySem.Unicode.isUpper c || PySem.Unicode.isTitle c) = false) ∧ (PySem.Unicode.isAlpha c = true → PySem.Unicode.isLower c = false → (PySem.Unicode.isUpper c || PySem.Unicode.isTitle c) = true) ∧ (PySem.Unicode.isLower c = decide (c ∈ alpha.cps.toList)) := by decide +kernel
theorem az_small : ∀ c ∈ alpha.cps.toList, c < 128 := by decide +kernel
theorem nm3 {x : Str} (h : 1 ≤ x.length) : (Txt.isascii x && (Txt.isalpha x && Txt.islower x)) = x.cps.toList.all fun c => decide (c ∈ alpha.cps.toList) := by
  rw [Bool.eq_iff_iff]
  unfold Txt.isascii Txt.isalpha Txt.islower
  have hl : x.cps.toList ≠ [] := by
    intro e
    have : x.length = 0 := by show x.cps.size = 0; rw [← Array.length_toList, e]; rfl
    omega
  simp only [Bool.and_eq_true, Bool.not_eq_true', List.all_eq_true, decide_eq_true_eq, ← Array.all_toList, ← Array.any_toList]
  constructor
  · rintro ⟨h1, ⟨-, h2⟩, -, h4⟩ c hc
    obtain ⟨a1, a2, a3, a4⟩ := az_all c (h1 c hc)
    cases e : PySem.Unicode.isLower c with
    | true => rw [e] at a4; exact of_decide_eq_true a4.symm
    | false =>
      have h5 := a3 (h2 c hc) e
      rw [List.any_eq_false] at h4
      exact absurd h5 (h4 c hc)
  · intro k
    have kk : ∀ c ∈ x.cps.toList, c < 128 ∧ PySem.Unicode.isLower c = true := fun c hc => by
      have hs := az_small c (k c hc)
      exact ⟨hs, by rw [(az_all c hs).2.2.2]; exact decide_eq_true (k c hc)⟩
    refine ⟨fun c hc => (kk c hc).1, ⟨h, fun c hc => (az_all c (kk c hc).1).1 (kk c hc).2⟩, ?_, ?_⟩
    · obtain ⟨c, hc⟩ := List.exists_mem_of_ne_nil _ hl
      rw [List.any_eq_true]
      exact ⟨c, hc, (kk c hc).2⟩
    · rw [List.any_eq_false]
      intro c hc
      have := (az_all c (kk c hc).1).2.1 (kk c hc).2
      rw [this]
      simp
theorem ok_is_name {fd : FuncData} (F : FunD K "is_name" "is_name" (defArgs (top 6)) (defBody (top 6)) (defScope (top 6)) [] [] (He.ga K "is_name") fd) (e : Ev K mg base) : FnOk P w K mg base CX0 1 (He.ga K "is_name") fd ["value"] (spIsName K) := by
  refine F.ok sc_is_name (fun vs H Q E h => ?_) (fun cdv A outer s H vs Q E hr h => ?_)
  · obtain ⟨_, rfl, _⟩ := h
    rfl
  · skip
    refine ⟨_, PSs.nox ((pss_cons (ps_if (PW.pt (pw_or (pt_not (pt_val (pe_callB (kcall_isi (K := K)) (by rfl) (f_isinstance e) (by decide +kernel) (pa_cons (pv 0) (pa_cons (pe_bltn (by rfl) (f_str e) (by decide +kernel) (show RelV (.ty "str") (.type "str") from rfl)) pa_nil))))) (pw_or1 (pt_not (pt_chain op_le op_le pe_int (pe_callB call_len_str (by rfl) (f_len e) (by decide +kernel) (pa_cons (pv 0) pa_nil)) pe_int)))))
      (pss_one (ps_ret pe_bl)) pss_nil)
      (pss_one (ps_ret (pe_and (kpe_bm0 (K := K) PySem.F.plainAttrs_str PySem.F.slot_str_isascii PySem.F.type_str_isascii mt_isascii (pv 0)) (pe_and (kpe_bm0 (K := K) PySem.F.plainAttrs_str PySem.F.slot_str_isalpha PySem.F.type_str_isalpha mt_isalpha (pv 0)) (pe_one (kpe_bm0 (K := K) PySem.F.plainAttrs_str PySem.F.slot_str_islower PySem.F.type_str_islower mt_islower (pv 0))))))))), ?_⟩
    obtain ⟨v, rfl, hv⟩ := h
    refine ⟨_, rfl, ?_⟩
    rcases hv with ⟨x, rfl, hx, k⟩ | ⟨t, ty, hk, q⟩
    · have kf : ¬ IsNm x → Q (.bl false) H := fun hn => by
        have e1 : nmB x = false := by
          cases e2 : nmB x with
          | false => rfl
          | true => exact absurd (nmB_iff.mp e2) hn
        have := k H (Same.refl H)
        rw [e1] at this
        exact this
      refine ⟨.str x, _, _, _, true, rfl, .ty "str", .base (.str x), kit_ty (by decide +kernel), _, rfl, iteF ?_⟩
      refine ⟨_, rfl, x, rfl, hx, _, _, rfl, rfl, _, rfl, ?_⟩
      refine ite2 (fun h1 => ?_) fun h1 => ⟨_, rfl, kf fun n => h1 (decide_eq_true (by have := n.lo; omega))⟩
      refine ⟨_, _, rfl, rfl, _, rfl, ?_⟩
      have h1' := of_decide_eq_true h1
      by_cases h2 : ((x.length : Int) ≤ 8)
      · rw [decide_eq_true h2]
        refine iteF ?_
        have fin : (Txt.isascii x && (Txt.isalpha x && Txt.islower x)) = nmB x := by
          rw [nm3 (show 1 ≤ x.length by omega)]
          unfold nmB
          rw [decide_eq_true (show 1 ≤ x.length by omega), decide_eq_true (show x.length ≤ 8 by omega)]
          rfl
        have k' := k H (Same.refl H)
        rw [← fin] at k'
        refine ⟨_, rfl, rfl, x, rfl, rfl, trivial, _, rfl, ?_⟩
        cases e1 : Txt.isascii x with
        | false =>
          rw [e1] at k'
          exact iteF (by exact k')
        | true =>
          rw [e1] at k'
          refine iteT ⟨_, rfl, rfl, x, rfl, rfl, trivial, _, rfl, ?_⟩
          cases e2 : Txt.isalpha x with
          | false =>
            rw [e2] at k'
            exact iteF (by exact k')
          | true =>
            rw [e2] at k'
            exact iteT ⟨_, rfl, rfl, x, rfl, rfl, trivial, by exact k'⟩
      · rw [decide_eq_false h2]
        exact iteT (kf fun n => h2 (by have := n.hi; omega))
    · refine ⟨v, _, t, _, false, rfl, .ty "str", ty, hk, _, rfl, ?_⟩
      exact q
theorem d_is_name (e : Ev K mg base) : DefN P w K mg base 1 "is_name" ["value"] (spIsName K) := by
  obtain ⟨fd, F⟩ := e.c.def_ 5 (d := dd "is_name" 6) rfl
  exact ⟨⟨fd, ok_is_name F e, FunD.bindsN F fun _ _ _ _ _ _ us hl => match us, hl with | [_], _ => rfl⟩, F.kp, He.glo_ok e.X e.G (e.c.fact 12 rfl)⟩
theorem sc_BadFrame___init__ : FnScope ["self", "part"] ["self", "part"] (defScope (inClass (top 3) 0)) := ⟨rfl, rfl, rfl, by decide +kernel, rfl, by decide +kernel, by decide +kernel⟩
theorem ok_BadFrame___init__ {fd : FuncData} (F : FunD K "__init__" "BadFrame.__init__" (defArgs (inClass (top 3) 0)) (defBody (inClass (top 3) 0)) (defScope (inClass (top 3) 0)) [] [] (He.ma K (He.ga K "BadFrame") "__init__") fd) (e : Ev K mg base) : FnOk P w K mg base CX0 1 (He.ma K (He.ga K "BadFrame") "__init__") fd ["self", "part"] (spErr1 K (He.ga K "BadFrame") "part") := by
  refine F.ok sc_BadFrame___init__ (fun vs H Q E h => ?_) (fun cdv A outer s H vs Q E hr h => ?_)
  · obtain ⟨_, _, rfl, _⟩ := h
    rfl
  · skip
    refine ⟨_, PSs.nox ((pss_one (ps_ost (pv 0) (pv 1)))), ?_⟩
    obtain ⟨a, v, rfl, ha, k⟩ := h
    refine ⟨_, rfl, _, rfl, a, _, rfl, (err_BadFrame e).o, (no_BadFrame_part e), .inl ⟨ha, fun dx h1 h2 => ?_⟩⟩
    exact k dx h1 h2
theorem d_BadFrame___init__ (e : Ev K mg base) : DefM P w K mg base 1 (He.ma K (He.ga K "BadFrame") "__init__") ["self", "part"] (spErr1 K (He.ga K "BadFrame") "part") := by
  obtain ⟨fd, F⟩ := e.c.def_ 6 (d := dm "BadFrame" "__init__" "BadFrame.__init__" 3 0) rfl
  exact ⟨fd, ok_BadFrame___init__ F e, FunD.bindsN F fun _ _ _ _ _ _ us hl => match us, hl with | [_, _], _ => rfl⟩
theorem sc_Frame___init__ : FnScope ["self", "sender", "target"] ["self", "sender", "target"] (defScope (inClass (top 8) 0)) := ⟨rfl, rfl, rfl, by decide +kernel, rfl, by decide +kernel, by decide +kernel⟩
theorem ok_Frame___init__ {fd : FuncData} (F : FunD K "__init__" "Frame.__init__" (defArgs (inClass (top 8) 0)) (defBody (inClass (top 8) 0)) (defScope (inClass (top 8) 0)) [(.non : He.Dv).v K] [] (He.ma K (He.ga K "Frame") "__init__") fd) (e : Ev K mg base) : FnOk P w K mg base (CX P w) 3 (He.ma K (He.ga K "Frame") "__init__") fd ["self", "sender", "target"] (spFrame K) := by
  refine F.ok sc_Frame___init__ (fun vs H Q E h => ?_) (fun cdv A outer s H vs Q E hr h => ?_)
  · obtain ⟨_, _, _, _, rfl, _⟩ := h
    rfl
  · skip
    refine ⟨_, ((pss_cons (ps_if (pt_not (pt_val (pe_def (d_is_name (P := P) (w := w) (K := K) (mg := mg) (base := base) e) (hr.mono (by decide)) (by rfl) (pa_cons (pv 1) pa_nil))))
      (pss_one (ps_raise1 (err_BadFrame e) (d_BadFrame___init__ e) (hr.mono (by decide)) rfl (takes_of rfl rfl rfl rfl) rfl (g_BadFrame e) (pa_cons pe_str pa_nil))) pss_nil)
      (C8.pss_cut (ps_if (PW.pt (pw_and (pt_cmpR op_notN (pv 2) pe_non (nomark _)) (pw_and1 (PW.pt (pw_or (pt_not (pt_val (pe_def (d_is_name (P := P) (w := w) (K := K) (mg := mg) (base := base) e) (hr.mono (by decide)) (by rfl) (pa_cons (pv 2) pa_nil)))) (pw_or1 (pt_cmpR op_eq (pv 2) (pv 1) (nomark _))))))))
      (pss_one (ps_raise1 (err_BadFrame e) (d_BadFrame___init__ e) (hr.mono (by decide)) rfl (takes_of rfl rfl rfl rfl) rfl (g_BadFrame e) (pa_cons pe_str pa_nil))) pss_nil)
      (pss_cons (ps_fld (pv 0) (pv 1) rfl)
      (pss_one (ps_fld (pv 0) (pv 2) rfl)))))), ?_⟩
    obtain ⟨p, dx, x, y, rfl, hp, hx, hy, k1, k2, k3⟩ := h
    refine ⟨_, rfl, ?_⟩
    dsimp only [tNil]
    refine is_named hx fun H1 s1 => ⟨_, rfl, ?_⟩
    cases vx : vnm x with
    | false => exact iteT ⟨_, rfl, fun d H' h1 h2 h3 => k1 vx d H' (s1.trans h1) (same_none s1 h2) h3⟩
    | true =>
      refine iteF ?_
      have hp1 := s1 _ _ hp
      refine ⟨fun σ' H' => σ' = start ["self", "sender", "target"] [V.ref p, x, y] ∧ Same H H' ∧ tgt x y = true, ?_, ?_⟩
      · refine ⟨_, rfl, rfl, _, rfl, ?_⟩
        refine ite2 (fun hn => ?_) fun hn => iteF ⟨rfl, s1, tgt_non (by simpa using hn)⟩
        have hn : y ≠ .non := by simpa using hn
        refine ⟨_, rfl, ?_⟩
        dsimp only [tNil]
        refine is_named (hy.same s1) fun H2 s2 => ⟨_, rfl, ?_⟩
        cases vy : vnm y with
        | false => exact iteT (iteT ⟨_, rfl, fun d H' h1 h2 h3 => k2 vx (tgt_bad hn vy) d H' ((s1.trans s2).trans h1) (same_none (s1.trans s2) h2) h3⟩)
        | true =>
          obtain ⟨a, rfl⟩ := vnm_str vx
          obtain ⟨b, rfl⟩ := vnm_str vy
          refine iteF ⟨_, rfl, _, rfl, rfl, _, rfl, ite2 (fun he => ?_) fun he => ?_⟩
          · have he : b = a := by simpa using he
            subst he
            exact ⟨_, rfl, fun d H' h1 h2 h3 => k2 vx (tgt_self vy) d H' ((s1.trans s2).trans h1) (same_none (s1.trans s2) h2) h3⟩
          · exact ⟨rfl, s1.trans s2, tgt_two vy (by intro q; cases q; simp at he)⟩
      · rintro σ' H' ⟨rfl, s2, ht⟩
        have hp2 := s2 _ _ hp
        refine ⟨_, rfl, _, rfl, p, _, dx, _, rfl, hp2, (cls_Frame e), (no_Frame_sender e), (by decide), ?_⟩
        refine ⟨_, rfl, _, rfl, p, _, dx, _, rfl, upd_same, (cls_Frame e), (no_Frame_target e), (by show 1 < 1000; decide), ?_⟩
        refine k3 vx ht _ (fun b o n h => ?_) ?_
        · rw [upd_ne n, upd_ne n]; exact s2 _ _ h
        · exact upd_same
theorem d_Frame___init__ (e : Ev K mg base) : ∃ fd, FnOk P w K mg base (CX P w) 3 (He.ma K (He.ga K "Frame") "__init__") fd ["self", "sender", "target"] (spFrame K) ∧ FunD K "__init__" "Frame.__init__" (defArgs (inClass (top 8) 0)) (defBody (inClass (top 8) 0)) (defScope (inClass (top 8) 0)) [(.non : He.Dv).v K] [] (He.ma K (He.ga K "Frame") "__init__") fd := by
  obtain ⟨fd, F⟩ := e.c.def_ 7 (d := dm "Frame" "__init__" "Frame.__init__" 8 0 [.non]) rfl
  exact ⟨fd, ok_Frame___init__ F e, F⟩
theorem sc_frame_key : FnScope ["frame"] ["frame"] (defScope (top 9)) := ⟨rfl, rfl, rfl, by decide +kernel, rfl, by decide +kernel, by decide +kernel⟩
theorem ok_frame_key {fd : FuncData} (F : FunD K "frame_key" "frame_key" (defArgs (top 9)) (defBody (top 9)) (defScope (top 9)) [] [] (He.ga K "frame_key") fd) (e : Ev K mg base) : FnOk P w K mg base CX0 1 (He.ga K "frame_key") fd ["frame"] (spKey K) := by
  refine F.ok sc_frame_key (fun vs H Q E h => ?_) (fun cdv A outer s H vs Q E hr h => ?_)
  · obtain ⟨_, _, _, rfl, _⟩ := h
    rfl
  · skip
    refine ⟨_, PSs.nox ((pss_one (ps_ret (pe_tup (pa_cons (pe_fld (pv 0) rfl) (pa_cons (pe_ifExp (pt_cmpR op_isN (pe_fld (pv 0) rfl) pe_non (nomark _)) pe_str (pe_fld (pv 0) rfl)) pa_nil)))))), ?_⟩
    obtain ⟨p, a, o, rfl, ⟨fp, dx, hp⟩, k⟩ := h
    refine ⟨_, rfl, p, _, dx, _, _, rfl, hp, cls_Frame e, no_Frame_sender e, rfl, ?_⟩
    refine ⟨_, rfl, p, _, dx, _, _, rfl, hp, cls_Frame e, no_Frame_target e, rfl, rfl, _, rfl, ?_⟩
    cases o with
    | none => exact iteT ⟨by show 2 ≤ sizeLine; decide, k⟩
    | some z => exact iteF ⟨_, rfl, p, _, dx, _, _, rfl, hp, cls_Frame e, no_Frame_target e, rfl, by show 2 ≤ sizeLine; decide, k⟩
theorem d_frame_key (e : Ev K mg base) : DefN P w K mg base 1 "frame_key" ["frame"] (spKey K) := by
  obtain ⟨fd, F⟩ := e.c.def_ 8 (d := dd "frame_key" 9) rfl
  exact ⟨⟨fd, ok_frame_key F e, FunD.bindsN F fun _ _ _ _ _ _ us hl => match us, hl with | [_], _ => rfl⟩, F.kp, He.glo_ok e.X e.G (e.c.fact 29 rfl)⟩
theorem sc_Frame_is_to_all : FnScope ["self"] ["self"] (defScope (inClass (top 8) 1)) := ⟨rfl, rfl, rfl, by decide +kernel, rfl, by decide +kernel, by decide +kernel⟩
theorem ok_Frame_is_to_all {fd : FuncData} (F : FunD K "is_to_all" "Frame.is_to_all" (defArgs (inClass (top 8) 1)) (defBody (inClass (top 8) 1)) (defScope (inClass (top 8) 1)) [] [] (geA K "Frame" "is_to_all") fd) (e : Ev K mg base) : FnOk P w K mg base CX0 1 (geA K "Frame" "is_to_all") fd ["self"] (spAllF K) := by
  refine F.ok sc_Frame_is_to_all (fun vs H Q E h => ?_) (fun cdv A outer s H vs Q E hr h => ?_)
  · obtain ⟨_, _, _, rfl, _⟩ := h
    rfl
  · skip
    refine ⟨_, PSs.nox ((pss_one (ps_ret (pe_cmpR op_isN (pe_fld (pv 0) rfl) pe_non (nomark _))))), ?_⟩
    obtain ⟨p, a, o, rfl, ⟨fp, dx, hp⟩, k⟩ := h
    exact ⟨_, rfl, p, _, dx, _, _, rfl, hp, cls_Frame e, no_Frame_target e, rfl, rfl, k⟩
theorem d_Frame_is_to_all (e : Ev K mg base) : PropOf K (He.ga K "Frame") "is_to_all" (prA K "Frame" "is_to_all") (geA K "Frame" "is_to_all") ∧ DefM P w K mg base 1 (geA K "Frame" "is_to_all") ["self"] (spAllF K) := by
  obtain ⟨pr, _, fd, F⟩ := e.g 0 (gd "Frame" "is_to_all" "Frame.is_to_all" 8 1) rfl
  exact ⟨pr rfl, fd, ok_Frame_is_to_all F e, FunD.bindsN F fun _ _ _ _ _ _ us hl => match us, hl with | [_], _ => rfl⟩
theorem sc_Frame___lt__ : FnScope ["self", "other"] ["self", "other"] (defScope (inClass (top 8) 3)) := ⟨rfl, rfl, rfl, by decide +kernel, rfl, by decide +kernel, by decide +kernel⟩
theorem ok_Frame___lt__ {fd : FuncData} (F : FunD K "__lt__" "Frame.__lt__" (defArgs (inClass (top 8) 3)) (defBody (inClass (top 8) 3)) (defScope (inClass (top 8) 3)) [] [] (He.ma K (He.ga K "Frame") "__lt__") fd) (e : Ev K mg base) : FnOk P w K mg base CX0 2 (He.ma K (He.ga K "Frame") "__lt__") fd ["self", "other"] (spOrd K .Lt) := by
  refine F.ok sc_Frame___lt__ (fun vs H Q E h => ?_) (fun cdv A outer s H vs Q E hr h => ?_)
  · obtain ⟨_, _, _, _, _, _, rfl, _⟩ := h
    rfl
  · skip
    refine ⟨_, PSs.nox ((pss_cons (ps_if (pt_not (pt_val (pe_callB (kcall_isi (K := K)) (by rfl) (f_isinstance e) (by decide +kernel) (pa_cons (pv 1) (pa_cons (pe_glob (by rfl) (g_Frame e) (show RelV (.ref (He.ga K "Frame")) (.ref (He.ga K "Frame")) from rfl)) pa_nil)))))
      (pss_one ps_never) pss_nil)
      (pss_one (ps_ret (pe_cmpR (op_lt2 (K := K) hr.units0) (pe_def (d_frame_key (P := P) (w := w) (K := K) (mg := mg) (base := base) e) (hr.mono (by decide)) (by rfl) (pa_cons (pv 0) pa_nil)) (pe_def (d_frame_key (P := P) (w := w) (K := K) (mg := mg) (base := base) e) (hr.mono (by decide)) (by rfl) (pa_cons (pv 1) pa_nil)) (nomark _)))))), ?_⟩
    obtain ⟨p, q, a, b, o, r, rfl, ⟨fp, dx, hp⟩, ⟨fq, dy, hq⟩, k⟩ := h
    refine ⟨_, rfl, _, _, _, _, true, rfl, .own _, (own_Frame e).ty (cls_Frame e) hq, kit_same, _, rfl, iteF ?_⟩
    refine ⟨_, rfl, p, a, o, rfl, ⟨fp, dx, hp⟩, fun t ht => ?_⟩
    refine ⟨_, rfl, q, b, r, rfl, ⟨fq, dy, same_new ht _ _ hq⟩, fun u hu => ?_⟩
    refine ⟨t, u, a, kOf o, b, kOf r, rfl, rfl, SqT.of (by rw [upd_ne (ne_of_none upd_same hu)]; exact upd_same), SqT.of upd_same, k _ ((same_new ht).trans (same_new hu))⟩
theorem d_Frame___lt__ (e : Ev K mg base) : DefM P w K mg base 2 (He.ma K (He.ga K "Frame") "__lt__") ["self", "other"] (spOrd K .Lt) := by
  obtain ⟨fd, F⟩ := e.c.def_ 9 (d := dm "Frame" "__lt__" "Frame.__lt__" 8 3) rfl
  exact ⟨fd, ok_Frame___lt__ F e, FunD.bindsN F fun _ _ _ _ _ _ us hl => match us, hl with | [_, _], _ => rfl⟩
theorem sc_Frame___le__ : FnScope ["self", "other"] ["self", "other"] (defScope (inClass (top 8) 4)) := ⟨rfl, rfl, rfl, by decide +kernel, rfl, by decide +kernel, by decide +kernel⟩
theorem ok_Frame___le__ {fd : FuncData} (F : FunD K "__le__" "Frame.__le__" (defArgs (inClass (top 8) 4)) (defBody (inClass (top 8) 4)) (defScope (inClass (top 8) 4)) [] [] (He.ma K (He.ga K "Frame") "__le__") fd) (e : Ev K mg base) : FnOk P w K mg base CX0 2 (He.ma K (He.ga K "Frame") "__le__") fd ["self", "other"] (spOrd K .LtE) := by
  refine F.ok sc_Frame___le__ (fun vs H Q E h => ?_) (fun cdv A outer s H vs Q E hr h => ?_)
  · obtain ⟨_, _, _, _, _, _, rfl, _⟩ := h
    rfl
  · skip
    refine ⟨_, PSs.nox ((pss_cons (ps_if (pt_not (pt_val (pe_callB (kcall_isi (K := K)) (by rfl) (f_isinstance e) (by decide +kernel) (pa_cons (pv 1) (pa_cons (pe_glob (by rfl) (g_Frame e) (show RelV (.ref (He.ga K "Frame")) (.ref (He.ga K "Frame")) from rfl)) pa_nil)))))
      (pss_one ps_never) pss_nil)
      (pss_one (ps_ret (pe_cmpR (op_le2 (K := K) hr.units0) (pe_def (d_frame_key (P := P) (w := w) (K := K) (mg := mg) (base := base) e) (hr.mono (by decide)) (by rfl) (pa_cons (pv 0) pa_nil)) (pe_def (d_frame_key (P := P) (w := w) (K := K) (mg := mg) (base := base) e) (hr.mono (by decide)) (by rfl) (pa_cons (pv 1) pa_nil)) (nomark _)))))), ?_⟩
    obtain ⟨p, q, a, b, o, r, rfl, ⟨fp, dx, hp⟩, ⟨fq, dy, hq⟩, k⟩ := h
    refine ⟨_, rfl, _, _, _, _, true, rfl, .own _, (own_Frame e).ty (cls_Frame e) hq, kit_same, _, rfl, iteF ?_⟩
    refine ⟨_, rfl, p, a, o, rfl, ⟨fp, dx, hp⟩, fun t ht => ?_⟩
    refine ⟨_, rfl, q, b, r, rfl, ⟨fq, dy, same_new ht _ _ hq⟩, fun u hu => ?_⟩
    refine ⟨t, u, a, kOf o, b, kOf r, rfl, rfl, SqT.of (by rw [upd_ne (ne_of_none upd_same hu)]; exact upd_same), SqT.of upd_same, k _ ((same_new ht).trans (same_new hu))⟩
theorem d_Frame___le__ (e : Ev K mg base) : DefM P w K mg base 2 (He.ma K (He.ga K "Frame") "__le__") ["self", "other"] (spOrd K .LtE) := by
  obtain ⟨fd, F⟩ := e.c.def_ 10 (d := dm "Frame" "__le__" "Frame.__le__" 8 4) rfl
  exact ⟨fd, ok_Frame___le__ F e, FunD.bindsN F fun _ _ _ _ _ _ us hl => match us, hl with | [_, _], _ => rfl⟩
theorem sc_Frame___gt__ : FnScope ["self", "other"] ["self", "other"] (defScope (inClass (top 8) 5)) := ⟨rfl, rfl, rfl, by decide +kernel, rfl, by decide +kernel, by decide +kernel⟩
theorem ok_Frame___gt__ {fd : FuncData} (F : FunD K "__gt__" "Frame.__gt__" (defArgs (inClass (top 8) 5)) (defBody (inClass (top 8) 5)) (defScope (inClass (top 8) 5)) [] [] (He.ma K (He.ga K "Frame") "__gt__") fd) (e : Ev K mg base) : FnOk P w K mg base CX0 2 (He.ma K (He.ga K "Frame") "__gt__") fd ["self", "other"] (spOrd K .Gt) := by
  refine F.ok sc_Frame___gt__ (fun vs H Q E h => ?_) (fun cdv A outer s H vs Q E hr h => ?_)
  · obtain ⟨_, _, _, _, _, _, rfl, _⟩ := h
    rfl
  · skip
    refine ⟨_, PSs.nox ((pss_cons (ps_if (pt_not (pt_val (pe_callB (kcall_isi (K := K)) (by rfl) (f_isinstance e) (by decide +kernel) (pa_cons (pv 1) (pa_cons (pe_glob (by rfl) (g_Frame e) (show RelV (.ref (He.ga K "Frame")) (.ref (He.ga K "Frame")) from rfl)) pa_nil)))))
      (pss_one ps_never) pss_nil)
      (pss_one (ps_ret (pe_cmpR (op_gt2 (K := K) hr.units0) (pe_def (d_frame_key (P := P) (w := w) (K := K) (mg := mg) (base := base) e) (hr.mono (by decide)) (by rfl) (pa_cons (pv 0) pa_nil)) (pe_def (d_frame_key (P := P) (w := w) (K := K) (mg := mg) (base := base) e) (hr.mono (by decide)) (by rfl) (pa_cons (pv 1) pa_nil)) (nomark _)))))), ?_⟩
    obtain ⟨p, q, a, b, o, r, rfl, ⟨fp, dx, hp⟩, ⟨fq, dy, hq⟩, k⟩ := h
    refine ⟨_, rfl, _, _, _, _, true, rfl, .own _, (own_Frame e).ty (cls_Frame e) hq, kit_same, _, rfl, iteF ?_⟩
    refine ⟨_, rfl, p, a, o, rfl, ⟨fp, dx, hp⟩, fun t ht => ?_⟩
    refine ⟨_, rfl, q, b, r, rfl, ⟨fq, dy, same_new ht _ _ hq⟩, fun u hu => ?_⟩
    refine ⟨t, u, a, kOf o, b, kOf r, rfl, rfl, SqT.of (by rw [upd_ne (ne_of_none upd_same hu)]; exact upd_same), SqT.of upd_same, k _ ((same_new ht).trans (same_new hu))⟩
theorem d_Frame___gt__ (e : Ev K mg base) : DefM P w K mg base 2 (He.ma K (He.ga K "Frame") "__gt__") ["self", "other"] (spOrd K .Gt) := by
  obtain ⟨fd, F⟩ := e.c.def_ 11 (d := dm "Frame" "__gt__" "Frame.__gt__" 8 5) rfl
  exact ⟨fd, ok_Frame___gt__ F e, FunD.bindsN F fun _ _ _ _ _ _ us hl => match us, hl with | [_, _], _ => rfl⟩
theorem sc_Frame___ge__ : FnScope ["self", "other"] ["self", "other"] (defScope (inClass (top 8) 6)) := ⟨rfl, rfl, rfl, by decide +kernel, rfl, by decide +kernel, by decide +kernel⟩
theorem ok_Frame___ge__ {fd : FuncData} (F : FunD K "__ge__" "Frame.__ge__" (defArgs (inClass (top 8) 6)) (defBody (inClass (top 8) 6)) (defScope (inClass (top 8) 6)) [] [] (He.ma K (He.ga K "Frame") "__ge__") fd) (e : Ev K mg base) : FnOk P w K mg base CX0 2 (He.ma K (He.ga K "Frame") "__ge__") fd ["self", "other"] (spOrd K .GtE) := by
  refine F.ok sc_Frame___ge__ (fun vs H Q E h => ?_) (fun cdv A outer s H vs Q E hr h => ?_)
  · obtain ⟨_, _, _, _, _, _, rfl, _⟩ := h
    rfl
  · skip
    refine ⟨_, PSs.nox ((pss_cons (ps_if (pt_not (pt_val (pe_callB (kcall_isi (K := K)) (by rfl) (f_isinstance e) (by decide +kernel) (pa_cons (pv 1) (pa_cons (pe_glob (by rfl) (g_Frame e) (show RelV (.ref (He.ga K "Frame")) (.ref (He.ga K "Frame")) from rfl)) pa_nil)))))
      (pss_one ps_never) pss_nil)
      (pss_one (ps_ret (pe_cmpR (op_ge2 (K := K) hr.units0) (pe_def (d_frame_key (P := P) (w := w) (K := K) (mg := mg) (base := base) e) (hr.mono (by decide)) (by rfl) (pa_cons (pv 0) pa_nil)) (pe_def (d_frame_key (P := P) (w := w) (K := K) (mg := mg) (base := base) e) (hr.mono (by decide)) (by rfl) (pa_cons (pv 1) pa_nil)) (nomark _)))))), ?_⟩
    obtain ⟨p, q, a, b, o, r, rfl, ⟨fp, dx, hp⟩, ⟨fq, dy, hq⟩, k⟩ := h
    refine ⟨_, rfl, _, _, _, _, true, rfl, .own _, (own_Frame e).ty (cls_Frame e) hq, kit_same, _, rfl, iteF ?_⟩
    refine ⟨_, rfl, p, a, o, rfl, ⟨fp, dx, hp⟩, fun t ht => ?_⟩
    refine ⟨_, rfl, q, b, r, rfl, ⟨fq, dy, same_new ht _ _ hq⟩, fun u hu => ?_⟩
    refine ⟨t, u, a, kOf o, b, kOf r, rfl, rfl, SqT.of (by rw [upd_ne (ne_of_none upd_same hu)]; exact upd_same), SqT.of upd_same, k _ ((same_new ht).trans (same_new hu))⟩
theorem d_Frame___ge__ (e : Ev K mg base) : DefM P w K mg base 2 (He.ma K (He.ga K "Frame") "__ge__") ["self", "other"] (spOrd K .GtE) := by
  obtain ⟨fd, F⟩ := e.c.def_ 12 (d := dm "Frame" "__ge__" "Frame.__ge__" 8 6) rfl
  exact ⟨fd, ok_Frame___ge__ F e, FunD.bindsN F fun _ _ _ _ _ _ us hl => match us, hl with | [_, _], _ => rfl⟩
theorem sc_Frame___eq__ : FnScope ["self", "other"] ["self", "other"] (defScope (inClass (top 8) 2)) := ⟨rfl, rfl, rfl, by decide +kernel, rfl, by decide +kernel, by decide +kernel⟩
theorem ok_Frame___eq__ {fd : FuncData} (F : FunD K "__eq__" "Frame.__eq__" (defArgs (inClass (top 8) 2)) (defBody (inClass (top 8) 2)) (defScope (inClass (top 8) 2)) [] [] (He.ma K (He.ga K "Frame") "__eq__") fd) (e : Ev K mg base) : FnOk P w K mg base CX0 2 (He.ma K (He.ga K "Frame") "__eq__") fd ["self", "other"] (spEqF K) := by
  refine F.ok sc_Frame___eq__ (fun vs H Q E h => ?_) (fun cdv A outer s H vs Q E hr h => ?_)
  · obtain ⟨_, _, _, _, rfl, _⟩ := h
    rfl
  · skip
    refine ⟨_, PSs.nox ((pss_cons (ps_if (pt_not (pt_val (pe_callB (kcall_isi (K := K)) (by rfl) (f_isinstance e) (by decide +kernel) (pa_cons (pv 1) (pa_cons (pe_glob (by rfl) (g_Frame e) (show RelV (.ref (He.ga K "Frame")) (.ref (He.ga K "Frame")) from rfl)) pa_nil)))))
      (pss_one (ps_ret pe_bl)) pss_nil)
      (pss_one (ps_ret (pe_cmpR (kop_eqD (K := K) hr.units) (pe_def (d_frame_key (P := P) (w := w) (K := K) (mg := mg) (base := base) e) (hr.mono (by decide)) (by rfl) (pa_cons (pv 0) pa_nil)) (pe_def (d_frame_key (P := P) (w := w) (K := K) (mg := mg) (base := base) e) (hr.mono (by decide)) (by rfl) (pa_cons (pv 1) pa_nil)) (nomark _)))))), ?_⟩
    obtain ⟨p, y, a, o, rfl, ⟨fp, dx, hp⟩, h⟩ := h
    rcases h with ⟨q, b, r, rfl, ⟨fq, dy, hq⟩, k⟩ | ⟨t, ht, ty, k⟩
    · refine ⟨_, rfl, _, _, _, _, true, rfl, .own _, (own_Frame e).ty (cls_Frame e) hq, kit_same, _, rfl, iteF ?_⟩
      refine ⟨_, rfl, p, a, o, rfl, ⟨fp, dx, hp⟩, fun t ht => ?_⟩
      refine ⟨_, rfl, q, b, r, rfl, ⟨fq, dy, same_new ht _ _ hq⟩, fun u hu => ?_⟩
      refine ⟨_, _, .tup (SqT.of (by rw [upd_ne (ne_of_none upd_same hu)]; exact upd_same)) (.cons (.str _) (.cons (.str _) .nil)), .tup (SqT.of upd_same) (.cons (.str _) (.cons (.str _) .nil)), shaped2 fp.a.ok fp.k, shaped2 fq.a.ok fq.k, ?_⟩
      exact k _ ((same_new ht).trans (same_new hu))
    · exact ⟨_, rfl, _, _, _, _, false, rfl, .own _, ty, (own_Frame e).ki t ht, _, rfl, iteT k⟩
theorem d_Frame___eq__ (e : Ev K mg base) : DefM P w K mg base 2 (He.ma K (He.ga K "Frame") "__eq__") ["self", "other"] (spEqF K) := by
  obtain ⟨fd, F⟩ := e.c.def_ 13 (d := dm "Frame" "__eq__" "Frame.__eq__" 8 2) rfl
  exact ⟨fd, ok_Frame___eq__ F e, FunD.bindsN F fun _ _ _ _ _ _ us hl => match us, hl with | [_, _], _ => rfl⟩
theorem sc_Frame___str__ : FnScope ["self"] ["self"] (defScope (inClass (top 8) 7)) := ⟨rfl, rfl, rfl, by decide +kernel, rfl, by decide +kernel, by decide +kernel⟩
theorem ok_Frame___str__ {fd : FuncData} (F : FunD K "__str__" "Frame.__str__" (defArgs (inClass (top 8) 7)) (defBody (inClass (top 8) 7)) (defScope (inClass (top 8) 7)) [] [] (He.ma K (He.ga K "Frame") "__str__") fd) (e : Ev K mg base) : FnOk P w K mg base CX0 1 (He.ma K (He.ga K "Frame") "__str__") fd ["self"] (spStrF K) := by
  refine F.ok sc_Frame___str__ (fun vs H Q E h => ?_) (fun cdv A outer s H vs Q E hr h => ?_)
  · obtain ⟨_, _, _, rfl, _⟩ := h
    rfl
  · skip
    refine ⟨_, PSs.nox ((pss_cons (ps_if (pt_cmpR op_isN (pe_fld (pv 0) rfl) pe_non (nomark _))
      (pss_one (ps_ret (pe_joined (.cons (pe_fmt (pe_fld (pv 0) rfl)) (.cons pe_str .nil))))) pss_nil)
      (pss_one (ps_ret (pe_joined (.cons (pe_fmt (pe_fld (pv 0) rfl)) (.cons pe_str (.cons (pe_fmt (pe_fld (pv 0) rfl)) .nil)))))))), ?_⟩
    obtain ⟨p, a, o, rfl, ⟨fp, dx, hp⟩, k⟩ := h
    refine ⟨_, rfl, p, _, dx, _, _, rfl, hp, cls_Frame e, no_Frame_target e, rfl, rfl, _, rfl, ?_⟩
    cases o with
    | none =>
      refine iteT ⟨_, rfl, p, _, dx, _, _, rfl, hp, cls_Frame e, no_Frame_sender e, rfl, .inl ⟨a, rfl, fp.a.fit, a, rfl, ?_, _, rfl, ?_, ?_⟩⟩
      all_goals rw [str_nil]
      · exact fp.a.fit
      · exact Nat.le_trans (str_len_le (n := 2) fp.a (by decide +kernel)) (by decide)
      · rw [fp.text_none]; exact k
    | some z =>
      refine iteF ⟨_, rfl, p, _, dx, _, _, rfl, hp, cls_Frame e, no_Frame_sender e, rfl, .inl ⟨a, rfl, fp.a.fit, a, rfl, ?_, _, rfl, ?_, ?_⟩⟩
      all_goals rw [str_nil]
      · exact fp.a.fit
      · exact Nat.le_trans (str_len_le (n := 2) fp.a (by decide +kernel)) (by decide)
      · refine ⟨_, rfl, p, _, dx, _, _, rfl, hp, cls_Frame e, no_Frame_target e, rfl, .inl ⟨z, rfl, (fp.o z rfl).fit, z, rfl, ?_, ?_⟩⟩
        · exact fp.text_fit
        · exact k
theorem d_Frame___str__ (e : Ev K mg base) : DefM P w K mg base 1 (He.ma K (He.ga K "Frame") "__str__") ["self"] (spStrF K) := by
  obtain ⟨fd, F⟩ := e.c.def_ 14 (d := dm "Frame" "__str__" "Frame.__str__" 8 7) rfl
  exact ⟨fd, ok_Frame___str__ F e, FunD.bindsN F fun _ _ _ _ _ _ us hl => match us, hl with | [_], _ => rfl⟩
theorem frame_mk (e : Ev K mg base) : ∃ fd, FnOk P w K mg base (CX P w) 3 (He.ma K (He.ga K "Frame") "__init__") fd ["self", "sender", "target"] (spFrame K) ∧ Binds K fd ["self", "sender", "target"] [] ∧ Binds K fd ["self", "sender", "target"] [.none] ∧
    KBn K fd ["self", "sender", "target"] 1 ["target", "sender"] (fun us ws => us ++ ws.reverse) (fun us ws => us ++ ws.reverse) := by
  obtain ⟨fd, F, D⟩ := d_Frame___init__ (P := P) (w := w) e
  obtain ⟨ds, v, b⟩ := FunD.binds1 (ps := ["self", "sender", "target"]) D 3 1 (by simp) rfl (fun T kV doc pm an cdv ct us its h1 h2 => match us, its, h1, h2 with
    | [_, _, _], [_], _, _ => ⟨_, rfl, rfl⟩)
  obtain ⟨ds', v', b'⟩ := FunD.binds1 (ps := ["self", "sender", "target"]) D 2 0 (by simp) rfl (fun T kV doc pm an cdv ct us its h1 h2 => match us, its, h1, h2 with
    | [_, _], [_], _, _ => ⟨_, rfl, rfl⟩)
  obtain ⟨its, kb⟩ := FunD.kbindsD (ps := ["self", "sender", "target"]) D 1 ["target", "sender"] (fun us its ws => us ++ ws.reverse) (by simp) (fun r1 _ r3 => r1.append r3.reverse) (fun T kV doc pm an cdv ct us its ws h1 h2 h3 => match us, its, ws, h1, h2, h3 with
    | [_], [_], [_, _], _, _, _ => ⟨_, rfl, rfl⟩)
  cases v
  cases v' with
  | cons r1 r2 =>
    cases r2
    cases r1
    exact ⟨fd, F, b, b', kb⟩
section
variable {X : Cx} {a b : Expr} {ta : TA} {p pos : Pos} {E : XK}
/-- Frame(a, b), Frame(a), Frame(target=b, sender=a) -/
theorem pe_frame2 (e : Ev X.K X.mg X.base) (hr : Room 4 X.A) (hx : Passes (CX X.prog X.w) X E) (hg : Gl X "Frame") (ha : PA X [a, b] ta) (he : starEach [a, b] X.env = (false, eval a X.env) :: starEach [b] X.env := by rfl) (hpl : (backTo pos (starEach [b] X.env)).any (·.1) = false := by rfl) :
    PE X (.Call (.Name "Frame" p) [a, b] [] pos) (tMake (He.ga X.K "Frame") (spFrame X.K) [] E ta) := by
  obtain ⟨fd, F, b, _, _⟩ := frame_mk (P := X.prog) (w := X.w) e
  exact pe_make (mk_Frame e) F hr hg (g_Frame e) b .nil hx ha (by decide) he hpl
theorem pe_frame1 (e : Ev X.K X.mg X.base) (hr : Room 4 X.A) (hx : Passes (CX X.prog X.w) X E) (hg : Gl X "Frame") (ha : PA X [a] ta) (he : starEach [a] X.env = (false, eval a X.env) :: starEach [] X.env := by rfl) (hpl : (backTo pos (starEach [] X.env)).any (·.1) = false := by rfl) :
    PE X (.Call (.Name "Frame" p) [a] [] pos) (tMake (He.ga X.K "Frame") (spFrame X.K) [.non] E ta) := by
  obtain ⟨fd, F, _, b, _⟩ := frame_mk (P := X.prog) (w := X.w) e
  exact pe_make (mk_Frame e) F hr hg (g_Frame e) b (.cons rfl .nil) hx ha (by decide) he hpl
theorem pe_frameK (e : Ev X.K X.mg X.base) (hr : Room 4 X.A) (hx : Passes (CX X.prog X.w) X E) (hg : Gl X "Frame") {p1 p2 : Pos} (ha : PK X [⟨some "target", b, p1⟩, ⟨some "sender", a, p2⟩] ta) (hall : (backToKw pos (keywordEach [⟨some "target", b, p1⟩, ⟨some "sender", a, p2⟩] X.env)).all (·.1.isSome) = true := by rfl) (hks : (backToKw pos (keywordEach [⟨some "target", b, p1⟩, ⟨some "sender", a, p2⟩] X.env)).filterMap (·.1) = (["target", "sender"] : List Str) := by rfl)
    (hpl : ((backTo pos (starEach [] X.env)).any (·.1) || (backToKw pos (keywordEach [⟨some "target", b, p1⟩, ⟨some "sender", a, p2⟩] X.env)).any (·.1.isNone)) = false := by rfl) :
    PE X (.Call (.Name "Frame" p) [] [⟨some "target", b, p1⟩, ⟨some "sender", a, p2⟩] pos) (tMakeK (He.ga X.K "Frame") 0 2 (spFrame X.K) (fun us ws => us ++ ws.reverse) E tNil ta) := by
  obtain ⟨fd, F, _, _, kb⟩ := frame_mk (P := X.prog) (w := X.w) e
  exact pe_makeK0 (mk_Frame e) F hr hg (g_Frame e) kb hx ha hall hks (by decide) hpl
end

def spOdd (K : PySem.W.Frag) : Sp := fun vs H Q _ => ∃ (p c : Addr) (ms : List Int) (t : Nat) (z : Int), vs = [.ref p] ∧ Pen H p c ms t z ∧ t < 900000 ∧
  ∀ (v : V) (H' : Hp) (t' : Nat) (z' : Int), Kind K H' v → vnm v = false → v ≠ .non → v ≠ .ref p → But p H H' → Pen H' p c ms t' z' → t' ≤ t + 11 → Q v H'
theorem sc_law_odd : FnScope ["pen", "word", "some"] ["pen"] (defScope (top 18)) := ⟨rfl, rfl, rfl, by decide +kernel, rfl, by decide +kernel, by decide +kernel⟩
theorem ok_law_odd {fd : FuncData} (F : FunD K "_law_odd" "_law_odd" (defArgs (top 18)) (defBody (top 18)) (defScope (top 18)) [] [] (He.ga K "_law_odd") fd) (e : Ev K mg base) : FnOk P w K mg base CX0 5 (He.ga K "_law_odd") fd ["pen"] (spOdd K) := by
  refine F.ok sc_law_odd (fun vs H Q E h => ?_) (fun cdv A outer s H vs Q E hr h => ?_)
  · obtain ⟨_, _, _, _, _, rfl, _⟩ := h
    rfl
  · skip
    refine ⟨_, PSs.nox ((pss_cons (ps_set (i := 1) sc_law_odd.nd rfl (Or.inl rfl) (pe_def (d_law_name (P := P) (w := w) (K := K) (mg := mg) (base := base) e) (hr.mono (by decide)) (by rfl) (pa_cons (pv 0) pa_nil)))
      (pss_cons (ps_set (i := 2) sc_law_odd.nd rfl (Or.inl rfl) (pe_lst (pa_cons pe_str (pa_cons pe_str (pa_cons (pe_op op_add_str (pe_slice sl_str (pv 1) po_none (po_some pe_int)) pe_str) (pa_cons (pe_op op_add_str (pe_slice sl_str (pv 1) po_none (po_some pe_int)) pe_str) (pa_cons pe_str (pa_cons (pe_op op_add_str (pe_slice sl_str (pv 1) po_none (po_some pe_int)) pe_str) (pa_cons pe_str (pa_cons pe_str (pa_cons (pe_op op_add_str (pe_slice sl_str (pv 1) po_none (po_some pe_int)) pe_str) pa_nil)))))))))))
      (pss_one (ps_ret (pe_def (d_law_pick (P := P) (w := w) (K := K) (mg := mg) (base := base) e) (hr.mono (by decide)) (by rfl) (pa_cons (pv 0) (pa_cons (pe_op op_cat (pv 2) (pe_lst (pa_cons pe_bl (pa_cons pe_bl (pa_cons pe_int (pa_cons pe_int (pa_cons (pe_tup (pa_cons (pv 1) pa_nil)) (pa_cons (pe_lst (pa_cons (pv 1) pa_nil)) (pa_cons pe_dnewK (pa_cons (pe_tup pa_nil) (pa_cons (pe_frame1 e (hr.mono (by decide)) passNo rfl (pa_cons (pv 1) pa_nil)) pa_nil))))))))))) pa_nil)))))))), ?_⟩
    obtain ⟨p, c, ms, t, z, rfl, hP, ht, k⟩ := h
    refine ⟨_, rfl, p, c, ms, t, z, rfl, hP, by omega, fun x H1 t1 z1 hx b1 P1 ht1 => ?_⟩
    refine ⟨_, rfl, 7, rfl, x, rfl, hx.fit, _, _, rfl, rfl, cut7 hx 7 (by decide +kernel), ?_⟩
    refine ⟨_, rfl, 6, rfl, x, rfl, hx.fit, _, _, rfl, rfl, cut7 hx 6 (by decide +kernel), ?_⟩
    refine ⟨_, rfl, 7, rfl, x, rfl, hx.fit, _, _, rfl, rfl, cut7 hx 7 (by decide +kernel), ?_⟩
    refine ⟨_, rfl, 7, rfl, x, rfl, hx.fit, _, _, rfl, rfl, cut7 hx 7 (by decide +kernel), ?_⟩
    refine ⟨by show 9 ≤ sizeLine; decide, fun q hq => ?_⟩
    refine ⟨_, rfl, _, rfl, _, rfl, by show 1 ≤ sizeLine; decide, fun a1 h1 => ?_⟩
    refine ⟨_, rfl, by show 1 ≤ sizeLine; decide, fun a2 h2 => ?_⟩
    refine fun a3 h3 => ?_
    refine ⟨by show 0 ≤ sizeLine; decide, fun a4 h4 => ?_⟩
    refine ⟨_, rfl, ?_⟩
    dsimp only [tNil]
    refine frame_new (K := K) (o := none) ⟨hx, nofun⟩ nofun fun a5 H2 s2 h5 fr => ?_
    refine ⟨by show 9 ≤ sizeLine; decide, fun a6 h6 => ?_⟩
    have S4 := same_new h4 (o := .tup [])
    have S3 := (same_new h3 (o := .dK [])).trans S4
    have S2 := (same_new h2 (o := .lst [.str x])).trans S3
    have S1 := (same_new h1 (o := .tup [.str x])).trans S2
    have E0' := S1.trans s2 _ _ upd_same
    have E1 := S2.trans s2 _ _ upd_same
    have E2 := S3.trans s2 _ _ upd_same
    have E3 := S4.trans s2 _ _ upd_same
    have E4 := s2 _ _ upd_same
    have SQ := (same_new hq (o := .lst [.str "", .str "A", .str (cutS x none (some 7) ++ "1"), .str (cutS x none (some 6) ++ " a"), .str "abcdefghi", .str (cutS x none (some 7) ++ "\n"), .str "*", .str "-", .str (cutS x none (some 7) ++ ",")])).trans (S1.trans s2)
    refine ⟨q, a6, _, _, rfl, rfl, (by rw [upd_ne (ne_of_none E0' h6)]; exact E0'), upd_same, by show 18 ≤ sizeLine; decide, fun r hr => ?_⟩
    have S6 := (same_new h6 (o := .lst [.bl true, .bl false, .int 0, .int 7, .ref a1, .ref a2, .ref a3, .ref a4, .ref a5])).trans (same_new hr (o := .lst ([.str "", .str "A", .str (cutS x none (some 7) ++ "1"), .str (cutS x none (some 6) ++ " a"), .str "abcdefghi", .str (cutS x none (some 7) ++ "\n"), .str "*", .str "-", .str (cutS x none (some 7) ++ ",")] ++ [.bl true, .bl false, .int 0, .int 7, .ref a1, .ref a2, .ref a3, .ref a4, .ref a5])))
    have SF := SQ.trans S6
    refine ⟨p, c, r, ms, t1, z1, _, rfl, P1.same SF, by omega, SqL.of upd_same, ne_pen P1 (SQ.trans (same_new h6)) hr, by simp, by show 18 < 1000000; decide, fun v H' t' z' hv b' P' ht' => ?_⟩
    have at_ : ∀ (b : Addr) (o : HO), b ≠ p → H2 b = some o → H' b = some o := fun b o n e => b' b o n (S6 _ _ e)
    have n1 := ne_pen P1 (same_new hq) h1
    have n2 := ne_pen P1 ((same_new hq).trans (same_new h1)) h2
    have n3 := ne_pen P1 (((same_new hq).trans (same_new h1)).trans (same_new h2)) h3
    have n4 := ne_pen P1 ((((same_new hq).trans (same_new h1)).trans (same_new h2)).trans (same_new h3)) h4
    have n5 := ne_pen P1 (((((same_new hq).trans (same_new h1)).trans (same_new h2)).trans (same_new h3)).trans (same_new h4)) h5
    obtain ⟨_, dx, E5⟩ := fr
    have key : Kind K H' v ∧ vnm v = false ∧ v ≠ .non ∧ v ≠ .ref p := by
      rcases List.mem_append.mp hv with hv | hv <;> simp only [List.mem_cons, List.not_mem_nil, or_false] at hv
      · rcases hv with rfl | rfl | rfl | rfl | rfl | rfl | rfl | rfl | rfl
        · exact ⟨.inl ⟨_, rfl, by decide +kernel⟩, by decide +kernel, nofun, nofun⟩
        · exact ⟨.inl ⟨_, rfl, by decide +kernel⟩, by decide +kernel, nofun, nofun⟩
        · exact ⟨kind_cut hx 7 (by decide +kernel), not_nm (b := 49) (by decide +kernel) (by omega), nofun, nofun⟩
        · exact ⟨kind_cut hx 6 (by decide +kernel), not_nm (b := 32) (by decide +kernel) (by omega), nofun, nofun⟩
        · exact ⟨.inl ⟨_, rfl, by decide +kernel⟩, by decide +kernel, nofun, nofun⟩
        · exact ⟨kind_cut hx 7 (by decide +kernel), not_nm (b := 10) (by decide +kernel) (by omega), nofun, nofun⟩
        · exact ⟨.inl ⟨_, rfl, by decide +kernel⟩, by decide +kernel, nofun, nofun⟩
        · exact ⟨.inl ⟨_, rfl, by decide +kernel⟩, by decide +kernel, nofun, nofun⟩
        · exact ⟨kind_cut hx 7 (by decide +kernel), not_nm (b := 44) (by decide +kernel) (by omega), nofun, nofun⟩
      · rcases hv with rfl | rfl | rfl | rfl | rfl | rfl | rfl | rfl | rfl
        · exact ⟨kind_t (.bl _) (by decide +kernel), rfl, nofun, nofun⟩
        · exact ⟨kind_t (.bl _) (by decide +kernel), rfl, nofun, nofun⟩
        · exact ⟨kind_t (.int _) (by decide +kernel), rfl, nofun, nofun⟩
        · exact ⟨kind_t (.int _) (by decide +kernel), rfl, nofun, nofun⟩
        · exact ⟨kind_t (.tup (at_ _ _ n1 E1)) (by decide +kernel), rfl, nofun, fun q => n1 (V.ref.inj q)⟩
        · exact ⟨kind_t (.lst (at_ _ _ n2 E2)) (by decide +kernel), rfl, nofun, fun q => n2 (V.ref.inj q)⟩
        · exact ⟨kind_t (.dK (at_ _ _ n3 E3)) (by decide +kernel), rfl, nofun, fun q => n3 (V.ref.inj q)⟩
        · exact ⟨kind_t (.tup (at_ _ _ n4 E4)) (by decide +kernel), rfl, nofun, fun q => n4 (V.ref.inj q)⟩
        · exact ⟨.inr ⟨_, (own_Frame e).ty (cls_Frame e) (at_ _ _ n5 E5), (own_Frame e).ik _ (by simp [kinds])⟩, rfl, nofun, fun q => n5 (V.ref.inj q)⟩
    exact k v H' t' z' key.1 key.2.1 key.2.2.1 key.2.2.2 (b1.trans ((Same.but SF).trans b')) P' (by omega)
theorem d_law_odd (e : Ev K mg base) : DefN P w K mg base 5 "_law_odd" ["pen"] (spOdd K) := by
  obtain ⟨fd, F⟩ := e.c.def_ 15 (d := dd "_law_odd" 18) rfl
  exact ⟨⟨fd, ok_law_odd F e, FunD.bindsN F fun _ _ _ _ _ _ us hl => match us, hl with | [_], _ => rfl⟩, F.kp, He.glo_ok e.X e.G (e.c.fact 30 rfl)⟩
theorem sc_law_heard : FnScope ["ask", "caught", "found", "error"] ["ask"] (defScope (top 19)) := ⟨rfl, rfl, rfl, by decide +kernel, rfl, by decide +kernel, by decide +kernel⟩
theorem heard_gives {X : Cx} (e : Ev X.K X.mg X.base) {g : Addr} {cdg : Value} {q : Str} : LamX.GivesTo X ["ask", "caught", "found", "error"] "_law_heard" (defScope (top 19)) g cdg (defBody (top 19)) "ask" q (TTheard X.K "BadFrame" "part") := by
  intro f c' s H Q tl act hc h
  have nd := sc_law_heard.nd
  refine ⟨_, pss_cons (ps_asg (pe_tup (pa_cons pe_non (pa_cons pe_non pa_nil))) (pg_tup (by rfl) (pgs_cons (pg_name (i := 1) nd rfl (Or.inl rfl)) (pgs_cons (pg_name (i := 2) nd rfl (Or.inl rfl)) pgs_nil))))
    (C8.pss_cut (ps_try_keep (Wout := fun _ _ _ _ => False) (c := .ref (He.ga X.K "SeenError")) (i := 3) (tb := fun W => tAsk 4 2 f c' q tl W) rfl rfl rfl nd rfl rfl ⟨rfl, by decide, .inl (g_SeenError e)⟩ takes0
        (fun W pn xe tk _ => ps_ask (by rfl) (fun te h => ps_set (i := 2) nd rfl (Or.inl rfl) h) (fun E hW => act _ pn xe E _ _ (takes_len tk) hW))
        (fun a oe cls d pn _ _ => pss_one (ps_set (i := 1) nd rfl (Or.inl rfl) (pv 3))))
      (pss_cons (ps_if (pt_cmpR op_isN (pv 1) pe_non (nomark _)) (pss_one (ps_ret (pe_lst (pa_cons (pv 2) pa_nil)))) pss_nil)
        (pss_one (ps_ret (pe_ifExp (pt_val (pe_callB (kcall_isX (K := X.K)) (by rfl) (f_isinstance e) (by decide +kernel) (pa_cons (pv 1) (pa_cons (pe_glob (by rfl) (g_BadFrame e) (show RelV (.ref (He.ga X.K "BadFrame")) (.ref (He.ga X.K "BadFrame")) from rfl)) pa_nil)))) (pe_xk (K := X.K) (pv 1)) pe_str))))), ?_⟩
  refine ⟨by show 2 ≤ sizeLine; decide, fun t ht => ⟨t, _, rfl, SqT.of upd_same, rfl, _, _, rfl, _, _, rfl, rfl, ?_⟩⟩
  obtain ⟨E, Q0, h1, h2, h3⟩ := h _ (same_new (o := .tup [.non, .non]) ht)
  refine ⟨fun σ' H' => (∃ v, σ' = [some (.ref f), some .non, some v, none] ∧ ∀ l, H' l = none → Q (.ref l) (upd H' l (.lst [v]))) ∨
      ∃ (a dd : Addr) (v : V) (s0 s2 : Option V), σ' = [s0, some (.ref a), s2, none] ∧ H' a = some (ExK (.ref (He.ga X.K "BadFrame")) (some dd) a) ∧ H' dd = some (.xd [("part", v)]) ∧ Q v H', ?_, ?_⟩
  · refine ⟨E, Q0, fun cls d σ' H' eh hl => ?_, rfl, (by rw [upd_ne (ne_of_none hc ht)]; exact hc), h1, fun v H1 q => .inl ⟨v, rfl, h3 v H1 q⟩⟩
    obtain ⟨rfl, dd, v, rfl, hdd, hk⟩ := h2 cls d H' eh
    refine ⟨true, exm_BadFrame_SeenError e, nofun, fun _ a ha => ?_⟩
    match σ', hl with
    | [s0, s1, s2, s3], _ => exact ⟨_, rfl, .inr ⟨a, dd, v, s0, s2, rfl, upd_same, by rw [upd_ne (ne_of_none hdd ha)]; exact hdd, hk _ (same_new ha)⟩⟩
  · rintro σ' H' (⟨v, rfl, hk⟩ | ⟨a, dd, v, s0, s2, rfl, ha, hdd, hk⟩)
    · exact ⟨_, rfl, rfl, _, rfl, iteT ⟨_, rfl, by show 1 ≤ sizeLine; decide, hk⟩⟩
    · refine ⟨_, rfl, rfl, _, rfl, iteF ?_⟩
      refine ⟨_, rfl, .inr ⟨a, _, _, _, _, true, rfl, ha, (fun d2 z => by cases z; exact ⟨_, hdd⟩), (err_BadFrame e).xc, .own _, kit_same, _, rfl, iteT ?_⟩⟩
      exact ⟨_, rfl, a, _, dd, _, v, rfl, ha, hdd, (err_BadFrame e).xf, no_BadFrame_part e, rfl, hk⟩
theorem pe_heard {X : Cx} (e : Ev X.K X.mg X.base) {k : Nat} {p : He.Defn} (hp : p ∈ tf) {params : Arguments} {body : Expr} {scope : Scope} {t : XK → TE} {p1 lpos pos : Pos} (hcode : X.env.code = .ref (He.codeOf X.K p)) (hr : Room (k + 2) X.A) (hg : Gl X "_law_heard") (L : LamX.LamS X.env.scope scope) (hdef : defaultsOf params X.env = ([], []))
    (hbind : ∀ (q : Str) (cl : List (Str × Addr)) (pm cv ctv : Value), bindArgs (PySem.W.kla_fn "<lambda>" q params body scope cl pm cv ctv) ⟨[], []⟩ = pure [])
    (hbody : ∀ (A : Around) (outer : List Env) (s : Shared) (H : Hp) (E : XK) (f c' : Addr), Room k (A.deeper (LamX.lamEnv X scope s.heap.objs.size f c')) → PE (LamX.lamCx X A outer s H E scope f c') body (t E)) :
    PE X (.Call (.Name "_law_heard" p1) [.Lambda params body scope lpos] [] pos) (LamX.tLam [((He.cT X.K p).2, X.env.qual ++ "<lambda>")] (TTheard X.K "BadFrame" "part") t) := by
  obtain ⟨fd, F⟩ := e.c.def_ 16 (d := dd "_law_heard" 19) rfl
  obtain ⟨oc, od, dV, kV, doc, pm, an, cdv, ct, osl, hfd, lk, hcd, _, _⟩ := F.ex
  subst hfd
  have hb : Binds X.K _ ["ask"] [] := FunD.bindsN (ps := ["ask"]) F fun _ _ _ _ _ _ us hl => match us, hl with | [_], _ => rfl
  exact LamX.pe_lamcall (k := k) (Ng := ["ask", "caught", "found", "error"]) (a := "ask") hg (g_law_heard e) F.kp lk hcd hb sc_law_heard rfl (.inl rfl) (heard_gives e) (e.tb _ (List.mem_map.mpr ⟨p, hp, rfl⟩)) hcode (List.mem_cons_self ..) (fun q hq _ => by
    simp at hq
    rw [hq]) hr L hdef hbind hbody
theorem pe_heardF2 {X : Cx} (e : Ev X.K X.mg X.base) {p : He.Defn} (hp : p ∈ tf) {params : Arguments} {a b : Expr} {scope : Scope} {ta : TA} {p1 p2 p3 lpos pos : Pos} (hcode : X.env.code = .ref (He.codeOf X.K p)) (hr : Room 6 X.A) (hg : Gl X "_law_heard") (L : LamX.LamS X.env.scope scope) (hF : scope.names.lookup ("Frame" : Str) = some .globalImplicit) (hdef : defaultsOf params X.env = ([], []))
    (hbind : ∀ (q : Str) (cl : List (Str × Addr)) (pm cv ctv : Value), bindArgs (PySem.W.kla_fn "<lambda>" q params (.Call (.Name "Frame" p2) [a, b] [] p3) scope cl pm cv ctv) ⟨[], []⟩ = pure [])
    (he : ∀ env, starEach [a, b] env = (false, eval a env) :: starEach [b] env) (hpl : ∀ env, (backTo p3 (starEach [b] env)).any (·.1) = false)
    (ha : ∀ (A : Around) (outer : List Env) (s : Shared) (H : Hp) (E : XK) (f c' : Addr), PA (LamX.lamCx X A outer s H E scope f c') [a, b] ta) :
    PE X (.Call (.Name "_law_heard" p1) [.Lambda params (.Call (.Name "Frame" p2) [a, b] [] p3) scope lpos] [] pos) (LamX.tLam [((He.cT X.K p).2, X.env.qual ++ "<lambda>")] (TTheard X.K "BadFrame" "part") (fun E => tMake (He.ga X.K "Frame") (spFrame X.K) [] E ta)) :=
  pe_heard e hp hcode hr hg L hdef hbind fun A outer s H E f c' hr2 => pe_frame2 (X := LamX.lamCx X A outer s H E scope f c') e hr2 (passes_call (takes_of rfl rfl rfl rfl) fun _ _ _ _ h => h) hF (ha A outer s H E f c') (he _) (hpl _)
theorem pe_heardF1 {X : Cx} (e : Ev X.K X.mg X.base) {p : He.Defn} (hp : p ∈ tf) {params : Arguments} {a : Expr} {scope : Scope} {ta : TA} {p1 p2 p3 lpos pos : Pos} (hcode : X.env.code = .ref (He.codeOf X.K p)) (hr : Room 6 X.A) (hg : Gl X "_law_heard") (L : LamX.LamS X.env.scope scope) (hF : scope.names.lookup ("Frame" : Str) = some .globalImplicit) (hdef : defaultsOf params X.env = ([], []))
    (hbind : ∀ (q : Str) (cl : List (Str × Addr)) (pm cv ctv : Value), bindArgs (PySem.W.kla_fn "<lambda>" q params (.Call (.Name "Frame" p2) [a] [] p3) scope cl pm cv ctv) ⟨[], []⟩ = pure [])
    (he : ∀ env, starEach [a] env = (false, eval a env) :: starEach [] env) (hpl : ∀ env, (backTo p3 (starEach [] env)).any (·.1) = false)
    (ha : ∀ (A : Around) (outer : List Env) (s : Shared) (H : Hp) (E : XK) (f c' : Addr), PA (LamX.lamCx X A outer s H E scope f c') [a] ta) :
    PE X (.Call (.Name "_law_heard" p1) [.Lambda params (.Call (.Name "Frame" p2) [a] [] p3) scope lpos] [] pos) (LamX.tLam [((He.cT X.K p).2, X.env.qual ++ "<lambda>")] (TTheard X.K "BadFrame" "part") (fun E => tMake (He.ga X.K "Frame") (spFrame X.K) [.non] E ta)) :=
  pe_heard e hp hcode hr hg L hdef hbind fun A outer s H E f c' hr2 => pe_frame1 (X := LamX.lamCx X A outer s H E scope f c') e hr2 (passes_call (takes_of rfl rfl rfl rfl) fun _ _ _ _ h => h) hF (ha A outer s H E f c') (he _) (hpl _)
theorem pe_heardFK {X : Cx} (e : Ev X.K X.mg X.base) {p : He.Defn} (hp : p ∈ tf) {params : Arguments} {a b : Expr} {scope : Scope} {ta : TA} {p1 p2 p3 p4 p5 lpos pos : Pos} (hcode : X.env.code = .ref (He.codeOf X.K p)) (hr : Room 6 X.A) (hg : Gl X "_law_heard") (L : LamX.LamS X.env.scope scope) (hF : scope.names.lookup ("Frame" : Str) = some .globalImplicit) (hdef : defaultsOf params X.env = ([], []))
    (hbind : ∀ (q : Str) (cl : List (Str × Addr)) (pm cv ctv : Value), bindArgs (PySem.W.kla_fn "<lambda>" q params (.Call (.Name "Frame" p2) [] [⟨some "target", b, p4⟩, ⟨some "sender", a, p5⟩] p3) scope cl pm cv ctv) ⟨[], []⟩ = pure [])
    (hall : ∀ env, (backToKw p3 (keywordEach [⟨some "target", b, p4⟩, ⟨some "sender", a, p5⟩] env)).all (·.1.isSome) = true) (hks : ∀ env, (backToKw p3 (keywordEach [⟨some "target", b, p4⟩, ⟨some "sender", a, p5⟩] env)).filterMap (·.1) = (["target", "sender"] : List Str))
    (hpl : ∀ env, ((backTo p3 (starEach [] env)).any (·.1) || (backToKw p3 (keywordEach [⟨some "target", b, p4⟩, ⟨some "sender", a, p5⟩] env)).any (·.1.isNone)) = false)
    (ha : ∀ (A : Around) (outer : List Env) (s : Shared) (H : Hp) (E : XK) (f c' : Addr), PK (LamX.lamCx X A outer s H E scope f c') [⟨some "target", b, p4⟩, ⟨some "sender", a, p5⟩] ta) :
    PE X (.Call (.Name "_law_heard" p1) [.Lambda params (.Call (.Name "Frame" p2) [] [⟨some "target", b, p4⟩, ⟨some "sender", a, p5⟩] p3) scope lpos] [] pos) (LamX.tLam [((He.cT X.K p).2, X.env.qual ++ "<lambda>")] (TTheard X.K "BadFrame" "part") (fun E => tMakeK (He.ga X.K "Frame") 0 2 (spFrame X.K) (fun us ws => us ++ ws.reverse) E tNil ta)) :=
  pe_heard e hp hcode hr hg L hdef hbind fun A outer s H E f c' hr2 => pe_frameK (X := LamX.lamCx X A outer s H E scope f c') e hr2 (passes_call (takes_of rfl rfl rfl rfl) fun _ _ _ _ h => h) hF (ha A outer s H E f c') (hall _) (hks _) (hpl _)
def lamT (K : PySem.W.Frag) : List (Addr × Str) := [((He.cT K ("_law_refused_right", none)).2, (envOfC "_law_refused_right" (defScope (top 23)) 0 0 .none).qual ++ "<lambda>")]
def spRefused (K : PySem.W.Frag) : Sp := fun vs H Q _ => ∃ (p c : Addr) (ms : List Int) (t : Nat) (z : Int) (a b : Str), vs = [.ref p, .str a, .str b] ∧ Pen H p c ms t z ∧ t < 800000 ∧ IsNm a ∧ IsNm b ∧ LamX.Tabs (lamT K) H ∧
  ∀ (H' : Hp) (t' : Nat) (z' : Int), ButT p H H' → Pen H' p c ms t' z' → t' ≤ t + 22 → LamX.Tabs (lamT K) H' → Q (.bl true) H'
theorem sc_law_refused_right : FnScope ["pen", "one", "other", "odd", "more", "heard"] ["pen", "one", "other"] (defScope (top 23)) := ⟨rfl, rfl, rfl, by decide +kernel, rfl, by decide +kernel, by decide +kernel⟩
theorem ok_law_refused_right {fd : FuncData} (F : FunD K "_law_refused_right" "_law_refused_right" (defArgs (top 23)) (defBody (top 23)) (defScope (top 23)) [] [] (He.ga K "_law_refused_right") fd) (e : Ev K mg base) : FnG P w K mg base CX0 8 (He.ga K "_law_refused_right") fd ["pen", "one", "other"] (spRefused K) := by
  refine okGC (p := ("_law_refused_right", none)) rfl F sc_law_refused_right (fun vs H Q E h => ?_) (fun A outer s H vs Q E hgu hr h => ?_)
  · obtain ⟨_, _, _, _, _, _, _, rfl, _⟩ := h
    rfl
  · skip
    refine ⟨_, PSs.nox ((pss_cons (ps_asg (pe_tup (pa_cons (pe_def (d_law_odd (P := P) (w := w) (K := K) (mg := mg) (base := base) e) (hr.mono (by decide)) (by rfl) (pa_cons (pv 0) pa_nil)) (pa_cons (pe_def (d_law_odd (P := P) (w := w) (K := K) (mg := mg) (base := base) e) (hr.mono (by decide)) (by rfl) (pa_cons (pv 0) pa_nil)) pa_nil))) (pg_tup (by rfl) (pgs_cons (pg_name (i := 3) sc_law_refused_right.nd rfl (Or.inr rfl)) (pgs_cons (pg_name (i := 4) sc_law_refused_right.nd rfl (Or.inr rfl)) pgs_nil))))
      (pss_cons (ps_set (i := 5) sc_law_refused_right.nd rfl (Or.inl rfl) (pe_lst (pa_cons (pe_heardF2 e (p := ("_law_refused_right", none)) (by simp [tf]) rfl (hr.mono (by decide)) rfl (by exact LamX.lamS_by (sc := defScope (top 23)) (by decide +kernel)) rfl rfl (fun _ _ _ _ _ => rfl) (fun _ => rfl) (fun _ => rfl) (by exact fun _ _ _ _ _ _ _ => pa_cons (pv 3) (pa_cons (pv 2) pa_nil))) pa_nil)))
      (pss_cons (ps_expr (kpe_bm (K := K) PySem.F.plainAttrs_list PySem.F.slot_list_append PySem.F.type_list_append mt_append (pv 5) (pa_cons (pe_heardF2 e (p := ("_law_refused_right", none)) (by simp [tf]) rfl (hr.mono (by decide)) rfl (by exact LamX.lamS_by (sc := defScope (top 23)) (by decide +kernel)) rfl rfl (fun _ _ _ _ _ => rfl) (fun _ => rfl) (fun _ => rfl) (by exact fun _ _ _ _ _ _ _ => pa_cons pe_non (pa_cons (pv 4) pa_nil))) pa_nil)))
      (pss_cons (ps_expr (kpe_bm (K := K) PySem.F.plainAttrs_list PySem.F.slot_list_append PySem.F.type_list_append mt_append (pv 5) (pa_cons (pe_heardF1 e (p := ("_law_refused_right", none)) (by simp [tf]) rfl (hr.mono (by decide)) rfl (by exact LamX.lamS_by (sc := defScope (top 23)) (by decide +kernel)) rfl rfl (fun _ _ _ _ _ => rfl) (fun _ => rfl) (fun _ => rfl) (by exact fun _ _ _ _ _ _ _ => pa_cons (pv 3) pa_nil)) pa_nil)))
      (pss_cons (ps_if (pt_cmpR (kop_neD (K := K) hr.units) (pv 5) (pe_op op_rep (pe_lst (pa_cons pe_str pa_nil)) pe_int) (nomark _))
      (pss_one (ps_ret pe_bl)) pss_nil)
      (pss_cons (ps_set (i := 5) sc_law_refused_right.nd rfl (Or.inl rfl) (pe_lst (pa_cons (pe_heardF2 e (p := ("_law_refused_right", none)) (by simp [tf]) rfl (hr.mono (by decide)) rfl (by exact LamX.lamS_by (sc := defScope (top 23)) (by decide +kernel)) rfl rfl (fun _ _ _ _ _ => rfl) (fun _ => rfl) (fun _ => rfl) (by exact fun _ _ _ _ _ _ _ => pa_cons (pv 1) (pa_cons (pv 4) pa_nil))) pa_nil)))
      (pss_cons (ps_expr (kpe_bm (K := K) PySem.F.plainAttrs_list PySem.F.slot_list_append PySem.F.type_list_append mt_append (pv 5) (pa_cons (pe_heardF2 e (p := ("_law_refused_right", none)) (by simp [tf]) rfl (hr.mono (by decide)) rfl (by exact LamX.lamS_by (sc := defScope (top 23)) (by decide +kernel)) rfl rfl (fun _ _ _ _ _ => rfl) (fun _ => rfl) (fun _ => rfl) (by exact fun _ _ _ _ _ _ _ => pa_cons (pv 1) (pa_cons (pv 1) pa_nil))) pa_nil)))
      (pss_cons (ps_expr (kpe_bm (K := K) PySem.F.plainAttrs_list PySem.F.slot_list_append PySem.F.type_list_append mt_append (pv 5) (pa_cons (pe_heardFK e (p := ("_law_refused_right", none)) (by simp [tf]) rfl (hr.mono (by decide)) rfl (by exact LamX.lamS_by (sc := defScope (top 23)) (by decide +kernel)) rfl rfl (fun _ _ _ _ _ => rfl) (fun _ => rfl) (fun _ => rfl) (fun _ => rfl) (by exact fun _ _ _ _ _ _ _ => pk_cons (pv 3) (pk_cons (pv 1) pk_nil))) pa_nil)))
      (pss_one (ps_ret (pe_cmpR (kop_eqD (K := K) hr.units) (pv 5) (pe_op op_rep (pe_lst (pa_cons pe_str pa_nil)) pe_int) (nomark _))))))))))))), ?_⟩
    obtain ⟨p, c, ms, t, z, a, b, rfl, hP, ht, na, nb, hT, k⟩ := h
    refine ⟨_, rfl, p, c, ms, t, z, rfl, hP, by omega, fun u H1 t1 z1 ku nu nnu npu b1 P1 ht1 => ?_⟩
    refine ⟨_, rfl, p, c, ms, t1, z1, rfl, P1, by omega, fun v H2 t2 z2 kv nv nnv npv b2 P2 ht2 => ?_⟩
    refine ⟨by show 2 ≤ sizeLine; decide, fun w hw => ⟨w, _, rfl, SqT.of upd_same, rfl, _, _, rfl, _, _, rfl, rfl, ?_⟩⟩
    have hT3 : LamX.Tabs (lamT K) (upd H2 w (.tup [u, v])) := (tabs_but (tabs_but hT hP b1) P1 b2).ext (same_new hw)
    have ku3 : Kind K (upd H2 w (.tup [u, v])) u := (ku.but b2 npu).same (same_new hw)
    have kv3 : Kind K (upd H2 w (.tup [u, v])) v := kv.same (same_new hw)
    have P3 := P2.same (same_new (o := .tup [u, v]) hw)
    have B3 : ButT p H (upd H2 w (.tup [u, v])) := (ButT.of (b1.trans b2)).trans (ButT.ofS (same_new hw))
    have bad : ∀ x, vnm (.str x) = true → tgt (.str x) u = false ∧ tgt (.str x) v = false := fun x _ => ⟨tgt_bad nnu nu, tgt_bad nnv nv⟩
    generalize upd H2 w (.tup [u, v]) = Hb at hT3 ku3 kv3 P3 B3
    refine heard_bad (K := K) (T := lamT K) "sender" hT3 (fun E H2 h => ⟨_, rfl, _, rfl, h⟩) ku3 (.str nb) (.inl ⟨rfl, nu⟩) (fun H3 e3 T3 => ?_)
    refine ⟨by show 1 ≤ sizeLine; decide, fun l hl => ?_⟩
    have R0 : Heard (lamT K) Hb _ l [.str "sender"] := Heard.new e3 T3 hl
    refine ⟨_, rfl, .inl ⟨rfl, _, SqL.of R0.a⟩, ?_⟩
    refine heard_bad (K := K) (T := lamT K) "sender" R0.t (fun E H2 h => ⟨_, rfl, h⟩) .non (kv3.ext R0.e) (.inl ⟨rfl, rfl⟩) (fun H4 e4 T4 => ⟨l, _, _, rfl, rfl, e4 _ _ R0.a nofun, by show 1 < sizeLine; decide, ?_⟩)
    have R1 : Heard (lamT K) Hb _ l [.str "sender", .str "sender"] := R0.go e4 T4
    refine ⟨_, rfl, .inl ⟨rfl, _, SqL.of R1.a⟩, ?_⟩
    refine heard_bad (K := K) (T := lamT K) "sender" R1.t (fun E H2 h => ⟨_, rfl, h⟩) (ku3.ext R1.e) .non (.inl ⟨rfl, nu⟩) (fun H5 e5 T5 => ⟨l, _, _, rfl, rfl, e5 _ _ R1.a nofun, by show 2 < sizeLine; decide, ?_⟩)
    have R2 : Heard (lamT K) Hb _ l (three "sender") := R1.go e5 T5
    refine ⟨_, rfl, by show 1 ≤ sizeLine; decide, fun q hq => ?_⟩
    refine ⟨q, 3, _, rfl, rfl, upd_same, by decide, by decide, by show 1 * 3 ≤ sizeLine; decide, fun r hr => ?_⟩
    have hl3 : upd (upd _ q (.lst [.str "sender"])) r (.lst (three "sender")) l = some (.lst (three "sender")) := ((same_new hq).trans (same_new hr)) _ _ R2.a
    refine ⟨threeD "sender", threeD "sender", three_dp hl3, three_dp upd_same, by decide +kernel, by decide +kernel, _, rfl, ?_⟩
    have ev : (threeD "sender").eqv (threeD "sender") = true := by decide +kernel
    rw [ev]
    refine iteF ?_
    have S6 := (same_new (o := .lst [.str "sender"]) hq).trans (same_new (o := .lst (three "sender")) hr)
    have e6 := R2.e.trans (extS S6)
    have T6 := R2.t.ext S6
    refine heard_bad (K := K) (T := lamT K) "target" T6 (fun E H2 h => ⟨_, rfl, _, rfl, h⟩) (.str na) (kv3.ext e6) (.inr ⟨rfl, nm_v na, (bad a (nm_v na)).2⟩) (fun H7 e7 T7 => ?_)
    refine ⟨by show 1 ≤ sizeLine; decide, fun l2 hl2 => ?_⟩
    have W0 : Heard (lamT K) Hb _ l2 [.str "target"] := Heard.new (e6.trans e7) T7 hl2
    refine ⟨_, rfl, .inl ⟨rfl, _, SqL.of W0.a⟩, ?_⟩
    refine heard_bad (K := K) (T := lamT K) "target" W0.t (fun E H2 h => ⟨_, rfl, _, rfl, h⟩) (.str na) (.str na) (.inr ⟨rfl, nm_v na, tgt_self (nm_v na)⟩) (fun H8 e8 T8 => ⟨l2, _, _, rfl, rfl, e8 _ _ W0.a nofun, by show 1 < sizeLine; decide, ?_⟩)
    have W1 : Heard (lamT K) Hb _ l2 [.str "target", .str "target"] := W0.go e8 T8
    refine ⟨_, rfl, .inl ⟨rfl, _, SqL.of W1.a⟩, ?_⟩
    refine heard_bad (K := K) (T := lamT K) "target" W1.t (fun E H2 h => ⟨_, rfl, _, rfl, rfl, rfl, h⟩) (.str na) (ku3.ext W1.e) (.inr ⟨rfl, nm_v na, (bad a (nm_v na)).1⟩) (fun H9 e9 T9 => ⟨l2, _, _, rfl, rfl, e9 _ _ W1.a nofun, by show 2 < sizeLine; decide, ?_⟩)
    have W2 : Heard (lamT K) Hb _ l2 (three "target") := W1.go e9 T9
    refine ⟨_, rfl, by show 1 ≤ sizeLine; decide, fun q2 hq2 => ?_⟩
    refine ⟨q2, 3, _, rfl, rfl, upd_same, by decide, by decide, by show 1 * 3 ≤ sizeLine; decide, fun r2 hr2 => ?_⟩
    have S8 := (same_new (o := .lst [.str "target"]) hq2).trans (same_new (o := .lst (three "target")) hr2)
    refine ⟨threeD "target", threeD "target", three_dp (S8 _ _ W2.a), three_dp upd_same, by decide +kernel, by decide +kernel, ?_⟩
    have ev2 : (threeD "target").eqv (threeD "target") = true := by decide +kernel
    rw [ev2]
    have e8 := W2.e.trans (extS S8)
    exact k _ t2 z2 (B3.trans (ButT.ofN e8)) (P3.ext e8) (by omega) (W2.t.ext S8)
theorem d_law_refused_right (e : Ev K mg base) : DefG P w K mg base 8 "_law_refused_right" ["pen", "one", "other"] (spRefused K) := by
  obtain ⟨fd, F⟩ := e.c.def_ 17 (d := dd "_law_refused_right" 23) rfl
  exact ⟨⟨fd, ok_law_refused_right F e, FunD.bindsN F fun _ _ _ _ _ _ us hl => match us, hl with | [_, _, _], _ => rfl⟩, F.kp, He.glo_ok e.X e.G (e.c.fact 32 rfl)⟩
theorem sc_law_text : FnScope ["pair"] ["pair"] (defScope (top 20)) := ⟨rfl, rfl, rfl, by decide +kernel, rfl, by decide +kernel, by decide +kernel⟩
theorem ok_law_text {fd : FuncData} (F : FunD K "_law_text" "_law_text" (defArgs (top 20)) (defBody (top 20)) (defScope (top 20)) [] [] (He.ga K "_law_text") fd) (e : Ev K mg base) : FnOk P w K mg base CX0 1 (He.ga K "_law_text") fd ["pair"] (spTextP K) := by
  refine F.ok sc_law_text (fun vs H Q E h => ?_) (fun cdv A outer s H vs Q E hr h => ?_)
  · obtain ⟨_, _, _, rfl, _⟩ := h
    rfl
  · skip
    refine ⟨_, PSs.nox ((pss_one (ps_ret (pe_op op_add_str (pe_op op_add_str (pe_ix (kix_tup (K := K)) (pv 0) pe_int (fun _ _ => rfl)) pe_str) (pe_ifExp (pt_cmpR op_isN (pe_ix (kix_tup (K := K)) (pv 0) pe_int (fun _ _ => rfl)) pe_non (nomark _)) pe_str (pe_ix (kix_tup (K := K)) (pv 0) pe_int (fun _ _ => rfl))))))), ?_⟩
    obtain ⟨q, a, o, rfl, hq, f, k⟩ := h
    refine ⟨_, rfl, q, _, 0, .str a, rfl, rfl, hq, atI_nat (j := 0) rfl, _, _, rfl, rfl, Nat.le_trans (Nat.add_le_add f.a.hi (Nat.le_refl _)) (by decide +kernel), ?_⟩
    refine ⟨_, rfl, q, _, 1, optV o, rfl, rfl, hq, atI_nat (j := 1) rfl, rfl, _, rfl, ?_⟩
    have fit : (a ++ " ").length ≤ 9 := by
      have e := f.a.hi
      rw [str_len, str_app, List.length_append, ← str_len, ← str_len]
      have e : (Str.ofString " ").length = 1 := by decide +kernel
      omega
    cases o with
    | none => exact iteT ⟨_, _, rfl, rfl, Nat.le_trans (Nat.add_le_add fit (Nat.le_refl _)) (by decide +kernel), k⟩
    | some z => exact iteF ⟨_, rfl, q, _, 1, .str z, rfl, rfl, hq, atI_nat (j := 1) rfl, _, _, rfl, rfl, Nat.le_trans (Nat.add_le_add fit (f.o z rfl).hi) (by decide), k⟩
theorem d_law_text (e : Ev K mg base) : DefN P w K mg base 1 "_law_text" ["pair"] (spTextP K) := by
  obtain ⟨fd, F⟩ := e.c.def_ 18 (d := dd "_law_text" 20) rfl
  exact ⟨⟨fd, ok_law_text F e, FunD.bindsN F fun _ _ _ _ _ _ us hl => match us, hl with | [_], _ => rfl⟩, F.kp, He.glo_ok e.X e.G (e.c.fact 33 rfl)⟩
theorem pe_isall {X : Cx} (e : Ev X.K X.mg X.base) (hr : Room 2 X.A) {x : Expr} {ta : TE} {pos : Pos} (he : PE X x ta) (hab : attributeBase x "is_to_all" X.env (eval x X.env) = eval x X.env := by rfl) : PE X (.Attribute x "is_to_all" pos) (tProp (He.ga X.K "Frame") (spAllF X.K) [] E0 ta) := by
  obtain ⟨pr, fd, F, b⟩ := d_Frame_is_to_all (P := X.prog) (w := X.w) e
  exact pe_prop he (cls_Frame e) pr F hr b .nil pass0 hab
theorem sc_law_frame_right : FnScope ["pair", "one", "other", "told", "due"] ["pair"] (defScope (top 21)) := ⟨rfl, rfl, rfl, by decide +kernel, rfl, by decide +kernel, by decide +kernel⟩
theorem ok_law_frame_right {fd : FuncData} (F : FunD K "_law_frame_right" "_law_frame_right" (defArgs (top 21)) (defBody (top 21)) (defScope (top 21)) [] [] (He.ga K "_law_frame_right") fd) (e : Ev K mg base) : FnG P w K mg base CX0 6 (He.ga K "_law_frame_right") fd ["pair"] (spFR K) := by
  refine okG F sc_law_frame_right (fun vs H Q E h => ?_) (fun cdv A outer s H vs Q E hgu hr h => ?_)
  · obtain ⟨_, _, _, rfl, _⟩ := h
    rfl
  · skip
    refine ⟨_, PSs.nox ((pss_cons (ps_set (i := 1) sc_law_frame_right.nd rfl (Or.inl rfl) (pe_frame2 e (hr.mono (by decide)) passNo rfl (pa_cons (pe_ix (kix_tup (K := K)) (pv 0) pe_int (fun _ _ => rfl)) (pa_cons (pe_ix (kix_tup (K := K)) (pv 0) pe_int (fun _ _ => rfl)) pa_nil))))
      (pss_cons (ps_set (i := 2) sc_law_frame_right.nd rfl (Or.inl rfl) (pe_frameK e (hr.mono (by decide)) passNo (by rfl) (pk_cons (pe_ix (kix_tup (K := K)) (pv 0) pe_int (fun _ _ => rfl)) (pk_cons (pe_ix (kix_tup (K := K)) (pv 0) pe_int (fun _ _ => rfl)) pk_nil))))
      (pss_cons (ps_set (i := 3) sc_law_frame_right.nd rfl (Or.inl rfl) (pe_lst (pa_cons (pe_fld (pv 1) rfl) (pa_cons (pe_fld (pv 1) rfl) (pa_cons (pe_isall e (hr.mono (by decide)) (pv 1)) (pa_cons (pe_callTy (call_strOwn (d_Frame___str__ e) (hr.mono (by decide)) (me_Frame___str__ e).at_ (me_Frame___str__ e).fn) (by rfl) (f_str e) (by decide +kernel) (pa_cons (pv 1) pa_nil)) (pa_cons (pe_callTy (call_strOwn (d_Frame___str__ e) (hr.mono (by decide)) (me_Frame___str__ e).at_ (me_Frame___str__ e).fn) (by rfl) (f_str e) (by decide +kernel) (pa_cons (pv 2) pa_nil)) (pa_cons (pe_fld (pv 2) rfl) pa_nil))))))))
      (pss_cons (ps_set (i := 4) sc_law_frame_right.nd rfl (Or.inl rfl) (pe_lst (pa_cons (pe_ix (kix_tup (K := K)) (pv 0) pe_int (fun _ _ => rfl)) (pa_cons (pe_ix (kix_tup (K := K)) (pv 0) pe_int (fun _ _ => rfl)) (pa_cons (pe_cmpR op_isN (pe_ix (kix_tup (K := K)) (pv 0) pe_int (fun _ _ => rfl)) pe_non (nomark _)) (pa_cons (pe_def (d_law_text (P := P) (w := w) (K := K) (mg := mg) (base := base) e) (hr.mono (by decide)) (by rfl) (pa_cons (pv 0) pa_nil)) (pa_cons (pe_def (d_law_text (P := P) (w := w) (K := K) (mg := mg) (base := base) e) (hr.mono (by decide)) (by rfl) (pa_cons (pv 0) pa_nil)) (pa_cons (pe_ix (kix_tup (K := K)) (pv 0) pe_int (fun _ _ => rfl)) pa_nil))))))))
      (pss_cons (ps_if (PW.pt (pw_or (pt_cmpR op_ne (pe_callB (kcall_repr (K := K) hgu (u70 hr)) (by rfl) (f_repr e) (by decide +kernel) (pa_cons (pv 3) pa_nil)) (pe_callB (kcall_repr (K := K) hgu (u70 hr)) (by rfl) (f_repr e) (by decide +kernel) (pa_cons (pv 4) pa_nil)) (nomark _)) (pw_or (pt_not (pt_cmpR (op_own (op := .Eq) (K := K) (d_Frame___eq__ e) (hr.mono (by decide)) (me_Frame___eq__ e).at_ (me_Frame___eq__ e).fn) (pv 1) (pv 2) (nomark _))) (pw_or1 (pt_cmpR (op_ownNe (K := K) (d_Frame___eq__ e) (hr.mono (by decide)) (own_Frame e).c.hm (me_Frame___eq__ e).at_ (me_Frame___eq__ e).fn (own_Frame e).ne) (pv 1) (pv 2) (nomark _))))))
      (pss_one (ps_ret pe_bl)) pss_nil)
      (pss_one (ps_ret (pe_or (pe_cmpR op_notN (pe_ix (kix_tup (K := K)) (pv 0) pe_int (fun _ _ => rfl)) pe_non (nomark _)) (pe_one (pe_cmpR (op_own (op := .Eq) (K := K) (d_Frame___eq__ e) (hr.mono (by decide)) (me_Frame___eq__ e).at_ (me_Frame___eq__ e).fn) (pe_frame1 e (hr.mono (by decide)) passNo rfl (pa_cons (pe_ix (kix_tup (K := K)) (pv 0) pe_int (fun _ _ => rfl)) pa_nil)) (pv 1) (nomark _)))))))))))), ?_⟩
    obtain ⟨q, a, o, rfl, hq, pk, k⟩ := h
    refine ⟨_, rfl, q, _, 0, .str a, rfl, rfl, hq, atI_nat (j := 0) rfl, ?_⟩
    refine ⟨_, rfl, q, _, 1, optV o, rfl, rfl, hq, atI_nat (j := 1) rfl, ?_⟩
    dsimp only [tNil]
    refine frame_new (K := K) pk.f pk.n fun p1 H1 s1 n1 fr1 => ?_
    have q1 := seqT_same s1 hq
    refine ⟨_, rfl, q, _, 1, optV o, rfl, rfl, q1, atI_nat (j := 1) rfl, ?_⟩
    refine ⟨_, rfl, q, _, 0, .str a, rfl, rfl, q1, atI_nat (j := 0) rfl, rfl, rfl, ?_⟩
    refine frame_new (K := K) pk.f pk.n fun p2 H2 s2 n2 fr2 => ?_
    have q2 := seqT_same s2 q1
    have fr1 := fr1.same s2
    obtain ⟨f1, dx1, e1⟩ := id fr1
    obtain ⟨f2, dx2, e2⟩ := id fr2
    refine ⟨_, rfl, p1, _, dx1, _, _, rfl, e1, cls_Frame e, no_Frame_sender e, rfl, ?_⟩
    refine ⟨_, rfl, p1, _, dx1, _, _, rfl, e1, cls_Frame e, no_Frame_target e, rfl, ?_⟩
    refine ⟨_, rfl, p1, dx1, _, rfl, e1, p1, a, o, rfl, fr1, ?_⟩
    refine ⟨_, rfl, p1, dx1, _, rfl, e1, p1, a, o, rfl, fr1, _, rfl, ?_⟩
    refine ⟨_, rfl, p2, dx2, _, rfl, e2, p2, a, o, rfl, fr2, _, rfl, ?_⟩
    refine ⟨_, rfl, p2, _, dx2, _, _, rfl, e2, cls_Frame e, no_Frame_target e, rfl, ?_⟩
    refine ⟨by show 6 ≤ sizeLine; decide, fun l hl => ?_⟩
    have q3 := seqT_same (same_new (o := .lst [.str a, optV o, .bl (decide (optV o = .non)), .str (textF a o), .str (textF a o), optV o]) hl) q2
    refine ⟨_, rfl, q, _, 0, .str a, rfl, rfl, q3, atI_nat (j := 0) rfl, ?_⟩
    refine ⟨_, rfl, q, _, 1, optV o, rfl, rfl, q3, atI_nat (j := 1) rfl, ?_⟩
    refine ⟨_, rfl, q, _, 1, optV o, rfl, rfl, q3, atI_nat (j := 1) rfl, rfl, ?_⟩
    refine ⟨_, rfl, q, a, o, rfl, q3, pk.f, ?_⟩
    refine ⟨_, rfl, q, a, o, rfl, q3, pk.f, ?_⟩
    refine ⟨_, rfl, q, _, 1, optV o, rfl, rfl, q3, atI_nat (j := 1) rfl, ?_⟩
    refine ⟨by show 6 ≤ sizeLine; decide, fun m hm => ?_⟩
    have S4 := (same_new (o := .lst [.str a, optV o, .bl (decide (optV o = .non)), .str (textF a o), .str (textF a o), optV o]) hl).trans (same_new (o := .lst [.str a, optV o, .bl (decide (optV o = .non)), .str (textF a o), .str (textF a o), optV o]) hm)
    have tx := textF_ok pk.f
    have dps : ∀ {H : Hp}, DpAll K H [.str a, optV o, .bl (decide (optV o = .non)), .str (textF a o), .str (textF a o), optV o] [.str a, optD o, .bool (decide (optV o = .non)), .str (textF a o), .str (textF a o), optD o] := fun {H} => .cons (.str _) (.cons dp_opt (.cons (.bl _) (.cons (.str _) (.cons (.str _) (.cons dp_opt .nil)))))
    refine ⟨_, rfl, _, frD a o (decide (optV o = .non)) (textF a o), rfl, .lst (SqL.of (by rw [upd_ne (ne_of_none upd_same hm)]; exact upd_same)) dps, frD_show, frD_dict, frD_deep, shown_fit (frD_lay pk.f tx.1 tx.2) frD_short, ?_⟩
    refine ⟨_, rfl, _, frD a o (decide (optV o = .non)) (textF a o), rfl, .lst (SqL.of upd_same) dps, frD_show, frD_dict, frD_deep, shown_fit (frD_lay pk.f tx.1 tx.2) frD_short, ?_⟩
    refine ⟨rfl, _, rfl, ite2 (fun he => by simp at he) fun _ => ?_⟩
    have E1 := S4 _ _ e1
    have E2 := S4 _ _ e2
    have F1 := fr1.same S4
    have F2 := fr2.same S4
    refine ⟨_, rfl, _, rfl, p1, dx1, _, _, rfl, E1, (own_Frame e).ty (cls_Frame e) E2, first_same, p1, _, a, o, rfl, F1, .inl ⟨p2, a, o, rfl, F2, fun H5 s5 => ⟨_, rfl, _, rfl, ?_⟩⟩⟩
    rw [eq2_refl]
    refine iteF ?_
    refine ⟨_, rfl, _, rfl, p1, dx1, _, _, rfl, s5 _ _ E1, (own_Frame e).ty (cls_Frame e) (s5 _ _ E2), first_same, p1, _, a, o, rfl, F1.same s5, .inl ⟨p2, a, o, rfl, F2.same s5, fun H6 s6 => ⟨_, rfl, _, rfl, ?_⟩⟩⟩
    rw [eq2_refl]
    refine iteF ?_
    have S6 := (S4.trans s5).trans s6
    have q6 := seqT_same S6 q2
    have SE := (s1.trans s2).trans S6
    refine ⟨_, rfl, q, _, 1, optV o, rfl, rfl, q6, atI_nat (j := 1) rfl, rfl, _, rfl, ?_⟩
    cases o with
    | some z => exact iteT (k _ SE)
    | none =>
      refine iteF ⟨_, rfl, q, _, 0, .str a, rfl, rfl, q6, atI_nat (j := 0) rfl, ?_⟩
      dsimp only [tNil]
      refine frame_new (K := K) (o := none) pk.f pk.n fun p3 H7 s7 n7 fr3 => ?_
      obtain ⟨f3, dx3, e3⟩ := id fr3
      refine ⟨_, rfl, p3, dx3, _, _, rfl, e3, (own_Frame e).ty (cls_Frame e) (s7 _ _ (s6 _ _ (s5 _ _ E1))), first_same, p3, _, a, none, rfl, fr3, .inl ⟨p1, a, none, rfl, ((F1.same s5).same s6).same s7, fun H8 s8 => ⟨_, rfl, ?_⟩⟩⟩
      rw [eq2_refl]
      exact k _ ((SE.trans s7).trans s8)
theorem d_law_frame_right (e : Ev K mg base) : DefG P w K mg base 6 "_law_frame_right" ["pair"] (spFR K) := by
  obtain ⟨fd, F⟩ := e.c.def_ 19 (d := dd "_law_frame_right" 21) rfl
  exact ⟨⟨fd, ok_law_frame_right F e, FunD.bindsN F fun _ _ _ _ _ _ us hl => match us, hl with | [_], _ => rfl⟩, F.kp, He.glo_ok e.X e.G (e.c.fact 34 rfl)⟩
theorem sc_law_order_right : FnScope ["pairs", "one", "other", "left", "right", "mine", "yours", "told", "due"] ["pairs"] (defScope (top 22)) := ⟨rfl, rfl, rfl, by decide +kernel, rfl, by decide +kernel, by decide +kernel⟩
theorem ok_law_order_right {fd : FuncData} (F : FunD K "_law_order_right" "_law_order_right" (defArgs (top 22)) (defBody (top 22)) (defScope (top 22)) [] [] (He.ga K "_law_order_right") fd) (e : Ev K mg base) : FnG P w K mg base CX0 6 (He.ga K "_law_order_right") fd ["pairs"] (spOR K) := by
  refine okG F sc_law_order_right (fun vs H Q E h => ?_) (fun cdv A outer s H vs Q E hgu hr h => ?_)
  · obtain ⟨_, _, rfl, _⟩ := h
    rfl
  · skip
    refine ⟨_, PSs.nox ((pss_cons (ps_for PassesOwn.never rfl (kpi_list (K := K) (pv 0)) (pg_name (i := 1) sc_law_order_right.nd rfl (Or.inl rfl))
      (pss_one (ps_for PassesOwn.never rfl (kpi_list (K := K) (pv 0)) (pg_name (i := 2) sc_law_order_right.nd rfl (Or.inl rfl))
      (pss_cons (ps_par (i := 3) (j := 4) (by rfl) sc_law_order_right.nd rfl rfl (by decide) rfl rfl (pa_cons (pe_frame2 e (hr.mono (by decide)) passNo rfl (pa_cons (pe_ix (kix_tup (K := K)) (pv 1) pe_int (fun _ _ => rfl)) (pa_cons (pe_ix (kix_tup (K := K)) (pv 1) pe_int (fun _ _ => rfl)) pa_nil))) (pa_cons (pe_frame2 e (hr.mono (by decide)) passNo rfl (pa_cons (pe_ix (kix_tup (K := K)) (pv 2) pe_int (fun _ _ => rfl)) (pa_cons (pe_ix (kix_tup (K := K)) (pv 2) pe_int (fun _ _ => rfl)) pa_nil))) pa_nil)) (by rfl))
      (pss_cons (ps_par (i := 5) (j := 6) (by rfl) sc_law_order_right.nd rfl rfl (by decide) rfl rfl (pa_cons (pe_tup (pa_cons (pe_ix (kix_tup (K := K)) (pv 1) pe_int (fun _ _ => rfl)) (pa_cons (pe_orKey (pe_ix (kix_tup (K := K)) (pv 1) pe_int (fun _ _ => rfl))) pa_nil))) (pa_cons (pe_tup (pa_cons (pe_ix (kix_tup (K := K)) (pv 2) pe_int (fun _ _ => rfl)) (pa_cons (pe_orKey (pe_ix (kix_tup (K := K)) (pv 2) pe_int (fun _ _ => rfl))) pa_nil))) pa_nil)) (by rfl))
      (pss_cons (ps_set (i := 7) sc_law_order_right.nd rfl (Or.inl rfl) (pe_lst (pa_cons (pe_cmpR (op_own (op := .Lt) (K := K) (d_Frame___lt__ e) (hr.mono (by decide)) (me_Frame___lt__ e).at_ (me_Frame___lt__ e).fn) (pv 3) (pv 4) (nomark _)) (pa_cons (pe_cmpR (op_own (op := .LtE) (K := K) (d_Frame___le__ e) (hr.mono (by decide)) (me_Frame___le__ e).at_ (me_Frame___le__ e).fn) (pv 3) (pv 4) (nomark _)) (pa_cons (pe_cmpR (op_own (op := .Gt) (K := K) (d_Frame___gt__ e) (hr.mono (by decide)) (me_Frame___gt__ e).at_ (me_Frame___gt__ e).fn) (pv 3) (pv 4) (nomark _)) (pa_cons (pe_cmpR (op_own (op := .GtE) (K := K) (d_Frame___ge__ e) (hr.mono (by decide)) (me_Frame___ge__ e).at_ (me_Frame___ge__ e).fn) (pv 3) (pv 4) (nomark _)) (pa_cons (pe_cmpR (op_own (op := .Eq) (K := K) (d_Frame___eq__ e) (hr.mono (by decide)) (me_Frame___eq__ e).at_ (me_Frame___eq__ e).fn) (pv 3) (pv 4) (nomark _)) (pa_cons (pe_cmpR (op_ownNe (K := K) (d_Frame___eq__ e) (hr.mono (by decide)) (own_Frame e).c.hm (me_Frame___eq__ e).at_ (me_Frame___eq__ e).fn (own_Frame e).ne) (pv 3) (pv 4) (nomark _)) pa_nil))))))))
      (pss_cons (ps_set (i := 8) sc_law_order_right.nd rfl (Or.inl rfl) (pe_lst (pa_cons (pe_cmpR (op_lt2 (K := K) hr.units0) (pv 5) (pv 6) (nomark _)) (pa_cons (pe_cmpR (op_le2 (K := K) hr.units0) (pv 5) (pv 6) (nomark _)) (pa_cons (pe_cmpR (op_gt2 (K := K) hr.units0) (pv 5) (pv 6) (nomark _)) (pa_cons (pe_cmpR (op_ge2 (K := K) hr.units0) (pv 5) (pv 6) (nomark _)) (pa_cons (pe_cmpR (kop_eqD (K := K) hr.units) (pv 5) (pv 6) (nomark _)) (pa_cons (pe_cmpR (kop_neD (K := K) hr.units) (pv 5) (pv 6) (nomark _)) pa_nil))))))))
      (pss_one (ps_if (pt_cmpR op_ne (pe_callB (kcall_repr (K := K) hgu (u70 hr)) (by rfl) (f_repr e) (by decide +kernel) (pa_cons (pv 7) pa_nil)) (pe_callB (kcall_repr (K := K) hgu (u70 hr)) (by rfl) (f_repr e) (by decide +kernel) (pa_cons (pv 8) pa_nil)) (nomark _))
      (pss_one (ps_ret pe_bl)) pss_nil)))))))))
      (pss_one (ps_ret pe_bl)))), ?_⟩
    obtain ⟨l, qs, rfl, hl, hp, k⟩ := h
    refine ⟨_, rfl, l, rfl, ⟨_, hl⟩, for_list (xs := qs.map V.ref) (fun i σ H' => ∃ s1 s2 s3 s4 s5 s6 s7 s8 : Option V, σ = [some (.ref l), s1, s2, s3, s4, s5, s6, s7, s8] ∧ Same H H') ⟨_, _, _, _, _, _, _, _, rfl, Same.refl H⟩ ?_ ?_ ?_⟩
    · rintro i σ H' _ ⟨s1, s2, s3, s4, s5, s6, s7, s8, rfl, sm⟩
      exact seqL_same sm hl
    · rintro i x σ H1 hx ⟨s1, s2, s3, s4, s5, s6, s7, s8, rfl, sm1⟩
      obtain ⟨q, hq, rfl⟩ : ∃ q, q ∈ qs ∧ V.ref q = x := List.mem_map.mp (List.mem_of_getElem? hx)
      refine ⟨_, rfl, l, rfl, ⟨_, seqL_same sm1 hl⟩, for_list (xs := qs.map V.ref) (fun i σ H' => ∃ s2 s3 s4 s5 s6 s7 s8 : Option V, σ = [some (.ref l), some (.ref q), s2, s3, s4, s5, s6, s7, s8] ∧ Same H H') ⟨_, _, _, _, _, _, _, rfl, sm1⟩ ?_ ?_ ?_⟩
      · rintro i σ H' _ ⟨s2, s3, s4, s5, s6, s7, s8, rfl, sm⟩
        exact seqL_same sm hl
      · rintro j y σ H2 hy ⟨s2, s3, s4, s5, s6, s7, s8, rfl, sm2⟩
        obtain ⟨r, hr2, rfl⟩ : ∃ q, q ∈ qs ∧ V.ref q = y := List.mem_map.mp (List.mem_of_getElem? hy)
        obtain ⟨a, o, qa, pa⟩ := hp.same sm2 q hq
        obtain ⟨b, u, qb, pb⟩ := hp.same sm2 r hr2
        refine ⟨_, rfl, q, _, 0, .str a, rfl, rfl, qa, atI_nat (j := 0) rfl, ?_⟩
        refine ⟨_, rfl, q, _, 1, optV o, rfl, rfl, qa, atI_nat (j := 1) rfl, ?_⟩
        dsimp only [tNil]
        refine frame_new (K := K) pa.f pa.n fun p1 H3 s3 n3 fr1 => ?_
        have qb3 := seqT_same s3 qb
        refine ⟨_, rfl, r, _, 0, .str b, rfl, rfl, qb3, atI_nat (j := 0) rfl, ?_⟩
        refine ⟨_, rfl, r, _, 1, optV u, rfl, rfl, qb3, atI_nat (j := 1) rfl, ?_⟩
        refine frame_new (K := K) pb.f pb.n fun p2 H4 s4 n4 fr2 => ?_
        have fr1 := fr1.same s4
        obtain ⟨f1, dx1, e1⟩ := id fr1
        obtain ⟨f2, dx2, e2⟩ := id fr2
        have qa4 := seqT_same (s3.trans s4) qa
        have qb4 := seqT_same (s3.trans s4) qb
        refine ⟨_, _, rfl, ?_⟩
        refine ⟨_, rfl, q, _, 0, .str a, rfl, rfl, qa4, atI_nat (j := 0) rfl, ?_⟩
        refine ⟨_, rfl, q, _, 1, optV o, rfl, rfl, qa4, atI_nat (j := 1) rfl, a, o, rfl, pa.f, ?_⟩
        refine ⟨by show 2 ≤ sizeLine; decide, fun t1 h1 => ?_⟩
        have qb5 := seqT_same (same_new (o := .tup [.str a, .str (kOf o)]) h1) qb4
        refine ⟨_, rfl, r, _, 0, .str b, rfl, rfl, qb5, atI_nat (j := 0) rfl, ?_⟩
        refine ⟨_, rfl, r, _, 1, optV u, rfl, rfl, qb5, atI_nat (j := 1) rfl, b, u, rfl, pb.f, ?_⟩
        refine ⟨by show 2 ≤ sizeLine; decide, fun t2 h2 => ?_⟩
        refine ⟨_, _, rfl, ?_⟩
        have sc := (same_new (o := .tup [.str a, .str (kOf o)]) h1).trans (same_new (o := .tup [.str b, .str (kOf u)]) h2)
        have T1 : upd (upd H4 t1 (.tup [.str a, .str (kOf o)])) t2 (.tup [.str b, .str (kOf u)]) t1 = some (.tup [.str a, .str (kOf o)]) := by rw [upd_ne (ne_of_none upd_same h2)]; exact upd_same
        have T2 : upd (upd H4 t1 (.tup [.str a, .str (kOf o)])) t2 (.tup [.str b, .str (kOf u)]) t2 = some (.tup [.str b, .str (kOf u)]) := upd_same
        have E1 := sc _ _ e1
        have E2 := sc _ _ e2
        have F1 := fr1.same sc
        have F2 := fr2.same sc
        have base := ((sm2.trans s3).trans s4).trans sc
        generalize upd (upd H4 t1 (.tup [.str a, .str (kOf o)])) t2 (.tup [.str b, .str (kOf u)]) = H6 at T1 T2 E1 E2 F1 F2 base
        have sc := Same.refl H6
        refine ⟨_, rfl, _, rfl, p1, dx1, _, _, rfl, sc _ _ E1, (own_Frame e).ty (cls_Frame e) (sc _ _ E2), first_same, p1, p2, a, b, o, u, rfl, F1.same sc, F2.same sc, fun H' s' => ⟨_, rfl, ?_⟩⟩
        have sc := sc.trans s'
        refine ⟨_, rfl, _, rfl, p1, dx1, _, _, rfl, sc _ _ E1, (own_Frame e).ty (cls_Frame e) (sc _ _ E2), first_same, p1, p2, a, b, o, u, rfl, F1.same sc, F2.same sc, fun H' s' => ⟨_, rfl, ?_⟩⟩
        have sc := sc.trans s'
        refine ⟨_, rfl, _, rfl, p1, dx1, _, _, rfl, sc _ _ E1, (own_Frame e).ty (cls_Frame e) (sc _ _ E2), first_same, p1, p2, a, b, o, u, rfl, F1.same sc, F2.same sc, fun H' s' => ⟨_, rfl, ?_⟩⟩
        have sc := sc.trans s'
        refine ⟨_, rfl, _, rfl, p1, dx1, _, _, rfl, sc _ _ E1, (own_Frame e).ty (cls_Frame e) (sc _ _ E2), first_same, p1, p2, a, b, o, u, rfl, F1.same sc, F2.same sc, fun H' s' => ⟨_, rfl, ?_⟩⟩
        have sc := sc.trans s'
        refine ⟨_, rfl, _, rfl, p1, dx1, _, _, rfl, sc _ _ E1, (own_Frame e).ty (cls_Frame e) (sc _ _ E2), first_same, p1, _, a, o, rfl, F1.same sc, .inl ⟨p2, b, u, rfl, F2.same sc, fun H' s' => ⟨_, rfl, ?_⟩⟩⟩
        have sc := sc.trans s'
        refine ⟨_, rfl, _, rfl, p1, dx1, _, _, rfl, sc _ _ E1, (own_Frame e).ty (cls_Frame e) (sc _ _ E2), first_same, p1, _, a, o, rfl, F1.same sc, .inl ⟨p2, b, u, rfl, F2.same sc, fun H' s' => ⟨_, rfl, ?_⟩⟩⟩
        have sc := sc.trans s'
        refine ⟨by show 6 ≤ sizeLine; decide, fun m1 g1 => ?_⟩
        have sd := sc.trans (same_new (o := .lst [.bl (ord2 .Lt a (kOf o) b (kOf u)), .bl (ord2 .LtE a (kOf o) b (kOf u)), .bl (ord2 .Gt a (kOf o) b (kOf u)), .bl (ord2 .GtE a (kOf o) b (kOf u)), .bl (eq2 a (kOf o) b (kOf u)), .bl (!eq2 a (kOf o) b (kOf u))]) g1)
        refine ⟨_, rfl, _, rfl, t1, t2, a, kOf o, b, kOf u, rfl, rfl, SqT.of (sd _ _ T1), SqT.of (sd _ _ T2), ?_⟩
        refine ⟨_, rfl, _, rfl, t1, t2, a, kOf o, b, kOf u, rfl, rfl, SqT.of (sd _ _ T1), SqT.of (sd _ _ T2), ?_⟩
        refine ⟨_, rfl, _, rfl, t1, t2, a, kOf o, b, kOf u, rfl, rfl, SqT.of (sd _ _ T1), SqT.of (sd _ _ T2), ?_⟩
        refine ⟨_, rfl, _, rfl, t1, t2, a, kOf o, b, kOf u, rfl, rfl, SqT.of (sd _ _ T1), SqT.of (sd _ _ T2), ?_⟩
        refine ⟨_, rfl, _, rfl, .tuple [.str a, .str (kOf o)], .tuple [.str b, .str (kOf u)], .tup (SqT.of (sd _ _ T1)) (.cons (.str _) (.cons (.str _) .nil)), .tup (SqT.of (sd _ _ T2)) (.cons (.str _) (.cons (.str _) .nil)), shaped2 pa.f.a.ok pa.f.k, shaped2 pb.f.a.ok pb.f.k, ?_⟩
        refine ⟨_, rfl, _, rfl, .tuple [.str a, .str (kOf o)], .tuple [.str b, .str (kOf u)], .tup (SqT.of (sd _ _ T1)) (.cons (.str _) (.cons (.str _) .nil)), .tup (SqT.of (sd _ _ T2)) (.cons (.str _) (.cons (.str _) .nil)), shaped2 pa.f.a.ok pa.f.k, shaped2 pb.f.a.ok pb.f.k, ?_⟩
        refine ⟨by show 6 ≤ sizeLine; decide, fun m2 g2 => ?_⟩
        obtain ⟨w1, w2, w3, w4⟩ := six_ok (ord2 .Lt a (kOf o) b (kOf u)) (ord2 .LtE a (kOf o) b (kOf u)) (ord2 .Gt a (kOf o) b (kOf u)) (ord2 .GtE a (kOf o) b (kOf u)) (eq2 a (kOf o) b (kOf u)) (!eq2 a (kOf o) b (kOf u))
        refine ⟨_, rfl, _, sixD (ord2 .Lt a (kOf o) b (kOf u)) (ord2 .LtE a (kOf o) b (kOf u)) (ord2 .Gt a (kOf o) b (kOf u)) (ord2 .GtE a (kOf o) b (kOf u)) (eq2 a (kOf o) b (kOf u)) (!eq2 a (kOf o) b (kOf u)), rfl, six_dp (by rw [upd_ne (ne_of_none upd_same g2)]; exact upd_same), w1, w2, w3, w4, ?_⟩
        refine ⟨_, rfl, _, sixD (ord2 .Lt a (kOf o) b (kOf u)) (ord2 .LtE a (kOf o) b (kOf u)) (ord2 .Gt a (kOf o) b (kOf u)) (ord2 .GtE a (kOf o) b (kOf u)) (eq2 a (kOf o) b (kOf u)) (!eq2 a (kOf o) b (kOf u)), rfl, six_dp upd_same, w1, w2, w3, w4, ?_⟩
        refine ⟨rfl, _, rfl, ite2 (fun he => by simp at he) fun _ => ?_⟩
        exact ⟨_, _, _, _, _, _, _, rfl, (base.trans sd).trans (same_new g2)⟩
      · rintro σ H' ⟨s2, s3, s4, s5, s6, s7, s8, rfl, sm⟩
        exact ⟨_, _, _, _, _, _, _, _, rfl, sm⟩
    · rintro σ H' ⟨s1, s2, s3, s4, s5, s6, s7, s8, rfl, sm⟩
      exact k _ sm
theorem d_law_order_right (e : Ev K mg base) : DefG P w K mg base 6 "_law_order_right" ["pairs"] (spOR K) := by
  obtain ⟨fd, F⟩ := e.c.def_ 20 (d := dd "_law_order_right" 22) rfl
  exact ⟨⟨fd, ok_law_order_right F e, FunD.bindsN F fun _ _ _ _ _ _ us hl => match us, hl with | [_], _ => rfl⟩, F.kp, He.glo_ok e.X e.G (e.c.fact 35 rfl)⟩
def spLaw (K : PySem.W.Frag) : Sp := fun vs H Q _ => ∃ (a : Addr) (ns : List Int), vs = [.ref a] ∧ SqL K H a (ns.map V.int) ∧ ns.length ≤ 63 ∧ (∀ p ∈ tf.map (He.cT K), H p.2 = some (.tbl #[])) ∧ ∀ H', Q (.bl true) H'
theorem sc_law : FnScope ["script", "pen", "turn", "names", "pairs", "k", "whose", "goal", "one", "others", "pair", "thing"] ["script"] (defScope (top 24)) := ⟨rfl, rfl, rfl, by decide +kernel, rfl, by decide +kernel, by decide +kernel⟩
theorem ok_law {fd : FuncData} (F : FunD K "law" "law" (defArgs (top 24)) (defBody (top 24)) (defScope (top 24)) [] [] (He.ga K "law") fd) (e : Ev K mg base) : FnG P w K mg base CX0 9 (He.ga K "law") fd ["script"] (spLaw K) := by
  refine okG F sc_law (fun vs H Q E h => ?_) (fun cdv A outer s H vs Q E hgu hr h => ?_)
  · obtain ⟨_, _, rfl, _⟩ := h
    rfl
  · skip
    refine ⟨_, PSs.nox ((pss_cons (ps_set (i := 1) sc_law.nd rfl (Or.inl rfl) (pe_def (d_law_pen (P := P) (w := w) (K := K) (mg := mg) (base := base) e) (hr.mono (by decide)) (by rfl) (pa_cons (pv 0) pa_nil)))
      (pss_cons (ps_for PassesOwn.never rfl (pi_range1 (by rfl) (f_range e) (pa_cons pe_int pa_nil)) (pg_name (i := 2) sc_law.nd rfl (Or.inl rfl))
      (pss_cons (ps_set (i := 3) sc_law.nd rfl (Or.inl rfl) (pe_def (d_law_names (P := P) (w := w) (K := K) (mg := mg) (base := base) e) (hr.mono (by decide)) (by rfl) (pa_cons (pv 1) (pa_cons (pe_op op_add pe_int (pe_def (d_law_draw (P := P) (w := w) (K := K) (mg := mg) (base := base) e) (hr.mono (by decide)) (by rfl) (pa_cons (pv 1) (pa_cons pe_int pa_nil)))) pa_nil))))
      (pss_cons (ps_set (i := 4) sc_law.nd rfl (Or.inl rfl) (pe_lst pa_nil))
      (pss_cons (ps_for PassesOwn.never rfl (pi_range1 (by rfl) (f_range e) (pa_cons (pe_op op_add pe_int (pe_def (d_law_draw (P := P) (w := w) (K := K) (mg := mg) (base := base) e) (hr.mono (by decide)) (by rfl) (pa_cons (pv 1) (pa_cons pe_int pa_nil)))) pa_nil)) (pg_name (i := 5) sc_law.nd rfl (Or.inl rfl))
      (pss_cons (ps_par (i := 6) (j := 7) (by rfl) sc_law.nd rfl rfl (by decide) rfl rfl (pa_cons (pe_def (d_law_pick (P := P) (w := w) (K := K) (mg := mg) (base := base) e) (hr.mono (by decide)) (by rfl) (pa_cons (pv 1) (pa_cons (pv 3) pa_nil))) (pa_cons (pe_def (d_law_pick (P := P) (w := w) (K := K) (mg := mg) (base := base) e) (hr.mono (by decide)) (by rfl) (pa_cons (pv 1) (pa_cons (pe_op op_cat (pv 3) (pe_lst (pa_cons pe_non pa_nil))) pa_nil))) pa_nil)) (by rfl))
      (pss_one (ps_expr (kpe_bm (K := K) PySem.F.plainAttrs_list PySem.F.slot_list_append PySem.F.type_list_append mt_append (pv 4) (pa_cons (pe_tup (pa_cons (pv 6) (pa_cons (pe_ifExp (pt_cmpR op_eq (pv 7) (pv 6) (nomark _)) pe_non (pv 7)) pa_nil))) pa_nil))))))
      (pss_cons (ps_if (PW.pt (pw_or (pt_cmpR (kop_neD (K := K) hr.units) (pe_lc (own := [("pair", 10)]) (by rfl) sc_law.nd (kpi_list (K := K) (pv 4)) (blkOk_by (own := [("pair", 10)]) (N := ["script", "pen", "turn", "names", "pairs", "k", "whose", "goal", "one", "others", "pair", "thing"]) (sc := defScope (top 24)) (by decide +kernel)) (fun _ _ _ _ _ => (pg_name (i := 10) sc_law.nd rfl (Or.inl rfl))) (fun _ _ _ _ _ => (pts_one (by exact pt_not (pt_val (pe_defG (d_law_frame_right (P := P) (w := w) (K := K) (mg := mg) (base := base) e) (by exact hgu) (by exact hr.mono (by decide)) (by rfl) (pa_cons (pv 10) pa_nil)))))) (fun _ _ _ _ _ => (pv 10))) (pe_lst pa_nil) (nomark _)) (pw_or1 (pt_not (pt_truth (pe_defG (d_law_order_right (P := P) (w := w) (K := K) (mg := mg) (base := base) e) (by exact hgu) (by exact hr.mono (by decide)) (by rfl) (pa_cons (pv 4) pa_nil)) (by intro _; rfl))))))
      (pss_one (ps_ret pe_bl)) pss_nil)
      (pss_cons (ps_if (pt_not (pt_truth (pe_defG (d_law_refused_right (P := P) (w := w) (K := K) (mg := mg) (base := base) e) (by exact hgu) (by exact hr.mono (by decide)) (by rfl) (pa_cons (pv 1) (pa_cons (pe_ix (kix_list (K := K)) (pv 3) pe_int (fun _ _ => rfl)) (pa_cons (pe_ix (kix_list (K := K)) (pv 3) pe_int (fun _ _ => rfl)) pa_nil)))) (by intro _; rfl)))
      (pss_one (ps_ret pe_bl)) pss_nil)
      (pss_cons (ps_set (i := 8) sc_law.nd rfl (Or.inr rfl) (pe_frame2 e (hr.mono (by decide)) passNo rfl (pa_cons (pe_ix (kix_tup (K := K)) (pe_ix (kix_list (K := K)) (pv 4) pe_int (fun _ _ => rfl)) pe_int (fun _ _ => rfl)) (pa_cons (pe_ix (kix_tup (K := K)) (pe_ix (kix_list (K := K)) (pv 4) pe_int (fun _ _ => rfl)) pe_int (fun _ _ => rfl)) pa_nil))))
      (pss_cons (ps_set (i := 9) sc_law.nd rfl (Or.inl rfl) (pe_lst (pa_cons (pe_ix (kix_list (K := K)) (pv 4) pe_int (fun _ _ => rfl)) (pa_cons (pe_callTy (call_strOwn (d_Frame___str__ e) (hr.mono (by decide)) (me_Frame___str__ e).at_ (me_Frame___str__ e).fn) (by rfl) (f_str e) (by decide +kernel) (pa_cons (pv 8) pa_nil)) (pa_cons pe_non (pa_cons (pe_ix (kix_tup (K := K)) (pe_ix (kix_list (K := K)) (pv 4) pe_int (fun _ _ => rfl)) pe_int (fun _ _ => rfl)) (pa_cons (pe_lst (pa_cons (pv 8) pa_nil)) (pa_cons pe_bl pa_nil))))))))
      (pss_one (ps_if (pt_cmpR (kop_neD (K := K) hr.units) (pe_lc (own := [("thing", 11)]) (by rfl) sc_law.nd (kpi_list (K := K) (pv 9)) (blkOk_by (own := [("thing", 11)]) (N := ["script", "pen", "turn", "names", "pairs", "k", "whose", "goal", "one", "others", "pair", "thing"]) (sc := defScope (top 24)) (by decide +kernel)) (fun _ _ _ _ _ => (pg_name (i := 11) sc_law.nd rfl (Or.inl rfl))) (fun _ _ _ _ _ => (pts_one (PW.pt (pw_or (pt_cmpR (op_own (op := .Eq) (K := K) (d_Frame___eq__ e) (hr.mono (by decide)) (me_Frame___eq__ e).at_ (me_Frame___eq__ e).fn) (pv 8) (pv 11) (nomark _)) (pw_or1 (pt_not (pt_cmpR (op_ownNe (K := K) (d_Frame___eq__ e) (hr.mono (by decide)) (own_Frame e).c.hm (me_Frame___eq__ e).at_ (me_Frame___eq__ e).fn (own_Frame e).ne) (pv 8) (pv 11) (nomark _)))))))) (fun _ _ _ _ _ => (pv 11))) (pe_lst pa_nil) (nomark _))
      (pss_one (ps_ret pe_bl)) pss_nil))))))))))
      (pss_one (ps_ret pe_bl))))), ?_⟩
    obtain ⟨a, ns, rfl, hS, hl, hT, k⟩ := h
    refine ⟨_, rfl, a, ns, rfl, hS, hl, fun H1 p c ms s1 n1 n2 npc hms P1 => ?_⟩
    have T1 : LamX.Tabs (lamT K) H1 := by
      refine LamX.Tabs.ext (fun q hq => ?_) s1
      have e : q = _ := List.mem_singleton.mp hq
      subst e
      exact LamX.TabS.nil (hT _ (List.mem_map.mpr ⟨("_law_refused_right", none), by simp [tf], rfl⟩))
    refine ⟨5, rfl, by decide, by decide, for_range (lo := 0) (n := 5) (fun i σ H' => ∃ (t : Nat) (z : Int) (s2 s3 s4 s5 s6 s7 s8 s9 s10 s11 : Option V), σ = [some (.ref a), some (.ref p), s2, s3, s4, s5, s6, s7, s8, s9, s10, s11] ∧ Pen H' p c ms t z ∧ t ≤ 200 * i ∧ LamX.Tabs (lamT K) H')
      ⟨0, 0, _, _, _, _, _, _, _, _, _, _, rfl, P1, by omega, T1⟩ ?_ ?_⟩
    · rintro i σ H2 hi ⟨t, z, s2, s3, s4, s5, s6, s7, s8, s9, s10, s11, rfl, P2, ht, T2⟩
      refine ⟨_, rfl, _, rfl, p, c, ms, t, z, 4, rfl, P2, by omega, by decide, by decide, fun d H3 t3 z3 d0 d1 b3 P3 ht3 => ?_⟩
      refine ⟨_, _, rfl, rfl, ?_⟩
      refine ⟨p, c, ms, t3, z3, 2 + d, rfl, P3, by omega, by omega, by omega, fun xs f H4 t4 z4 hlx hnm hnd hf0 hf4 b4 P4 ht4 => ?_⟩
      refine ⟨by show 0 ≤ sizeLine; decide, fun l hl0 => ?_⟩
      have P5 := P4.same (same_new (o := .lst []) hl0)
      have T5 : LamX.Tabs (lamT K) (upd H4 l (.lst [])) := (tabs_but (tabs_but T2 P2 b3) P3 b4).ext (same_new hl0)
      have hf5 := same_new (o := .lst []) hl0 _ _ hf4
      have hl5 : upd H4 l (.lst []) l = some (.lst []) := upd_same
      have nfp : f ≠ p := fun q => by rw [q, P3.a] at hf0; cases hf0
      have nlp : l ≠ p := ne_pen P4 (Same.refl _) hl0
      have nfl : f ≠ l := ne_of_none hf4 hl0
      have nlcH : c ≠ l := ne_of_none P4.b hl0
      generalize upd H4 l (.lst []) = H5 at P5 T5 hf5 hl5
      refine ⟨_, rfl, p, c, ms, t4, z4, 6, rfl, P5, by omega, by decide, by decide, fun d2 H6 t6 z6 e0 e1 b6 P6 ht6 => ?_⟩
      refine ⟨_, _, rfl, rfl, _, rfl, by show -(2 ^ 62) ≤ 2 + d2; omega, by show 2 + d2 < 2 ^ 62; omega, for_range (lo := 0) (n := (2 + d2).toNat) (fun j σ H' => ∃ (t : Nat) (z : Int) (qs : List Addr) (s2 s5 s6 s7 s8 s9 s10 s11 : Option V), σ = [some (.ref a), some (.ref p), s2, some (.ref f), some (.ref l), s5, s6, s7, s8, s9, s10, s11] ∧ Pen H' p c ms t z ∧ t ≤ t6 + 2 * j ∧ LamX.Tabs (lamT K) H' ∧ qs.length = j ∧ H' l = some (.lst (qs.map V.ref)) ∧ H' f = some (.lst (xs.map V.str)) ∧ Tups H' qs)
        ⟨t6, z6, [], _, _, _, _, _, _, _, _, rfl, P6, by omega, tabs_but T5 P5 b6, rfl, b6 _ _ nlp hl5, b6 _ _ nfp hf5, by intro q hq; cases hq⟩ ?_ ?_⟩
      · rintro j σ H7 hj ⟨t7, z7, qs, s2, s5, s6, s7, s8, s9, s10, s11, rfl, P7, ht7, T7, hqs, hl7, hf7, hq7⟩
        have hxs : xs ≠ [] := by
          intro q
          rw [q] at hlx
          simp at hlx
          omega
        have hmx : xs.map V.str ≠ [] := by simpa using hxs
        have hlen : (xs.map V.str).length < 1000000 := by rw [List.length_map]; omega
        refine ⟨_, rfl, _, rfl, p, c, f, ms, t7, z7, _, rfl, P7, by omega, SqL.of hf7, nfp, hmx, hlen, fun v H8 t8 z8 hv b8 P8 ht8 => ?_⟩
        obtain ⟨va, hva, rfl⟩ := List.mem_map.mp hv
        have hf8 := b8 _ _ nfp hf7
        refine ⟨_, rfl, _, rfl, by show 1 ≤ sizeLine; decide, fun q hq => ?_⟩
        have hf9 := same_new (o := .lst [.non]) hq _ _ hf8
        refine ⟨f, q, _, _, rfl, rfl, hf9, upd_same, ?_, fun r hr2 => ?_⟩
        · exact Nat.le_trans (Nat.add_le_add (Nat.le_of_lt hlen) (Nat.le_refl 1)) (by decide)
        have S9 := (same_new (o := .lst [.non]) hq).trans (same_new (o := .lst (xs.map V.str ++ [.non])) hr2)
        refine ⟨p, c, r, ms, t8, z8, _, rfl, P8.same S9, by omega, SqL.of upd_same, ne_pen P8 (same_new hq) hr2, by simp, by rw [List.length_append]; simp at hlen ⊢; omega, fun w H10 t10 z10 hw b10 P10 ht10 => ?_⟩
        have hl10 := b10 _ _ nlp (S9 _ _ (b8 _ _ nlp hl7))
        have hf10 := b10 _ _ nfp (S9 _ _ hf8)
        have hq10 := ((hq7.but P7 b8).same S9).but (P8.same S9) b10
        have T10 := tabs_but ((tabs_but T7 P7 b8).ext S9) (P8.same S9) b10
        have fin : ∀ (o : Option Str), PairOk va o → ∀ u, H10 u = none → ∀ Hn, Hn = upd (upd H10 u (.tup [.str va, optV o])) l (.lst (qs.map V.ref ++ [V.ref u])) → Pen Hn p c ms t10 z10 ∧ LamX.Tabs (lamT K) Hn ∧ (qs ++ [u]).length = j + 1 ∧ Hn l = some (.lst ((qs ++ [u]).map V.ref)) ∧ Hn f = some (.lst (xs.map V.str)) ∧ Tups Hn (qs ++ [u]) := by
          rintro o pk u hu Hn rfl
          have su := same_new (o := .tup [.str va, optV o]) hu
          have nlc : c ≠ l := by
            intro q
            have e := su _ _ P10.b
            rw [q] at e
            have e2 := su _ _ hl10
            rw [e2] at e
            cases ms with
            | nil =>
              cases qs with
              | nil => exact nlcH q
              | cons x r => cases e
            | cons y r =>
              cases qs with
              | nil => cases e
              | cons x r => cases e
          refine ⟨⟨by rw [upd_ne (Ne.symm nlp)]; exact su _ _ P10.a, by rw [upd_ne nlc]; exact su _ _ P10.b⟩, tabs_upd (T10.ext su) (su _ _ hl10), by simp [hqs], by rw [upd_same]; simp, by rw [upd_ne nfl]; exact su _ _ hf10, Tups.grow (hq10.same su) (su _ _ hl10) upd_same pk⟩
        refine ⟨_, _, rfl, _, rfl, .inl ⟨rfl, _, SqL.of hl10⟩, _, rfl, ?_⟩
        have va_nm := hnm va hva
        have few : (qs.map V.ref).length < sizeLine := by
          rw [List.length_map, hqs]
          exact Nat.lt_of_lt_of_le (show j < 100 by omega) (by decide)
        rcases List.mem_append.mp hw with hw | hw
        · obtain ⟨vb, hvb, rfl⟩ := List.mem_map.mp hw
          refine ⟨_, rfl, _, rfl, rfl, _, rfl, ite2 (fun he => ?_) fun he => ?_⟩
          · refine ⟨by show 2 ≤ sizeLine; decide, fun u hu => ⟨l, _, _, rfl, rfl, same_new hu _ _ hl10, few, ?_⟩⟩
            obtain ⟨g1, g2, g3, g4, g5, g6⟩ := fin none ⟨⟨va_nm, nofun⟩, nofun⟩ u hu _ rfl
            exact ⟨t10, z10, qs ++ [u], _, _, _, _, _, _, _, _, rfl, g1, by omega, g2, g3, g4, g5, g6⟩
          · refine ⟨_, rfl, ?_⟩
            refine ⟨by show 2 ≤ sizeLine; decide, fun u hu => ⟨l, _, _, rfl, rfl, same_new hu _ _ hl10, few, ?_⟩⟩
            obtain ⟨g1, g2, g3, g4, g5, g6⟩ := fin (some vb) ⟨⟨va_nm, fun z hz => by cases hz; exact hnm vb hvb⟩, fun z hz => by cases hz; intro q; simp [q] at he⟩ u hu _ rfl
            exact ⟨t10, z10, qs ++ [u], _, _, _, _, _, _, _, _, rfl, g1, by omega, g2, g3, g4, g5, g6⟩
        · have hw : w = .non := by simpa using hw
          subst hw
          refine ⟨_, rfl, _, rfl, rfl, _, rfl, iteF ⟨_, rfl, ?_⟩⟩
          refine ⟨by show 2 ≤ sizeLine; decide, fun u hu => ⟨l, _, _, rfl, rfl, same_new hu _ _ hl10, few, ?_⟩⟩
          obtain ⟨g1, g2, g3, g4, g5, g6⟩ := fin none ⟨⟨va_nm, nofun⟩, nofun⟩ u hu _ rfl
          exact ⟨t10, z10, qs ++ [u], _, _, _, _, _, _, _, _, rfl, g1, by omega, g2, g3, g4, g5, g6⟩
      · rintro σ H7 ⟨t7, z7, qs, s2, s5, s6, s7, s8, s9, s10, s11, rfl, P7, ht7, T7, hqs, hl7, hf7, hq7⟩
        have ev0 : (PyData.list []).eqv (.list []) = true := by decide +kernel
        refine ⟨_, rfl, l, rfl, ⟨_, SqL.of hl7⟩, fun D hD => lc_none (walk_list (K := K) (a := l) (xs := qs.map V.ref)) (qs.map V.ref) rfl (yat _) hD (fun H' hS => SqL.of (hS _ _ hl7)) ?_ ?_⟩
        · rintro v hv H8 s8 Kt Kf kf
          obtain ⟨q, hq, rfl⟩ := List.mem_map.mp hv
          obtain ⟨qa, qo, eq_, pk⟩ := hq7 q hq
          refine ⟨rfl, ?_⟩
          exact ⟨_, rfl, q, qa, qo, rfl, SqT.of (s8 _ _ eq_), pk, fun H9 s9 => ⟨_, rfl, iteF (kf _ s9)⟩⟩
        intro H8 s8
        refine ⟨by show 0 ≤ sizeLine; decide, fun e5 he5 => ⟨.list [], .list [], .lst (SqL.of (same_new he5 _ _ (s8 _ _ upd_same))) .nil, .lst (SqL.of upd_same) .nil, by decide +kernel, by decide +kernel, _, rfl, ?_⟩⟩
        rw [ev0]
        refine iteF ?_
        have S8 := ((same_new (o := .lst []) hD).trans s8).trans (same_new (o := .lst []) he5)
        refine ⟨_, rfl, l, qs, rfl, SqL.of (S8 _ _ hl7), (hq7.same S8).pairs, fun H9 s9 => ⟨true, rfl, iteF ?_⟩⟩
        have S9 := S8.trans s9
        obtain ⟨x0, x1, xr, rfl⟩ : ∃ x0 x1 xr, xs = x0 :: x1 :: xr := by
          match xs, hlx with
          | [], h => simp at h; omega
          | [_], h => simp at h; omega
          | x0 :: x1 :: xr, _ => exact ⟨_, _, _, rfl⟩
        refine ⟨_, rfl, _, rfl, f, _, 0, .str x0, rfl, rfl, SqL.of (S9 _ _ hf7), atI_nat (j := 0) rfl, ?_⟩
        refine ⟨_, rfl, f, _, 1, .str x1, rfl, rfl, SqL.of (S9 _ _ hf7), atI_nat (j := 1) rfl, ?_⟩
        refine ⟨p, c, ms, t7, z7, x0, x1, rfl, P7.same S9, by omega, hnm _ (by simp), hnm _ (by simp), T7.ext S9, fun HA tA zA bA PA htA TA => ⟨true, rfl, iteF ?_⟩⟩
        have hlA := bA _ _ nlp (S9 _ _ hl7) nofun
        have hqA := (hq7.same S9).ext (P7.same S9) bA
        obtain ⟨q0, qr, rfl⟩ : ∃ q0 qr, qs = q0 :: qr := by
          match qs, hqs with
          | [], h => simp at h; omega
          | q0 :: qr, _ => exact ⟨_, _, rfl⟩
        obtain ⟨a0, o0, eA, pk0⟩ := hqA q0 (List.mem_cons_self ..)
        refine ⟨_, rfl, l, _, 0, .ref q0, rfl, rfl, SqL.of hlA, atI_nat (j := 0) rfl, q0, _, 0, .str a0, rfl, rfl, SqT.of eA, atI_nat (j := 0) rfl, ?_⟩
        refine ⟨_, rfl, l, _, 0, .ref q0, rfl, rfl, SqL.of hlA, atI_nat (j := 0) rfl, q0, _, 1, optV o0, rfl, rfl, SqT.of eA, atI_nat (j := 1) rfl, ?_⟩
        dsimp only [tNil]
        refine frame_new (K := K) pk0.f pk0.n fun p1 HB sB nB frB => ?_
        obtain ⟨fB, dxB, eB⟩ := id frB
        refine ⟨_, rfl, l, _, 0, .ref q0, rfl, rfl, SqL.of (sB _ _ hlA), atI_nat (j := 0) rfl, ?_⟩
        refine ⟨_, rfl, p1, dxB, _, rfl, eB, p1, a0, o0, rfl, frB, _, rfl, ?_⟩
        refine ⟨_, rfl, l, _, 0, .ref q0, rfl, rfl, SqL.of (sB _ _ hlA), atI_nat (j := 0) rfl, q0, _, 0, .str a0, rfl, rfl, SqT.of (sB _ _ eA), atI_nat (j := 0) rfl, ?_⟩
        refine ⟨_, rfl, by show 1 ≤ sizeLine; decide, fun m hm => ?_⟩
        refine ⟨by show 6 ≤ sizeLine; decide, fun g hg => ?_⟩
        have eM := same_new (o := .lst [.ref q0, .str (textF a0 o0), .non, .str a0, .ref m, .bl true]) hg _ _ (show upd HB m (.lst [.ref p1]) m = some (.lst [.ref p1]) from upd_same)
        have SG := (same_new (o := .lst [.ref p1]) hm).trans (same_new (o := .lst [.ref q0, .str (textF a0 o0), .non, .str a0, .ref m, .bl true]) hg)
        have eG := SG _ _ eB
        have eQ := SG _ _ (sB _ _ eA)
        refine ⟨_, rfl, g, rfl, ⟨_, SqL.of upd_same⟩, fun D2 hD2 => lc_none (walk_list (K := K) (a := g) (xs := [.ref q0, .str (textF a0 o0), .non, .str a0, .ref m, .bl true])) [.ref q0, .str (textF a0 o0), .non, .str a0, .ref m, .bl true] rfl (yat _) hD2 (fun H' hS => SqL.of (hS _ _ upd_same)) ?_ ?_⟩
        · rintro v hv HC sC Kt Kf kf
          have ty : ∃ tb, tb ∈ kinds ∧ TyX K HC v tb := by
            simp only [List.mem_cons, List.not_mem_nil, or_false] at hv
            rcases hv with rfl | rfl | rfl | rfl | rfl | rfl
            · exact ⟨_, by simp [kinds], .base (.tup (sC _ _ eQ))⟩
            · exact ⟨_, by simp [kinds], .base (.str _)⟩
            · exact ⟨_, by simp [kinds], .base .non⟩
            · exact ⟨_, by simp [kinds], .base (.str _)⟩
            · exact ⟨_, by simp [kinds], .base (.lst (sC _ _ eM))⟩
            · exact ⟨_, by simp [kinds], .base (.bl _)⟩
          obtain ⟨tb, hk, hty⟩ := ty
          have frC := frB.same (SG.trans sC)
          refine ⟨rfl, ?_⟩
          refine ⟨_, rfl, _, rfl, p1, dxB, _, tb, rfl, sC _ _ eG, hty, (own_Frame e).nf tb hk, p1, _, a0, o0, rfl, frC, .inr ⟨tb, hk, hty, false, rfl, false, rfl, iteF ?_⟩⟩
          exact ⟨_, rfl, _, rfl, p1, dxB, _, tb, rfl, sC _ _ eG, hty, (own_Frame e).nf tb hk, p1, _, a0, o0, rfl, frC, .inr ⟨tb, hk, hty, false, rfl, _, rfl, iteF (kf _ (Same.refl _))⟩⟩
        intro HD sD
        refine ⟨by show 0 ≤ sizeLine; decide, fun e6 he6 => ⟨.list [], .list [], .lst (SqL.of (same_new he6 _ _ (sD _ _ upd_same))) .nil, .lst (SqL.of upd_same) .nil, by decide +kernel, by decide +kernel, _, rfl, ?_⟩⟩
        rw [ev0]
        refine iteF ?_
        have SD := (((sB.trans SG).trans (same_new (o := .lst []) hD2)).trans sD).trans (same_new (o := .lst []) he6)
        exact ⟨tA, zA, _, _, _, _, _, _, _, _, _, _, rfl, PA.same SD, by omega, TA.ext SD⟩
    · rintro σ H' ⟨t, z, s2, s3, s4, s5, s6, s7, s8, s9, s10, s11, rfl, P2, ht, T2⟩
      exact k _
end
theorem closing {P : Program} {w : World} {K : PySem.W.Frag} {h : Heap} {mg : Str → Option Value} (X : K.In h) (G : h.Ns mainGlobals mg) (c : SaysZ fa fn tf gs (fun K => exs.all fun f => f K) w h K) :
    ∃ fd : FuncData, (∀ (s : Shared) (v : Value), BindsTo s fd ⟨[v], []⟩ [("script", v)]) ∧ ∀ base : Heap, K.In base → base.Ns mainGlobals mg → (∀ p ∈ tf.map (He.cT K), LamX.TabB base mg p.1 p.2) → FnG P w K mg base CX0 9 (He.ga K "law") fd ["script"] (spLaw K) := by
  obtain ⟨fd, F⟩ := c.x.t.d.def_ 21 (d := dd "law" 24) rfl
  have b := FunD.bindsA (ps := ["script"]) F fun _ _ _ _ _ _ us hl => match us, hl with | [_], _ => rfl
  exact ⟨fd, fun s v => b s [v] rfl, fun base X' G' tb => ok_law F ⟨c.x.t.d, X', G', c.more, fun i d h => c.get i h, tb⟩⟩
abbrev R : PySem.W.OpenRow := PySem.W.OpenLaw.row PySem.Challenge.rw_seenframes_k03_frames_made
abbrev hk : PySem.W.Hook := hookZ 6 fa fn tf gs (fun K => exs.all fun f => f K)
def ob (s : PySem.W.SharedT) : AlZ := obsZ 6 fa fn tf gs (fun K => exs.all fun f => f K) (HandSHeadRun.getT s)
theorem ob_eq (s : PySem.W.SharedT) : ob s = hk.obs s.abs := obsZ_eq (HandSHeadRun.getT_eq s)
def loose : List Str := ["__name__", "SeenError", "BadInput", "BadFrame", "BadText", "is_name", "Frame", "frame_key", "words_in", "hosts_told", "_law_pen", "_law_draw", "_law_pick", "_law_name", "_law_names", "_law_odd", "_law_heard", "_law_text", "_law_frame_right", "_law_order_right", "_law_refused_right"]
theorem run (w : World) : HandSHeadRun.RunEq R (PySem.W.view R.prog [24]) hk ob 6000 loose w := by
  intro os
  kernel_rfl
end Z
open PySem PySem.W PySem.Calls PyProof.Rows
set_option maxRecDepth 100000 in
set_option maxHeartbeats 0 in
theorem PySem.Challenge.cw_seenframes_k03_frames_made_holds : PySem.Challenge.rw_seenframes_k03_frames_made.Holds := by
  w_on; o_law
  refine HandSHeadRun.head_any (r := OpenLaw.row PySem.Challenge.rw_seenframes_k03_frames_made) (q := view (OpenLaw.row PySem.Challenge.rw_seenframes_k03_frames_made).prog [24]) (H := Z.hk) (ob := Z.ob) (M := 6000) (loose := Z.loose) (d := HandSHeadRun.topDef (OpenLaw.row PySem.Challenge.rw_seenframes_k03_frames_made).prog 24) (kwd := []) Z.ob_eq
    (by kernel_rfl) (fun s => by kernel_rfl) Z.run (by kernel_rfl) (by kernel_rfl) (by kernel_rfl) (by rfl) (by first | assumption | decide +kernel) (by decide +kernel) ⟨rfl, rfl, rfl, rfl, rfl, by decide +kernel⟩ ?hw ?hc
  case hw => w_witness2
  case hc =>
    refine Z.walk_TG (l := PySem.Challenge.rw_seenframes_k03_frames_made) (n := 63) (k := 9) (x := "script") (CX := L2.CX0) rfl (by decide) (by kernel_rfl) ⟨rfl, by decide, by decide⟩ ?F (fun _ _ _ _ z => z)
    intro w mg fa h Y G hmg0
    obtain ⟨K, KX, c⟩ := Y
    have hmg : mg ("law" : PySem.Str) = some (.ref fa) := by
      have e : (HandSHeadRun.topDef (OpenLaw.row PySem.Challenge.rw_seenframes_k03_frames_made).prog 24).name = ("law" : PySem.Str) := by kernel_rfl
      rw [← e]
      exact hmg0
    obtain ⟨fd, hb, hF⟩ := Z.closing (P := (PySem.Challenge.rw_seenframes_k03_frames_made).prog) KX G c
    have eg := hmg.symm.trans (He.glo_ok KX G (c.x.t.d.fact 36 rfl))
    cases eg
    obtain ⟨t1, t2, t3⟩ := c.tabs KX
    exact ⟨K, fd, Z.spLaw K, Z.tf.map (He.cT K), KX, hb, t1, t2, t3, fun H a ns hl hT hS => ⟨a, ns, rfl, hS, hl, hT, fun _ => rfl⟩, hF⟩
