import PyProof.Rows.All
import Wide.All
import OpenK.AllK
import Wide.FinOn
import PyProof.EqAt
import PyProof.EqKinds
import PyProof.TupleCall
import HandS.ForMost
import HandS.Walk
import HandS.Set
import HandS.SetFor
import HandS.Strs
import PyProof.Rows.SortShellAny
import HandS.Deep
import HandS.SetBool
import PyProof.TupleOfSeq
import HandS.SortOrd
import HandS.SortRule
import PyProof.ReprRoads
import PyProof.ReprLen
import PyProof.CallFns
import HandS.Ends
import KE.GoesMore
import PyProof.Draws
import PyProof.EnumMake
import HandS.Iter
import HandS.Star
import HandS.IsInst
import HandS.SlotsOwn
import PyProof.ListNew
import HandS.ClsMeth
import HandS.Defaults
import HandS.Text
import HandS.DictTup
import HandS.FStr
import PySem.Challenge.RW_latestrows_k01_tables_made
set_option Elab.async false
set_option linter.all false
set_option maxRecDepth 100000
set_option maxHeartbeats 8000000
/-! what the laws' own drawing defs give: a source (a list of three ints), picks, names -/
namespace Rng
open PySem L2
/-- the heaps agree but at p -/
def But (p : Addr) (H H' : Hp) : Prop := ∀ c o, c ≠ p → H c = some o → H' c = some o
theorem But.refl (p : Addr) (H : Hp) : But p H H := fun _ _ _ h => h
theorem But.trans {p : Addr} {H H1 H2 : Hp} (a : But p H H1) (b : But p H1 H2) : But p H H2 := fun c o n h => b c o n (a c o n h)
theorem _root_.L2.Same.but {H H' : Hp} (s : Same H H') (p : Addr) : But p H H' := fun c o _ h => s c o h
theorem But.put {p : Addr} {H : Hp} {o : HO} : But p H (upd H p o) := fun c u n h => by rw [upd_ne n]; exact h
theorem But.seq {p a : Addr} {K : PySem.W.Frag} {H H' : Hp} {xs : List V} (s : But p H H') (n : ∀ o, H a = some o → a ≠ p) (h : SqL K H a xs) : SqL K H' a xs := by
  rcases h with (h | ⟨o, h⟩) | h
  · exact .inl (.inl (s _ _ (n _ h) h))
  · exact .inl (.inr ⟨o, s _ _ (n _ h) h⟩)
  · exact .inr h
theorem same_put {H : Hp} {a : Addr} {o : HO} (n : H a = none) : Same H (upd H a o) := fun b u e => by
  rw [upd_ne (ne_of_none e n)]
  exact e
/-- a source that has been picked from at most b times -/
def Src (H : Hp) (p : Addr) (b : Nat) : Prop := ∃ A B t : Int, H p = some (.lst [.int A, .int B, .int t]) ∧ 0 ≤ A ∧ 0 ≤ B ∧ B < 2147483423 ∧ 0 ≤ t ∧ t ≤ (b : Int)
theorem Src.mono {H : Hp} {p : Addr} {b c : Nat} (h : Src H p b) (k : b ≤ c) : Src H p c := by
  obtain ⟨A, B, t, h1, h2, h3, h4, h5, h6⟩ := h
  exact ⟨A, B, t, h1, h2, h3, h4, h5, by omega⟩
theorem Src.same {H H' : Hp} {p : Addr} {b : Nat} (h : Src H p b) (s : Same H H') : Src H' p b := by
  obtain ⟨A, B, t, h1, h2⟩ := h
  exact ⟨A, B, t, s _ _ h1, h2⟩
theorem Src.some {H : Hp} {p : Addr} {b : Nat} (h : Src H p b) : ∃ xs, H p = some (.lst xs) := by
  obtain ⟨A, B, t, h1, _⟩ := h
  exact ⟨_, h1⟩
theorem Src.ne {H : Hp} {p a : Addr} {b : Nat} (h : Src H p b) (n : H a = none) : a ≠ p := fun z => by
  obtain ⟨xs, e⟩ := h.some
  rw [z, e] at n
  cases n
/-! ### names -/
def low (c : Nat) : Bool := decide (97 ≤ c) && decide (c ≤ 122)
def dig (c : Nat) : Bool := decide (48 ≤ c) && decide (c ≤ 57)
/-- one to eight small letters and digits, a letter first -/
def isName (z : Str) : Bool := decide (z.cps.toList.length ≤ 8) && (match z.cps.toList with
  | c :: r => low c && r.all fun d => low d || dig d
  | [] => false)
/-! ### promises -/
def spNumber (K : PySem.W.Frag) : Sp := fun vs H Q _ => ∃ (a : Addr) (ns : List Int) (k : Int), vs = [.ref a, .int k] ∧ SqL K H a (ns.map V.int) ∧ ns.length ≤ 63 ∧ 0 ≤ k ∧ k ≤ 100 ∧ ∀ z H', Same H H' → Q (.int z) H'
def spSource : Sp := fun vs H Q _ => ∃ c : Int, vs = [.int c] ∧ ∀ p H', Same H H' → H p = none → Src H' p 0 → Q (.ref p) H'
def spPick : Sp := fun vs H Q _ => ∃ (p : Addr) (m : Int) (b : Nat), vs = [.ref p, .int m] ∧ Src H p b ∧ b ≤ 1000000 ∧ 0 < m ∧ m < 1073741824 ∧ ∀ d H', 0 ≤ d → d < m → But p H H' → Src H' p (b + 1) → Q (.int d) H'
def spOne (K : PySem.W.Frag) : Sp := fun vs H Q _ => ∃ (p : Addr) (x : V) (b : Nat), vs = [.ref p, x] ∧ Src H p b ∧ b ≤ 1000000 ∧
  ((∃ (l : Addr) (xs : List V), x = .ref l ∧ l ≠ p ∧ SqL K H l xs ∧ 0 < xs.length ∧ xs.length ≤ 1000 ∧ ∀ y H', y ∈ xs → But p H H' → Src H' p (b + 1) → Q y H') ∨
   (∃ z : Str, x = .str z ∧ 0 < z.length ∧ z.length ≤ 1000 ∧ ∀ c H', c ∈ z.cps.toList → But p H H' → Src H' p (b + 1) → Q (.str ⟨#[c]⟩) H'))
def spTag : Sp := fun vs H Q _ => ∃ (p : Addr) (b : Nat), vs = [.ref p] ∧ Src H p b ∧ b ≤ 900000 ∧ ∀ z H', isName z = true → But p H H' → Src H' p (b + 12) → Q (.str z) H'
def spTags : Sp := fun vs H Q _ => ∃ (p : Addr) (m b : Nat), vs = [.ref p, .int m] ∧ 1 ≤ m ∧ m ≤ 9 ∧ Src H p b ∧ b ≤ 800000 ∧
  ∀ (l : Addr) (zs : List Str) (H' : Hp), zs.length = m → zs.Nodup → (∀ z ∈ zs, isName z = true) → But p H H' → H l = none → l ≠ p → H' l = some (.lst (zs.map V.str)) → Src H' p (b + 200) → Q (.ref l) H'
/-! ### arithmetic of a pick -/
theorem pow3 {B t : Int} (h0 : 0 ≤ B) (h1 : B < 2147483423) (h2 : 0 ≤ t) (h3 : t ≤ 1000001) : CPow (B + t * 7919) 3 := by
  refine ⟨by decide, by decide, ?_⟩
  omega
theorem atI_at {α : Type} {xs : List α} {d : Int} (h0 : 0 ≤ d) (h : d.toNat < xs.length) : atI xs d = some xs[d.toNat] := by
  have e := atI_nat (List.getElem?_eq_getElem h)
  rwa [Int.toNat_of_nonneg h0] at e
theorem cut_ints (ns : List Int) (lo hi : Option Int) : ∃ ms : List Int, cutV (ns.map V.int) lo hi = ms.map V.int := by
  unfold cutV
  exact ⟨_, by rw [← List.map_drop, ← List.map_take]⟩
theorem joinL_nil : ∀ l : List (List Nat), TL.joinL [] l = l.flatten
  | [] => rfl
  | [x] => by simp [TL.joinL]
  | x :: y :: r => by
    have ih := joinL_nil (y :: r)
    simp only [TL.joinL, ih, List.flatten_cons, List.nil_append]
/-- a sign that may stand in a name behind the first one -/
def sign1 (z : Str) : Prop := ∃ d, z.cps.toList = [d] ∧ (low d || dig d) = true
theorem flat_signs : ∀ zs : List Str, (∀ z ∈ zs, sign1 z) → (zs.map TL.tl).flatten.length = zs.length ∧ (zs.map TL.tl).flatten.all (fun d => low d || dig d) = true
  | [], _ => ⟨rfl, rfl⟩
  | z :: zs, h => by
    obtain ⟨d, e, hd⟩ := h z List.mem_cons_self
    obtain ⟨h1, h2⟩ := flat_signs zs fun y hy => h y (List.mem_cons_of_mem _ hy)
    have e' : TL.tl z = [d] := e
    rw [List.map_cons, List.flatten_cons, e']
    refine ⟨by rw [List.length_append, h1]; simp; omega, ?_⟩
    rw [List.all_append, h2]
    simp [hd]
theorem name_mk {c : Nat} {zs : List Str} (hc : low c = true) (hz : ∀ z ∈ zs, sign1 z) (hl : zs.length ≤ 7) : isName (⟨#[c]⟩ ++ Txt.join (Str.ofString "") zs) = true := by
  obtain ⟨h1, h2⟩ := flat_signs zs hz
  have e : ((⟨#[c]⟩ : Str) ++ Txt.join (Str.ofString "") zs).cps.toList = c :: (zs.map TL.tl).flatten := by
    show TL.tl ((⟨#[c]⟩ : Str) ++ Txt.join (Str.ofString "") zs) = _
    rw [TL.tl_append, TL.join_eq, TL.tl_join, show TL.tl (Str.ofString "") = [] from rfl, joinL_nil]
    rfl
  unfold isName
  rw [e, List.length_cons, h1]
  simp only [hc, h2, Bool.and_true, Bool.true_and, decide_eq_true_eq]
  omega
theorem sign_sum : ∀ zs : List Str, (∀ z ∈ zs, sign1 z) → (zs.map (·.length)).sum = zs.length
  | [], _ => rfl
  | z :: zs, h => by
    obtain ⟨d, e, _⟩ := h z List.mem_cons_self
    have ih := sign_sum zs fun y hy => h y (List.mem_cons_of_mem _ hy)
    have e' : z.length = 1 := by
      show z.cps.size = 1
      rw [← Array.length_toList, e]
      rfl
    rw [List.map_cons, List.sum_cons, ih, e', List.length_cons]
    omega
/-! ### different names -/
theorem len_sub {α : Type} [DecidableEq α] : ∀ (xs ys : List α), xs.Nodup → (∀ x ∈ xs, x ∈ ys) → xs.length ≤ ys.length
  | [], _, _, _ => Nat.zero_le _
  | x :: xs, ys, nd, h => by
    have hx : x ∈ ys := h x List.mem_cons_self
    obtain ⟨n1, n2⟩ := List.nodup_cons.mp nd
    have ih := len_sub xs (ys.erase x) n2 fun y hy => by
      have ne : y ≠ x := fun z => n1 (z ▸ hy)
      exact (List.mem_erase_of_ne ne).mpr (h y (List.mem_cons_of_mem _ hy))
    have hl := List.length_erase_of_mem hx
    have hp : 0 < ys.length := List.length_pos_of_mem hx
    rw [List.length_cons]
    omega
/-- the name z cut to six signs with a digit behind it -/
def cand (z : Str) (j : Nat) : Str := cutS z none (some 6) ++ Str.ofString (toString ((0 : Int) + (j : Int)))
theorem digit_tl : ∀ j : Nat, j < 9 → TL.tl (Str.ofString (toString ((0 : Int) + (j : Int)))) = [48 + j] := by decide +kernel
theorem cut_tl (z : Str) : TL.tl (cutS z none (some 6)) = (TL.tl z).take 6 := by
  have e : (TL.tl z).length = z.length := rfl
  show ((z.cps.toList.drop 0).take (min 6 z.length - 0)) = z.cps.toList.take 6
  rw [List.drop_zero, Nat.sub_zero, ← List.take_take]
  congr 1
  exact List.take_of_length_le (Nat.le_of_eq e)
theorem cand_tl {z : Str} {j : Nat} (h : j < 9) : TL.tl (cand z j) = (TL.tl z).take 6 ++ [48 + j] := by
  unfold cand
  rw [TL.tl_append, cut_tl, digit_tl j h]
theorem str_ext {x y : Str} (h : TL.tl x = TL.tl y) : x = y := by
  obtain ⟨⟨a⟩⟩ := x
  obtain ⟨⟨b⟩⟩ := y
  have h' : a = b := h
  rw [h']
theorem cand_inj {z : Str} {i j : Nat} (hi : i < 9) (hj : j < 9) (e : cand z i = cand z j) : i = j := by
  have h : TL.tl (cand z i) = TL.tl (cand z j) := by rw [e]
  rw [cand_tl hi, cand_tl hj] at h
  have h2 := List.append_cancel_left h
  have h3 := (List.cons.inj h2).1
  omega
theorem cand_name {z : Str} {j : Nat} (hz : isName z = true) (h : j < 9) : isName (cand z j) = true := by
  have e : (cand z j).cps.toList = z.cps.toList.take 6 ++ [48 + j] := cand_tl h
  unfold isName at hz ⊢
  rw [e]
  cases hc : z.cps.toList with
  | nil =>
    rw [hc] at hz
    simp at hz
  | cons c r =>
    rw [hc] at hz
    simp only [Bool.and_eq_true, decide_eq_true_eq, List.all_eq_true] at hz
    obtain ⟨_, h1, h2⟩ := hz
    have e6 : (c :: r).take 6 = c :: r.take 5 := rfl
    rw [e6, List.cons_append]
    simp only [Bool.and_eq_true, decide_eq_true_eq, List.all_eq_true]
    refine ⟨?_, h1, fun d hd => ?_⟩
    · rw [List.length_cons, List.length_append, List.length_take, List.length_singleton]
      omega
    · rcases List.mem_append.mp hd with hd | hd
      · exact h2 d (List.mem_of_mem_take hd)
      · obtain rfl := List.mem_singleton.mp hd
        simp only [dig, Bool.or_eq_true, Bool.and_eq_true, decide_eq_true_eq]
        exact .inr ⟨by omega, by omega⟩
theorem cands_nodup {z : Str} {m : Nat} (hm : m ≤ 9) : ((List.range m).map (cand z)).Nodup := by
  refine List.pairwise_map.mpr (List.pairwise_iff_getElem.mpr fun i j hi hj hij e => ?_)
  rw [List.length_range] at hi hj
  rw [List.getElem_range, List.getElem_range] at e
  have := cand_inj (by omega) (by omega) e
  omega
/-- one of the spare names is new -/
theorem spare_new {z : Str} {m : Nat} {zs : List Str} (hm : m ≤ 9) (h : zs.length < m) : ∃ y r, (z :: (List.range m).map (cand z)).filter (fun y => !decide (y ∈ zs)) = y :: r := by
  cases e : (z :: (List.range m).map (cand z)).filter (fun y => !decide (y ∈ zs)) with
  | cons y r => exact ⟨y, r, rfl⟩
  | nil =>
    have all : ∀ y ∈ (List.range m).map (cand z), y ∈ zs := fun y hy => by
      have q := List.filter_eq_nil_iff.mp e y (List.mem_cons_of_mem _ hy)
      simpa using q
    have := len_sub _ _ (cands_nodup hm) all
    rw [List.length_map, List.length_range] at this
    omega
theorem spare_is {z : Str} {m : Nat} {zs r : List Str} {y : Str} (hm : m ≤ 9) (hz : isName z = true) (e : (z :: (List.range m).map (cand z)).filter (fun y => !decide (y ∈ zs)) = y :: r) : isName y = true ∧ y ∉ zs := by
  have hy : y ∈ (z :: (List.range m).map (cand z)).filter (fun y => !decide (y ∈ zs)) := by rw [e]; exact List.mem_cons_self
  obtain ⟨h1, h2⟩ := List.mem_filter.mp hy
  refine ⟨?_, by simpa using h2⟩
  rcases List.mem_cons.mp h1 with rfl | h1
  · exact hz
  · obtain ⟨j, hj, rfl⟩ := List.mem_map.mp h1
    exact cand_name hz (by have := List.mem_range.mp hj; omega)
theorem inV_strs (x : Str) : ∀ zs : List Str, inV (.str x) (zs.map V.str) = decide (x ∈ zs)
  | [] => rfl
  | z :: zs => by
    have ih := inV_strs x zs
    unfold inV at ih ⊢
    rw [List.map_cons, List.any_cons, ih]
    show ((z == x) || _) = _
    by_cases e : z = x
    · subst e
      simp
    · have e' : ¬ x = z := fun q => e q.symm
      simp [e, e']
theorem flat_strsN (zs : List Str) : (zs.map V.str).all flatV = true := by
  rw [List.all_map]
  exact List.all_eq_true.mpr fun _ _ => rfl
end Rng

namespace K01
open PySem L2 Rng
/-! ### the text by places -/
def top (i : Nat) : Stmt := PySem.Challenge.pw_latestrows_k01_tables_made.main.body.getD i (.Pass ⟨0, 0, 0, 0⟩)
abbrev sNumber : Stmt := top 14
abbrev sSource : Stmt := top 15
abbrev sPick : Stmt := top 16
abbrev sOne : Stmt := top 17
abbrev sTag : Stmt := top 18
abbrev sTags : Stmt := top 19
/-- the built-in names that the drawing defs use, free at the top -/
structure Bt (mg : Str → Option Value) : Prop where
  nLen : mg "len" = none
  nInt : mg "int" = none
  nAbs : mg "abs" = none
  nRange : mg "range" = none
  nStr : mg "str" = none
section
variable {P : Program} {w : World} {K : PySem.W.Frag} {mg : Str → Option Value} {base : Heap}

theorem scNumber : FnScope ["_law_script", "_law_k", "_law_made", "_law_cell"] ["_law_script", "_law_k"] (defScope sNumber) := ⟨rfl, rfl, rfl, by decide +kernel, rfl, by decide +kernel, by decide +kernel⟩
theorem ok_number {f : Addr} {fd : FuncData} (F : Fun K "_law_number" "_law_number" sNumber f fd) (T : Bt mg) : FnOk P w K mg base CX0 1 f fd ["_law_script", "_law_k"] (spNumber K) := by
  refine F.ok scNumber (fun vs H Q E h => ?_) (fun cdv A outer s H vs Q E hr h => ?_)
  · obtain ⟨a, ns, k, rfl, _⟩ := h
    rfl
  · obtain ⟨a, ns, k, rfl, hS, hlen, k0, k1, q⟩ := h
    refine ⟨_, pss_cons (ps_if (pt_cmpR op_lt (pv 1) (pe_callB call_len_seq (by rfl) T.nLen PySem.boot_len (pa_cons (pv 0) pa_nil)) (nomark _)) (pss_one (ps_ret (pe_ix ix_list (pv 0) (pv 1) (fun _ _ => rfl)))) pss_nil)
      (pss_cons (ps_set (i := 2) scNumber.nd rfl (Or.inl rfl) (pe_op op_mul (pe_op op_mul pe_int (pe_op op_add (pv 1) pe_int)) (pe_op op_add (pv 1) pe_int)))
      (pss_cons (ps_for PassesOwn.never rfl (pi_list (pe_slice sl_list (pv 0) po_none (po_some pe_int))) (pg_name (i := 3) scNumber.nd rfl (Or.inl rfl))
        (pss_one (ps_set (i := 2) scNumber.nd rfl (Or.inl rfl) (pe_op op_mod (pe_callTy call_int1 (by rfl) T.nInt PyProof.Rows.boot_int (pa_cons (pe_op op_add (pe_op op_add (pe_op op_mul (pv 2) pe_int) (pv 3)) (pv 1)) pa_nil)) pe_int))))
      (pss_one (ps_ret (pv 2))))), ?_⟩
    refine ⟨_, rfl, _, rfl, a, _, rfl, .inl hS, _, _, rfl, rfl, _, rfl, ite2 (fun c => ?_) (fun c => ?_)⟩
    · have c' : k < (ns.length : Int) := by
        have z := of_decide_eq_true c
        rw [List.length_map] at z
        exact z
      have e : k = ((k.toNat : Nat) : Int) := by omega
      have hk : k.toNat < ns.length := by omega
      refine ⟨_, rfl, _, rfl, a, _, k, .int (ns[k.toNat]), rfl, rfl, hS, ?_, q _ _ (Same.refl _)⟩
      rw [atI_at k0 (by rw [List.length_map]; exact hk), List.getElem_map]
    · refine ⟨_, rfl, _, _, rfl, rfl, _, _, rfl, rfl, .inl ⟨by decide, by decide⟩, _, rfl, _, _, rfl, rfl, _, _, rfl, rfl, .inr ⟨by omega, by omega⟩, ?_⟩
      obtain ⟨ms, em⟩ := cut_ints ns none (some 5)
      refine ⟨_, rfl, 5, rfl, a, _, rfl, hS, fun p np => ?_⟩
      rw [em]
      refine ⟨p, rfl, ⟨_, SqL.of upd_same⟩, for_it (walk_list (K := K) (a := p) (xs := ms.map V.int)) (fun _ σ H' => ∃ (z : Int) (v : Option V), σ = [some (.ref a), some (.int k), some (.int z), v] ∧ Same (upd H p (.lst (ms.map V.int))) H')
        ⟨_, _, rfl, Same.refl _⟩ (fun _ _ _ _ ⟨_, _, _, z⟩ => z.seq (SqL.of upd_same)) ?_ ?_⟩
      · rintro i x σ H1 H2 hi ⟨z, v, rfl, s1⟩ ⟨rfl, hx⟩
        obtain ⟨n, rfl⟩ : ∃ n, x = V.int n := by
          rw [List.getElem?_map] at hx
          cases e : ms[i]? with
          | none => rw [e] at hx; cases hx
          | some n => rw [e] at hx; exact ⟨n, (Option.some.inj hx).symm⟩
        refine ⟨_, rfl, _, _, rfl, rfl, .inr ⟨by decide, by decide⟩, _, rfl, _, _, rfl, rfl, _, rfl, _, _, rfl, rfl, .inl ⟨_, rfl, _, _, rfl, rfl, (by show (0 : Int) < 2147483423; decide), ?_⟩⟩
        exact ⟨_, _, rfl, s1⟩
      · rintro σ H1 ⟨z, v, rfl, s1⟩
        exact ⟨_, rfl, q _ _ ((same_put np).trans s1)⟩

theorem scSource : FnScope ["_law_cell"] ["_law_cell"] (defScope sSource) := ⟨rfl, rfl, rfl, by decide +kernel, rfl, by decide +kernel, by decide +kernel⟩
theorem ok_source {f : Addr} {fd : FuncData} (F : Fun K "_law_source" "_law_source" sSource f fd) (T : Bt mg) : FnOk P w K mg base CX0 1 f fd ["_law_cell"] spSource := by
  refine F.ok scSource (fun vs H Q E h => ?_) (fun cdv A outer s H vs Q E hr h => ?_)
  · obtain ⟨c, rfl, _⟩ := h
    rfl
  · obtain ⟨c, rfl, q⟩ := h
    refine ⟨_, pss_one (ps_ret (pe_lst (pa_cons (pe_ifExp (PW.pt (pw_or (pt_cmpR op_lt (pv 0) pe_int (nomark _)) (pw_or1 (pt_cmpR op_ge (pv 0) (pe_op op_pow pe_int pe_int) (nomark _)))))
      (pe_callB call_abs (by rfl) T.nAbs PyProof.Rows.boot_abs (pa_cons (pv 0) pa_nil)) pe_int) (pa_cons (pe_op op_mod (pe_callTy call_int1 (by rfl) T.nInt PyProof.Rows.boot_int (pa_cons (pv 0) pa_nil)) pe_int) (pa_cons pe_int pa_nil))))), ?_⟩
    have fin : ∀ A0 : Int, 0 ≤ A0 → (∃ v, ([some (V.int c)] : St)[0]? = some (some v) ∧ ((∃ i, [v] = [V.int i] ∧ ∃ i' j, V.int i = .int i' ∧ V.int 2147483423 = .int j ∧ 0 < j ∧ ([V.int A0, V.int (i' % j), V.int 0].length ≤ sizeLine ∧ ∀ p, H p = none → Q (.ref p) (upd H p (.lst [V.int A0, V.int (i' % j), V.int 0])))) ∨
        ∃ k, [v] = [V.bl k] ∧ ∃ i' j, V.int (if k then 1 else 0) = .int i' ∧ V.int 2147483423 = .int j ∧ 0 < j ∧ ([V.int A0, V.int (i' % j), V.int 0].length ≤ sizeLine ∧ ∀ p, H p = none → Q (.ref p) (upd H p (.lst [V.int A0, V.int (i' % j), V.int 0]))))) := fun A0 h0 =>
      ⟨_, rfl, .inl ⟨c, rfl, c, 2147483423, rfl, rfl, by decide, by show 3 ≤ sizeLine; decide, fun p np => q p _ (same_put np) np ⟨A0, c % 2147483423, 0, upd_same, h0, by omega, by omega, by omega, by omega⟩⟩⟩
    refine ⟨_, rfl, _, _, rfl, rfl, _, rfl, ite2 (fun c1 => ?_) (fun c1 => ?_)⟩
    · exact ⟨_, rfl, _, rfl, fin _ (by split <;> omega)⟩
    · refine ⟨_, rfl, 10, 18, rfl, rfl, ⟨by decide, by decide, by decide⟩, _, _, rfl, rfl, _, rfl, ite2 (fun c2 => ?_) (fun c2 => ?_)⟩
      · exact ⟨_, rfl, _, rfl, fin _ (by split <;> omega)⟩
      · exact fin 0 (by omega)

theorem scPick : FnScope ["_law_source_here", "_law_many", "_law_digit", "_law_turn", "_law_mixed_here"] ["_law_source_here", "_law_many"] (defScope sPick) := ⟨rfl, rfl, rfl, by decide +kernel, rfl, by decide +kernel, by decide +kernel⟩
theorem ok_pick {f : Addr} {fd : FuncData} (F : Fun K "_law_pick" "_law_pick" sPick f fd) (T : Bt mg) : FnOk P w K mg base CX0 1 f fd ["_law_source_here", "_law_many"] spPick := by
  refine F.ok scPick (fun vs H Q E h => ?_) (fun cdv A outer s H vs Q E hr h => ?_)
  · obtain ⟨p, m, b, rfl, _⟩ := h
    rfl
  · obtain ⟨p, m, b, rfl, ⟨A0, B0, t0, e0, hA, hB, hB2, ht, ht2⟩, hb, m0, m1, q⟩ := h
    refine ⟨_, pss_cons (ps_asg (pe_op op_add (pe_ix ix_list (pv 0) pe_int (fun _ _ => rfl)) pe_int) (pg_sub (pv 0) pe_int set_list))
      (pss_cons (ps_if (pt_cmpR op_gt (pe_ix ix_list (pv 0) pe_int (fun _ _ => rfl)) pe_int (nomark _))
        (pss_cons (ps_set (i := 2) scPick.nd rfl (Or.inl rfl) (pe_op op_mod (pe_callTy call_int1 (by rfl) T.nInt PyProof.Rows.boot_int (pa_cons (pe_ix ix_list (pv 0) pe_int (fun _ _ => rfl)) pa_nil)) (pv 1)))
        (pss_cons (ps_asg (pe_op op_fdiv (pe_ix ix_list (pv 0) pe_int (fun _ _ => rfl)) (pv 1)) (pg_sub (pv 0) pe_int set_list))
        (pss_one (ps_ret (pv 2))))) pss_nil)
      (pss_cons (ps_set (i := 3) scPick.nd rfl (Or.inl rfl) (pe_ix ix_list (pv 0) pe_int (fun _ _ => rfl)))
      (pss_cons (ps_set (i := 4) scPick.nd rfl (Or.inl rfl) (pe_callTy call_int1 (by rfl) T.nInt PyProof.Rows.boot_int (pa_cons (pe_op op_add (pe_ix ix_list (pv 0) pe_int (fun _ _ => rfl)) (pe_op op_mul (pv 3) pe_int)) pa_nil)))
      (pss_cons (ps_asg (pe_op op_mod (pe_callTy call_int1 (by rfl) T.nInt PyProof.Rows.boot_int (pa_cons (pe_op op_add (pe_op op_pow (pv 4) pe_int) (pe_op op_mul pe_int (pv 3))) pa_nil)) pe_int) (pg_sub (pv 0) pe_int set_list))
      (pss_one (ps_ret (pe_op op_mod (pe_callTy call_int1 (by rfl) T.nInt PyProof.Rows.boot_int (pa_cons (pe_op op_fdiv (pe_ix ix_list (pv 0) pe_int (fun _ _ => rfl)) pe_int) pa_nil)) (pv 1)))))))), ?_⟩
    refine ⟨_, rfl, p, _, 2, _, rfl, rfl, SqL.of e0, rfl, _, _, rfl, rfl, _, rfl, p, _, 2, 2, rfl, rfl, e0, rfl, ?_⟩
    have e1 : (upd H p (.lst [.int A0, .int B0, .int (t0 + 1)])) p = some (.lst [.int A0, .int B0, .int (t0 + 1)]) := upd_same
    have b1 : But p H (upd H p (.lst [.int A0, .int B0, .int (t0 + 1)])) := But.put
    show (tSeq _ _) _ _ (upd H p (.lst [.int A0, .int B0, .int (t0 + 1)]))
    revert e1 b1
    generalize upd H p (.lst [.int A0, .int B0, .int (t0 + 1)]) = H1
    intro e1 b1
    refine ⟨_, rfl, p, _, 0, _, rfl, rfl, SqL.of e1, rfl, _, _, rfl, rfl, _, rfl, ite2 (fun c => ?_) (fun c => ?_)⟩
    · have c0 : 0 < A0 := of_decide_eq_true c
      refine ⟨_, rfl, p, _, 0, _, rfl, rfl, SqL.of e1, rfl, .inl ⟨A0, rfl, _, rfl, _, _, rfl, rfl, m0, ?_⟩⟩
      refine ⟨_, rfl, p, _, 0, _, rfl, rfl, SqL.of e1, rfl, _, rfl, _, _, rfl, rfl, ⟨m0, m1⟩, _, rfl, p, _, 0, 0, rfl, rfl, e1, rfl, ?_⟩
      refine ⟨_, rfl, q _ _ (Int.emod_nonneg _ (by omega)) (Int.emod_lt_of_pos _ m0) (b1.trans But.put) ⟨A0 / m, B0, t0 + 1, upd_same, Int.ediv_nonneg (by omega) (by omega), hB, hB2, by omega, by omega⟩⟩
    · refine ⟨_, rfl, p, _, 2, _, rfl, rfl, SqL.of e1, rfl, ?_⟩
      refine ⟨_, rfl, p, _, 1, _, rfl, rfl, SqL.of e1, rfl, _, rfl, _, _, rfl, rfl, .inr ⟨by decide, by decide⟩, _, _, rfl, rfl, .inl ⟨_, rfl, ?_⟩⟩
      refine ⟨_, rfl, _, _, rfl, rfl, pow3 hB hB2 (by omega) (by omega), _, rfl, _, _, rfl, rfl, .inl ⟨by decide, by decide⟩, _, _, rfl, rfl, .inl ⟨_, rfl, _, _, rfl, rfl, (by show (0 : Int) < 2147483423; decide), ?_⟩⟩
      refine ⟨_, rfl, p, _, 1, 1, rfl, rfl, e1, rfl, ?_⟩
      refine ⟨_, rfl, p, _, 1, _, rfl, rfl, SqL.of upd_same, rfl, _, _, rfl, rfl, ⟨by decide, by decide⟩, .inl ⟨_, rfl, _, rfl, _, _, rfl, rfl, m0, ?_⟩⟩
      exact q _ _ (Int.emod_nonneg _ (by omega)) (Int.emod_lt_of_pos _ m0) (b1.trans But.put) ⟨A0, _, t0 + 1, upd_same, hA, Int.emod_nonneg _ (by decide), Int.emod_lt_of_pos _ (by decide), by omega, by omega⟩

theorem scOne : FnScope ["_law_source_here", "_law_things"] ["_law_source_here", "_law_things"] (defScope sOne) := ⟨rfl, rfl, rfl, by decide +kernel, rfl, by decide +kernel, by decide +kernel⟩
theorem ok_one {f fP : Addr} {fd dP : FuncData} (F : Fun K "_law_one" "_law_one" sOne f fd) (T : Bt mg) (FP : Fun K "_law_pick" "_law_pick" sPick fP dP) (bP : Binds K dP ["_law_source_here", "_law_many"] []) (mP : mg "_law_pick" = some (.ref fP)) : FnOk P w K mg base CX0 2 f fd ["_law_source_here", "_law_things"] (spOne K) := by
  have GP : FnOk P w K mg base CX0 1 fP dP ["_law_source_here", "_law_many"] spPick := ok_pick FP T
  refine F.ok scOne (fun vs H Q E h => ?_) (fun cdv A outer s H vs Q E hr h => ?_)
  · obtain ⟨p, x, b, rfl, _⟩ := h
    rfl
  · obtain ⟨p, x, b, rfl, hs, hb, h⟩ := h
    refine ⟨_, pss_one (ps_ret (pe_ix ix_seq (pv 1) (pe_call GP hr rfl mP FP.kp bP .nil pass0 (pa_cons (pv 0) (pa_cons (pe_callB call_len (by rfl) T.nLen PySem.boot_len (pa_cons (pv 1) pa_nil)) pa_nil))) (fun _ _ => rfl))), ?_⟩
    rcases h with ⟨l, xs, rfl, nl, hl, x0, x1, q⟩ | ⟨z, rfl, z0, z1, q⟩
    · refine ⟨_, rfl, _, rfl, _, rfl, _, _, rfl, .inl ⟨_, hl, rfl⟩, p, _, b, rfl, hs, hb, by omega, by omega, fun d H' d0 d1 hB hS => ?_⟩
      have hd : d.toNat < xs.length := by omega
      have e : d = ((d.toNat : Nat) : Int) := by omega
      refine .inl ⟨l, xs, d, xs[d.toNat], rfl, rfl, hB.seq (fun _ _ => nl) hl, ?_, q _ _ (List.getElem_mem hd) hB hS⟩
      exact atI_at d0 hd
    · refine ⟨_, rfl, _, rfl, _, rfl, _, _, rfl, ⟨Nat.le_of_lt (small1000 z1), rfl⟩, p, _, b, rfl, hs, hb, by omega, by omega, fun d H' d0 d1 hB hS => ?_⟩
      have hd : d.toNat < z.cps.toList.length := by
        have ez : z.cps.toList.length = z.length := rfl
        omega
      have e : d = ((d.toNat : Nat) : Int) := by omega
      refine .inr (.inr ⟨z, d, z.cps.toList[d.toNat], rfl, rfl, Nat.le_of_lt (small1000 z1), ?_, q _ _ (List.getElem_mem hd) hB hS⟩)
      exact atI_at d0 hd
end
end K01

namespace K01
open PySem L2 Rng
section
variable {P : Program} {w : World} {K : PySem.W.Frag} {mg : Str → Option Value} {base : Heap}
def words : List Str := ["now", "strict", "before", "after", "time", "value", "any", "at", "on", "apart"]
theorem words_ok : ∀ z ∈ words, isName z = true := by decide +kernel
theorem letters_ok : ∀ c ∈ (Str.ofString "abcdefghijklmnopqrstuvwxyz").cps.toList, low c = true := by decide +kernel
theorem signs_ok : ∀ c ∈ (Str.ofString "abcdefghijklmnopqrstuvwxyz" ++ Str.ofString "0123456789").cps.toList, (low c || dig c) = true := by decide +kernel
theorem scTag : FnScope ["_law_source_here", "_law_small", "_law_signs", "_law_k"] ["_law_source_here"] (defScope sTag) := ⟨rfl, rfl, rfl, by decide +kernel, rfl, by decide +kernel, by decide +kernel⟩
theorem ok_tag {f fP fO : Addr} {fd dP dO : FuncData} (F : Fun K "_law_tag" "_law_tag" sTag f fd) (T : Bt mg) (FP : Fun K "_law_pick" "_law_pick" sPick fP dP) (bP : Binds K dP ["_law_source_here", "_law_many"] []) (mP : mg "_law_pick" = some (.ref fP))
    (FO : Fun K "_law_one" "_law_one" sOne fO dO) (bO : Binds K dO ["_law_source_here", "_law_things"] []) (mO : mg "_law_one" = some (.ref fO)) : FnOk P w K mg base CX0 3 f fd ["_law_source_here"] spTag := by
  have GP : FnOk P w K mg base CX0 1 fP dP ["_law_source_here", "_law_many"] spPick := ok_pick FP T
  have GO : FnOk P w K mg base CX0 2 fO dO ["_law_source_here", "_law_things"] (spOne K) := ok_one FO T FP bP mP
  refine F.ok scTag (fun vs H Q E h => ?_) (fun cdv A outer s H vs Q E hr h => ?_)
  · obtain ⟨p, b, rfl, _⟩ := h
    rfl
  · obtain ⟨p, b, rfl, hs, hb, q⟩ := h
    have hr1 : Room 1 _ := hr.mono (by decide)
    refine ⟨_, pss_cons (ps_if (pt_cmpR op_eq (pe_call GP hr1 rfl mP FP.kp bP .nil pass0 (pa_cons (pv 0) (pa_cons pe_int pa_nil))) pe_int (nomark _))
        (pss_one (ps_ret (pe_call GO hr rfl mO FO.kp bO .nil pass0 (pa_cons (pv 0) (pa_cons (pe_lst (pa_cons (pe_str) (pa_cons (pe_str) (pa_cons (pe_str) (pa_cons (pe_str) (pa_cons (pe_str) (pa_cons (pe_str) (pa_cons (pe_str) (pa_cons (pe_str) (pa_cons (pe_str) (pa_cons (pe_str) pa_nil))))))))))) pa_nil))))) pss_nil)
      (pss_cons (ps_set (i := 1) scTag.nd rfl (Or.inr rfl) pe_str)
      (pss_cons (ps_setLc (i := 2) (own := [("_law_k", 3)]) (g := gName 3) (tt := tYes) rfl scTag.nd rfl rfl (sw_true rfl rfl rfl (by decide +kernel)) (pi_range1 rfl T.nRange (pa_cons (pe_call GO hr rfl mO FO.kp bO .nil pass0 (pa_cons (pv 0) (pa_cons (pe_lst (pa_cons (pe_int) (pa_cons (pe_int) (pa_cons (pe_int) (pa_cons (pe_int) (pa_cons (pe_int) pa_nil)))))) pa_nil))) pa_nil))
          (blkOk_by (own := [("_law_k", 3)]) (N := ["_law_source_here", "_law_small", "_law_signs", "_law_k"]) (sc := defScope sTag) (by decide +kernel)) (fun _ _ _ _ _ => pg_name (i := 3) scTag.nd rfl (Or.inl rfl)) (fun _ _ _ _ _ => pts_nil)
          (fun _ _ _ _ _ => pe_call GO hr rfl mO FO.kp bO .nil pass0 (pa_cons (pv 0) (pa_cons (pe_op op_add_str (pv 1) pe_str) pa_nil))))
      (pss_one (ps_ret (pe_op op_add_str (pe_call GO hr rfl mO FO.kp bO .nil pass0 (pa_cons (pv 0) (pa_cons (pv 1) pa_nil))) (pe_join pe_str (pv 2))))))), ?_⟩
    refine ⟨_, rfl, p, 3, b, rfl, hs, by omega, by decide, by decide, fun d H1 d0 d1 B1 S1 => ⟨rfl, _, rfl, ite2 (fun c => ?_) (fun c => ?_)⟩⟩
    · refine ⟨_, rfl, by show 10 ≤ sizeLine; decide, fun l nl => ⟨p, .ref l, b + 1, rfl, S1.same (same_put nl), by omega, .inl ⟨l, _, rfl, S1.ne nl, SqL.of upd_same, by show 0 < 10; decide, by show 10 ≤ 1000; decide, fun y H2 hy B2 S2 => ?_⟩⟩⟩
      have hy' : y ∈ words.map V.str := hy
      obtain ⟨z, hz, rfl⟩ := List.mem_map.mp hy'
      exact q z H2 (words_ok z hz) (B1.trans ((Same.but (same_put nl) p).trans B2)) (S2.mono (by omega))
    · refine ⟨_, rfl, by show 5 ≤ sizeLine; decide, fun l nl => ⟨p, .ref l, b + 1, rfl, S1.same (same_put nl), by omega, .inl ⟨l, _, rfl, S1.ne nl, SqL.of upd_same, by show 0 < 5; decide, by show 5 ≤ 1000; decide, fun y H2 hy B2 S2 => ?_⟩⟩⟩
      have hy' : y ∈ ([0, 0, 1, 2, 7] : List Int).map V.int := hy
      obtain ⟨n, hn, rfl⟩ := List.mem_map.mp hy'
      have n0 : 0 ≤ n ∧ n ≤ 7 := by
        have : ∀ n ∈ ([0, 0, 1, 2, 7] : List Int), 0 ≤ n ∧ n ≤ 7 := by decide
        exact this n hn
      have B12 : But p H H2 := B1.trans ((Same.but (same_put nl) p).trans B2)
      refine ⟨n, rfl, by omega, by omega, fun D nD => lc_it (walk_range (lo := 0) (n := n.toNat)) (fun j H' => But p H2 H' ∧ Src H' p (b + 2 + j) ∧ ∃ zs : List Str, zs.length = j ∧ (∀ z ∈ zs, sign1 z) ∧ H' D = some (.lst (zs.map V.str)))
        ⟨Same.but (same_put nD) p, S2.same (same_put nD), [], rfl, (fun _ h => nomatch h), upd_same⟩ (fun _ _ _ _ => trivial) ?_ ?_⟩
      · rintro j x H3 H4 hj ⟨B3, S3, zs, lz, hz, e3⟩ ⟨rfl, rfl⟩
        have nDp : D ≠ p := S2.ne nD
        refine ⟨rfl, ?_⟩
        refine ⟨_, rfl, _, rfl, _, _, rfl, rfl, by show 26 + 10 ≤ sizeLine; decide, p, .str _, b + 2 + j, rfl, S3, by omega, .inr ⟨_, rfl, by decide +kernel, by decide +kernel, fun c H5 hc B5 S5 => ⟨zs.map V.str, B5 _ _ nDp e3, ?_, ?_, ?_, zs ++ [⟨#[c]⟩], ?_, ?_, ?_⟩⟩⟩
        · rw [List.length_map]
          exact small1000 (by omega)
        · intro a o na e
          rw [upd_ne (ne_of_none e nD)]
          exact B5 _ _ na (B3 _ _ na e)
        · obtain ⟨A0, B0, t0, e0, r⟩ := S5
          exact ⟨A0, B0, t0, by rw [upd_ne nDp.symm]; exact e0, r⟩
        · rw [List.length_append, lz]
          rfl
        · intro z h
          rcases List.mem_append.mp h with h | h
          · exact hz z h
          · obtain rfl := List.mem_singleton.mp h
            exact ⟨c, rfl, signs_ok c hc⟩
        · rw [upd_same, List.map_append]
          rfl
      · rintro H3 ⟨B3, S3, zs, lz, hz, e3⟩
        have nDp : D ≠ p := S2.ne nD
        refine ⟨_, rfl, _, rfl, p, .str _, b + 2 + n.toNat, rfl, S3, by omega, .inr ⟨_, rfl, by decide +kernel, by decide +kernel, fun c H5 hc B5 S5 => ?_⟩⟩
        refine ⟨⟨_, rfl⟩, _, rfl, Str.ofString "", D, zs, rfl, rfl, .inl (SqL.of (B5 _ _ nDp e3)), ?_, _, _, rfl, rfl, ?_, ?_⟩
        · rw [sign_sum zs hz, show (Str.ofString "").length = 0 from rfl]
          omega
        · have hj : (Txt.join (Str.ofString "") zs).length ≤ 7 := by
            obtain ⟨h1, _⟩ := flat_signs zs hz
            show (Txt.join (Str.ofString "") zs).cps.size ≤ 7
            rw [← Array.length_toList]
            show (TL.tl (Txt.join (Str.ofString "") zs)).length ≤ 7
            rw [TL.join_eq, TL.tl_join, show TL.tl (Str.ofString "") = [] from rfl, joinL_nil, h1]
            omega
          show 1 + _ ≤ _
          have : 8 ≤ sizeLine := by decide
          omega
        · exact q _ H5 (name_mk (letters_ok c hc) hz (by omega)) (B12.trans (B3.trans B5)) (S5.mono (by omega))
end
end K01

/-! sets of things of one kind that can be walked: what they hold, told as a list in the order in which it came -/
namespace Bag
open PySem PySem.Spec PyProof.Rows L2
/-- what is known when one more is met -/
def met {κ : Type} [DecidableEq κ] (ks : List κ) (k : κ) : List κ := if k ∈ ks then ks else ks ++ [k]
theorem met_nodup {κ : Type} [DecidableEq κ] {ks : List κ} {k : κ} (h : ks.Nodup) : (met ks k).Nodup := by
  unfold met
  split
  · exact h
  · rename_i n
    refine List.nodup_append.mpr ⟨h, List.nodup_cons.mpr ⟨List.not_mem_nil, List.nodup_nil⟩, fun a ha c hc e => ?_⟩
    obtain rfl := List.mem_singleton.mp hc
    exact n (e ▸ ha)
theorem mem_met {κ : Type} [DecidableEq κ] {ks : List κ} {k j : κ} : j ∈ met ks k ↔ j ∈ ks ∨ j = k := by
  unfold met
  split
  · rename_i m
    exact ⟨.inl, fun h => h.elim id fun e => e ▸ m⟩
  · rw [List.mem_append, List.mem_singleton]
theorem met_len {κ : Type} [DecidableEq κ] {ks : List κ} {k : κ} : (met ks k).length ≤ ks.length + 1 := by
  unfold met
  split
  · omega
  · rw [List.length_append]
    exact Nat.le_refl _
section
variable {P : Program} {w : World} {κ : Type} [DecidableEq κ] {kd : KeyKind P w κ}
theorem items_turn {js : List κ} {vs us : List Value} (p : us.Perm vs) (h : ItemsAre kd js vs) : ∃ is, is.Perm js ∧ ItemsAre kd is us := by
  induction p generalizing js with
  | nil => exact ⟨js, .refl _, h⟩
  | cons v p ih =>
    cases h with
    | cons a b =>
      obtain ⟨is, q, r⟩ := ih b
      exact ⟨_, q.cons _, .cons a r⟩
  | swap x y l =>
    cases h with
    | cons a b =>
      cases b with
      | cons b c => exact ⟨_, .swap _ _ _, .cons b (.cons a c)⟩
  | trans p q ih1 ih2 =>
    obtain ⟨i1, q1, r1⟩ := ih2 h
    obtain ⟨i2, q2, r2⟩ := ih1 r1
    exact ⟨i2, q2.trans q1, r2⟩
theorem items_len {js : List κ} {vs : List Value} (h : ItemsAre kd js vs) : js.length = vs.length := by
  induction h with
  | nil => rfl
  | cons _ _ ih => rw [List.length_cons, List.length_cons, ih]
theorem items_mem {js : List κ} {vs : List Value} (h : ItemsAre kd js vs) (k : κ) : k ∈ js ↔ ∃ v ∈ vs, kd.is k v = true := by
  induction h with
  | nil => exact ⟨fun z => (nomatch z), fun ⟨_, z, _⟩ => (nomatch z)⟩
  | cons a _ ih =>
    rw [List.mem_cons, ih]
    constructor
    · rintro (rfl | ⟨v, hv, e⟩)
      · exact ⟨_, List.mem_cons_self, a⟩
      · exact ⟨v, List.mem_cons_of_mem _ hv, e⟩
    · rintro ⟨v, hv, e⟩
      rcases List.mem_cons.mp hv with rfl | hv
      · exact .inl (kd.inj _ _ _ e a)
      · exact .inr ⟨v, hv, e⟩
/-- a set's table with the things ks -/
structure Tbl (kd : KeyKind P w κ) (ks : List κ) (es : Array (Int × Value)) (t : SetTable) : Prop where
  good : ElemsOf kd es.toList
  keys : ∃ js, js.Perm ks ∧ ItemsAre kd js (es.toList.map (·.2))
  nd : ks.Nodup
  small : es.size < scanBound
  fits : t.fits es.size = true
  ris : Ris t.place.toList
  led : w.params.followText "set-order" = true ∨ t.led = true
theorem Tbl.size {ks : List κ} {es : Array (Int × Value)} {t : SetTable} (T : Tbl kd ks es t) : es.size = ks.length := by
  obtain ⟨js, p, i⟩ := T.keys
  rw [← p.length_eq, items_len i, List.length_map, Array.length_toList]
theorem Tbl.mem {ks : List κ} {es : Array (Int × Value)} {t : SetTable} (T : Tbl kd ks es t) (k : κ) : k ∈ ks ↔ ∃ e ∈ es.toList, kd.is k e.2 = true := by
  obtain ⟨js, p, i⟩ := T.keys
  rw [← p.mem_iff, items_mem i]
  constructor
  · rintro ⟨v, hv, e⟩
    obtain ⟨x, hx, rfl⟩ := List.mem_map.mp hv
    exact ⟨x, hx, e⟩
  · rintro ⟨x, hx, e⟩
    exact ⟨_, List.mem_map.mpr ⟨x, hx, rfl⟩, e⟩
theorem Tbl.turn {ks : List κ} {es es' : Array (Int × Value)} {t t' : SetTable} (T : Tbl kd ks es t) (p : es'.toList.Perm es.toList) (hf : t'.fits es'.size = true) (hr : Ris t'.place.toList) (hl : t'.led = t.led) : Tbl kd ks es' t' := by
  obtain ⟨js, pj, i⟩ := T.keys
  obtain ⟨is, q, r⟩ := items_turn (p.map (·.2)) i
  have sz : es'.size = es.size := by rw [← Array.length_toList, p.length_eq, Array.length_toList]
  exact ⟨fun e he => T.good e (p.mem_iff.mp he), ⟨is, q.trans pj, r⟩, T.nd, sz ▸ T.small, hf, hr, T.led.imp id fun z => hl ▸ z⟩
theorem Tbl.put {ks : List κ} {es es' : Array (Int × Value)} {t t' : SetTable} (T : Tbl kd ks es t) {k : κ} {v : Value} (hk : kd.is k v = true) (hs : v.scannable = true) (hn : k ∉ ks) (room : ks.length + 1 < scanBound)
    (p : es'.toList.Perm ((kd.hash k, v) :: es.toList)) (hf : t'.fits es'.size = true) (hr : Ris t'.place.toList) (hl : t'.led = t.led) : Tbl kd (ks ++ [k]) es' t' := by
  obtain ⟨js, pj, i⟩ := T.keys
  obtain ⟨is, q, r⟩ := items_turn (p.map (·.2)) (ItemsAre.cons (ks := js) (k := k) hk i)
  have sz : es'.size = ks.length + 1 := by rw [← Array.length_toList, p.length_eq, List.length_cons, Array.length_toList, T.size]
  refine ⟨fun e he => ?_, ⟨is, q.trans ((pj.cons k).trans (List.perm_append_singleton k ks).symm), r⟩, ?_, sz ▸ room, hf, hr, T.led.imp id fun z => hl ▸ z⟩
  · rcases List.mem_cons.mp (p.mem_iff.mp he) with z | z
    · rw [z]
      exact ⟨⟨k, hk, rfl⟩, hs⟩
    · exact T.good e z
  · have := met_nodup (k := k) T.nd
    unfold met at this
    rwa [if_neg hn] at this
/-- the set at a holds ks -/
def Bg (kd : KeyKind P w κ) (h : Heap) (a : Addr) (ks : List κ) : Prop := ∃ o es ep t, h.get? a = some o ∧ o.ExactSet ∧ o.data = .set es ep t ∧ Tbl kd ks es t
theorem Bg.at {h h' : Heap} {a : Addr} {ks : List κ} (B : Bg kd h a ks) (k : ∀ o, h.get? a = some o → h'.get? a = some o) : Bg kd h' a ks := by
  obtain ⟨o, es, ep, t, e, r⟩ := B
  exact ⟨o, es, ep, t, k o e, r⟩
theorem Bg.obj {h : Heap} {a : Addr} {ks : List κ} (B : Bg kd h a ks) : ∃ o, h.get? a = some o ∧ o.cls = .type "set" := by
  obtain ⟨o, es, ep, t, e, x, _⟩ := B
  exact ⟨o, e, x.1⟩
variable {A : Around} {E : Value → Shared → Prop} {s : Shared} {a : Addr} {ks : List κ}
/-- what stands at the end of an addition: the table stored, laid anew where it is too full -/
theorem tail_put {ring : Bool → Sem Unit} (hg : ∀ (b : Bool) (z : Shared) (W : Unit → Shared → Prop), W () z → wpAny (model P w) A (ring b) W E z) {o : Obj} {es : Array (Int × Value)} {ep : Nat} {t : SetTable}
    (ho : s.heap.get? a = some o) (hx : o.ExactSet) (hd : o.data = .set es ep t) {e1 : Array (Int × Value)} {t1 : SetTable} {ls : List κ} (T : Tbl kd ls e1 t1) {old : Bool} {R : Option Bool → Shared → Prop}
    (hR : ∀ h', Heap.SameBut a s.heap h' → Bg kd h' a ls → R (some true) { s with heap := h' }) :
    wpAny (model P w) A (do
        storeSet a e1 t1
        if (!old && t1.tooFull) = true then do
            ring (relayAll t1 e1 (SetTable.grown e1.size)).2.2
            storeSet a (relayAll t1 e1 (SetTable.grown e1.size)).1 (relayAll t1 e1 (SetTable.grown e1.size)).2.1
            pure (some true)
          else pure (some true)) R E s := by
  have k1 := store_at (es' := e1) (t' := t1) ho hd
  have b1 := Heap.SameBut.update s.heap a (Obj.putSet e1 t1)
  refine wpAny_bind (wpAny_storeSet_of ho hd ?_ (fits_of_scanBound T.small))
  by_cases c : (!old && t1.tooFull) = true
  · rw [if_pos c]
    have T2 := T.turn (relayAll_perm t1 e1 (SetTable.grown e1.size)) (relayAll_fits t1 e1 (SetTable.grown e1.size)) (relayAll_ris t1 e1 (SetTable.grown e1.size)) (relayAll_led t1 e1 (SetTable.grown e1.size))
    generalize relayAll t1 e1 (SetTable.grown e1.size) = Y at T2 ⊢
    obtain ⟨e2, t2, gave⟩ := Y
    refine wpAny_bind (hg _ _ _ (wpAny_bind (wpAny_storeSet_of k1 rfl ?_ (fits_of_scanBound T2.small))))
    exact wpAny_pure (hR _ (b1.trans (Heap.SameBut.update _ a _)) ⟨_, _, _, _, store_at k1 rfl, hx, rfl, T2⟩)
  · rw [if_neg c]
    exact wpAny_pure (hR _ b1 ⟨_, _, _, _, k1, hx, rfl, T⟩)
theorem put_hashed {k : κ} {v : Value} {Q : Bool → Shared → Prop} (B : Bg kd s.heap a ks) (hk : kd.is k v = true) (hs : v.scannable = true) (room : ks.length + 1 < scanBound)
    (hQ : ∀ h' b, Heap.SameBut a s.heap h' → Bg kd h' a (met ks k) → Q b { s with heap := h' }) : wpAny (model P w) A (setAddHashed a v (kd.hash k)) Q E s := by
  obtain ⟨o, es, ep, t, ho, hx, hd, T⟩ := id B
  unfold setAddHashed setAddHashedIn
  refine wpAny_holding (wpAny_bind (wpAny_setState_of ho hd T.fits ?_))
  dsimp only
  rw [byScan_of hs T.small T.good]
  simp only [↓reduceIte]
  unfold setAddByScan
  refine wpAny_bind (wpAny_bind (wpAny_rule (wpAny_bind (wpAny_setScan_of hk ho hd T.fits T.good ?_))))
  by_cases hm : k ∈ ks
  · obtain ⟨e, he, ek⟩ := (T.mem k).mp hm
    cases hf : es.toList.findIdx? (fun e => kd.is k e.2) with
    | none => exact absurd ek (Bool.eq_false_iff.mp (List.findIdx?_eq_none_iff.mp hf e he))
    | some j =>
      dsimp only
      refine wpAny_pure (wpAny_pure (hQ s.heap _ (Heap.SameBut.refl a s.heap) ?_))
      unfold met
      rwa [if_pos hm]
  · cases hf : es.toList.findIdx? (fun e => kd.is k e.2) with
    | some j =>
      obtain ⟨hj, ej, _⟩ := List.findIdx?_eq_some_iff_getElem.mp hf
      exact absurd ((T.mem k).mpr ⟨_, List.getElem_mem hj, ej⟩) hm
    | none =>
      dsimp only
      have quiet : ∀ (b : Bool) (z : Shared) (W : Unit → Shared → Prop), W () z → wpAny (model P w) A (match b with | true => rule "set.scan.the-table-gave-way" | false => pure ()) W E z := fun b z W q => by
        cases b
        · exact wpAny_pure q
        · exact wpAny_rule q
      have pm := layNew_perm t es (kd.hash k) v
      have hf1 := layNew_fits t es (kd.hash k) v
      have hr1 := layNew_ris t es (kd.hash k) v T.ris
      have hl1 := layNew_led t es (kd.hash k) v
      generalize layNew t es (kd.hash k) v = Y at pm hf1 hr1 hl1 ⊢
      obtain ⟨e1, t1, old, gave⟩ := Y
      dsimp only at pm hf1 hr1 hl1 ⊢
      rw [Array.toList_push] at pm
      have p1 : e1.toList.Perm ((kd.hash k, v) :: es.toList) := pm.trans (List.perm_append_singleton _ _)
      have fin : ∀ h', Heap.SameBut a s.heap h' → Bg kd h' a (ks ++ [k]) → Q true { s with heap := h' } := fun h' sb b => by
        refine hQ h' _ sb ?_
        unfold met
        rwa [if_neg hm]
      refine wpAny_bind (quiet _ _ _ ?_)
      split
      · refine wpAny_bind ?_
        rw [hashByValue_scannable 8 hs]
        refine wpAny_pure ?_
        refine tail_put ?_ ho hx hd (T.put hk hs hm room p1 ?_ ?_ ?_) fun h' sb b => wpAny_pure (fin h' sb b)
        · exact fun b z W q => quiet b z W q
        · first | (split <;> first | exact hf1 | exact SetTable.fits_plain_off hf1) | exact hf1
        · first | (split <;> exact hr1) | exact hr1
        · first | (split <;> exact hl1) | exact hl1
      · refine wpAny_bind (wpAny_pure ?_)
        simp only [↓reduceIte]
        exact tail_put (fun b z W q => quiet b z W q) ho hx hd (T.put hk hs hm room p1 hf1 hr1 hl1) fun h' sb b => wpAny_pure (fin h' sb b)
end
end Bag

/-! set(xs) of a list, sorted(set) of texts -/
namespace Bag
open PySem PySem.Spec PyProof.Rows L2
/-- the different ones of a list, as they come first -/
def firsts {κ : Type} [DecidableEq κ] (xs : List κ) : List κ := xs.foldl met []
theorem firsts_snoc {κ : Type} [DecidableEq κ] (xs : List κ) (k : κ) : firsts (xs ++ [k]) = met (firsts xs) k := by
  unfold firsts
  rw [List.foldl_append]
  rfl
theorem firsts_take {κ : Type} [DecidableEq κ] {xs : List κ} {i : Nat} {k : κ} (h : xs[i]? = some k) : firsts (xs.take (i + 1)) = met (firsts (xs.take i)) k := by
  rw [List.take_add_one, h]
  exact firsts_snoc _ _
theorem firsts_len {κ : Type} [DecidableEq κ] : ∀ (n : Nat) (xs : List κ), xs.length = n → (firsts xs).length ≤ n
  | 0, xs, h => by
    rw [List.length_eq_zero_iff.mp h]
    exact Nat.le_refl _
  | n + 1, xs, h => by
    have hne : xs ≠ [] := fun z => by rw [z] at h; cases h
    have e := List.dropLast_concat_getLast hne
    have ih := firsts_len n xs.dropLast (by rw [List.length_dropLast, h]; rfl)
    rw [← e, firsts_snoc]
    exact Nat.le_trans met_len (Nat.succ_le_succ ih)
theorem firsts_nodup {κ : Type} [DecidableEq κ] (xs : List κ) : (firsts xs).Nodup := by
  have : ∀ (xs ks : List κ), ks.Nodup → (xs.foldl met ks).Nodup := fun xs => by
    induction xs with
    | nil => exact fun ks h => h
    | cons x xs ih => exact fun ks h => ih _ (met_nodup h)
  exact this xs [] List.nodup_nil
theorem mem_firsts {κ : Type} [DecidableEq κ] (xs : List κ) (k : κ) : k ∈ firsts xs ↔ k ∈ xs := by
  have : ∀ (xs ks : List κ), k ∈ xs.foldl met ks ↔ k ∈ ks ∨ k ∈ xs := fun xs => by
    induction xs with
    | nil => exact fun ks => ⟨.inl, fun h => h.elim id fun z => (nomatch z)⟩
    | cons x xs ih =>
      intro ks
      rw [List.foldl_cons, ih, mem_met, List.mem_cons, or_assoc]
  have h := this xs []
  show k ∈ xs.foldl met [] ↔ _
  rw [h]
  exact ⟨fun z => z.elim (fun z => (nomatch z)) id, .inr⟩
section
variable {P : Program} {w : World} {κ : Type} [DecidableEq κ] {kd : KeyKind P w κ} {A : Around} {s : Shared}
theorem empty_tbl (kd : KeyKind P w κ) : Tbl kd [] #[] (.fresh 0 0 (!w.params.followText "set-order")) where
  good := fun e h => by simp at h
  keys := ⟨[], .refl _, .nil⟩
  nd := List.nodup_nil
  small := by decide
  fits := by rfl
  ris := List.Pairwise.nil
  led := by
    show _ ∨ (!w.params.followText "set-order") = true
    cases w.params.followText "set-order" <;> simp
def emptyObj (w : World) : Obj := { cls := .type "set", dict := none, data := .set #[] 0 (.fresh 0 0 (!w.params.followText "set-order")) }
theorem empty_bg {h : Heap} {a : Addr} (e : h.get? a = some (emptyObj w)) : Bg kd h a [] := ⟨_, _, _, _, e, ⟨rfl, rfl, rfl⟩, rfl, empty_tbl kd⟩
/-- the turns of set(xs) -/
theorem turns {I S : Addr} {fp wr : List Addr} {G : Array GenState → Array GenState → Prop} {n : Nat} {Pv : Nat → Value → Prop} {St : Nat → Shared → Prop} {R : Result → Shared → Prop} (W : WalksS P w A.in1 I fp wr G n Pv St) (nS : S ∉ fp)
    (xs : List κ) (hn : xs.length = n) (room : n + 1 < scanBound) (hv : ∀ i v, Pv i v → ∃ k, xs[i]? = some k ∧ kd.is k v = true ∧ v.scannable = true) (left : Nat) :
    ∀ (i : Nat) (s : Shared), i + left = n → St i s → Bg kd s.heap S (firsts (xs.take i)) → (∀ z, Moved (S :: wr) G s z → Bg kd z.heap S (firsts xs) → R (.ok (.ret .none)) z) →
      codeAny (model P w) A (.builtin "set.update.loop" ⟨[.ref S, .ref I], []⟩) R s := by
  have nW : S ∉ wr := fun z => nS (W.sub _ z)
  have more : ∀ b ∈ wr, b ∈ S :: wr := fun b hb => List.mem_cons_of_mem _ hb
  induction left with
  | zero =>
    intro i s e st B r
    obtain rfl : i = n := e
    rw [← hn, List.take_length] at B
    refine codeAny_builtin F.entry_set_update_loop ?_
    rw [Around.under_plainId F.plain_set_update_loop _]
    show wpAny _ A.in1 (pyNext (.ref I) >>= _) _ _ s
    refine wpAny_bind (W.done s _ _ st fun z m => ?_)
    show wpAny _ A.in1 (ret Value.none) _ _ z
    exact wpAny_pure (r z (m.mono more) (B.at fun o e => m.heap S o nW e))
  | succ left ih =>
    intro i s e st B r
    refine codeAny_builtin F.entry_set_update_loop ?_
    rw [Around.under_plainId F.plain_set_update_loop _]
    show wpAny _ A.in1 (pyNext (.ref I) >>= _) _ _ s
    refine wpAny_bind (W.item i s _ _ (by omega) st fun v z p st1 m => ?_)
    obtain ⟨k, hk, kv, sc⟩ := hv i v p
    have B1 := B.at (h' := z.heap) fun o e => m.heap S o nW e
    show wpAny _ A.in1 (holding [v] (setAdd S v) >>= _) _ _ z
    refine wpAny_bind (wpAny_holding ?_)
    unfold setAdd
    refine wpAny_holding (wpAny_bind (kd.pyHash kv ?_))
    have ln := firsts_len _ (xs.take i) rfl
    rw [List.length_take] at ln
    refine put_hashed (s := { z with toks := z.toks + 1 }) B1 kv sc (by omega) fun h' b sb B2 => ?_
    rw [← firsts_take hk] at B2
    refine wpAny_pure ⟨plainId_quiet F.plain_set_update_loop _, ih (i + 1) _ (by omega) (W.frame _ z _ _ st1 (Nat.le_succ _) fun c hc o e => ?_) B2 fun y my By => ?_⟩
    · exact (sb.2 c fun q => nS (q ▸ hc)).trans e
    · exact r y (Moved.trans W.gtrans ((m.mono more).then_heap (Nat.le_succ _) fun c o hc e => (sb.2 c fun q => hc (q ▸ List.mem_cons_self)).trans e) my) By
set_option maxHeartbeats 8000000 in
/-- set(xs), xs a list -/
theorem set_of_list {E : Value → Shared → Prop} {l : Addr} {us : Array Value} {xs : List κ} {Q : Value → Shared → Prop} (hh : A.handled = none) (hl : s.heap.IsList l us) (hi : ItemsAre kd xs us.toList) (sc : ∀ v ∈ us.toList, v.scannable = true) (room : xs.length + 1 < scanBound)
    (h : ∀ (h' : Heap) (tk : Nat), Bg kd h' s.heap.objs.size (firsts xs) → (∀ b o, s.heap.get? b = some o → h'.get? b = some o) → Q (.ref s.heap.objs.size) { s with heap := h', toks := tk }) :
    wpAny (model P w) A (call (.type "set") [.ref l]) Q E s := by
  have hsz : us.size = xs.length := by rw [items_len hi, Array.length_toList]
  obtain ⟨c, tl, hmro⟩ := F.called_set.mro
  have hmade := F.called_set.made
  have hsub := F.called_set.sub
  refine wpAny_call (codeAny_of_tree ?_)
  show wpAny _ _ (callAny (.type "set") _) _ _ _
  refine wpAny_pure ⟨Code.quiet_builtin _ (by decide +kernel), codeAny_builtin F.entry_type_call ?_⟩
  rw [Around.under_plain (weight_type_call_type "set" [.ref l] []) rfl]
  have h1 := F.called_set.notType
  have h2 := F.called_set.canCreate
  have hct := F.typeCall_set_1 (.ref l)
  repeat (any_goals (first | assumption | wp_step))
  refine codeAny_mono (code_set_led1 (.ref l) (E := E) (Q₁ := fun u z => u = .ref s.heap.objs.size ∧ z = { s with heap := s.heap.push (emptyObj w) }) ⟨rfl, rfl⟩) fun r z hr => ?_
  cases r with
  | error e => exact hr
  | ok fl =>
    cases fl with
    | ret u =>
      obtain ⟨rfl, rfl⟩ := hr
      have at0 : (s.heap.push (emptyObj w)).get? s.heap.objs.size = some (emptyObj w) := Heap.get?_push_size _ rfl
      have hT : Shared.TypeIs { s with heap := s.heap.push (emptyObj w) } (.ref s.heap.objs.size) "set" := ⟨_, at0, rfl⟩
      have hli := F.called_set.init.lookup
      have hbi := F.called_set.init.bind (.ref s.heap.objs.size)
      repeat (any_goals (first | assumption | wp_step))
      refine codeAny_mono (codeAny_call_builtin (R := wants (fun r y => r = .none ∧ ∃ h' tk, y = { s with heap := h', toks := tk } ∧ Bg kd h' s.heap.objs.size (firsts xs) ∧ (∀ b o, s.heap.get? b = some o → h'.get? b = some o)) E) F.called_set.init.plain F.entry_set_init (check_set_init_1 hT ?_)) fun r2 y hy => ?_
      · obtain ⟨⟨oc, od, odt, osl⟩, hol, hcl, nl, hdl⟩ := hl
        simp only at hcl hdl
        subst hcl
        subst hdl
        have hol1 : (s.heap.push (emptyObj w)).get? l = some { cls := .type "list", dict := od, data := .seq us nl, slots := osl } := Heap.get?_push_of_some _ hol
        have hl1 : (s.heap.push (emptyObj w)).IsList l us := ⟨_, hol1, rfl, nl, rfl⟩
        have q1 := F.sub_list_set
        have q2 := F.sub_list_frozenset
        have q3 : (Value.type "list" == Value.type "dict") = false := by decide
        unfold Builtin.«set.__init__» noKeywords Builtin.Frozenset.updateFrom
        generalize hPI : pyIter = PI
        wp_walk
        subst hPI
        refine wpAny_pyIter_list hl1 (wpAny_bind (wpAny_runValue ?_))
        have lt : l < s.heap.objs.size := Heap.lt_size hol
        have h3 : A.in1.in1.in1.handled = none := by simp [hh]
        have z1 : (s.heap.push (emptyObj w)).objs.size = s.heap.objs.size + 1 := Heap.size_push ..
        refine turns (kd := kd) ((Walks.list h3 (s.heap.push (emptyObj w)).objs.size l (by rw [z1]; exact Nat.ne_of_lt (Nat.lt_succ_of_lt lt)) us).toS) (S := s.heap.objs.size) ?_ xs hsz.symm (hsz ▸ room) (fun i v hv => ?_) us.size 0 _ (Nat.zero_add _) ⟨⟨_, Heap.get?_push_size _ rfl, rfl, rfl⟩, hl1.push _⟩ ?_ fun y m B => ?_
        · rw [z1]
          simp only [List.mem_cons, List.not_mem_nil, or_false, not_or]
          exact ⟨Nat.ne_of_lt (Nat.lt_succ_self _), Nat.ne_of_gt lt⟩
        · have hv' : us.toList[i]? = some v := by rw [Array.getElem?_toList]; exact hv
          clear h hh hol hol1 hl1
          have gen : ∀ {js : List κ} {vs : List Value} (i : Nat), ItemsAre kd js vs → vs[i]? = some v → ∃ k, js[i]? = some k ∧ kd.is k v = true := fun {js vs} i q => by
            induction q generalizing i with
            | nil => intro e; simp at e
            | cons a b ih =>
              intro e
              cases i with
              | zero =>
                obtain rfl := Option.some.inj e
                exact ⟨_, rfl, a⟩
              | succ i => exact ih i e
          obtain ⟨k, e1, e2⟩ := gen i hi hv'
          exact ⟨k, e1, e2, sc v (List.mem_of_getElem? hv')⟩
        · exact empty_bg (Heap.get?_push_of_some _ at0)
        · obtain ⟨h', g2, d2, tk, os⟩ := y
          obtain rfl : g2 = s.gens := m.gens
          obtain rfl : d2 = s.drawn := m.drawn
          obtain rfl : os = s.os := m.os
          refine wpAny_pure ?_
          show wpAny _ _ (ret Value.none) _ _ _
          refine wpAny_pure ⟨rfl, h', tk, rfl, B, fun b o e => ?_⟩
          have lb : b < s.heap.objs.size := Heap.lt_size e
          refine m.heap b o (fun z => ?_) (Heap.get?_push_of_some _ (Heap.get?_push_of_some _ e))
          rcases List.mem_cons.mp z with z | z
          · exact absurd z (Nat.ne_of_lt lb)
          · have q := List.mem_singleton.mp z
            rw [z1] at q
            exact absurd q (Nat.ne_of_lt (Nat.lt_succ_of_lt lb))
      · cases r2 with
        | error e => exact hy
        | ok f2 =>
          cases f2 with
          | ret u =>
            obtain ⟨rfl, h', tk, rfl, B, k⟩ := hy
            repeat (any_goals (first | assumption | wp_step))
            exact h _ _ B k
          | _ => exact hy.elim
    | _ => exact hr.elim
end
end Bag

/-! sorted(set) of texts; sets of texts as tracked things -/
namespace Bag
open PySem PySem.Spec PyProof.Rows L2
section
variable {P : Program} {w : World} {A : Around} {E : Value → Shared → Prop} {s : Shared}
theorem strs_are {js : List Str} {vs : List Value} (h : ItemsAre (PySem.strKind P w) js vs) : StrsAre vs js := by
  induction h with
  | nil => exact .nil
  | cons a _ ih =>
    obtain ⟨t, rfl⟩ := Value.isStrOf_shape a
    exact .cons _ t ih
theorem are_strs {js : List Str} {vs : List Value} (h : StrsAre vs js) : ItemsAre (PySem.strKind P w) js vs := by
  induction h with
  | nil => exact .nil
  | cons y t _ ih => exact .cons (strKind_is P w y t) ih
theorem scan_strs {js : List Str} {vs : List Value} (h : StrsAre vs js) : ∀ v ∈ vs, v.scannable = true := by
  induction h with
  | nil => exact fun v z => (nomatch z)
  | cons y t _ ih => exact fun v z => (List.mem_cons.mp z).elim (fun e => by rw [e]; rfl) (ih v)
theorem sorted_bag {ks : List Str} {a : Addr} {Q : Value → Shared → Prop} (B : Bg (PySem.strKind P w) s.heap a ks) (hh : A.handled = none)
    (h : ∀ z p (out : Array Value) (c : Nat) (ys : List Str), (∀ b o, s.heap.get? b = some o → z.heap.get? b = some o) → z.gens = s.gens → z.os = s.os → s.heap.objs.size ≤ p → z.heap.get? p = some (seqObj "list" out c) → StrsAre out.toList ys → ys.Perm ks → sortedS ys = true → Q (.ref p) z) :
    wpAny (model P w) A (call (.builtin "sorted") [.ref a]) Q E s := by
  obtain ⟨o, es, ep, t, ho, hx, hd, T⟩ := B
  refine Calls.call_function_entry kind_sorted plain_sorted entry_sorted (args_sorted1 _) ?_
  unfold Builtin.«sorted»
  refine wpAny_bind (m := checkCount "sorted" 1 1 _) (wpAny_pure ?_)
  refine wpAny_bind (collect_set (A := A.in1) hh ⟨o, ho, hx.1, hd⟩ T.fits T.small T.ris T.led fun y vs k hz g1 o1 pm => ?_)
  obtain ⟨js, pj, ij⟩ := T.keys
  obtain ⟨is, q, ii⟩ := items_turn pm ij
  have sa := strs_are ii
  have ln : vs.length ≤ sizeLine := by
    rw [pm.length_eq, List.length_map, Array.length_toList]
    exact fits_of_scanBound T.small
  refine wpAny_bind (wpAny_newList ?_ ln)
  have ol : (y.heap.push (seqObj "list" vs.toArray 0)).get? y.heap.objs.size = some (seqObj "list" vs.toArray 0) := Heap.get?_push_size _ rfl
  refine wpAny_bind (wpAny_holding (wpAny_call_entry slot_list_sort ⟨_, ol, rfl⟩ entry_list_sort
    (list_sort_treeKAny PyProof.Rows.strKind_oneLt ol sa.keysOf (fun v₁ v₂ rest e => keyKind_strs (by rw [← e]; exact sa)) ln fun st hp hs => ⟨_, rfl, ?_⟩) (args_list_sort _)))
  obtain ⟨ys, h1, h2, h3⟩ := sorted_out_str sa hp hs
  obtain ⟨c, hc⟩ := sortedHeap_at (vs := vs) (out := (arrOf st).map (·.2)) ol
  refine wpAny_pure ⟨_, rfl, h _ y.heap.objs.size _ c ys (fun b u e => ?_) g1 o1 hz hc h1 (h2.trans (q.trans pj)) h3⟩
  have lt := Heap.lt_size (k b u e)
  show (sortedHeap (y.heap.push (seqObj "list" vs.toArray 0)) y.heap.objs.size vs _).get? b = some u
  rw [sortedHeap_old (Nat.ne_of_lt lt) (by rw [size_push']; exact Nat.lt_succ_of_lt lt)]
  exact Heap.get?_push_of_some _ (k b u e)
end
/-- the set of texts at a -/
def BagO (P : Program) (w : World) (a : Addr) (ks : List Str) : HO := .ext fun h => Bg (PySem.strKind P w) h a ks
theorem bagO_ok {P : Program} {w : World} {H : Hp} {h : Heap} {a : Addr} {ks : List Str} (B : Bg (PySem.strKind P w) h a ks) : ObjOk P w H h a (BagO P w a ks) := by
  obtain ⟨o, e, _⟩ := B.obj
  exact ⟨B, ⟨o, e⟩, fun _ _ b k => Bg.at b k⟩
section
variable {X : Cx} {pins : List (Addr × Obj)} {σ : L2.St} {H : Hp} {s : Shared}
theorem bagO_get {a : Addr} {ks : List Str} (I : Inv X pins σ H s) (e : H a = some (BagO X.prog X.w a ks)) : Bg (PySem.strKind X.prog X.w) s.heap a ks := (I.hok a _ e).1
/-- set(xs), xs a list of texts -/
def rSetS (K : PySem.W.Frag) (P : Program) (w : World) : List V → Hp → VK → Prop := fun vs H Q => ∃ (l : Addr) (xs : List Str), vs = [V.ref l] ∧ SqL K H l (xs.map V.str) ∧ xs.length + 1 < scanBound ∧ ∀ p, H p = none → Q (.ref p) (upd H p (BagO P w p (firsts xs)))
theorem cr_setS (hc : X.calm = true) : CallR X (.type "set") (rSetS X.K X.prog X.w) := by
  intro pins s σ H vs us Q I r h
  obtain ⟨l, xs, rfl, hl, room, q⟩ := h
  rw [Vals.ref1 r]
  obtain ⟨its, rv, pl, _⟩ := I.list hl
  have sa : StrsAre its.toArray.toList xs := by simpa using rv.strs
  refine set_of_list (kd := PySem.strKind X.prog X.w) (I.ok.hd hc) pl.isList (are_strs sa) (scan_strs sa) room fun h' tk B k => ?_
  exact ⟨.ref _, upd H s.heap.objs.size (BagO X.prog X.w s.heap.objs.size (firsts xs)), I.laid (t' := tk) k (Nat.le_refl _) (bagO_ok B), rfl, q _ (I.hok.fresh (Nat.le_refl _))⟩
/-- sorted(s), s a set of texts -/
def rSortBag (P : Program) (w : World) : List V → Hp → VK → Prop := fun vs H Q => ∃ (a : Addr) (ks : List Str), vs = [V.ref a] ∧ H a = some (BagO P w a ks) ∧ ∀ ys p, ys.Perm ks → sortedS ys = true → H p = none → Q (.ref p) (upd H p (.lst (ys.map V.str)))
theorem cr_sortBag (hc : X.calm = true) : CallR X (.builtin "sorted") (rSortBag X.prog X.w) := by
  intro pins s σ H vs us Q I r h
  obtain ⟨a, ks, rfl, ha, q⟩ := h
  rw [Vals.ref1 r]
  have B := bagO_get I ha
  refine sorted_bag B (I.ok.hd hc) fun z p out c ys k g o hp hg hs pm so => ?_
  have hn : H p = none := I.hok.fresh hp
  have ln : (ys.map V.str).length ≤ sizeLine := by
    obtain ⟨_, es, _, _, _, _, _, T⟩ := B
    rw [List.length_map, pm.length_eq, ← T.size]
    exact fits_of_scanBound T.small
  have J : Inv X pins σ (upd H p (.lst (ys.map V.str))) { s with heap := z.heap, gens := z.gens, drawn := z.drawn, toks := z.toks } :=
    I.call (ch := []) (Un.laid k hp hn) (I.hok.laid k hp ⟨ln, out.toList, c, vals_of_strs hs, hg⟩) (by rw [g]; exact I.bare) (fun _ z => nomatch z)
  have e : z = { s with heap := z.heap, gens := z.gens, drawn := z.drawn, toks := z.toks } := by
    cases z
    cases s
    cases o
    rfl
  rw [e]
  exact ⟨.ref p, _, J, rfl, q ys p pm so hn⟩
/-- set.add of a text -/
theorem add_bag {E : Value → Shared → Prop} {D : Addr} {ks : List Str} {y : Str} {u : Value} {Q : Value → Shared → Prop} (I : Inv X pins σ H s) (hD : H D = some (BagO X.prog X.w D ks)) (ru : RelV (.str y) u) (room : ks.length + 1 < scanBound)
    (h : ∀ z, Inv X pins σ (upd H D (BagO X.prog X.w D (met ks y))) z → Q .none z) : wpAny (model X.prog X.w) X.A (call (.builtin "set.add") [.ref D, u]) Q E s := by
  have B := bagO_get I hD
  obtain ⟨o, ho, hc⟩ := B.obj
  obtain ⟨t, rfl⟩ : ∃ t, u = Value.str y t := ru
  refine wpAny_call_entry F.slot_set_add ⟨o, ho, hc⟩ F.entry_set_add ?_ (F.args_set_add_2 _ _)
  unfold Builtin.«set.add» Builtin.Frozenset.oneOther
  simp only [List.isEmpty_nil, bind_assoc]
  unfold Builtin.Frozenset.addrOf setAdd
  refine wpAny_bind (wpAny_pure ?_)
  try dsimp only
  refine wpAny_bind (wpAny_pure ?_)
  try dsimp only
  refine wpAny_bind (wpAny_holding (wpAny_bind ((PySem.strKind X.prog X.w).pyHash (strKind_is X.prog X.w y t) ?_)))
  refine put_hashed (s := { s with toks := s.toks + 1 }) B (strKind_is X.prog X.w y t) rfl room fun h' b sb B2 => ?_
  show wpAny _ _ (ret Value.none) _ _ _
  obtain ⟨o2, ho2, _⟩ := B2.obj
  exact wpAny_pure ⟨_, rfl, h _ (I.write (e := D) (t' := s.toks + 1) (by rw [hD]; trivial) (.inl rfl) (fun b u hb hu => (sb.2 b hb).trans hu) ⟨_, ho2⟩ (bagO_ok B2))⟩
end
end Bag

/-! lists of tuples: rows and places -/
namespace Rng
open PySem L2
/-- vs are tuples, what f says of each of as -/
inductive TupsAt {α : Type} (f : α → List V) (H : Hp) : List V → List α → Prop
  | nil : TupsAt f H [] []
  | cons {p : Addr} {a : α} {vs : List V} {as : List α} : H p = some (.tup (f a)) → TupsAt f H vs as → TupsAt f H (.ref p :: vs) (a :: as)
section
variable {α : Type} {f : α → List V} {H H' : Hp} {vs us : List V} {as bs : List α} {p : Addr}
theorem TupsAt.len (h : TupsAt f H vs as) : vs.length = as.length := by
  induction h with
  | nil => rfl
  | cons _ _ ih => rw [List.length_cons, List.length_cons, ih]
theorem TupsAt.keep (h : TupsAt f H vs as) (k : ∀ c ys, H c = some (.tup ys) → H' c = some (.tup ys)) : TupsAt f H' vs as := by
  induction h with
  | nil => exact .nil
  | cons e _ ih => exact .cons (k _ _ e) ih
theorem TupsAt.but (h : TupsAt f H vs as) (b : But p H H') (n : ∀ ys, H p ≠ some (.tup ys)) : TupsAt f H' vs as := h.keep fun c ys e => b c _ (fun z => n ys (z ▸ e)) e
theorem TupsAt.same (h : TupsAt f H vs as) (s : Same H H') : TupsAt f H' vs as := h.keep fun c ys e => s c _ e
theorem TupsAt.put {xs ys : List V} (h : TupsAt f H vs as) (e : H p = some (.lst xs)) : TupsAt f (upd H p (.lst ys)) vs as := h.keep fun c zs k => by
  rw [upd_ne (fun z => by rw [z, e] at k; cases k)]
  exact k
theorem TupsAt.snoc {a : α} (h : TupsAt f H vs as) (e : H p = some (.tup (f a))) : TupsAt f H (vs ++ [.ref p]) (as ++ [a]) := by
  induction h with
  | nil => exact .cons e .nil
  | cons k _ ih => exact .cons k ih
theorem TupsAt.get {i : Nat} {v : V} (h : TupsAt f H vs as) (e : vs[i]? = some v) : ∃ a q, as[i]? = some a ∧ v = .ref q ∧ H q = some (.tup (f a)) := by
  induction h generalizing i with
  | nil => simp at e
  | cons k _ ih =>
    cases i with
    | zero =>
      obtain rfl := Option.some.inj e
      exact ⟨_, _, rfl, rfl, k⟩
    | succ i => exact ih e
theorem TupsAt.erase {i : Nat} (h : TupsAt f H vs as) : TupsAt f H (vs.eraseIdx i) (as.eraseIdx i) := by
  induction h generalizing i with
  | nil => exact .nil
  | cons k r ih =>
    cases i with
    | zero => exact r
    | succ i => exact .cons k ih
/-- a permutation of the things is one of the values -/
theorem TupsAt.perm (p : us.Perm vs) (h : TupsAt f H vs as) : ∃ bs, bs.Perm as ∧ TupsAt f H us bs := by
  induction p generalizing as with
  | nil => exact ⟨as, .refl _, h⟩
  | cons v p ih =>
    cases h with
    | cons a b =>
      obtain ⟨is, q, r⟩ := ih b
      exact ⟨_, q.cons _, .cons a r⟩
  | swap x y l =>
    cases h with
    | cons a b =>
      cases b with
      | cons b c => exact ⟨_, .swap _ _ _, .cons b (.cons a c)⟩
  | trans p q ih1 ih2 =>
    obtain ⟨i1, q1, r1⟩ := ih2 h
    obtain ⟨i2, q2, r2⟩ := ih1 r1
    exact ⟨i2, q2.trans q1, r2⟩
theorem TupsAt.data {K : PySem.W.Frag} {g : α → List PyData} (h : TupsAt f H vs as) (fg : ∀ a, DpAll K H (f a) (g a)) : DpAll K H vs (as.map fun a => .tuple (g a)) := by
  induction h with
  | nil => exact .nil
  | cons e _ ih => exact .cons (.tup (SqT.of e) (fg _)) ih
end
/-! ### rows and places -/
abbrev Row : Type := Str × Int × Int
abbrev Plc : Type := Str × Int
def rowV (r : Row) : List V := [.str r.1, .int r.2.1, .int r.2.2]
def plcV (q : Plc) : List V := [.str q.1, .int q.2]
def plcOf (r : Row) : Plc := (r.1, r.2.1)
def rowD (r : Row) : List PyData := [.str r.1, .int r.2.1, .int r.2.2]
def plcD (q : Plc) : List PyData := [.str q.1, .int q.2]
theorem row_data {K : PySem.W.Frag} {H : Hp} (r : Row) : DpAll K H (rowV r) (rowD r) := .cons (.str _) (.cons (.int _) (.cons (.int _) .nil))
theorem plc_data {K : PySem.W.Frag} {H : Hp} (q : Plc) : DpAll K H (plcV q) (plcD q) := .cons (.str _) (.cons (.int _) .nil)
theorem str_beq (x y : Str) : (x == y) = decide (x = y) := by
  by_cases e : x = y
  · subst e; simp
  · simp [e]
theorem plc_eqv (x y : Plc) : PyData.eqv (.tuple (plcD x)) (.tuple (plcD y)) = decide (x = y) := by
  obtain ⟨a, i⟩ := x
  obtain ⟨b, j⟩ := y
  unfold plcD
  simp only [PyData.eqv, PyData.eqvAll, Bool.and_true]
  rw [str_beq]
  by_cases e : a = b <;> by_cases e2 : i = j <;> simp [e, e2]
theorem row_eqv (x y : Row) : PyData.eqv (.tuple (rowD x)) (.tuple (rowD y)) = decide (x = y) := by
  obtain ⟨a, i, m⟩ := x
  obtain ⟨b, j, n⟩ := y
  unfold rowD
  simp only [PyData.eqv, PyData.eqvAll, Bool.and_true]
  rw [str_beq]
  by_cases e : a = b <;> by_cases e2 : i = j <;> by_cases e3 : m = n <;> simp [e, e2, e3]
theorem name_ok {z : Str} (h : isName z = true) : PyData.strOk z = true := by
  unfold isName at h
  unfold PyData.strOk
  simp only [Bool.and_eq_true, decide_eq_true_eq] at h
  have all : ∀ c ∈ z.cps.toList, c < 123 := by
    cases e : z.cps.toList with
    | nil => exact fun c hc => (nomatch hc)
    | cons c r =>
      rw [e] at h
      simp only [Bool.and_eq_true, List.all_eq_true, low, dig, Bool.or_eq_true, decide_eq_true_eq] at h
      intro d hd
      rcases List.mem_cons.mp hd with rfl | hd
      · omega
      · have := h.2.2 d hd
        omega
  rw [← Array.all_toList]
  exact List.all_eq_true.mpr fun c hc => decide_eq_true (Nat.lt_trans (all c hc) (by decide))
theorem plcs_lay : ∀ qs : List Plc, (∀ q ∈ qs, PyData.strOk q.1 = true) → PyData.canLayAll0 (qs.map fun q => .tuple (plcD q)) = true
  | [], _ => by simp [PyData.canLayAll0]
  | q :: qs, h => by
    have h1 := h q List.mem_cons_self
    have h2 := plcs_lay qs fun x hx => h x (List.mem_cons_of_mem _ hx)
    unfold plcD at h2 ⊢
    simp [PyData.canLayAll0, PyData.canLay0, h1, h2]
theorem plcs_deep : ∀ qs : List Plc, PyData.depthAll (qs.map fun q => .tuple (plcD q)) ≤ 1
  | [] => by simp [PyData.depthAll]
  | q :: qs => by
    have := plcs_deep qs
    unfold plcD at this ⊢
    simp only [List.map_cons, PyData.depthAll, PyData.depth]
    omega
theorem plcs_shaped (qs : List Plc) (h : ∀ q ∈ qs, PyData.strOk q.1 = true) : SeqAt.shaped (.list (qs.map fun q => .tuple (plcD q))) = true := by
  have := plcs_deep qs
  unfold SeqAt.shaped
  rw [Bool.and_eq_true, decide_eq_true_eq]
  refine ⟨by simp only [PyData.canLay0]; exact plcs_lay qs h, ?_⟩
  simp only [PyData.depth]
  omega
theorem plc_shaped (q : Plc) (h : PyData.strOk q.1 = true) : SeqAt.shaped (.tuple (plcD q)) = true := by
  unfold SeqAt.shaped
  simp [PyData.canLay0, PyData.canLayAll0, PyData.depth, PyData.depthAll, plcD, h]
theorem rows_lay : ∀ rs : List Row, (∀ q ∈ rs, PyData.strOk q.1 = true) → PyData.canLayAll0 (rs.map fun r => .tuple (rowD r)) = true
  | [], _ => by simp [PyData.canLayAll0]
  | r :: rs, h => by
    have h1 := h r List.mem_cons_self
    have h2 := rows_lay rs fun x hx => h x (List.mem_cons_of_mem _ hx)
    unfold rowD at h2 ⊢
    simp [PyData.canLayAll0, PyData.canLay0, h1, h2]
theorem rows_deep : ∀ rs : List Row, PyData.depthAll (rs.map fun r => .tuple (rowD r)) ≤ 1
  | [] => by simp [PyData.depthAll]
  | r :: rs => by
    have := rows_deep rs
    unfold rowD at this ⊢
    simp only [List.map_cons, PyData.depthAll, PyData.depth]
    omega
theorem rows_shaped (rs : List Row) (h : ∀ q ∈ rs, PyData.strOk q.1 = true) : SeqAt.shaped (.list (rs.map fun r => .tuple (rowD r))) = true ∧ SeqAt.shaped (.tuple (rs.map fun r => .tuple (rowD r))) = true := by
  have d := rows_deep rs
  have l := rows_lay rs h
  unfold SeqAt.shaped
  rw [Bool.and_eq_true, decide_eq_true_eq, Bool.and_eq_true, decide_eq_true_eq]
  refine ⟨⟨by simp only [PyData.canLay0]; exact l, ?_⟩, by simp only [PyData.canLay0]; exact l, ?_⟩
  · simp only [PyData.depth]
    omega
  · simp only [PyData.depth]
    omega
theorem row_shaped (r : Row) (h : PyData.strOk r.1 = true) : SeqAt.shaped (.tuple (rowD r)) = true := by
  unfold SeqAt.shaped
  simp [PyData.canLay0, PyData.canLayAll0, PyData.depth, PyData.depthAll, rowD, h]
theorem any_plc (qs : List Plc) (q : Plc) : ((qs.map fun q => PyData.tuple (plcD q)).any fun z => PyData.eqv z (.tuple (plcD q))) = decide (q ∈ qs) := by
  induction qs with
  | nil => rfl
  | cons x qs ih =>
    rw [List.map_cons, List.any_cons, ih, plc_eqv]
    by_cases e : x = q
    · subst e; simp
    · have e' : ¬ q = x := fun z => e z.symm
      simp [e, e']
theorem any_row (rs : List Row) (r : Row) : ((rs.map fun r => PyData.tuple (rowD r)).any fun z => PyData.eqv z (.tuple (rowD r))) = decide (r ∈ rs) := by
  induction rs with
  | nil => rfl
  | cons x rs ih =>
    rw [List.map_cons, List.any_cons, ih, row_eqv]
    by_cases e : x = r
    · subst e; simp
    · have e' : ¬ r = x := fun z => e z.symm
      simp [e, e']
/-- what the laws' rows are: one of the names, a small time, a value below 10 ** 26 -/
structure RowsOk (zs : List Str) (m : Nat) (rs : List Row) : Prop where
  len : rs.length ≤ m
  nd : (rs.map plcOf).Nodup
  nm : ∀ r ∈ rs, r.1 ∈ zs
  tm : ∀ r ∈ rs, -10 ≤ r.2.1 ∧ r.2.1 ≤ 20
  vl : ∀ r ∈ rs, -10 ^ 25 ≤ r.2.2 ∧ r.2.2 ≤ 10 ^ 25
def spLines (K : PySem.W.Frag) : Sp := fun vs H Q _ => ∃ (p l : Addr) (m b : Nat) (zs : List Str), vs = [.ref p, .ref l, .int m] ∧ m ≤ 20 ∧ Src H p b ∧ b ≤ 800000 ∧ l ≠ p ∧ SqL K H l (zs.map V.str) ∧ 0 < zs.length ∧ zs.length ≤ 1000 ∧ (∀ z ∈ zs, isName z = true) ∧
  ∀ (q : Addr) (us : List V) (rs : List Row) (H' : Hp), RowsOk zs m rs → TupsAt rowV H' us rs → But p H H' → H q = none → q ≠ p → H' q = some (.lst us) → Src H' p (b + 100) → Q (.ref q) H'
def spMixed : Sp := fun vs H Q _ => ∃ (p l : Addr) (b : Nat) (xs : List V), vs = [.ref p, .ref l] ∧ l ≠ p ∧ Src H p b ∧ b ≤ 800000 ∧ H l = some (.lst xs) ∧ xs.length ≤ 100 ∧
  ∀ (q : Addr) (ys : List V) (H' : Hp), ys.Perm xs → But p H H' → H q = none → q ≠ p → H' q = some (.lst ys) → Src H' p (b + xs.length) → Q (.ref q) H'
end Rng

namespace K01
open PySem L2 Rng
section
variable {P : Program} {w : World} {K : PySem.W.Frag} {mg : Str → Option Value} {base : Heap}
theorem scTags : FnScope ["_law_source_here", "_law_many", "_law_found", "_law_k", "_law_tag_here", "_law_spare", "_law_j", "_law_each"] ["_law_source_here", "_law_many"] (defScope sTags) := ⟨rfl, rfl, rfl, by decide +kernel, rfl, by decide +kernel, by decide +kernel⟩
theorem ok_tags {f fP fO fT : Addr} {fd dP dO dT : FuncData} (F : Fun K "_law_tags" "_law_tags" sTags f fd) (T : Bt mg) (FP : Fun K "_law_pick" "_law_pick" sPick fP dP) (bP : Binds K dP ["_law_source_here", "_law_many"] []) (mP : mg "_law_pick" = some (.ref fP))
    (FO : Fun K "_law_one" "_law_one" sOne fO dO) (bO : Binds K dO ["_law_source_here", "_law_things"] []) (mO : mg "_law_one" = some (.ref fO))
    (FT : Fun K "_law_tag" "_law_tag" sTag fT dT) (bT : Binds K dT ["_law_source_here"] []) (mT : mg "_law_tag" = some (.ref fT)) : FnOk P w K mg base CX0 4 f fd ["_law_source_here", "_law_many"] spTags := by
  have GT : FnOk P w K mg base CX0 3 fT dT ["_law_source_here"] spTag := ok_tag FT T FP bP mP FO bO mO
  refine F.ok scTags (fun vs H Q E h => ?_) (fun cdv A outer s H vs Q E hr h => ?_)
  · obtain ⟨p, m, b, rfl, _⟩ := h
    rfl
  · obtain ⟨p, m, b, rfl, m0, m1, hs, hb, q⟩ := h
    refine ⟨_, pss_cons (ps_set (i := 2) scTags.nd rfl (Or.inr rfl) (pe_lst pa_nil))
      (pss_cons (ps_for PassesOwn.never rfl (pi_range1 rfl T.nRange (pa_cons (pv 1) pa_nil)) (pg_name (i := 3) scTags.nd rfl (Or.inl rfl))
        (pss_cons (ps_set (i := 4) scTags.nd rfl (Or.inr rfl) (pe_call GT hr rfl mT FT.kp bT .nil pass0 (pa_cons (pv 0) pa_nil)))
        (pss_cons (ps_set (i := 5) scTags.nd rfl (Or.inl rfl) (pe_op op_cat (pe_lst (pa_cons (pv 4) pa_nil)) (pe_lc (own := [("_law_j", 6)]) (g := gName 6) (tt := tYes) rfl scTags.nd (pi_range1 rfl T.nRange (pa_cons (pv 1) pa_nil))
            (blkOk_by (own := [("_law_j", 6)]) (N := ["_law_source_here", "_law_many", "_law_found", "_law_k", "_law_tag_here", "_law_spare", "_law_j", "_law_each"]) (sc := defScope sTags) (by decide +kernel)) (fun _ _ _ _ _ => pg_name (i := 6) scTags.nd rfl (Or.inl rfl)) (fun _ _ _ _ _ => pts_nil)
            (fun _ _ _ _ _ => pe_op op_add_str (pe_slice sl_str (pv 4) po_none (po_some pe_int)) (pe_callTy call_str_int (by rfl) T.nStr PyProof.Rows.boot_str (pa_cons (pv 6) pa_nil))))))
        (pss_one (ps_expr (pe_bm PySem.F.plainAttrs_list PySem.F.slot_list_append PySem.F.type_list_append mt_append (pv 2) (pa_cons (pe_ix ix_list (pe_lc (own := [("_law_each", 7)]) (g := gName 7) (tt := tTest (tOp (rIn K true) (tVar 7) (tVar 2))) rfl scTags.nd (pi_list (pv 5))
            (blkOk_by (own := [("_law_each", 7)]) (N := ["_law_source_here", "_law_many", "_law_found", "_law_k", "_law_tag_here", "_law_spare", "_law_j", "_law_each"]) (sc := defScope sTags) (by decide +kernel)) (fun _ _ _ _ _ => pg_name (i := 7) scTags.nd rfl (Or.inl rfl)) (fun _ _ _ _ _ => pts_one (pt_cmpR op_notIn_seq (pv 7) (pv 2) (by rfl)))
            (fun _ _ _ _ _ => pv 7)) pe_int (fun _ _ => rfl)) pa_nil)))))))
      (pss_one (ps_ret (pv 2)))), ?_⟩
    refine ⟨Nat.zero_le _, fun l nl => ?_⟩
    have nlp : l ≠ p := hs.ne nl
    refine ⟨_, rfl, m, rfl, by omega, by omega, for_it (walk_range (lo := 0) (n := (m : Int).toNat)) (fun i σ H' => ∃ (x3 x4 x5 : Option V) (zs : List Str), σ = [some (.ref p), some (.int m), some (.ref l), x3, x4, x5, none, none] ∧ But p H H' ∧ Src H' p (b + 12 * i) ∧
        zs.length = i ∧ zs.Nodup ∧ (∀ z ∈ zs, isName z = true) ∧ H' l = some (.lst (zs.map V.str)))
      ⟨_, _, _, [], rfl, Same.but (same_put nl) p, hs.same (same_put nl), rfl, List.nodup_nil, (fun _ h => nomatch h), upd_same⟩ (fun _ _ _ _ _ => trivial) ?_ ?_⟩
    · rintro i x σ H1 H2 hi ⟨x3, x4, x5, zs, rfl, B1, S1, lz, nz, hz, e1⟩ ⟨rfl, rfl⟩
      have hi' : i < m := by omega
      refine ⟨_, rfl, p, b + 12 * i, rfl, S1, by omega, fun z H3 hn B3 S3 => ?_⟩
      have e3 := B3 _ _ nlp e1
      have B13 := B1.trans B3
      refine ⟨_, rfl, by show 1 ≤ sizeLine; decide, fun l1 n1 => ?_⟩
      refine ⟨_, rfl, m, rfl, by omega, by omega, fun D nD => lc_it (walk_range (lo := 0) (n := (m : Int).toNat)) (fun j H' => Same (upd H3 l1 (.lst [.str z])) H' ∧ H' D = some (.lst (((List.range j).map (cand z)).map V.str)))
        ⟨same_put nD, upd_same⟩ (fun _ _ _ _ => trivial) ?_ ?_⟩
      · rintro j y H4 H5 hj ⟨s4, e4⟩ ⟨rfl, rfl⟩
        have hj9 : j < 9 := by omega
        have zl : z.length ≤ 8 := by
          have h8 := hn
          unfold isName at h8
          simp only [Bool.and_eq_true, decide_eq_true_eq] at h8
          exact h8.1
        refine ⟨rfl, ?_⟩
        refine ⟨_, rfl, 6, rfl, z, rfl, ?_, _, rfl, 0 + (j : Int), rfl, ?_, _, _, rfl, rfl, ?_, ((List.range j).map (cand z)).map V.str, e4, ?_, ?_, ?_⟩
        · have : 8 ≤ sizeLine := by decide
          omega
        · have : ∀ j : Nat, j < 9 → ((0 : Int) + (j : Int)).natAbs.log2 < 1920 := by decide
          exact this j hj9
        · have h1 : (cutS z none (some 6)).length ≤ 6 := by
            show (TL.tl (cutS z none (some 6))).length ≤ 6
            rw [cut_tl, List.length_take]
            omega
          have h2 : (Str.ofString (toString ((0 : Int) + (j : Int)))).length = 1 := by
            show (TL.tl (Str.ofString (toString ((0 : Int) + (j : Int))))).length = 1
            rw [digit_tl j hj9]
            rfl
          have : 8 ≤ sizeLine := by decide
          omega
        · rw [List.length_map, List.length_map, List.length_range]
          exact small1000 (by omega)
        · intro a o e
          rw [upd_ne (ne_of_none e nD)]
          exact s4 a o e
        · rw [upd_same, List.range_succ, List.map_append, List.map_append]
          rfl
      · rintro H4 ⟨s4, e4⟩
        have em : ((m : Int)).toNat = m := rfl
        rw [em] at e4
        refine ⟨l1, D, _, _, rfl, rfl, s4 _ _ upd_same, e4, ?_, fun p2 n2 => ?_⟩
        · rw [List.length_map, List.length_map, List.length_range]
          exact Nat.le_of_lt (small1000 (by show 1 + m ≤ 1000; omega))
        have s34 : Same H3 (upd H4 p2 (.lst ([.str z] ++ ((List.range m).map (cand z)).map V.str))) := (same_put n1).trans (s4.trans (same_put n2))
        have e2 : (upd H4 p2 (.lst ([.str z] ++ ((List.range m).map (cand z)).map V.str))) p2 = some (.lst ((z :: (List.range m).map (cand z)).map V.str)) := upd_same
        revert s34 e2
        generalize upd H4 p2 (.lst ([.str z] ++ ((List.range m).map (cand z)).map V.str)) = H5
        intro s34 e2
        have el5 := s34 _ _ e3
        obtain ⟨y0, r0, ef⟩ := spare_new (z := z) (zs := zs) m1 (by omega)
        obtain ⟨hy1, hy2⟩ := spare_is m1 hn ef
        refine ⟨_, rfl, .inl ⟨rfl, _, SqL.of el5⟩, _, rfl, p2, rfl, ⟨_, SqL.of e2⟩, fun D2 nD2 => lc_it (walk_list (K := K) (a := p2) (xs := (z :: (List.range m).map (cand z)).map V.str))
          (fun j H' => Same H5 H' ∧ H' D2 = some (.lst ((((z :: (List.range m).map (cand z)).take j).filter fun y => !decide (y ∈ zs)).map V.str))) ⟨same_put nD2, upd_same⟩ (fun _ _ _ h => h.1.seq (SqL.of e2)) ?_ ?_⟩
        · rintro j y H6 H7 hj ⟨s6, e6⟩ ⟨rfl, hy⟩
          rw [List.getElem?_map] at hy
          obtain ⟨y, hy', rfl⟩ : ∃ y', (z :: (List.range m).map (cand z))[j]? = some y' ∧ y = V.str y' := by
            cases e : (z :: (List.range m).map (cand z))[j]? with
            | none => rw [e] at hy; cases hy
            | some y' => rw [e] at hy; exact ⟨y', rfl, (Option.some.inj hy).symm⟩
          have tk : (z :: (List.range m).map (cand z)).take (j + 1) = (z :: (List.range m).map (cand z)).take j ++ [y] := by
            rw [List.take_add_one, hy']
            rfl
          refine ⟨rfl, _, rfl, _, rfl, l, _, rfl, .inl (SqL.of (s6 _ _ el5)), rfl, flat_strsN zs, _, rfl, ?_⟩
          show if (!inV (.str y) (zs.map V.str)) = true then _ else _
          rw [inV_strs]
          by_cases hm : y ∈ zs
          · rw [decide_eq_true hm]
            refine iteF ⟨s6, ?_⟩
            rw [tk, List.filter_append, e6]
            simp [hm]
          · rw [decide_eq_false hm]
            refine ⟨_, rfl, _, e6, ?_, ?_, ?_⟩
            · rw [List.length_map]
              refine small1000 (Nat.le_trans (List.length_filter_le _ _) ?_)
              rw [List.length_take, List.length_cons, List.length_map, List.length_range]
              omega
            · intro a o e
              rw [upd_ne (ne_of_none e nD2)]
              exact s6 a o e
            · rw [upd_same, tk, List.filter_append, List.map_append]
              simp [hm]
        · rintro H6 ⟨s6, e6⟩
          rw [List.length_map, List.take_length, ef] at e6
          have el6 := s6 _ _ el5
          refine ⟨D2, _, 0, .str y0, rfl, rfl, SqL.of e6, atI_nat (j := 0) rfl, l, _, _, rfl, rfl, el6, ?_, ?_⟩
          · rw [List.length_map]
            exact small1000 (by omega)
          · have S6 : Src H6 p (b + 12 * (i + 1)) := (S3.same (s34.trans s6)).mono (by omega)
            refine ⟨_, _, _, zs ++ [y0], rfl, fun a o na e => ?_, ?_, ?_, ?_, ?_, ?_⟩
            · rw [upd_ne (ne_of_none e nl)]
              exact (s34.trans s6) _ _ (B13 a o na e)
            · obtain ⟨A0, B0, t0, e0, r⟩ := S6
              exact ⟨A0, B0, t0, by rw [upd_ne nlp.symm]; exact e0, r⟩
            · rw [List.length_append, lz]
              rfl
            · refine List.nodup_append.mpr ⟨nz, List.nodup_cons.mpr ⟨List.not_mem_nil, List.nodup_nil⟩, fun a ha c hc e => ?_⟩
              obtain rfl := List.mem_singleton.mp hc
              exact hy2 (e ▸ ha)
            · intro y hy
              rcases List.mem_append.mp hy with hy | hy
              · exact hz y hy
              · obtain rfl := List.mem_singleton.mp hy
                exact hy1
            · rw [upd_same, List.map_append]
              rfl
    · rintro σ H1 ⟨x3, x4, x5, zs, rfl, B1, S1, lz, nz, hz, e1⟩
      exact ⟨_, rfl, q l zs H1 lz nz hz B1 nl nlp e1 (S1.mono (by have em : ((m : Int)).toNat = m := rfl; omega))⟩
end
end K01

namespace K01
open PySem L2 Rng
section
variable {P : Program} {w : World} {K : PySem.W.Frag} {mg : Str → Option Value} {base : Heap}
abbrev sLines : Stmt := top 20
abbrev sMixed : Stmt := top 21
theorem scLines : FnScope ["_law_source_here", "_law_tags_here", "_law_most", "_law_found", "_law_places", "_law_k", "_law_place", "_law_amount"] ["_law_source_here", "_law_tags_here", "_law_most"] (defScope sLines) := ⟨rfl, rfl, rfl, by decide +kernel, rfl, by decide +kernel, by decide +kernel⟩
theorem amount_is (x k : Int) (hx : -3 ≤ x ∧ x ≤ 3) (h0 : 0 ≤ k) (h4 : k < 4) : ∃ a, atI [V.int x, V.int (10 ^ (25 : Int).toNat), V.int (-(10 ^ (25 : Int).toNat)), V.int 7] k = some (.int a) ∧ -10 ^ 25 ≤ a ∧ a ≤ 10 ^ 25 := by
  have c : k = 0 ∨ k = 1 ∨ k = 2 ∨ k = 3 := by omega
  rcases c with rfl | rfl | rfl | rfl
  · exact ⟨x, rfl, by omega, by omega⟩
  · exact ⟨_, rfl, by decide, by decide⟩
  · exact ⟨_, rfl, by decide, by decide⟩
  · exact ⟨_, rfl, by decide, by decide⟩
theorem ok_lines {f fP fO : Addr} {fd dP dO : FuncData} (F : Fun K "_law_lines" "_law_lines" sLines f fd) (T : Bt mg) (nMax : mg "max" = none) (FP : Fun K "_law_pick" "_law_pick" sPick fP dP) (bP : Binds K dP ["_law_source_here", "_law_many"] []) (mP : mg "_law_pick" = some (.ref fP))
    (FO : Fun K "_law_one" "_law_one" sOne fO dO) (bO : Binds K dO ["_law_source_here", "_law_things"] []) (mO : mg "_law_one" = some (.ref fO)) : FnOk P w K mg base CX0 3 f fd ["_law_source_here", "_law_tags_here", "_law_most"] (spLines K) := by
  have GP : FnOk P w K mg base CX0 1 fP dP ["_law_source_here", "_law_many"] spPick := ok_pick FP T
  have GO : FnOk P w K mg base CX0 2 fO dO ["_law_source_here", "_law_things"] (spOne K) := ok_one FO T FP bP mP
  refine F.ok scLines (fun vs H Q E h => ?_) (fun cdv A outer s H vs Q E hr h => ?_)
  · obtain ⟨p, l, m, b, zs, rfl, _⟩ := h
    rfl
  · obtain ⟨p, lt, m, b, zs, rfl, hm, hs, hb, nlt, hS, z0, z1, hz, q⟩ := h
    have hr1 : Room 1 _ := hr.mono (by decide)
    have hu65 := Nat.lt_of_le_of_lt (Nat.add_le_add_left (by decide : 65 ≤ 16 * 2 + 200) _) (Nat.lt_of_le_of_lt (Nat.le_of_eq (Nat.add_assoc _ _ _).symm) hr.un)
    refine ⟨_, pss_cons (ps_par (i := 3) (j := 4) (by rfl) scLines.nd rfl rfl (by decide) rfl rfl (pa_cons (pe_lst pa_nil) (pa_cons (pe_lst pa_nil) pa_nil)) (by rfl))
      (pss_cons (ps_for PassesOwn.never rfl (pi_range1 rfl T.nRange (pa_cons (pe_call GP hr1 rfl mP FP.kp bP .nil pass0 (pa_cons (pv 0) (pa_cons (pe_op op_add (pv 2) pe_int) pa_nil))) pa_nil)) (pg_name (i := 5) scLines.nd rfl (Or.inl rfl))
        (pss_cons (ps_set (i := 6) scLines.nd rfl (Or.inl rfl) (pe_tup (pa_cons (pe_call GO hr rfl mO FO.kp bO .nil pass0 (pa_cons (pv 0) (pa_cons (pv 1) pa_nil))) (pa_cons (pe_op op_sub (pe_call GP hr1 rfl mP FP.kp bP .nil pass0 (pa_cons (pv 0) (pa_cons pe_int pa_nil))) pe_int) pa_nil))))
        (pss_cons (ps_set (i := 7) scLines.nd rfl (Or.inl rfl) (pe_ix ix_list (pe_lst (pa_cons (pe_op op_sub (pe_call GP hr1 rfl mP FP.kp bP .nil pass0 (pa_cons (pv 0) (pa_cons pe_int pa_nil))) pe_int) (pa_cons (pe_op op_pow pe_int pe_int) (pa_cons (pe_un un_neg (pe_op op_pow pe_int pe_int)) (pa_cons pe_int pa_nil)))))
            (pe_callB (call_max2 rfl) (by rfl) nMax (by decide +kernel) (pa_cons pe_int (pa_cons (pe_op op_sub (pe_call GP hr1 rfl mP FP.kp bP .nil pass0 (pa_cons (pv 0) (pa_cons pe_int pa_nil))) pe_int) pa_nil))) (fun _ _ => rfl)))
        (pss_one (ps_if (pt_cmpR (op_notInD hu65) (pv 6) (pv 4) (by rfl))
          (pss_cons (ps_expr (pe_bm PySem.F.plainAttrs_list PySem.F.slot_list_append PySem.F.type_list_append mt_append (pv 4) (pa_cons (pv 6) pa_nil)))
          (pss_one (ps_expr (pe_bm PySem.F.plainAttrs_list PySem.F.slot_list_append PySem.F.type_list_append mt_append (pv 3) (pa_cons (pe_op op_catT (pv 6) (pe_tup (pa_cons (pv 7) pa_nil))) pa_nil))))) pss_nil)))))
      (pss_one (ps_ret (pv 3)))), ?_⟩
    refine ⟨Nat.zero_le _, fun l nl => ⟨Nat.zero_le _, fun l2 nl2 => ⟨_, _, rfl, ?_⟩⟩⟩
    have ne : l2 ≠ l := fun z => by
      rw [z, upd_same] at nl2
      cases nl2
    have nl2' : H l2 = none := by rwa [upd_ne ne] at nl2
    have nlp : l ≠ p := hs.ne nl
    have nl2p : l2 ≠ p := hs.ne nl2'
    have s0 : Same H (upd (upd H l (.lst [])) l2 (.lst [])) := (same_put nl).trans (same_put nl2)
    have e1 : (upd (upd H l (.lst [])) l2 (.lst [])) l = some (.lst []) := by rw [upd_ne (Ne.symm ne), upd_same]
    have e2 : (upd (upd H l (.lst [])) l2 (.lst [])) l2 = some (.lst []) := upd_same
    revert s0 e1 e2
    generalize upd (upd H l (.lst [])) l2 (.lst []) = H0
    intro s0 e1 e2
    refine ⟨_, rfl, _, rfl, _, _, rfl, rfl, p, (m : Int) + 1, b, rfl, hs.same s0, by omega, by omega, by omega, fun n H1 n0 n1 B1 S1 => ⟨n, rfl, by omega, by omega, ?_⟩⟩
    have nb : n.toNat ≤ m := by omega
    refine for_it (walk_range (lo := 0) (n := n.toNat)) (fun i σ H' => ∃ (x5 x6 x7 : Option V) (us ps : List V) (rs : List Row), σ = [some (.ref p), some (.ref lt), some (.int m), some (.ref l), some (.ref l2), x5, x6, x7] ∧ But p H H' ∧ Src H' p (b + 1 + 4 * i) ∧ RowsOk zs i rs ∧
        TupsAt rowV H' us rs ∧ TupsAt plcV H' ps (rs.map plcOf) ∧ H' l = some (.lst us) ∧ H' l2 = some (.lst ps))
      ⟨_, _, _, [], [], [], rfl, (s0.but p).trans B1, S1, ⟨Nat.le_refl _, List.nodup_nil, fun _ h => (nomatch h), fun _ h => (nomatch h), fun _ h => (nomatch h)⟩, .nil, .nil, B1 _ _ nlp e1, B1 _ _ nl2p e2⟩ (fun _ _ _ _ _ => trivial) ?_ ?_
    · rintro i x σ Hx H2 hi ⟨x5, x6, x7, us, ps, rs, rfl, B2, S2, ok, ru, rp, f1, f2⟩ ⟨rfl, rfl⟩
      have hi' : i < m := by omega
      have tl : SqL K H2 lt (zs.map V.str) := B2.seq (fun _ _ => nlt) hS
      refine ⟨_, rfl, _, rfl, p, .ref lt, _, rfl, S2, by omega, .inl ⟨lt, _, rfl, nlt, tl, by rw [List.length_map]; exact z0, by rw [List.length_map]; exact z1, fun y H3 hy B3 S3 => ?_⟩⟩
      obtain ⟨z, hzm, rfl⟩ := List.mem_map.mp hy
      refine ⟨_, rfl, p, 31, _, rfl, S3, by omega, by decide, by decide, fun d H4 d0 d1 B4 S4 => ⟨_, _, rfl, rfl, (by show 2 ≤ sizeLine; decide), fun t nt => ?_⟩⟩
      have ntp : t ≠ p := S4.ne nt
      refine ⟨_, rfl, p, 7, _, rfl, S4.same (same_put nt), by omega, by decide, by decide, fun d2 H5 g0 g1 B5 S5 => ⟨_, _, rfl, rfl, _, _, rfl, rfl, ⟨by decide, by decide, by decide⟩, _, _, rfl, rfl, ⟨by decide, by decide, by decide⟩, _, rfl, (by show 4 ≤ sizeLine; decide), fun la nla => ?_⟩⟩
      refine ⟨_, rfl, p, 12, _, rfl, S5.same (same_put nla), by omega, by decide, by decide, fun d3 H6 j0 j1 B6 S6 => ⟨_, _, rfl, rfl, 0, d3 - 8, rfl, ?_⟩⟩
      have nlap : la ≠ p := S5.ne nla
      have kk : ∃ k : Int, (if d3 - 8 > 0 then d3 - 8 else 0) = k ∧ 0 ≤ k ∧ k < 4 := by
        by_cases c : d3 - 8 > 0
        · exact ⟨_, if_pos c, by omega, by omega⟩
        · exact ⟨_, if_neg c, by omega, by omega⟩
      obtain ⟨k, ek, k0, k4⟩ := kk
      rw [ek]
      obtain ⟨a, ea, a0, a1⟩ := amount_is (d2 - 3) k ⟨by omega, by omega⟩ k0 k4
      refine ⟨la, _, k, _, rfl, rfl, SqL.of (B6 _ _ nlap upd_same), ea, ?_⟩
      -- what stands now
      have b24 : But p H2 H4 := B3.trans B4
      have b26 : But p H2 H6 := b24.trans (((same_put nt).but p).trans (B5.trans (((same_put nla).but p).trans B6)))
      have at6 : H6 t = some (.tup (plcV (z, d - 10))) := B6 _ _ ntp ((same_put nla) _ _ (B5 _ _ ntp upd_same))
      have notup : ∀ ys, H2 p ≠ some (.tup ys) := fun ys e => by
        obtain ⟨xs, e'⟩ := S2.some
        rw [e'] at e
        cases e
      have ru6 := ru.but b26 notup
      have rp6 := rp.but b26 notup
      have g1' := b26 _ _ nlp f1
      have g2' := b26 _ _ nl2p f2
      have nm : ∀ r ∈ rs, isName r.1 = true := fun r hr => hz _ (ok.nm r hr)
      refine ⟨_, rfl, _, rfl, .tuple (plcD (z, d - 10)), _, .tup (SqT.of at6) (plc_data _), .lst (SqL.of g2') (rp6.data plc_data), plc_shaped _ (name_ok (hz z hzm)), plcs_shaped _ (fun x hx => by
        obtain ⟨r, hr, rfl⟩ := List.mem_map.mp hx
        exact name_ok (nm r hr)), _, rfl, ?_⟩
      rw [any_plc]
      show if (!_) = true then _ else _
      by_cases hin : (z, d - 10) ∈ rs.map plcOf
      · rw [decide_eq_true hin]
        refine iteF ⟨_, _, _, us, ps, rs, rfl, B2.trans b26, S6.mono (by omega), ⟨Nat.le_succ_of_le ok.len, ok.nd, ok.nm, ok.tm, ok.vl⟩, ru6, rp6, g1', g2'⟩
      · rw [decide_eq_false hin]
        refine iteT ⟨_, rfl, .inl ⟨rfl, _, SqL.of g2'⟩, _, rfl, l2, _, _, rfl, rfl, g2', ?_, ?_⟩
        · rw [rp6.len, List.length_map]
          exact small1000 (Nat.le_trans ok.len (by omega))
        have tl2 : t ≠ l2 := fun z => by
          rw [z, g2'] at at6
          cases at6
        have h7t : (upd H6 l2 (.lst (ps ++ [.ref t]))) t = some (.tup (plcV (z, d - 10))) := by rw [upd_ne tl2]; exact at6
        have h7l : (upd H6 l2 (.lst (ps ++ [.ref t]))) l = some (.lst us) := by rw [upd_ne (Ne.symm ne)]; exact g1'
        refine ⟨_, rfl, .inl ⟨rfl, _, SqL.of h7l⟩, _, rfl, _, rfl, (by show 1 ≤ sizeLine; decide), fun t1 nt1 => ?_⟩
        have h8t := (same_put (o := .tup [V.int a]) nt1) _ _ h7t
        refine ⟨t, t1, _, _, rfl, rfl, SqT.of h8t, SqT.of upd_same, (fun z => nomatch z), (by show 3 ≤ sizeLine; decide), (fun z => nomatch z), fun _ t2 nt2 => ?_⟩
        have h9l := (same_put (o := .tup (plcV (z, d - 10) ++ [V.int a])) nt2) _ _ ((same_put (o := .tup [V.int a]) nt1) _ _ h7l)
        refine ⟨l, _, _, rfl, rfl, h9l, ?_, ?_⟩
        · rw [ru6.len]
          exact small1000 (Nat.le_trans ok.len (by omega))
        have s79 := (same_put (o := .tup [V.int a]) nt1).trans (same_put (o := .tup (plcV (z, d - 10) ++ [V.int a])) nt2)
        have t2l : t2 ≠ l := fun z => by
          rw [z, upd_ne (fun y => by rw [← y, h7l] at nt1; cases nt1), h7l] at nt2
          cases nt2
        refine ⟨_, _, _, us ++ [.ref t2], ps ++ [.ref t], rs ++ [(z, d - 10, a)], rfl, ?_, ?_, ?_, ?_, ?_, upd_same, ?_⟩
        · exact fun c o nc e => by
            rw [upd_ne (fun z => by rw [z, nl] at e; cases e)]
            refine s79 _ _ ?_
            rw [upd_ne (fun z => by rw [z, nl2'] at e; cases e)]
            exact (B2.trans b26) c o nc e
        · obtain ⟨xs, y1⟩ := (S6.mono (c := b + 1 + 4 * (i + 1)) (by omega)).some
          obtain ⟨A0, B0, t0, e0, r⟩ := S6.mono (c := b + 1 + 4 * (i + 1)) (by omega)
          refine ⟨A0, B0, t0, ?_, r⟩
          rw [upd_ne nlp.symm]
          refine s79 _ _ ?_
          rw [upd_ne nl2p.symm]
          exact e0
        · refine ⟨by rw [List.length_append]; exact Nat.succ_le_succ ok.len, ?_, ?_, ?_, ?_⟩
          · rw [List.map_append]
            refine List.nodup_append.mpr ⟨ok.nd, List.nodup_cons.mpr ⟨List.not_mem_nil, List.nodup_nil⟩, fun x hx y hy e => ?_⟩
            have hy' := List.mem_singleton.mp hy
            rw [e, hy'] at hx
            exact hin hx
          · exact fun r hr => (List.mem_append.mp hr).elim (ok.nm r) fun h => by rw [List.mem_singleton.mp h]; exact hzm
          · exact fun r hr => (List.mem_append.mp hr).elim (ok.tm r) fun h => by rw [List.mem_singleton.mp h]; exact ⟨by show -10 ≤ d - 10; omega, by show d - 10 ≤ 20; omega⟩
          · exact fun r hr => (List.mem_append.mp hr).elim (ok.vl r) fun h => by rw [List.mem_singleton.mp h]; exact ⟨a0, a1⟩
        · refine TupsAt.snoc (((ru6.put (ys := ps ++ [.ref t]) g2').same s79).put h9l) ?_
          rw [upd_ne t2l, upd_same]
          rfl
        · rw [List.map_append]
          refine TupsAt.snoc (((rp6.put (ys := ps ++ [.ref t]) g2').same s79).put h9l) ?_
          rw [upd_ne (fun z => by
            have k := h7l
            rw [← z, h7t] at k
            cases k)]
          exact s79 _ _ h7t
        · rw [upd_ne ne]
          exact s79 _ _ upd_same
    · rintro σ H2 ⟨x5, x6, x7, us, ps, rs, rfl, B2, S2, ok, ru, rp, f1, f2⟩
      exact ⟨_, rfl, q l us rs H2 ⟨Nat.le_trans ok.len nb, ok.nd, ok.nm, ok.tm, ok.vl⟩ ru B2 nl nlp f1 (S2.mono (by omega))⟩
theorem scMixed : FnScope ["_law_source_here", "_law_things", "_law_left", "_law_found", "_law_k"] ["_law_source_here", "_law_things"] (defScope sMixed) := ⟨rfl, rfl, rfl, by decide +kernel, rfl, by decide +kernel, by decide +kernel⟩
theorem ok_mixed {f fP : Addr} {fd dP : FuncData} (F : Fun K "_law_mixed" "_law_mixed" sMixed f fd) (T : Bt mg) (nList : mg "list" = none) (FP : Fun K "_law_pick" "_law_pick" sPick fP dP) (bP : Binds K dP ["_law_source_here", "_law_many"] []) (mP : mg "_law_pick" = some (.ref fP)) :
    FnOk P w K mg base CX0 2 f fd ["_law_source_here", "_law_things"] spMixed := by
  have GP : FnOk P w K mg base CX0 1 fP dP ["_law_source_here", "_law_many"] spPick := ok_pick FP T
  refine F.ok scMixed (fun vs H Q E h => ?_) (fun cdv A outer s H vs Q E hr h => ?_)
  · obtain ⟨p, l, b, xs, rfl, _⟩ := h
    rfl
  · obtain ⟨p, la, b, xs, rfl, nla, hs, hb, hX, hz, q⟩ := h
    refine ⟨_, pss_cons (ps_par (i := 2) (j := 3) (by rfl) scMixed.nd rfl rfl (by decide) rfl rfl (pa_cons (pe_callTy call_list_of (by rfl) nList (by decide +kernel) (pa_cons (pv 1) pa_nil)) (pa_cons (pe_lst pa_nil) pa_nil)) (by rfl))
      (pss_cons (ps_for PassesOwn.never rfl (pi_range1 rfl T.nRange (pa_cons (pe_callB call_len_seq (by rfl) T.nLen PySem.boot_len (pa_cons (pv 2) pa_nil)) pa_nil)) (pg_name (i := 4) scMixed.nd rfl (Or.inl rfl))
        (pss_one (ps_expr (pe_bm PySem.F.plainAttrs_list PySem.F.slot_list_append PySem.F.type_list_append mt_append (pv 3) (pa_cons (pe_bm PySem.F.plainAttrs_list PySem.F.slot_list_pop PySem.F.type_list_pop mt_popAt (pv 2)
          (pa_cons (pe_call GP hr rfl mP FP.kp bP .nil pass0 (pa_cons (pv 0) (pa_cons (pe_callB call_len_seq (by rfl) T.nLen PySem.boot_len (pa_cons (pv 2) pa_nil)) pa_nil))) pa_nil)) pa_nil)))))
      (pss_one (ps_ret (pv 3)))), ?_⟩
    refine ⟨_, rfl, la, xs, rfl, .inl (SqL.of hX), fun l nl => ⟨Nat.zero_le _, fun l2 nl2 => ⟨_, _, rfl, ?_⟩⟩⟩
    have ne : l2 ≠ l := fun z => by
      rw [z, upd_same] at nl2
      cases nl2
    have nl2' : H l2 = none := by rwa [upd_ne ne] at nl2
    have nlp : l ≠ p := hs.ne nl
    have nl2p : l2 ≠ p := hs.ne nl2'
    have s0 : Same H (upd (upd H l (.lst xs)) l2 (.lst [])) := (same_put nl).trans (same_put nl2)
    have e1 : (upd (upd H l (.lst xs)) l2 (.lst [])) l = some (.lst xs) := by rw [upd_ne (Ne.symm ne), upd_same]
    have e2 : (upd (upd H l (.lst xs)) l2 (.lst [])) l2 = some (.lst []) := upd_same
    revert s0 e1 e2
    generalize upd (upd H l (.lst xs)) l2 (.lst []) = H0
    intro s0 e1 e2
    refine ⟨_, rfl, l, xs, rfl, .inl (SqL.of e1), ⟨_, rfl, by omega, by omega, ?_⟩⟩
    have em : ((xs.length : Nat) : Int).toNat = xs.length := rfl
    refine for_it (walk_range (lo := 0) (n := ((xs.length : Nat) : Int).toNat)) (fun i σ H' => ∃ (x4 : Option V) (ys rest : List V), σ = [some (.ref p), some (.ref la), some (.ref l), some (.ref l2), x4] ∧ (ys ++ rest).Perm xs ∧ ys.length = i ∧ But p H H' ∧ Src H' p (b + i) ∧
        H' l = some (.lst rest) ∧ H' l2 = some (.lst ys))
      ⟨_, [], xs, rfl, .refl _, rfl, s0.but p, hs.same s0, e1, e2⟩ (fun _ _ _ _ _ => trivial) ?_ ?_
    · rintro i x σ Hx H2 hi ⟨x4, ys, rest, rfl, pm, yl, B2, S2, f1, f2⟩ ⟨rfl, rfl⟩
      have len : i + rest.length = xs.length := by
        have := pm.length_eq
        rw [List.length_append, yl] at this
        exact this
      have pos : 0 < rest.length := by omega
      refine ⟨_, rfl, .inl ⟨rfl, _, SqL.of f2⟩, _, rfl, .inl ⟨rfl, _, SqL.of f1⟩, _, rfl, _, rfl, l, rest, rfl, .inl (SqL.of f1), p, rest.length, b + i, rfl, S2, by omega, by omega, by omega, fun d H3 d0 d1 B3 S3 => ?_⟩
      have g1 := B3 _ _ nlp f1
      have g2 := B3 _ _ nl2p f2
      have hd : d.toNat < rest.length := by omega
      refine ⟨l, rest, d, d.toNat, rest[d.toNat], rfl, rfl, g1, by omega, by omega, PySem.StrLaws.seqIndex_nonneg d0 d1, List.getElem?_eq_getElem hd, ?_⟩
      have h2 : (upd H3 l (.lst (rest.eraseIdx d.toNat))) l2 = some (.lst ys) := by rw [upd_ne ne]; exact g2
      refine ⟨l2, ys, _, rfl, rfl, h2, small1000 (by omega), ?_⟩
      refine ⟨_, ys ++ [rest[d.toNat]], rest.eraseIdx d.toNat, rfl, ?_, ?_, ?_, ?_, ?_, upd_same⟩
      · rw [List.append_assoc]
        refine (List.Perm.append_left ys ?_).trans pm
        exact erase_perm rest d.toNat _ (List.getElem?_eq_getElem hd)
      · rw [List.length_append, yl]
        rfl
      · exact fun c o nc e => by
          rw [upd_ne (fun z => by rw [z, nl2'] at e; cases e), upd_ne (fun z => by rw [z, nl] at e; cases e)]
          exact B3 c o nc (B2 c o nc e)
      · obtain ⟨A0, B0, t0, e0, r⟩ := S3.mono (c := b + (i + 1)) (by omega)
        exact ⟨A0, B0, t0, by rw [upd_ne nl2p.symm, upd_ne nlp.symm]; exact e0, r⟩
      · rw [upd_ne (Ne.symm ne), upd_same]
    · rintro σ H2 ⟨x4, ys, rest, rfl, pm, yl, B2, S2, f1, f2⟩
      have := pm.length_eq
      rw [List.length_append, yl, em] at this
      have rn : rest = [] := List.length_eq_zero_iff.mp (by omega)
      rw [rn, List.append_nil] at pm
      exact ⟨_, rfl, q l2 ys H2 pm B2 nl2' nl2p f2 (by rw [em] at S2; exact S2)⟩
end
end K01

/-! {e for x in xs}, e a text -/
namespace Bag
open PySem PySem.Spec PyProof.Rows L2
/-- one turn: the text goes into the set at D -/
def put1 (P : Program) (w : World) (D : Addr) (te : TE) (σ : L2.St) (H : Hp) (Nx : Hp → Prop) : Prop :=
  te σ H fun y H' => ∃ (z : Str) (ks : List Str), y = .str z ∧ H' D = some (BagO P w D ks) ∧ ks.length + 1 < scanBound ∧ Nx (upd H' D (BagO P w D (met ks z)))
def tBag (P : Program) (w : World) (wi : TI) (g : TG) (tt : TT) (te : TE) (vs : List Nat) : TE := fun σ H Q => wi σ H fun J H1 => ∀ D, H1 D = none → ∃ W : Nat → Nat → Hp → Prop, (∃ m, W 0 m (upd H1 D (BagO P w D []))) ∧
  ∀ i m H, W i m H → (J.stop i H ∧ Q (.ref D) H) ∨ (J.go i H ∧ ∃ Nx : Hp → Prop, (∀ H', Nx H' → ∃ m', m' < m ∧ W (i + 1) m' H') ∧
    ∀ x H', J.yld i H x H' → g x (wipe σ vs) H' fun σ2 H2 => wipe σ2 vs = wipe σ vs ∧ tt σ2 H2 fun b H3 => if b = true then put1 P w D te σ2 H3 Nx else Nx H3)
section
variable {X : Cx} {elt tg iter : Expr} {ifs : List Expr} {scope : Scope} {own : List (PySem.Str × Nat)} {pos : Pos} {wi : TI} {g : TG} {tt : TT} {te : TE}
theorem pe_bag (hc : X.calm = true) (hN : X.N.Nodup) (hi : PI X tg iter wi) (ok : BlkOk X.N X.env.scope scope own)
    (hg : ∀ (s : Shared) (H : Hp) (C : Addr) (cl : List (PySem.Str × Addr)) (fp : List Addr), PG (X.blk s H scope (compEnvC scope cl C X.env) fp) tg g) (ht : ∀ (s : Shared) (H : Hp) (C : Addr) (cl : List (PySem.Str × Addr)) (fp : List Addr), PTs (X.blk s H scope (compEnvC scope cl C X.env) fp) ifs tt)
    (he : ∀ (s : Shared) (H : Hp) (C : Addr) (cl : List (PySem.Str × Addr)) (fp : List Addr), PE (X.blk s H scope (compEnvC scope cl C X.env) fp) elt te) (hs : ∀ x, foldedSetIterable iter X.env x = pure x := by intro _; rfl) :
    PE X (.SetComp elt [⟨tg, iter, ifs, 0⟩] scope pos) (tBag X.prog X.w wi g tt te (own.map (·.2))) := by
  refine ⟨fun pins s σ H Q I h => ?_⟩
  rw [PpSet.eval_SetComp]
  refine wpAny_comprehension_free (use := none) rfl hs (closure_ok fun y hy e => (ok.free y hy e).elim (fun k => I.ok.has _ (.inl k)) fun k => I.ok.has _ (.inr k)) ok.kind (fun y hy e => by rw [ok.uniq y hy, e]) ?_
  refine thn (hi.run pins s σ H _ I h) fun xv s1 hx => thn hx fun itv s2 ⟨it, fp, tn, J, H2, e, I2, T, st2, f2, q⟩ => ?_
  subst e
  refine PpSet.newSet_ok (newEnv_comp ?_)
  -- the set
  obtain ⟨D, hD⟩ : ∃ D, s2.heap.objs.size = D := ⟨_, rfl⟩
  obtain ⟨W, ⟨m0, w0⟩, turn⟩ := q D (I2.hok.fresh (Nat.le_of_eq hD))
  obtain ⟨s3, hs3⟩ : ∃ s3 : Shared, { s2 with heap := s2.heap.push (emptyObj X.w) } = s3 := ⟨_, rfl⟩
  have hp3 : s3.heap = s2.heap.push (emptyObj X.w) := by rw [← hs3]
  obtain ⟨H3, hH3⟩ : ∃ H3, upd H2 D (BagO X.prog X.w D []) = H3 := ⟨_, rfl⟩
  have I3 : Inv X pins σ H3 s3 := by
    rw [← hs3, ← hH3]
    exact I2.laid (t' := s2.toks) (fun b o e => Heap.get?_push_of_some _ e) (Nat.le_of_eq hD) (bagO_ok (empty_bg (by rw [← hD]; exact Heap.get?_push_size _ rfl)))
  have old : ∀ b ∈ fp, b < s2.heap.objs.size := fun b hb => by
    obtain ⟨o, e, _⟩ := T.obj _ _ st2 b hb
    exact Heap.lt_size e
  have f3 : ∀ b ∈ fp, FpOk X pins H3 b ∧ b < s3.heap.objs.size := fun b hb => by
    have lt := old b hb
    refine ⟨⟨?_, (f2 b hb).2⟩, by rw [hp3, Heap.size_push]; exact Nat.lt_succ_of_lt lt⟩
    rw [← hH3, upd_ne (by rw [← hD]; exact Nat.ne_of_lt lt)]
    exact (f2 b hb).1
  have st3 : tn 0 s3.heap := T.keep _ _ _ st2 fun b _ o e => by rw [hp3]; exact Heap.get?_push_of_some _ e
  rw [hH3] at w0
  -- the block
  have I4 := block_start I3 ok hN f3
  have pg := hg s3 H3 s3.heap.objs.size (cellsFrom (s3.heap.objs.size + 1) scope.names (cloFrom X.env.cells scope.names [])) fp
  have pt := ht s3 H3 s3.heap.objs.size (cellsFrom (s3.heap.objs.size + 1) scope.names (cloFrom X.env.cells scope.names [])) fp
  have pe := he s3 H3 s3.heap.objs.size (cellsFrom (s3.heap.objs.size + 1) scope.names (cloFrom X.env.cells scope.names [])) fp
  have hsz : (s2.heap.push (emptyObj X.w)).objs.size = s3.heap.objs.size := by rw [hp3]
  have goal : ∀ ce : Env, compEnvC scope (cellsFrom (s3.heap.objs.size + 1) scope.names (cloFrom X.env.cells scope.names [])) s3.heap.objs.size X.env = ce →
      codeAny (model X.prog X.w) X.A (.compStart (.SetComp elt [⟨tg, iter, ifs, 0⟩] scope pos) 0 (.ref it) (.ref D) ce) (compPost (model X.prog X.w) X.A X.xe none (EP X pins σ Q) (.ref D) s3.heap.objs.size)
        { s3 with heap := pushCells (s3.heap.push { cls := .type "dict", data := .dict #[] }) scope.names } := fun ce hce => by
    rw [hce] at I4 pg pt pe
    have cl : ce.locals = s3.heap.objs.size := by rw [← hce]; rfl
    obtain ⟨s4, hs4⟩ : ∃ s4 : Shared, { s3 with heap := pushCells (s3.heap.push { cls := .type "dict", data := .dict #[] }) scope.names } = s4 := ⟨_, rfl⟩
    rw [hs4] at I4 ⊢
    have st4 : tn 0 s4.heap := T.keep _ _ _ st3 fun b _ o e => by rw [← hs4]; exact pushCells_keeps _ _ _ _ (Heap.get?_push_of_some _ e)
    have fpok : ∀ {σ' : L2.St} {H' : Hp} {z : Shared}, Inv (X.blk s3 H3 scope ce fp) [] σ' H' z → (∀ b ∈ fp, H' b = none) → ∀ b ∈ fp, FpOk (X.blk s3 H3 scope ce fp) [] H' b := fun {σ' H' z} J n b hb =>
      ⟨n b hb, (J.ok.exf b hb).1, J.ok.exfs b hb, .inl hb, fun x c e => (J.ok.exf b hb).2 x c e, fun p hp => absurd (show p ∈ ([] : List (Addr × Obj)) ++ [] from hp) (by simp)⟩
    refine PpSet.codeAny_compStart_set ?loop (T.self X.A 0 _ _ _ st4 ?loop)
    refine PpSet.compLoopS_any (fun n z => ∃ i H', Inv (X.blk s3 H3 scope ce fp) [] (wipe σ (own.map (·.2))) H' z ∧ tn i z.heap ∧ (∀ b ∈ fp, H' b = none) ∧ W i n H') ?_ m0 ⟨0, H3, I4, st4, fun b hb => (f3 b hb).1.1, w0⟩
    rintro n s5 ⟨i, H5, I5, st5, n5, w5⟩
    rcases turn i n H5 w5 with ⟨stop, done⟩ | ⟨go, Nx, hNx, step⟩
    · refine thnF (T.done (X.blk s3 H3 scope ce fp) rfl rfl rfl hc i [] s5 _ H5 (fun _ _ => False) I5 (fpok I5 n5) st5 stop) fun r s6 ⟨hr, I6⟩ => ?_
      subst hr
      have I7 : Inv X pins σ H5 s6 := I3.call' (ch := fp) I6.os I6.base I6.hok I6.bare fun b hb => ⟨(f3 b hb).1.2.2.2.1, (f3 b hb).1.2.1, (f3 b hb).1.2.2.2.2.1, (f3 b hb).1.2.2.2.2.2⟩
      have free : H5 ce.locals = none := I6.free
      obtain ⟨m, hn, _⟩ := I6.loc
      have hn : s6.heap.Ns ce.locals m := hn
      rw [cl] at hn free
      refine ⟨m, hn, fun h'' sb => ?_⟩
      obtain ⟨p0, p1, p2, p3, p4, p5⟩ := I3.fpOk (Nat.le_refl _) free
      exact ⟨.ref D, H5, I7.turned (t' := s6.toks) (fun b o hb e => (sb.2 b hb).trans e) p0 p1 p3 p4 p5, rfl, done⟩
    · refine thnF (T.item (X.blk s3 H3 scope ce fp) rfl rfl rfl hc i [] s5 _ H5 (fun _ _ => False) I5 (fpok I5 n5) st5 go) fun r s6 ⟨u, hr, h6⟩ => ?_
      subst hr
      refine thnF h6 fun _ s7 ⟨x, H7, I7, r7, y7, st7, n7⟩ => ?_
      refine thnF (pg.run _ s7 _ H7 x u _ (I7.pinned (fpok I7 n7) (T.obj _ _ st7)) r7 (step x H7 y7)) fun _ s8 ⟨σ8, H8, I8, hw8, q8⟩ => ?_
      refine thnF (pt.run _ s8 σ8 H8 _ I8 q8) fun b s9 ⟨H9, I9, q9⟩ => ?_
      have next : ∀ {z : Shared} {H' : Hp}, Inv (X.blk s3 H3 scope ce fp) ([] ++ pinsAt fp s7.heap) σ8 H' z → Nx H' → ∃ m, m < n ∧ ∃ i H', Inv (X.blk s3 H3 scope ce fp) [] (wipe σ (own.map (·.2))) H' z ∧ tn i z.heap ∧ (∀ b ∈ fp, H' b = none) ∧ W i m H' := fun {z H'} J nx => by
        obtain ⟨m', lt, w'⟩ := hNx H' nx
        have pin : ∀ b ∈ fp, ∀ o, s7.heap.get? b = some o → z.heap.get? b = some o ∧ H' b = none := fun b hb o e =>
          let k := J.pin (b, o) (List.mem_append_right _ (List.mem_append_right _ (mem_pinsAt hb e)))
          ⟨k.1, k.2.1⟩
        refine ⟨m', lt, i + 1, H', (J.unpinned (pins := [])).weak (by rw [← hw8, wipe_length]) (fun j v e => ?_), T.keep _ _ _ st7 fun b hb o e => (pin b hb o e).1, fun b hb => ?_, w'⟩
        · rw [← hw8] at e
          exact (wipe_some e).1
        · obtain ⟨o, e, _⟩ := T.obj _ _ st7 b hb
          exact (pin b hb o e).2
      cases b with
      | false =>
        simp only [Bool.false_eq_true, if_false] at q9 ⊢
        exact next I9 q9
      | true =>
        simp only [if_true] at q9 ⊢
        unfold put1 at q9
        refine thnF (pe.run _ s9 σ8 H9 _ I9 q9) fun u s10 ⟨yv, H10, I10, r10, y, ks, ey, at10, room, nx⟩ => ?_
        subst ey
        exact add_bag (X := X.blk s3 H3 scope ce fp) I10 at10 r10 room fun s11 I11 => next I11 nx
  have g0 := goal _ rfl
  show codeAny _ _ (.compStart (.SetComp elt [⟨tg, iter, ifs, 0⟩] scope pos) 0 (.ref it) (.ref s2.heap.objs.size) (compEnvC scope (cellsFrom ((s2.heap.push (emptyObj X.w)).objs.size + 1) scope.names (cloFrom X.env.cells scope.names [])) (s2.heap.push (emptyObj X.w)).objs.size X.env)) (compPost (model X.prog X.w) X.A X.xe none (EP X pins σ Q) (.ref s2.heap.objs.size) (s2.heap.push (emptyObj X.w)).objs.size)
    { s2 with heap := pushCells ((s2.heap.push (emptyObj X.w)).push { cls := .type "dict", data := .dict #[] }) scope.names }
  rw [hsz, hD]
  rw [← hs3] at g0
  simp only [hsz] at g0 ⊢
  exact g0
end
/-- over any walk -/
theorem bag_it {P : Program} {w : World} {J : It} {n : Nat} {G : Hp → Prop} {Y : Nat → Hp → V → Hp → Prop} (wk : L2.Walk J n G Y) {g : TG} {tt : TT} {te : TE} {vs : List Nat} {σ : L2.St} {H1 : Hp} {D : Addr} {Qd : Hp → Prop} (Pv : Nat → Hp → Prop)
    (h0 : Pv 0 (upd H1 D (BagO P w D []))) (hG : ∀ i H, i ≤ n → Pv i H → G H)
    (hs : ∀ i x H H', i < n → Pv i H → Y i H x H' → g x (wipe σ vs) H' fun σ2 H2 => wipe σ2 vs = wipe σ vs ∧ tt σ2 H2 fun b H3 => if b = true then put1 P w D te σ2 H3 (Pv (i + 1)) else Pv (i + 1) H3) (hd : ∀ H, Pv n H → Qd H) :
    ∃ W : Nat → Nat → Hp → Prop, (∃ m, W 0 m (upd H1 D (BagO P w D []))) ∧ ∀ i m H, W i m H → (J.stop i H ∧ Qd H) ∨ (J.go i H ∧ ∃ Nx : Hp → Prop, (∀ H', Nx H' → ∃ m', m' < m ∧ W (i + 1) m' H') ∧
      ∀ x H', J.yld i H x H' → g x (wipe σ vs) H' fun σ2 H2 => wipe σ2 vs = wipe σ vs ∧ tt σ2 H2 fun b H3 => if b = true then put1 P w D te σ2 H3 Nx else Nx H3) := by
  refine ⟨fun i m H => i + m = n ∧ Pv i H, ⟨n, Nat.zero_add _, h0⟩, fun i m H ⟨e, p⟩ => ?_⟩
  have c := hG i H (by omega) p
  cases m with
  | zero =>
    obtain rfl : i = n := e
    exact .inl ⟨wk.stops H c, hd H p⟩
  | succ m => exact .inr ⟨wk.goes i H (by omega) c, Pv (i + 1), fun H' p' => ⟨m, Nat.lt_succ_self m, by omega, p'⟩, fun x H' y => hs i x H H' (by omega) p (wk.yields i H x H' (by omega) c y)⟩
end Bag

/-! sorted(rows), rows a list or a tuple of (text, int, int) -/
namespace Rng
open PySem PySem.Spec PyProof.Rows L2 SrtO
def ltR (p q : Row) : Bool := if p.1 = q.1 then (if p.2.1 = q.2.1 then decide (p.2.2 < q.2.2) else decide (p.2.1 < q.2.1)) else decide (p.1.cps.toList < q.1.cps.toList)
theorem txt_ne {x y : Str} (h : x ≠ y) : x.cps.toList < y.cps.toList ∨ y.cps.toList < x.cps.toList := by
  by_cases c : x.cps.toList < y.cps.toList
  · exact .inl c
  · by_cases d : y.cps.toList < x.cps.toList
    · exact .inr d
    · exact absurd (str_ext (List.le_antisymm (List.not_lt.mp d) (List.not_lt.mp c))) h
theorem ltR_asym {p q : Row} (h : ltR p q = true) : ltR q p = false := by
  unfold ltR at h ⊢
  by_cases a : p.1 = q.1
  · rw [if_pos a] at h
    rw [if_pos a.symm]
    by_cases b : p.2.1 = q.2.1
    · rw [if_pos b, decide_eq_true_eq] at h
      rw [if_pos b.symm, decide_eq_false_iff_not]
      omega
    · rw [if_neg b, decide_eq_true_eq] at h
      rw [if_neg (Ne.symm b), decide_eq_false_iff_not]
      omega
  · rw [if_neg a, decide_eq_true_eq] at h
    rw [if_neg (Ne.symm a), decide_eq_false_iff_not]
    exact List.lt_asymm h
theorem ltR_eq {p q : Row} (h1 : ltR p q = false) (h2 : ltR q p = false) : p = q := by
  unfold ltR at h1 h2
  by_cases a : p.1 = q.1
  · rw [if_pos a] at h1
    rw [if_pos a.symm] at h2
    by_cases b : p.2.1 = q.2.1
    · rw [if_pos b, decide_eq_false_iff_not] at h1
      rw [if_pos b.symm, decide_eq_false_iff_not] at h2
      obtain ⟨x, y, z⟩ := p
      obtain ⟨x', y', z'⟩ := q
      have : z = z' := by
        show z = z'
        have e1 : ¬ z < z' := h1
        have e2 : ¬ z' < z := h2
        omega
      have a' : x = x' := a
      have b' : y = y' := b
      rw [a', b', this]
    · rw [if_neg b, decide_eq_false_iff_not] at h1
      rw [if_neg (Ne.symm b), decide_eq_false_iff_not] at h2
      omega
  · rw [if_neg a, decide_eq_false_iff_not] at h1
    rw [if_neg (Ne.symm a), decide_eq_false_iff_not] at h2
    exact ((txt_ne a).elim h1 h2).elim
theorem ltR_no {p q : Row} : ltR q p = false ↔ (p.1.cps.toList < q.1.cps.toList ∨ (p.1 = q.1 ∧ (p.2.1 < q.2.1 ∨ (p.2.1 = q.2.1 ∧ p.2.2 ≤ q.2.2)))) := by
  unfold ltR
  by_cases a : q.1 = p.1
  · rw [if_pos a]
    have irr : ¬ p.1.cps.toList < q.1.cps.toList := by rw [a]; exact List.lt_irrefl _
    by_cases b : q.2.1 = p.2.1
    · rw [if_pos b, decide_eq_false_iff_not]
      constructor
      · exact fun h => .inr ⟨a.symm, .inr ⟨b.symm, by omega⟩⟩
      · rintro (h | ⟨_, h | ⟨_, h⟩⟩)
        · exact absurd h irr
        · omega
        · omega
    · rw [if_neg b, decide_eq_false_iff_not]
      constructor
      · exact fun h => .inr ⟨a.symm, .inl (by omega)⟩
      · rintro (h | ⟨_, h | ⟨h, _⟩⟩)
        · exact absurd h irr
        · omega
        · exact absurd h.symm b
  · rw [if_neg a, decide_eq_false_iff_not]
    constructor
    · exact fun h => .inl ((txt_ne a).resolve_left h)
    · rintro (h | ⟨h, _⟩)
      · exact List.lt_asymm h
      · exact absurd h.symm a
theorem ltR_tr {p q r : Row} (h1 : ltR q p = false) (h2 : ltR r q = false) : ltR r p = false := by
  rw [ltR_no] at h1 h2 ⊢
  rcases h1 with h1 | ⟨a1, h1⟩
  · rcases h2 with h2 | ⟨a2, _⟩
    · exact .inl (List.lt_trans h1 h2)
    · exact .inl (a2 ▸ h1)
  · rcases h2 with h2 | ⟨a2, h2⟩
    · exact .inl (a1 ▸ h2)
    · exact .inr ⟨a1.trans a2, by omega⟩
theorem swoR {α : Type} (k : α → Row) : Swo fun v u => ltR (k v) (k u) := ⟨fun _ _ h => ltR_asym h, fun _ _ _ h1 h2 => ltR_tr h1 h2⟩
/-- sorted rows are the only ones of their kind -/
theorem sorted_one : ∀ {as bs : List Row}, as.Perm bs → as.Pairwise (fun p q => ltR q p = false) → bs.Pairwise (fun p q => ltR q p = false) → as = bs
  | [], bs, h, _, _ => (List.nil_perm.mp h).symm
  | a :: as, [], h, _, _ => absurd h.length_eq (by simp)
  | a :: as, b :: bs, h, ha, hb => by
    obtain ⟨a1, a2⟩ := List.pairwise_cons.mp ha
    obtain ⟨b1, b2⟩ := List.pairwise_cons.mp hb
    have e : a = b := by
      have m1 : a ∈ b :: bs := h.mem_iff.mp List.mem_cons_self
      have m2 : b ∈ a :: as := h.mem_iff.mpr List.mem_cons_self
      rcases List.mem_cons.mp m1 with e | m1
      · exact e
      · rcases List.mem_cons.mp m2 with e | m2
        · exact e.symm
        · exact ltR_eq (b1 a m1) (a1 b m2)
    subst e
    rw [sorted_one h.cons_inv a2 b2]
/-! ### at the library's level -/
def IsRow (h : Heap) (v : Value) (r : Row) : Prop := ∃ a o t u x n, v = .ref a ∧ h.get? a = some o ∧ o.cls = .type "tuple" ∧ o.data = .seq #[.str r.1 t, .int r.2.1 u, .int r.2.2 x] n
theorem IsRow.keeps {h h' : Heap} {v : Value} {r : Row} (p : IsRow h v r) (k : ∀ b o, h.get? b = some o → o.cls = .type "tuple" → h'.get? b = some o) : IsRow h' v r := by
  obtain ⟨a, o, t, u, x, n, e, ho, hc, hd⟩ := p
  exact ⟨a, o, t, u, x, n, e, k _ _ ho hc, hc, hd⟩
section
variable {prog : Program} {w : World} {A : Around} {E : Value → Shared → Prop} {s : Shared}
theorem row_cmp {vs : List Value} {k : Value → Row} (hp : ∀ v ∈ vs, IsRow s.heap v (k v)) : SrtO.Cmp prog w A s (tuples' true) (fun p => p.1 ∈ vs) (lt2 fun v u => ltR (k v) (k u)) := by
  intro p q hm hm'
  have h1 := hp _ hm
  have h2 := hp _ hm'
  show wpAny (model prog w) A (keyLt' (tuples' true) p.1 q.1) (fun r s' => s' = s ∧ r = ltR (k p.1) (k q.1)) (fun _ _ => False) s
  unfold ltR
  generalize k p.1 = r at h1 ⊢
  generalize k q.1 = r' at h2 ⊢
  obtain ⟨x, y, z⟩ := r
  obtain ⟨x', y', z'⟩ := r'
  obtain ⟨a, o, t, u, m, n, e, ho, hc, hd⟩ := h1
  obtain ⟨a', o', t', u', m', n', e', ho', hc', hd'⟩ := h2
  rw [e, e']
  refine PySem.W.kat_lt ho hd ho' hd' ?_
  show PySem.W.KatLex prog w A true (decide (3 < 3)) _ [(.str x t, .str x' t'), (.int y u, .int y' u'), (.int z m, .int z' m')] 0 s
  refine PySem.W.kat_cons (SeqAt.EqAt.str_str x t x' t' prog w _ _ ?_)
  refine PySem.W.kat_go (fun e1 => ?_) (fun e1 => ?_)
  · have ex : x = x' := by simpa using e1
    refine PySem.W.kat_yes (PySem.W.kat_cons (SeqAt.EqAt.int_int y u y' u' prog w _ _ ?_))
    refine PySem.W.kat_go (fun e2 => ?_) (fun e2 => ?_)
    · have ey : y = y' := by simpa using e2
      refine PySem.W.kat_yes (PySem.W.kat_cons (SeqAt.EqAt.int_int z m z' m' prog w _ _ ?_))
      refine PySem.W.kat_go (fun e3 => ?_) (fun e3 => ?_)
      · have ez : z = z' := by simpa using e3
        refine PySem.W.kat_yes (PySem.W.kat_nil ⟨rfl, ?_⟩)
        show decide (3 < 3) = _
        rw [if_pos ex, if_pos ey, ez]
        simp
      · refine PySem.W.kat_no (PySem.W.kat_one _ _ (PyProof.Rows.lt_int ?_))
        refine (show s = s ∧ decide (z < z') = _ from ⟨rfl, ?_⟩)
        rw [if_pos ex, if_pos ey]
    · have ey : ¬ y = y' := by simpa using e2
      refine PySem.W.kat_no (PySem.W.kat_one _ _ (PyProof.Rows.lt_int ?_))
      refine (show s = s ∧ decide (y < y') = _ from ⟨rfl, ?_⟩)
      rw [if_pos ex, if_neg ey]
  · have ex : ¬ x = x' := by simpa using e1
    refine PySem.W.kat_no (oneLt_str ?_)
    refine ⟨rfl, ?_⟩
    rw [if_neg ex]
theorem row_firsts {h : Heap} : ∀ {vs : List Value}, (∀ v ∈ vs, ∃ r, IsRow h v r) → ∃ fs : List Value, PySem.W.KatTups h vs fs ∧ fs.length = vs.length ∧ ∀ f ∈ fs, ∃ x t, f = Value.str x t
  | [], _ => ⟨[], PySem.W.KatTups.nil, rfl, fun _ hm => (nomatch hm)⟩
  | v :: vs, hp => by
    obtain ⟨fs, h1, h2, h3⟩ := row_firsts (vs := vs) fun u hm => hp u (List.mem_cons_of_mem _ hm)
    obtain ⟨r, a, o, t, u, x, n, rfl, ho, hc, hd⟩ := hp v List.mem_cons_self
    exact ⟨.str r.1 t :: fs, PySem.W.KatTups.cons ho hc hd rfl h1, by rw [List.length_cons, List.length_cons, h2], fun f hm => (List.mem_cons.mp hm).elim (fun e => ⟨_, _, e⟩) (h3 f)⟩
theorem rows_sortable {a : Addr} {vs : List Value} {k : Value → Row} (h0 : 0 < vs.length) (hp : ∀ v ∈ vs, IsRow s.heap v (k v)) (ha : ∀ o, s.heap.get? a = some o → o.cls ≠ .type "tuple") : SortableO prog w A s a vs fun v u => ltR (k v) (k u) := by
  intro h' keep
  have hp' : ∀ v ∈ vs, IsRow h' v (k v) := fun v hm => (hp v hm).keeps fun b o e c => keep b o (fun z => ha o (z ▸ e) c) e
  obtain ⟨fs, h1, h2, h3⟩ := row_firsts fun v hm => ⟨_, hp' v hm⟩
  refine ⟨tuples' true, fun Q E hq => ?_, row_cmp hp'⟩
  refine PySem.W.kat_kind (T := .type "str") h1 (by omega) (fun f hm => ?_) (by rfl) ?_
  · obtain ⟨x, t, rfl⟩ := h3 f hm
    exact PySem.W.Looks.now
  · have e : (Value.type "str" != Value.type "tuple") = true := by first | decide +kernel | rfl | decide
    rw [e]
    exact hq
/-- a list or tuple gathered: a new list behind all that stands -/
theorem gather {l : Addr} {T : String} {o : Obj} {us : Array Value} {n : Nat} {Q : List Value → Shared → Prop} (hT : T = "list" ∨ T = "tuple") (ho : s.heap.get? l = some o) (hc : o.cls = .type T) (hd : o.data = .seq us n) (hz : us.size ≤ sizeLine)
    (h : ∀ h', (∀ b u, s.heap.get? b = some u → h'.get? b = some u) → s.heap.objs.size ≤ h'.objs.size → Q us.toList { s with heap := h' }) : wpAny (model prog w) A (collect (.ref l)) Q E s := by
  unfold collect
  refine wpAny_bind (wpAny_runValue (codeAny_builtin PySem.F.entry_proto_collect ?_))
  rw [Around.under_plainId PySem.F.plain_proto_collect _]
  show wpAny _ A.in1 (newList [] >>= fun z => again (.builtin "list.__iadd__" ⟨[z, .ref l], []⟩)) _ _ s
  refine wpAny_bind (wpAny_newObj_type (wpAny_pure ⟨plainId_quiet PySem.F.plain_list_iadd _, codeAny_builtin PySem.F.entry_list_iadd ?_⟩))
  rw [Around.under_plainId PySem.F.plain_list_iadd _]
  obtain ⟨h1, e1⟩ : ∃ h1, s.heap.push { cls := .type "list", data := .seq ([] : List Value).toArray } = h1 := ⟨_, rfl⟩
  have new : h1.get? s.heap.objs.size = some { cls := .type "list", data := .seq #[] 0 } := by rw [← e1]; exact Heap.get?_push_size _ rfl
  have k1 : ∀ b u, s.heap.get? b = some u → h1.get? b = some u := fun b u e => by rw [← e1]; exact Heap.get?_push_of_some _ e
  have z1 : h1.objs.size = s.heap.objs.size + 1 := by rw [← e1]; exact size_push' _ _
  show wpAny _ A.in1 (Builtin.List.listExtendWith (.ref s.heap.objs.size) (.ref l) (.ref s.heap.objs.size)) _ _ _
  rw [e1]
  have fin : wpAny (model prog w) A (match Value.ref s.heap.objs.size with
      | Value.ref a => do
        match (← load a).data with
          | Data.seq xs _ => pure xs.toList
          | _ => unsupported "internal:collect"
      | _ => unsupported "internal:collect") Q E { s with heap := h1.update s.heap.objs.size (Obj.mapSeq (· ++ us)) } := by
    show wpAny _ A (load s.heap.objs.size >>= _) _ _ _
    refine wpAny_bind (wpAny_load (Heap.get?_update_self (Obj.mapSeq (· ++ us)) new rfl) (wpAny_pure ?_))
    show Q ((#[] : Array Value) ++ us).toList _
    rw [show ((#[] : Array Value) ++ us).toList = us.toList by simp]
    exact h _ (fun b u e => (Heap.get?_update_other _ _ (Nat.ne_of_gt (Heap.lt_size e))).trans (k1 b u e)) (by rw [Heap.size_update, z1]; exact Nat.le_succ _)
  refine wpAny_mono (wpAny_extend_seq (hsz := hz) (A := A) (R := fun r z => r = .ok (.ret (.ref s.heap.objs.size)) ∧ z = { s with heap := h1.update s.heap.objs.size (Obj.mapSeq (· ++ us)) }) (s := { s with heap := h1 }) _ l _ 0 hT new (k1 _ _ ho) hc hd ⟨rfl, rfl⟩) (fun f z hz => ?_) fun e z hz => absurd hz.1 (by simp)
  cases f with
  | done f =>
    obtain ⟨e, rfl⟩ := hz
    cases e
    exact fin
  | again c => exact ⟨hz.1, codeAny_mono hz.2 fun r y hr => by obtain ⟨rfl, rfl⟩ := hr; exact fin⟩
/-- sorted of a list or tuple of rows -/
theorem sorted_rows {l : Addr} {T : String} {o : Obj} {vs : List Value} {n : Nat} {k : Value → Row} {Q : Value → Shared → Prop} (hT : T = "list" ∨ T = "tuple") (ho : s.heap.get? l = some o) (hc : o.cls = .type T) (hd : o.data = .seq vs.toArray n) (hz : vs.length ≤ sizeLine) (hp : ∀ v ∈ vs, IsRow s.heap v (k v))
    (h : ∀ (h' : Heap) (d : Addr) (out : List Value), Srtd (fun v u => ltR (k v) (k u)) out → out.Perm vs → (∀ b o, s.heap.get? b = some o → h'.get? b = some o) → s.heap.objs.size ≤ d → (∃ c, h'.get? d = some (seqObj "list" out.toArray c)) → Q (.ref d) { s with heap := h' }) :
    wpAny (model prog w) A (call (.builtin "sorted") [.ref l]) Q E s := by
  refine Calls.call_function_entry kind_sorted plain_sorted entry_sorted (args_sorted1 _) ?_
  unfold Builtin.«sorted»
  refine wpAny_bind (m := checkCount "sorted" 1 1 _) (wpAny_pure ?_)
  refine wpAny_bind (gather hT ho hc hd (by rw [List.size_toArray]; exact hz) fun h1 k1 sz => ?_)
  rw [List.toList_toArray]
  refine wpAny_bind (wpAny_newList ?_ hz)
  have ol : (h1.push (seqObj "list" vs.toArray 0)).get? h1.objs.size = some (seqObj "list" vs.toArray 0) := Heap.get?_push_size _ rfl
  refine wpAny_bind (wpAny_holding (wpAny_call_entry slot_list_sort ⟨_, ol, rfl⟩ entry_list_sort (list_sort_ord (swoR k) ol hz (fun h2 => ?_) fun out hs hb => ⟨_, rfl, ?_⟩) (args_list_sort _)))
  · refine rows_sortable (s := { s with heap := h1.push (seqObj "list" vs.toArray 0) }) (by omega) (fun v hm => (hp v hm).keeps fun b o e _ => Heap.get?_push_of_some _ (k1 b o e)) fun o e c => ?_
    have e' : some o = some (seqObj "list" vs.toArray 0) := e.symm.trans ol
    cases e'
    exact absurd (Value.type.inj c) (by decide)
  · refine wpAny_pure ⟨_, rfl, h _ _ out hs hb.perm (fun b u e => ?_) sz (sortedHeap_at ol)⟩
    have lt := Heap.lt_size (k1 b u e)
    show (sortedHeap (h1.push (seqObj "list" vs.toArray 0)) h1.objs.size vs _).get? b = some u
    rw [sortedHeap_old (Nat.ne_of_lt lt) (by rw [size_push']; exact Nat.lt_succ_of_lt lt)]
    exact Heap.get?_push_of_some _ (k1 b u e)
end
/-! ### the rule -/
def rowAtV (H : Hp) : V → Row
  | .ref p => match H p with
    | some (.tup [.str z, .int t, .int a]) => (z, t, a)
    | _ => (Str.empty, 0, 0)
  | _ => (Str.empty, 0, 0)
theorem rowAtV_is {H : Hp} {p : Addr} {r : Row} (e : H p = some (.tup (rowV r))) : rowAtV H (.ref p) = r := by
  show (match H p with | some (.tup [.str z, .int t, .int a]) => (z, t, a) | _ => (Str.empty, 0, 0)) = r
  rw [e]
  rfl
theorem tups_rows {H : Hp} {vs : List V} {rs : List Row} (h : TupsAt rowV H vs rs) : rs = vs.map (rowAtV H) := by
  induction h with
  | nil => rfl
  | cons e _ ih => rw [List.map_cons, rowAtV_is e, ← ih]
theorem tups_refs {H : Hp} {vs : List V} {rs : List Row} (h : TupsAt rowV H vs rs) : ∀ v ∈ vs, ∃ t, v = V.ref t := by
  induction h with
  | nil => exact fun v z => (nomatch z)
  | cons e _ ih => exact fun v z => (List.mem_cons.mp z).elim (fun e => ⟨_, e⟩) (ih v)
def rSortRows (K : PySem.W.Frag) : List V → Hp → VK → Prop := fun vs H Q => ∃ (a : Addr) (xs : List V) (rs : List Row), vs = [V.ref a] ∧ (SqL K H a xs ∨ SqT K H a xs) ∧ TupsAt rowV H xs rs ∧
  ∀ (ys : List V) (ss : List Row) (p : Addr), ss.Perm rs → ss.Pairwise (fun q r => ltR r q = false) → TupsAt rowV H ys ss → H p = none → Q (.ref p) (upd H p (.lst ys))
section
variable {X : Cx}
theorem cr_sortRows : CallR X (.builtin "sorted") (rSortRows X.K) := by
  intro pins s σ H vs us Q I r h
  obtain ⟨a, xs, rs, rfl, hs, ht, q⟩ := h
  rw [Vals.ref1 r]
  have got : ∃ (T : String) (o : Obj) (its : List Value) (n : Nat), (T = "list" ∨ T = "tuple") ∧ s.heap.get? a = some o ∧ o.cls = .type T ∧ o.data = .seq its.toArray n ∧ Vals xs its ∧ its.length ≤ sizeLine := by
    rcases hs with hs | hs
    · obtain ⟨its, rv, pl, hz⟩ := I.list hs
      obtain ⟨o, ho, hc, n, hd⟩ := pl.isList
      exact ⟨_, o, its, n, .inl rfl, ho, hc, hd, rv, by rw [← rv.length]; exact hz⟩
    · obtain ⟨its, rv, ⟨o, ho, hc, n, hd⟩, hz⟩ := I.tuple hs
      exact ⟨_, o, its, n, .inr rfl, ho, hc, hd, rv, by rw [← rv.length]; exact hz⟩
  obtain ⟨T, o, its, n, hT, ho, hc, hd, rv, hz⟩ := got
  obtain ⟨e1, e2⟩ := refs_back rv (tups_refs ht)
  have row : ∀ v ∈ its, IsRow s.heap v (rowAtV H (backV v)) := fun v hv => by
    obtain ⟨t, rfl⟩ := e2 v hv
    have hm : V.ref t ∈ xs := by rw [e1]; exact List.mem_map.mpr ⟨_, hv, rfl⟩
    obtain ⟨i, hi⟩ := List.getElem?_of_mem hm
    obtain ⟨r, q, _, eq, hq⟩ := ht.get hi
    cases eq
    obtain ⟨_, its2, r2, o2, ho2, hc2, n2, hd2⟩ := I.hok _ _ hq
    have hk : rowAtV H (backV (.ref t)) = r := rowAtV_is hq
    rw [hk]
    cases r2 with
    | cons r1 r2 =>
      cases r2 with
      | cons r2 r3 =>
        cases r3 with
        | cons r3 r4 =>
          cases r4
          obtain ⟨t1, rfl⟩ := r1
          obtain ⟨t2, rfl⟩ := r2
          obtain ⟨t3, rfl⟩ := r3
          exact ⟨t, o2, t1, t2, t3, n2, rfl, ho2, hc2, hd2⟩
  refine sorted_rows hT ho hc hd hz row fun h' d out so pm kp hd' hn => ?_
  have h3 : ∀ u ∈ out, ∃ a, u = Value.ref a := fun u hu => e2 u (pm.mem_iff.mp hu)
  obtain ⟨c, hn⟩ := hn
  have pv : (out.map backV).Perm xs := by
    rw [e1]
    exact pm.map backV
  obtain ⟨ss, ps, ts⟩ := ht.perm pv
  refine ⟨.ref d, upd H d (.lst (out.map backV)), I.laid (t' := s.toks) kp hd' ⟨?_, out, c, vals_back h3, hn⟩, rfl, q _ ss d ps ?_ ts (I.hok.fresh hd')⟩
  · rw [List.length_map, pm.length_eq]
    exact hz
  · rw [tups_rows ts, List.map_map]
    exact List.pairwise_map.mpr so
end
end Rng

/-! defs that are called where no repr is under way: what they promise then, their calls, the end; repr of data -/
namespace Gd
open PySem PySem.Spec PyProof.Rows L2
/-- as FnOk, where no repr is under way -/
structure FnG (P : Program) (w : World) (K : PySem.W.Frag) (mg : Str → Option Value) (base : Heap) (k : Nat) (f : Addr) (fd : FuncData) (ps : List Str) (sp : Sp) : Prop where
  len : ∀ vs H Q E, sp vs H Q E → vs.length = ps.length
  run : ∀ (A : Around) (outer : List Env) (s : Shared) (H : Hp) (args : Args) (us : List Value) (vs : List V) (Q : VK) (E : XK), A.guards = some [] → Room k A → Env0 P w K mg base A outer s H → BindsTo s fd args (ps.zip us) → Vals vs us → sp vs H Q E →
    codeAny (model P w) A (.call (.ref f) args) (CR CX0 outer P w H s Q E) s
section
variable {P : Program} {w : World} {K : PySem.W.Frag} {mg : Str → Option Value} {base : Heap} {j k : Nat} {f : Addr} {fd : FuncData} {N ps : List Str} {sp : Sp}
theorem FnG.mono (F : FnG P w K mg base j f fd ps sp) (h : j ≤ k) : FnG P w K mg base k f fd ps sp := ⟨F.len, fun A outer s H args us vs Q E hq hr => F.run A outer s H args us vs Q E hq (hr.mono h)⟩
theorem _root_.L2.FnOk.toG (F : FnOk P w K mg base CX0 k f fd ps sp) : FnG P w K mg base k f fd ps sp := ⟨F.len, fun A outer s H args us vs Q E _ hr => F.run A outer s H args us vs Q E hr⟩
/-- a def by its body, which may count on that no repr is under way -/
theorem _root_.L2.Fun.okG {x qual : Str} {st : Stmt} (F : Fun K x qual st f fd) (S : FnScope N ps (defScope st)) (len : ∀ vs H Q E, sp vs H Q E → vs.length = ps.length)
    (body : ∀ (cdv : Value) (A : Around) (outer : List Env) (s : Shared) (H : Hp) (vs : List V) (Q : VK) (E : XK), (A.deeper (envOfC qual (defScope st) s.heap.objs.size f cdv)).guards = some [] → Room k (A.deeper (envOfC qual (defScope st) s.heap.objs.size f cdv)) → sp vs H Q E →
      ∃ t, PSs (cxOf CX0 P w K mg base N qual (defScope st) f cdv A outer s H E).nox (defBody st) t ∧ t { nx := fun _ H' => Q .non H', rt := Q } (start N vs) H) : FnG P w K mg base (k + 1) f fd ps sp := by
  obtain ⟨oc, od, kV, doc, pm, an, cdv, ct, osl, rfl, lk, hcd⟩ := F.ex
  refine ⟨len, fun A outer s H args us vs Q E hq hr e0 hb rv hsp => ?_⟩
  have KX : K.In s.heap := e0.mod.kin.keeps fun b o e => (e0.bs b o e).1
  have lim : s.heap.NoLimit := e0.mod.nolimit.keeps fun b o e => (e0.bs b o e).1
  refine codeAny_call_function hr.depth (KX _ _ lk) rfl S.co S.gen rfl (PySem.W.codeRec_of KX hcd) (hb _ _ _ _ ?_)
  refine wpAny_newFunctionEnv_cells S.kind (fun ⟨n, v⟩ hy => ?_) fun env he s1 x => ?_
  · rcases S.par n (List.of_mem_zip hy).1 with q | q
    · exact .inl q
    · exact .inr ⟨q, PySem.W.cellsFrom_some _ _ _ (.inl q)⟩
  subst he
  obtain ⟨t, ht, rd⟩ := body cdv A outer s H vs Q E hq (hr.deeper _) hsp
  refine ⟨lim.keeps x.toInCall.keep, codeAny_func (wpAny_mono (ht.nox.run [] s1 (start N vs) H _ (inv_start S hr.hd e0 (len _ _ _ _ hsp) rv x) rd) (fun fl z hz => ?_) fun e z hz => hz)⟩
  cases fl with
  | ret u =>
    obtain ⟨v, σ', H', J, r, q⟩ := hz
    exact ⟨v, H', J.os, J.bare, J.base, J.hok, r, q⟩
  | next =>
    obtain ⟨σ', H', J, q⟩ := hz
    exact ⟨V.non, H', J.os, J.bare, J.base, J.hok, rfl, q⟩
  | brk =>
    obtain ⟨_, _, _, q⟩ := hz
    exact q.elim
  | cont =>
    obtain ⟨_, _, _, q⟩ := hz
    exact q.elim
end
section
variable {X : Cx} {k : Nat} {f : Addr} {fd : FuncData} {ps : List Str} {sp : Sp} {dvs : List V} {ds : List Value} {E : XK} {x : Str} {p pos : Pos} {e : Expr} {es : List Expr} {t : TA}
theorem run_g {pins : List (Addr × Obj)} {σ : L2.St} {H : Hp} {s : Shared} {Q : VK} {us : List Value} {vs : List V} (F : FnG X.prog X.w X.K X.mg X.base k f fd ps sp) (hq : X.A.guards = some []) (hr : Room k X.A) (hb : Binds X.K fd ps ds) (hd : Vals dvs ds)
    (I : Inv X pins σ H s) (r : Vals vs us) (h : sp (vs ++ dvs) H Q E) : wpAny (model X.prog X.w) X.A (call (.ref f) us) (EP X pins σ Q) X.xe s := by
  have rr : Vals (vs ++ dvs) (us ++ ds) := r.append hd
  refine wpAny_call (codeAny_mono (F.run X.A X.stack s H ⟨us, []⟩ (us ++ ds) (vs ++ dvs) Q E hq hr I.env0 (hb s us I.kIn (by rw [← rr.length]; exact F.len _ _ _ _ h)) rr h) fun r z hz => ?_)
  cases r with
  | error e => exact False.elim hz
  | ok fl =>
    cases fl with
    | ret u => exact I.after hz
    | next => exact False.elim hz
    | brk => exact False.elim hz
    | cont => exact False.elim hz
/-- f(e, ..) -/
theorem pe_callG (F : FnG X.prog X.w X.K X.mg X.base k f fd ps sp) (hq : X.A.guards = some []) (hr : Room k X.A) (hg : Gl X x) (hm : X.mg x = some (.ref f)) (hk : PySem.W.keepIn X.K (.ref f) = true) (hb : Binds X.K fd ps ds) (hd : Vals dvs ds)
    (ha : PA X (e :: es) t) (hdb : (x == ("__debug__" : Str)) = false := by decide) (he : starEach (e :: es) X.env = (false, eval e X.env) :: starEach es X.env := by rfl) (hpl : (backTo pos (starEach es X.env)).any (·.1) = false := by rfl) :
    PE X (.Call (.Name x p) (e :: es) [] pos) (tCall sp dvs E t) :=
  ⟨fun pins s σ H Q I h => wpAny_Call_Name_kw (ld_glob I hg hm (PySem.W.callWith_K (h₀ := X.base) I.ok.mod.kin hk (thn (ha.run pos pins s σ H _ I h) fun us s1 ⟨vs, H1, I1, r, q⟩ => ⟨I1.kIn, run_g F hq hr hb hd I1 r q⟩) he hpl) hdb)⟩
/-- f() -/
theorem pe_callG0 (F : FnG X.prog X.w X.K X.mg X.base k f fd ps sp) (hq : X.A.guards = some []) (hr : Room k X.A) (hg : Gl X x) (hm : X.mg x = some (.ref f)) (hk : PySem.W.keepIn X.K (.ref f) = true) (hb : Binds X.K fd ps ds) (hd : Vals dvs ds)
    (hdb : (x == ("__debug__" : Str)) = false := by decide) : PE X (.Call (.Name x p) [] [] pos) (tCall sp dvs E tNil) :=
  ⟨fun pins s σ H Q I h => wpAny_Call_Name_kw (ld_glob I hg hm (PySem.W.callWith_K0 I.kIn hk (run_g (us := []) F hq hr hb hd I .nil h)) hdb)⟩
/-- data that a repr shows: no great text, number, nesting -/
structure Fits (m p : Nat) (d : PyData) : Prop where
  short : d.leavesShort 201 = true
  shows : d.showable = true
  size : d.weight ≤ m
  deep : d.depth ≤ p
mutual
theorem dp_plain {K : PySem.W.Frag} {H : Hp} : ∀ (d : PyData) (v : V), Dp K H v d → d.hasDict = false
  | .none, _, _ => rfl
  | .bool _, _, _ => rfl
  | .int _, _, _ => rfl
  | .str _, _, _ => rfl
  | .list ds, _, h => by
    cases h with
    | lst _ a =>
      simp only [PyData.hasDict]
      exact dps_plain ds _ a
  | .tuple ds, _, h => by
    cases h with
    | tup _ a =>
      simp only [PyData.hasDict]
      exact dps_plain ds _ a
  | .dict _, _, h => by cases h
theorem dps_plain {K : PySem.W.Frag} {H : Hp} : ∀ (ds : List PyData) (vs : List V), DpAll K H vs ds → PyData.hasDictAll ds = false
  | [], _, _ => rfl
  | d :: ds, _, h => by
    cases h with
    | cons a b => simp only [PyData.hasDictAll, dp_plain d _ a, dps_plain ds _ b, Bool.or_self]
end
theorem Fits.len {m p : Nat} {d : PyData} (f : Fits m p d) (hm : m ≤ 80000) : d.shown.length ≤ sizeLine := by
  have h := PyData.shown_le 201 (by decide) d f.short
  have := f.size
  rw [sizeLine_eq]
  omega
/-- repr(x), x data -/
def rRepr (K : PySem.W.Frag) : List V → Hp → VK → Prop := fun vs H Q => ∃ (v : V) (d : PyData), vs = [v] ∧ Dp K H v d ∧ Fits 80000 40 d ∧ Q (.str d.shown) H
theorem cr_repr (hq : X.A.guards = some []) (hu : X.A.units + 64 < cLine) : CallR X (.builtin "repr") (rRepr X.K) := by
  intro pins s σ H vs us Q I r h
  obtain ⟨v, d, rfl, hd, f, q⟩ := h
  have ln := f.len (Nat.le_refl _)
  have sh := f.shows
  have dp := f.deep
  obtain ⟨u, rfl, ru⟩ := vals1 r
  obtain ⟨as, rd⟩ := Dp.reads I d v u hd ru
  have hn := dp_plain d v hd
  have fin : ∀ (t : Tok) (z : Shared), Inv X pins σ H z → EP X pins σ Q (.str d.shown t) z := fun t z J => ⟨.str d.shown, H, J, ⟨t, rfl⟩, q⟩
  cases rd with
  | none => exact PySem.P.repr_of_none (fin _ _ (I.tok _))
  | bool b => exact PySem.P.repr_of_bool (fin _ _ (I.tok _))
  | int i t => exact PySem.P.repr_of_int (by simpa [PyData.showable] using sh) (fin _ _ (I.tok _))
  | str x t => exact PySem.P.repr_of_str (fin _ _ (I.tok _)) (by simpa only [PyData.shown] using ln)
  | list h1 h2 h3 h4 => exact repr_of_reads' (.list h1 h2 h3 h4) sh (fun z => by rw [hn] at z; cases z) hq (by omega) (fun _ _ e => e) (fun h' u tk k => fin _ _ (I.kept k)) ln
  | tuple h1 h2 h3 h4 => exact repr_of_reads' (.tuple h1 h2 h3 h4) sh (fun z => by rw [hn] at z; cases z) hq (by omega) (fun _ _ e => e) (fun h' u tk k => fin _ _ (I.kept k)) ln
  | dict h1 h2 h3 h4 h5 => cases hd
end
/-! ### the end -/
theorem call_top {P : Program} {w : World} {K : PySem.W.Frag} {mg mb : Str → Option Value} {k : Nat} {fa a : Addr} {fd : FuncData} {x : Str} {sp : Sp} {s : Shared} {us : List Value} {ns : List Int} (KX : K.In s.heap) (hg : s.heap.Ns mainGlobals mg) (hb : s.heap.Ns builtinsNs mb)
    (hbb : ∀ x : Str, x ≠ "__name__" → mb x = bootBuiltins x) (hlim : s.heap.NoLimit) (g0 : s.gens = #[]) (ha : s.heap.get? a = some { cls := .type "list", data := .seq us.toArray }) (hi : IntsAre us ns) (hl : ns.length ≤ sizeLine) (hr : Room k callerA)
    (F : ∀ base : Heap, K.In base → base.Ns mainGlobals mg → FnG P w K mg base k fa fd [x] sp) (bind : ∀ (s : Shared) (u : Value), BindsTo s fd ⟨[u], []⟩ [(x, u)])
    (hsp : ∀ H : Hp, SqL K H a (ns.map V.int) → sp [.ref a] H (fun v _ => v = .bl true) fun _ _ _ => False) :
    codeAny (model P w) callerA (.call (.ref fa) ⟨[.ref a], []⟩) (fun r z => r = .ok (.ret (.bool true)) ∧ OldK s.heap z.heap ∧ z.os = s.os ∧ AllBare z.gens) s := by
  have rv := vals_ints hi
  -- only the script may be tracked
  have main : ∀ H : Hp, (∀ b u, H b = some u → b = a ∧ ∃ o xs, u = .frz o (.lst xs)) → (H a ≠ none → K.lookup a = none) → SqL K H a (ns.map V.int) → HOk P w H s.heap →
      codeAny (model P w) callerA (.call (.ref fa) ⟨[.ref a], []⟩) (fun r z => r = .ok (.ret (.bool true)) ∧ OldK s.heap z.heap ∧ z.os = s.os ∧ AllBare z.gens) s := by
    intro H only hK hS hok
    have keep : ∀ {b : Addr} {o : Obj}, s.heap.get? b = some o → H b = none → (hidT s.heap H).get? b = some o := fun e n => hidT_get e n
    have dictNone : ∀ {b : Addr} {o : Obj} {es : Array DictEntry} {ep : Nat}, s.heap.get? b = some o → o.data = .dict es ep → H b = none := fun {b o es ep} e d => by
      cases q : H b with
      | none => rfl
      | some u =>
        rw [(only b u q).1, ha] at e
        cases e
        cases (show Data.seq us.toArray _ = Data.dict es ep from d)
    have ns' : ∀ {b : Addr} {m : Str → Option Value}, s.heap.Ns b m → (hidT s.heap H).Ns b m := fun {b m} ⟨o, es, ep, e, d, r⟩ => ⟨o, es, ep, keep e (dictNone e d), d, r⟩
    have KB : K.In (hidT s.heap H) := fun b o e => keep (KX b o e) (by
      cases q : H b with
      | none => rfl
      | some u =>
        have eb := (only b u q).1
        rw [eb] at e q
        rw [hK (by rw [q]; exact fun z => nomatch z)] at e
        cases e)
    have e0 : Env0 P w K mg (hidT s.heap H) callerA [] s H := ⟨rfl, ⟨KB, ns' hg, ⟨mb, ns' hb, hbb⟩, let ⟨mc, h1, h2⟩ := hlim; ⟨mc, ns' h1, h2⟩⟩, fun b o e => of_hidT e, Nat.le_of_eq (hidT_size _ _), trivial, fun b hb => absurd (show b ∈ ([] : List Addr) from hb) (by simp), hok, .of_eq g0⟩
    refine codeAny_mono ((F _ KB (ns' hg)).run callerA [] s H ⟨[.ref a], []⟩ [.ref a] [.ref a] _ _ rfl hr e0 (bind s (.ref a)) (.cons rfl .nil) (hsp H hS)) fun r z hz => ?_
    cases r with
    | error e => exact False.elim hz
    | ok fl =>
      cases fl with
      | next => exact False.elim hz
      | brk => exact False.elim hz
      | cont => exact False.elim hz
      | ret u =>
        obtain ⟨v, H', os, bare, un, hok', ru, q⟩ := hz
        obtain rfl : v = .bl true := q
        obtain rfl : u = Value.bool true := ru
        refine ⟨rfl, OldK.of_keep fun b o e => ?_, os, bare⟩
        cases q : H b with
        | none => exact un.keep b o e q (fun z => absurd (show b ∈ ([] : List Addr) from z) (by simp)) (by simp)
        | some u =>
          obtain ⟨_, ob, xs, rfl⟩ := only b u q
          have e1 := (hok b _ q).1
          have e2 := (hok' b _ (un.frzs b ob _ q)).1
          rw [e] at e1
          cases e1
          exact e2
  have ln : (ns.map V.int).length ≤ sizeLine := by rw [List.length_map]; exact hl
  cases hk : K.lookup a with
  | some o =>
    have e := KX a o hk
    rw [ha] at e
    cases e
    exact main (fun _ => none) (fun b u z => by cases (show (none : Option HO) = some u from z)) (fun z => absurd rfl z) (.inr ⟨_, us.toArray, _, hk, rfl, rfl, rfl, by rw [List.size_toArray, hi.length]; exact hl, by simpa using rv⟩) fun b u z => by cases (show (none : Option HO) = some u from z)
  | none =>
    refine main (fun b => if b = a then some (.frz { cls := .type "list", data := .seq us.toArray } (.lst (ns.map V.int))) else none) (fun b u z => ?_) (fun _ => hk) (.inl (.inr ⟨_, if_pos rfl⟩)) fun b u z => ?_
    · by_cases c : b = a
      · exact ⟨c, _, _, (Option.some.inj ((if_pos c).symm.trans z)).symm⟩
      · cases (if_neg c).symm.trans z
    · by_cases c : b = a
      · cases (if_pos c).symm.trans z
        subst c
        exact ⟨ha, ln, us, _, rv, ha⟩
      · cases (if_neg c).symm.trans z
/-- the case hc of k_head -/
theorem walk_g {l : PySem.W.OpenLaw} {n k : Nat} {q : Program} {loose : List Str} {XP : (Str → Option Value) → Heap → Prop} {YP : World → Heap → Prop} {d : DefRec} {K : Params → PySem.W.Frag} {sp : World → Sp} {x : Str} (hn : l.most = some n) (hn2 : n ≤ sizeLine) (hdf : d.params.defaults = []) (hr : Room k callerA)
    (hY : ∀ (w : World) (h : Heap), YP w h → (K w.params).In h)
    (F : ∀ (w : World) (mg : Str → Option Value) (fa : Addr) (h : Heap), (K w.params).In h → h.Ns mainGlobals mg → mg d.name = some (.ref fa) →
      ∃ fd : FuncData, (∀ (s : Shared) (u : Value), BindsTo s fd ⟨[u], []⟩ [(x, u)]) ∧ ∀ base : Heap, (K w.params).In base → base.Ns mainGlobals mg → FnG l.prog w (K w.params) mg base k fa fd [x] (sp w))
    (hsp : ∀ (w : World) (H : Hp) (a : Addr) (ns : List Int), ns.length ≤ n → SqL (K w.params) H a (ns.map V.int) → sp w [.ref a] H (fun v _ => v = .bl true) fun _ _ _ => False) :
    PySem.W.WalkO q loose XP YP l.row.toRowW d [] (fun f vs => PySem.call f vs) := by
  refine Att.attach_call hn hdf fun w s₀ s₁ mg mb fa o pm cd doc a vs ns G Y ho hd hcd hmg hobj hints hlen hg => ?_
  have KX := hY w _ Y
  obtain ⟨fd, hb, hF⟩ := F w mg fa _ KX G.T.g hmg
  exact call_top KX G.T.g G.T.b G.T.builtins G.T.nolimit hg hobj hints (Nat.le_trans hlen hn2) hr hF hb fun H hS => hsp w H a ns hlen hS
end Gd

/-! for i, x in enumerate(t), t a tuple -/
namespace En1
open PySem PySem.Spec PyProof.Rows L2
open Sem (wp)
open AutoSeq1 (wpAny_loadPart')
theorem meets_new (l : Addr) (us : Array Value) (n : Nat) (dct : Option Addr) (sl : Array (Option Value)) :
    Meets (Builtin.«enumerate.__new__» ⟨[.type "enumerate", .ref l], []⟩) (fun _ R s => s.heap.get? l = some { cls := .type "tuple", dict := dct, data := .seq us n, slots := sl } ∧
      R (.ok (.ret (.ref (s.heap.push { cls := .type "tuple_iterator", data := .fields #[.ref l, .int 0 0] }).objs.size)))
        { s with heap := (s.heap.push { cls := .type "tuple_iterator", data := .fields #[.ref l, .int 0 0] }).push { cls := .type "enumerate", data := .fields #[.none, .bool false, .ref s.heap.objs.size, rawInt 0, .none, .none] } }) :=
  .of_wp fun prog w A R s h => by
    obtain ⟨hp, g, d, tk, os⟩ := s
    obtain ⟨hl, h⟩ := h
    have hsub := sub_enumerate
    have hL : Heap.IsTuple (Shared.heap ⟨hp, g, d, tk, os⟩) l us := ⟨_, hl, rfl, n, rfl⟩
    wp_walk using wpAny_loadPart' hl
    refine wpAny_stack_any fun st => wpAny_pure ?_
    split
    · rename_i c _ _ _ _ _
      cases (c == Value.type "enumerate")
      · wp_walk using wpAny_loadPart' hl, wpAny_pyIter_tuple hL
        exact ⟨_, rfl, h⟩
      · wp_walk using wpAny_loadPart' hl, wpAny_pyIter_tuple hL
        exact ⟨_, rfl, h⟩
    · wp_walk using wpAny_loadPart' hl, wpAny_pyIter_tuple hL
      exact ⟨_, rfl, h⟩
section
variable {prog : Program} {w : World} {A : Around} {E : Value → Shared → Prop} {s : Shared}
theorem call_enum {l : Addr} {us : Array Value} {Q : Value → Shared → Prop} (hL : s.heap.IsTuple l us)
    (h : ∀ h', IsEnum h' (s.heap.objs.size + 1) s.heap.objs.size 0 .none → h'.IsTupleIter s.heap.objs.size l 0 → (∀ b o, s.heap.get? b = some o → h'.get? b = some o) → Q (.ref (s.heap.objs.size + 1)) { s with heap := h' }) :
    wpAny (model prog w) A (call (.type "enumerate") [.ref l]) Q E s := by
  obtain ⟨⟨c, dct, dt, sl⟩, hl, hc, n, hd⟩ := hL
  obtain rfl : c = .type "tuple" := hc
  obtain rfl : dt = .seq us n := hd
  refine callType_new PySem.F.called_enumerate (by decide) (PySem.F.typeCall_enumerate_1 _) (PySem.F.newCall_enumerate_1 _) (fun obj => PySem.F.args_object_init_2 obj _) PySem.F.entry_enumerate_new (meets_new l us n dct sl) ⟨hl, ?_⟩
  have hz : (s.heap.push { cls := .type "tuple_iterator", data := .fields #[.ref l, .int 0 0] }).objs.size = s.heap.objs.size + 1 := Heap.size_push ..
  show _ ∧ _
  rw [hz]
  have he : IsEnum ((s.heap.push { cls := .type "tuple_iterator", data := .fields #[.ref l, .int 0 0] }).push { cls := .type "enumerate", data := .fields #[.none, .bool false, .ref s.heap.objs.size, rawInt 0, .none, .none] }) (s.heap.objs.size + 1) s.heap.objs.size 0 .none := by
    have q := Heap.get?_push_size (s.heap.push { cls := .type "tuple_iterator", data := .fields #[.ref l, .int 0 0] }) (o := { cls := .type "enumerate", data := .fields #[.none, .bool false, .ref s.heap.objs.size, rawInt 0, .none, .none] }) rfl
    rw [hz] at q
    exact q
  exact ⟨⟨_, he, rfl⟩, h _ he ⟨_, Heap.get?_push_of_some _ (Heap.get?_push_size _ rfl), rfl, rfl⟩ fun b o x => Heap.get?_push_of_some _ (Heap.get?_push_of_some _ x)⟩
end
/-- the turns: a new pair of the number and the item -/
def Itn (K : PySem.W.Frag) (a : Addr) : It :=
  ⟨fun i H => ∃ (xs : List V) (x : V), SqT K H a xs ∧ xs[i]? = some x, fun i H v H' => ∃ T x, v = .ref T ∧ H T = none ∧ H' = upd H T (.tup [.int (i : Nat), x]) ∧ ∀ xs, SqT K H a xs → xs[i]? = some x, fun i H => ∃ xs : List V, SqT K H a xs ∧ xs.length ≤ i⟩
theorem turn_enumT {P : Program} {w : World} {K : PySem.W.Frag} {elts : List Expr} {kk : Nat} {tpos : Pos} (a e it : Addr) :
    Turn P w K (.Tuple elts kk tpos) (Itn K a) [e, it] e (fun i h => (∃ old, IsEnum h e it ((i : Nat) : Int) old) ∧ h.IsTupleIter it a i ∧ e ≠ it) where
  mem := by simp
  obj := fun i h st b hb => by
    obtain ⟨⟨old, he⟩, ⟨o, ho, hc, hd⟩, _⟩ := st
    rcases (show b = e ∨ b = it by simpa using hb) with rfl | rfl
    · exact ⟨_, he, fun v q => nomatch q⟩
    · exact ⟨o, ho, fun v q => by rw [hd] at q; cases q⟩
  keep := fun i h h' st k => let ⟨⟨old, he⟩, hi, hne⟩ := st; ⟨⟨old, k e (by simp) _ he⟩, hi.at fun o q => k it (by simp) o q, hne⟩
  item := by
    intro X hP hw hK hc i pins s σ H E I hf st hg
    subst hP hw hK
    obtain ⟨⟨old, he⟩, hit, hne⟩ := st
    obtain ⟨xs, x, hq, hx⟩ := hg
    obtain ⟨its, rv, p, hz⟩ := I.tuple hq
    obtain ⟨u, hu, ru⟩ := rv.get hx
    have hel : e < s.heap.objs.size := Heap.lt_size he
    have hil : it < s.heap.objs.size := by obtain ⟨_, q, _⟩ := hit; exact Heap.lt_size q
    have tp : s.heap.IsTuple a its.toArray := p
    obtain ⟨oa, ha, hca, _⟩ := tp
    have nea : e ≠ a := fun z => by
      rw [← z, he] at ha
      cases ha
      exact absurd (Value.type.inj hca) (by decide)
    have nia : a ≠ it := fun z => by
      obtain ⟨oi, hi, hci, _⟩ := hit
      rw [← z, ha] at hi
      cases hi
      rw [hca] at hci
      exact absurd (Value.type.inj hci) (by decide)
    have lt : i < its.toArray.size := by simpa using (List.getElem?_eq_some_iff.mp hu).1
    refine wpAny_pyNext_enum_itemD (Draws.tuple (A := X.A.in1) (I.ok.hd hc) it a nia its.toArray) he ⟨hit, p⟩ lt hne (by simp [hne, nea]) fun y h' tk hy ho hit' hT hsz hk => ?_
    have hy' : its[i]? = some y := by simpa using hy
    rw [hu] at hy'
    obtain rfl := Option.some.inj hy'
    refine ⟨_, rfl, wpAny_letOwnedTupleGo_enum (s := { s with heap := h', toks := tk + 1 }) ho fun h'' he' sb => ?_⟩
    have hT2 : h''.get? s.heap.objs.size = some { cls := .type "tuple", data := .seq #[.int i tk, u] } := (sb.2 _ (Nat.ne_of_gt hel)).trans hT
    have new : ObjOk X.prog X.w (upd H s.heap.objs.size (.tup [.int (i : Nat), x])) h'' s.heap.objs.size (.tup [.int (i : Nat), x]) := ⟨by show 2 ≤ sizeLine; decide, [.int i tk, u], .cons ⟨_, rfl⟩ (.cons ru .nil), ⟨_, hT2, rfl, _, rfl⟩⟩
    have I1 : Inv X pins σ (upd H s.heap.objs.size (.tup [.int (i : Nat), x])) { s with heap := h'', toks := tk + 1 } :=
      I.turnedNew (ch := [e, it]) (fun b ob hb q => (sb.2 b (fun z => hb (by simp [z]))).trans (hk b ob (fun z => hb (by simp [z])) (fun z => hb (by simp [z])) q)) hf (Nat.le_refl _) new
    refine ⟨.ref s.heap.objs.size, _, I1, rfl, ⟨_, x, rfl, I.hok.fresh (Nat.le_refl _), rfl, fun ys hy => by rw [I.tuple_inj hy hq]; exact hx⟩, ⟨⟨u, ?_⟩, hit'.1.at fun o q => (sb.2 it (Ne.symm hne)).trans q, hne⟩, fun b hb => ?_⟩
    · rw [show ((i + 1 : Nat) : Int) = (i : Int) + 1 by omega]
      exact he'
    · have hb' : b < s.heap.objs.size := by
        rcases (show b = e ∨ b = it by simpa using hb) with rfl | rfl
        · exact hel
        · exact hil
      rw [upd_ne (Nat.ne_of_lt hb')]
      exact (hf b hb).1
  done := by
    intro X hP hw hK hc i pins s σ H E I hf st hg
    subst hP hw hK
    obtain ⟨⟨old, he⟩, hit, hne⟩ := st
    obtain ⟨xs, hq, hx⟩ := hg
    obtain ⟨its, rv, p, hz⟩ := I.tuple hq
    obtain ⟨f0, f1, f2, f3, f4, f5⟩ := hf it (by simp)
    have hl := rv.length
    unfold pyNext
    have hT : s.TypeIs (.ref e) "enumerate" := ⟨_, he, rfl⟩
    refine wpAny_bind (wpAny_attempt (wpAny_callSpecial?_slot (name := Str.ofString "__next__") hT PySem.F.slot_enumerate_next (wpAny_call_entry PySem.F.slot_enumerate_next hT PySem.F.entry_enumerate_next ?_ (PySem.F.args_enumerate_next_1 _))))
    show wpAny _ _ (field (.ref e) 2 >>= _) _ _ _
    refine wpAny_bind (wpAny_field he rfl (x := .ref it) rfl ?_)
    refine wpAny_bind (wpAny_nextOf_tuple_end (I.ok.hd hc) hit p (by simp; omega) fun h' x he' hx' => ?_)
    obtain ⟨o, ho, hc'⟩ := hx'
    refine wpAny_bind (wpAny_isInstance (T := "StopIteration") (b := true) ⟨o, ho, hc'⟩ isSubtype_stop (wpAny_pure ?_))
    exact ⟨rfl, I.turned (t' := s.toks) (fun b o hb q => he' b o hb q) f0 f1 f3 f4 f5⟩
  self := fun A i s Q E st h => let ⟨⟨_, he⟩, _⟩ := st; wpAny_pyIter_enum he h
def iEnumT (K : PySem.W.Frag) (ta : TA) : TI := fun σ H R => ta σ H fun vs H1 => ∃ a xs, vs = [.ref a] ∧ SqT K H1 a xs ∧ R (Itn K a) H1
theorem pi_enumT {X : Cx} {e : Expr} {ta : TA} {p pos tpos : Pos} {elts : List Expr} {kk : Nat} (hg : Gl X "enumerate") (hm : X.mg "enumerate" = none) (ha : PA X [e] ta) (hs : starEach [e] X.env = [(false, eval e X.env)] := by rfl) :
    PI X (.Tuple elts kk tpos) (.Call (.Name "enumerate" p) [e] [] pos) (iEnumT X.K ta) := by
  refine ⟨fun pins s σ H R I h => Call_ (ld_blt I hg hm boot_enumerate (PyProof.Rows.callWith_type1 (thn (ha.run pos pins s σ H _ I h) fun us s1 ⟨vs, H1, I1, r1, a, xs, ex, hq, q⟩ => ?_) hs rfl))⟩
  subst ex
  rw [Vals.ref1 r1]
  obtain ⟨its, rv, p', hz⟩ := I1.tuple hq
  refine call_enum p' fun h' he hit hk => wpAny_pyIter_enum he ?_
  refine ⟨s1.heap.objs.size + 1, [s1.heap.objs.size + 1, s1.heap.objs.size], _, _, H1, rfl, I1.kept (t' := s1.toks) hk, turn_enumT a (s1.heap.objs.size + 1) s1.heap.objs.size, ⟨⟨.none, he⟩, hit, Nat.succ_ne_self _⟩, fun b hb => ?_, q⟩
  have hle : s1.heap.objs.size ≤ b := by
    rcases (show b = s1.heap.objs.size + 1 ∨ b = s1.heap.objs.size by simpa using hb) with rfl | rfl
    · exact Nat.le_succ _
    · exact Nat.le_refl _
  exact I1.fpOk hle (I1.hok.fresh hle)
theorem walk_enumT {K : PySem.W.Frag} {a : Addr} {xs : List V} : Walk (Itn K a) xs.length (fun H => SqT K H a xs) (YPair (fun i => some (.int (i : Nat))) (fun i => xs[i]?)) := by
  refine ⟨fun i _ hi q => ⟨xs, xs[i], q, by simp [hi]⟩, fun _ q => ⟨xs, q, Nat.le_refl _⟩, fun i H v H' _ q y => ?_⟩
  obtain ⟨T, x, h1, h2, h3, h4⟩ := y
  exact ⟨T, .int (i : Nat), x, h1, h2, h3, rfl, h4 xs q⟩
end En1

/-! instances of an own class: x in o, len(o), bool(o), repr(o), o == y, o != y by the class's own defs -/
namespace Own1
open PySem PySem.Spec PyProof.Rows L2
section
variable {prog : Program} {w : World} {A : Around} {E : Value → Shared → Prop} {s : Shared} {K : PySem.W.Frag} {x C f : Addr} {ox : Obj} {od : Option Obj} {b tb : Value}
/-- len as it is run within a truth test -/
theorem len_code {Q : Value → Shared → Prop} (X : K.In s.heap) (I : PySem.W.InstAt s.heap x ox C od) (hs : PySem.W.findIn K (.ref C) "__len__" = some (some (.ref f))) (hf : PySem.W.isFn K (.ref f) = true)
    (h : wpAny (model prog w) A.in1 (call (.ref f) [.ref x]) (fun r z => ∃ (n : Nat) (t : Tok), r = .int n t ∧ (n : Int) < 2 ^ 62 ∧ ∀ u k, Q (.int n u) { z with toks := k }) E s) :
    codeAny (model prog w) A (.builtin "len" ⟨[.ref x], []⟩) (wants Q E) s := by
  refine codeAny_builtin entry_len ?_
  rw [Around.under_plainId plain_len _]
  unfold Builtin.«len»
  refine wpAny_bind (m := oneArg "len" _) (wpAny_pure ?_)
  refine wpAny_bind (m := callSpecial? (.ref x) (Str.ofString "__len__")) (PySem.W.special_fn X I hs (beq_iff_eq.mp hf) (wpAny_mono h (fun r z ⟨n, t, e, hn, q⟩ => ?_) fun _ _ y => y))
  subst e
  refine wpAny_bind (wpAny_holding (wpAny_pure (wpAny_bind (wpAny_letGo ?_))))
  show wpAny _ _ (if (n : Int) < 0 then _ else _) _ _ _
  rw [if_neg (by omega)]
  show wpAny _ _ (if (n : Int) ≥ 2 ^ 63 then _ else _) _ _ _
  rw [if_neg (by omega)]
  exact wpAny_bind (wpAny_mkInt (wpAny_pure (q _ _)))
/-- the truth of an instance that has a length alone -/
theorem truth_len {Q : Bool → Shared → Prop} (X : K.In s.heap) (I : PySem.W.InstAt s.heap x ox C od) (hb : PySem.W.findIn K (.ref C) "__bool__" = some none) (hs : PySem.W.findIn K (.ref C) "__len__" = some (some (.ref f))) (hf : PySem.W.isFn K (.ref f) = true)
    (h : wpAny (model prog w) A.in1 (call (.ref f) [.ref x]) (fun r z => ∃ (n : Nat) (t : Tok), r = .int n t ∧ (n : Int) < 2 ^ 62 ∧ ∀ k, Q ((n : Int) != 0) { z with toks := k }) E s) : wpAny (model prog w) A (truthy (.ref x)) Q E s := by
  unfold truthy
  refine wpAny_bind (m := callSpecial? (.ref x) (Str.ofString "__bool__")) (wpAny_bind (wpAny_bind (I.type.here ((PySem.W.looks_findIn X hb).here (wpAny_pure ?_)))))
  refine wpAny_bind (wpAny_bind (I.type.here ((PySem.W.looks_findIn X hs).here ?_)))
  show wpAny _ _ (if (some (Value.ref f)).isNone = true then _ else _) _ _ _
  rw [if_neg (by simp)]
  refine wpAny_bind (wpAny_runValue (len_code (Q := fun v z => wpAny (model prog w) A (match v with | .int n _ => pure (n != 0) | _ => unsupported "internal:truth.len") Q E z) X I hs hf (wpAny_mono h (fun r z ⟨n, t, e, hn, q⟩ => ⟨n, t, e, hn, fun u k => wpAny_pure (q k)⟩) fun _ _ y => y)))
/-- bool(o) -/
theorem bool_own {Q : Value → Shared → Prop} (X : K.In s.heap) (I : PySem.W.InstAt s.heap x ox C od) (hb : PySem.W.findIn K (.ref C) "__bool__" = some none) (hs : PySem.W.findIn K (.ref C) "__len__" = some (some (.ref f))) (hf : PySem.W.isFn K (.ref f) = true)
    (h : wpAny (model prog w) A.in1.in1.in1 (call (.ref f) [.ref x]) (fun r z => ∃ (n : Nat) (t : Tok), r = .int n t ∧ (n : Int) < 2 ^ 62 ∧ ∀ k, Q (.bool ((n : Int) != 0)) { z with toks := k }) E s) : wpAny (model prog w) A (call (.type "bool") [.ref x]) Q E s := by
  refine callType_codes (T := "bool") (Bi := Builtin.«object.__init__») (Q₁ := fun r z => ∃ b : Bool, r = .bool b ∧ Q r z) PySem.F.called_bool (PySem.F.typeCall_bool_1 _) PySem.F.entry_object_init ?_ ?_
  · refine codeAny_of_tree ?_
    show wpAny _ A.in1.in1 (do checkBuiltinCall "bool.__new__" ⟨[.type "bool", .ref x], []⟩; again (.builtin "bool.__new__" ⟨[.type "bool", .ref x], []⟩)) _ _ s
    refine wpAny_bind (wpAny_of_eq (PySem.F.newCall_bool_1 _) (wpAny_pure ⟨plainId_quiet (by decide +kernel) _, codeAny_builtin PySem.F.entry_bool_new ?_⟩))
    rw [Around.under_plainId (by decide +kernel) _]
    unfold Builtin.«bool.__new__»
    have f1 := PySem.F.conv_sub_bool
    refine wpAny_bind (wpAny_of_eq (a := true) (by rfl) ?_)
    refine PySem.W.KFB.if_not rfl ?_
    refine wpAny_bind (wpAny_of_eq (a := true) f1 ?_)
    refine PySem.W.KFB.if_not rfl ?_
    refine wpAny_bind (wpAny_of_eq (a := [Value.ref x]) (by rfl) ?_)
    refine wpAny_bind (truth_len X I hb hs hf (wpAny_mono h (fun r z ⟨n, t, e, hn, q⟩ => ⟨n, t, e, hn, fun k => ?_⟩) fun _ _ y => y))
    exact wpAny_pure ⟨_, rfl, q k⟩
  · rintro obj s₁ ⟨b, rfl, hq⟩
    exact ⟨PySem.typeIs_bool _ _, PySem.F.args_object_init_2 _ _, object_init_meets PySem.F.called_bool.init.lookup PySem.F.called_bool.made (by decide) prog w A.in1 _ s₁ ⟨PySem.typeIs_bool _ _, rfl, hq⟩⟩
/-- a special that is a built-in's -/
theorem bound_bltn {name : Str} {id : String} {args : List Value} {Q : Option Value → Shared → Prop} (X : K.In s.heap) (I : PySem.W.InstAt s.heap x ox C od) (hs : PySem.W.findIn K (.ref C) name = some (some (.builtin id))) (hb : ∀ self, bindSpecial (.builtin id) self = pure (.builtin id, [self]))
    (h : wpAny (model prog w) A (call (.builtin id) (.ref x :: args)) (fun v => Q (some v)) E s) : wpAny (model prog w) A (callSpecialIfBound? (.ref x) name args) Q E s := by
  simp only [callSpecialIfBound?, bindSpecialIfBound?]
  refine wpAny_holding (wpAny_bind (wpAny_bind (wpAny_bind (I.type.here ((PySem.W.looks_findIn X hs).here ?_)))))
  have fin : wpAny (model prog w) A (call (.builtin id) ([.ref x] ++ args) >>= fun v => pure (some v)) Q E s := wpAny_bind (wpAny_mono h (fun v z q => wpAny_pure q) fun _ _ q => q)
  refine wpAny_bind (wpAny_askSetting (wpAny_ite ?_))
  split
  · exact wpAny_bind ((PySem.W.Looks.of_pure (hb _)).here (wpAny_pure (by exact fin)))
  · exact wpAny_tryCatch (wpAny_bind ((PySem.W.Looks.of_pure (hb _)).here (wpAny_pure (by exact fin))))
/-- o != y where the class has == alone -/
theorem ne_own {Q : Value → Shared → Prop} (hu : A.units + 1 < cLine) (X : K.In s.heap) (I : PySem.W.InstAt s.heap x ox C od) (hb : PySem.W.Looks (model prog w) s.heap (typeOf b) tb) (hn : PySem.W.notFirst K C tb = true)
    (hne : PySem.W.findIn K (.ref C) "__ne__" = some (some (.builtin "object.__ne__"))) (hs : PySem.W.findIn K (.ref C) "__eq__" = some (some (.ref f))) (hf : PySem.W.isFn K (.ref f) = true) (hm : PySem.W.mroIn K C (.type "object") = some true)
    (h : wpAny (model prog w) A.in1 (call (.ref f) [.ref x, b]) (fun r z => ∃ k : Bool, r = .bool k ∧ ∀ t, Q (.bool (!k)) { z with toks := t }) E s) : wpAny (model prog w) A (richCompare .NotEq (.ref x) b) Q E s := by
  have one : wpAny (model prog w) A (tryCompare (.ref x) "__ne__" b) (fun r z => ∃ v, r = some v ∧ Q v z) E s := by
    unfold tryCompare
    refine wpAny_bind (bound_bltn X I hne PySem.F.slot_object_ne.bind (wpAny_call (codeAny_call_builtin PySem.F.slot_object_ne.plain PySem.F.cmpEntry_ne (PySem.W.check_slot (i := "object.__ne__") (owner := "object") (n := "__ne__") (by decide +kernel) (by decide +kernel) (I.type.andThen (PySem.W.looks_mroIn X hm)) (PySem.F.cmpArgs_ne _ _) ?_))))
    unfold Builtin.«object.__ne__»
    refine wpAny_bind (m := slotArgs "__ne__" 1 _) (wpAny_pure ?_)
    refine wpAny_bind (m := cRoomFor _ _) (wpAny_cRoomFor hu ?_)
    refine wpAny_bind (m := callSpecialIfBound? (.ref x) (Str.ofString "__eq__") _) (PySem.W.ifBound_K X I hs hf (wpAny_mono h (fun r z ⟨k, e, q⟩ => ?_) fun _ _ y => y))
    subst e
    refine wpAny_bind (wpAny_truthy_bool (wpAny_pure (wpAny_pure ⟨_, rfl, q z.toks⟩)))
  unfold richCompare
  simp only [oneThing_ref]
  refine wpAny_holding (wpAny_bind (wpAny_cRoomFor (Nat.lt_of_succ_lt hu) ?_))
  rw [cmpInfo_NotEq]
  dsimp only
  refine wpAny_bind (I.type.here (wpAny_bind (hb.here ?_)))
  split
  · rename_i q
    have e : PySem.W.subIn K tb (.ref C) = some false := by
      rcases Bool.or_eq_true_iff.mp hn with e | e
      · rw [beq_iff_eq.mp e] at q; simp at q
      · exact beq_iff_eq.mp e
    refine wpAny_bind ((PySem.W.looks_subIn X e).here ?_)
    simp only [Bool.false_eq_true, if_false]
    exact wpAny_bind (wpAny_mono one (fun r z ⟨v, e, q⟩ => by subst e; exact wpAny_pure q) fun _ _ e => e)
  · refine wpAny_bind (wpAny_pure ?_)
    simp only [Bool.false_eq_true, if_false]
    exact wpAny_bind (wpAny_mono one (fun r z ⟨v, e, q⟩ => by subst e; exact wpAny_pure q) fun _ _ e => e)
end
/-! ### as rules -/
/-- what a class with own dunders has -/
structure Dun (K : PySem.W.Frag) (C : Addr) (m : Str) (f : Addr) : Prop where
  at_ : PySem.W.findIn K (.ref C) m = some (some (.ref f))
  fn : PySem.W.isFn K (.ref f) = true
section
variable {X : Cx} {pins : List (Addr × Obj)} {σ : L2.St} {H : Hp} {s : Shared} {CX : CXT} {n : Nat} {sp : Sp} {E : XK} {C f : Addr}
theorem ins_at {a dx : Addr} {fs : List (Str × V)} (I : Inv X pins σ H s) (h : H a = some (.ins C dx fs)) : ∃ ox od, PySem.W.InstAt s.heap a ox C od := by
  obtain ⟨mA, O, _⟩ := ins_get I.hok h
  obtain ⟨od, J, _⟩ := O.look
  exact ⟨_, _, J⟩
/-- x in o, x not in o -/
def rInO (C : Addr) (sp : Sp) (E : XK) (neg : Bool) : R2 := fun x y H Q => ∃ a dx fs, y = .ref a ∧ H a = some (.ins C dx fs) ∧ sp [y, x] H (fun z H' => ∃ b, z = .bl b ∧ Q (.bl (if neg then !b else b)) H') E
theorem op_inO (d : Dun X.K C "__contains__" f) (F : FnR X.prog X.w X.K X.mg X.base CX n f sp) (hr : Room n X.A) (hx : Passes CX X E) : OpR X (compareOp .In) (rInO C sp E false) := by
  intro pins s σ H x y v u Q I rx ry h
  obtain ⟨a, dx, fs, rfl, ha, q⟩ := h
  cases (show u = Value.ref a from ry)
  obtain ⟨ox, od, J⟩ := ins_at I ha
  obtain ⟨m, hF⟩ := I.fr
  refine PySem.W.in_K hF I.ok.mod.kin J d.at_ d.fn (wpAny_mono (wpAny_call (run_fnR (us := [.ref a, v]) (vs := [.ref a, x]) F hr hx I (.cons rfl (.cons rx .nil)) q)) (fun r z ⟨y, H', I', ry, b, ey, qy⟩ => ?_) fun _ _ y => y)
  subst ey
  cases (show r = Value.bool b from ry)
  exact wpAny_truthy_bool ⟨.bl b, H', I', rfl, qy⟩
theorem op_notInO (d : Dun X.K C "__contains__" f) (F : FnR X.prog X.w X.K X.mg X.base CX n f sp) (hr : Room n X.A) (hx : Passes CX X E) : OpR X (compareOp .NotIn) (rInO C sp E true) := by
  intro pins s σ H x y v u Q I rx ry h
  obtain ⟨a, dx, fs, rfl, ha, q⟩ := h
  cases (show u = Value.ref a from ry)
  obtain ⟨ox, od, J⟩ := ins_at I ha
  obtain ⟨m, hF⟩ := I.fr
  refine PySem.W.notIn_K hF I.ok.mod.kin J d.at_ d.fn (wpAny_mono (wpAny_call (run_fnR (us := [.ref a, v]) (vs := [.ref a, x]) F hr hx I (.cons rfl (.cons rx .nil)) q)) (fun r z ⟨y, H', I', ry, b, ey, qy⟩ => ?_) fun _ _ y => y)
  subst ey
  cases (show r = Value.bool b from ry)
  exact wpAny_truthy_bool ⟨.bl (!b), H', I', rfl, qy⟩
/-- the callee runs somewhat deeper -/
theorem run_in {A : Around} {Q : VK} {us : List Value} {vs : List V} (F : FnR X.prog X.w X.K X.mg X.base CX n f sp) (hr : Room n A) (e0 : Env0 X.prog X.w X.K X.mg X.base A X.stack s H) (hx : Passes CX X E) (I : Inv X pins σ H s) (r : Vals vs us) (h : sp vs H Q E) :
    wpAny (model X.prog X.w) A (call (.ref f) us) (EP X pins σ Q) X.xe s := wpAny_call (SlX.run_at F hr e0 hx I r h)
/-- len(o) -/
def rLenO (C : Addr) (sp : Sp) (E : XK) : List V → Hp → VK → Prop := fun xs H Q => ∃ a dx fs, xs = [V.ref a] ∧ H a = some (.ins C dx fs) ∧ sp [.ref a] H (fun z H' => ∃ k : Nat, z = .int k ∧ (k : Int) < 2 ^ 62 ∧ Q (.int k) H') E
theorem call_lenO (d : Dun X.K C "__len__" f) (F : FnR X.prog X.w X.K X.mg X.base CX n f sp) (hr : Room (n + 1) X.A) (hx : Passes CX X E) : CallR X (.builtin "len") (rLenO C sp E) := by
  intro pins s σ H xs us Q I r h
  obtain ⟨a, dx, fs, rfl, ha, q⟩ := h
  rw [Vals.ref1 r]
  obtain ⟨ox, od, J⟩ := ins_at I ha
  obtain ⟨m, hF⟩ := I.fr
  refine PySem.W.len_K hF I.ok.mod.kin J d.at_ d.fn (wpAny_mono (run_in (us := [.ref a]) (vs := [.ref a]) F hr.in1 I.env0.in1 hx I (.cons rfl .nil) q) (fun r z ⟨y, H', I', ry, k, ey, hk, qy⟩ => ?_) fun _ _ y => y)
  subst ey
  obtain ⟨t, e⟩ := (show ∃ t, r = Value.int k t from ry)
  subst e
  exact ⟨⟨by omega, by omega⟩, .int k, H', I'.tok _, ⟨_, rfl⟩, qy⟩
/-- repr(o) -/
def rReprO (C : Addr) (sp : Sp) (E : XK) : List V → Hp → VK → Prop := fun xs H Q => ∃ a dx fs, xs = [V.ref a] ∧ H a = some (.ins C dx fs) ∧ sp [.ref a] H (fun z H' => ∃ y, z = .str y ∧ Q (.str y) H') E
theorem call_reprO (d : Dun X.K C "__repr__" f) (F : FnR X.prog X.w X.K X.mg X.base CX n f sp) (hr : Room (n + 1) X.A) (hx : Passes CX X E) : CallR X (.builtin "repr") (rReprO C sp E) := by
  intro pins s σ H xs us Q I r h
  obtain ⟨a, dx, fs, rfl, ha, q⟩ := h
  rw [Vals.ref1 r]
  obtain ⟨ox, od, J⟩ := ins_at I ha
  obtain ⟨m, hF⟩ := I.fr
  refine PySem.W.repr_K hr.in1.units0 hF I.ok.mod.kin J d.at_ d.fn (wpAny_mono (run_in (us := [.ref a]) (vs := [.ref a]) F hr.in1 I.env0.in1 hx I (.cons rfl .nil) q) (fun r z ⟨y, H', I', ry, k, ey, qy⟩ => ?_) fun _ _ y => y)
  subst ey
  obtain ⟨t, e⟩ := (show ∃ t, r = Value.str k t from ry)
  subst e
  exact ⟨.str k, H', I', ⟨t, rfl⟩, qy⟩
/-- bool(o), by its length -/
def rBoolO (C : Addr) (sp : Sp) (E : XK) : List V → Hp → VK → Prop := fun xs H Q => ∃ a dx fs, xs = [V.ref a] ∧ H a = some (.ins C dx fs) ∧ sp [.ref a] H (fun z H' => ∃ k : Nat, z = .int k ∧ (k : Int) < 2 ^ 62 ∧ Q (.bl ((k : Int) != 0)) H') E
theorem call_boolO (nb : PySem.W.findIn X.K (.ref C) "__bool__" = some none) (d : Dun X.K C "__len__" f) (F : FnR X.prog X.w X.K X.mg X.base CX n f sp) (hr : Room (n + 3) X.A) (hx : Passes CX X E) : CallR X (.type "bool") (rBoolO C sp E) := by
  intro pins s σ H xs us Q I r h
  obtain ⟨a, dx, fs, rfl, ha, q⟩ := h
  rw [Vals.ref1 r]
  obtain ⟨ox, od, J⟩ := ins_at I ha
  have hr3 : Room n X.A.in1.in1.in1 := ((show Room (n + 2) X.A.in1 from Room.in1 hr).in1).in1
  refine bool_own I.kIn J nb d.at_ d.fn (wpAny_mono (run_in (us := [.ref a]) (vs := [.ref a]) F hr3 I.env0.in1.in1.in1 hx I (.cons rfl .nil) q) (fun r z ⟨y, H', I', ry, k, ey, hk, qy⟩ => ?_) fun _ _ y => y)
  subst ey
  obtain ⟨t, e⟩ := (show ∃ t, r = Value.int k t from ry)
  subst e
  exact ⟨k, t, rfl, hk, fun u => ⟨.bl ((k : Int) != 0), H', I'.tok _, rfl, qy⟩⟩
/-- o == y, y anything of a known type -/
def rEqO (K : PySem.W.Frag) (C : Addr) (sp : Sp) (E : XK) : R2 := fun x y H Q => ∃ a dx fs t, x = .ref a ∧ H a = some (.ins C dx fs) ∧ TyX K H y t ∧ PySem.W.notFirst K C t = true ∧ sp [x, y] H Q E
theorem op_eqO (d : Dun X.K C "__eq__" f) (F : FnR X.prog X.w X.K X.mg X.base CX n f sp) (hr : Room n X.A) (hx : Passes CX X E) : OpR X (compareOp .Eq) (rEqO X.K C sp E) := by
  intro pins s σ H x y v u Q I rx ry h
  obtain ⟨a, dx, fs, t, rfl, ha, ty, nf, q⟩ := h
  cases (show v = Value.ref a from rx)
  obtain ⟨ox, od, J⟩ := ins_at I ha
  obtain ⟨P, Z, p, _⟩ := kit_of I ry ty
  obtain ⟨m, hF⟩ := I.fr
  show wpAny (model X.prog X.w) X.A (richCompare .Eq (.ref a) u) (EP X pins σ Q) X.xe s
  refine PySem.W.cmp_K (op := .Eq) (tb := t) hr.units0 hF I.ok.mod.kin J (Z.ty _ _ I.kIn p) nf d.at_ d.fn ?_
  refine wpAny_mono (wpAny_call (run_fnR (us := [.ref a, u]) (vs := [.ref a, y]) F hr hx I (.cons rfl (.cons ry .nil)) q)) (fun r z ⟨y', H', I', rz, qz⟩ => ?_) fun _ _ x => x
  exact SlX.cmpback rz ⟨y', H', I', rz, qz⟩
/-- o != y -/
def rNeO (K : PySem.W.Frag) (C : Addr) (sp : Sp) (E : XK) : R2 := fun x y H Q => ∃ a dx fs t, x = .ref a ∧ H a = some (.ins C dx fs) ∧ TyX K H y t ∧ PySem.W.notFirst K C t = true ∧ sp [x, y] H (fun z H' => ∃ b, z = .bl b ∧ Q (.bl (!b)) H') E
theorem op_neO (ne : PySem.W.findIn X.K (.ref C) "__ne__" = some (some (.builtin "object.__ne__"))) (hm : PySem.W.mroIn X.K C (.type "object") = some true) (d : Dun X.K C "__eq__" f) (F : FnR X.prog X.w X.K X.mg X.base CX n f sp) (hr : Room (n + 1) X.A) (hx : Passes CX X E) :
    OpR X (compareOp .NotEq) (rNeO X.K C sp E) := by
  intro pins s σ H x y v u Q I rx ry h
  obtain ⟨a, dx, fs, t, rfl, ha, ty, nf, q⟩ := h
  cases (show v = Value.ref a from rx)
  obtain ⟨ox, od, J⟩ := ins_at I ha
  obtain ⟨P, Z, p, _⟩ := kit_of I ry ty
  show wpAny (model X.prog X.w) X.A (richCompare .NotEq (.ref a) u) (EP X pins σ Q) X.xe s
  refine ne_own hr.in1.units0 I.kIn J (Z.ty _ _ I.kIn p) nf ne d.at_ d.fn hm ?_
  refine wpAny_mono (run_in (us := [.ref a, u]) (vs := [.ref a, y]) F hr.in1 I.env0.in1 hx I (.cons rfl (.cons ry .nil)) q) (fun r z ⟨y', H', I', rz, b, eb, qz⟩ => ?_) fun _ _ x => x
  subst eb
  cases (show r = Value.bool b from rz)
  exact ⟨b, rfl, fun t => ⟨.bl (!b), H', I'.tok _, rfl, qz⟩⟩
end
end Own1

/-! C(), C(*xs) of a class whose __init__ takes a star; C.m(e), C.m(k = e) of a static method -/
namespace Mk1
open PySem PySem.Spec PyProof.Rows L2 ClX StX
section
variable {X : Cx} {CX : CXT} {k : Nat} {f C : Addr} {sp : Sp} {E : XK} {x : Str} {e : Expr} {te : TE} {p pos q : Pos}
/-- C() -/
theorem pe_makeR0 (M : Mk X.K C f) (F : FnR X.prog X.w X.K X.mg X.base CX k f sp) (hr : Room (k + 1) X.A) (hg : Gl X x) (hm : X.mg x = some (.ref C)) (hx : Passes CX X E) (hdb : (x == ("__debug__" : Str)) = false := by decide) : PE X (.Call (.Name x p) [] [] pos) (tMakeR C sp E tNil) :=
  ⟨fun pins s σ H Q I h => wpAny_Call_Name_kw (ld_glob I hg hm (PySem.W.callWith_K0 I.kIn M.kp (run_makeR (us := []) (vs := []) M F hr hx I .nil h)) hdb)⟩
/-- C(*xs) -/
def tMakeS (K : PySem.W.Frag) (C : Addr) (sp : Sp) (E : XK) (te : TE) : TE := fun σ H Q => te σ H fun y H1 => ∃ a xs, y = V.ref a ∧ (SqT K H1 a xs ∨ SqL K H1 a xs) ∧ ∀ x dx, H1 x = Option.none → H1 dx = Option.none → dx ≠ x →
  sp (V.ref x :: xs) (upd (upd H1 dx (.own x)) x (.ins C dx [])) (fun v H2 => v = .non ∧ Q (.ref x) H2) E
theorem pe_makeS (M : Mk X.K C f) (F : FnR X.prog X.w X.K X.mg X.base CX k f sp) (hr : Room (k + 1) X.A) (hg : Gl X x) (hm : X.mg x = some (.ref C)) (hx : Passes CX X E) (he : PE X e te) (hdb : (x == ("__debug__" : Str)) = false := by decide)
    (hst : starEach [.Starred e q] X.env = [(true, eval e X.env)] := by rfl) : PE X (.Call (.Name x p) [.Starred e q] [] pos) (tMakeS X.K C sp E te) := by
  refine ⟨fun pins s σ H Q I h => wpAny_Call_Name_kw (ld_glob I hg hm ?_ hdb)⟩
  refine PySem.W.callWith_S (h₀ := X.base) I.ok.mod.kin M.kp (thn (he.run pins s σ H _ I h) fun v s1 ⟨y, H1, I1, ry, a, xs, ey, hxs, w⟩ => ?_) hst
  subst ey
  obtain rfl : v = Value.ref a := ry
  exact star_any I1 hxs fun us s2 I2 rv => ⟨I2.kIn, run_makeR M F hr hx I2 rv w⟩
end
/-- C.m is a static method: its record at p, its def at g -/
structure SMet (K : PySem.W.Frag) (C : Addr) (mc : Value) (m : Str) (p g : Addr) : Prop where
  at_ : PySem.W.findCls K (.ref C) mc m = some (.get (.builtin "staticmethod.__get__") (.ref p) .none (.ref C))
  rc : ∃ rest, PySem.W.recIn K p "staticmethod" = some (.ref g :: rest)
  kp : PySem.W.keepIn K (.ref g) = true
section
variable {X : Cx} {pins : List (Addr × Obj)} {σ : L2.St} {H : Hp} {s : Shared} {C p g : Addr} {mc : Value} {m : Str} {A : Around} {E : Value → Shared → Prop}
theorem get_static {pl : Sem Bool} {Q : Value × List Value → Shared → Prop} (I : Inv X pins σ H s) (r : CRead X.K C mc) (k : SMet X.K C mc m p g) (h : ∀ z, Inv X pins σ H z → Q (.ref g, []) z) : wpAny (model X.prog X.w) A (getMethod (.ref C) m pl) Q E s := by
  obtain ⟨rest, hp⟩ := k.rc
  refine PySem.W.method_cls I.kIn r.ga (PySem.W.cls_bind I.kIn r.rd k.at_ (wpAny_call (PySem.W.sm_get (s := { s with toks := s.toks + 1 }) I.kIn hp (PySem.W.handed_on rfl ?_))))
  exact h _ (I.tok _)
end
section
variable {X : Cx} {CX : CXT} {k n : Nat} {C p g : Addr} {mc : Value} {sp : Sp} {E : XK} {o e : Expr} {es : List Expr} {m : Str} {pos apos : Pos} {ta : TE} {t tk : TA} {pl : Sem Bool} {fd : FuncData} {ps ks : List Str} {kws : List Keyword} {gu : List Value → List Value → List Value} {gV : List V → List V → List V}
def tSMeth (C : Addr) (sp : Sp) (E : XK) (ta : TE) (t : TA) : TE := fun σ H Q => ta σ H fun x H1 => x = .ref C ∧ t σ H1 fun vs H2 => sp vs H2 Q E
/-- C.m(e, ..) -/
theorem pe_smeth (he : PE X o ta) (r : CRead X.K C mc) (c : SMet X.K C mc m p g) (F : FnR X.prog X.w X.K X.mg X.base CX k g sp) (hr : Room k X.A) (hx : Passes CX X E) (ha : PA X (e :: es) t)
    (hst : starEach (e :: es) X.env = (false, eval e X.env) :: starEach es X.env := by rfl) (hpl : (backTo pos (starEach es X.env)).any (·.1) = false := by rfl)
    (ht : eval (.Call (.Attribute o m apos) (e :: es) [] pos) X.env = (do
      let ov ← eval o X.env
      standAt apos.atName
      let (f, first) ← holding [ov] (getMethod ov m pl)
      callWith pos f first (backTo pos (starEach (e :: es) X.env)) (backToKw pos (keywordEach [] X.env))) := by rfl) : PE X (.Call (.Attribute o m apos) (e :: es) [] pos) (tSMeth C sp E ta t) := by
  refine ⟨fun pins s σ H Q I h => PySem.W.methodCall_KW (pl := pl) (thn (he.run pins s σ H _ I h) fun u s1 ⟨x, H1, I1, rx, ex, w⟩ => ?_) ht⟩
  subst ex
  obtain rfl : u = Value.ref C := rx
  refine get_static I1 r c fun s2 I2 => ?_
  exact PySem.W.callWith_K (h₀ := X.base) I2.ok.mod.kin c.kp (thn (ha.run pos pins s2 σ H1 _ I2 w) fun us s3 ⟨vs, H2, I3, rv, w2⟩ => ⟨I3.kIn, wpAny_call (run_fnR F hr hx I3 rv w2)⟩) hst hpl
/-- C.m(k = e, ..) -/
def tSMethK (C : Addr) (n : Nat) (sp : Sp) (gV : List V → List V → List V) (E : XK) (ta : TE) (tk : TA) : TE := fun σ H Q => ta σ H fun x H1 => x = .ref C ∧ tk σ H1 fun zs H2 => zs.length = n ∧ sp (gV [] zs) H2 Q E
theorem pe_smethK (he : PE X o ta) (r : CRead X.K C mc) (c : SMet X.K C mc m p g) (F : FnOk X.prog X.w X.K X.mg X.base CX k g fd ps sp) (hr : Room k X.A) (hb : KBn X.K fd ps 0 ks gu gV) (hx : Passes CX X E) (hkw : PK X kws tk)
    (hall : (backToKw pos (keywordEach kws X.env)).all (·.1.isSome) = true := by rfl) (hks : (backToKw pos (keywordEach kws X.env)).filterMap (·.1) = ks := by rfl)
    (hpl : ((backTo pos (starEach [] X.env)).any (·.1) || (backToKw pos (keywordEach kws X.env)).any (·.1.isNone)) = false := by rfl)
    (ht : eval (.Call (.Attribute o m apos) [] kws pos) X.env = (do
      let ov ← eval o X.env
      standAt apos.atName
      let (f, first) ← holding [ov] (getMethod ov m pl)
      callWith pos f first (backTo pos (starEach [] X.env)) (backToKw pos (keywordEach kws X.env))) := by rfl) : PE X (.Call (.Attribute o m apos) [] kws pos) (tSMethK C ks.length sp gV E ta tk) := by
  refine ⟨fun pins s σ H Q I h => PySem.W.methodCall_KW (pl := pl) (thn (he.run pins s σ H _ I h) fun u s1 ⟨x, H1, I1, rx, ex, w⟩ => ?_) ht⟩
  subst ex
  obtain rfl : u = Value.ref C := rx
  refine get_static I1 r c fun s2 I2 => ?_
  refine PySem.W.callWith_KW0 (h₀ := X.base) I2.ok.mod.kin c.kp hall (thn (hkw.run pos pins s2 σ H1 _ I2 w) fun ws s3 ⟨zs, H2, I3, rz, hz, w2⟩ => ⟨I3.kIn, ?_⟩) hpl
  rw [hks]
  have lz : ws.length = ks.length := rz.length.symm.trans hz
  refine wpAny_call (codeAny_mono (F.run X.A X.stack s3 H2 ⟨[] ++ [], ks.zip ws⟩ (gu [] ws) (gV [] zs) Q E hr I3.env0 (hb.to s3 [] ws I3.kIn rfl lz) (hb.rel .nil rz) w2) fun r z hq => ?_)
  cases r with
  | error e => exact hx pins σ H2 s3 e z I3 hq
  | ok fl =>
    cases fl with
    | ret u => exact I3.after hq
    | next => exact False.elim hq
    | brk => exact False.elim hq
    | cont => exact False.elim hq
end
end Mk1

namespace Rng
open PySem L2
theorem one_lt (c d : Nat) : decide ([c] < [d]) = decide (c < d) := by
  have : ([c] < [d]) ↔ c < d := by simp [List.cons_lt_cons_iff]
  exact decide_eq_decide.mpr this
theorem low_is (c : Nat) : low c = (!decide ([c] < [97]) && !decide ([122] < [c])) := by
  rw [one_lt, one_lt]
  unfold low
  by_cases h1 : 97 ≤ c <;> by_cases h2 : c ≤ 122 <;> simp [h1, h2, Nat.not_lt, Nat.lt_of_not_le] <;> omega
theorem dig_is (c : Nat) : dig c = (!decide ([c] < [48]) && !decide ([57] < [c])) := by
  rw [one_lt, one_lt]
  unfold dig
  by_cases h1 : 48 ≤ c <;> by_cases h2 : c ≤ 57 <;> simp [h1, h2, Nat.not_lt, Nat.lt_of_not_le] <;> omega
def spSign (g : Nat → Bool) : Sp := fun vs H Q _ => ∃ c : Nat, vs = [.str ⟨#[c]⟩] ∧ Q (.bl (g c)) H
/-- whether a value is a whole number, no truth value -/
def IntB (K : PySem.W.Frag) (H : Hp) (v : V) (b : Bool) : Prop := ∃ t b1 b2, TyX K H v t ∧ PySem.W.kitOne K t (.type "int") = some b1 ∧ PySem.W.kitOne K t (.type "bool") = some b2 ∧ b = (b1 && !b2)
theorem IntB.int {K : PySem.W.Frag} {H : Hp} (i : Int) : IntB K H (.int i) true := ⟨.type "int", true, false, .base (.int i), kit_ty (by decide +kernel), kit_ty (by decide +kernel), rfl⟩
theorem IntB.bl {K : PySem.W.Frag} {H : Hp} (b : Bool) : IntB K H (.bl b) false := ⟨.type "bool", true, true, .base (.bl b), kit_ty (by decide +kernel), kit_ty (by decide +kernel), rfl⟩
theorem IntB.non {K : PySem.W.Frag} {H : Hp} : IntB K H .non false := ⟨.type "NoneType", false, false, .base .non, kit_ty (by decide +kernel), kit_ty (by decide +kernel), rfl⟩
theorem IntB.str {K : PySem.W.Frag} {H : Hp} (z : Str) : IntB K H (.str z) false := ⟨.type "str", false, false, .base (.str z), kit_ty (by decide +kernel), kit_ty (by decide +kernel), rfl⟩
theorem IntB.lst {K : PySem.W.Frag} {H : Hp} {a : Addr} {xs : List V} (e : H a = some (.lst xs)) : IntB K H (.ref a) false := ⟨.type "list", false, false, .base (.lst e), kit_ty (by decide +kernel), kit_ty (by decide +kernel), rfl⟩
theorem IntB.dK {K : PySem.W.Frag} {H : Hp} {a : Addr} {kvs : List (Key × V)} (e : H a = some (.dK kvs)) : IntB K H (.ref a) false := ⟨.type "dict", false, false, .base (.dK e), kit_ty (by decide +kernel), kit_ty (by decide +kernel), rfl⟩
def spInteger (K : PySem.W.Frag) : Sp := fun vs H Q _ => ∃ (v : V) (b : Bool), vs = [v] ∧ IntB K H v b ∧ Q (.bl b) H
/-- whether a value is a name -/
def NameB (K : PySem.W.Frag) (H : Hp) (v : V) (b : Bool) : Prop := (∃ z : Str, v = .str z ∧ z.length ≤ 16777216 ∧ b = isName z) ∨ ∃ t, TyX K H v t ∧ PySem.W.kitOne K t (.type "str") = some false ∧ b = false
def spIsName (K : PySem.W.Frag) : Sp := fun vs H Q _ => ∃ (v : V) (b : Bool), vs = [v] ∧ NameB K H v b ∧ ∀ H', Same H H' → Q (.bl b) H'
/-- whether a value is a row -/
def RowB (K : PySem.W.Frag) (H : Hp) (v : V) (b : Bool) : Prop :=
  (∃ t, TyX K H v t ∧ PySem.W.kitOne K t (.type "tuple") = some false ∧ b = false) ∨ (∃ p xs, v = .ref p ∧ H p = some (.tup xs) ∧ xs.length ≠ 3 ∧ b = false) ∨
  ∃ p x y z b1 b2 b3, v = .ref p ∧ H p = some (.tup [x, y, z]) ∧ NameB K H x b1 ∧ (∀ H', Same H H' → IntB K H' y b2) ∧ (∀ H', Same H H' → IntB K H' z b3) ∧ b = (b1 && (b2 && b3))
def spIsRow (K : PySem.W.Frag) : Sp := fun vs H Q _ => ∃ (v : V) (b : Bool), vs = [v] ∧ RowB K H v b ∧ ∀ H', Same H H' → Q (.bl b) H'
end Rng
namespace K01
open PySem L2 Rng
abbrev sInteger : Stmt := top 6
abbrev sName : Stmt := top 7
abbrev sLetter : Stmt := top 8
abbrev sDigit : Stmt := top 9
abbrev sRow : Stmt := top 10
structure Kt (mg : Str → Option Value) : Prop where
  nIsi : mg "isinstance" = none
  nInt : mg "int" = none
  nBool : mg "bool" = none
  nStr : mg "str" = none
  nLen : mg "len" = none
  nAll : mg "all" = none
  nTuple : mg "tuple" = none
section
variable {P : Program} {w : World} {K : PySem.W.Frag} {mg : Str → Option Value} {base : Heap}
theorem scLetter : FnScope ["sign"] ["sign"] (defScope sLetter) := ⟨rfl, rfl, rfl, by decide +kernel, rfl, by decide +kernel, by decide +kernel⟩
theorem scDigit : FnScope ["sign"] ["sign"] (defScope sDigit) := ⟨rfl, rfl, rfl, by decide +kernel, rfl, by decide +kernel, by decide +kernel⟩
theorem ok_letter {f : Addr} {fd : FuncData} (F : Fun K "_is_letter" "_is_letter" sLetter f fd) : FnOk P w K mg base CX0 1 f fd ["sign"] (spSign low) := by
  refine F.ok scLetter (fun vs H Q E h => ?_) (fun cdv A outer s H vs Q E hr h => ?_)
  · obtain ⟨c, rfl, _⟩ := h
    rfl
  · obtain ⟨c, rfl, q⟩ := h
    refine ⟨_, pss_one (ps_ret (pe_chain op_le_str op_le_str pe_str (pv 0) pe_str)), ?_⟩
    refine ⟨_, rfl, _, _, rfl, rfl, _, rfl, ?_⟩
    rw [low_is] at q
    by_cases h1 : decide ([c] < [97]) = true
    · have e : (!decide ([c] < [97])) = false := by rw [h1]; rfl
      rw [e, Bool.false_and] at q
      show if (!decide ([c] < [97])) = true then _ else _
      rw [e]
      exact q
    · have e : (!decide ([c] < [97])) = true := by rw [Bool.eq_false_iff.mpr h1]; rfl
      rw [e, Bool.true_and] at q
      show if (!decide ([c] < [97])) = true then _ else _
      rw [e]
      exact ⟨_, _, rfl, rfl, q⟩
theorem ok_digit {f : Addr} {fd : FuncData} (F : Fun K "_is_digit" "_is_digit" sDigit f fd) : FnOk P w K mg base CX0 1 f fd ["sign"] (spSign dig) := by
  refine F.ok scDigit (fun vs H Q E h => ?_) (fun cdv A outer s H vs Q E hr h => ?_)
  · obtain ⟨c, rfl, _⟩ := h
    rfl
  · obtain ⟨c, rfl, q⟩ := h
    refine ⟨_, pss_one (ps_ret (pe_chain op_le_str op_le_str pe_str (pv 0) pe_str)), ?_⟩
    refine ⟨_, rfl, _, _, rfl, rfl, _, rfl, ?_⟩
    rw [dig_is] at q
    by_cases h1 : decide ([c] < [48]) = true
    · have e : (!decide ([c] < [48])) = false := by rw [h1]; rfl
      rw [e, Bool.false_and] at q
      show if (!decide ([c] < [48])) = true then _ else _
      rw [e]
      exact q
    · have e : (!decide ([c] < [48])) = true := by rw [Bool.eq_false_iff.mpr h1]; rfl
      rw [e, Bool.true_and] at q
      show if (!decide ([c] < [48])) = true then _ else _
      rw [e]
      exact ⟨_, _, rfl, rfl, q⟩
theorem scInteger : FnScope ["value"] ["value"] (defScope sInteger) := ⟨rfl, rfl, rfl, by decide +kernel, rfl, by decide +kernel, by decide +kernel⟩
theorem ok_integer {f : Addr} {fd : FuncData} (F : Fun K "is_integer" "is_integer" sInteger f fd) (T : Kt mg) : FnOk P w K mg base CX0 1 f fd ["value"] (spInteger K) := by
  refine F.ok scInteger (fun vs H Q E h => ?_) (fun cdv A outer s H vs Q E hr h => ?_)
  · obtain ⟨v, b, rfl, _⟩ := h
    rfl
  · obtain ⟨v, b, rfl, ⟨t, b1, b2, ty, k1, k2, rfl⟩, q⟩ := h
    refine ⟨_, pss_one (ps_ret (pe_and (pe_callB call_isi (by rfl) T.nIsi (by decide +kernel) (pa_cons (pv 0) (pa_cons (pe_bltn (v := .ty "int") (by rfl) T.nInt (by decide +kernel) rfl) pa_nil))) (pe_one (pe_not (pe_callB call_isi (by rfl) T.nIsi (by decide +kernel) (pa_cons (pv 0) (pa_cons (pe_bltn (v := .ty "bool") (by rfl) T.nBool (by decide +kernel) rfl) pa_nil))))))), ?_⟩
    refine ⟨v, rfl, v, _, t, _, b1, rfl, .ty "int", ty, k1, b1, rfl, ?_⟩
    cases b1 with
    | false => exact q
    | true => exact ⟨v, rfl, v, _, t, _, b2, rfl, .ty "bool", ty, k2, b2, rfl, q⟩
theorem scName : FnScope ["value", "sign"] ["value"] (defScope sName) := ⟨rfl, rfl, rfl, by decide +kernel, rfl, by decide +kernel, by decide +kernel⟩
theorem ok_name {f fL fD : Addr} {fd dL dD : FuncData} {mt : Tok} (F : Fun K "is_name" "is_name" sName f fd) (T : Kt mg) (mMax : mg "MAX_NAME" = some (.int 8 mt)) (FL : Fun K "_is_letter" "_is_letter" sLetter fL dL) (bL : Binds K dL ["sign"] []) (mL : mg "_is_letter" = some (.ref fL))
    (FD : Fun K "_is_digit" "_is_digit" sDigit fD dD) (bD : Binds K dD ["sign"] []) (mD : mg "_is_digit" = some (.ref fD)) : FnOk P w K mg base CX0 2 f fd ["value"] (spIsName K) := by
  have GL : FnOk P w K mg base CX0 1 fL dL ["sign"] (spSign low) := ok_letter FL
  have GD : FnOk P w K mg base CX0 1 fD dD ["sign"] (spSign dig) := ok_digit FD
  refine F.ok scName (fun vs H Q E h => ?_) (fun cdv A outer s H vs Q E hr h => ?_)
  · obtain ⟨v, b, rfl, _⟩ := h
    rfl
  · obtain ⟨v, b, rfl, hb, q⟩ := h
    refine ⟨_, pss_cons (ps_if (PW.pt (pw_or (pt_not (pt_val (pe_callB call_isi (by rfl) T.nIsi (by decide +kernel) (pa_cons (pv 0) (pa_cons (pe_bltn (v := .ty "str") (by rfl) T.nStr (by decide +kernel) rfl) pa_nil))))) (pw_or1 (pt_not (pt_chain op_le op_le pe_int (pe_callB call_len_str (by rfl) T.nLen PySem.boot_len (pa_cons (pv 0) pa_nil)) (pe_glob (v := .int 8) rfl mMax ⟨mt, rfl⟩)))))) (pss_one (ps_ret pe_bl)) pss_nil)
      (pss_one (ps_ret (pe_and (pe_call GL hr rfl mL FL.kp bL .nil pass0 (pa_cons (pe_ix ix_str (pv 0) pe_int (fun _ _ => rfl)) pa_nil)) (pe_one (pe_callB (cr_all rfl) (by rfl) T.nAll (by decide +kernel) (pa_cons
        (pe_lc (own := [("sign", 1)]) (g := gName 1) (tt := tYes) rfl scName.nd (pi_str (pv 0)) (blkOk_by (own := [("sign", 1)]) (N := ["value", "sign"]) (sc := defScope sName) (by decide +kernel)) (fun _ _ _ _ _ => pg_name (i := 1) scName.nd rfl (Or.inl rfl)) (fun _ _ _ _ _ => pts_nil)
          (fun _ _ _ _ _ => pe_or (pe_call GL hr rfl mL FL.kp bL .nil pass0 (pa_cons (pv 1) pa_nil)) (pe_one (pe_call GD hr rfl mD FD.kp bD .nil pass0 (pa_cons (pv 1) pa_nil))))) pa_nil)))))), ?_⟩
    rcases hb with ⟨z, rfl, hz, rfl⟩ | ⟨t, ty, k, rfl⟩
    · refine ⟨_, rfl, _, _, _, _, true, rfl, .ty "str", .base (.str z), kit_ty (by decide +kernel), true, rfl, ?_⟩
      show if (!true) = true then _ else _
      refine iteF ⟨_, rfl, z, rfl, by rw [sizeLine_eq]; exact hz, _, _, rfl, rfl, _, rfl, ?_⟩
      have lz : z.cps.toList.length = z.length := rfl
      by_cases c1 : (1 : Int) ≤ (z.length : Int)
      · rw [decide_eq_true c1]
        refine iteT ⟨_, _, rfl, rfl, _, rfl, ?_⟩
        by_cases c2 : (z.length : Int) ≤ 8
        · rw [decide_eq_true c2]
          show if (!true) = true then _ else _
          refine iteF ?_
          obtain ⟨c, r, ez⟩ : ∃ c r, z.cps.toList = c :: r := by
            cases e : z.cps.toList with
            | nil =>
              rw [e] at lz
              simp at lz
              omega
            | cons c r => exact ⟨c, r, rfl⟩
          have nm : isName z = (low c && r.all fun d => low d || dig d) := by
            unfold isName
            rw [ez]
            have : (c :: r).length ≤ 8 := by rw [← ez, lz]; omega
            rw [decide_eq_true this, Bool.true_and]
          rw [nm] at q
          refine ⟨_, rfl, z, 0, c, rfl, rfl, by rw [sizeLine_eq]; exact hz, by rw [ez]; exact atI_nat (j := 0) rfl, c, rfl, low c, rfl, ?_⟩
          by_cases hl : low c = true
          · rw [hl] at q ⊢
            refine iteT ⟨_, rfl, z, rfl, fun D nD => lc_it (walk_str (z := z)) (fun i H' => Same H H' ∧ H' D = some (.lst (((z.cps.toList.take i).map fun d => low d || dig d).map V.bl))) ⟨same_put nD, upd_same⟩ (fun _ _ _ _ => trivial) ?_ ?_⟩
            · rintro i x H1 H2 hi ⟨s1, e1⟩ ⟨rfl, d, hd, rfl⟩
              have hd' : z.cps.toList[i]? = some d := by rw [Array.getElem?_toList]; exact hd
              have hsz : i < z.cps.toList.length := (List.getElem?_eq_some_iff.mp hd').1
              have tk : z.cps.toList.take (i + 1) = z.cps.toList.take i ++ [d] := by
                rw [List.take_add_one, hd']
                rfl
              have done : ∃ acc, H2 D = some (.lst acc) ∧ acc.length < sizeLine ∧ Same H (upd H2 D (.lst (acc ++ [V.bl (low d || dig d)]))) ∧ (upd H2 D (.lst (acc ++ [V.bl (low d || dig d)]))) D = some (.lst (((z.cps.toList.take (i + 1)).map fun d => low d || dig d).map V.bl)) := by
                refine ⟨_, e1, ?_, ?_, ?_⟩
                · rw [List.length_map, List.length_map, List.length_take]
                  exact small1000 (by omega)
                · intro a o e
                  rw [upd_ne (ne_of_none e nD)]
                  exact s1 a o e
                · rw [upd_same, tk, List.map_append, List.map_append]
                  rfl
              refine ⟨rfl, _, rfl, d, rfl, low d, rfl, ?_⟩
              by_cases h1 : low d = true
              · rw [h1, Bool.true_or] at done
                rw [h1]
                exact iteT done
              · rw [Bool.eq_false_iff.mpr h1, Bool.false_or] at done
                rw [Bool.eq_false_iff.mpr h1]
                exact iteF ⟨_, rfl, d, rfl, done⟩
            · rintro H1 ⟨s1, e1⟩
              have et : z.cps.toList.take z.cps.size = z.cps.toList := List.take_of_length_le (Nat.le_of_eq (by simp))
              rw [et] at e1
              refine ⟨D, _, rfl, SqL.of e1, ?_⟩
              have al : ((z.cps.toList.map fun d => low d || dig d).all id) = (true && r.all fun d => low d || dig d) := by
                rw [ez, List.map_cons, List.all_cons, List.all_map, hl]
                rfl
              rw [al]
              exact q H1 s1
          · rw [Bool.eq_false_iff.mpr hl] at q ⊢
            exact iteF (q H (Same.refl _))
        · rw [decide_eq_false c2]
          show if (!false) = true then _ else _
          refine iteT ?_
          have nm : isName z = false := by
            unfold isName
            have : ¬ z.cps.toList.length ≤ 8 := by rw [lz]; omega
            simp only [this, decide_false, Bool.false_and]
          rw [nm] at q
          exact q H (Same.refl _)
      · rw [decide_eq_false c1]
        refine iteF ⟨_, rfl, ?_⟩
        show if (!false) = true then _ else _
        refine iteT ?_
        have nm : isName z = false := by
          unfold isName
          have : z.cps.toList = [] := List.length_eq_zero_iff.mp (by rw [lz]; omega)
          rw [this]
          rfl
        rw [nm] at q
        exact q H (Same.refl _)
    · refine ⟨v, rfl, v, _, t, _, false, rfl, .ty "str", ty, k, false, rfl, ?_⟩
      exact q H (Same.refl _)
theorem scRow : FnScope ["value", "feed", "time", "number"] ["value"] (defScope sRow) := ⟨rfl, rfl, rfl, by decide +kernel, rfl, by decide +kernel, by decide +kernel⟩
theorem ok_row {f fN fI fL fD : Addr} {fd dN dI dL dD : FuncData} {mt : Tok} (F : Fun K "is_row" "is_row" sRow f fd) (T : Kt mg) (mMax : mg "MAX_NAME" = some (.int 8 mt)) (FN : Fun K "is_name" "is_name" sName fN dN) (bN : Binds K dN ["value"] []) (mN : mg "is_name" = some (.ref fN))
    (FI : Fun K "is_integer" "is_integer" sInteger fI dI) (bI : Binds K dI ["value"] []) (mI : mg "is_integer" = some (.ref fI)) (FL : Fun K "_is_letter" "_is_letter" sLetter fL dL) (bL : Binds K dL ["sign"] []) (mL : mg "_is_letter" = some (.ref fL))
    (FD : Fun K "_is_digit" "_is_digit" sDigit fD dD) (bD : Binds K dD ["sign"] []) (mD : mg "_is_digit" = some (.ref fD)) : FnOk P w K mg base CX0 3 f fd ["value"] (spIsRow K) := by
  have GN : FnOk P w K mg base CX0 2 fN dN ["value"] (spIsName K) := ok_name FN T mMax FL bL mL FD bD mD
  have GI : FnOk P w K mg base CX0 1 fI dI ["value"] (spInteger K) := ok_integer FI T
  refine F.ok scRow (fun vs H Q E h => ?_) (fun cdv A outer s H vs Q E hr h => ?_)
  · obtain ⟨v, b, rfl, _⟩ := h
    rfl
  · obtain ⟨v, b, rfl, hb, q⟩ := h
    have hr1 : Room 1 _ := hr.mono (by decide)
    refine ⟨_, pss_cons (ps_if (PW.pt (pw_or (pt_not (pt_val (pe_callB call_isi (by rfl) T.nIsi (by decide +kernel) (pa_cons (pv 0) (pa_cons (pe_bltn (v := .ty "tuple") (by rfl) T.nTuple (by decide +kernel) rfl) pa_nil))))) (pw_or1 (pt_cmpR op_ne (pe_callB call_len_seq (by rfl) T.nLen PySem.boot_len (pa_cons (pv 0) pa_nil)) pe_int (nomark _))))) (pss_one (ps_ret pe_bl)) pss_nil)
      (pss_cons (ps_asg (pv 0) (pg_tup (by rfl) (pgs_cons (pg_name (i := 1) scRow.nd rfl (Or.inl rfl)) (pgs_cons (pg_name (i := 2) scRow.nd rfl (Or.inl rfl)) (pgs_cons (pg_name (i := 3) scRow.nd rfl (Or.inl rfl)) pgs_nil)))))
      (pss_one (ps_ret (pe_and (pe_call GN hr rfl mN FN.kp bN .nil pass0 (pa_cons (pv 1) pa_nil)) (pe_and (pe_call GI hr1 rfl mI FI.kp bI .nil pass0 (pa_cons (pv 2) pa_nil)) (pe_one (pe_call GI hr1 rfl mI FI.kp bI .nil pass0 (pa_cons (pv 3) pa_nil)))))))), ?_⟩
    rcases hb with ⟨t, ty, k, rfl⟩ | ⟨p, xs, rfl, hp, hl, rfl⟩ | ⟨p, x, y, z, b1, b2, b3, rfl, hp, n1, i2, i3, rfl⟩
    · exact ⟨v, rfl, v, _, t, _, false, rfl, .ty "tuple", ty, k, false, rfl, q H (Same.refl _)⟩
    · refine ⟨_, rfl, _, _, _, _, true, rfl, .ty "tuple", .base (.tup hp), kit_ty (by decide +kernel), true, rfl, ?_⟩
      show if (!true) = true then _ else _
      refine iteF ⟨_, rfl, p, xs, rfl, .inr (SqT.of hp), rfl, _, rfl, ?_⟩
      have ne : (!decide (V.int xs.length = V.int 3)) = true := by
        have : ¬ V.int xs.length = V.int 3 := fun e => hl (by injection e with e; omega)
        rw [decide_eq_false this]
        rfl
      show if (!decide (V.int xs.length = V.int 3)) = true then _ else _
      rw [ne]
      exact iteT (q H (Same.refl _))
    · refine ⟨_, rfl, _, _, _, _, true, rfl, .ty "tuple", .base (.tup hp), kit_ty (by decide +kernel), true, rfl, ?_⟩
      show if (!true) = true then _ else _
      refine iteF ⟨_, rfl, p, _, rfl, .inr (SqT.of hp), rfl, _, rfl, ?_⟩
      refine iteF ⟨_, rfl, p, _, rfl, SqT.of hp, rfl, ?_⟩
      refine ⟨x, [y, z], rfl, y, [z], rfl, z, [], rfl, rfl, x, rfl, x, b1, rfl, n1, fun H1 s1 => ⟨b1, rfl, ?_⟩⟩
      cases b1 with
      | false => exact q H1 s1
      | true =>
        refine ⟨y, rfl, y, b2, rfl, i2 H1 s1, b2, rfl, ?_⟩
        cases b2 with
        | false => exact q H1 s1
        | true => exact ⟨z, rfl, z, b3, rfl, i3 H1 s1, q H1 s1⟩
end
end K01

namespace Rng
open PySem L2 Bag
/-- the fields of a table, in their order -/
def fieldsOf (p q d : Addr) : List (Str × V) := [("rows", .ref p), ("feeds", .ref q), ("_by_place", .ref d)]
theorem fields_put (p q d : Addr) : putF "_by_place" (.ref d) (putF "feeds" (.ref q) (putF "rows" (.ref p) [])) = fieldsOf p q d := by
  unfold fieldsOf
  have e1 : ("rows" : Str) ≠ "feeds" := by decide
  have e2 : ("rows" : Str) ≠ "_by_place" := by decide
  have e3 : ("feeds" : Str) ≠ "_by_place" := by decide
  simp only [putF, if_neg e1, if_neg e2, if_neg e3]
theorem fields_two (p q : Addr) : putF "feeds" (.ref q) (putF "rows" (.ref p) []) = ([("rows", .ref p), ("feeds", .ref q)] : List (Str × V)) := by
  have e1 : ("rows" : Str) ≠ "feeds" := by decide
  simp only [putF, if_neg e1]
/-- the table at o: its rows, its feeds -/
def TabAt (C : Addr) (H : Hp) (o : Addr) (ss : List Row) (fs : List Str) : Prop := ∃ dx p q d ys, H o = some (.ins C dx (fieldsOf p q d)) ∧ H p = some (.tup ys) ∧ TupsAt rowV H ys ss ∧ H q = some (.tup (fs.map V.str))
/-- what a table of rows has: the rows in order, their feeds in order -/
structure TabOf (rs ss : List Row) (fs : List Str) : Prop where
  perm : ss.Perm rs
  ord : ss.Pairwise fun p q => ltR q p = false
  fperm : fs.Perm (firsts (rs.map (·.1)))
  ford : PyProof.Rows.sortedS fs = true
/-- rows that a table takes -/
structure Good (rs : List Row) : Prop where
  len : rs.length ≤ 100
  nd : (rs.map plcOf).Nodup
  nm : ∀ r ∈ rs, isName r.1 = true
def spInit (C : Addr) : Sp := fun vs H Q _ => ∃ (o t dx : Addr) (xs : List V) (rs : List Row), vs = [.ref o, .ref t] ∧ H o = some (.ins C dx []) ∧ H t = some (.tup xs) ∧ TupsAt rowV H xs rs ∧ Good rs ∧
  ∀ (ss : List Row) (fs : List Str) (H' : Hp), TabOf rs ss fs → TabAt C H' o ss fs → But o H H' → Q .non H'
def keyOf (r : Row) : List Key := [Sum.inr r.1, Sum.inl r.2.1]
theorem key_vals (r : Row) : (keyOf r).map kV = plcV (plcOf r) := rfl
theorem key_inj {r s : Row} (h : keyOf r = keyOf s) : plcOf r = plcOf s := by
  unfold keyOf at h
  injection h with h1 h2
  injection h2 with h2 h3
  injection h1 with h1
  injection h2 with h2
  unfold plcOf
  rw [h1, h2]
theorem not_there (rs : List Row) (r : Row) (h : plcOf r ∉ rs.map plcOf) : valV (rs.map fun s => (keyOf s, V.int s.2.2)) (keyOf r) = none := by
  induction rs with
  | nil => rfl
  | cons s rs ih =>
    rw [List.map_cons, valV_neg fun e => h (by rw [List.map_cons, key_inj e]; exact List.mem_cons_self)]
    exact ih fun m => h (List.mem_cons_of_mem _ m)
/-- what the class of tables is -/
structure Tc (K : PySem.W.Frag) (C : Addr) : Prop where
  cl : Cls K C
  nR : NoAttr K C "rows"
  nF : NoAttr K C "feeds"
  nP : NoAttr K C "_by_place"
end Rng
namespace K01
open PySem L2 Rng Bag
section
variable {P : Program} {w : World} {K : PySem.W.Frag} {mg : Str → Option Value} {base : Heap}
abbrev sTable : Stmt := top 12
abbrev sInit : Stmt := inClass sTable 0
structure Bi (mg : Str → Option Value) : Prop where
  nEnum : mg "enumerate" = none
  nTuple : mg "tuple" = none
  nSorted : mg "sorted" = none
theorem scInit : FnScope ["self", "rows", "by_place", "index", "row"] ["self", "rows"] (defScope sInit) := ⟨rfl, rfl, rfl, by decide +kernel, rfl, by decide +kernel, by decide +kernel⟩
theorem ok_init {f fR C : Addr} {fd dR : FuncData} (F : Fun K "__init__" "Table.__init__" sInit f fd) (B : Bi mg) (Z : Tc K C) (FR : Fun K "is_row" "is_row" sRow fR dR) (bR : Binds K dR ["value"] []) (mR : mg "is_row" = some (.ref fR)) (GR : FnOk P w K mg base CX0 3 fR dR ["value"] (spIsRow K)) :
    FnR P w K mg base CX0 4 f (fun vs H Q E => ∃ ws rest, vs = ws ++ rest ∧ ws.length = (["self"] : List Str).length ∧ rest.length ≤ sizeLine ∧ ∀ p, H p = Option.none → spInit C (ws ++ [V.ref p]) (upd H p (.tup rest)) Q E) := by
  obtain ⟨oc, od, kV, doc, pm, an, cdv, ct, osl, rfl, lk, hcd⟩ := F.ex
  refine StX.fn_star (ps := ["self"]) (pv := "rows") lk hcd scInit StX.cxUp_none (fun us rest hl => match us, hl with | [a], _ => by cases rest <;> rfl) (fun A outer s H vs Q E hr h => ?_)
  obtain ⟨o, t, dx, xs, rs, rfl, ho, ht, tr, G, q⟩ := h
  have hu := hu_of hr
  suffices h : ∃ tt, PSs (cxOf CX0 P w K mg base ["self", "rows", "by_place", "index", "row"] "Table.__init__" (defScope sInit) f cdv A outer s H E).nox (defBody sInit) tt ∧ tt { nx := fun _ H' => Q .non H', rt := Q } (L2.start ["self", "rows", "by_place", "index", "row"] [.ref o, .ref t]) H by
    obtain ⟨tt, h1, h2⟩ := h
    exact ⟨tt, h1.nox, h2⟩
  refine ⟨_, pss_cons (ps_set (i := 2) scInit.nd rfl (Or.inl rfl) pe_dnewT)
    (pss_cons (ps_for PassesOwn.never rfl (En1.pi_enumT rfl B.nEnum (pa_cons (pv 1) pa_nil)) (pg_tup (by rfl) (pgs_cons (pg_name (i := 3) scInit.nd rfl (Or.inl rfl)) (pgs_cons (pg_name (i := 4) scInit.nd rfl (Or.inl rfl)) pgs_nil)))
      (pss_cons (ps_if (PW.pt (pw_or (pt_not (pt_val (pe_call GR hr rfl mR FR.kp bR .nil pass0 (pa_cons (pv 4) pa_nil)))) (pw_or1 (pt_cmp (pc_din hu (pe_tup (pa_cons (pe_ix ix_tup (pv 4) pe_int (fun _ _ => rfl)) (pa_cons (pe_ix ix_tup (pv 4) pe_int (fun _ _ => rfl)) pa_nil))) (pv 2)))))) (pss_one ps_never) pss_nil)
      (pss_one (ps_dput hu (pv 2) (pe_tup (pa_cons (pe_ix ix_tup (pv 4) pe_int (fun _ _ => rfl)) (pa_cons (pe_ix ix_tup (pv 4) pe_int (fun _ _ => rfl)) pa_nil))) (pe_ix ix_tup (pv 4) pe_int (fun _ _ => rfl)) rfl))))
    (pss_cons (ps_fld (pv 0) (pe_callTy call_tuple_of (by rfl) B.nTuple (by decide +kernel) (pa_cons (pe_callB cr_sortRows (by rfl) B.nSorted (by decide +kernel) (pa_cons (pv 1) pa_nil)) pa_nil)) rfl)
    (pss_cons (ps_fld (pv 0) (pe_callTy call_tuple_of (by rfl) B.nTuple (by decide +kernel) (pa_cons (pe_callB (cr_sortBag rfl) (by rfl) B.nSorted (by decide +kernel) (pa_cons
        (pe_bag (own := [("row", 4)]) (g := gName 4) (tt := tYes) (te := tOp (rIxT K) (tVar 4) (tC (.int 0))) rfl scInit.nd (pi_tup (pv 1)) (blkOk_by (own := [("row", 4)]) (N := ["self", "rows", "by_place", "index", "row"]) (sc := defScope sInit) (by decide +kernel)) (fun _ _ _ _ _ => pg_name (i := 4) scInit.nd rfl (Or.inl rfl)) (fun _ _ _ _ _ => pts_nil)
          (fun _ _ _ _ _ => pe_ix ix_tup (pv 4) pe_int (fun _ _ => rfl))) pa_nil)) pa_nil)) rfl)
    (pss_one (ps_fld (pv 0) (pv 2) rfl))))), ?_⟩
  intro d nd
  have nod : o ≠ d := fun z => by rw [z, nd] at ho; cases ho
  refine ⟨_, rfl, t, xs, rfl, SqT.of ((same_put nd) _ _ ht), for_it (En1.walk_enumT (K := K) (a := t) (xs := xs)) (fun i σ H' => ∃ (x3 x4 : Option V), σ = [some (.ref o), some (.ref t), some (.ref d), x3, x4] ∧ Same H H' ∧ H' d = some (.dT ((rs.take i).map fun r => (keyOf r, V.int r.2.2))))
    ⟨_, _, rfl, same_put nd, upd_same⟩ (fun _ _ _ _ h => by obtain ⟨_, _, _, s1, _⟩ := h; exact SqT.of (s1 _ _ ht)) ?_ ?_⟩
  · rintro i x σ H1 H2 hi ⟨x3, x4, rfl, s1, e1⟩ ⟨T, a, b, rfl, nT, rfl, ha, hb⟩
    obtain rfl := Option.some.inj ha
    obtain ⟨r, p, hr', rfl, hp⟩ := tr.get hb
    have s2 : Same H (upd H1 T (.tup [.int (i : Nat), .ref p])) := s1.trans (same_put nT)
    have e2 : (upd H1 T (.tup [.int (i : Nat), .ref p])) d = some (.dT ((rs.take i).map fun r => (keyOf r, V.int r.2.2))) := (same_put nT) _ _ e1
    have rm : r ∈ rs := List.mem_of_getElem? hr'
    have nw : plcOf r ∉ (rs.take i).map plcOf := fun m => by
      have hlt : i < rs.length := (List.getElem?_eq_some_iff.mp hr').1
      have tk : rs.take (i + 1) = rs.take i ++ [r] := by rw [List.take_add_one, hr']; rfl
      have nd2 : ((rs.take (i + 1)).map plcOf).Nodup := by
        rw [List.map_take]
        exact G.nd.sublist (List.take_sublist _ _)
      rw [tk, List.map_append] at nd2
      exact (List.nodup_append.mp nd2).2.2 _ m _ (List.mem_singleton.mpr rfl) rfl
    have at2 := s2 _ _ hp
    refine ⟨T, _, rfl, SqT.of upd_same, rfl, .int (i : Nat), [.ref p], rfl, .ref p, [], rfl, rfl, ?_⟩
    refine ⟨_, rfl, _, true, rfl, .inr (.inr ⟨p, _, _, _, true, true, true, rfl, at2, .inl ⟨r.1, rfl, ?_, (G.nm r rm).symm⟩, fun _ _ => .int _, fun _ _ => .int _, rfl⟩), fun H3 s3 => ⟨true, rfl, ?_⟩⟩
    · have h8 := G.nm r rm
      unfold isName at h8
      simp only [Bool.and_eq_true, decide_eq_true_eq] at h8
      exact Nat.le_trans (show r.1.length ≤ 8 from h8.1) (by decide)
    show if (!true) = true then _ else _
    have at3 := s3 _ _ at2
    have d3 := s3 _ _ e2
    refine iteF ⟨_, rfl, p, _, 0, _, rfl, rfl, SqT.of at3, atI_nat (j := 0) rfl, _, rfl, p, _, 1, _, rfl, rfl, SqT.of at3, atI_nat (j := 1) rfl, (by show 2 ≤ sizeLine; decide), fun k1 nk1 => ?_⟩
    have d4 := (same_put (o := .tup (plcV (plcOf r))) nk1) _ _ d3
    refine ⟨_, rfl, d, _, rfl, DGet.t (k := keyOf r) d4 upd_same, ?_⟩
    rw [not_there _ _ nw]
    refine ⟨false, rfl, iteF ?_⟩
    have at4 := (same_put (o := .tup (plcV (plcOf r))) nk1) _ _ at3
    refine ⟨_, rfl, p, _, 2, _, rfl, rfl, SqT.of at4, atI_nat (j := 2) rfl, _, rfl, _, rfl, p, _, 0, _, rfl, rfl, SqT.of at4, atI_nat (j := 0) rfl, _, rfl, p, _, 1, _, rfl, rfl, SqT.of at4, atI_nat (j := 1) rfl, (by show 2 ≤ sizeLine; decide), fun k2 nk2 => ?_⟩
    have d5 := (same_put (o := .tup (plcV (plcOf r))) nk2) _ _ d4
    refine ⟨d, _, rfl, DPut.t (k := keyOf r) d5 upd_same ?_, _, _, rfl, ?_, ?_⟩
    · rw [List.length_map, List.length_take]
      have := G.len
      exact small1000 (by omega)
    · have s5 := (s2.trans s3).trans ((same_put (o := .tup (plcV (plcOf r))) nk1).trans (same_put (o := .tup (plcV (plcOf r))) nk2))
      intro a o e
      rw [upd_ne (fun z => by rw [z, nd] at e; cases e)]
      exact s5 a o e
    · rw [upd_same, putK_new _ (not_there _ _ nw), List.take_add_one, hr', List.map_append]
      rfl
  · rintro σ H1 ⟨x3, x4, rfl, s1, e1⟩
    have ht1 := s1 _ _ ht
    have tr1 := tr.same s1
    refine ⟨_, rfl, t, xs, rs, rfl, .inr (SqT.of ht1), tr1, fun ys ss l1 ps os ts n1 => ⟨l1, ys, rfl, .inl ⟨SqL.of upd_same, fun p np => ?_⟩⟩⟩
    have s2 : Same H (upd (upd H1 l1 (.lst ys)) p (.tup ys)) := s1.trans ((same_put n1).trans (same_put np))
    have d2 : (upd (upd H1 l1 (.lst ys)) p (.tup ys)) d = some (.dT ((rs.take xs.length).map fun r => (keyOf r, V.int r.2.2))) := ((same_put n1).trans (same_put np)) _ _ e1
    have p2 : (upd (upd H1 l1 (.lst ys)) p (.tup ys)) p = some (.tup ys) := upd_same
    have y2 := ts.same ((same_put (o := .lst ys) n1).trans (same_put (o := .tup ys) np))
    revert s2 d2 p2 y2
    generalize upd (upd H1 l1 (.lst ys)) p (.tup ys) = H2
    intro s2 d2 p2 y2
    have o2 := s2 _ _ ho
    refine ⟨_, rfl, o, C, dx, [], rfl, o2, Z.cl, Z.nR, by decide, ?_⟩
    have pno : p ≠ o := fun z => by rw [z, o2] at p2; cases p2
    have b3 : But o H2 (upd H2 o (.ins C dx (putF "rows" (.ref p) []))) := But.put
    have o3 : (upd H2 o (.ins C dx (putF "rows" (.ref p) []))) o = some (.ins C dx (putF "rows" (.ref p) [])) := upd_same
    revert b3 o3
    generalize upd H2 o (.ins C dx (putF "rows" (.ref p) [])) = H3
    intro b3 o3
    have noT : ∀ zs, H2 o ≠ some (.tup zs) := fun zs e => by rw [o2] at e; cases e
    have p3 := b3 _ _ pno p2
    have y3 := y2.but b3 noT
    have dno : d ≠ o := Ne.symm nod
    have d3 := b3 _ _ dno d2
    have tno : t ≠ o := fun z => by rw [z, ho] at ht; cases ht
    have t3 := b3 _ _ tno (s2 _ _ ht)
    have tr3 := (tr.same s2).but b3 noT
    refine ⟨_, rfl, t, rfl, ⟨_, SqT.of t3⟩, fun D nD => bag_it (walk_tup (K := K) (a := t) (xs := xs)) (fun i H' => Same H3 H' ∧ H' D = some (BagO P w D (firsts ((rs.take i).map (·.1))))) ⟨same_put nD, upd_same⟩ (fun _ _ _ h => SqT.of (h.1 _ _ t3)) ?_ ?_⟩
    · rintro i x Ha Hb hi ⟨sa, ea⟩ ⟨rfl, hx⟩
      obtain ⟨r, c, hr', rfl, hc⟩ := tr3.get hx
      refine ⟨rfl, ?_⟩
      simp only [tYes, if_true]
      unfold put1
      have tk : (rs.take (i + 1)).map (·.1) = (rs.take i).map (·.1) ++ [r.1] := by
        rw [List.take_add_one, hr', List.map_append]
        rfl
      refine ⟨_, rfl, c, _, 0, _, rfl, rfl, SqT.of (sa _ _ hc), atI_nat (j := 0) rfl, r.1, _, rfl, ea, ?_, ?_, ?_⟩
      · have h1 := firsts_len _ ((rs.take i).map (·.1)) rfl
        rw [List.length_map, List.length_take] at h1
        have := G.len
        have : (102 : Nat) < scanBound := by decide
        omega
      · intro a o e
        rw [upd_ne (ne_of_none e nD)]
        exact sa a o e
      · rw [upd_same, tk, firsts_snoc]
        rfl
    · rintro H4 ⟨s4, e4⟩
      have lx : xs.length = rs.length := tr.len
      rw [lx, List.take_length] at e4
      refine ⟨D, _, rfl, e4, fun fs l2 pf of n2 => ⟨l2, _, rfl, .inl ⟨SqL.of upd_same, fun g ng => ?_⟩⟩⟩
      have s5 : Same H3 (upd (upd H4 l2 (.lst (fs.map V.str))) g (.tup (fs.map V.str))) := s4.trans ((same_put n2).trans (same_put ng))
      have g5 : (upd (upd H4 l2 (.lst (fs.map V.str))) g (.tup (fs.map V.str))) g = some (.tup (fs.map V.str)) := upd_same
      revert s5 g5
      generalize upd (upd H4 l2 (.lst (fs.map V.str))) g (.tup (fs.map V.str)) = H5
      intro s5 g5
      have o5 := s5 _ _ o3
      refine ⟨_, rfl, o, C, dx, _, rfl, o5, Z.cl, Z.nF, (show 1 < 1000 by decide), ?_⟩
      refine ⟨_, rfl, _, rfl, o, C, dx, _, rfl, upd_same, Z.cl, Z.nP, (by rw [fields_two]; exact (show 2 < 1000 by decide)), ?_⟩
      rw [fields_put]
      have noT5 : ∀ zs, H5 o ≠ some (.tup zs) := fun zs e => by rw [o5] at e; cases e
      have gno : g ≠ o := fun z => by rw [z, o5] at g5; cases g5
      have b6 : But o H5 (upd (upd H5 o (.ins C dx (putF "feeds" (.ref g) (putF "rows" (.ref p) [])))) o (.ins C dx (fieldsOf p g d))) := But.put.trans But.put
      refine q ss fs _ ⟨ps, os, pf, of⟩ ⟨dx, p, g, d, ys, upd_same, b6 _ _ pno (s5 _ _ p3), (y3.same s5).but b6 noT5, b6 _ _ gno g5⟩ ?_
      exact (s2.but o).trans (b3.trans ((s5.but o).trans b6))
end
end K01

namespace Rng
open PySem L2 Bag
theorem TabAt.but {C : Addr} {H H' : Hp} {o c : Addr} {ss : List Row} {fs : List Str} (T : TabAt C H o ss fs) (b : But c H H') (h : (∃ zs, H c = some (.lst zs)) ∨ H c = none) : TabAt C H' o ss fs := by
  obtain ⟨dx, p, q, d, ys, h1, h2, h3, h4⟩ := T
  have ne : ∀ {x : Addr} {u : HO}, H x = some u → (∀ zs, u ≠ .lst zs) → x ≠ c := fun {x u} e n z => by
    rw [z] at e
    rcases h with ⟨zs, k⟩ | k
    · rw [k] at e
      exact n zs (Option.some.inj e).symm
    · rw [k] at e
      cases e
  exact ⟨dx, p, q, d, ys, b _ _ (ne h1 fun _ z => by cases z) h1, b _ _ (ne h2 fun _ z => by cases z) h2, h3.but b (fun ys e => by
    rcases h with ⟨zs, k⟩ | k
    · rw [k] at e; cases e
    · rw [k] at e; cases e), b _ _ (ne h4 fun _ z => by cases z) h4⟩
theorem TabAt.same {C : Addr} {H H' : Hp} {o : Addr} {ss : List Row} {fs : List Str} (T : TabAt C H o ss fs) (s : Same H H') : TabAt C H' o ss fs := by
  obtain ⟨dx, p, q, d, ys, h1, h2, h3, h4⟩ := T
  exact ⟨dx, p, q, d, ys, s _ _ h1, s _ _ h2, h3.same s, s _ _ h4⟩
theorem rows_eqv : ∀ rs ss : List Row, PyData.eqvAll (rs.map fun r => .tuple (rowD r)) (ss.map fun r => .tuple (rowD r)) = decide (rs = ss)
  | [], [] => rfl
  | [], s :: ss => by simp [PyData.eqvAll]
  | r :: rs, [] => by simp [PyData.eqvAll]
  | r :: rs, s :: ss => by
    rw [List.map_cons, List.map_cons, PyData.eqvAll, row_eqv, rows_eqv rs ss]
    by_cases a : r = s <;> by_cases b : rs = ss <;> simp [a, b]
/-- what a new table promises -/
def spMade (C : Addr) (rs : List Row) (H : Hp) (Q : VK) : Prop := ∀ (o : Addr) (ss : List Row) (fs : List Str) (H' : Hp), TabOf rs ss fs → TabAt C H' o ss fs → H o = none → Same H H' → Q (.ref o) H'
theorem made_at {C : Addr} {H : Hp} {xs : List V} {rs : List Row} {Q : VK} {E : XK} (tr : TupsAt rowV H xs rs) (G : Good rs) (q : spMade C rs H Q) (x dx : Addr) (nx : H x = none) (nd : H dx = none) (ne : dx ≠ x) :
    ∃ ws rest, V.ref x :: xs = ws ++ rest ∧ ws.length = (["self"] : List Str).length ∧ rest.length ≤ sizeLine ∧ ∀ p, (upd (upd H dx (.own x)) x (.ins C dx [])) p = Option.none →
      spInit C (ws ++ [V.ref p]) (upd (upd (upd H dx (.own x)) x (.ins C dx [])) p (.tup rest)) (fun v H2 => v = .non ∧ Q (.ref x) H2) E := by
  refine ⟨[V.ref x], xs, rfl, rfl, ?_, fun p np => ?_⟩
  · rw [tr.len, sizeLine_eq]
    have := G.len
    omega
  have s1 : Same H (upd (upd H dx (.own x)) x (.ins C dx [])) := fun a o e => by rw [upd_ne (ne_of_none e nx), upd_ne (ne_of_none e nd)]; exact e
  have s2 := s1.trans (same_put (o := .tup xs) np)
  have npx : x ≠ p := fun z => by rw [← z, upd_same] at np; cases np
  refine ⟨x, p, dx, xs, rs, rfl, by rw [upd_ne npx]; exact upd_same, upd_same, tr.same s2, G, fun ss fs H' T A b => ⟨rfl, q x ss fs H' T A nx fun a o e => b a o (fun z => by rw [z, nx] at e; cases e) (s2 a o e)⟩⟩
def spOf (C : Addr) : Sp := fun vs H Q _ => ∃ (t : Addr) (xs : List V) (rs : List Row), vs = [.ref t] ∧ H t = some (.tup xs) ∧ TupsAt rowV H xs rs ∧ Good rs ∧ spMade C rs H Q
def spTable (C : Addr) : Sp := fun vs H Q _ => ∃ (l : Addr) (xs : List V) (rs : List Row), vs = [.ref l] ∧ H l = some (.lst xs) ∧ TupsAt rowV H xs rs ∧ Good rs ∧ spMade C rs H Q
def spLenT (C : Addr) : Sp := fun vs H Q _ => ∃ (o : Addr) (ss : List Row) (fs : List Str), vs = [.ref o] ∧ TabAt C H o ss fs ∧ Q (.int ss.length) H
/-- a table's text -/
def titleOf (n : Nat) : Str := Str.ofString "Table(" ++ Str.ofString (toString (n : Int)) ++ Str.ofString " rows)"
def spReprT (C : Addr) : Sp := fun vs H Q _ => ∃ (o : Addr) (ss : List Row) (fs : List Str), vs = [.ref o] ∧ TabAt C H o ss fs ∧ ss.length ≤ 1000 ∧ Q (.str (titleOf ss.length)) H
def spInT (K : PySem.W.Frag) (C : Addr) : Sp := fun vs H Q _ => ∃ (o : Addr) (x : V) (ss : List Row) (fs : List Str), vs = [.ref o, x] ∧ TabAt C H o ss fs ∧ (∀ r ∈ ss, isName r.1 = true) ∧
  ((RowB K H x false ∧ ∀ H', Same H H' → Q (.bl false) H') ∨ ∃ p r, x = .ref p ∧ H p = some (.tup (rowV r)) ∧ isName r.1 = true ∧ ∀ H', Same H H' → Q (.bl (decide (r ∈ ss))) H')
def spEqT (K : PySem.W.Frag) (C : Addr) : Sp := fun vs H Q _ => ∃ (o : Addr) (y : V) (ss : List Row) (fs : List Str), vs = [.ref o, y] ∧ TabAt C H o ss fs ∧ (∀ r ∈ ss, isName r.1 = true) ∧
  ((∃ o2 ss2 fs2, y = .ref o2 ∧ TabAt C H o2 ss2 fs2 ∧ (∀ r ∈ ss2, isName r.1 = true) ∧ Q (.bl (decide (ss = ss2))) H) ∨ ∃ t, TyX K H y t ∧ PySem.W.kitOne K t (.ref C) = some false ∧ Q (.bl false) H)
theorem row_name {K : PySem.W.Frag} {H : Hp} {p : Addr} {r : Row} (e : H p = some (.tup (rowV r))) (n : isName r.1 = true) : RowB K H (.ref p) true := by
  refine .inr (.inr ⟨p, _, _, _, true, true, true, rfl, e, .inl ⟨r.1, rfl, ?_, n.symm⟩, fun _ _ => .int _, fun _ _ => .int _, rfl⟩)
  unfold isName at n
  simp only [Bool.and_eq_true, decide_eq_true_eq] at n
  exact Nat.le_trans (show r.1.length ≤ 8 from n.1) (by decide)
/-- x in t, t a tuple of data -/
def rInT (K : PySem.W.Frag) : R2 := fun x y H Q => ∃ d ds, Dp K H x d ∧ Dp K H y (.tuple ds) ∧ SeqAt.shaped d = true ∧ SeqAt.shaped (.tuple ds) = true ∧ Q (.bl (ds.any fun z => PyData.eqv z d)) H
theorem op_inT {X : Cx} (hu : X.A.units + 65 < cLine) : OpR X (compareOp .In) (rInT X.K) := by
  intro pins s σ H x y v u Q I rx ry h
  obtain ⟨d, ds, hd, he, sd, se, q⟩ := h
  obtain ⟨as, r1⟩ := Dp.reads I d x v hd rx
  obtain ⟨bs, r2⟩ := Dp.reads I (.tuple ds) y u he ry
  refine SeqAt.in_tuple_reads r2 r1 (by have := SeqAt.canLay_of_shaped se; simpa only [PyData.canLay0] using this) (SeqAt.canLay_of_shaped sd) ?_ ⟨.bl _, H, I, rfl, q⟩
  have h1 := SeqAt.depth_of_shaped sd
  have h2 : min (PyData.depthAll ds) d.depth ≤ d.depth := Nat.min_le_right _ _
  omega
/-- what isinstance asks of the class of tables -/
structure Ti (K : PySem.W.Frag) (C : Addr) : Prop where
  ca : PySem.W.findIn K (.ref C) "__class__" = some (some (.builtin "object.__class__"))
  cn : PySem.W.specialIn K (.builtin "object.__class__") "__get__" = some (some (.builtin "getset_descriptor.__get__"))
  ct : PySem.W.takesIn K (.builtin "object.__class__") = some true
  cm : PySem.W.mroIn K C (.type "object") = some true
theorem own_kit {K : PySem.W.Frag} {C : Addr} : PySem.W.kitOne K (.ref C) (.ref C) = some true := by
  unfold PySem.W.kitOne
  rw [if_pos (by simp)]
end Rng
namespace K01
open PySem L2 Rng Bag
section
variable {P : Program} {w : World} {K : PySem.W.Frag} {mg : Str → Option Value} {base : Heap}
abbrev sOf : Stmt := inClass sTable 1
abbrev sLen : Stmt := inClass sTable 9
abbrev sIn : Stmt := inClass sTable 10
abbrev sEq : Stmt := inClass sTable 11
abbrev sRepr : Stmt := inClass sTable 12
theorem scOf : FnScope ["rows"] ["rows"] (defScope sOf) := ⟨rfl, rfl, rfl, by decide +kernel, rfl, by decide +kernel, by decide +kernel⟩
/-- the promise of __init__, as the star def keeps it -/
abbrev spStar (C : Addr) : Sp := fun vs H Q E => ∃ ws rest, vs = ws ++ rest ∧ ws.length = (["self"] : List Str).length ∧ rest.length ≤ sizeLine ∧ ∀ p, H p = Option.none → spInit C (ws ++ [V.ref p]) (upd H p (.tup rest)) Q E
theorem ok_of {f f0 C : Addr} {fd : FuncData} (F : Fun K "of" "Table.of" sOf f fd) (T : Kt mg) (mT : mg "Table" = some (.ref C)) (M : Mk K C f0) (GI : FnR P w K mg base CX0 4 f0 (spStar C)) : FnOk P w K mg base CX0 6 f fd ["rows"] (spOf C) := by
  refine F.ok scOf (fun vs H Q E h => ?_) (fun cdv A outer s H vs Q E hr h => ?_)
  · obtain ⟨t, xs, rs, rfl, _⟩ := h
    rfl
  · obtain ⟨t, xs, rs, rfl, ht, tr, G, q⟩ := h
    refine ⟨_, pss_cons (ps_if (pt_not (pt_val (pe_callB call_isi (by rfl) T.nIsi (by decide +kernel) (pa_cons (pv 0) (pa_cons (pe_bltn (v := .ty "tuple") (by rfl) T.nTuple (by decide +kernel) rfl) pa_nil))))) (pss_one ps_never) pss_nil) (pss_one (ps_ret (Mk1.pe_makeS M GI hr rfl mT pass0 (pv 0)))), ?_⟩
    refine ⟨_, rfl, _, _, _, _, true, rfl, .ty "tuple", .base (.tup ht), kit_ty (by decide +kernel), true, rfl, ?_⟩
    show if (!true) = true then _ else _
    exact iteF ⟨_, rfl, t, xs, rfl, .inl (SqT.of ht), made_at tr G q⟩
theorem scLenT : FnScope ["self"] ["self"] (defScope sLen) := ⟨rfl, rfl, rfl, by decide +kernel, rfl, by decide +kernel, by decide +kernel⟩
theorem ok_lenT {f C : Addr} {fd : FuncData} (F : Fun K "__len__" "Table.__len__" sLen f fd) (T : Kt mg) (Z : Tc K C) : FnOk P w K mg base CX0 1 f fd ["self"] (spLenT C) := by
  refine F.ok scLenT (fun vs H Q E h => ?_) (fun cdv A outer s H vs Q E hr h => ?_)
  · obtain ⟨o, ss, fs, rfl, _⟩ := h
    rfl
  · obtain ⟨o, ss, fs, rfl, ⟨dx, p, g, d, ys, h1, h2, h3, h4⟩, q⟩ := h
    refine ⟨_, pss_one (ps_ret (pe_callB call_len_seq (by rfl) T.nLen PySem.boot_len (pa_cons (pe_fld (pv 0) rfl) pa_nil))), ?_⟩
    refine ⟨_, rfl, o, C, dx, _, .ref p, rfl, h1, Z.cl, Z.nR, rfl, p, ys, rfl, .inr (SqT.of h2), ?_⟩
    rw [h3.len]
    exact q
theorem scReprT : FnScope ["self"] ["self"] (defScope sRepr) := ⟨rfl, rfl, rfl, by decide +kernel, rfl, by decide +kernel, by decide +kernel⟩
theorem ok_reprT {f C : Addr} {fd : FuncData} (F : Fun K "__repr__" "Table.__repr__" sRepr f fd) (T : Kt mg) (Z : Tc K C) : FnOk P w K mg base CX0 1 f fd ["self"] (spReprT C) := by
  refine F.ok scReprT (fun vs H Q E h => ?_) (fun cdv A outer s H vs Q E hr h => ?_)
  · obtain ⟨o, ss, fs, rfl, _⟩ := h
    rfl
  · obtain ⟨o, ss, fs, rfl, ⟨dx, p, g, d, ys, h1, h2, h3, h4⟩, hl, q⟩ := h
    refine ⟨_, pss_one (ps_ret (pe_joined (.cons pe_str (.cons (pe_fmt (pe_callB call_len_seq (by rfl) T.nLen PySem.boot_len (pa_cons (pe_fld (pv 0) rfl) pa_nil))) (.cons pe_str .nil))))), ?_⟩
    have fit : ((ss.length : Nat) : Int).natAbs.log2 < 1920 := by
      have e : ((ss.length : Nat) : Int).natAbs = ss.length := rfl
      rw [e]
      refine Nat.lt_of_le_of_lt (Nat.log2_le_self _) (by omega)
    have tl : (Str.ofString (toString ((ss.length : Nat) : Int))).length ≤ 1921 := by
      rw [ofString_length]
      exact int_text_length_le (by decide) fit
    refine ⟨_, rfl, by decide, _, rfl, o, C, dx, _, .ref p, rfl, h1, Z.cl, Z.nR, rfl, p, ys, rfl, .inr (SqT.of h2), .inr ⟨_, rfl, ?_, _, rfl, ?_, _, rfl, ?_, ?_⟩⟩
    · rw [h3.len]
      exact fit
    · rw [h3.len, strLen_append, sizeLine_eq]
      have : (Str.empty ++ Str.ofString "Table(").length = 6 := by decide
      omega
    · rw [h3.len, strLen_append, strLen_append, sizeLine_eq]
      have : (Str.empty ++ Str.ofString "Table(").length = 6 := by decide
      have : (Str.ofString " rows)").length = 6 := by decide
      omega
    · rw [h3.len]
      exact q
theorem scInT : FnScope ["self", "x"] ["self", "x"] (defScope sIn) := ⟨rfl, rfl, rfl, by decide +kernel, rfl, by decide +kernel, by decide +kernel⟩
theorem ok_inT {f fR C : Addr} {fd dR : FuncData} (F : Fun K "__contains__" "Table.__contains__" sIn f fd) (Z : Tc K C) (FR : Fun K "is_row" "is_row" sRow fR dR) (bR : Binds K dR ["value"] []) (mR : mg "is_row" = some (.ref fR)) (GR : FnOk P w K mg base CX0 3 fR dR ["value"] (spIsRow K)) :
    FnOk P w K mg base CX0 4 f fd ["self", "x"] (spInT K C) := by
  refine F.ok scInT (fun vs H Q E h => ?_) (fun cdv A outer s H vs Q E hr h => ?_)
  · obtain ⟨o, x, ss, fs, rfl, _⟩ := h
    rfl
  · obtain ⟨o, x, ss, fs, rfl, T, hn, q⟩ := h
    have hu65 := Nat.lt_of_le_of_lt (Nat.add_le_add_left (by decide : 65 ≤ 16 * 3 + 200) _) (Nat.lt_of_le_of_lt (Nat.le_of_eq (Nat.add_assoc _ _ _).symm) hr.un)
    refine ⟨_, pss_one (ps_ret (pe_and (pe_call GR hr rfl mR FR.kp bR .nil pass0 (pa_cons (pv 1) pa_nil)) (pe_one (pe_cmpR (op_inT hu65) (pv 1) (pe_fld (pv 0) rfl) (by rfl))))), ?_⟩
    rcases q with ⟨b, q⟩ | ⟨c, r, rfl, hc, nm, q⟩
    · exact ⟨_, rfl, x, false, rfl, b, fun H1 s1 => ⟨false, rfl, q H1 s1⟩⟩
    · refine ⟨_, rfl, _, true, rfl, row_name hc nm, fun H1 s1 => ⟨true, rfl, ?_⟩⟩
      obtain ⟨dx, p, g, d, ys, h1, h2, h3, h4⟩ := T.same s1
      refine ⟨_, rfl, _, rfl, o, C, dx, _, .ref p, rfl, h1, Z.cl, Z.nR, rfl, .tuple (rowD r), _, .tup (SqT.of (s1 _ _ hc)) (row_data r), .tup (SqT.of h2) (h3.data row_data), row_shaped r (name_ok nm), (rows_shaped ss fun x hx => name_ok (hn x hx)).2, ?_⟩
      rw [any_row]
      exact q H1 s1
theorem scEqT : FnScope ["self", "other"] ["self", "other"] (defScope sEq) := ⟨rfl, rfl, rfl, by decide +kernel, rfl, by decide +kernel, by decide +kernel⟩
theorem ok_eqT {f C : Addr} {fd : FuncData} (F : Fun K "__eq__" "Table.__eq__" sEq f fd) (T : Kt mg) (Z : Tc K C) (Y : Ti K C) (mT : mg "Table" = some (.ref C)) : FnOk P w K mg base CX0 1 f fd ["self", "other"] (spEqT K C) := by
  refine F.ok scEqT (fun vs H Q E h => ?_) (fun cdv A outer s H vs Q E hr h => ?_)
  · obtain ⟨o, y, ss, fs, rfl, _⟩ := h
    rfl
  · obtain ⟨o, y, ss, fs, rfl, A1, hn, q⟩ := h
    have hu64 := Nat.lt_of_le_of_lt (Nat.add_le_add_left (by decide : 64 ≤ 16 * 0 + 200) _) (Nat.lt_of_le_of_lt (Nat.le_of_eq (Nat.add_assoc _ _ _).symm) hr.un)
    refine ⟨_, pss_one (ps_ret (pe_and (pe_callB call_isi (by rfl) T.nIsi (by decide +kernel) (pa_cons (pv 1) (pa_cons (pe_glob (v := .ref C) rfl mT rfl) pa_nil))) (pe_one (pe_cmpR (op_eqD hu64) (pe_fld (pv 0) rfl) (pe_fld (pv 1) rfl) (nomark _))))), ?_⟩
    rcases q with ⟨o2, ss2, fs2, rfl, A2, hn2, q⟩ | ⟨t, ty, k, q⟩
    · obtain ⟨dx, p, g, d, ys, h1, h2, h3, h4⟩ := A1
      obtain ⟨dx2, p2, g2, d2, ys2, k1, k2, k3, k4⟩ := A2
      refine ⟨_, rfl, _, _, _, _, true, rfl, .own C, .base (.ins k1 Z.cl Y.ca Y.cn Y.ct Y.cm), own_kit, true, rfl, ?_⟩
      refine ⟨_, rfl, o, C, dx, _, .ref p, rfl, h1, Z.cl, Z.nR, rfl, _, rfl, o2, C, dx2, _, .ref p2, rfl, k1, Z.cl, Z.nR, rfl, _, _, .tup (SqT.of h2) (h3.data row_data), .tup (SqT.of k2) (k3.data row_data),
        (rows_shaped ss fun x hx => name_ok (hn x hx)).2, (rows_shaped ss2 fun x hx => name_ok (hn2 x hx)).2, ?_⟩
      have e : PyData.eqv (.tuple (ss.map fun r => .tuple (rowD r))) (.tuple (ss2.map fun r => .tuple (rowD r))) = decide (ss = ss2) := by
        rw [← rows_eqv]
        simp only [PyData.eqv]
      rw [e]
      exact q
    · exact ⟨_, rfl, _, _, _, _, false, rfl, .own C, ty, k, false, rfl, q⟩
end
end K01

namespace Rng
open PySem L2 Bag Gd
theorem len1 {α : Type} : ∀ {xs : List α}, xs.length = 1 → ∃ a, xs = [a]
  | [a], _ => ⟨a, rfl⟩
theorem len2 {α : Type} : ∀ {xs : List α}, xs.length = 2 → ∃ a b, xs = [a, b]
  | [a, b], _ => ⟨a, b, rfl⟩
theorem len3 {α : Type} : ∀ {xs : List α}, xs.length = 3 → ∃ a b c, xs = [a, b, c]
  | [a, b, c], _ => ⟨a, b, c, rfl⟩
theorem len4 {α : Type} : ∀ {xs : List α}, xs.length = 4 → ∃ a b c d, xs = [a, b, c, d]
  | [a, b, c, d], _ => ⟨a, b, c, d, rfl⟩
theorem len5 {α : Type} : ∀ {xs : List α}, xs.length = 5 → ∃ a b c d e, xs = [a, b, c, d, e]
  | [a, b, c, d, e], _ => ⟨a, b, c, d, e, rfl⟩
theorem len6 {α : Type} : ∀ {xs : List α}, xs.length = 6 → ∃ a b c d e f, xs = [a, b, c, d, e, f]
  | [a, b, c, d, e, f], _ => ⟨a, b, c, d, e, f, rfl⟩
theorem FnOk_toR {P : Program} {w : World} {K : PySem.W.Frag} {mg : Str → Option Value} {base : Heap} {k : Nat} {f : Addr} {fd : FuncData} {ps : List Str} {sp : Sp} (F : FnOk P w K mg base CX0 k f fd ps sp) (hb : Binds K fd ps []) : FnR P w K mg base CX0 k f sp :=
  (F.raw hb .nil).imp fun vs H Q E h => by rw [List.append_nil]; exact h
/-! ### what is shown -/
def rowsD (ss : List Row) : List PyData := ss.map fun r => .tuple (rowD r)
def shownD (ss : List Row) (fs : List Str) : PyData := .list [.tuple (rowsD ss), .tuple (fs.map .str), .int ss.length, .list (rowsD ss), .str (titleOf ss.length), .bool ((ss.length : Int) != 0), .list (ss.map fun _ => .bool true)]
/-- numbers that are shown in short -/
def Lim (rs : List Row) : Prop := ∀ r ∈ rs, r.2.1.natAbs < 2 ^ 100 ∧ r.2.2.natAbs < 2 ^ 100
theorem int_short {i : Int} (h : i.natAbs < 2 ^ 100) : PyData.leavesShort 201 (.int i) = true ∧ PyData.showable (.int i) = true ∧ (PyData.int i).weight ≤ 101 := by
  have l : i.natAbs.log2 < 101 := by
    by_cases z : i.natAbs = 0
    · rw [z]; decide
    · exact (Nat.log2_lt z).mpr (Nat.lt_of_lt_of_le h (by decide))
  refine ⟨?_, ?_, ?_⟩
  · have e := int_text_length_le (k := 101) (by decide) l
    unfold PyData.leavesShort
    refine decide_eq_true ?_
    show (Str.ofString (toString i)).length ≤ 201
    rw [ofString_length]
    omega
  · unfold PyData.showable
    exact decide_eq_true (by omega)
  · unfold PyData.weight
    split <;> omega
theorem name_short {z : Str} (h : isName z = true) : PyData.leavesShort 201 (.str z) = true ∧ PyData.showable (.str z) = true ∧ (PyData.str z).weight ≤ 8 := by
  have h0 := name_ok h
  unfold isName at h
  simp only [Bool.and_eq_true, decide_eq_true_eq] at h
  refine ⟨?_, by unfold PyData.showable; rfl, ?_⟩
  · unfold PyData.leavesShort
    unfold PyData.strOk at h0
    rw [← Array.all_toList, List.all_eq_true] at h0
    exact List.all_eq_true.mpr fun c hc => decide_eq_true (Nat.lt_of_lt_of_le (of_decide_eq_true (h0 c hc)) (by decide))
  · unfold PyData.weight
    exact h.1
theorem rows_short : ∀ {ss : List Row}, (∀ r ∈ ss, isName r.1 = true) → Lim ss → PyData.leavesShortAll 201 (rowsD ss) = true ∧ PyData.showableAll (rowsD ss) = true ∧ PyData.weightAll (rowsD ss) ≤ 214 * ss.length ∧ PyData.depthAll (rowsD ss) ≤ 1
  | [], _, _ => by simp [rowsD, PyData.leavesShortAll, PyData.showableAll, PyData.weightAll, PyData.depthAll]
  | r :: ss, hn, hl => by
    obtain ⟨a1, a2, a3, a4⟩ := rows_short (ss := ss) (fun x hx => hn x (List.mem_cons_of_mem _ hx)) fun x hx => hl x (List.mem_cons_of_mem _ hx)
    obtain ⟨n1, n2, n3⟩ := name_short (hn r List.mem_cons_self)
    obtain ⟨l1, l2⟩ := hl r List.mem_cons_self
    obtain ⟨t1, t2, t3⟩ := int_short l1
    obtain ⟨v1, v2, v3⟩ := int_short l2
    have e : rowsD (r :: ss) = .tuple [.str r.1, .int r.2.1, .int r.2.2] :: rowsD ss := rfl
    rw [e]
    refine ⟨?_, ?_, ?_, ?_⟩
    · rw [PyData.leavesShortAll, a1, PyData.leavesShort, PyData.leavesShortAll, PyData.leavesShortAll, PyData.leavesShortAll, PyData.leavesShortAll, n1, t1, v1]
      rfl
    · rw [PyData.showableAll, a2, PyData.showable, PyData.showableAll, PyData.showableAll, PyData.showableAll, PyData.showableAll, n2, t2, v2]
      rfl
    · rw [PyData.weightAll, PyData.weight, PyData.weightAll, PyData.weightAll, PyData.weightAll, PyData.weightAll, List.length_cons]
      omega
    · rw [PyData.depthAll, PyData.depth, PyData.depthAll, PyData.depthAll, PyData.depthAll, PyData.depthAll, PyData.depth, PyData.depth, PyData.depth]
      omega
theorem strs_short : ∀ {fs : List Str}, (∀ z ∈ fs, isName z = true) → PyData.leavesShortAll 201 (fs.map .str) = true ∧ PyData.showableAll (fs.map .str) = true ∧ PyData.weightAll (fs.map .str) ≤ 9 * fs.length ∧ PyData.depthAll (fs.map .str) ≤ 0
  | [], _ => by simp [PyData.leavesShortAll, PyData.showableAll, PyData.weightAll, PyData.depthAll]
  | z :: fs, hn => by
    obtain ⟨a1, a2, a3, a4⟩ := strs_short (fs := fs) fun x hx => hn x (List.mem_cons_of_mem _ hx)
    obtain ⟨n1, n2, n3⟩ := name_short (hn z List.mem_cons_self)
    rw [List.map_cons]
    refine ⟨by rw [PyData.leavesShortAll, a1, n1]; rfl, by rw [PyData.showableAll, a2, n2]; rfl, ?_, ?_⟩
    · rw [PyData.weightAll, List.length_cons]
      omega
    · rw [PyData.depthAll, PyData.depth]
      omega
theorem trues_short (ss : List Row) : PyData.leavesShortAll 201 (ss.map fun _ => .bool true) = true ∧ PyData.showableAll (ss.map fun _ => .bool true) = true ∧ PyData.weightAll (ss.map fun _ => .bool true) ≤ ss.length ∧ PyData.depthAll (ss.map fun _ => .bool true) ≤ 0 := by
  induction ss with
  | nil => simp [PyData.leavesShortAll, PyData.showableAll, PyData.weightAll, PyData.depthAll]
  | cons r ss ih =>
    obtain ⟨a1, a2, a3, a4⟩ := ih
    rw [List.map_cons]
    refine ⟨by rw [PyData.leavesShortAll, a1, PyData.leavesShort]; rfl, by rw [PyData.showableAll, a2, PyData.showable]; rfl, ?_, ?_⟩
    · rw [PyData.weightAll, PyData.weight, List.length_cons]
      omega
    · rw [PyData.depthAll, PyData.depth]
      omega
theorem title_short {n : Nat} (h : n ≤ 1000) : PyData.leavesShort 201 (.str (titleOf n)) = true ∧ PyData.showable (.str (titleOf n)) = true ∧ (PyData.str (titleOf n)).weight ≤ 100 := by
  have all : ∀ n : Nat, n ≤ 1000 → (titleOf n).cps.toList.all (fun c => decide (c < 16 ^ 8)) = true ∧ (titleOf n).cps.size ≤ 100 := by
    intro n hn
    have lt : n < 1001 := by omega
    have key : ∀ m : Fin 1001, (titleOf m.val).cps.toList.all (fun c => decide (c < 16 ^ 8)) = true ∧ (titleOf m.val).cps.size ≤ 100 := by decide +kernel
    exact key ⟨n, lt⟩
  obtain ⟨h1, h2⟩ := all n h
  exact ⟨by unfold PyData.leavesShort; exact h1, by unfold PyData.showable; rfl, by unfold PyData.weight; exact h2⟩
theorem shown_fits {ss : List Row} {fs : List Str} (hl : ss.length ≤ 100) (hf : fs.length ≤ 100) (hn : ∀ r ∈ ss, isName r.1 = true) (hz : ∀ z ∈ fs, isName z = true) (lim : Lim ss) : Fits 80000 40 (shownD ss fs) := by
  obtain ⟨a1, a2, a3, a4⟩ := rows_short hn lim
  obtain ⟨b1, b2, b3, b4⟩ := strs_short hz
  obtain ⟨c1, c2, c3, c4⟩ := trues_short ss
  obtain ⟨d1, d2, d3⟩ := title_short (n := ss.length) (by omega)
  obtain ⟨i1, i2, i3⟩ := int_short (i := (ss.length : Int)) (by
    have e : ((ss.length : Nat) : Int).natAbs = ss.length := rfl
    rw [e]
    exact Nat.lt_of_le_of_lt hl (by decide))
  unfold shownD
  refine ⟨?_, ?_, ?_, ?_⟩
  · simp only [PyData.leavesShort, PyData.leavesShortAll] at d1 i1 ⊢
    simp only [a1, b1, c1, d1, i1, Bool.and_self, Bool.and_true]
  · simp only [PyData.showable, PyData.showableAll] at i2 ⊢
    simp only [a2, b2, c2, i2, Bool.and_self, Bool.and_true]
  · rw [PyData.weight]
    simp only [PyData.weightAll]
    rw [show (PyData.tuple (rowsD ss)).weight = PyData.weightAll (rowsD ss) by rw [PyData.weight], show (PyData.tuple (fs.map .str)).weight = PyData.weightAll (fs.map .str) by rw [PyData.weight], show (PyData.list (rowsD ss)).weight = PyData.weightAll (rowsD ss) by rw [PyData.weight],
      show (PyData.list (ss.map fun _ => .bool true)).weight = PyData.weightAll (ss.map fun _ => .bool true) by rw [PyData.weight], show (PyData.bool ((ss.length : Int) != 0)).weight = 0 by rw [PyData.weight]]
    omega
  · simp only [PyData.depth, PyData.depthAll]
    omega
def spShown (C : Addr) : Sp := fun vs H Q _ => ∃ (o : Addr) (ss : List Row) (fs : List Str), vs = [.ref o] ∧ TabAt C H o ss fs ∧ (∀ r ∈ ss, isName r.1 = true) ∧ ss.length ≤ 100 ∧ fs.length ≤ 100 ∧ (∀ z ∈ fs, isName z = true) ∧ Lim ss ∧ ∀ H', Same H H' → Q (.str (shownD ss fs).shown) H'
theorem dps_strs {K : PySem.W.Frag} {H : Hp} : ∀ fs : List Str, DpAll K H (fs.map V.str) (fs.map .str)
  | [] => .nil
  | z :: fs => .cons (.str z) (dps_strs fs)
theorem dps_trues {K : PySem.W.Frag} {H : Hp} : ∀ ss : List Row, DpAll K H (ss.map fun _ => V.bl true) (ss.map fun _ => .bool true)
  | [] => .nil
  | _ :: ss => .cons (.bl true) (dps_trues ss)
end Rng
namespace K01
open PySem L2 Rng Bag Gd
section
variable {P : Program} {w : World} {K : PySem.W.Frag} {mg : Str → Option Value} {base : Heap}
abbrev sLawTable : Stmt := top 22
abbrev sShown : Stmt := top 23
theorem scLawTable : FnScope ["_law_lines_here"] ["_law_lines_here"] (defScope sLawTable) := ⟨rfl, rfl, rfl, by decide +kernel, rfl, by decide +kernel, by decide +kernel⟩
theorem kb_of {f : Addr} {fd : FuncData} (F : Fun K "of" "Table.of" sOf f fd) : KBn K fd ["rows"] 0 ["rows"] (fun _ ws => ws) (fun _ zs => zs) := by
  obtain ⟨oc, od, kV, doc, pm, an, cdv, ct, osl, rfl, lk, hcd⟩ := F.ex
  refine ⟨fun s us ws X h1 h2 => ?_, fun _ r2 => r2⟩
  match us, ws, h1, h2 with
  | [], [w], _, _ => exact .of_eq rfl
theorem ok_table {f f0 fF pF C : Addr} {mc : Value} {fd dF : FuncData} (F : Fun K "_law_table" "_law_table" sLawTable f fd) (T : Kt mg) (mT : mg "Table" = some (.ref C)) (M : Mk K C f0) (GI : FnR P w K mg base CX0 4 f0 (spStar C)) (R : ClX.CRead K C mc) (S : Mk1.SMet K C mc "of" pF fF) (FF : Fun K "of" "Table.of" sOf fF dF) :
    FnOk P w K mg base CX0 7 f fd ["_law_lines_here"] (spTable C) := by
  have GO : FnOk P w K mg base CX0 6 fF dF ["rows"] (spOf C) := ok_of FF T mT M GI
  refine F.ok scLawTable (fun vs H Q E h => ?_) (fun cdv A outer s H vs Q E hr h => ?_)
  · obtain ⟨l, xs, rs, rfl, _⟩ := h
    rfl
  · obtain ⟨l, xs, rs, rfl, hl, tr, G, q⟩ := h
    have hr5 : Room 5 _ := hr.mono (by decide)
    refine ⟨_, pss_cons (ps_if (pt_cmpR op_eq (pe_callB call_len_seq (by rfl) T.nLen PySem.boot_len (pa_cons (pv 0) pa_nil)) pe_int (nomark _)) (pss_one (ps_ret (Mk1.pe_makeR0 M GI hr5 rfl mT pass0))) pss_nil)
      (pss_cons (ps_if (pt_cmpR op_eq (pe_callB call_len_seq (by rfl) T.nLen PySem.boot_len (pa_cons (pv 0) pa_nil)) pe_int (nomark _)) (pss_one (ps_ret (StX.pe_makeR M GI hr5 rfl mT pass0 (pa_cons (pe_ix ix_list (pv 0) pe_int (fun _ _ => rfl)) pa_nil)))) pss_nil)
      (pss_cons (ps_if (pt_cmpR op_eq (pe_callB call_len_seq (by rfl) T.nLen PySem.boot_len (pa_cons (pv 0) pa_nil)) pe_int (nomark _)) (pss_one (ps_ret (StX.pe_makeR M GI hr5 rfl mT pass0 (pa_cons (pe_ix ix_list (pv 0) pe_int (fun _ _ => rfl)) (pa_cons (pe_ix ix_list (pv 0) pe_int (fun _ _ => rfl)) pa_nil))))) pss_nil)
      (pss_cons (ps_if (pt_cmpR op_eq (pe_callB call_len_seq (by rfl) T.nLen PySem.boot_len (pa_cons (pv 0) pa_nil)) pe_int (nomark _)) (pss_one (ps_ret (StX.pe_makeR M GI hr5 rfl mT pass0 (pa_cons (pe_ix ix_list (pv 0) pe_int (fun _ _ => rfl)) (pa_cons (pe_ix ix_list (pv 0) pe_int (fun _ _ => rfl)) (pa_cons (pe_ix ix_list (pv 0) pe_int (fun _ _ => rfl)) pa_nil)))))) pss_nil)
      (pss_cons (ps_if (pt_cmpR op_eq (pe_callB call_len_seq (by rfl) T.nLen PySem.boot_len (pa_cons (pv 0) pa_nil)) pe_int (nomark _)) (pss_one (ps_ret (StX.pe_makeR M GI hr5 rfl mT pass0 (pa_cons (pe_ix ix_list (pv 0) pe_int (fun _ _ => rfl)) (pa_cons (pe_ix ix_list (pv 0) pe_int (fun _ _ => rfl)) (pa_cons (pe_ix ix_list (pv 0) pe_int (fun _ _ => rfl)) (pa_cons (pe_ix ix_list (pv 0) pe_int (fun _ _ => rfl)) pa_nil))))))) pss_nil)
      (pss_cons (ps_if (pt_cmpR op_eq (pe_callB call_len_seq (by rfl) T.nLen PySem.boot_len (pa_cons (pv 0) pa_nil)) pe_int (nomark _)) (pss_one (ps_ret (StX.pe_makeR M GI hr5 rfl mT pass0 (pa_cons (pe_ix ix_list (pv 0) pe_int (fun _ _ => rfl)) (pa_cons (pe_ix ix_list (pv 0) pe_int (fun _ _ => rfl)) (pa_cons (pe_ix ix_list (pv 0) pe_int (fun _ _ => rfl)) (pa_cons (pe_ix ix_list (pv 0) pe_int (fun _ _ => rfl)) (pa_cons (pe_ix ix_list (pv 0) pe_int (fun _ _ => rfl)) pa_nil)))))))) pss_nil)
      (pss_cons (ps_if (pt_cmpR op_eq (pe_callB call_len_seq (by rfl) T.nLen PySem.boot_len (pa_cons (pv 0) pa_nil)) pe_int (nomark _)) (pss_one (ps_ret (StX.pe_makeR M GI hr5 rfl mT pass0 (pa_cons (pe_ix ix_list (pv 0) pe_int (fun _ _ => rfl)) (pa_cons (pe_ix ix_list (pv 0) pe_int (fun _ _ => rfl)) (pa_cons (pe_ix ix_list (pv 0) pe_int (fun _ _ => rfl)) (pa_cons (pe_ix ix_list (pv 0) pe_int (fun _ _ => rfl)) (pa_cons (pe_ix ix_list (pv 0) pe_int (fun _ _ => rfl)) (pa_cons (pe_ix ix_list (pv 0) pe_int (fun _ _ => rfl)) pa_nil))))))))) pss_nil)
      (pss_one (ps_ret (Mk1.pe_smethK (pe_glob (v := .ref C) rfl mT rfl) R S GO hr (kb_of FF) pass0 (pk_cons (pe_callTy call_tuple_of (by rfl) T.nTuple (by decide +kernel) (pa_cons (pv 0) pa_nil)) pk_nil)))))))))), ?_⟩
    refine ⟨_, rfl, l, xs, rfl, .inl (SqL.of hl), rfl, _, rfl, ite2 (fun c => ?_) (fun c => ?_)⟩
    · have e : xs.length = 0 := by
        have z : V.int xs.length = V.int 0 := of_decide_eq_true c
        injection z with z
        omega
      obtain rfl := List.length_eq_zero_iff.mp e
      exact made_at tr G q
    refine ⟨_, rfl, l, xs, rfl, .inl (SqL.of hl), rfl, _, rfl, ite2 (fun c => ?_) (fun c => ?_)⟩
    · have e : xs.length = 1 := by
        have z : V.int xs.length = V.int 1 := of_decide_eq_true c
        injection z with z
        omega
      obtain ⟨xa, rfl⟩ := len1 e
      exact ⟨_, rfl, l, _, 0, xa, rfl, rfl, SqL.of hl, atI_nat (j := 0) rfl, made_at tr G q⟩
    refine ⟨_, rfl, l, xs, rfl, .inl (SqL.of hl), rfl, _, rfl, ite2 (fun c => ?_) (fun c => ?_)⟩
    · have e : xs.length = 2 := by
        have z : V.int xs.length = V.int 2 := of_decide_eq_true c
        injection z with z
        omega
      obtain ⟨xa, xb, rfl⟩ := len2 e
      exact ⟨_, rfl, l, _, 0, xa, rfl, rfl, SqL.of hl, atI_nat (j := 0) rfl, _, rfl, l, _, 1, xb, rfl, rfl, SqL.of hl, atI_nat (j := 1) rfl, made_at tr G q⟩
    refine ⟨_, rfl, l, xs, rfl, .inl (SqL.of hl), rfl, _, rfl, ite2 (fun c => ?_) (fun c => ?_)⟩
    · have e : xs.length = 3 := by
        have z : V.int xs.length = V.int 3 := of_decide_eq_true c
        injection z with z
        omega
      obtain ⟨xa, xb, xc, rfl⟩ := len3 e
      exact ⟨_, rfl, l, _, 0, xa, rfl, rfl, SqL.of hl, atI_nat (j := 0) rfl, _, rfl, l, _, 1, xb, rfl, rfl, SqL.of hl, atI_nat (j := 1) rfl, _, rfl, l, _, 2, xc, rfl, rfl, SqL.of hl, atI_nat (j := 2) rfl, made_at tr G q⟩
    refine ⟨_, rfl, l, xs, rfl, .inl (SqL.of hl), rfl, _, rfl, ite2 (fun c => ?_) (fun c => ?_)⟩
    · have e : xs.length = 4 := by
        have z : V.int xs.length = V.int 4 := of_decide_eq_true c
        injection z with z
        omega
      obtain ⟨xa, xb, xc, xd, rfl⟩ := len4 e
      exact ⟨_, rfl, l, _, 0, xa, rfl, rfl, SqL.of hl, atI_nat (j := 0) rfl, _, rfl, l, _, 1, xb, rfl, rfl, SqL.of hl, atI_nat (j := 1) rfl, _, rfl, l, _, 2, xc, rfl, rfl, SqL.of hl, atI_nat (j := 2) rfl, _, rfl, l, _, 3, xd, rfl, rfl, SqL.of hl, atI_nat (j := 3) rfl, made_at tr G q⟩
    refine ⟨_, rfl, l, xs, rfl, .inl (SqL.of hl), rfl, _, rfl, ite2 (fun c => ?_) (fun c => ?_)⟩
    · have e : xs.length = 5 := by
        have z : V.int xs.length = V.int 5 := of_decide_eq_true c
        injection z with z
        omega
      obtain ⟨xa, xb, xc, xd, xe, rfl⟩ := len5 e
      exact ⟨_, rfl, l, _, 0, xa, rfl, rfl, SqL.of hl, atI_nat (j := 0) rfl, _, rfl, l, _, 1, xb, rfl, rfl, SqL.of hl, atI_nat (j := 1) rfl, _, rfl, l, _, 2, xc, rfl, rfl, SqL.of hl, atI_nat (j := 2) rfl, _, rfl, l, _, 3, xd, rfl, rfl, SqL.of hl, atI_nat (j := 3) rfl, _, rfl, l, _, 4, xe, rfl, rfl, SqL.of hl, atI_nat (j := 4) rfl, made_at tr G q⟩
    refine ⟨_, rfl, l, xs, rfl, .inl (SqL.of hl), rfl, _, rfl, ite2 (fun c => ?_) (fun c => ?_)⟩
    · have e : xs.length = 6 := by
        have z : V.int xs.length = V.int 6 := of_decide_eq_true c
        injection z with z
        omega
      obtain ⟨xa, xb, xc, xd, xe, xf, rfl⟩ := len6 e
      exact ⟨_, rfl, l, _, 0, xa, rfl, rfl, SqL.of hl, atI_nat (j := 0) rfl, _, rfl, l, _, 1, xb, rfl, rfl, SqL.of hl, atI_nat (j := 1) rfl, _, rfl, l, _, 2, xc, rfl, rfl, SqL.of hl, atI_nat (j := 2) rfl, _, rfl, l, _, 3, xd, rfl, rfl, SqL.of hl, atI_nat (j := 3) rfl, _, rfl, l, _, 4, xe, rfl, rfl, SqL.of hl, atI_nat (j := 4) rfl, _, rfl, l, _, 5, xf, rfl, rfl, SqL.of hl, atI_nat (j := 5) rfl, made_at tr G q⟩
    refine ⟨rfl, _, rfl, l, xs, rfl, .inl ⟨SqL.of hl, fun t nt => ⟨rfl, t, xs, rs, rfl, upd_same, tr.same (same_put nt), G, ?_⟩⟩⟩
    exact fun o ss fs H2 a b c d => q o ss fs H2 a b (by
      by_cases z : o = t
      · rw [z, upd_same] at c; cases c
      · rwa [upd_ne z] at c) ((same_put nt).trans d)
theorem scShown : FnScope ["_law_sheet", "_law_told", "_law_line"] ["_law_sheet"] (defScope sShown) := ⟨rfl, rfl, rfl, by decide +kernel, rfl, by decide +kernel, by decide +kernel⟩
/-- the built-in names of the law's own defs -/
structure Bl (mg : Str → Option Value) : Prop where
  nList : mg "list" = none
  nRepr : mg "repr" = none
  nSet : mg "set" = none
theorem ok_shown {f fL fP fI C : Addr} {fd : FuncData} (F : Fun K "_law_shown" "_law_shown" sShown f fd) (T : Kt mg) (B : Bl mg) (Z : Tc K C) (dL : Own1.Dun K C "__len__" fL) (GL : FnR P w K mg base CX0 1 fL (spLenT C)) (dP : Own1.Dun K C "__repr__" fP) (GP : FnR P w K mg base CX0 1 fP (spReprT C))
    (dI : Own1.Dun K C "__contains__" fI) (GI : FnR P w K mg base CX0 4 fI (spInT K C)) (nb : PySem.W.findIn K (.ref C) "__bool__" = some none) : FnG P w K mg base 5 f fd ["_law_sheet"] (spShown C) := by
  refine F.okG scShown (fun vs H Q E h => ?_) (fun cdv A outer s H vs Q E gq hr h => ?_)
  · obtain ⟨o, ss, fs, rfl, _⟩ := h
    rfl
  · obtain ⟨o, ss, fs, rfl, T0, hn, hl, hf, hz, lim, q⟩ := h
    have hr2 : Room 2 _ := hr.mono (by decide)
    have hu64 := Nat.lt_of_le_of_lt (Nat.add_le_add_left (by decide : 64 ≤ 16 * 4 + 200) _) (Nat.lt_of_le_of_lt (Nat.le_of_eq (Nat.add_assoc _ _ _).symm) hr.un)
    refine ⟨_, pss_cons (ps_set (i := 1) scShown.nd rfl (Or.inl rfl) (pe_lst (pa_cons (pe_fld (pv 0) rfl) (pa_cons (pe_fld (pv 0) rfl) (pa_cons (pe_callB (Own1.call_lenO dL GL hr2 pass0) (by rfl) T.nLen PySem.boot_len (pa_cons (pv 0) pa_nil))
        (pa_cons (pe_callTy call_list_of (by rfl) B.nList (by decide +kernel) (pa_cons (pe_fld (pv 0) rfl) pa_nil)) (pa_cons (pe_callB (Own1.call_reprO dP GP hr2 pass0) (by rfl) B.nRepr (by decide +kernel) (pa_cons (pv 0) pa_nil))
        (pa_cons (pe_callTy (Own1.call_boolO nb dL GL hr pass0) (by rfl) T.nBool (by decide +kernel) (pa_cons (pv 0) pa_nil)) pa_nil))))))))
      (pss_one (ps_ret (pe_callB (cr_repr gq hu64) (by rfl) B.nRepr (by decide +kernel) (pa_cons (pe_op op_cat (pv 1) (pe_lst (pa_cons
        (pe_lc (own := [("_law_line", 2)]) (g := gName 2) (tt := tYes) rfl scShown.nd (pi_tup (pe_fld (pv 0) rfl)) (blkOk_by (own := [("_law_line", 2)]) (N := ["_law_sheet", "_law_told", "_law_line"]) (sc := defScope sShown) (by decide +kernel)) (fun _ _ _ _ _ => pg_name (i := 2) scShown.nd rfl (Or.inl rfl)) (fun _ _ _ _ _ => pts_nil)
          (fun _ _ _ _ _ => pe_cmpR (Own1.op_inO dI GI hr pass0) (pv 2) (pv 0) (by rfl))) pa_nil))) pa_nil)))), ?_⟩
    obtain ⟨dx, p, g, d, ys, h1, h2, h3, h4⟩ := id T0
    refine ⟨_, rfl, o, C, dx, _, .ref p, rfl, h1, Z.cl, Z.nR, rfl, _, rfl, o, C, dx, _, .ref g, rfl, h1, Z.cl, Z.nF, rfl, _, rfl, o, dx, _, rfl, h1, o, ss, fs, rfl, T0, ss.length, rfl, by omega, ?_⟩
    refine ⟨_, rfl, o, C, dx, _, .ref p, rfl, h1, Z.cl, Z.nR, rfl, p, ys, rfl, .inr (SqT.of h2), fun l nl => ?_⟩
    have T1 := T0.same (same_put (o := .lst ys) nl)
    have h1' := (same_put (o := .lst ys) nl) _ _ h1
    refine ⟨_, rfl, o, dx, _, rfl, h1', o, ss, fs, rfl, T1, by omega, titleOf ss.length, rfl, _, rfl, o, dx, _, rfl, h1', o, ss, fs, rfl, T1, ss.length, rfl, by omega, (by show 6 ≤ sizeLine; decide), fun td ntd => ?_⟩
    have s2 : Same H (upd (upd H l (.lst ys)) td (.lst [.ref p, .ref g, .int ss.length, .ref l, .str (titleOf ss.length), .bl ((ss.length : Int) != 0)])) := (same_put nl).trans (same_put ntd)
    have l2 : (upd (upd H l (.lst ys)) td (.lst [.ref p, .ref g, .int ss.length, .ref l, .str (titleOf ss.length), .bl ((ss.length : Int) != 0)])) l = some (.lst ys) := (same_put ntd) _ _ upd_same
    have t2 : (upd (upd H l (.lst ys)) td (.lst [.ref p, .ref g, .int ss.length, .ref l, .str (titleOf ss.length), .bl ((ss.length : Int) != 0)])) td = some (.lst [.ref p, .ref g, .int ss.length, .ref l, .str (titleOf ss.length), .bl ((ss.length : Int) != 0)]) := upd_same
    revert s2 l2 t2
    generalize upd (upd H l (.lst ys)) td (.lst [.ref p, .ref g, .int ss.length, .ref l, .str (titleOf ss.length), .bl ((ss.length : Int) != 0)]) = H2
    intro s2 l2 t2
    refine ⟨_, rfl, _, rfl, o, C, dx, _, .ref p, rfl, s2 _ _ h1, Z.cl, Z.nR, rfl, p, rfl, ⟨_, SqT.of (s2 _ _ h2)⟩, fun D nD => lc_it (walk_tup (K := K) (a := p) (xs := ys)) (fun i H' => Same H2 H' ∧ H' D = some (.lst ((ss.take i).map fun _ => V.bl true))) ⟨same_put nD, upd_same⟩ (fun _ _ _ h => SqT.of (h.1 _ _ (s2 _ _ h2))) ?_ ?_⟩
    · rintro i x Ha Hb hi ⟨sa, ea⟩ ⟨rfl, hx⟩
      obtain ⟨r, c, hr', rfl, hc⟩ := (h3.same s2).get hx
      have Tb := (T0.same s2).same sa
      refine ⟨rfl, _, rfl, _, rfl, o, dx, _, rfl, sa _ _ (s2 _ _ h1), o, .ref c, ss, fs, rfl, Tb, hn, .inr ⟨c, r, rfl, sa _ _ hc, hn r (List.mem_of_getElem? hr'), fun H5 s5 => ⟨_, rfl, ?_⟩⟩⟩
      rw [decide_eq_true (List.mem_of_getElem? hr')]
      refine ⟨_, s5 _ _ ea, ?_, ?_, ?_⟩
      · rw [List.length_map, List.length_take]
        exact small1000 (by omega)
      · intro a o e
        rw [upd_ne (ne_of_none e nD)]
        exact s5 _ _ (sa a o e)
      · rw [upd_same, List.take_add_one, hr', List.map_append]
        rfl
    · rintro H3 ⟨s3, e3⟩
      rw [h3.len, List.take_length] at e3
      refine ⟨(by show 1 ≤ sizeLine; decide), fun l4 n4 => ?_⟩
      refine ⟨td, l4, _, _, rfl, rfl, (same_put n4) _ _ (s3 _ _ t2), upd_same, (by show 7 ≤ sizeLine; decide), fun pp npp => ?_⟩
      have s9 : Same H (upd (upd H3 l4 (.lst [V.ref D])) pp (.lst ([.ref p, .ref g, .int ss.length, .ref l, .str (titleOf ss.length), .bl ((ss.length : Int) != 0)] ++ [V.ref D]))) := s2.trans (s3.trans ((same_put n4).trans (same_put npp)))
      have a9 := ((same_put (o := .lst [V.ref D]) n4).trans (same_put (o := .lst ([.ref p, .ref g, .int ss.length, .ref l, .str (titleOf ss.length), .bl ((ss.length : Int) != 0)] ++ [V.ref D])) npp))
      have l9 := a9 _ _ (s3 _ _ l2)
      have d9 := a9 _ _ e3
      refine ⟨_, shownD ss fs, rfl, .lst (SqL.of upd_same) (.cons (.tup (SqT.of (s9 _ _ h2)) ((h3.same s9).data row_data)) (.cons (.tup (SqT.of (s9 _ _ h4)) (dps_strs fs)) (.cons (.int _) (.cons (.lst (SqL.of l9) ((h3.same s9).data row_data)) (.cons (.str _) (.cons (.bl _) (.cons (.lst (SqL.of d9) (dps_trues ss)) .nil))))))), shown_fits hl hf hn hz lim, q _ s9⟩
end
end K01

namespace Rng
open PySem L2 Bag Gd
theorem not_lt_tr {x y z : List Nat} (h1 : ¬ y < x) (h2 : ¬ z < y) : ¬ z < x := fun h => by
  rcases Classical.em (x = y) with e | e
  · exact h2 (e ▸ h)
  · have : x < y := by
      rcases Classical.em (x < y) with c | c
      · exact c
      · exact absurd (List.le_antisymm (List.not_lt.mp h1) (List.not_lt.mp c)) e
    exact h2 (List.lt_trans h this)
theorem ltCps_is (a b : List Nat) : PySem.Spec.ltCps a b = decide (a < b) := PyProof.Rows.ltCps_eq a b
theorem rising_pw : ∀ (p : Str) (l : List Str), PyProof.Rows.risingS p l = true → (p :: l).Pairwise fun a b => ¬ b.cps.toList < a.cps.toList
  | p, [], _ => List.pairwise_singleton _ _
  | p, x :: l, h => by
    unfold PyProof.Rows.risingS at h
    rw [Bool.and_eq_true, ltCps_is] at h
    have h1 : ¬ x.cps.toList < p.cps.toList := by simpa using h.1
    have ih := rising_pw x l h.2
    refine List.pairwise_cons.mpr ⟨fun y hy => ?_, ih⟩
    rcases List.mem_cons.mp hy with rfl | hy
    · exact h1
    · exact not_lt_tr h1 ((List.pairwise_cons.mp ih).1 y hy)
theorem sorted_pw {l : List Str} (h : PyProof.Rows.sortedS l = true) : l.Pairwise fun a b => ¬ b.cps.toList < a.cps.toList := by
  cases l with
  | nil => exact List.Pairwise.nil
  | cons x l => exact rising_pw x l h
theorem strs_one : ∀ {as bs : List Str}, as.Perm bs → (as.Pairwise fun a b => ¬ b.cps.toList < a.cps.toList) → (bs.Pairwise fun a b => ¬ b.cps.toList < a.cps.toList) → as = bs
  | [], bs, h, _, _ => (List.nil_perm.mp h).symm
  | a :: as, [], h, _, _ => absurd h.length_eq (by simp)
  | a :: as, b :: bs, h, ha, hb => by
    obtain ⟨a1, a2⟩ := List.pairwise_cons.mp ha
    obtain ⟨b1, b2⟩ := List.pairwise_cons.mp hb
    have e : a = b := by
      rcases List.mem_cons.mp (h.mem_iff.mp (List.mem_cons_self (a := a) (l := as))) with e | m1
      · exact e
      · rcases List.mem_cons.mp (h.mem_iff.mpr (List.mem_cons_self (a := b) (l := bs))) with e | m2
        · exact e.symm
        · rcases Classical.em (a = b) with e | n
          · exact e
          · exact ((txt_ne n).elim (b1 a m1) (a1 b m2)).elim
    subst e
    rw [strs_one h.cons_inv a2 b2]
theorem same_perm {α : Type} [DecidableEq α] {as bs : List α} (h : as.Perm bs) : (firsts as).Perm (firsts bs) :=
  (List.perm_ext_iff_of_nodup (firsts_nodup as) (firsts_nodup bs)).mpr fun k => by rw [mem_firsts, mem_firsts]; exact h.mem_iff
/-- what a table of rows has is one thing -/
theorem TabOf.one {rs rs' ss ss' : List Row} {fs fs' : List Str} (a : TabOf rs ss fs) (b : TabOf rs' ss' fs') (h : rs.Perm rs') : ss = ss' ∧ fs = fs' := by
  refine ⟨sorted_one (a.perm.trans (h.trans b.perm.symm)) a.ord b.ord, strs_one ?_ (sorted_pw a.ford) (sorted_pw b.ford)⟩
  exact a.fperm.trans ((same_perm (h.map _)).trans b.fperm.symm)
theorem TabOf.name {rs ss : List Row} {fs : List Str} (a : TabOf rs ss fs) (G : Good rs) : (∀ r ∈ ss, isName r.1 = true) ∧ (∀ z ∈ fs, isName z = true) ∧ ss.length ≤ 100 ∧ fs.length ≤ 100 := by
  refine ⟨fun r hr => G.nm r (a.perm.mem_iff.mp hr), fun z hz => ?_, by rw [a.perm.length_eq]; exact G.len, ?_⟩
  · have m := (mem_firsts _ _).mp (a.fperm.mem_iff.mp hz)
    obtain ⟨r, hr, rfl⟩ := List.mem_map.mp m
    exact G.nm r hr
  · rw [a.fperm.length_eq]
    have h1 := firsts_len _ (rs.map (·.1)) rfl
    rw [List.length_map] at h1
    exact Nat.le_trans h1 G.len
theorem Lim.perm {rs ss : List Row} (h : Lim rs) (p : ss.Perm rs) : Lim ss := fun r hr => h r (p.mem_iff.mp hr)
def spDue : Sp := fun vs H Q _ => ∃ (l : Addr) (us : List V) (rs : List Row), vs = [.ref l] ∧ H l = some (.lst us) ∧ TupsAt rowV H us rs ∧ Good rs ∧ Lim rs ∧ ∀ (ss : List Row) (fs : List Str) (H' : Hp), TabOf rs ss fs → Same H H' → Q (.str (shownD ss fs).shown) H'
theorem title_is (n : Nat) : (Str.ofString "Table(" ++ Str.ofString (toString (n : Int))) ++ Str.ofString " rows)" = titleOf n := rfl
theorem none_eqv (ss : List Row) : (!PyData.eqv (.list (ss.map fun r => .tuple (rowD r))) (.list [])) = ((ss.length : Int) != 0) := by
  cases ss with
  | nil => simp [PyData.eqv, PyData.eqvAll]
  | cons r ss =>
    have : ((r :: ss).length : Int) ≠ 0 := by rw [List.length_cons]; omega
    simp [PyData.eqv, PyData.eqvAll, this]
    omega
end Rng
namespace K01
open PySem L2 Rng Bag Gd
section
variable {P : Program} {w : World} {K : PySem.W.Frag} {mg : Str → Option Value} {base : Heap}
abbrev sDue : Stmt := top 24
theorem scDue : FnScope ["_law_lines_here", "_law_order", "_law_told", "_law_line"] ["_law_lines_here"] (defScope sDue) := ⟨rfl, rfl, rfl, by decide +kernel, rfl, by decide +kernel, by decide +kernel⟩
theorem ok_due {f : Addr} {fd : FuncData} (F : Fun K "_law_due" "_law_due" sDue f fd) (T : Kt mg) (B : Bl mg) (I : Bi mg) : FnG P w K mg base 1 f fd ["_law_lines_here"] spDue := by
  refine F.okG scDue (fun vs H Q E h => ?_) (fun cdv A outer s H vs Q E gq hr h => ?_)
  · obtain ⟨l, us, rs, rfl, _⟩ := h
    rfl
  · obtain ⟨l, us, rs, rfl, hl, tr, G, lim, q⟩ := h
    have hu64 := Nat.lt_of_le_of_lt (Nat.add_le_add_left (by decide : 64 ≤ 16 * 0 + 200) _) (Nat.lt_of_le_of_lt (Nat.le_of_eq (Nat.add_assoc _ _ _).symm) hr.un)
    refine ⟨_, pss_cons (ps_set (i := 1) scDue.nd rfl (Or.inl rfl) (pe_callB cr_sortRows (by rfl) I.nSorted (by decide +kernel) (pa_cons (pv 0) pa_nil)))
      (pss_cons (ps_set (i := 2) scDue.nd rfl (Or.inl rfl) (pe_lst (pa_cons (pe_callTy call_tuple_of (by rfl) T.nTuple (by decide +kernel) (pa_cons (pv 1) pa_nil))
        (pa_cons (pe_callTy call_tuple_of (by rfl) T.nTuple (by decide +kernel) (pa_cons (pe_callB (cr_sortBag rfl) (by rfl) I.nSorted (by decide +kernel) (pa_cons (pe_callTy (cr_setS rfl) (by rfl) B.nSet (by decide +kernel) (pa_cons
          (pe_lc (own := [("_law_line", 3)]) (g := gName 3) (tt := tYes) (te := tOp (rIxT K) (tVar 3) (tC (.int 0))) rfl scDue.nd (pi_list (pv 1)) (blkOk_by (own := [("_law_line", 3)]) (N := ["_law_lines_here", "_law_order", "_law_told", "_law_line"]) (sc := defScope sDue) (by decide +kernel)) (fun _ _ _ _ _ => pg_name (i := 3) scDue.nd rfl (Or.inl rfl)) (fun _ _ _ _ _ => pts_nil)
            (fun _ _ _ _ _ => pe_ix ix_tup (pv 3) pe_int (fun _ _ => rfl))) pa_nil)) pa_nil)) pa_nil))
        (pa_cons (pe_callB call_len_seq (by rfl) T.nLen PySem.boot_len (pa_cons (pv 1) pa_nil)) (pa_cons (pv 1) pa_nil))))))
      (pss_one (ps_ret (pe_callB (cr_repr gq hu64) (by rfl) B.nRepr (by decide +kernel) (pa_cons (pe_op op_cat (pv 2) (pe_lst (pa_cons (pe_op op_add_str (pe_op op_add_str pe_str (pe_callTy call_str_int (by rfl) T.nStr (by decide +kernel) (pa_cons (pe_callB call_len_seq (by rfl) T.nLen PySem.boot_len (pa_cons (pv 1) pa_nil)) pa_nil))) pe_str)
        (pa_cons (pe_cmpR (op_neD hu64) (pv 1) (pe_lst pa_nil) (nomark _))
        (pa_cons (pe_lc (own := [("_law_line", 3)]) (g := gName 3) (tt := tYes) rfl scDue.nd (pi_list (pv 1)) (blkOk_by (own := [("_law_line", 3)]) (N := ["_law_lines_here", "_law_order", "_law_told", "_law_line"]) (sc := defScope sDue) (by decide +kernel)) (fun _ _ _ _ _ => pg_name (i := 3) scDue.nd rfl (Or.inl rfl)) (fun _ _ _ _ _ => pts_nil)
          (fun _ _ _ _ _ => pe_bl)) pa_nil))))) pa_nil))))), ?_⟩
    refine ⟨_, rfl, l, us, rs, rfl, .inl (SqL.of hl), tr, fun ys ss l1 ps os ts n1 => ?_⟩
    have s1 : Same H (upd H l1 (.lst ys)) := same_put n1
    have e1 : (upd H l1 (.lst ys)) l1 = some (.lst ys) := upd_same
    have t1 := ts.same (same_put (o := .lst ys) n1)
    revert s1 e1 t1
    generalize upd H l1 (.lst ys) = H1
    intro s1 e1 t1
    refine ⟨_, rfl, l1, ys, rfl, .inl ⟨SqL.of e1, fun tp ntp => ?_⟩⟩
    have e2 := (same_put (o := .tup ys) ntp) _ _ e1
    refine ⟨_, rfl, l1, rfl, ⟨_, SqL.of e2⟩, fun D nD => lc_it (walk_list (K := K) (a := l1) (xs := ys)) (fun i H' => Same (upd H1 tp (.tup ys)) H' ∧ H' D = some (.lst (((ss.take i).map (·.1)).map V.str))) ⟨same_put nD, upd_same⟩ (fun _ _ _ h => SqL.of (h.1 _ _ e2)) ?_ ?_⟩
    · rintro i x Ha Hb hi ⟨sa, ea⟩ ⟨rfl, hx⟩
      obtain ⟨r, c, hr', rfl, hc⟩ := (t1.same (same_put ntp)).get hx
      refine ⟨rfl, _, rfl, c, _, 0, _, rfl, rfl, SqT.of (sa _ _ hc), atI_nat (j := 0) rfl, _, ea, ?_, ?_, ?_⟩
      · rw [List.length_map, List.length_map, List.length_take]
        have := G.len
        have := ps.length_eq
        exact small1000 (by omega)
      · intro a o e
        rw [upd_ne (ne_of_none e nD)]
        exact sa a o e
      · rw [upd_same, List.take_add_one, hr', List.map_append, List.map_append]
        rfl
    · rintro H2 ⟨s2, d2⟩
      rw [t1.len, List.take_length] at d2
      refine ⟨D, _, rfl, SqL.of d2, ?_, fun b nb => ⟨b, _, rfl, upd_same, fun fs l3 pf of n3 => ⟨l3, _, rfl, .inl ⟨SqL.of upd_same, fun gp ngp => ?_⟩⟩⟩⟩
      · have := G.len
        have := ps.length_eq
        have : (102 : Nat) < scanBound := by decide
        rw [List.length_map]
        omega
      have TO : TabOf rs ss fs := ⟨ps, os, pf.trans (same_perm (ps.map _)), of⟩
      obtain ⟨nn, nz, nl, nf⟩ := TO.name G
      have s4 : Same H1 (upd (upd (upd H2 b (BagO P w b (firsts (ss.map (·.1))))) l3 (.lst (fs.map V.str))) gp (.tup (fs.map V.str))) := (same_put ntp).trans (s2.trans ((same_put nb).trans ((same_put n3).trans (same_put ngp))))
      have tp4 : (upd (upd (upd H2 b (BagO P w b (firsts (ss.map (·.1))))) l3 (.lst (fs.map V.str))) gp (.tup (fs.map V.str))) tp = some (.tup ys) := (s2.trans ((same_put nb).trans ((same_put n3).trans (same_put ngp)))) _ _ upd_same
      have gp4 : (upd (upd (upd H2 b (BagO P w b (firsts (ss.map (·.1))))) l3 (.lst (fs.map V.str))) gp (.tup (fs.map V.str))) gp = some (.tup (fs.map V.str)) := upd_same
      have e4 := s4 _ _ e1
      refine ⟨_, rfl, l1, ys, rfl, .inl (SqL.of e4), _, rfl, (by show 4 ≤ sizeLine; decide), fun td ntd => ?_⟩
      have yl : ys.length = ss.length := t1.len
      have s5 := s4.trans (same_put (o := .lst [V.ref tp, V.ref gp, V.int ys.length, V.ref l1]) ntd)
      have tp5 := (same_put (o := .lst [V.ref tp, V.ref gp, V.int ys.length, V.ref l1]) ntd) _ _ tp4
      have gp5 := (same_put (o := .lst [V.ref tp, V.ref gp, V.int ys.length, V.ref l1]) ntd) _ _ gp4
      have e5 := s5 _ _ e1
      have fit : ((ys.length : Nat) : Int).natAbs.log2 < 1920 := by
        have e : ((ys.length : Nat) : Int).natAbs = ys.length := rfl
        rw [e]
        exact Nat.lt_of_le_of_lt (Nat.log2_le_self _) (by omega)
      have tl : (Str.ofString (toString ((ys.length : Nat) : Int))).length ≤ 1921 := by
        rw [ofString_length]
        exact int_text_length_le (by decide) fit
      refine ⟨_, rfl, _, rfl, l1, ys, rfl, .inl (SqL.of e5), _, rfl, fit, _, _, rfl, rfl, ?_, _, _, rfl, rfl, ?_, _, rfl, Nat.zero_le _, fun l6 n6 => ?_⟩
      · rw [sizeLine_eq]
        have : (Str.ofString "Table(").length = 6 := by decide
        omega
      · rw [strLen_append, sizeLine_eq]
        have : (Str.ofString "Table(").length = 6 := by decide
        have : (Str.ofString " rows)").length = 6 := by decide
        omega
      have e6 := (same_put (o := .lst []) n6) _ _ e5
      have s6 := s5.trans (same_put (o := .lst []) n6)
      refine ⟨_, _, .lst (SqL.of e6) ((t1.same s6).data row_data), .lst (SqL.of upd_same) .nil, (rows_shaped ss fun x hx => name_ok (nn x hx)).1, (by decide +kernel), ?_⟩
      rw [none_eqv]
      have td6 := (same_put (o := .lst []) n6) _ _ (upd_same (a := td) (o := .lst [V.ref tp, V.ref gp, V.int ys.length, V.ref l1]))
      have tp6 := (same_put (o := .lst []) n6) _ _ tp5
      have gp6 := (same_put (o := .lst []) n6) _ _ gp5
      refine ⟨_, rfl, l1, rfl, ⟨_, SqL.of e6⟩, fun D2 nD2 => lc_it (walk_list (K := K) (a := l1) (xs := ys)) (fun i H' => (Same H1 H' ∧ H' td = some (.lst [V.ref tp, V.ref gp, V.int ys.length, V.ref l1]) ∧ H' tp = some (.tup ys) ∧ H' gp = some (.tup (fs.map V.str)) ∧ (∀ a o, H1 a = some o → a ≠ D2)) ∧ H' D2 = some (.lst ((ss.take i).map fun _ => V.bl true)))
        ⟨⟨s6.trans (same_put nD2), (same_put nD2) _ _ td6, (same_put nD2) _ _ tp6, (same_put nD2) _ _ gp6, fun a o e => ne_of_none (s6 _ _ e) nD2⟩, upd_same⟩ (fun _ _ _ h => SqL.of (h.1.1 _ _ e1)) ?_ ?_⟩
      · rintro i x Ha Hb hi ⟨⟨sa, b1, b2, b3, b4⟩, ea⟩ ⟨rfl, hx⟩
        obtain ⟨r, c, hr', rfl, hc⟩ := (t1.same s6).get hx
        have kp : ∀ {a : Addr} {o : HO}, Hb a = some o → a ≠ D2 → (upd Hb D2 (.lst (((ss.take i).map fun _ => V.bl true) ++ [V.bl true]))) a = some o := fun {a o} e n => by rw [upd_ne n]; exact e
        refine ⟨rfl, _, ea, ?_, ⟨fun a o e => kp (sa a o e) (b4 a o e), kp b1 ?_, kp b2 ?_, kp b3 ?_, b4⟩, ?_⟩
        · rw [List.length_map, List.length_take]
          exact small1000 (by omega)
        · exact ne_of_none td6 nD2
        · exact ne_of_none tp6 nD2
        · exact ne_of_none gp6 nD2
        · rw [upd_same, List.take_add_one, hr', List.map_append]
          rfl
      · rintro H7 ⟨⟨s7, td7, tp7, gp7, _⟩, e7⟩
        rw [yl, List.take_length] at e7
        refine ⟨(by show 3 ≤ sizeLine; decide), fun l8 n8 => ?_⟩
        refine ⟨td, l8, _, _, rfl, rfl, (same_put n8) _ _ td7, upd_same, (by show 7 ≤ sizeLine; decide), fun pp npp => ?_⟩
        have b9 := ((same_put (o := .lst [V.str (titleOf ys.length), V.bl ((ss.length : Int) != 0), V.ref D2]) n8).trans (same_put (o := .lst ([V.ref tp, V.ref gp, V.int ys.length, V.ref l1] ++ [V.str (titleOf ys.length), V.bl ((ss.length : Int) != 0), V.ref D2])) npp))
        have s9 := s7.trans b9
        have tp9 := b9 _ _ tp7
        have gp9 := b9 _ _ gp7
        have l9 := s9 _ _ e1
        have d9 := b9 _ _ e7
        have dd : shownD ss fs = .list [.tuple (rowsD ss), .tuple (fs.map .str), .int ys.length, .list (rowsD ss), .str (titleOf ys.length), .bool ((ss.length : Int) != 0), .list (ss.map fun _ => .bool true)] := by
          rw [yl]
          rfl
        refine ⟨_, shownD ss fs, rfl, ?_, shown_fits nl nf nn nz (lim.perm ps), q ss fs _ TO (s1.trans s9)⟩
        rw [dd]
        exact .lst (SqL.of upd_same) (.cons (.tup (SqT.of tp9) ((t1.same s9).data row_data)) (.cons (.tup (SqT.of gp9) (dps_strs fs)) (.cons (.int _) (.cons (.lst (SqL.of l9) ((t1.same s9).data row_data)) (.cons (.str _) (.cons (.bl _) (.cons (.lst (SqL.of d9) (dps_trues ss)) .nil)))))))
end
end K01

namespace Rng
open PySem L2 Bag Gd
theorem TyOf_same {K : PySem.W.Frag} {H H' : Hp} {v : V} {t : Value} (h : TyOf K H v t) (s : Same H H') : TyOf K H' v t := by
  cases h with
  | non => exact .non
  | bl x => exact .bl x
  | int i => exact .int i
  | str x => exact .str x
  | flt x => exact .flt x
  | lst e => exact .lst (s _ _ e)
  | frz e => exact .frz (s _ _ e)
  | tup e => exact .tup (s _ _ e)
  | dK e => exact .dK (s _ _ e)
  | dT e => exact .dT (s _ _ e)
  | ins e a b c d f => exact .ins (s _ _ e) a b c d f
theorem TyX_same {K : PySem.W.Frag} {H H' : Hp} {v : V} {t : Value} (h : TyX K H v t) (s : Same H H') : TyX K H' v t := by
  cases h with
  | base b => exact .base (TyOf_same b s)
  | byt b => exact .byt b
  | set e => exact .set (s _ _ e)
  | kList e c => exact .kList e c
  | kTuple e c => exact .kTuple e c
  | kDict e c => exact .kDict e c
  | fTuple e => exact .fTuple (s _ _ e)
  | fDict e => exact .fDict (s _ _ e)
theorem NameB_same {K : PySem.W.Frag} {H H' : Hp} {v : V} {b : Bool} (h : NameB K H v b) (s : Same H H') : NameB K H' v b := by
  rcases h with h | ⟨t, a, c⟩
  · exact .inl h
  · exact .inr ⟨t, TyX_same a s, c⟩
theorem IntB_same {K : PySem.W.Frag} {H H' : Hp} {v : V} {b : Bool} (h : IntB K H v b) (s : Same H H') : IntB K H' v b := by
  obtain ⟨t, b1, b2, a, c⟩ := h
  exact ⟨t, b1, b2, TyX_same a s, c⟩
theorem RowB_same {K : PySem.W.Frag} {H H' : Hp} {v : V} {b : Bool} (h : RowB K H v b) (s : Same H H') : RowB K H' v b := by
  rcases h with ⟨t, a, c⟩ | ⟨p, xs, a, e, c⟩ | ⟨p, x, y, z, b1, b2, b3, a, e, n, i, j, c⟩
  · exact .inl ⟨t, TyX_same a s, c⟩
  · exact .inr (.inl ⟨p, xs, a, s _ _ e, c⟩)
  · exact .inr (.inr ⟨p, x, y, z, b1, b2, b3, a, s _ _ e, NameB_same n s, fun H2 s2 => i H2 (s.trans s2), fun H2 s2 => j H2 (s.trans s2), c⟩)
/-- a thing that stands in no table of rs -/
def Strange (K : PySem.W.Frag) (H : Hp) (u : V) (rs : List Row) : Prop := RowB K H u false ∨ ∃ p r, u = .ref p ∧ H p = some (.tup (rowV r)) ∧ isName r.1 = true ∧ r ∉ rs
theorem Strange.same {K : PySem.W.Frag} {H H' : Hp} {u : V} {rs : List Row} (h : Strange K H u rs) (s : Same H H') : Strange K H' u rs := by
  rcases h with h | ⟨p, r, a, e, c⟩
  · exact .inl (RowB_same h s)
  · exact .inr ⟨p, r, a, s _ _ e, c⟩
theorem no_tuple {K : PySem.W.Frag} {H : Hp} {v : V} {n : String} (h : TyX K H v (.type n)) (k : kitB n "tuple" = some false) {rs : List Row} : Strange K H v rs := .inl (.inl ⟨_, h, kit_ty k, rfl⟩)
theorem short_tup {K : PySem.W.Frag} {H : Hp} {p : Addr} {xs : List V} (e : H p = some (.tup xs)) (l : xs.length ≠ 3) {rs : List Row} : Strange K H (.ref p) rs := .inl (.inr (.inl ⟨p, xs, rfl, e, l, rfl⟩))
theorem upper_no (z : Str) : isName (Txt.upper z ++ Str.ofString "A") = false := by
  have e : (Txt.upper z ++ Str.ofString "A").cps.toList = TL.tl (Txt.upper z) ++ [65] := by
    show TL.tl (Txt.upper z ++ Str.ofString "A") = _
    rw [TL.tl_append]
    rfl
  unfold isName
  rw [e]
  cases TL.tl (Txt.upper z) with
  | nil => decide
  | cons c r =>
    show (_ && (low c && (r ++ [65]).all fun d => low d || dig d)) = false
    rw [List.all_append]
    have : ([65] : List Nat).all (fun d => low d || dig d) = false := by decide
    rw [this, Bool.and_false, Bool.and_false, Bool.and_false]
theorem mem_cut {xs : List V} {lo hi : Option Int} {x : V} (h : x ∈ cutV xs lo hi) : x ∈ xs := by
  unfold cutV at h
  exact List.mem_of_mem_drop (List.mem_of_mem_take h)
theorem TupsAt.mem {α : Type} {f : α → List V} {H : Hp} {vs : List V} {as : List α} {v : V} (h : TupsAt f H vs as) (m : v ∈ vs) : ∃ a q, a ∈ as ∧ v = .ref q ∧ H q = some (.tup (f a)) := by
  obtain ⟨i, e⟩ := List.getElem?_of_mem m
  obtain ⟨a, q, e1, e2, e3⟩ := h.get e
  exact ⟨a, q, List.mem_of_getElem? e1, e2, e3⟩
theorem other_value {rs : List Row} {r s : Row} (nd : (rs.map plcOf).Nodup) (hr : r ∈ rs) (e : plcOf s = plcOf r) (n : s ≠ r) : s ∉ rs := fun m => by
  obtain ⟨i, hi, ei⟩ := List.getElem_of_mem hr
  obtain ⟨j, hj, ej⟩ := List.getElem_of_mem m
  have li : i < (rs.map plcOf).length := by rw [List.length_map]; exact hi
  have lj : j < (rs.map plcOf).length := by rw [List.length_map]; exact hj
  have q : (rs.map plcOf)[i] = (rs.map plcOf)[j] := by rw [List.getElem_map, List.getElem_map, ei, ej, e]
  rcases Nat.lt_trichotomy i j with h | h | h
  · exact List.pairwise_iff_getElem.mp nd i j li lj h q
  · subst h
    exact n (ej.symm.trans ei)
  · exact List.pairwise_iff_getElem.mp nd j i lj li h q.symm
def spStrange (K : PySem.W.Frag) : Sp := fun vs H Q _ => ∃ (l : Addr) (us : List V) (rs : List Row), vs = [.ref l] ∧ H l = some (.lst us) ∧ TupsAt rowV H us rs ∧ Good rs ∧ (∀ r ∈ rs, -10 ≤ r.2.1 ∧ r.2.1 ≤ 20) ∧
  ∀ (q : Addr) (ws : List V) (H' : Hp), Same H H' → H' q = some (.lst ws) → (∀ u ∈ ws, Strange K H' u rs) → ws.length ≤ 900 → Q (.ref q) H'
end Rng
namespace K01
open PySem L2 Rng Bag Gd
section
variable {P : Program} {w : World} {K : PySem.W.Frag} {mg : Str → Option Value} {base : Heap}
abbrev sStrangers : Stmt := top 25
theorem scStrangers : FnScope ["_law_lines_here", "_law_found", "_law_line"] ["_law_lines_here"] (defScope sStrangers) := ⟨rfl, rfl, rfl, by decide +kernel, rfl, by decide +kernel, by decide +kernel⟩
theorem ok_strangers {f : Addr} {fd : FuncData} (F : Fun K "_law_strangers" "_law_strangers" sStrangers f fd) (B : Bl mg) : FnOk P w K mg base CX0 1 f fd ["_law_lines_here"] (spStrange K) := by
  refine F.ok scStrangers (fun vs H Q E h => ?_) (fun cdv A outer s H vs Q E hr h => ?_)
  · obtain ⟨l, us, rs, rfl, _⟩ := h
    rfl
  · obtain ⟨l, us, rs, rfl, hl, tr, G, tm, q⟩ := h
    refine ⟨_, pss_cons (ps_set (i := 1) scStrangers.nd rfl (Or.inl rfl) (pe_lst (pa_cons (pe_non) (pa_cons (pe_int) (pa_cons (pe_str) (pa_cons (pe_tup pa_nil) (pa_cons (pe_lst pa_nil) (pa_cons (pe_dnewK) (pa_cons (pe_tup (pa_cons (pe_str) pa_nil)) (pa_cons (pe_lst (pa_cons (pe_str) (pa_cons (pe_int) (pa_cons (pe_int) pa_nil)))) (pa_cons (pe_tup (pa_cons (pe_lst (pa_cons (pe_str) pa_nil)) (pa_cons (pe_int) (pa_cons (pe_int) pa_nil)))) (pa_cons (pe_tup (pa_cons (pe_str) (pa_cons (pe_dnewK) (pa_cons (pe_int) pa_nil)))) pa_nil))))))))))))
      (pss_cons (ps_for PassesOwn.never rfl (pi_list (pe_slice sl_list (pv 0) po_none (po_some pe_int))) (pg_name (i := 2) scStrangers.nd rfl (Or.inl rfl))
        (pss_cons (ps_set (i := 1) scStrangers.nd rfl (Or.inl rfl) (pe_op op_cat (pv 1) (pe_lst (pa_cons (pe_callTy call_list_of (by rfl) B.nList (by decide +kernel) (pa_cons (pv 2) pa_nil)) (pa_cons (pe_slice sl_tup (pv 2) po_none (po_some pe_int)) (pa_cons (pe_op op_catT (pv 2) (pe_tup (pa_cons (pe_int) pa_nil))) (pa_cons (pe_tup (pa_cons (pe_ix ix_tup (pv 2) pe_int (fun _ _ => rfl)) (pa_cons (pe_ix ix_tup (pv 2) pe_int (fun _ _ => rfl)) (pa_cons (pe_op op_add (pe_ix ix_tup (pv 2) pe_int (fun _ _ => rfl)) pe_int) pa_nil)))) (pa_cons (pe_tup (pa_cons (pe_ix ix_tup (pv 2) pe_int (fun _ _ => rfl)) (pa_cons (pe_ix ix_tup (pv 2) pe_int (fun _ _ => rfl)) (pa_cons (pe_non) pa_nil)))) pa_nil))))))))
        (pss_one (ps_set (i := 1) scStrangers.nd rfl (Or.inl rfl) (pe_op op_cat (pv 1) (pe_lst (pa_cons (pe_tup (pa_cons (pe_ix ix_tup (pv 2) pe_int (fun _ _ => rfl)) (pa_cons (pe_op op_add (pe_ix ix_tup (pv 2) pe_int (fun _ _ => rfl)) pe_int) (pa_cons (pe_ix ix_tup (pv 2) pe_int (fun _ _ => rfl)) pa_nil)))) (pa_cons (pe_tup (pa_cons (pe_op op_add_str (pe_upper (pe_ix ix_tup (pv 2) pe_int (fun _ _ => rfl))) pe_str) (pa_cons (pe_ix ix_tup (pv 2) pe_int (fun _ _ => rfl)) (pa_cons (pe_ix ix_tup (pv 2) pe_int (fun _ _ => rfl)) pa_nil)))) pa_nil))))))))
      (pss_one (ps_ret (pv 1)))), ?_⟩
    refine ⟨(by show 0 ≤ sizeLine; decide), fun a1 n1 => ⟨(by show 0 ≤ sizeLine; decide), fun a2 n2 => fun a3 n3 => ⟨(by show 1 ≤ sizeLine; decide), fun a4 n4 => ⟨(by show 3 ≤ sizeLine; decide), fun a5 n5 => ⟨(by show 1 ≤ sizeLine; decide), fun a6 n6 => ⟨(by show 3 ≤ sizeLine; decide), fun a7 n7 => fun a8 n8 => ⟨(by show 3 ≤ sizeLine; decide), fun a9 n9 => ⟨(by show 10 ≤ sizeLine; decide), fun a10 n10 => ?_⟩⟩⟩⟩⟩⟩⟩⟩
    have t10 := same_put (o := .lst [V.non, V.int 0, V.str "", V.ref a1, V.ref a2, V.ref a3, V.ref a4, V.ref a5, V.ref a7, V.ref a9]) n10
    have t9 := (same_put (o := .tup [V.str "a", V.ref a8, V.int 1]) n9).trans t10
    have t8 := (same_put (o := .dK []) n8).trans t9
    have t7 := (same_put (o := .tup [V.ref a6, V.int 1, V.int 2]) n7).trans t8
    have t6 := (same_put (o := .lst [V.str "a"]) n6).trans t7
    have t5 := (same_put (o := .lst [V.str "a", V.int 1, V.int 2]) n5).trans t6
    have t4 := (same_put (o := .tup [V.str "a"]) n4).trans t5
    have t3 := (same_put (o := .dK []) n3).trans t4
    have t2 := (same_put (o := .lst []) n2).trans t3
    have s0 := (same_put (o := .tup []) n1).trans t2
    have e1 := t2 _ _ (upd_same (a := a1) (o := .tup []))
    have e2 := t3 _ _ (upd_same (a := a2) (o := .lst []))
    have e3 := t4 _ _ (upd_same (a := a3) (o := .dK []))
    have e4 := t5 _ _ (upd_same (a := a4) (o := .tup [V.str "a"]))
    have e5 := t6 _ _ (upd_same (a := a5) (o := .lst [V.str "a", V.int 1, V.int 2]))
    have e6 := t7 _ _ (upd_same (a := a6) (o := .lst [V.str "a"]))
    have e7 := t8 _ _ (upd_same (a := a7) (o := .tup [V.ref a6, V.int 1, V.int 2]))
    have e8 := t9 _ _ (upd_same (a := a8) (o := .dK []))
    have e9 := t10 _ _ (upd_same (a := a9) (o := .tup [V.str "a", V.ref a8, V.int 1]))
    refine ⟨_, rfl, 2, rfl, l, us, rfl, SqL.of (s0 _ _ hl), fun c0 nc0 => ⟨c0, rfl, ⟨_, SqL.of upd_same⟩, ?_⟩⟩
    have sc := same_put (o := .lst (cutV us none (some 2))) nc0
    refine for_it (walk_list (K := K) (a := c0) (xs := cutV us none (some 2))) (fun i σ H' => ∃ (g : Addr) (ws : List V) (x2 : Option V), σ = [some (.ref l), some (.ref g), x2] ∧ Same H H' ∧ H' c0 = some (.lst (cutV us none (some 2))) ∧ H' g = some (.lst ws) ∧ (∀ u ∈ ws, Strange K H' u rs) ∧ ws.length ≤ 10 + 7 * i)
      ⟨a10, _, _, rfl, s0.trans sc, upd_same, sc _ _ upd_same, ?_, (by show 10 ≤ 10; decide)⟩ (fun _ _ _ _ h => by obtain ⟨_, _, _, _, _, h1, _⟩ := h; exact SqL.of h1) ?_ ?_
    · intro u hu
      refine Strange.same ?_ sc
      simp only [List.mem_cons, List.not_mem_nil, or_false] at hu
      rcases hu with rfl | rfl | rfl | rfl | rfl | rfl | rfl | rfl | rfl | rfl
      · exact no_tuple (n := "NoneType") (.base .non) (by decide +kernel)
      · exact no_tuple (n := "int") (.base (.int 0)) (by decide +kernel)
      · exact no_tuple (n := "str") (.base (.str _)) (by decide +kernel)
      · exact short_tup e1 (by decide)
      · exact no_tuple (n := "list") (.base (.lst e2)) (by decide +kernel)
      · exact no_tuple (n := "dict") (.base (.dK e3)) (by decide +kernel)
      · exact short_tup e4 (by decide)
      · exact no_tuple (n := "list") (.base (.lst e5)) (by decide +kernel)
      · exact .inl (.inr (.inr ⟨a7, _, _, _, false, true, true, rfl, e7, .inr ⟨.type "list", .base (.lst e6), kit_ty (by decide +kernel), rfl⟩, fun _ _ => .int _, fun _ _ => .int _, rfl⟩))
      · exact .inl (.inr (.inr ⟨a9, _, _, _, true, false, true, rfl, e9, .inl ⟨"a", rfl, by decide, by decide +kernel⟩, fun H2 s2 => .dK (s2 _ _ e8), fun _ _ => .int _, rfl⟩))
    · rintro i x σ Hx H1 hi ⟨g, ws, x2, rfl, s1, f0, f1, hw, lw⟩ ⟨rfl, hx⟩
      obtain ⟨r, c, hr', rfl, hc⟩ := (tr.same s1).mem (mem_cut (List.mem_of_getElem? hx))
      have nm := G.nm r hr'
      have i2 : i < 9 := by
        have := cutV_length us none (some 2)
        have := G.len
        have lu := tr.len
        have : (cutV us none (some 2)).length ≤ 2 := by
          unfold cutV
          rw [List.length_take]
          refine Nat.le_trans (Nat.min_le_left _ _) ?_
          show min 2 us.length - 0 ≤ 2
          omega
        omega
      refine ⟨_, rfl, _, rfl, c, _, rfl, .inr (SqT.of hc), fun b1 m1 => ?_⟩
      have hc1 := (same_put (o := .lst (rowV r)) m1) _ _ hc
      refine ⟨_, rfl, 2, rfl, c, _, rfl, SqT.of hc1, (by show ¬ (HT.sIx 3 0 none = 0 ∧ HT.sIx 3 3 (some 2) = 3); decide), fun b2 m2 => ?_⟩
      have hc2 := (same_put (o := .tup (cutV (rowV r) none (some 2))) m2) _ _ hc1
      refine ⟨_, rfl, (by show 1 ≤ sizeLine; decide), fun b3 m3 => ?_⟩
      have hc3 := (same_put (o := .tup [V.int 0]) m3) _ _ hc2
      refine ⟨c, b3, _, _, rfl, rfl, SqT.of hc3, SqT.of upd_same, (fun z => nomatch z), (by show 4 ≤ sizeLine; decide), (fun z => nomatch z), fun _ b4 m4 => ?_⟩
      have hc4 := (same_put (o := .tup (rowV r ++ [V.int 0])) m4) _ _ hc3
      refine ⟨_, rfl, c, _, 0, _, rfl, rfl, SqT.of (hc4), atI_nat (j := 0) rfl, _, rfl, c, _, 1, _, rfl, rfl, SqT.of (hc4), atI_nat (j := 1) rfl, _, rfl, c, _, 2, _, rfl, rfl, SqT.of (hc4), atI_nat (j := 2) rfl, _, _, rfl, rfl, (by show 3 ≤ sizeLine; decide), fun b5 m5 => ?_⟩
      have hc5 := (same_put (o := .tup [V.str r.1, V.int r.2.1, V.int (r.2.2 + 1)]) m5) _ _ hc4
      refine ⟨_, rfl, c, _, 0, _, rfl, rfl, SqT.of (hc5), atI_nat (j := 0) rfl, _, rfl, c, _, 1, _, rfl, rfl, SqT.of (hc5), atI_nat (j := 1) rfl, (by show 3 ≤ sizeLine; decide), fun b6 m6 => ⟨(by show 5 ≤ sizeLine; decide), fun b7 m7 => ?_⟩⟩
      have k7 := same_put (o := .lst [V.ref b1, V.ref b2, V.ref b4, V.ref b5, V.ref b6]) m7
      have k6 := (same_put (o := .tup [V.str r.1, V.int r.2.1, V.non]) m6).trans k7
      have k5 := (same_put (o := .tup [V.str r.1, V.int r.2.1, V.int (r.2.2 + 1)]) m5).trans k6
      have k4 := (same_put (o := .tup (rowV r ++ [V.int 0])) m4).trans k5
      have k3 := (same_put (o := .tup [V.int 0]) m3).trans k4
      have k2 := (same_put (o := .tup (cutV (rowV r) none (some 2))) m2).trans k3
      have k1 := (same_put (o := .lst (rowV r)) m1).trans k2
      refine ⟨g, b7, _, _, rfl, rfl, k1 _ _ f1, upd_same, ?_, fun b8 m8 => ?_⟩
      · exact Nat.le_of_lt (small1000 (by show ws.length + 5 ≤ 1000; omega))
      have k8 := same_put (o := .lst (ws ++ [V.ref b1, V.ref b2, V.ref b4, V.ref b5, V.ref b6])) m8
      have j1 := (k2.trans k8) _ _ (upd_same (a := b1) (o := .lst (rowV r)))
      have j2 := (k3.trans k8) _ _ (upd_same (a := b2) (o := .tup (cutV (rowV r) none (some 2))))
      have j4 := (k5.trans k8) _ _ (upd_same (a := b4) (o := .tup (rowV r ++ [V.int 0])))
      have j5 := (k6.trans k8) _ _ (upd_same (a := b5) (o := .tup [V.str r.1, V.int r.2.1, V.int (r.2.2 + 1)]))
      have j6 := (k7.trans k8) _ _ (upd_same (a := b6) (o := .tup [V.str r.1, V.int r.2.1, V.non]))
      have s8 := k1.trans k8
      have hc8 := s8 _ _ hc
      have nl : r.1.length ≤ 8 := by
        have h8 := nm
        unfold isName at h8
        simp only [Bool.and_eq_true, decide_eq_true_eq] at h8
        exact h8.1
      have hu := PyProof.Rows.len_upper r.1
      have ul : (Txt.upper r.1 ++ Str.ofString "A").length ≤ 16777216 := by
        rw [strLen_append]
        have : (Str.ofString "A").length = 1 := by decide
        omega
      refine ⟨_, rfl, _, rfl, c, _, 0, _, rfl, rfl, SqT.of (hc8), atI_nat (j := 0) rfl, _, rfl, c, _, 1, _, rfl, rfl, SqT.of (hc8), atI_nat (j := 1) rfl, _, _, rfl, rfl, _, rfl, c, _, 2, _, rfl, rfl, SqT.of (hc8), atI_nat (j := 2) rfl, (by show 3 ≤ sizeLine; decide), fun d1 p1 => ?_⟩
      have hc9 := (same_put (o := .tup [V.str r.1, V.int (r.2.1 + 1000), V.int r.2.2]) p1) _ _ hc8
      refine ⟨_, rfl, c, _, 0, _, rfl, rfl, SqT.of (hc9), atI_nat (j := 0) rfl, ⟨r.1, rfl⟩, r.1, rfl, rfl, by omega, _, _, rfl, rfl, ?_, _, rfl, c, _, 1, _, rfl, rfl, SqT.of (hc9), atI_nat (j := 1) rfl, _, rfl, c, _, 2, _, rfl, rfl, SqT.of (hc9), atI_nat (j := 2) rfl, (by show 3 ≤ sizeLine; decide), fun d2 p2 => ⟨(by show 2 ≤ sizeLine; decide), fun d3 p3 => ?_⟩⟩
      · rw [sizeLine_eq]
        have : (Str.ofString "A").length = 1 := by decide
        omega
      have v3 := same_put (o := .lst [V.ref d1, V.ref d2]) p3
      have v2 := (same_put (o := .tup [V.str (Txt.upper r.1 ++ Str.ofString "A"), V.int r.2.1, V.int r.2.2]) p2).trans v3
      have v1 := (same_put (o := .tup [V.str r.1, V.int (r.2.1 + 1000), V.int r.2.2]) p1).trans v2
      refine ⟨b8, d3, _, _, rfl, rfl, v1 _ _ upd_same, upd_same, ?_, fun d4 p4 => ?_⟩
      · exact Nat.le_of_lt (small1000 (by show (ws ++ [V.ref b1, V.ref b2, V.ref b4, V.ref b5, V.ref b6]).length + 2 ≤ 1000; rw [List.length_append]; show ws.length + 5 + 2 ≤ 1000; omega))
      have v4 := same_put (o := .lst ((ws ++ [V.ref b1, V.ref b2, V.ref b4, V.ref b5, V.ref b6]) ++ [V.ref d1, V.ref d2])) p4
      have w1 := (v2.trans v4) _ _ (upd_same (a := d1) (o := .tup [V.str r.1, V.int (r.2.1 + 1000), V.int r.2.2]))
      have w2 := (v3.trans v4) _ _ (upd_same (a := d2) (o := .tup [V.str (Txt.upper r.1 ++ Str.ofString "A"), V.int r.2.1, V.int r.2.2]))
      have vv := v1.trans v4
      have all := s8.trans vv
      refine ⟨d4, _, _, rfl, s1.trans all, all _ _ f0, upd_same, ?_, ?_⟩
      · intro u hu
        rcases List.mem_append.mp hu with hu | hu
        · rcases List.mem_append.mp hu with hu | hu
          · exact (hw u hu).same all
          · refine Strange.same ?_ vv
            simp only [List.mem_cons, List.not_mem_nil, or_false] at hu
            rcases hu with rfl | rfl | rfl | rfl | rfl
            · exact no_tuple (n := "list") (.base (.lst j1)) (by decide +kernel)
            · exact short_tup j2 (show (2 : Nat) ≠ 3 by decide)
            · exact short_tup j4 (show (4 : Nat) ≠ 3 by decide)
            · exact .inr ⟨b5, (r.1, r.2.1, r.2.2 + 1), rfl, j5, nm, other_value G.nd hr' rfl fun e => by
                have : r.2.2 + 1 = r.2.2 := congrArg (fun x : Row => x.2.2) e
                omega⟩
            · exact .inl (.inr (.inr ⟨b6, _, _, _, true, true, false, rfl, j6, .inl ⟨r.1, rfl, Nat.le_trans nl (by decide), nm.symm⟩, fun _ _ => .int _, fun _ _ => .non, rfl⟩))
        · simp only [List.mem_cons, List.not_mem_nil, or_false] at hu
          rcases hu with rfl | rfl
          · exact .inr ⟨d1, (r.1, r.2.1 + 1000, r.2.2), rfl, w1, nm, fun m => by
              have h1 : r.2.1 + 1000 ≤ 20 := (tm _ m).2
              have h2 := (tm _ hr').1
              omega⟩
          · exact .inl (.inr (.inr ⟨d2, _, _, _, false, true, true, rfl, w2, .inl ⟨_, rfl, ul, (upper_no r.1).symm⟩, fun _ _ => .int _, fun _ _ => .int _, rfl⟩))
      · rw [List.length_append, List.length_append]
        show ws.length + 5 + 2 ≤ _
        omega
    · rintro σ H1 ⟨g, ws, x2, rfl, s1, f0, f1, hw, lw⟩
      refine ⟨_, rfl, q g ws H1 s1 f1 hw ?_⟩
      have : (cutV us none (some 2)).length ≤ us.length := cutV_length us none (some 2)
      have := tr.len
      have := G.len
      omega
end
end K01

namespace Rng
open PySem L2 Bag Gd
theorem Good.perm {rs ss : List Row} (G : Good rs) (p : ss.Perm rs) : Good ss := ⟨by rw [p.length_eq]; exact G.len, ((p.map plcOf).nodup_iff).mpr G.nd, fun r hr => G.nm r (p.mem_iff.mp hr)⟩
theorem RowsOk.good {zs : List Str} {m : Nat} {rs : List Row} (R : RowsOk zs m rs) (hm : m ≤ 100) (hz : ∀ z ∈ zs, isName z = true) : Good rs := ⟨Nat.le_trans R.len hm, R.nd, fun r hr => hz _ (R.nm r hr)⟩
theorem RowsOk.lim {zs : List Str} {m : Nat} {rs : List Row} (R : RowsOk zs m rs) : Lim rs := fun r hr => by
  obtain ⟨a, b⟩ := R.tm r hr
  obtain ⟨c, d⟩ := R.vl r hr
  have e : (10 : Int) ^ 25 = 10000000000000000000000000 := by decide
  rw [e] at c d
  have k : (2 : Nat) ^ 100 = 1267650600228229401496703205376 := by decide
  rw [k]
  omega
/-- what stands while the law looks at its tables -/
structure Pair (C p q o o2 : Addr) (us : List V) (rs ss : List Row) (fs : List Str) (ss2 : List Row) (fs2 : List Str) (H : Hp) (b : Nat) : Prop where
  src : Src H p b
  ne : q ≠ p
  at_ : H q = some (.lst us)
  tr : TupsAt rowV H us rs
  ta : TabAt C H o ss fs
  tb : TabAt C H o2 ss2 fs2
section
variable {C p q o o2 : Addr} {us : List V} {rs ss : List Row} {fs : List Str} {ss2 : List Row} {fs2 : List Str} {H H' : Hp} {b c : Nat}
theorem src_isl (S : Src H p b) : (∃ zs, H p = some (.lst zs)) ∨ H p = none := .inl S.some
theorem src_not (S : Src H p b) (zs : List V) : H p ≠ some (.tup zs) := fun e => by
  obtain ⟨ys, k⟩ := S.some
  rw [k] at e
  cases e
theorem Pair.same (P : Pair C p q o o2 us rs ss fs ss2 fs2 H b) (s : Same H H') : Pair C p q o o2 us rs ss fs ss2 fs2 H' b := ⟨P.src.same s, P.ne, s _ _ P.at_, P.tr.same s, P.ta.same s, P.tb.same s⟩
theorem Pair.but (P : Pair C p q o o2 us rs ss fs ss2 fs2 H b) (s : But p H H') (S : Src H' p c) : Pair C p q o o2 us rs ss fs ss2 fs2 H' c := ⟨S, P.ne, s _ _ P.ne P.at_, P.tr.but s (src_not P.src), P.ta.but s (src_isl P.src), P.tb.but s (src_isl P.src)⟩
end
theorem six_fits (a b c d e f : Bool) : Fits 80000 40 (.list [.bool a, .bool b, .bool c, .bool d, .bool e, .bool f]) := by
  refine ⟨?_, ?_, ?_, ?_⟩
  · simp only [PyData.leavesShort, PyData.leavesShortAll, Bool.and_self]
  · simp only [PyData.showable, PyData.showableAll, Bool.and_self]
  · simp only [PyData.weight, PyData.weightAll]
    omega
  · simp only [PyData.depth, PyData.depthAll]
    omega
theorem nf_self {K : PySem.W.Frag} {C : Addr} : PySem.W.notFirst K C (.ref C) = true := by simp [PySem.W.notFirst]
theorem bl_true {Q : VK} {x : Bool} {H : Hp} (h : x = true) (q : Q (.bl true) H) : Q (.bl x) H := by
  rw [h]
  exact q
theorem Good.sub {rs ss : List Row} (G : Good rs) (s : ss.Sublist rs) : Good ss := ⟨Nat.le_trans s.length_le G.len, G.nd.sublist (s.map plcOf), fun r hr => G.nm r (s.subset hr)⟩
theorem tups_take {α : Type} {f : α → List V} {H : Hp} {vs : List V} {as : List α} (h : TupsAt f H vs as) : ∀ n, TupsAt f H (vs.take n) (as.take n) := by
  induction h with
  | nil => exact fun n => by rw [List.take_nil, List.take_nil]; exact .nil
  | cons e _ ih =>
    intro n
    cases n with
    | zero => exact .nil
    | succ n => exact .cons e (ih n)
theorem tups_drop {α : Type} {f : α → List V} {H : Hp} {vs : List V} {as : List α} (h : TupsAt f H vs as) : ∀ n, TupsAt f H (vs.drop n) (as.drop n) := by
  induction h with
  | nil => exact fun n => by rw [List.drop_nil, List.drop_nil]; exact .nil
  | cons e r ih =>
    intro n
    cases n with
    | zero => exact .cons e r
    | succ n => exact ih n
theorem cut_rows {H : Hp} {us us3 : List V} {rs : List Row} {lo hi : Option Int} (t : TupsAt rowV H us rs) (e : cutV us lo hi = us3) : ∃ rs3, rs3.length ≤ rs.length ∧ TupsAt rowV H us3 rs3 ∧ rs3.Sublist rs := by
  subst e
  unfold cutV
  exact ⟨_, (((List.take_sublist _ _).trans (List.drop_sublist _ _)).length_le), tups_take (tups_drop t _) _, (List.take_sublist _ _).trans (List.drop_sublist _ _)⟩
def spRight : Sp := fun vs H Q _ => ∃ (p : Addr) (b : Nat), vs = [.ref p] ∧ Src H p b ∧ b ≤ 700000 ∧ ∀ H', But p H H' → Src H' p (b + 600) → Q (.bl true) H'
/-- what the class of tables is not -/
structure Tn (K : PySem.W.Frag) (C : Addr) : Prop where
  nfT : PySem.W.notFirst K C (.type "tuple") = true
  nfI : PySem.W.notFirst K C (.type "int") = true
  kT : PySem.W.kitOne K (.type "tuple") (.ref C) = some false
  kI : PySem.W.kitOne K (.type "int") (.ref C) = some false
  ne : PySem.W.findIn K (.ref C) "__ne__" = some (some (.builtin "object.__ne__"))
  nb : PySem.W.findIn K (.ref C) "__bool__" = some none
end Rng
namespace K01
open PySem L2 Rng Bag Gd
section
variable {P : Program} {w : World} {K : PySem.W.Frag} {mg : Str → Option Value} {base : Heap}
abbrev sRight : Stmt := top 26
theorem scRight : FnScope ["_law_source_here", "_law_tags_here", "_law_lines_here", "_law_sheet", "_law_twin", "_law_other", "_law_far", "_law_even", "_law_told", "_law_thing"] ["_law_source_here"] (defScope sRight) := ⟨rfl, rfl, rfl, by decide +kernel, rfl, by decide +kernel, by decide +kernel⟩
theorem ok_right {f fT fK fL fM fW fS fU fA fO pO C eI eE : Addr} {mc : Value} {fd dT dK dL dM dW dS dU dA : FuncData} (F : Fun K "_law_right" "_law_right" sRight f fd) (T : Kt mg) (I : Bi mg) (B : Bl mg) (Z : Tc K C) (Y : Ti K C) (Y2 : Tn K C) (TR : Bt mg)
    (FT : Fun K "_law_tags" "_law_tags" sTags fT dT) (bT : Binds K dT ["_law_source_here", "_law_many"] []) (mT : mg "_law_tags" = some (.ref fT)) (GT : FnOk P w K mg base CX0 4 fT dT ["_law_source_here", "_law_many"] spTags)
    (FK : Fun K "_law_pick" "_law_pick" sPick fK dK) (bK : Binds K dK ["_law_source_here", "_law_many"] []) (mK : mg "_law_pick" = some (.ref fK))
    (FL : Fun K "_law_lines" "_law_lines" sLines fL dL) (bL : Binds K dL ["_law_source_here", "_law_tags_here", "_law_most"] []) (mL : mg "_law_lines" = some (.ref fL)) (GL : FnOk P w K mg base CX0 3 fL dL ["_law_source_here", "_law_tags_here", "_law_most"] (spLines K))
    (FM : Fun K "_law_mixed" "_law_mixed" sMixed fM dM) (bM : Binds K dM ["_law_source_here", "_law_things"] []) (mM : mg "_law_mixed" = some (.ref fM)) (GM : FnOk P w K mg base CX0 2 fM dM ["_law_source_here", "_law_things"] spMixed)
    (FW : Fun K "_law_table" "_law_table" sLawTable fW dW) (bW : Binds K dW ["_law_lines_here"] []) (mW : mg "_law_table" = some (.ref fW)) (GW : FnOk P w K mg base CX0 7 fW dW ["_law_lines_here"] (spTable C))
    (FS : Fun K "_law_shown" "_law_shown" sShown fS dS) (bS : Binds K dS ["_law_sheet"] []) (mS : mg "_law_shown" = some (.ref fS)) (GS : FnG P w K mg base 5 fS dS ["_law_sheet"] (spShown C))
    (FU : Fun K "_law_due" "_law_due" sDue fU dU) (bU : Binds K dU ["_law_lines_here"] []) (mU : mg "_law_due" = some (.ref fU)) (GU : FnG P w K mg base 1 fU dU ["_law_lines_here"] spDue)
    (FA : Fun K "_law_strangers" "_law_strangers" sStrangers fA dA) (bA : Binds K dA ["_law_lines_here"] []) (mA : mg "_law_strangers" = some (.ref fA)) (GA : FnOk P w K mg base CX0 1 fA dA ["_law_lines_here"] (spStrange K))
    (mC : mg "Table" = some (.ref C)) (R : ClX.CRead K C mc) (SM : Mk1.SMet K C mc "of" pO fO) (RO : FnR P w K mg base CX0 6 fO (spOf C)) (dI : Own1.Dun K C "__contains__" eI) (RI : FnR P w K mg base CX0 4 eI (spInT K C)) (dE : Own1.Dun K C "__eq__" eE) (RE : FnR P w K mg base CX0 1 eE (spEqT K C)) :
    FnG P w K mg base 8 f fd ["_law_source_here"] spRight := by
  have GK : FnOk P w K mg base CX0 1 fK dK ["_law_source_here", "_law_many"] spPick := ok_pick FK TR
  refine F.okG scRight (fun vs H Q E h => ?_) (fun cdv A outer s H vs Q E gq hr h => ?_)
  · obtain ⟨p, b, rfl, _⟩ := h
    rfl
  · obtain ⟨p, b, rfl, hs, hb, q⟩ := h
    have hr1 : Room 1 _ := hr.mono (by decide)
    have hr2 : Room 2 _ := hr.mono (by decide)
    have hr3 : Room 3 _ := hr.mono (by decide)
    have hr4 : Room 4 _ := hr.mono (by decide)
    have hr5 : Room 5 _ := hr.mono (by decide)
    have hr6 : Room 6 _ := hr.mono (by decide)
    have hu64 := Nat.lt_of_le_of_lt (Nat.add_le_add_left (by decide : 64 ≤ 16 * 7 + 200) _) (Nat.lt_of_le_of_lt (Nat.le_of_eq (Nat.add_assoc _ _ _).symm) hr.un)
    refine ⟨_, pss_cons (ps_set (i := 1) scRight.nd rfl (Or.inl rfl) (pe_call GT hr4 rfl mT FT.kp bT .nil pass0 (pa_cons (pv 0) (pa_cons (pe_op op_add pe_int (pe_call GK hr1 rfl mK FK.kp bK .nil pass0 (pa_cons (pv 0) (pa_cons (pe_int) pa_nil)))) pa_nil))))
      (pss_cons (ps_set (i := 2) scRight.nd rfl (Or.inl rfl) (pe_call GL hr3 rfl mL FL.kp bL .nil pass0 (pa_cons (pv 0) (pa_cons (pv 1) (pa_cons (pe_int) pa_nil)))))
      (pss_cons (ps_asg (pe_tup (pa_cons (pe_call GW hr rfl mW FW.kp bW .nil pass0 (pa_cons (pv 2) pa_nil)) (pa_cons (Mk1.pe_smeth (pe_glob (v := .ref C) rfl mC rfl) R SM RO hr6 pass0 (pa_cons (pe_callTy call_tuple_of (by rfl) T.nTuple (by decide +kernel) (pa_cons (pe_call GM hr2 rfl mM FM.kp bM .nil pass0 (pa_cons (pv 0) (pa_cons (pv 2) pa_nil))) pa_nil)) pa_nil)) pa_nil)))
        (pg_tup (by rfl) (pgs_cons (pg_name (i := 3) scRight.nd rfl (Or.inr rfl)) (pgs_cons (pg_name (i := 4) scRight.nd rfl (Or.inl rfl)) pgs_nil))))
      (pss_cons (ps_if (PW.pt (pw_or (pt_cmpR op_ne (pe_callG (E := E0) GS gq hr5 rfl mS FS.kp bS .nil (pa_cons (pv 3) pa_nil)) (pe_callG (E := E0) GU gq hr1 rfl mU FU.kp bU .nil (pa_cons (pv 2) pa_nil)) (nomark _)) (pw_or1 (pt_cmpR op_ne (pe_callG (E := E0) GS gq hr5 rfl mS FS.kp bS .nil (pa_cons (pv 4) pa_nil)) (pe_callG (E := E0) GU gq hr1 rfl mU FU.kp bU .nil (pa_cons (pv 2) pa_nil)) (nomark _))))) (pss_one (ps_ret pe_bl)) pss_nil)
      (pss_cons (ps_if (pt_not (pt_val (pe_callB (cr_all rfl) (by rfl) T.nAll (by decide +kernel) (pa_cons
          (pe_lc (own := [("_law_thing", 9)]) (g := gName 9) (tt := tYes) rfl scRight.nd (pi_list (pe_call GA hr1 rfl mA FA.kp bA .nil pass0 (pa_cons (pv 2) pa_nil))) (blkOk_by (own := [("_law_thing", 9)]) (N := ["_law_source_here", "_law_tags_here", "_law_lines_here", "_law_sheet", "_law_twin", "_law_other", "_law_far", "_law_even", "_law_told", "_law_thing"]) (sc := defScope sRight) (by decide +kernel)) (fun _ _ _ _ _ => pg_name (i := 9) scRight.nd rfl (Or.inl rfl)) (fun _ _ _ _ _ => pts_nil)
            (fun _ _ _ _ _ => pe_cmpR (Own1.op_notInO dI RI hr4 pass0) (pv 9) (pv 3) (by rfl))) pa_nil)))) (pss_one (ps_ret pe_bl)) pss_nil)
      (pss_cons (ps_set (i := 5) scRight.nd rfl (Or.inl rfl) (pe_ifExp (pt_cmpR op_eq (pe_call GK hr1 rfl mK FK.kp bK .nil pass0 (pa_cons (pv 0) (pa_cons (pe_int) pa_nil))) pe_int (nomark _)) (pe_call GL hr3 rfl mL FL.kp bL .nil pass0 (pa_cons (pv 0) (pa_cons (pv 1) (pa_cons (pe_int) pa_nil)))) (pe_slice sl_list (pv 2) po_none (po_some (pe_un un_neg pe_int)))))
      (pss_cons (ps_par (i := 6) (j := 7) (by rfl) scRight.nd rfl rfl (by decide) rfl rfl (pa_cons (pe_call GW hr rfl mW FW.kp bW .nil pass0 (pa_cons (pv 5) pa_nil)) (pa_cons (pe_cmpR (op_eqD hu64) (pe_callB cr_sortRows (by rfl) I.nSorted (by decide +kernel) (pa_cons (pv 5) pa_nil)) (pe_callB cr_sortRows (by rfl) I.nSorted (by decide +kernel) (pa_cons (pv 2) pa_nil)) (nomark _)) pa_nil)) (by rfl))
      (pss_cons (ps_set (i := 8) scRight.nd rfl (Or.inl rfl) (pe_lst (pa_cons (pe_cmpR (Own1.op_eqO dE RE hr1 pass0) (pv 3) (pv 4) (nomark _)) (pa_cons (pe_cmpR (Own1.op_neO Y2.ne Y.cm dE RE hr2 pass0) (pv 3) (pv 4) (nomark _)) (pa_cons (pe_cmpR (Own1.op_eqO dE RE hr1 pass0) (pv 3) (pv 6) (nomark _)) (pa_cons (pe_cmpR (Own1.op_neO Y2.ne Y.cm dE RE hr2 pass0) (pv 3) (pv 6) (nomark _)) (pa_cons (pe_cmpR (Own1.op_eqO dE RE hr1 pass0) (pv 3) (pe_fld (pv 3) rfl) (nomark _)) (pa_cons (pe_cmpR (Own1.op_neO Y2.ne Y.cm dE RE hr2 pass0) (pv 3) (pe_int) (nomark _)) pa_nil))))))))
      (pss_one (ps_ret (pe_cmpR op_eq (pe_callB (cr_repr gq hu64) (by rfl) B.nRepr (by decide +kernel) (pa_cons (pv 8) pa_nil)) (pe_callB (cr_repr gq hu64) (by rfl) B.nRepr (by decide +kernel) (pa_cons (pe_lst (pa_cons (pe_bl) (pa_cons (pe_bl) (pa_cons (pv 7) (pa_cons (pe_not (pv 7)) (pa_cons (pe_bl) (pa_cons (pe_bl) pa_nil))))))) pa_nil)) (nomark _))))))))))), ?_⟩
    refine ⟨_, rfl, _, rfl, p, 4, b, rfl, hs, by omega, by decide, by decide, fun d H1 d0 d1 B1 S1 => ⟨_, _, rfl, rfl, ?_⟩⟩
    obtain ⟨dn, rfl⟩ : ∃ dn : Nat, d = (dn : Int) := ⟨d.toNat, by omega⟩
    refine ⟨p, 1 + dn, b + 1, (by show [V.ref p, V.int (1 + (dn : Int))] = _; rw [Int.natCast_add]; rfl), by omega, by omega, S1, by omega, fun lt zs H2 zl _ hz B2 nlt nltp e2 S2 => ?_⟩
    refine ⟨_, rfl, _, rfl, p, lt, 9, b + 1 + 200, zs, rfl, by decide, S2, by omega, nltp, SqL.of e2, by omega, by omega, hz, fun q1 us rs H3 ok tr B3 nq1 q1p e3 S3 => ?_⟩
    have G := ok.good (by decide) hz
    have lim := ok.lim
    refine ⟨_, rfl, q1, us, rs, rfl, e3, tr, G, fun o ss fs H4 TO TA no s4 => ?_⟩
    refine ⟨rfl, _, rfl, _, rfl, p, q1, b + 1 + 200 + 100, us, rfl, q1p, S3.same s4, by omega, s4 _ _ e3, ?_, fun q2 ys H5 pm B5 nq2 q2p e5 S5 => ?_⟩
    · rw [tr.len]
      exact G.len
    have S4 := S3.same s4
    obtain ⟨rs2, pr, tr2⟩ := ((tr.same s4).but B5 (src_not S4)).perm pm
    refine ⟨q2, ys, rfl, .inl ⟨SqL.of e5, fun t nt => ⟨t, ys, rs2, rfl, upd_same, tr2.same (same_put nt), G.perm pr, fun o2 ss2 fs2 H6 TO2 TA2 no2 s6 => ⟨(by show 2 ≤ sizeLine; decide), fun tt ntt => ?_⟩⟩⟩⟩
    refine ⟨tt, _, rfl, SqT.of upd_same, rfl, .ref o, [.ref o2], rfl, .ref o2, [], rfl, rfl, ?_⟩
    have s56 := (same_put (o := .tup ys) nt).trans (s6.trans (same_put (o := .tup [V.ref o, V.ref o2]) ntt))
    have lus : us.length ≤ 9 := by rw [tr.len]; exact ok.len
    have BB0 : But p H H5 := B1.trans (B2.trans (B3.trans ((s4.but p).trans B5)))
    have P7 : Pair C p q1 o o2 us rs ss fs ss2 fs2 _ (b + 1 + 200 + 100 + us.length) := ⟨S5.same s56, q1p, s56 _ _ (B5 _ _ q1p (s4 _ _ e3)), ((tr.same s4).but B5 (src_not S4)).same s56, (TA.but B5 (src_isl S4)).same s56, TA2.same (same_put ntt)⟩
    have BB7 := BB0.trans (s56.but p)
    have nn := TO.name G
    have nn2 := TO2.name (G.perm pr)
    have one := TO.one TO2 pr.symm
    refine ⟨_, rfl, o, ss, fs, rfl, P7.ta, nn.1, nn.2.2.1, nn.2.2.2, nn.2.1, lim.perm TO.perm, fun H8 s8 => ?_⟩
    have P8 := P7.same s8
    refine ⟨_, rfl, q1, us, rs, rfl, P8.at_, P8.tr, G, lim, fun sa fa H9 TOa s9 => ⟨rfl, _, rfl, ?_⟩⟩
    have P9 := P8.same s9
    have oa := TO.one TOa (.refl _)
    refine iteNS (by rw [oa.1, oa.2]) ?_
    refine ⟨_, rfl, o2, ss2, fs2, rfl, P9.tb, nn2.1, nn2.2.2.1, nn2.2.2.2, nn2.2.1, (lim.perm pr).perm TO2.perm, fun H8' s8' => ?_⟩
    have P8' := P9.same s8'
    refine ⟨_, rfl, q1, us, rs, rfl, P8'.at_, P8'.tr, G, lim, fun sb fb H9' TOb s9' => ⟨rfl, _, rfl, ?_⟩⟩
    have P9' := P8'.same s9'
    have ob := TO2.one TOb pr
    refine iteNS (by rw [ob.1, ob.2]) ?_
    refine ⟨_, rfl, q1, us, rs, rfl, P9'.at_, P9'.tr, G, ok.tm, fun g ws HA sA eA hw lw => ⟨g, rfl, ⟨_, SqL.of eA⟩, fun D nD => lc_it (walk_list (K := K) (a := g) (xs := ws)) (fun i H' => Same HA H' ∧ H' D = some (.lst (((ws.take i).map fun _ => true).map V.bl))) ⟨same_put nD, upd_same⟩ (fun _ _ _ h => SqL.of (h.1 _ _ eA)) ?_ ?_⟩⟩
    · rintro i x Ha Hb hi ⟨sa1, ea1⟩ ⟨rfl, hx⟩
      have Px := (P9'.same sA).same sa1
      obtain ⟨dx, pp, gg, dd, yy, h1, h2, h3, h4⟩ := id Px.ta
      have st := (hw x (List.mem_of_getElem? hx)).same sa1
      have fin : ∀ H6' : Hp, Same Hb H6' → ∃ acc, H6' D = some (.lst acc) ∧ acc.length < sizeLine ∧ Same HA (upd H6' D (.lst (acc ++ [V.bl true]))) ∧ (upd H6' D (.lst (acc ++ [V.bl true]))) D = some (.lst (((ws.take (i + 1)).map fun _ => true).map V.bl)) := fun H6' s6' => by
        refine ⟨_, s6' _ _ ea1, ?_, ?_, ?_⟩
        · rw [List.length_map, List.length_map, List.length_take]
          exact small1000 (by omega)
        · intro a o e
          rw [upd_ne (ne_of_none e nD)]
          exact s6' _ _ (sa1 a o e)
        · rw [upd_same, List.take_add_one, hx, List.map_append, List.map_append]
          rfl
      refine ⟨rfl, _, rfl, _, rfl, o, dx, _, rfl, h1, o, x, ss, fs, rfl, Px.ta, nn.1, ?_⟩
      rcases st with st | ⟨c, r, rfl, e, nm, no'⟩
      · exact .inl ⟨st, fun H6' s6' => ⟨false, rfl, fin H6' s6'⟩⟩
      · refine .inr ⟨c, r, rfl, e, nm, fun H6' s6' => ⟨_, rfl, ?_⟩⟩
        rw [decide_eq_false fun m => no' (TO.perm.mem_iff.mp m)]
        exact fin H6' s6'
    · rintro HB ⟨sB, eB⟩
      rw [List.take_length] at eB
      refine ⟨D, _, rfl, SqL.of eB, true, ?_, ?_⟩
      · have al : ((ws.map fun _ => true).all id) = true := by
          rw [List.all_map]
          exact List.all_eq_true.mpr fun _ _ => rfl
        rw [al]
      have PB := (P9'.same sA).same sB
      have BB9 := BB7.trans (((s8.trans s9).trans ((s8'.trans s9').trans (sA.trans sB))).but p)
      show if (!true) = true then _ else _
      refine iteF ?_
      refine ⟨_, rfl, p, 2, _, rfl, PB.src, by omega, by decide, by decide, fun d2 HC d20 d21 BC SC => ⟨rfl, _, rfl, ite2 (fun c => ?_) (fun c => ?_)⟩⟩
      · have PC := PB.but BC SC
        have ltC : HC lt = some (.lst (zs.map V.str)) := BC _ _ nltp (sB _ _ (sA _ _ (s9' _ _ (s8' _ _ (s9 _ _ (s8 _ _ (s56 _ _ (B5 _ _ nltp (s4 _ _ (B3 _ _ nltp e2))))))))))
        refine ⟨_, rfl, _, rfl, p, lt, 2, _, zs, rfl, by decide, SC, by omega, nltp, SqL.of ltC, by omega, by omega, hz, fun q3 us3 rs3 H10 ok3 t10 B10 nq3 q3p e10 S10 => ?_⟩
        have G10 := ok3.good (by decide) hz
        have P10 := PC.but B10 S10
        have BB := BB9.trans BC
        refine ⟨_, rfl, q3, us3, rs3, rfl, e10, t10, G10, fun o3 ss3 fs3 H11 TO3 TA3 no3 s11 => ?_⟩
        have P11 := P10.same s11
        have e11 := s11 _ _ e10
        have t11 := t10.same s11
        refine ⟨_, rfl, q3, us3, rs3, rfl, .inl (SqL.of e11), t11, fun y1 r1 l1 p1 o1 u1 n1 => ?_⟩
        have P12 := P11.same (same_put (o := .lst y1) n1)
        refine ⟨_, rfl, q1, us, rs, rfl, .inl (SqL.of P12.at_), P12.tr, fun y2 r2 l2 p2 w2 u2 n2 => ?_⟩
        have x1 := (same_put (o := .lst y2) n2) _ _ (upd_same (a := l1) (o := .lst y1))
        have s13 := (same_put (o := .lst y1) n1).trans (same_put (o := .lst y2) n2)
        have P13 := P11.same s13
        have ev : r1 = ss3 ∧ r2 = ss := ⟨sorted_one (p1.trans TO3.perm.symm) o1 TO3.ord, sorted_one (p2.trans TO.perm.symm) w2 TO.ord⟩
        have n3 := TO3.name G10
        refine ⟨_, _, .lst (SqL.of x1) ((u1.same s13).data row_data), .lst (SqL.of upd_same) ((u2.same (same_put n2)).data row_data), (rows_shaped r1 fun x hx => name_ok (n3.1 x (ev.1 ▸ hx))).1, (rows_shaped r2 fun x hx => name_ok (nn.1 x (ev.2 ▸ hx))).1, _, _, rfl, ?_⟩
        have ee : PyData.eqv (.list (r1.map fun r => .tuple (rowD r))) (.list (r2.map fun r => .tuple (rowD r))) = decide (ss3 = ss) := by
          rw [← rows_eqv, ev.1, ev.2]
          simp only [PyData.eqv]
        rw [ee]
        have TA13 := TA3.same s13
        obtain ⟨dx, pp, gg, dd, ys, h1, h2, h3, h4⟩ := id P13.ta
        obtain ⟨dx2, pp2, gg2, dd2, ys2, k1, k2, k3, k4⟩ := id P13.tb
        obtain ⟨dx3, pp3, gg3, dd3, ys3, j1, j2, j3, j4⟩ := id TA13
        refine ⟨_, rfl, _, rfl, o, dx, _, _, rfl, h1, .base (.ins k1 Z.cl Y.ca Y.cn Y.ct Y.cm), nf_self, o, _, ss, fs, rfl, P13.ta, nn.1, .inl ⟨o2, ss2, fs2, rfl, P13.tb, nn2.1, ?_⟩⟩
        refine ⟨_, rfl, _, rfl, o, dx, _, _, rfl, h1, .base (.ins k1 Z.cl Y.ca Y.cn Y.ct Y.cm), nf_self, o, _, ss, fs, rfl, P13.ta, nn.1, .inl ⟨o2, ss2, fs2, rfl, P13.tb, nn2.1, _, rfl, ?_⟩⟩
        refine ⟨_, rfl, _, rfl, o, dx, _, _, rfl, h1, .base (.ins j1 Z.cl Y.ca Y.cn Y.ct Y.cm), nf_self, o, _, ss, fs, rfl, P13.ta, nn.1, .inl ⟨o3, ss3, fs3, rfl, TA13, n3.1, ?_⟩⟩
        refine ⟨_, rfl, _, rfl, o, dx, _, _, rfl, h1, .base (.ins j1 Z.cl Y.ca Y.cn Y.ct Y.cm), nf_self, o, _, ss, fs, rfl, P13.ta, nn.1, .inl ⟨o3, ss3, fs3, rfl, TA13, n3.1, _, rfl, ?_⟩⟩
        refine ⟨_, rfl, _, rfl, o, C, dx, _, .ref pp, rfl, h1, Z.cl, Z.nR, rfl, o, dx, _, _, rfl, h1, .base (.tup h2), Y2.nfT, o, _, ss, fs, rfl, P13.ta, nn.1, .inr ⟨_, .base (.tup h2), Y2.kT, ?_⟩⟩
        refine ⟨_, rfl, o, dx, _, _, rfl, h1, .base (.int 0), Y2.nfI, o, _, ss, fs, rfl, P13.ta, nn.1, .inr ⟨_, .base (.int 0), Y2.kI, _, rfl, (by show 6 ≤ sizeLine; decide), fun td ntd => ?_⟩⟩
        rw [decide_eq_true one.1]
        refine ⟨_, rfl, _, _, rfl, .lst (SqL.of upd_same) (.cons (.bl _) (.cons (.bl _) (.cons (.bl _) (.cons (.bl _) (.cons (.bl _) (.cons (.bl _) .nil)))))), six_fits _ _ _ _ _ _, ?_⟩
        refine ⟨_, rfl, _, rfl, _, rfl, (by show 6 ≤ sizeLine; decide), fun te nte => ⟨_, _, rfl, .lst (SqL.of upd_same) (.cons (.bl _) (.cons (.bl _) (.cons (.bl _) (.cons (.bl _) (.cons (.bl _) (.cons (.bl _) .nil)))))), six_fits _ _ _ _ _ _, rfl, ?_⟩⟩
        have fl : decide (ss = ss3) = decide (ss3 = ss) := decide_eq_decide.mpr ⟨Eq.symm, Eq.symm⟩
        refine bl_true (Q := Q) (decide_eq_true (by rw [fl]; rfl)) ?_
        exact q _ (BB.trans ((B10.trans (s11.but p)).trans ((s13.trans ((same_put ntd).trans (same_put nte))).but p))) ((P11.src.same (s13.trans ((same_put ntd).trans (same_put nte)))).mono (by omega))
      · have PC := PB.but BC SC
        refine ⟨_, rfl, _, rfl, -1, rfl, q1, us, rfl, SqL.of PC.at_, fun q3 nq3 => ?_⟩
        have sc := same_put (o := .lst (cutV us none (some (-1)))) nq3
        obtain ⟨us3, eus⟩ : ∃ us3, cutV us none (some (-1)) = us3 := ⟨_, rfl⟩
        rw [eus] at sc ⊢
        have e10 : (upd HC q3 (.lst us3)) q3 = some (.lst us3) := upd_same
        have P10 := PC.same sc
        have B10 := sc.but p
        obtain ⟨rs3, e3', t10, sub⟩ := cut_rows P10.tr eus
        have G10 := G.sub sub
        have BB := BB9.trans BC
        revert e10 P10 B10 t10
        generalize upd HC q3 (.lst us3) = H10
        intro e10 P10 B10 t10
        refine ⟨_, rfl, q3, us3, rs3, rfl, e10, t10, G10, fun o3 ss3 fs3 H11 TO3 TA3 no3 s11 => ?_⟩
        have P11 := P10.same s11
        have e11 := s11 _ _ e10
        have t11 := t10.same s11
        refine ⟨_, rfl, q3, us3, rs3, rfl, .inl (SqL.of e11), t11, fun y1 r1 l1 p1 o1 u1 n1 => ?_⟩
        have P12 := P11.same (same_put (o := .lst y1) n1)
        refine ⟨_, rfl, q1, us, rs, rfl, .inl (SqL.of P12.at_), P12.tr, fun y2 r2 l2 p2 w2 u2 n2 => ?_⟩
        have x1 := (same_put (o := .lst y2) n2) _ _ (upd_same (a := l1) (o := .lst y1))
        have s13 := (same_put (o := .lst y1) n1).trans (same_put (o := .lst y2) n2)
        have P13 := P11.same s13
        have ev : r1 = ss3 ∧ r2 = ss := ⟨sorted_one (p1.trans TO3.perm.symm) o1 TO3.ord, sorted_one (p2.trans TO.perm.symm) w2 TO.ord⟩
        have n3 := TO3.name G10
        refine ⟨_, _, .lst (SqL.of x1) ((u1.same s13).data row_data), .lst (SqL.of upd_same) ((u2.same (same_put n2)).data row_data), (rows_shaped r1 fun x hx => name_ok (n3.1 x (ev.1 ▸ hx))).1, (rows_shaped r2 fun x hx => name_ok (nn.1 x (ev.2 ▸ hx))).1, _, _, rfl, ?_⟩
        have ee : PyData.eqv (.list (r1.map fun r => .tuple (rowD r))) (.list (r2.map fun r => .tuple (rowD r))) = decide (ss3 = ss) := by
          rw [← rows_eqv, ev.1, ev.2]
          simp only [PyData.eqv]
        rw [ee]
        have TA13 := TA3.same s13
        obtain ⟨dx, pp, gg, dd, ys, h1, h2, h3, h4⟩ := id P13.ta
        obtain ⟨dx2, pp2, gg2, dd2, ys2, k1, k2, k3, k4⟩ := id P13.tb
        obtain ⟨dx3, pp3, gg3, dd3, ys3, j1, j2, j3, j4⟩ := id TA13
        refine ⟨_, rfl, _, rfl, o, dx, _, _, rfl, h1, .base (.ins k1 Z.cl Y.ca Y.cn Y.ct Y.cm), nf_self, o, _, ss, fs, rfl, P13.ta, nn.1, .inl ⟨o2, ss2, fs2, rfl, P13.tb, nn2.1, ?_⟩⟩
        refine ⟨_, rfl, _, rfl, o, dx, _, _, rfl, h1, .base (.ins k1 Z.cl Y.ca Y.cn Y.ct Y.cm), nf_self, o, _, ss, fs, rfl, P13.ta, nn.1, .inl ⟨o2, ss2, fs2, rfl, P13.tb, nn2.1, _, rfl, ?_⟩⟩
        refine ⟨_, rfl, _, rfl, o, dx, _, _, rfl, h1, .base (.ins j1 Z.cl Y.ca Y.cn Y.ct Y.cm), nf_self, o, _, ss, fs, rfl, P13.ta, nn.1, .inl ⟨o3, ss3, fs3, rfl, TA13, n3.1, ?_⟩⟩
        refine ⟨_, rfl, _, rfl, o, dx, _, _, rfl, h1, .base (.ins j1 Z.cl Y.ca Y.cn Y.ct Y.cm), nf_self, o, _, ss, fs, rfl, P13.ta, nn.1, .inl ⟨o3, ss3, fs3, rfl, TA13, n3.1, _, rfl, ?_⟩⟩
        refine ⟨_, rfl, _, rfl, o, C, dx, _, .ref pp, rfl, h1, Z.cl, Z.nR, rfl, o, dx, _, _, rfl, h1, .base (.tup h2), Y2.nfT, o, _, ss, fs, rfl, P13.ta, nn.1, .inr ⟨_, .base (.tup h2), Y2.kT, ?_⟩⟩
        refine ⟨_, rfl, o, dx, _, _, rfl, h1, .base (.int 0), Y2.nfI, o, _, ss, fs, rfl, P13.ta, nn.1, .inr ⟨_, .base (.int 0), Y2.kI, _, rfl, (by show 6 ≤ sizeLine; decide), fun td ntd => ?_⟩⟩
        rw [decide_eq_true one.1]
        refine ⟨_, rfl, _, _, rfl, .lst (SqL.of upd_same) (.cons (.bl _) (.cons (.bl _) (.cons (.bl _) (.cons (.bl _) (.cons (.bl _) (.cons (.bl _) .nil)))))), six_fits _ _ _ _ _ _, ?_⟩
        refine ⟨_, rfl, _, rfl, _, rfl, (by show 6 ≤ sizeLine; decide), fun te nte => ⟨_, _, rfl, .lst (SqL.of upd_same) (.cons (.bl _) (.cons (.bl _) (.cons (.bl _) (.cons (.bl _) (.cons (.bl _) (.cons (.bl _) .nil)))))), six_fits _ _ _ _ _ _, rfl, ?_⟩⟩
        have fl : decide (ss = ss3) = decide (ss3 = ss) := decide_eq_decide.mpr ⟨Eq.symm, Eq.symm⟩
        refine bl_true (Q := Q) (decide_eq_true (by rw [fl]; rfl)) ?_
        exact q _ (BB.trans ((B10.trans (s11.but p)).trans ((s13.trans ((same_put ntd).trans (same_put nte))).but p))) ((P11.src.same (s13.trans ((same_put ntd).trans (same_put nte)))).mono (by omega))
end
end K01

namespace Rng
open PySem L2 Bag Gd
def spLaw (K : PySem.W.Frag) : Sp := fun vs H Q _ => ∃ (a : Addr) (ns : List Int), vs = [.ref a] ∧ SqL K H a (ns.map V.int) ∧ ns.length ≤ 63 ∧ ∀ H', Q (.bl true) H'
def firstD : PyData := .list [.bool true, .bool false, .bool false, .bool false, .tuple [], .tuple []]
theorem first_fits : Fits 80000 40 firstD := by
  unfold firstD
  refine ⟨?_, ?_, ?_, ?_⟩
  · simp only [PyData.leavesShort, PyData.leavesShortAll, Bool.and_self]
  · simp only [PyData.showable, PyData.showableAll, Bool.and_self]
  · simp only [PyData.weight, PyData.weightAll]
    omega
  · simp only [PyData.depth, PyData.depthAll]
    omega
def oneRow : Row := ("a", 1, 0)
theorem made_go {C x dx : Addr} {H : Hp} {xs : List V} {rs : List Row} {Q : VK} {E : XK} (tr : TupsAt rowV H xs rs) (G : Good rs) (nx : H x = none) (nd : H dx = none) (ne : dx ≠ x) (q : ∀ (ss : List Row) (fs : List Str) (H' : Hp), TabOf rs ss fs → TabAt C H' x ss fs → Same H H' → Q .non H') :
    ∃ ws rest, V.ref x :: xs = ws ++ rest ∧ ws.length = (["self"] : List Str).length ∧ rest.length ≤ sizeLine ∧ ∀ p, (upd (upd H dx (.own x)) x (.ins C dx [])) p = Option.none →
      spInit C (ws ++ [V.ref p]) (upd (upd (upd H dx (.own x)) x (.ins C dx [])) p (.tup rest)) Q E := by
  refine ⟨[V.ref x], xs, rfl, rfl, ?_, fun p np => ?_⟩
  · rw [tr.len, sizeLine_eq]
    have := G.len
    omega
  have s1 : Same H (upd (upd H dx (.own x)) x (.ins C dx [])) := fun a o e => by rw [upd_ne (ne_of_none e nx), upd_ne (ne_of_none e nd)]; exact e
  have s2 := s1.trans (same_put (o := .tup xs) np)
  have npx : x ≠ p := fun z => by rw [← z, upd_same] at np; cases np
  exact ⟨x, p, dx, xs, rs, rfl, by rw [upd_ne npx]; exact upd_same, upd_same, tr.same s2, G, fun ss fs H' T A b => q ss fs H' T A fun a o e => b a o (fun z => by rw [z, nx] at e; cases e) (s2 a o e)⟩
theorem one_name : isName oneRow.1 = true := by decide +kernel
theorem one_good : Good [oneRow] := ⟨by decide, List.nodup_cons.mpr ⟨List.not_mem_nil, List.nodup_nil⟩, fun r hr => by rw [List.mem_singleton.mp hr]; exact one_name⟩
theorem no_good : Good [] := ⟨Nat.zero_le _, List.nodup_nil, fun r hr => (nomatch hr)⟩
theorem bl_is {K : PySem.W.Frag} {H : Hp} {x y : Bool} (h : x = y) : Dp K H (.bl x) (.bool y) := by
  rw [h]
  exact .bl y
theorem _root_.L2.SqL.sameL {K : PySem.W.Frag} {H H' : Hp} {a : Addr} {xs : List V} (h : SqL K H a xs) (s : Same H H') : SqL K H' a xs := s.seq h
end Rng
namespace K01
open PySem L2 Rng Bag Gd
section
variable {P : Program} {w : World} {K : PySem.W.Frag} {mg : Str → Option Value} {base : Heap}
abbrev sLaw : Stmt := top 27
theorem scLaw : FnScope ["_law_script", "_law_one_here", "_law_none", "_law_told", "_law_k", "_law_source_here", "_law_turn"] ["_law_script"] (defScope sLaw) := ⟨rfl, rfl, rfl, by decide +kernel, rfl, by decide +kernel, by decide +kernel⟩
theorem ok_law {f f0 fR fN fS C eI eL : Addr} {fd dR dN dS : FuncData} (F : Fun K "law" "law" sLaw f fd) (T : Kt mg) (B : Bl mg) (Z : Tc K C) (Y2 : Tn K C) (TR : Bt mg) (nMax : mg "max" = none) (nMin : mg "min" = none) (mC : mg "Table" = some (.ref C)) (M : Mk K C f0) (GI : FnR P w K mg base CX0 4 f0 (spStar C))
    (FR : Fun K "_law_right" "_law_right" sRight fR dR) (bR : Binds K dR ["_law_source_here"] []) (mR : mg "_law_right" = some (.ref fR)) (GR : FnG P w K mg base 8 fR dR ["_law_source_here"] spRight)
    (FN : Fun K "_law_number" "_law_number" sNumber fN dN) (bN : Binds K dN ["_law_script", "_law_k"] []) (mN : mg "_law_number" = some (.ref fN)) (FS : Fun K "_law_source" "_law_source" sSource fS dS) (bS : Binds K dS ["_law_cell"] []) (mS : mg "_law_source" = some (.ref fS))
    (dI : Own1.Dun K C "__contains__" eI) (RI : FnR P w K mg base CX0 4 eI (spInT K C)) (dL : Own1.Dun K C "__len__" eL) (RL : FnR P w K mg base CX0 1 eL (spLenT C)) : FnG P w K mg base 9 f fd ["_law_script"] (spLaw K) := by
  have GN : FnOk P w K mg base CX0 1 fN dN ["_law_script", "_law_k"] (spNumber K) := ok_number FN TR
  have GS : FnOk P w K mg base CX0 1 fS dS ["_law_cell"] spSource := ok_source FS TR
  refine F.okG scLaw (fun vs H Q E h => ?_) (fun cdv A outer s H vs Q E gq hr h => ?_)
  · obtain ⟨a, ns, rfl, _⟩ := h
    rfl
  · obtain ⟨a, ns, rfl, hS, hl, q⟩ := h
    have hr1 : Room 1 _ := hr.mono (by decide)
    have hr4 : Room 4 _ := hr.mono (by decide)
    have hr5 : Room 5 _ := hr.mono (by decide)
    have hu64 := Nat.lt_of_le_of_lt (Nat.add_le_add_left (by decide : 64 ≤ 16 * 8 + 200) _) (Nat.lt_of_le_of_lt (Nat.le_of_eq (Nat.add_assoc _ _ _).symm) hr.un)
    refine ⟨_, pss_cons (ps_par (i := 1) (j := 2) (by rfl) scLaw.nd rfl rfl (by decide) rfl rfl (pa_cons (StX.pe_makeR M GI hr5 rfl mC pass0 (pa_cons (pe_tup (pa_cons (pe_str) (pa_cons (pe_int) (pa_cons (pe_int) pa_nil)))) pa_nil)) (pa_cons (Mk1.pe_makeR0 M GI hr5 rfl mC pass0) pa_nil)) (by rfl))
      (pss_cons (ps_set (i := 3) scLaw.nd rfl (Or.inl rfl) (pe_lst (pa_cons (pe_cmpR (Own1.op_inO dI RI hr4 pass0) (pe_tup (pa_cons (pe_str) (pa_cons (pe_int) (pa_cons (pe_int) pa_nil)))) (pv 1) (by rfl)) (pa_cons (pe_cmpR (Own1.op_inO dI RI hr4 pass0) (pe_tup (pa_cons (pe_str) (pa_cons (pe_bl) (pa_cons (pe_int) pa_nil)))) (pv 1) (by rfl)) (pa_cons (pe_cmpR (Own1.op_inO dI RI hr4 pass0) (pe_tup (pa_cons (pe_str) (pa_cons (pe_int) (pa_cons (pe_bl) pa_nil)))) (pv 1) (by rfl)) (pa_cons (pe_callTy (Own1.call_boolO Y2.nb dL RL hr4 pass0) (by rfl) T.nBool (by decide +kernel) (pa_cons (pv 2) pa_nil)) (pa_cons (pe_fld (pv 2) rfl) (pa_cons (pe_fld (pv 2) rfl) pa_nil))))))))
      (pss_cons (ps_if (pt_cmpR op_ne (pe_callB (cr_repr gq hu64) (by rfl) B.nRepr (by decide +kernel) (pa_cons (pv 3) pa_nil)) (pe_callB (cr_repr gq hu64) (by rfl) B.nRepr (by decide +kernel) (pa_cons (pe_lst (pa_cons (pe_bl) (pa_cons (pe_bl) (pa_cons (pe_bl) (pa_cons (pe_bl) (pa_cons (pe_tup pa_nil) (pa_cons (pe_tup pa_nil) pa_nil))))))) pa_nil)) (nomark _)) (pss_one (ps_ret pe_bl)) pss_nil)
      (pss_cons (ps_for PassesOwn.never rfl (pi_range1 rfl TR.nRange (pa_cons (pe_callB (call_max2 rfl) (by rfl) nMax (by decide +kernel) (pa_cons pe_int (pa_cons (pe_callB (call_min2 rfl) (by rfl) nMin (by decide +kernel) (pa_cons (pe_callB call_len_seq (by rfl) T.nLen PySem.boot_len (pa_cons (pv 0) pa_nil)) (pa_cons pe_int pa_nil))) pa_nil))) pa_nil)) (pg_name (i := 4) scLaw.nd rfl (Or.inl rfl))
        (pss_cons (ps_set (i := 5) scLaw.nd rfl (Or.inr rfl) (pe_call GS hr1 rfl mS FS.kp bS .nil pass0 (pa_cons (pe_call GN hr1 rfl mN FN.kp bN .nil pass0 (pa_cons (pv 0) (pa_cons (pv 4) pa_nil))) pa_nil)))
        (pss_one (ps_if (pt_not (pt_val (pe_callB (cr_all rfl) (by rfl) T.nAll (by decide +kernel) (pa_cons
            (pe_lc (own := [("_law_turn", 6)]) (g := gName 6) (tt := tYes) rfl scLaw.nd (pi_range1 rfl TR.nRange (pa_cons pe_int pa_nil)) (blkOk_by (own := [("_law_turn", 6)]) (N := ["_law_script", "_law_one_here", "_law_none", "_law_told", "_law_k", "_law_source_here", "_law_turn"]) (sc := defScope sLaw) (by decide +kernel)) (fun _ _ _ _ _ => pg_name (i := 6) scLaw.nd rfl (Or.inl rfl)) (fun _ _ _ _ _ => pts_nil)
              (fun _ _ _ _ _ => pe_callG (E := E0) GR gq hr rfl mR FR.kp bR .nil (pa_cons (pv 5) pa_nil))) pa_nil)))) (pss_one (ps_ret pe_bl)) pss_nil))))
      (pss_one (ps_ret pe_bl))))), ?_⟩
    refine ⟨(by show 3 ≤ sizeLine; decide), fun t nt => ?_⟩
    have tr1 : TupsAt rowV (upd H t (.tup [V.str "a", V.int 1, V.int 0])) [V.ref t] [oneRow] := .cons (a := oneRow) upd_same .nil
    refine fun o dx0 nx0 nd0 ne0 => made_go tr1 one_good nx0 nd0 ne0 fun ss fs H1 TO TA s1 => ⟨rfl, ?_⟩
    refine fun o2 dx1 nx1 nd1 ne1 => made_go (xs := []) (rs := []) .nil no_good nx1 nd1 ne1 fun ss2 fs2 H2 TO2 TA2 s2 => ⟨rfl, _, _, rfl, ?_⟩
    have sA := (same_put (o := .tup (rowV oneRow)) nt).trans (s1.trans s2)
    have ess : ss = [oneRow] := List.perm_singleton.mp TO.perm
    have ess2 : ss2 = [] := List.perm_nil.mp TO2.perm
    have efs2 : fs2 = [] := List.perm_nil.mp TO2.fperm
    subst ess
    subst ess2
    subst efs2
    have T2 := TA.same s2
    obtain ⟨dx, pp, gg, dd, ys, h1, h2, h3, h4⟩ := id T2
    obtain ⟨dx2, pp2, gg2, dd2, ys2, k1, k2, k3, k4⟩ := id TA2
    have nn : ∀ r ∈ [oneRow], isName r.1 = true := fun r hr => by rw [List.mem_singleton.mp hr]; exact one_name
    refine ⟨(by show 3 ≤ sizeLine; decide), fun t1 n1 => ?_⟩
    have a1 := same_put (o := .tup (rowV oneRow)) n1
    refine ⟨_, rfl, o, dx, _, rfl, a1 _ _ h1, o, .ref t1, [oneRow], fs, rfl, T2.same a1, nn, .inr ⟨t1, oneRow, rfl, upd_same, one_name, fun H3 s3 => ⟨_, rfl, (by show 3 ≤ sizeLine; decide), fun t2 n2 => ?_⟩⟩⟩
    have a2 := a1.trans (s3.trans (same_put (o := .tup [V.str "a", V.bl true, V.int 0]) n2))
    refine ⟨_, rfl, o, dx, _, rfl, a2 _ _ h1, o, .ref t2, [oneRow], fs, rfl, T2.same a2, nn, .inl ⟨.inr (.inr ⟨t2, _, _, _, true, false, true, rfl, upd_same, .inl ⟨"a", rfl, by decide, by decide +kernel⟩, fun _ _ => .bl true, fun _ _ => .int _, rfl⟩), fun H4 s4 => ⟨false, rfl, (by show 3 ≤ sizeLine; decide), fun t3 n3 => ?_⟩⟩⟩
    have a3 := a2.trans (s4.trans (same_put (o := .tup [V.str "a", V.int 1, V.bl false]) n3))
    refine ⟨_, rfl, o, dx, _, rfl, a3 _ _ h1, o, .ref t3, [oneRow], fs, rfl, T2.same a3, nn, .inl ⟨.inr (.inr ⟨t3, _, _, _, true, true, false, rfl, upd_same, .inl ⟨"a", rfl, by decide, by decide +kernel⟩, fun _ _ => .int _, fun _ _ => .bl false, rfl⟩), fun H5 s5 => ⟨false, rfl, ?_⟩⟩⟩
    have a4 := a3.trans s5
    have T5 := TA2.same a4
    have k1' := a4 _ _ k1
    refine ⟨_, rfl, o2, dx2, _, rfl, k1', o2, [], [], rfl, T5, 0, rfl, by decide, ?_⟩
    refine ⟨_, rfl, o2, C, dx2, _, .ref pp2, rfl, k1', Z.cl, Z.nR, rfl, _, rfl, o2, C, dx2, _, .ref gg2, rfl, k1', Z.cl, Z.nF, rfl, (by show 6 ≤ sizeLine; decide), fun td ntd => ?_⟩
    have ey2 : ys2 = [] := by
      cases k3
      rfl
    subst ey2
    have dt : decide (oneRow ∈ [oneRow]) = true := decide_eq_true (List.mem_singleton.mpr rfl)
    have a5 := a4.trans (same_put (o := .lst [V.bl (if false = true then !decide (oneRow ∈ [oneRow]) else decide (oneRow ∈ [oneRow])), V.bl (if false = true then !false else false), V.bl (if false = true then !false else false), V.bl (((0 : Nat) : Int) != 0), V.ref pp2, V.ref gg2]) ntd)
    refine ⟨_, rfl, _, firstD, rfl, .lst (SqL.of upd_same) (.cons (bl_is (by simp)) (.cons (bl_is rfl) (.cons (bl_is rfl) (.cons (bl_is rfl) (.cons (.tup (SqT.of (a5 _ _ k2)) .nil) (.cons (.tup (SqT.of (a5 _ _ k4)) .nil) .nil)))))), first_fits, ?_⟩
    refine ⟨(by show 0 ≤ sizeLine; decide), fun e1 m1 => ⟨(by show 0 ≤ sizeLine; decide), fun e2 m2 => ⟨(by show 6 ≤ sizeLine; decide), fun te nte => ?_⟩⟩⟩
    have b2 := (same_put (o := .tup []) m2).trans (same_put (o := .lst [V.bl true, V.bl false, V.bl false, V.bl false, V.ref e1, V.ref e2]) nte)
    have b1 := (same_put (o := .tup []) m1).trans b2
    refine ⟨_, firstD, rfl, .lst (SqL.of upd_same) (.cons (.bl _) (.cons (.bl _) (.cons (.bl _) (.cons (.bl _) (.cons (.tup (SqT.of (b2 _ _ upd_same)) .nil) (.cons (.tup (SqT.of ((same_put nte) _ _ upd_same)) .nil) .nil)))))), first_fits, rfl, _, rfl, iteNS rfl ?_⟩
    have sB := sA.trans (a5.trans b1)
    have lens : (ns.map V.int).length = ns.length := List.length_map _
    refine ⟨_, rfl, a, _, rfl, .inl (hS.sameL sB), _, _, rfl, _, _, rfl, ?_⟩
    obtain ⟨N0, eN, N1, N4⟩ : ∃ N0 : Int, (if (if (4 : Int) < ((ns.map V.int).length : Int) then (4 : Int) else ((ns.map V.int).length : Int)) > 2 then (if (4 : Int) < ((ns.map V.int).length : Int) then (4 : Int) else ((ns.map V.int).length : Int)) else 2) = N0 ∧ 0 ≤ N0 ∧ N0 ≤ 4 := by
      refine ⟨_, rfl, ?_, ?_⟩
      · split
        · omega
        · omega
      · split
        · split <;> omega
        · omega
    rw [eN]
    refine ⟨N0, rfl, by omega, by omega, for_it (walk_range (lo := 0) (n := N0.toNat)) (fun i σ H' => ∃ (x4 x5 : Option V), σ = [some (.ref a), some (.ref o), some (.ref o2), some (.ref td), x4, x5, none] ∧ Same H H') ⟨_, _, rfl, sB⟩ (fun _ _ _ _ _ => trivial) ?_ ?_⟩
    · rintro i x σ Hx H6 hi ⟨x4, x5, rfl, s6⟩ ⟨rfl, rfl⟩
      refine ⟨_, rfl, _, rfl, a, ns, 0 + (i : Int), rfl, hS.sameL s6, hl, by omega, by omega, fun z H7 s7 => ⟨z, rfl, fun p H8 s8 np S8 => ?_⟩⟩
      have hp : H p = none := by
        cases e : H p with
        | none => rfl
        | some u =>
          have := s7 _ _ (s6 _ _ e)
          rw [np] at this
          cases this
      refine ⟨3, rfl, by decide, by decide, fun D nD => lc_it (walk_range (lo := 0) (n := 3)) (fun j H' => But p H8 H' ∧ Src H' p (0 + 600 * j) ∧ H' D = some (.lst ((List.replicate j true).map V.bl))) ⟨(same_put nD).but p, S8.same (same_put nD), upd_same⟩ (fun _ _ _ _ => trivial) ?_ ?_⟩
      · rintro j y Ha Hb hj ⟨B1, S1, e1⟩ ⟨rfl, rfl⟩
        have nDp : D ≠ p := S8.ne nD
        refine ⟨rfl, _, rfl, p, _, rfl, S1, by omega, fun H9 B9 S9 => ⟨_, B9 _ _ nDp e1, ?_, ?_, ?_, ?_⟩⟩
        · rw [List.length_map, List.length_replicate]
          exact small1000 (by omega)
        · intro c u nc e
          rw [upd_ne (ne_of_none e nD)]
          exact B9 c u nc (B1 c u nc e)
        · obtain ⟨A0, B0, t0, e0, r⟩ := S9.mono (c := 0 + 600 * (j + 1)) (by omega)
          exact ⟨A0, B0, t0, by rw [upd_ne nDp.symm]; exact e0, r⟩
        · rw [upd_same, List.replicate_succ', List.map_append]
          rfl
      · rintro H9 ⟨B9, S9, e9⟩
        refine ⟨D, _, rfl, SqL.of e9, true, rfl, ?_⟩
        show if (!true) = true then _ else _
        refine iteF ⟨_, _, rfl, fun c u e => ?_⟩
        exact B9 c u (fun z => by rw [z, hp] at e; cases e) (s8 _ _ (s7 _ _ (s6 _ _ e)))
    · rintro σ H6 ⟨x4, x5, rfl, s6⟩
      exact q H6
end
end K01

namespace K01
open PySem L2 Rng Bag Gd
/-! ### what the top has written -/
def FunX (K : PySem.W.Frag) (x q : Str) (st : Stmt) (f : Addr) : Prop := ∃ (oc kV dc pm cd ct : Value) (od an : Option Addr) (sl : Array (Option Value)), K.lookup f = some ⟨oc, od, .func (PySem.W.fnOf x q (defArgs st) (defBody st) (defScope st) .none kV dc pm an cd ct), sl⟩ ∧ PySem.W.codeIn K cd q = true
theorem funx_mk {K : PySem.W.Frag} {x q : Str} {st : Stmt} {f : Addr} {oc kV dc pm cd ct : Value} {od an : Option Addr} {sl : Array (Option Value)} (l : K.lookup f = some ⟨oc, od, .func (PySem.W.fnOf x q (defArgs st) (defBody st) (defScope st) .none kV dc pm an cd ct), sl⟩) (c : PySem.W.codeIn K cd q = true) : FunX K x q st f := ⟨oc, kV, dc, pm, cd, ct, od, an, sl, l, c⟩
theorem FunX.fun {K : PySem.W.Frag} {x q : Str} {st : Stmt} {f : Addr} (h : FunX K x q st f) (k : PySem.W.keepIn K (.ref f) = true) : ∃ fd, Fun K x q st f fd := by
  obtain ⟨oc, kV, dc, pm, cd, ct, od, an, sl, l, c⟩ := h
  exact ⟨_, fun_mk l c k⟩
theorem kit_c {K : PySem.W.Frag} {C : Addr} {t : String} (h1 : PySem.W.isClsIn K C = true) (h2 : PySem.W.typeIn K (.ref C) = some (.type "type")) (h3 : PySem.W.subIn K (.type t) (.ref C) = some false) : PySem.W.kitOne K (.type t) (.ref C) = some false := by
  unfold PySem.W.kitOne
  have e0 : (Value.type t == Value.ref C) = false := beq_eq_false_iff_ne.mpr fun q => nomatch q
  rw [e0, if_neg Bool.false_ne_true]
  show (if ((PySem.W.clsIn K C).isSome && PySem.W.typeIn K (.ref C) == some (.type "type")) = true then PySem.W.subIn K (.type t) (.ref C) else none) = _
  rw [if_pos (by rw [h2, show (PySem.W.clsIn K C).isSome = true from h1] <;> rfl), h3]

theorem all_mk {l : PySem.W.OpenLaw} {w : World} {K : PySem.W.Frag} {h : Heap} {mg : Str → Option Value} {fa : Addr} (X : K.In h) (G : h.Ns mainGlobals mg) (hfa : mg "law" = some (.ref fa))
    {C pO fNu fSo fPi fOn fTa fTs fLi fMi fIt fNa fLe fDi fRo fTb fSh fDu fSt fRi fLa fMini fMof fMlen fMrep fMin fMeq : Addr} {tM : Tok} {rO : List Value}
    (gC : PySem.W.nsIn K mainGlobals "Table" = some (some (.ref C)))
    (gM : PySem.W.nsIn K mainGlobals "MAX_NAME" = some (some (.int 8 tM)))
    (z_len : PySem.W.nsIn K mainGlobals "len" = some none)
    (z_int : PySem.W.nsIn K mainGlobals "int" = some none)
    (z_abs : PySem.W.nsIn K mainGlobals "abs" = some none)
    (z_range : PySem.W.nsIn K mainGlobals "range" = some none)
    (z_str : PySem.W.nsIn K mainGlobals "str" = some none)
    (z_isinstance : PySem.W.nsIn K mainGlobals "isinstance" = some none)
    (z_bool : PySem.W.nsIn K mainGlobals "bool" = some none)
    (z_all : PySem.W.nsIn K mainGlobals "all" = some none)
    (z_tuple : PySem.W.nsIn K mainGlobals "tuple" = some none)
    (z_enumerate : PySem.W.nsIn K mainGlobals "enumerate" = some none)
    (z_sorted : PySem.W.nsIn K mainGlobals "sorted" = some none)
    (z_list : PySem.W.nsIn K mainGlobals "list" = some none)
    (z_repr : PySem.W.nsIn K mainGlobals "repr" = some none)
    (z_set : PySem.W.nsIn K mainGlobals "set" = some none)
    (z_max : PySem.W.nsIn K mainGlobals "max" = some none)
    (z_min : PySem.W.nsIn K mainGlobals "min" = some none)
    (dNu : PySem.W.nsIn K mainGlobals "_law_number" = some (some (.ref fNu)))
    (eNu : FunX K "_law_number" "_law_number" sNumber fNu)
    (kNu : PySem.W.keepIn K (.ref fNu) = true)
    (dSo : PySem.W.nsIn K mainGlobals "_law_source" = some (some (.ref fSo)))
    (eSo : FunX K "_law_source" "_law_source" sSource fSo)
    (kSo : PySem.W.keepIn K (.ref fSo) = true)
    (dPi : PySem.W.nsIn K mainGlobals "_law_pick" = some (some (.ref fPi)))
    (ePi : FunX K "_law_pick" "_law_pick" sPick fPi)
    (kPi : PySem.W.keepIn K (.ref fPi) = true)
    (dOn : PySem.W.nsIn K mainGlobals "_law_one" = some (some (.ref fOn)))
    (eOn : FunX K "_law_one" "_law_one" sOne fOn)
    (kOn : PySem.W.keepIn K (.ref fOn) = true)
    (dTa : PySem.W.nsIn K mainGlobals "_law_tag" = some (some (.ref fTa)))
    (eTa : FunX K "_law_tag" "_law_tag" sTag fTa)
    (kTa : PySem.W.keepIn K (.ref fTa) = true)
    (dTs : PySem.W.nsIn K mainGlobals "_law_tags" = some (some (.ref fTs)))
    (eTs : FunX K "_law_tags" "_law_tags" sTags fTs)
    (kTs : PySem.W.keepIn K (.ref fTs) = true)
    (dLi : PySem.W.nsIn K mainGlobals "_law_lines" = some (some (.ref fLi)))
    (eLi : FunX K "_law_lines" "_law_lines" sLines fLi)
    (kLi : PySem.W.keepIn K (.ref fLi) = true)
    (dMi : PySem.W.nsIn K mainGlobals "_law_mixed" = some (some (.ref fMi)))
    (eMi : FunX K "_law_mixed" "_law_mixed" sMixed fMi)
    (kMi : PySem.W.keepIn K (.ref fMi) = true)
    (dIt : PySem.W.nsIn K mainGlobals "is_integer" = some (some (.ref fIt)))
    (eIt : FunX K "is_integer" "is_integer" sInteger fIt)
    (kIt : PySem.W.keepIn K (.ref fIt) = true)
    (dNa : PySem.W.nsIn K mainGlobals "is_name" = some (some (.ref fNa)))
    (eNa : FunX K "is_name" "is_name" sName fNa)
    (kNa : PySem.W.keepIn K (.ref fNa) = true)
    (dLe : PySem.W.nsIn K mainGlobals "_is_letter" = some (some (.ref fLe)))
    (eLe : FunX K "_is_letter" "_is_letter" sLetter fLe)
    (kLe : PySem.W.keepIn K (.ref fLe) = true)
    (dDi : PySem.W.nsIn K mainGlobals "_is_digit" = some (some (.ref fDi)))
    (eDi : FunX K "_is_digit" "_is_digit" sDigit fDi)
    (kDi : PySem.W.keepIn K (.ref fDi) = true)
    (dRo : PySem.W.nsIn K mainGlobals "is_row" = some (some (.ref fRo)))
    (eRo : FunX K "is_row" "is_row" sRow fRo)
    (kRo : PySem.W.keepIn K (.ref fRo) = true)
    (dTb : PySem.W.nsIn K mainGlobals "_law_table" = some (some (.ref fTb)))
    (eTb : FunX K "_law_table" "_law_table" sLawTable fTb)
    (kTb : PySem.W.keepIn K (.ref fTb) = true)
    (dSh : PySem.W.nsIn K mainGlobals "_law_shown" = some (some (.ref fSh)))
    (eSh : FunX K "_law_shown" "_law_shown" sShown fSh)
    (kSh : PySem.W.keepIn K (.ref fSh) = true)
    (dDu : PySem.W.nsIn K mainGlobals "_law_due" = some (some (.ref fDu)))
    (eDu : FunX K "_law_due" "_law_due" sDue fDu)
    (kDu : PySem.W.keepIn K (.ref fDu) = true)
    (dSt : PySem.W.nsIn K mainGlobals "_law_strangers" = some (some (.ref fSt)))
    (eSt : FunX K "_law_strangers" "_law_strangers" sStrangers fSt)
    (kSt : PySem.W.keepIn K (.ref fSt) = true)
    (dRi : PySem.W.nsIn K mainGlobals "_law_right" = some (some (.ref fRi)))
    (eRi : FunX K "_law_right" "_law_right" sRight fRi)
    (kRi : PySem.W.keepIn K (.ref fRi) = true)
    (dLa : PySem.W.nsIn K mainGlobals "law" = some (some (.ref fLa)))
    (eLa : FunX K "law" "law" sLaw fLa)
    (kLa : PySem.W.keepIn K (.ref fLa) = true)
    (iMini : PySem.W.findIn K (.ref C) "__init__" = some (some (.ref fMini)))
    (nMini : PySem.W.isFn K (.ref fMini) = true)
    (eMini : FunX K "__init__" "Table.__init__" sInit fMini)
    (kMini : PySem.W.keepIn K (.ref fMini) = true)
    (at_of : PySem.W.findCls K (.ref C) (.type "type") "of" = some (.get (.builtin "staticmethod.__get__") (.ref pO) .none (.ref C)))
    (rc_of : PySem.W.recIn K pO "staticmethod" = some (.ref fMof :: rO))
    (eMof : FunX K "of" "Table.of" sOf fMof)
    (kMof : PySem.W.keepIn K (.ref fMof) = true)
    (iMlen : PySem.W.findIn K (.ref C) "__len__" = some (some (.ref fMlen)))
    (nMlen : PySem.W.isFn K (.ref fMlen) = true)
    (eMlen : FunX K "__len__" "Table.__len__" sLen fMlen)
    (kMlen : PySem.W.keepIn K (.ref fMlen) = true)
    (iMrep : PySem.W.findIn K (.ref C) "__repr__" = some (some (.ref fMrep)))
    (nMrep : PySem.W.isFn K (.ref fMrep) = true)
    (eMrep : FunX K "__repr__" "Table.__repr__" sRepr fMrep)
    (kMrep : PySem.W.keepIn K (.ref fMrep) = true)
    (iMin : PySem.W.findIn K (.ref C) "__contains__" = some (some (.ref fMin)))
    (nMin : PySem.W.isFn K (.ref fMin) = true)
    (eMin : FunX K "__contains__" "Table.__contains__" sIn fMin)
    (kMin : PySem.W.keepIn K (.ref fMin) = true)
    (iMeq : PySem.W.findIn K (.ref C) "__eq__" = some (some (.ref fMeq)))
    (nMeq : PySem.W.isFn K (.ref fMeq) = true)
    (eMeq : FunX K "__eq__" "Table.__eq__" sEq fMeq)
    (kMeq : PySem.W.keepIn K (.ref fMeq) = true)
    (makes : PySem.W.makesIn K C = true)
    (kC : PySem.W.keepIn K (.ref C) = true)
    (pg : PySem.W.plainGet K C Str.empty = true)
    (hd : PySem.W.hasDictIn K C = true)
    (po : PySem.W.plainOver K C = true)
    (sa : PySem.W.findIn K (.ref C) "__setattr__" = some (some (.builtin "object.__setattr__")))
    (norows : PySem.W.findIn K (.ref C) "rows" = some none)
    (nofeeds : PySem.W.findIn K (.ref C) "feeds" = some none)
    (no_by_place : PySem.W.findIn K (.ref C) "_by_place" = some none)
    (ca : PySem.W.findIn K (.ref C) "__class__" = some (some (.builtin "object.__class__")))
    (cn : PySem.W.specialIn K (.builtin "object.__class__") "__get__" = some (some (.builtin "getset_descriptor.__get__")))
    (ct : PySem.W.takesIn K (.builtin "object.__class__") = some true)
    (cm : PySem.W.mroIn K C (.type "object") = some true)
    (nfT : PySem.W.notFirst K C (.type "tuple") = true)
    (nfI : PySem.W.notFirst K C (.type "int") = true)
    (isc : PySem.W.isClsIn K C = true)
    (tyc : PySem.W.typeIn K (.ref C) = some (.type "type"))
    (suT : PySem.W.subIn K (.type "tuple") (.ref C) = some false)
    (suI : PySem.W.subIn K (.type "int") (.ref C) = some false)
    (nne : PySem.W.findIn K (.ref C) "__ne__" = some (some (.builtin "object.__ne__")))
    (nnb : PySem.W.findIn K (.ref C) "__bool__" = some none)
    (rd : PySem.W.readsIn K C (.type "type") = true)
    (ga : PySem.W.specialIn K (.ref C) "__getattribute__" = some (some (.builtin "type.__getattribute__")))
    : ∃ fd : FuncData, (∀ (s : Shared) (v : Value), BindsTo s fd ⟨[v], []⟩ [("_law_script", v)]) ∧ ∀ base : Heap, K.In base → base.Ns mainGlobals mg → FnG l.prog w K mg base 9 fa fd ["_law_script"] (spLaw K) := by
  have e := hfa.symm.trans (PySem.W.mg_of X G dLa)
  cases e
  have mC := PySem.W.mg_of X G gC
  have mM := PySem.W.mg_of X G gM
  have TB : Bt mg := ⟨PySem.W.mg_none_of X G z_len, PySem.W.mg_none_of X G z_int, PySem.W.mg_none_of X G z_abs, PySem.W.mg_none_of X G z_range, PySem.W.mg_none_of X G z_str⟩
  have TK : Kt mg := ⟨PySem.W.mg_none_of X G z_isinstance, PySem.W.mg_none_of X G z_int, PySem.W.mg_none_of X G z_bool, PySem.W.mg_none_of X G z_str, PySem.W.mg_none_of X G z_len, PySem.W.mg_none_of X G z_all, PySem.W.mg_none_of X G z_tuple⟩
  have TI : Bi mg := ⟨PySem.W.mg_none_of X G z_enumerate, PySem.W.mg_none_of X G z_tuple, PySem.W.mg_none_of X G z_sorted⟩
  have TL : Bl mg := ⟨PySem.W.mg_none_of X G z_list, PySem.W.mg_none_of X G z_repr, PySem.W.mg_none_of X G z_set⟩
  obtain ⟨dNu_, FNu⟩ := FunX.fun eNu kNu
  have bNu := FNu.binds (ps := ["_law_script", "_law_k"]) fun _ _ _ _ _ _ us hl => match us, hl with | [_, _], _ => rfl
  have mNu := PySem.W.mg_of X G dNu
  obtain ⟨dSo_, FSo⟩ := FunX.fun eSo kSo
  have bSo := FSo.binds (ps := ["_law_cell"]) fun _ _ _ _ _ _ us hl => match us, hl with | [_], _ => rfl
  have mSo := PySem.W.mg_of X G dSo
  obtain ⟨dPi_, FPi⟩ := FunX.fun ePi kPi
  have bPi := FPi.binds (ps := ["_law_source_here", "_law_many"]) fun _ _ _ _ _ _ us hl => match us, hl with | [_, _], _ => rfl
  have mPi := PySem.W.mg_of X G dPi
  obtain ⟨dOn_, FOn⟩ := FunX.fun eOn kOn
  have bOn := FOn.binds (ps := ["_law_source_here", "_law_things"]) fun _ _ _ _ _ _ us hl => match us, hl with | [_, _], _ => rfl
  have mOn := PySem.W.mg_of X G dOn
  obtain ⟨dTa_, FTa⟩ := FunX.fun eTa kTa
  have bTa := FTa.binds (ps := ["_law_source_here"]) fun _ _ _ _ _ _ us hl => match us, hl with | [_], _ => rfl
  have mTa := PySem.W.mg_of X G dTa
  obtain ⟨dTs_, FTs⟩ := FunX.fun eTs kTs
  have bTs := FTs.binds (ps := ["_law_source_here", "_law_many"]) fun _ _ _ _ _ _ us hl => match us, hl with | [_, _], _ => rfl
  have mTs := PySem.W.mg_of X G dTs
  obtain ⟨dLi_, FLi⟩ := FunX.fun eLi kLi
  have bLi := FLi.binds (ps := ["_law_source_here", "_law_tags_here", "_law_most"]) fun _ _ _ _ _ _ us hl => match us, hl with | [_, _, _], _ => rfl
  have mLi := PySem.W.mg_of X G dLi
  obtain ⟨dMi_, FMi⟩ := FunX.fun eMi kMi
  have bMi := FMi.binds (ps := ["_law_source_here", "_law_things"]) fun _ _ _ _ _ _ us hl => match us, hl with | [_, _], _ => rfl
  have mMi := PySem.W.mg_of X G dMi
  obtain ⟨dIt_, FIt⟩ := FunX.fun eIt kIt
  have bIt := FIt.binds (ps := ["value"]) fun _ _ _ _ _ _ us hl => match us, hl with | [_], _ => rfl
  have mIt := PySem.W.mg_of X G dIt
  obtain ⟨dNa_, FNa⟩ := FunX.fun eNa kNa
  have bNa := FNa.binds (ps := ["value"]) fun _ _ _ _ _ _ us hl => match us, hl with | [_], _ => rfl
  have mNa := PySem.W.mg_of X G dNa
  obtain ⟨dLe_, FLe⟩ := FunX.fun eLe kLe
  have bLe := FLe.binds (ps := ["sign"]) fun _ _ _ _ _ _ us hl => match us, hl with | [_], _ => rfl
  have mLe := PySem.W.mg_of X G dLe
  obtain ⟨dDi_, FDi⟩ := FunX.fun eDi kDi
  have bDi := FDi.binds (ps := ["sign"]) fun _ _ _ _ _ _ us hl => match us, hl with | [_], _ => rfl
  have mDi := PySem.W.mg_of X G dDi
  obtain ⟨dRo_, FRo⟩ := FunX.fun eRo kRo
  have bRo := FRo.binds (ps := ["value"]) fun _ _ _ _ _ _ us hl => match us, hl with | [_], _ => rfl
  have mRo := PySem.W.mg_of X G dRo
  obtain ⟨dTb_, FTb⟩ := FunX.fun eTb kTb
  have bTb := FTb.binds (ps := ["_law_lines_here"]) fun _ _ _ _ _ _ us hl => match us, hl with | [_], _ => rfl
  have mTb := PySem.W.mg_of X G dTb
  obtain ⟨dSh_, FSh⟩ := FunX.fun eSh kSh
  have bSh := FSh.binds (ps := ["_law_sheet"]) fun _ _ _ _ _ _ us hl => match us, hl with | [_], _ => rfl
  have mSh := PySem.W.mg_of X G dSh
  obtain ⟨dDu_, FDu⟩ := FunX.fun eDu kDu
  have bDu := FDu.binds (ps := ["_law_lines_here"]) fun _ _ _ _ _ _ us hl => match us, hl with | [_], _ => rfl
  have mDu := PySem.W.mg_of X G dDu
  obtain ⟨dSt_, FSt⟩ := FunX.fun eSt kSt
  have bSt := FSt.binds (ps := ["_law_lines_here"]) fun _ _ _ _ _ _ us hl => match us, hl with | [_], _ => rfl
  have mSt := PySem.W.mg_of X G dSt
  obtain ⟨dRi_, FRi⟩ := FunX.fun eRi kRi
  have bRi := FRi.binds (ps := ["_law_source_here"]) fun _ _ _ _ _ _ us hl => match us, hl with | [_], _ => rfl
  have mRi := PySem.W.mg_of X G dRi
  obtain ⟨dLa_, FLa⟩ := FunX.fun eLa kLa
  have bLa := FLa.binds (ps := ["_law_script"]) fun _ _ _ _ _ _ us hl => match us, hl with | [_], _ => rfl
  have mLa := PySem.W.mg_of X G dLa
  obtain ⟨dMini_, FMini⟩ := FunX.fun eMini kMini
  obtain ⟨dMof_, FMof⟩ := FunX.fun eMof kMof
  have bMof := FMof.binds (ps := ["rows"]) fun _ _ _ _ _ _ us hl => match us, hl with | [_], _ => rfl
  obtain ⟨dMlen_, FMlen⟩ := FunX.fun eMlen kMlen
  have bMlen := FMlen.binds (ps := ["self"]) fun _ _ _ _ _ _ us hl => match us, hl with | [_], _ => rfl
  obtain ⟨dMrep_, FMrep⟩ := FunX.fun eMrep kMrep
  have bMrep := FMrep.binds (ps := ["self"]) fun _ _ _ _ _ _ us hl => match us, hl with | [_], _ => rfl
  obtain ⟨dMin_, FMin⟩ := FunX.fun eMin kMin
  have bMin := FMin.binds (ps := ["self", "x"]) fun _ _ _ _ _ _ us hl => match us, hl with | [_, _], _ => rfl
  obtain ⟨dMeq_, FMeq⟩ := FunX.fun eMeq kMeq
  have bMeq := FMeq.binds (ps := ["self", "other"]) fun _ _ _ _ _ _ us hl => match us, hl with | [_, _], _ => rfl
  have Mk0 : Mk K C fMini := ⟨makes, iMini, nMini, kC⟩
  have Z : Tc K C := ⟨⟨pg, hd, po, sa⟩, norows, nofeeds, no_by_place⟩
  have Y : Ti K C := ⟨ca, cn, ct, cm⟩
  have Y2 : Tn K C := ⟨nfT, nfI, kit_c isc tyc suT, kit_c isc tyc suI, nne, nnb⟩
  have R : ClX.CRead K C (.type "type") := ⟨rd, ga⟩
  have SM : Mk1.SMet K C (.type "type") "of" pO fMof := ⟨at_of, ⟨_, rc_of⟩, kMof⟩
  have dL : Own1.Dun K C "__len__" fMlen := ⟨iMlen, nMlen⟩
  have dP : Own1.Dun K C "__repr__" fMrep := ⟨iMrep, nMrep⟩
  have dI : Own1.Dun K C "__contains__" fMin := ⟨iMin, nMin⟩
  have dE : Own1.Dun K C "__eq__" fMeq := ⟨iMeq, nMeq⟩
  refine ⟨dLa_, fun s v => ?_, fun base _ _ => ?_⟩
  · obtain ⟨oc, od, kV, doc, pm, an, cdv, ct, osl, rfl, lk, hcd⟩ := FLa.ex
    exact .of_eq rfl
  have GRo := ok_row (P := l.prog) (w := w) (base := base) FRo TK mM FNa bNa mNa FIt bIt mIt FLe bLe mLe FDi bDi mDi
  have GI := ok_init (P := l.prog) (w := w) (base := base) FMini TI Z FRo bRo mRo GRo
  have ROf := FnOk_toR (ok_of (P := l.prog) (w := w) (base := base) FMof TK mC Mk0 GI) bMof
  have RL := FnOk_toR (ok_lenT (P := l.prog) (w := w) (base := base) FMlen TK Z) bMlen
  have RP := FnOk_toR (ok_reprT (P := l.prog) (w := w) (base := base) FMrep TK Z) bMrep
  have RI := FnOk_toR (ok_inT (P := l.prog) (w := w) (base := base) FMin Z FRo bRo mRo GRo) bMin
  have RE := FnOk_toR (ok_eqT (P := l.prog) (w := w) (base := base) FMeq TK Z Y mC) bMeq
  have GTs := ok_tags (P := l.prog) (w := w) (base := base) FTs TB FPi bPi mPi FOn bOn mOn FTa bTa mTa
  have GLi := ok_lines (P := l.prog) (w := w) (base := base) FLi TB (PySem.W.mg_none_of X G z_max) FPi bPi mPi FOn bOn mOn
  have GMi := ok_mixed (P := l.prog) (w := w) (base := base) FMi TB (PySem.W.mg_none_of X G z_list) FPi bPi mPi
  have GTb := ok_table (P := l.prog) (w := w) (base := base) FTb TK mC Mk0 GI R SM FMof
  have GSh := ok_shown (P := l.prog) (w := w) (base := base) FSh TK TL Z dL RL dP RP dI RI nnb
  have GDu := ok_due (P := l.prog) (w := w) (base := base) FDu TK TL TI
  have GSt := ok_strangers (P := l.prog) (w := w) (base := base) FSt TL
  have GRi := ok_right (P := l.prog) (w := w) (base := base) FRi TK TI TL Z Y Y2 TB FTs bTs mTs GTs FPi bPi mPi FLi bLi mLi GLi FMi bMi mMi GMi FTb bTb mTb GTb FSh bSh mSh GSh FDu bDu mDu GDu FSt bSt mSt GSt mC R SM ROf dI RI dE RE
  exact ok_law FLa TK TL Z Y2 TB (PySem.W.mg_none_of X G z_max) (PySem.W.mg_none_of X G z_min) mC Mk0 GI FRi bRi mRi GRi FNu bNu mNu FSo bSo mSo dI RI dL RL
theorem walk {l : PySem.W.OpenLaw} {q : Program} {loose : List Str} {XP : (Str → Option Value) → Heap → Prop} {YP : World → Heap → Prop} {d : DefRec} {K : Params → PySem.W.Frag} (hn : l.most = some 63) (hdf : d.params.defaults = [])
    (hY : ∀ (w : World) (h : Heap), YP w h → (K w.params).In h)
    (F : ∀ (w : World) (mg : Str → Option Value) (fa : Addr) (h : Heap), (K w.params).In h → h.Ns mainGlobals mg → mg d.name = some (.ref fa) →
      ∃ fd : FuncData, (∀ (s : Shared) (u : Value), BindsTo s fd ⟨[u], []⟩ [("_law_script", u)]) ∧ ∀ base : Heap, (K w.params).In base → base.Ns mainGlobals mg → FnG l.prog w (K w.params) mg base 9 fa fd ["_law_script"] (spLaw (K w.params))) :
    PySem.W.WalkO q loose XP YP l.row.toRowW d [] (fun f vs => PySem.call f vs) :=
  Gd.walk_g (n := 63) (k := 9) (x := "_law_script") (sp := fun w => spLaw (K w.params)) hn (by decide) hdf ⟨rfl, by decide, by decide⟩ hY F fun _ _ a ns hl hS => ⟨a, ns, rfl, hS, hl, fun _ => rfl⟩
end K01

open PySem PySem.W PyProof.Rows
set_option maxRecDepth 100000 in
set_option maxHeartbeats 0 in
theorem PySem.Challenge.cw_latestrows_k01_tables_made_holds : PySem.Challenge.rw_latestrows_k01_tables_made.Holds := by
  w_on; o_law; k_head; (case hw => w_witness2)
  k_fill
  refine K01.walk (l := PySem.Challenge.rw_latestrows_k01_tables_made) rfl rfl (fun w h Y => PySem.W.kIn_of Y) ?F
  case F =>
    intro w mg fa h KX G hmg
    refine' K01.all_mk KX G hmg ?hy_gC ?hy_gM ?hy_z_len ?hy_z_int ?hy_z_abs ?hy_z_range ?hy_z_str ?hy_z_isinstance ?hy_z_bool ?hy_z_all ?hy_z_tuple ?hy_z_enumerate ?hy_z_sorted ?hy_z_list ?hy_z_repr ?hy_z_set ?hy_z_max ?hy_z_min ?hy_dNu ?hy_eNu ?hy_kNu ?hy_dSo ?hy_eSo ?hy_kSo ?hy_dPi ?hy_ePi ?hy_kPi ?hy_dOn ?hy_eOn ?hy_kOn ?hy_dTa ?hy_eTa ?hy_kTa ?hy_dTs ?hy_eTs ?hy_kTs ?hy_dLi ?hy_eLi ?hy_kLi ?hy_dMi ?hy_eMi ?hy_kMi ?hy_dIt ?hy_eIt ?hy_kIt ?hy_dNa ?hy_eNa ?hy_kNa ?hy_dLe ?hy_eLe ?hy_kLe ?hy_dDi ?hy_eDi ?hy_kDi ?hy_dRo ?hy_eRo ?hy_kRo ?hy_dTb ?hy_eTb ?hy_kTb ?hy_dSh ?hy_eSh ?hy_kSh ?hy_dDu ?hy_eDu ?hy_kDu ?hy_dSt ?hy_eSt ?hy_kSt ?hy_dRi ?hy_eRi ?hy_kRi ?hy_dLa ?hy_eLa ?hy_kLa ?hy_iMini ?hy_nMini ?hy_eMini ?hy_kMini ?hy_at_of ?hy_rc_of ?hy_eMof ?hy_kMof ?hy_iMlen ?hy_nMlen ?hy_eMlen ?hy_kMlen ?hy_iMrep ?hy_nMrep ?hy_eMrep ?hy_kMrep ?hy_iMin ?hy_nMin ?hy_eMin ?hy_kMin ?hy_iMeq ?hy_nMeq ?hy_eMeq ?hy_kMeq ?hy_makes ?hy_kC ?hy_pg ?hy_hd ?hy_po ?hy_sa ?hy_norows ?hy_nofeeds ?hy_no_by_place ?hy_ca ?hy_cn ?hy_ct ?hy_cm ?hy_nfT ?hy_nfI ?hy_isc ?hy_tyc ?hy_suT ?hy_suI ?hy_nne ?hy_nnb ?hy_rd ?hy_ga
    (case hy_gC => k_is)
    (case hy_gM => k_is)
    (case hy_z_len => k_is)
    (case hy_z_int => k_is)
    (case hy_z_abs => k_is)
    (case hy_z_range => k_is)
    (case hy_z_str => k_is)
    (case hy_z_isinstance => k_is)
    (case hy_z_bool => k_is)
    (case hy_z_all => k_is)
    (case hy_z_tuple => k_is)
    (case hy_z_enumerate => k_is)
    (case hy_z_sorted => k_is)
    (case hy_z_list => k_is)
    (case hy_z_repr => k_is)
    (case hy_z_set => k_is)
    (case hy_z_max => k_is)
    (case hy_z_min => k_is)
    (case hy_dNu => k_is)
    (case hy_eNu => (refine' K01.funx_mk ?hz_eyNu ?hz_ezNu; (case hz_eyNu => k_is); (case hz_ezNu => k_is)))
    (case hy_kNu => k_is)
    (case hy_dSo => k_is)
    (case hy_eSo => (refine' K01.funx_mk ?hz_eySo ?hz_ezSo; (case hz_eySo => k_is); (case hz_ezSo => k_is)))
    (case hy_kSo => k_is)
    (case hy_dPi => k_is)
    (case hy_ePi => (refine' K01.funx_mk ?hz_eyPi ?hz_ezPi; (case hz_eyPi => k_is); (case hz_ezPi => k_is)))
    (case hy_kPi => k_is)
    (case hy_dOn => k_is)
    (case hy_eOn => (refine' K01.funx_mk ?hz_eyOn ?hz_ezOn; (case hz_eyOn => k_is); (case hz_ezOn => k_is)))
    (case hy_kOn => k_is)
    (case hy_dTa => k_is)
    (case hy_eTa => (refine' K01.funx_mk ?hz_eyTa ?hz_ezTa; (case hz_eyTa => k_is); (case hz_ezTa => k_is)))
    (case hy_kTa => k_is)
    (case hy_dTs => k_is)
    (case hy_eTs => (refine' K01.funx_mk ?hz_eyTs ?hz_ezTs; (case hz_eyTs => k_is); (case hz_ezTs => k_is)))
    (case hy_kTs => k_is)
    (case hy_dLi => k_is)
    (case hy_eLi => (refine' K01.funx_mk ?hz_eyLi ?hz_ezLi; (case hz_eyLi => k_is); (case hz_ezLi => k_is)))
    (case hy_kLi => k_is)
    (case hy_dMi => k_is)
    (case hy_eMi => (refine' K01.funx_mk ?hz_eyMi ?hz_ezMi; (case hz_eyMi => k_is); (case hz_ezMi => k_is)))
    (case hy_kMi => k_is)
    (case hy_dIt => k_is)
    (case hy_eIt => (refine' K01.funx_mk ?hz_eyIt ?hz_ezIt; (case hz_eyIt => k_is); (case hz_ezIt => k_is)))
    (case hy_kIt => k_is)
    (case hy_dNa => k_is)
    (case hy_eNa => (refine' K01.funx_mk ?hz_eyNa ?hz_ezNa; (case hz_eyNa => k_is); (case hz_ezNa => k_is)))
    (case hy_kNa => k_is)
    (case hy_dLe => k_is)
    (case hy_eLe => (refine' K01.funx_mk ?hz_eyLe ?hz_ezLe; (case hz_eyLe => k_is); (case hz_ezLe => k_is)))
    (case hy_kLe => k_is)
    (case hy_dDi => k_is)
    (case hy_eDi => (refine' K01.funx_mk ?hz_eyDi ?hz_ezDi; (case hz_eyDi => k_is); (case hz_ezDi => k_is)))
    (case hy_kDi => k_is)
    (case hy_dRo => k_is)
    (case hy_eRo => (refine' K01.funx_mk ?hz_eyRo ?hz_ezRo; (case hz_eyRo => k_is); (case hz_ezRo => k_is)))
    (case hy_kRo => k_is)
    (case hy_dTb => k_is)
    (case hy_eTb => (refine' K01.funx_mk ?hz_eyTb ?hz_ezTb; (case hz_eyTb => k_is); (case hz_ezTb => k_is)))
    (case hy_kTb => k_is)
    (case hy_dSh => k_is)
    (case hy_eSh => (refine' K01.funx_mk ?hz_eySh ?hz_ezSh; (case hz_eySh => k_is); (case hz_ezSh => k_is)))
    (case hy_kSh => k_is)
    (case hy_dDu => k_is)
    (case hy_eDu => (refine' K01.funx_mk ?hz_eyDu ?hz_ezDu; (case hz_eyDu => k_is); (case hz_ezDu => k_is)))
    (case hy_kDu => k_is)
    (case hy_dSt => k_is)
    (case hy_eSt => (refine' K01.funx_mk ?hz_eySt ?hz_ezSt; (case hz_eySt => k_is); (case hz_ezSt => k_is)))
    (case hy_kSt => k_is)
    (case hy_dRi => k_is)
    (case hy_eRi => (refine' K01.funx_mk ?hz_eyRi ?hz_ezRi; (case hz_eyRi => k_is); (case hz_ezRi => k_is)))
    (case hy_kRi => k_is)
    (case hy_dLa => k_is)
    (case hy_eLa => (refine' K01.funx_mk ?hz_eyLa ?hz_ezLa; (case hz_eyLa => k_is); (case hz_ezLa => k_is)))
    (case hy_kLa => k_is)
    (case hy_iMini => k_is)
    (case hy_nMini => k_is)
    (case hy_eMini => (refine' K01.funx_mk ?hz_eyMini ?hz_ezMini; (case hz_eyMini => k_is); (case hz_ezMini => k_is)))
    (case hy_kMini => k_is)
    (case hy_at_of => k_is)
    (case hy_rc_of => k_is)
    (case hy_eMof => (refine' K01.funx_mk ?hz_eyMof ?hz_ezMof; (case hz_eyMof => k_is); (case hz_ezMof => k_is)))
    (case hy_kMof => k_is)
    (case hy_iMlen => k_is)
    (case hy_nMlen => k_is)
    (case hy_eMlen => (refine' K01.funx_mk ?hz_eyMlen ?hz_ezMlen; (case hz_eyMlen => k_is); (case hz_ezMlen => k_is)))
    (case hy_kMlen => k_is)
    (case hy_iMrep => k_is)
    (case hy_nMrep => k_is)
    (case hy_eMrep => (refine' K01.funx_mk ?hz_eyMrep ?hz_ezMrep; (case hz_eyMrep => k_is); (case hz_ezMrep => k_is)))
    (case hy_kMrep => k_is)
    (case hy_iMin => k_is)
    (case hy_nMin => k_is)
    (case hy_eMin => (refine' K01.funx_mk ?hz_eyMin ?hz_ezMin; (case hz_eyMin => k_is); (case hz_ezMin => k_is)))
    (case hy_kMin => k_is)
    (case hy_iMeq => k_is)
    (case hy_nMeq => k_is)
    (case hy_eMeq => (refine' K01.funx_mk ?hz_eyMeq ?hz_ezMeq; (case hz_eyMeq => k_is); (case hz_ezMeq => k_is)))
    (case hy_kMeq => k_is)
    (case hy_makes => k_is)
    (case hy_kC => k_is)
    (case hy_pg => k_is)
    (case hy_hd => k_is)
    (case hy_po => k_is)
    (case hy_sa => k_is)
    (case hy_norows => k_is)
    (case hy_nofeeds => k_is)
    (case hy_no_by_place => k_is)
    (case hy_ca => k_is)
    (case hy_cn => k_is)
    (case hy_ct => k_is)
    (case hy_cm => k_is)
    (case hy_nfT => k_is)
    (case hy_nfI => k_is)
    (case hy_isc => k_is)
    (case hy_tyc => k_is)
    (case hy_suT => k_is)
    (case hy_suI => k_is)
    (case hy_nne => k_is)
    (case hy_nnb => k_is)
    (case hy_rd => k_is)
    (case hy_ga => k_is)
#print axioms PySem.Challenge.cw_latestrows_k01_tables_made_holds

