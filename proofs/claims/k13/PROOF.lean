import PyProof.Rows.All
import Wide.All
import OpenK.AllK
import Wide.FinOn
import PyProof.EqAt
import PyProof.EqKinds
import PyProof.TupleCall
import HandS.ForMost
import HandS.Walk
import HandS.Set
import HandS.SetFor
import HandS.Strs
import PyProof.Rows.SortShellAny
import HandS.Deep
import HandS.IsInst
import HandS.Text
import HandS.SetBool
import PyProof.TupleOfSeq
import HandS.SortOrd
import HandS.SortRule
import KE.GoesMore
import PyProof.Draws
import PyProof.EnumMake
import HandS.Iter
import HandS.Star
import HandS.SlotsOwn
import PyProof.ListNew
import HandS.ClsMeth
import HandS.Defaults
import HandS.DictTup
import PyProof.ReprRoads
import PyProof.ReprLen
import PyProof.CallFns
import HandS.Ends
import HandS.TupAny
import HandS.Lambda
import KE.KTryMore
import KE.KExcHand
import KE.KExcIs
import HandS.Exc
import HandS.ExcCtx
import HandS.ExcIs
import HandS.ExcValue
import HandS.Hot
import KE.KExcInit
import HandS.ExcInit
import PyProof.ListRange
import HandS.Conv
import HandS.SetKeys
import PyProof.Rows.StrJoinMade
import HandS.More
import KE.KDictPairs
import HandS.Call
import HandS.List
import HandS.Dict
import HandS.FStr
import KE.KCallOwn
import HandS.MakeKwOnly
import HandS.RaiseMore
import HandS.StrMore
import PyProof.StrLawsAffix
import KE.KUnpackStar
import KE.KStar
import PyProof.StrOps2
import HandS.EndTab
import KE.KNest
import PySem.Challenge.RW_latestrows_k13_settings_made
set_option Elab.async false
set_option linter.all false
set_option maxRecDepth 100000
set_option maxHeartbeats 8000000
/-! what the laws' own drawing defs give: a source (a list of three ints), picks, names -/
namespace Rng
open PySem L2
/-- the heaps agree but at p -/
def But (p : Addr) (H H' : Hp) : Prop := ∀ c o, c ≠ p → H c = some o → H' c = some o
theorem But.refl (p : Addr) (H : Hp) : But p H H := fun _ _ _ h => h
theorem But.trans {p : Addr} {H H1 H2 : Hp} (a : But p H H1) (b : But p H1 H2) : But p H H2 := fun c o n h => b c o n (a c o n h)
theorem _root_.L2.Same.but {H H' : Hp} (s : Same H H') (p : Addr) : But p H H' := fun c o _ h => s c o h
theorem But.put {p : Addr} {H : Hp} {o : HO} : But p H (upd H p o) := fun c u n h => by rw [upd_ne n]; exact h
theorem But.seq {p a : Addr} {K : PySem.W.Frag} {H H' : Hp} {xs : List V} (s : But p H H') (n : ∀ o, H a = some o → a ≠ p) (h : SqL K H a xs) : SqL K H' a xs := by
  rcases h with (h | ⟨o, h⟩) | h
  · exact .inl (.inl (s _ _ (n _ h) h))
  · exact .inl (.inr ⟨o, s _ _ (n _ h) h⟩)
  · exact .inr h
theorem same_put {H : Hp} {a : Addr} {o : HO} (n : H a = none) : Same H (upd H a o) := fun b u e => by
  rw [upd_ne (ne_of_none e n)]
  exact e
/-- a source that has been picked from at most b times -/
def Src (H : Hp) (p : Addr) (b : Nat) : Prop := ∃ A B t : Int, H p = some (.lst [.int A, .int B, .int t]) ∧ 0 ≤ A ∧ 0 ≤ B ∧ B < 2147483423 ∧ 0 ≤ t ∧ t ≤ (b : Int)
theorem Src.mono {H : Hp} {p : Addr} {b c : Nat} (h : Src H p b) (k : b ≤ c) : Src H p c := by
  obtain ⟨A, B, t, h1, h2, h3, h4, h5, h6⟩ := h
  exact ⟨A, B, t, h1, h2, h3, h4, h5, by omega⟩
theorem Src.same {H H' : Hp} {p : Addr} {b : Nat} (h : Src H p b) (s : Same H H') : Src H' p b := by
  obtain ⟨A, B, t, h1, h2⟩ := h
  exact ⟨A, B, t, s _ _ h1, h2⟩
theorem Src.some {H : Hp} {p : Addr} {b : Nat} (h : Src H p b) : ∃ xs, H p = some (.lst xs) := by
  obtain ⟨A, B, t, h1, _⟩ := h
  exact ⟨_, h1⟩
theorem Src.ne {H : Hp} {p a : Addr} {b : Nat} (h : Src H p b) (n : H a = none) : a ≠ p := fun z => by
  obtain ⟨xs, e⟩ := h.some
  rw [z, e] at n
  cases n
/-! ### names -/
def low (c : Nat) : Bool := decide (97 ≤ c) && decide (c ≤ 122)
def dig (c : Nat) : Bool := decide (48 ≤ c) && decide (c ≤ 57)
/-- one to eight small letters and digits, a letter first -/
def isName (z : Str) : Bool := decide (z.cps.toList.length ≤ 8) && (match z.cps.toList with
  | c :: r => low c && r.all fun d => low d || dig d
  | [] => false)
/-! ### promises -/
def spNumber (K : PySem.W.Frag) : Sp := fun vs H Q _ => ∃ (a : Addr) (ns : List Int) (k : Int), vs = [.ref a, .int k] ∧ SqL K H a (ns.map V.int) ∧ ns.length ≤ 63 ∧ 0 ≤ k ∧ k ≤ 100 ∧ ∀ z H', Same H H' → Q (.int z) H'
def spSource : Sp := fun vs H Q _ => ∃ c : Int, vs = [.int c] ∧ ∀ p H', Same H H' → H p = none → Src H' p 0 → Q (.ref p) H'
def spPick : Sp := fun vs H Q _ => ∃ (p : Addr) (m : Int) (b : Nat), vs = [.ref p, .int m] ∧ Src H p b ∧ b ≤ 1000000 ∧ 0 < m ∧ m < 1073741824 ∧ ∀ d H', 0 ≤ d → d < m → But p H H' → Src H' p (b + 1) → Q (.int d) H'
def spOne (K : PySem.W.Frag) : Sp := fun vs H Q _ => ∃ (p : Addr) (x : V) (b : Nat), vs = [.ref p, x] ∧ Src H p b ∧ b ≤ 1000000 ∧
  ((∃ (l : Addr) (xs : List V), x = .ref l ∧ l ≠ p ∧ SqL K H l xs ∧ 0 < xs.length ∧ xs.length ≤ 1000 ∧ ∀ y H', y ∈ xs → But p H H' → Src H' p (b + 1) → Q y H') ∨
   (∃ z : Str, x = .str z ∧ 0 < z.length ∧ z.length ≤ 1000 ∧ ∀ c H', c ∈ z.cps.toList → But p H H' → Src H' p (b + 1) → Q (.str ⟨#[c]⟩) H'))
def spTag : Sp := fun vs H Q _ => ∃ (p : Addr) (b : Nat), vs = [.ref p] ∧ Src H p b ∧ b ≤ 900000 ∧ ∀ z H', isName z = true → But p H H' → Src H' p (b + 12) → Q (.str z) H'
def spTags : Sp := fun vs H Q _ => ∃ (p : Addr) (m b : Nat), vs = [.ref p, .int m] ∧ 1 ≤ m ∧ m ≤ 9 ∧ Src H p b ∧ b ≤ 800000 ∧
  ∀ (l : Addr) (zs : List Str) (H' : Hp), zs.length = m → zs.Nodup → (∀ z ∈ zs, isName z = true) → But p H H' → H l = none → l ≠ p → H' l = some (.lst (zs.map V.str)) → Src H' p (b + 200) → Q (.ref l) H'
/-! ### arithmetic of a pick -/
theorem pow3 {B t : Int} (h0 : 0 ≤ B) (h1 : B < 2147483423) (h2 : 0 ≤ t) (h3 : t ≤ 1000001) : CPow (B + t * 7919) 3 := by
  refine ⟨by decide, by decide, ?_⟩
  omega
theorem atI_at {α : Type} {xs : List α} {d : Int} (h0 : 0 ≤ d) (h : d.toNat < xs.length) : atI xs d = some xs[d.toNat] := by
  have e := atI_nat (List.getElem?_eq_getElem h)
  rwa [Int.toNat_of_nonneg h0] at e
theorem cut_ints (ns : List Int) (lo hi : Option Int) : ∃ ms : List Int, cutV (ns.map V.int) lo hi = ms.map V.int := by
  unfold cutV
  exact ⟨_, by rw [← List.map_drop, ← List.map_take]⟩
theorem joinL_nil : ∀ l : List (List Nat), TL.joinL [] l = l.flatten
  | [] => rfl
  | [x] => by simp [TL.joinL]
  | x :: y :: r => by
    have ih := joinL_nil (y :: r)
    simp only [TL.joinL, ih, List.flatten_cons, List.nil_append]
/-- a sign that may stand in a name behind the first one -/
def sign1 (z : Str) : Prop := ∃ d, z.cps.toList = [d] ∧ (low d || dig d) = true
theorem flat_signs : ∀ zs : List Str, (∀ z ∈ zs, sign1 z) → (zs.map TL.tl).flatten.length = zs.length ∧ (zs.map TL.tl).flatten.all (fun d => low d || dig d) = true
  | [], _ => ⟨rfl, rfl⟩
  | z :: zs, h => by
    obtain ⟨d, e, hd⟩ := h z List.mem_cons_self
    obtain ⟨h1, h2⟩ := flat_signs zs fun y hy => h y (List.mem_cons_of_mem _ hy)
    have e' : TL.tl z = [d] := e
    rw [List.map_cons, List.flatten_cons, e']
    refine ⟨by rw [List.length_append, h1]; simp; omega, ?_⟩
    rw [List.all_append, h2]
    simp [hd]
theorem name_mk {c : Nat} {zs : List Str} (hc : low c = true) (hz : ∀ z ∈ zs, sign1 z) (hl : zs.length ≤ 7) : isName (⟨#[c]⟩ ++ Txt.join (Str.ofString "") zs) = true := by
  obtain ⟨h1, h2⟩ := flat_signs zs hz
  have e : ((⟨#[c]⟩ : Str) ++ Txt.join (Str.ofString "") zs).cps.toList = c :: (zs.map TL.tl).flatten := by
    show TL.tl ((⟨#[c]⟩ : Str) ++ Txt.join (Str.ofString "") zs) = _
    rw [TL.tl_append, TL.join_eq, TL.tl_join, show TL.tl (Str.ofString "") = [] from rfl, joinL_nil]
    rfl
  unfold isName
  rw [e, List.length_cons, h1]
  simp only [hc, h2, Bool.and_true, Bool.true_and, decide_eq_true_eq]
  omega
theorem sign_sum : ∀ zs : List Str, (∀ z ∈ zs, sign1 z) → (zs.map (·.length)).sum = zs.length
  | [], _ => rfl
  | z :: zs, h => by
    obtain ⟨d, e, _⟩ := h z List.mem_cons_self
    have ih := sign_sum zs fun y hy => h y (List.mem_cons_of_mem _ hy)
    have e' : z.length = 1 := by
      show z.cps.size = 1
      rw [← Array.length_toList, e]
      rfl
    rw [List.map_cons, List.sum_cons, ih, e', List.length_cons]
    omega
/-! ### different names -/
theorem len_sub {α : Type} [DecidableEq α] : ∀ (xs ys : List α), xs.Nodup → (∀ x ∈ xs, x ∈ ys) → xs.length ≤ ys.length
  | [], _, _, _ => Nat.zero_le _
  | x :: xs, ys, nd, h => by
    have hx : x ∈ ys := h x List.mem_cons_self
    obtain ⟨n1, n2⟩ := List.nodup_cons.mp nd
    have ih := len_sub xs (ys.erase x) n2 fun y hy => by
      have ne : y ≠ x := fun z => n1 (z ▸ hy)
      exact (List.mem_erase_of_ne ne).mpr (h y (List.mem_cons_of_mem _ hy))
    have hl := List.length_erase_of_mem hx
    have hp : 0 < ys.length := List.length_pos_of_mem hx
    rw [List.length_cons]
    omega
/-- the name z cut to six signs with a digit behind it -/
def cand (z : Str) (j : Nat) : Str := cutS z none (some 6) ++ Str.ofString (toString ((0 : Int) + (j : Int)))
theorem digit_tl : ∀ j : Nat, j < 9 → TL.tl (Str.ofString (toString ((0 : Int) + (j : Int)))) = [48 + j] := by decide +kernel
theorem cut_tl (z : Str) : TL.tl (cutS z none (some 6)) = (TL.tl z).take 6 := by
  have e : (TL.tl z).length = z.length := rfl
  show ((z.cps.toList.drop 0).take (min 6 z.length - 0)) = z.cps.toList.take 6
  rw [List.drop_zero, Nat.sub_zero, ← List.take_take]
  congr 1
  exact List.take_of_length_le (Nat.le_of_eq e)
theorem cand_tl {z : Str} {j : Nat} (h : j < 9) : TL.tl (cand z j) = (TL.tl z).take 6 ++ [48 + j] := by
  unfold cand
  rw [TL.tl_append, cut_tl, digit_tl j h]
theorem str_ext {x y : Str} (h : TL.tl x = TL.tl y) : x = y := by
  obtain ⟨⟨a⟩⟩ := x
  obtain ⟨⟨b⟩⟩ := y
  have h' : a = b := h
  rw [h']
theorem cand_inj {z : Str} {i j : Nat} (hi : i < 9) (hj : j < 9) (e : cand z i = cand z j) : i = j := by
  have h : TL.tl (cand z i) = TL.tl (cand z j) := by rw [e]
  rw [cand_tl hi, cand_tl hj] at h
  have h2 := List.append_cancel_left h
  have h3 := (List.cons.inj h2).1
  omega
theorem cand_name {z : Str} {j : Nat} (hz : isName z = true) (h : j < 9) : isName (cand z j) = true := by
  have e : (cand z j).cps.toList = z.cps.toList.take 6 ++ [48 + j] := cand_tl h
  unfold isName at hz ⊢
  rw [e]
  cases hc : z.cps.toList with
  | nil =>
    rw [hc] at hz
    simp at hz
  | cons c r =>
    rw [hc] at hz
    simp only [Bool.and_eq_true, decide_eq_true_eq, List.all_eq_true] at hz
    obtain ⟨_, h1, h2⟩ := hz
    have e6 : (c :: r).take 6 = c :: r.take 5 := rfl
    rw [e6, List.cons_append]
    simp only [Bool.and_eq_true, decide_eq_true_eq, List.all_eq_true]
    refine ⟨?_, h1, fun d hd => ?_⟩
    · rw [List.length_cons, List.length_append, List.length_take, List.length_singleton]
      omega
    · rcases List.mem_append.mp hd with hd | hd
      · exact h2 d (List.mem_of_mem_take hd)
      · obtain rfl := List.mem_singleton.mp hd
        simp only [dig, Bool.or_eq_true, Bool.and_eq_true, decide_eq_true_eq]
        exact .inr ⟨by omega, by omega⟩
theorem cands_nodup {z : Str} {m : Nat} (hm : m ≤ 9) : ((List.range m).map (cand z)).Nodup := by
  refine List.pairwise_map.mpr (List.pairwise_iff_getElem.mpr fun i j hi hj hij e => ?_)
  rw [List.length_range] at hi hj
  rw [List.getElem_range, List.getElem_range] at e
  have := cand_inj (by omega) (by omega) e
  omega
/-- one of the spare names is new -/
theorem spare_new {z : Str} {m : Nat} {zs : List Str} (hm : m ≤ 9) (h : zs.length < m) : ∃ y r, (z :: (List.range m).map (cand z)).filter (fun y => !decide (y ∈ zs)) = y :: r := by
  cases e : (z :: (List.range m).map (cand z)).filter (fun y => !decide (y ∈ zs)) with
  | cons y r => exact ⟨y, r, rfl⟩
  | nil =>
    have all : ∀ y ∈ (List.range m).map (cand z), y ∈ zs := fun y hy => by
      have q := List.filter_eq_nil_iff.mp e y (List.mem_cons_of_mem _ hy)
      simpa using q
    have := len_sub _ _ (cands_nodup hm) all
    rw [List.length_map, List.length_range] at this
    omega
theorem spare_is {z : Str} {m : Nat} {zs r : List Str} {y : Str} (hm : m ≤ 9) (hz : isName z = true) (e : (z :: (List.range m).map (cand z)).filter (fun y => !decide (y ∈ zs)) = y :: r) : isName y = true ∧ y ∉ zs := by
  have hy : y ∈ (z :: (List.range m).map (cand z)).filter (fun y => !decide (y ∈ zs)) := by rw [e]; exact List.mem_cons_self
  obtain ⟨h1, h2⟩ := List.mem_filter.mp hy
  refine ⟨?_, by simpa using h2⟩
  rcases List.mem_cons.mp h1 with rfl | h1
  · exact hz
  · obtain ⟨j, hj, rfl⟩ := List.mem_map.mp h1
    exact cand_name hz (by have := List.mem_range.mp hj; omega)
theorem inV_strs (x : Str) : ∀ zs : List Str, inV (.str x) (zs.map V.str) = decide (x ∈ zs)
  | [] => rfl
  | z :: zs => by
    have ih := inV_strs x zs
    unfold inV at ih ⊢
    rw [List.map_cons, List.any_cons, ih]
    show ((z == x) || _) = _
    by_cases e : z = x
    · subst e
      simp
    · have e' : ¬ x = z := fun q => e q.symm
      simp [e, e']
theorem flat_strsN (zs : List Str) : (zs.map V.str).all flatV = true := by
  rw [List.all_map]
  exact List.all_eq_true.mpr fun _ _ => rfl
end Rng


/-! sets of things of one kind that can be walked: what they hold, told as a list in the order in which it came -/
namespace Bag
open PySem PySem.Spec PyProof.Rows L2
/-- what is known when one more is met -/
def met {κ : Type} [DecidableEq κ] (ks : List κ) (k : κ) : List κ := if k ∈ ks then ks else ks ++ [k]
theorem met_nodup {κ : Type} [DecidableEq κ] {ks : List κ} {k : κ} (h : ks.Nodup) : (met ks k).Nodup := by
  unfold met
  split
  · exact h
  · rename_i n
    refine List.nodup_append.mpr ⟨h, List.nodup_cons.mpr ⟨List.not_mem_nil, List.nodup_nil⟩, fun a ha c hc e => ?_⟩
    obtain rfl := List.mem_singleton.mp hc
    exact n (e ▸ ha)
theorem mem_met {κ : Type} [DecidableEq κ] {ks : List κ} {k j : κ} : j ∈ met ks k ↔ j ∈ ks ∨ j = k := by
  unfold met
  split
  · rename_i m
    exact ⟨.inl, fun h => h.elim id fun e => e ▸ m⟩
  · rw [List.mem_append, List.mem_singleton]
theorem met_len {κ : Type} [DecidableEq κ] {ks : List κ} {k : κ} : (met ks k).length ≤ ks.length + 1 := by
  unfold met
  split
  · omega
  · rw [List.length_append]
    exact Nat.le_refl _
section
variable {P : Program} {w : World} {κ : Type} [DecidableEq κ] {kd : KeyKind P w κ}
theorem items_turn {js : List κ} {vs us : List Value} (p : us.Perm vs) (h : ItemsAre kd js vs) : ∃ is, is.Perm js ∧ ItemsAre kd is us := by
  induction p generalizing js with
  | nil => exact ⟨js, .refl _, h⟩
  | cons v p ih =>
    cases h with
    | cons a b =>
      obtain ⟨is, q, r⟩ := ih b
      exact ⟨_, q.cons _, .cons a r⟩
  | swap x y l =>
    cases h with
    | cons a b =>
      cases b with
      | cons b c => exact ⟨_, .swap _ _ _, .cons b (.cons a c)⟩
  | trans p q ih1 ih2 =>
    obtain ⟨i1, q1, r1⟩ := ih2 h
    obtain ⟨i2, q2, r2⟩ := ih1 r1
    exact ⟨i2, q2.trans q1, r2⟩
theorem items_len {js : List κ} {vs : List Value} (h : ItemsAre kd js vs) : js.length = vs.length := by
  induction h with
  | nil => rfl
  | cons _ _ ih => rw [List.length_cons, List.length_cons, ih]
theorem items_mem {js : List κ} {vs : List Value} (h : ItemsAre kd js vs) (k : κ) : k ∈ js ↔ ∃ v ∈ vs, kd.is k v = true := by
  induction h with
  | nil => exact ⟨fun z => (nomatch z), fun ⟨_, z, _⟩ => (nomatch z)⟩
  | cons a _ ih =>
    rw [List.mem_cons, ih]
    constructor
    · rintro (rfl | ⟨v, hv, e⟩)
      · exact ⟨_, List.mem_cons_self, a⟩
      · exact ⟨v, List.mem_cons_of_mem _ hv, e⟩
    · rintro ⟨v, hv, e⟩
      rcases List.mem_cons.mp hv with rfl | hv
      · exact .inl (kd.inj _ _ _ e a)
      · exact .inr ⟨v, hv, e⟩
/-- a set's table with the things ks -/
structure Tbl (kd : KeyKind P w κ) (ks : List κ) (es : Array (Int × Value)) (t : SetTable) : Prop where
  good : ElemsOf kd es.toList
  keys : ∃ js, js.Perm ks ∧ ItemsAre kd js (es.toList.map (·.2))
  nd : ks.Nodup
  small : es.size < scanBound
  fits : t.fits es.size = true
  ris : Ris t.place.toList
  led : w.params.followText "set-order" = true ∨ t.led = true
theorem Tbl.size {ks : List κ} {es : Array (Int × Value)} {t : SetTable} (T : Tbl kd ks es t) : es.size = ks.length := by
  obtain ⟨js, p, i⟩ := T.keys
  rw [← p.length_eq, items_len i, List.length_map, Array.length_toList]
theorem Tbl.mem {ks : List κ} {es : Array (Int × Value)} {t : SetTable} (T : Tbl kd ks es t) (k : κ) : k ∈ ks ↔ ∃ e ∈ es.toList, kd.is k e.2 = true := by
  obtain ⟨js, p, i⟩ := T.keys
  rw [← p.mem_iff, items_mem i]
  constructor
  · rintro ⟨v, hv, e⟩
    obtain ⟨x, hx, rfl⟩ := List.mem_map.mp hv
    exact ⟨x, hx, e⟩
  · rintro ⟨x, hx, e⟩
    exact ⟨_, List.mem_map.mpr ⟨x, hx, rfl⟩, e⟩
theorem Tbl.turn {ks : List κ} {es es' : Array (Int × Value)} {t t' : SetTable} (T : Tbl kd ks es t) (p : es'.toList.Perm es.toList) (hf : t'.fits es'.size = true) (hr : Ris t'.place.toList) (hl : t'.led = t.led) : Tbl kd ks es' t' := by
  obtain ⟨js, pj, i⟩ := T.keys
  obtain ⟨is, q, r⟩ := items_turn (p.map (·.2)) i
  have sz : es'.size = es.size := by rw [← Array.length_toList, p.length_eq, Array.length_toList]
  exact ⟨fun e he => T.good e (p.mem_iff.mp he), ⟨is, q.trans pj, r⟩, T.nd, sz ▸ T.small, hf, hr, T.led.imp id fun z => hl ▸ z⟩
theorem Tbl.put {ks : List κ} {es es' : Array (Int × Value)} {t t' : SetTable} (T : Tbl kd ks es t) {k : κ} {v : Value} (hk : kd.is k v = true) (hs : v.scannable = true) (hn : k ∉ ks) (room : ks.length + 1 < scanBound)
    (p : es'.toList.Perm ((kd.hash k, v) :: es.toList)) (hf : t'.fits es'.size = true) (hr : Ris t'.place.toList) (hl : t'.led = t.led) : Tbl kd (ks ++ [k]) es' t' := by
  obtain ⟨js, pj, i⟩ := T.keys
  obtain ⟨is, q, r⟩ := items_turn (p.map (·.2)) (ItemsAre.cons (ks := js) (k := k) hk i)
  have sz : es'.size = ks.length + 1 := by rw [← Array.length_toList, p.length_eq, List.length_cons, Array.length_toList, T.size]
  refine ⟨fun e he => ?_, ⟨is, q.trans ((pj.cons k).trans (List.perm_append_singleton k ks).symm), r⟩, ?_, sz ▸ room, hf, hr, T.led.imp id fun z => hl ▸ z⟩
  · rcases List.mem_cons.mp (p.mem_iff.mp he) with z | z
    · rw [z]
      exact ⟨⟨k, hk, rfl⟩, hs⟩
    · exact T.good e z
  · have := met_nodup (k := k) T.nd
    unfold met at this
    rwa [if_neg hn] at this
/-- the set at a holds ks -/
def Bg (kd : KeyKind P w κ) (h : Heap) (a : Addr) (ks : List κ) : Prop := ∃ o es ep t, h.get? a = some o ∧ o.ExactSet ∧ o.data = .set es ep t ∧ Tbl kd ks es t
theorem Bg.at {h h' : Heap} {a : Addr} {ks : List κ} (B : Bg kd h a ks) (k : ∀ o, h.get? a = some o → h'.get? a = some o) : Bg kd h' a ks := by
  obtain ⟨o, es, ep, t, e, r⟩ := B
  exact ⟨o, es, ep, t, k o e, r⟩
theorem Bg.obj {h : Heap} {a : Addr} {ks : List κ} (B : Bg kd h a ks) : ∃ o, h.get? a = some o ∧ o.cls = .type "set" := by
  obtain ⟨o, es, ep, t, e, x, _⟩ := B
  exact ⟨o, e, x.1⟩
variable {A : Around} {E : Value → Shared → Prop} {s : Shared} {a : Addr} {ks : List κ}
/-- what stands at the end of an addition: the table stored, laid anew where it is too full -/
theorem tail_put {ring : Bool → Sem Unit} (hg : ∀ (b : Bool) (z : Shared) (W : Unit → Shared → Prop), W () z → wpAny (model P w) A (ring b) W E z) {o : Obj} {es : Array (Int × Value)} {ep : Nat} {t : SetTable}
    (ho : s.heap.get? a = some o) (hx : o.ExactSet) (hd : o.data = .set es ep t) {e1 : Array (Int × Value)} {t1 : SetTable} {ls : List κ} (T : Tbl kd ls e1 t1) {old : Bool} {R : Option Bool → Shared → Prop}
    (hR : ∀ h', Heap.SameBut a s.heap h' → Bg kd h' a ls → R (some true) { s with heap := h' }) :
    wpAny (model P w) A (do
        storeSet a e1 t1
        if (!old && t1.tooFull) = true then do
            ring (relayAll t1 e1 (SetTable.grown e1.size)).2.2
            storeSet a (relayAll t1 e1 (SetTable.grown e1.size)).1 (relayAll t1 e1 (SetTable.grown e1.size)).2.1
            pure (some true)
          else pure (some true)) R E s := by
  have k1 := store_at (es' := e1) (t' := t1) ho hd
  have b1 := Heap.SameBut.update s.heap a (Obj.putSet e1 t1)
  refine wpAny_bind (wpAny_storeSet_of ho hd ?_ (fits_of_scanBound T.small))
  by_cases c : (!old && t1.tooFull) = true
  · rw [if_pos c]
    have T2 := T.turn (relayAll_perm t1 e1 (SetTable.grown e1.size)) (relayAll_fits t1 e1 (SetTable.grown e1.size)) (relayAll_ris t1 e1 (SetTable.grown e1.size)) (relayAll_led t1 e1 (SetTable.grown e1.size))
    generalize relayAll t1 e1 (SetTable.grown e1.size) = Y at T2 ⊢
    obtain ⟨e2, t2, gave⟩ := Y
    refine wpAny_bind (hg _ _ _ (wpAny_bind (wpAny_storeSet_of k1 rfl ?_ (fits_of_scanBound T2.small))))
    exact wpAny_pure (hR _ (b1.trans (Heap.SameBut.update _ a _)) ⟨_, _, _, _, store_at k1 rfl, hx, rfl, T2⟩)
  · rw [if_neg c]
    exact wpAny_pure (hR _ b1 ⟨_, _, _, _, k1, hx, rfl, T⟩)
theorem put_hashed {k : κ} {v : Value} {Q : Bool → Shared → Prop} (B : Bg kd s.heap a ks) (hk : kd.is k v = true) (hs : v.scannable = true) (room : ks.length + 1 < scanBound)
    (hQ : ∀ h' b, Heap.SameBut a s.heap h' → Bg kd h' a (met ks k) → Q b { s with heap := h' }) : wpAny (model P w) A (setAddHashed a v (kd.hash k)) Q E s := by
  obtain ⟨o, es, ep, t, ho, hx, hd, T⟩ := id B
  unfold setAddHashed setAddHashedIn
  refine wpAny_holding (wpAny_bind (wpAny_setState_of ho hd T.fits ?_))
  dsimp only
  rw [byScan_of hs T.small T.good]
  simp only [↓reduceIte]
  unfold setAddByScan
  refine wpAny_bind (wpAny_bind (wpAny_rule (wpAny_bind (wpAny_setScan_of hk ho hd T.fits T.good ?_))))
  by_cases hm : k ∈ ks
  · obtain ⟨e, he, ek⟩ := (T.mem k).mp hm
    cases hf : es.toList.findIdx? (fun e => kd.is k e.2) with
    | none => exact absurd ek (Bool.eq_false_iff.mp (List.findIdx?_eq_none_iff.mp hf e he))
    | some j =>
      dsimp only
      refine wpAny_pure (wpAny_pure (hQ s.heap _ (Heap.SameBut.refl a s.heap) ?_))
      unfold met
      rwa [if_pos hm]
  · cases hf : es.toList.findIdx? (fun e => kd.is k e.2) with
    | some j =>
      obtain ⟨hj, ej, _⟩ := List.findIdx?_eq_some_iff_getElem.mp hf
      exact absurd ((T.mem k).mpr ⟨_, List.getElem_mem hj, ej⟩) hm
    | none =>
      dsimp only
      have quiet : ∀ (b : Bool) (z : Shared) (W : Unit → Shared → Prop), W () z → wpAny (model P w) A (match b with | true => rule "set.scan.the-table-gave-way" | false => pure ()) W E z := fun b z W q => by
        cases b
        · exact wpAny_pure q
        · exact wpAny_rule q
      have pm := layNew_perm t es (kd.hash k) v
      have hf1 := layNew_fits t es (kd.hash k) v
      have hr1 := layNew_ris t es (kd.hash k) v T.ris
      have hl1 := layNew_led t es (kd.hash k) v
      generalize layNew t es (kd.hash k) v = Y at pm hf1 hr1 hl1 ⊢
      obtain ⟨e1, t1, old, gave⟩ := Y
      dsimp only at pm hf1 hr1 hl1 ⊢
      rw [Array.toList_push] at pm
      have p1 : e1.toList.Perm ((kd.hash k, v) :: es.toList) := pm.trans (List.perm_append_singleton _ _)
      have fin : ∀ h', Heap.SameBut a s.heap h' → Bg kd h' a (ks ++ [k]) → Q true { s with heap := h' } := fun h' sb b => by
        refine hQ h' _ sb ?_
        unfold met
        rwa [if_neg hm]
      refine wpAny_bind (quiet _ _ _ ?_)
      split
      · refine wpAny_bind ?_
        rw [hashByValue_scannable 8 hs]
        refine wpAny_pure ?_
        refine tail_put ?_ ho hx hd (T.put hk hs hm room p1 ?_ ?_ ?_) fun h' sb b => wpAny_pure (fin h' sb b)
        · exact fun b z W q => quiet b z W q
        · first | (split <;> first | exact hf1 | exact SetTable.fits_plain_off hf1) | exact hf1
        · first | (split <;> exact hr1) | exact hr1
        · first | (split <;> exact hl1) | exact hl1
      · refine wpAny_bind (wpAny_pure ?_)
        simp only [↓reduceIte]
        exact tail_put (fun b z W q => quiet b z W q) ho hx hd (T.put hk hs hm room p1 hf1 hr1 hl1) fun h' sb b => wpAny_pure (fin h' sb b)
end
end Bag


/-! set(xs) of a list, sorted(set) of texts -/
namespace Bag
open PySem PySem.Spec PyProof.Rows L2
/-- the different ones of a list, as they come first -/
def firsts {κ : Type} [DecidableEq κ] (xs : List κ) : List κ := xs.foldl met []
theorem firsts_snoc {κ : Type} [DecidableEq κ] (xs : List κ) (k : κ) : firsts (xs ++ [k]) = met (firsts xs) k := by
  unfold firsts
  rw [List.foldl_append]
  rfl
theorem firsts_take {κ : Type} [DecidableEq κ] {xs : List κ} {i : Nat} {k : κ} (h : xs[i]? = some k) : firsts (xs.take (i + 1)) = met (firsts (xs.take i)) k := by
  rw [List.take_add_one, h]
  exact firsts_snoc _ _
theorem firsts_len {κ : Type} [DecidableEq κ] : ∀ (n : Nat) (xs : List κ), xs.length = n → (firsts xs).length ≤ n
  | 0, xs, h => by
    rw [List.length_eq_zero_iff.mp h]
    exact Nat.le_refl _
  | n + 1, xs, h => by
    have hne : xs ≠ [] := fun z => by rw [z] at h; cases h
    have e := List.dropLast_concat_getLast hne
    have ih := firsts_len n xs.dropLast (by rw [List.length_dropLast, h]; rfl)
    rw [← e, firsts_snoc]
    exact Nat.le_trans met_len (Nat.succ_le_succ ih)
theorem firsts_nodup {κ : Type} [DecidableEq κ] (xs : List κ) : (firsts xs).Nodup := by
  have : ∀ (xs ks : List κ), ks.Nodup → (xs.foldl met ks).Nodup := fun xs => by
    induction xs with
    | nil => exact fun ks h => h
    | cons x xs ih => exact fun ks h => ih _ (met_nodup h)
  exact this xs [] List.nodup_nil
theorem mem_firsts {κ : Type} [DecidableEq κ] (xs : List κ) (k : κ) : k ∈ firsts xs ↔ k ∈ xs := by
  have : ∀ (xs ks : List κ), k ∈ xs.foldl met ks ↔ k ∈ ks ∨ k ∈ xs := fun xs => by
    induction xs with
    | nil => exact fun ks => ⟨.inl, fun h => h.elim id fun z => (nomatch z)⟩
    | cons x xs ih =>
      intro ks
      rw [List.foldl_cons, ih, mem_met, List.mem_cons, or_assoc]
  have h := this xs []
  show k ∈ xs.foldl met [] ↔ _
  rw [h]
  exact ⟨fun z => z.elim (fun z => (nomatch z)) id, .inr⟩
section
variable {P : Program} {w : World} {κ : Type} [DecidableEq κ] {kd : KeyKind P w κ} {A : Around} {s : Shared}
theorem empty_tbl (kd : KeyKind P w κ) : Tbl kd [] #[] (.fresh 0 0 (!w.params.followText "set-order")) where
  good := fun e h => by simp at h
  keys := ⟨[], .refl _, .nil⟩
  nd := List.nodup_nil
  small := by decide
  fits := by rfl
  ris := List.Pairwise.nil
  led := by
    show _ ∨ (!w.params.followText "set-order") = true
    cases w.params.followText "set-order" <;> simp
def emptyObj (w : World) : Obj := { cls := .type "set", dict := none, data := .set #[] 0 (.fresh 0 0 (!w.params.followText "set-order")) }
theorem empty_bg {h : Heap} {a : Addr} (e : h.get? a = some (emptyObj w)) : Bg kd h a [] := ⟨_, _, _, _, e, ⟨rfl, rfl, rfl⟩, rfl, empty_tbl kd⟩
/-- the turns of set(xs) -/
theorem turns {I S : Addr} {fp wr : List Addr} {G : Array GenState → Array GenState → Prop} {n : Nat} {Pv : Nat → Value → Prop} {St : Nat → Shared → Prop} {R : Result → Shared → Prop} (W : WalksS P w A.in1 I fp wr G n Pv St) (nS : S ∉ fp)
    (xs : List κ) (hn : xs.length = n) (room : n + 1 < scanBound) (hv : ∀ i v, Pv i v → ∃ k, xs[i]? = some k ∧ kd.is k v = true ∧ v.scannable = true) (left : Nat) :
    ∀ (i : Nat) (s : Shared), i + left = n → St i s → Bg kd s.heap S (firsts (xs.take i)) → (∀ z, Moved (S :: wr) G s z → Bg kd z.heap S (firsts xs) → R (.ok (.ret .none)) z) →
      codeAny (model P w) A (.builtin "set.update.loop" ⟨[.ref S, .ref I], []⟩) R s := by
  have nW : S ∉ wr := fun z => nS (W.sub _ z)
  have more : ∀ b ∈ wr, b ∈ S :: wr := fun b hb => List.mem_cons_of_mem _ hb
  induction left with
  | zero =>
    intro i s e st B r
    obtain rfl : i = n := e
    rw [← hn, List.take_length] at B
    refine codeAny_builtin F.entry_set_update_loop ?_
    rw [Around.under_plainId F.plain_set_update_loop _]
    show wpAny _ A.in1 (pyNext (.ref I) >>= _) _ _ s
    refine wpAny_bind (W.done s _ _ st fun z m => ?_)
    show wpAny _ A.in1 (ret Value.none) _ _ z
    exact wpAny_pure (r z (m.mono more) (B.at fun o e => m.heap S o nW e))
  | succ left ih =>
    intro i s e st B r
    refine codeAny_builtin F.entry_set_update_loop ?_
    rw [Around.under_plainId F.plain_set_update_loop _]
    show wpAny _ A.in1 (pyNext (.ref I) >>= _) _ _ s
    refine wpAny_bind (W.item i s _ _ (by omega) st fun v z p st1 m => ?_)
    obtain ⟨k, hk, kv, sc⟩ := hv i v p
    have B1 := B.at (h' := z.heap) fun o e => m.heap S o nW e
    show wpAny _ A.in1 (holding [v] (setAdd S v) >>= _) _ _ z
    refine wpAny_bind (wpAny_holding ?_)
    unfold setAdd
    refine wpAny_holding (wpAny_bind (kd.pyHash kv ?_))
    have ln := firsts_len _ (xs.take i) rfl
    rw [List.length_take] at ln
    refine put_hashed (s := { z with toks := z.toks + 1 }) B1 kv sc (by omega) fun h' b sb B2 => ?_
    rw [← firsts_take hk] at B2
    refine wpAny_pure ⟨plainId_quiet F.plain_set_update_loop _, ih (i + 1) _ (by omega) (W.frame _ z _ _ st1 (Nat.le_succ _) fun c hc o e => ?_) B2 fun y my By => ?_⟩
    · exact (sb.2 c fun q => nS (q ▸ hc)).trans e
    · exact r y (Moved.trans W.gtrans ((m.mono more).then_heap (Nat.le_succ _) fun c o hc e => (sb.2 c fun q => hc (q ▸ List.mem_cons_self)).trans e) my) By
set_option maxHeartbeats 8000000 in
/-- set(xs), xs a list -/
theorem set_of_list {E : Value → Shared → Prop} {l : Addr} {us : Array Value} {xs : List κ} {Q : Value → Shared → Prop} (hh : A.handled = none) (hl : s.heap.IsList l us) (hi : ItemsAre kd xs us.toList) (sc : ∀ v ∈ us.toList, v.scannable = true) (room : xs.length + 1 < scanBound)
    (h : ∀ (h' : Heap) (tk : Nat), Bg kd h' s.heap.objs.size (firsts xs) → (∀ b o, s.heap.get? b = some o → h'.get? b = some o) → Q (.ref s.heap.objs.size) { s with heap := h', toks := tk }) :
    wpAny (model P w) A (call (.type "set") [.ref l]) Q E s := by
  have hsz : us.size = xs.length := by rw [items_len hi, Array.length_toList]
  obtain ⟨c, tl, hmro⟩ := F.called_set.mro
  have hmade := F.called_set.made
  have hsub := F.called_set.sub
  refine wpAny_call (codeAny_of_tree ?_)
  show wpAny _ _ (callAny (.type "set") _) _ _ _
  refine wpAny_pure ⟨Code.quiet_builtin _ (by decide +kernel), codeAny_builtin F.entry_type_call ?_⟩
  rw [Around.under_plain (weight_type_call_type "set" [.ref l] []) rfl]
  have h1 := F.called_set.notType
  have h2 := F.called_set.canCreate
  have hct := F.typeCall_set_1 (.ref l)
  repeat (any_goals (first | assumption | wp_step))
  refine codeAny_mono (code_set_led1 (.ref l) (E := E) (Q₁ := fun u z => u = .ref s.heap.objs.size ∧ z = { s with heap := s.heap.push (emptyObj w) }) ⟨rfl, rfl⟩) fun r z hr => ?_
  cases r with
  | error e => exact hr
  | ok fl =>
    cases fl with
    | ret u =>
      obtain ⟨rfl, rfl⟩ := hr
      have at0 : (s.heap.push (emptyObj w)).get? s.heap.objs.size = some (emptyObj w) := Heap.get?_push_size _ rfl
      have hT : Shared.TypeIs { s with heap := s.heap.push (emptyObj w) } (.ref s.heap.objs.size) "set" := ⟨_, at0, rfl⟩
      have hli := F.called_set.init.lookup
      have hbi := F.called_set.init.bind (.ref s.heap.objs.size)
      repeat (any_goals (first | assumption | wp_step))
      refine codeAny_mono (codeAny_call_builtin (R := wants (fun r y => r = .none ∧ ∃ h' tk, y = { s with heap := h', toks := tk } ∧ Bg kd h' s.heap.objs.size (firsts xs) ∧ (∀ b o, s.heap.get? b = some o → h'.get? b = some o)) E) F.called_set.init.plain F.entry_set_init (check_set_init_1 hT ?_)) fun r2 y hy => ?_
      · obtain ⟨⟨oc, od, odt, osl⟩, hol, hcl, nl, hdl⟩ := hl
        simp only at hcl hdl
        subst hcl
        subst hdl
        have hol1 : (s.heap.push (emptyObj w)).get? l = some { cls := .type "list", dict := od, data := .seq us nl, slots := osl } := Heap.get?_push_of_some _ hol
        have hl1 : (s.heap.push (emptyObj w)).IsList l us := ⟨_, hol1, rfl, nl, rfl⟩
        have q1 := F.sub_list_set
        have q2 := F.sub_list_frozenset
        have q3 : (Value.type "list" == Value.type "dict") = false := by decide
        unfold Builtin.«set.__init__» noKeywords Builtin.Frozenset.updateFrom
        generalize hPI : pyIter = PI
        wp_walk
        subst hPI
        refine wpAny_pyIter_list hl1 (wpAny_bind (wpAny_runValue ?_))
        have lt : l < s.heap.objs.size := Heap.lt_size hol
        have h3 : A.in1.in1.in1.handled = none := by simp [hh]
        have z1 : (s.heap.push (emptyObj w)).objs.size = s.heap.objs.size + 1 := Heap.size_push ..
        refine turns (kd := kd) ((Walks.list h3 (s.heap.push (emptyObj w)).objs.size l (by rw [z1]; exact Nat.ne_of_lt (Nat.lt_succ_of_lt lt)) us).toS) (S := s.heap.objs.size) ?_ xs hsz.symm (hsz ▸ room) (fun i v hv => ?_) us.size 0 _ (Nat.zero_add _) ⟨⟨_, Heap.get?_push_size _ rfl, rfl, rfl⟩, hl1.push _⟩ ?_ fun y m B => ?_
        · rw [z1]
          simp only [List.mem_cons, List.not_mem_nil, or_false, not_or]
          exact ⟨Nat.ne_of_lt (Nat.lt_succ_self _), Nat.ne_of_gt lt⟩
        · have hv' : us.toList[i]? = some v := by rw [Array.getElem?_toList]; exact hv
          clear h hh hol hol1 hl1
          have gen : ∀ {js : List κ} {vs : List Value} (i : Nat), ItemsAre kd js vs → vs[i]? = some v → ∃ k, js[i]? = some k ∧ kd.is k v = true := fun {js vs} i q => by
            induction q generalizing i with
            | nil => intro e; simp at e
            | cons a b ih =>
              intro e
              cases i with
              | zero =>
                obtain rfl := Option.some.inj e
                exact ⟨_, rfl, a⟩
              | succ i => exact ih i e
          obtain ⟨k, e1, e2⟩ := gen i hi hv'
          exact ⟨k, e1, e2, sc v (List.mem_of_getElem? hv')⟩
        · exact empty_bg (Heap.get?_push_of_some _ at0)
        · obtain ⟨h', g2, d2, tk, os⟩ := y
          obtain rfl : g2 = s.gens := m.gens
          obtain rfl : d2 = s.drawn := m.drawn
          obtain rfl : os = s.os := m.os
          refine wpAny_pure ?_
          show wpAny _ _ (ret Value.none) _ _ _
          refine wpAny_pure ⟨rfl, h', tk, rfl, B, fun b o e => ?_⟩
          have lb : b < s.heap.objs.size := Heap.lt_size e
          refine m.heap b o (fun z => ?_) (Heap.get?_push_of_some _ (Heap.get?_push_of_some _ e))
          rcases List.mem_cons.mp z with z | z
          · exact absurd z (Nat.ne_of_lt lb)
          · have q := List.mem_singleton.mp z
            rw [z1] at q
            exact absurd q (Nat.ne_of_lt (Nat.lt_succ_of_lt lb))
      · cases r2 with
        | error e => exact hy
        | ok f2 =>
          cases f2 with
          | ret u =>
            obtain ⟨rfl, h', tk, rfl, B, k⟩ := hy
            repeat (any_goals (first | assumption | wp_step))
            exact h _ _ B k
          | _ => exact hy.elim
    | _ => exact hr.elim
end
end Bag


/-! sorted(set) of texts; sets of texts as tracked things -/
namespace Bag
open PySem PySem.Spec PyProof.Rows L2
section
variable {P : Program} {w : World} {A : Around} {E : Value → Shared → Prop} {s : Shared}
theorem strs_are {js : List Str} {vs : List Value} (h : ItemsAre (PySem.strKind P w) js vs) : StrsAre vs js := by
  induction h with
  | nil => exact .nil
  | cons a _ ih =>
    obtain ⟨t, rfl⟩ := Value.isStrOf_shape a
    exact .cons _ t ih
theorem are_strs {js : List Str} {vs : List Value} (h : StrsAre vs js) : ItemsAre (PySem.strKind P w) js vs := by
  induction h with
  | nil => exact .nil
  | cons y t _ ih => exact .cons (strKind_is P w y t) ih
theorem scan_strs {js : List Str} {vs : List Value} (h : StrsAre vs js) : ∀ v ∈ vs, v.scannable = true := by
  induction h with
  | nil => exact fun v z => (nomatch z)
  | cons y t _ ih => exact fun v z => (List.mem_cons.mp z).elim (fun e => by rw [e]; rfl) (ih v)
theorem sorted_bag {ks : List Str} {a : Addr} {Q : Value → Shared → Prop} (B : Bg (PySem.strKind P w) s.heap a ks) (hh : A.handled = none)
    (h : ∀ z p (out : Array Value) (c : Nat) (ys : List Str), (∀ b o, s.heap.get? b = some o → z.heap.get? b = some o) → z.gens = s.gens → z.os = s.os → s.heap.objs.size ≤ p → z.heap.get? p = some (seqObj "list" out c) → StrsAre out.toList ys → ys.Perm ks → sortedS ys = true → Q (.ref p) z) :
    wpAny (model P w) A (call (.builtin "sorted") [.ref a]) Q E s := by
  obtain ⟨o, es, ep, t, ho, hx, hd, T⟩ := B
  refine Calls.call_function_entry kind_sorted plain_sorted entry_sorted (args_sorted1 _) ?_
  unfold Builtin.«sorted»
  refine wpAny_bind (m := checkCount "sorted" 1 1 _) (wpAny_pure ?_)
  refine wpAny_bind (collect_set (A := A.in1) hh ⟨o, ho, hx.1, hd⟩ T.fits T.small T.ris T.led fun y vs k hz g1 o1 pm => ?_)
  obtain ⟨js, pj, ij⟩ := T.keys
  obtain ⟨is, q, ii⟩ := items_turn pm ij
  have sa := strs_are ii
  have ln : vs.length ≤ sizeLine := by
    rw [pm.length_eq, List.length_map, Array.length_toList]
    exact fits_of_scanBound T.small
  refine wpAny_bind (wpAny_newList ?_ ln)
  have ol : (y.heap.push (seqObj "list" vs.toArray 0)).get? y.heap.objs.size = some (seqObj "list" vs.toArray 0) := Heap.get?_push_size _ rfl
  refine wpAny_bind (wpAny_holding (wpAny_call_entry slot_list_sort ⟨_, ol, rfl⟩ entry_list_sort
    (list_sort_treeKAny PyProof.Rows.strKind_oneLt ol sa.keysOf (fun v₁ v₂ rest e => keyKind_strs (by rw [← e]; exact sa)) ln fun st hp hs => ⟨_, rfl, ?_⟩) (args_list_sort _)))
  obtain ⟨ys, h1, h2, h3⟩ := sorted_out_str sa hp hs
  obtain ⟨c, hc⟩ := sortedHeap_at (vs := vs) (out := (arrOf st).map (·.2)) ol
  refine wpAny_pure ⟨_, rfl, h _ y.heap.objs.size _ c ys (fun b u e => ?_) g1 o1 hz hc h1 (h2.trans (q.trans pj)) h3⟩
  have lt := Heap.lt_size (k b u e)
  show (sortedHeap (y.heap.push (seqObj "list" vs.toArray 0)) y.heap.objs.size vs _).get? b = some u
  rw [sortedHeap_old (Nat.ne_of_lt lt) (by rw [size_push']; exact Nat.lt_succ_of_lt lt)]
  exact Heap.get?_push_of_some _ (k b u e)
end
/-- the set of texts at a -/
def BagO (P : Program) (w : World) (a : Addr) (ks : List Str) : HO := .ext fun h => Bg (PySem.strKind P w) h a ks
theorem bagO_ok {P : Program} {w : World} {H : Hp} {h : Heap} {a : Addr} {ks : List Str} (B : Bg (PySem.strKind P w) h a ks) : ObjOk P w H h a (BagO P w a ks) := by
  obtain ⟨o, e, _⟩ := B.obj
  exact ⟨B, ⟨o, e⟩, fun _ _ b k => Bg.at b k⟩
section
variable {X : Cx} {pins : List (Addr × Obj)} {σ : L2.St} {H : Hp} {s : Shared}
theorem bagO_get {a : Addr} {ks : List Str} (I : Inv X pins σ H s) (e : H a = some (BagO X.prog X.w a ks)) : Bg (PySem.strKind X.prog X.w) s.heap a ks := (I.hok a _ e).1
/-- set(xs), xs a list of texts -/
def rSetS (K : PySem.W.Frag) (P : Program) (w : World) : List V → Hp → VK → Prop := fun vs H Q => ∃ (l : Addr) (xs : List Str), vs = [V.ref l] ∧ SqL K H l (xs.map V.str) ∧ xs.length + 1 < scanBound ∧ ∀ p, H p = none → Q (.ref p) (upd H p (BagO P w p (firsts xs)))
theorem cr_setS (hc : X.calm = true) : CallR X (.type "set") (rSetS X.K X.prog X.w) := by
  intro pins s σ H vs us Q I r h
  obtain ⟨l, xs, rfl, hl, room, q⟩ := h
  rw [Vals.ref1 r]
  obtain ⟨its, rv, pl, _⟩ := I.list hl
  have sa : StrsAre its.toArray.toList xs := by simpa using rv.strs
  refine set_of_list (kd := PySem.strKind X.prog X.w) (I.ok.hd hc) pl.isList (are_strs sa) (scan_strs sa) room fun h' tk B k => ?_
  exact ⟨.ref _, upd H s.heap.objs.size (BagO X.prog X.w s.heap.objs.size (firsts xs)), I.laid (t' := tk) k (Nat.le_refl _) (bagO_ok B), rfl, q _ (I.hok.fresh (Nat.le_refl _))⟩
/-- sorted(s), s a set of texts -/
def rSortBag (P : Program) (w : World) : List V → Hp → VK → Prop := fun vs H Q => ∃ (a : Addr) (ks : List Str), vs = [V.ref a] ∧ H a = some (BagO P w a ks) ∧ ∀ ys p, ys.Perm ks → sortedS ys = true → H p = none → Q (.ref p) (upd H p (.lst (ys.map V.str)))
theorem cr_sortBag (hc : X.calm = true) : CallR X (.builtin "sorted") (rSortBag X.prog X.w) := by
  intro pins s σ H vs us Q I r h
  obtain ⟨a, ks, rfl, ha, q⟩ := h
  rw [Vals.ref1 r]
  have B := bagO_get I ha
  refine sorted_bag B (I.ok.hd hc) fun z p out c ys k g o hp hg hs pm so => ?_
  have hn : H p = none := I.hok.fresh hp
  have ln : (ys.map V.str).length ≤ sizeLine := by
    obtain ⟨_, es, _, _, _, _, _, T⟩ := B
    rw [List.length_map, pm.length_eq, ← T.size]
    exact fits_of_scanBound T.small
  have J : Inv X pins σ (upd H p (.lst (ys.map V.str))) { s with heap := z.heap, gens := z.gens, drawn := z.drawn, toks := z.toks } :=
    I.call (ch := []) (Un.laid k hp hn) (I.hok.laid k hp ⟨ln, out.toList, c, vals_of_strs hs, hg⟩) (by rw [g]; exact I.bare) (fun _ z => nomatch z)
  have e : z = { s with heap := z.heap, gens := z.gens, drawn := z.drawn, toks := z.toks } := by
    cases z
    cases s
    cases o
    rfl
  rw [e]
  exact ⟨.ref p, _, J, rfl, q ys p pm so hn⟩
/-- set.add of a text -/
theorem add_bag {E : Value → Shared → Prop} {D : Addr} {ks : List Str} {y : Str} {u : Value} {Q : Value → Shared → Prop} (I : Inv X pins σ H s) (hD : H D = some (BagO X.prog X.w D ks)) (ru : RelV (.str y) u) (room : ks.length + 1 < scanBound)
    (h : ∀ z, Inv X pins σ (upd H D (BagO X.prog X.w D (met ks y))) z → Q .none z) : wpAny (model X.prog X.w) X.A (call (.builtin "set.add") [.ref D, u]) Q E s := by
  have B := bagO_get I hD
  obtain ⟨o, ho, hc⟩ := B.obj
  obtain ⟨t, rfl⟩ : ∃ t, u = Value.str y t := ru
  refine wpAny_call_entry F.slot_set_add ⟨o, ho, hc⟩ F.entry_set_add ?_ (F.args_set_add_2 _ _)
  unfold Builtin.«set.add» Builtin.Frozenset.oneOther
  simp only [List.isEmpty_nil, bind_assoc]
  unfold Builtin.Frozenset.addrOf setAdd
  refine wpAny_bind (wpAny_pure ?_)
  try dsimp only
  refine wpAny_bind (wpAny_pure ?_)
  try dsimp only
  refine wpAny_bind (wpAny_holding (wpAny_bind ((PySem.strKind X.prog X.w).pyHash (strKind_is X.prog X.w y t) ?_)))
  refine put_hashed (s := { s with toks := s.toks + 1 }) B (strKind_is X.prog X.w y t) rfl room fun h' b sb B2 => ?_
  show wpAny _ _ (ret Value.none) _ _ _
  obtain ⟨o2, ho2, _⟩ := B2.obj
  exact wpAny_pure ⟨_, rfl, h _ (I.write (e := D) (t' := s.toks + 1) (by rw [hD]; trivial) (.inl rfl) (fun b u hb hu => (sb.2 b hb).trans hu) ⟨_, ho2⟩ (bagO_ok B2))⟩
end
end Bag


/-! lists of tuples: rows and places -/
namespace Rng
open PySem L2
/-- vs are tuples, what f says of each of as -/
inductive TupsAt {α : Type} (f : α → List V) (H : Hp) : List V → List α → Prop
  | nil : TupsAt f H [] []
  | cons {p : Addr} {a : α} {vs : List V} {as : List α} : H p = some (.tup (f a)) → TupsAt f H vs as → TupsAt f H (.ref p :: vs) (a :: as)
section
variable {α : Type} {f : α → List V} {H H' : Hp} {vs us : List V} {as bs : List α} {p : Addr}
theorem TupsAt.len (h : TupsAt f H vs as) : vs.length = as.length := by
  induction h with
  | nil => rfl
  | cons _ _ ih => rw [List.length_cons, List.length_cons, ih]
theorem TupsAt.keep (h : TupsAt f H vs as) (k : ∀ c ys, H c = some (.tup ys) → H' c = some (.tup ys)) : TupsAt f H' vs as := by
  induction h with
  | nil => exact .nil
  | cons e _ ih => exact .cons (k _ _ e) ih
theorem TupsAt.but (h : TupsAt f H vs as) (b : But p H H') (n : ∀ ys, H p ≠ some (.tup ys)) : TupsAt f H' vs as := h.keep fun c ys e => b c _ (fun z => n ys (z ▸ e)) e
theorem TupsAt.same (h : TupsAt f H vs as) (s : Same H H') : TupsAt f H' vs as := h.keep fun c ys e => s c _ e
theorem TupsAt.put {xs ys : List V} (h : TupsAt f H vs as) (e : H p = some (.lst xs)) : TupsAt f (upd H p (.lst ys)) vs as := h.keep fun c zs k => by
  rw [upd_ne (fun z => by rw [z, e] at k; cases k)]
  exact k
theorem TupsAt.snoc {a : α} (h : TupsAt f H vs as) (e : H p = some (.tup (f a))) : TupsAt f H (vs ++ [.ref p]) (as ++ [a]) := by
  induction h with
  | nil => exact .cons e .nil
  | cons k _ ih => exact .cons k ih
theorem TupsAt.get {i : Nat} {v : V} (h : TupsAt f H vs as) (e : vs[i]? = some v) : ∃ a q, as[i]? = some a ∧ v = .ref q ∧ H q = some (.tup (f a)) := by
  induction h generalizing i with
  | nil => simp at e
  | cons k _ ih =>
    cases i with
    | zero =>
      obtain rfl := Option.some.inj e
      exact ⟨_, _, rfl, rfl, k⟩
    | succ i => exact ih e
theorem TupsAt.erase {i : Nat} (h : TupsAt f H vs as) : TupsAt f H (vs.eraseIdx i) (as.eraseIdx i) := by
  induction h generalizing i with
  | nil => exact .nil
  | cons k r ih =>
    cases i with
    | zero => exact r
    | succ i => exact .cons k ih
/-- a permutation of the things is one of the values -/
theorem TupsAt.perm (p : us.Perm vs) (h : TupsAt f H vs as) : ∃ bs, bs.Perm as ∧ TupsAt f H us bs := by
  induction p generalizing as with
  | nil => exact ⟨as, .refl _, h⟩
  | cons v p ih =>
    cases h with
    | cons a b =>
      obtain ⟨is, q, r⟩ := ih b
      exact ⟨_, q.cons _, .cons a r⟩
  | swap x y l =>
    cases h with
    | cons a b =>
      cases b with
      | cons b c => exact ⟨_, .swap _ _ _, .cons b (.cons a c)⟩
  | trans p q ih1 ih2 =>
    obtain ⟨i1, q1, r1⟩ := ih2 h
    obtain ⟨i2, q2, r2⟩ := ih1 r1
    exact ⟨i2, q2.trans q1, r2⟩
theorem TupsAt.data {K : PySem.W.Frag} {g : α → List PyData} (h : TupsAt f H vs as) (fg : ∀ a, DpAll K H (f a) (g a)) : DpAll K H vs (as.map fun a => .tuple (g a)) := by
  induction h with
  | nil => exact .nil
  | cons e _ ih => exact .cons (.tup (SqT.of e) (fg _)) ih
end
/-! ### rows and places -/
abbrev Row : Type := Str × Int × Int
abbrev Plc : Type := Str × Int
def rowV (r : Row) : List V := [.str r.1, .int r.2.1, .int r.2.2]
def plcV (q : Plc) : List V := [.str q.1, .int q.2]
def plcOf (r : Row) : Plc := (r.1, r.2.1)
def rowD (r : Row) : List PyData := [.str r.1, .int r.2.1, .int r.2.2]
def plcD (q : Plc) : List PyData := [.str q.1, .int q.2]
theorem row_data {K : PySem.W.Frag} {H : Hp} (r : Row) : DpAll K H (rowV r) (rowD r) := .cons (.str _) (.cons (.int _) (.cons (.int _) .nil))
theorem plc_data {K : PySem.W.Frag} {H : Hp} (q : Plc) : DpAll K H (plcV q) (plcD q) := .cons (.str _) (.cons (.int _) .nil)
theorem str_beq (x y : Str) : (x == y) = decide (x = y) := by
  by_cases e : x = y
  · subst e; simp
  · simp [e]
theorem plc_eqv (x y : Plc) : PyData.eqv (.tuple (plcD x)) (.tuple (plcD y)) = decide (x = y) := by
  obtain ⟨a, i⟩ := x
  obtain ⟨b, j⟩ := y
  unfold plcD
  simp only [PyData.eqv, PyData.eqvAll, Bool.and_true]
  rw [str_beq]
  by_cases e : a = b <;> by_cases e2 : i = j <;> simp [e, e2]
theorem row_eqv (x y : Row) : PyData.eqv (.tuple (rowD x)) (.tuple (rowD y)) = decide (x = y) := by
  obtain ⟨a, i, m⟩ := x
  obtain ⟨b, j, n⟩ := y
  unfold rowD
  simp only [PyData.eqv, PyData.eqvAll, Bool.and_true]
  rw [str_beq]
  by_cases e : a = b <;> by_cases e2 : i = j <;> by_cases e3 : m = n <;> simp [e, e2, e3]
theorem name_ok {z : Str} (h : isName z = true) : PyData.strOk z = true := by
  unfold isName at h
  unfold PyData.strOk
  simp only [Bool.and_eq_true, decide_eq_true_eq] at h
  have all : ∀ c ∈ z.cps.toList, c < 123 := by
    cases e : z.cps.toList with
    | nil => exact fun c hc => (nomatch hc)
    | cons c r =>
      rw [e] at h
      simp only [Bool.and_eq_true, List.all_eq_true, low, dig, Bool.or_eq_true, decide_eq_true_eq] at h
      intro d hd
      rcases List.mem_cons.mp hd with rfl | hd
      · omega
      · have := h.2.2 d hd
        omega
  rw [← Array.all_toList]
  exact List.all_eq_true.mpr fun c hc => decide_eq_true (Nat.lt_trans (all c hc) (by decide))
theorem plcs_lay : ∀ qs : List Plc, (∀ q ∈ qs, PyData.strOk q.1 = true) → PyData.canLayAll0 (qs.map fun q => .tuple (plcD q)) = true
  | [], _ => by simp [PyData.canLayAll0]
  | q :: qs, h => by
    have h1 := h q List.mem_cons_self
    have h2 := plcs_lay qs fun x hx => h x (List.mem_cons_of_mem _ hx)
    unfold plcD at h2 ⊢
    simp [PyData.canLayAll0, PyData.canLay0, h1, h2]
theorem plcs_deep : ∀ qs : List Plc, PyData.depthAll (qs.map fun q => .tuple (plcD q)) ≤ 1
  | [] => by simp [PyData.depthAll]
  | q :: qs => by
    have := plcs_deep qs
    unfold plcD at this ⊢
    simp only [List.map_cons, PyData.depthAll, PyData.depth]
    omega
theorem plcs_shaped (qs : List Plc) (h : ∀ q ∈ qs, PyData.strOk q.1 = true) : SeqAt.shaped (.list (qs.map fun q => .tuple (plcD q))) = true := by
  have := plcs_deep qs
  unfold SeqAt.shaped
  rw [Bool.and_eq_true, decide_eq_true_eq]
  refine ⟨by simp only [PyData.canLay0]; exact plcs_lay qs h, ?_⟩
  simp only [PyData.depth]
  omega
theorem plc_shaped (q : Plc) (h : PyData.strOk q.1 = true) : SeqAt.shaped (.tuple (plcD q)) = true := by
  unfold SeqAt.shaped
  simp [PyData.canLay0, PyData.canLayAll0, PyData.depth, PyData.depthAll, plcD, h]
theorem rows_lay : ∀ rs : List Row, (∀ q ∈ rs, PyData.strOk q.1 = true) → PyData.canLayAll0 (rs.map fun r => .tuple (rowD r)) = true
  | [], _ => by simp [PyData.canLayAll0]
  | r :: rs, h => by
    have h1 := h r List.mem_cons_self
    have h2 := rows_lay rs fun x hx => h x (List.mem_cons_of_mem _ hx)
    unfold rowD at h2 ⊢
    simp [PyData.canLayAll0, PyData.canLay0, h1, h2]
theorem rows_deep : ∀ rs : List Row, PyData.depthAll (rs.map fun r => .tuple (rowD r)) ≤ 1
  | [] => by simp [PyData.depthAll]
  | r :: rs => by
    have := rows_deep rs
    unfold rowD at this ⊢
    simp only [List.map_cons, PyData.depthAll, PyData.depth]
    omega
theorem rows_shaped (rs : List Row) (h : ∀ q ∈ rs, PyData.strOk q.1 = true) : SeqAt.shaped (.list (rs.map fun r => .tuple (rowD r))) = true ∧ SeqAt.shaped (.tuple (rs.map fun r => .tuple (rowD r))) = true := by
  have d := rows_deep rs
  have l := rows_lay rs h
  unfold SeqAt.shaped
  rw [Bool.and_eq_true, decide_eq_true_eq, Bool.and_eq_true, decide_eq_true_eq]
  refine ⟨⟨by simp only [PyData.canLay0]; exact l, ?_⟩, by simp only [PyData.canLay0]; exact l, ?_⟩
  · simp only [PyData.depth]
    omega
  · simp only [PyData.depth]
    omega
theorem row_shaped (r : Row) (h : PyData.strOk r.1 = true) : SeqAt.shaped (.tuple (rowD r)) = true := by
  unfold SeqAt.shaped
  simp [PyData.canLay0, PyData.canLayAll0, PyData.depth, PyData.depthAll, rowD, h]
theorem any_plc (qs : List Plc) (q : Plc) : ((qs.map fun q => PyData.tuple (plcD q)).any fun z => PyData.eqv z (.tuple (plcD q))) = decide (q ∈ qs) := by
  induction qs with
  | nil => rfl
  | cons x qs ih =>
    rw [List.map_cons, List.any_cons, ih, plc_eqv]
    by_cases e : x = q
    · subst e; simp
    · have e' : ¬ q = x := fun z => e z.symm
      simp [e, e']
theorem any_row (rs : List Row) (r : Row) : ((rs.map fun r => PyData.tuple (rowD r)).any fun z => PyData.eqv z (.tuple (rowD r))) = decide (r ∈ rs) := by
  induction rs with
  | nil => rfl
  | cons x rs ih =>
    rw [List.map_cons, List.any_cons, ih, row_eqv]
    by_cases e : x = r
    · subst e; simp
    · have e' : ¬ r = x := fun z => e z.symm
      simp [e, e']
/-- what the laws' rows are: one of the names, a small time, a value below 10 ** 26 -/
structure RowsOk (zs : List Str) (m : Nat) (rs : List Row) : Prop where
  len : rs.length ≤ m
  nd : (rs.map plcOf).Nodup
  nm : ∀ r ∈ rs, r.1 ∈ zs
  tm : ∀ r ∈ rs, -10 ≤ r.2.1 ∧ r.2.1 ≤ 20
  vl : ∀ r ∈ rs, -10 ^ 25 ≤ r.2.2 ∧ r.2.2 ≤ 10 ^ 25
def spLines (K : PySem.W.Frag) : Sp := fun vs H Q _ => ∃ (p l : Addr) (m b : Nat) (zs : List Str), vs = [.ref p, .ref l, .int m] ∧ m ≤ 20 ∧ Src H p b ∧ b ≤ 800000 ∧ l ≠ p ∧ SqL K H l (zs.map V.str) ∧ 0 < zs.length ∧ zs.length ≤ 1000 ∧ (∀ z ∈ zs, isName z = true) ∧
  ∀ (q : Addr) (us : List V) (rs : List Row) (H' : Hp), RowsOk zs m rs → TupsAt rowV H' us rs → But p H H' → H q = none → q ≠ p → H' q = some (.lst us) → Src H' p (b + 100) → Q (.ref q) H'
def spMixed : Sp := fun vs H Q _ => ∃ (p l : Addr) (b : Nat) (xs : List V), vs = [.ref p, .ref l] ∧ l ≠ p ∧ Src H p b ∧ b ≤ 800000 ∧ H l = some (.lst xs) ∧ xs.length ≤ 100 ∧
  ∀ (q : Addr) (ys : List V) (H' : Hp), ys.Perm xs → But p H H' → H q = none → q ≠ p → H' q = some (.lst ys) → Src H' p (b + xs.length) → Q (.ref q) H'
end Rng


namespace Rng
open PySem L2
theorem one_lt (c d : Nat) : decide ([c] < [d]) = decide (c < d) := by
  have : ([c] < [d]) ↔ c < d := by simp [List.cons_lt_cons_iff]
  exact decide_eq_decide.mpr this
theorem low_is (c : Nat) : low c = (!decide ([c] < [97]) && !decide ([122] < [c])) := by
  rw [one_lt, one_lt]
  unfold low
  by_cases h1 : 97 ≤ c <;> by_cases h2 : c ≤ 122 <;> simp [h1, h2, Nat.not_lt, Nat.lt_of_not_le] <;> omega
theorem dig_is (c : Nat) : dig c = (!decide ([c] < [48]) && !decide ([57] < [c])) := by
  rw [one_lt, one_lt]
  unfold dig
  by_cases h1 : 48 ≤ c <;> by_cases h2 : c ≤ 57 <;> simp [h1, h2, Nat.not_lt, Nat.lt_of_not_le] <;> omega
def spSign (g : Nat → Bool) : Sp := fun vs H Q _ => ∃ c : Nat, vs = [.str ⟨#[c]⟩] ∧ Q (.bl (g c)) H
/-- whether a value is a whole number, no truth value -/
def IntB (K : PySem.W.Frag) (H : Hp) (v : V) (b : Bool) : Prop := ∃ t b1 b2, TyX K H v t ∧ PySem.W.kitOne K t (.type "int") = some b1 ∧ PySem.W.kitOne K t (.type "bool") = some b2 ∧ b = (b1 && !b2)
theorem IntB.int {K : PySem.W.Frag} {H : Hp} (i : Int) : IntB K H (.int i) true := ⟨.type "int", true, false, .base (.int i), kit_ty (by decide +kernel), kit_ty (by decide +kernel), rfl⟩
theorem IntB.bl {K : PySem.W.Frag} {H : Hp} (b : Bool) : IntB K H (.bl b) false := ⟨.type "bool", true, true, .base (.bl b), kit_ty (by decide +kernel), kit_ty (by decide +kernel), rfl⟩
theorem IntB.non {K : PySem.W.Frag} {H : Hp} : IntB K H .non false := ⟨.type "NoneType", false, false, .base .non, kit_ty (by decide +kernel), kit_ty (by decide +kernel), rfl⟩
theorem IntB.str {K : PySem.W.Frag} {H : Hp} (z : Str) : IntB K H (.str z) false := ⟨.type "str", false, false, .base (.str z), kit_ty (by decide +kernel), kit_ty (by decide +kernel), rfl⟩
theorem IntB.lst {K : PySem.W.Frag} {H : Hp} {a : Addr} {xs : List V} (e : H a = some (.lst xs)) : IntB K H (.ref a) false := ⟨.type "list", false, false, .base (.lst e), kit_ty (by decide +kernel), kit_ty (by decide +kernel), rfl⟩
theorem IntB.dK {K : PySem.W.Frag} {H : Hp} {a : Addr} {kvs : List (Key × V)} (e : H a = some (.dK kvs)) : IntB K H (.ref a) false := ⟨.type "dict", false, false, .base (.dK e), kit_ty (by decide +kernel), kit_ty (by decide +kernel), rfl⟩
def spInteger (K : PySem.W.Frag) : Sp := fun vs H Q _ => ∃ (v : V) (b : Bool), vs = [v] ∧ IntB K H v b ∧ Q (.bl b) H
/-- whether a value is a name -/
def NameB (K : PySem.W.Frag) (H : Hp) (v : V) (b : Bool) : Prop := (∃ z : Str, v = .str z ∧ z.length ≤ 16777216 ∧ b = isName z) ∨ ∃ t, TyX K H v t ∧ PySem.W.kitOne K t (.type "str") = some false ∧ b = false
def spIsName (K : PySem.W.Frag) : Sp := fun vs H Q _ => ∃ (v : V) (b : Bool), vs = [v] ∧ NameB K H v b ∧ ∀ H', Same H H' → Q (.bl b) H'
/-- whether a value is a row -/
def RowB (K : PySem.W.Frag) (H : Hp) (v : V) (b : Bool) : Prop :=
  (∃ t, TyX K H v t ∧ PySem.W.kitOne K t (.type "tuple") = some false ∧ b = false) ∨ (∃ p xs, v = .ref p ∧ H p = some (.tup xs) ∧ xs.length ≠ 3 ∧ b = false) ∨
  ∃ p x y z b1 b2 b3, v = .ref p ∧ H p = some (.tup [x, y, z]) ∧ NameB K H x b1 ∧ (∀ H', Same H H' → IntB K H' y b2) ∧ (∀ H', Same H H' → IntB K H' z b3) ∧ b = (b1 && (b2 && b3))
def spIsRow (K : PySem.W.Frag) : Sp := fun vs H Q _ => ∃ (v : V) (b : Bool), vs = [v] ∧ RowB K H v b ∧ ∀ H', Same H H' → Q (.bl b) H'
end Rng


/-! {e for x in xs}, e a text -/
namespace Bag
open PySem PySem.Spec PyProof.Rows L2
/-- one turn: the text goes into the set at D -/
def put1 (P : Program) (w : World) (D : Addr) (te : TE) (σ : L2.St) (H : Hp) (Nx : Hp → Prop) : Prop :=
  te σ H fun y H' => ∃ (z : Str) (ks : List Str), y = .str z ∧ H' D = some (BagO P w D ks) ∧ ks.length + 1 < scanBound ∧ Nx (upd H' D (BagO P w D (met ks z)))
def tBag (P : Program) (w : World) (wi : TI) (g : TG) (tt : TT) (te : TE) (vs : List Nat) : TE := fun σ H Q => wi σ H fun J H1 => ∀ D, H1 D = none → ∃ W : Nat → Nat → Hp → Prop, (∃ m, W 0 m (upd H1 D (BagO P w D []))) ∧
  ∀ i m H, W i m H → (J.stop i H ∧ Q (.ref D) H) ∨ (J.go i H ∧ ∃ Nx : Hp → Prop, (∀ H', Nx H' → ∃ m', m' < m ∧ W (i + 1) m' H') ∧
    ∀ x H', J.yld i H x H' → g x (wipe σ vs) H' fun σ2 H2 => wipe σ2 vs = wipe σ vs ∧ tt σ2 H2 fun b H3 => if b = true then put1 P w D te σ2 H3 Nx else Nx H3)
section
variable {X : Cx} {elt tg iter : Expr} {ifs : List Expr} {scope : Scope} {own : List (PySem.Str × Nat)} {pos : Pos} {wi : TI} {g : TG} {tt : TT} {te : TE}
theorem pe_bag (hc : X.calm = true) (hN : X.N.Nodup) (hi : PI X tg iter wi) (ok : BlkOk X.N X.env.scope scope own)
    (hg : ∀ (s : Shared) (H : Hp) (C : Addr) (cl : List (PySem.Str × Addr)) (fp : List Addr), PG (X.blk s H scope (compEnvC scope cl C X.env) fp) tg g) (ht : ∀ (s : Shared) (H : Hp) (C : Addr) (cl : List (PySem.Str × Addr)) (fp : List Addr), PTs (X.blk s H scope (compEnvC scope cl C X.env) fp) ifs tt)
    (he : ∀ (s : Shared) (H : Hp) (C : Addr) (cl : List (PySem.Str × Addr)) (fp : List Addr), PE (X.blk s H scope (compEnvC scope cl C X.env) fp) elt te) (hs : ∀ x, foldedSetIterable iter X.env x = pure x := by intro _; rfl) :
    PE X (.SetComp elt [⟨tg, iter, ifs, 0⟩] scope pos) (tBag X.prog X.w wi g tt te (own.map (·.2))) := by
  refine ⟨fun pins s σ H Q I h => ?_⟩
  rw [PpSet.eval_SetComp]
  refine wpAny_comprehension_free (use := none) rfl hs (closure_ok fun y hy e => (ok.free y hy e).elim (fun k => I.ok.has _ (.inl k)) fun k => I.ok.has _ (.inr k)) ok.kind (fun y hy e => by rw [ok.uniq y hy, e]) ?_
  refine thn (hi.run pins s σ H _ I h) fun xv s1 hx => thn hx fun itv s2 ⟨it, fp, tn, J, H2, e, I2, T, st2, f2, q⟩ => ?_
  subst e
  refine PpSet.newSet_ok (newEnv_comp ?_)
  -- the set
  obtain ⟨D, hD⟩ : ∃ D, s2.heap.objs.size = D := ⟨_, rfl⟩
  obtain ⟨W, ⟨m0, w0⟩, turn⟩ := q D (I2.hok.fresh (Nat.le_of_eq hD))
  obtain ⟨s3, hs3⟩ : ∃ s3 : Shared, { s2 with heap := s2.heap.push (emptyObj X.w) } = s3 := ⟨_, rfl⟩
  have hp3 : s3.heap = s2.heap.push (emptyObj X.w) := by rw [← hs3]
  obtain ⟨H3, hH3⟩ : ∃ H3, upd H2 D (BagO X.prog X.w D []) = H3 := ⟨_, rfl⟩
  have I3 : Inv X pins σ H3 s3 := by
    rw [← hs3, ← hH3]
    exact I2.laid (t' := s2.toks) (fun b o e => Heap.get?_push_of_some _ e) (Nat.le_of_eq hD) (bagO_ok (empty_bg (by rw [← hD]; exact Heap.get?_push_size _ rfl)))
  have old : ∀ b ∈ fp, b < s2.heap.objs.size := fun b hb => by
    obtain ⟨o, e, _⟩ := T.obj _ _ st2 b hb
    exact Heap.lt_size e
  have f3 : ∀ b ∈ fp, FpOk X pins H3 b ∧ b < s3.heap.objs.size := fun b hb => by
    have lt := old b hb
    refine ⟨⟨?_, (f2 b hb).2⟩, by rw [hp3, Heap.size_push]; exact Nat.lt_succ_of_lt lt⟩
    rw [← hH3, upd_ne (by rw [← hD]; exact Nat.ne_of_lt lt)]
    exact (f2 b hb).1
  have st3 : tn 0 s3.heap := T.keep _ _ _ st2 fun b _ o e => by rw [hp3]; exact Heap.get?_push_of_some _ e
  rw [hH3] at w0
  -- the block
  have I4 := block_start I3 ok hN f3
  have pg := hg s3 H3 s3.heap.objs.size (cellsFrom (s3.heap.objs.size + 1) scope.names (cloFrom X.env.cells scope.names [])) fp
  have pt := ht s3 H3 s3.heap.objs.size (cellsFrom (s3.heap.objs.size + 1) scope.names (cloFrom X.env.cells scope.names [])) fp
  have pe := he s3 H3 s3.heap.objs.size (cellsFrom (s3.heap.objs.size + 1) scope.names (cloFrom X.env.cells scope.names [])) fp
  have hsz : (s2.heap.push (emptyObj X.w)).objs.size = s3.heap.objs.size := by rw [hp3]
  have goal : ∀ ce : Env, compEnvC scope (cellsFrom (s3.heap.objs.size + 1) scope.names (cloFrom X.env.cells scope.names [])) s3.heap.objs.size X.env = ce →
      codeAny (model X.prog X.w) X.A (.compStart (.SetComp elt [⟨tg, iter, ifs, 0⟩] scope pos) 0 (.ref it) (.ref D) ce) (compPost (model X.prog X.w) X.A X.xe none (EP X pins σ Q) (.ref D) s3.heap.objs.size)
        { s3 with heap := pushCells (s3.heap.push { cls := .type "dict", data := .dict #[] }) scope.names } := fun ce hce => by
    rw [hce] at I4 pg pt pe
    have cl : ce.locals = s3.heap.objs.size := by rw [← hce]; rfl
    obtain ⟨s4, hs4⟩ : ∃ s4 : Shared, { s3 with heap := pushCells (s3.heap.push { cls := .type "dict", data := .dict #[] }) scope.names } = s4 := ⟨_, rfl⟩
    rw [hs4] at I4 ⊢
    have st4 : tn 0 s4.heap := T.keep _ _ _ st3 fun b _ o e => by rw [← hs4]; exact pushCells_keeps _ _ _ _ (Heap.get?_push_of_some _ e)
    have fpok : ∀ {σ' : L2.St} {H' : Hp} {z : Shared}, Inv (X.blk s3 H3 scope ce fp) [] σ' H' z → (∀ b ∈ fp, H' b = none) → ∀ b ∈ fp, FpOk (X.blk s3 H3 scope ce fp) [] H' b := fun {σ' H' z} J n b hb =>
      ⟨n b hb, (J.ok.exf b hb).1, J.ok.exfs b hb, .inl hb, fun x c e => (J.ok.exf b hb).2 x c e, fun p hp => absurd (show p ∈ ([] : List (Addr × Obj)) ++ [] from hp) (by simp)⟩
    refine PpSet.codeAny_compStart_set ?loop (T.self X.A 0 _ _ _ st4 ?loop)
    refine PpSet.compLoopS_any (fun n z => ∃ i H', Inv (X.blk s3 H3 scope ce fp) [] (wipe σ (own.map (·.2))) H' z ∧ tn i z.heap ∧ (∀ b ∈ fp, H' b = none) ∧ W i n H') ?_ m0 ⟨0, H3, I4, st4, fun b hb => (f3 b hb).1.1, w0⟩
    rintro n s5 ⟨i, H5, I5, st5, n5, w5⟩
    rcases turn i n H5 w5 with ⟨stop, done⟩ | ⟨go, Nx, hNx, step⟩
    · refine thnF (T.done (X.blk s3 H3 scope ce fp) rfl rfl rfl hc i [] s5 _ H5 (fun _ _ => False) I5 (fpok I5 n5) st5 stop) fun r s6 ⟨hr, I6⟩ => ?_
      subst hr
      have I7 : Inv X pins σ H5 s6 := I3.call' (ch := fp) I6.os I6.base I6.hok I6.bare fun b hb => ⟨(f3 b hb).1.2.2.2.1, (f3 b hb).1.2.1, (f3 b hb).1.2.2.2.2.1, (f3 b hb).1.2.2.2.2.2⟩
      have free : H5 ce.locals = none := I6.free
      obtain ⟨m, hn, _⟩ := I6.loc
      have hn : s6.heap.Ns ce.locals m := hn
      rw [cl] at hn free
      refine ⟨m, hn, fun h'' sb => ?_⟩
      obtain ⟨p0, p1, p2, p3, p4, p5⟩ := I3.fpOk (Nat.le_refl _) free
      exact ⟨.ref D, H5, I7.turned (t' := s6.toks) (fun b o hb e => (sb.2 b hb).trans e) p0 p1 p3 p4 p5, rfl, done⟩
    · refine thnF (T.item (X.blk s3 H3 scope ce fp) rfl rfl rfl hc i [] s5 _ H5 (fun _ _ => False) I5 (fpok I5 n5) st5 go) fun r s6 ⟨u, hr, h6⟩ => ?_
      subst hr
      refine thnF h6 fun _ s7 ⟨x, H7, I7, r7, y7, st7, n7⟩ => ?_
      refine thnF (pg.run _ s7 _ H7 x u _ (I7.pinned (fpok I7 n7) (T.obj _ _ st7)) r7 (step x H7 y7)) fun _ s8 ⟨σ8, H8, I8, hw8, q8⟩ => ?_
      refine thnF (pt.run _ s8 σ8 H8 _ I8 q8) fun b s9 ⟨H9, I9, q9⟩ => ?_
      have next : ∀ {z : Shared} {H' : Hp}, Inv (X.blk s3 H3 scope ce fp) ([] ++ pinsAt fp s7.heap) σ8 H' z → Nx H' → ∃ m, m < n ∧ ∃ i H', Inv (X.blk s3 H3 scope ce fp) [] (wipe σ (own.map (·.2))) H' z ∧ tn i z.heap ∧ (∀ b ∈ fp, H' b = none) ∧ W i m H' := fun {z H'} J nx => by
        obtain ⟨m', lt, w'⟩ := hNx H' nx
        have pin : ∀ b ∈ fp, ∀ o, s7.heap.get? b = some o → z.heap.get? b = some o ∧ H' b = none := fun b hb o e =>
          let k := J.pin (b, o) (List.mem_append_right _ (List.mem_append_right _ (mem_pinsAt hb e)))
          ⟨k.1, k.2.1⟩
        refine ⟨m', lt, i + 1, H', (J.unpinned (pins := [])).weak (by rw [← hw8, wipe_length]) (fun j v e => ?_), T.keep _ _ _ st7 fun b hb o e => (pin b hb o e).1, fun b hb => ?_, w'⟩
        · rw [← hw8] at e
          exact (wipe_some e).1
        · obtain ⟨o, e, _⟩ := T.obj _ _ st7 b hb
          exact (pin b hb o e).2
      cases b with
      | false =>
        simp only [Bool.false_eq_true, if_false] at q9 ⊢
        exact next I9 q9
      | true =>
        simp only [if_true] at q9 ⊢
        unfold put1 at q9
        refine thnF (pe.run _ s9 σ8 H9 _ I9 q9) fun u s10 ⟨yv, H10, I10, r10, y, ks, ey, at10, room, nx⟩ => ?_
        subst ey
        exact add_bag (X := X.blk s3 H3 scope ce fp) I10 at10 r10 room fun s11 I11 => next I11 nx
  have g0 := goal _ rfl
  show codeAny _ _ (.compStart (.SetComp elt [⟨tg, iter, ifs, 0⟩] scope pos) 0 (.ref it) (.ref s2.heap.objs.size) (compEnvC scope (cellsFrom ((s2.heap.push (emptyObj X.w)).objs.size + 1) scope.names (cloFrom X.env.cells scope.names [])) (s2.heap.push (emptyObj X.w)).objs.size X.env)) (compPost (model X.prog X.w) X.A X.xe none (EP X pins σ Q) (.ref s2.heap.objs.size) (s2.heap.push (emptyObj X.w)).objs.size)
    { s2 with heap := pushCells ((s2.heap.push (emptyObj X.w)).push { cls := .type "dict", data := .dict #[] }) scope.names }
  rw [hsz, hD]
  rw [← hs3] at g0
  simp only [hsz] at g0 ⊢
  exact g0
end
/-- over any walk -/
theorem bag_it {P : Program} {w : World} {J : It} {n : Nat} {G : Hp → Prop} {Y : Nat → Hp → V → Hp → Prop} (wk : L2.Walk J n G Y) {g : TG} {tt : TT} {te : TE} {vs : List Nat} {σ : L2.St} {H1 : Hp} {D : Addr} {Qd : Hp → Prop} (Pv : Nat → Hp → Prop)
    (h0 : Pv 0 (upd H1 D (BagO P w D []))) (hG : ∀ i H, i ≤ n → Pv i H → G H)
    (hs : ∀ i x H H', i < n → Pv i H → Y i H x H' → g x (wipe σ vs) H' fun σ2 H2 => wipe σ2 vs = wipe σ vs ∧ tt σ2 H2 fun b H3 => if b = true then put1 P w D te σ2 H3 (Pv (i + 1)) else Pv (i + 1) H3) (hd : ∀ H, Pv n H → Qd H) :
    ∃ W : Nat → Nat → Hp → Prop, (∃ m, W 0 m (upd H1 D (BagO P w D []))) ∧ ∀ i m H, W i m H → (J.stop i H ∧ Qd H) ∨ (J.go i H ∧ ∃ Nx : Hp → Prop, (∀ H', Nx H' → ∃ m', m' < m ∧ W (i + 1) m' H') ∧
      ∀ x H', J.yld i H x H' → g x (wipe σ vs) H' fun σ2 H2 => wipe σ2 vs = wipe σ vs ∧ tt σ2 H2 fun b H3 => if b = true then put1 P w D te σ2 H3 Nx else Nx H3) := by
  refine ⟨fun i m H => i + m = n ∧ Pv i H, ⟨n, Nat.zero_add _, h0⟩, fun i m H ⟨e, p⟩ => ?_⟩
  have c := hG i H (by omega) p
  cases m with
  | zero =>
    obtain rfl : i = n := e
    exact .inl ⟨wk.stops H c, hd H p⟩
  | succ m => exact .inr ⟨wk.goes i H (by omega) c, Pv (i + 1), fun H' p' => ⟨m, Nat.lt_succ_self m, by omega, p'⟩, fun x H' y => hs i x H H' (by omega) p (wk.yields i H x H' (by omega) c y)⟩
end Bag


/-! sorted(rows), rows a list or a tuple of (text, int, int) -/
namespace Rng
open PySem PySem.Spec PyProof.Rows L2 SrtO
def ltR (p q : Row) : Bool := if p.1 = q.1 then (if p.2.1 = q.2.1 then decide (p.2.2 < q.2.2) else decide (p.2.1 < q.2.1)) else decide (p.1.cps.toList < q.1.cps.toList)
theorem txt_ne {x y : Str} (h : x ≠ y) : x.cps.toList < y.cps.toList ∨ y.cps.toList < x.cps.toList := by
  by_cases c : x.cps.toList < y.cps.toList
  · exact .inl c
  · by_cases d : y.cps.toList < x.cps.toList
    · exact .inr d
    · exact absurd (str_ext (List.le_antisymm (List.not_lt.mp d) (List.not_lt.mp c))) h
theorem ltR_asym {p q : Row} (h : ltR p q = true) : ltR q p = false := by
  unfold ltR at h ⊢
  by_cases a : p.1 = q.1
  · rw [if_pos a] at h
    rw [if_pos a.symm]
    by_cases b : p.2.1 = q.2.1
    · rw [if_pos b, decide_eq_true_eq] at h
      rw [if_pos b.symm, decide_eq_false_iff_not]
      omega
    · rw [if_neg b, decide_eq_true_eq] at h
      rw [if_neg (Ne.symm b), decide_eq_false_iff_not]
      omega
  · rw [if_neg a, decide_eq_true_eq] at h
    rw [if_neg (Ne.symm a), decide_eq_false_iff_not]
    exact List.lt_asymm h
theorem ltR_eq {p q : Row} (h1 : ltR p q = false) (h2 : ltR q p = false) : p = q := by
  unfold ltR at h1 h2
  by_cases a : p.1 = q.1
  · rw [if_pos a] at h1
    rw [if_pos a.symm] at h2
    by_cases b : p.2.1 = q.2.1
    · rw [if_pos b, decide_eq_false_iff_not] at h1
      rw [if_pos b.symm, decide_eq_false_iff_not] at h2
      obtain ⟨x, y, z⟩ := p
      obtain ⟨x', y', z'⟩ := q
      have : z = z' := by
        show z = z'
        have e1 : ¬ z < z' := h1
        have e2 : ¬ z' < z := h2
        omega
      have a' : x = x' := a
      have b' : y = y' := b
      rw [a', b', this]
    · rw [if_neg b, decide_eq_false_iff_not] at h1
      rw [if_neg (Ne.symm b), decide_eq_false_iff_not] at h2
      omega
  · rw [if_neg a, decide_eq_false_iff_not] at h1
    rw [if_neg (Ne.symm a), decide_eq_false_iff_not] at h2
    exact ((txt_ne a).elim h1 h2).elim
theorem ltR_no {p q : Row} : ltR q p = false ↔ (p.1.cps.toList < q.1.cps.toList ∨ (p.1 = q.1 ∧ (p.2.1 < q.2.1 ∨ (p.2.1 = q.2.1 ∧ p.2.2 ≤ q.2.2)))) := by
  unfold ltR
  by_cases a : q.1 = p.1
  · rw [if_pos a]
    have irr : ¬ p.1.cps.toList < q.1.cps.toList := by rw [a]; exact List.lt_irrefl _
    by_cases b : q.2.1 = p.2.1
    · rw [if_pos b, decide_eq_false_iff_not]
      constructor
      · exact fun h => .inr ⟨a.symm, .inr ⟨b.symm, by omega⟩⟩
      · rintro (h | ⟨_, h | ⟨_, h⟩⟩)
        · exact absurd h irr
        · omega
        · omega
    · rw [if_neg b, decide_eq_false_iff_not]
      constructor
      · exact fun h => .inr ⟨a.symm, .inl (by omega)⟩
      · rintro (h | ⟨_, h | ⟨h, _⟩⟩)
        · exact absurd h irr
        · omega
        · exact absurd h.symm b
  · rw [if_neg a, decide_eq_false_iff_not]
    constructor
    · exact fun h => .inl ((txt_ne a).resolve_left h)
    · rintro (h | ⟨h, _⟩)
      · exact List.lt_asymm h
      · exact absurd h.symm a
theorem ltR_tr {p q r : Row} (h1 : ltR q p = false) (h2 : ltR r q = false) : ltR r p = false := by
  rw [ltR_no] at h1 h2 ⊢
  rcases h1 with h1 | ⟨a1, h1⟩
  · rcases h2 with h2 | ⟨a2, _⟩
    · exact .inl (List.lt_trans h1 h2)
    · exact .inl (a2 ▸ h1)
  · rcases h2 with h2 | ⟨a2, h2⟩
    · exact .inl (a1 ▸ h2)
    · exact .inr ⟨a1.trans a2, by omega⟩
theorem swoR {α : Type} (k : α → Row) : Swo fun v u => ltR (k v) (k u) := ⟨fun _ _ h => ltR_asym h, fun _ _ _ h1 h2 => ltR_tr h1 h2⟩
/-- sorted rows are the only ones of their kind -/
theorem sorted_one : ∀ {as bs : List Row}, as.Perm bs → as.Pairwise (fun p q => ltR q p = false) → bs.Pairwise (fun p q => ltR q p = false) → as = bs
  | [], bs, h, _, _ => (List.nil_perm.mp h).symm
  | a :: as, [], h, _, _ => absurd h.length_eq (by simp)
  | a :: as, b :: bs, h, ha, hb => by
    obtain ⟨a1, a2⟩ := List.pairwise_cons.mp ha
    obtain ⟨b1, b2⟩ := List.pairwise_cons.mp hb
    have e : a = b := by
      have m1 : a ∈ b :: bs := h.mem_iff.mp List.mem_cons_self
      have m2 : b ∈ a :: as := h.mem_iff.mpr List.mem_cons_self
      rcases List.mem_cons.mp m1 with e | m1
      · exact e
      · rcases List.mem_cons.mp m2 with e | m2
        · exact e.symm
        · exact ltR_eq (b1 a m1) (a1 b m2)
    subst e
    rw [sorted_one h.cons_inv a2 b2]
/-! ### at the library's level -/
def IsRow (h : Heap) (v : Value) (r : Row) : Prop := ∃ a o t u x n, v = .ref a ∧ h.get? a = some o ∧ o.cls = .type "tuple" ∧ o.data = .seq #[.str r.1 t, .int r.2.1 u, .int r.2.2 x] n
theorem IsRow.keeps {h h' : Heap} {v : Value} {r : Row} (p : IsRow h v r) (k : ∀ b o, h.get? b = some o → o.cls = .type "tuple" → h'.get? b = some o) : IsRow h' v r := by
  obtain ⟨a, o, t, u, x, n, e, ho, hc, hd⟩ := p
  exact ⟨a, o, t, u, x, n, e, k _ _ ho hc, hc, hd⟩
section
variable {prog : Program} {w : World} {A : Around} {E : Value → Shared → Prop} {s : Shared}
theorem row_cmp {vs : List Value} {k : Value → Row} (hp : ∀ v ∈ vs, IsRow s.heap v (k v)) : SrtO.Cmp prog w A s (tuples' true) (fun p => p.1 ∈ vs) (lt2 fun v u => ltR (k v) (k u)) := by
  intro p q hm hm'
  have h1 := hp _ hm
  have h2 := hp _ hm'
  show wpAny (model prog w) A (keyLt' (tuples' true) p.1 q.1) (fun r s' => s' = s ∧ r = ltR (k p.1) (k q.1)) (fun _ _ => False) s
  unfold ltR
  generalize k p.1 = r at h1 ⊢
  generalize k q.1 = r' at h2 ⊢
  obtain ⟨x, y, z⟩ := r
  obtain ⟨x', y', z'⟩ := r'
  obtain ⟨a, o, t, u, m, n, e, ho, hc, hd⟩ := h1
  obtain ⟨a', o', t', u', m', n', e', ho', hc', hd'⟩ := h2
  rw [e, e']
  refine PySem.W.kat_lt ho hd ho' hd' ?_
  show PySem.W.KatLex prog w A true (decide (3 < 3)) _ [(.str x t, .str x' t'), (.int y u, .int y' u'), (.int z m, .int z' m')] 0 s
  refine PySem.W.kat_cons (SeqAt.EqAt.str_str x t x' t' prog w _ _ ?_)
  refine PySem.W.kat_go (fun e1 => ?_) (fun e1 => ?_)
  · have ex : x = x' := by simpa using e1
    refine PySem.W.kat_yes (PySem.W.kat_cons (SeqAt.EqAt.int_int y u y' u' prog w _ _ ?_))
    refine PySem.W.kat_go (fun e2 => ?_) (fun e2 => ?_)
    · have ey : y = y' := by simpa using e2
      refine PySem.W.kat_yes (PySem.W.kat_cons (SeqAt.EqAt.int_int z m z' m' prog w _ _ ?_))
      refine PySem.W.kat_go (fun e3 => ?_) (fun e3 => ?_)
      · have ez : z = z' := by simpa using e3
        refine PySem.W.kat_yes (PySem.W.kat_nil ⟨rfl, ?_⟩)
        show decide (3 < 3) = _
        rw [if_pos ex, if_pos ey, ez]
        simp
      · refine PySem.W.kat_no (PySem.W.kat_one _ _ (PyProof.Rows.lt_int ?_))
        refine (show s = s ∧ decide (z < z') = _ from ⟨rfl, ?_⟩)
        rw [if_pos ex, if_pos ey]
    · have ey : ¬ y = y' := by simpa using e2
      refine PySem.W.kat_no (PySem.W.kat_one _ _ (PyProof.Rows.lt_int ?_))
      refine (show s = s ∧ decide (y < y') = _ from ⟨rfl, ?_⟩)
      rw [if_pos ex, if_neg ey]
  · have ex : ¬ x = x' := by simpa using e1
    refine PySem.W.kat_no (oneLt_str ?_)
    refine ⟨rfl, ?_⟩
    rw [if_neg ex]
theorem row_firsts {h : Heap} : ∀ {vs : List Value}, (∀ v ∈ vs, ∃ r, IsRow h v r) → ∃ fs : List Value, PySem.W.KatTups h vs fs ∧ fs.length = vs.length ∧ ∀ f ∈ fs, ∃ x t, f = Value.str x t
  | [], _ => ⟨[], PySem.W.KatTups.nil, rfl, fun _ hm => (nomatch hm)⟩
  | v :: vs, hp => by
    obtain ⟨fs, h1, h2, h3⟩ := row_firsts (vs := vs) fun u hm => hp u (List.mem_cons_of_mem _ hm)
    obtain ⟨r, a, o, t, u, x, n, rfl, ho, hc, hd⟩ := hp v List.mem_cons_self
    exact ⟨.str r.1 t :: fs, PySem.W.KatTups.cons ho hc hd rfl h1, by rw [List.length_cons, List.length_cons, h2], fun f hm => (List.mem_cons.mp hm).elim (fun e => ⟨_, _, e⟩) (h3 f)⟩
theorem rows_sortable {a : Addr} {vs : List Value} {k : Value → Row} (h0 : 0 < vs.length) (hp : ∀ v ∈ vs, IsRow s.heap v (k v)) (ha : ∀ o, s.heap.get? a = some o → o.cls ≠ .type "tuple") : SortableO prog w A s a vs fun v u => ltR (k v) (k u) := by
  intro h' keep
  have hp' : ∀ v ∈ vs, IsRow h' v (k v) := fun v hm => (hp v hm).keeps fun b o e c => keep b o (fun z => ha o (z ▸ e) c) e
  obtain ⟨fs, h1, h2, h3⟩ := row_firsts fun v hm => ⟨_, hp' v hm⟩
  refine ⟨tuples' true, fun Q E hq => ?_, row_cmp hp'⟩
  refine PySem.W.kat_kind (T := .type "str") h1 (by omega) (fun f hm => ?_) (by rfl) ?_
  · obtain ⟨x, t, rfl⟩ := h3 f hm
    exact PySem.W.Looks.now
  · have e : (Value.type "str" != Value.type "tuple") = true := by first | decide +kernel | rfl | decide
    rw [e]
    exact hq
/-- a list or tuple gathered: a new list behind all that stands -/
theorem gather {l : Addr} {T : String} {o : Obj} {us : Array Value} {n : Nat} {Q : List Value → Shared → Prop} (hT : T = "list" ∨ T = "tuple") (ho : s.heap.get? l = some o) (hc : o.cls = .type T) (hd : o.data = .seq us n) (hz : us.size ≤ sizeLine)
    (h : ∀ h', (∀ b u, s.heap.get? b = some u → h'.get? b = some u) → s.heap.objs.size ≤ h'.objs.size → Q us.toList { s with heap := h' }) : wpAny (model prog w) A (collect (.ref l)) Q E s := by
  unfold collect
  refine wpAny_bind (wpAny_runValue (codeAny_builtin PySem.F.entry_proto_collect ?_))
  rw [Around.under_plainId PySem.F.plain_proto_collect _]
  show wpAny _ A.in1 (newList [] >>= fun z => again (.builtin "list.__iadd__" ⟨[z, .ref l], []⟩)) _ _ s
  refine wpAny_bind (wpAny_newObj_type (wpAny_pure ⟨plainId_quiet PySem.F.plain_list_iadd _, codeAny_builtin PySem.F.entry_list_iadd ?_⟩))
  rw [Around.under_plainId PySem.F.plain_list_iadd _]
  obtain ⟨h1, e1⟩ : ∃ h1, s.heap.push { cls := .type "list", data := .seq ([] : List Value).toArray } = h1 := ⟨_, rfl⟩
  have new : h1.get? s.heap.objs.size = some { cls := .type "list", data := .seq #[] 0 } := by rw [← e1]; exact Heap.get?_push_size _ rfl
  have k1 : ∀ b u, s.heap.get? b = some u → h1.get? b = some u := fun b u e => by rw [← e1]; exact Heap.get?_push_of_some _ e
  have z1 : h1.objs.size = s.heap.objs.size + 1 := by rw [← e1]; exact size_push' _ _
  show wpAny _ A.in1 (Builtin.List.listExtendWith (.ref s.heap.objs.size) (.ref l) (.ref s.heap.objs.size)) _ _ _
  rw [e1]
  have fin : wpAny (model prog w) A (match Value.ref s.heap.objs.size with
      | Value.ref a => do
        match (← load a).data with
          | Data.seq xs _ => pure xs.toList
          | _ => unsupported "internal:collect"
      | _ => unsupported "internal:collect") Q E { s with heap := h1.update s.heap.objs.size (Obj.mapSeq (· ++ us)) } := by
    show wpAny _ A (load s.heap.objs.size >>= _) _ _ _
    refine wpAny_bind (wpAny_load (Heap.get?_update_self (Obj.mapSeq (· ++ us)) new rfl) (wpAny_pure ?_))
    show Q ((#[] : Array Value) ++ us).toList _
    rw [show ((#[] : Array Value) ++ us).toList = us.toList by simp]
    exact h _ (fun b u e => (Heap.get?_update_other _ _ (Nat.ne_of_gt (Heap.lt_size e))).trans (k1 b u e)) (by rw [Heap.size_update, z1]; exact Nat.le_succ _)
  refine wpAny_mono (wpAny_extend_seq (hsz := hz) (A := A) (R := fun r z => r = .ok (.ret (.ref s.heap.objs.size)) ∧ z = { s with heap := h1.update s.heap.objs.size (Obj.mapSeq (· ++ us)) }) (s := { s with heap := h1 }) _ l _ 0 hT new (k1 _ _ ho) hc hd ⟨rfl, rfl⟩) (fun f z hz => ?_) fun e z hz => absurd hz.1 (by simp)
  cases f with
  | done f =>
    obtain ⟨e, rfl⟩ := hz
    cases e
    exact fin
  | again c => exact ⟨hz.1, codeAny_mono hz.2 fun r y hr => by obtain ⟨rfl, rfl⟩ := hr; exact fin⟩
/-- sorted of a list or tuple of rows -/
theorem sorted_rows {l : Addr} {T : String} {o : Obj} {vs : List Value} {n : Nat} {k : Value → Row} {Q : Value → Shared → Prop} (hT : T = "list" ∨ T = "tuple") (ho : s.heap.get? l = some o) (hc : o.cls = .type T) (hd : o.data = .seq vs.toArray n) (hz : vs.length ≤ sizeLine) (hp : ∀ v ∈ vs, IsRow s.heap v (k v))
    (h : ∀ (h' : Heap) (d : Addr) (out : List Value), Srtd (fun v u => ltR (k v) (k u)) out → out.Perm vs → (∀ b o, s.heap.get? b = some o → h'.get? b = some o) → s.heap.objs.size ≤ d → (∃ c, h'.get? d = some (seqObj "list" out.toArray c)) → Q (.ref d) { s with heap := h' }) :
    wpAny (model prog w) A (call (.builtin "sorted") [.ref l]) Q E s := by
  refine Calls.call_function_entry kind_sorted plain_sorted entry_sorted (args_sorted1 _) ?_
  unfold Builtin.«sorted»
  refine wpAny_bind (m := checkCount "sorted" 1 1 _) (wpAny_pure ?_)
  refine wpAny_bind (gather hT ho hc hd (by rw [List.size_toArray]; exact hz) fun h1 k1 sz => ?_)
  rw [List.toList_toArray]
  refine wpAny_bind (wpAny_newList ?_ hz)
  have ol : (h1.push (seqObj "list" vs.toArray 0)).get? h1.objs.size = some (seqObj "list" vs.toArray 0) := Heap.get?_push_size _ rfl
  refine wpAny_bind (wpAny_holding (wpAny_call_entry slot_list_sort ⟨_, ol, rfl⟩ entry_list_sort (list_sort_ord (swoR k) ol hz (fun h2 => ?_) fun out hs hb => ⟨_, rfl, ?_⟩) (args_list_sort _)))
  · refine rows_sortable (s := { s with heap := h1.push (seqObj "list" vs.toArray 0) }) (by omega) (fun v hm => (hp v hm).keeps fun b o e _ => Heap.get?_push_of_some _ (k1 b o e)) fun o e c => ?_
    have e' : some o = some (seqObj "list" vs.toArray 0) := e.symm.trans ol
    cases e'
    exact absurd (Value.type.inj c) (by decide)
  · refine wpAny_pure ⟨_, rfl, h _ _ out hs hb.perm (fun b u e => ?_) sz (sortedHeap_at ol)⟩
    have lt := Heap.lt_size (k1 b u e)
    show (sortedHeap (h1.push (seqObj "list" vs.toArray 0)) h1.objs.size vs _).get? b = some u
    rw [sortedHeap_old (Nat.ne_of_lt lt) (by rw [size_push']; exact Nat.lt_succ_of_lt lt)]
    exact Heap.get?_push_of_some _ (k1 b u e)
end
/-! ### the rule -/
def rowAtV (H : Hp) : V → Row
  | .ref p => match H p with
    | some (.tup [.str z, .int t, .int a]) => (z, t, a)
    | _ => (Str.empty, 0, 0)
  | _ => (Str.empty, 0, 0)
theorem rowAtV_is {H : Hp} {p : Addr} {r : Row} (e : H p = some (.tup (rowV r))) : rowAtV H (.ref p) = r := by
  show (match H p with | some (.tup [.str z, .int t, .int a]) => (z, t, a) | _ => (Str.empty, 0, 0)) = r
  rw [e]
  rfl
theorem tups_rows {H : Hp} {vs : List V} {rs : List Row} (h : TupsAt rowV H vs rs) : rs = vs.map (rowAtV H) := by
  induction h with
  | nil => rfl
  | cons e _ ih => rw [List.map_cons, rowAtV_is e, ← ih]
theorem tups_refs {H : Hp} {vs : List V} {rs : List Row} (h : TupsAt rowV H vs rs) : ∀ v ∈ vs, ∃ t, v = V.ref t := by
  induction h with
  | nil => exact fun v z => (nomatch z)
  | cons e _ ih => exact fun v z => (List.mem_cons.mp z).elim (fun e => ⟨_, e⟩) (ih v)
def rSortRows (K : PySem.W.Frag) : List V → Hp → VK → Prop := fun vs H Q => ∃ (a : Addr) (xs : List V) (rs : List Row), vs = [V.ref a] ∧ (SqL K H a xs ∨ SqT K H a xs) ∧ TupsAt rowV H xs rs ∧
  ∀ (ys : List V) (ss : List Row) (p : Addr), ss.Perm rs → ss.Pairwise (fun q r => ltR r q = false) → TupsAt rowV H ys ss → H p = none → Q (.ref p) (upd H p (.lst ys))
section
variable {X : Cx}
theorem cr_sortRows : CallR X (.builtin "sorted") (rSortRows X.K) := by
  intro pins s σ H vs us Q I r h
  obtain ⟨a, xs, rs, rfl, hs, ht, q⟩ := h
  rw [Vals.ref1 r]
  have got : ∃ (T : String) (o : Obj) (its : List Value) (n : Nat), (T = "list" ∨ T = "tuple") ∧ s.heap.get? a = some o ∧ o.cls = .type T ∧ o.data = .seq its.toArray n ∧ Vals xs its ∧ its.length ≤ sizeLine := by
    rcases hs with hs | hs
    · obtain ⟨its, rv, pl, hz⟩ := I.list hs
      obtain ⟨o, ho, hc, n, hd⟩ := pl.isList
      exact ⟨_, o, its, n, .inl rfl, ho, hc, hd, rv, by rw [← rv.length]; exact hz⟩
    · obtain ⟨its, rv, ⟨o, ho, hc, n, hd⟩, hz⟩ := I.tuple hs
      exact ⟨_, o, its, n, .inr rfl, ho, hc, hd, rv, by rw [← rv.length]; exact hz⟩
  obtain ⟨T, o, its, n, hT, ho, hc, hd, rv, hz⟩ := got
  obtain ⟨e1, e2⟩ := refs_back rv (tups_refs ht)
  have row : ∀ v ∈ its, IsRow s.heap v (rowAtV H (backV v)) := fun v hv => by
    obtain ⟨t, rfl⟩ := e2 v hv
    have hm : V.ref t ∈ xs := by rw [e1]; exact List.mem_map.mpr ⟨_, hv, rfl⟩
    obtain ⟨i, hi⟩ := List.getElem?_of_mem hm
    obtain ⟨r, q, _, eq, hq⟩ := ht.get hi
    cases eq
    obtain ⟨_, its2, r2, o2, ho2, hc2, n2, hd2⟩ := I.hok _ _ hq
    have hk : rowAtV H (backV (.ref t)) = r := rowAtV_is hq
    rw [hk]
    cases r2 with
    | cons r1 r2 =>
      cases r2 with
      | cons r2 r3 =>
        cases r3 with
        | cons r3 r4 =>
          cases r4
          obtain ⟨t1, rfl⟩ := r1
          obtain ⟨t2, rfl⟩ := r2
          obtain ⟨t3, rfl⟩ := r3
          exact ⟨t, o2, t1, t2, t3, n2, rfl, ho2, hc2, hd2⟩
  refine sorted_rows hT ho hc hd hz row fun h' d out so pm kp hd' hn => ?_
  have h3 : ∀ u ∈ out, ∃ a, u = Value.ref a := fun u hu => e2 u (pm.mem_iff.mp hu)
  obtain ⟨c, hn⟩ := hn
  have pv : (out.map backV).Perm xs := by
    rw [e1]
    exact pm.map backV
  obtain ⟨ss, ps, ts⟩ := ht.perm pv
  refine ⟨.ref d, upd H d (.lst (out.map backV)), I.laid (t' := s.toks) kp hd' ⟨?_, out, c, vals_back h3, hn⟩, rfl, q _ ss d ps ?_ ts (I.hok.fresh hd')⟩
  · rw [List.length_map, pm.length_eq]
    exact hz
  · rw [tups_rows ts, List.map_map]
    exact List.pairwise_map.mpr so
end
end Rng


/-! for i, x in enumerate(t), t a tuple -/
namespace En1
open PySem PySem.Spec PyProof.Rows L2
open Sem (wp)
open AutoSeq1 (wpAny_loadPart')
theorem meets_new (l : Addr) (us : Array Value) (n : Nat) (dct : Option Addr) (sl : Array (Option Value)) :
    Meets (Builtin.«enumerate.__new__» ⟨[.type "enumerate", .ref l], []⟩) (fun _ R s => s.heap.get? l = some { cls := .type "tuple", dict := dct, data := .seq us n, slots := sl } ∧
      R (.ok (.ret (.ref (s.heap.push { cls := .type "tuple_iterator", data := .fields #[.ref l, .int 0 0] }).objs.size)))
        { s with heap := (s.heap.push { cls := .type "tuple_iterator", data := .fields #[.ref l, .int 0 0] }).push { cls := .type "enumerate", data := .fields #[.none, .bool false, .ref s.heap.objs.size, rawInt 0, .none, .none] } }) :=
  .of_wp fun prog w A R s h => by
    obtain ⟨hp, g, d, tk, os⟩ := s
    obtain ⟨hl, h⟩ := h
    have hsub := sub_enumerate
    have hL : Heap.IsTuple (Shared.heap ⟨hp, g, d, tk, os⟩) l us := ⟨_, hl, rfl, n, rfl⟩
    wp_walk using wpAny_loadPart' hl
    refine wpAny_stack_any fun st => wpAny_pure ?_
    split
    · rename_i c _ _ _ _ _
      cases (c == Value.type "enumerate")
      · wp_walk using wpAny_loadPart' hl, wpAny_pyIter_tuple hL
        exact ⟨_, rfl, h⟩
      · wp_walk using wpAny_loadPart' hl, wpAny_pyIter_tuple hL
        exact ⟨_, rfl, h⟩
    · wp_walk using wpAny_loadPart' hl, wpAny_pyIter_tuple hL
      exact ⟨_, rfl, h⟩
section
variable {prog : Program} {w : World} {A : Around} {E : Value → Shared → Prop} {s : Shared}
theorem call_enum {l : Addr} {us : Array Value} {Q : Value → Shared → Prop} (hL : s.heap.IsTuple l us)
    (h : ∀ h', IsEnum h' (s.heap.objs.size + 1) s.heap.objs.size 0 .none → h'.IsTupleIter s.heap.objs.size l 0 → (∀ b o, s.heap.get? b = some o → h'.get? b = some o) → Q (.ref (s.heap.objs.size + 1)) { s with heap := h' }) :
    wpAny (model prog w) A (call (.type "enumerate") [.ref l]) Q E s := by
  obtain ⟨⟨c, dct, dt, sl⟩, hl, hc, n, hd⟩ := hL
  obtain rfl : c = .type "tuple" := hc
  obtain rfl : dt = .seq us n := hd
  refine callType_new PySem.F.called_enumerate (by decide) (PySem.F.typeCall_enumerate_1 _) (PySem.F.newCall_enumerate_1 _) (fun obj => PySem.F.args_object_init_2 obj _) PySem.F.entry_enumerate_new (meets_new l us n dct sl) ⟨hl, ?_⟩
  have hz : (s.heap.push { cls := .type "tuple_iterator", data := .fields #[.ref l, .int 0 0] }).objs.size = s.heap.objs.size + 1 := Heap.size_push ..
  show _ ∧ _
  rw [hz]
  have he : IsEnum ((s.heap.push { cls := .type "tuple_iterator", data := .fields #[.ref l, .int 0 0] }).push { cls := .type "enumerate", data := .fields #[.none, .bool false, .ref s.heap.objs.size, rawInt 0, .none, .none] }) (s.heap.objs.size + 1) s.heap.objs.size 0 .none := by
    have q := Heap.get?_push_size (s.heap.push { cls := .type "tuple_iterator", data := .fields #[.ref l, .int 0 0] }) (o := { cls := .type "enumerate", data := .fields #[.none, .bool false, .ref s.heap.objs.size, rawInt 0, .none, .none] }) rfl
    rw [hz] at q
    exact q
  exact ⟨⟨_, he, rfl⟩, h _ he ⟨_, Heap.get?_push_of_some _ (Heap.get?_push_size _ rfl), rfl, rfl⟩ fun b o x => Heap.get?_push_of_some _ (Heap.get?_push_of_some _ x)⟩
end
/-- the turns: a new pair of the number and the item -/
def Itn (K : PySem.W.Frag) (a : Addr) : It :=
  ⟨fun i H => ∃ (xs : List V) (x : V), SqT K H a xs ∧ xs[i]? = some x, fun i H v H' => ∃ T x, v = .ref T ∧ H T = none ∧ H' = upd H T (.tup [.int (i : Nat), x]) ∧ ∀ xs, SqT K H a xs → xs[i]? = some x, fun i H => ∃ xs : List V, SqT K H a xs ∧ xs.length ≤ i⟩
theorem turn_enumT {P : Program} {w : World} {K : PySem.W.Frag} {elts : List Expr} {kk : Nat} {tpos : Pos} (a e it : Addr) :
    Turn P w K (.Tuple elts kk tpos) (Itn K a) [e, it] e (fun i h => (∃ old, IsEnum h e it ((i : Nat) : Int) old) ∧ h.IsTupleIter it a i ∧ e ≠ it) where
  mem := by simp
  obj := fun i h st b hb => by
    obtain ⟨⟨old, he⟩, ⟨o, ho, hc, hd⟩, _⟩ := st
    rcases (show b = e ∨ b = it by simpa using hb) with rfl | rfl
    · exact ⟨_, he, fun v q => nomatch q⟩
    · exact ⟨o, ho, fun v q => by rw [hd] at q; cases q⟩
  keep := fun i h h' st k => let ⟨⟨old, he⟩, hi, hne⟩ := st; ⟨⟨old, k e (by simp) _ he⟩, hi.at fun o q => k it (by simp) o q, hne⟩
  item := by
    intro X hP hw hK hc i pins s σ H E I hf st hg
    subst hP hw hK
    obtain ⟨⟨old, he⟩, hit, hne⟩ := st
    obtain ⟨xs, x, hq, hx⟩ := hg
    obtain ⟨its, rv, p, hz⟩ := I.tuple hq
    obtain ⟨u, hu, ru⟩ := rv.get hx
    have hel : e < s.heap.objs.size := Heap.lt_size he
    have hil : it < s.heap.objs.size := by obtain ⟨_, q, _⟩ := hit; exact Heap.lt_size q
    have tp : s.heap.IsTuple a its.toArray := p
    obtain ⟨oa, ha, hca, _⟩ := tp
    have nea : e ≠ a := fun z => by
      rw [← z, he] at ha
      cases ha
      exact absurd (Value.type.inj hca) (by decide)
    have nia : a ≠ it := fun z => by
      obtain ⟨oi, hi, hci, _⟩ := hit
      rw [← z, ha] at hi
      cases hi
      rw [hca] at hci
      exact absurd (Value.type.inj hci) (by decide)
    have lt : i < its.toArray.size := by simpa using (List.getElem?_eq_some_iff.mp hu).1
    refine wpAny_pyNext_enum_itemD (Draws.tuple (A := X.A.in1) (I.ok.hd hc) it a nia its.toArray) he ⟨hit, p⟩ lt hne (by simp [hne, nea]) fun y h' tk hy ho hit' hT hsz hk => ?_
    have hy' : its[i]? = some y := by simpa using hy
    rw [hu] at hy'
    obtain rfl := Option.some.inj hy'
    refine ⟨_, rfl, wpAny_letOwnedTupleGo_enum (s := { s with heap := h', toks := tk + 1 }) ho fun h'' he' sb => ?_⟩
    have hT2 : h''.get? s.heap.objs.size = some { cls := .type "tuple", data := .seq #[.int i tk, u] } := (sb.2 _ (Nat.ne_of_gt hel)).trans hT
    have new : ObjOk X.prog X.w (upd H s.heap.objs.size (.tup [.int (i : Nat), x])) h'' s.heap.objs.size (.tup [.int (i : Nat), x]) := ⟨by show 2 ≤ sizeLine; decide, [.int i tk, u], .cons ⟨_, rfl⟩ (.cons ru .nil), ⟨_, hT2, rfl, _, rfl⟩⟩
    have I1 : Inv X pins σ (upd H s.heap.objs.size (.tup [.int (i : Nat), x])) { s with heap := h'', toks := tk + 1 } :=
      I.turnedNew (ch := [e, it]) (fun b ob hb q => (sb.2 b (fun z => hb (by simp [z]))).trans (hk b ob (fun z => hb (by simp [z])) (fun z => hb (by simp [z])) q)) hf (Nat.le_refl _) new
    refine ⟨.ref s.heap.objs.size, _, I1, rfl, ⟨_, x, rfl, I.hok.fresh (Nat.le_refl _), rfl, fun ys hy => by rw [I.tuple_inj hy hq]; exact hx⟩, ⟨⟨u, ?_⟩, hit'.1.at fun o q => (sb.2 it (Ne.symm hne)).trans q, hne⟩, fun b hb => ?_⟩
    · rw [show ((i + 1 : Nat) : Int) = (i : Int) + 1 by omega]
      exact he'
    · have hb' : b < s.heap.objs.size := by
        rcases (show b = e ∨ b = it by simpa using hb) with rfl | rfl
        · exact hel
        · exact hil
      rw [upd_ne (Nat.ne_of_lt hb')]
      exact (hf b hb).1
  done := by
    intro X hP hw hK hc i pins s σ H E I hf st hg
    subst hP hw hK
    obtain ⟨⟨old, he⟩, hit, hne⟩ := st
    obtain ⟨xs, hq, hx⟩ := hg
    obtain ⟨its, rv, p, hz⟩ := I.tuple hq
    obtain ⟨f0, f1, f2, f3, f4, f5⟩ := hf it (by simp)
    have hl := rv.length
    unfold pyNext
    have hT : s.TypeIs (.ref e) "enumerate" := ⟨_, he, rfl⟩
    refine wpAny_bind (wpAny_attempt (wpAny_callSpecial?_slot (name := Str.ofString "__next__") hT PySem.F.slot_enumerate_next (wpAny_call_entry PySem.F.slot_enumerate_next hT PySem.F.entry_enumerate_next ?_ (PySem.F.args_enumerate_next_1 _))))
    show wpAny _ _ (field (.ref e) 2 >>= _) _ _ _
    refine wpAny_bind (wpAny_field he rfl (x := .ref it) rfl ?_)
    refine wpAny_bind (wpAny_nextOf_tuple_end (I.ok.hd hc) hit p (by simp; omega) fun h' x he' hx' => ?_)
    obtain ⟨o, ho, hc'⟩ := hx'
    refine wpAny_bind (wpAny_isInstance (T := "StopIteration") (b := true) ⟨o, ho, hc'⟩ isSubtype_stop (wpAny_pure ?_))
    exact ⟨rfl, I.turned (t' := s.toks) (fun b o hb q => he' b o hb q) f0 f1 f3 f4 f5⟩
  self := fun A i s Q E st h => let ⟨⟨_, he⟩, _⟩ := st; wpAny_pyIter_enum he h
def iEnumT (K : PySem.W.Frag) (ta : TA) : TI := fun σ H R => ta σ H fun vs H1 => ∃ a xs, vs = [.ref a] ∧ SqT K H1 a xs ∧ R (Itn K a) H1
theorem pi_enumT {X : Cx} {e : Expr} {ta : TA} {p pos tpos : Pos} {elts : List Expr} {kk : Nat} (hg : Gl X "enumerate") (hm : X.mg "enumerate" = none) (ha : PA X [e] ta) (hs : starEach [e] X.env = [(false, eval e X.env)] := by rfl) :
    PI X (.Tuple elts kk tpos) (.Call (.Name "enumerate" p) [e] [] pos) (iEnumT X.K ta) := by
  refine ⟨fun pins s σ H R I h => Call_ (ld_blt I hg hm boot_enumerate (PyProof.Rows.callWith_type1 (thn (ha.run pos pins s σ H _ I h) fun us s1 ⟨vs, H1, I1, r1, a, xs, ex, hq, q⟩ => ?_) hs rfl))⟩
  subst ex
  rw [Vals.ref1 r1]
  obtain ⟨its, rv, p', hz⟩ := I1.tuple hq
  refine call_enum p' fun h' he hit hk => wpAny_pyIter_enum he ?_
  refine ⟨s1.heap.objs.size + 1, [s1.heap.objs.size + 1, s1.heap.objs.size], _, _, H1, rfl, I1.kept (t' := s1.toks) hk, turn_enumT a (s1.heap.objs.size + 1) s1.heap.objs.size, ⟨⟨.none, he⟩, hit, Nat.succ_ne_self _⟩, fun b hb => ?_, q⟩
  have hle : s1.heap.objs.size ≤ b := by
    rcases (show b = s1.heap.objs.size + 1 ∨ b = s1.heap.objs.size by simpa using hb) with rfl | rfl
    · exact Nat.le_succ _
    · exact Nat.le_refl _
  exact I1.fpOk hle (I1.hok.fresh hle)
theorem walk_enumT {K : PySem.W.Frag} {a : Addr} {xs : List V} : Walk (Itn K a) xs.length (fun H => SqT K H a xs) (YPair (fun i => some (.int (i : Nat))) (fun i => xs[i]?)) := by
  refine ⟨fun i _ hi q => ⟨xs, xs[i], q, by simp [hi]⟩, fun _ q => ⟨xs, q, Nat.le_refl _⟩, fun i H v H' _ q y => ?_⟩
  obtain ⟨T, x, h1, h2, h3, h4⟩ := y
  exact ⟨T, .int (i : Nat), x, h1, h2, h3, rfl, h4 xs q⟩
end En1


/-! instances of an own class: x in o, len(o), bool(o), repr(o), o == y, o != y by the class's own defs -/
namespace Own1
open PySem PySem.Spec PyProof.Rows L2
section
variable {prog : Program} {w : World} {A : Around} {E : Value → Shared → Prop} {s : Shared} {K : PySem.W.Frag} {x C f : Addr} {ox : Obj} {od : Option Obj} {b tb : Value}
/-- len as it is run within a truth test -/
theorem len_code {Q : Value → Shared → Prop} (X : K.In s.heap) (I : PySem.W.InstAt s.heap x ox C od) (hs : PySem.W.findIn K (.ref C) "__len__" = some (some (.ref f))) (hf : PySem.W.isFn K (.ref f) = true)
    (h : wpAny (model prog w) A.in1 (call (.ref f) [.ref x]) (fun r z => ∃ (n : Nat) (t : Tok), r = .int n t ∧ (n : Int) < 2 ^ 62 ∧ ∀ u k, Q (.int n u) { z with toks := k }) E s) :
    codeAny (model prog w) A (.builtin "len" ⟨[.ref x], []⟩) (wants Q E) s := by
  refine codeAny_builtin entry_len ?_
  rw [Around.under_plainId plain_len _]
  unfold Builtin.«len»
  refine wpAny_bind (m := oneArg "len" _) (wpAny_pure ?_)
  refine wpAny_bind (m := callSpecial? (.ref x) (Str.ofString "__len__")) (PySem.W.special_fn X I hs (beq_iff_eq.mp hf) (wpAny_mono h (fun r z ⟨n, t, e, hn, q⟩ => ?_) fun _ _ y => y))
  subst e
  refine wpAny_bind (wpAny_holding (wpAny_pure (wpAny_bind (wpAny_letGo ?_))))
  show wpAny _ _ (if (n : Int) < 0 then _ else _) _ _ _
  rw [if_neg (by omega)]
  show wpAny _ _ (if (n : Int) ≥ 2 ^ 63 then _ else _) _ _ _
  rw [if_neg (by omega)]
  exact wpAny_bind (wpAny_mkInt (wpAny_pure (q _ _)))
/-- the truth of an instance that has a length alone -/
theorem truth_len {Q : Bool → Shared → Prop} (X : K.In s.heap) (I : PySem.W.InstAt s.heap x ox C od) (hb : PySem.W.findIn K (.ref C) "__bool__" = some none) (hs : PySem.W.findIn K (.ref C) "__len__" = some (some (.ref f))) (hf : PySem.W.isFn K (.ref f) = true)
    (h : wpAny (model prog w) A.in1 (call (.ref f) [.ref x]) (fun r z => ∃ (n : Nat) (t : Tok), r = .int n t ∧ (n : Int) < 2 ^ 62 ∧ ∀ k, Q ((n : Int) != 0) { z with toks := k }) E s) : wpAny (model prog w) A (truthy (.ref x)) Q E s := by
  unfold truthy
  refine wpAny_bind (m := callSpecial? (.ref x) (Str.ofString "__bool__")) (wpAny_bind (wpAny_bind (I.type.here ((PySem.W.looks_findIn X hb).here (wpAny_pure ?_)))))
  refine wpAny_bind (wpAny_bind (I.type.here ((PySem.W.looks_findIn X hs).here ?_)))
  show wpAny _ _ (if (some (Value.ref f)).isNone = true then _ else _) _ _ _
  rw [if_neg (by simp)]
  refine wpAny_bind (wpAny_runValue (len_code (Q := fun v z => wpAny (model prog w) A (match v with | .int n _ => pure (n != 0) | _ => unsupported "internal:truth.len") Q E z) X I hs hf (wpAny_mono h (fun r z ⟨n, t, e, hn, q⟩ => ⟨n, t, e, hn, fun u k => wpAny_pure (q k)⟩) fun _ _ y => y)))
/-- bool(o) -/
theorem bool_own {Q : Value → Shared → Prop} (X : K.In s.heap) (I : PySem.W.InstAt s.heap x ox C od) (hb : PySem.W.findIn K (.ref C) "__bool__" = some none) (hs : PySem.W.findIn K (.ref C) "__len__" = some (some (.ref f))) (hf : PySem.W.isFn K (.ref f) = true)
    (h : wpAny (model prog w) A.in1.in1.in1 (call (.ref f) [.ref x]) (fun r z => ∃ (n : Nat) (t : Tok), r = .int n t ∧ (n : Int) < 2 ^ 62 ∧ ∀ k, Q (.bool ((n : Int) != 0)) { z with toks := k }) E s) : wpAny (model prog w) A (call (.type "bool") [.ref x]) Q E s := by
  refine callType_codes (T := "bool") (Bi := Builtin.«object.__init__») (Q₁ := fun r z => ∃ b : Bool, r = .bool b ∧ Q r z) PySem.F.called_bool (PySem.F.typeCall_bool_1 _) PySem.F.entry_object_init ?_ ?_
  · refine codeAny_of_tree ?_
    show wpAny _ A.in1.in1 (do checkBuiltinCall "bool.__new__" ⟨[.type "bool", .ref x], []⟩; again (.builtin "bool.__new__" ⟨[.type "bool", .ref x], []⟩)) _ _ s
    refine wpAny_bind (wpAny_of_eq (PySem.F.newCall_bool_1 _) (wpAny_pure ⟨plainId_quiet (by decide +kernel) _, codeAny_builtin PySem.F.entry_bool_new ?_⟩))
    rw [Around.under_plainId (by decide +kernel) _]
    unfold Builtin.«bool.__new__»
    have f1 := PySem.F.conv_sub_bool
    refine wpAny_bind (wpAny_of_eq (a := true) (by rfl) ?_)
    refine PySem.W.KFB.if_not rfl ?_
    refine wpAny_bind (wpAny_of_eq (a := true) f1 ?_)
    refine PySem.W.KFB.if_not rfl ?_
    refine wpAny_bind (wpAny_of_eq (a := [Value.ref x]) (by rfl) ?_)
    refine wpAny_bind (truth_len X I hb hs hf (wpAny_mono h (fun r z ⟨n, t, e, hn, q⟩ => ⟨n, t, e, hn, fun k => ?_⟩) fun _ _ y => y))
    exact wpAny_pure ⟨_, rfl, q k⟩
  · rintro obj s₁ ⟨b, rfl, hq⟩
    exact ⟨PySem.typeIs_bool _ _, PySem.F.args_object_init_2 _ _, object_init_meets PySem.F.called_bool.init.lookup PySem.F.called_bool.made (by decide) prog w A.in1 _ s₁ ⟨PySem.typeIs_bool _ _, rfl, hq⟩⟩
/-- a special that is a built-in's -/
theorem bound_bltn {name : Str} {id : String} {args : List Value} {Q : Option Value → Shared → Prop} (X : K.In s.heap) (I : PySem.W.InstAt s.heap x ox C od) (hs : PySem.W.findIn K (.ref C) name = some (some (.builtin id))) (hb : ∀ self, bindSpecial (.builtin id) self = pure (.builtin id, [self]))
    (h : wpAny (model prog w) A (call (.builtin id) (.ref x :: args)) (fun v => Q (some v)) E s) : wpAny (model prog w) A (callSpecialIfBound? (.ref x) name args) Q E s := by
  simp only [callSpecialIfBound?, bindSpecialIfBound?]
  refine wpAny_holding (wpAny_bind (wpAny_bind (wpAny_bind (I.type.here ((PySem.W.looks_findIn X hs).here ?_)))))
  have fin : wpAny (model prog w) A (call (.builtin id) ([.ref x] ++ args) >>= fun v => pure (some v)) Q E s := wpAny_bind (wpAny_mono h (fun v z q => wpAny_pure q) fun _ _ q => q)
  refine wpAny_bind (wpAny_askSetting (wpAny_ite ?_))
  split
  · exact wpAny_bind ((PySem.W.Looks.of_pure (hb _)).here (wpAny_pure (by exact fin)))
  · exact wpAny_tryCatch (wpAny_bind ((PySem.W.Looks.of_pure (hb _)).here (wpAny_pure (by exact fin))))
/-- o != y where the class has == alone -/
theorem ne_own {Q : Value → Shared → Prop} (hu : A.units + 1 < cLine) (X : K.In s.heap) (I : PySem.W.InstAt s.heap x ox C od) (hb : PySem.W.Looks (model prog w) s.heap (typeOf b) tb) (hn : PySem.W.notFirst K C tb = true)
    (hne : PySem.W.findIn K (.ref C) "__ne__" = some (some (.builtin "object.__ne__"))) (hs : PySem.W.findIn K (.ref C) "__eq__" = some (some (.ref f))) (hf : PySem.W.isFn K (.ref f) = true) (hm : PySem.W.mroIn K C (.type "object") = some true)
    (h : wpAny (model prog w) A.in1 (call (.ref f) [.ref x, b]) (fun r z => ∃ k : Bool, r = .bool k ∧ ∀ t, Q (.bool (!k)) { z with toks := t }) E s) : wpAny (model prog w) A (richCompare .NotEq (.ref x) b) Q E s := by
  have one : wpAny (model prog w) A (tryCompare (.ref x) "__ne__" b) (fun r z => ∃ v, r = some v ∧ Q v z) E s := by
    unfold tryCompare
    refine wpAny_bind (bound_bltn X I hne PySem.F.slot_object_ne.bind (wpAny_call (codeAny_call_builtin PySem.F.slot_object_ne.plain PySem.F.cmpEntry_ne (PySem.W.check_slot (i := "object.__ne__") (owner := "object") (n := "__ne__") (by decide +kernel) (by decide +kernel) (I.type.andThen (PySem.W.looks_mroIn X hm)) (PySem.F.cmpArgs_ne _ _) ?_))))
    unfold Builtin.«object.__ne__»
    refine wpAny_bind (m := slotArgs "__ne__" 1 _) (wpAny_pure ?_)
    refine wpAny_bind (m := cRoomFor _ _) (wpAny_cRoomFor hu ?_)
    refine wpAny_bind (m := callSpecialIfBound? (.ref x) (Str.ofString "__eq__") _) (PySem.W.ifBound_K X I hs hf (wpAny_mono h (fun r z ⟨k, e, q⟩ => ?_) fun _ _ y => y))
    subst e
    refine wpAny_bind (wpAny_truthy_bool (wpAny_pure (wpAny_pure ⟨_, rfl, q z.toks⟩)))
  unfold richCompare
  simp only [oneThing_ref]
  refine wpAny_holding (wpAny_bind (wpAny_cRoomFor (Nat.lt_of_succ_lt hu) ?_))
  rw [cmpInfo_NotEq]
  dsimp only
  refine wpAny_bind (I.type.here (wpAny_bind (hb.here ?_)))
  split
  · rename_i q
    have e : PySem.W.subIn K tb (.ref C) = some false := by
      rcases Bool.or_eq_true_iff.mp hn with e | e
      · rw [beq_iff_eq.mp e] at q; simp at q
      · exact beq_iff_eq.mp e
    refine wpAny_bind ((PySem.W.looks_subIn X e).here ?_)
    simp only [Bool.false_eq_true, if_false]
    exact wpAny_bind (wpAny_mono one (fun r z ⟨v, e, q⟩ => by subst e; exact wpAny_pure q) fun _ _ e => e)
  · refine wpAny_bind (wpAny_pure ?_)
    simp only [Bool.false_eq_true, if_false]
    exact wpAny_bind (wpAny_mono one (fun r z ⟨v, e, q⟩ => by subst e; exact wpAny_pure q) fun _ _ e => e)
end
/-! ### as rules -/
/-- what a class with own dunders has -/
structure Dun (K : PySem.W.Frag) (C : Addr) (m : Str) (f : Addr) : Prop where
  at_ : PySem.W.findIn K (.ref C) m = some (some (.ref f))
  fn : PySem.W.isFn K (.ref f) = true
section
variable {X : Cx} {pins : List (Addr × Obj)} {σ : L2.St} {H : Hp} {s : Shared} {CX : CXT} {n : Nat} {sp : Sp} {E : XK} {C f : Addr}
theorem ins_at {a dx : Addr} {fs : List (Str × V)} (I : Inv X pins σ H s) (h : H a = some (.ins C dx fs)) : ∃ ox od, PySem.W.InstAt s.heap a ox C od := by
  obtain ⟨mA, O, _⟩ := ins_get I.hok h
  obtain ⟨od, J, _⟩ := O.look
  exact ⟨_, _, J⟩
/-- x in o, x not in o -/
def rInO (C : Addr) (sp : Sp) (E : XK) (neg : Bool) : R2 := fun x y H Q => ∃ a dx fs, y = .ref a ∧ H a = some (.ins C dx fs) ∧ sp [y, x] H (fun z H' => ∃ b, z = .bl b ∧ Q (.bl (if neg then !b else b)) H') E
theorem op_inO (d : Dun X.K C "__contains__" f) (F : FnR X.prog X.w X.K X.mg X.base CX n f sp) (hr : Room n X.A) (hx : Passes CX X E) : OpR X (compareOp .In) (rInO C sp E false) := by
  intro pins s σ H x y v u Q I rx ry h
  obtain ⟨a, dx, fs, rfl, ha, q⟩ := h
  cases (show u = Value.ref a from ry)
  obtain ⟨ox, od, J⟩ := ins_at I ha
  obtain ⟨m, hF⟩ := I.fr
  refine PySem.W.in_K hF I.ok.mod.kin J d.at_ d.fn (wpAny_mono (wpAny_call (run_fnR (us := [.ref a, v]) (vs := [.ref a, x]) F hr hx I (.cons rfl (.cons rx .nil)) q)) (fun r z ⟨y, H', I', ry, b, ey, qy⟩ => ?_) fun _ _ y => y)
  subst ey
  cases (show r = Value.bool b from ry)
  exact wpAny_truthy_bool ⟨.bl b, H', I', rfl, qy⟩
theorem op_notInO (d : Dun X.K C "__contains__" f) (F : FnR X.prog X.w X.K X.mg X.base CX n f sp) (hr : Room n X.A) (hx : Passes CX X E) : OpR X (compareOp .NotIn) (rInO C sp E true) := by
  intro pins s σ H x y v u Q I rx ry h
  obtain ⟨a, dx, fs, rfl, ha, q⟩ := h
  cases (show u = Value.ref a from ry)
  obtain ⟨ox, od, J⟩ := ins_at I ha
  obtain ⟨m, hF⟩ := I.fr
  refine PySem.W.notIn_K hF I.ok.mod.kin J d.at_ d.fn (wpAny_mono (wpAny_call (run_fnR (us := [.ref a, v]) (vs := [.ref a, x]) F hr hx I (.cons rfl (.cons rx .nil)) q)) (fun r z ⟨y, H', I', ry, b, ey, qy⟩ => ?_) fun _ _ y => y)
  subst ey
  cases (show r = Value.bool b from ry)
  exact wpAny_truthy_bool ⟨.bl (!b), H', I', rfl, qy⟩
/-- the callee runs somewhat deeper -/
theorem run_in {A : Around} {Q : VK} {us : List Value} {vs : List V} (F : FnR X.prog X.w X.K X.mg X.base CX n f sp) (hr : Room n A) (e0 : Env0 X.prog X.w X.K X.mg X.base A X.stack s H) (hx : Passes CX X E) (I : Inv X pins σ H s) (r : Vals vs us) (h : sp vs H Q E) :
    wpAny (model X.prog X.w) A (call (.ref f) us) (EP X pins σ Q) X.xe s := wpAny_call (SlX.run_at F hr e0 hx I r h)
/-- len(o) -/
def rLenO (C : Addr) (sp : Sp) (E : XK) : List V → Hp → VK → Prop := fun xs H Q => ∃ a dx fs, xs = [V.ref a] ∧ H a = some (.ins C dx fs) ∧ sp [.ref a] H (fun z H' => ∃ k : Nat, z = .int k ∧ (k : Int) < 2 ^ 62 ∧ Q (.int k) H') E
theorem call_lenO (d : Dun X.K C "__len__" f) (F : FnR X.prog X.w X.K X.mg X.base CX n f sp) (hr : Room (n + 1) X.A) (hx : Passes CX X E) : CallR X (.builtin "len") (rLenO C sp E) := by
  intro pins s σ H xs us Q I r h
  obtain ⟨a, dx, fs, rfl, ha, q⟩ := h
  rw [Vals.ref1 r]
  obtain ⟨ox, od, J⟩ := ins_at I ha
  obtain ⟨m, hF⟩ := I.fr
  refine PySem.W.len_K hF I.ok.mod.kin J d.at_ d.fn (wpAny_mono (run_in (us := [.ref a]) (vs := [.ref a]) F hr.in1 I.env0.in1 hx I (.cons rfl .nil) q) (fun r z ⟨y, H', I', ry, k, ey, hk, qy⟩ => ?_) fun _ _ y => y)
  subst ey
  obtain ⟨t, e⟩ := (show ∃ t, r = Value.int k t from ry)
  subst e
  exact ⟨⟨by omega, by omega⟩, .int k, H', I'.tok _, ⟨_, rfl⟩, qy⟩
/-- repr(o) -/
def rReprO (C : Addr) (sp : Sp) (E : XK) : List V → Hp → VK → Prop := fun xs H Q => ∃ a dx fs, xs = [V.ref a] ∧ H a = some (.ins C dx fs) ∧ sp [.ref a] H (fun z H' => ∃ y, z = .str y ∧ Q (.str y) H') E
theorem call_reprO (d : Dun X.K C "__repr__" f) (F : FnR X.prog X.w X.K X.mg X.base CX n f sp) (hr : Room (n + 1) X.A) (hx : Passes CX X E) : CallR X (.builtin "repr") (rReprO C sp E) := by
  intro pins s σ H xs us Q I r h
  obtain ⟨a, dx, fs, rfl, ha, q⟩ := h
  rw [Vals.ref1 r]
  obtain ⟨ox, od, J⟩ := ins_at I ha
  obtain ⟨m, hF⟩ := I.fr
  refine PySem.W.repr_K hr.in1.units0 hF I.ok.mod.kin J d.at_ d.fn (wpAny_mono (run_in (us := [.ref a]) (vs := [.ref a]) F hr.in1 I.env0.in1 hx I (.cons rfl .nil) q) (fun r z ⟨y, H', I', ry, k, ey, qy⟩ => ?_) fun _ _ y => y)
  subst ey
  obtain ⟨t, e⟩ := (show ∃ t, r = Value.str k t from ry)
  subst e
  exact ⟨.str k, H', I', ⟨t, rfl⟩, qy⟩
/-- bool(o), by its length -/
def rBoolO (C : Addr) (sp : Sp) (E : XK) : List V → Hp → VK → Prop := fun xs H Q => ∃ a dx fs, xs = [V.ref a] ∧ H a = some (.ins C dx fs) ∧ sp [.ref a] H (fun z H' => ∃ k : Nat, z = .int k ∧ (k : Int) < 2 ^ 62 ∧ Q (.bl ((k : Int) != 0)) H') E
theorem call_boolO (nb : PySem.W.findIn X.K (.ref C) "__bool__" = some none) (d : Dun X.K C "__len__" f) (F : FnR X.prog X.w X.K X.mg X.base CX n f sp) (hr : Room (n + 3) X.A) (hx : Passes CX X E) : CallR X (.type "bool") (rBoolO C sp E) := by
  intro pins s σ H xs us Q I r h
  obtain ⟨a, dx, fs, rfl, ha, q⟩ := h
  rw [Vals.ref1 r]
  obtain ⟨ox, od, J⟩ := ins_at I ha
  have hr3 : Room n X.A.in1.in1.in1 := ((show Room (n + 2) X.A.in1 from Room.in1 hr).in1).in1
  refine bool_own I.kIn J nb d.at_ d.fn (wpAny_mono (run_in (us := [.ref a]) (vs := [.ref a]) F hr3 I.env0.in1.in1.in1 hx I (.cons rfl .nil) q) (fun r z ⟨y, H', I', ry, k, ey, hk, qy⟩ => ?_) fun _ _ y => y)
  subst ey
  obtain ⟨t, e⟩ := (show ∃ t, r = Value.int k t from ry)
  subst e
  exact ⟨k, t, rfl, hk, fun u => ⟨.bl ((k : Int) != 0), H', I'.tok _, rfl, qy⟩⟩
/-- o == y, y anything of a known type -/
def rEqO (K : PySem.W.Frag) (C : Addr) (sp : Sp) (E : XK) : R2 := fun x y H Q => ∃ a dx fs t, x = .ref a ∧ H a = some (.ins C dx fs) ∧ TyX K H y t ∧ PySem.W.notFirst K C t = true ∧ sp [x, y] H Q E
theorem op_eqO (d : Dun X.K C "__eq__" f) (F : FnR X.prog X.w X.K X.mg X.base CX n f sp) (hr : Room n X.A) (hx : Passes CX X E) : OpR X (compareOp .Eq) (rEqO X.K C sp E) := by
  intro pins s σ H x y v u Q I rx ry h
  obtain ⟨a, dx, fs, t, rfl, ha, ty, nf, q⟩ := h
  cases (show v = Value.ref a from rx)
  obtain ⟨ox, od, J⟩ := ins_at I ha
  obtain ⟨P, Z, p, _⟩ := kit_of I ry ty
  obtain ⟨m, hF⟩ := I.fr
  show wpAny (model X.prog X.w) X.A (richCompare .Eq (.ref a) u) (EP X pins σ Q) X.xe s
  refine PySem.W.cmp_K (op := .Eq) (tb := t) hr.units0 hF I.ok.mod.kin J (Z.ty _ _ I.kIn p) nf d.at_ d.fn ?_
  refine wpAny_mono (wpAny_call (run_fnR (us := [.ref a, u]) (vs := [.ref a, y]) F hr hx I (.cons rfl (.cons ry .nil)) q)) (fun r z ⟨y', H', I', rz, qz⟩ => ?_) fun _ _ x => x
  exact SlX.cmpback rz ⟨y', H', I', rz, qz⟩
/-- o != y -/
def rNeO (K : PySem.W.Frag) (C : Addr) (sp : Sp) (E : XK) : R2 := fun x y H Q => ∃ a dx fs t, x = .ref a ∧ H a = some (.ins C dx fs) ∧ TyX K H y t ∧ PySem.W.notFirst K C t = true ∧ sp [x, y] H (fun z H' => ∃ b, z = .bl b ∧ Q (.bl (!b)) H') E
theorem op_neO (ne : PySem.W.findIn X.K (.ref C) "__ne__" = some (some (.builtin "object.__ne__"))) (hm : PySem.W.mroIn X.K C (.type "object") = some true) (d : Dun X.K C "__eq__" f) (F : FnR X.prog X.w X.K X.mg X.base CX n f sp) (hr : Room (n + 1) X.A) (hx : Passes CX X E) :
    OpR X (compareOp .NotEq) (rNeO X.K C sp E) := by
  intro pins s σ H x y v u Q I rx ry h
  obtain ⟨a, dx, fs, t, rfl, ha, ty, nf, q⟩ := h
  cases (show v = Value.ref a from rx)
  obtain ⟨ox, od, J⟩ := ins_at I ha
  obtain ⟨P, Z, p, _⟩ := kit_of I ry ty
  show wpAny (model X.prog X.w) X.A (richCompare .NotEq (.ref a) u) (EP X pins σ Q) X.xe s
  refine ne_own hr.in1.units0 I.kIn J (Z.ty _ _ I.kIn p) nf ne d.at_ d.fn hm ?_
  refine wpAny_mono (run_in (us := [.ref a, u]) (vs := [.ref a, y]) F hr.in1 I.env0.in1 hx I (.cons rfl (.cons ry .nil)) q) (fun r z ⟨y', H', I', rz, b, eb, qz⟩ => ?_) fun _ _ x => x
  subst eb
  cases (show r = Value.bool b from rz)
  exact ⟨b, rfl, fun t => ⟨.bl (!b), H', I'.tok _, rfl, qz⟩⟩
end
end Own1


/-! C(), C(*xs) of a class whose __init__ takes a star; C.m(e), C.m(k = e) of a static method -/
namespace Mk1
open PySem PySem.Spec PyProof.Rows L2 ClX StX
section
variable {X : Cx} {CX : CXT} {k : Nat} {f C : Addr} {sp : Sp} {E : XK} {x : Str} {e : Expr} {te : TE} {p pos q : Pos}
/-- C() -/
theorem pe_makeR0 (M : Mk X.K C f) (F : FnR X.prog X.w X.K X.mg X.base CX k f sp) (hr : Room (k + 1) X.A) (hg : Gl X x) (hm : X.mg x = some (.ref C)) (hx : Passes CX X E) (hdb : (x == ("__debug__" : Str)) = false := by decide) : PE X (.Call (.Name x p) [] [] pos) (tMakeR C sp E tNil) :=
  ⟨fun pins s σ H Q I h => wpAny_Call_Name_kw (ld_glob I hg hm (PySem.W.callWith_K0 I.kIn M.kp (run_makeR (us := []) (vs := []) M F hr hx I .nil h)) hdb)⟩
/-- C(*xs) -/
def tMakeS (K : PySem.W.Frag) (C : Addr) (sp : Sp) (E : XK) (te : TE) : TE := fun σ H Q => te σ H fun y H1 => ∃ a xs, y = V.ref a ∧ (SqT K H1 a xs ∨ SqL K H1 a xs) ∧ ∀ x dx, H1 x = Option.none → H1 dx = Option.none → dx ≠ x →
  sp (V.ref x :: xs) (upd (upd H1 dx (.own x)) x (.ins C dx [])) (fun v H2 => v = .non ∧ Q (.ref x) H2) E
theorem pe_makeS (M : Mk X.K C f) (F : FnR X.prog X.w X.K X.mg X.base CX k f sp) (hr : Room (k + 1) X.A) (hg : Gl X x) (hm : X.mg x = some (.ref C)) (hx : Passes CX X E) (he : PE X e te) (hdb : (x == ("__debug__" : Str)) = false := by decide)
    (hst : starEach [.Starred e q] X.env = [(true, eval e X.env)] := by rfl) : PE X (.Call (.Name x p) [.Starred e q] [] pos) (tMakeS X.K C sp E te) := by
  refine ⟨fun pins s σ H Q I h => wpAny_Call_Name_kw (ld_glob I hg hm ?_ hdb)⟩
  refine PySem.W.callWith_S (h₀ := X.base) I.ok.mod.kin M.kp (thn (he.run pins s σ H _ I h) fun v s1 ⟨y, H1, I1, ry, a, xs, ey, hxs, w⟩ => ?_) hst
  subst ey
  obtain rfl : v = Value.ref a := ry
  exact star_any I1 hxs fun us s2 I2 rv => ⟨I2.kIn, run_makeR M F hr hx I2 rv w⟩
end
/-- C.m is a static method: its record at p, its def at g -/
structure SMet (K : PySem.W.Frag) (C : Addr) (mc : Value) (m : Str) (p g : Addr) : Prop where
  at_ : PySem.W.findCls K (.ref C) mc m = some (.get (.builtin "staticmethod.__get__") (.ref p) .none (.ref C))
  rc : ∃ rest, PySem.W.recIn K p "staticmethod" = some (.ref g :: rest)
  kp : PySem.W.keepIn K (.ref g) = true
section
variable {X : Cx} {pins : List (Addr × Obj)} {σ : L2.St} {H : Hp} {s : Shared} {C p g : Addr} {mc : Value} {m : Str} {A : Around} {E : Value → Shared → Prop}
theorem get_static {pl : Sem Bool} {Q : Value × List Value → Shared → Prop} (I : Inv X pins σ H s) (r : CRead X.K C mc) (k : SMet X.K C mc m p g) (h : ∀ z, Inv X pins σ H z → Q (.ref g, []) z) : wpAny (model X.prog X.w) A (getMethod (.ref C) m pl) Q E s := by
  obtain ⟨rest, hp⟩ := k.rc
  refine PySem.W.method_cls I.kIn r.ga (PySem.W.cls_bind I.kIn r.rd k.at_ (wpAny_call (PySem.W.sm_get (s := { s with toks := s.toks + 1 }) I.kIn hp (PySem.W.handed_on rfl ?_))))
  exact h _ (I.tok _)
end
section
variable {X : Cx} {CX : CXT} {k n : Nat} {C p g : Addr} {mc : Value} {sp : Sp} {E : XK} {o e : Expr} {es : List Expr} {m : Str} {pos apos : Pos} {ta : TE} {t tk : TA} {pl : Sem Bool} {fd : FuncData} {ps ks : List Str} {kws : List Keyword} {gu : List Value → List Value → List Value} {gV : List V → List V → List V}
def tSMeth (C : Addr) (sp : Sp) (E : XK) (ta : TE) (t : TA) : TE := fun σ H Q => ta σ H fun x H1 => x = .ref C ∧ t σ H1 fun vs H2 => sp vs H2 Q E
/-- C.m(e, ..) -/
theorem pe_smeth (he : PE X o ta) (r : CRead X.K C mc) (c : SMet X.K C mc m p g) (F : FnR X.prog X.w X.K X.mg X.base CX k g sp) (hr : Room k X.A) (hx : Passes CX X E) (ha : PA X (e :: es) t)
    (hst : starEach (e :: es) X.env = (false, eval e X.env) :: starEach es X.env := by rfl) (hpl : (backTo pos (starEach es X.env)).any (·.1) = false := by rfl)
    (ht : eval (.Call (.Attribute o m apos) (e :: es) [] pos) X.env = (do
      let ov ← eval o X.env
      standAt apos.atName
      let (f, first) ← holding [ov] (getMethod ov m pl)
      callWith pos f first (backTo pos (starEach (e :: es) X.env)) (backToKw pos (keywordEach [] X.env))) := by rfl) : PE X (.Call (.Attribute o m apos) (e :: es) [] pos) (tSMeth C sp E ta t) := by
  refine ⟨fun pins s σ H Q I h => PySem.W.methodCall_KW (pl := pl) (thn (he.run pins s σ H _ I h) fun u s1 ⟨x, H1, I1, rx, ex, w⟩ => ?_) ht⟩
  subst ex
  obtain rfl : u = Value.ref C := rx
  refine get_static I1 r c fun s2 I2 => ?_
  exact PySem.W.callWith_K (h₀ := X.base) I2.ok.mod.kin c.kp (thn (ha.run pos pins s2 σ H1 _ I2 w) fun us s3 ⟨vs, H2, I3, rv, w2⟩ => ⟨I3.kIn, wpAny_call (run_fnR F hr hx I3 rv w2)⟩) hst hpl
/-- C.m(k = e, ..) -/
def tSMethK (C : Addr) (n : Nat) (sp : Sp) (gV : List V → List V → List V) (E : XK) (ta : TE) (tk : TA) : TE := fun σ H Q => ta σ H fun x H1 => x = .ref C ∧ tk σ H1 fun zs H2 => zs.length = n ∧ sp (gV [] zs) H2 Q E
theorem pe_smethK (he : PE X o ta) (r : CRead X.K C mc) (c : SMet X.K C mc m p g) (F : FnOk X.prog X.w X.K X.mg X.base CX k g fd ps sp) (hr : Room k X.A) (hb : KBn X.K fd ps 0 ks gu gV) (hx : Passes CX X E) (hkw : PK X kws tk)
    (hall : (backToKw pos (keywordEach kws X.env)).all (·.1.isSome) = true := by rfl) (hks : (backToKw pos (keywordEach kws X.env)).filterMap (·.1) = ks := by rfl)
    (hpl : ((backTo pos (starEach [] X.env)).any (·.1) || (backToKw pos (keywordEach kws X.env)).any (·.1.isNone)) = false := by rfl)
    (ht : eval (.Call (.Attribute o m apos) [] kws pos) X.env = (do
      let ov ← eval o X.env
      standAt apos.atName
      let (f, first) ← holding [ov] (getMethod ov m pl)
      callWith pos f first (backTo pos (starEach [] X.env)) (backToKw pos (keywordEach kws X.env))) := by rfl) : PE X (.Call (.Attribute o m apos) [] kws pos) (tSMethK C ks.length sp gV E ta tk) := by
  refine ⟨fun pins s σ H Q I h => PySem.W.methodCall_KW (pl := pl) (thn (he.run pins s σ H _ I h) fun u s1 ⟨x, H1, I1, rx, ex, w⟩ => ?_) ht⟩
  subst ex
  obtain rfl : u = Value.ref C := rx
  refine get_static I1 r c fun s2 I2 => ?_
  refine PySem.W.callWith_KW0 (h₀ := X.base) I2.ok.mod.kin c.kp hall (thn (hkw.run pos pins s2 σ H1 _ I2 w) fun ws s3 ⟨zs, H2, I3, rz, hz, w2⟩ => ⟨I3.kIn, ?_⟩) hpl
  rw [hks]
  have lz : ws.length = ks.length := rz.length.symm.trans hz
  refine wpAny_call (codeAny_mono (F.run X.A X.stack s3 H2 ⟨[] ++ [], ks.zip ws⟩ (gu [] ws) (gV [] zs) Q E hr I3.env0 (hb.to s3 [] ws I3.kIn rfl lz) (hb.rel .nil rz) w2) fun r z hq => ?_)
  cases r with
  | error e => exact hx pins σ H2 s3 e z I3 hq
  | ok fl =>
    cases fl with
    | ret u => exact I3.after hq
    | next => exact False.elim hq
    | brk => exact False.elim hq
    | cont => exact False.elim hq
end
end Mk1


namespace Rng
open PySem L2 Bag
/-- the fields of a table, in their order -/
def fieldsOf (p q d : Addr) : List (Str × V) := [("rows", .ref p), ("feeds", .ref q), ("_by_place", .ref d)]
theorem fields_put (p q d : Addr) : putF "_by_place" (.ref d) (putF "feeds" (.ref q) (putF "rows" (.ref p) [])) = fieldsOf p q d := by
  unfold fieldsOf
  have e1 : ("rows" : Str) ≠ "feeds" := by decide
  have e2 : ("rows" : Str) ≠ "_by_place" := by decide
  have e3 : ("feeds" : Str) ≠ "_by_place" := by decide
  simp only [putF, if_neg e1, if_neg e2, if_neg e3]
theorem fields_two (p q : Addr) : putF "feeds" (.ref q) (putF "rows" (.ref p) []) = ([("rows", .ref p), ("feeds", .ref q)] : List (Str × V)) := by
  have e1 : ("rows" : Str) ≠ "feeds" := by decide
  simp only [putF, if_neg e1]
/-- the table at o: its rows, its feeds -/
def TabAt (C : Addr) (H : Hp) (o : Addr) (ss : List Row) (fs : List Str) : Prop := ∃ dx p q d ys, H o = some (.ins C dx (fieldsOf p q d)) ∧ H p = some (.tup ys) ∧ TupsAt rowV H ys ss ∧ H q = some (.tup (fs.map V.str))
/-- what a table of rows has: the rows in order, their feeds in order -/
structure TabOf (rs ss : List Row) (fs : List Str) : Prop where
  perm : ss.Perm rs
  ord : ss.Pairwise fun p q => ltR q p = false
  fperm : fs.Perm (firsts (rs.map (·.1)))
  ford : PyProof.Rows.sortedS fs = true
/-- rows that a table takes -/
structure Good (rs : List Row) : Prop where
  len : rs.length ≤ 100
  nd : (rs.map plcOf).Nodup
  nm : ∀ r ∈ rs, isName r.1 = true
def spInit (C : Addr) : Sp := fun vs H Q _ => ∃ (o t dx : Addr) (xs : List V) (rs : List Row), vs = [.ref o, .ref t] ∧ H o = some (.ins C dx []) ∧ H t = some (.tup xs) ∧ TupsAt rowV H xs rs ∧ Good rs ∧
  ∀ (ss : List Row) (fs : List Str) (H' : Hp), TabOf rs ss fs → TabAt C H' o ss fs → But o H H' → Q .non H'
def keyOf (r : Row) : List Key := [Sum.inr r.1, Sum.inl r.2.1]
theorem key_vals (r : Row) : (keyOf r).map kV = plcV (plcOf r) := rfl
theorem key_inj {r s : Row} (h : keyOf r = keyOf s) : plcOf r = plcOf s := by
  unfold keyOf at h
  injection h with h1 h2
  injection h2 with h2 h3
  injection h1 with h1
  injection h2 with h2
  unfold plcOf
  rw [h1, h2]
theorem not_there (rs : List Row) (r : Row) (h : plcOf r ∉ rs.map plcOf) : valV (rs.map fun s => (keyOf s, V.int s.2.2)) (keyOf r) = none := by
  induction rs with
  | nil => rfl
  | cons s rs ih =>
    rw [List.map_cons, valV_neg fun e => h (by rw [List.map_cons, key_inj e]; exact List.mem_cons_self)]
    exact ih fun m => h (List.mem_cons_of_mem _ m)
/-- what the class of tables is -/
structure Tc (K : PySem.W.Frag) (C : Addr) : Prop where
  cl : Cls K C
  nR : NoAttr K C "rows"
  nF : NoAttr K C "feeds"
  nP : NoAttr K C "_by_place"
end Rng


namespace K13
open PySem L2 Rng
/-! ### the text by places -/
def top (i : Nat) : Stmt := PySem.Challenge.pw_latestrows_k13_settings_made.main.body.getD i (.Pass ⟨0, 0, 0, 0⟩)
abbrev sNumber : Stmt := top 45
abbrev sSource : Stmt := top 46
abbrev sPick : Stmt := top 47
abbrev sOne : Stmt := top 48
abbrev sTag : Stmt := top 49
abbrev sTags : Stmt := top 50
/-- the built-in names that the drawing defs use, free at the top -/
structure Bt (mg : Str → Option Value) : Prop where
  nLen : mg "len" = none
  nInt : mg "int" = none
  nAbs : mg "abs" = none
  nRange : mg "range" = none
  nStr : mg "str" = none
section
variable {P : Program} {w : World} {K : PySem.W.Frag} {mg : Str → Option Value} {base : Heap}

theorem scNumber : FnScope ["_law_script", "_law_k", "_law_made_here", "_law_cell"] ["_law_script", "_law_k"] (defScope sNumber) := ⟨rfl, rfl, rfl, by decide +kernel, rfl, by decide +kernel, by decide +kernel⟩
theorem ok_number {f : Addr} {fd : FuncData} (F : Fun K "_law_number" "_law_number" sNumber f fd) (T : Bt mg) : FnOk P w K mg base CX0 1 f fd ["_law_script", "_law_k"] (spNumber K) := by
  refine F.ok scNumber (fun vs H Q E h => ?_) (fun cdv A outer s H vs Q E hr h => ?_)
  · obtain ⟨a, ns, k, rfl, _⟩ := h
    rfl
  · obtain ⟨a, ns, k, rfl, hS, hlen, k0, k1, q⟩ := h
    refine ⟨_, pss_cons (ps_if (pt_cmpR op_lt (pv 1) (pe_callB call_len_seq (by rfl) T.nLen PySem.boot_len (pa_cons (pv 0) pa_nil)) (nomark _)) (pss_one (ps_ret (pe_ix ix_list (pv 0) (pv 1) (fun _ _ => rfl)))) pss_nil)
      (pss_cons (ps_set (i := 2) scNumber.nd rfl (Or.inl rfl) (pe_op op_mul (pe_op op_mul pe_int (pe_op op_add (pv 1) pe_int)) (pe_op op_add (pv 1) pe_int)))
      (pss_cons (ps_for PassesOwn.never rfl (pi_list (pe_slice sl_list (pv 0) po_none (po_some pe_int))) (pg_name (i := 3) scNumber.nd rfl (Or.inl rfl))
        (pss_one (ps_set (i := 2) scNumber.nd rfl (Or.inl rfl) (pe_op op_mod (pe_callTy call_int1 (by rfl) T.nInt PyProof.Rows.boot_int (pa_cons (pe_op op_add (pe_op op_add (pe_op op_mul (pv 2) pe_int) (pv 3)) (pv 1)) pa_nil)) pe_int))))
      (pss_one (ps_ret (pv 2))))), ?_⟩
    refine ⟨_, rfl, _, rfl, a, _, rfl, .inl hS, _, _, rfl, rfl, _, rfl, ite2 (fun c => ?_) (fun c => ?_)⟩
    · have c' : k < (ns.length : Int) := by
        have z := of_decide_eq_true c
        rw [List.length_map] at z
        exact z
      have e : k = ((k.toNat : Nat) : Int) := by omega
      have hk : k.toNat < ns.length := by omega
      refine ⟨_, rfl, _, rfl, a, _, k, .int (ns[k.toNat]), rfl, rfl, hS, ?_, q _ _ (Same.refl _)⟩
      rw [atI_at k0 (by rw [List.length_map]; exact hk), List.getElem_map]
    · refine ⟨_, rfl, _, _, rfl, rfl, _, _, rfl, rfl, .inl ⟨by decide, by decide⟩, _, rfl, _, _, rfl, rfl, _, _, rfl, rfl, .inr ⟨by omega, by omega⟩, ?_⟩
      obtain ⟨ms, em⟩ := cut_ints ns none (some 5)
      refine ⟨_, rfl, 5, rfl, a, _, rfl, hS, fun p np => ?_⟩
      rw [em]
      refine ⟨p, rfl, ⟨_, SqL.of upd_same⟩, for_it (walk_list (K := K) (a := p) (xs := ms.map V.int)) (fun _ σ H' => ∃ (z : Int) (v : Option V), σ = [some (.ref a), some (.int k), some (.int z), v] ∧ Same (upd H p (.lst (ms.map V.int))) H')
        ⟨_, _, rfl, Same.refl _⟩ (fun _ _ _ _ ⟨_, _, _, z⟩ => z.seq (SqL.of upd_same)) ?_ ?_⟩
      · rintro i x σ H1 H2 hi ⟨z, v, rfl, s1⟩ ⟨rfl, hx⟩
        obtain ⟨n, rfl⟩ : ∃ n, x = V.int n := by
          rw [List.getElem?_map] at hx
          cases e : ms[i]? with
          | none => rw [e] at hx; cases hx
          | some n => rw [e] at hx; exact ⟨n, (Option.some.inj hx).symm⟩
        refine ⟨_, rfl, _, _, rfl, rfl, .inr ⟨by decide, by decide⟩, _, rfl, _, _, rfl, rfl, _, rfl, _, _, rfl, rfl, .inl ⟨_, rfl, _, _, rfl, rfl, (by show (0 : Int) < 2147483423; decide), ?_⟩⟩
        exact ⟨_, _, rfl, s1⟩
      · rintro σ H1 ⟨z, v, rfl, s1⟩
        exact ⟨_, rfl, q _ _ ((same_put np).trans s1)⟩

theorem scSource : FnScope ["_law_cell"] ["_law_cell"] (defScope sSource) := ⟨rfl, rfl, rfl, by decide +kernel, rfl, by decide +kernel, by decide +kernel⟩
theorem ok_source {f : Addr} {fd : FuncData} (F : Fun K "_law_source" "_law_source" sSource f fd) (T : Bt mg) : FnOk P w K mg base CX0 1 f fd ["_law_cell"] spSource := by
  refine F.ok scSource (fun vs H Q E h => ?_) (fun cdv A outer s H vs Q E hr h => ?_)
  · obtain ⟨c, rfl, _⟩ := h
    rfl
  · obtain ⟨c, rfl, q⟩ := h
    refine ⟨_, pss_one (ps_ret (pe_lst (pa_cons (pe_ifExp (PW.pt (pw_or (pt_cmpR op_lt (pv 0) pe_int (nomark _)) (pw_or1 (pt_cmpR op_ge (pv 0) (pe_op op_pow pe_int pe_int) (nomark _)))))
      (pe_callB call_abs (by rfl) T.nAbs PyProof.Rows.boot_abs (pa_cons (pv 0) pa_nil)) pe_int) (pa_cons (pe_op op_mod (pe_callTy call_int1 (by rfl) T.nInt PyProof.Rows.boot_int (pa_cons (pv 0) pa_nil)) pe_int) (pa_cons pe_int pa_nil))))), ?_⟩
    have fin : ∀ A0 : Int, 0 ≤ A0 → (∃ v, ([some (V.int c)] : St)[0]? = some (some v) ∧ ((∃ i, [v] = [V.int i] ∧ ∃ i' j, V.int i = .int i' ∧ V.int 2147483423 = .int j ∧ 0 < j ∧ ([V.int A0, V.int (i' % j), V.int 0].length ≤ sizeLine ∧ ∀ p, H p = none → Q (.ref p) (upd H p (.lst [V.int A0, V.int (i' % j), V.int 0])))) ∨
        ∃ k, [v] = [V.bl k] ∧ ∃ i' j, V.int (if k then 1 else 0) = .int i' ∧ V.int 2147483423 = .int j ∧ 0 < j ∧ ([V.int A0, V.int (i' % j), V.int 0].length ≤ sizeLine ∧ ∀ p, H p = none → Q (.ref p) (upd H p (.lst [V.int A0, V.int (i' % j), V.int 0]))))) := fun A0 h0 =>
      ⟨_, rfl, .inl ⟨c, rfl, c, 2147483423, rfl, rfl, by decide, by show 3 ≤ sizeLine; decide, fun p np => q p _ (same_put np) np ⟨A0, c % 2147483423, 0, upd_same, h0, by omega, by omega, by omega, by omega⟩⟩⟩
    refine ⟨_, rfl, _, _, rfl, rfl, _, rfl, ite2 (fun c1 => ?_) (fun c1 => ?_)⟩
    · exact ⟨_, rfl, _, rfl, fin _ (by split <;> omega)⟩
    · refine ⟨_, rfl, 10, 18, rfl, rfl, ⟨by decide, by decide, by decide⟩, _, _, rfl, rfl, _, rfl, ite2 (fun c2 => ?_) (fun c2 => ?_)⟩
      · exact ⟨_, rfl, _, rfl, fin _ (by split <;> omega)⟩
      · exact fin 0 (by omega)

theorem scPick : FnScope ["_law_source_here", "_law_many", "_law_digit", "_law_turn", "_law_mixed_here"] ["_law_source_here", "_law_many"] (defScope sPick) := ⟨rfl, rfl, rfl, by decide +kernel, rfl, by decide +kernel, by decide +kernel⟩
theorem ok_pick {f : Addr} {fd : FuncData} (F : Fun K "_law_pick" "_law_pick" sPick f fd) (T : Bt mg) : FnOk P w K mg base CX0 1 f fd ["_law_source_here", "_law_many"] spPick := by
  refine F.ok scPick (fun vs H Q E h => ?_) (fun cdv A outer s H vs Q E hr h => ?_)
  · obtain ⟨p, m, b, rfl, _⟩ := h
    rfl
  · obtain ⟨p, m, b, rfl, ⟨A0, B0, t0, e0, hA, hB, hB2, ht, ht2⟩, hb, m0, m1, q⟩ := h
    refine ⟨_, pss_cons (ps_asg (pe_op op_add (pe_ix ix_list (pv 0) pe_int (fun _ _ => rfl)) pe_int) (pg_sub (pv 0) pe_int set_list))
      (pss_cons (ps_if (pt_cmpR op_gt (pe_ix ix_list (pv 0) pe_int (fun _ _ => rfl)) pe_int (nomark _))
        (pss_cons (ps_set (i := 2) scPick.nd rfl (Or.inl rfl) (pe_op op_mod (pe_callTy call_int1 (by rfl) T.nInt PyProof.Rows.boot_int (pa_cons (pe_ix ix_list (pv 0) pe_int (fun _ _ => rfl)) pa_nil)) (pv 1)))
        (pss_cons (ps_asg (pe_op op_fdiv (pe_ix ix_list (pv 0) pe_int (fun _ _ => rfl)) (pv 1)) (pg_sub (pv 0) pe_int set_list))
        (pss_one (ps_ret (pv 2))))) pss_nil)
      (pss_cons (ps_set (i := 3) scPick.nd rfl (Or.inl rfl) (pe_ix ix_list (pv 0) pe_int (fun _ _ => rfl)))
      (pss_cons (ps_set (i := 4) scPick.nd rfl (Or.inl rfl) (pe_callTy call_int1 (by rfl) T.nInt PyProof.Rows.boot_int (pa_cons (pe_op op_add (pe_ix ix_list (pv 0) pe_int (fun _ _ => rfl)) (pe_op op_mul (pv 3) pe_int)) pa_nil)))
      (pss_cons (ps_asg (pe_op op_mod (pe_callTy call_int1 (by rfl) T.nInt PyProof.Rows.boot_int (pa_cons (pe_op op_add (pe_op op_pow (pv 4) pe_int) (pe_op op_mul pe_int (pv 3))) pa_nil)) pe_int) (pg_sub (pv 0) pe_int set_list))
      (pss_one (ps_ret (pe_op op_mod (pe_callTy call_int1 (by rfl) T.nInt PyProof.Rows.boot_int (pa_cons (pe_op op_fdiv (pe_ix ix_list (pv 0) pe_int (fun _ _ => rfl)) pe_int) pa_nil)) (pv 1)))))))), ?_⟩
    refine ⟨_, rfl, p, _, 2, _, rfl, rfl, SqL.of e0, rfl, _, _, rfl, rfl, _, rfl, p, _, 2, 2, rfl, rfl, e0, rfl, ?_⟩
    have e1 : (upd H p (.lst [.int A0, .int B0, .int (t0 + 1)])) p = some (.lst [.int A0, .int B0, .int (t0 + 1)]) := upd_same
    have b1 : But p H (upd H p (.lst [.int A0, .int B0, .int (t0 + 1)])) := But.put
    show (tSeq _ _) _ _ (upd H p (.lst [.int A0, .int B0, .int (t0 + 1)]))
    revert e1 b1
    generalize upd H p (.lst [.int A0, .int B0, .int (t0 + 1)]) = H1
    intro e1 b1
    refine ⟨_, rfl, p, _, 0, _, rfl, rfl, SqL.of e1, rfl, _, _, rfl, rfl, _, rfl, ite2 (fun c => ?_) (fun c => ?_)⟩
    · have c0 : 0 < A0 := of_decide_eq_true c
      refine ⟨_, rfl, p, _, 0, _, rfl, rfl, SqL.of e1, rfl, .inl ⟨A0, rfl, _, rfl, _, _, rfl, rfl, m0, ?_⟩⟩
      refine ⟨_, rfl, p, _, 0, _, rfl, rfl, SqL.of e1, rfl, _, rfl, _, _, rfl, rfl, ⟨m0, m1⟩, _, rfl, p, _, 0, 0, rfl, rfl, e1, rfl, ?_⟩
      refine ⟨_, rfl, q _ _ (Int.emod_nonneg _ (by omega)) (Int.emod_lt_of_pos _ m0) (b1.trans But.put) ⟨A0 / m, B0, t0 + 1, upd_same, Int.ediv_nonneg (by omega) (by omega), hB, hB2, by omega, by omega⟩⟩
    · refine ⟨_, rfl, p, _, 2, _, rfl, rfl, SqL.of e1, rfl, ?_⟩
      refine ⟨_, rfl, p, _, 1, _, rfl, rfl, SqL.of e1, rfl, _, rfl, _, _, rfl, rfl, .inr ⟨by decide, by decide⟩, _, _, rfl, rfl, .inl ⟨_, rfl, ?_⟩⟩
      refine ⟨_, rfl, _, _, rfl, rfl, pow3 hB hB2 (by omega) (by omega), _, rfl, _, _, rfl, rfl, .inl ⟨by decide, by decide⟩, _, _, rfl, rfl, .inl ⟨_, rfl, _, _, rfl, rfl, (by show (0 : Int) < 2147483423; decide), ?_⟩⟩
      refine ⟨_, rfl, p, _, 1, 1, rfl, rfl, e1, rfl, ?_⟩
      refine ⟨_, rfl, p, _, 1, _, rfl, rfl, SqL.of upd_same, rfl, _, _, rfl, rfl, ⟨by decide, by decide⟩, .inl ⟨_, rfl, _, rfl, _, _, rfl, rfl, m0, ?_⟩⟩
      exact q _ _ (Int.emod_nonneg _ (by omega)) (Int.emod_lt_of_pos _ m0) (b1.trans But.put) ⟨A0, _, t0 + 1, upd_same, hA, Int.emod_nonneg _ (by decide), Int.emod_lt_of_pos _ (by decide), by omega, by omega⟩

theorem scOne : FnScope ["_law_source_here", "_law_things"] ["_law_source_here", "_law_things"] (defScope sOne) := ⟨rfl, rfl, rfl, by decide +kernel, rfl, by decide +kernel, by decide +kernel⟩
theorem ok_one {f fP : Addr} {fd dP : FuncData} (F : Fun K "_law_one" "_law_one" sOne f fd) (T : Bt mg) (FP : Fun K "_law_pick" "_law_pick" sPick fP dP) (bP : Binds K dP ["_law_source_here", "_law_many"] []) (mP : mg "_law_pick" = some (.ref fP)) : FnOk P w K mg base CX0 2 f fd ["_law_source_here", "_law_things"] (spOne K) := by
  have GP : FnOk P w K mg base CX0 1 fP dP ["_law_source_here", "_law_many"] spPick := ok_pick FP T
  refine F.ok scOne (fun vs H Q E h => ?_) (fun cdv A outer s H vs Q E hr h => ?_)
  · obtain ⟨p, x, b, rfl, _⟩ := h
    rfl
  · obtain ⟨p, x, b, rfl, hs, hb, h⟩ := h
    refine ⟨_, pss_one (ps_ret (pe_ix ix_seq (pv 1) (pe_call GP hr rfl mP FP.kp bP .nil pass0 (pa_cons (pv 0) (pa_cons (pe_callB call_len (by rfl) T.nLen PySem.boot_len (pa_cons (pv 1) pa_nil)) pa_nil))) (fun _ _ => rfl))), ?_⟩
    rcases h with ⟨l, xs, rfl, nl, hl, x0, x1, q⟩ | ⟨z, rfl, z0, z1, q⟩
    · refine ⟨_, rfl, _, rfl, _, rfl, _, _, rfl, .inl ⟨_, hl, rfl⟩, p, _, b, rfl, hs, hb, by omega, by omega, fun d H' d0 d1 hB hS => ?_⟩
      have hd : d.toNat < xs.length := by omega
      have e : d = ((d.toNat : Nat) : Int) := by omega
      refine .inl ⟨l, xs, d, xs[d.toNat], rfl, rfl, hB.seq (fun _ _ => nl) hl, ?_, q _ _ (List.getElem_mem hd) hB hS⟩
      exact atI_at d0 hd
    · refine ⟨_, rfl, _, rfl, _, rfl, _, _, rfl, ⟨Nat.le_of_lt (small1000 z1), rfl⟩, p, _, b, rfl, hs, hb, by omega, by omega, fun d H' d0 d1 hB hS => ?_⟩
      have hd : d.toNat < z.cps.toList.length := by
        have ez : z.cps.toList.length = z.length := rfl
        omega
      have e : d = ((d.toNat : Nat) : Int) := by omega
      refine .inr (.inr ⟨z, d, z.cps.toList[d.toNat], rfl, rfl, Nat.le_of_lt (small1000 z1), ?_, q _ _ (List.getElem_mem hd) hB hS⟩)
      exact atI_at d0 hd
end
section
variable {P : Program} {w : World} {K : PySem.W.Frag} {mg : Str → Option Value} {base : Heap}
def words : List Str := ["now", "strict", "before", "after", "time", "value", "any", "at", "on", "apart"]
theorem words_ok : ∀ z ∈ words, isName z = true := by decide +kernel
theorem letters_ok : ∀ c ∈ (Str.ofString "abcdefghijklmnopqrstuvwxyz").cps.toList, low c = true := by decide +kernel
theorem signs_ok : ∀ c ∈ (Str.ofString "abcdefghijklmnopqrstuvwxyz" ++ Str.ofString "0123456789").cps.toList, (low c || dig c) = true := by decide +kernel
theorem scTag : FnScope ["_law_source_here", "_law_small", "_law_signs", "_law_k"] ["_law_source_here"] (defScope sTag) := ⟨rfl, rfl, rfl, by decide +kernel, rfl, by decide +kernel, by decide +kernel⟩
theorem ok_tag {f fP fO : Addr} {fd dP dO : FuncData} (F : Fun K "_law_tag" "_law_tag" sTag f fd) (T : Bt mg) (FP : Fun K "_law_pick" "_law_pick" sPick fP dP) (bP : Binds K dP ["_law_source_here", "_law_many"] []) (mP : mg "_law_pick" = some (.ref fP))
    (FO : Fun K "_law_one" "_law_one" sOne fO dO) (bO : Binds K dO ["_law_source_here", "_law_things"] []) (mO : mg "_law_one" = some (.ref fO)) : FnOk P w K mg base CX0 3 f fd ["_law_source_here"] spTag := by
  have GP : FnOk P w K mg base CX0 1 fP dP ["_law_source_here", "_law_many"] spPick := ok_pick FP T
  have GO : FnOk P w K mg base CX0 2 fO dO ["_law_source_here", "_law_things"] (spOne K) := ok_one FO T FP bP mP
  refine F.ok scTag (fun vs H Q E h => ?_) (fun cdv A outer s H vs Q E hr h => ?_)
  · obtain ⟨p, b, rfl, _⟩ := h
    rfl
  · obtain ⟨p, b, rfl, hs, hb, q⟩ := h
    have hr1 : Room 1 _ := hr.mono (by decide)
    refine ⟨_, pss_cons (ps_if (pt_cmpR op_eq (pe_call GP hr1 rfl mP FP.kp bP .nil pass0 (pa_cons (pv 0) (pa_cons pe_int pa_nil))) pe_int (nomark _))
        (pss_one (ps_ret (pe_call GO hr rfl mO FO.kp bO .nil pass0 (pa_cons (pv 0) (pa_cons (pe_lst (pa_cons (pe_str) (pa_cons (pe_str) (pa_cons (pe_str) (pa_cons (pe_str) (pa_cons (pe_str) (pa_cons (pe_str) (pa_cons (pe_str) (pa_cons (pe_str) (pa_cons (pe_str) (pa_cons (pe_str) pa_nil))))))))))) pa_nil))))) pss_nil)
      (pss_cons (ps_set (i := 1) scTag.nd rfl (Or.inr rfl) pe_str)
      (pss_cons (ps_setLc (i := 2) (own := [("_law_k", 3)]) (g := gName 3) (tt := tYes) rfl scTag.nd rfl rfl (sw_true rfl rfl rfl (by decide +kernel)) (pi_range1 rfl T.nRange (pa_cons (pe_call GO hr rfl mO FO.kp bO .nil pass0 (pa_cons (pv 0) (pa_cons (pe_lst (pa_cons (pe_int) (pa_cons (pe_int) (pa_cons (pe_int) (pa_cons (pe_int) (pa_cons (pe_int) pa_nil)))))) pa_nil))) pa_nil))
          (blkOk_by (own := [("_law_k", 3)]) (N := ["_law_source_here", "_law_small", "_law_signs", "_law_k"]) (sc := defScope sTag) (by decide +kernel)) (fun _ _ _ _ _ => pg_name (i := 3) scTag.nd rfl (Or.inl rfl)) (fun _ _ _ _ _ => pts_nil)
          (fun _ _ _ _ _ => pe_call GO hr rfl mO FO.kp bO .nil pass0 (pa_cons (pv 0) (pa_cons (pe_op op_add_str (pv 1) pe_str) pa_nil))))
      (pss_one (ps_ret (pe_op op_add_str (pe_call GO hr rfl mO FO.kp bO .nil pass0 (pa_cons (pv 0) (pa_cons (pv 1) pa_nil))) (pe_join pe_str (pv 2))))))), ?_⟩
    refine ⟨_, rfl, p, 3, b, rfl, hs, by omega, by decide, by decide, fun d H1 d0 d1 B1 S1 => ⟨rfl, _, rfl, ite2 (fun c => ?_) (fun c => ?_)⟩⟩
    · refine ⟨_, rfl, by show 10 ≤ sizeLine; decide, fun l nl => ⟨p, .ref l, b + 1, rfl, S1.same (same_put nl), by omega, .inl ⟨l, _, rfl, S1.ne nl, SqL.of upd_same, by show 0 < 10; decide, by show 10 ≤ 1000; decide, fun y H2 hy B2 S2 => ?_⟩⟩⟩
      have hy' : y ∈ words.map V.str := hy
      obtain ⟨z, hz, rfl⟩ := List.mem_map.mp hy'
      exact q z H2 (words_ok z hz) (B1.trans ((Same.but (same_put nl) p).trans B2)) (S2.mono (by omega))
    · refine ⟨_, rfl, by show 5 ≤ sizeLine; decide, fun l nl => ⟨p, .ref l, b + 1, rfl, S1.same (same_put nl), by omega, .inl ⟨l, _, rfl, S1.ne nl, SqL.of upd_same, by show 0 < 5; decide, by show 5 ≤ 1000; decide, fun y H2 hy B2 S2 => ?_⟩⟩⟩
      have hy' : y ∈ ([0, 0, 1, 2, 7] : List Int).map V.int := hy
      obtain ⟨n, hn, rfl⟩ := List.mem_map.mp hy'
      have n0 : 0 ≤ n ∧ n ≤ 7 := by
        have : ∀ n ∈ ([0, 0, 1, 2, 7] : List Int), 0 ≤ n ∧ n ≤ 7 := by decide
        exact this n hn
      have B12 : But p H H2 := B1.trans ((Same.but (same_put nl) p).trans B2)
      refine ⟨n, rfl, by omega, by omega, fun D nD => lc_it (walk_range (lo := 0) (n := n.toNat)) (fun j H' => But p H2 H' ∧ Src H' p (b + 2 + j) ∧ ∃ zs : List Str, zs.length = j ∧ (∀ z ∈ zs, sign1 z) ∧ H' D = some (.lst (zs.map V.str)))
        ⟨Same.but (same_put nD) p, S2.same (same_put nD), [], rfl, (fun _ h => nomatch h), upd_same⟩ (fun _ _ _ _ => trivial) ?_ ?_⟩
      · rintro j x H3 H4 hj ⟨B3, S3, zs, lz, hz, e3⟩ ⟨rfl, rfl⟩
        have nDp : D ≠ p := S2.ne nD
        refine ⟨rfl, ?_⟩
        refine ⟨_, rfl, _, rfl, _, _, rfl, rfl, by show 26 + 10 ≤ sizeLine; decide, p, .str _, b + 2 + j, rfl, S3, by omega, .inr ⟨_, rfl, by decide +kernel, by decide +kernel, fun c H5 hc B5 S5 => ⟨zs.map V.str, B5 _ _ nDp e3, ?_, ?_, ?_, zs ++ [⟨#[c]⟩], ?_, ?_, ?_⟩⟩⟩
        · rw [List.length_map]
          exact small1000 (by omega)
        · intro a o na e
          rw [upd_ne (ne_of_none e nD)]
          exact B5 _ _ na (B3 _ _ na e)
        · obtain ⟨A0, B0, t0, e0, r⟩ := S5
          exact ⟨A0, B0, t0, by rw [upd_ne nDp.symm]; exact e0, r⟩
        · rw [List.length_append, lz]
          rfl
        · intro z h
          rcases List.mem_append.mp h with h | h
          · exact hz z h
          · obtain rfl := List.mem_singleton.mp h
            exact ⟨c, rfl, signs_ok c hc⟩
        · rw [upd_same, List.map_append]
          rfl
      · rintro H3 ⟨B3, S3, zs, lz, hz, e3⟩
        have nDp : D ≠ p := S2.ne nD
        refine ⟨_, rfl, _, rfl, p, .str _, b + 2 + n.toNat, rfl, S3, by omega, .inr ⟨_, rfl, by decide +kernel, by decide +kernel, fun c H5 hc B5 S5 => ?_⟩⟩
        refine ⟨⟨_, rfl⟩, _, rfl, Str.ofString "", D, zs, rfl, rfl, .inl (SqL.of (B5 _ _ nDp e3)), ?_, _, _, rfl, rfl, ?_, ?_⟩
        · rw [sign_sum zs hz, show (Str.ofString "").length = 0 from rfl]
          omega
        · have hj : (Txt.join (Str.ofString "") zs).length ≤ 7 := by
            obtain ⟨h1, _⟩ := flat_signs zs hz
            show (Txt.join (Str.ofString "") zs).cps.size ≤ 7
            rw [← Array.length_toList]
            show (TL.tl (Txt.join (Str.ofString "") zs)).length ≤ 7
            rw [TL.join_eq, TL.tl_join, show TL.tl (Str.ofString "") = [] from rfl, joinL_nil, h1]
            omega
          show 1 + _ ≤ _
          have : 8 ≤ sizeLine := by decide
          omega
        · exact q _ H5 (name_mk (letters_ok c hc) hz (by omega)) (B12.trans (B3.trans B5)) (S5.mono (by omega))
end
section
variable {P : Program} {w : World} {K : PySem.W.Frag} {mg : Str → Option Value} {base : Heap}
theorem scTags : FnScope ["_law_source_here", "_law_many", "_law_found", "_law_k", "_law_tag_here", "_law_spare", "_law_j", "_law_each"] ["_law_source_here", "_law_many"] (defScope sTags) := ⟨rfl, rfl, rfl, by decide +kernel, rfl, by decide +kernel, by decide +kernel⟩
theorem ok_tags {f fP fO fT : Addr} {fd dP dO dT : FuncData} (F : Fun K "_law_tags" "_law_tags" sTags f fd) (T : Bt mg) (FP : Fun K "_law_pick" "_law_pick" sPick fP dP) (bP : Binds K dP ["_law_source_here", "_law_many"] []) (mP : mg "_law_pick" = some (.ref fP))
    (FO : Fun K "_law_one" "_law_one" sOne fO dO) (bO : Binds K dO ["_law_source_here", "_law_things"] []) (mO : mg "_law_one" = some (.ref fO))
    (FT : Fun K "_law_tag" "_law_tag" sTag fT dT) (bT : Binds K dT ["_law_source_here"] []) (mT : mg "_law_tag" = some (.ref fT)) : FnOk P w K mg base CX0 4 f fd ["_law_source_here", "_law_many"] spTags := by
  have GT : FnOk P w K mg base CX0 3 fT dT ["_law_source_here"] spTag := ok_tag FT T FP bP mP FO bO mO
  refine F.ok scTags (fun vs H Q E h => ?_) (fun cdv A outer s H vs Q E hr h => ?_)
  · obtain ⟨p, m, b, rfl, _⟩ := h
    rfl
  · obtain ⟨p, m, b, rfl, m0, m1, hs, hb, q⟩ := h
    refine ⟨_, pss_cons (ps_set (i := 2) scTags.nd rfl (Or.inr rfl) (pe_lst pa_nil))
      (pss_cons (ps_for PassesOwn.never rfl (pi_range1 rfl T.nRange (pa_cons (pv 1) pa_nil)) (pg_name (i := 3) scTags.nd rfl (Or.inl rfl))
        (pss_cons (ps_set (i := 4) scTags.nd rfl (Or.inr rfl) (pe_call GT hr rfl mT FT.kp bT .nil pass0 (pa_cons (pv 0) pa_nil)))
        (pss_cons (ps_set (i := 5) scTags.nd rfl (Or.inl rfl) (pe_op op_cat (pe_lst (pa_cons (pv 4) pa_nil)) (pe_lc (own := [("_law_j", 6)]) (g := gName 6) (tt := tYes) rfl scTags.nd (pi_range1 rfl T.nRange (pa_cons (pv 1) pa_nil))
            (blkOk_by (own := [("_law_j", 6)]) (N := ["_law_source_here", "_law_many", "_law_found", "_law_k", "_law_tag_here", "_law_spare", "_law_j", "_law_each"]) (sc := defScope sTags) (by decide +kernel)) (fun _ _ _ _ _ => pg_name (i := 6) scTags.nd rfl (Or.inl rfl)) (fun _ _ _ _ _ => pts_nil)
            (fun _ _ _ _ _ => pe_op op_add_str (pe_slice sl_str (pv 4) po_none (po_some pe_int)) (pe_callTy call_str_int (by rfl) T.nStr PyProof.Rows.boot_str (pa_cons (pv 6) pa_nil))))))
        (pss_one (ps_expr (pe_bm PySem.F.plainAttrs_list PySem.F.slot_list_append PySem.F.type_list_append mt_append (pv 2) (pa_cons (pe_ix ix_list (pe_lc (own := [("_law_each", 7)]) (g := gName 7) (tt := tTest (tOp (rIn K true) (tVar 7) (tVar 2))) rfl scTags.nd (pi_list (pv 5))
            (blkOk_by (own := [("_law_each", 7)]) (N := ["_law_source_here", "_law_many", "_law_found", "_law_k", "_law_tag_here", "_law_spare", "_law_j", "_law_each"]) (sc := defScope sTags) (by decide +kernel)) (fun _ _ _ _ _ => pg_name (i := 7) scTags.nd rfl (Or.inl rfl)) (fun _ _ _ _ _ => pts_one (pt_cmpR op_notIn_seq (pv 7) (pv 2) (by rfl)))
            (fun _ _ _ _ _ => pv 7)) pe_int (fun _ _ => rfl)) pa_nil)))))))
      (pss_one (ps_ret (pv 2)))), ?_⟩
    refine ⟨Nat.zero_le _, fun l nl => ?_⟩
    have nlp : l ≠ p := hs.ne nl
    refine ⟨_, rfl, m, rfl, by omega, by omega, for_it (walk_range (lo := 0) (n := (m : Int).toNat)) (fun i σ H' => ∃ (x3 x4 x5 : Option V) (zs : List Str), σ = [some (.ref p), some (.int m), some (.ref l), x3, x4, x5, none, none] ∧ But p H H' ∧ Src H' p (b + 12 * i) ∧
        zs.length = i ∧ zs.Nodup ∧ (∀ z ∈ zs, isName z = true) ∧ H' l = some (.lst (zs.map V.str)))
      ⟨_, _, _, [], rfl, Same.but (same_put nl) p, hs.same (same_put nl), rfl, List.nodup_nil, (fun _ h => nomatch h), upd_same⟩ (fun _ _ _ _ _ => trivial) ?_ ?_⟩
    · rintro i x σ H1 H2 hi ⟨x3, x4, x5, zs, rfl, B1, S1, lz, nz, hz, e1⟩ ⟨rfl, rfl⟩
      have hi' : i < m := by omega
      refine ⟨_, rfl, p, b + 12 * i, rfl, S1, by omega, fun z H3 hn B3 S3 => ?_⟩
      have e3 := B3 _ _ nlp e1
      have B13 := B1.trans B3
      refine ⟨_, rfl, by show 1 ≤ sizeLine; decide, fun l1 n1 => ?_⟩
      refine ⟨_, rfl, m, rfl, by omega, by omega, fun D nD => lc_it (walk_range (lo := 0) (n := (m : Int).toNat)) (fun j H' => Same (upd H3 l1 (.lst [.str z])) H' ∧ H' D = some (.lst (((List.range j).map (cand z)).map V.str)))
        ⟨same_put nD, upd_same⟩ (fun _ _ _ _ => trivial) ?_ ?_⟩
      · rintro j y H4 H5 hj ⟨s4, e4⟩ ⟨rfl, rfl⟩
        have hj9 : j < 9 := by omega
        have zl : z.length ≤ 8 := by
          have h8 := hn
          unfold isName at h8
          simp only [Bool.and_eq_true, decide_eq_true_eq] at h8
          exact h8.1
        refine ⟨rfl, ?_⟩
        refine ⟨_, rfl, 6, rfl, z, rfl, ?_, _, rfl, 0 + (j : Int), rfl, ?_, _, _, rfl, rfl, ?_, ((List.range j).map (cand z)).map V.str, e4, ?_, ?_, ?_⟩
        · have : 8 ≤ sizeLine := by decide
          omega
        · have : ∀ j : Nat, j < 9 → ((0 : Int) + (j : Int)).natAbs.log2 < 1920 := by decide
          exact this j hj9
        · have h1 : (cutS z none (some 6)).length ≤ 6 := by
            show (TL.tl (cutS z none (some 6))).length ≤ 6
            rw [cut_tl, List.length_take]
            omega
          have h2 : (Str.ofString (toString ((0 : Int) + (j : Int)))).length = 1 := by
            show (TL.tl (Str.ofString (toString ((0 : Int) + (j : Int))))).length = 1
            rw [digit_tl j hj9]
            rfl
          have : 8 ≤ sizeLine := by decide
          omega
        · rw [List.length_map, List.length_map, List.length_range]
          exact small1000 (by omega)
        · intro a o e
          rw [upd_ne (ne_of_none e nD)]
          exact s4 a o e
        · rw [upd_same, List.range_succ, List.map_append, List.map_append]
          rfl
      · rintro H4 ⟨s4, e4⟩
        have em : ((m : Int)).toNat = m := rfl
        rw [em] at e4
        refine ⟨l1, D, _, _, rfl, rfl, s4 _ _ upd_same, e4, ?_, fun p2 n2 => ?_⟩
        · rw [List.length_map, List.length_map, List.length_range]
          exact Nat.le_of_lt (small1000 (by show 1 + m ≤ 1000; omega))
        have s34 : Same H3 (upd H4 p2 (.lst ([.str z] ++ ((List.range m).map (cand z)).map V.str))) := (same_put n1).trans (s4.trans (same_put n2))
        have e2 : (upd H4 p2 (.lst ([.str z] ++ ((List.range m).map (cand z)).map V.str))) p2 = some (.lst ((z :: (List.range m).map (cand z)).map V.str)) := upd_same
        revert s34 e2
        generalize upd H4 p2 (.lst ([.str z] ++ ((List.range m).map (cand z)).map V.str)) = H5
        intro s34 e2
        have el5 := s34 _ _ e3
        obtain ⟨y0, r0, ef⟩ := spare_new (z := z) (zs := zs) m1 (by omega)
        obtain ⟨hy1, hy2⟩ := spare_is m1 hn ef
        refine ⟨_, rfl, .inl ⟨rfl, _, SqL.of el5⟩, _, rfl, p2, rfl, ⟨_, SqL.of e2⟩, fun D2 nD2 => lc_it (walk_list (K := K) (a := p2) (xs := (z :: (List.range m).map (cand z)).map V.str))
          (fun j H' => Same H5 H' ∧ H' D2 = some (.lst ((((z :: (List.range m).map (cand z)).take j).filter fun y => !decide (y ∈ zs)).map V.str))) ⟨same_put nD2, upd_same⟩ (fun _ _ _ h => h.1.seq (SqL.of e2)) ?_ ?_⟩
        · rintro j y H6 H7 hj ⟨s6, e6⟩ ⟨rfl, hy⟩
          rw [List.getElem?_map] at hy
          obtain ⟨y, hy', rfl⟩ : ∃ y', (z :: (List.range m).map (cand z))[j]? = some y' ∧ y = V.str y' := by
            cases e : (z :: (List.range m).map (cand z))[j]? with
            | none => rw [e] at hy; cases hy
            | some y' => rw [e] at hy; exact ⟨y', rfl, (Option.some.inj hy).symm⟩
          have tk : (z :: (List.range m).map (cand z)).take (j + 1) = (z :: (List.range m).map (cand z)).take j ++ [y] := by
            rw [List.take_add_one, hy']
            rfl
          refine ⟨rfl, _, rfl, _, rfl, l, _, rfl, .inl (SqL.of (s6 _ _ el5)), rfl, flat_strsN zs, _, rfl, ?_⟩
          show if (!inV (.str y) (zs.map V.str)) = true then _ else _
          rw [inV_strs]
          by_cases hm : y ∈ zs
          · rw [decide_eq_true hm]
            refine iteF ⟨s6, ?_⟩
            rw [tk, List.filter_append, e6]
            simp [hm]
          · rw [decide_eq_false hm]
            refine ⟨_, rfl, _, e6, ?_, ?_, ?_⟩
            · rw [List.length_map]
              refine small1000 (Nat.le_trans (List.length_filter_le _ _) ?_)
              rw [List.length_take, List.length_cons, List.length_map, List.length_range]
              omega
            · intro a o e
              rw [upd_ne (ne_of_none e nD2)]
              exact s6 a o e
            · rw [upd_same, tk, List.filter_append, List.map_append]
              simp [hm]
        · rintro H6 ⟨s6, e6⟩
          rw [List.length_map, List.take_length, ef] at e6
          have el6 := s6 _ _ el5
          refine ⟨D2, _, 0, .str y0, rfl, rfl, SqL.of e6, atI_nat (j := 0) rfl, l, _, _, rfl, rfl, el6, ?_, ?_⟩
          · rw [List.length_map]
            exact small1000 (by omega)
          · have S6 : Src H6 p (b + 12 * (i + 1)) := (S3.same (s34.trans s6)).mono (by omega)
            refine ⟨_, _, _, zs ++ [y0], rfl, fun a o na e => ?_, ?_, ?_, ?_, ?_, ?_⟩
            · rw [upd_ne (ne_of_none e nl)]
              exact (s34.trans s6) _ _ (B13 a o na e)
            · obtain ⟨A0, B0, t0, e0, r⟩ := S6
              exact ⟨A0, B0, t0, by rw [upd_ne nlp.symm]; exact e0, r⟩
            · rw [List.length_append, lz]
              rfl
            · refine List.nodup_append.mpr ⟨nz, List.nodup_cons.mpr ⟨List.not_mem_nil, List.nodup_nil⟩, fun a ha c hc e => ?_⟩
              obtain rfl := List.mem_singleton.mp hc
              exact hy2 (e ▸ ha)
            · intro y hy
              rcases List.mem_append.mp hy with hy | hy
              · exact hz y hy
              · obtain rfl := List.mem_singleton.mp hy
                exact hy1
            · rw [upd_same, List.map_append]
              rfl
    · rintro σ H1 ⟨x3, x4, x5, zs, rfl, B1, S1, lz, nz, hz, e1⟩
      exact ⟨_, rfl, q l zs H1 lz nz hz B1 nl nlp e1 (S1.mono (by have em : ((m : Int)).toNat = m := rfl; omega))⟩
end
abbrev sInteger : Stmt := top 28
abbrev sName : Stmt := top 29
abbrev sLetter : Stmt := top 30
abbrev sDigit : Stmt := top 31
structure Kt (mg : Str → Option Value) : Prop where
  nIsi : mg "isinstance" = none
  nInt : mg "int" = none
  nBool : mg "bool" = none
  nStr : mg "str" = none
  nLen : mg "len" = none
  nAll : mg "all" = none
  nTuple : mg "tuple" = none
section
variable {P : Program} {w : World} {K : PySem.W.Frag} {mg : Str → Option Value} {base : Heap}
theorem scLetter : FnScope ["sign"] ["sign"] (defScope sLetter) := ⟨rfl, rfl, rfl, by decide +kernel, rfl, by decide +kernel, by decide +kernel⟩
theorem scDigit : FnScope ["sign"] ["sign"] (defScope sDigit) := ⟨rfl, rfl, rfl, by decide +kernel, rfl, by decide +kernel, by decide +kernel⟩
theorem ok_letter {f : Addr} {fd : FuncData} (F : Fun K "_is_letter" "_is_letter" sLetter f fd) : FnOk P w K mg base CX0 1 f fd ["sign"] (spSign low) := by
  refine F.ok scLetter (fun vs H Q E h => ?_) (fun cdv A outer s H vs Q E hr h => ?_)
  · obtain ⟨c, rfl, _⟩ := h
    rfl
  · obtain ⟨c, rfl, q⟩ := h
    refine ⟨_, pss_one (ps_ret (pe_chain op_le_str op_le_str pe_str (pv 0) pe_str)), ?_⟩
    refine ⟨_, rfl, _, _, rfl, rfl, _, rfl, ?_⟩
    rw [low_is] at q
    by_cases h1 : decide ([c] < [97]) = true
    · have e : (!decide ([c] < [97])) = false := by rw [h1]; rfl
      rw [e, Bool.false_and] at q
      show if (!decide ([c] < [97])) = true then _ else _
      rw [e]
      exact q
    · have e : (!decide ([c] < [97])) = true := by rw [Bool.eq_false_iff.mpr h1]; rfl
      rw [e, Bool.true_and] at q
      show if (!decide ([c] < [97])) = true then _ else _
      rw [e]
      exact ⟨_, _, rfl, rfl, q⟩
theorem ok_digit {f : Addr} {fd : FuncData} (F : Fun K "_is_digit" "_is_digit" sDigit f fd) : FnOk P w K mg base CX0 1 f fd ["sign"] (spSign dig) := by
  refine F.ok scDigit (fun vs H Q E h => ?_) (fun cdv A outer s H vs Q E hr h => ?_)
  · obtain ⟨c, rfl, _⟩ := h
    rfl
  · obtain ⟨c, rfl, q⟩ := h
    refine ⟨_, pss_one (ps_ret (pe_chain op_le_str op_le_str pe_str (pv 0) pe_str)), ?_⟩
    refine ⟨_, rfl, _, _, rfl, rfl, _, rfl, ?_⟩
    rw [dig_is] at q
    by_cases h1 : decide ([c] < [48]) = true
    · have e : (!decide ([c] < [48])) = false := by rw [h1]; rfl
      rw [e, Bool.false_and] at q
      show if (!decide ([c] < [48])) = true then _ else _
      rw [e]
      exact q
    · have e : (!decide ([c] < [48])) = true := by rw [Bool.eq_false_iff.mpr h1]; rfl
      rw [e, Bool.true_and] at q
      show if (!decide ([c] < [48])) = true then _ else _
      rw [e]
      exact ⟨_, _, rfl, rfl, q⟩
theorem scInteger : FnScope ["value"] ["value"] (defScope sInteger) := ⟨rfl, rfl, rfl, by decide +kernel, rfl, by decide +kernel, by decide +kernel⟩
theorem ok_integer {f : Addr} {fd : FuncData} (F : Fun K "is_integer" "is_integer" sInteger f fd) (T : Kt mg) : FnOk P w K mg base CX0 1 f fd ["value"] (spInteger K) := by
  refine F.ok scInteger (fun vs H Q E h => ?_) (fun cdv A outer s H vs Q E hr h => ?_)
  · obtain ⟨v, b, rfl, _⟩ := h
    rfl
  · obtain ⟨v, b, rfl, ⟨t, b1, b2, ty, k1, k2, rfl⟩, q⟩ := h
    refine ⟨_, pss_one (ps_ret (pe_and (pe_callB call_isi (by rfl) T.nIsi (by decide +kernel) (pa_cons (pv 0) (pa_cons (pe_bltn (v := .ty "int") (by rfl) T.nInt (by decide +kernel) rfl) pa_nil))) (pe_one (pe_not (pe_callB call_isi (by rfl) T.nIsi (by decide +kernel) (pa_cons (pv 0) (pa_cons (pe_bltn (v := .ty "bool") (by rfl) T.nBool (by decide +kernel) rfl) pa_nil))))))), ?_⟩
    refine ⟨v, rfl, v, _, t, _, b1, rfl, .ty "int", ty, k1, b1, rfl, ?_⟩
    cases b1 with
    | false => exact q
    | true => exact ⟨v, rfl, v, _, t, _, b2, rfl, .ty "bool", ty, k2, b2, rfl, q⟩
theorem scName : FnScope ["value", "sign"] ["value"] (defScope sName) := ⟨rfl, rfl, rfl, by decide +kernel, rfl, by decide +kernel, by decide +kernel⟩
theorem ok_name {f fL fD : Addr} {fd dL dD : FuncData} {mt : Tok} (F : Fun K "is_name" "is_name" sName f fd) (T : Kt mg) (mMax : mg "MAX_NAME" = some (.int 8 mt)) (FL : Fun K "_is_letter" "_is_letter" sLetter fL dL) (bL : Binds K dL ["sign"] []) (mL : mg "_is_letter" = some (.ref fL))
    (FD : Fun K "_is_digit" "_is_digit" sDigit fD dD) (bD : Binds K dD ["sign"] []) (mD : mg "_is_digit" = some (.ref fD)) : FnOk P w K mg base CX0 2 f fd ["value"] (spIsName K) := by
  have GL : FnOk P w K mg base CX0 1 fL dL ["sign"] (spSign low) := ok_letter FL
  have GD : FnOk P w K mg base CX0 1 fD dD ["sign"] (spSign dig) := ok_digit FD
  refine F.ok scName (fun vs H Q E h => ?_) (fun cdv A outer s H vs Q E hr h => ?_)
  · obtain ⟨v, b, rfl, _⟩ := h
    rfl
  · obtain ⟨v, b, rfl, hb, q⟩ := h
    refine ⟨_, pss_cons (ps_if (PW.pt (pw_or (pt_not (pt_val (pe_callB call_isi (by rfl) T.nIsi (by decide +kernel) (pa_cons (pv 0) (pa_cons (pe_bltn (v := .ty "str") (by rfl) T.nStr (by decide +kernel) rfl) pa_nil))))) (pw_or1 (pt_not (pt_chain op_le op_le pe_int (pe_callB call_len_str (by rfl) T.nLen PySem.boot_len (pa_cons (pv 0) pa_nil)) (pe_glob (v := .int 8) rfl mMax ⟨mt, rfl⟩)))))) (pss_one (ps_ret pe_bl)) pss_nil)
      (pss_one (ps_ret (pe_and (pe_call GL hr rfl mL FL.kp bL .nil pass0 (pa_cons (pe_ix ix_str (pv 0) pe_int (fun _ _ => rfl)) pa_nil)) (pe_one (pe_callB (cr_all rfl) (by rfl) T.nAll (by decide +kernel) (pa_cons
        (pe_lc (own := [("sign", 1)]) (g := gName 1) (tt := tYes) rfl scName.nd (pi_str (pv 0)) (blkOk_by (own := [("sign", 1)]) (N := ["value", "sign"]) (sc := defScope sName) (by decide +kernel)) (fun _ _ _ _ _ => pg_name (i := 1) scName.nd rfl (Or.inl rfl)) (fun _ _ _ _ _ => pts_nil)
          (fun _ _ _ _ _ => pe_or (pe_call GL hr rfl mL FL.kp bL .nil pass0 (pa_cons (pv 1) pa_nil)) (pe_one (pe_call GD hr rfl mD FD.kp bD .nil pass0 (pa_cons (pv 1) pa_nil))))) pa_nil)))))), ?_⟩
    rcases hb with ⟨z, rfl, hz, rfl⟩ | ⟨t, ty, k, rfl⟩
    · refine ⟨_, rfl, _, _, _, _, true, rfl, .ty "str", .base (.str z), kit_ty (by decide +kernel), true, rfl, ?_⟩
      show if (!true) = true then _ else _
      refine iteF ⟨_, rfl, z, rfl, by rw [sizeLine_eq]; exact hz, _, _, rfl, rfl, _, rfl, ?_⟩
      have lz : z.cps.toList.length = z.length := rfl
      by_cases c1 : (1 : Int) ≤ (z.length : Int)
      · rw [decide_eq_true c1]
        refine iteT ⟨_, _, rfl, rfl, _, rfl, ?_⟩
        by_cases c2 : (z.length : Int) ≤ 8
        · rw [decide_eq_true c2]
          show if (!true) = true then _ else _
          refine iteF ?_
          obtain ⟨c, r, ez⟩ : ∃ c r, z.cps.toList = c :: r := by
            cases e : z.cps.toList with
            | nil =>
              rw [e] at lz
              simp at lz
              omega
            | cons c r => exact ⟨c, r, rfl⟩
          have nm : isName z = (low c && r.all fun d => low d || dig d) := by
            unfold isName
            rw [ez]
            have : (c :: r).length ≤ 8 := by rw [← ez, lz]; omega
            rw [decide_eq_true this, Bool.true_and]
          rw [nm] at q
          refine ⟨_, rfl, z, 0, c, rfl, rfl, by rw [sizeLine_eq]; exact hz, by rw [ez]; exact atI_nat (j := 0) rfl, c, rfl, low c, rfl, ?_⟩
          by_cases hl : low c = true
          · rw [hl] at q ⊢
            refine iteT ⟨_, rfl, z, rfl, fun D nD => lc_it (walk_str (z := z)) (fun i H' => Same H H' ∧ H' D = some (.lst (((z.cps.toList.take i).map fun d => low d || dig d).map V.bl))) ⟨same_put nD, upd_same⟩ (fun _ _ _ _ => trivial) ?_ ?_⟩
            · rintro i x H1 H2 hi ⟨s1, e1⟩ ⟨rfl, d, hd, rfl⟩
              have hd' : z.cps.toList[i]? = some d := by rw [Array.getElem?_toList]; exact hd
              have hsz : i < z.cps.toList.length := (List.getElem?_eq_some_iff.mp hd').1
              have tk : z.cps.toList.take (i + 1) = z.cps.toList.take i ++ [d] := by
                rw [List.take_add_one, hd']
                rfl
              have done : ∃ acc, H2 D = some (.lst acc) ∧ acc.length < sizeLine ∧ Same H (upd H2 D (.lst (acc ++ [V.bl (low d || dig d)]))) ∧ (upd H2 D (.lst (acc ++ [V.bl (low d || dig d)]))) D = some (.lst (((z.cps.toList.take (i + 1)).map fun d => low d || dig d).map V.bl)) := by
                refine ⟨_, e1, ?_, ?_, ?_⟩
                · rw [List.length_map, List.length_map, List.length_take]
                  exact small1000 (by omega)
                · intro a o e
                  rw [upd_ne (ne_of_none e nD)]
                  exact s1 a o e
                · rw [upd_same, tk, List.map_append, List.map_append]
                  rfl
              refine ⟨rfl, _, rfl, d, rfl, low d, rfl, ?_⟩
              by_cases h1 : low d = true
              · rw [h1, Bool.true_or] at done
                rw [h1]
                exact iteT done
              · rw [Bool.eq_false_iff.mpr h1, Bool.false_or] at done
                rw [Bool.eq_false_iff.mpr h1]
                exact iteF ⟨_, rfl, d, rfl, done⟩
            · rintro H1 ⟨s1, e1⟩
              have et : z.cps.toList.take z.cps.size = z.cps.toList := List.take_of_length_le (Nat.le_of_eq (by simp))
              rw [et] at e1
              refine ⟨D, _, rfl, SqL.of e1, ?_⟩
              have al : ((z.cps.toList.map fun d => low d || dig d).all id) = (true && r.all fun d => low d || dig d) := by
                rw [ez, List.map_cons, List.all_cons, List.all_map, hl]
                rfl
              rw [al]
              exact q H1 s1
          · rw [Bool.eq_false_iff.mpr hl] at q ⊢
            exact iteF (q H (Same.refl _))
        · rw [decide_eq_false c2]
          show if (!false) = true then _ else _
          refine iteT ?_
          have nm : isName z = false := by
            unfold isName
            have : ¬ z.cps.toList.length ≤ 8 := by rw [lz]; omega
            simp only [this, decide_false, Bool.false_and]
          rw [nm] at q
          exact q H (Same.refl _)
      · rw [decide_eq_false c1]
        refine iteF ⟨_, rfl, ?_⟩
        show if (!false) = true then _ else _
        refine iteT ?_
        have nm : isName z = false := by
          unfold isName
          have : z.cps.toList = [] := List.length_eq_zero_iff.mp (by rw [lz]; omega)
          rw [this]
          rfl
        rw [nm] at q
        exact q H (Same.refl _)
    · refine ⟨v, rfl, v, _, t, _, false, rfl, .ty "str", ty, k, false, rfl, ?_⟩
      exact q H (Same.refl _)
end
end K13


/-! defs that are called where no repr is under way: what they promise then, their calls, the end; repr of data -/
namespace Gd
open PySem PySem.Spec PyProof.Rows L2
/-- as FnOk, where no repr is under way -/
structure FnG (P : Program) (w : World) (K : PySem.W.Frag) (mg : Str → Option Value) (base : Heap) (k : Nat) (f : Addr) (fd : FuncData) (ps : List Str) (sp : Sp) : Prop where
  len : ∀ vs H Q E, sp vs H Q E → vs.length = ps.length
  run : ∀ (A : Around) (outer : List Env) (s : Shared) (H : Hp) (args : Args) (us : List Value) (vs : List V) (Q : VK) (E : XK), A.guards = some [] → Room k A → Env0 P w K mg base A outer s H → BindsTo s fd args (ps.zip us) → Vals vs us → sp vs H Q E →
    codeAny (model P w) A (.call (.ref f) args) (CR CX0 outer P w H s Q E) s
section
variable {P : Program} {w : World} {K : PySem.W.Frag} {mg : Str → Option Value} {base : Heap} {j k : Nat} {f : Addr} {fd : FuncData} {N ps : List Str} {sp : Sp}
theorem FnG.mono (F : FnG P w K mg base j f fd ps sp) (h : j ≤ k) : FnG P w K mg base k f fd ps sp := ⟨F.len, fun A outer s H args us vs Q E hq hr => F.run A outer s H args us vs Q E hq (hr.mono h)⟩
theorem _root_.L2.FnOk.toG (F : FnOk P w K mg base CX0 k f fd ps sp) : FnG P w K mg base k f fd ps sp := ⟨F.len, fun A outer s H args us vs Q E _ hr => F.run A outer s H args us vs Q E hr⟩
/-- a def by its body, which may count on that no repr is under way -/
theorem _root_.L2.Fun.okG {x qual : Str} {st : Stmt} (F : Fun K x qual st f fd) (S : FnScope N ps (defScope st)) (len : ∀ vs H Q E, sp vs H Q E → vs.length = ps.length)
    (body : ∀ (cdv : Value) (A : Around) (outer : List Env) (s : Shared) (H : Hp) (vs : List V) (Q : VK) (E : XK), (A.deeper (envOfC qual (defScope st) s.heap.objs.size f cdv)).guards = some [] → Room k (A.deeper (envOfC qual (defScope st) s.heap.objs.size f cdv)) → sp vs H Q E →
      ∃ t, PSs (cxOf CX0 P w K mg base N qual (defScope st) f cdv A outer s H E).nox (defBody st) t ∧ t { nx := fun _ H' => Q .non H', rt := Q } (start N vs) H) : FnG P w K mg base (k + 1) f fd ps sp := by
  obtain ⟨oc, od, kV, doc, pm, an, cdv, ct, osl, rfl, lk, hcd⟩ := F.ex
  refine ⟨len, fun A outer s H args us vs Q E hq hr e0 hb rv hsp => ?_⟩
  have KX : K.In s.heap := e0.mod.kin.keeps fun b o e => (e0.bs b o e).1
  have lim : s.heap.NoLimit := e0.mod.nolimit.keeps fun b o e => (e0.bs b o e).1
  refine codeAny_call_function hr.depth (KX _ _ lk) rfl S.co S.gen rfl (PySem.W.codeRec_of KX hcd) (hb _ _ _ _ ?_)
  refine wpAny_newFunctionEnv_cells S.kind (fun ⟨n, v⟩ hy => ?_) fun env he s1 x => ?_
  · rcases S.par n (List.of_mem_zip hy).1 with q | q
    · exact .inl q
    · exact .inr ⟨q, PySem.W.cellsFrom_some _ _ _ (.inl q)⟩
  subst he
  obtain ⟨t, ht, rd⟩ := body cdv A outer s H vs Q E hq (hr.deeper _) hsp
  refine ⟨lim.keeps x.toInCall.keep, codeAny_func (wpAny_mono (ht.nox.run [] s1 (start N vs) H _ (inv_start S hr.hd e0 (len _ _ _ _ hsp) rv x) rd) (fun fl z hz => ?_) fun e z hz => hz)⟩
  cases fl with
  | ret u =>
    obtain ⟨v, σ', H', J, r, q⟩ := hz
    exact ⟨v, H', J.os, J.bare, J.base, J.hok, r, q⟩
  | next =>
    obtain ⟨σ', H', J, q⟩ := hz
    exact ⟨V.non, H', J.os, J.bare, J.base, J.hok, rfl, q⟩
  | brk =>
    obtain ⟨_, _, _, q⟩ := hz
    exact q.elim
  | cont =>
    obtain ⟨_, _, _, q⟩ := hz
    exact q.elim
end
section
variable {X : Cx} {k : Nat} {f : Addr} {fd : FuncData} {ps : List Str} {sp : Sp} {dvs : List V} {ds : List Value} {E : XK} {x : Str} {p pos : Pos} {e : Expr} {es : List Expr} {t : TA}
theorem run_g {pins : List (Addr × Obj)} {σ : L2.St} {H : Hp} {s : Shared} {Q : VK} {us : List Value} {vs : List V} (F : FnG X.prog X.w X.K X.mg X.base k f fd ps sp) (hq : X.A.guards = some []) (hr : Room k X.A) (hb : Binds X.K fd ps ds) (hd : Vals dvs ds)
    (I : Inv X pins σ H s) (r : Vals vs us) (h : sp (vs ++ dvs) H Q E) : wpAny (model X.prog X.w) X.A (call (.ref f) us) (EP X pins σ Q) X.xe s := by
  have rr : Vals (vs ++ dvs) (us ++ ds) := r.append hd
  refine wpAny_call (codeAny_mono (F.run X.A X.stack s H ⟨us, []⟩ (us ++ ds) (vs ++ dvs) Q E hq hr I.env0 (hb s us I.kIn (by rw [← rr.length]; exact F.len _ _ _ _ h)) rr h) fun r z hz => ?_)
  cases r with
  | error e => exact False.elim hz
  | ok fl =>
    cases fl with
    | ret u => exact I.after hz
    | next => exact False.elim hz
    | brk => exact False.elim hz
    | cont => exact False.elim hz
/-- f(e, ..) -/
theorem pe_callG (F : FnG X.prog X.w X.K X.mg X.base k f fd ps sp) (hq : X.A.guards = some []) (hr : Room k X.A) (hg : Gl X x) (hm : X.mg x = some (.ref f)) (hk : PySem.W.keepIn X.K (.ref f) = true) (hb : Binds X.K fd ps ds) (hd : Vals dvs ds)
    (ha : PA X (e :: es) t) (hdb : (x == ("__debug__" : Str)) = false := by decide) (he : starEach (e :: es) X.env = (false, eval e X.env) :: starEach es X.env := by rfl) (hpl : (backTo pos (starEach es X.env)).any (·.1) = false := by rfl) :
    PE X (.Call (.Name x p) (e :: es) [] pos) (tCall sp dvs E t) :=
  ⟨fun pins s σ H Q I h => wpAny_Call_Name_kw (ld_glob I hg hm (PySem.W.callWith_K (h₀ := X.base) I.ok.mod.kin hk (thn (ha.run pos pins s σ H _ I h) fun us s1 ⟨vs, H1, I1, r, q⟩ => ⟨I1.kIn, run_g F hq hr hb hd I1 r q⟩) he hpl) hdb)⟩
/-- f() -/
theorem pe_callG0 (F : FnG X.prog X.w X.K X.mg X.base k f fd ps sp) (hq : X.A.guards = some []) (hr : Room k X.A) (hg : Gl X x) (hm : X.mg x = some (.ref f)) (hk : PySem.W.keepIn X.K (.ref f) = true) (hb : Binds X.K fd ps ds) (hd : Vals dvs ds)
    (hdb : (x == ("__debug__" : Str)) = false := by decide) : PE X (.Call (.Name x p) [] [] pos) (tCall sp dvs E tNil) :=
  ⟨fun pins s σ H Q I h => wpAny_Call_Name_kw (ld_glob I hg hm (PySem.W.callWith_K0 I.kIn hk (run_g (us := []) F hq hr hb hd I .nil h)) hdb)⟩
/-- data that a repr shows: no great text, number, nesting -/
structure Fits (m p : Nat) (d : PyData) : Prop where
  short : d.leavesShort 201 = true
  shows : d.showable = true
  size : d.weight ≤ m
  deep : d.depth ≤ p
mutual
theorem dp_plain {K : PySem.W.Frag} {H : Hp} : ∀ (d : PyData) (v : V), Dp K H v d → d.hasDict = false
  | .none, _, _ => rfl
  | .bool _, _, _ => rfl
  | .int _, _, _ => rfl
  | .str _, _, _ => rfl
  | .list ds, _, h => by
    cases h with
    | lst _ a =>
      simp only [PyData.hasDict]
      exact dps_plain ds _ a
  | .tuple ds, _, h => by
    cases h with
    | tup _ a =>
      simp only [PyData.hasDict]
      exact dps_plain ds _ a
  | .dict _, _, h => by cases h
theorem dps_plain {K : PySem.W.Frag} {H : Hp} : ∀ (ds : List PyData) (vs : List V), DpAll K H vs ds → PyData.hasDictAll ds = false
  | [], _, _ => rfl
  | d :: ds, _, h => by
    cases h with
    | cons a b => simp only [PyData.hasDictAll, dp_plain d _ a, dps_plain ds _ b, Bool.or_self]
end
theorem Fits.len {m p : Nat} {d : PyData} (f : Fits m p d) (hm : m ≤ 80000) : d.shown.length ≤ sizeLine := by
  have h := PyData.shown_le 201 (by decide) d f.short
  have := f.size
  rw [sizeLine_eq]
  omega
/-- repr(x), x data -/
def rRepr (K : PySem.W.Frag) : List V → Hp → VK → Prop := fun vs H Q => ∃ (v : V) (d : PyData), vs = [v] ∧ Dp K H v d ∧ Fits 80000 40 d ∧ Q (.str d.shown) H
theorem cr_repr (hq : X.A.guards = some []) (hu : X.A.units + 64 < cLine) : CallR X (.builtin "repr") (rRepr X.K) := by
  intro pins s σ H vs us Q I r h
  obtain ⟨v, d, rfl, hd, f, q⟩ := h
  have ln := f.len (Nat.le_refl _)
  have sh := f.shows
  have dp := f.deep
  obtain ⟨u, rfl, ru⟩ := vals1 r
  obtain ⟨as, rd⟩ := Dp.reads I d v u hd ru
  have hn := dp_plain d v hd
  have fin : ∀ (t : Tok) (z : Shared), Inv X pins σ H z → EP X pins σ Q (.str d.shown t) z := fun t z J => ⟨.str d.shown, H, J, ⟨t, rfl⟩, q⟩
  cases rd with
  | none => exact PySem.P.repr_of_none (fin _ _ (I.tok _))
  | bool b => exact PySem.P.repr_of_bool (fin _ _ (I.tok _))
  | int i t => exact PySem.P.repr_of_int (by simpa [PyData.showable] using sh) (fin _ _ (I.tok _))
  | str x t => exact PySem.P.repr_of_str (fin _ _ (I.tok _)) (by simpa only [PyData.shown] using ln)
  | list h1 h2 h3 h4 => exact repr_of_reads' (.list h1 h2 h3 h4) sh (fun z => by rw [hn] at z; cases z) hq (by omega) (fun _ _ e => e) (fun h' u tk k => fin _ _ (I.kept k)) ln
  | tuple h1 h2 h3 h4 => exact repr_of_reads' (.tuple h1 h2 h3 h4) sh (fun z => by rw [hn] at z; cases z) hq (by omega) (fun _ _ e => e) (fun h' u tk k => fin _ _ (I.kept k)) ln
  | dict h1 h2 h3 h4 h5 => cases hd
end
/-! ### the end -/
theorem call_top {P : Program} {w : World} {K : PySem.W.Frag} {mg mb : Str → Option Value} {k : Nat} {fa a : Addr} {fd : FuncData} {x : Str} {sp : Sp} {s : Shared} {us : List Value} {ns : List Int} (KX : K.In s.heap) (hg : s.heap.Ns mainGlobals mg) (hb : s.heap.Ns builtinsNs mb)
    (hbb : ∀ x : Str, x ≠ "__name__" → mb x = bootBuiltins x) (hlim : s.heap.NoLimit) (g0 : s.gens = #[]) (ha : s.heap.get? a = some { cls := .type "list", data := .seq us.toArray }) (hi : IntsAre us ns) (hl : ns.length ≤ sizeLine) (hr : Room k callerA)
    (F : ∀ base : Heap, K.In base → base.Ns mainGlobals mg → FnG P w K mg base k fa fd [x] sp) (bind : ∀ (s : Shared) (u : Value), BindsTo s fd ⟨[u], []⟩ [(x, u)])
    (hsp : ∀ H : Hp, SqL K H a (ns.map V.int) → sp [.ref a] H (fun v _ => v = .bl true) fun _ _ _ => False) :
    codeAny (model P w) callerA (.call (.ref fa) ⟨[.ref a], []⟩) (fun r z => r = .ok (.ret (.bool true)) ∧ OldK s.heap z.heap ∧ z.os = s.os ∧ AllBare z.gens) s := by
  have rv := vals_ints hi
  -- only the script may be tracked
  have main : ∀ H : Hp, (∀ b u, H b = some u → b = a ∧ ∃ o xs, u = .frz o (.lst xs)) → (H a ≠ none → K.lookup a = none) → SqL K H a (ns.map V.int) → HOk P w H s.heap →
      codeAny (model P w) callerA (.call (.ref fa) ⟨[.ref a], []⟩) (fun r z => r = .ok (.ret (.bool true)) ∧ OldK s.heap z.heap ∧ z.os = s.os ∧ AllBare z.gens) s := by
    intro H only hK hS hok
    have keep : ∀ {b : Addr} {o : Obj}, s.heap.get? b = some o → H b = none → (hidT s.heap H).get? b = some o := fun e n => hidT_get e n
    have dictNone : ∀ {b : Addr} {o : Obj} {es : Array DictEntry} {ep : Nat}, s.heap.get? b = some o → o.data = .dict es ep → H b = none := fun {b o es ep} e d => by
      cases q : H b with
      | none => rfl
      | some u =>
        rw [(only b u q).1, ha] at e
        cases e
        cases (show Data.seq us.toArray _ = Data.dict es ep from d)
    have ns' : ∀ {b : Addr} {m : Str → Option Value}, s.heap.Ns b m → (hidT s.heap H).Ns b m := fun {b m} ⟨o, es, ep, e, d, r⟩ => ⟨o, es, ep, keep e (dictNone e d), d, r⟩
    have KB : K.In (hidT s.heap H) := fun b o e => keep (KX b o e) (by
      cases q : H b with
      | none => rfl
      | some u =>
        have eb := (only b u q).1
        rw [eb] at e q
        rw [hK (by rw [q]; exact fun z => nomatch z)] at e
        cases e)
    have e0 : Env0 P w K mg (hidT s.heap H) callerA [] s H := ⟨rfl, ⟨KB, ns' hg, ⟨mb, ns' hb, hbb⟩, let ⟨mc, h1, h2⟩ := hlim; ⟨mc, ns' h1, h2⟩⟩, fun b o e => of_hidT e, Nat.le_of_eq (hidT_size _ _), trivial, fun b hb => absurd (show b ∈ ([] : List Addr) from hb) (by simp), hok, .of_eq g0⟩
    refine codeAny_mono ((F _ KB (ns' hg)).run callerA [] s H ⟨[.ref a], []⟩ [.ref a] [.ref a] _ _ rfl hr e0 (bind s (.ref a)) (.cons rfl .nil) (hsp H hS)) fun r z hz => ?_
    cases r with
    | error e => exact False.elim hz
    | ok fl =>
      cases fl with
      | next => exact False.elim hz
      | brk => exact False.elim hz
      | cont => exact False.elim hz
      | ret u =>
        obtain ⟨v, H', os, bare, un, hok', ru, q⟩ := hz
        obtain rfl : v = .bl true := q
        obtain rfl : u = Value.bool true := ru
        refine ⟨rfl, OldK.of_keep fun b o e => ?_, os, bare⟩
        cases q : H b with
        | none => exact un.keep b o e q (fun z => absurd (show b ∈ ([] : List Addr) from z) (by simp)) (by simp)
        | some u =>
          obtain ⟨_, ob, xs, rfl⟩ := only b u q
          have e1 := (hok b _ q).1
          have e2 := (hok' b _ (un.frzs b ob _ q)).1
          rw [e] at e1
          cases e1
          exact e2
  have ln : (ns.map V.int).length ≤ sizeLine := by rw [List.length_map]; exact hl
  cases hk : K.lookup a with
  | some o =>
    have e := KX a o hk
    rw [ha] at e
    cases e
    exact main (fun _ => none) (fun b u z => by cases (show (none : Option HO) = some u from z)) (fun z => absurd rfl z) (.inr ⟨_, us.toArray, _, hk, rfl, rfl, rfl, by rw [List.size_toArray, hi.length]; exact hl, by simpa using rv⟩) fun b u z => by cases (show (none : Option HO) = some u from z)
  | none =>
    refine main (fun b => if b = a then some (.frz { cls := .type "list", data := .seq us.toArray } (.lst (ns.map V.int))) else none) (fun b u z => ?_) (fun _ => hk) (.inl (.inr ⟨_, if_pos rfl⟩)) fun b u z => ?_
    · by_cases c : b = a
      · exact ⟨c, _, _, (Option.some.inj ((if_pos c).symm.trans z)).symm⟩
      · cases (if_neg c).symm.trans z
    · by_cases c : b = a
      · cases (if_pos c).symm.trans z
        subst c
        exact ⟨ha, ln, us, _, rv, ha⟩
      · cases (if_neg c).symm.trans z
/-- the case hc of k_head -/
theorem walk_g {l : PySem.W.OpenLaw} {n k : Nat} {q : Program} {loose : List Str} {XP : (Str → Option Value) → Heap → Prop} {YP : World → Heap → Prop} {d : DefRec} {K : Params → PySem.W.Frag} {sp : World → Sp} {x : Str} (hn : l.most = some n) (hn2 : n ≤ sizeLine) (hdf : d.params.defaults = []) (hr : Room k callerA)
    (hY : ∀ (w : World) (h : Heap), YP w h → (K w.params).In h)
    (F : ∀ (w : World) (mg : Str → Option Value) (fa : Addr) (h : Heap), (K w.params).In h → h.Ns mainGlobals mg → mg d.name = some (.ref fa) →
      ∃ fd : FuncData, (∀ (s : Shared) (u : Value), BindsTo s fd ⟨[u], []⟩ [(x, u)]) ∧ ∀ base : Heap, (K w.params).In base → base.Ns mainGlobals mg → FnG l.prog w (K w.params) mg base k fa fd [x] (sp w))
    (hsp : ∀ (w : World) (H : Hp) (a : Addr) (ns : List Int), ns.length ≤ n → SqL (K w.params) H a (ns.map V.int) → sp w [.ref a] H (fun v _ => v = .bl true) fun _ _ _ => False) :
    PySem.W.WalkO q loose XP YP l.row.toRowW d [] (fun f vs => PySem.call f vs) := by
  refine Att.attach_call hn hdf fun w s₀ s₁ mg mb fa o pm cd doc a vs ns G Y ho hd hcd hmg hobj hints hlen hg => ?_
  have KX := hY w _ Y
  obtain ⟨fd, hb, hF⟩ := F w mg fa _ KX G.T.g hmg
  exact call_top KX G.T.g G.T.b G.T.builtins G.T.nolimit hg hobj hints (Nat.le_trans hlen hn2) hr hF hb fun H hS => hsp w H a ns hlen hS
end Gd


/-! lines, some of them wrong: what is a line's cell, what a line, where the first wrong one stands -/
namespace Rng
open PySem L2 Bag Gd LamX
/-- lists stay lists, tuples and dicts stay as they are -/
def Kin (H H' : Hp) : Prop := ∀ a, (∀ xs, H a = some (.lst xs) → ∃ ys, H' a = some (.lst ys)) ∧ (∀ xs, H a = some (.tup xs) → H' a = some (.tup xs)) ∧ ∀ kvs, H a = some (.dK kvs) → H' a = some (.dK kvs)
theorem Kin.refl (H : Hp) : Kin H H := fun _ => ⟨fun xs e => ⟨xs, e⟩, fun _ e => e, fun _ e => e⟩
theorem Kin.trans {H H1 H2 : Hp} (a : Kin H H1) (b : Kin H1 H2) : Kin H H2 := fun c => ⟨fun xs e => by
  obtain ⟨ys, e1⟩ := (a c).1 xs e
  exact (b c).1 ys e1, fun xs e => (b c).2.1 xs ((a c).2.1 xs e), fun kvs e => (b c).2.2 kvs ((a c).2.2 kvs e)⟩
theorem _root_.L2.Same.kin {H H' : Hp} (s : Same H H') : Kin H H' := fun _ => ⟨fun xs e => ⟨xs, s _ _ e⟩, fun _ e => s _ _ e, fun _ e => s _ _ e⟩
theorem _root_.LamX.ExtN.kin {H H' : Hp} (s : ExtN H H') : Kin H H' := fun _ => ⟨fun xs e => ⟨xs, s _ _ e fun _ z => (nomatch z)⟩, fun _ e => s _ _ e fun _ z => (nomatch z), fun _ e => s _ _ e fun _ z => (nomatch z)⟩
theorem But.kin {c : Addr} {H H' : Hp} (b : But c H H') (h : ∀ u, H c = some u → ∃ xs, u = .lst xs) (h' : H c ≠ none → ∃ ys, H' c = some (.lst ys)) : Kin H H' := fun a => by
  by_cases e : a = c
  · subst e
    refine ⟨fun xs e => h' (by rw [e]; exact fun z => nomatch z), fun xs e => ?_, fun kvs e => ?_⟩
    · obtain ⟨_, z⟩ := h _ e
      cases z
    · obtain ⟨_, z⟩ := h _ e
      cases z
  · exact ⟨fun xs q => ⟨xs, b _ _ e q⟩, fun _ q => b _ _ e q, fun _ q => b _ _ e q⟩
theorem TupsAt.kin {α : Type} {f : α → List V} {H H' : Hp} {vs : List V} {as : List α} (h : TupsAt f H vs as) (k : Kin H H') : TupsAt f H' vs as := h.keep fun c ys e => (k c).2.1 ys e
/-- a cell of a line -/
inductive Cell (H : Hp) : V → Prop
  | non : Cell H .non
  | bl (b : Bool) : Cell H (.bl b)
  | int (i : Int) : Cell H (.int i)
  | str {z : Str} : z.length ≤ 1000 → Cell H (.str z)
  | lst {a : Addr} {xs : List V} : H a = some (.lst xs) → Cell H (.ref a)
  | dK {a : Addr} {kvs : List (Key × V)} : H a = some (.dK kvs) → Cell H (.ref a)
  | tup {a : Addr} {xs : List V} : H a = some (.tup xs) → Cell H (.ref a)
theorem Cell.kin {H H' : Hp} {v : V} (h : Cell H v) (k : Kin H H') : Cell H' v := by
  cases h with
  | non => exact .non
  | bl b => exact .bl b
  | int i => exact .int i
  | str h => exact .str h
  | lst e =>
    obtain ⟨ys, e⟩ := (k _).1 _ e
    exact .lst e
  | dK e => exact .dK ((k _).2.2 _ e)
  | tup e => exact .tup ((k _).2.1 _ e)
def nameV : V → Bool
  | .str z => isName z
  | _ => false
def intV : V → Bool
  | .int _ => true
  | _ => false
theorem IntB.tup {K : PySem.W.Frag} {H : Hp} {a : Addr} {xs : List V} (e : H a = some (.tup xs)) : IntB K H (.ref a) false := ⟨.type "tuple", false, false, .base (.tup e), kit_ty (by decide +kernel), kit_ty (by decide +kernel), rfl⟩
theorem Cell.isInt {K : PySem.W.Frag} {H : Hp} {v : V} (h : Cell H v) : IntB K H v (intV v) := by
  cases h with
  | non => exact .non
  | bl b => exact .bl b
  | int i => exact .int i
  | str h => exact .str _
  | lst e => exact .lst e
  | dK e => exact .dK e
  | tup e => exact .tup e
theorem Cell.isName {K : PySem.W.Frag} {H : Hp} {v : V} (h : Cell H v) : NameB K H v (nameV v) := by
  cases h with
  | non => exact .inr ⟨_, .base .non, kit_ty (by decide +kernel), rfl⟩
  | bl b => exact .inr ⟨_, .base (.bl b), kit_ty (by decide +kernel), rfl⟩
  | int i => exact .inr ⟨_, .base (.int i), kit_ty (by decide +kernel), rfl⟩
  | str h => exact .inl ⟨_, rfl, Nat.le_trans h (by decide), rfl⟩
  | lst e => exact .inr ⟨_, .base (.lst e), kit_ty (by decide +kernel), rfl⟩
  | dK e => exact .inr ⟨_, .base (.dK e), kit_ty (by decide +kernel), rfl⟩
  | tup e => exact .inr ⟨_, .base (.tup e), kit_ty (by decide +kernel), rfl⟩
/-- no tuple -/
inductive NoTup (H : Hp) : V → Prop
  | non : NoTup H .non
  | bl (b : Bool) : NoTup H (.bl b)
  | int (i : Int) : NoTup H (.int i)
  | str (z : Str) : NoTup H (.str z)
  | lst {a : Addr} {xs : List V} : H a = some (.lst xs) → NoTup H (.ref a)
  | dK {a : Addr} {kvs : List (Key × V)} : H a = some (.dK kvs) → NoTup H (.ref a)
theorem NoTup.kin {H H' : Hp} {v : V} (h : NoTup H v) (k : Kin H H') : NoTup H' v := by
  cases h with
  | non => exact .non
  | bl b => exact .bl b
  | int i => exact .int i
  | str h => exact .str _
  | lst e =>
    obtain ⟨ys, e⟩ := (k _).1 _ e
    exact .lst e
  | dK e => exact .dK ((k _).2.2 _ e)
theorem NoTup.ty {K : PySem.W.Frag} {H : Hp} {v : V} (h : NoTup H v) : ∃ t, TyX K H v t ∧ PySem.W.kitOne K t (.type "tuple") = some false := by
  cases h with
  | non => exact ⟨_, .base .non, kit_ty (by decide +kernel)⟩
  | bl b => exact ⟨_, .base (.bl b), kit_ty (by decide +kernel)⟩
  | int i => exact ⟨_, .base (.int i), kit_ty (by decide +kernel)⟩
  | str h => exact ⟨_, .base (.str _), kit_ty (by decide +kernel)⟩
  | lst e => exact ⟨_, .base (.lst e), kit_ty (by decide +kernel)⟩
  | dK e => exact ⟨_, .base (.dK e), kit_ty (by decide +kernel)⟩
/-- a line: a row, or none -/
inductive Line (H : Hp) : V → Option Row → Prop
  | row {p : Addr} {r : Row} : H p = some (.tup (rowV r)) → isName r.1 = true → Line H (.ref p) (some r)
  | no {v : V} : NoTup H v → Line H v none
  | short {p : Addr} {xs : List V} : H p = some (.tup xs) → xs.length ≠ 3 → Line H (.ref p) none
  | three {p : Addr} {x y z : V} : H p = some (.tup [x, y, z]) → Cell H x → Cell H y → Cell H z → (nameV x && (intV y && intV z)) = false → Line H (.ref p) none
theorem Line.kin {H H' : Hp} {v : V} {o : Option Row} (h : Line H v o) (k : Kin H H') : Line H' v o := by
  cases h with
  | row e n => exact .row ((k _).2.1 _ e) n
  | no h => exact .no (h.kin k)
  | short e n => exact .short ((k _).2.1 _ e) n
  | three e a b c n => exact .three ((k _).2.1 _ e) (a.kin k) (b.kin k) (c.kin k) n
/-- three cells in a tuple are a line -/
theorem line3 {H : Hp} {p : Addr} {x y z : V} (e : H p = some (.tup [x, y, z])) (a : Cell H x) (b : Cell H y) (c : Cell H z) : ∃ o, Line H (.ref p) o := by
  cases h : (nameV x && (intV y && intV z)) with
  | false => exact ⟨_, .three e a b c h⟩
  | true =>
    simp only [Bool.and_eq_true] at h
    obtain ⟨h1, h2, h3⟩ := h
    cases x with
    | str n =>
      cases y with
      | int i =>
        cases z with
        | int j => exact ⟨some (n, i, j), .row e h1⟩
        | _ => cases h3
      | _ => cases h2
    | _ => cases h1
theorem Line.rowB {K : PySem.W.Frag} {H : Hp} {v : V} {o : Option Row} (h : Line H v o) : RowB K H v o.isSome := by
  cases h with
  | row e n =>
    refine .inr (.inr ⟨_, _, _, _, true, true, true, rfl, e, .inl ⟨_, rfl, ?_, n.symm⟩, fun _ _ => .int _, fun _ _ => .int _, rfl⟩)
    unfold Rng.isName at n
    simp only [Bool.and_eq_true, decide_eq_true_eq] at n
    exact Nat.le_trans n.1 (by decide)
  | no h =>
    obtain ⟨t, ty, k⟩ := h.ty (K := K)
    exact .inl ⟨t, ty, k, rfl⟩
  | short e n => exact .inr (.inl ⟨_, _, rfl, e, n, rfl⟩)
  | three e a b c n => exact .inr (.inr ⟨_, _, _, _, _, _, _, rfl, e, a.isName, fun _ s => (b.kin s.kin).isInt, fun _ s => (c.kin s.kin).isInt, n.symm⟩)
/-- lines, one after the other -/
inductive Lines (H : Hp) : List V → List (Option Row) → Prop
  | nil : Lines H [] []
  | cons {v : V} {o : Option Row} {vs : List V} {os : List (Option Row)} : Line H v o → Lines H vs os → Lines H (v :: vs) (o :: os)
section
variable {H H' : Hp} {vs : List V} {os : List (Option Row)}
theorem Lines.kin (h : Lines H vs os) (k : Kin H H') : Lines H' vs os := by
  induction h with
  | nil => exact .nil
  | cons a _ ih => exact .cons (a.kin k) ih
theorem Lines.len (h : Lines H vs os) : vs.length = os.length := by
  induction h with
  | nil => rfl
  | cons _ _ ih => rw [List.length_cons, List.length_cons, ih]
theorem Lines.get {i : Nat} {v : V} (h : Lines H vs os) (e : vs[i]? = some v) : ∃ o, os[i]? = some o ∧ Line H v o := by
  induction h generalizing i with
  | nil => simp at e
  | cons k _ ih =>
    cases i with
    | zero =>
      obtain rfl := Option.some.inj e
      exact ⟨_, rfl, k⟩
    | succ i => exact ih e
theorem Lines.set {i : Nat} {v : V} {o : Option Row} (h : Lines H vs os) (l : Line H v o) : Lines H (vs.set i v) (os.set i o) := by
  induction h generalizing i with
  | nil => exact .nil
  | cons k r ih =>
    cases i with
    | zero => exact .cons l r
    | succ i => exact .cons k ih
theorem lines_of {rs : List Row} (h : TupsAt rowV H vs rs) (n : ∀ r ∈ rs, isName r.1 = true) : Lines H vs (rs.map some) := by
  induction h with
  | nil => exact .nil
  | cons e _ ih => exact .cons (.row e (n _ List.mem_cons_self)) (ih fun r hr => n r (List.mem_cons_of_mem _ hr))
theorem Lines.take (h : Lines H vs os) (i : Nat) : Lines H (vs.take i) (os.take i) := by
  induction h generalizing i with
  | nil => rw [List.take_nil, List.take_nil]; exact .nil
  | cons k _ ih =>
    cases i with
    | zero => exact .nil
    | succ i => exact .cons k (ih i)
/-- where all are rows -/
theorem Lines.rows {rs : List Row} (h : Lines H vs (rs.map some)) : TupsAt rowV H vs rs ∧ ∀ r ∈ rs, isName r.1 = true := by
  induction rs generalizing vs with
  | nil =>
    cases h
    exact ⟨.nil, fun _ h => nomatch h⟩
  | cons r rs ih =>
    cases h with
    | cons a b =>
      obtain ⟨t, n⟩ := ih b
      cases a with
      | row e m => exact ⟨.cons e t, fun x hx => (List.mem_cons.mp hx).elim (fun z => z ▸ m) fun hx => n x hx⟩
end
/-- the first i lines are these rows, no two at one place -/
def Fine (os : List (Option Row)) (i : Nat) (rs : List Row) : Prop := os.take i = rs.map some ∧ (rs.map plcOf).Nodup
/-- the first wrong line stands at k -/
def BadAt (os : List (Option Row)) (k : Nat) : Prop := ∃ rs, Fine os k rs ∧ (os[k]? = some none ∨ ∃ r, os[k]? = some (some r) ∧ plcOf r ∈ rs.map plcOf)
/-- none is wrong -/
def AllFine (os : List (Option Row)) (rs : List Row) : Prop := os = rs.map some ∧ (rs.map plcOf).Nodup
theorem Fine.step {os : List (Option Row)} {i : Nat} {rs : List Row} {r : Row} (f : Fine os i rs) (e : os[i]? = some (some r)) (n : plcOf r ∉ rs.map plcOf) : Fine os (i + 1) (rs ++ [r]) := by
  refine ⟨by rw [List.take_add_one, e, f.1, List.map_append]; rfl, ?_⟩
  rw [List.map_append]
  refine List.nodup_append.mpr ⟨f.2, by simp, fun x hx y hy z => ?_⟩
  obtain rfl := List.mem_singleton.mp hy
  exact n (z ▸ hx)
theorem Fine.all {os : List (Option Row)} {i : Nat} {rs : List Row} (f : Fine os i rs) (h : os.length ≤ i) : AllFine os rs := ⟨by rw [← f.1, List.take_of_length_le h], f.2⟩
theorem Fine.len {os : List (Option Row)} {i : Nat} {rs : List Row} (f : Fine os i rs) (h : i ≤ os.length) : rs.length = i := by
  have := congrArg List.length f.1
  rw [List.length_take, List.length_map] at this
  omega
theorem map_some_inj : ∀ {rs ss : List Row}, rs.map some = ss.map some → rs = ss
  | [], [], _ => rfl
  | [], _ :: _, h => by simp at h
  | _ :: _, [], h => by simp at h
  | r :: rs, s :: ss, h => by
    rw [List.map_cons, List.map_cons] at h
    injection h with h1 h2
    injection h1 with h1
    rw [h1, map_some_inj h2]
theorem AllFine.one {os : List (Option Row)} {rs ss : List Row} (a : AllFine os rs) (b : AllFine os ss) : rs = ss := map_some_inj (a.1.symm.trans b.1)
/-- what is wrong isn't fine -/
theorem BadAt.fine {os : List (Option Row)} {k m : Nat} {ss : List Row} (b : BadAt os k) (f : Fine os m ss) : m ≤ k := by
  obtain ⟨rs, fr, h⟩ := b
  refine Nat.le_of_not_lt fun lt => ?_
  have at_ : (os.take m)[k]? = os[k]? := List.getElem?_take_of_lt lt
  rw [f.1, List.getElem?_map] at at_
  rcases h with h | ⟨r, h, hm⟩
  · rw [h] at at_
    cases e : ss[k]? with
    | none => rw [e] at at_; cases at_
    | some s => rw [e] at at_; cases at_
  · rw [h] at at_
    cases e : ss[k]? with
    | none => rw [e] at at_; cases at_
    | some s =>
      rw [e] at at_
      obtain rfl : s = r := by
        have := Option.some.inj at_
        exact Option.some.inj this
      have tk : rs.map some = (ss.take k).map some := by
        rw [List.map_take, ← f.1, List.take_take, Nat.min_eq_left (Nat.le_of_lt lt), fr.1]
      have er := map_some_inj tk
      have sp : ss = ss.take k ++ s :: ss.drop (k + 1) := by
        have hlt : k < ss.length := (List.getElem?_eq_some_iff.mp e).1
        have := (List.getElem?_eq_some_iff.mp e).2
        rw [← this, ← List.drop_eq_getElem_cons hlt, List.take_append_drop]
      have nd := f.2
      rw [sp, List.map_append] at nd
      rw [er] at hm
      exact (List.nodup_append.mp nd).2.2 _ hm _ (by rw [List.map_cons]; exact List.mem_cons_self) rfl
theorem BadAt.one {os : List (Option Row)} {k m : Nat} (a : BadAt os k) (b : BadAt os m) : k = m := by
  obtain ⟨rs, f, _⟩ := id a
  obtain ⟨ss, g, _⟩ := id b
  exact Nat.le_antisymm (b.fine f) (a.fine g)
theorem BadAt.not {os : List (Option Row)} {k : Nat} {rs : List Row} (a : BadAt os k) (b : AllFine os rs) : False := by
  have lt : k < os.length := by
    obtain ⟨_, _, h⟩ := a
    rcases h with h | ⟨_, h, _⟩
    · exact (List.getElem?_eq_some_iff.mp h).1
    · exact (List.getElem?_eq_some_iff.mp h).1
  have := a.fine (m := os.length) ⟨by rw [List.take_length]; exact b.1, b.2⟩
  omega
theorem BadAt.lt {os : List (Option Row)} {k : Nat} (a : BadAt os k) : k < os.length := by
  obtain ⟨_, _, h⟩ := a
  rcases h with h | ⟨_, h, _⟩
  · exact (List.getElem?_eq_some_iff.mp h).1
  · exact (List.getElem?_eq_some_iff.mp h).1
end Rng


namespace Rng
open PySem L2 Bag Gd LamX
/-! ### small letters, digits -/
theorem letters_are : (Str.ofString "abcdefghijklmnopqrstuvwxyz").cps.toList = List.range' 97 26 := by decide +kernel
theorem digits_are : (Str.ofString "abcdefghijklmnopqrstuvwxyz" ++ Str.ofString "0123456789").cps.toList = List.range' 97 26 ++ List.range' 48 10 := by decide +kernel
theorem in_letters (c : Nat) : decide (c ∈ (Str.ofString "abcdefghijklmnopqrstuvwxyz").cps.toList) = low c := by
  rw [letters_are]
  unfold low
  rw [← Bool.decide_and]
  refine decide_eq_decide.mpr ?_
  rw [List.mem_range'_1]
  omega
theorem in_signs (c : Nat) : decide (c ∈ (Str.ofString "abcdefghijklmnopqrstuvwxyz" ++ Str.ofString "0123456789").cps.toList) = (low c || dig c) := by
  rw [digits_are]
  unfold low dig
  rw [← Bool.decide_and, ← Bool.decide_and, ← Bool.decide_or]
  refine decide_eq_decide.mpr ?_
  rw [List.mem_append, List.mem_range'_1, List.mem_range'_1]
  omega
theorem name_len {z : Str} (n : isName z = true) : z.length ≤ 1000 := by
  unfold isName at n
  simp only [Bool.and_eq_true, decide_eq_true_eq] at n
  exact Nat.le_trans n.1 (by decide)
theorem Line.forms {H : Hp} {v : V} {o : Option Row} (h : Line H v o) : (NoTup H v ∧ o = none) ∨ (∃ p xs, v = .ref p ∧ H p = some (.tup xs) ∧ xs.length ≠ 3 ∧ o = none) ∨
    ∃ p x y z, v = .ref p ∧ H p = some (.tup [x, y, z]) ∧ Cell H x ∧ Cell H y ∧ Cell H z ∧ o.isSome = (nameV x && (intV y && intV z)) := by
  cases h with
  | no h => exact .inl ⟨h, rfl⟩
  | short e n => exact .inr (.inl ⟨_, _, rfl, e, n, rfl⟩)
  | row e n => exact .inr (.inr ⟨_, _, _, _, rfl, e, .str (name_len n), .int _, .int _, by show true = (isName _ && _); rw [n]; rfl⟩)
  | three e a b c n => exact .inr (.inr ⟨_, _, _, _, rfl, e, a, b, c, n.symm⟩)
def spTagQ : Sp := fun vs H Q _ => ∃ v : V, vs = [v] ∧ Cell H v ∧ ∀ H', Same H H' → Q (.bl (nameV v)) H'
def spWholeQ : Sp := fun vs H Q _ => ∃ v : V, vs = [v] ∧ Cell H v ∧ Q (.bl (intV v)) H
def spLineQ : Sp := fun vs H Q _ => ∃ (v : V) (o : Option Row), vs = [v] ∧ Line H v o ∧ ∀ H', Same H H' → Q (.bl o.isSome) H'
/-- the first two cells of a row -/
theorem cut_row (r : Row) : cutV (rowV r) none (some 2) = plcV (plcOf r) := rfl
theorem not_whole (r : Row) : ¬ (HT.sIx (rowV r).length 0 none = 0 ∧ HT.sIx (rowV r).length (rowV r).length (some 2) = (rowV r).length) := by
  show ¬ (HT.sIx 3 0 none = 0 ∧ HT.sIx 3 3 (some 2) = 3)
  decide
theorem cut_take {xs : List V} {i : Nat} (h : i ≤ xs.length) : cutV xs none (some (i : Int)) = xs.take i := by
  unfold cutV
  rw [HT.sIx_nat, HT.sIx_none, Nat.min_eq_left h, Nat.sub_zero, List.drop_zero]
def spDueQ : Sp := fun vs H Q _ => ∃ (l : Addr) (ws : List V) (os : List (Option Row)), vs = [.ref l] ∧ H l = some (.lst ws) ∧ Lines H ws os ∧ os.length ≤ 20 ∧
  (∀ (k : Nat) (H' : Hp), BadAt os k → Same H H' → Q (.int k) H') ∧ ∀ (rs : List Row) (H' : Hp), AllFine os rs → Same H H' → Q (.int (-1)) H'
end Rng


/-! try .. except (four classes) as a name; the caught exception is tracked like any other object -/
namespace Tr4
open PySem PySem.Spec PyProof.Rows L2
/-- a caught exception: its class, its dict, no context -/
def exq (a : Addr) (cls : Value) (d : Option Addr) : HO := .ext fun h => ∃ (o : Obj) (vs : Array Value), h.get? a = some o ∧ L2N.Zn cls d o ∧ o.data = .fields vs
theorem exq_ok {P : Program} {w : World} {H : Hp} {h : Heap} {a : Addr} {cls : Value} {d : Option Addr} {o : Obj} {vs : Array Value} (e : h.get? a = some o) (z : L2N.Zn cls d o) (f : o.data = .fields vs) : ObjOk P w H h a (exq a cls d) :=
  ⟨⟨o, vs, e, z, f⟩, ⟨o, e⟩, fun _ _ ⟨o', v', q, r⟩ k => ⟨o', v', k o' q, r⟩⟩
theorem exq_at {P : Program} {w : World} {H : Hp} {h : Heap} {a : Addr} {cls : Value} {d : Option Addr} (x : HOk P w H h) (e : H a = some (exq a cls d)) : ∃ (o : Obj) (vs : Array Value), h.get? a = some o ∧ L2N.Zn cls d o ∧ o.data = .fields vs := (x a _ e).1
theorem fly_push {B h : Heap} {l : List Env} {a : Addr} {Z : Obj → Prop} {o : Obj} (f : HandSPX.FlyingZ B l a Z h) : HandSPX.FlyingZ B l a Z (h.push o) := by
  obtain ⟨f1, f2, f3, x, vs, T, oT, ts, g1, g2, g3, g4, g5, g6, g7, g8⟩ := f
  have k : ∀ b u, h.get? b = some u → (h.push o).get? b = some u := fun _ _ z => Heap.get?_push_of_some _ z
  exact ⟨fun b u z => k _ _ (f1 b u z), f2, f3.of_keeps fun b u z _ => ⟨u, k _ _ z, rfl⟩, x, vs, T, oT, ts, k _ _ g1, g2, g3, g4, g5, g6, k _ _ g7, g8⟩
theorem up_push {h : Heap} {o : Obj} : h.UpToSlots (h.push o) := Heap.UpToSlots.of_keeps fun _ _ z => Heap.get?_push_of_some _ z
section
variable {X : Cx} {pins : List (Addr × Obj)} {σ : L2.St} {H : Hp} {s : Shared} {a : Addr}
/-- an object that came up since the entry and is an exception may be tracked -/
theorem tracked {cls : Value} {d : Option Addr} {o : Obj} {vs : Array Value} (J : Inv X pins σ H s) (h0 : X.s_0.heap.get? a = none) (na : H a = none) (e : s.heap.get? a = some o) (z : L2N.Zn cls d o) (f : o.data = .fields vs)
    (np : ∀ p ∈ X.pn ++ pins, p.1 ≠ a) (nL : X.env.locals ≠ a) : Inv X pins σ (upd H a (exq a cls d)) s where
  ok := J.ok
  os := J.os
  bare := J.bare
  base := {
    keep := J.base.keep
    slot := J.base.slot
    free := fun b u q n x => by
      have ne : b ≠ a := fun c => by rw [c, h0] at q; cases q
      rw [upd_ne ne]
      exact J.base.free b u q n x
    there := J.base.there
    tups := fun b xs q => by
      have t := J.base.tups b xs q
      rw [upd_ne (ne_of_none t na)]
      exact t
    frzs := fun b u xs q => by
      have t := J.base.frzs b u xs q
      rw [upd_ne (ne_of_none t na)]
      exact t
    tbls := fun b ps q => by
      obtain ⟨m, t⟩ := J.base.tbls b ps q
      exact ⟨m, by rw [upd_ne (ne_of_none t na)]; exact t⟩ }
  loc := J.loc
  cell := J.cell
  free := by
    rw [upd_ne nL]
    exact J.free
  freeC := fun x c q => by
    obtain ⟨v, oc, g, gd⟩ := J.cell x c q
    have ne : c ≠ a := fun y => by
      rw [y, e] at g
      cases g
      rw [f] at gd
      cases gd
    rw [upd_ne ne]
    exact J.freeC x c q
  pin := fun p hp => by
    obtain ⟨p1, p2, p3⟩ := J.pin p hp
    exact ⟨p1, by rw [upd_ne (np p hp)]; exact p2, p3⟩
  hok := J.hok.laidN (fun _ _ y => y) na (exq_ok e z f)
  len := J.len
/-- in a suite, nothing of it pinned -/
theorem inSuite (J : Inv X pins σ H s) : Inv (X.suite a (X.pn ++ pins)) [] σ H s :=
  ⟨J.ok.suite a _, J.os, J.bare, J.base, J.loc, J.cell, J.free, J.freeC, fun p hp => J.pin p (by rwa [List.append_nil] at hp), J.hok, J.len⟩
theorem ofSuite (ok : X.Ok) (J : Inv (X.suite a (X.pn ++ pins)) [] σ H s) : Inv X pins σ H s :=
  ⟨ok, J.os, J.bare, J.base, J.loc, J.cell, J.free, J.freeC, fun p hp => J.pin p (by rwa [List.append_nil]), J.hok, J.len⟩
theorem name_in {E : Value → Shared → Prop} {Q : Value → Shared → Prop} {x : Str} {c : Value} {p : Pos} (J : Inv X pins σ H s) (n : Names X x c) (q : Q c s) : wpAny (model X.prog X.w) X.A (eval (.Name x p) X.env) Q E s := by
  obtain ⟨g, db, m | ⟨m, v, nn⟩⟩ := n
  · exact ld_glob J g m q db
  · exact ld_blt J g m v q nn db
abbrev four (c1 c2 c3 c4 : Value) : Obj := { cls := .type "tuple", data := .seq [c1, c2, c3, c4].toArray }
theorem names4 {E : Value → Shared → Prop} {Q : Value → Shared → Prop} {x1 x2 x3 x4 : Str} {c1 c2 c3 c4 : Value} {p1 p2 p3 p4 p : Pos} {j : Nat} (J : Inv X pins σ H s) (m1 : Names X x1 c1) (m2 : Names X x2 c2) (m3 : Names X x3 c3) (m4 : Names X x4 c4)
    (q : Q (.ref s.heap.objs.size) { s with heap := s.heap.push (four c1 c2 c3 c4) }) : wpAny (model X.prog X.w) X.A (eval (.Tuple [.Name x1 p1, .Name x2 p2, .Name x3 p3, .Name x4 p4] j p) X.env) Q E s := by
  refine wpAny_Tuple (wpAny_items_cons (name_in J m1 (wpAny_items_cons (name_in J m2 (wpAny_items_cons (name_in J m3 (wpAny_items_cons (name_in J m4 (wpAny_items_nil ?_)))))))))
  exact ⟨by size_fits, q⟩
end
/-- what 'except (c1, c2, c3, c4) as n' wishes of an exception of the body: n stands in slot i, the exception is tracked -/
def wAs4 (K : PySem.W.Frag) (cs : List Value) (i : Nat) (ts : Addr → Value → Option Addr → TS) (Wout : WX) (D : Ends) : WX := fun cls d σ H => ∃ b, PySem.W.exmAny K cls cs = some b ∧ (b = false → Wout cls d σ H) ∧
  (b = true → ∀ a, H a = none → ts a cls d { rt := D.rt, nx := fun σ' => D.nx (σ'.set i none), bk := fun σ' => D.bk (σ'.set i none), ct := fun σ' => D.ct (σ'.set i none) } (σ.set i (some (.ref a))) (upd H a (exq a cls d)))
section
variable {X : Cx} {x1 x2 x3 x4 n : Str} {c1 c2 c3 c4 : Value} {i j : Nat} {body suite : List Stmt} {first : Stmt} {p1 p2 p3 p4 tp hp pos : Pos} {tb : WX → TS} {ts : Addr → Value → Option Addr → TS} {Wout : WX}
theorem ps_try4 (fr : X.env.frame = some X.env.locals) (st : X.stack = X.env :: X.outer) (nex : X.ex = []) (tk : L2N.Takes X Wout) (nd : X.N.Nodup) (at_ : X.N[i]? = some n) (lc : X.env.kindOf n = some .local) (m1 : Names X x1 c1) (m2 : Names X x2 c2) (m3 : Names X x3 c3) (m4 : Names X x4 c4)
    (su : ∀ (a : Addr) (cls : Value) (d : Option Addr) (pn : List (Addr × Obj)), PSs (X.suite a pn) (first :: suite) (ts a cls d))
    (bd : ∀ (W : WX) (pn : List (Addr × Obj)) (xe : Value → Shared → Prop), L2N.Takes (X.tr pn xe) W → PassesOwn (model X.prog X.w) X.A X.env xe → PSs (X.tr pn xe) body (tb W)) :
    PS X (.Try body [.ExceptHandler (some (.Tuple [.Name x1 p1, .Name x2 p2, .Name x3 p3, .Name x4 p4] j tp)) (some n) (first :: suite) hp] [] [] pos) (fun D σ H => tb (wAs4 X.K [c1, c2, c3, c4] i ts Wout D) D σ H) := by
  refine ⟨fun pins s σ H D I h => wpAny_Try_except ?_⟩
  have hA : X.A.frames = some (X.env :: X.outer) := st ▸ I.ok.frames
  have done : ∀ f s1, SP (X.tr (X.pn ++ pins) fun e s₁ => wpAny (model X.prog X.w) X.A (noteFrame e X.env) (fun _ s₂ => wpAny (model X.prog X.w) X.A (setFlight e none) (fun _ s₃ => wpAny (model X.prog X.w) X.A (handleBy e X.env [.ExceptHandler (some (.Tuple [.Name x1 p1, .Name x2 p2, .Name x3 p3, .Name x4 p4] j tp)) (some n) (first :: suite) hp]) (SP X pins D) X.xe s₃) X.xe s₂) X.xe s₁) [] D f s1 → SP X pins D f s1 := by
    intro f s1 q
    cases f with
    | ret v => obtain ⟨y, σ', H', K', r, z⟩ := q; exact ⟨y, σ', H', K'.ofTry I.ok, r, z⟩
    | next => obtain ⟨σ', H', K', z⟩ := q; exact ⟨σ', H', K'.ofTry I.ok, z⟩
    | brk => obtain ⟨σ', H', K', z⟩ := q; exact ⟨σ', H', K'.ofTry I.ok, z⟩
    | cont => obtain ⟨σ', H', K', z⟩ := q; exact ⟨σ', H', K'.ofTry I.ok, z⟩
  refine wpAny_mono ((bd (wAs4 X.K [c1, c2, c3, c4] i ts Wout D) (X.pn ++ pins) _ (fun u s1 flown => ?_) PassesOwn.looking).run [] s σ H D (I.toTry _) h) (fun f s1 q => ?_) (fun _ _ z => z)
  · obtain ⟨a, B, sI, pins', σ1, H1, cls, d, rfl, J0, nb, up, sky, na, os, ag, b, any, no, yes⟩ := flown
    have J : Inv X pins σ1 H1 sI := J0.ofTry I.ok
    refine L2N.Sky.land L2N.Zn.steady hA fr (st ▸ sky) fun h3 fl up3 => ?_
    have land : ∀ {h : Heap}, HandSPX.FlyingZ B (X.env :: X.outer) a (L2N.Zn cls d) h → sI.heap.UpToSlots h → Inv X pins σ1 H1 { s1 with heap := h } := fun f u => J.landed nb f.1 u os ag
    have noF : a ∉ frs (X.env :: X.outer) := fun m => by
      obtain ⟨o, vs, e, _, dt⟩ := fl.there
      obtain ⟨_, o', e', nf⟩ := fl.2.2.1.mem m
      rw [e] at e'
      cases e'
      exact nf _ dt
    have nL : X.env.locals ≠ a := fun c => noF (List.mem_filterMap.mpr ⟨X.env, List.mem_cons_self, by rw [fr, c]⟩)
    have gone : sI.heap.get? a = none := by
      cases e : sI.heap.get? a with
      | none => rfl
      | some o =>
        have z := nb a o e (st ▸ noF)
        rw [fl.2.1] at z
        cases z
    have was : X.s_0.heap.get? a = none := by
      cases e : X.s_0.heap.get? a with
      | none => rfl
      | some o =>
        obtain ⟨o', z⟩ := J.base.there a o e (by rw [nex]; exact List.not_mem_nil)
        rw [gone] at z
        cases z
    have np : ∀ p ∈ X.pn ++ pins, p.1 ≠ a := fun p m c => by
      have z := (J.pin p m).1
      rw [c, gone] at z
      cases z
    have S := inSuite (a := a) (land fl (up.trans up3))
    refine PySem.W.exc_clause_as (names4 (X := X.suite a (X.pn ++ pins)) S m1 m2 m3 m4 ⟨b, ?_, ?_⟩)
    · have kp : ∀ c u, h3.get? c = some u → (h3.push (four c1 c2 c3 c4)).get? c = some u := fun _ _ z => Heap.get?_push_of_some _ z
      obtain ⟨o, vs, e, zz, dt⟩ := fl.there
      have ty : PySem.W.Looks (model X.prog X.w) h3 (typeOf (.ref a)) cls := fun A Q E s k q => wpAny_typeOf_ref (k _ _ e) (by rw [zz.1]; exact q)
      exact PySem.W.exm_tup4 (S.kIn.keeps kp) (ty.keeps kp) (Heap.get?_push_size h3 rfl) any
    · have fl4 := fly_push (o := four c1 c2 c3 c4) fl
      have up4 := (up.trans up3).trans (up_push (o := four c1 c2 c3 c4))
      dsimp only
      revert fl4 up4
      generalize h3.push (four c1 c2 c3 c4) = h4
      intro fl4 up4
      cases b with
      | true =>
        rw [if_pos rfl]
        refine HandSPX.lands_againZ fl4 fun h5 fl5 up5 => ?_
        obtain ⟨o, vs, e, zz, dt⟩ := fl5.there
        have T := inSuite (a := a) (tracked (land fl5 (up4.trans up5)) was na e zz dt np nL)
        refine store_ok (X := X.suite a (X.pn ++ pins)) (v := .ref a) T nd at_ (.inl lc) rfl (fun s5 T5 => ?_) (.inr lc)
        have fin : ∀ {σ6 : L2.St} {H6 : Hp} {s6 : Shared} {Q : Shared → Prop}, Inv (X.suite a (X.pn ++ pins)) [] σ6 H6 s6 → (∀ s7, Inv X pins (σ6.set i none) H6 s7 → Q s7) →
            wpAny (model X.prog X.w) X.A (do bindName X.env n .none; unbindBehindTheSuite X.env n hp) (fun _ s7 => Q s7) X.xe s6 := fun T6 q => gone_ok (ofSuite I.ok T6) nd at_ lc q
        refine wpAny_mono ((su a cls d (X.pn ++ pins)).run [] s5 _ _ _ T5 (yes rfl a na)) (fun f s6 q => ?_) (fun _ _ z => False.elim z)
        cases f with
        | ret v => obtain ⟨y, σ6, H6, T6, r, z⟩ := q; exact fin T6 fun s7 U => ⟨y, _, H6, U, r, z⟩
        | next => obtain ⟨σ6, H6, T6, z⟩ := q; exact fin T6 fun s7 U => ⟨_, H6, U, z⟩
        | brk => obtain ⟨σ6, H6, T6, z⟩ := q; exact fin T6 fun s7 U => ⟨_, H6, U, z⟩
        | cont => obtain ⟨σ6, H6, T6, z⟩ := q; exact fin T6 fun s7 U => ⟨_, H6, U, z⟩
      | false =>
        rw [if_neg Bool.false_ne_true]
        refine wpAny_handleBy_nil ?_
        obtain ⟨k1, k2, k3, o, vs, T, oT, us, e, zz, dt, e1, rest⟩ := id fl4
        have out : wpAny (model X.prog X.w) X.A (setFlight (.ref a) X.env.frame) (fun _ s4 => wpAny (model X.prog X.w) X.A (throw (.ref a) : Sem Flow) (SP X pins D) X.xe s4) X.xe { s1 with heap := h4 } := by
          rw [fr]
          refine HandSPX.setFlight_upZ fl4 fun h5 hh up5 => wpAny_throw (tk _ _ ⟨a, B, sI, pins, σ1, H1, cls, d, rfl, J, nb, up4.trans up5, .inr (.inr (by rw [st]; exact hh)), na, os, ag, no rfl⟩)
        unfold PySem.passOn
        refine wpAny_bind (wpAny_field e dt e1 ?_)
        rw [if_neg (show ¬ ((Value.ref T == Value.none) = true) from by simp)]
        first
          | exact wpAny_bind out
          | exact wpAny_bind (wpAny_pure (wpAny_bind out))
  · have q' := done f s1 q
    cases f with
    | next => exact wpAny_execs_nil q'
    | ret v => exact q'
    | brk => exact q'
    | cont => exact q'
end
end Tr4


/-! own exception classes over any base, as values: made by position and by name, asked by isinstance, their field read -/
namespace PySem
namespace XV
open PySem.W PySem.Calls PyProof.Rows PySem.HandSPX Builtin.ObjectAttr Builtin
/-! ### the first field that is stored on a new exception: its dict is made then -/
section
variable {prog : Program} {w : World} {A : Around} {R : Result → Shared → Prop} {K : Frag} {x C : Addr} {fv : Array Value} {f : Str} {u : Value} {tk : Tok} {b0 : String} {bmB : List Value}
theorem first_field (SF : StoreFacts b0 bmB "object.__setattr__" "object") {s : Shared} (X : K.In s.heap) (hx : s.heap.get? x = some { cls := .ref C, data := .fields fv }) (over : excOver K C bmB = true) (no : takerIn K C f = some none) (hd : hasDictIn K C = true)
    (next : ∀ G n dx, (∀ b o, b ≠ x → s.heap.get? b = some o → G.get? b = some o) → s.heap.objs.size ≤ dx → dx ≠ x → G.get? x = some { cls := .ref C, dict := some dx, data := .fields fv } →
      G.Ns1 dx (fun y => if y = f then some u else none) → R (.ok (.ret .none)) { s with heap := G, toks := n }) :
    codeAny (model prog w) A (.call (.builtin "object.__setattr__") ⟨[.ref x, .str f tk, u], []⟩) R s := by
  refine osa_openX SF X (ox := { cls := .ref C, data := .fields fv }) (od := none) ⟨hx, rfl, rfl, trivial⟩ over no fun lazy => ?_
  obtain ⟨cd, hcd, dct⟩ := any_some hd
  have isC : Looks (model prog w) s.heap (classData C) cd := looks_clsIn X hcd
  obtain ⟨hp, g, dr, tt, os⟩ := s
  have nx : x ≠ hp.objs.size := Nat.ne_of_lt (Heap.lt_size hx)
  show wpAny _ _ (storeInOwnDict (.ref x) (.ref C) (.str f tk) f u lazy) _ _ _
  obtain ⟨c1, c2, c3, c4, c5, c6, c7, c8, c9, c10, c11⟩ := cd
  obtain rfl : c6 = true := dct
  unfold storeInOwnDict
  unfold ownDictForStores
  repeat (first
    | with_reducible refine isC.at ?_
    | with_reducible refine store_in_new ?_ ?_
    | with_reducible refine wpAny_loadPart_at hx ?_
    | wp_step)
  · refine ⟨{ cls := .type "dict", data := .dict #[] }, #[], 0, ?_, rfl, fun e q => absurd q (by simp), fun _ => rfl⟩
    rw [Heap.get?_update_ne _ _ _ _ nx.symm]
    exact Heap.get?_push_at rfl rfl
  · intro G n dict same
    have grown : ∀ {b : Addr} {o : Obj}, hp.get? b = some o → (hp.push { cls := .type "dict", data := .dict #[] }).get? b = some o := fun q => Heap.get?_push_of_some _ q
    refine next G n hp.objs.size (fun b o ne q => ?_) (Nat.le_refl _) nx.symm ?_ dict
    · rw [same.2 b (Nat.ne_of_lt (Heap.lt_size q)), Heap.get?_update_ne _ _ _ _ ne]
      exact grown q
    · rw [same.2 x nx]
      exact Heap.get?_update_self _ (grown hx) rfl
end
/-! ### C(..) with values and keywords: the library's call has values alone -/
section
variable {prog : Program} {w : World} {A : Around} {R : Result → Shared → Prop} {h : Heap} {g : Array GenState} {dr : Drawn} {tt : Nat} {os : OsState}
variable {nm q : Str} {C N fI : Addr} {bs bm bmB : List Value} {sn : List Str} {sub : List Value} {ab : Bool} {col : Option Bool} {dd : Option Addr} {k0 k1 k2 k3 k5 : Option Value} {B newId initId : String} {vs : List Value} {kw : List (Str × Value)}
/-- what the class is an heir of -/
theorem heir (same : ∀ X : String, bm.contains (.type X) = bmB.contains (.type X)) (X : String) : (Value.ref C :: bm).contains (.type X) = bmB.contains (.type X) := by
  have e : (Value.type X == Value.ref C) = false := beq_eq_false_iff_ne.mpr fun z => nomatch z
  rw [List.contains_cons, e, Bool.false_or, same]
/-- the new object, its arguments kept, the keywords let go -/
theorem born (F : ExcBaseFacts B newId initId bmB) (same : ∀ X : String, bm.contains (.type X) = bmB.contains (.type X)) (hC : h.get? C = some (excClassObj nm q C N bs bm true sn sub ab col dd k0 k1 k2 k3 k5 newId)) (few : vs.length ≤ sizeLine)
    (next : R (.ok (.ret (.ref (h.objs.size + 1)))) ⟨(h.push (kdv_tup vs)).push (excO C h.objs.size), g, dr, tt, os⟩) :
    codeAny (model prog w) A (.builtin newId ⟨.ref C :: vs, kw⟩) R ⟨h, g, dr, tt, os⟩ := by
  have ends := F.ends
  have isB : (Value.ref C :: bm).contains (.type B) = true := (heir same B).trans F.hasB
  have notA : (Value.ref C :: bm).contains (.type "AttributeError") = false := (heir same _).trans F.noAttr
  have notN : (Value.ref C :: bm).contains (.type "NameError") = false := (heir same _).trans F.noName
  refine codeAny_builtinAt F.entry ?_
  unfold «BaseException.__new__»
  refine wpAt_bind ?_
  show wpAt _ _ _ (stack >>= fun _ => _) _ _ _
  refine wpAt_bind (wpAt_stack fun _ _ => ?_)
  refine wpAt_of_wpAny ?_
  wp_walk
  refine wpAt_of_wpAny ?_
  rw [F.owner]
  repeat (first
    | (with_reducible refine wpAny_isSubtype_exc hC ?_; first | rw [isB] | rw [notN] | rw [notA])
    | with_reducible refine wpAny_loadPart_at hC ?_
    | with_reducible refine wpAny_madeHere_exc F.canon hC ?_
    | wp_step)
  show R _ _
  rw [Heap.size_push]
  exact next
/-- the check ahead of it -/
theorem born_check {M : Model} {E : Value → Shared → Prop} {Q : Unit → Shared → Prop} (F : ExcBaseFacts B newId initId bmB) (same : ∀ X : String, bm.contains (.type X) = bmB.contains (.type X)) (hC : h.get? C = some (excClassObj nm q C N bs bm true sn sub ab col dd k0 k1 k2 k3 k5 newId))
    (next : Q () ⟨h, g, dr, tt, os⟩) : wpAny M A (checkBuiltinCall newId ⟨.ref C :: vs, kw⟩) Q E ⟨h, g, dr, tt, os⟩ := by
  have star := F.noStar
  have isB : (Value.ref C :: bm).contains (.type B) = true := (heir same B).trans F.hasB
  simp only [F.newRow, F.newKind, F.newSplit, checkBuiltinCall]
  repeat (first
    | refine wpAny_madeBy_exc hC ?_
    | refine wpAny_staticBase_exc hC ?_
    | (refine wpAny_isSubtype_exc hC ?_; rw [isB])
    | refine wpAny_loadPart_at hC ?_
    | simp only [if_false, Bool.false_eq_true, bne_self_eq_false]
    | wp_step)
  exact next
/-- born, then handed to its own __init__ -/
theorem call_kw (F : ExcBaseFacts B newId initId bmB) (same : ∀ X : String, bm.contains (.type X) = bmB.contains (.type X)) (hC : h.get? C = some (excClassObj nm q C N bs bm true sn sub ab col dd k0 k1 k2 k3 k5 newId))
    (ini : Looks (model prog w) h (typeLookup (.ref C) "__init__") (some (.ref fI))) (bnd : ∀ self, Looks (model prog w) h (bindSpecial (.ref fI) self) (.ref fI, [self])) (few : vs.length ≤ sizeLine)
    (go : codeAny (model prog w) (A.under (.builtin "type.__call__" ⟨.ref C :: vs, kw⟩)) (.call (.ref fI) ⟨.ref (h.objs.size + 1) :: vs, kw⟩) (InitBack (h.objs.size + 1) R) ⟨(h.push (kdv_tup vs)).push (excO C h.objs.size), g, dr, tt, os⟩) :
    codeAny (model prog w) A (.call (.ref C) ⟨vs, kw⟩) R ⟨h, g, dr, tt, os⟩ := by
  have grown : ∀ b o, h.get? b = some o → ((h.push (kdv_tup vs)).push (excO C h.objs.size)).get? b = some o := fun b o e => Heap.get?_push_of_some _ (Heap.get?_push_of_some _ e)
  have there : ((h.push (kdv_tup vs)).push (excO C h.objs.size)).get? (h.objs.size + 1) = some (excO C h.objs.size) := by heap_get
  have isType : (⟨h, g, dr, tt, os⟩ : Shared).TypeIs (.ref C) "type" := ⟨_, hC, rfl⟩
  have lk := tc_lookup
  have bd := tc_bind (.ref C)
  refine codeAny_of_tree ?_
  show wpAny _ _ (callAny (.ref C) ⟨vs, kw⟩) _ _ _
  repeat (any_goals (first | with_reducible refine wpAny_loadPart_at hC ?_ | assumption | wp_step))
  refine ⟨rfl, codeAny_call_builtin_at (Code.quiet_builtin _ (by decide +kernel)) entry_typeCall (wpAny_check_type_call_sub hC ?_)⟩
  repeat (first | with_reducible refine wpAny_madeBy_exc hC ?_ | with_reducible refine wpAny_loadPart_at hC ?_ | wp_step)
  refine codeAny_call_builtin_code (Code.quiet_builtin _ F.quiet) (born_check F same hC (born F same hC few ?_))
  show wpAny _ _ _ _ _ ⟨(h.push (kdv_tup vs)).push (excO C h.objs.size), g, dr, tt, os⟩
  have hC2 := grown _ _ hC
  have itself : (Value.ref C :: bm).contains (.ref C) = true := by simp only [List.contains_cons, beq_self_eq_true, Bool.true_or]
  unfold isInstance
  repeat (first | with_reducible refine wpAny_loadPart_at there ?_ | (with_reducible refine wpAny_isSubtype_exc hC2 ?_; rw [itself]) | wp_step)
  show wpAny _ _ (typeLookup (.ref C) "__init__") _ _ _
  refine (ini.keeps grown).at (wpAny_holding (wpAny_bind (((bnd (.ref (h.objs.size + 1))).keeps grown).at ?_)))
  refine wpAny_bind (wpAny_call (codeAny_mono go fun back s' z => ?_))
  cases back with
  | error e => exact z
  | ok fl =>
    cases fl with
    | ret v =>
      obtain ⟨rfl, z⟩ := z
      first
        | (wp_walk; exact z)
        | exact wpAny_pure (wpAny_pure z)
    | next => exact z.elim
    | brk => exact z.elim
    | cont => exact z.elim
end
end XV
end PySem


namespace PySem
namespace XV
open PySem.W PySem.Calls PyProof.Rows PySem.HandSPX
/-! ### what the written part says of an own exception class -/
/-- the class at C, its one own base at B, then the built-in bmB -/
structure CF (K : Frag) (C B : Addr) (bn newId initId : String) (bmB : List Value) : Prop where
  fac : ExcBaseFacts bn newId initId bmB
  sto : StoreFacts bn bmB "object.__setattr__" "object"
  cls : ∃ nm q N bs sn sub ab col dd k0 k1 k2 k3 k5, K.lookup C = some (excClassObj nm q C N bs (.ref B :: bmB) true sn sub ab col dd k0 k1 k2 k3 k5 newId)
  kC : keepIn K (.ref C) = true
  tail : excTail bmB (.ref B :: bmB) = true
/-- its own __init__ that stores the field f; how an attribute is read -/
structure IFc (K : Frag) (C fI : Addr) (f : Str) : Prop where
  sa : findIn K (.ref C) "__setattr__" = some (some (.builtin "object.__setattr__"))
  noN : findIn K (.ref C) f = some none
  iC : findIn K (.ref C) "__init__" = some (some (.ref fI))
  tI : typeIn K (.ref fI) = some (.type "function")
/-- what __init__ leaves of a fresh exception at x -/
structure InitEnd (h h' : Heap) (x C dx t1 : Addr) (f : Str) (v : Value) : Prop where
  keep : ∀ b o, b ≠ x → h.get? b = some o → h'.get? b = some o
  obj : h'.get? x = some { cls := .ref C, dict := some dx, data := .fields #[.ref t1, .none, .none, .none, .bool false, .none] }
  dbig : h.objs.size ≤ dx
  dne : dx ≠ x
  ns : h'.Ns1 dx (fun y => if y = f then some v else none)
/-- a made exception at e, its dict at d -/
structure Made (h h' : Heap) (e C d t1 : Addr) (f : Str) (v : Value) : Prop where
  keep : ∀ b o, h.get? b = some o → h'.get? b = some o
  new : h.objs.size ≤ e
  obj : h'.get? e = some { cls := .ref C, dict := some d, data := .fields #[.ref t1, .none, .none, .none, .bool false, .none] }
  dbig : h.objs.size ≤ d
  dne : d ≠ e
  ns : h'.Ns1 d (fun y => if y = f then some v else none)
theorem one_size (v : Value) : [v].length ≤ sizeLine := by
  rw [sizeLine_eq]
  exact (by decide : 1 ≤ 16777216)
theorem ldC {M : Model} {s : Shared} {name : Str} {scope : Scope} {L a : Addr} {cd : Value} {m : Str → Option Value} {x : Str} {pos : Pos} {v : Value} {Q : Value → Shared → Prop} {A : Around} {E : Value → Shared → Prop} (hn : s.heap.Ns L m) (hv : m x = some v) (h : Q v s)
    (hk : scope.kind = .function := by rfl) (hl : (envOfC name scope L a cd).kindOf x = some .local := by rfl) (hd : (x == ("__debug__" : Str)) = false := by decide) :
    wpAny M A (eval (.Name x pos) (envOfC name scope L a cd)) Q E s := wpAny_Name (wpAny_loadName_local hk hl hn hv h) hd

/-! ### the field value -/
def iA_value (p1 p2 : Pos) : Arguments := { posonlyargs := [], args := [{ arg := "self", annotation := none, pos := p1 }, { arg := "value", annotation := none, pos := p2 }], vararg := none, kwonlyargs := [], kw_defaults := [], kwarg := none, defaults := [] }
def iB_value (q1 q2 q3 q4 : Pos) : List Stmt := [.Assign [.Attribute (.Name "self" q1) "value" q2] (.Name "value" q3) q4]
def iS_value : Scope := { kind := .function, names := [(PySem.Str.ofString "self", .local), (PySem.Str.ofString "value", .local)], isGenerator := false, isCoroutine := false, more := [] }
def Fn_value (K : Frag) (fI : Addr) (qn : Str) : Prop := ∃ (oc : Value) (od : Option Addr) (doc pm : Value) (an : Option Addr) (cdv ct : Value) (osl : Array (Option Value)) (p1 p2 q1 q2 q3 q4 : Pos),
    K.lookup fI = some ⟨oc, od, .func (fnOf "__init__" qn (iA_value p1 p2) (iB_value q1 q2 q3 q4) iS_value .none .none doc pm an cdv ct), osl⟩ ∧ codeIn K cdv qn = true
section
variable {prog : Program} {w : World} {A : Around} {E : Value → Shared → Prop} {R : Result → Shared → Prop} {s : Shared} {K : Frag} {C B fI : Addr} {bn newId initId : String} {bmB : List Value} {qn : Str}
theorem init_value (T : CF K C B bn newId initId bmB) (T2 : IFc K C fI "value") (T3 : Fn_value K fI qn) {x t0 : Addr} {v : Value} {args : Args} (X : K.In s.heap) (hlim : s.heap.NoLimit) (hx : s.heap.get? x = some (excO C t0)) (hroom : A.depth < recursionLimit)
    (ha : args = ⟨[.ref x, v], []⟩ ∨ args = ⟨[.ref x], [(("value" : Str), v)]⟩)
    (hq : ∀ h' tk dx, InitEnd s.heap h' x C dx t0 "value" v → R (.ok (.ret .none)) { s with heap := h', toks := tk }) :
    codeAny (model prog w) A (.call (.ref fI) args) R s := by
  obtain ⟨oc, od, doc, pm, an, cdv, ct, osl, p1, p2, q1, q2, q3, q4, ho, hcd⟩ := T3
  obtain ⟨nm, q, N, bs, sn, sub, ab, col, dd, k0, k1, k2, k3, k5, hC⟩ := T.cls
  have hcl : clsIn K C = some { name := nm, bases := bs, mro := .ref C :: .ref B :: bmB, ns := N, qualname := q, hasDict := true, slotNames := sn, subclasses := sub, abstract := ab, collection := col, hasDel := false } := by unfold clsIn; rw [hC] <;> rfl
  have hbind : BindsTo s (fnOf "__init__" qn (iA_value p1 p2) (iB_value q1 q2 q3 q4) iS_value .none .none doc pm an cdv ct) args [("self", .ref x), ("value", v)] := by
    rcases ha with rfl | rfl
    · exact BindsTo.of_eq (by first | rfl | with_unfolding_all rfl)
    · exact BindsTo.of_eq (by first | rfl | with_unfolding_all rfl)
  refine Att.call_fn (binds := [("self", .ref x), ("value", v)]) X hlim ho hcd hroom hbind (by first | rfl | decide | with_unfolding_all rfl) (fun s₁ IC => ?_) rfl rfl rfl
  obtain ⟨h₁, tk₁, rfl⟩ := IC.toInCall.same
  have k : ∀ b o, s.heap.get? b = some o → h₁.get? b = some o := IC.toInCall.keep
  have hn := IC.toInCall.ns
  have hxL : s.heap.objs.size ≠ x := Nat.ne_of_gt (Heap.lt_size hx)
  have X₁ : K.In h₁ := X.keeps k
  have hx₁ := k _ _ hx
  show wpAny _ _ (execs _ _) _ _ _
  refine wpAny_execs_cons (plainObj_wpAny_Assign_Attribute ?_)
  refine ldC (v := v) hn (by first | rfl | with_unfolding_all rfl | kernel_rfl) (ldC (v := .ref x) hn (by first | rfl | with_unfolding_all rfl | kernel_rfl) ?_)
  refine set_plain X₁ (ox := excO C t0) (od := none) ⟨hx₁, rfl, rfl, trivial⟩ T2.sa ?_
  have over : excOver K C bmB = true := by
    unfold excOver
    rw [hcl]
    show (C == C && excTail bmB (.ref B :: bmB)) = true
    rw [beq_self_eq_true, Bool.true_and]
    exact T.tail
  have noT : takerIn K C "value" = some none := by
    unfold takerIn
    rw [T2.noN] <;> rfl
  have hdc : hasDictIn K C = true := by
    unfold hasDictIn
    rw [hcl] <;> rfl
  refine first_field (prog := prog) (w := w) (u := v) (f := "value") (tk := tk₁) (x := x) (C := C) (s := { s with heap := h₁, toks := tk₁ + 1 }) T.sto X₁ hx₁ over noT hdc (fun h₃ tk₃ dx k₃ dn dne hx₃ hn₃ => ?_)
  · show wpAny _ _ (execs _ _) _ _ _
    have z : s.heap.objs.size < h₁.objs.size := hn.lt
    exact wpAny_execs_nil (hq h₃ tk₃ dx ⟨fun b o hb e => k₃ b o hb (k b o e), hx₃, Nat.le_of_lt (Nat.lt_of_lt_of_le z dn), dne, hn₃⟩)
theorem made_value (T : CF K C B bn newId initId bmB) (T2 : IFc K C fI "value") (T3 : Fn_value K fI qn) {v : Value} {rest : List Value} {kw : List (Str × Value)} (X : K.In s.heap) (hlim : s.heap.NoLimit) (hroom : A.depth + 1 < recursionLimit)
    (ha : (rest = [v] ∧ kw = []) ∨ (rest = [] ∧ kw = [(("value" : Str), v)]))
    (hq : ∀ h' tk e d t1, Made s.heap h' e C d t1 "value" v → R (.ok (.ret (.ref e))) { s with heap := h', toks := tk }) :
    codeAny (model prog w) A (.call (.ref C) ⟨rest, kw⟩) R s := by
  obtain ⟨nm, q, N, bs, sn, sub, ab, col, dd, k0, k1, k2, k3, k5, hC⟩ := T.cls
  obtain ⟨hp, g, dr, tk, os⟩ := s
  have k : ∀ b o, hp.get? b = some o → ((hp.push (kdv_tup rest)).push (excO C hp.objs.size)).get? b = some o := fun b o e => Heap.get?_push_of_some _ (Heap.get?_push_of_some _ e)
  have hget : ((hp.push (kdv_tup rest)).push (excO C hp.objs.size)).get? (hp.objs.size + 1) = some (excO C hp.objs.size) := by heap_get
  have hrest : rest.length ≤ sizeLine := by
    rcases ha with ⟨rfl, _⟩ | ⟨rfl, _⟩
    · exact one_size v
    · exact Nat.zero_le _
  refine call_kw T.fac (fun Y => List.contains_cons.trans rfl) (X _ _ hC) (looks_findIn X T2.iC) (fun self => bind_fn X self T2.tI) hrest ?_
  refine init_value (s := ⟨(hp.push (kdv_tup rest)).push (excO C hp.objs.size), g, dr, tk, os⟩) (v := v) T T2 T3 (X.keeps k) (hlim.keeps k) hget ?_ ?_ fun h' tk' dx ⟨k', hx, dn, dne, hns⟩ => ?_
  · show A.depth + 1 < recursionLimit
    exact hroom
  · rcases ha with ⟨rfl, rfl⟩ | ⟨rfl, rfl⟩
    · exact .inl rfl
    · exact .inr rfl
  · have old : ∀ b o, hp.get? b = some o → h'.get? b = some o := fun b o e => k' b o (Nat.ne_of_lt (Nat.lt_succ_of_lt (Heap.lt_size e))) (k b o e)
    have z : hp.objs.size + 1 + 1 ≤ dx := by
      first
        | (simpa only [Heap.size_push] using dn)
        | exact dn
        | (have q := dn; rw [Heap.size_push, Heap.size_push] at q; exact q)
    exact ⟨rfl, hq h' tk' (hp.objs.size + 1) dx _ ⟨old, Nat.le_succ _, hx, Nat.le_trans (Nat.le_trans (Nat.le_succ _) (Nat.le_succ _)) z, dne, hns⟩⟩
end

/-! ### the field index -/
def iA_index (p1 p2 : Pos) : Arguments := { posonlyargs := [], args := [{ arg := "self", annotation := none, pos := p1 }, { arg := "index", annotation := none, pos := p2 }], vararg := none, kwonlyargs := [], kw_defaults := [], kwarg := none, defaults := [] }
def iB_index (q1 q2 q3 q4 : Pos) : List Stmt := [.Assign [.Attribute (.Name "self" q1) "index" q2] (.Name "index" q3) q4]
def iS_index : Scope := { kind := .function, names := [(PySem.Str.ofString "self", .local), (PySem.Str.ofString "index", .local)], isGenerator := false, isCoroutine := false, more := [] }
def Fn_index (K : Frag) (fI : Addr) (qn : Str) : Prop := ∃ (oc : Value) (od : Option Addr) (doc pm : Value) (an : Option Addr) (cdv ct : Value) (osl : Array (Option Value)) (p1 p2 q1 q2 q3 q4 : Pos),
    K.lookup fI = some ⟨oc, od, .func (fnOf "__init__" qn (iA_index p1 p2) (iB_index q1 q2 q3 q4) iS_index .none .none doc pm an cdv ct), osl⟩ ∧ codeIn K cdv qn = true
section
variable {prog : Program} {w : World} {A : Around} {E : Value → Shared → Prop} {R : Result → Shared → Prop} {s : Shared} {K : Frag} {C B fI : Addr} {bn newId initId : String} {bmB : List Value} {qn : Str}
theorem init_index (T : CF K C B bn newId initId bmB) (T2 : IFc K C fI "index") (T3 : Fn_index K fI qn) {x t0 : Addr} {v : Value} {args : Args} (X : K.In s.heap) (hlim : s.heap.NoLimit) (hx : s.heap.get? x = some (excO C t0)) (hroom : A.depth < recursionLimit)
    (ha : args = ⟨[.ref x, v], []⟩ ∨ args = ⟨[.ref x], [(("index" : Str), v)]⟩)
    (hq : ∀ h' tk dx, InitEnd s.heap h' x C dx t0 "index" v → R (.ok (.ret .none)) { s with heap := h', toks := tk }) :
    codeAny (model prog w) A (.call (.ref fI) args) R s := by
  obtain ⟨oc, od, doc, pm, an, cdv, ct, osl, p1, p2, q1, q2, q3, q4, ho, hcd⟩ := T3
  obtain ⟨nm, q, N, bs, sn, sub, ab, col, dd, k0, k1, k2, k3, k5, hC⟩ := T.cls
  have hcl : clsIn K C = some { name := nm, bases := bs, mro := .ref C :: .ref B :: bmB, ns := N, qualname := q, hasDict := true, slotNames := sn, subclasses := sub, abstract := ab, collection := col, hasDel := false } := by unfold clsIn; rw [hC] <;> rfl
  have hbind : BindsTo s (fnOf "__init__" qn (iA_index p1 p2) (iB_index q1 q2 q3 q4) iS_index .none .none doc pm an cdv ct) args [("self", .ref x), ("index", v)] := by
    rcases ha with rfl | rfl
    · exact BindsTo.of_eq (by first | rfl | with_unfolding_all rfl)
    · exact BindsTo.of_eq (by first | rfl | with_unfolding_all rfl)
  refine Att.call_fn (binds := [("self", .ref x), ("index", v)]) X hlim ho hcd hroom hbind (by first | rfl | decide | with_unfolding_all rfl) (fun s₁ IC => ?_) rfl rfl rfl
  obtain ⟨h₁, tk₁, rfl⟩ := IC.toInCall.same
  have k : ∀ b o, s.heap.get? b = some o → h₁.get? b = some o := IC.toInCall.keep
  have hn := IC.toInCall.ns
  have hxL : s.heap.objs.size ≠ x := Nat.ne_of_gt (Heap.lt_size hx)
  have X₁ : K.In h₁ := X.keeps k
  have hx₁ := k _ _ hx
  show wpAny _ _ (execs _ _) _ _ _
  refine wpAny_execs_cons (plainObj_wpAny_Assign_Attribute ?_)
  refine ldC (v := v) hn (by first | rfl | with_unfolding_all rfl | kernel_rfl) (ldC (v := .ref x) hn (by first | rfl | with_unfolding_all rfl | kernel_rfl) ?_)
  refine set_plain X₁ (ox := excO C t0) (od := none) ⟨hx₁, rfl, rfl, trivial⟩ T2.sa ?_
  have over : excOver K C bmB = true := by
    unfold excOver
    rw [hcl]
    show (C == C && excTail bmB (.ref B :: bmB)) = true
    rw [beq_self_eq_true, Bool.true_and]
    exact T.tail
  have noT : takerIn K C "index" = some none := by
    unfold takerIn
    rw [T2.noN] <;> rfl
  have hdc : hasDictIn K C = true := by
    unfold hasDictIn
    rw [hcl] <;> rfl
  refine first_field (prog := prog) (w := w) (u := v) (f := "index") (tk := tk₁) (x := x) (C := C) (s := { s with heap := h₁, toks := tk₁ + 1 }) T.sto X₁ hx₁ over noT hdc (fun h₃ tk₃ dx k₃ dn dne hx₃ hn₃ => ?_)
  · show wpAny _ _ (execs _ _) _ _ _
    have z : s.heap.objs.size < h₁.objs.size := hn.lt
    exact wpAny_execs_nil (hq h₃ tk₃ dx ⟨fun b o hb e => k₃ b o hb (k b o e), hx₃, Nat.le_of_lt (Nat.lt_of_lt_of_le z dn), dne, hn₃⟩)
theorem made_index (T : CF K C B bn newId initId bmB) (T2 : IFc K C fI "index") (T3 : Fn_index K fI qn) {v : Value} {rest : List Value} {kw : List (Str × Value)} (X : K.In s.heap) (hlim : s.heap.NoLimit) (hroom : A.depth + 1 < recursionLimit)
    (ha : (rest = [v] ∧ kw = []) ∨ (rest = [] ∧ kw = [(("index" : Str), v)]))
    (hq : ∀ h' tk e d t1, Made s.heap h' e C d t1 "index" v → R (.ok (.ret (.ref e))) { s with heap := h', toks := tk }) :
    codeAny (model prog w) A (.call (.ref C) ⟨rest, kw⟩) R s := by
  obtain ⟨nm, q, N, bs, sn, sub, ab, col, dd, k0, k1, k2, k3, k5, hC⟩ := T.cls
  obtain ⟨hp, g, dr, tk, os⟩ := s
  have k : ∀ b o, hp.get? b = some o → ((hp.push (kdv_tup rest)).push (excO C hp.objs.size)).get? b = some o := fun b o e => Heap.get?_push_of_some _ (Heap.get?_push_of_some _ e)
  have hget : ((hp.push (kdv_tup rest)).push (excO C hp.objs.size)).get? (hp.objs.size + 1) = some (excO C hp.objs.size) := by heap_get
  have hrest : rest.length ≤ sizeLine := by
    rcases ha with ⟨rfl, _⟩ | ⟨rfl, _⟩
    · exact one_size v
    · exact Nat.zero_le _
  refine call_kw T.fac (fun Y => List.contains_cons.trans rfl) (X _ _ hC) (looks_findIn X T2.iC) (fun self => bind_fn X self T2.tI) hrest ?_
  refine init_index (s := ⟨(hp.push (kdv_tup rest)).push (excO C hp.objs.size), g, dr, tk, os⟩) (v := v) T T2 T3 (X.keeps k) (hlim.keeps k) hget ?_ ?_ fun h' tk' dx ⟨k', hx, dn, dne, hns⟩ => ?_
  · show A.depth + 1 < recursionLimit
    exact hroom
  · rcases ha with ⟨rfl, rfl⟩ | ⟨rfl, rfl⟩
    · exact .inl rfl
    · exact .inr rfl
  · have old : ∀ b o, hp.get? b = some o → h'.get? b = some o := fun b o e => k' b o (Nat.ne_of_lt (Nat.lt_succ_of_lt (Heap.lt_size e))) (k b o e)
    have z : hp.objs.size + 1 + 1 ≤ dx := by
      first
        | (simpa only [Heap.size_push] using dn)
        | exact dn
        | (have q := dn; rw [Heap.size_push, Heap.size_push] at q; exact q)
    exact ⟨rfl, hq h' tk' (hp.objs.size + 1) dx _ ⟨old, Nat.le_succ _, hx, Nat.le_trans (Nat.le_trans (Nat.le_succ _) (Nat.le_succ _)) z, dne, hns⟩⟩
end

/-! ### the field limit -/
def iA_limit (p1 p2 : Pos) : Arguments := { posonlyargs := [], args := [{ arg := "self", annotation := none, pos := p1 }, { arg := "limit", annotation := none, pos := p2 }], vararg := none, kwonlyargs := [], kw_defaults := [], kwarg := none, defaults := [] }
def iB_limit (q1 q2 q3 q4 : Pos) : List Stmt := [.Assign [.Attribute (.Name "self" q1) "limit" q2] (.Name "limit" q3) q4]
def iS_limit : Scope := { kind := .function, names := [(PySem.Str.ofString "self", .local), (PySem.Str.ofString "limit", .local)], isGenerator := false, isCoroutine := false, more := [] }
def Fn_limit (K : Frag) (fI : Addr) (qn : Str) : Prop := ∃ (oc : Value) (od : Option Addr) (doc pm : Value) (an : Option Addr) (cdv ct : Value) (osl : Array (Option Value)) (p1 p2 q1 q2 q3 q4 : Pos),
    K.lookup fI = some ⟨oc, od, .func (fnOf "__init__" qn (iA_limit p1 p2) (iB_limit q1 q2 q3 q4) iS_limit .none .none doc pm an cdv ct), osl⟩ ∧ codeIn K cdv qn = true
section
variable {prog : Program} {w : World} {A : Around} {E : Value → Shared → Prop} {R : Result → Shared → Prop} {s : Shared} {K : Frag} {C B fI : Addr} {bn newId initId : String} {bmB : List Value} {qn : Str}
theorem init_limit (T : CF K C B bn newId initId bmB) (T2 : IFc K C fI "limit") (T3 : Fn_limit K fI qn) {x t0 : Addr} {v : Value} {args : Args} (X : K.In s.heap) (hlim : s.heap.NoLimit) (hx : s.heap.get? x = some (excO C t0)) (hroom : A.depth < recursionLimit)
    (ha : args = ⟨[.ref x, v], []⟩ ∨ args = ⟨[.ref x], [(("limit" : Str), v)]⟩)
    (hq : ∀ h' tk dx, InitEnd s.heap h' x C dx t0 "limit" v → R (.ok (.ret .none)) { s with heap := h', toks := tk }) :
    codeAny (model prog w) A (.call (.ref fI) args) R s := by
  obtain ⟨oc, od, doc, pm, an, cdv, ct, osl, p1, p2, q1, q2, q3, q4, ho, hcd⟩ := T3
  obtain ⟨nm, q, N, bs, sn, sub, ab, col, dd, k0, k1, k2, k3, k5, hC⟩ := T.cls
  have hcl : clsIn K C = some { name := nm, bases := bs, mro := .ref C :: .ref B :: bmB, ns := N, qualname := q, hasDict := true, slotNames := sn, subclasses := sub, abstract := ab, collection := col, hasDel := false } := by unfold clsIn; rw [hC] <;> rfl
  have hbind : BindsTo s (fnOf "__init__" qn (iA_limit p1 p2) (iB_limit q1 q2 q3 q4) iS_limit .none .none doc pm an cdv ct) args [("self", .ref x), ("limit", v)] := by
    rcases ha with rfl | rfl
    · exact BindsTo.of_eq (by first | rfl | with_unfolding_all rfl)
    · exact BindsTo.of_eq (by first | rfl | with_unfolding_all rfl)
  refine Att.call_fn (binds := [("self", .ref x), ("limit", v)]) X hlim ho hcd hroom hbind (by first | rfl | decide | with_unfolding_all rfl) (fun s₁ IC => ?_) rfl rfl rfl
  obtain ⟨h₁, tk₁, rfl⟩ := IC.toInCall.same
  have k : ∀ b o, s.heap.get? b = some o → h₁.get? b = some o := IC.toInCall.keep
  have hn := IC.toInCall.ns
  have hxL : s.heap.objs.size ≠ x := Nat.ne_of_gt (Heap.lt_size hx)
  have X₁ : K.In h₁ := X.keeps k
  have hx₁ := k _ _ hx
  show wpAny _ _ (execs _ _) _ _ _
  refine wpAny_execs_cons (plainObj_wpAny_Assign_Attribute ?_)
  refine ldC (v := v) hn (by first | rfl | with_unfolding_all rfl | kernel_rfl) (ldC (v := .ref x) hn (by first | rfl | with_unfolding_all rfl | kernel_rfl) ?_)
  refine set_plain X₁ (ox := excO C t0) (od := none) ⟨hx₁, rfl, rfl, trivial⟩ T2.sa ?_
  have over : excOver K C bmB = true := by
    unfold excOver
    rw [hcl]
    show (C == C && excTail bmB (.ref B :: bmB)) = true
    rw [beq_self_eq_true, Bool.true_and]
    exact T.tail
  have noT : takerIn K C "limit" = some none := by
    unfold takerIn
    rw [T2.noN] <;> rfl
  have hdc : hasDictIn K C = true := by
    unfold hasDictIn
    rw [hcl] <;> rfl
  refine first_field (prog := prog) (w := w) (u := v) (f := "limit") (tk := tk₁) (x := x) (C := C) (s := { s with heap := h₁, toks := tk₁ + 1 }) T.sto X₁ hx₁ over noT hdc (fun h₃ tk₃ dx k₃ dn dne hx₃ hn₃ => ?_)
  · show wpAny _ _ (execs _ _) _ _ _
    have z : s.heap.objs.size < h₁.objs.size := hn.lt
    exact wpAny_execs_nil (hq h₃ tk₃ dx ⟨fun b o hb e => k₃ b o hb (k b o e), hx₃, Nat.le_of_lt (Nat.lt_of_lt_of_le z dn), dne, hn₃⟩)
theorem made_limit (T : CF K C B bn newId initId bmB) (T2 : IFc K C fI "limit") (T3 : Fn_limit K fI qn) {v : Value} {rest : List Value} {kw : List (Str × Value)} (X : K.In s.heap) (hlim : s.heap.NoLimit) (hroom : A.depth + 1 < recursionLimit)
    (ha : (rest = [v] ∧ kw = []) ∨ (rest = [] ∧ kw = [(("limit" : Str), v)]))
    (hq : ∀ h' tk e d t1, Made s.heap h' e C d t1 "limit" v → R (.ok (.ret (.ref e))) { s with heap := h', toks := tk }) :
    codeAny (model prog w) A (.call (.ref C) ⟨rest, kw⟩) R s := by
  obtain ⟨nm, q, N, bs, sn, sub, ab, col, dd, k0, k1, k2, k3, k5, hC⟩ := T.cls
  obtain ⟨hp, g, dr, tk, os⟩ := s
  have k : ∀ b o, hp.get? b = some o → ((hp.push (kdv_tup rest)).push (excO C hp.objs.size)).get? b = some o := fun b o e => Heap.get?_push_of_some _ (Heap.get?_push_of_some _ e)
  have hget : ((hp.push (kdv_tup rest)).push (excO C hp.objs.size)).get? (hp.objs.size + 1) = some (excO C hp.objs.size) := by heap_get
  have hrest : rest.length ≤ sizeLine := by
    rcases ha with ⟨rfl, _⟩ | ⟨rfl, _⟩
    · exact one_size v
    · exact Nat.zero_le _
  refine call_kw T.fac (fun Y => List.contains_cons.trans rfl) (X _ _ hC) (looks_findIn X T2.iC) (fun self => bind_fn X self T2.tI) hrest ?_
  refine init_limit (s := ⟨(hp.push (kdv_tup rest)).push (excO C hp.objs.size), g, dr, tk, os⟩) (v := v) T T2 T3 (X.keeps k) (hlim.keeps k) hget ?_ ?_ fun h' tk' dx ⟨k', hx, dn, dne, hns⟩ => ?_
  · show A.depth + 1 < recursionLimit
    exact hroom
  · rcases ha with ⟨rfl, rfl⟩ | ⟨rfl, rfl⟩
    · exact .inl rfl
    · exact .inr rfl
  · have old : ∀ b o, hp.get? b = some o → h'.get? b = some o := fun b o e => k' b o (Nat.ne_of_lt (Nat.lt_succ_of_lt (Heap.lt_size e))) (k b o e)
    have z : hp.objs.size + 1 + 1 ≤ dx := by
      first
        | (simpa only [Heap.size_push] using dn)
        | exact dn
        | (have q := dn; rw [Heap.size_push, Heap.size_push] at q; exact q)
    exact ⟨rfl, hq h' tk' (hp.objs.size + 1) dx _ ⟨old, Nat.le_succ _, hx, Nat.le_trans (Nat.le_trans (Nat.le_succ _) (Nat.le_succ _)) z, dne, hns⟩⟩
end
end XV
end PySem


namespace L2
open PySem PySem.Spec PyProof.Rows
/-- at a an exception of the class at C: no dict yet, or one that is tracked, too -/
def ExcAt (H : Hp) (a C : Addr) : Prop := H a = some (exo a C none) ∨ ∃ d fs, H a = some (exo a C (some d)) ∧ H d = some (exd d fs)
theorem ExcAt.same {H H' : Hp} {a C : Addr} (h : ExcAt H a C) (q : ∀ b o, H b = some o → H' b = some o) : ExcAt H' a C := by
  rcases h with h | ⟨d, fs, h1, h2⟩
  · exact .inl (q _ _ h)
  · exact .inr ⟨d, fs, q _ _ h1, q _ _ h2⟩
section
variable {X : Cx} {pins : List (Addr × Obj)} {σ : St} {H : Hp} {s : Shared}
theorem ExcAt.inst {a C : Addr} (I : Inv X pins σ H s) (h : ExcAt H a C) : ∃ ox od, PySem.W.InstAt s.heap a ox C od := by
  rcases h with h | ⟨d, fs, h1, h2⟩
  · obtain ⟨t1, e⟩ := exo_at I.hok h
    exact ⟨_, none, e, rfl, rfl, trivial⟩
  · obtain ⟨t1, e⟩ := exo_at I.hok h1
    obtain ⟨mA, hns, _⟩ := exd_at I.hok h2
    obtain ⟨od, ho, _⟩ := lookIn_ns hns
    exact ⟨_, some od, e, rfl, rfl, ho⟩
/-- isinstance(e, c) of such an exception -/
def rIsX (K : PySem.W.Frag) : List V → Hp → VK → Prop := fun xs H Q => ∃ (a C : Addr) (c : V) (u : Value) (b : Bool), xs = [.ref a, c] ∧ ExcAt H a C ∧ ExcC K C ∧ ClsV c u ∧ PySem.W.kitOne K (.ref C) u = some b ∧ Q (.bl b) H
end
section
variable {X : Cx}
theorem call_isX : CallR X (.builtin "isinstance") (rIsX X.K) := by
  intro pins s σ H xs us Q I r h
  obtain ⟨a, D, c, u, b, rfl, he, C, k, e, q⟩ := h
  obtain ⟨u1, u2, rfl, r1, r2⟩ := vals2 r
  have e2 := k.eq r2
  subst e2
  cases (show u1 = Value.ref a from r1)
  obtain ⟨ox, od, J⟩ := he.inst I
  exact PySem.W.kia_one (PySem.W.kitx_exc (by obtain ⟨cd, hc, _⟩ := PySem.W.any_some C.hd; rw [hc]; rfl) C.hg C.hk C.hs C.ha C.hn C.ht C.hm) I.kIn J e (fun z => nomatch z) fun tk => ⟨.bl b, H, I.tok tk, rfl, q⟩
/-- e.f of such an exception -/
def tExF (K : PySem.W.Frag) (f : Str) (te : TE) : TE := fun σ H Q => te σ H fun x H1 => ∃ (a C d : Addr) (v : V) (fs : List (Str × V)), x = .ref a ∧ ExcC K C ∧ PySem.W.findIn K (.ref C) f = some none ∧ H1 a = some (exo a C (some d)) ∧ H1 d = some (exd d fs) ∧ fs.lookup f = some v ∧ Q v H1
theorem pe_exf {e : Expr} {te : TE} {f : Str} {pos : Pos} (he : PE X e te) (hb : attributeBase e f X.env (eval e X.env) = eval e X.env := by rfl) : PE X (.Attribute e f pos) (tExF X.K f te) := by
  refine ⟨fun pins s σ H Q I h => ?_⟩
  refine attr_of hb (thn (he.run pins s σ H _ I h) fun u s1 hh => ?_)
  obtain ⟨x, H1, I1, rx, a, C, d, v, fs, ex, T, hno, ea, ed, hl, q⟩ := hh
  subst ex
  obtain rfl : u = Value.ref a := rx
  obtain ⟨t1, ho⟩ := exo_at I1.hok ea
  obtain ⟨mA, hns, rel⟩ := exd_at I1.hok ed
  obtain ⟨od, hod, hlk⟩ := lookIn_ns hns
  obtain ⟨y, hy, ry⟩ := RelO.some_of (v := v) (o := mA f) (by rw [← hl]; exact rel f)
  have J : PySem.W.InstAt s1.heap a { cls := .ref C, dict := some d, data := .fields #[.ref t1, .none, .none, .none, .bool false, .none] } C (some od) := ⟨ho, rfl, rfl, hod⟩
  exact HandSPX.exc_get I1.kIn J T.hg T.hk T.hs (PySem.W.findObj_own T.hd hno rfl (by rw [hlk, hy])) (handed_of ry) ⟨v, H1, I1.tok _, ry, q⟩
/-- a new exception of the class C whose field f holds what e gives -/
def tExV (C : Addr) (f : Str) (ta : TA) : TE := fun σ H Q => ta σ H fun vs H1 => ∃ v, vs = [v] ∧ ∀ a d, H1 a = none → H1 d = none → d ≠ a → Q (.ref a) (upd (upd H1 d (exd d [(f, v)])) a (exo a C (some d)))
theorem exv_end {pins : List (Addr × Obj)} {σ : St} {H1 : Hp} {hp h' : Heap} {g : Array GenState} {dr : Drawn} {tk tk' : Nat} {os : OsState} {e d C t1 : Addr} {f : Str} {y : V} {u : Value} {Q : VK}
    (I : Inv X pins σ H1 ⟨hp, g, dr, tk, os⟩) (M : PySem.XV.Made hp h' e C d t1 f u) (ry : RelV y u) (q : ∀ a d, H1 a = none → H1 d = none → d ≠ a → Q (.ref a) (upd (upd H1 d (exd d [(f, y)])) a (exo a C (some d)))) :
    EP X pins σ Q (.ref e) ⟨h', g, dr, tk', os⟩ := by
  have hne : H1 e = none := I.hok.fresh M.new
  have hnd : H1 d = none := I.hok.fresh M.dbig
  have nd : ∀ {b : Addr} {o : Obj}, hp.get? b = some o → b ≠ d := fun {b o} z => Nat.ne_of_lt (Nat.lt_of_lt_of_le (Heap.lt_size z) M.dbig)
  have ne : ∀ {b : Addr} {o : Obj}, hp.get? b = some o → b ≠ e := fun {b o} z => Nat.ne_of_lt (Nat.lt_of_lt_of_le (Heap.lt_size z) M.new)
  have U : Un X.fs [] H1 (upd (upd H1 d (exd d [(f, y)])) e (exo e C (some d))) hp h' := {
    keep := fun b o z n _ _ => M.keep b o z
    slot := fun b o z n _ _ => ⟨o.slots, M.keep b o z⟩
    free := fun b o z n _ => by rw [upd_ne (ne z), upd_ne (nd z)]; exact n
    there := fun b o z _ => ⟨o, M.keep b o z⟩
    tups := fun b xs z => by rw [upd_ne (ne_of_none z hne), upd_ne (ne_of_none z hnd)]; exact z
    frzs := fun b o v z => by rw [upd_ne (ne_of_none z hne), upd_ne (ne_of_none z hnd)]; exact z
    tbls := fun b ps z => ⟨#[], by rw [upd_ne (ne_of_none z hne), upd_ne (ne_of_none z hnd), z]; simp⟩ }
  have J : Inv X pins σ (upd (upd H1 d (exd d [(f, y)])) e (exo e C (some d))) ⟨h', g, dr, tk', os⟩ := by
    refine I.un (t' := tk') U fun b o z => ?_
    by_cases hb : b = e
    · subst hb
      rw [upd_same] at z
      cases z
      exact exo_ok M.obj
    · rw [upd_ne hb] at z
      by_cases hd : b = d
      · subst hd
        rw [upd_same] at z
        cases z
        exact exd_ok M.ns (relO_put (fs := []) ry fun g => True.intro)
      · rw [upd_ne hd] at z
        exact (I.hok b o z).stay (fun c v _ w => M.keep c v w) (fun c hc => by rw [upd_ne (ne_of_none hc hne), upd_ne (ne_of_none hc hnd)]; exact hc) (fun c xs hc => by rw [upd_ne (ne_of_none hc hne), upd_ne (ne_of_none hc hnd)]; exact hc)
  exact ⟨.ref e, _, J, rfl, q e d hne hnd M.dne⟩
end
section
variable {X : Cx} {C B fI : Addr} {bn newId initId : String} {bmB : List Value} {qn x : Str} {k : Nat} {a : Expr} {ta : TA} {p pos kpos : Pos}
/-- C(), no own __init__ -/
theorem pe_exv0 (F : ExcBaseFacts bn newId initId bmB) (q : PySem.W.excIn X.K C bmB newId = true) (kC : PySem.W.keepIn X.K (.ref C) = true) (hg : Gl X x) (hm : X.mg x = some (.ref C)) (hdb : (x == ("__debug__" : Str)) = false := by decide) :
    PE X (.Call (.Name x p) [] [] pos) (fun σ H Q => ∀ a, H a = none → Q (.ref a) (upd H a (exo a C none))) := by
  refine ⟨fun pins s σ H Q I h => ?_⟩
  refine wpAny_Call_Name_kw (ld_glob I hg hm ?_ hdb)
  refine PySem.W.callWith_K0 I.kIn kC ?_
  show wpAny _ _ (call (.ref C) []) _ _ _
  obtain ⟨bm, N, nm, qn, bs, hdct, sn, sub, ab, col, dd, k0, k1, k2, k3, k5, mN, hC, hN, hni, T⟩ := exc_obj I.kIn q
  obtain ⟨hp, g, d, t, os⟩ := s
  refine wpAny_call_exc_subT F T hC hN hni (fun h' a hm => ?_) (Nat.zero_le _)
  have hn : H a = none := I.hok.gone hm.new
  obtain ⟨t, ht, _, _⟩ := hm.there
  exact ⟨.ref a, upd H a (exo a C none), I.laidN hm.keeps hm.new hn (exo_ok ht), rfl, h a hn⟩

/-- C(e) -/
theorem pe_exv_value (T : PySem.XV.CF X.K C B bn newId initId bmB) (T2 : PySem.XV.IFc X.K C fI "value") (T3 : PySem.XV.Fn_value X.K fI qn) (hr : Room k X.A) (hg : Gl X x) (hm : X.mg x = some (.ref C)) (ha : PA X [a] ta) (hdb : (x == ("__debug__" : Str)) = false := by decide)
    (he : starEach (a :: []) X.env = (false, eval a X.env) :: starEach [] X.env := by rfl) (hpl : (backTo pos (starEach [] X.env)).any (·.1) = false := by rfl) :
    PE X (.Call (.Name x p) [a] [] pos) (tExV C "value" ta) := by
  refine ⟨fun pins s σ H Q I h => ?_⟩
  refine wpAny_Call_Name_kw (ld_glob I hg hm ?_ hdb)
  refine PySem.W.callWith_K (h₀ := X.base) I.ok.mod.kin T.kC (thn (ha.run pos pins s σ H _ I h) fun us s1 hh => ?_) he hpl
  obtain ⟨vs, H1, I1, r1, v, ev, q1⟩ := hh
  subst ev
  refine ⟨I1.kIn, ?_⟩
  cases r1 with
  | cons rv rn =>
    rename_i v' us'
    cases rn
    show wpAny _ _ (call (.ref C) [v']) _ _ _
    have hlim := I1.nolimit
    obtain ⟨hp, g, dr, tk, os⟩ := s1
    refine wpAny_call (PySem.XV.made_value T T2 T3 (v := v') I1.kIn hlim (by have := hr.dp; omega) (.inl ⟨rfl, rfl⟩) fun h' tk' e d t1 M => ?_)
    exact exv_end I1 M rv q1
/-- C(value=e) -/
theorem pe_exk_value (T : PySem.XV.CF X.K C B bn newId initId bmB) (T2 : PySem.XV.IFc X.K C fI "value") (T3 : PySem.XV.Fn_value X.K fI qn) (hr : Room k X.A) (hg : Gl X x) (hm : X.mg x = some (.ref C)) (ha : PK X [⟨some "value", a, kpos⟩] ta) (hdb : (x == ("__debug__" : Str)) = false := by decide)
    (hall : (backToKw pos (keywordEach [⟨some "value", a, kpos⟩] X.env)).all (·.1.isSome) = true := by rfl) (hks : (backToKw pos (keywordEach [⟨some "value", a, kpos⟩] X.env)).filterMap (·.1) = [("value" : Str)] := by rfl)
    (hpl : ((backTo pos (starEach [] X.env)).any (·.1) || (backToKw pos (keywordEach [⟨some "value", a, kpos⟩] X.env)).any (·.1.isNone)) = false := by rfl) :
    PE X (.Call (.Name x p) [] [⟨some "value", a, kpos⟩] pos) (tExV C "value" ta) := by
  refine ⟨fun pins s σ H Q I h => ?_⟩
  refine wpAny_Call_Name_kw (ld_glob I hg hm ?_ hdb)
  refine PySem.W.callWith_KW0 (h₀ := X.base) I.ok.mod.kin T.kC hall ?_ hpl
  refine thn (ha.run pos pins s σ H _ I h) fun ws s1 hh => ?_
  obtain ⟨vs, H1, I1, r1, v, ev, q1⟩ := hh
  subst ev
  refine ⟨I1.kIn, ?_⟩
  rw [hks]
  cases r1 with
  | cons rv rn =>
    rename_i v' us'
    cases rn
    show wpAny _ _ (call (.ref C) [] [(("value" : Str), v')]) _ _ _
    have hlim := I1.nolimit
    obtain ⟨hp, g, dr, tk, os⟩ := s1
    refine wpAny_call (PySem.XV.made_value T T2 T3 (v := v') I1.kIn hlim (by have := hr.dp; omega) (.inr ⟨rfl, rfl⟩) fun h' tk' e d t1 M => ?_)
    exact exv_end I1 M rv q1

/-- C(e) -/
theorem pe_exv_index (T : PySem.XV.CF X.K C B bn newId initId bmB) (T2 : PySem.XV.IFc X.K C fI "index") (T3 : PySem.XV.Fn_index X.K fI qn) (hr : Room k X.A) (hg : Gl X x) (hm : X.mg x = some (.ref C)) (ha : PA X [a] ta) (hdb : (x == ("__debug__" : Str)) = false := by decide)
    (he : starEach (a :: []) X.env = (false, eval a X.env) :: starEach [] X.env := by rfl) (hpl : (backTo pos (starEach [] X.env)).any (·.1) = false := by rfl) :
    PE X (.Call (.Name x p) [a] [] pos) (tExV C "index" ta) := by
  refine ⟨fun pins s σ H Q I h => ?_⟩
  refine wpAny_Call_Name_kw (ld_glob I hg hm ?_ hdb)
  refine PySem.W.callWith_K (h₀ := X.base) I.ok.mod.kin T.kC (thn (ha.run pos pins s σ H _ I h) fun us s1 hh => ?_) he hpl
  obtain ⟨vs, H1, I1, r1, v, ev, q1⟩ := hh
  subst ev
  refine ⟨I1.kIn, ?_⟩
  cases r1 with
  | cons rv rn =>
    rename_i v' us'
    cases rn
    show wpAny _ _ (call (.ref C) [v']) _ _ _
    have hlim := I1.nolimit
    obtain ⟨hp, g, dr, tk, os⟩ := s1
    refine wpAny_call (PySem.XV.made_index T T2 T3 (v := v') I1.kIn hlim (by have := hr.dp; omega) (.inl ⟨rfl, rfl⟩) fun h' tk' e d t1 M => ?_)
    exact exv_end I1 M rv q1
/-- C(index=e) -/
theorem pe_exk_index (T : PySem.XV.CF X.K C B bn newId initId bmB) (T2 : PySem.XV.IFc X.K C fI "index") (T3 : PySem.XV.Fn_index X.K fI qn) (hr : Room k X.A) (hg : Gl X x) (hm : X.mg x = some (.ref C)) (ha : PK X [⟨some "index", a, kpos⟩] ta) (hdb : (x == ("__debug__" : Str)) = false := by decide)
    (hall : (backToKw pos (keywordEach [⟨some "index", a, kpos⟩] X.env)).all (·.1.isSome) = true := by rfl) (hks : (backToKw pos (keywordEach [⟨some "index", a, kpos⟩] X.env)).filterMap (·.1) = [("index" : Str)] := by rfl)
    (hpl : ((backTo pos (starEach [] X.env)).any (·.1) || (backToKw pos (keywordEach [⟨some "index", a, kpos⟩] X.env)).any (·.1.isNone)) = false := by rfl) :
    PE X (.Call (.Name x p) [] [⟨some "index", a, kpos⟩] pos) (tExV C "index" ta) := by
  refine ⟨fun pins s σ H Q I h => ?_⟩
  refine wpAny_Call_Name_kw (ld_glob I hg hm ?_ hdb)
  refine PySem.W.callWith_KW0 (h₀ := X.base) I.ok.mod.kin T.kC hall ?_ hpl
  refine thn (ha.run pos pins s σ H _ I h) fun ws s1 hh => ?_
  obtain ⟨vs, H1, I1, r1, v, ev, q1⟩ := hh
  subst ev
  refine ⟨I1.kIn, ?_⟩
  rw [hks]
  cases r1 with
  | cons rv rn =>
    rename_i v' us'
    cases rn
    show wpAny _ _ (call (.ref C) [] [(("index" : Str), v')]) _ _ _
    have hlim := I1.nolimit
    obtain ⟨hp, g, dr, tk, os⟩ := s1
    refine wpAny_call (PySem.XV.made_index T T2 T3 (v := v') I1.kIn hlim (by have := hr.dp; omega) (.inr ⟨rfl, rfl⟩) fun h' tk' e d t1 M => ?_)
    exact exv_end I1 M rv q1

/-- C(e) -/
theorem pe_exv_limit (T : PySem.XV.CF X.K C B bn newId initId bmB) (T2 : PySem.XV.IFc X.K C fI "limit") (T3 : PySem.XV.Fn_limit X.K fI qn) (hr : Room k X.A) (hg : Gl X x) (hm : X.mg x = some (.ref C)) (ha : PA X [a] ta) (hdb : (x == ("__debug__" : Str)) = false := by decide)
    (he : starEach (a :: []) X.env = (false, eval a X.env) :: starEach [] X.env := by rfl) (hpl : (backTo pos (starEach [] X.env)).any (·.1) = false := by rfl) :
    PE X (.Call (.Name x p) [a] [] pos) (tExV C "limit" ta) := by
  refine ⟨fun pins s σ H Q I h => ?_⟩
  refine wpAny_Call_Name_kw (ld_glob I hg hm ?_ hdb)
  refine PySem.W.callWith_K (h₀ := X.base) I.ok.mod.kin T.kC (thn (ha.run pos pins s σ H _ I h) fun us s1 hh => ?_) he hpl
  obtain ⟨vs, H1, I1, r1, v, ev, q1⟩ := hh
  subst ev
  refine ⟨I1.kIn, ?_⟩
  cases r1 with
  | cons rv rn =>
    rename_i v' us'
    cases rn
    show wpAny _ _ (call (.ref C) [v']) _ _ _
    have hlim := I1.nolimit
    obtain ⟨hp, g, dr, tk, os⟩ := s1
    refine wpAny_call (PySem.XV.made_limit T T2 T3 (v := v') I1.kIn hlim (by have := hr.dp; omega) (.inl ⟨rfl, rfl⟩) fun h' tk' e d t1 M => ?_)
    exact exv_end I1 M rv q1
/-- C(limit=e) -/
theorem pe_exk_limit (T : PySem.XV.CF X.K C B bn newId initId bmB) (T2 : PySem.XV.IFc X.K C fI "limit") (T3 : PySem.XV.Fn_limit X.K fI qn) (hr : Room k X.A) (hg : Gl X x) (hm : X.mg x = some (.ref C)) (ha : PK X [⟨some "limit", a, kpos⟩] ta) (hdb : (x == ("__debug__" : Str)) = false := by decide)
    (hall : (backToKw pos (keywordEach [⟨some "limit", a, kpos⟩] X.env)).all (·.1.isSome) = true := by rfl) (hks : (backToKw pos (keywordEach [⟨some "limit", a, kpos⟩] X.env)).filterMap (·.1) = [("limit" : Str)] := by rfl)
    (hpl : ((backTo pos (starEach [] X.env)).any (·.1) || (backToKw pos (keywordEach [⟨some "limit", a, kpos⟩] X.env)).any (·.1.isNone)) = false := by rfl) :
    PE X (.Call (.Name x p) [] [⟨some "limit", a, kpos⟩] pos) (tExV C "limit" ta) := by
  refine ⟨fun pins s σ H Q I h => ?_⟩
  refine wpAny_Call_Name_kw (ld_glob I hg hm ?_ hdb)
  refine PySem.W.callWith_KW0 (h₀ := X.base) I.ok.mod.kin T.kC hall ?_ hpl
  refine thn (ha.run pos pins s σ H _ I h) fun ws s1 hh => ?_
  obtain ⟨vs, H1, I1, r1, v, ev, q1⟩ := hh
  subst ev
  refine ⟨I1.kIn, ?_⟩
  rw [hks]
  cases r1 with
  | cons rv rn =>
    rename_i v' us'
    cases rn
    show wpAny _ _ (call (.ref C) [] [(("limit" : Str), v')]) _ _ _
    have hlim := I1.nolimit
    obtain ⟨hp, g, dr, tk, os⟩ := s1
    refine wpAny_call (PySem.XV.made_limit T T2 T3 (v := v') I1.kIn hlim (by have := hr.dp; omega) (.inr ⟨rfl, rfl⟩) fun h' tk' e d t1 M => ?_)
    exact exv_end I1 M rv q1
end
end L2


namespace Tr4
open PySem PySem.Spec PyProof.Rows L2
/-- a caught exception of the class at C with the fields fs (no dict: none) -/
def Caught (H : Hp) (a C : Addr) (fs : List (Str × V)) : Prop := (∃ d, H a = some (exq a (.ref C) (some d)) ∧ H d = some (exd d fs)) ∨ (fs = [] ∧ H a = some (exq a (.ref C) none))
theorem Caught.same {H H' : Hp} {a C : Addr} {fs : List (Str × V)} (c : Caught H a C fs) (s : ∀ b o, H b = some o → H' b = some o) : Caught H' a C fs := by
  rcases c with ⟨d, h1, h2⟩ | ⟨e, h⟩
  · exact .inl ⟨d, s _ _ h1, s _ _ h2⟩
  · exact .inr ⟨e, s _ _ h⟩
section
variable {X : Cx} {pins : List (Addr × Obj)} {σ : L2.St} {H : Hp} {s : Shared} {a C : Addr} {fs : List (Str × V)}
theorem Caught.inst (c : Caught H a C fs) (I : Inv X pins σ H s) : ∃ ox od, PySem.W.InstAt s.heap a ox C od ∧ ∀ f v, fs.lookup f = some v → ∃ oo u, od = some oo ∧ PySem.W.lookIn f oo = some (some u) ∧ RelV v u := by
  rcases c with ⟨d, h1, h2⟩ | ⟨rfl, h⟩
  · obtain ⟨o, vs, e, z, dt⟩ := exq_at I.hok h1
    obtain ⟨m, hns, rel⟩ := exd_at I.hok h2
    obtain ⟨oo, ho, lk⟩ := lookIn_ns hns
    refine ⟨o, some oo, ⟨e, z.1, by unfold PySem.W.notCls; rw [dt] <;> rfl, by rw [z.2.1]; exact ho⟩, fun f v hv => ?_⟩
    obtain ⟨u, hu, ru⟩ := RelO.some_of (v := v) (o := m f) (by rw [← hv]; exact rel f)
    exact ⟨oo, u, rfl, by rw [lk, hu], ru⟩
  · obtain ⟨o, vs, e, z, dt⟩ := exq_at I.hok h
    exact ⟨o, none, ⟨e, z.1, by unfold PySem.W.notCls; rw [dt] <;> rfl, by rw [z.2.1]; trivial⟩, fun f v hv => nomatch hv⟩
end
section
variable {X : Cx}
/-- isinstance(e, c) of a caught exception -/
def rIsQ (K : PySem.W.Frag) : List V → Hp → VK → Prop := fun xs H Q => ∃ (a C : Addr) (fs : List (Str × V)) (c : V) (u : Value) (b : Bool), xs = [.ref a, c] ∧ Caught H a C fs ∧ ExcC K C ∧ ClsV c u ∧ PySem.W.kitOne K (.ref C) u = some b ∧ Q (.bl b) H
theorem call_isQ : CallR X (.builtin "isinstance") (rIsQ X.K) := by
  intro pins s σ H xs us Q I r h
  obtain ⟨a, C, fs, c, u, b, rfl, cg, T, k, e, q⟩ := h
  obtain ⟨u1, u2, rfl, r1, r2⟩ := vals2 r
  have e2 := k.eq r2
  subst e2
  cases (show u1 = Value.ref a from r1)
  obtain ⟨ox, od, J, _⟩ := cg.inst I
  exact PySem.W.kia_one (PySem.W.kitx_exc (by obtain ⟨cd, hc, _⟩ := PySem.W.any_some T.hd; rw [hc]; rfl) T.hg T.hk T.hs T.ha T.hn T.ht T.hm) I.kIn J e (fun z => nomatch z) fun tk => ⟨.bl b, H, I.tok tk, rfl, q⟩
/-- e.f of a caught exception -/
def tQf (K : PySem.W.Frag) (f : Str) (te : TE) : TE := fun σ H Q => te σ H fun x H1 => ∃ (a C : Addr) (fs : List (Str × V)) (v : V), x = .ref a ∧ Caught H1 a C fs ∧ ExcC K C ∧ PySem.W.findIn K (.ref C) f = some none ∧ fs.lookup f = some v ∧ Q v H1
theorem pe_qf {e : Expr} {te : TE} {f : Str} {pos : Pos} (he : PE X e te) (hb : attributeBase e f X.env (eval e X.env) = eval e X.env := by rfl) : PE X (.Attribute e f pos) (tQf X.K f te) := by
  refine ⟨fun pins s σ H Q I h => ?_⟩
  refine attr_of hb (thn (he.run pins s σ H _ I h) fun u s1 hh => ?_)
  obtain ⟨x, H1, I1, rx, a, C, fs, v, ex, cg, T, no, hl, q⟩ := hh
  subst ex
  obtain rfl : u = Value.ref a := rx
  obtain ⟨ox, od, J, look⟩ := cg.inst I1
  obtain ⟨oo, u, rfl, lk, ru⟩ := look f v hl
  exact HandSPX.exc_get I1.kIn J T.hg T.hk T.hs (PySem.W.findObj_own T.hd no rfl lk) (handed_of ru) ⟨v, H1, I1.tok _, ru, q⟩
/-- raise of a value that is a new own exception with a dict -/
theorem pmk_val {e : Expr} {te : TE} (hx : X.ex = []) (he : PE X e te) :
    L2N.PMk X e (fun σ H Q => te σ H fun x H1 => ∃ (a C d : Addr) (fs : List (Str × V)), x = .ref a ∧ H1 a = some (exo a C (some d)) ∧ H1 d = some (exd d fs) ∧ Fr0 X.H_0 a ∧ Raises X (.ref C) ∧ Q (.ref C) (some d) (delH H1 a)) := by
  intro pins s σ H Q I h
  refine wpAny_mono (he.run pins s σ H _ I h) (fun u s1 hu => ?_) fun _ _ x => x
  obtain ⟨v, H1, I1, r1, a, C, d, fs, rfl, ha, hd, h0, hr, q⟩ := hu
  cases r1
  obtain ⟨t1, ho⟩ := exo_at I1.hok ha
  obtain ⟨G, gs, ga, J⟩ := I1.untrack ha h0 hx
  refine ⟨a, _, _, { s1 with heap := G }, delH H1 a, .ref C, some d, rfl, J, gs, ga, ho, ⟨rfl, rfl, fun vs z => ?_⟩, rfl, rfl, delH_same, rfl, I1.bare, hr, q⟩
  cases z
  rfl
/-- .. without -/
theorem pmk_val0 {e : Expr} {te : TE} (hx : X.ex = []) (he : PE X e te) :
    L2N.PMk X e (fun σ H Q => te σ H fun x H1 => ∃ (a C : Addr), x = .ref a ∧ H1 a = some (exo a C none) ∧ Fr0 X.H_0 a ∧ Raises X (.ref C) ∧ Q (.ref C) none (delH H1 a)) := by
  intro pins s σ H Q I h
  refine wpAny_mono (he.run pins s σ H _ I h) (fun u s1 hu => ?_) fun _ _ x => x
  obtain ⟨v, H1, I1, r1, a, C, rfl, ha, h0, hr, q⟩ := hu
  cases r1
  obtain ⟨t1, ho⟩ := exo_at I1.hok ha
  obtain ⟨G, gs, ga, J⟩ := I1.untrack ha h0 hx
  refine ⟨a, _, _, { s1 with heap := G }, delH H1 a, .ref C, none, rfl, J, gs, ga, ho, ⟨rfl, rfl, fun vs z => ?_⟩, rfl, rfl, delH_same, rfl, I1.bare, hr, q⟩
  cases z
  rfl
end
end Tr4


/-! defs that an except suite calls: an exception is handled, no repr is under way, nothing is raised -/
namespace Tr4
open PySem PySem.Spec PyProof.Rows L2
abbrev hot (A : Around) (a : Addr) : Around := A.mark (some (.ref a))
structure FnQ (P : Program) (w : World) (K : PySem.W.Frag) (mg : Str → Option Value) (base : Heap) (k : Nat) (f : Addr) (fd : FuncData) (ps : List Str) (sp : Sp) : Prop where
  len : ∀ vs H Q E, sp vs H Q E → vs.length = ps.length
  run : ∀ (B : Around) (a : Addr) (outer : List Env) (s : Shared) (H : Hp) (args : Args) (us : List Value) (vs : List V) (Q : VK) (E : XK), B.guards = some [] → Room k B → Env0 P w K mg base B outer s H → BindsTo s fd args (ps.zip us) → Vals vs us → sp vs H Q E →
    codeAny (model P w) (hot B a) (.call (.ref f) args) (CR CX0 outer P w H s Q E) s
section
variable {P : Program} {w : World} {K : PySem.W.Frag} {mg : Str → Option Value} {base : Heap} {j k : Nat} {f : Addr} {fd : FuncData} {N ps : List Str} {sp : Sp}
theorem FnQ.mono (F : FnQ P w K mg base j f fd ps sp) (h : j ≤ k) : FnQ P w K mg base k f fd ps sp := ⟨F.len, fun B a outer s H args us vs Q E hq hr => F.run B a outer s H args us vs Q E hq (hr.mono h)⟩
/-- a def by its body, read in the context of a suite -/
theorem _root_.L2.Fun.okQ {x qual : Str} {st : Stmt} (F : Fun K x qual st f fd) (S : FnScope N ps (defScope st)) (len : ∀ vs H Q E, sp vs H Q E → vs.length = ps.length)
    (body : ∀ (cdv : Value) (B : Around) (a : Addr) (outer : List Env) (s : Shared) (H : Hp) (vs : List V) (Q : VK) (E : XK), (B.deeper (envOfC qual (defScope st) s.heap.objs.size f cdv)).guards = some [] → Room k (B.deeper (envOfC qual (defScope st) s.heap.objs.size f cdv)) → sp vs H Q E →
      ∃ t, PSs ((cxOf CX0 P w K mg base N qual (defScope st) f cdv B outer s H E).suite a []) (defBody st) t ∧ t { nx := fun _ H' => Q .non H', rt := Q } (start N vs) H) : FnQ P w K mg base (k + 1) f fd ps sp := by
  obtain ⟨oc, od, kV, doc, pm, an, cdv, ct, osl, rfl, lk, hcd⟩ := F.ex
  refine ⟨len, fun B a outer s H args us vs Q E hq hr e0 hb rv hsp => ?_⟩
  have KX : K.In s.heap := e0.mod.kin.keeps fun b o e => (e0.bs b o e).1
  have lim : s.heap.NoLimit := e0.mod.nolimit.keeps fun b o e => (e0.bs b o e).1
  refine codeAny_call_function (show (hot B a).depth < _ from hr.depth) (KX _ _ lk) rfl S.co S.gen rfl (PySem.W.codeRec_of KX hcd) (hb _ _ _ _ ?_)
  refine wpAny_newFunctionEnv_cells S.kind (fun ⟨n, v⟩ hy => ?_) fun env he s1 x => ?_
  · rcases S.par n (List.of_mem_zip hy).1 with q | q
    · exact .inl q
    · exact .inr ⟨q, PySem.W.cellsFrom_some _ _ _ (.inl q)⟩
  subst he
  obtain ⟨t, ht, rd⟩ := body cdv B a outer s H vs Q E hq (hr.deeper _) hsp
  have J := inSuite (a := a) (inv_start (CX := CX0) (E := E) S hr.hd e0 (len _ _ _ _ hsp) rv x)
  refine ⟨lim.keeps x.toInCall.keep, codeAny_func (wpAny_mono (ht.run [] s1 (start N vs) H _ J rd) (fun fl z hz => ?_) fun e z hz => hz.elim)⟩
  cases fl with
  | ret u =>
    obtain ⟨v, σ', H', J, r, q⟩ := hz
    exact ⟨v, H', J.os, J.bare, J.base, J.hok, r, q⟩
  | next =>
    obtain ⟨σ', H', J, q⟩ := hz
    exact ⟨V.non, H', J.os, J.bare, J.base, J.hok, rfl, q⟩
  | brk =>
    obtain ⟨_, _, _, q⟩ := hz
    exact q.elim
  | cont =>
    obtain ⟨_, _, _, q⟩ := hz
    exact q.elim
end
section
variable {X : Cx} {k : Nat} {a f : Addr} {fd : FuncData} {ps : List Str} {sp : Sp} {dvs : List V} {ds : List Value} {E : XK} {x : Str} {p pos : Pos} {e : Expr} {es : List Expr} {t : TA} {pn : List (Addr × Obj)}
/-- f(e, ..) in a suite -/
theorem pe_callQ (F : FnQ X.prog X.w X.K X.mg X.base k f fd ps sp) (hq : X.A.guards = some []) (hr : Room k X.A) (hg : Gl X x) (hm : X.mg x = some (.ref f)) (hk : PySem.W.keepIn X.K (.ref f) = true) (hb : Binds X.K fd ps ds) (hd : Vals dvs ds)
    (ha : PA (X.suite a pn) (e :: es) t) (hdb : (x == ("__debug__" : Str)) = false := by decide) (he : starEach (e :: es) X.env = (false, eval e X.env) :: starEach es X.env := by rfl) (hpl : (backTo pos (starEach es X.env)).any (·.1) = false := by rfl) :
    PE (X.suite a pn) (.Call (.Name x p) (e :: es) [] pos) (tCall sp dvs E t) := by
  refine ⟨fun pins s σ H Q I h => wpAny_Call_Name_kw (ld_glob I hg hm (PySem.W.callWith_K (h₀ := X.base) I.ok.mod.kin hk (thn (ha.run pos pins s σ H _ I h) fun us s1 ⟨vs, H1, I1, r, q⟩ => ⟨I1.kIn, ?_⟩) he hpl) hdb)⟩
  have rr : Vals (vs ++ dvs) (us ++ ds) := r.append hd
  have v0 : Env0 X.prog X.w X.K X.mg X.base (hot X.A a) X.stack s1 H1 := I1.env0
  have v1 : Env0 X.prog X.w X.K X.mg X.base X.A X.stack s1 H1 := ⟨v0.frames, v0.mod, v0.bs, v0.bsz, v0.funs, v0.frf, v0.hok, v0.bare⟩
  refine wpAny_call (codeAny_mono (F.run X.A a X.stack s1 H1 ⟨us, []⟩ (us ++ ds) (vs ++ dvs) Q E hq hr v1 (hb s1 us I1.kIn (by rw [← rr.length]; exact F.len _ _ _ _ q)) rr q) fun r z hz => ?_)
  cases r with
  | error e => exact False.elim hz
  | ok fl =>
    cases fl with
    | ret u => exact I1.after hz
    | next => exact False.elim hz
    | brk => exact False.elim hz
    | cont => exact False.elim hz
end
end Tr4


/-! list(range(..)) while an exception is handled -/
namespace PySem
namespace Hl
open Sem (wp)
def Cool (x : Addr) (h : Heap) : Prop := ∃ (o : Obj) (vs : Array Value), h.get? x = some o ∧ o.data = .fields vs ∧ vs[2]? = some .none
theorem walk_hot {prog : Program} {w : World} {A : Around} {x : Addr} (hh : A.handled = some (.ref x)) {it : Addr} (ne : it ≠ x) (lo : Int) (n : Nat) :
    Walks prog w A it [it, x] [it] n (fun i v => ∃ t, v = .int (lo + i * 1) t) (fun i h => IsRangeIter h it (lo + (i : Nat) * 1) ((n : Int) - (i : Nat)) 1 ∧ Cool x h) := by
  refine ⟨fun b hb => List.mem_cons.mpr (.inl (List.mem_singleton.mp hb)), fun i h h' ⟨k1, o, vs, k2, k3⟩ k => ⟨k it List.mem_cons_self _ k1, o, vs, k x (List.mem_cons_of_mem _ List.mem_cons_self) _ k2, k3⟩, fun i s Q E hi st q => ?_, fun s Q E st q => ?_, fun i s Q E st q => wpAny_pyIter_rangeiter st.1 q⟩
  · obtain ⟨k1, o, vs, k2, k3⟩ := st
    refine wpAny_pyNext_range_item k1 (by omega) fun h' hit' sb => ?_
    have a1 : lo + ((i + 1 : Nat) : Int) * 1 = lo + (i : Int) * 1 + 1 := by omega
    have a2 : (n : Int) - ((i + 1 : Nat) : Int) = (n : Int) - (i : Int) - 1 := by omega
    have old : ∀ b u, b ≠ it → s.heap.get? b = some u → h'.get? b = some u := fun b u nb e => sb.extBut b u nb e
    refine q _ h' _ ⟨_, rfl⟩ ⟨?_, o, vs, old x o (Ne.symm ne) k2, k3⟩ fun b u nb e => old b u (fun z => nb (List.mem_singleton.mpr z)) e
    rw [a1, a2]
    exact hit'
  · obtain ⟨k1, k2⟩ := st
    exact HotX.pyNext_range_end_hot ⟨hh, k2⟩ k1 (by omega) fun h' ex => q h' s.toks fun b u _ e => ex b u e
section
variable {prog : Program} {w : World} {A : Around} {E : Value → Shared → Prop} {s : Shared} {r x : Addr} {lo hi : Int} {t u v : Tok} {n : Nat}
theorem ext_hot {R : Result → Shared → Prop} (hh : A.handled = some (.ref x)) (cool : Cool x s.heap) (rg : IsRange s.heap r lo hi 1 t u v) (sm : Builtin.Range.small lo hi 1 = true) (sz : Builtin.Range.rangeSize lo hi 1 = n) (le : n ≤ 16777216)
    (D : Addr) (given : Value) (cap : Nat) (at_ : s.heap.get? D = some { cls := .type "list", data := .seq #[] cap })
    (fin : ∀ h' tk its c', (∀ b o, b ≠ D → s.heap.get? b = some o → h'.get? b = some o) → h'.get? D = some { cls := .type "list", dict := none, data := .seq its c', slots := #[] } → ItemsOf (fun i v => ∃ t, v = .int (lo + i * 1) t) its n → R (.ok (.ret given)) { s with heap := h', toks := tk }) :
    wpAny (model prog w) A.in1 (Builtin.List.listExtendWith (.ref D) (.ref r) given) (fun f z => match f with | .done y => R (.ok y) z | .again c => c.quiet = true ∧ codeAny (model prog w) A c R z) (fun e z => R (.error e) z) s := by
  have cool0 := cool
  obtain ⟨xo, xv, x1, x2, x3⟩ := cool
  have dr : D ≠ r := fun c => by rw [c, rg] at at_; simp at at_
  have dx : D ≠ x := fun c => by
    rw [c, x1] at at_
    cases at_
    cases x2
  have lt : ∀ {b o}, s.heap.get? b = some o → b ≠ s.heap.objs.size := fun e => Nat.ne_of_lt (Heap.lt_size e)
  have out : D ∉ [s.heap.objs.size, x] := fun m => by
    rcases List.mem_cons.mp m with c | m
    · exact lt at_ c
    · exact dx (List.mem_singleton.mp m)
  have W := (walk_hot (prog := prog) (w := w) (A := A.in1) hh (it := s.heap.objs.size) (Ne.symm (lt x1)) lo n).toS
  have loop : ∀ (h : Heap) (c1 tk : Nat), IsRangeIter h s.heap.objs.size (lo + ((0 : Nat) : Int) * 1) ((n : Int) - ((0 : Nat) : Int)) 1 → (∀ b o, b ≠ D → s.heap.get? b = some o → h.get? b = some o) → h.get? D = some { cls := .type "list", data := .seq #[] c1 } →
      codeAny (model prog w) A (.builtin "list.extend.loop" ⟨[.ref D, .ref s.heap.objs.size, given], []⟩) R { s with heap := h, toks := tk } := by
    intro h c1 tk iter keep here
    refine codeAny_extend_loopS W (by rw [sizeLine_eq]; omega) D out given n 0 _ #[] c1 rfl (Nat.zero_le _) ⟨iter, xo, xv, keep x xo (Ne.symm dx) x1, x2, x3⟩ here (ItemsOf.nil _) fun z its c' mv there items => ?_
    rw [mv.eq_with]
    refine fin z.heap z.toks its c' (fun b o nb e => mv.heap b o (fun m => ?_) (keep b o nb e)) there items
    rcases List.mem_cons.mp m with c | m
    · exact nb c
    · exact lt e (List.mem_singleton.mp m)
  unfold Builtin.List.listExtendWith
  refine wpAny_bind (wpAny_typeOf (T := "range") ⟨_, rg, rfl⟩ ?_)
  have g1 : Builtin.List.listSameRef (.ref D) (.ref r) = false := by simp [Builtin.List.listSameRef, dr]
  have g2 : (Value.type "range" == Value.type "list") = false := by decide
  have g3 : (Value.type "range" == Value.type "tuple") = false := by decide
  simp only [g1, g2, g3, Bool.or_false, Bool.false_eq_true, if_false]
  refine wpAny_bind (wpAny_pyIter_range rg sm (wpAny_bind (wpAny_holding (wpAny_hint_range (n := n) (Heap.get?_push_of_some _ rg) sz (by omega) ?_))))
  have iter : IsRangeIter (s.heap.push { cls := .type "range_iterator", data := .fields #[rawInt lo, rawInt (Builtin.Range.rangeSize lo hi 1), rawInt 1] }) s.heap.objs.size (lo + ((0 : Nat) : Int) * 1) ((n : Int) - ((0 : Nat) : Int)) 1 := by
    show IsRangeIter _ _ _ _ _
    rw [sz]
    simpa using Heap.get?_push_size _ rfl
  have here := Heap.get?_push_of_some { cls := .type "range_iterator", data := .fields #[rawInt lo, rawInt (Builtin.Range.rangeSize lo hi 1), rawInt 1] } at_
  refine wpAny_ite_split (fun _ => ?_) (fun _ => wpAny_pure ⟨plainId_quiet F.plain_extend_loop _, loop _ cap _ iter (fun b o _ e => Heap.get?_push_of_some _ e) here⟩)
  refine wpAny_bind (wpAny_rule (wpAny_bind ?_))
  show wpAny _ _ (updateSeq D (·.push .none) >>= fun _ => updateSeq D (·.pop)) _ _ _
  have here2 := Heap.get?_update_self (Obj.mapSeq (·.push Value.none)) here rfl
  have here3 := Heap.get?_update_self (Obj.mapSeq (·.pop)) here2 rfl
  refine wpAny_bind (wpAny_updateSeq here rfl (wpAny_updateSeq (hz := by seq_fits) here2 rfl (wpAny_pure ⟨plainId_quiet F.plain_extend_loop _, loop _ _ _ ?_ (fun b o nb e => ?_) here3⟩)))
  · exact (Heap.get?_update_other _ _ (lt at_)).trans ((Heap.get?_update_other _ _ (lt at_)).trans iter)
  · exact (Heap.get?_update_other _ _ nb.symm).trans ((Heap.get?_update_other _ _ nb.symm).trans (Heap.get?_push_of_some _ e))
theorem list_hot {Q : Value → Shared → Prop} (hh : A.handled = some (.ref x)) (cool : Cool x s.heap) (rg : IsRange s.heap r lo hi 1 t u v) (sm : Builtin.Range.small lo hi 1 = true) (sz : Builtin.Range.rangeSize lo hi 1 = n) (le : n ≤ 16777216)
    (q : ∀ h' tk its c', (∀ b o, s.heap.get? b = some o → h'.get? b = some o) → h'.get? s.heap.objs.size = some { cls := .type "list", dict := none, data := .seq its c', slots := #[] } → ItemsOf (fun i v => ∃ t, v = .int (lo + i * 1) t) its n → Q (.ref s.heap.objs.size) { s with heap := h', toks := tk }) :
    wpAny (model prog w) A (call (.type "list") [.ref r]) Q E s := by
  refine callType_codes (Q₁ := fun o z => o = .ref s.heap.objs.size ∧ z = { s with heap := s.heap.push { cls := .type "list", data := .seq #[] } }) F.called_list (F.typeCall_list_1 _) F.entry_list_init (code_list_new _ ⟨rfl, rfl⟩) fun o z hz => ?_
  obtain ⟨rfl, rfl⟩ := hz
  have new : (s.heap.push { cls := .type "list", data := .seq #[] }).get? s.heap.objs.size = some { cls := .type "list", data := .seq #[] } := Heap.get?_push_size _ rfl
  have ndr : s.heap.objs.size ≠ r := Nat.ne_of_gt (Heap.lt_size rg)
  obtain ⟨xo, xv, x1, x2⟩ := cool
  have ndx : s.heap.objs.size ≠ x := Nat.ne_of_gt (Heap.lt_size x1)
  have oth : ∀ b o, b ≠ s.heap.objs.size → (s.heap.push { cls := .type "list", data := .seq #[] }).get? b = some o → ((s.heap.push { cls := .type "list", data := .seq #[] }).update s.heap.objs.size (Obj.mapSeq (fun _ => (#[] : Array Value)))).get? b = some o := fun b o nb e => (Heap.get?_update_other _ _ nb.symm).trans e
  refine ⟨⟨_, new, rfl⟩, F.args_list_init_2 _ _, ?_⟩
  show wpAny _ _ (do let old ← Builtin.List.listItems (.ref s.heap.objs.size); Builtin.List.listUpdate (.ref s.heap.objs.size) (fun _ => #[]); letGo old.toList.reverse; Builtin.List.listExtendWith (.ref s.heap.objs.size) (.ref r) .none) _ _ _
  refine wpAny_bind ?_
  unfold Builtin.List.listItems
  refine wpAny_bind (wpAny_seqItems new rfl (wpAny_pure ?_))
  show wpAny _ _ (updateSeq s.heap.objs.size (fun _ => #[]) >>= fun _ => letGo (#[] : Array Value).toList.reverse >>= fun _ => Builtin.List.listExtendWith (.ref s.heap.objs.size) (.ref r) .none) _ _ _
  refine wpAny_bind (wpAny_updateSeq new rfl (wpAny_bind (wpAny_letGo ?_)))
  refine ext_hot (A := A.in1) hh ⟨xo, xv, oth _ _ ndx.symm (Heap.get?_push_of_some _ x1), x2⟩ (oth _ _ ndr.symm (Heap.get?_push_of_some _ rg)) sm sz le s.heap.objs.size .none _ (Heap.get?_update_self _ new rfl) fun h' tk its c' k there items => ⟨rfl, ?_⟩
  exact q h' tk its c' (fun b o e => k b o (Nat.ne_of_lt (Heap.lt_size e)) (oth b o (Nat.ne_of_lt (Heap.lt_size e)) (Heap.get?_push_of_some _ e))) there items
end
end Hl
end PySem
namespace Tr4
open PySem PySem.Spec PyProof.Rows L2
section
variable {X : Cx} {a : Addr} {pn : List (Addr × Obj)} {e : Expr} {te : L2.St → Hp → (Int → Int → Hp → Prop) → Prop}
/-- list(range(..)) in a suite, the caught exception tracked -/
def tLstRgQ (a : Addr) (te : L2.St → Hp → (Int → Int → Hp → Prop) → Prop) : TE := fun σ H Q => te σ H fun lo hi H1 => RgOk lo hi ∧ (∃ cls d, H1 a = some (exq a cls d)) ∧ ∀ q, H1 q = none → Q (.ref q) (upd H1 q (.lst (rgV lo hi)))
theorem pe_listRgQ {p pos : Pos} (hg : Gl X "list") (hm : X.mg "list" = none) (he : PRg (X.suite a pn) e te) (na : starEach [e] X.env = (false, eval e X.env) :: starEach [] X.env := by rfl) : PE (X.suite a pn) (.Call (.Name "list" p) [e] [] pos) (tLstRgQ a te) := by
  refine ⟨fun pins s σ H Q I h => ?_⟩
  refine Call_ (ld_blt I hg hm boot_list (PyProof.Rows.callWith_type1 (args_cons (thn (he pins s σ H _ I h) fun x s1 ⟨r, lo, hi, t, u, v, H1, ex, hr, I1, ok, ⟨cls, d, tracked⟩, q⟩ => args_nil ?_) na) na))
  subst ex
  obtain ⟨b1, b2, b3, b4, b5⟩ := ok
  obtain ⟨o, vs, g1, g2, g3⟩ := exq_at I1.hok tracked
  refine Hl.list_hot (n := (hi - lo).toNat) (x := a) rfl ⟨o, vs, g1, g3, g2.2.2 vs g3⟩ hr (small_one b1 b2 b3 b4) (rangeSize_nat lo hi) (by omega) fun h' tk its c' k there items => ?_
  refine ⟨.ref s1.heap.objs.size, _, I1.laid k (Nat.le_refl _) (show ObjOk X.prog X.w _ _ _ (.lst (rgV lo hi)) from ⟨by rw [rgV_length, sizeLine_eq]; omega, its.toList, c', vals_rg items, ?_⟩), rfl, q _ (I1.hok.fresh (Nat.le_refl _))⟩
  rw [Array.toArray_toList]
  exact there
end
end Tr4


/-! a lambda without parameters handed to a def that tries it; what it raises has no context -/
namespace Tr4
open PySem PySem.Spec PyProof.Rows L2 LamX
section
variable {X : Cx} {pins : List (Addr × Obj)} {σ : L2.St} {H HZ : Hp} {s s1 : Shared}
/-- the context of the lambda's body -/
def lamN (X : Cx) (A : Around) (outer : List Env) (s : Shared) (H : Hp) (E : XK) (scope : Scope) (f c : Addr) : Cx := (lamCx X A outer s H E scope f c).tr [] fun e z =>
  wpAny (model X.prog X.w) (A.deeper (lamEnv X scope s.heap.objs.size f c)) (leaving (lamEnv X scope s.heap.objs.size f c) e) (fun _ y => L2N.CX X.prog X.w outer H s E e y) (fun e' y => L2N.CX X.prog X.w outer H s E e' y) z
abbrev tried (X : Cx) (Ng : List Str) (q : Str) (sg : Scope) (g : Addr) (cd : Value) (s : Shared) (H : Hp) (pn : List (Addr × Obj)) (xe : Value → Shared → Prop) : Cx := (cxOf CX0 X.prog X.w X.K X.mg X.base Ng q sg g cd X.A X.stack s H E0).tr pn xe
/-- x(), in the def that got the lambda -/
theorem pe_actN {Ng : List Str} {q : Str} {sg : Scope} {g f c : Addr} {cd pm ct : Value} {params : Arguments} {body : Expr} {scope : Scope} {k i : Nat} {x : Str} {pn : List (Addr × Obj)} {xe : Value → Shared → Prop} {W : WX} {tb : XK → TE} {p1 p2 : Pos}
    (I : Inv X pins σ H s) (L : LamS X.env.scope scope) (at_ : s.heap.get? f = some (PySem.W.kla_obj "<lambda>" (X.env.qual ++ "<lambda>") params body scope (cloFrom X.env.cells scope.names []) pm c ct)) (un : H f = none) (nf : f ∉ frs X.stack)
    (bi : bindArgs (PySem.W.kla_fn "<lambda>" (X.env.qual ++ "<lambda>") params body scope (cloFrom X.env.cells scope.names []) pm (.ref c) ct) ⟨[], []⟩ = pure []) (tk : L2N.Takes (tried X Ng q sg g cd s H pn xe) W)
    (hr : Room (k + 1) (X.A.deeper (envOfC q sg s.heap.objs.size g cd))) (bd : ∀ (A : Around) (outer : List Env) (s : Shared) (H : Hp) (E : XK), Room k (A.deeper (lamEnv X scope s.heap.objs.size f c)) → PE (lamN X A outer s H E scope f c) body (tb E))
    (hN : Ng[i]? = some x) (hv : Vis sg x) (d1 : (x == ("__debug__" : Str)) = false := by decide) (d2 : (x == ("__classdict__" : Str)) = false := by decide) :
    PE (tried X Ng q sg g cd s H pn xe) (.Call (.Name x p1) [] [] p2) (fun τ G Q => τ[i]? = some (some (.ref f)) ∧ G c = some (CodeO c (X.env.qual ++ "<lambda>")) ∧ ∃ (E : XK) (R : VK), (∀ cls d G1, E cls d G1 → W cls d τ G1) ∧ (∀ v G1, R v G1 → Q v G1) ∧ tb E σ G R) := by
  refine ⟨fun pinz z τ G Q J ⟨here, code, E, R, hE, hR, rd⟩ => ?_⟩
  refine wpAny_Call_Name_kw (thn ((pe_var (pos := p1) (i := i) hN hv d1 d2).run pinz z τ G (fun v G1 => v = .ref f ∧ G1 = G) J ⟨.ref f, here, rfl, rfl⟩) fun u y ⟨v, G1, J1, rv, ev, eG⟩ => ?_)
  subst ev
  subst eG
  obtain rfl : u = Value.ref f := rv
  have fy := J1.base.keep f _ at_ un nf (fun m => nomatch (show f ∈ ([] : List Addr) from m))
  refine PySem.W.callWith_F0 ⟨_, _, _, _, fy⟩ ?_
  obtain ⟨⟨oc, vs, t, k1, k2, k3⟩, _, _⟩ := J1.hok c _ code
  have run : codeAny (model X.prog X.w) (X.A.deeper (envOfC q sg s.heap.objs.size g cd)) (.call (.ref f) ⟨[], []⟩) (CR (L2N.CX X.prog X.w) (envOfC q sg s.heap.objs.size g cd :: X.stack) X.prog X.w G1 y Q E) y := by
    refine PySem.W.kla_callFunE hr.depth fy rfl L.co L.gen rfl ⟨c, oc, vs, t, rfl, k1, k2, k3⟩ ?_
    rw [bi]
    refine wpAny_pure (wpAny_newFunctionEnv (fun n hn => (L.own n hn).2) (fun n hn => absurd hn (by simp)) (fun h1 ns sb => ⟨J1.nolimit.fresh _ sb, ?_⟩) L.kind)
    have kp : ∀ b o, y.heap.get? b = some o → h1.get? b = some o := fun b o e => sb.extBut b o (Nat.ne_of_lt (Heap.lt_size e)) (Heap.get?_push_of_some _ e)
    have st := lam_start2 (E := E) (f := f) (c' := c) (tk := y.toks + ([] : List (Str × Value)).length) I L J1.env0 hr.hd J1.base ns kp
    have U := st.toTry fun e z => wpAny (model X.prog X.w) ((X.A.deeper (envOfC q sg s.heap.objs.size g cd)).deeper (lamEnv X scope y.heap.objs.size f c)) (leaving (lamEnv X scope y.heap.objs.size f c) e) (fun _ y' => L2N.CX X.prog X.w (envOfC q sg s.heap.objs.size g cd :: X.stack) G1 y E e y') (fun e' y' => L2N.CX X.prog X.w (envOfC q sg s.heap.objs.size g cd :: X.stack) G1 y E e' y') z
    refine PySem.W.kla_codeExpr (wpAny_mono ((bd _ _ y G1 E (hr.deeper _)).run [] _ _ G1 R U rd) (fun v z hq => ?_) fun e z hq => hq)
    obtain ⟨v', G2, J2, r2, q2⟩ := hq
    exact ⟨v', G2, J2.os, J2.bare, J2.base, J2.hok, r2, hR _ _ q2⟩
  refine wpAny_call (codeAny_mono run fun r z hq => ?_)
  cases r with
  | error e => exact tk _ _ (L2N.XE.of_call J1 hE hq)
  | ok fl =>
    cases fl with
    | ret u => exact J1.after hq
    | next => exact False.elim hq
    | brk => exact False.elim hq
    | cont => exact False.elim hq
end
end Tr4


namespace Tr4
open PySem PySem.Spec PyProof.Rows L2 LamX
/-- the def g (name x, one parameter a) that calls what it got: TT: what it makes of the lambda's reading -/
def GivesN (X : Cx) (k : Nat) (Ng : List Str) (x : Str) (sg : Scope) (g : Addr) (cd : Value) (bg : List Stmt) (a : Str) (q : Str) (TT : (XK → Hp → VK → Prop) → Hp → VK → Prop) : Prop :=
  ∀ (f c : Addr) (s : Shared) (H : Hp) (Q : VK) (rd : XK → Hp → VK → Prop), (X.A.deeper (envOfC x sg s.heap.objs.size g cd)).guards = some [] → Room k (X.A.deeper (envOfC x sg s.heap.objs.size g cd)) →
    (∀ (W : WX) (pn : List (Addr × Obj)) (xe : Value → Shared → Prop) (p1 p2 : Pos), L2N.Takes (tried X Ng x sg g cd s H pn xe) W →
      PE (tried X Ng x sg g cd s H pn xe) (.Call (.Name a p1) [] [] p2) (fun τ G R => τ[0]? = some (some (.ref f)) ∧ G c = some (CodeO c q) ∧ ∃ (E : XK) (R' : VK), (∀ cls d G1, E cls d G1 → W cls d τ G1) ∧ (∀ v G1, R' v G1 → R v G1) ∧ rd E G R')) →
    H c = some (CodeO c q) → TT rd H Q →
    ∃ t, PSs (cxOf CX0 X.prog X.w X.K X.mg X.base Ng x sg g cd X.A X.stack s H E0).nox bg t ∧ t { nx := fun _ H' => Q .non H', rt := Q } (L2.start Ng [.ref f]) H
section
variable {X : Cx}
/-- x(lambda: body) -/
theorem pe_lamN {T : List (Addr × Str)} {TT : (XK → Hp → VK → Prop) → Hp → VK → Prop} {x a : Str} {g c P : Addr} {j k : Nat} {st : Stmt} {fd : FuncData} {Ng : List Str} {params : Arguments} {body : Expr} {scope : Scope} {t : XK → TE} {p lp pos : Pos}
    (hq : X.A.guards = some []) (hr : Room (k + 2) X.A) (hg : Gl X x) (hm : X.mg x = some (.ref g)) (F : Fun X.K x x st g fd) (hb : Binds X.K fd [a] []) (S : FnScope Ng [a] (defScope st)) (h0 : Ng[0]? = some a) (va : Vis (defScope st) a)
    (G : ∀ cd, GivesN X (k + 1) Ng x (defScope st) g cd (defBody st) a (X.env.qual ++ "<lambda>") TT) (TB : TabB X.base X.mg c P) (hc : X.env.code = .ref c) (mT : (P, X.env.qual ++ "<lambda>") ∈ T) (uT : ∀ p ∈ T, p.1 = P → p.2 = X.env.qual ++ "<lambda>") (L : LamS X.env.scope scope) (df : defaultsOf params X.env = ([], []))
    (bi : ∀ (q : Str) (cl : List (Str × Addr)) (pm cv ct : Value), bindArgs (PySem.W.kla_fn "<lambda>" q params body scope cl pm cv ct) ⟨[], []⟩ = pure [])
    (bd : ∀ (A : Around) (outer : List Env) (s : Shared) (H : Hp) (E : XK) (f c' : Addr), Room k (A.deeper (lamEnv X scope s.heap.objs.size f c')) → PE (lamN X A outer s H E scope f c') body (t E))
    (db : (x == ("__debug__" : Str)) = false := by decide) (d1 : (a == ("__debug__" : Str)) = false := by decide) (d2 : (a == ("__classdict__" : Str)) = false := by decide) :
    PE X (.Call (.Name x p) [.Lambda params body scope lp] [] pos) (tLam T TT t) := by
  obtain ⟨oc, od, kV, doc, pm0, an, cdv, ct, osl, rfl, lk, hcd⟩ := F.ex
  refine ⟨fun pins s σ H Q I ⟨hT, h⟩ => wpAny_Call_Name_kw (ld_glob I hg hm (PySem.W.callWith_K (h₀ := X.base) I.ok.mod.kin F.kp ?_ (by rfl) (by rfl)) db)⟩
  show wpAny _ _ (spliced ((false, eval (.Lambda params body scope lp) X.env) :: backTo pos (starEach [] X.env))) _ _ s
  refine Calls.spliced_cons (lam_make2 I TB hc mT uT hT df (L.has I.ok) fun f c' pm ct' H1 z I1 eN T1 hf fn nf co => Calls.spliced_nil ⟨I1.kIn, ?_⟩)
  have run : codeAny (model X.prog X.w) X.A (.call (.ref g) ⟨[.ref f], []⟩) (CR CX0 X.stack X.prog X.w H1 z Q E0) z := by
    refine run_ofS (N := Ng) (ps := [a]) (us := [.ref f]) (vs := [.ref f]) lk hcd S hr I1.env0 (hb z [.ref f] I1.kIn rfl) (.cons rfl .nil) rfl fun hr1 => ?_
    obtain ⟨t', h1, h2⟩ := G cdv f c' z H1 Q (fun E G' R => t E σ G' R) hq hr1 (fun W pn xe p1 p2 tk => pe_actN (i := 0) (tb := t) I1 L hf fn nf (bi _ _ _ _ _) tk hr1 (fun A outer s H E hr2 => bd A outer s H E f c' hr2) h0 va d1 d2) co (h H1 eN T1)
    exact ⟨t', h1.nox, h2⟩
  refine wpAny_call (codeAny_mono run fun r y hy => ?_)
  cases r with
  | error e => exact (show False from hy).elim
  | ok fl =>
    cases fl with
    | ret u => exact I1.after hy
    | next => exact False.elim hy
    | brk => exact False.elim hy
    | cont => exact False.elim hy
end
end Tr4


/-! defs that raise (nothing is handled): a def by its body, raise C(e) of an own class with one field, calls of such defs -/
namespace Tr4
open PySem PySem.Spec PyProof.Rows L2 StX
theorem cxUpN {P : Program} {w : World} : CXUp (L2N.CX P w) := by
  intro outer s H s2 H2 E e s' un kp ho h
  obtain ⟨a, B, G, cls, d, ea, fl, ok, ub, na, os, ag, he⟩ := h
  have tb : ∀ b (ps : Array Value), H b = some (.tbl ps) → ∃ m : Array Value, G b = some (.tbl (ps ++ m)) := fun b ps q => by
    obtain ⟨m1, e1⟩ := un.tbls b ps q
    obtain ⟨m2, e2⟩ := ub.tbls b _ e1
    exact ⟨m1 ++ m2, by rw [e2, Array.append_assoc]⟩
  exact ⟨a, B, G, cls, d, ea, fl, ok, {
    keep := fun b o q n hb => ub.keep b o (kp b o q) (un.free b o q n (by simp)) hb
    slot := fun b o q hb => ub.slot b o (kp b o q) hb
    free := fun b o q n => ub.free b o (kp b o q) (un.free b o q n (by simp))
    there := fun b o q hb => ub.there b o (kp b o q) hb
    tups := fun b xs q => ub.tups b xs (un.tups b xs q)
    frzs := fun b o xs q => ub.frzs b o xs (un.frzs b o xs q)
    tbls := tb }, na, os.trans ho, ag, he⟩
section
variable {P : Program} {w : World} {K : PySem.W.Frag} {mg : Str → Option Value} {base : Heap}
/-- a def that may raise, by its body -/
theorem _root_.L2.Fun.okN {x qual : Str} {st : Stmt} {f : Addr} {fd : FuncData} {N ps : List Str} {k : Nat} {sp : Sp} (F : Fun K x qual st f fd) (S : FnScope N ps (defScope st)) (len : ∀ vs H Q E, sp vs H Q E → vs.length = ps.length)
    (body : ∀ (cdv : Value) (A : Around) (outer : List Env) (s : Shared) (H : Hp) (vs : List V) (Q : VK) (E : XK), Room k (A.deeper (envOfC qual (defScope st) s.heap.objs.size f cdv)) → sp vs H Q E →
      ∃ t, PSs (cxOf (L2N.CX P w) P w K mg base N qual (defScope st) f cdv A outer s H E) (defBody st) t ∧ t { nx := fun _ H' => Q .non H', rt := Q } (start N vs) H) : FnOk P w K mg base (L2N.CX P w) (k + 1) f fd ps sp := by
  obtain ⟨oc, od, kV, doc, pm, an, cdv, ct, osl, e, lk, hcd⟩ := F.ex
  subst e
  exact fn_of lk hcd S len fun A outer s H vs Q E hr h => body cdv A outer s H vs Q E hr h
theorem takesN {N : List Str} {q : Str} {sc : Scope} {f : Addr} {cd : Value} {A : Around} {outer : List Env} {s : Shared} {H : Hp} {E : XK} : L2N.Takes (cxOf (L2N.CX P w) P w K mg base N q sc f cd A outer s H E) (fun cls d _ G => E cls d G) := L2N.takes_of rfl rfl rfl rfl
theorem passesN {N : List Str} {q : Str} {sc : Scope} {f : Addr} {cd : Value} {A : Around} {outer : List Env} {s : Shared} {H : Hp} {E : XK} : Passes (L2N.CX P w) (cxOf (L2N.CX P w) P w K mg base N q sc f cd A outer s H E) E := L2N.passes_call (W := fun cls d _ G => E cls d G) takesN fun _ _ _ _ h => h
end
/-- an own exception class with the one field index -/
structure ErrI (K : PySem.W.Frag) (C : Addr) : Prop where
  made : ∃ (B fI : Addr) (bn ni ii : String) (bmB : List Value) (qn : Str), PySem.XV.CF K C B bn ni ii bmB ∧ PySem.XV.IFc K C fI "index" ∧ PySem.XV.Fn_index K fI qn
  sb : PySem.W.subIn K (.ref C) (.type "BaseException") = some true
  ty : PySem.W.typeIn K (.ref C) = some (.type "type")
/-- .. value -/
structure ErrV (K : PySem.W.Frag) (C : Addr) : Prop where
  made : ∃ (B fI : Addr) (bn ni ii : String) (bmB : List Value) (qn : Str), PySem.XV.CF K C B bn ni ii bmB ∧ PySem.XV.IFc K C fI "value" ∧ PySem.XV.Fn_value K fI qn
  sb : PySem.W.subIn K (.ref C) (.type "BaseException") = some true
  ty : PySem.W.typeIn K (.ref C) = some (.type "type")
/-- .. limit -/
structure ErrL (K : PySem.W.Frag) (C : Addr) : Prop where
  made : ∃ (B fI : Addr) (bn ni ii : String) (bmB : List Value) (qn : Str), PySem.XV.CF K C B bn ni ii bmB ∧ PySem.XV.IFc K C fI "limit" ∧ PySem.XV.Fn_limit K fI qn
  sb : PySem.W.subIn K (.ref C) (.type "BaseException") = some true
  ty : PySem.W.typeIn K (.ref C) = some (.type "type")
section
variable {X : Cx} {C : Addr} {x f : Str} {k : Nat} {a : Expr} {ta : TA} {p pos rpos : Pos} {W : WX}
/-- a reading of arguments that may be weakened -/
def tWeak (ta : TA) : TA := fun σ H Q => ∃ Q0 : List V → Hp → Prop, ta σ H Q0 ∧ ∀ vs G, Q0 vs G → Q vs G
theorem pa_weak {es : List Expr} (h : PA X es ta) : PA X es (tWeak ta) := ⟨fun pos pins s σ H Q I ⟨Q0, h0, k⟩ => wpAny_mono (h.run pos pins s σ H Q0 I h0) (fun us z ⟨vs, G, J, r, q⟩ => ⟨vs, G, J, r, k _ _ q⟩) fun _ _ z => z⟩
/-- what raise C(e) asks: the dict of the exception is new -/
def tRaise (X : Cx) (C : Addr) (f : Str) (W : WX) (ta : TA) : TS := fun _ σ H => ta σ H fun vs H1 => ∃ v, vs = [v] ∧ (∀ a, H1 a = none → Fr0 X.H_0 a) ∧ ∀ d, H1 d = none → W (.ref C) (some d) σ (upd H1 d (exd d [(f, v)]))
theorem raise_by (hc : X.calm = true) (hx : X.ex = []) (tk : L2N.Takes X W) (r : Raises X (.ref C)) (he : PE X (.Call (.Name x p) [a] [] pos) (tExV C f (tWeak ta))) : PS X (.Raise (some (.Call (.Name x p) [a] [] pos)) none rpos) (tRaise X C f W ta) := by
  refine ⟨fun pins s σ H D I h => (L2N.ps_raise hc tk (pmk_val hx he)).run pins s σ H D I ⟨_, h, ?_⟩⟩
  rintro vs H1 ⟨v, e, h0, w⟩
  refine ⟨v, e, fun o d no nd ne => ⟨o, C, d, _, rfl, upd_same, (by rw [upd_ne ne]; exact upd_same), h0 o no, r, ?_⟩⟩
  have z : (upd H1 d (exd d [(f, v)])) o = none := by rw [upd_ne (Ne.symm ne)]; exact no
  rw [delH_new z]
  exact w d nd
/-- raise C(e), the field index -/
theorem ps_raiseI (hc : X.calm = true) (hx : X.ex = []) (tk : L2N.Takes X W) (T : ErrI X.K C) (hr : Room k X.A) (hg : Gl X x) (hm : X.mg x = some (.ref C)) (ha : PA X [a] ta) (hdb : (x == ("__debug__" : Str)) = false := by decide)
    (he : starEach (a :: []) X.env = (false, eval a X.env) :: starEach [] X.env := by rfl) (hpl : (backTo pos (starEach [] X.env)).any (·.1) = false := by rfl) : PS X (.Raise (some (.Call (.Name x p) [a] [] pos)) none rpos) (tRaise X C "index" W ta) := by
  obtain ⟨B, fI, bn, ni, ii, bmB, qn, T1, T2, T3⟩ := T.made
  exact raise_by hc hx tk (raises_own T.sb T.ty) (pe_exv_index T1 T2 T3 hr hg hm (pa_weak ha) hdb he hpl)
/-- .. value -/
theorem ps_raiseV (hc : X.calm = true) (hx : X.ex = []) (tk : L2N.Takes X W) (T : ErrV X.K C) (hr : Room k X.A) (hg : Gl X x) (hm : X.mg x = some (.ref C)) (ha : PA X [a] ta) (hdb : (x == ("__debug__" : Str)) = false := by decide)
    (he : starEach (a :: []) X.env = (false, eval a X.env) :: starEach [] X.env := by rfl) (hpl : (backTo pos (starEach [] X.env)).any (·.1) = false := by rfl) : PS X (.Raise (some (.Call (.Name x p) [a] [] pos)) none rpos) (tRaise X C "value" W ta) := by
  obtain ⟨B, fI, bn, ni, ii, bmB, qn, T1, T2, T3⟩ := T.made
  exact raise_by hc hx tk (raises_own T.sb T.ty) (pe_exv_value T1 T2 T3 hr hg hm (pa_weak ha) hdb he hpl)
/-- .. limit -/
theorem ps_raiseL (hc : X.calm = true) (hx : X.ex = []) (tk : L2N.Takes X W) (T : ErrL X.K C) (hr : Room k X.A) (hg : Gl X x) (hm : X.mg x = some (.ref C)) (ha : PA X [a] ta) (hdb : (x == ("__debug__" : Str)) = false := by decide)
    (he : starEach (a :: []) X.env = (false, eval a X.env) :: starEach [] X.env := by rfl) (hpl : (backTo pos (starEach [] X.env)).any (·.1) = false := by rfl) : PS X (.Raise (some (.Call (.Name x p) [a] [] pos)) none rpos) (tRaise X C "limit" W ta) := by
  obtain ⟨B, fI, bn, ni, ii, bmB, qn, T1, T2, T3⟩ := T.made
  exact raise_by hc hx tk (raises_own T.sb T.ty) (pe_exv_limit T1 T2 T3 hr hg hm (pa_weak ha) hdb he hpl)
/-- nothing new was tracked at the entry -/
theorem fr0_of {H H1 : Hp} (s : ∀ b o, H b = some o → (∀ ps, o ≠ .tbl ps) → H1 b ≠ none) : ∀ a, H1 a = none → Fr0 H a := fun a n o e => by
  cases o with
  | tbl ps => exact ⟨ps, rfl⟩
  | _ => exact absurd n (s a _ e fun _ z => nomatch z)
end
end Tr4


/-! settings: what a grid is, a pair of a feed and a distance, a feed; where the first wrong element stands -/
namespace Rng
open PySem L2 Bag Gd LamX Tr4
/-- elements, one after the other -/
inductive Els {α : Type} (R : Hp → V → Option α → Prop) (H : Hp) : List V → List (Option α) → Prop
  | nil : Els R H [] []
  | cons {v : V} {o : Option α} {vs : List V} {os : List (Option α)} : R H v o → Els R H vs os → Els R H (v :: vs) (o :: os)
section
variable {α κ : Type} [DecidableEq κ] {R : Hp → V → Option α → Prop} {H H' : Hp} {vs : List V} {os : List (Option α)}
theorem Els.imp (h : Els R H vs os) (k : ∀ v o, R H v o → R H' v o) : Els R H' vs os := by
  induction h with
  | nil => exact .nil
  | cons a _ ih => exact .cons (k _ _ a) ih
theorem Els.len (h : Els R H vs os) : vs.length = os.length := by
  induction h with
  | nil => rfl
  | cons _ _ ih => rw [List.length_cons, List.length_cons, ih]
theorem Els.get {i : Nat} {v : V} (h : Els R H vs os) (e : vs[i]? = some v) : ∃ o, os[i]? = some o ∧ R H v o := by
  induction h generalizing i with
  | nil => simp at e
  | cons k _ ih =>
    cases i with
    | zero =>
      obtain rfl := Option.some.inj e
      exact ⟨_, rfl, k⟩
    | succ i => exact ih e
theorem Els.append {us : List V} {ps : List (Option α)} (h : Els R H vs os) (g : Els R H us ps) : Els R H (vs ++ us) (os ++ ps) := by
  induction h with
  | nil => exact g
  | cons a _ ih => exact .cons a ih
theorem Els.take (h : Els R H vs os) (i : Nat) : Els R H (vs.take i) (os.take i) := by
  induction h generalizing i with
  | nil => rw [List.take_nil, List.take_nil]; exact .nil
  | cons k _ ih =>
    cases i with
    | zero => exact .nil
    | succ i => exact .cons k (ih i)
theorem Els.drop (h : Els R H vs os) (i : Nat) : Els R H (vs.drop i) (os.drop i) := by
  induction h generalizing i with
  | nil => rw [List.drop_nil, List.drop_nil]; exact .nil
  | cons k r ih =>
    cases i with
    | zero => exact .cons k r
    | succ i => exact ih i
/-- the first i elements are these, no two with one key -/
def FineK (key : α → κ) (os : List (Option α)) (i : Nat) (rs : List α) : Prop := os.take i = rs.map some ∧ (rs.map key).Nodup
/-- the first wrong element stands at k -/
def BadK (key : α → κ) (os : List (Option α)) (k : Nat) : Prop := ∃ rs, FineK key os k rs ∧ (os[k]? = some none ∨ ∃ r, os[k]? = some (some r) ∧ key r ∈ rs.map key)
/-- none is wrong -/
def AllK (key : α → κ) (os : List (Option α)) (rs : List α) : Prop := os = rs.map some ∧ (rs.map key).Nodup
theorem FineK.step {key : α → κ} {i : Nat} {rs : List α} {r : α} (f : FineK key os i rs) (e : os[i]? = some (some r)) (n : key r ∉ rs.map key) : FineK key os (i + 1) (rs ++ [r]) := by
  refine ⟨by rw [List.take_add_one, e, f.1, List.map_append]; rfl, ?_⟩
  rw [List.map_append]
  refine List.nodup_append.mpr ⟨f.2, List.nodup_cons.mpr ⟨List.not_mem_nil, List.nodup_nil⟩, fun a ha c hc z => ?_⟩
  obtain rfl := List.mem_singleton.mp hc
  exact n (z ▸ ha)
theorem FineK.all {key : α → κ} {i : Nat} {rs : List α} (f : FineK key os i rs) (h : os.length ≤ i) : AllK key os rs := ⟨by have := f.1; rwa [List.take_of_length_le h] at this, f.2⟩
theorem FineK.len {key : α → κ} {i : Nat} {rs : List α} (f : FineK key os i rs) (h : i ≤ os.length) : rs.length = i := by
  have := congrArg List.length f.1
  rw [List.length_take, List.length_map, Nat.min_eq_left h] at this
  exact this.symm
end
/-- a distance -/
def distV : V → Bool
  | .int n => decide (1 ≤ n) && decide (n ≤ 1000000000)
  | _ => false
inductive PairIs (H : Hp) : V → Option (Str × Int) → Prop
  | pair {p : Addr} {z : Str} {n : Int} : H p = some (.tup [.str z, .int n]) → isName z = true → 1 ≤ n → n ≤ 1000000000 → PairIs H (.ref p) (some (z, n))
  | no {v : V} : NoTup H v → PairIs H v none
  | short {p : Addr} {xs : List V} : H p = some (.tup xs) → xs.length ≠ 2 → PairIs H (.ref p) none
  | two {p : Addr} {x y : V} : H p = some (.tup [x, y]) → Cell H x → Cell H y → (nameV x && distV y) = false → PairIs H (.ref p) none
inductive FeedIs (H : Hp) : V → Option Str → Prop
  | name {z : Str} : isName z = true → FeedIs H (.str z) (some z)
  | none {v : V} : Cell H v → nameV v = false → FeedIs H v none
def netV : V → V → Option (Int × Int)
  | .int s, .int o => if 1 ≤ s ∧ s ≤ 60 ∧ 0 ≤ o ∧ o < s then some (s, o) else none
  | _, _ => none
def offV (i : Int) : V → Bool
  | .int j => decide (0 ≤ j) && decide (j < i)
  | _ => false
theorem net_is (i : Int) (y : V) : (netV (.int i) y).isSome = (decide (1 ≤ i) && (decide (i ≤ 60) && (intV y && offV i y))) := by
  cases y with
  | int j =>
    show (if 1 ≤ i ∧ i ≤ 60 ∧ 0 ≤ j ∧ j < i then some (i, j) else none).isSome = (decide (1 ≤ i) && (decide (i ≤ 60) && (true && (decide (0 ≤ j) && decide (j < i)))))
    by_cases h1 : 1 ≤ i <;> by_cases h2 : i ≤ 60 <;> by_cases h3 : 0 ≤ j <;> by_cases h4 : j < i <;> simp [h1, h2, h3, h4]
  | _ =>
    show false = (decide (1 ≤ i) && (decide (i ≤ 60) && (false && false)))
    simp
inductive NetIs (H : Hp) : V → Option (Option (Int × Int)) → Prop
  | non : NetIs H .non (some none)
  | net {p : Addr} {s o : Int} : H p = some (.tup [.int s, .int o]) → 1 ≤ s → s ≤ 60 → 0 ≤ o → o < s → NetIs H (.ref p) (some (some (s, o)))
  | no {v : V} : v ≠ .non → NoTup H v → NetIs H v none
  | short {p : Addr} {xs : List V} : H p = some (.tup xs) → xs.length ≠ 2 → NetIs H (.ref p) none
  | two {p : Addr} {x y : V} : H p = some (.tup [x, y]) → Cell H x → Cell H y → netV x y = none → NetIs H (.ref p) none
theorem PairIs.kin {H H' : Hp} {v : V} {o : Option (Str × Int)} (h : PairIs H v o) (k : Kin H H') : PairIs H' v o := by
  cases h with
  | pair e n a b => exact .pair ((k _).2.1 _ e) n a b
  | no h => exact .no (h.kin k)
  | short e n => exact .short ((k _).2.1 _ e) n
  | two e a b n => exact .two ((k _).2.1 _ e) (a.kin k) (b.kin k) n
theorem FeedIs.kin {H H' : Hp} {v : V} {o : Option Str} (h : FeedIs H v o) (k : Kin H H') : FeedIs H' v o := by
  cases h with
  | name n => exact .name n
  | none c n => exact .none (c.kin k) n
theorem NetIs.kin {H H' : Hp} {v : V} {o : Option (Option (Int × Int))} (h : NetIs H v o) (k : Kin H H') : NetIs H' v o := by
  cases h with
  | non => exact .non
  | net e a b c d => exact .net ((k _).2.1 _ e) a b c d
  | no n h => exact .no n (h.kin k)
  | short e n => exact .short ((k _).2.1 _ e) n
  | two e a b n => exact .two ((k _).2.1 _ e) (a.kin k) (b.kin k) n
theorem NetIs.forms {H : Hp} {v : V} {o : Option (Option (Int × Int))} (h : NetIs H v o) (n : v ≠ .non) : (NoTup H v ∧ o = none) ∨ (∃ p xs, v = .ref p ∧ H p = some (.tup xs) ∧ xs.length ≠ 2 ∧ o = none) ∨
    ∃ p x y, v = .ref p ∧ H p = some (.tup [x, y]) ∧ Cell H x ∧ Cell H y ∧ o.isSome = (netV x y).isSome := by
  cases h with
  | non => exact absurd rfl n
  | no _ h => exact .inl ⟨h, rfl⟩
  | short e m => exact .inr (.inl ⟨_, _, rfl, e, m, rfl⟩)
  | @net p s o e a b c d => exact .inr (.inr ⟨_, _, _, rfl, e, .int _, .int _, by show true = (if 1 ≤ s ∧ s ≤ 60 ∧ 0 ≤ o ∧ o < s then some (s, o) else none).isSome; rw [if_pos ⟨a, b, c, d⟩]; rfl⟩)
  | two e a b m => exact .inr (.inr ⟨_, _, _, rfl, e, a, b, by rw [m]; rfl⟩)
theorem PairIs.forms {H : Hp} {v : V} {o : Option (Str × Int)} (h : PairIs H v o) : (NoTup H v ∧ o = none) ∨ (∃ p xs, v = .ref p ∧ H p = some (.tup xs) ∧ xs.length ≠ 2 ∧ o = none) ∨
    ∃ p x y, v = .ref p ∧ H p = some (.tup [x, y]) ∧ Cell H x ∧ Cell H y ∧ o.isSome = (nameV x && distV y) := by
  cases h with
  | no h => exact .inl ⟨h, rfl⟩
  | short e n => exact .inr (.inl ⟨_, _, rfl, e, n, rfl⟩)
  | pair e n a b =>
    refine .inr (.inr ⟨_, _, _, rfl, e, .str ?_, .int _, ?_⟩)
    · unfold isName at n
      simp only [Bool.and_eq_true, decide_eq_true_eq] at n
      exact Nat.le_trans n.1 (by decide)
    · show true = (isName _ && (decide _ && decide _))
      rw [n, decide_eq_true a, decide_eq_true b]
      rfl
  | two e a b n => exact .inr (.inr ⟨_, _, _, rfl, e, a, b, n.symm⟩)
/-- an own error with the field index, or value -/
def ErrK (C : Addr) (f : Str) (v : V) (H : Hp) (E : XK) : Prop := ∀ (d : Addr) (H' : Hp), H d = Option.none → Same H H' → H' d = some (exd d [(f, v)]) → E (.ref C) (some d) H'
theorem ErrK.same {C : Addr} {f : Str} {v : V} {H H1 : Hp} {E : XK} (h : ErrK C f v H E) (s : Same H H1) : ErrK C f v H1 E := fun d H' n s' e => h d H' (s.free n) (s.trans s') e
def spGridQ : Sp := fun vs H Q _ => ∃ (v : V) (o : Option (Option (Int × Int))), vs = [v] ∧ NetIs H v o ∧ v ≠ .non ∧ Q (.bl o.isSome) H
def spChkGrid (C : Addr) : Sp := fun vs H Q E => ∃ (v : V) (o : Option (Option (Int × Int))), vs = [v] ∧ NetIs H v o ∧ (o.isSome = true → Q .non H) ∧ (o = none → ErrK C "value" v H E)
def spDistQ : Sp := fun vs H Q _ => ∃ (v : V) (o : Option (Str × Int)), vs = [v] ∧ PairIs H v o ∧ ∀ H', Same H H' → Q (.bl o.isSome) H'
/-- a tuple that is tracked, its object known or not, or stands in K -/
def TpK (K : PySem.W.Frag) (H : Hp) (p : Addr) (xs : List V) : Prop := SqT K H p xs
theorem TpK.of {K : PySem.W.Frag} {H : Hp} {p : Addr} {xs : List V} (h : H p = some (.tup xs)) : TpK K H p xs := SqT.of h
theorem sqF {K : PySem.W.Frag} {H : Hp} {p : Addr} {q : Obj} {xs : List V} (h : H p = some (.frz q (.tup xs))) : SqT K H p xs := .inl (.inr ⟨q, h⟩)
theorem TpK.ty {K : PySem.W.Frag} {H : Hp} {p : Addr} {xs : List V} (h : TpK K H p xs) : TyX K H (.ref p) (.type "tuple") := by
  rcases h with (h | ⟨q, h⟩) | ⟨o, its, n, e, c, _⟩
  · exact .base (.tup h)
  · exact .fTuple h
  · exact .kTuple e c
theorem TpK.sq {K : PySem.W.Frag} {H : Hp} {p : Addr} {xs : List V} (h : TpK K H p xs) : SqT K H p xs := h
theorem TpK.same {K : PySem.W.Frag} {H H' : Hp} {p : Addr} {xs : List V} (h : TpK K H p xs) (s : Same H H') : TpK K H' p xs := h.imp (fun e => e.imp (s _ _) fun ⟨q, e⟩ => ⟨q, s _ _ e⟩) id
theorem TpK.but {K : PySem.W.Frag} {H H' : Hp} {o p : Addr} {xs : List V} (h : TpK K H p xs) (b : But o H H') (n : ∀ zs, H o ≠ some (.tup zs)) (n2 : ∀ q zs, H o ≠ some (.frz q (.tup zs))) : TpK K H' p xs :=
  h.imp (fun e => e.imp (fun e => b _ _ (fun z => n xs (z ▸ e)) e) fun ⟨q, e⟩ => ⟨q, b _ _ (fun z => n2 q xs (z ▸ e)) e⟩) id
def spApart (K : PySem.W.Frag) (C : Addr) : Sp := fun vs H Q E => ∃ v : V, vs = [v] ∧
  ((∃ (p : Addr) (xs : List V) (os : List (Option (Str × Int))), v = .ref p ∧ TpK K H p xs ∧ Els PairIs H xs os ∧ os.length ≤ 100 ∧ (∀ k H1, BadK Prod.fst os k → Same H H1 → ErrK C "index" (.int k) H1 E) ∧ ∀ rs H', AllK Prod.fst os rs → Same H H' → Q .non H') ∨
   (NoTup H v ∧ ErrK C "index" .non H E))
def spFeeds (K : PySem.W.Frag) (C : Addr) : Sp := fun vs H Q E => ∃ (v g : V) (n : Option (Int × Int)), vs = [v, g] ∧ NetIs H g (some n) ∧
  ((∃ (p : Addr) (xs : List V) (os : List (Option Str)), v = .ref p ∧ TpK K H p xs ∧ Els FeedIs H xs os ∧ os.length ≤ 100 ∧ (∀ k H1, BadK id os k → Same H H1 → ErrK C "index" (.int k) H1 E) ∧
      ∀ rs, AllK id os rs → (rs ≠ [] ∧ n = none → ∀ H1, Same H H1 → ErrK C "index" .non H1 E) ∧ (rs = [] ∨ n ≠ none → ∀ H', Same H H' → Q .non H')) ∨
   (NoTup H v ∧ ErrK C "index" .non H E))
end Rng


namespace K13
open PySem L2 Rng Bag Gd LamX Tr4
section
variable {P : Program} {w : World} {K : PySem.W.Frag} {mg : Str → Option Value} {base : Heap}
abbrev sGrid : Stmt := top 32
theorem scGrid : FnScope ["value", "step", "offset"] ["value"] (defScope sGrid) := ⟨rfl, rfl, rfl, by decide +kernel, rfl, by decide +kernel, by decide +kernel⟩
theorem ok_grid {f fI : Addr} {fd dI : FuncData} {mt : Tok} (F : Fun K "is_grid" "is_grid" sGrid f fd) (T : Kt mg) (mS : mg "MAX_STEP" = some (.int 60 mt)) (FI : Fun K "is_integer" "is_integer" sInteger fI dI) (bI : Binds K dI ["value"] []) (mI : mg "is_integer" = some (.ref fI)) (GI : FnOk P w K mg base CX0 1 fI dI ["value"] (spInteger K)) : FnOk P w K mg base CX0 2 f fd ["value"] spGridQ := by
  refine F.ok scGrid (fun vs H Q E h => ?_) (fun cdv A outer s H vs Q E hr h => ?_)
  · obtain ⟨v, o, rfl, _⟩ := h
    rfl
  · obtain ⟨v, o, rfl, hb, nn, q⟩ := h
    have hr1 : Room 1 _ := hr.mono (by decide)
    refine ⟨_, pss_cons (ps_if (PW.pt (pw_or (pt_not (pt_val (pe_callB call_isi (by rfl) T.nIsi (by decide +kernel) (pa_cons (pv 0) (pa_cons (pe_bltn (v := .ty "tuple") (by rfl) T.nTuple (by decide +kernel) rfl) pa_nil))))) (pw_or1 (pt_cmpR op_ne (pe_callB call_len_seq (by rfl) T.nLen PySem.boot_len (pa_cons (pv 0) pa_nil)) pe_int (nomark _))))) (pss_one (ps_ret pe_bl)) pss_nil)
      (pss_cons (ps_asg (pv 0) (pg_tup (by rfl) (pgs_cons (pg_name (i := 1) scGrid.nd rfl (Or.inl rfl)) (pgs_cons (pg_name (i := 2) scGrid.nd rfl (Or.inl rfl)) pgs_nil))))
      (pss_one (ps_ret (pe_and (pe_call GI hr1 rfl mI FI.kp bI .nil pass0 (pa_cons (pv 1) pa_nil)) (pe_and (pe_chain op_le op_le pe_int (pv 1) (pe_glob (v := .int 60) rfl mS ⟨mt, rfl⟩)) (pe_and (pe_call GI hr1 rfl mI FI.kp bI .nil pass0 (pa_cons (pv 2) pa_nil)) (pe_one (pe_chain op_le op_lt pe_int (pv 2) (pv 1))))))))), ?_⟩
    rcases hb.forms nn with ⟨h0, rfl⟩ | ⟨p, xs, rfl, hp, hl, rfl⟩ | ⟨p, x, y, rfl, hp, cx, cy, ho⟩
    · obtain ⟨t, ty, k⟩ := h0.ty (K := K)
      exact ⟨v, rfl, v, _, t, _, false, rfl, .ty "tuple", ty, k, false, rfl, q⟩
    · refine ⟨_, rfl, _, _, _, _, true, rfl, .ty "tuple", .base (.tup hp), kit_ty (by decide +kernel), true, rfl, ?_⟩
      show if (!true) = true then _ else _
      refine iteF ⟨_, rfl, _, _, rfl, .inr (SqT.of hp), rfl, _, rfl, ?_⟩
      have ne : (!decide (V.int xs.length = V.int 2)) = true := by
        have : ¬ V.int xs.length = V.int 2 := fun e => hl (by injection e with e; omega)
        rw [decide_eq_false this]
        rfl
      show if (!decide (V.int xs.length = V.int 2)) = true then _ else _
      rw [ne]
      exact iteT q

    · refine ⟨_, rfl, _, _, _, _, true, rfl, .ty "tuple", .base (.tup hp), kit_ty (by decide +kernel), true, rfl, ?_⟩
      show if (!true) = true then _ else _
      refine iteF ⟨_, rfl, _, _, rfl, .inr (SqT.of hp), rfl, _, rfl, ?_⟩
      refine iteF ⟨_, rfl, _, _, rfl, SqT.of hp, rfl, ?_⟩
      refine ⟨x, [y], rfl, y, [], rfl, rfl, x, rfl, x, _, rfl, cx.isInt, _, rfl, ?_⟩
      cases x with
      | int i =>
        have nn := net_is i y
        rw [ho, nn] at q
        refine iteT ⟨_, rfl, _, _, rfl, rfl, _, rfl, ?_⟩
        by_cases h1 : 1 ≤ i
        · rw [decide_eq_true h1] at q ⊢
          refine iteT ⟨_, _, rfl, rfl, decide (i ≤ 60), rfl, ?_⟩
          by_cases h2 : i ≤ 60
          · rw [decide_eq_true h2] at q ⊢
            refine iteT ⟨_, rfl, y, _, rfl, cy.isInt, _, rfl, ?_⟩
            cases y with
            | int j =>
              refine iteT ⟨_, rfl, _, _, rfl, rfl, _, rfl, ?_⟩
              have q : Q (.bl (decide (0 ≤ j) && decide (j < i))) H := q
              by_cases h3 : 0 ≤ j
              · rw [decide_eq_true h3] at q ⊢
                exact iteT ⟨_, rfl, _, _, rfl, rfl, q⟩
              · rw [decide_eq_false h3] at q ⊢
                exact iteF q
            | _ => exact iteF q
          · rw [decide_eq_false h2] at q ⊢
            exact iteF q
        · rw [decide_eq_false h1] at q ⊢
          exact iteF ⟨_, rfl, iteF q⟩
      | _ => exact iteF (by rw [ho] at q; exact q)
end
end K13


namespace K13
open PySem L2 Rng Bag Gd LamX Tr4
section
variable {P : Program} {w : World} {K : PySem.W.Frag} {mg : Str → Option Value} {base : Heap}
abbrev sCkG : Stmt := top 36
theorem scCkG : FnScope ["value"] ["value"] (defScope sCkG) := ⟨rfl, rfl, rfl, by decide +kernel, rfl, by decide +kernel, by decide +kernel⟩
theorem ok_ckgrid {f fG Ci : Addr} {fd dG : FuncData} (F : Fun K "check_grid" "check_grid" sCkG f fd) (TI : ErrV K Ci) (mI : mg "InvalidGrid" = some (.ref Ci)) (FG : Fun K "is_grid" "is_grid" sGrid fG dG) (bG : Binds K dG ["value"] []) (mG : mg "is_grid" = some (.ref fG)) (GG : FnOk P w K mg base CX0 2 fG dG ["value"] spGridQ) :
    FnOk P w K mg base (L2N.CX P w) 3 f fd ["value"] (spChkGrid Ci) := by
  refine F.okN scCkG (fun vs H Q E h => ?_) (fun cdv A outer s H vs Q E hr h => ?_)
  · obtain ⟨v, o, rfl, _⟩ := h
    rfl
  · obtain ⟨v, o, rfl, hb, q1, q2⟩ := h
    refine ⟨_, pss_one (ps_if (PW.pt (pw_and (pt_cmp (pc_notN (pv 0))) (pw_and1 (pt_not (pt_val (pe_call GG hr rfl mG FG.kp bG .nil pass0 (pa_cons (pv 0) pa_nil))))))) (pss_one (ps_raiseV rfl rfl takesN TI hr rfl mI (pa_cons (pv 0) pa_nil))) pss_nil), ?_⟩
    by_cases hn : v = .non
    · subst hn
      cases hb with
      | non => exact ⟨_, rfl, _, rfl, iteF (q1 rfl)⟩
      | no n _ => exact absurd rfl n
    · refine ⟨_, rfl, !decide (v = .non), rfl, ?_⟩
      rw [show (!decide (v = .non)) = true by rw [decide_eq_false hn]; rfl]
      refine iteT ⟨_, rfl, v, o, rfl, hb, hn, ⟨_, rfl, ?_⟩⟩
      cases o with
      | some n => exact iteF (q1 rfl)
      | none => exact iteT ⟨_, rfl, v, rfl, fr0_of (H := H) (H1 := H) (fun c u e _ z => nomatch (show some u = none from e.symm.trans z)), fun d nd => q2 rfl d _ nd (same_put nd) upd_same⟩
abbrev sDist : Stmt := top 38
theorem scDist : FnScope ["value", "feed", "distance"] ["value"] (defScope sDist) := ⟨rfl, rfl, rfl, by decide +kernel, rfl, by decide +kernel, by decide +kernel⟩
theorem ok_dist {f fN fI : Addr} {fd dN dI : FuncData} {mt : Tok} (F : Fun K "_is_distance" "_is_distance" sDist f fd) (T : Kt mg) (mD : mg "MAX_DISTANCE" = some (.int 1000000000 mt)) (FN : Fun K "is_name" "is_name" sName fN dN) (bN : Binds K dN ["value"] []) (mN : mg "is_name" = some (.ref fN)) (GN : FnOk P w K mg base CX0 2 fN dN ["value"] (spIsName K)) (FI : Fun K "is_integer" "is_integer" sInteger fI dI) (bI : Binds K dI ["value"] []) (mI : mg "is_integer" = some (.ref fI)) (GI : FnOk P w K mg base CX0 1 fI dI ["value"] (spInteger K)) : FnOk P w K mg base CX0 3 f fd ["value"] spDistQ := by
  refine F.ok scDist (fun vs H Q E h => ?_) (fun cdv A outer s H vs Q E hr h => ?_)
  · obtain ⟨v, o, rfl, _⟩ := h
    rfl
  · obtain ⟨v, o, rfl, hb, q⟩ := h
    have hr1 : Room 1 _ := hr.mono (by decide)
    refine ⟨_, pss_cons (ps_if (PW.pt (pw_or (pt_not (pt_val (pe_callB call_isi (by rfl) T.nIsi (by decide +kernel) (pa_cons (pv 0) (pa_cons (pe_bltn (v := .ty "tuple") (by rfl) T.nTuple (by decide +kernel) rfl) pa_nil))))) (pw_or1 (pt_cmpR op_ne (pe_callB call_len_seq (by rfl) T.nLen PySem.boot_len (pa_cons (pv 0) pa_nil)) pe_int (nomark _))))) (pss_one (ps_ret pe_bl)) pss_nil)
      (pss_cons (ps_asg (pv 0) (pg_tup (by rfl) (pgs_cons (pg_name (i := 1) scDist.nd rfl (Or.inl rfl)) (pgs_cons (pg_name (i := 2) scDist.nd rfl (Or.inl rfl)) pgs_nil))))
      (pss_one (ps_ret (pe_and (pe_call GN (hr.mono (by decide)) rfl mN FN.kp bN .nil pass0 (pa_cons (pv 1) pa_nil)) (pe_and (pe_call GI hr1 rfl mI FI.kp bI .nil pass0 (pa_cons (pv 2) pa_nil)) (pe_one (pe_chain op_le op_le pe_int (pv 2) (pe_glob (v := .int 1000000000) rfl mD ⟨mt, rfl⟩)))))))), ?_⟩
    rcases hb.forms with ⟨h0, rfl⟩ | ⟨p, xs, rfl, hp, hl, rfl⟩ | ⟨p, x, y, rfl, hp, cx, cy, ho⟩
    · obtain ⟨t, ty, k⟩ := h0.ty (K := K)
      exact ⟨v, rfl, v, _, t, _, false, rfl, .ty "tuple", ty, k, false, rfl, q H (Same.refl _)⟩
    · refine ⟨_, rfl, _, _, _, _, true, rfl, .ty "tuple", .base (.tup hp), kit_ty (by decide +kernel), true, rfl, ?_⟩
      show if (!true) = true then _ else _
      refine iteF ⟨_, rfl, _, _, rfl, .inr (SqT.of hp), rfl, _, rfl, ?_⟩
      have ne : (!decide (V.int xs.length = V.int 2)) = true := by
        have : ¬ V.int xs.length = V.int 2 := fun e => hl (by injection e with e; omega)
        rw [decide_eq_false this]
        rfl
      show if (!decide (V.int xs.length = V.int 2)) = true then _ else _
      rw [ne]
      exact iteT (q H (Same.refl _))
    · refine ⟨_, rfl, _, _, _, _, true, rfl, .ty "tuple", .base (.tup hp), kit_ty (by decide +kernel), true, rfl, ?_⟩
      show if (!true) = true then _ else _
      refine iteF ⟨_, rfl, _, _, rfl, .inr (SqT.of hp), rfl, _, rfl, ?_⟩
      refine iteF ⟨_, rfl, _, _, rfl, SqT.of hp, rfl, ?_⟩
      refine ⟨x, [y], rfl, y, [], rfl, rfl, x, rfl, x, _, rfl, cx.isName, fun H1 s1 => ⟨_, rfl, ?_⟩⟩
      have q := q H1 s1
      rw [ho] at q
      cases hx : nameV x with
      | false => exact iteF (by rw [hx] at q; exact q)
      | true =>
        rw [hx] at q
        have q : Q (.bl (distV y)) H1 := q
        refine iteT ⟨y, rfl, y, _, rfl, (cy.kin s1.kin).isInt, _, rfl, ?_⟩
        cases y with
        | int i =>
          refine iteT ⟨_, rfl, _, _, rfl, rfl, _, rfl, ?_⟩
          have q : Q (.bl (decide (1 ≤ i) && decide (i ≤ 1000000000))) H1 := q
          by_cases h1 : 1 ≤ i
          · rw [decide_eq_true h1] at q ⊢
            exact iteT ⟨_, _, rfl, rfl, q⟩
          · rw [decide_eq_false h1] at q ⊢
            exact iteF q
        | _ => exact iteF q
end
end K13


namespace K13
open PySem L2 Rng Bag Gd LamX Tr4
section
variable {P : Program} {w : World} {K : PySem.W.Frag} {mg : Str → Option Value} {base : Heap}
structure Ks (mg : Str → Option Value) : Prop where
  nSet : mg "set" = none
  nEnum : mg "enumerate" = none
  nSorted : mg "sorted" = none
  nDict : mg "dict" = none
abbrev sApart : Stmt := top 39
theorem scApart : FnScope ["apart", "feeds", "index", "pair"] ["apart"] (defScope sApart) := ⟨rfl, rfl, rfl, by decide +kernel, rfl, by decide +kernel, by decide +kernel⟩
theorem ok_apart {f fD Ci : Addr} {fd dD : FuncData} (F : Fun K "_check_apart" "_check_apart" sApart f fd) (T : Kt mg) (KS : Ks mg) (TI : ErrI K Ci) (mI : mg "InvalidApart" = some (.ref Ci)) (FD : Fun K "_is_distance" "_is_distance" sDist fD dD) (bD : Binds K dD ["value"] []) (mD : mg "_is_distance" = some (.ref fD)) (GD : FnOk P w K mg base CX0 3 fD dD ["value"] spDistQ) :
    FnOk P w K mg base (L2N.CX P w) 4 f fd ["apart"] (spApart K Ci) := by
  refine F.okN scApart (fun vs H Q E h => ?_) (fun cdv A outer s H vs Q E hr h => ?_)
  · obtain ⟨v, rfl, _⟩ := h
    rfl
  · obtain ⟨v, rfl, h⟩ := h
    refine ⟨_, pss_cons (ps_if (pt_not (pt_val (pe_callB call_isi (by rfl) T.nIsi (by decide +kernel) (pa_cons (pv 0) (pa_cons (pe_bltn (v := .ty "tuple") (by rfl) T.nTuple (by decide +kernel) rfl) pa_nil))))) (pss_one (ps_raiseI rfl rfl takesN TI hr rfl mI (pa_cons pe_non pa_nil))) pss_nil)
      (pss_cons (ps_set (i := 1) scApart.nd rfl (Or.inl rfl) (pe_callTy0 cr_set0K (by rfl) KS.nSet (by decide +kernel)))
      (pss_one (ps_for (L2.passes_of rfl) rfl (En1.pi_enumT rfl KS.nEnum (pa_cons (pv 0) pa_nil)) (pg_tup (by rfl) (pgs_cons (pg_name (i := 2) scApart.nd rfl (Or.inl rfl)) (pgs_cons (pg_name (i := 3) scApart.nd rfl (Or.inl rfl)) pgs_nil)))
        (pss_cons (ps_if (PW.pt (pw_or (pt_not (pt_val (pe_call GD hr rfl mD FD.kp bD .nil pass0 (pa_cons (pv 3) pa_nil)))) (pw_or1 (pt_cmpR or_sinK (pe_ix ix_tup (pv 3) pe_int (fun _ _ => rfl)) (pv 1) (by rfl))))) (pss_one (ps_raiseI rfl rfl takesN TI hr rfl mI (pa_cons (pv 2) pa_nil))) pss_nil)
        (pss_one (ps_expr (pe_saddK (pv 1) (pa_cons (pe_ix ix_tup (pv 3) pe_int (fun _ _ => rfl)) pa_nil)))))))), ?_⟩
    rcases h with ⟨p, xs, os, rfl, hp, L, ln, qe, qa⟩ | ⟨h0, qe⟩
    · refine ⟨_, rfl, _, _, _, _, true, rfl, .ty "tuple", hp.ty, kit_ty (by decide +kernel), true, rfl, ?_⟩
      show if (!true) = true then _ else _
      refine iteF ⟨rfl, fun D nD => ?_⟩
      have s0 : Same H (upd H D (SetK P w D (fun _ => false) 0)) := same_put nD
      refine ⟨_, rfl, p, xs, rfl, (hp.same s0).sq, for_it (En1.walk_enumT (K := K) (a := p) (xs := xs)) (fun i σ H' => ∃ (x2 x3 : Option V) (rs : List (Str × Int)) (S : Key → Bool) (n : Nat), σ = [some (.ref p), some (.ref D), x2, x3] ∧ Same H H' ∧ FineK Prod.fst os i rs ∧ H' D = some (SetK P w D S n) ∧ n ≤ rs.length ∧ ∀ z : Str, S (Sum.inr z) = decide (z ∈ rs.map Prod.fst))
        ⟨_, _, [], _, 0, rfl, s0, ⟨rfl, List.nodup_nil⟩, upd_same, Nat.le_refl _, fun z => by simp⟩ (fun _ _ _ _ h => by obtain ⟨_, _, _, _, _, _, s1, _⟩ := h; exact (hp.same s1).sq) ?_ ?_⟩
      · rintro i x σ H1 H2 hi ⟨x2, x3, rs, S, n, rfl, s1, fine, eD, ns, hS⟩ ⟨T', a, b, rfl, nT, rfl, ha, hb⟩
        obtain rfl := Option.some.inj ha
        have s2 : Same H (upd H1 T' (.tup [.int (i : Nat), b])) := s1.trans (same_put nT)
        have e2 : (upd H1 T' (.tup [.int (i : Nat), b])) D = some (SetK P w D S n) := (same_put nT) _ _ eD
        have T2 : (upd H1 T' (.tup [.int (i : Nat), b])) T' = some (.tup [.int (i : Nat), b]) := upd_same
        revert s2 e2 T2
        generalize upd H1 T' (.tup [.int (i : Nat), b]) = H2
        intro s2 e2 T2
        obtain ⟨ob, hob, lb⟩ := (L.imp fun _ _ h => h.kin s2.kin).get hb
        have bad : ∀ G : Hp, BadK Prod.fst os i → Same H G → (∀ a, G a = none → Fr0 H a) ∧ ∀ d', G d' = none → E (.ref Ci) (some d') (upd G d' (exd d' [("index", .int (i : Nat))])) := fun G bd sG =>
          ⟨fr0_of fun b u e _ => (by rw [sG _ _ e]; exact fun z => nomatch z), fun d' nd' => qe i G bd sG d' _ nd' (same_put nd') upd_same⟩
        refine ⟨T', _, rfl, SqT.of T2, rfl, .int (i : Nat), [b], rfl, b, [], rfl, rfl, ?_⟩
        refine ⟨_, rfl, b, ob, rfl, lb, fun H3 s3 => ⟨_, rfl, ?_⟩⟩
        have s13 := s2.trans s3
        have e3 := s3 _ _ e2
        cases ob with
        | none =>
          obtain ⟨w1, w2⟩ := bad H3 ⟨rs, fine, .inl hob⟩ s13
          exact iteT ⟨_, rfl, _, rfl, w1, w2⟩
        | some r =>
          cases lb with
          | @pair q z m hq nz a1 a2 =>
            have hq3 := s3 _ _ hq
            show if (!true) = true then _ else _
            refine iteF ⟨_, rfl, q, _, 0, _, rfl, rfl, SqT.of hq3, atI_nat (j := 0) rfl, _, rfl, Sum.inr z, D, S, n, rfl, rfl, e3, ?_⟩
            show ∃ c, V.bl (S (Sum.inr z)) = V.bl c ∧ _
            by_cases hin : z ∈ rs.map Prod.fst
            · obtain ⟨w1, w2⟩ := bad H3 ⟨rs, fine, .inr ⟨_, hob, hin⟩⟩ s13
              rw [hS, decide_eq_true hin]
              exact ⟨true, rfl, iteT ⟨_, rfl, _, rfl, w1, w2⟩⟩
            · rw [hS, decide_eq_false hin]
              refine ⟨false, rfl, iteF ⟨_, rfl, ⟨D, S, n, rfl, e3⟩, _, rfl, q, _, 0, _, rfl, rfl, SqT.of hq3, atI_nat (j := 0) rfl, D, Sum.inr z, S, n, rfl, rfl, e3, ?_, ?_⟩⟩
              · have l1 := fine.len (Nat.le_of_lt ((List.getElem?_eq_some_iff.mp hob).1))
                have l2 := (List.getElem?_eq_some_iff.mp hob).1
                have : (102 : Nat) < scanBound := by decide
                omega
              · refine ⟨_, _, rs ++ [(z, m)], _, _, rfl, fun c u e => ?_, fine.step hob hin, upd_same, ?_, fun y => ?_⟩
                · rw [upd_ne (ne_of_none e nD)]
                  exact s13 c u e
                · rw [List.length_append, List.length_singleton]
                  split <;> omega
                · show (S (Sum.inr y) || decide ((Sum.inr y : Key) = Sum.inr z)) = _
                  rw [hS, List.map_append, key_rr]
                  by_cases h1 : y ∈ rs.map Prod.fst <;> by_cases h2 : y = z <;> simp [h1, h2]
      · rintro σ H1 ⟨x2, x3, rs, S, n, rfl, s1, fine, _⟩
        exact qa rs H1 (fine.all (by rw [← L.len]; exact Nat.le_refl _)) s1
    · obtain ⟨t, ty, k⟩ := h0.ty (K := K)
      refine ⟨_, rfl, v, _, t, _, false, rfl, .ty "tuple", ty, k, false, rfl, ?_⟩
      show if (!false) = true then _ else _
      exact iteT ⟨_, rfl, fr0_of (H := H) (H1 := H) (fun b u e _ z => nomatch (show some u = none from e.symm.trans z)), fun d nd => qe d _ nd (same_put nd) upd_same⟩
end
end K13


namespace K13
open PySem L2 Rng Bag Gd LamX Tr4
section
variable {P : Program} {w : World} {K : PySem.W.Frag} {mg : Str → Option Value} {base : Heap}
theorem feeds_strs {H : Hp} {vs : List V} {rs : List Str} (h : Els FeedIs H vs (rs.map some)) : vs = rs.map V.str := by
  induction rs generalizing vs with
  | nil =>
    cases h
    rfl
  | cons r rs ih =>
    cases h with
    | cons a b =>
      cases a with
      | name n => rw [ih b]; rfl
abbrev sFeeds : Stmt := top 40
theorem scFeeds : FnScope ["feeds", "grid", "index", "feed"] ["feeds", "grid"] (defScope sFeeds) := ⟨rfl, rfl, rfl, by decide +kernel, rfl, by decide +kernel, by decide +kernel⟩
theorem ok_feeds {f fN Ci : Addr} {fd dN : FuncData} (F : Fun K "_check_feeds" "_check_feeds" sFeeds f fd) (T : Kt mg) (KS : Ks mg) (TI : ErrI K Ci) (mI : mg "InvalidFeeds" = some (.ref Ci)) (FN : Fun K "is_name" "is_name" sName fN dN) (bN : Binds K dN ["value"] []) (mN : mg "is_name" = some (.ref fN)) (GN : FnOk P w K mg base CX0 2 fN dN ["value"] (spIsName K)) :
    FnOk P w K mg base (L2N.CX P w) 4 f fd ["feeds", "grid"] (spFeeds K Ci) := by
  refine F.okN scFeeds (fun vs H Q E h => ?_) (fun cdv A outer s H vs Q E hr h => ?_)
  · obtain ⟨v, g, n, rfl, _⟩ := h
    rfl
  · obtain ⟨v, g, n, rfl, hg, h⟩ := h
    refine ⟨_, pss_cons (ps_if (pt_not (pt_val (pe_callB call_isi (by rfl) T.nIsi (by decide +kernel) (pa_cons (pv 0) (pa_cons (pe_bltn (v := .ty "tuple") (by rfl) T.nTuple (by decide +kernel) rfl) pa_nil))))) (pss_one (ps_raiseI rfl rfl takesN TI hr rfl mI (pa_cons pe_non pa_nil))) pss_nil)
      (pss_cons (ps_for (L2.passes_of rfl) rfl (En1.pi_enumT rfl KS.nEnum (pa_cons (pv 0) pa_nil)) (pg_tup (by rfl) (pgs_cons (pg_name (i := 2) scFeeds.nd rfl (Or.inl rfl)) (pgs_cons (pg_name (i := 3) scFeeds.nd rfl (Or.inl rfl)) pgs_nil)))
        (pss_one (ps_if (PW.pt (pw_or (pt_not (pt_val (pe_call GN (hr.mono (by decide)) rfl mN FN.kp bN .nil pass0 (pa_cons (pv 3) pa_nil)))) (pw_or1 (pt_cmpR op_in_seq (pv 3) (pe_slice sl_tupA (pv 0) po_none (po_some (pv 2))) (by rfl))))) (pss_one (ps_raiseI rfl rfl takesN TI hr rfl mI (pa_cons (pv 2) pa_nil))) pss_nil)))
      (pss_one (ps_if (PW.pt (pw_and (pt_cmpR op_gt (pe_callB call_len_seq (by rfl) T.nLen PySem.boot_len (pa_cons (pv 0) pa_nil)) pe_int (nomark _)) (pw_and1 (pt_cmp (pc_isN (pv 1)))))) (pss_one (ps_raiseI rfl rfl takesN TI hr rfl mI (pa_cons pe_non pa_nil))) pss_nil))), ?_⟩
    rcases h with ⟨p, xs, os, rfl, hp, L, ln, qe, qa⟩ | ⟨h0, qe⟩
    · refine ⟨_, rfl, _, _, _, _, true, rfl, .ty "tuple", hp.ty, kit_ty (by decide +kernel), true, rfl, ?_⟩
      show if (!true) = true then _ else _
      refine iteF ⟨_, rfl, p, xs, rfl, hp.sq, for_it (En1.walk_enumT (K := K) (a := p) (xs := xs)) (fun i σ H' => ∃ (x2 x3 : Option V) (rs : List Str), σ = [some (.ref p), some g, x2, x3] ∧ Same H H' ∧ FineK id os i rs)
        ⟨_, _, [], rfl, Same.refl _, ⟨rfl, List.nodup_nil⟩⟩ (fun _ _ _ _ h => by obtain ⟨_, _, _, _, s1, _⟩ := h; exact (hp.same s1).sq) ?_ ?_⟩
      · rintro i x σ H1 H2 hi ⟨x2, x3, rs, rfl, s1, fine⟩ ⟨T', a, b, rfl, nT, rfl, ha, hb⟩
        obtain rfl := Option.some.inj ha
        have s2 : Same H (upd H1 T' (.tup [.int (i : Nat), b])) := s1.trans (same_put nT)
        have T2 : (upd H1 T' (.tup [.int (i : Nat), b])) T' = some (.tup [.int (i : Nat), b]) := upd_same
        revert s2 T2
        generalize upd H1 T' (.tup [.int (i : Nat), b]) = H2
        intro s2 T2
        obtain ⟨ob, hob, lb⟩ := (L.imp fun _ _ h => h.kin s2.kin).get hb
        have bad : ∀ G : Hp, BadK id os i → Same H G → (∀ a, G a = none → Fr0 H a) ∧ ∀ d', G d' = none → E (.ref Ci) (some d') (upd G d' (exd d' [("index", .int (i : Nat))])) := fun G bd sG =>
          ⟨fr0_of fun b u e _ => (by rw [sG _ _ e]; exact fun z => nomatch z), fun d' nd' => qe i G bd sG d' _ nd' (same_put nd') upd_same⟩
        refine ⟨T', _, rfl, SqT.of T2, rfl, .int (i : Nat), [b], rfl, b, [], rfl, rfl, ?_⟩
        have nb : NameB K H2 b ob.isSome := by
          cases lb with
          | name n => exact .inl ⟨_, rfl, (by
              have h8 := n
              unfold isName at h8
              simp only [Bool.and_eq_true, decide_eq_true_eq] at h8
              exact Nat.le_trans h8.1 (by decide)), n.symm⟩
          | none c n =>
            have := c.isName (K := K)
            rw [n] at this
            exact this
        refine ⟨_, rfl, b, _, rfl, nb, fun H3 s3 => ⟨_, rfl, ?_⟩⟩
        have s13 := s2.trans s3
        cases ob with
        | none =>
          obtain ⟨w1, w2⟩ := bad H3 ⟨rs, fine, .inl hob⟩ s13
          exact iteT ⟨_, rfl, _, rfl, w1, w2⟩
        | some z =>
          cases lb with
          | name nz =>
            show if (!true) = true then _ else _
            have exs : xs.take i = rs.map V.str := feeds_strs (H := H) (by rw [← fine.1]; exact L.take i)
            refine iteF ⟨_, rfl, _, rfl, _, rfl, (i : Int), rfl, p, xs, rfl, (hp.same s13).sq, (fun y => absurd y.2 (by rw [HT.sIx_nat]; omega)), fun _ k nk => ?_⟩
            rw [cut_take (Nat.le_of_lt hi), exs]
            refine ⟨k, _, rfl, .inr (SqT.of upd_same), rfl, flat_strsN rs, _, rfl, ?_⟩
            show if (inV (.str z) (rs.map V.str)) = true then _ else _
            rw [inV_strs]
            have s14 := s13.trans (same_put (o := .tup (rs.map V.str)) nk)
            by_cases hin : z ∈ rs
            · obtain ⟨w1, w2⟩ := bad _ ⟨rs, fine, .inr ⟨_, hob, by rw [List.map_id]; exact hin⟩⟩ s14
              rw [decide_eq_true hin]
              exact iteT ⟨_, rfl, _, rfl, w1, w2⟩
            · rw [decide_eq_false hin]
              exact iteF ⟨_, _, rs ++ [z], rfl, s14, fine.step hob (by rw [List.map_id]; exact hin)⟩
      · rintro σ H1 ⟨x2, x3, rs, rfl, s1, fine⟩
        have al := fine.all (by rw [← L.len]; exact Nat.le_refl _)
        obtain ⟨q1, q2⟩ := qa rs al
        have lr : xs.length = rs.length := by rw [L.len, al.1, List.length_map]
        refine ⟨_, rfl, p, xs, rfl, .inr ((hp.same s1).sq), _, _, rfl, rfl, _, rfl, ?_⟩
        cases rs with
        | nil =>
          rw [lr]
          exact iteF (q2 (.inl rfl) H1 s1)
        | cons r rs =>
          rw [decide_eq_true (by rw [lr, List.length_cons]; omega)]
          refine iteT ⟨_, rfl, _, rfl, ?_⟩
          cases hg with
          | non =>
            exact iteT ⟨_, rfl, fr0_of (H := H) (H1 := H1) (fun b u e _ z => nomatch (show some u = none from (s1 _ _ e).symm.trans z)), fun d nd => q1 ⟨List.cons_ne_nil _ _, rfl⟩ H1 s1 d _ nd (same_put nd) upd_same⟩
          | net e a b c d => exact iteF (q2 (.inr (fun z => nomatch z)) H1 s1)
    · obtain ⟨t, ty, k⟩ := h0.ty (K := K)
      refine ⟨_, rfl, v, _, t, _, false, rfl, .ty "tuple", ty, k, false, rfl, ?_⟩
      show if (!false) = true then _ else _
      exact iteT ⟨_, rfl, fr0_of (H := H) (H1 := H) (fun b u e _ z => nomatch (show some u = none from e.symm.trans z)), fun d nd => qe d _ nd (same_put nd) upd_same⟩
end
end K13


/-! the text of a setting -/
namespace Rng
open PySem L2 Bag Gd LamX Tr4
/-- lists of words, none of them l -/
inductive WordsAt (l : Addr) (H : Hp) : List V → List (List Str) → Prop
  | nil : WordsAt l H [] []
  | cons {p : Addr} {ws : List Str} {vs : List V} {wss : List (List Str)} : p ≠ l → H p = some (.lst (ws.map V.str)) → WordsAt l H vs wss → WordsAt l H (.ref p :: vs) (ws :: wss)
section
variable {l : Addr} {H H' : Hp} {vs : List V} {wss : List (List Str)}
theorem WordsAt.same (h : WordsAt l H vs wss) (s : Same H H') : WordsAt l H' vs wss := by
  induction h with
  | nil => exact .nil
  | cons n e _ ih => exact .cons n (s _ _ e) ih
theorem WordsAt.put {u : HO} (h : WordsAt l H vs wss) : WordsAt l (upd H l u) vs wss := by
  induction h with
  | nil => exact .nil
  | cons n e _ ih => exact .cons n (by rw [upd_ne n]; exact e) ih
theorem WordsAt.snoc {p : Addr} {ws : List Str} (h : WordsAt l H vs wss) (n : p ≠ l) (e : H p = some (.lst (ws.map V.str))) : WordsAt l H (vs ++ [.ref p]) (wss ++ [ws]) := by
  induction h with
  | nil => exact .cons n e .nil
  | cons m e' _ ih => exact .cons m e' ih
theorem WordsAt.len (h : WordsAt l H vs wss) : vs.length = wss.length := by
  induction h with
  | nil => rfl
  | cons _ _ _ ih => rw [List.length_cons, List.length_cons, ih]
theorem WordsAt.get {i : Nat} {v : V} (h : WordsAt l H vs wss) (e : vs[i]? = some v) : ∃ p ws, v = .ref p ∧ wss[i]? = some ws ∧ H p = some (.lst (ws.map V.str)) := by
  induction h generalizing i with
  | nil => simp at e
  | cons n k _ ih =>
    cases i with
    | zero =>
      obtain rfl := Option.some.inj e
      exact ⟨_, _, rfl, rfl, k⟩
    | succ i => exact ih e
end
def intT (n : Int) : Str := Str.ofString (toString n)
def netWords : Option (Int × Int) → List (List Str)
  | none => []
  | some q => [["grid", intT q.1, intT q.2]]
def atWords : V → List (List Str)
  | .str z => [["at", z]]
  | _ => []
def setParts (n : Option (Int × Int)) (ps : List (Str × Int)) (fs : List Str) (a : V) : List (List Str) :=
  netWords n ++ ps.map (fun p => ([("apart" : Str), p.1, intT p.2] : List Str)) ++ fs.map (fun f => ([("on" : Str), f] : List Str)) ++ atWords a
def linesOf (wss : List (List Str)) : Str := if wss = [] then "any" else Txt.join "; " (wss.map (Txt.join " "))
abbrev pairV : Str × Int → List V := plcV
/-- at a setting's time of making: what stands at o -/
def SetAt (C : Addr) (H : Hp) (o : Addr) (fs : List (Str × V)) (n : Option (Int × Int)) (ps : List (Str × Int)) (os : List Str) (a : V) : Prop := ∃ dx g pa pf us oq, H o = some (.ins C dx fs) ∧ fs.lookup ("grid" : Str) = some g ∧ fs.lookup ("apart" : Str) = some (.ref pa) ∧ fs.lookup ("on_grid" : Str) = some (.ref pf) ∧ fs.lookup ("at_rows" : Str) = some a ∧
  NetIs H g (some n) ∧ H pa = some (.frz oq (.tup us)) ∧ TupsAt pairV H us ps ∧ H pf = some (.tup (os.map V.str)) ∧ oq.dict = none
/-- small enough -/
structure SetOk (n : Option (Int × Int)) (ps : List (Str × Int)) (os : List Str) (a : V) : Prop where
  net : ∀ q, n = some q → 0 ≤ q.1 ∧ q.1 ≤ 60 ∧ 0 ≤ q.2 ∧ q.2 ≤ 60
  pl : ps.length ≤ 100
  ol : os.length ≤ 100
  pn : ∀ p ∈ ps, isName p.1 = true ∧ 1 ≤ p.2 ∧ p.2 ≤ 1000000000
  on : ∀ z ∈ os, isName z = true
  at_ : a = .non ∨ ∃ z, a = .str z ∧ isName z = true
theorem intT_len {n : Int} (h0 : 0 ≤ n) (h : n ≤ 1000000000) : (intT n).length ≤ 11 := PyProof.Rows.toString_length_le h0 (by decide) (Int.lt_of_le_of_lt h (by decide))
theorem name_len8 {z : Str} (n : isName z = true) : z.length ≤ 8 := by
  unfold isName at n
  simp only [Bool.and_eq_true, decide_eq_true_eq] at n
  exact n.1
theorem parts_small {n : Option (Int × Int)} {ps : List (Str × Int)} {os : List Str} {a : V} (S : SetOk n ps os a) : (setParts n ps os a).length ≤ 202 ∧ ∀ ws ∈ setParts n ps os a, ws.length ≤ 3 ∧ ∀ w ∈ ws, w.length ≤ 11 := by
  constructor
  · unfold setParts
    rw [List.length_append, List.length_append, List.length_append, List.length_map, List.length_map]
    have h1 := S.pl
    have h2 := S.ol
    have h3 : (netWords n).length ≤ 1 := by cases n <;> simp [netWords]
    have h4 : (atWords a).length ≤ 1 := by cases a <;> simp [atWords]
    omega
  · intro ws hw
    unfold setParts at hw
    rcases List.mem_append.mp hw with hw | hw
    · rcases List.mem_append.mp hw with hw | hw
      · rcases List.mem_append.mp hw with hw | hw
        · cases n with
          | none => exact nomatch hw
          | some q =>
            obtain rfl := List.mem_singleton.mp hw
            obtain ⟨a1, a2, a3, a4⟩ := S.net q rfl
            refine ⟨Nat.le_refl 3, fun w hw => ?_⟩
            simp only [List.mem_cons, List.not_mem_nil, or_false] at hw
            rcases hw with rfl | rfl | rfl
            · decide
            · exact intT_len a1 (by omega)
            · exact intT_len a3 (by omega)
        · obtain ⟨p, hp, rfl⟩ := List.mem_map.mp hw
          obtain ⟨b1, b2, b3⟩ := S.pn p hp
          refine ⟨Nat.le_refl 3, fun w hw => ?_⟩
          simp only [List.mem_cons, List.not_mem_nil, or_false] at hw
          rcases hw with rfl | rfl | rfl
          · decide
          · exact Nat.le_trans (name_len8 b1) (by decide)
          · exact intT_len (by omega) b3
      · obtain ⟨f, hf, rfl⟩ := List.mem_map.mp hw
        refine ⟨by show 2 ≤ 3; decide, fun w hw => ?_⟩
        simp only [List.mem_cons, List.not_mem_nil, or_false] at hw
        rcases hw with rfl | rfl
        · decide
        · exact Nat.le_trans (name_len8 (S.on _ hf)) (by decide)
    · rcases S.at_ with rfl | ⟨z, rfl, nz⟩
      · exact nomatch hw
      · obtain rfl := List.mem_singleton.mp hw
        refine ⟨by show 2 ≤ 3; decide, fun w hw => ?_⟩
        simp only [List.mem_cons, List.not_mem_nil, or_false] at hw
        rcases hw with rfl | rfl
        · decide
        · exact Nat.le_trans (name_len8 nz) (by decide)
theorem sum_le {ys : List Str} {B : Nat} (h : ∀ y ∈ ys, y.length ≤ B) : (ys.map (·.length)).sum ≤ ys.length * B := by
  induction ys with
  | nil => simp
  | cons y ys ih =>
    rw [List.map_cons, List.sum_cons, List.length_cons, Nat.succ_mul]
    have := ih fun z hz => h z (List.mem_cons_of_mem _ hz)
    have := h y List.mem_cons_self
    omega
theorem pss_iff {X : Cx} {st : List Stmt} {t t' : TS} (h : PSs X st t) (k : ∀ D σ H, t' D σ H → t D σ H) : PSs X st t' := ⟨fun pins s σ H D I q => h.run pins s σ H D I (k _ _ _ q)⟩
theorem joinL_len (S : List Nat) : ∀ ps : List (List Nat), (TL.joinL S ps).length ≤ (ps.map List.length).sum + ps.length * S.length
  | [] => by simp [TL.joinL]
  | [p] => by simp [TL.joinL]
  | p :: q :: r => by
    have ih := joinL_len S (q :: r)
    show (p ++ (S ++ TL.joinL S (q :: r))).length ≤ _
    rw [List.length_append, List.length_append]
    simp only [List.map_cons, List.sum_cons, List.length_cons, Nat.succ_mul] at ih ⊢
    omega
theorem join_le (y : Str) (ps : List Str) : (Txt.join y ps).length ≤ (ps.map (·.length)).sum + ps.length * y.length := by
  have h := joinL_len (TL.tl y) (ps.map TL.tl)
  rw [← TL.tl_join, ← TL.join_eq, List.map_map, List.length_map] at h
  exact h
theorem words_le {ws : List Str} (h1 : ws.length ≤ 3) (h2 : ∀ w ∈ ws, w.length ≤ 11) : (Txt.join " " ws).length ≤ 36 := by
  have a := join_le " " ws
  have b := sum_le h2
  have c : (" " : Str).length = 1 := by decide
  rw [c] at a
  have d : ws.length * 11 ≤ 3 * 11 := Nat.mul_le_mul_right _ h1
  omega
theorem parts_le {wss : List (List Str)} (h0 : wss.length ≤ 202) (h : ∀ ws ∈ wss, ws.length ≤ 3 ∧ ∀ w ∈ ws, w.length ≤ 11) : ((wss.map (Txt.join " ")).map (·.length)).sum + (wss.map (Txt.join " ")).length * ("; " : Str).length ≤ 16777216 := by
  have b : ((wss.map (Txt.join " ")).map (·.length)).sum ≤ (wss.map (Txt.join " ")).length * 36 := sum_le fun y hy => by
    obtain ⟨ws, hw, rfl⟩ := List.mem_map.mp hy
    obtain ⟨h1, h2⟩ := h ws hw
    exact words_le h1 h2
  have c : ("; " : Str).length = 2 := by decide
  rw [c]
  rw [List.length_map] at b ⊢
  omega
theorem log_small {n : Int} (h0 : 0 ≤ n) (h : n ≤ 1000000000) : n.natAbs.log2 < 1920 := by
  by_cases z : n.natAbs = 0
  · rw [z]; decide
  · have h2 : n.natAbs ≤ 1000000000 := by omega
    have h3 : n.natAbs < 2 ^ 30 := Nat.lt_of_le_of_lt h2 (by decide)
    exact Nat.lt_of_lt_of_le ((Nat.log2_lt z).mpr h3) (by decide)
/-- one part more -/
theorem WordsAt.more {l p : Addr} {H G : Hp} {us : List V} {wss : List (List Str)} {ws : List Str} (h : WordsAt l G us wss) (nl : H l = none) (s : Same H G) (e : G l = some (.lst us)) (n : G p = none) :
    WordsAt l (upd (upd G p (.lst (ws.map V.str))) l (.lst (us ++ [.ref p]))) (us ++ [.ref p]) (wss ++ [ws]) ∧ Same H (upd (upd G p (.lst (ws.map V.str))) l (.lst (us ++ [.ref p]))) ∧
    (upd (upd G p (.lst (ws.map V.str))) l (.lst (us ++ [.ref p]))) l = some (.lst (us ++ [.ref p])) ∧ (upd G p (.lst (ws.map V.str))) l = some (.lst us) := by
  have pl : p ≠ l := fun z => by rw [z, e] at n; cases n
  refine ⟨((h.same (same_put n)).put).snoc pl (by rw [upd_ne pl]; exact upd_same), fun c u ec => ?_, upd_same, by rw [upd_ne (Ne.symm pl)]; exact e⟩
  rw [upd_ne (fun z => by rw [z, nl] at ec; cases ec), upd_ne (ne_of_none (s _ _ ec) n)]
  exact s _ _ ec
end Rng


namespace K13
open PySem L2 Rng Bag Gd LamX Tr4
section
variable {P : Program} {w : World} {K : PySem.W.Frag} {mg : Str → Option Value} {base : Heap}
structure Sx (K : PySem.W.Frag) (C : Addr) : Prop where
  cl : Cls K C
  nG : NoAttr K C "grid"
  nA : NoAttr K C "apart"
  nO : NoAttr K C "on_grid"
  nR : NoAttr K C "at_rows"
  nT : NoAttr K C "text"
abbrev sIT : Stmt := top 33
theorem scIT : FnScope ["number"] ["number"] (defScope sIT) := ⟨rfl, rfl, rfl, by decide +kernel, rfl, by decide +kernel, by decide +kernel⟩
def spIT : Sp := fun vs H Q _ => ∃ n : Int, vs = [.int n] ∧ n.natAbs.log2 < 1920 ∧ Q (.str (intT n)) H
theorem ok_it {f : Addr} {fd : FuncData} (F : Fun K "integer_text" "integer_text" sIT f fd) (T : Kt mg) : FnOk P w K mg base CX0 1 f fd ["number"] spIT := by
  refine F.ok scIT (fun vs H Q E h => ?_) (fun cdv A outer s H vs Q E hr h => ?_)
  · obtain ⟨n, rfl, _⟩ := h
    rfl
  · obtain ⟨n, rfl, hn, q⟩ := h
    refine ⟨_, pss_one (ps_ret (pe_callTy call_str_int (by rfl) T.nStr PyProof.Rows.boot_str (pa_cons (pe_callTy call_int1 (by rfl) T.nInt PyProof.Rows.boot_int (pa_cons (pv 0) pa_nil)) pa_nil))), ?_⟩
    exact ⟨_, rfl, .inl ⟨n, rfl, n, rfl, hn, q⟩⟩
abbrev sText : Stmt := top 41
theorem scText : FnScope ["setting", "parts", "feed", "distance", "words"] ["setting"] (defScope sText) := ⟨rfl, rfl, rfl, by decide +kernel, rfl, by decide +kernel, by decide +kernel⟩
def spText (C : Addr) : Sp := fun vs H Q _ => ∃ (o : Addr) (fs : List (Str × V)) (n : Option (Int × Int)) (ps : List (Str × Int)) (os : List Str) (a : V), vs = [.ref o] ∧ SetAt C H o fs n ps os a ∧ SetOk n ps os a ∧ ∀ H', Same H H' → Q (.str (linesOf (setParts n ps os a))) H'
/-- what stands while the parts are gathered -/
def PreP (H : Hp) (o : Addr) (wss : List (List Str)) (q : Hp → Prop) : TS := fun D σ G => ∃ (l : Addr) (us : List V) (x2 x3 : Option V), σ = [some (.ref o), some (.ref l), x2, x3, none] ∧ H l = none ∧ Same H G ∧ G l = some (.lst us) ∧ WordsAt l G us wss ∧ ∀ H', Same H H' → q H' → D.rt (.str (linesOf wss)) H'
theorem tail6 {f C o : Addr} {cdv : Value} {A : Around} {outer : List Env} {s : Shared} {H : Hp} {E : XK} (wss : List (List Str)) (w1 : wss.length ≤ 202) (w2 : ∀ ws ∈ wss, ws.length ≤ 3 ∧ ∀ w ∈ ws, w.length ≤ 11) :
    PSs (cxOf CX0 P w K mg base ["setting", "parts", "feed", "distance", "words"] "_setting_text" (defScope sText) f cdv A outer s H E).nox ((defBody sText).drop 5) (PreP H o wss fun _ => True) := by
  refine pss_iff (pss_cons (ps_if (pt_not (pt_truth (pv 1) (fun _ => rfl))) (pss_one (ps_ret pe_str)) pss_nil)
      (pss_one (ps_ret (pe_join pe_str (pe_lc (own := [("words", 4)]) (g := gName 4) (tt := tYes) (te := tM1 (fun x xs H Q => ∃ a p, ∃ ys : List Str, x = .str a ∧ xs = [.ref p] ∧ (SqL K H p (ys.map V.str) ∨ SqT K H p (ys.map V.str)) ∧ (ys.map (·.length)).sum + ys.length * a.length ≤ 16777216 ∧ Q (.str (Txt.join a ys)) H) (tC (.str " ")) (tVar 4)) rfl scText.nd (pi_list (pv 1)) (blkOk_by (own := [("words", 4)]) (N := ["setting", "parts", "feed", "distance", "words"]) (sc := defScope sText) (by decide +kernel)) (fun _ _ _ _ _ => pg_name (i := 4) scText.nd rfl (Or.inl rfl)) (fun _ _ _ _ _ => pts_nil) (fun _ _ _ _ _ => pe_join pe_str (pv 4))))))) fun D σ G h => ?_
  obtain ⟨l, us, x2, x3, rfl, nl, sG, el, W, q⟩ := h
  have lw := W.len
  refine ⟨_, rfl, !us.isEmpty, .inl ⟨us, SqL.of el, rfl⟩, ?_⟩
  cases us with
  | nil =>
    cases W
    exact iteT (q G sG trivial)
  | cons u us' =>
    have hne : wss ≠ [] := fun z => by rw [z] at lw; cases lw
    refine iteF ⟨⟨_, rfl⟩, ?_⟩
    have tot : linesOf wss = Txt.join "; " (wss.map (Txt.join " ")) := if_neg hne
    rw [tot] at q
    generalize hU : u :: us' = U at *
    refine ⟨_, rfl, l, rfl, ⟨U, SqL.of el⟩, fun D2 nD => lc_it (walk_list (K := K) (a := l) (xs := U)) (fun i H' => Same G H' ∧ H' D2 = some (.lst (((wss.take i).map (Txt.join " ")).map V.str))) ⟨same_put nD, upd_same⟩ (fun _ _ _ h => SqL.of (h.1 _ _ el)) ?_ ?_⟩
    · rintro i x Ha Hb hi ⟨sa, ea⟩ ⟨rfl, hx⟩
      obtain ⟨p, ws, rfl, hw, hp⟩ := W.get hx
      obtain ⟨b1, b2⟩ := w2 ws (List.mem_of_getElem? hw)
      have tk : wss.take (i + 1) = wss.take i ++ [ws] := by rw [List.take_add_one, hw]; rfl
      refine ⟨rfl, ⟨_, rfl⟩, _, rfl, _, p, ws, rfl, rfl, .inl (SqL.of (sa _ _ hp)), ?_, _, ea, ?_, ?_, ?_⟩
      · have h1 := sum_le b2
        have h2 : (" " : Str).length = 1 := by decide
        have h3 : ws.length * 11 ≤ 3 * 11 := Nat.mul_le_mul_right _ b1
        rw [h2]
        omega
      · rw [List.length_map, List.length_map, List.length_take]
        exact small1000 (by omega)
      · intro c v e
        rw [upd_ne (ne_of_none e nD)]
        exact sa c v e
      · rw [upd_same, tk, List.map_append, List.map_append]
        rfl
    · rintro Hb ⟨sb, eb⟩
      rw [lw, List.take_length] at eb
      exact ⟨_, D2, _, rfl, rfl, .inl (SqL.of eb), parts_le w1 w2, q _ (sG.trans sb) trivial⟩
theorem tail3 {f fT C o : Addr} {cdv : Value} {dT : FuncData} {A : Around} {outer : List Env} {s : Shared} {H : Hp} {E : XK} {fs : List (Str × V)} {n : Option (Int × Int)} {ps : List (Str × Int)} {os : List Str} {a : V} (X : Sx K C) (hr : Room 1 (A.deeper (PyProof.Rows.envOfC "_setting_text" (defScope sText) s.heap.objs.size f cdv))) (FT : Fun K "integer_text" "integer_text" sIT fT dT) (bT : Binds K dT ["number"] []) (mT : mg "integer_text" = some (.ref fT)) (GT : FnOk P w K mg base CX0 1 fT dT ["number"] spIT)
    (st : SetAt C H o fs n ps os a) (ok : SetOk n ps os a) : PSs (cxOf CX0 P w K mg base ["setting", "parts", "feed", "distance", "words"] "_setting_text" (defScope sText) f cdv A outer s H E).nox ((defBody sText).drop 2) (fun D σ G => ∃ (l : Addr) (us : List V), σ = [some (.ref o), some (.ref l), none, none, none] ∧ H l = none ∧ Same H G ∧ G l = some (.lst us) ∧ WordsAt l G us (netWords n) ∧ ∀ H', Same H H' → D.rt (.str (linesOf (setParts n ps os a))) H') := by
  obtain ⟨w1, w2⟩ := parts_small ok
  have tl : PSs (cxOf CX0 P w K mg base ["setting", "parts", "feed", "distance", "words"] "_setting_text" (defScope sText) f cdv A outer s H E).nox ((defBody sText).drop 5) (PreP H o (setParts n ps os a) fun _ => True) := tail6 (C := C) _ w1 w2
  refine pss_iff (pss_cons (ps_for PassesOwn.never rfl (pi_tup (pe_fld (pv 0) rfl)) (pg_tup (by rfl) (pgs_cons (pg_name (i := 2) scText.nd rfl (Or.inl rfl)) (pgs_cons (pg_name (i := 3) scText.nd rfl (Or.inl rfl)) pgs_nil))) (pss_one (ps_expr (pe_bm PySem.F.plainAttrs_list PySem.F.slot_list_append PySem.F.type_list_append mt_append (pv 1) (pa_cons (pe_lst (pa_cons (pe_str) (pa_cons (pv 2) (pa_cons (pe_call GT hr rfl mT FT.kp bT .nil pass0 (pa_cons (pv 3) pa_nil)) pa_nil)))) pa_nil)))))
      (pss_cons (ps_for PassesOwn.never rfl (pi_tup (pe_fld (pv 0) rfl)) (pg_name (i := 2) scText.nd rfl (Or.inl rfl)) (pss_one (ps_expr (pe_bm PySem.F.plainAttrs_list PySem.F.slot_list_append PySem.F.type_list_append mt_append (pv 1) (pa_cons (pe_lst (pa_cons (pe_str) (pa_cons (pv 2) pa_nil))) pa_nil)))))
      (pss_cons (ps_if (pt_cmp (pc_notN (pe_fld (pv 0) rfl))) (pss_one (ps_expr (pe_bm PySem.F.plainAttrs_list PySem.F.slot_list_append PySem.F.type_list_append mt_append (pv 1) (pa_cons (pe_lst (pa_cons (pe_str) (pa_cons (pe_fld (pv 0) rfl) pa_nil))) pa_nil)))) pss_nil)
      (tl)))) fun D σ G h => ?_
  obtain ⟨l, us, rfl, nl, sG, el, W, q⟩ := h
  obtain ⟨dx, g, pa, pf, up, oq, h1, k1, k2, k3, k4, hg, h2, h3, h4, _⟩ := st
  have small : ∀ {u : List V} {w : List (List Str)} {G : Hp}, WordsAt l G u w → w.length ≤ 202 → u.length < sizeLine := fun h z => small1000 (by rw [h.len]; omega)
  have nle : (netWords n).length ≤ 1 := by cases n <;> simp [netWords]
  refine ⟨_, rfl, o, C, dx, _, .ref pa, rfl, sG _ _ h1, X.cl, X.nA, k2, pa, rfl, ⟨up, sqF (sG _ _ h2)⟩, for_it (walk_tup (K := K) (a := pa) (xs := up)) (fun i σ G' => ∃ (us : List V) (x2 x3 : Option V), σ = [some (.ref o), some (.ref l), x2, x3, none] ∧ Same H G' ∧ G' l = some (.lst us) ∧ WordsAt l G' us (netWords n ++ (ps.take i).map fun p => ([("apart" : Str), p.1, intT p.2] : List Str)))
    ⟨us, _, _, rfl, sG, el, by simpa using W⟩ (fun _ _ _ _ h => by obtain ⟨_, _, _, _, s1, _⟩ := h; exact sqF (s1 _ _ h2)) ?_ ?_⟩
  · rintro i x σ Ga Gb hi ⟨us, x2, x3, rfl, sa, ea, Wa⟩ ⟨rfl, hx⟩
    obtain ⟨r, c, hr', rfl, hc⟩ := h3.get hx
    have hc2 := sa _ _ hc
    obtain ⟨b1, b2, b3⟩ := ok.pn r (List.mem_of_getElem? hr')
    have tk : ps.take (i + 1) = ps.take i ++ [r] := by rw [List.take_add_one, hr']; rfl
    refine ⟨c, _, rfl, SqT.of hc2, rfl, .str r.1, [.int r.2], rfl, .int r.2, [], rfl, rfl, ?_⟩
    refine ⟨_, rfl, .inl ⟨rfl, _, SqL.of ea⟩, _, rfl, _, rfl, r.2, rfl, log_small (by omega) b3, (by show 3 ≤ sizeLine; decide), fun p0 n0 => ?_⟩
    obtain ⟨m1, m2, m3, m4⟩ := Wa.more (ws := ["apart", r.1, intT r.2]) nl sa ea n0
    refine ⟨l, _, _, rfl, rfl, m4, small Wa ?_, _, _, _, rfl, m2, m3, ?_⟩
    · have l1 := ok.pl
      rw [List.length_append, List.length_map, List.length_take]
      omega
    · rw [tk, List.map_append, ← List.append_assoc]
      exact m1
  · rintro σ Ga ⟨us, x2, x3, rfl, sa, ea, Wa⟩
    rw [h3.len, List.take_length] at Wa
    refine ⟨_, rfl, o, C, dx, _, .ref pf, rfl, sa _ _ h1, X.cl, X.nO, k3, pf, rfl, ⟨_, SqT.of (sa _ _ h4)⟩, for_it (walk_tup (K := K) (a := pf) (xs := os.map V.str)) (fun i σ G' => ∃ (us : List V) (x2 : Option V), σ = [some (.ref o), some (.ref l), x2, x3, none] ∧ Same H G' ∧ G' l = some (.lst us) ∧ WordsAt l G' us (netWords n ++ (ps.map fun p => ([("apart" : Str), p.1, intT p.2] : List Str)) ++ (os.take i).map fun f => ([("on" : Str), f] : List Str)))
      ⟨us, _, rfl, sa, ea, by simpa using Wa⟩ (fun _ _ _ _ h => by obtain ⟨_, _, _, s1, _⟩ := h; exact SqT.of (s1 _ _ h4)) ?_ ?_⟩
    · rintro i x σ Gb Gc hi ⟨us, y2, rfl, sb, eb, Wb⟩ ⟨rfl, hx⟩
      rw [List.getElem?_map] at hx
      obtain ⟨z, hz, rfl⟩ : ∃ z, os[i]? = some z ∧ x = V.str z := by
        cases e : os[i]? with
        | none => rw [e] at hx; cases hx
        | some z => rw [e] at hx; exact ⟨z, rfl, (Option.some.inj hx).symm⟩
      have tk : os.take (i + 1) = os.take i ++ [z] := by rw [List.take_add_one, hz]; rfl
      refine ⟨_, rfl, .inl ⟨rfl, _, SqL.of eb⟩, _, rfl, (by show 2 ≤ sizeLine; decide), fun p0 n0 => ?_⟩
      obtain ⟨m1, m2, m3, m4⟩ := Wb.more (ws := ["on", z]) nl sb eb n0
      refine ⟨l, _, _, rfl, rfl, m4, small Wb ?_, _, _, rfl, m2, m3, ?_⟩
      · have l1 := ok.pl
        have l2 := ok.ol
        rw [List.length_append, List.length_append, List.length_map, List.length_map, List.length_take]
        omega
      · rw [tk, List.map_append, ← List.append_assoc]
        exact m1
    · rintro σ Gb ⟨us, y2, rfl, sb, eb, Wb⟩
      rw [List.length_map, List.take_length] at Wb
      rcases ok.at_ with rfl | ⟨z, rfl, nz⟩
      · refine ⟨_, rfl, o, C, dx, _, .non, rfl, sb _ _ h1, X.cl, X.nR, k4, ?_⟩
        exact ⟨_, rfl, iteF ⟨l, us, _, _, rfl, nl, sb, eb, by unfold setParts; simpa [atWords] using Wb, fun H' s' _ => q H' s'⟩⟩
      · refine ⟨_, rfl, o, C, dx, _, .str z, rfl, sb _ _ h1, X.cl, X.nR, k4, ?_⟩
        refine ⟨_, rfl, iteT ⟨_, rfl, .inl ⟨rfl, _, SqL.of eb⟩, _, rfl, o, C, dx, _, .str z, rfl, sb _ _ h1, X.cl, X.nR, k4, (by show 2 ≤ sizeLine; decide), fun p0 n0 => ?_⟩⟩
        obtain ⟨m1, m2, m3, m4⟩ := Wb.more (ws := ["at", z]) nl sb eb n0
        refine ⟨l, _, _, rfl, rfl, m4, small Wb ?_, l, _, _, _, rfl, nl, m2, m3, m1, fun H' s' _ => q H' s'⟩
        have l1 := ok.pl
        have l2 := ok.ol
        rw [List.length_append, List.length_append, List.length_map, List.length_map]
        omega
theorem ok_text {f fT C : Addr} {fd dT : FuncData} (F : Fun K "_setting_text" "_setting_text" sText f fd) (X : Sx K C) (FT : Fun K "integer_text" "integer_text" sIT fT dT) (bT : Binds K dT ["number"] []) (mT : mg "integer_text" = some (.ref fT)) (GT : FnOk P w K mg base CX0 1 fT dT ["number"] spIT) :
    FnOk P w K mg base CX0 2 f fd ["setting"] (spText C) := by
  refine F.ok scText (fun vs H Q E h => ?_) (fun cdv A outer s H vs Q E hr h => ?_)
  · obtain ⟨o, fs, n, ps, os, a, rfl, _⟩ := h
    rfl
  · obtain ⟨o, fs, n, ps, os, a, rfl, st, ok, q⟩ := h
    have tl := tail3 (A := A) (outer := outer) (s := s) (E := E) (f := f) (cdv := cdv) X hr FT bT mT GT st ok
    obtain ⟨dx, g, pa, pf, up, oq, h1, k1, k2, k3, k4, hg, h2, h3, h4, _⟩ := st
    refine ⟨_, pss_cons (ps_set (i := 1) scText.nd rfl (Or.inl rfl) (pe_lst pa_nil))
      (pss_cons (ps_if (pt_cmp (pc_notN (pe_fld (pv 0) rfl))) (pss_one (ps_expr (pe_bm PySem.F.plainAttrs_list PySem.F.slot_list_append PySem.F.type_list_append mt_append (pv 1) (pa_cons (pe_lst (pa_cons (pe_str) (pa_cons (pe_call GT hr rfl mT FT.kp bT .nil pass0 (pa_cons (pe_ix ix_tup (pe_fld (pv 0) rfl) pe_int (fun _ _ => rfl)) pa_nil)) (pa_cons (pe_call GT hr rfl mT FT.kp bT .nil pass0 (pa_cons (pe_ix ix_tup (pe_fld (pv 0) rfl) pe_int (fun _ _ => rfl)) pa_nil)) pa_nil)))) pa_nil)))) pss_nil)
      (tl)), ?_⟩
    refine ⟨Nat.zero_le _, fun l nl => ?_⟩
    have s0 : Same H (upd H l (.lst [])) := same_put nl
    cases hg with
    | non =>
      refine ⟨_, rfl, o, C, dx, _, .non, rfl, s0 _ _ h1, X.cl, X.nG, k1, ?_⟩
      exact ⟨_, rfl, iteF ⟨l, [], rfl, nl, s0, upd_same, .nil, q⟩⟩
    | @net p s' o' e a1 a2 a3 a4 =>
      refine ⟨_, rfl, o, C, dx, _, .ref p, rfl, s0 _ _ h1, X.cl, X.nG, k1, ?_⟩
      have e0 := s0 _ _ e
      refine ⟨_, rfl, iteT ⟨_, rfl, .inl ⟨rfl, _, SqL.of upd_same⟩, _, rfl, o, C, dx, _, .ref p, rfl, s0 _ _ h1, X.cl, X.nG, k1, p, _, 0, _, rfl, rfl, SqT.of e0, atI_nat (j := 0) rfl, s', rfl, log_small (by omega) (by omega),
        _, rfl, o, C, dx, _, .ref p, rfl, s0 _ _ h1, X.cl, X.nG, k1, p, _, 1, _, rfl, rfl, SqT.of e0, atI_nat (j := 1) rfl, o', rfl, log_small (by omega) (by omega), (by show 3 ≤ sizeLine; decide), fun p0 n0 => ?_⟩⟩
      obtain ⟨m1, m2, m3, m4⟩ := (WordsAt.nil (l := l)).more (ws := ["grid", intT s', intT o']) nl s0 upd_same n0
      exact ⟨l, _, _, rfl, rfl, m4, (by show 0 < sizeLine; decide), l, _, rfl, nl, m2, m3, m1, q⟩
end
end K13


/-! dicts whose keys are pairs of a text and an integer: sorted(d), dict(d), d.pop(k) -/
namespace Rng
open PySem PySem.Spec PyProof.Rows L2 SrtO
/-- places by order -/
def asRow (p : Plc) : Row := (p.1, p.2, 0)
def IsPlc (h : Heap) (v : Value) (r : Plc) : Prop := ∃ a o t u n, v = .ref a ∧ h.get? a = some o ∧ o.cls = .type "tuple" ∧ o.data = .seq #[.str r.1 t, .int r.2 u] n
theorem IsPlc.keeps {h h' : Heap} {v : Value} {r : Plc} (p : IsPlc h v r) (k : ∀ b o, h.get? b = some o → o.cls = .type "tuple" → h'.get? b = some o) : IsPlc h' v r := by
  obtain ⟨a, o, t, u, n, e, ho, hc, hd⟩ := p
  exact ⟨a, o, t, u, n, e, k _ _ ho hc, hc, hd⟩
section
variable {prog : Program} {w : World} {A : Around} {E : Value → Shared → Prop} {s : Shared}
theorem plc_cmp {vs : List Value} {k : Value → Plc} (hp : ∀ v ∈ vs, IsPlc s.heap v (k v)) : SrtO.Cmp prog w A s (tuples' true) (fun p => p.1 ∈ vs) (lt2 fun v u => ltR (asRow (k v)) (asRow (k u))) := by
  intro p q hm hm'
  have h1 := hp _ hm
  have h2 := hp _ hm'
  show wpAny (model prog w) A (keyLt' (tuples' true) p.1 q.1) (fun r s' => s' = s ∧ r = ltR (asRow (k p.1)) (asRow (k q.1))) (fun _ _ => False) s
  unfold ltR asRow
  generalize k p.1 = r at h1 ⊢
  generalize k q.1 = r' at h2 ⊢
  obtain ⟨x, y⟩ := r
  obtain ⟨x', y'⟩ := r'
  obtain ⟨a, o, t, u, n, e, ho, hc, hd⟩ := h1
  obtain ⟨a', o', t', u', n', e', ho', hc', hd'⟩ := h2
  rw [e, e']
  refine PySem.W.kat_lt ho hd ho' hd' ?_
  show PySem.W.KatLex prog w A true (decide (2 < 2)) _ [(.str x t, .str x' t'), (.int y u, .int y' u')] 0 s
  refine PySem.W.kat_cons (SeqAt.EqAt.str_str x t x' t' prog w _ _ ?_)
  refine PySem.W.kat_go (fun e1 => ?_) (fun e1 => ?_)
  · have ex : x = x' := by simpa using e1
    refine PySem.W.kat_yes (PySem.W.kat_cons (SeqAt.EqAt.int_int y u y' u' prog w _ _ ?_))
    refine PySem.W.kat_go (fun e2 => ?_) (fun e2 => ?_)
    · have ey : y = y' := by simpa using e2
      refine PySem.W.kat_yes (PySem.W.kat_nil ⟨rfl, ?_⟩)
      show decide (2 < 2) = _
      rw [if_pos ex, if_pos ey]
      simp
    · have ey : ¬ y = y' := by simpa using e2
      refine PySem.W.kat_no (PySem.W.kat_one _ _ (PyProof.Rows.lt_int ?_))
      refine (show s = s ∧ decide (y < y') = _ from ⟨rfl, ?_⟩)
      rw [if_pos ex, if_neg ey]
  · have ex : ¬ x = x' := by simpa using e1
    refine PySem.W.kat_no (oneLt_str ?_)
    refine ⟨rfl, ?_⟩
    rw [if_neg ex]
theorem plc_firsts {h : Heap} : ∀ {vs : List Value}, (∀ v ∈ vs, ∃ r, IsPlc h v r) → ∃ fs : List Value, PySem.W.KatTups h vs fs ∧ fs.length = vs.length ∧ ∀ f ∈ fs, ∃ x t, f = Value.str x t
  | [], _ => ⟨[], PySem.W.KatTups.nil, rfl, fun _ hm => (nomatch hm)⟩
  | v :: vs, hp => by
    obtain ⟨fs, h1, h2, h3⟩ := plc_firsts (vs := vs) fun u hm => hp u (List.mem_cons_of_mem _ hm)
    obtain ⟨r, a, o, t, u, n, rfl, ho, hc, hd⟩ := hp v List.mem_cons_self
    exact ⟨.str r.1 t :: fs, PySem.W.KatTups.cons ho hc hd rfl h1, by rw [List.length_cons, List.length_cons, h2], fun f hm => (List.mem_cons.mp hm).elim (fun e => ⟨_, _, e⟩) (h3 f)⟩
theorem plcs_sortable {a : Addr} {vs : List Value} {k : Value → Plc} (h0 : 0 < vs.length) (hp : ∀ v ∈ vs, IsPlc s.heap v (k v)) (ha : ∀ o, s.heap.get? a = some o → o.cls ≠ .type "tuple") : SortableO prog w A s a vs fun v u => ltR (asRow (k v)) (asRow (k u)) := by
  intro h' keep
  have hp' : ∀ v ∈ vs, IsPlc h' v (k v) := fun v hm => (hp v hm).keeps fun b o e c => keep b o (fun z => ha o (z ▸ e) c) e
  obtain ⟨fs, h1, h2, h3⟩ := plc_firsts fun v hm => ⟨_, hp' v hm⟩
  refine ⟨tuples' true, fun Q E hq => ?_, plc_cmp hp'⟩
  refine PySem.W.kat_kind (T := .type "str") h1 (by omega) (fun f hm => ?_) (by rfl) ?_
  · obtain ⟨x, t, rfl⟩ := h3 f hm
    exact PySem.W.Looks.now
  · have e : (Value.type "str" != Value.type "tuple") = true := by first | decide +kernel | rfl | decide
    rw [e]
    exact hq
end
def plcAtV (H : Hp) : V → Plc
  | .ref p => match H p with
    | some (.tup [.str z, .int t]) => (z, t)
    | _ => (Str.empty, 0)
  | _ => (Str.empty, 0)
theorem plcAtV_is {H : Hp} {p : Addr} {r : Plc} (e : H p = some (.tup (plcV r))) : plcAtV H (.ref p) = r := by
  show (match H p with | some (.tup [.str z, .int t]) => (z, t) | _ => (Str.empty, 0)) = r
  rw [e]
  rfl
theorem tups_plcs {H : Hp} {vs : List V} {rs : List Plc} (h : TupsAt plcV H vs rs) : rs = vs.map (plcAtV H) := by
  induction h with
  | nil => rfl
  | cons e _ ih => rw [List.map_cons, plcAtV_is e, ← ih]
theorem tups_refsP {H : Hp} {vs : List V} {rs : List Plc} (h : TupsAt plcV H vs rs) : ∀ v ∈ vs, ∃ t, v = V.ref t := by
  induction h with
  | nil => exact fun v z => (nomatch z)
  | cons e _ ih => exact fun v z => (List.mem_cons.mp z).elim (fun e => ⟨_, e⟩) (ih v)
/-- sorted(d) -/
def rSortD : List V → Hp → VK → Prop := fun vs H Q => ∃ (a : Addr) (rs : List Row), vs = [V.ref a] ∧ H a = some (.dT (rs.map fun r => ([Sum.inr r.1, Sum.inl r.2.1], V.int r.2.2))) ∧
  ∀ (ys : List V) (ss : List Plc) (p : Addr), ss.Perm (rs.map plcOf) → ss.Pairwise (fun q r => ltR (asRow r) (asRow q) = false) → TupsAt plcV H ys ss → H p = none → Q (.ref p) (upd H p (.lst ys))
theorem keys_tups {H : Hp} : ∀ {rs : List Row} {bs : List Addr}, IsKeys H (rs.map fun r => ([Sum.inr r.1, Sum.inl r.2.1], V.int r.2.2)) bs → TupsAt plcV H (bs.map V.ref) (rs.map plcOf)
  | [], bs, h => by
    cases h
    exact .nil
  | r :: rs, bs, h => by
    cases h with
    | cons a t => exact .cons a (keys_tups t)
section
variable {X : Cx}
theorem cr_sortD (hcalm : X.calm = true) : CallR X (.builtin "sorted") rSortD := by
  intro pins s σ H vs us Q I r h
  obtain ⟨a, rs, rfl, hd, q⟩ := h
  rw [Vals.ref1 r]
  obtain ⟨z, hs, ks, pr, o, es, ep, ho, hx, hdt, he, hn⟩ := (show ObjOk X.prog X.w H s.heap a (.dT _) from I.hok a _ hd)
  have l1 : es.size = ks.length := size_of_entries he
  have l2 : _ = ks.length := Paired.length pr
  have tk := keys_tups (isKeys_of pr)
  refine Calls.call_function_entry kind_sorted plain_sorted entry_sorted (args_sorted1 _) ?_
  unfold Builtin.«sorted»
  refine wpAny_bind (m := checkCount "sorted" 1 1 _) (wpAny_pure ?_)
  refine wpAny_bind (PySem.W.kdu_collect (A := X.A.in1) (kdl_raw hs hx hdt) (I.ok.hd hcalm) ho (by omega) fun h1 t1 acc k1 it => ?_)
  have ea : acc.toList = (ks.map fun x => x.2.1).map Value.ref := by
    have hl : acc.toList.length = ks.length := by rw [Array.length_toList, it.1]; exact l1
    refine List.ext_getElem? fun j => ?_
    rw [List.map_map, List.getElem?_map]
    cases hj : acc.toList[j]? with
    | none =>
      have h1 := List.getElem?_eq_none_iff.mp hj
      rw [List.getElem?_eq_none (by omega)]
      rfl
    | some v =>
      obtain ⟨en, hen, hv⟩ := it.2 j v (by rw [← Array.getElem?_toList]; exact hj)
      have qe := entry_at he j
      rw [hen] at qe
      cases hb : ks[j]? with
      | none =>
        rw [hb] at qe
        exact nomatch (show some en = none from qe)
      | some b =>
        rw [hb] at qe
        have e2 : en = entryOfKey (tupleKind (mixKind X.prog X.w)) b := Option.some.inj qe
        rw [hv, e2]
        rfl
  rw [ea]
  generalize hbs : (ks.map fun x => x.2.1) = bs at tk ea
  have lb : bs.length = ks.length := by rw [← hbs, List.length_map]
  have zb : (bs.map Value.ref).length ≤ sizeLine := by rw [List.length_map]; omega
  have isP : ∀ v ∈ bs.map Value.ref, IsPlc h1 v (plcAtV H (backV v)) := fun v hv => by
    obtain ⟨b, hb, rfl⟩ := List.mem_map.mp hv
    obtain ⟨i, hi⟩ := List.getElem?_of_mem (List.mem_map_of_mem (f := V.ref) hb)
    obtain ⟨p, q, _, eq, hq⟩ := tk.get hi
    cases eq
    obtain ⟨_, its2, r2, o2, ho2, hc2, n2, hd2⟩ := I.hok _ _ hq
    have hk : plcAtV H (backV (.ref b)) = p := plcAtV_is hq
    rw [hk]
    cases r2 with
    | cons r1 r2 =>
      cases r2 with
      | cons r2 r3 =>
        cases r3
        obtain ⟨t1, rfl⟩ := r1
        obtain ⟨t2, rfl⟩ := r2
        exact ⟨b, o2, t1, t2, n2, rfl, k1 _ _ ho2, hc2, hd2⟩
  refine wpAny_bind (wpAny_newList ?_ zb)
  have ol : (h1.push (seqObj "list" (bs.map Value.ref).toArray 0)).get? h1.objs.size = some (seqObj "list" (bs.map Value.ref).toArray 0) := Heap.get?_push_size _ rfl
  have I1 : Inv X pins σ H { s with heap := h1, toks := t1 } := I.kept k1
  show wpAny _ _ _ _ _ { s with heap := h1.push (seqObj "list" (bs.map Value.ref).toArray 0), toks := t1 }
  refine wpAny_bind (wpAny_holding (wpAny_call_entry slot_list_sort ⟨_, ol, rfl⟩ entry_list_sort (list_sort_ord (s := { s with heap := h1.push (seqObj "list" (bs.map Value.ref).toArray 0), toks := t1 }) (swoR fun v => asRow (plcAtV H (backV v))) ol zb (fun h2 => ?_) fun out hs hb => ⟨_, rfl, ?_⟩) (args_list_sort _)))
  · refine plcs_sortable (s := { s with heap := h1.push (seqObj "list" (bs.map Value.ref).toArray 0), toks := t1 }) (by omega) (fun v hm => (isP v hm).keeps fun b o e _ => Heap.get?_push_of_some _ e) fun o e c => ?_
    have e' : some o = some (seqObj "list" (bs.map Value.ref).toArray 0) := e.symm.trans ol
    cases e'
    exact absurd (Value.type.inj c) (by decide)
  · have h3 : ∀ u ∈ out, ∃ a, u = Value.ref a := fun u hu => by
      obtain ⟨b, _, e⟩ := List.mem_map.mp (hb.perm.mem_iff.mp hu)
      exact ⟨b, e.symm⟩
    have pv : (out.map backV).Perm (bs.map V.ref) := by
      have := hb.perm.map backV
      rw [List.map_map] at this
      exact this
    obtain ⟨ss, ps, ts⟩ := tk.perm pv
    have kp : ∀ b u, h1.get? b = some u → (sortedHeap (h1.push (seqObj "list" (bs.map Value.ref).toArray 0)) h1.objs.size (bs.map Value.ref) out.toArray).get? b = some u := fun b u e => by
      have lt := Heap.lt_size e
      rw [sortedHeap_old (Nat.ne_of_lt lt) (by rw [size_push']; exact Nat.lt_succ_of_lt lt)]
      exact Heap.get?_push_of_some _ e
    obtain ⟨c, hn2⟩ := sortedHeap_at (vs := bs.map Value.ref) (out := out.toArray) ol
    refine wpAny_pure ⟨_, rfl, .ref h1.objs.size, upd H h1.objs.size (.lst (out.map backV)), I1.laid (t' := t1) kp (Nat.le_refl _) ⟨?_, out, c, vals_back h3, hn2⟩, rfl, q _ ss _ ps ?_ ts (I1.hok.fresh (Nat.le_refl _))⟩
    · rw [List.length_map, hb.perm.length_eq]
      exact zb
    · rw [tups_plcs ts, List.map_map]
      exact List.pairwise_map.mpr hs
end
end Rng


/-! sorted of a list or tuple of pairs (text, integer), of a tuple of texts -/
namespace Rng
open PySem PySem.Spec PyProof.Rows L2 SrtO
section
variable {prog : Program} {w : World} {A : Around} {E : Value → Shared → Prop} {s : Shared}
theorem sorted_plcs {l : Addr} {T : String} {o : Obj} {vs : List Value} {n : Nat} {k : Value → Plc} {Q : Value → Shared → Prop} (hT : T = "list" ∨ T = "tuple") (ho : s.heap.get? l = some o) (hc : o.cls = .type T) (hd : o.data = .seq vs.toArray n) (hz : vs.length ≤ sizeLine) (hp : ∀ v ∈ vs, IsPlc s.heap v (k v))
    (h : ∀ (h' : Heap) (d : Addr) (out : List Value), Srtd (fun v u => ltR (asRow (k v)) (asRow (k u))) out → out.Perm vs → (∀ b o, s.heap.get? b = some o → h'.get? b = some o) → s.heap.objs.size ≤ d → (∃ c, h'.get? d = some (seqObj "list" out.toArray c)) → Q (.ref d) { s with heap := h' }) :
    wpAny (model prog w) A (call (.builtin "sorted") [.ref l]) Q E s := by
  refine Calls.call_function_entry kind_sorted plain_sorted entry_sorted (args_sorted1 _) ?_
  unfold Builtin.«sorted»
  refine wpAny_bind (m := checkCount "sorted" 1 1 _) (wpAny_pure ?_)
  refine wpAny_bind (gather hT ho hc hd (by rw [List.size_toArray]; exact hz) fun h1 k1 sz => ?_)
  rw [List.toList_toArray]
  refine wpAny_bind (wpAny_newList ?_ hz)
  have ol : (h1.push (seqObj "list" vs.toArray 0)).get? h1.objs.size = some (seqObj "list" vs.toArray 0) := Heap.get?_push_size _ rfl
  refine wpAny_bind (wpAny_holding (wpAny_call_entry slot_list_sort ⟨_, ol, rfl⟩ entry_list_sort (list_sort_ord (swoR fun v => asRow (k v)) ol hz (fun h2 => ?_) fun out hs hb => ⟨_, rfl, ?_⟩) (args_list_sort _)))
  · refine plcs_sortable (s := { s with heap := h1.push (seqObj "list" vs.toArray 0) }) (by omega) (fun v hm => (hp v hm).keeps fun b o e _ => Heap.get?_push_of_some _ (k1 b o e)) fun o e c => ?_
    have e' : some o = some (seqObj "list" vs.toArray 0) := e.symm.trans ol
    cases e'
    exact absurd (Value.type.inj c) (by decide)
  · refine wpAny_pure ⟨_, rfl, h _ _ out hs hb.perm (fun b u e => ?_) sz (sortedHeap_at ol)⟩
    have lt := Heap.lt_size (k1 b u e)
    show (sortedHeap (h1.push (seqObj "list" vs.toArray 0)) h1.objs.size vs _).get? b = some u
    rw [sortedHeap_old (Nat.ne_of_lt lt) (by rw [size_push']; exact Nat.lt_succ_of_lt lt)]
    exact Heap.get?_push_of_some _ (k1 b u e)
theorem sorted_strsT {l : Addr} {o : Obj} {vs : List Value} {xs : List Str} {n : Nat} {Q : Value → Shared → Prop} (ho : s.heap.get? l = some o) (hc : o.cls = .type "tuple") (hd : o.data = .seq vs.toArray n) (hS : StrsAre vs xs) (h64 : vs.length < 64)
    (h : ∀ (h' : Heap) (d : Addr) (ys : List Str) (out : List Value), ys.Perm xs → sortedS ys = true → StrsAre out ys → (∀ b o, s.heap.get? b = some o → h'.get? b = some o) → s.heap.objs.size ≤ d → (∃ c, h'.get? d = some (seqObj "list" out.toArray c)) → Q (.ref d) { s with heap := h' }) :
    wpAny (model prog w) A (call (.builtin "sorted") [.ref l]) Q E s := by
  have hz : vs.length ≤ sizeLine := by rw [sizeLine_eq]; omega
  refine Calls.call_function_entry kind_sorted plain_sorted entry_sorted (args_sorted1 _) ?_
  unfold Builtin.«sorted»
  refine wpAny_bind (m := checkCount "sorted" 1 1 _) (wpAny_pure ?_)
  refine wpAny_bind (gather (.inr rfl) ho hc hd (by rw [List.size_toArray]; exact hz) fun h1 k1 sz => ?_)
  rw [List.toList_toArray]
  refine wpAny_bind (wpAny_newList ?_ hz)
  have ol : (h1.push (seqObj "list" vs.toArray 0)).get? h1.objs.size = some (seqObj "list" vs.toArray 0) := Heap.get?_push_size _ rfl
  refine wpAny_bind (wpAny_holding (wpAny_call_entry slot_list_sort ⟨_, ol, rfl⟩ entry_list_sort
    (list_sort_treeK strKind_oneLt (s := { s with heap := h1.push (seqObj "list" vs.toArray 0) }) ol hS.keysOf (fun v₁ v₂ rest e => keyKind_strs (by rw [← e]; exact hS)) h64 fun st' hp hs => ⟨_, rfl, ?_⟩) (args_list_sort _)))
  obtain ⟨ys, g1, g2, g3⟩ := sorted_out_str hS hp hs
  obtain ⟨e', he'⟩ := sortedHeap_at (vs := vs) (out := (arrOf st').map (·.2)) ol
  refine wpAny_pure ⟨_, rfl, h _ _ ys ((arrOf st').map (·.2)).toList g2 g3 g1 (fun b u e => ?_) sz ⟨e', by rw [Array.toArray_toList]; exact he'⟩⟩
  have lt := Heap.lt_size (k1 b u e)
  show (sortedHeap (h1.push (seqObj "list" vs.toArray 0)) h1.objs.size vs _).get? b = some u
  rw [sortedHeap_old (Nat.ne_of_lt lt) (by rw [size_push']; exact Nat.lt_succ_of_lt lt)]
  exact Heap.get?_push_of_some _ (k1 b u e)
end
/-- sorted(pairs) -/
def rSortPlcs (K : PySem.W.Frag) : List V → Hp → VK → Prop := fun vs H Q => ∃ (a : Addr) (xs : List V) (rs : List Plc), vs = [V.ref a] ∧ (SqL K H a xs ∨ SqT K H a xs) ∧ TupsAt plcV H xs rs ∧
  ∀ (ys : List V) (ss : List Plc) (p : Addr), ss.Perm rs → ss.Pairwise (fun q r => ltR (asRow r) (asRow q) = false) → TupsAt plcV H ys ss → H p = none → Q (.ref p) (upd H p (.lst ys))
/-- sorted(names) -/
def rSortStrT (K : PySem.W.Frag) : List V → Hp → VK → Prop := fun vs H Q => ∃ (a : Addr) (xs : List Str), vs = [V.ref a] ∧ SqT K H a (xs.map V.str) ∧ xs.length < 64 ∧ ∀ (ys : List Str) (p : Addr), ys.Perm xs → sortedS ys = true → H p = none → Q (.ref p) (upd H p (.lst (ys.map V.str)))
section
variable {X : Cx}
theorem cr_sortPlcs : CallR X (.builtin "sorted") (rSortPlcs X.K) := by
  intro pins s σ H vs us Q I r h
  obtain ⟨a, xs, rs, rfl, hs, ht, q⟩ := h
  rw [Vals.ref1 r]
  have got : ∃ (T : String) (o : Obj) (its : List Value) (n : Nat), (T = "list" ∨ T = "tuple") ∧ s.heap.get? a = some o ∧ o.cls = .type T ∧ o.data = .seq its.toArray n ∧ Vals xs its ∧ its.length ≤ sizeLine := by
    rcases hs with hs | hs
    · obtain ⟨its, rv, pl, hz⟩ := I.list hs
      obtain ⟨o, ho, hc, n, hd⟩ := pl.isList
      exact ⟨_, o, its, n, .inl rfl, ho, hc, hd, rv, by rw [← rv.length]; exact hz⟩
    · obtain ⟨its, rv, ⟨o, ho, hc, n, hd⟩, hz⟩ := I.tuple hs
      exact ⟨_, o, its, n, .inr rfl, ho, hc, hd, rv, by rw [← rv.length]; exact hz⟩
  obtain ⟨T, o, its, n, hT, ho, hc, hd, rv, hz⟩ := got
  obtain ⟨e1, e2⟩ := refs_back rv (tups_refsP ht)
  have row : ∀ v ∈ its, IsPlc s.heap v (plcAtV H (backV v)) := fun v hv => by
    obtain ⟨t, rfl⟩ := e2 v hv
    have hm : V.ref t ∈ xs := by rw [e1]; exact List.mem_map.mpr ⟨_, hv, rfl⟩
    obtain ⟨i, hi⟩ := List.getElem?_of_mem hm
    obtain ⟨r, q, _, eq, hq⟩ := ht.get hi
    cases eq
    obtain ⟨_, its2, r2, o2, ho2, hc2, n2, hd2⟩ := I.hok _ _ hq
    have hk : plcAtV H (backV (.ref t)) = r := plcAtV_is hq
    rw [hk]
    cases r2 with
    | cons r1 r2 =>
      cases r2 with
      | cons r2 r3 =>
        cases r3
        obtain ⟨t1, rfl⟩ := r1
        obtain ⟨t2, rfl⟩ := r2
        exact ⟨t, o2, t1, t2, n2, rfl, ho2, hc2, hd2⟩
  refine sorted_plcs hT ho hc hd hz row fun h' d out so pm kp hd' hn => ?_
  have h3 : ∀ u ∈ out, ∃ a, u = Value.ref a := fun u hu => e2 u (pm.mem_iff.mp hu)
  obtain ⟨c, hn⟩ := hn
  have pv : (out.map backV).Perm xs := by
    rw [e1]
    exact pm.map backV
  obtain ⟨ss, ps, ts⟩ := ht.perm pv
  refine ⟨.ref d, upd H d (.lst (out.map backV)), I.laid (t' := s.toks) kp hd' ⟨?_, out, c, vals_back h3, hn⟩, rfl, q _ ss d ps ?_ ts (I.hok.fresh hd')⟩
  · rw [List.length_map, pm.length_eq]
    exact hz
  · rw [tups_plcs ts, List.map_map]
    exact List.pairwise_map.mpr so
theorem cr_sortStrT : CallR X (.builtin "sorted") (rSortStrT X.K) := by
  intro pins s σ H vs us Q I r h
  obtain ⟨a, xs, rfl, hs, h64, q⟩ := h
  rw [Vals.ref1 r]
  obtain ⟨its, rv, ⟨o, ho, hc, n, hd⟩, hz⟩ := I.tuple hs
  have hS : StrsAre its xs := strs_of_vals rv
  have hl : its.length = xs.length := by rw [← rv.length, List.length_map]
  refine sorted_strsT ho hc hd hS (by omega) fun h' d ys out pm so g1 kp hd' hn => ?_
  obtain ⟨c, hn⟩ := hn
  refine ⟨.ref d, upd H d (.lst (ys.map V.str)), I.laid (t' := s.toks) kp hd' ⟨?_, out, c, vals_of_strs g1, hn⟩, rfl, q ys d pm so (I.hok.fresh hd')⟩
  rw [List.length_map, pm.length_eq, sizeLine_eq]
  omega
end
end Rng


/-! a tuple whose object is known to have no dict; dict(that tuple) -/
namespace L2
open PySem PySem.Spec PyProof.Rows
section
variable {X : Cx}
/-- tuple(list): the object is known -/
theorem call_tuple_ofF : CallR X (.type "tuple") (fun xs H Q => ∃ p ys, xs = [.ref p] ∧ SqL X.K H p ys ∧ ∀ (l : Addr) (o : Obj), H l = none → o.dict = none → Q (.ref l) (upd H l (.frz o (.tup ys)))) := by
  rintro pins s σ H xs us Q I r ⟨p, ys, rfl, hs, q⟩
  obtain ⟨u, rfl, rx⟩ := vals1 r
  cases rx
  obtain ⟨its, rv, pl, hz⟩ := I.list hs
  have hsz : its.toArray.size ≤ sizeLine := by rw [List.size_toArray, ← rv.length]; exact hz
  refine call_tuple_list pl.isList (fun h' hk => ?_) hsz
  have J : Inv X pins σ H { s with heap := h' } := I.kept (t' := s.toks) hk
  let ob : Obj := { cls := .type "tuple", data := .seq its.toArray }
  have new : ObjOk X.prog X.w (upd H h'.objs.size (.frz ob (.tup ys))) (h'.push ob) h'.objs.size (.frz ob (.tup ys)) := ⟨Heap.get?_push_size _ rfl, hz, its, rv, IsTup.new _ _⟩
  exact ⟨.ref h'.objs.size, upd H h'.objs.size (.frz ob (.tup ys)), J.laid (t' := s.toks) (fun b o e => Heap.get?_push_of_some _ e) (Nat.le_refl _) new, rfl, q _ ob (J.hok.fresh (Nat.le_refl _)) rfl⟩
/-- the pairs, as the machine has them -/
theorem pairs_raw {pins : List (Addr × Obj)} {σ : St} {H : Hp} {s : Shared} (I : Inv X pins σ H s) {ps : List Addr} {kvs : List (Key × V)} (hp : Paired (fun p kv => SqT X.K H p [kV kv.1, kv.2]) ps kvs) :
    ∃ (prs : List (Key × Value)) (rs : List (Value × Value)), KV kvs prs ∧ prs.length = ps.length ∧ rs.length = ps.length ∧ ∀ (j : Nat) (k v : Value), rs[j]? = some (k, v) → (∃ b, ps[j]? = some b ∧ IsTup s.heap b #[k, v]) ∧ ∃ y, prs[j]? = some (y, v) ∧ keyIs y k = true := by
  induction hp with
  | nil => exact ⟨[], [], .nil, rfl, rfl, fun j k v e => nomatch (e : none = _)⟩
  | cons h t ih =>
    rename_i p kv ps kvs
    obtain ⟨prs, rs, r, l1, l2, g⟩ := ih
    obtain ⟨its, rv, tp, _⟩ := I.tuple h
    obtain ⟨u, y, rfl, ru, ry⟩ := vals2 rv
    refine ⟨(kv.1, y) :: prs, (u, y) :: rs, .cons ⟨rfl, ry⟩ r, congrArg Nat.succ l1, congrArg Nat.succ l2, fun j k v e => ?_⟩
    rcases j with _ | j
    · cases Option.some.inj e
      exact ⟨⟨p, rfl, tp⟩, _, rfl, kV_is (P := X.prog) (w := X.w) ru⟩
    · exact g j k v e
/-- dict(t) of a tuple of pairs (key, value), the tuple's object known -/
theorem call_dictPT (hcalm : X.calm = true) : CallR X (.type "dict") (fun xs H Q => ∃ (a : Addr) (o : Obj) (ps : List Addr) (kvs : List (Key × V)), xs = [.ref a] ∧ H a = some (.frz o (.tup (ps.map V.ref))) ∧ o.dict = none ∧ Paired (fun p kv => SqT X.K H p [kV kv.1, kv.2]) ps kvs ∧
    ∀ p, H p = none → Q (.ref p) (upd H p (.dK (mergeK [] kvs)))) := by
  rintro pins s σ H xs us Q I r ⟨a, o, ps, kvs, rfl, hq, od, hp, q⟩
  obtain ⟨u, rfl, rx⟩ := vals1 r
  cases rx
  obtain ⟨ho, hz, its, rv, pl⟩ := (show ObjOk X.prog X.w H s.heap a (.frz o (.tup (ps.map V.ref))) from I.hok a _ hq)
  obtain rfl := refs_at rv
  rw [List.length_map] at hz
  obtain ⟨o', ho', hc, n, hdat⟩ := pl
  rw [ho] at ho'
  obtain rfl := Option.some.inj ho'
  obtain ⟨prs, rs, rel, l1, l2, g⟩ := pairs_raw I hp
  have PA := PySem.PairArg.tuple (prog := X.prog) (w := X.w) a (ps.map Value.ref).toArray (fun j => ps.getD j 0) rs
  have items : PySem.PairItems s.heap (ps.map Value.ref).toArray (fun j => ps.getD j 0) rs := by
    refine ⟨by simp [l2], fun j k v e => ?_⟩
    obtain ⟨⟨b, hb, tb⟩, _⟩ := g j k v e
    have gb : ps.getD j 0 = b := by rw [List.getD_eq_getElem?_getD, hb]; rfl
    show (List.map Value.ref ps).toArray[j]? = some (Value.ref (ps.getD j 0)) ∧ PySem.PairAt s.heap (ps.getD j 0) k v
    rw [gb]
    exact ⟨by simp [hb], .inl tb⟩
  refine PySem.call_dict_pairs (knd := mixKind X.prog X.w) (kvs := prs) PA (I.ok.hd hcalm) ⟨⟨o, n, ho, hc, od, hdat⟩, items⟩ ⟨by rw [l1, l2], fun i k v e => (g i k v e).2⟩ (by rw [l2]; exact hz) fun h' tk hd' k => ?_
  have hm : (s.heap.objs.size == sysModules) = false := beq_eq_false_iff_ne.mpr (Nat.ne_of_gt I.big)
  have hlen : (mergeK [] kvs).length ≤ sizeLine := by
    refine Nat.le_trans (length_mergeK kvs []) ?_
    rw [List.length_nil, Nat.zero_add, rel.length, l1]
    exact hz
  exact ⟨.ref s.heap.objs.size, upd H s.heap.objs.size (.dK (mergeK [] kvs)), I.laid (t' := tk) (fun b u e => k b u (nomatch ·) e) (Nat.le_refl _) (show ObjOk X.prog X.w _ _ _ (.dK (mergeK [] kvs)) from ⟨hlen, hm, merged [] prs, KV.merge rel .nil, hd'⟩), rfl, q _ (I.hok.fresh (Nat.le_refl _))⟩
end
end L2


namespace K13
open PySem L2 Rng Bag Gd LamX Tr4
section
variable {P : Program} {w : World} {K : PySem.W.Frag} {mg : Str → Option Value} {base : Heap}
theorem no_item1 {g a b c d : V} : List.lookup ("distance" : Str) [(("grid" : Str), g), ("apart", a), ("on_grid", b), ("at_rows", c), ("text", d)] = none := rfl
theorem no_item2 {g a b c d : V} : List.lookup ("with_rows_of" : Str) [(("grid" : Str), g), ("apart", a), ("on_grid", b), ("at_rows", c), ("text", d)] = none := rfl
/-- a setting at o, made -/
def SettingAt (C : Addr) (H : Hp) (o : Addr) (n : Option (Int × Int)) (ps : List (Str × Int)) (os : List Str) (a : V) : Prop := ∃ fs, SetAt C H o fs n ps os a ∧ fs.lookup ("text" : Str) = some (.str (linesOf (setParts n ps os a))) ∧ fs.lookup ("distance" : Str) = none ∧ fs.lookup ("with_rows_of" : Str) = none
def ArgsGo (K : PySem.W.Frag) (Ce : Nat → Addr) (g ap og a : V) (H : Hp) (E : XK) (ok : Option (Int × Int) → List (Str × Int) → List Str → Prop) : Prop :=
  ∃ no, NetIs H g no ∧ (no = none → ErrK (Ce 6) "value" g H E) ∧ ∀ n, no = some n →
    ((NoTup H ap ∧ ErrK (Ce 14) "index" .non H E) ∨ ∃ (p : Addr) (xs : List V) (os : List (Option (Str × Int))), ap = .ref p ∧ TpK K H p xs ∧ Els PairIs H xs os ∧ os.length ≤ 40 ∧ (∀ k H1, BadK Prod.fst os k → Same H H1 → ErrK (Ce 14) "index" (.int k) H1 E) ∧ ∀ rs, AllK Prod.fst os rs →
      ((NoTup H og ∧ ErrK (Ce 15) "index" .non H E) ∨ ∃ (p2 : Addr) (xs2 : List V) (os2 : List (Option Str)), og = .ref p2 ∧ TpK K H p2 xs2 ∧ Els FeedIs H xs2 os2 ∧ os2.length ≤ 40 ∧ (∀ k H1, BadK id os2 k → Same H H1 → ErrK (Ce 15) "index" (.int k) H1 E) ∧
        ∀ fs, AllK id os2 fs → (fs ≠ [] ∧ n = none → ∀ H1, Same H H1 → ErrK (Ce 15) "index" .non H1 E) ∧ (fs = [] ∨ n ≠ none → (a ≠ .non ∧ nameV a = false → ∀ H1, Same H H1 → ErrK (Ce 0) "value" a H1 E) ∧ (a = .non ∨ nameV a = true → ok n rs fs))))
def spSet (K : PySem.W.Frag) (C : Addr) (Ce : Nat → Addr) : Sp := fun vs H Q E => ∃ (o dx : Addr) (g ap og a : V), vs = [.ref o, g, ap, og, a] ∧ H o = some (.ins C dx []) ∧ Cell H a ∧
  ArgsGo K Ce g ap og a H E fun n rs fs => ∀ (ps : List (Str × Int)) (os : List Str) (H' : Hp), ps.Perm rs → ps.Pairwise (fun q r => ltR (asRow r) (asRow q) = false) → os.Perm fs → PyProof.Rows.sortedS os = true → SettingAt C H' o n ps os a → But o H H' → Q .non H'
def spChkName (C : Addr) : Sp := fun vs H Q E => ∃ v : V, vs = [v] ∧ Cell H v ∧ (nameV v = true → ∀ H', Same H H' → Q .non H') ∧ (nameV v = false → ErrK C "value" v H E)
theorem pairs_tups {H : Hp} {vs : List V} {rs : List (Str × Int)} (h : Els PairIs H vs (rs.map some)) : TupsAt plcV H vs rs ∧ ∀ p ∈ rs, isName p.1 = true ∧ 1 ≤ p.2 ∧ p.2 ≤ 1000000000 := by
  induction rs generalizing vs with
  | nil =>
    cases h
    exact ⟨.nil, fun _ h => nomatch h⟩
  | cons r rs ih =>
    cases h with
    | cons a b =>
      obtain ⟨t, n⟩ := ih b
      cases a with
      | pair e m x y => exact ⟨.cons e t, fun p hp => (List.mem_cons.mp hp).elim (fun z => z ▸ ⟨m, x, y⟩) (n p)⟩
theorem feeds_names {H : Hp} {vs : List V} {rs : List Str} (h : Els FeedIs H vs (rs.map some)) : ∀ z ∈ rs, isName z = true := by
  induction rs generalizing vs with
  | nil => exact fun _ h => nomatch h
  | cons r rs ih =>
    cases h with
    | cons a b =>
      cases a with
      | name m => exact fun p hp => (List.mem_cons.mp hp).elim (fun z => z ▸ m) (ih b p)
theorem els_same {α : Type} {R : Hp → V → Option α → Prop} (k : ∀ {H H' : Hp} {v : V} {o : Option α}, R H v o → Kin H H' → R H' v o) {H H' : Hp} {vs : List V} {os : List (Option α)} (h : Els R H vs os) (s : Same H H') : Els R H' vs os := h.imp fun _ _ r => k r s.kin
theorem nameV_str {a : V} (h : nameV a = true) : ∃ z, a = .str z ∧ isName z = true := by
  cases a <;> first | exact ⟨_, rfl, h⟩ | exact absurd h (by intro z; cases z)
abbrev sSet : Stmt := top 43
abbrev sSInit : Stmt := inClass sSet 0
theorem scSInit : FnScope ["self", "grid", "apart", "on_grid", "at_rows"] ["self", "grid", "apart", "on_grid", "at_rows"] (defScope sSInit) := ⟨rfl, rfl, rfl, by decide +kernel, rfl, by decide +kernel, by decide +kernel⟩
theorem ok_sinit {f fcG fcA fcF fcN fTx C : Addr} {Ce : Nat → Addr} {fd dcG dcA dcF dcN dTx : FuncData} (F : Fun K "__init__" "Setting.__init__" sSInit f fd) (T : Kt mg) (KS : Ks mg) (X : Sx K C)
    (FcG : Fun K "check_grid" "check_grid" sCkG fcG dcG) (bcG : Binds K dcG ["value"] []) (mcG : mg "check_grid" = some (.ref fcG)) (GcG : FnOk P w K mg base (L2N.CX P w) 3 fcG dcG ["value"] (spChkGrid (Ce 6)))
    (FcA : Fun K "_check_apart" "_check_apart" sApart fcA dcA) (bcA : Binds K dcA ["apart"] []) (mcA : mg "_check_apart" = some (.ref fcA)) (GcA : FnOk P w K mg base (L2N.CX P w) 4 fcA dcA ["apart"] (spApart K (Ce 14)))
    (FcF : Fun K "_check_feeds" "_check_feeds" sFeeds fcF dcF) (bcF : Binds K dcF ["feeds", "grid"] []) (mcF : mg "_check_feeds" = some (.ref fcF)) (GcF : FnOk P w K mg base (L2N.CX P w) 4 fcF dcF ["feeds", "grid"] (spFeeds K (Ce 15)))
    (FcN : Fun K "check_name" "check_name" (top 35) fcN dcN) (bcN : Binds K dcN ["value"] []) (mcN : mg "check_name" = some (.ref fcN)) (GcN : FnOk P w K mg base (L2N.CX P w) 3 fcN dcN ["value"] (spChkName (Ce 0)))
    (FTx : Fun K "_setting_text" "_setting_text" sText fTx dTx) (bTx : Binds K dTx ["setting"] []) (mTx : mg "_setting_text" = some (.ref fTx)) (GTx : FnOk P w K mg base CX0 2 fTx dTx ["setting"] (spText C)) :
    FnOk P w K mg base (L2N.CX P w) 5 f fd ["self", "grid", "apart", "on_grid", "at_rows"] (spSet K C Ce) := by
  refine F.okN scSInit (fun vs H Q E h => ?_) (fun cdv A outer s H vs Q E hr h => ?_)
  · obtain ⟨o, dx, g, ap, og, a, rfl, _⟩ := h
    rfl
  · obtain ⟨o, dx, g, ap, og, a, rfl, ho, ca, no, hg, eg, h⟩ := h
    have hr3 : Room 3 _ := hr.mono (by decide)
    have hr2 : Room 2 _ := hr.mono (by decide)
    refine ⟨_, pss_cons (ps_expr (pe_call GcG hr3 rfl mcG FcG.kp bcG .nil passesN (pa_cons (pv 1) pa_nil)))
      (pss_cons (ps_expr (pe_call GcA hr rfl mcA FcA.kp bcA .nil passesN (pa_cons (pv 2) pa_nil)))
      (pss_cons (ps_expr (pe_call GcF hr rfl mcF FcF.kp bcF .nil passesN (pa_cons (pv 3) (pa_cons (pv 1) pa_nil))))
      (pss_cons (ps_if (pt_cmp (pc_notN (pv 4))) (pss_one (ps_expr (pe_call GcN hr3 rfl mcN FcN.kp bcN .nil passesN (pa_cons (pv 4) pa_nil)))) pss_nil)
      (pss_cons (ps_fld (pv 0) (pv 1) rfl)
      (pss_cons (ps_fld (pv 0) (pe_callTy call_tuple_ofF (by rfl) T.nTuple (by decide +kernel) (pa_cons (pe_callB cr_sortPlcs (by rfl) KS.nSorted (by decide +kernel) (pa_cons (pv 2) pa_nil)) pa_nil)) rfl)
      (pss_cons (ps_fld (pv 0) (pe_callTy call_tuple_of (by rfl) T.nTuple (by decide +kernel) (pa_cons (pe_callB cr_sortStrT (by rfl) KS.nSorted (by decide +kernel) (pa_cons (pv 3) pa_nil)) pa_nil)) rfl)
      (pss_cons (ps_fld (pv 0) (pv 4) rfl)
      (pss_one (ps_fld (pv 0) (pe_call GTx hr2 rfl mTx FTx.kp bTx .nil pass0 (pa_cons (pv 0) pa_nil)) rfl))))))))), ?_⟩
    refine ⟨_, rfl, g, no, rfl, hg, fun ng => ?_, eg⟩
    obtain ⟨n, rfl⟩ : ∃ n, no = some n := by
      cases no with
      | none => cases ng
      | some n => exact ⟨n, rfl⟩
    rcases h n rfl with ⟨na, ea⟩ | ⟨p, xs, os, rfl, hp, L, ln, ea, h⟩
    · exact ⟨_, rfl, _, rfl, .inr ⟨na, ea⟩⟩
    refine ⟨_, rfl, _, rfl, .inl ⟨p, xs, os, rfl, hp, L, Nat.le_trans ln (by decide), ea, fun rs H1 ar s1 => ?_⟩⟩
    rcases h rs ar with ⟨nf, ef⟩ | ⟨p2, xs2, os2, rfl, hp2, L2, ln2, ef, h⟩
    · exact ⟨_, rfl, _, rfl, _, _, n, rfl, hg.kin s1.kin, .inr ⟨nf.kin s1.kin, ef.same s1⟩⟩
    refine ⟨_, rfl, _, rfl, _, _, n, rfl, hg.kin s1.kin, .inl ⟨p2, xs2, os2, rfl, hp2.same s1, els_same (fun r k => r.kin k) L2 s1, Nat.le_trans ln2 (by decide), fun k H2 b s2 => ef k H2 b (s1.trans s2), fun fs af => ?_⟩⟩
    obtain ⟨e1, h⟩ := h fs af
    refine ⟨fun z H2 s2 => e1 z H2 (s1.trans s2), fun z H2 s2 => ?_⟩
    obtain ⟨e2, ok⟩ := h z
    have s12 := s1.trans s2
    by_cases hn : a = .non
    · subst hn
      refine ⟨_, rfl, _, rfl, iteF ?_⟩
      have okk := ok (.inl rfl)
      have hoX := s12 _ _ ho
      have trH := (pairs_tups (H := H) (by rw [← ar.1]; exact L)).1
      have prH := (pairs_tups (H := H) (by rw [← ar.1]; exact L)).2
      have fsE : xs2 = fs.map V.str := feeds_strs (H := H) (by rw [← af.1]; exact L2)
      have fsN := feeds_names (H := H) (by rw [← af.1]; exact L2)
      have lf : fs.length ≤ 40 := by have := ln2; rw [af.1, List.length_map] at this; exact this
      have lr : rs.length ≤ 40 := by have := ln; rw [ar.1, List.length_map] at this; exact this
      subst fsE
      have hu : Room 1 (A.deeper (PyProof.Rows.envOfC "Setting.__init__" (defScope sSInit) s.heap.objs.size f cdv)) := hr.mono (by decide)
      refine ⟨_, rfl, _, rfl, o, C, dx, [], rfl, hoX, X.cl, X.nG, by decide, ?_⟩
      have b1 : But o H (upd H2 o (.ins C dx (putF "grid" g []))) := fun c u nc e => by rw [upd_ne nc]; exact s12 _ _ e
      have o1 : (upd H2 o (.ins C dx (putF "grid" g []))) o = some (.ins C dx [("grid", g)]) := upd_same
      revert b1 o1
      generalize upd H2 o (.ins C dx (putF "grid" g [])) = J1
      intro b1 o1
      have noT : ∀ zs, H o ≠ some (.tup zs) := fun zs e => by rw [ho] at e; cases e
      have noTF : ∀ q zs, H o ≠ some (.frz q (.tup zs)) := fun q zs e => by rw [ho] at e; cases e
      refine ⟨_, rfl, p, xs, rs, rfl, .inr (hp.but b1 noT noTF).sq, trH.but b1 noT, fun ys ps l1 pm srt ts n1 => ⟨l1, ys, rfl, SqL.of upd_same, fun pa oq npa hoq => ?_⟩⟩
      have s2a : Same J1 (upd (upd J1 l1 (.lst ys)) pa (.frz oq (.tup ys))) := (same_put n1).trans (same_put npa)
      have pa2 : (upd (upd J1 l1 (.lst ys)) pa (.frz oq (.tup ys))) pa = some (.frz oq (.tup ys)) := upd_same
      have ts2 := ts.same (s2a)
      revert s2a pa2 ts2
      generalize upd (upd J1 l1 (.lst ys)) pa (.frz oq (.tup ys)) = J2
      intro s2a pa2 ts2
      have o2 := s2a _ _ o1
      have pao : pa ≠ o := fun z => by rw [z, o2] at pa2; cases pa2
      have noT2 : ∀ zs, J2 o ≠ some (.tup zs) := fun zs e => by rw [o2] at e; cases e
      refine ⟨_, rfl, o, C, dx, _, rfl, o2, X.cl, X.nA, (by show 1 < 1000; decide), ?_⟩
      have b3 : But o J2 (upd J2 o (.ins C dx (putF "apart" (.ref pa) [("grid", g)]))) := But.put
      have o3 : (upd J2 o (.ins C dx (putF "apart" (.ref pa) [("grid", g)]))) o = some (.ins C dx [("grid", g), ("apart", .ref pa)]) := upd_same
      revert b3 o3
      generalize upd J2 o (.ins C dx (putF "apart" (.ref pa) [("grid", g)])) = J3
      intro b3 o3
      have c3 : But o H J3 := fun c u nc e => b3 _ _ nc (s2a _ _ (b1 _ _ nc e))
      refine ⟨_, rfl, p2, fs, rfl, (hp2.but c3 noT noTF).sq, by omega, fun os' l2 pm2 srt2 n2 => ⟨l2, _, rfl, .inl ⟨SqL.of upd_same, fun pf npf => ?_⟩⟩⟩
      have s4 : Same J3 (upd (upd J3 l2 (.lst (os'.map V.str))) pf (.tup (os'.map V.str))) := (same_put n2).trans (same_put npf)
      have pf4 : (upd (upd J3 l2 (.lst (os'.map V.str))) pf (.tup (os'.map V.str))) pf = some (.tup (os'.map V.str)) := upd_same
      revert s4 pf4
      generalize upd (upd J3 l2 (.lst (os'.map V.str))) pf (.tup (os'.map V.str)) = J4
      intro s4 pf4
      have o4 := s4 _ _ o3
      have pfo : pf ≠ o := fun z => by rw [z, o4] at pf4; cases pf4
      refine ⟨_, rfl, o, C, dx, _, rfl, o4, X.cl, X.nO, (by show 2 < 1000; decide), _, rfl, _, rfl, o, C, dx, _, rfl, upd_same, X.cl, X.nR, (by show 3 < 1000; decide), ?_⟩
      have b5 : But o J4 (upd (upd J4 o (.ins C dx (putF "on_grid" (.ref pf) [("grid", g), ("apart", .ref pa)]))) o (.ins C dx (putF "at_rows" .non (putF "on_grid" (.ref pf) [("grid", g), ("apart", .ref pa)])))) := But.put.trans But.put
      have o5 : (upd (upd J4 o (.ins C dx (putF "on_grid" (.ref pf) [("grid", g), ("apart", .ref pa)]))) o (.ins C dx (putF "at_rows" .non (putF "on_grid" (.ref pf) [("grid", g), ("apart", .ref pa)])))) o = some (.ins C dx [("grid", g), ("apart", .ref pa), ("on_grid", .ref pf), ("at_rows", .non)]) := upd_same
      revert b5 o5
      generalize upd (upd J4 o (.ins C dx (putF "on_grid" (.ref pf) [("grid", g), ("apart", .ref pa)]))) o (.ins C dx (putF "at_rows" .non (putF "on_grid" (.ref pf) [("grid", g), ("apart", .ref pa)]))) = J5
      intro b5 o5
      have c5 : But o H J5 := fun c u nc e => b5 _ _ nc (s4 _ _ (c3 _ _ nc e))
      have gJ : NetIs J5 g (some n) := by
        cases hg with
        | non => exact .non
        | net e a1 a2 a3 a4 => exact .net (c5 _ _ (fun z => by rw [z, ho] at e; cases e) e) a1 a2 a3 a4
      have paJ := b5 _ _ pao (s4 _ _ (b3 _ _ pao pa2))
      have tsJ : TupsAt plcV J5 ys ps := ((ts2.but b3 noT2).same s4).but b5 (fun zs e => by rw [o4] at e; cases e)
      have pfJ := b5 _ _ pfo pf4
      have sok : SetOk n ps os' .non := by
        refine ⟨fun q hq => ?_, by rw [pm.length_eq]; omega, by rw [pm2.length_eq]; omega, fun r hr => prH r (pm.mem_iff.mp hr), fun z hz => fsN z (pm2.mem_iff.mp hz), .inl rfl⟩
        subst hq
        cases hg with
        | net e a1 a2 a3 a4 => exact ⟨by show (0 : Int) ≤ _; omega, a2, a3, by show (_ : Int) ≤ 60; omega⟩
      refine ⟨_, rfl, o, _, n, ps, os', .non, rfl, ⟨dx, g, pa, pf, ys, oq, o5, rfl, rfl, rfl, rfl, gJ, paJ, tsJ, pfJ, hoq⟩, sok, fun J6 s6 => ?_⟩
      refine ⟨_, rfl, o, C, dx, _, rfl, s6 _ _ o5, X.cl, X.nT, (by show 4 < 1000; decide), ?_⟩
      have o6 := s6 _ _ o5
      have nT : ∀ zs, J6 o ≠ some (.tup zs) := fun zs e => by rw [o6] at e; cases e
      have b7 : But o J6 (upd J6 o (.ins C dx (putF "text" (.str (linesOf (setParts n ps os' .non))) [("grid", g), ("apart", .ref pa), ("on_grid", .ref pf), ("at_rows", .non)]))) := But.put
      have o7 : (upd J6 o (.ins C dx (putF "text" (.str (linesOf (setParts n ps os' .non))) [("grid", g), ("apart", .ref pa), ("on_grid", .ref pf), ("at_rows", .non)]))) o = some (.ins C dx [("grid", g), ("apart", .ref pa), ("on_grid", .ref pf), ("at_rows", .non), ("text", .str (linesOf (setParts n ps os' .non)))]) := upd_same
      refine okk ps os' _ pm srt pm2 srt2 ⟨_, ⟨dx, g, pa, pf, ys, oq, o7, rfl, rfl, rfl, rfl, ?_, b7 _ _ pao (s6 _ _ paJ), (tsJ.same s6).but b7 nT, b7 _ _ pfo (s6 _ _ pfJ), hoq⟩, rfl, no_item1, no_item2⟩ (fun c u nc e => b7 _ _ nc (s6 _ _ (c5 _ _ nc e)))
      cases gJ with
      | non => exact .non
      | net e a1 a2 a3 a4 => exact .net (b7 _ _ (fun z => by rw [z, o5] at e; cases e) (s6 _ _ e)) a1 a2 a3 a4
    · refine ⟨_, rfl, _, rfl, ?_⟩
      have nn : (!decide (a = V.non)) = true := by rw [decide_eq_false hn]; rfl
      rw [nn]
      by_cases nm : nameV a = true
      · refine ⟨_, rfl, a, rfl, (ca.kin s12.kin), fun nm H3 s3 => ?_, fun nf => absurd nm (by rw [nf]; decide)⟩
        have s13 := s12.trans s3
        have okk := ok (.inr nm)
        have hoX := s13 _ _ ho
        have trH := (pairs_tups (H := H) (by rw [← ar.1]; exact L)).1
        have prH := (pairs_tups (H := H) (by rw [← ar.1]; exact L)).2
        have fsE : xs2 = fs.map V.str := feeds_strs (H := H) (by rw [← af.1]; exact L2)
        have fsN := feeds_names (H := H) (by rw [← af.1]; exact L2)
        have lf : fs.length ≤ 40 := by have := ln2; rw [af.1, List.length_map] at this; exact this
        have lr : rs.length ≤ 40 := by have := ln; rw [ar.1, List.length_map] at this; exact this
        subst fsE
        have hu : Room 1 (A.deeper (PyProof.Rows.envOfC "Setting.__init__" (defScope sSInit) s.heap.objs.size f cdv)) := hr.mono (by decide)
        refine ⟨_, rfl, _, rfl, o, C, dx, [], rfl, hoX, X.cl, X.nG, by decide, ?_⟩
        have b1 : But o H (upd H3 o (.ins C dx (putF "grid" g []))) := fun c u nc e => by rw [upd_ne nc]; exact s13 _ _ e
        have o1 : (upd H3 o (.ins C dx (putF "grid" g []))) o = some (.ins C dx [("grid", g)]) := upd_same
        revert b1 o1
        generalize upd H3 o (.ins C dx (putF "grid" g [])) = J1
        intro b1 o1
        have noT : ∀ zs, H o ≠ some (.tup zs) := fun zs e => by rw [ho] at e; cases e
        have noTF : ∀ q zs, H o ≠ some (.frz q (.tup zs)) := fun q zs e => by rw [ho] at e; cases e
        refine ⟨_, rfl, p, xs, rs, rfl, .inr (hp.but b1 noT noTF).sq, trH.but b1 noT, fun ys ps l1 pm srt ts n1 => ⟨l1, ys, rfl, SqL.of upd_same, fun pa oq npa hoq => ?_⟩⟩
        have s2a : Same J1 (upd (upd J1 l1 (.lst ys)) pa (.frz oq (.tup ys))) := (same_put n1).trans (same_put npa)
        have pa2 : (upd (upd J1 l1 (.lst ys)) pa (.frz oq (.tup ys))) pa = some (.frz oq (.tup ys)) := upd_same
        have ts2 := ts.same (s2a)
        revert s2a pa2 ts2
        generalize upd (upd J1 l1 (.lst ys)) pa (.frz oq (.tup ys)) = J2
        intro s2a pa2 ts2
        have o2 := s2a _ _ o1
        have pao : pa ≠ o := fun z => by rw [z, o2] at pa2; cases pa2
        have noT2 : ∀ zs, J2 o ≠ some (.tup zs) := fun zs e => by rw [o2] at e; cases e
        refine ⟨_, rfl, o, C, dx, _, rfl, o2, X.cl, X.nA, (by show 1 < 1000; decide), ?_⟩
        have b3 : But o J2 (upd J2 o (.ins C dx (putF "apart" (.ref pa) [("grid", g)]))) := But.put
        have o3 : (upd J2 o (.ins C dx (putF "apart" (.ref pa) [("grid", g)]))) o = some (.ins C dx [("grid", g), ("apart", .ref pa)]) := upd_same
        revert b3 o3
        generalize upd J2 o (.ins C dx (putF "apart" (.ref pa) [("grid", g)])) = J3
        intro b3 o3
        have c3 : But o H J3 := fun c u nc e => b3 _ _ nc (s2a _ _ (b1 _ _ nc e))
        refine ⟨_, rfl, p2, fs, rfl, (hp2.but c3 noT noTF).sq, by omega, fun os' l2 pm2 srt2 n2 => ⟨l2, _, rfl, .inl ⟨SqL.of upd_same, fun pf npf => ?_⟩⟩⟩
        have s4 : Same J3 (upd (upd J3 l2 (.lst (os'.map V.str))) pf (.tup (os'.map V.str))) := (same_put n2).trans (same_put npf)
        have pf4 : (upd (upd J3 l2 (.lst (os'.map V.str))) pf (.tup (os'.map V.str))) pf = some (.tup (os'.map V.str)) := upd_same
        revert s4 pf4
        generalize upd (upd J3 l2 (.lst (os'.map V.str))) pf (.tup (os'.map V.str)) = J4
        intro s4 pf4
        have o4 := s4 _ _ o3
        have pfo : pf ≠ o := fun z => by rw [z, o4] at pf4; cases pf4
        refine ⟨_, rfl, o, C, dx, _, rfl, o4, X.cl, X.nO, (by show 2 < 1000; decide), _, rfl, _, rfl, o, C, dx, _, rfl, upd_same, X.cl, X.nR, (by show 3 < 1000; decide), ?_⟩
        have b5 : But o J4 (upd (upd J4 o (.ins C dx (putF "on_grid" (.ref pf) [("grid", g), ("apart", .ref pa)]))) o (.ins C dx (putF "at_rows" a (putF "on_grid" (.ref pf) [("grid", g), ("apart", .ref pa)])))) := But.put.trans But.put
        have o5 : (upd (upd J4 o (.ins C dx (putF "on_grid" (.ref pf) [("grid", g), ("apart", .ref pa)]))) o (.ins C dx (putF "at_rows" a (putF "on_grid" (.ref pf) [("grid", g), ("apart", .ref pa)])))) o = some (.ins C dx [("grid", g), ("apart", .ref pa), ("on_grid", .ref pf), ("at_rows", a)]) := upd_same
        revert b5 o5
        generalize upd (upd J4 o (.ins C dx (putF "on_grid" (.ref pf) [("grid", g), ("apart", .ref pa)]))) o (.ins C dx (putF "at_rows" a (putF "on_grid" (.ref pf) [("grid", g), ("apart", .ref pa)]))) = J5
        intro b5 o5
        have c5 : But o H J5 := fun c u nc e => b5 _ _ nc (s4 _ _ (c3 _ _ nc e))
        have gJ : NetIs J5 g (some n) := by
          cases hg with
          | non => exact .non
          | net e a1 a2 a3 a4 => exact .net (c5 _ _ (fun z => by rw [z, ho] at e; cases e) e) a1 a2 a3 a4
        have paJ := b5 _ _ pao (s4 _ _ (b3 _ _ pao pa2))
        have tsJ : TupsAt plcV J5 ys ps := ((ts2.but b3 noT2).same s4).but b5 (fun zs e => by rw [o4] at e; cases e)
        have pfJ := b5 _ _ pfo pf4
        have sok : SetOk n ps os' a := by
          refine ⟨fun q hq => ?_, by rw [pm.length_eq]; omega, by rw [pm2.length_eq]; omega, fun r hr => prH r (pm.mem_iff.mp hr), fun z hz => fsN z (pm2.mem_iff.mp hz), .inr (nameV_str nm)⟩
          subst hq
          cases hg with
          | net e a1 a2 a3 a4 => exact ⟨by show (0 : Int) ≤ _; omega, a2, a3, by show (_ : Int) ≤ 60; omega⟩
        refine ⟨_, rfl, o, _, n, ps, os', a, rfl, ⟨dx, g, pa, pf, ys, oq, o5, rfl, rfl, rfl, rfl, gJ, paJ, tsJ, pfJ, hoq⟩, sok, fun J6 s6 => ?_⟩
        refine ⟨_, rfl, o, C, dx, _, rfl, s6 _ _ o5, X.cl, X.nT, (by show 4 < 1000; decide), ?_⟩
        have o6 := s6 _ _ o5
        have nT : ∀ zs, J6 o ≠ some (.tup zs) := fun zs e => by rw [o6] at e; cases e
        have b7 : But o J6 (upd J6 o (.ins C dx (putF "text" (.str (linesOf (setParts n ps os' a))) [("grid", g), ("apart", .ref pa), ("on_grid", .ref pf), ("at_rows", a)]))) := But.put
        have o7 : (upd J6 o (.ins C dx (putF "text" (.str (linesOf (setParts n ps os' a))) [("grid", g), ("apart", .ref pa), ("on_grid", .ref pf), ("at_rows", a)]))) o = some (.ins C dx [("grid", g), ("apart", .ref pa), ("on_grid", .ref pf), ("at_rows", a), ("text", .str (linesOf (setParts n ps os' a)))]) := upd_same
        refine okk ps os' _ pm srt pm2 srt2 ⟨_, ⟨dx, g, pa, pf, ys, oq, o7, rfl, rfl, rfl, rfl, ?_, b7 _ _ pao (s6 _ _ paJ), (tsJ.same s6).but b7 nT, b7 _ _ pfo (s6 _ _ pfJ), hoq⟩, rfl, no_item1, no_item2⟩ (fun c u nc e => b7 _ _ nc (s6 _ _ (c5 _ _ nc e)))
        cases gJ with
        | non => exact .non
        | net e a1 a2 a3 a4 => exact .net (b7 _ _ (fun z => by rw [z, o5] at e; cases e) (s6 _ _ e)) a1 a2 a3 a4
      · exact ⟨_, rfl, a, rfl, (ca.kin s12.kin), fun z => absurd z nm, fun nf => e2 ⟨hn, nf⟩ _ s12⟩
end
end K13


namespace K13
open PySem L2 Rng Bag Gd LamX Tr4
section
variable {P : Program} {w : World} {K : PySem.W.Frag} {mg : Str → Option Value} {base : Heap}
abbrev sCkN : Stmt := top 35
theorem scCkN : FnScope ["value"] ["value"] (defScope sCkN) := ⟨rfl, rfl, rfl, by decide +kernel, rfl, by decide +kernel, by decide +kernel⟩
theorem ok_ckname {f fN Ci : Addr} {fd dN : FuncData} (F : Fun K "check_name" "check_name" sCkN f fd) (TI : ErrV K Ci) (mI : mg "InvalidName" = some (.ref Ci)) (FN : Fun K "is_name" "is_name" sName fN dN) (bN : Binds K dN ["value"] []) (mN : mg "is_name" = some (.ref fN)) (GN : FnOk P w K mg base CX0 2 fN dN ["value"] (spIsName K)) :
    FnOk P w K mg base (L2N.CX P w) 3 f fd ["value"] (spChkName Ci) := by
  refine F.okN scCkN (fun vs H Q E h => ?_) (fun cdv A outer s H vs Q E hr h => ?_)
  · obtain ⟨v, rfl, _⟩ := h
    rfl
  · obtain ⟨v, rfl, cv, q1, q2⟩ := h
    refine ⟨_, pss_one (ps_if (pt_not (pt_val (pe_call GN hr rfl mN FN.kp bN .nil pass0 (pa_cons (pv 0) pa_nil)))) (pss_one (ps_raiseV rfl rfl takesN TI hr rfl mI (pa_cons (pv 0) pa_nil))) pss_nil), ?_⟩
    refine ⟨_, rfl, v, nameV v, rfl, cv.isName, fun H' s' => ⟨nameV v, rfl, ?_⟩⟩
    cases hb : nameV v with
    | true => exact iteF (q1 hb H' s')
    | false => exact iteT ⟨_, rfl, v, rfl, fr0_of (fun c u e _ z => nomatch (show some u = none from (s' _ _ e).symm.trans z)), fun d nd => q2 hb d _ (s'.free nd) (s'.trans (same_put nd)) upd_same⟩
end
end K13


namespace K13
open PySem L2 Rng Bag Gd LamX Tr4
section
variable {P : Program} {w : World} {K : PySem.W.Frag} {mg : Str → Option Value} {base : Heap}
def spNet : Sp := fun vs H Q _ => ∃ (p : Addr) (b : Nat), vs = [.ref p] ∧ Src H p b ∧ b ≤ 900000 ∧ ∀ (t : Addr) (i j : Int) (H' : Hp), H' t = some (.tup [.int i, .int j]) → 1 ≤ i → i ≤ 60 → 0 ≤ j → j < i → But p H H' → Src H' p (b + 2) → Q (.ref t) H'
abbrev sNet : Stmt := top 52
theorem scNet : FnScope ["_law_source_here", "_law_step"] ["_law_source_here"] (defScope sNet) := ⟨rfl, rfl, rfl, by decide +kernel, rfl, by decide +kernel, by decide +kernel⟩
theorem ok_net {f fP fO : Addr} {fd dP dO : FuncData} (F : Fun K "_law_net" "_law_net" sNet f fd) (T : Bt mg) (FP : Fun K "_law_pick" "_law_pick" sPick fP dP) (bP : Binds K dP ["_law_source_here", "_law_many"] []) (mP : mg "_law_pick" = some (.ref fP))
    (FO : Fun K "_law_one" "_law_one" sOne fO dO) (bO : Binds K dO ["_law_source_here", "_law_things"] []) (mO : mg "_law_one" = some (.ref fO)) : FnOk P w K mg base CX0 3 f fd ["_law_source_here"] spNet := by
  have GP : FnOk P w K mg base CX0 1 fP dP ["_law_source_here", "_law_many"] spPick := ok_pick FP T
  have GO : FnOk P w K mg base CX0 2 fO dO ["_law_source_here", "_law_things"] (spOne K) := ok_one FO T FP bP mP
  refine F.ok scNet (fun vs H Q E h => ?_) (fun cdv A outer s H vs Q E hr h => ?_)
  · obtain ⟨p, b, rfl, _⟩ := h
    rfl
  · obtain ⟨p, b, rfl, hs, hb, q⟩ := h
    have hr1 : Room 1 _ := hr.mono (by decide)
    refine ⟨_, pss_cons (ps_set (i := 1) scNet.nd rfl (Or.inl rfl) (pe_call GO hr rfl mO FO.kp bO .nil pass0 (pa_cons (pv 0) (pa_cons (pe_lst (pa_cons (pe_int) (pa_cons (pe_int) (pa_cons (pe_int) (pa_cons (pe_int) (pa_cons (pe_int) (pa_cons (pe_int) (pa_cons (pe_int) (pa_cons (pe_int) pa_nil))))))))) pa_nil))))
      (pss_one (ps_ret (pe_tup (pa_cons (pv 1) (pa_cons (pe_call GP hr1 rfl mP FP.kp bP .nil pass0 (pa_cons (pv 0) (pa_cons (pv 1) pa_nil))) pa_nil))))), ?_⟩
    refine ⟨_, rfl, by show 8 ≤ sizeLine; decide, fun l nl => ⟨p, .ref l, b, rfl, hs.same (same_put nl), by omega, .inl ⟨l, _, rfl, hs.ne nl, SqL.of upd_same, by show 0 < 8; decide, by show 8 ≤ 1000; decide, fun y H2 hy B2 S2 => ?_⟩⟩⟩
    have hy' : y ∈ ([1, 2, 3, 4, 5, 7, 10, 60] : List Int).map V.int := hy
    obtain ⟨n, hn, rfl⟩ := List.mem_map.mp hy'
    have n0 : 1 ≤ n ∧ n ≤ 60 := by
      have : ∀ n ∈ ([1, 2, 3, 4, 5, 7, 10, 60] : List Int), 1 ≤ n ∧ n ≤ 60 := by decide
      exact this n hn
    refine ⟨_, rfl, _, rfl, _, rfl, p, n, _, rfl, S2, by omega, by omega, by omega, fun d H3 d0 d1 B3 S3 => ⟨(by show 2 ≤ sizeLine; decide), fun t nt => ?_⟩⟩
    exact q t n d _ upd_same n0.1 n0.2 d0 d1 (((Same.but (same_put nl) p).trans B2).trans (B3.trans (Same.but (same_put nt) p))) (S3.same (same_put nt))
end
end K13


namespace Rng
open PySem L2 Bag Gd LamX
def spBent : Sp := fun vs H Q _ => ∃ (p l : Addr) (b i : Nat) (us : List V) (rs : List Row), vs = [.ref p, .ref l, .int (i : Nat)] ∧ Src H p b ∧ b ≤ 800000 ∧ l ≠ p ∧ H l = some (.lst us) ∧ TupsAt rowV H us rs ∧ (∀ r ∈ rs, isName r.1 = true) ∧ rs.length ≤ 20 ∧ i < rs.length ∧
  ∀ (v : V) (o : Option Row) (H' : Hp), Line H' v o → But p H H' → Src H' p (b + 10) → Q v H'
theorem Src.kinB {H H' : Hp} {p : Addr} {b c : Nat} (h' : Src H' p c) (h : Src H p b) (k : But p H H') : Kin H H' := k.kin (fun u e => by
  obtain ⟨xs, e'⟩ := h.some
  rw [e] at e'
  exact ⟨xs, Option.some.inj e'⟩) fun _ => h'.some
end Rng


namespace Rng
open PySem L2 Bag Gd LamX Tr4
def spInitN (C Ci : Addr) : Sp := fun vs H Q E => ∃ (o t dx : Addr) (xs : List V) (os : List (Option Row)), vs = [.ref o, .ref t] ∧ H o = some (.ins C dx []) ∧ H t = some (.tup xs) ∧ Lines H xs os ∧ os.length ≤ 100 ∧
  (∀ (rs ss : List Row) (fs : List Str) (H' : Hp), AllFine os rs → TabOf rs ss fs → TabAt C H' o ss fs → But o H H' → Q .non H') ∧
  ∀ (k : Nat) (d : Addr) (H' : Hp), BadAt os k → H d = none → Same H H' → H' d = some (exd d [("index", .int k)]) → E (.ref Ci) (some d) H'
/-- the promise of __init__, as the star def keeps it -/
abbrev spStarN (C Ci : Addr) : Sp := fun vs H Q E => ∃ ws rest, vs = ws ++ rest ∧ ws.length = (["self"] : List Str).length ∧ rest.length ≤ sizeLine ∧ ∀ p, H p = Option.none → spInitN C Ci (ws ++ [V.ref p]) (upd H p (.tup rest)) Q E
/-- a table is made, or the index of the first wrong line told -/
def MadeN (C : Addr) (os : List (Option Row)) (H : Hp) (Q : VK) : Prop := ∀ (o : Addr) (rs ss : List Row) (fs : List Str) (H' : Hp), AllFine os rs → TabOf rs ss fs → TabAt C H' o ss fs → H o = none → Same H H' → Q (.ref o) H'
def WrongN (Ci : Addr) (os : List (Option Row)) (H : Hp) (E : XK) : Prop := ∀ (k : Nat) (d : Addr) (H' : Hp), BadAt os k → H d = none → Same H H' → H' d = some (exd d [("index", .int k)]) → E (.ref Ci) (some d) H'
def spOfN (K : PySem.W.Frag) (C Ci : Addr) : Sp := fun vs H Q E => ∃ v : V, vs = [v] ∧
  ((∃ (t : Addr) (xs : List V) (os : List (Option Row)), v = .ref t ∧ H t = some (.tup xs) ∧ Lines H xs os ∧ os.length ≤ 100 ∧ MadeN C os H Q ∧ WrongN Ci os H E) ∨
   ∃ ty, TyX K H v ty ∧ PySem.W.kitOne K ty (.type "tuple") = some false ∧ ∀ (d : Addr) (H' : Hp), H d = none → Same H H' → H' d = some (exd d [("index", .non)]) → E (.ref Ci) (some d) H')
theorem is_there (rs : List Row) (r : Row) (h : plcOf r ∈ rs.map plcOf) : ∃ v, valV (rs.map fun s => (keyOf s, V.int s.2.2)) (keyOf r) = some v := by
  induction rs with
  | nil => cases h
  | cons s rs ih =>
    by_cases e : keyOf s = keyOf r
    · exact ⟨V.int s.2.2, by rw [List.map_cons]; exact valV_pos (p := (keyOf s, V.int s.2.2)) e⟩
    · obtain ⟨v, hv⟩ := ih ((List.mem_cons.mp h).elim (fun z => absurd (by
        unfold keyOf
        have z1 : r.1 = s.1 := congrArg (fun q : Plc => q.1) z
        have z2 : r.2.1 = s.2.1 := congrArg (fun q : Plc => q.2) z
        rw [z1, z2]) e) id)
      exact ⟨v, by rw [List.map_cons, valV_neg e]; exact hv⟩
theorem init_go {C Ci x dx : Addr} {H : Hp} {xs : List V} {os : List (Option Row)} {Q : VK} {E : XK} (L : Lines H xs os) (ln : os.length ≤ 100) (nx : H x = none) (nd : H dx = none) (ne : dx ≠ x)
    (qa : ∀ (rs ss : List Row) (fs : List Str) (H' : Hp), AllFine os rs → TabOf rs ss fs → TabAt C H' x ss fs → Same H H' → Q .non H') (qe : WrongN Ci os H E) : spStarN C Ci (V.ref x :: xs) (upd (upd H dx (.own x)) x (.ins C dx [])) Q E := by
  refine ⟨[V.ref x], xs, rfl, rfl, ?_, fun p np => ?_⟩
  · rw [L.len, sizeLine_eq]
    omega
  have s1 : Same H (upd (upd H dx (.own x)) x (.ins C dx [])) := fun a o e => by rw [upd_ne (ne_of_none e nx), upd_ne (ne_of_none e nd)]; exact e
  have s2 := s1.trans (same_put (o := .tup xs) np)
  have npx : x ≠ p := fun z => by rw [← z, upd_same] at np; cases np
  refine ⟨x, p, dx, xs, os, rfl, by rw [upd_ne npx]; exact upd_same, upd_same, L.kin s2.kin, ln, fun rs ss fs H' A T at_ b => qa rs ss fs H' A T at_ fun a o e => b a o (fun z => by rw [z, nx] at e; cases e) (s2 a o e), fun k d H' bd hd s3 e => qe k d H' bd (s2.free hd) (s2.trans s3) e⟩
theorem init_at {C Ci x dx : Addr} {H : Hp} {xs : List V} {os : List (Option Row)} {Q : VK} {E : XK} (L : Lines H xs os) (ln : os.length ≤ 100) (nx : H x = none) (nd : H dx = none) (ne : dx ≠ x) (qa : MadeN C os H Q) (qe : WrongN Ci os H E) :
    spStarN C Ci (V.ref x :: xs) (upd (upd H dx (.own x)) x (.ins C dx [])) (fun v H2 => v = .non ∧ Q (.ref x) H2) E := init_go L ln nx nd ne (fun rs ss fs H' A T at_ s => ⟨rfl, qa x rs ss fs H' A T at_ nx s⟩) qe
end Rng


namespace L2
open PySem PySem.Spec PyProof.Rows
/-! ### xs.count(True) of truth values -/
def xvEqT (v : Value) : Bool := match v with
  | .bool b => b
  | _ => false
theorem xv_bools : ∀ {bs : List Bool} {us : List Value}, Vals (bs.map V.bl) us → us = bs.map Value.bool
  | [], us, r => by
    cases r
    rfl
  | b :: bs, us, r => by
    cases r with
    | cons h t =>
      cases (show _ = Value.bool b from h)
      rw [xv_bools t]
      rfl
theorem xv_count : ∀ bs : List Bool, (bs.map Value.bool).countP xvEqT = bs.count true
  | [] => rfl
  | b :: bs => by
    rw [List.map_cons, List.countP_cons, List.count_cons, xv_count bs]
    cases b <;> rfl
section
variable {X : Cx}
def rCntB (K : PySem.W.Frag) : V → List V → Hp → VK → Prop := fun x xs H Q => ∃ (p : Addr) (bs : List Bool), x = .ref p ∧ xs = [.bl true] ∧ SqL K H p (bs.map V.bl) ∧ Q (.int (bs.count true : Nat)) H
theorem mt_lcountB : MtR X "list.count" (rCntB X.K) := by
  intro pins s σ H x xs v us Q I rx rxs h
  obtain ⟨p, bs, rfl, rfl, hs, q⟩ := h
  cases rx
  obtain ⟨u, rfl, ru⟩ := rxs.one
  cases (show u = Value.bool true from ru)
  obtain ⟨its, rv, ⟨⟨cls, dd, data, sl⟩, n, ho, hc, hdn, hd⟩, hlen⟩ := I.list hs
  simp only at hc hd
  subst hc hd
  have hi := xv_bools rv
  refine call_meets PySem.F.slot_list_count ⟨_, ho, rfl⟩ PySem.F.entry_list_count (PySem.F.args_list_count_2 _ _)
    (SeqAt.list_countAt p its.toArray n dd sl (.bool true) xvEqT) ⟨ho, fun y hy => ?_, ?_⟩
  · have hy' : y ∈ its := by simpa using hy
    rw [hi] at hy'
    obtain ⟨b, _, rfl⟩ := List.mem_map.mp hy'
    have z := SeqAt.EqAt.bool_bool (A := X.A.in1) (s := s) b true
    have e : (b == true) = xvEqT (.bool b) := by cases b <;> rfl
    rw [← e]
    exact z
  · have ec : its.toArray.toList.countP xvEqT = bs.count true := by
      show its.countP xvEqT = bs.count true
      rw [hi, xv_count]
    refine ⟨.int (bs.count true : Nat), H, I.tok _, ⟨s.toks, ?_⟩, q⟩
    show Value.int ((its.toArray.toList.countP xvEqT : Nat) : Int) s.toks = Value.int ((bs.count true : Nat) : Int) s.toks
    rw [ec]
end
/-! ### the things that an error is made with -/
inductive Thing (H : Hp) : V → Prop
  | int (i : Int) : Thing H (.int i)
  | str (x : Str) : Thing H (.str x)
  | non : Thing H .non
  | bl (b : Bool) : Thing H (.bl b)
  | tup (a : Addr) (i j : Int) : H a = some (.tup [.int i, .int j]) → Thing H (.ref a)
  | lst (a : Addr) (i : Int) : H a = some (.lst [.int i]) → Thing H (.ref a)
  | dic (a : Addr) : H a = some (.dK []) → Thing H (.ref a)
theorem Thing.same {H H' : Hp} {v : V} (h : Thing H v) (q : Same H H') : Thing H' v := by
  cases h with
  | int i => exact .int i
  | str x => exact .str x
  | non => exact .non
  | bl b => exact .bl b
  | tup a i j e => exact .tup a i j (q _ _ e)
  | lst a i e => exact .lst a i (q _ _ e)
  | dic a e => exact .dic a (q _ _ e)
/-- whether it is a truth -/
def isB : V → Bool
  | .bl _ => true
  | _ => false
theorem Thing.ty {K : PySem.W.Frag} {H : Hp} {v : V} (h : Thing H v) : ∃ t, TyX K H v t ∧ PySem.W.kitOne K t (.type "bool") = some (isB v) := by
  cases h with
  | int i => exact ⟨_, .base (.int i), kit_ty (show kitB "int" "bool" = some false by decide +kernel)⟩
  | str x => exact ⟨_, .base (.str x), kit_ty (show kitB "str" "bool" = some false by decide +kernel)⟩
  | non => exact ⟨_, .base .non, kit_ty (show kitB "NoneType" "bool" = some false by decide +kernel)⟩
  | bl b => exact ⟨_, .base (.bl b), kit_ty (show kitB "bool" "bool" = some true by decide +kernel)⟩
  | tup a i j e => exact ⟨_, .base (.tup e), kit_ty (show kitB "tuple" "bool" = some false by decide +kernel)⟩
  | lst a i e => exact ⟨_, .base (.lst e), kit_ty (show kitB "list" "bool" = some false by decide +kernel)⟩
  | dic a e => exact ⟨_, .base (.dK e), kit_ty (show kitB "dict" "bool" = some false by decide +kernel)⟩
section
variable {X : Cx}
def rSelf : R2 := fun x y H Q => y = x ∧ Thing H x ∧ Q (.bl true) H
theorem op_eqSelf (hu : X.A.units + 64 < cLine) : OpR X (compareOp .Eq) rSelf := by
  intro pins s σ H x y v u Q I rx ry h
  obtain ⟨rfl, hT, q⟩ := h
  have flat : scal y y = true → wpAny (model X.prog X.w) X.A (compareOp .Eq v u) (EP X pins σ Q) X.xe s := fun hs =>
    op_eq pins s σ H y y v u Q I rx ry ⟨hs, by rw [decide_eq_true rfl]; exact q⟩
  cases hT with
  | int i => exact flat rfl
  | str x => exact flat rfl
  | non => exact flat rfl
  | bl b => exact flat rfl
  | tup a i j e =>
    refine op_eqD hu pins s σ H _ _ v u Q I rx ry ⟨.tuple [.int i, .int j], .tuple [.int i, .int j], .tup (SqT.of e) (.cons (.int i) (.cons (.int j) .nil)), .tup (SqT.of e) (.cons (.int i) (.cons (.int j) .nil)), rfl, rfl, ?_⟩
    rw [show PyData.eqv (.tuple [.int i, .int j]) (.tuple [.int i, .int j]) = true by simp [PyData.eqv, PyData.eqvAll]]
    exact q
  | lst a i e =>
    refine op_eqD hu pins s σ H _ _ v u Q I rx ry ⟨.list [.int i], .list [.int i], .lst (SqL.of e) (.cons (.int i) .nil), .lst (SqL.of e) (.cons (.int i) .nil), rfl, rfl, ?_⟩
    rw [show PyData.eqv (.list [.int i]) (.list [.int i]) = true by simp [PyData.eqv, PyData.eqvAll]]
    exact q
  | dic a e =>
    exact op_eq_dict (by omega) pins s σ H _ _ v u Q I rx ry ⟨a, a, [], rfl, rfl, e, e, List.nodup_nil, (fun p hp => nomatch hp), q⟩
end
/-! ### growing a list by a display -/
theorem grow_k {H : Hp} {p : Addr} {xs ys : List V} {Q : VK} (hp : H p = some (.lst xs)) (h1 : xs.length ≤ 1000) (h2 : ys.length ≤ 1000) (q : ∀ H2 r, Same H H2 → H r = none → H2 r = some (.lst (xs ++ ys)) → Q (.ref r) H2) :
    ys.length ≤ sizeLine ∧ ∀ l, H l = none → rCat (.ref p) (.ref l) (upd H l (.lst ys)) Q := by
  refine ⟨Nat.le_of_lt (small1000 h2), fun l hl => ?_⟩
  have npl : p ≠ l := ne_of_none hp hl
  refine ⟨p, l, xs, ys, rfl, rfl, by rw [upd_ne npl]; exact hp, upd_same, ?_, fun r hr => ?_⟩
  · have z : 2000 ≤ sizeLine := by decide
    omega
  · have nrl : r ≠ l := fun z => by
      rw [z, upd_same] at hr
      cases hr
    have hr0 : H r = none := by
      rw [upd_ne nrl] at hr
      exact hr
    refine q _ r (fun b o e => ?_) hr0 upd_same
    rw [upd_ne (ne_of_none e hr0), upd_ne (ne_of_none e hl)]
    exact e
/-- a new exception: what stood stands, the exception is there -/
theorem exv_k {C : Addr} {f : Str} {σ : St} {H : Hp} {Q : VK} {v : V} {i : Nat} (hσ : σ[i]? = some (some v)) (q : ∀ H2 a d, Same H H2 → H a = none → H2 a = some (exo a C (some d)) → H2 d = some (exd d [(f, v)]) → Q (.ref a) H2) : tExV C f (tCons (tVar i) tNil) σ H Q := by
  refine ⟨v, hσ, v, rfl, fun a d ha hd hda => ?_⟩
  refine q _ a d (fun b o e => ?_) ha upd_same ?_
  · rw [upd_ne (ne_of_none e ha), upd_ne (ne_of_none e hd)]
    exact e
  · rw [upd_ne hda, upd_same]
theorem exv0_k {C : Addr} {H : Hp} {Q : VK} (q : ∀ H2 a, Same H H2 → H a = none → H2 a = some (exo a C none) → Q (.ref a) H2) : ∀ a, H a = none → Q (.ref a) (upd H a (exo a C none)) := fun a ha =>
  q _ a (fun b o e => by rw [upd_ne (ne_of_none e ha)]; exact e) ha upd_same
end L2


/-! repr of data, or of an empty dict -/
namespace Gd
open PySem PySem.Spec PyProof.Rows L2
/-- what repr tells of a value: data, or the empty dict -/
def Shows (K : PySem.W.Frag) (H : Hp) (v : V) (t : Str) : Prop := (∃ d : PyData, (∀ H', Same H H' → Dp K H' v d) ∧ Fits 80000 40 d ∧ t = d.shown) ∨ ∃ a, v = .ref a ∧ H a = some (.dK []) ∧ t = "{}"
theorem Shows.same {K : PySem.W.Frag} {H H' : Hp} {v : V} {t : Str} (h : Shows K H v t) (s : Same H H') : Shows K H' v t := by
  rcases h with ⟨d, a, b, c⟩ | ⟨a, e, b, c⟩
  · exact .inl ⟨d, fun G g => a G (s.trans g), b, c⟩
  · exact .inr ⟨a, e, s _ _ b, c⟩
def rShows (K : PySem.W.Frag) : List V → Hp → VK → Prop := fun vs H Q => ∃ (v : V) (t : Str), vs = [v] ∧ Shows K H v t ∧ Q (.str t) H
theorem cr_shows {X : Cx} (hq : X.A.guards = some []) (hu : X.A.units + 64 < cLine) : CallR X (.builtin "repr") (rShows X.K) := by
  intro pins s σ H vs us Q I r h
  obtain ⟨v, t, rfl, sh, q⟩ := h
  rcases sh with ⟨d, a, b, rfl⟩ | ⟨a, rfl, ha, rfl⟩
  · exact cr_repr hq hu pins s σ H _ us Q I r ⟨v, d, rfl, a H (fun _ _ e => e), b, q⟩
  · obtain ⟨u, rfl, ru⟩ := vals1 r
    obtain rfl : u = Value.ref a := ru
    obtain ⟨z, lo, vs, rel, o, es, ep, ho, hx, hd, hc⟩ := dk_of I.hok ha
    have hn : vs = [] := by
      have := rel.length
      exact List.length_eq_zero_iff.mp this.symm
    have he : es.toList = [] := by
      have := hc.2.1
      rw [hn] at this
      simpa using this.length
    have rd : Reads s.heap (.ref a) (.dict []) (a :: [] ++ []) := .dict ho hx.1 hd (by rw [he]; exact .nil) (by rw [he]; exact .nil)
    have es2 : PyData.shown (.dict []) = "{}" := by decide +kernel
    refine repr_of_reads' rd (by decide +kernel) (fun _ m => ?_) hq (Nat.lt_of_le_of_lt (Nat.add_le_add_left (by decide +kernel : PyData.depth (.dict []) + 1 ≤ 64) _) hu) (fun _ _ e => e) (fun h' u tk k => ?_) (by rw [es2]; decide)
    · simp only [List.cons_append, List.nil_append, List.append_nil, List.mem_singleton, List.mem_cons, List.not_mem_nil, or_false] at m
      rw [← m] at lo
      simp at lo
    · rw [es2]
      exact ⟨.str "{}", H, I.kept k, ⟨u, rfl⟩, q⟩
end Gd


namespace Tr4
open PySem PySem.Spec PyProof.Rows L2 LamX Gd Rng Bag
def top2 (i : Nat) : Stmt := PySem.Challenge.pw_latestrows_k13_settings_made.main.body.getD i (.Pass ⟨0, 0, 0, 0⟩)
abbrev sCaught : Stmt := top2 55
abbrev sField : Stmt := top2 56
def cnm (i : Nat) : Str := (["InvalidName", "InvalidTime", "InvalidNumber", "InvalidWithin", "InvalidStrict", "InvalidText", "InvalidGrid", "NotATime", "NotALook", "NotAReader", "NotATable", "MissingRow", "NoSuchPart", "InvalidRows", "InvalidApart", "InvalidFeeds", "TooMany", "NoGrid"] : List Str).getD i ""
def cw (i : Nat) : Str := (["name", "moment", "number", "within", "strict", "text", "grid", "time", "look", "reader", "table", "row", "part", "rows", "apart", "feeds", "many", "net"] : List Str).getD i ""
def cb (i : Nat) : Nat := ([0, 0, 0, 0, 0, 0, 0, 0, 0, 0, 0, 1, 1, 0, 0, 0, 3, 2] : List Nat).getD i 0
def cnB (j : Nat) : Str := (["LatestError", "StateError", "RuleError", "LimitError"] : List Str).getD j ""
def ctn (j : Nat) : String := (["ValueError", "LookupError", "RuntimeError", "ArithmeticError"] : List String).getD j ""
def cf (i : Nat) : Str := if i = 13 ∨ i = 14 ∨ i = 15 then "index" else if i = 16 then "limit" else "value"
structure CTxt (K : PySem.W.Frag) (mg : Str → Option Value) (Cs Bs : Nat → Addr) : Prop where
  g : ∀ i, i < 18 → mg (cnm i) = some (.ref (Cs i))
  gB : ∀ j, j < 4 → mg (cnB j) = some (.ref (Bs j))
  ec : ∀ i, i < 18 → ExcC K (Cs i)
  kit : ∀ i, i < 18 → ∀ j, j < 18 → PySem.W.kitOne K (.ref (Cs i)) (.ref (Cs j)) = some (decide (i = j))
  kitB : ∀ i, i < 18 → ∀ j, j < 4 → PySem.W.kitOne K (.ref (Cs i)) (.ref (Bs j)) = some (decide (cb i = j))
  kitT : ∀ i, i < 18 → ∀ j, j < 4 → PySem.W.kitOne K (.ref (Cs i)) (.type (ctn j)) = some (decide (cb i = j))
  exm : ∀ i, i < 18 → PySem.W.exmAny K (.ref (Cs i)) [.ref (Bs 0), .ref (Bs 1), .ref (Bs 2), .ref (Bs 3)] = some true
  no : ∀ i, i < 17 → PySem.W.findIn K (.ref (Cs i)) (cf i) = some none
  iN : mg "isinstance" = none
  n0 : mg "ValueError" = none
  n1 : mg "LookupError" = none
  n2 : mg "RuntimeError" = none
  n3 : mg "ArithmeticError" = none
  nList : mg "list" = none
  nRange : mg "range" = none
  nRepr : mg "repr" = none
/-- the fields of the exception with the number i that holds v -/
def fldsOf (i : Nat) (v : V) : List (Str × V) := if i = 17 then [] else [(cf i, v)]
def spField (Cs : Nat → Addr) : Sp := fun vs H Q _ => ∃ (a : Addr) (i : Nat) (v : V), vs = [.ref a, .int (i : Nat)] ∧ i < 18 ∧ Caught H a (Cs i) (fldsOf i v) ∧ (i = 17 → v = .non) ∧ ∀ H', Same H H' → Q v H'
section
variable {P : Program} {w : World} {K : PySem.W.Frag} {mg : Str → Option Value} {base : Heap} {Cs Bs : Nat → Addr}
theorem scF : FnScope ["_law_e", "_law_at"] ["_law_e", "_law_at"] (defScope sField) := ⟨rfl, rfl, rfl, by decide +kernel, rfl, by decide +kernel, by decide +kernel⟩
theorem in_three {i : Nat} (h : i < 18) : inV (.int (i : Nat)) [.int 13, .int 14, .int 15] = decide (i = 13 ∨ i = 14 ∨ i = 15) := by
  revert h
  revert i
  decide
theorem look1 (f : Str) (v : V) : List.lookup f [(f, v)] = some v := by simp [List.lookup]
theorem ok_field {f : Addr} {fd : FuncData} (F : Fun K "_law_field" "_law_field" sField f fd) (T : CTxt K mg Cs Bs) : FnQ P w K mg base 1 f fd ["_law_e", "_law_at"] (spField Cs) := by
  refine F.okQ scF (fun vs H Q E h => ?_) (fun cdv B a outer s H vs Q E gq hr h => ?_)
  · obtain ⟨a, i, v, rfl, _⟩ := h
    rfl
  · obtain ⟨x, i, v, rfl, hi, cg, h17, q⟩ := h
    refine ⟨_, pss_cons (ps_if (pt_cmpR op_in_seq (pv 1) (pe_lst (pa_cons (pe_int) (pa_cons (pe_int) (pa_cons (pe_int) pa_nil)))) (by rfl)) (pss_one (ps_ret (pe_qf (pv 0)))) pss_nil)
      (pss_cons (ps_if (pt_cmpR op_gt (pv 1) pe_int (nomark _)) (pss_one (ps_ret (pe_ifExp (pt_cmpR op_eq (pv 1) pe_int (nomark _)) (pe_qf (pv 0)) pe_non))) pss_nil)
      (pss_one (ps_ret (pe_qf (pv 0))))), ?_⟩
    refine ⟨_, rfl, (by show 3 ≤ sizeLine; decide), fun l nl => ?_⟩
    have s1 := same_put (o := .lst [.int 13, .int 14, .int 15]) nl
    have cg1 := cg.same s1
    refine ⟨l, _, rfl, .inl (SqL.of upd_same), rfl, rfl, ?_⟩
    have e3 := in_three hi
    refine ⟨_, rfl, ite2 (fun c => ?_) (fun c => ?_)⟩
    · have c1 : i = 13 ∨ i = 14 ∨ i = 15 := by simpa only [Bool.false_eq_true, if_false, e3, decide_eq_true_eq] using c
      have cc : cf i = "index" := if_pos c1
      refine ⟨_, rfl, x, Cs i, _, v, rfl, cg1, T.ec i hi, cc ▸ T.no i (by omega), ?_, q _ s1⟩
      unfold fldsOf
      rw [if_neg (by omega), cc]
      exact look1 _ _
    · have c1 : ¬(i = 13 ∨ i = 14 ∨ i = 15) := by simpa only [Bool.false_eq_true, if_false, e3, decide_eq_true_eq] using c
      refine ⟨_, rfl, _, _, rfl, rfl, _, rfl, ite2 (fun d => ?_) (fun d => ?_)⟩
      · have d1 : 15 < i := by
          have := of_decide_eq_true d
          omega
        by_cases h6 : i = 16
        · have cc : cf i = "limit" := by unfold cf; rw [if_neg c1, if_pos h6]
          subst h6
          refine ⟨_, rfl, rfl, _, rfl, ite2 (fun _ => ⟨_, rfl, x, Cs 16, _, v, rfl, cg1, T.ec 16 hi, cc ▸ T.no 16 (by omega), ?_, q _ s1⟩) (fun n => absurd (decide_eq_true rfl) n)⟩
          unfold fldsOf
          rw [if_neg (by omega), cc]
          exact look1 _ _
        · have h7 : i = 17 := by omega
          subst h7
          refine ⟨_, rfl, rfl, _, rfl, ite2 (fun n => ?_) (fun _ => ?_)⟩
          · have := V.int.inj (of_decide_eq_true n)
            omega
          · have := q _ s1
            rw [h17 rfl] at this
            exact this
      · have d1 : i ≤ 15 := by
          have := of_decide_eq_false (Bool.eq_false_iff.mpr d)
          omega
        have cc : cf i = "value" := by unfold cf; rw [if_neg c1, if_neg (by omega)]
        refine ⟨_, rfl, x, Cs i, _, v, rfl, cg1, T.ec i hi, cc ▸ T.no i (by omega), ?_, q _ s1⟩
        unfold fldsOf
        rw [if_neg (by omega), cc]
        exact look1 _ _
end
end Tr4


namespace Tr4
open PySem PySem.Spec PyProof.Rows L2 LamX Gd Rng Bag

def FldAt (H : Hp) (d : Option Addr) (i : Nat) (v : V) : Prop := (i = 17 ∧ d = none ∧ v = .non) ∨ (i ≠ 17 ∧ ∃ dd, d = some dd ∧ H dd = some (exd dd [(cf i, v)]))
/-- what is told of a lambda's call -/
def TCt (K : PySem.W.Frag) (Cs : Nat → Addr) : (XK → Hp → VK → Prop) → Hp → VK → Prop := fun rd H Q =>
  rd (fun cls d H' => ∃ (i : Nat) (v : V) (x : Str), i < 18 ∧ cls = .ref (Cs i) ∧ FldAt H' d i v ∧ Shows K H' v x ∧ ∀ (D : Addr) (G : Hp), Same H' G → H' D = none → G D = some (.lst [.str (cw i), .str x]) → Q (.ref D) G) H
    (fun v H' => ∀ (D : Addr) (G : Hp), Same H' G → H' D = none → G D = some (.lst [.str "given", v]) → Q (.ref D) G)
def kindsQ (i : Nat) : List Bool := (List.range 18).map fun j => decide (i = j)
def basesQ (i : Nat) : List Bool := (List.range 4).map fun j => decide (cb i = j)
def wordsQ : List Str := ["name", "moment", "number", "within", "strict", "text", "grid", "time", "look", "reader", "table", "row", "part", "rows", "apart", "feeds", "many", "net"]
theorem ifT {c : Prop} {A B : Prop} [Decidable c] (hc : c) (h : A) : if decide c = true then A else B := by
  rw [if_pos (decide_eq_true hc)]
  exact h
theorem kindsQ_count {i : Nat} (h : i < 18) : (kindsQ i).count true = 1 := by
  revert i
  decide
theorem kindsQ_at {i : Nat} (h : i < 18) : ((kindsQ i).map PyData.bool)[i]? = some (.bool true) := by
  have k : ∀ i, i < 18 → (kindsQ i)[i]? = some true := by decide
  rw [List.getElem?_map, k i h]
  rfl
theorem kindsQ_first {i : Nat} (h : i < 18) : ∀ (m : Nat) (z : PyData), m < i → ((kindsQ i).map PyData.bool)[m]? = some z → PyData.eqv z (.bool true) = false := by
  intro m z hm e
  have k : ∀ i, i < 18 → ∀ m, m < i → (kindsQ i)[m]? = some false := by decide
  rw [List.getElem?_map, k i h m hm] at e
  cases e
  rfl
theorem boolsQ_data {K : PySem.W.Frag} {H : Hp} : ∀ bs : List Bool, DpAll K H (bs.map V.bl) (bs.map PyData.bool)
  | [] => .nil
  | b :: bs => .cons (.bl b) (boolsQ_data bs)
theorem boolsQ_shaped (bs : List Bool) : SeqAt.shaped (.list (bs.map PyData.bool)) = true ∧ PyData.eqv (.list (bs.map PyData.bool)) (.list (bs.map PyData.bool)) = true := by
  have c : ∀ bs : List Bool, PyData.canLayAll0 (bs.map PyData.bool) = true := fun bs => by
    induction bs with
    | nil => simp [PyData.canLayAll0]
    | cons b bs ih => simp [PyData.canLayAll0, PyData.canLay0, ih]
  have d : ∀ bs : List Bool, PyData.depthAll (bs.map PyData.bool) ≤ 1 := fun bs => by
    induction bs with
    | nil => simp [PyData.depthAll]
    | cons b bs ih => simp [PyData.depthAll, PyData.depth]; omega
  have e : ∀ bs : List Bool, PyData.eqvAll (bs.map PyData.bool) (bs.map PyData.bool) = true := fun bs => by
    induction bs with
    | nil => simp [PyData.eqvAll]
    | cons b bs ih => simp [PyData.eqvAll, PyData.eqv, ih]
  refine ⟨?_, by simpa [PyData.eqv] using e bs⟩
  unfold SeqAt.shaped
  have := d bs
  rw [Bool.and_eq_true, decide_eq_true_eq]
  refine ⟨by simp only [PyData.canLay0]; exact c bs, ?_⟩
  simp only [PyData.depth]
  omega
theorem ifF {b : Bool} {A B : Prop} (hb : b = false) (h : B) : if b = true then A else B := by
  rw [hb, if_neg Bool.false_ne_true]
  exact h
theorem words_at {i : Nat} (h : i < 18) : (wordsQ.map V.str)[i]? = some (.str (cw i)) := by
  have k : ∀ i, i < 18 → wordsQ[i]? = some (cw i) := by decide +kernel
  rw [List.getElem?_map, k i h]
  rfl
theorem flat14 : (rgV 0 11 ++ [V.int 13, V.int 14, V.int 15]).all flatV = true := by decide +kernel
theorem due_is {i : Nat} (h : i < 18) : ([V.bl (if false = true then !inV (.int (i : Nat)) (rgV 0 11 ++ [V.int 13, V.int 14, V.int 15]) else inV (.int (i : Nat)) (rgV 0 11 ++ [V.int 13, V.int 14, V.int 15])), V.bl (if false = true then !inV (.int (i : Nat)) [V.int 11, V.int 12] else inV (.int (i : Nat)) [V.int 11, V.int 12]), V.bl (decide (V.int (i : Nat) = V.int 17)), V.bl (decide (V.int (i : Nat) = V.int 16))] : List V) = (basesQ i).map V.bl := by
  have k : ∀ i, i < 18 → ([(inV (.int (i : Nat)) (rgV 0 11 ++ [V.int 13, V.int 14, V.int 15])), inV (.int (i : Nat)) [V.int 11, V.int 12], decide (V.int (i : Nat) = V.int 17), decide (V.int (i : Nat) = V.int 16)] : List Bool) = basesQ i := by decide +kernel
  have e := congrArg (List.map V.bl) (k i h)
  exact e
def suiteOf (st : Stmt) : List Stmt := match defBody st with
  | .Try _ (.ExceptHandler _ _ b _ :: _) _ _ _ :: _ => b
  | _ => []
theorem takes0N {X : Cx} : L2N.Takes X (fun _ _ _ _ => False) := fun _ _ ⟨_, _, _, _, _, _, _, _, _, _, _, _, _, _, _, _, z⟩ => z.elim
theorem scC : FnScope ["_law_act", "_law_given", "_law_e", "_law_sorts", "_law_bases", "_law_plain", "_law_words", "_law_at", "_law_due_here"] ["_law_act"] (defScope sCaught) := ⟨rfl, rfl, rfl, by decide +kernel, rfl, by decide +kernel, by decide +kernel⟩
theorem gives_caught {X : Cx} {g fF : Addr} {cd : Value} {dF : FuncData} {q : Str} {j : Nat} {Cs Bs : Nat → Addr} (T : CTxt X.K X.mg Cs Bs) (FF : Fun X.K "_law_field" "_law_field" sField fF dF) (bF : Binds X.K dF ["_law_e", "_law_at"] []) (mF : X.mg "_law_field" = some (.ref fF)) (GF : FnQ X.prog X.w X.K X.mg X.base 1 fF dF ["_law_e", "_law_at"] (spField Cs)) :
    GivesN X (j + 1) ["_law_act", "_law_given", "_law_e", "_law_sorts", "_law_bases", "_law_plain", "_law_words", "_law_at", "_law_due_here"] "_law_caught" (defScope sCaught) g cd (defBody sCaught) "_law_act" q (TCt X.K Cs) := by
  intro f c s H Q rd gq hr act hc h
  have hrF : Room 1 (X.A.deeper (envOfC "_law_caught" (defScope sCaught) s.heap.objs.size g cd)) := hr.mono (Nat.succ_le_succ (Nat.zero_le _))
  have hu65 := Nat.lt_of_le_of_lt (Nat.add_le_add_left (by decide : 65 ≤ 16 * 1 + 200) _) (Nat.lt_of_le_of_lt (Nat.le_of_eq (Nat.add_assoc _ _ _).symm) hrF.un)
  have hu64 := Nat.lt_of_le_of_lt (Nat.add_le_add_left (by decide : 64 ≤ 16 * 1 + 200) _) (Nat.lt_of_le_of_lt (Nat.le_of_eq (Nat.add_assoc _ _ _).symm) hrF.un)
  refine' ⟨_, pss_cons (ps_try4 (X := (cxOf CX0 X.prog X.w X.K X.mg X.base ["_law_act", "_law_given", "_law_e", "_law_sorts", "_law_bases", "_law_plain", "_law_words", "_law_at", "_law_due_here"] "_law_caught" (defScope sCaught) g cd X.A X.stack s H E0).nox) (i := 2) (c1 := .ref (Bs 0)) (c2 := .ref (Bs 1)) (c3 := .ref (Bs 2)) (c4 := .ref (Bs 3)) rfl rfl rfl takes0N scC.nd rfl rfl
      ⟨rfl, by decide, .inl (T.gB 0 (by decide))⟩ ⟨rfl, by decide, .inl (T.gB 1 (by decide))⟩ ⟨rfl, by decide, .inl (T.gB 2 (by decide))⟩ ⟨rfl, by decide, .inl (T.gB 3 (by decide))⟩
      (fun a cls d pn => ?su)
      (fun W pn xe tk _ => pss_one (ps_set (i := 1) scC.nd rfl (Or.inl rfl) (act W pn xe _ _ tk))))
    (pss_one (ps_ret (pe_lst (pa_cons (pe_str) (pa_cons (pv 1) pa_nil))))), ?rd⟩
  case su =>
    have su := (pss_cons (ps_set (i := 3) scC.nd rfl (Or.inl rfl) (pe_lst (pa_cons (pe_callB call_isQ (by rfl) T.iN PyProof.Rows.boot_isinstance (pa_cons (pv 2) (pa_cons (pe_glob (v := .ref (Cs 0)) rfl (T.g 0 (by decide)) rfl) pa_nil))) (pa_cons (pe_callB call_isQ (by rfl) T.iN PyProof.Rows.boot_isinstance (pa_cons (pv 2) (pa_cons (pe_glob (v := .ref (Cs 1)) rfl (T.g 1 (by decide)) rfl) pa_nil))) (pa_cons (pe_callB call_isQ (by rfl) T.iN PyProof.Rows.boot_isinstance (pa_cons (pv 2) (pa_cons (pe_glob (v := .ref (Cs 2)) rfl (T.g 2 (by decide)) rfl) pa_nil))) pa_nil)))))
        (pss_cons (ps_set (i := 3) scC.nd rfl (Or.inl rfl) (pe_op op_cat (pv 3) (pe_lst (pa_cons (pe_callB call_isQ (by rfl) T.iN PyProof.Rows.boot_isinstance (pa_cons (pv 2) (pa_cons (pe_glob (v := .ref (Cs 3)) rfl (T.g 3 (by decide)) rfl) pa_nil))) (pa_cons (pe_callB call_isQ (by rfl) T.iN PyProof.Rows.boot_isinstance (pa_cons (pv 2) (pa_cons (pe_glob (v := .ref (Cs 4)) rfl (T.g 4 (by decide)) rfl) pa_nil))) (pa_cons (pe_callB call_isQ (by rfl) T.iN PyProof.Rows.boot_isinstance (pa_cons (pv 2) (pa_cons (pe_glob (v := .ref (Cs 5)) rfl (T.g 5 (by decide)) rfl) pa_nil))) pa_nil))))))
        (pss_cons (ps_set (i := 3) scC.nd rfl (Or.inl rfl) (pe_op op_cat (pv 3) (pe_lst (pa_cons (pe_callB call_isQ (by rfl) T.iN PyProof.Rows.boot_isinstance (pa_cons (pv 2) (pa_cons (pe_glob (v := .ref (Cs 6)) rfl (T.g 6 (by decide)) rfl) pa_nil))) (pa_cons (pe_callB call_isQ (by rfl) T.iN PyProof.Rows.boot_isinstance (pa_cons (pv 2) (pa_cons (pe_glob (v := .ref (Cs 7)) rfl (T.g 7 (by decide)) rfl) pa_nil))) (pa_cons (pe_callB call_isQ (by rfl) T.iN PyProof.Rows.boot_isinstance (pa_cons (pv 2) (pa_cons (pe_glob (v := .ref (Cs 8)) rfl (T.g 8 (by decide)) rfl) pa_nil))) pa_nil))))))
        (pss_cons (ps_set (i := 3) scC.nd rfl (Or.inl rfl) (pe_op op_cat (pv 3) (pe_lst (pa_cons (pe_callB call_isQ (by rfl) T.iN PyProof.Rows.boot_isinstance (pa_cons (pv 2) (pa_cons (pe_glob (v := .ref (Cs 9)) rfl (T.g 9 (by decide)) rfl) pa_nil))) (pa_cons (pe_callB call_isQ (by rfl) T.iN PyProof.Rows.boot_isinstance (pa_cons (pv 2) (pa_cons (pe_glob (v := .ref (Cs 10)) rfl (T.g 10 (by decide)) rfl) pa_nil))) (pa_cons (pe_callB call_isQ (by rfl) T.iN PyProof.Rows.boot_isinstance (pa_cons (pv 2) (pa_cons (pe_glob (v := .ref (Cs 11)) rfl (T.g 11 (by decide)) rfl) pa_nil))) pa_nil))))))
        (pss_cons (ps_set (i := 3) scC.nd rfl (Or.inl rfl) (pe_op op_cat (pv 3) (pe_lst (pa_cons (pe_callB call_isQ (by rfl) T.iN PyProof.Rows.boot_isinstance (pa_cons (pv 2) (pa_cons (pe_glob (v := .ref (Cs 12)) rfl (T.g 12 (by decide)) rfl) pa_nil))) (pa_cons (pe_callB call_isQ (by rfl) T.iN PyProof.Rows.boot_isinstance (pa_cons (pv 2) (pa_cons (pe_glob (v := .ref (Cs 13)) rfl (T.g 13 (by decide)) rfl) pa_nil))) (pa_cons (pe_callB call_isQ (by rfl) T.iN PyProof.Rows.boot_isinstance (pa_cons (pv 2) (pa_cons (pe_glob (v := .ref (Cs 14)) rfl (T.g 14 (by decide)) rfl) pa_nil))) pa_nil))))))
        (pss_cons (ps_set (i := 3) scC.nd rfl (Or.inl rfl) (pe_op op_cat (pv 3) (pe_lst (pa_cons (pe_callB call_isQ (by rfl) T.iN PyProof.Rows.boot_isinstance (pa_cons (pv 2) (pa_cons (pe_glob (v := .ref (Cs 15)) rfl (T.g 15 (by decide)) rfl) pa_nil))) (pa_cons (pe_callB call_isQ (by rfl) T.iN PyProof.Rows.boot_isinstance (pa_cons (pv 2) (pa_cons (pe_glob (v := .ref (Cs 16)) rfl (T.g 16 (by decide)) rfl) pa_nil))) (pa_cons (pe_callB call_isQ (by rfl) T.iN PyProof.Rows.boot_isinstance (pa_cons (pv 2) (pa_cons (pe_glob (v := .ref (Cs 17)) rfl (T.g 17 (by decide)) rfl) pa_nil))) pa_nil))))))
        (pss_cons (ps_set (i := 4) scC.nd rfl (Or.inl rfl) (pe_lst (pa_cons (pe_callB call_isQ (by rfl) T.iN PyProof.Rows.boot_isinstance (pa_cons (pv 2) (pa_cons (pe_glob (v := .ref (Bs 0)) rfl (T.gB 0 (by decide)) rfl) pa_nil))) (pa_cons (pe_callB call_isQ (by rfl) T.iN PyProof.Rows.boot_isinstance (pa_cons (pv 2) (pa_cons (pe_glob (v := .ref (Bs 1)) rfl (T.gB 1 (by decide)) rfl) pa_nil))) (pa_cons (pe_callB call_isQ (by rfl) T.iN PyProof.Rows.boot_isinstance (pa_cons (pv 2) (pa_cons (pe_glob (v := .ref (Bs 2)) rfl (T.gB 2 (by decide)) rfl) pa_nil))) pa_nil)))))
        (pss_cons (ps_expr (pe_bm (X := (cxOf CX0 X.prog X.w X.K X.mg X.base ["_law_act", "_law_given", "_law_e", "_law_sorts", "_law_bases", "_law_plain", "_law_words", "_law_at", "_law_due_here"] "_law_caught" (defScope sCaught) g cd X.A X.stack s H E0).nox.suite a pn) PySem.F.plainAttrs_list PySem.F.slot_list_append PySem.F.type_list_append mt_append (pv 4) (pa_cons (pe_callB (X := (cxOf CX0 X.prog X.w X.K X.mg X.base ["_law_act", "_law_given", "_law_e", "_law_sorts", "_law_bases", "_law_plain", "_law_words", "_law_at", "_law_due_here"] "_law_caught" (defScope sCaught) g cd X.A X.stack s H E0).nox.suite a pn) call_isQ (by rfl) T.iN PyProof.Rows.boot_isinstance (pa_cons (pv 2) (pa_cons (pe_glob (x := "LimitError") (v := .ref (Bs 3)) rfl (T.gB 3 (by decide)) rfl) pa_nil))) pa_nil)))
        (pss_cons (ps_set (i := 5) scC.nd rfl (Or.inl rfl) (pe_lst (pa_cons (pe_callB call_isQ (by rfl) T.iN PyProof.Rows.boot_isinstance (pa_cons (pv 2) (pa_cons (pe_bltn (v := .ty "ValueError") rfl T.n0 PyProof.Rows.Boot.«ValueError» rfl) pa_nil))) (pa_cons (pe_callB call_isQ (by rfl) T.iN PyProof.Rows.boot_isinstance (pa_cons (pv 2) (pa_cons (pe_bltn (v := .ty "LookupError") rfl T.n1 PyProof.Rows.Boot.«LookupError» rfl) pa_nil))) (pa_cons (pe_callB call_isQ (by rfl) T.iN PyProof.Rows.boot_isinstance (pa_cons (pv 2) (pa_cons (pe_bltn (v := .ty "RuntimeError") rfl T.n2 PyProof.Rows.Boot.«RuntimeError» rfl) pa_nil))) pa_nil)))))
        (pss_cons (ps_expr (pe_bm (X := (cxOf CX0 X.prog X.w X.K X.mg X.base ["_law_act", "_law_given", "_law_e", "_law_sorts", "_law_bases", "_law_plain", "_law_words", "_law_at", "_law_due_here"] "_law_caught" (defScope sCaught) g cd X.A X.stack s H E0).nox.suite a pn) PySem.F.plainAttrs_list PySem.F.slot_list_append PySem.F.type_list_append mt_append (pv 5) (pa_cons (pe_callB (X := (cxOf CX0 X.prog X.w X.K X.mg X.base ["_law_act", "_law_given", "_law_e", "_law_sorts", "_law_bases", "_law_plain", "_law_words", "_law_at", "_law_due_here"] "_law_caught" (defScope sCaught) g cd X.A X.stack s H E0).nox.suite a pn) call_isQ (by rfl) T.iN PyProof.Rows.boot_isinstance (pa_cons (pv 2) (pa_cons (pe_bltn (x := "ArithmeticError") (v := .ty "ArithmeticError") rfl T.n3 PyProof.Rows.Boot.«ArithmeticError» rfl) pa_nil))) pa_nil)))
        (pss_cons (ps_set (i := 6) scC.nd rfl (Or.inl rfl) (pe_lst (pa_cons (pe_str) (pa_cons (pe_str) (pa_cons (pe_str) (pa_cons (pe_str) (pa_cons (pe_str) (pa_cons (pe_str) (pa_cons (pe_str) (pa_cons (pe_str) (pa_cons (pe_str) (pa_cons (pe_str) (pa_cons (pe_str) pa_nil)))))))))))))
        (pss_cons (ps_set (i := 6) scC.nd rfl (Or.inl rfl) (pe_op op_cat (pv 6) (pe_lst (pa_cons (pe_str) (pa_cons (pe_str) (pa_cons (pe_str) (pa_cons (pe_str) (pa_cons (pe_str) (pa_cons (pe_str) (pa_cons (pe_str) pa_nil))))))))))
        (pss_cons (ps_set (i := 7) scC.nd rfl (Or.inl rfl) (pe_ifExp (pt_cmpR op_eq (pe_bm (X := (cxOf CX0 X.prog X.w X.K X.mg X.base ["_law_act", "_law_given", "_law_e", "_law_sorts", "_law_bases", "_law_plain", "_law_words", "_law_at", "_law_due_here"] "_law_caught" (defScope sCaught) g cd X.A X.stack s H E0).nox.suite a pn) PySem.F.plainAttrs_list PySem.F.slot_list_count PySem.F.type_list_count mt_lcountB (pv 3) (pa_cons pe_bl pa_nil)) pe_int (nomark _)) (pe_bm (X := (cxOf CX0 X.prog X.w X.K X.mg X.base ["_law_act", "_law_given", "_law_e", "_law_sorts", "_law_bases", "_law_plain", "_law_words", "_law_at", "_law_due_here"] "_law_caught" (defScope sCaught) g cd X.A X.stack s H E0).nox.suite a pn) PySem.F.plainAttrs_list PySem.F.slot_list_index PySem.F.type_list_index (mt_indexD hu65) (pv 3) (pa_cons pe_bl pa_nil)) pe_int))
        (pss_cons (ps_set (i := 8) scC.nd rfl (Or.inl rfl) (pe_lst (pa_cons (pe_cmpR op_in_seq (pv 7) (pe_op op_cat (pe_listRgQ rfl T.nList (prg_1 rfl T.nRange pe_int)) (pe_lst (pa_cons (pe_int) (pa_cons (pe_int) (pa_cons (pe_int) pa_nil))))) (by rfl)) (pa_cons (pe_cmpR op_in_seq (pv 7) (pe_lst (pa_cons (pe_int) (pa_cons (pe_int) pa_nil))) (by rfl)) (pa_cons (pe_cmpR op_eq (pv 7) pe_int (nomark _)) (pa_cons (pe_cmpR op_eq (pv 7) pe_int (nomark _)) pa_nil))))))
        (pss_cons (ps_if (PW.pt (pw_or (pt_cmpR op_ne (pe_bm (X := (cxOf CX0 X.prog X.w X.K X.mg X.base ["_law_act", "_law_given", "_law_e", "_law_sorts", "_law_bases", "_law_plain", "_law_words", "_law_at", "_law_due_here"] "_law_caught" (defScope sCaught) g cd X.A X.stack s H E0).nox.suite a pn) PySem.F.plainAttrs_list PySem.F.slot_list_count PySem.F.type_list_count mt_lcountB (pv 3) (pa_cons pe_bl pa_nil)) pe_int (nomark _)) (pw_or (pt_cmpR (op_neD hu64) (pv 4) (pv 5) (nomark _)) (pw_or1 (pt_cmpR (op_neD hu64) (pv 4) (pv 8) (nomark _)))))) (pss_one (ps_ret (pe_lst (pa_cons (pe_str) (pa_cons (pe_str) pa_nil))))) pss_nil)
        (pss_one (ps_ret (pe_lst (pa_cons (pe_ix ix_list (pv 6) (pv 7) (fun _ _ => rfl)) (pa_cons (pe_callB (X := (cxOf CX0 X.prog X.w X.K X.mg X.base ["_law_act", "_law_given", "_law_e", "_law_sorts", "_law_bases", "_law_plain", "_law_words", "_law_at", "_law_due_here"] "_law_caught" (defScope sCaught) g cd X.A X.stack s H E0).nox.suite a pn) (cr_shows (X := (cxOf CX0 X.prog X.w X.K X.mg X.base ["_law_act", "_law_given", "_law_e", "_law_sorts", "_law_bases", "_law_plain", "_law_words", "_law_at", "_law_due_here"] "_law_caught" (defScope sCaught) g cd X.A X.stack s H E0).nox.suite a pn) gq hu64) (by rfl) T.nRepr (by decide +kernel) (pa_cons (pe_callQ (E := E0) (X := (cxOf CX0 X.prog X.w X.K X.mg X.base ["_law_act", "_law_given", "_law_e", "_law_sorts", "_law_bases", "_law_plain", "_law_words", "_law_at", "_law_due_here"] "_law_caught" (defScope sCaught) g cd X.A X.stack s H E0).nox) GF gq hrF rfl mF FF.kp bF .nil (pa_cons (pv 2) (pa_cons (pv 7) pa_nil))) pa_nil)) pa_nil))))))))))))))))))) : PSs ((cxOf CX0 X.prog X.w X.K X.mg X.base ["_law_act", "_law_given", "_law_e", "_law_sorts", "_law_bases", "_law_plain", "_law_words", "_law_at", "_law_due_here"] "_law_caught" (defScope sCaught) g cd X.A X.stack s H E0).nox.suite a pn) (suiteOf sCaught) _)
    dsimp only at su
    exact su
  refine ⟨rfl, hc, _, _, ?_, ?_, h⟩
  · rintro cls d G ⟨i, v, x, hi, rfl, fl, sv, k⟩
    refine ⟨true, T.exm i hi, (fun c => nomatch c), fun _ a na => ?_⟩
    have cg : Caught (upd G a (exq a (.ref (Cs i)) d)) a (Cs i) (fldsOf i v) := by
      rcases fl with ⟨h17, rfl, _⟩ | ⟨h17, dd, rfl, e⟩
      · exact .inr ⟨if_pos h17, upd_same⟩
      · refine .inl ⟨dd, upd_same, ?_⟩
        rw [upd_ne (ne_of_none e na), show fldsOf i v = [(cf i, v)] from if_neg h17]
        exact e
    have sG : Same G (upd G a (exq a (.ref (Cs i)) d)) := same_put na
    have ea : (upd G a (exq a (.ref (Cs i)) d)) a = some (exq a (.ref (Cs i)) d) := upd_same
    revert cg sG ea
    generalize upd G a (exq a (.ref (Cs i)) d) = H0
    intro cg sG ea
    refine ⟨_, rfl, a, Cs i, _, _, _, _, rfl, cg, T.ec i hi, .own _, T.kit i hi 0 (by decide), _, rfl, a, Cs i, _, _, _, _, rfl, cg, T.ec i hi, .own _, T.kit i hi 1 (by decide), _, rfl, a, Cs i, _, _, _, _, rfl, cg, T.ec i hi, .own _, T.kit i hi 2 (by decide), (by show 3 ≤ sizeLine; decide), fun p0 n0 => ?_⟩
    have s1 := same_put (o := .lst [V.bl (decide (i = 0)), V.bl (decide (i = 1)), V.bl (decide (i = 2))]) n0
    have e1 : (upd H0 p0 (.lst [V.bl (decide (i = 0)), V.bl (decide (i = 1)), V.bl (decide (i = 2))])) p0 = some (.lst (([decide (i = 0), decide (i = 1), decide (i = 2)] : List Bool).map V.bl)) := upd_same
    revert s1 e1
    generalize upd H0 p0 (.lst [V.bl (decide (i = 0)), V.bl (decide (i = 1)), V.bl (decide (i = 2))]) = H1
    intro s1 e1
    refine ⟨_, rfl, _, rfl, a, Cs i, _, _, _, _, rfl, (cg.same s1), T.ec i hi, .own _, T.kit i hi 3 (by decide), _, rfl, a, Cs i, _, _, _, _, rfl, (cg.same s1), T.ec i hi, .own _, T.kit i hi 4 (by decide), _, rfl, a, Cs i, _, _, _, _, rfl, (cg.same s1), T.ec i hi, .own _, T.kit i hi 5 (by decide), grow_k e1 (Nat.le_of_ble_eq_true rfl) (Nat.le_of_ble_eq_true rfl) fun H2 p1 t1 n1 f1 => ?_⟩
    have s2 : Same H0 H2 := s1.trans t1
    have e2 : H2 p1 = some (.lst (([decide (i = 0), decide (i = 1), decide (i = 2), decide (i = 3), decide (i = 4), decide (i = 5)] : List Bool).map V.bl)) := f1
    refine ⟨_, rfl, _, rfl, a, Cs i, _, _, _, _, rfl, (cg.same s2), T.ec i hi, .own _, T.kit i hi 6 (by decide), _, rfl, a, Cs i, _, _, _, _, rfl, (cg.same s2), T.ec i hi, .own _, T.kit i hi 7 (by decide), _, rfl, a, Cs i, _, _, _, _, rfl, (cg.same s2), T.ec i hi, .own _, T.kit i hi 8 (by decide), grow_k e2 (Nat.le_of_ble_eq_true rfl) (Nat.le_of_ble_eq_true rfl) fun H3 p2 t2 n2 f2 => ?_⟩
    have s3 : Same H0 H3 := s2.trans t2
    have e3 : H3 p2 = some (.lst (([decide (i = 0), decide (i = 1), decide (i = 2), decide (i = 3), decide (i = 4), decide (i = 5), decide (i = 6), decide (i = 7), decide (i = 8)] : List Bool).map V.bl)) := f2
    refine ⟨_, rfl, _, rfl, a, Cs i, _, _, _, _, rfl, (cg.same s3), T.ec i hi, .own _, T.kit i hi 9 (by decide), _, rfl, a, Cs i, _, _, _, _, rfl, (cg.same s3), T.ec i hi, .own _, T.kit i hi 10 (by decide), _, rfl, a, Cs i, _, _, _, _, rfl, (cg.same s3), T.ec i hi, .own _, T.kit i hi 11 (by decide), grow_k e3 (Nat.le_of_ble_eq_true rfl) (Nat.le_of_ble_eq_true rfl) fun H4 p3 t3 n3 f3 => ?_⟩
    have s4 : Same H0 H4 := s3.trans t3
    have e4 : H4 p3 = some (.lst (([decide (i = 0), decide (i = 1), decide (i = 2), decide (i = 3), decide (i = 4), decide (i = 5), decide (i = 6), decide (i = 7), decide (i = 8), decide (i = 9), decide (i = 10), decide (i = 11)] : List Bool).map V.bl)) := f3
    refine ⟨_, rfl, _, rfl, a, Cs i, _, _, _, _, rfl, (cg.same s4), T.ec i hi, .own _, T.kit i hi 12 (by decide), _, rfl, a, Cs i, _, _, _, _, rfl, (cg.same s4), T.ec i hi, .own _, T.kit i hi 13 (by decide), _, rfl, a, Cs i, _, _, _, _, rfl, (cg.same s4), T.ec i hi, .own _, T.kit i hi 14 (by decide), grow_k e4 (Nat.le_of_ble_eq_true rfl) (Nat.le_of_ble_eq_true rfl) fun H5 p4 t4 n4 f4 => ?_⟩
    have s5 : Same H0 H5 := s4.trans t4
    have e5 : H5 p4 = some (.lst (([decide (i = 0), decide (i = 1), decide (i = 2), decide (i = 3), decide (i = 4), decide (i = 5), decide (i = 6), decide (i = 7), decide (i = 8), decide (i = 9), decide (i = 10), decide (i = 11), decide (i = 12), decide (i = 13), decide (i = 14)] : List Bool).map V.bl)) := f4
    refine ⟨_, rfl, _, rfl, a, Cs i, _, _, _, _, rfl, (cg.same s5), T.ec i hi, .own _, T.kit i hi 15 (by decide), _, rfl, a, Cs i, _, _, _, _, rfl, (cg.same s5), T.ec i hi, .own _, T.kit i hi 16 (by decide), _, rfl, a, Cs i, _, _, _, _, rfl, (cg.same s5), T.ec i hi, .own _, T.kit i hi 17 (by decide), grow_k e5 (Nat.le_of_ble_eq_true rfl) (Nat.le_of_ble_eq_true rfl) fun H6 p5 t5 n5 f5 => ?_⟩
    have s6 : Same H0 H6 := s5.trans t5
    have e6 : H6 p5 = some (.lst (([decide (i = 0), decide (i = 1), decide (i = 2), decide (i = 3), decide (i = 4), decide (i = 5), decide (i = 6), decide (i = 7), decide (i = 8), decide (i = 9), decide (i = 10), decide (i = 11), decide (i = 12), decide (i = 13), decide (i = 14), decide (i = 15), decide (i = 16), decide (i = 17)] : List Bool).map V.bl)) := f5
    have ep5 : H6 p5 = some (.lst ((kindsQ i).map V.bl)) := e6
    clear e6
    refine ⟨_, rfl, a, Cs i, _, _, _, _, rfl, (cg.same s6), T.ec i hi, .own _, T.kitB i hi 0 (by decide), _, rfl, a, Cs i, _, _, _, _, rfl, (cg.same s6), T.ec i hi, .own _, T.kitB i hi 1 (by decide), _, rfl, a, Cs i, _, _, _, _, rfl, (cg.same s6), T.ec i hi, .own _, T.kitB i hi 2 (by decide), (by show 3 ≤ sizeLine; decide), fun pb npb => ?_⟩
    have zpb : H0 pb = none := s6.free npb
    have tpb := same_put (o := .lst [V.bl (decide (cb i = 0)), V.bl (decide (cb i = 1)), V.bl (decide (cb i = 2))]) npb
    have s7 := s6.trans tpb
    have epb : (upd H6 pb (.lst [V.bl (decide (cb i = 0)), V.bl (decide (cb i = 1)), V.bl (decide (cb i = 2))])) pb = some (.lst [V.bl (decide (cb i = 0)), V.bl (decide (cb i = 1)), V.bl (decide (cb i = 2))]) := upd_same
    have dp5 : p5 ≠ pb := ne_of_none ep5 npb
    replace ep5 := tpb _ _ ep5
    clear tpb
    revert s7 epb ep5
    generalize upd H6 pb (.lst [V.bl (decide (cb i = 0)), V.bl (decide (cb i = 1)), V.bl (decide (cb i = 2))]) = H7
    intro s7 epb ep5
    refine ⟨_, rfl, .inl ⟨rfl, _, SqL.of epb⟩, _, rfl, a, Cs i, _, _, _, _, rfl, (cg.same s7), T.ec i hi, .own _, T.kitB i hi 3 (by decide), pb, _, _, rfl, rfl, epb, (by show 3 < sizeLine; decide), ?_⟩
    have s8 : Same H0 (upd H7 pb (.lst ([V.bl (decide (cb i = 0)), V.bl (decide (cb i = 1)), V.bl (decide (cb i = 2))] ++ [V.bl (decide (cb i = 3))]))) := fun b o e => by rw [upd_ne (ne_of_none e zpb)]; exact s7 b o e
    replace epb : (upd H7 pb (.lst ([V.bl (decide (cb i = 0)), V.bl (decide (cb i = 1)), V.bl (decide (cb i = 2))] ++ [V.bl (decide (cb i = 3))]))) pb = some (.lst ((basesQ i).map V.bl)) := upd_same
    replace ep5 : (upd H7 pb (.lst ([V.bl (decide (cb i = 0)), V.bl (decide (cb i = 1)), V.bl (decide (cb i = 2))] ++ [V.bl (decide (cb i = 3))]))) p5 = _ := (upd_ne dp5).trans ep5
    revert s8 epb ep5
    generalize upd H7 pb (.lst ([V.bl (decide (cb i = 0)), V.bl (decide (cb i = 1)), V.bl (decide (cb i = 2))] ++ [V.bl (decide (cb i = 3))])) = H8
    intro s8 epb ep5
    refine ⟨_, rfl, a, Cs i, _, _, _, _, rfl, (cg.same s8), T.ec i hi, .ty _, T.kitT i hi 0 (by decide), _, rfl, a, Cs i, _, _, _, _, rfl, (cg.same s8), T.ec i hi, .ty _, T.kitT i hi 1 (by decide), _, rfl, a, Cs i, _, _, _, _, rfl, (cg.same s8), T.ec i hi, .ty _, T.kitT i hi 2 (by decide), (by show 3 ≤ sizeLine; decide), fun pl npl => ?_⟩
    have zpl : H0 pl = none := s8.free npl
    have tpl := same_put (o := .lst [V.bl (decide (cb i = 0)), V.bl (decide (cb i = 1)), V.bl (decide (cb i = 2))]) npl
    have s9 := s8.trans tpl
    have epl : (upd H8 pl (.lst [V.bl (decide (cb i = 0)), V.bl (decide (cb i = 1)), V.bl (decide (cb i = 2))])) pl = some (.lst [V.bl (decide (cb i = 0)), V.bl (decide (cb i = 1)), V.bl (decide (cb i = 2))]) := upd_same
    have dp5 : p5 ≠ pl := ne_of_none ep5 npl
    replace ep5 := tpl _ _ ep5
    have dpb : pb ≠ pl := ne_of_none epb npl
    replace epb := tpl _ _ epb
    clear tpl
    revert s9 epl ep5 epb
    generalize upd H8 pl (.lst [V.bl (decide (cb i = 0)), V.bl (decide (cb i = 1)), V.bl (decide (cb i = 2))]) = H9
    intro s9 epl ep5 epb
    refine ⟨_, rfl, .inl ⟨rfl, _, SqL.of epl⟩, _, rfl, a, Cs i, _, _, _, _, rfl, (cg.same s9), T.ec i hi, .ty _, T.kitT i hi 3 (by decide), pl, _, _, rfl, rfl, epl, (by show 3 < sizeLine; decide), ?_⟩
    have s10 : Same H0 (upd H9 pl (.lst ([V.bl (decide (cb i = 0)), V.bl (decide (cb i = 1)), V.bl (decide (cb i = 2))] ++ [V.bl (decide (cb i = 3))]))) := fun b o e => by rw [upd_ne (ne_of_none e zpl)]; exact s9 b o e
    replace epl : (upd H9 pl (.lst ([V.bl (decide (cb i = 0)), V.bl (decide (cb i = 1)), V.bl (decide (cb i = 2))] ++ [V.bl (decide (cb i = 3))]))) pl = some (.lst ((basesQ i).map V.bl)) := upd_same
    replace ep5 : (upd H9 pl (.lst ([V.bl (decide (cb i = 0)), V.bl (decide (cb i = 1)), V.bl (decide (cb i = 2))] ++ [V.bl (decide (cb i = 3))]))) p5 = _ := (upd_ne dp5).trans ep5
    replace epb : (upd H9 pl (.lst ([V.bl (decide (cb i = 0)), V.bl (decide (cb i = 1)), V.bl (decide (cb i = 2))] ++ [V.bl (decide (cb i = 3))]))) pb = _ := (upd_ne dpb).trans epb
    revert s10 epl ep5 epb
    generalize upd H9 pl (.lst ([V.bl (decide (cb i = 0)), V.bl (decide (cb i = 1)), V.bl (decide (cb i = 2))] ++ [V.bl (decide (cb i = 3))])) = H10
    intro s10 epl ep5 epb
    refine ⟨(by show 11 ≤ sizeLine; decide), fun w0 nw0 => ?_⟩
    have tw := same_put (o := .lst [V.str "name", V.str "moment", V.str "number", V.str "within", V.str "strict", V.str "text", V.str "grid", V.str "time", V.str "look", V.str "reader", V.str "table"]) nw0
    have ew0 : (upd H10 w0 (.lst [V.str "name", V.str "moment", V.str "number", V.str "within", V.str "strict", V.str "text", V.str "grid", V.str "time", V.str "look", V.str "reader", V.str "table"])) w0 = some (.lst [V.str "name", V.str "moment", V.str "number", V.str "within", V.str "strict", V.str "text", V.str "grid", V.str "time", V.str "look", V.str "reader", V.str "table"]) := upd_same
    revert tw ew0
    generalize upd H10 w0 (.lst [V.str "name", V.str "moment", V.str "number", V.str "within", V.str "strict", V.str "text", V.str "grid", V.str "time", V.str "look", V.str "reader", V.str "table"]) = Hw
    intro tw ew0
    refine ⟨_, rfl, grow_k ew0 (Nat.le_of_ble_eq_true rfl) (Nat.le_of_ble_eq_true rfl) fun Hx w1 tx nx1 ew1 => ?_⟩
    have txs := tw.trans tx
    have sx := s10.trans txs
    replace ep5 := txs _ _ ep5
    replace epb := txs _ _ epb
    replace epl := txs _ _ epl
    clear tw ew0 tx txs
    have ew : Hx w1 = some (.lst (wordsQ.map V.str)) := ew1
    clear ew1
    refine ⟨_, rfl, .inl ⟨rfl, _, SqL.of ep5⟩, p5, kindsQ i, rfl, rfl, SqL.of ep5, rfl, _, rfl, ifT (by rw [kindsQ_count hi]; rfl) ?_⟩
    refine ⟨_, rfl, .inl ⟨rfl, _, SqL.of ep5⟩, p5, .bl true, .bool true, (kindsQ i).map .bool, i, .bool true, rfl, rfl, .lst (SqL.of ep5) (boolsQ_data _), .bl true, (boolsQ_shaped _).1, rfl, kindsQ_at hi, rfl, kindsQ_first hi, ?_⟩
    refine ⟨_, rfl, 11, rfl, RgOk.of_le (by decide) (by decide) (by decide) (by decide), ⟨_, _, sx _ _ ea⟩, fun q1 m1 => ⟨(by show 3 ≤ sizeLine; decide), fun q2 m2 => ?_⟩⟩
    have o1 := (same_put (o := .lst (rgV 0 11)) m1).trans (same_put (o := .lst [V.int 13, V.int 14, V.int 15]) m2)
    have g1 : (upd (upd Hx q1 (.lst (rgV 0 11))) q2 (.lst [V.int 13, V.int 14, V.int 15])) q1 = some (.lst (rgV 0 11)) := (same_put m2) _ _ upd_same
    refine ⟨q1, q2, _, _, rfl, rfl, g1, upd_same, (by rw [rgV_length]; decide), fun q3 m3 => ⟨q3, _, rfl, .inl (SqL.of upd_same), rfl, flat14, ?_⟩⟩
    have o2 := o1.trans (same_put (o := .lst (rgV 0 11 ++ [V.int 13, V.int 14, V.int 15])) m3)
    refine ⟨_, rfl, (by show 2 ≤ sizeLine; decide), fun q4 m4 => ⟨q4, _, rfl, .inl (SqL.of upd_same), rfl, rfl, ?_⟩⟩
    have o3 := o2.trans (same_put (o := .lst [V.int 11, V.int 12]) m4)
    refine ⟨_, rfl, rfl, _, rfl, rfl, (by show 4 ≤ sizeLine; decide), fun qd md => ?_⟩
    rw [due_is hi]
    have o4 := o3.trans (same_put (o := .lst ((basesQ i).map V.bl)) md)
    have c5 := o4 _ _ ep5
    have cbb := o4 _ _ epb
    have cll := o4 _ _ epl
    have sh := boolsQ_shaped (basesQ i)
    refine ⟨_, rfl, .inl ⟨rfl, _, SqL.of c5⟩, p5, kindsQ i, rfl, rfl, SqL.of c5, rfl, _, rfl, iteNS (by rw [kindsQ_count hi]; rfl) ?_⟩
    refine ⟨_, rfl, _, rfl, _, _, .lst (SqL.of cbb) (boolsQ_data _), .lst (SqL.of cll) (boolsQ_data _), sh.1, sh.1, _, rfl, ifF (by rw [sh.2]; rfl) ?_⟩
    refine ⟨_, rfl, _, rfl, _, _, .lst (SqL.of cbb) (boolsQ_data _), .lst (SqL.of upd_same) (boolsQ_data _), sh.1, sh.1, _, rfl, ifF (by rw [sh.2]; rfl) ?_⟩
    have h17 : i = 17 → v = .non := fun h => by
      rcases fl with ⟨_, _, e⟩ | ⟨n, _⟩
      · exact e
      · exact absurd h n
    refine ⟨_, rfl, _, rfl, w1, _, _, .str (cw i), rfl, rfl, SqL.of (o4 _ _ ew), atI_nat (words_at hi), _, rfl, _, rfl, a, i, v, rfl, hi, cg.same (sx.trans o4), h17, fun H9 s9 => ?_⟩
    have far := sG.trans (sx.trans (o4.trans s9))
    exact ⟨v, x, rfl, sv.same far, (by show 2 ≤ sizeLine; decide), fun D nD => k D _ (far.trans (same_put nD)) (far.free nD) upd_same⟩
  · intro v G k
    refine ⟨_, rfl, (by show 2 ≤ sizeLine; decide), fun D nD => k D _ (same_put nD) nD upd_same⟩
end Tr4


namespace Tr4
open PySem PySem.Spec PyProof.Rows L2 LamX Gd Rng Bag
/-! ### a def whose code object is known -/
structure FunC (K : PySem.W.Frag) (x qual : Str) (st : Stmt) (f : Addr) (fd : FuncData) (c : Addr) : Prop where
  there : ∃ (oc : Value) (od : Option Addr) (kV doc pm : Value) (an : Option Addr) (ct : Value) (sl : Array (Option Value)), fd = PySem.W.fnOf x qual (defArgs st) (defBody st) (defScope st) .none kV doc pm an (.ref c) ct ∧ K.lookup f = some ⟨oc, od, .func fd, sl⟩
  code : PySem.W.codeIn K (.ref c) qual = true
  keep : PySem.W.keepIn K (.ref f) = true
theorem FunC.fun {K : PySem.W.Frag} {x qual : Str} {st : Stmt} {f c : Addr} {fd : FuncData} (F : FunC K x qual st f fd c) : Fun K x qual st f fd := by
  obtain ⟨oc, od, kV, doc, pm, an, ct, sl, e, l⟩ := F.there
  exact ⟨⟨oc, od, kV, doc, pm, an, .ref c, ct, sl, e, l, F.code⟩, F.keep⟩
section
variable {P : Program} {w : World} {K : PySem.W.Frag} {mg : Str → Option Value} {base : Heap} {k : Nat} {f c : Addr} {fd : FuncData} {N ps : List Str} {sp : Sp}
theorem FunC.okG {x qual : Str} {st : Stmt} (F : FunC K x qual st f fd c) (S : FnScope N ps (defScope st)) (len : ∀ vs H Q E, sp vs H Q E → vs.length = ps.length)
    (body : ∀ (A : Around) (outer : List Env) (s : Shared) (H : Hp) (vs : List V) (Q : VK) (E : XK), (A.deeper (envOfC qual (defScope st) s.heap.objs.size f (.ref c))).guards = some [] → Room k (A.deeper (envOfC qual (defScope st) s.heap.objs.size f (.ref c))) → sp vs H Q E →
      ∃ t, PSs (cxOf CX0 P w K mg base N qual (defScope st) f (.ref c) A outer s H E).nox (defBody st) t ∧ t { nx := fun _ H' => Q .non H', rt := Q } (start N vs) H) : FnG P w K mg base (k + 1) f fd ps sp := by
  obtain ⟨oc, od, kV, doc, pm, an, ct, sl, e, lk⟩ := F.there
  subst e
  have hcd := F.code
  refine ⟨len, fun A outer s H args us vs Q E hq hr e0 hb rv hsp => ?_⟩
  have KX : K.In s.heap := e0.mod.kin.keeps fun b o e => (e0.bs b o e).1
  have lim : s.heap.NoLimit := e0.mod.nolimit.keeps fun b o e => (e0.bs b o e).1
  refine codeAny_call_function hr.depth (KX _ _ lk) rfl S.co S.gen rfl (PySem.W.codeRec_of KX hcd) (hb _ _ _ _ ?_)
  refine wpAny_newFunctionEnv_cells S.kind (fun ⟨n, v⟩ hy => ?_) fun env he s1 x => ?_
  · rcases S.par n (List.of_mem_zip hy).1 with q | q
    · exact .inl q
    · exact .inr ⟨q, PySem.W.cellsFrom_some _ _ _ (.inl q)⟩
  subst he
  obtain ⟨t, ht, rd⟩ := body A outer s H vs Q E hq (hr.deeper _) hsp
  have J := inv_start (CX := CX0) (E := E) S hr.hd e0 (len _ _ _ _ hsp) rv x
  refine ⟨lim.keeps x.toInCall.keep, codeAny_func (wpAny_mono (ht.nox.run [] s1 (start N vs) H _ J rd) (fun fl z hz => ?_) fun e z hz => hz)⟩
  cases fl with
  | brk => exact hz.elim fun _ hz => hz.elim fun _ hz => hz.2.elim
  | cont => exact hz.elim fun _ hz => hz.elim fun _ hz => hz.2.elim
  | next =>
    obtain ⟨σ', H', J, q⟩ := hz
    exact ⟨V.non, H', J.os, J.bare, J.base, J.hok, rfl, q⟩
  | ret u =>
    obtain ⟨v, σ', H', J, r, q⟩ := hz
    exact ⟨v, H', J.os, J.bare, J.base, J.hok, r, q⟩
theorem toRN {ps : List Str} {sp : Sp} (F : FnOk P w K mg base (L2N.CX P w) k f fd ps sp) (hb : Binds K fd ps []) : FnR P w K mg base (L2N.CX P w) k f sp :=
  (F.raw hb .nil).imp fun vs H Q E h => by rw [List.append_nil]; exact h
end
/-- nothing is raised -/
theorem passNever {X : Cx} : Passes (L2N.CX X.prog X.w) X E0 := fun _ _ _ _ _ _ _ h => by
  obtain ⟨_, _, _, _, _, _, _, _, _, _, _, _, z⟩ := h
  exact z.elim
theorem takesLam {X : Cx} {A : Around} {outer : List Env} {s : Shared} {H : Hp} {E : XK} {scope : Scope} {f c : Addr} : L2N.Takes (lamN X A outer s H E scope f c) (fun cls d _ G => E cls d G) := L2N.takes_of rfl rfl rfl rfl
theorem passLam {X : Cx} {A : Around} {outer : List Env} {s : Shared} {H : Hp} {E : XK} {scope : Scope} {f c : Addr} : Passes (L2N.CX X.prog X.w) (lamN X A outer s H E scope f c) E := L2N.passes_call (W := fun cls d _ G => E cls d G) takesLam fun _ _ _ _ h => h
theorem pss_imp {X : Cx} {st : List Stmt} {t t' : TS} (h : PSs X st t) (k : ∀ D σ H, t' D σ H → t D σ H) : PSs X st t' := ⟨fun pins s σ H D I q => h.run pins s σ H D I (k _ _ _ q)⟩
/-! ### tables of code objects, kept -/
theorem _root_.LamX.Tabs.keep {T : List (Addr × Str)} {H H' : Hp} (t : Tabs T H) (k : ∀ a o, H a = some o → (∀ xs, o ≠ .lst xs) → (∀ C dx fs, o ≠ .ins C dx fs) → H' a = some o) : Tabs T H' := fun p hp => by
  obtain ⟨ps, h1, h2, h3⟩ := t p hp
  refine ⟨ps, k _ _ h1 (fun _ z => nomatch z) (fun _ _ _ z => nomatch z), h2, fun pos cv hc => ?_⟩
  obtain ⟨c, e, h⟩ := h3 pos cv hc
  refine ⟨c, e, k _ _ h (fun _ z => ?_) (fun _ _ _ z => ?_)⟩
  · unfold CodeO at z
    cases z
  · unfold CodeO at z
    cases z
theorem _root_.LamX.Tabs.same {T : List (Addr × Str)} {H H' : Hp} (t : Tabs T H) (s : Same H H') : Tabs T H' := t.keep fun a o e _ _ => s a o e
theorem _root_.LamX.Tabs.but {T : List (Addr × Str)} {H H' : Hp} {c : Addr} (t : Tabs T H) (b : But c H H') (h : ∀ u, H c = some u → ∃ xs, u = .lst xs) : Tabs T H' := t.keep fun a o e n _ => b a o (fun z => by
  obtain ⟨xs, y⟩ := h o (z ▸ e)
  exact n xs y) e
/-- all but tables and p stay -/
def ButN (p : Addr) (H H' : Hp) : Prop := ∀ c o, c ≠ p → H c = some o → (∀ ps, o ≠ .tbl ps) → H' c = some o
theorem ButN.refl (p : Addr) (H : Hp) : ButN p H H := fun _ _ _ e _ => e
theorem ButN.trans {p : Addr} {H H1 H2 : Hp} (a : ButN p H H1) (b : ButN p H1 H2) : ButN p H H2 := fun c o n e k => b c o n (a c o n e k) k
theorem _root_.Rng.But.n {p : Addr} {H H' : Hp} (b : But p H H') : ButN p H H' := fun c o n e _ => b c o n e
theorem _root_.L2.Same.n {H H' : Hp} (s : Same H H') (p : Addr) : ButN p H H' := fun c o _ e _ => s c o e
theorem _root_.LamX.ExtN.n {H H' : Hp} (s : ExtN H H') (p : Addr) : ButN p H H' := fun c o _ e k => s c o e k
/-- what stands while the lines are tried -/
structure RS (T : List (Addr × Str)) (p g l : Addr) (us : List V) (rs : List Rng.Row) (ws : List V) (os : List (Option Rng.Row)) (b : Nat) (G : Hp) : Prop where
  src : Src G p b
  good : G g = some (.lst us)
  rows : TupsAt rowV G us rs
  lines : G l = some (.lst ws)
  ok : Lines G ws os
  tabs : Tabs T G
section
variable {T : List (Addr × Str)} {p g l : Addr} {us ws : List V} {rs : List Rng.Row} {os : List (Option Rng.Row)} {b c : Nat} {G G' : Hp}
theorem RS.mono (h : RS T p g l us rs ws os b G) (k : b ≤ c) : RS T p g l us rs ws os c G := ⟨h.src.mono k, h.good, h.rows, h.lines, h.ok, h.tabs⟩
theorem RS.same (h : RS T p g l us rs ws os b G) (s : Same G G') : RS T p g l us rs ws os b G' := ⟨h.src.same s, s _ _ h.good, h.rows.same s, s _ _ h.lines, h.ok.kin s.kin, h.tabs.same s⟩
theorem RS.ext (h : RS T p g l us rs ws os b G) (s : ExtN G G') (t : Tabs T G') : RS T p g l us rs ws os b G' := by
  refine ⟨?_, s _ _ h.good fun _ z => (nomatch z), h.rows.kin s.kin, s _ _ h.lines fun _ z => (nomatch z), h.ok.kin s.kin, t⟩
  obtain ⟨A, B, t0, e, r⟩ := h.src
  exact ⟨A, B, t0, s _ _ e fun _ z => (nomatch z), r⟩
theorem RS.but (h : RS T p g l us rs ws os b G) (gp : g ≠ p) (lp : l ≠ p) (s : But p G G') (q : Src G' p c) : RS T p g l us rs ws os c G' :=
  ⟨q, s _ _ gp h.good, h.rows.kin (q.kinB h.src s), s _ _ lp h.lines, h.ok.kin (q.kinB h.src s), h.tabs.but s fun u e => by
    obtain ⟨xs, e'⟩ := h.src.some
    rw [e] at e'
    exact ⟨xs, Option.some.inj e'⟩⟩
end
end Tr4


namespace Rng
open PySem L2 Bag
theorem TabAt.but {C : Addr} {H H' : Hp} {o c : Addr} {ss : List Row} {fs : List Str} (T : TabAt C H o ss fs) (b : But c H H') (h : (∃ zs, H c = some (.lst zs)) ∨ H c = none) : TabAt C H' o ss fs := by
  obtain ⟨dx, p, q, d, ys, h1, h2, h3, h4⟩ := T
  have ne : ∀ {x : Addr} {u : HO}, H x = some u → (∀ zs, u ≠ .lst zs) → x ≠ c := fun {x u} e n z => by
    rw [z] at e
    rcases h with ⟨zs, k⟩ | k
    · rw [k] at e
      exact n zs (Option.some.inj e).symm
    · rw [k] at e
      cases e
  exact ⟨dx, p, q, d, ys, b _ _ (ne h1 fun _ z => by cases z) h1, b _ _ (ne h2 fun _ z => by cases z) h2, h3.but b (fun ys e => by
    rcases h with ⟨zs, k⟩ | k
    · rw [k] at e; cases e
    · rw [k] at e; cases e), b _ _ (ne h4 fun _ z => by cases z) h4⟩
theorem TabAt.same {C : Addr} {H H' : Hp} {o : Addr} {ss : List Row} {fs : List Str} (T : TabAt C H o ss fs) (s : Same H H') : TabAt C H' o ss fs := by
  obtain ⟨dx, p, q, d, ys, h1, h2, h3, h4⟩ := T
  exact ⟨dx, p, q, d, ys, s _ _ h1, s _ _ h2, h3.same s, s _ _ h4⟩
theorem rows_eqv : ∀ rs ss : List Row, PyData.eqvAll (rs.map fun r => .tuple (rowD r)) (ss.map fun r => .tuple (rowD r)) = decide (rs = ss)
  | [], [] => rfl
  | [], s :: ss => by simp [PyData.eqvAll]
  | r :: rs, [] => by simp [PyData.eqvAll]
  | r :: rs, s :: ss => by
    rw [List.map_cons, List.map_cons, PyData.eqvAll, row_eqv, rows_eqv rs ss]
    by_cases a : r = s <;> by_cases b : rs = ss <;> simp [a, b]
/-- what a new table promises -/
def spMade (C : Addr) (rs : List Row) (H : Hp) (Q : VK) : Prop := ∀ (o : Addr) (ss : List Row) (fs : List Str) (H' : Hp), TabOf rs ss fs → TabAt C H' o ss fs → H o = none → Same H H' → Q (.ref o) H'
theorem made_at {C : Addr} {H : Hp} {xs : List V} {rs : List Row} {Q : VK} {E : XK} (tr : TupsAt rowV H xs rs) (G : Good rs) (q : spMade C rs H Q) (x dx : Addr) (nx : H x = none) (nd : H dx = none) (ne : dx ≠ x) :
    ∃ ws rest, V.ref x :: xs = ws ++ rest ∧ ws.length = (["self"] : List Str).length ∧ rest.length ≤ sizeLine ∧ ∀ p, (upd (upd H dx (.own x)) x (.ins C dx [])) p = Option.none →
      spInit C (ws ++ [V.ref p]) (upd (upd (upd H dx (.own x)) x (.ins C dx [])) p (.tup rest)) (fun v H2 => v = .non ∧ Q (.ref x) H2) E := by
  refine ⟨[V.ref x], xs, rfl, rfl, ?_, fun p np => ?_⟩
  · rw [tr.len, sizeLine_eq]
    have := G.len
    omega
  have s1 : Same H (upd (upd H dx (.own x)) x (.ins C dx [])) := fun a o e => by rw [upd_ne (ne_of_none e nx), upd_ne (ne_of_none e nd)]; exact e
  have s2 := s1.trans (same_put (o := .tup xs) np)
  have npx : x ≠ p := fun z => by rw [← z, upd_same] at np; cases np
  refine ⟨x, p, dx, xs, rs, rfl, by rw [upd_ne npx]; exact upd_same, upd_same, tr.same s2, G, fun ss fs H' T A b => ⟨rfl, q x ss fs H' T A nx fun a o e => b a o (fun z => by rw [z, nx] at e; cases e) (s2 a o e)⟩⟩
def spOf (C : Addr) : Sp := fun vs H Q _ => ∃ (t : Addr) (xs : List V) (rs : List Row), vs = [.ref t] ∧ H t = some (.tup xs) ∧ TupsAt rowV H xs rs ∧ Good rs ∧ spMade C rs H Q
def spTable (C : Addr) : Sp := fun vs H Q _ => ∃ (l : Addr) (xs : List V) (rs : List Row), vs = [.ref l] ∧ H l = some (.lst xs) ∧ TupsAt rowV H xs rs ∧ Good rs ∧ spMade C rs H Q
def spLenT (C : Addr) : Sp := fun vs H Q _ => ∃ (o : Addr) (ss : List Row) (fs : List Str), vs = [.ref o] ∧ TabAt C H o ss fs ∧ Q (.int ss.length) H
/-- a table's text -/
def titleOf (n : Nat) : Str := Str.ofString "Table(" ++ Str.ofString (toString (n : Int)) ++ Str.ofString " rows)"
def spReprT (C : Addr) : Sp := fun vs H Q _ => ∃ (o : Addr) (ss : List Row) (fs : List Str), vs = [.ref o] ∧ TabAt C H o ss fs ∧ ss.length ≤ 1000 ∧ Q (.str (titleOf ss.length)) H
def spInT (K : PySem.W.Frag) (C : Addr) : Sp := fun vs H Q _ => ∃ (o : Addr) (x : V) (ss : List Row) (fs : List Str), vs = [.ref o, x] ∧ TabAt C H o ss fs ∧ (∀ r ∈ ss, isName r.1 = true) ∧
  ((RowB K H x false ∧ ∀ H', Same H H' → Q (.bl false) H') ∨ ∃ p r, x = .ref p ∧ H p = some (.tup (rowV r)) ∧ isName r.1 = true ∧ ∀ H', Same H H' → Q (.bl (decide (r ∈ ss))) H')
def spEqT (K : PySem.W.Frag) (C : Addr) : Sp := fun vs H Q _ => ∃ (o : Addr) (y : V) (ss : List Row) (fs : List Str), vs = [.ref o, y] ∧ TabAt C H o ss fs ∧ (∀ r ∈ ss, isName r.1 = true) ∧
  ((∃ o2 ss2 fs2, y = .ref o2 ∧ TabAt C H o2 ss2 fs2 ∧ (∀ r ∈ ss2, isName r.1 = true) ∧ Q (.bl (decide (ss = ss2))) H) ∨ ∃ t, TyX K H y t ∧ PySem.W.kitOne K t (.ref C) = some false ∧ Q (.bl false) H)
theorem row_name {K : PySem.W.Frag} {H : Hp} {p : Addr} {r : Row} (e : H p = some (.tup (rowV r))) (n : isName r.1 = true) : RowB K H (.ref p) true := by
  refine .inr (.inr ⟨p, _, _, _, true, true, true, rfl, e, .inl ⟨r.1, rfl, ?_, n.symm⟩, fun _ _ => .int _, fun _ _ => .int _, rfl⟩)
  unfold isName at n
  simp only [Bool.and_eq_true, decide_eq_true_eq] at n
  exact Nat.le_trans (show r.1.length ≤ 8 from n.1) (by decide)
/-- x in t, t a tuple of data -/
def rInT (K : PySem.W.Frag) : R2 := fun x y H Q => ∃ d ds, Dp K H x d ∧ Dp K H y (.tuple ds) ∧ SeqAt.shaped d = true ∧ SeqAt.shaped (.tuple ds) = true ∧ Q (.bl (ds.any fun z => PyData.eqv z d)) H
theorem op_inT {X : Cx} (hu : X.A.units + 65 < cLine) : OpR X (compareOp .In) (rInT X.K) := by
  intro pins s σ H x y v u Q I rx ry h
  obtain ⟨d, ds, hd, he, sd, se, q⟩ := h
  obtain ⟨as, r1⟩ := Dp.reads I d x v hd rx
  obtain ⟨bs, r2⟩ := Dp.reads I (.tuple ds) y u he ry
  refine SeqAt.in_tuple_reads r2 r1 (by have := SeqAt.canLay_of_shaped se; simpa only [PyData.canLay0] using this) (SeqAt.canLay_of_shaped sd) ?_ ⟨.bl _, H, I, rfl, q⟩
  have h1 := SeqAt.depth_of_shaped sd
  have h2 : min (PyData.depthAll ds) d.depth ≤ d.depth := Nat.min_le_right _ _
  omega
/-- what isinstance asks of the class of tables -/
structure Ti (K : PySem.W.Frag) (C : Addr) : Prop where
  ca : PySem.W.findIn K (.ref C) "__class__" = some (some (.builtin "object.__class__"))
  cn : PySem.W.specialIn K (.builtin "object.__class__") "__get__" = some (some (.builtin "getset_descriptor.__get__"))
  ct : PySem.W.takesIn K (.builtin "object.__class__") = some true
  cm : PySem.W.mroIn K C (.type "object") = some true
theorem own_kit {K : PySem.W.Frag} {C : Addr} : PySem.W.kitOne K (.ref C) (.ref C) = some true := by
  unfold PySem.W.kitOne
  rw [if_pos (by simp)]
end Rng


namespace Tr4
open PySem PySem.Spec PyProof.Rows L2 LamX Gd Rng Bag
theorem int_fits {i : Int} (h : i.natAbs < 2 ^ 100) : Fits 80000 40 (.int i) := by
  have l : i.natAbs.log2 < 101 := by
    by_cases z : i.natAbs = 0
    · rw [z]; decide
    · exact (Nat.log2_lt z).mpr (Nat.lt_of_lt_of_le h (by decide))
  refine ⟨?_, ?_, ?_, ?_⟩
  · have e := int_text_length_le (k := 101) (by decide) l
    unfold PyData.leavesShort
    refine decide_eq_true ?_
    show (Str.ofString (toString i)).length ≤ 201
    rw [PySem.ofString_length]
    omega
  · unfold PyData.showable
    exact decide_eq_true (by omega)
  · unfold PyData.weight
    split <;> omega
  · unfold PyData.depth
    omega
theorem none_fits : Fits 80000 40 .none := by
  refine ⟨?_, ?_, ?_, ?_⟩
  · unfold PyData.leavesShort; rfl
  · unfold PyData.showable; rfl
  · unfold PyData.weight; omega
  · unfold PyData.depth; omega
/-- two texts in a list -/
abbrev twoD (a b : Str) : PyData := .list [.str a, .str b]
theorem two_data {K : PySem.W.Frag} {H : Hp} {p : Addr} {a b : Str} (e : H p = some (.lst [.str a, .str b])) : Dp K H (.ref p) (twoD a b) := .lst (SqL.of e) (.cons (.str a) (.cons (.str b) .nil))
theorem two_shaped {a b : Str} (ha : PyData.strOk a = true) (hb : PyData.strOk b = true) : SeqAt.shaped (twoD a b) = true := by
  unfold SeqAt.shaped twoD
  simp [PyData.canLay0, PyData.canLayAll0, PyData.depth, PyData.depthAll, ha, hb]
theorem two_eqv (a b : Str) : PyData.eqv (twoD a b) (twoD a b) = true := by
  simp [twoD, PyData.eqv, PyData.eqvAll]
/-- a word and rows in a list -/
abbrev wrD (a : Str) (ss : List Rng.Row) : PyData := .list [.str a, .tuple (ss.map fun r => .tuple (rowD r))]
theorem wr_data {K : PySem.W.Frag} {H : Hp} {p q : Addr} {a : Str} {ys : List V} {ss : List Rng.Row} (e : H p = some (.lst [.str a, .ref q])) (f : H q = some (.tup ys)) (t : TupsAt rowV H ys ss) : Dp K H (.ref p) (wrD a ss) := .lst (SqL.of e) (.cons (.str a) (.cons (.tup (SqT.of f) (t.data row_data)) .nil))
theorem wr_shaped {a : Str} {ss : List Rng.Row} (ha : PyData.strOk a = true) (h : ∀ q ∈ ss, PyData.strOk q.1 = true) : SeqAt.shaped (wrD a ss) = true := by
  have l := rows_lay ss h
  have d := rows_deep ss
  unfold SeqAt.shaped wrD
  rw [Bool.and_eq_true, decide_eq_true_eq]
  refine ⟨by simp [PyData.canLay0, PyData.canLayAll0, ha, l], ?_⟩
  simp only [PyData.depth, PyData.depthAll]
  omega
theorem wr_eqv {a : Str} {ss : List Rng.Row} (ha : PyData.strOk a = true) (h : ∀ q ∈ ss, PyData.strOk q.1 = true) : PyData.eqv (wrD a ss) (wrD a ss) = true := SeqAt.eqv_refl _ (SeqAt.canLay_of_shaped (wr_shaped ha h))
theorem ints_ok : ∀ k : Nat, k ≤ 20 → PyData.strOk (PyData.int (k : Nat)).shown = true := by
  have key : ∀ m : Fin 21, PyData.strOk (PyData.int ((m.val : Nat) : Int)).shown = true := by decide +kernel
  exact fun k h => key ⟨k, by omega⟩
/-- what was told of the lines -/
def ToldN (G : Hp) (D : Addr) (at_ : V) (os : List (Option Rng.Row)) : Prop :=
  (∃ k : Nat, at_ = .int (k : Nat) ∧ BadAt os k ∧ G D = some (.lst [.str "rows", .str (PyData.int (k : Nat)).shown])) ∨
  ∃ (rs ss : List Rng.Row) (fs : List Str) (q : Addr) (ys : List V), at_ = .int (-1) ∧ AllFine os rs ∧ TabOf rs ss fs ∧ G D = some (.lst [.str "given", .ref q]) ∧ G q = some (.tup ys) ∧ TupsAt rowV G ys ss
/-- no tuple: also an own instance -/
def NoTupC (C : Addr) (H : Hp) (v : V) : Prop := NoTup H v ∨ ∃ a dx fs, v = .ref a ∧ H a = some (.ins C dx fs)
theorem NoTupC.ext {C : Addr} {H H' : Hp} {v : V} (h : NoTupC C H v) (s : ExtN H H') : NoTupC C H' v := by
  rcases h with h | ⟨a, dx, fs, e, h⟩
  · exact .inl (h.kin s.kin)
  · exact .inr ⟨a, dx, fs, e, s _ _ h fun _ z => (nomatch z)⟩
theorem NoTupC.but {C p : Addr} {H H' : Hp} {v : V} {b c : Nat} (h : NoTupC C H v) (s : But p H H') (q : Src H p b) (q' : Src H' p c) : NoTupC C H' v := by
  rcases h with h | ⟨a, dx, fs, e, h⟩
  · exact .inl (h.kin (q'.kinB q s))
  · obtain ⟨xs, e'⟩ := q.some
    exact .inr ⟨a, dx, fs, e, s _ _ (fun z => by rw [z, e'] at h; cases h) h⟩
theorem NoTupC.ty {K : PySem.W.Frag} {C : Addr} {H : Hp} {v : V} (h : NoTupC C H v) (Z : Cls K C) (Y : Ti K C) (k : PySem.W.kitOne K (.ref C) (.type "tuple") = some false) : ∃ ty, TyX K H v ty ∧ PySem.W.kitOne K ty (.type "tuple") = some false := by
  rcases h with h | ⟨a, dx, fs, rfl, h⟩
  · exact h.ty
  · exact ⟨_, .base (.ins h Z Y.ca Y.cn Y.ct Y.cm), k⟩
def spRightT (T : List (Addr × Str)) : Sp := fun vs H Q _ => ∃ (p : Addr) (b : Nat), vs = [.ref p] ∧ Src H p b ∧ b ≤ 700000 ∧ Tabs T H ∧ ∀ H', ButN p H H' → Src H' p (b + 600) → Tabs T H' → Q (.bl true) H'
theorem none_allfine {os : List (Option Rng.Row)} {rs : List Rng.Row} (h : AllFine (none :: os) rs) : False := by
  have e := h.1
  cases rs with
  | nil => cases e
  | cons r rs => cases e
theorem none_bad (os : List (Option Rng.Row)) : BadAt (none :: os) 0 := ⟨[], ⟨rfl, List.nodup_nil⟩, .inl rfl⟩
end Tr4


namespace Tr4
open PySem PySem.Spec PyProof.Rows L2 LamX Gd Rng Bag
theorem pe_imp {X : Cx} {e : Expr} {t t1 : TE} (h : PE X e t) (k : ∀ σ H Q, t1 σ H Q → t σ H Q) : PE X e t1 := ⟨fun pins s σ H Q I q => h.run pins s σ H Q I (k _ _ _ q)⟩
def sndOf : Stmt → Expr
  | .Assign _ (.Tuple (_ :: e :: _) _ _) _ => e
  | _ => .Constant .none 0 ⟨0, 0, 0, 0⟩
def tTimes (p : Addr) : TE := fun σ G Q => ∃ (lt g l : Addr) (x3 x4 x5 x7 : Option V) (us : List V) (rs : List Rng.Row) (b : Nat), σ = [some (.ref p), some (.ref lt), some (.ref g), x3, x4, x5, some (.ref l), x7] ∧ Src G p b ∧ b ≤ 800000 ∧ G g = some (.lst us) ∧ g ≠ p ∧ TupsAt rowV G us rs ∧ (∀ r ∈ rs, isName r.1 = true) ∧ rs.length ≤ 7 ∧
  ∀ (n : Int) (G' : Hp), 0 ≤ n → n ≤ 2 → (0 < n → rs ≠ []) → But p G G' → Src G' p (b + 1) → Q (.int n) G'
theorem ixN_at {n j : Nat} (h : j < n) : ixN n (j : Int) = some j := by
  unfold ixN
  rw [if_pos (by omega), if_pos (by omega), Int.toNat_natCast]
end Tr4


namespace Tr4
open PySem PySem.Spec PyProof.Rows L2 LamX Gd Rng Bag
def spHand (T : List (Addr × Str)) : Sp := fun vs H Q _ => vs = [] ∧ Tabs T H ∧ ∀ H', ExtN H H' → Tabs T H' → Q (.bl true) H'
theorem ext0 {L : Addr} {H G : Hp} (b : ButN L H G) (h : ∀ o, H L = some o → (∀ ps, o ≠ .tbl ps) → False) : ExtN H G := fun c o e k => b c o (fun z => h o (z ▸ e) k) e k
end Tr4


namespace K13
open PySem L2 Rng Bag Gd LamX Tr4
section
variable {P : Program} {w : World} {K : PySem.W.Frag} {mg : Str → Option Value} {base : Heap}
/-- what a drawn setting says, at k -/
structure KnownAt (H : Hp) (p k lp lo : Addr) (g a : V) (n : Option (Int × Int)) (us : List V) (rs : List (Str × Int)) (os : List Str) : Prop where
  k : H k = some (.lst [g, .ref lp, .ref lo, a])
  np : lp ≠ p
  no : lo ≠ p
  net : NetIs H g (some n)
  gp : g ≠ .ref p
  pairs : H lp = some (.lst us)
  pl : us.length ≤ 3
  prs : TupsAt plcV H us rs
  prn : ∀ r ∈ rs, isName r.1 = true ∧ 1 ≤ r.2 ∧ r.2 ≤ 1000000000
  prd : (rs.map Prod.fst).Nodup
  ons : H lo = some (.lst (os.map V.str))
  ol : os.length ≤ 3
  ois : ∀ z ∈ os, isName z = true
  od : os.Nodup
  og : os = [] ∨ n ≠ none
  at_ : a = .non ∨ ∃ z, a = .str z ∧ isName z = true
def spKnown : Sp := fun vs H Q _ => ∃ (p lt : Addr) (b : Nat) (zs : List Str), vs = [.ref p, .ref lt] ∧ Src H p b ∧ b ≤ 800000 ∧ lt ≠ p ∧ H lt = some (.lst (zs.map V.str)) ∧ zs.length ≤ 3 ∧ (∀ z ∈ zs, isName z = true) ∧ zs.Nodup ∧
  ∀ (k lp lo : Addr) (g a : V) (n : Option (Int × Int)) (us : List V) (rs : List (Str × Int)) (os : List Str) (H' : Hp), KnownAt H' p k lp lo g a n us rs os → But p H H' → Src H' p (b + 30) → Q (.ref k) H'
abbrev sKn : Stmt := top 53
theorem scKn : FnScope ["_law_source_here", "_law_tags_here", "_law_net_here", "_law_pairs", "_law_ons", "_law_tag_here"] ["_law_source_here", "_law_tags_here"] (defScope sKn) := ⟨rfl, rfl, rfl, by decide +kernel, rfl, by decide +kernel, by decide +kernel⟩
/-- a grid or None -/
def tNetP (p : Addr) : TE := fun σ H Q => ∃ (b : Nat) (x1 x2 x3 x4 x5 : Option V), σ = [some (.ref p), x1, x2, x3, x4, x5] ∧ Src H p b ∧ b ≤ 800000 ∧ ∀ (g : V) (n : Option (Int × Int)) (H' : Hp), NetIs H' g (some n) → g ≠ .ref p → But p H H' → Src H' p (b + 3) → Q g H'
/-- some of the names or none -/
def tOnsP (p lt : Addr) (zs : List Str) : TE := fun σ H Q => ∃ (b : Nat) (g : V) (x3 x4 x5 : Option V), σ = [some (.ref p), some (.ref lt), some g, x3, x4, x5] ∧ Src H p b ∧ b ≤ 900000 ∧ H lt = some (.lst (zs.map V.str)) ∧ lt ≠ p ∧ zs.length ≤ 3 ∧ ∀ (lo : Addr) (os : List Str) (H' : Hp), lo ≠ p → H' lo = some (.lst (os.map V.str)) → os.length ≤ 3 → os.Sublist zs → (g = .non → os = []) → But p H H' → Src H' p (b + 4) → Q (.ref lo) H'
theorem ok_known {f fP fO fG : Addr} {fd dP dO dG : FuncData} (F : Fun K "_law_known" "_law_known" sKn f fd) (T : Bt mg) (FP : Fun K "_law_pick" "_law_pick" sPick fP dP) (bP : Binds K dP ["_law_source_here", "_law_many"] []) (mP : mg "_law_pick" = some (.ref fP))
    (FO : Fun K "_law_one" "_law_one" sOne fO dO) (bO : Binds K dO ["_law_source_here", "_law_things"] []) (mO : mg "_law_one" = some (.ref fO)) (FG : Fun K "_law_net" "_law_net" sNet fG dG) (bG : Binds K dG ["_law_source_here"] []) (mG : mg "_law_net" = some (.ref fG)) : FnOk P w K mg base CX0 4 f fd ["_law_source_here", "_law_tags_here"] spKnown := by
  have GP : FnOk P w K mg base CX0 1 fP dP ["_law_source_here", "_law_many"] spPick := ok_pick FP T
  have GO : FnOk P w K mg base CX0 2 fO dO ["_law_source_here", "_law_things"] (spOne K) := ok_one FO T FP bP mP
  have GG : FnOk P w K mg base CX0 3 fG dG ["_law_source_here"] spNet := ok_net FG T FP bP mP FO bO mO
  refine F.ok scKn (fun vs H Q E h => ?_) (fun cdv A outer s H vs Q E hr h => ?_)
  · obtain ⟨p, lt, b, zs, rfl, _⟩ := h
    rfl
  · obtain ⟨p, lt, b, zs, rfl, hs, hb, ntp, ht, lz, hz, dz, q⟩ := h
    have hr1 : Room 1 _ := hr.mono (by decide)
    have hr2 : Room 2 _ := hr.mono (by decide)
    refine ⟨_, pss_cons (ps_set (i := 2) scKn.nd rfl (Or.inl rfl) (pe_imp (t1 := tNetP p) (pe_ifExp (pt_cmpR op_eq (pe_call GP hr1 rfl mP FP.kp bP .nil pass0 (pa_cons (pv 0) (pa_cons pe_int pa_nil))) pe_int (nomark _)) (pe_call GG hr rfl mG FG.kp bG .nil pass0 (pa_cons (pv 0) pa_nil)) pe_non) (fun σ G Q h => ?nt)))
      (pss_cons (ps_setLc (i := 3) (own := [("_law_tag_here", 5)]) (g := gName 5) (tt := _) rfl scKn.nd rfl rfl (sw_true rfl rfl rfl (by decide +kernel)) (pi_list (pv 1)) (blkOk_by (own := [("_law_tag_here", 5)]) (N := ["_law_source_here", "_law_tags_here", "_law_net_here", "_law_pairs", "_law_ons", "_law_tag_here"]) (sc := defScope sKn) (by decide +kernel)) (fun _ _ _ _ _ => pg_name (i := 5) scKn.nd rfl (Or.inl rfl)) (fun _ _ _ _ _ => pts_one (pt_cmpR op_eq (pe_call GP hr1 rfl mP FP.kp bP .nil pass0 (pa_cons (pv 0) (pa_cons pe_int pa_nil))) pe_int (nomark _))) (fun _ _ _ _ _ => (pe_tup (pa_cons (pv 5) (pa_cons (pe_call GO hr2 rfl mO FO.kp bO .nil pass0 (pa_cons (pv 0) (pa_cons (pe_lst (pa_cons (pe_int) (pa_cons (pe_int) (pa_cons (pe_int) (pa_cons (pe_int) (pa_cons (pe_op op_pow pe_int pe_int) pa_nil)))))) pa_nil))) pa_nil)))))
      (pss_cons (ps_set (i := 4) scKn.nd rfl (Or.inl rfl) (pe_imp (t1 := tOnsP p lt zs) (pe_ifExp (pt_cmp (pc_notN (pv 2))) (pe_lc (own := [("_law_tag_here", 5)]) (g := gName 5) (tt := _) rfl scKn.nd (pi_list (pv 1)) (blkOk_by (own := [("_law_tag_here", 5)]) (N := ["_law_source_here", "_law_tags_here", "_law_net_here", "_law_pairs", "_law_ons", "_law_tag_here"]) (sc := defScope sKn) (by decide +kernel)) (fun _ _ _ _ _ => pg_name (i := 5) scKn.nd rfl (Or.inl rfl)) (fun _ _ _ _ _ => pts_one (pt_cmpR op_eq (pe_call GP hr1 rfl mP FP.kp bP .nil pass0 (pa_cons (pv 0) (pa_cons pe_int pa_nil))) pe_int (nomark _))) (fun _ _ _ _ _ => pv 5)) (pe_lst pa_nil)) (fun σ G Q h => ?on)))
      (pss_one (ps_ret (pe_lst (pa_cons (pv 2) (pa_cons (pv 3) (pa_cons (pv 4) (pa_cons (pe_call GO hr2 rfl mO FO.kp bO .nil pass0 (pa_cons (pv 0) (pa_cons (pe_op op_cat (pv 1) (pe_lst (pa_cons pe_non pa_nil))) pa_nil))) pa_nil))))))))), ?_⟩
    case nt =>
      obtain ⟨b, x1, x2, x3, x4, x5, rfl, hs, hb, q⟩ := h
      refine ⟨_, rfl, p, 2, b, rfl, hs, by omega, by decide, by decide, fun d H1 d0 d1 B1 S1 => ⟨rfl, _, rfl, ite2 (fun c => ?_) (fun c => ?_)⟩⟩
      · refine ⟨_, rfl, p, _, rfl, S1, by omega, fun t i j H2 e i1 i2 j0 j1 B2 S2 => q (.ref t) (some (i, j)) H2 (.net e i1 i2 j0 j1) (fun z => ?_) (B1.trans B2) (S2.mono (by omega))⟩
        obtain ⟨xs, e'⟩ := S2.some
        cases z
        rw [e] at e'
        cases e'
      · exact q .non none H1 .non (fun z => nomatch z) B1 (S1.mono (by omega))
    case on =>
      obtain ⟨b, g, x3, x4, x5, rfl, hs, hb, ht, ntp, lz, q⟩ := h
      refine ⟨_, rfl, !decide (g = .non), rfl, ?_⟩
      by_cases hn : g = .non
      · rw [decide_eq_true hn]
        refine iteF ⟨Nat.zero_le _, fun l nl => q l [] _ (hs.ne nl) upd_same (Nat.zero_le _) (List.nil_sublist _) (fun _ => rfl) ((same_put nl).but p) ((hs.same (same_put nl)).mono (by omega))⟩
      · rw [decide_eq_false hn]
        refine iteT ⟨_, rfl, lt, rfl, ⟨_, SqL.of ht⟩, fun D nD => lc_it (walk_list (K := K) (a := lt) (xs := zs.map V.str)) (fun i H' => But p G H' ∧ Src H' p (b + i) ∧ ∃ os : List Str, os.length ≤ i ∧ os.Sublist (zs.take i) ∧ H' D = some (.lst (os.map V.str))) ⟨(same_put nD).but p, hs.same (same_put nD), [], Nat.zero_le _, List.nil_sublist _, upd_same⟩ (fun _ _ _ h => SqL.of (h.1 _ _ ntp ht)) ?_ ?_⟩
        · rintro i x H1 H2 hi ⟨B1, S1, os, lo, ho, e1⟩ ⟨rfl, hx⟩
          have nDp : D ≠ p := hs.ne nD
          have hi3 : i < 3 := by rw [List.length_map] at hi; omega
          obtain ⟨z, hz1, rfl⟩ : ∃ z, zs[i]? = some z ∧ x = V.str z := by
            rw [List.getElem?_map] at hx
            cases e : zs[i]? with
            | none => rw [e] at hx; cases hx
            | some z => rw [e] at hx; exact ⟨z, rfl, (Option.some.inj hx).symm⟩
          refine ⟨rfl, _, rfl, p, 2, _, rfl, S1, by omega, by decide, by decide, fun d H3 d0 d1 B3 S3 => ⟨rfl, _, rfl, ite2 (fun c => ?_) (fun c => ?_)⟩⟩
          · refine ⟨_, rfl, _, B3 _ _ nDp e1, ?_, ?_, ?_, os ++ [z], ?_, ?_, ?_⟩
            · rw [List.length_map]
              exact small1000 (by omega)
            · exact fun a o na e => by rw [upd_ne (ne_of_none e nD)]; exact B3 _ _ na (B1 _ _ na e)
            · obtain ⟨A0, B0, t0, e0, r⟩ := S3
              exact ⟨A0, B0, t0, by rw [upd_ne nDp.symm]; exact e0, r⟩
            · rw [List.length_append]
              exact Nat.succ_le_succ lo
            · rw [List.take_add_one, hz1]
              exact ho.append (List.Sublist.refl _)
            · rw [upd_same, List.map_append]
              rfl
          · exact ⟨B1.trans B3, S3, os, by omega, ho.trans (by rw [List.take_add_one]; exact List.sublist_append_left _ _), B3 _ _ nDp e1⟩
        · rintro H1 ⟨B1, S1, os, lo, ho, e1⟩
          rw [List.length_map] at lo S1 ho
          rw [List.take_length] at ho
          exact q D os H1 (hs.ne nD) e1 (by omega) ho (fun z => absurd z hn) B1 (S1.mono (by omega))
    refine ⟨b, _, _, _, _, _, by rfl, hs, by omega, fun g n H1 ng gp B1 S1 => ?_⟩
    have ht1 := B1 _ _ ntp ht
    refine ⟨_, rfl, lt, rfl, ⟨_, SqL.of ht1⟩, fun D nD => lc_it (walk_list (K := K) (a := lt) (xs := zs.map V.str)) (fun i H' => But p H1 H' ∧ Src H' p (b + 3 + 3 * i) ∧ ∃ (us : List V) (rs : List (Str × Int)), us.length ≤ i ∧ (TupsAt plcV H' us rs ∧ (∀ r ∈ rs, 1 ≤ r.2 ∧ r.2 ≤ 1000000000) ∧ (rs.map Prod.fst).Sublist (zs.take i)) ∧ H' D = some (.lst us)) ⟨(same_put nD).but p, S1.same (same_put nD), [], [], Nat.zero_le _, ⟨.nil, (fun _ h => nomatch h), List.nil_sublist _⟩, upd_same⟩ (fun _ _ _ h => SqL.of (h.1 _ _ ntp ht1)) ?_ ?_⟩
    · rintro i x Hx H2 hi ⟨B2, S2, us, rs, lu, ⟨hu, hr0, hsu⟩, e2⟩ ⟨rfl, hx⟩
      have nDp : D ≠ p := S1.ne nD
      have hi3 : i < 3 := by rw [List.length_map] at hi; omega
      obtain ⟨z, hz1, rfl⟩ : ∃ z, zs[i]? = some z ∧ x = V.str z := by
        rw [List.getElem?_map] at hx
        cases e : zs[i]? with
        | none => rw [e] at hx; cases hx
        | some z => rw [e] at hx; exact ⟨z, rfl, (Option.some.inj hx).symm⟩
      have nz : isName z = true := hz z (List.mem_of_getElem? hz1)
      refine ⟨rfl, _, rfl, p, 2, _, rfl, S2, by omega, by decide, by decide, fun d H4 d0 d1 B4 S4 => ⟨rfl, _, rfl, ite2 (fun c => ?_) (fun c => ?_)⟩⟩
      · refine ⟨_, rfl, _, rfl, _, _, rfl, rfl, ⟨by decide, by decide, by decide⟩, (by show 5 ≤ sizeLine; decide), fun l nl => ⟨p, .ref l, _, rfl, S4.same (same_put nl), by omega, .inl ⟨l, _, rfl, S4.ne nl, SqL.of upd_same, by show 0 < 5; decide, by show 5 ≤ 1000; decide, fun y H5 hy B5 S5 => ?_⟩⟩⟩
        have hy' : y ∈ ([1, 2, 3, 7, 1000000000] : List Int).map V.int := hy
        obtain ⟨m, hm, rfl⟩ := List.mem_map.mp hy'
        have m0 : 1 ≤ m ∧ m ≤ 1000000000 := by
          have : ∀ m ∈ ([1, 2, 3, 7, 1000000000] : List Int), 1 ≤ m ∧ m ≤ 1000000000 := by decide
          exact this m hm
        refine ⟨(by show 2 ≤ sizeLine; decide), fun t nt => ?_⟩
        have B25 : But p H2 H5 := B4.trans (((same_put nl).but p).trans B5)
        have e5 := B25 _ _ nDp e2
        have tD : D ≠ t := ne_of_none e5 nt
        have S6 := S5.same (same_put (o := .tup [.str z, .int m]) nt)
        have e6 := (same_put (o := .tup [.str z, .int m]) nt) _ _ e5
        have B26 : But p H2 (upd H5 t (.tup [.str z, .int m])) := B25.trans ((same_put nt).but p)
        have ft : (upd H5 t (.tup [.str z, .int m])) t = some (.tup [.str z, .int m]) := upd_same
        revert S6 e6 B26 ft
        generalize upd H5 t (.tup [.str z, .int m]) = H6
        intro S6 e6 B26 ft
        have k26 := S6.kinB S2 B26
        refine ⟨_, e6, ?_, ?_, ?_, us ++ [.ref t], rs ++ [(z, m)], ?_, ?_, ?_⟩
        · exact small1000 (by omega)
        · exact fun a o na e => by rw [upd_ne (ne_of_none e nD)]; exact B26 _ _ na (B2 _ _ na e)
        · obtain ⟨A0, B0, t0, e0, r⟩ := S6.mono (c := b + 3 + 3 * (i + 1)) (by omega)
          exact ⟨A0, B0, t0, by rw [upd_ne nDp.symm]; exact e0, r⟩
        · rw [List.length_append]
          exact Nat.succ_le_succ lu
        · have k67 : Kin H6 (upd H6 D (.lst (us ++ [.ref t]))) := But.kin But.put (fun u e => by rw [e6] at e; exact ⟨_, (Option.some.inj e).symm⟩) fun _ => ⟨_, upd_same⟩
          refine ⟨TupsAt.snoc ((hu.kin k26).kin k67) ((k67 _).2.1 _ ft), fun r hr => ?_, ?_⟩
          · rcases List.mem_append.mp hr with hr | hr
            · exact hr0 r hr
            · obtain rfl := List.mem_singleton.mp hr
              exact m0
          · rw [List.take_add_one, hz1, List.map_append]
            exact hsu.append (List.Sublist.refl _)
        · exact upd_same
      · exact ⟨B2.trans B4, S4.mono (by omega), us, rs, by omega, ⟨hu.kin (S4.kinB S2 B4), hr0, hsu.trans (by rw [List.take_add_one]; exact List.sublist_append_left _ _)⟩, B4 _ _ nDp e2⟩
    · rintro H2 ⟨B2, S2, us, rs, lu, ⟨hu, hr0, hsu⟩, e2⟩
      rw [List.length_map] at lu S2 hsu
      rw [List.take_length] at hsu
      have nDp : D ≠ p := S1.ne nD
      refine ⟨_, _, _, _, _, rfl, S2, by omega, B2 _ _ ntp ht1, ntp, lz, fun lo os H3 nop e3 lo' ho hgo B3 S3 => ?_⟩
      have ht3 := B3 _ _ ntp (B2 _ _ ntp ht1)
      refine ⟨_, rfl, _, rfl, _, rfl, _, rfl, _, rfl, (by show 1 ≤ sizeLine; decide), fun l1 n1 => ⟨lt, l1, _, _, rfl, rfl, (same_put n1) _ _ ht3, upd_same, ?_, fun l2 n2 => ?_⟩⟩
      · rw [List.length_map]
        show zs.length + 1 ≤ sizeLine
        exact Nat.le_trans (by omega : zs.length + 1 ≤ 4) (by decide)
      have s3 : Same H3 (upd (upd H3 l1 (.lst [.non])) l2 (.lst (zs.map V.str ++ [.non]))) := (same_put n1).trans (same_put n2)
      refine ⟨p, .ref l2, _, rfl, S3.same s3, by omega, .inl ⟨l2, _, rfl, (S3.same (same_put n1)).ne n2, SqL.of upd_same, ?_, ?_, fun y H4 hy B4 S4 => ?_⟩⟩
      · rw [List.length_append]
        exact Nat.succ_pos _
      · rw [List.length_append, List.length_map]
        show zs.length + 1 ≤ 1000
        omega
      refine ⟨(by show 4 ≤ sizeLine; decide), fun k nk => ?_⟩
      have k4 : Kin H3 H4 := s3.kin.trans (S4.kinB (S3.same s3) B4)
      have B34 : But p H3 H4 := (s3.but p).trans B4
      have k23 : Kin H2 H3 := S3.kinB S2 B3
      have kk : Kin H4 (upd H4 k (.lst [g, .ref D, .ref lo, y])) := (same_put nk).kin
      have sk : Same H4 (upd H4 k (.lst [g, .ref D, .ref lo, y])) := same_put nk
      refine q k D lo g y n us rs os _ ⟨upd_same, nDp, nop, ng.kin (((S2.kinB S1 B2).trans k23).trans (k4.trans kk)), gp, sk _ _ (B34 _ _ nDp (B3 _ _ nDp e2)), by omega, hu.kin (k23.trans (k4.trans kk)), fun r hr => ⟨hz _ (hsu.mem (List.mem_map_of_mem hr)), hr0 r hr⟩, dz.sublist hsu, sk _ _ (B34 _ _ nop e3), lo', fun z h => hz z (ho.mem h), dz.sublist ho, ?_, ?_⟩ (B1.trans (B2.trans (B3.trans (B34.trans (sk.but p))))) ((S4.same sk).mono (by omega))
      · cases n with
        | none =>
          cases ng
          exact .inl (hgo rfl)
        | some q => exact .inr (fun z => nomatch z)
      · rcases List.mem_append.mp hy with hy | hy
        · obtain ⟨z, h, rfl⟩ := List.mem_map.mp hy
          exact .inr ⟨z, rfl, hz z h⟩
        · exact .inl (List.mem_singleton.mp hy)
end
end K13


namespace K13
open PySem L2 Rng Bag Gd LamX Tr4
section
variable {P : Program} {w : World} {K : PySem.W.Frag} {mg : Str → Option Value} {base : Heap}
theorem str_ext {a b : Str} (h : TL.tl a = TL.tl b) : a = b := by
  cases a with
  | mk a =>
    cases b with
    | mk b => exact congrArg Str.mk (Array.toList_inj.mp h)
theorem app_len (a b : Str) : (a ++ b).length = a.length + b.length := by
  show (a ++ b).cps.size = a.cps.size + b.cps.size
  rw [Str.cps_append, Array.size_append]
theorem big60 : 500 ≤ sizeLine := by decide
theorem join3 (a a' x y : Str) (e : a = a' ++ " ") : a ++ x ++ " " ++ y = Txt.join " " [a', x, y] := by
  rw [TL.join_eq, e]
  show _ = a' ++ " " ++ (x ++ " " ++ y)
  refine str_ext ?_
  simp only [TL.tl_append, List.append_assoc]
theorem join2 (a a' x : Str) (e : a = a' ++ " ") : a ++ x = Txt.join " " [a', x] := by
  rw [TL.join_eq, e]
  rfl
theorem strOk_of (s : String) : PyData.strOk (Str.ofString s) = true := by
  rw [PySem.Str.ofString_eq_toList]
  unfold PyData.strOk
  rw [Array.all_eq_true']
  intro c hc
  rw [List.mem_toArray, List.mem_map] at hc
  obtain ⟨d, _, rfl⟩ := hc
  have h := d.valid
  simp only [UInt32.isValidChar, Nat.isValidChar] at h
  have : d.toNat = d.val.toNat := rfl
  exact decide_eq_true (by omega)
theorem strOk_app {x y : Str} (hx : PyData.strOk x = true) (hy : PyData.strOk y = true) : PyData.strOk (x ++ y) = true := by
  unfold PyData.strOk at *
  rw [Str.cps_append, Array.all_append, hx, hy]
  rfl
theorem strOk_join {s : Str} (hs : PyData.strOk s = true) : ∀ ps : List Str, (∀ p ∈ ps, PyData.strOk p = true) → PyData.strOk (Txt.join s ps) = true
  | ps, h => by
    rw [TL.join_eq]
    induction ps with
    | nil =>
      show PyData.strOk Str.empty = true
      decide +kernel
    | cons p ps ih =>
      cases ps with
      | nil => exact h p List.mem_cons_self
      | cons q r => exact strOk_app (strOk_app (h p List.mem_cons_self) hs) (ih fun z hz => h z (List.mem_cons_of_mem _ hz))
theorem strs_data {K : PySem.W.Frag} {H : Hp} : ∀ zs : List Str, DpAll K H (zs.map V.str) (zs.map PyData.str)
  | [] => .nil
  | z :: zs => .cons (.str z) (strs_data zs)
theorem strs_shaped (zs : List Str) (h : ∀ z ∈ zs, PyData.strOk z = true) : SeqAt.shaped (.list (zs.map PyData.str)) = true := by
  have c : PyData.canLayAll0 (zs.map PyData.str) = true := by
    induction zs with
    | nil => simp [PyData.canLayAll0]
    | cons z zs ih => simp [PyData.canLayAll0, PyData.canLay0, h z List.mem_cons_self, ih fun y hy => h y (List.mem_cons_of_mem _ hy)]
  have d : PyData.depthAll (zs.map PyData.str) ≤ 1 := by
    clear h c
    induction zs with
    | nil => simp [PyData.depthAll]
    | cons z zs ih => simp [PyData.depthAll, PyData.depth]; omega
  unfold SeqAt.shaped
  rw [Bool.and_eq_true, decide_eq_true_eq]
  refine ⟨by simp only [PyData.canLay0]; exact c, ?_⟩
  simp only [PyData.depth]
  omega
theorem parts_ok {n : Option (Int × Int)} {ps : List (Str × Int)} {os : List Str} {a : V} (S : SetOk n ps os a) : ∀ ws ∈ setParts n ps os a, ∀ w ∈ ws, PyData.strOk w = true := by
  intro ws hw
  unfold setParts at hw
  rcases List.mem_append.mp hw with hw | hw
  · rcases List.mem_append.mp hw with hw | hw
    · rcases List.mem_append.mp hw with hw | hw
      · cases n with
        | none => exact nomatch hw
        | some q =>
          obtain rfl := List.mem_singleton.mp hw
          intro w hw
          simp only [List.mem_cons, List.not_mem_nil, or_false] at hw
          rcases hw with rfl | rfl | rfl
          · decide +kernel
          · exact strOk_of _
          · exact strOk_of _
      · obtain ⟨p, hp, rfl⟩ := List.mem_map.mp hw
        intro w hw
        simp only [List.mem_cons, List.not_mem_nil, or_false] at hw
        rcases hw with rfl | rfl | rfl
        · decide +kernel
        · exact name_ok (S.pn p hp).1
        · exact strOk_of _
    · obtain ⟨f, hf, rfl⟩ := List.mem_map.mp hw
      intro w hw
      simp only [List.mem_cons, List.not_mem_nil, or_false] at hw
      rcases hw with rfl | rfl
      · decide +kernel
      · exact name_ok (S.on _ hf)
  · rcases S.at_ with rfl | ⟨z, rfl, nz⟩
    · exact nomatch hw
    · obtain rfl := List.mem_singleton.mp hw
      intro w hw
      simp only [List.mem_cons, List.not_mem_nil, or_false] at hw
      rcases hw with rfl | rfl
      · decide +kernel
      · exact name_ok nz
theorem _root_.Rng.SetOk.perm {n : Option (Int × Int)} {ps ps' : List (Str × Int)} {os os' : List Str} {a : V} (S : SetOk n ps os a) (p : ps'.Perm ps) (o : os'.Perm os) : SetOk n ps' os' a := ⟨S.net, by rw [p.length_eq]; exact S.pl, by rw [o.length_eq]; exact S.ol, fun q h => S.pn q (p.mem_iff.mp h), fun z h => S.on z (o.mem_iff.mp h), S.at_⟩
def spKnownText : Sp := fun vs H Q _ => ∃ (k lp lo : Addr) (g a : V) (n : Option (Int × Int)) (us : List V) (rs : List (Str × Int)) (os : List Str), vs = [.ref k] ∧ H k = some (.lst [g, .ref lp, .ref lo, a]) ∧ NetIs H g (some n) ∧ H lp = some (.lst us) ∧ TupsAt plcV H us rs ∧ H lo = some (.lst (os.map V.str)) ∧ SetOk n rs os a ∧ os.length < 64 ∧
  ∀ (ps : List (Str × Int)) (os' : List Str) (H' : Hp), ps.Perm rs → ps.Pairwise (fun q r => ltR (asRow r) (asRow q) = false) → os'.Perm os → PyProof.Rows.sortedS os' = true → Same H H' → Q (.str (linesOf (setParts n ps os' a))) H'
/-- the end of it -/
def tFin : TE := fun σ H Q => ∃ (l : Addr) (wss : List (List Str)) (x0 x2 x3 : Option V), σ = [x0, some (.ref l), x2, x3] ∧ H l = some (.lst ((wss.map (Txt.join " ")).map V.str)) ∧ wss.length ≤ 202 ∧ (∀ ws ∈ wss, ws.length ≤ 3 ∧ ∀ w ∈ ws, w.length ≤ 11) ∧ (∀ ws ∈ wss, ∀ w ∈ ws, PyData.strOk w = true) ∧ ∀ H', Same H H' → Q (.str (linesOf wss)) H'
def tNetW : TE := fun σ H Q => ∃ (k : Addr) (g : V) (n : Option (Int × Int)) (r : List V) (x1 x2 x3 : Option V), σ = [some (.ref k), x1, x2, x3] ∧ H k = some (.lst (g :: r)) ∧ NetIs H g (some n) ∧ ∀ (l : Addr) (H' : Hp), H' l = some (.lst (((netWords n).map (Txt.join " ")).map V.str)) → Same H H' → Q (.ref l) H'
abbrev sKt : Stmt := top 54
theorem scKt : FnScope ["_law_known_here", "_law_found", "_law_tag_here", "_law_far"] ["_law_known_here"] (defScope sKt) := ⟨rfl, rfl, rfl, by decide +kernel, rfl, by decide +kernel, by decide +kernel⟩
theorem ok_knownText {f : Addr} {fd : FuncData} (F : Fun K "_law_known_text" "_law_known_text" sKt f fd) (T : Bt mg) (nSorted : mg "sorted" = none) : FnOk P w K mg base CX0 2 f fd ["_law_known_here"] spKnownText := by
  refine F.ok scKt (fun vs H Q E h => ?_) (fun cdv A outer s H vs Q E hr h => ?_)
  · obtain ⟨k, lp, lo, g, a, n, us, rs, os, rfl, _⟩ := h
    rfl
  · obtain ⟨k, lp, lo, g, a, n, us, rs, os, rfl, hk, ng, hp, tr, ho, sok, l64, q⟩ := h
    have hu64 := Nat.lt_of_le_of_lt (Nat.add_le_add_left (by decide : 64 ≤ 16 * 1 + 200) _) (Nat.lt_of_le_of_lt (Nat.le_of_eq (Nat.add_assoc _ _ _).symm) hr.un)
    refine ⟨_, pss_cons (ps_set (i := 1) scKt.nd rfl (Or.inl rfl) (pe_imp (t1 := tNetW) (pe_ifExp (pt_cmp (pc_notN (pe_ix ix_list (pv 0) pe_int (fun _ _ => rfl)))) (pe_lst (pa_cons (pe_op op_add_str (pe_op op_add_str (pe_op op_add_str (pe_str) (pe_callTy call_str_int (by rfl) T.nStr PyProof.Rows.boot_str (pa_cons (pe_ix ix_tup (pe_ix ix_list (pv 0) pe_int (fun _ _ => rfl)) pe_int (fun _ _ => rfl)) pa_nil))) (pe_str)) (pe_callTy call_str_int (by rfl) T.nStr PyProof.Rows.boot_str (pa_cons (pe_ix ix_tup (pe_ix ix_list (pv 0) pe_int (fun _ _ => rfl)) pe_int (fun _ _ => rfl)) pa_nil))) pa_nil)) (pe_lst pa_nil)) (fun σ G Q h => ?nw)))
      (pss_cons (ps_set (i := 1) scKt.nd rfl (Or.inl rfl) (pe_op op_cat (pv 1) (pe_lc (own := [("_law_tag_here", 2), ("_law_far", 3)]) (g := gTup K 2 (gCons (gName 2) (gCons (gName 3) gNil))) (tt := tYes) rfl scKt.nd (pi_list (pe_callB cr_sortPlcs (by rfl) nSorted (by decide +kernel) (pa_cons (pe_ix ix_list (pv 0) pe_int (fun _ _ => rfl)) pa_nil))) (blkOk_by (own := [("_law_tag_here", 2), ("_law_far", 3)]) (N := ["_law_known_here", "_law_found", "_law_tag_here", "_law_far"]) (sc := defScope sKt) (by decide +kernel)) (fun _ _ _ _ _ => pg_tup (by rfl) (pgs_cons (pg_name (i := 2) scKt.nd rfl (Or.inl rfl)) (pgs_cons (pg_name (i := 3) scKt.nd rfl (Or.inl rfl)) pgs_nil))) (fun _ _ _ _ _ => pts_nil) (fun _ _ _ _ _ => pe_op op_add_str (pe_op op_add_str (pe_op op_add_str (pe_str) (pv 2)) (pe_str)) (pe_callTy call_str_int (by rfl) T.nStr PyProof.Rows.boot_str (pa_cons (pv 3) pa_nil))))))
      (pss_cons (ps_set (i := 1) scKt.nd rfl (Or.inl rfl) (pe_op op_cat (pv 1) (pe_lc (own := [("_law_tag_here", 2)]) (g := gName 2) (tt := tYes) rfl scKt.nd (pi_list (pe_callB cr_sortedS (by rfl) nSorted (by decide +kernel) (pa_cons (pe_ix ix_list (pv 0) pe_int (fun _ _ => rfl)) pa_nil))) (blkOk_by (own := [("_law_tag_here", 2)]) (N := ["_law_known_here", "_law_found", "_law_tag_here", "_law_far"]) (sc := defScope sKt) (by decide +kernel)) (fun _ _ _ _ _ => pg_name (i := 2) scKt.nd rfl (Or.inl rfl)) (fun _ _ _ _ _ => pts_nil) (fun _ _ _ _ _ => pe_op op_add_str (pe_str) (pv 2)))))
      (pss_cons (ps_if (pt_cmp (pc_notN (pe_ix ix_list (pv 0) pe_int (fun _ _ => rfl)))) (pss_one (ps_expr (pe_bm PySem.F.plainAttrs_list PySem.F.slot_list_append PySem.F.type_list_append mt_append (pv 1) (pa_cons (pe_op op_add_str (pe_str) (pe_ix ix_list (pv 0) pe_int (fun _ _ => rfl))) pa_nil)))) pss_nil)
      (pss_one (ps_ret (pe_imp (t1 := tFin) (pe_ifExp (pt_cmpR (op_neD hu64) (pv 1) (pe_lst pa_nil) (nomark _)) (pe_join pe_str (pv 1)) pe_str) (fun σ G Q h => ?fi))))))), ?_⟩
    case nw =>
      obtain ⟨k, g, n, r, x1, x2, x3, rfl, hk, ng, q⟩ := h
      refine ⟨_, rfl, k, _, 0, _, rfl, rfl, SqL.of hk, atI_nat (j := 0) rfl, _, rfl, ?_⟩
      cases ng with
      | non => exact iteF ⟨Nat.zero_le _, fun l nl => q l _ upd_same (same_put nl)⟩
      | @net p s o e s1 s2 o1 o2 =>
        have ls := intT_len (n := s) (by omega) (by omega)
        have lo := intT_len (n := o) (by omega) (by omega)
        have ls' : (Str.ofString (toString s)).length ≤ 11 := ls
        have lo' : (Str.ofString (toString o)).length ≤ 11 := lo
        have b60 := big60
        have g5 : ("grid " : Str).length = 5 := by decide
        have g1 : (" " : Str).length = 1 := by decide
        refine iteT ⟨_, rfl, k, _, 0, _, rfl, rfl, SqL.of hk, atI_nat (j := 0) rfl, p, _, 0, _, rfl, rfl, SqT.of e, atI_nat (j := 0) rfl, s, rfl, log_small (by omega) (by omega), _, _, rfl, rfl, by omega, _, _, rfl, rfl, by rw [app_len]; omega, _, rfl, k, _, 0, _, rfl, rfl, SqL.of hk, atI_nat (j := 0) rfl, p, _, 1, _, rfl, rfl, SqT.of e, atI_nat (j := 1) rfl, o, rfl, log_small (by omega) (by omega), _, _, rfl, rfl, by rw [app_len, app_len]; omega, (by show 1 ≤ sizeLine; decide), fun l nl => q l _ ?_ (same_put nl)⟩
        rw [upd_same]
        show some (HO.lst [V.str (("grid " : Str) ++ intT s ++ " " ++ intT o)]) = _
        rw [join3 "grid " "grid" (intT s) (intT o) (by decide +kernel)]
        rfl
    case fi =>
      obtain ⟨l, wss, x0, x2, x3, rfl, hl, w1, w2, w3, q⟩ := h
      refine ⟨_, rfl, Nat.zero_le _, fun e ne => ?_⟩
      have s1 : Same G (upd G e (.lst [])) := same_put ne
      refine ⟨_, _, .lst (SqL.of (s1 _ _ hl)) (strs_data _), .lst (SqL.of upd_same) .nil, strs_shaped _ (fun z hz => ?_), (by decide +kernel), _, rfl, ?_⟩
      · obtain ⟨ws, hw, rfl⟩ := List.mem_map.mp hz
        exact strOk_join (by decide +kernel) ws (w3 ws hw)
      cases wss with
      | nil => exact ifF (by decide +kernel) (q _ s1)
      | cons ws wss =>
        have ne : (!PyData.eqv (.list (((ws :: wss).map (Txt.join " ")).map PyData.str)) (.list [])) = true := by simp [PyData.eqv, PyData.eqvAll]
        rw [ne]
        have tot : linesOf (ws :: wss) = Txt.join "; " ((ws :: wss).map (Txt.join " ")) := if_neg (fun z => nomatch z)
        rw [tot] at q
        refine iteT ⟨⟨_, rfl⟩, _, rfl, _, l, _, rfl, rfl, .inl (SqL.of (s1 _ _ hl)), parts_le w1 w2, q _ s1⟩
    refine ⟨k, g, n, _, _, _, _, by rfl, hk, ng, fun l1 H1 e1 s1 => ?_⟩
    refine ⟨_, rfl, _, rfl, k, _, 1, _, rfl, rfl, SqL.of (s1 _ _ hk), atI_nat (j := 1) rfl, lp, us, rs, rfl, .inl (SqL.of (s1 _ _ hp)), tr.same s1, fun ys ps l2 pm srt ts n2 => ?_⟩
    have s2 : Same H1 (upd H1 l2 (.lst ys)) := same_put n2
    have f2 : (upd H1 l2 (.lst ys)) l2 = some (.lst ys) := upd_same
    have ts2 := ts.same s2
    revert s2 f2 ts2
    generalize upd H1 l2 (.lst ys) = H2
    intro s2 f2 ts2
    have sok2 := sok.perm pm (List.Perm.refl os)
    refine ⟨l2, rfl, ⟨_, SqL.of f2⟩, fun D nD => lc_it (walk_list (K := K) (a := l2) (xs := ys)) (fun i H' => Same H2 H' ∧ H' D = some (.lst ((((ps.take i).map fun p => ([("apart" : Str), p.1, intT p.2] : List Str)).map (Txt.join " ")).map V.str))) ⟨same_put nD, upd_same⟩ (fun _ _ _ h => SqL.of (h.1 _ _ f2)) ?_ ?_⟩
    · rintro i x Hx H3 hi ⟨s3, e3⟩ ⟨rfl, hx⟩
      obtain ⟨r, t, hr', rfl, ht⟩ := ts2.get hx
      obtain ⟨nr, r1, r2⟩ := sok2.pn r (List.mem_of_getElem? hr')
      have lr := name_len8 nr
      have lt := intT_len (n := r.2) (by omega) r2
      have lt' : (Str.ofString (toString r.2)).length ≤ 11 := lt
      have b60 := big60
      have g6 : ("apart " : Str).length = 6 := by decide
      have g1 : (" " : Str).length = 1 := by decide
      have tk : ps.take (i + 1) = ps.take i ++ [r] := by rw [List.take_add_one, hr']; rfl
      have lp := sok2.pl
      refine ⟨t, _, rfl, SqT.of (s3 _ _ ht), rfl, _, _, rfl, _, _, rfl, rfl, rfl, _, rfl, _, _, rfl, rfl, by omega, _, _, rfl, rfl, by rw [app_len]; omega, _, rfl, r.2, rfl, log_small (by omega) r2, _, _, rfl, rfl, by rw [app_len, app_len]; omega, _, e3, ?_, fun c u e => ?_, ?_⟩
      · rw [List.length_map, List.length_map, List.length_map, List.length_take]
        exact small1000 (by omega)
      · rw [upd_ne (ne_of_none e nD)]
        exact s3 _ _ e
      · have w := join3 "apart " "apart" r.1 (intT r.2) (by decide +kernel)
        rw [upd_same, tk, List.map_append, List.map_append, List.map_append]
        show some (HO.lst (_ ++ [V.str (("apart " : Str) ++ r.1 ++ " " ++ intT r.2)])) = _
        rw [w]
        rfl
    · rintro H3 ⟨s3, e3⟩
      have e3 : H3 D = some (.lst (((ps.map fun p => ([("apart" : Str), p.1, intT p.2] : List Str)).map (Txt.join " ")).map V.str)) := by rw [e3, List.take_of_length_le (Nat.le_of_eq ts2.len.symm)]
      have e1' := s3 _ _ (s2 _ _ e1)
      have hk3 := s3 _ _ (s2 _ _ (s1 _ _ hk))
      have ho3 := s3 _ _ (s2 _ _ (s1 _ _ ho))
      have h13 : Same H H3 := s1.trans (s2.trans s3)
      obtain ⟨w1, w2⟩ := parts_small sok2
      have b60 := big60
      have pl := sok2.pl
      have ol := sok2.ol
      refine ⟨l1, D, _, _, rfl, rfl, e1', e3, ?_, fun l3 n3 => ?_⟩
      · rw [List.length_map, List.length_map, List.length_map, List.length_map, List.length_map]
        have h3 : (netWords n).length ≤ 1 := by cases n <;> simp [netWords]
        omega
      have s4 : Same H3 (upd H3 l3 (.lst (((netWords n).map (Txt.join " ")).map V.str ++ ((ps.map fun p => ([("apart" : Str), p.1, intT p.2] : List Str)).map (Txt.join " ")).map V.str))) := same_put n3
      have f4 : (upd H3 l3 (.lst (((netWords n).map (Txt.join " ")).map V.str ++ ((ps.map fun p => ([("apart" : Str), p.1, intT p.2] : List Str)).map (Txt.join " ")).map V.str))) l3 = some (.lst (((netWords n ++ ps.map fun p => ([("apart" : Str), p.1, intT p.2] : List Str)).map (Txt.join " ")).map V.str)) := by rw [upd_same, List.map_append, List.map_append]
      revert s4 f4
      generalize upd H3 l3 (.lst (((netWords n).map (Txt.join " ")).map V.str ++ ((ps.map fun p => ([("apart" : Str), p.1, intT p.2] : List Str)).map (Txt.join " ")).map V.str)) = H4
      intro s4 f4
      refine ⟨_, rfl, _, rfl, k, _, 2, _, rfl, rfl, SqL.of (s4 _ _ hk3), atI_nat (j := 2) rfl, lo, os, rfl, SqL.of (s4 _ _ ho3), l64, fun os' l5 pm2 srt2 n5 => ?_⟩
      have s5 : Same H4 (upd H4 l5 (.lst (os'.map V.str))) := same_put n5
      have f5 : (upd H4 l5 (.lst (os'.map V.str))) l5 = some (.lst (os'.map V.str)) := upd_same
      revert s5 f5
      generalize upd H4 l5 (.lst (os'.map V.str)) = H5
      intro s5 f5
      have sok3 := sok.perm pm pm2
      refine ⟨l5, rfl, ⟨_, SqL.of f5⟩, fun D2 nD2 => lc_it (walk_list (K := K) (a := l5) (xs := os'.map V.str)) (fun i H' => Same H5 H' ∧ H' D2 = some (.lst ((((os'.take i).map fun f => ([("on" : Str), f] : List Str)).map (Txt.join " ")).map V.str))) ⟨same_put nD2, upd_same⟩ (fun _ _ _ h => SqL.of (h.1 _ _ f5)) ?_ ?_⟩
      · rintro i x Hx H6 hi ⟨s6, e6⟩ ⟨rfl, hx⟩
        obtain ⟨z, hz1, rfl⟩ : ∃ z, os'[i]? = some z ∧ x = V.str z := by
          rw [List.getElem?_map] at hx
          cases e : os'[i]? with
          | none => rw [e] at hx; cases hx
          | some z => rw [e] at hx; exact ⟨z, rfl, (Option.some.inj hx).symm⟩
        have lz := name_len8 (sok3.on z (List.mem_of_getElem? hz1))
        have g3 : ("on " : Str).length = 3 := by decide
        have tk : os'.take (i + 1) = os'.take i ++ [z] := by rw [List.take_add_one, hz1]; rfl
        have ol3 := sok3.ol
        refine ⟨rfl, _, rfl, _, _, rfl, rfl, by omega, _, e6, ?_, fun c u e => ?_, ?_⟩
        · rw [List.length_map, List.length_map, List.length_map, List.length_take]
          exact small1000 (by omega)
        · rw [upd_ne (ne_of_none e nD2)]
          exact s6 _ _ e
        · have w := join2 "on " "on" z (by decide +kernel)
          rw [upd_same, tk, List.map_append, List.map_append, List.map_append]
          show some (HO.lst (_ ++ [V.str (("on " : Str) ++ z)])) = _
          rw [w]
          rfl
      · rintro H6 ⟨s6, e6⟩
        have e6 : H6 D2 = some (.lst (((os'.map fun f => ([("on" : Str), f] : List Str)).map (Txt.join " ")).map V.str)) := by rw [e6, List.take_of_length_le (Nat.le_of_eq (by rw [List.length_map]))]
        have f6 := s6 _ _ (s5 _ _ f4)
        have hk6 := s6 _ _ (s5 _ _ (s4 _ _ hk3))
        have h16 : Same H H6 := h13.trans (s4.trans (s5.trans s6))
        have ol3 := sok3.ol
        refine ⟨l3, D2, _, _, rfl, rfl, f6, e6, ?_, fun l7 n7 => ?_⟩
        · simp only [List.length_map, List.length_append]
          have h3 : (netWords n).length ≤ 1 := by cases n <;> simp [netWords]
          omega
        rw [← List.map_append, ← List.map_append]
        have s7 : Same H6 (upd H6 l7 (.lst (((netWords n ++ (ps.map fun p => ([("apart" : Str), p.1, intT p.2] : List Str)) ++ (os'.map fun f => ([("on" : Str), f] : List Str))).map (Txt.join " ")).map V.str))) := same_put n7
        have f7 : (upd H6 l7 (.lst (((netWords n ++ (ps.map fun p => ([("apart" : Str), p.1, intT p.2] : List Str)) ++ (os'.map fun f => ([("on" : Str), f] : List Str))).map (Txt.join " ")).map V.str))) l7 = _ := upd_same
        revert s7 f7
        generalize upd H6 l7 (.lst (((netWords n ++ (ps.map fun p => ([("apart" : Str), p.1, intT p.2] : List Str)) ++ (os'.map fun f => ([("on" : Str), f] : List Str))).map (Txt.join " ")).map V.str)) = H7
        intro s7 f7
        have p3 := parts_small sok3
        have o3 := parts_ok sok3
        have cut : setParts n ps os' a = netWords n ++ (ps.map fun p => ([("apart" : Str), p.1, intT p.2] : List Str)) ++ (os'.map fun f => ([("on" : Str), f] : List Str)) ++ atWords a := rfl
        refine ⟨_, rfl, k, _, 3, _, rfl, rfl, SqL.of (s7 _ _ hk6), atI_nat (j := 3) rfl, _, rfl, ?_⟩
        rcases sok.at_ with rfl | ⟨z, rfl, nz⟩
        · refine iteF ⟨l7, setParts n ps os' .non, _, _, _, by rfl, ?_, p3.1, p3.2, o3, fun H' s' => q ps os' H' pm srt pm2 srt2 (h16.trans (s7.trans s'))⟩
          rw [cut]
          show H7 l7 = some (.lst (((_ ++ []).map _).map _))
          rw [List.append_nil]
          exact f7
        · have lz := name_len8 nz
          have g3 : ("at " : Str).length = 3 := by decide
          refine iteT ⟨_, rfl, .inl ⟨rfl, _, SqL.of f7⟩, _, rfl, k, _, 3, _, rfl, rfl, SqL.of (s7 _ _ hk6), atI_nat (j := 3) rfl, _, _, rfl, rfl, by omega, l7, _, _, rfl, rfl, f7, ?_, ?_⟩
          · simp only [List.length_map, List.length_append]
            have h3 : (netWords n).length ≤ 1 := by cases n <;> simp [netWords]
            exact small1000 (by omega)
          have s8 : Same H6 (upd H7 l7 (.lst (((netWords n ++ (ps.map fun p => ([("apart" : Str), p.1, intT p.2] : List Str)) ++ (os'.map fun f => ([("on" : Str), f] : List Str))).map (Txt.join " ")).map V.str ++ [.str (("at " : Str) ++ z)]))) := fun c u e => by rw [upd_ne (ne_of_none e n7)]; exact s7 _ _ e
          refine ⟨l7, setParts n ps os' (.str z), _, _, _, by rfl, ?_, p3.1, p3.2, o3, fun H' s' => q ps os' H' pm srt pm2 srt2 (h16.trans (s8.trans s'))⟩
          have w := join2 "at " "at" z (by decide +kernel)
          rw [upd_same, w, cut, List.map_append (l₂ := atWords (.str z)), List.map_append (l₂ := (atWords (.str z)).map (Txt.join " "))]
          rfl
end
end K13


/-! four arguments of a setting: what is due -/
namespace Rng
open PySem L2 Bag Gd LamX Tr4
section
variable {α κ : Type} [DecidableEq κ] {key : α → κ} {os : List (Option α)}
theorem map_someK : ∀ {rs ss : List α}, rs.map some = ss.map some → rs = ss
  | [], [], _ => rfl
  | [], _ :: _, h => by simp at h
  | _ :: _, [], h => by simp at h
  | r :: rs, s :: ss, h => by
    rw [List.map_cons, List.map_cons] at h
    injection h with h1 h2
    injection h1 with h1
    rw [h1, map_someK h2]
theorem BadK.fine {k m : Nat} {ss : List α} (b : BadK key os k) (f : FineK key os m ss) : m ≤ k := by
  obtain ⟨rs, fr, h⟩ := b
  refine Nat.le_of_not_lt fun lt => ?_
  have at_ : (os.take m)[k]? = os[k]? := List.getElem?_take_of_lt lt
  rw [f.1, List.getElem?_map] at at_
  rcases h with h | ⟨r, h, hm⟩
  · rw [h] at at_
    cases e : ss[k]? with
    | none => rw [e] at at_; cases at_
    | some s => rw [e] at at_; cases at_
  · rw [h] at at_
    cases e : ss[k]? with
    | none => rw [e] at at_; cases at_
    | some s =>
      rw [e] at at_
      obtain rfl : s = r := by
        have := Option.some.inj at_
        exact Option.some.inj this
      have tk : rs.map some = (ss.take k).map some := by
        rw [List.map_take, ← f.1, List.take_take, Nat.min_eq_left (Nat.le_of_lt lt), fr.1]
      have er := map_someK tk
      have sp : ss = ss.take k ++ s :: ss.drop (k + 1) := by
        have hlt : k < ss.length := (List.getElem?_eq_some_iff.mp e).1
        have := (List.getElem?_eq_some_iff.mp e).2
        rw [← this, ← List.drop_eq_getElem_cons hlt, List.take_append_drop]
      have nd := f.2
      rw [sp, List.map_append] at nd
      rw [er] at hm
      exact (List.nodup_append.mp nd).2.2 _ hm _ (by rw [List.map_cons]; exact List.mem_cons_self) rfl
theorem BadK.one {k m : Nat} (a : BadK key os k) (b : BadK key os m) : k = m := by
  obtain ⟨rs, f, _⟩ := id a
  obtain ⟨ss, g, _⟩ := id b
  exact Nat.le_antisymm (b.fine f) (a.fine g)
theorem BadK.lt {k : Nat} (a : BadK key os k) : k < os.length := by
  obtain ⟨_, _, h⟩ := a
  rcases h with h | ⟨_, h, _⟩
  · exact (List.getElem?_eq_some_iff.mp h).1
  · exact (List.getElem?_eq_some_iff.mp h).1
theorem BadK.not {k : Nat} {rs : List α} (a : BadK key os k) (b : AllK key os rs) : False := by
  have lt := a.lt
  have := a.fine (m := os.length) ⟨by rw [List.take_length]; exact b.1, b.2⟩
  omega
theorem AllK.one {rs ss : List α} (a : AllK key os rs) (b : AllK key os ss) : rs = ss := map_someK (a.1.symm.trans b.1)
theorem bad_or_all (key : α → κ) (os : List (Option α)) : (∃ k, BadK key os k) ∨ ∃ rs, AllK key os rs := by
  have step : ∀ i, i ≤ os.length → (∃ k, BadK key os k) ∨ ∃ rs, FineK key os i rs := by
    intro i
    induction i with
    | zero => exact fun _ => .inr ⟨[], rfl, List.nodup_nil⟩
    | succ i ih =>
      intro h
      rcases ih (by omega) with b | ⟨rs, f⟩
      · exact .inl b
      · have lt : i < os.length := h
        cases e : os[i]? with
        | none => rw [List.getElem?_eq_none_iff] at e; omega
        | some o =>
          cases o with
          | none => exact .inl ⟨i, rs, f, .inl e⟩
          | some r =>
            by_cases hin : key r ∈ rs.map key
            · exact .inl ⟨i, rs, f, .inr ⟨r, e, hin⟩⟩
            · exact .inr ⟨_, f.step e hin⟩
  rcases step os.length (Nat.le_refl _) with b | ⟨rs, f⟩
  · exact .inl b
  · exact .inr ⟨rs, f.all (Nat.le_refl _)⟩
/-- elements that are something each -/
theorem els_of {R : Hp → V → Option α → Prop} {H : Hp} : ∀ vs : List V, (∀ v ∈ vs, ∃ o, R H v o) → ∃ os, Els R H vs os
  | [], _ => ⟨[], .nil⟩
  | v :: vs, h => by
    obtain ⟨o, ho⟩ := h v List.mem_cons_self
    obtain ⟨os, hos⟩ := els_of vs fun u hu => h u (List.mem_cons_of_mem _ hu)
    exact ⟨o :: os, .cons ho hos⟩
end
/-- what is due: an error's number and its field, or what the setting holds -/
inductive Res
  | err (i : Nat) (v : V)
  | fine (n : Option (Int × Int)) (rs : List (Str × Int)) (fs : List Str)
inductive Verd (K : PySem.W.Frag) (H : Hp) : V → V → V → V → Res → Prop
  | grid {g ap og a : V} : NetIs H g none → Verd K H g ap og a (.err 6 g)
  | apT {g ap og a : V} {n : Option (Int × Int)} : NetIs H g (some n) → NoTup H ap → Verd K H g ap og a (.err 14 .non)
  | apK {g og a : V} {n : Option (Int × Int)} {p : Addr} {xs : List V} {os : List (Option (Str × Int))} {k : Nat} : NetIs H g (some n) → TpK K H p xs → Els PairIs H xs os → os.length ≤ 20 → BadK Prod.fst os k → Verd K H g (.ref p) og a (.err 14 (.int k))
  | ogT {g og a : V} {n : Option (Int × Int)} {p : Addr} {xs : List V} {os : List (Option (Str × Int))} {rs : List (Str × Int)} : NetIs H g (some n) → TpK K H p xs → Els PairIs H xs os → os.length ≤ 20 → AllK Prod.fst os rs → NoTup H og → Verd K H g (.ref p) og a (.err 15 .non)
  | ogK {g a : V} {n : Option (Int × Int)} {p p2 : Addr} {xs xs2 : List V} {os : List (Option (Str × Int))} {rs : List (Str × Int)} {os2 : List (Option Str)} {k : Nat} : NetIs H g (some n) → TpK K H p xs → Els PairIs H xs os → os.length ≤ 20 → AllK Prod.fst os rs →
      TpK K H p2 xs2 → Els FeedIs H xs2 os2 → os2.length ≤ 20 → BadK id os2 k → Verd K H g (.ref p) (.ref p2) a (.err 15 (.int k))
  | ogN {g a : V} {p p2 : Addr} {xs xs2 : List V} {os : List (Option (Str × Int))} {rs : List (Str × Int)} {os2 : List (Option Str)} {fs : List Str} : NetIs H g (some none) → TpK K H p xs → Els PairIs H xs os → os.length ≤ 20 → AllK Prod.fst os rs →
      TpK K H p2 xs2 → Els FeedIs H xs2 os2 → os2.length ≤ 20 → AllK id os2 fs → fs ≠ [] → Verd K H g (.ref p) (.ref p2) a (.err 15 .non)
  | at_ {g a : V} {n : Option (Int × Int)} {p p2 : Addr} {xs xs2 : List V} {os : List (Option (Str × Int))} {rs : List (Str × Int)} {os2 : List (Option Str)} {fs : List Str} : NetIs H g (some n) → TpK K H p xs → Els PairIs H xs os → os.length ≤ 20 → AllK Prod.fst os rs →
      TpK K H p2 xs2 → Els FeedIs H xs2 os2 → os2.length ≤ 20 → AllK id os2 fs → (fs = [] ∨ n ≠ none) → a ≠ .non → nameV a = false → Verd K H g (.ref p) (.ref p2) a (.err 0 a)
  | fine {g a : V} {n : Option (Int × Int)} {p p2 : Addr} {xs xs2 : List V} {os : List (Option (Str × Int))} {rs : List (Str × Int)} {os2 : List (Option Str)} {fs : List Str} : NetIs H g (some n) → TpK K H p xs → Els PairIs H xs os → os.length ≤ 20 → AllK Prod.fst os rs →
      TpK K H p2 xs2 → Els FeedIs H xs2 os2 → os2.length ≤ 20 → AllK id os2 fs → (fs = [] ∨ n ≠ none) → (a = .non ∨ nameV a = true) → Verd K H g (.ref p) (.ref p2) a (.fine n rs fs)
section
variable {K : PySem.W.Frag} {H H' : Hp} {g ap og a : V} {r : Res}
theorem Verd.same (h : Verd K H g ap og a r) (s : Same H H') : Verd K H' g ap og a r := by
  have k := s.kin
  cases h with
  | grid h => exact .grid (h.kin k)
  | apT h1 h2 => exact .apT (h1.kin k) (h2.kin k)
  | apK h1 h2 h3 h4 h5 => exact .apK (h1.kin k) (h2.same s) (h3.imp fun _ _ r => r.kin k) h4 h5
  | ogT h1 h2 h3 h4 h5 h6 => exact .ogT (h1.kin k) (h2.same s) (h3.imp fun _ _ r => r.kin k) h4 h5 (h6.kin k)
  | ogK h1 h2 h3 h4 h5 h6 h7 h8 h9 => exact .ogK (h1.kin k) (h2.same s) (h3.imp fun _ _ r => r.kin k) h4 h5 (h6.same s) (h7.imp fun _ _ r => r.kin k) h8 h9
  | ogN h1 h2 h3 h4 h5 h6 h7 h8 h9 h10 => exact .ogN (h1.kin k) (h2.same s) (h3.imp fun _ _ r => r.kin k) h4 h5 (h6.same s) (h7.imp fun _ _ r => r.kin k) h8 h9 h10
  | at_ h1 h2 h3 h4 h5 h6 h7 h8 h9 h10 h11 h12 => exact .at_ (h1.kin k) (h2.same s) (h3.imp fun _ _ r => r.kin k) h4 h5 (h6.same s) (h7.imp fun _ _ r => r.kin k) h8 h9 h10 h11 h12
  | fine h1 h2 h3 h4 h5 h6 h7 h8 h9 h10 h11 => exact .fine (h1.kin k) (h2.same s) (h3.imp fun _ _ r => r.kin k) h4 h5 (h6.same s) (h7.imp fun _ _ r => r.kin k) h8 h9 h10 h11
end
theorem shows_non {K : PySem.W.Frag} {H : Hp} : Shows K H .non "None" := .inl ⟨.none, fun _ _ => .non, none_fits, by decide +kernel⟩
theorem shows_int {K : PySem.W.Frag} {H : Hp} {k : Nat} (h : k ≤ 100) : Shows K H (.int k) (PyData.int (k : Nat)).shown := .inl ⟨.int k, fun _ _ => .int _, int_fits (Nat.lt_of_le_of_lt (show ((k : Nat) : Int).natAbs ≤ 100 from h) (by decide)), rfl⟩
/-- sorted names are the only ones of their kind -/
def asN (z : Str) : Row := (z, 0, 0)
theorem asN_lt {x y : Str} (h : (!PySem.Spec.ltCps x.cps.toList y.cps.toList) = true) : ltR (asN x) (asN y) = false := by
  unfold ltR asN
  by_cases e : x = y
  · rw [if_pos e, if_pos rfl]
    exact decide_eq_false (Int.lt_irrefl 0)
  · rw [if_neg e]
    rw [PyProof.Rows.ltCps_eq] at h
    simpa using h
theorem rising_pw : ∀ (l : List Str) (p : Str), PyProof.Rows.risingS p l = true → ((p :: l).map asN).Pairwise (fun p q => ltR q p = false)
  | [], p, _ => List.pairwise_singleton _ _
  | x :: r, p, h => by
    unfold PyProof.Rows.risingS at h
    rw [Bool.and_eq_true] at h
    have ih := rising_pw r x h.2
    have h1 := asN_lt h.1
    rw [List.map_cons]
    refine List.pairwise_cons.mpr ⟨fun q hq => ?_, ih⟩
    rw [List.map_cons] at hq ih
    rcases List.mem_cons.mp hq with rfl | hq
    · exact h1
    · exact ltR_tr h1 ((List.pairwise_cons.mp ih).1 q hq)
theorem sorted_pw : ∀ l : List Str, PyProof.Rows.sortedS l = true → (l.map asN).Pairwise (fun p q => ltR q p = false)
  | [], _ => List.Pairwise.nil
  | x :: r, h => rising_pw r x h
theorem names_one {as bs : List Str} (p : as.Perm bs) (ha : PyProof.Rows.sortedS as = true) (hb : PyProof.Rows.sortedS bs = true) : as = bs := by
  have := congrArg (List.map Prod.fst) (sorted_one (p.map asN) (sorted_pw as ha) (sorted_pw bs hb))
  rw [List.map_map, List.map_map] at this
  have e : (Prod.fst ∘ asN : Str → Str) = id := rfl
  rwa [e, List.map_id, List.map_id] at this
theorem pairs_one {as bs : List (Str × Int)} (p : as.Perm bs) (ha : as.Pairwise (fun q r => ltR (asRow r) (asRow q) = false)) (hb : bs.Pairwise (fun q r => ltR (asRow r) (asRow q) = false)) : as = bs := by
  have := congrArg (List.map fun r : Row => (r.1, r.2.1)) (sorted_one (p.map asRow) (List.pairwise_map.mpr ha) (List.pairwise_map.mpr hb))
  rw [List.map_map, List.map_map] at this
  have e : ((fun r : Row => (r.1, r.2.1)) ∘ asRow : (Str × Int) → (Str × Int)) = id := rfl
  rwa [e, List.map_id, List.map_id] at this
end Rng


/-! str(o) by the class's own __str__ -/
namespace Own1
open PySem PySem.Spec PyProof.Rows L2
section
variable {X : Cx} {pins : List (Addr × Obj)} {σ : L2.St} {H : Hp} {s : Shared} {CX : CXT} {n : Nat} {sp : Sp} {E : XK} {C f : Addr}
def rStrO (C : Addr) (sp : Sp) (E : XK) : List V → Hp → VK → Prop := fun xs H Q => ∃ a dx fs, xs = [V.ref a] ∧ H a = some (.ins C dx fs) ∧ sp [.ref a] H (fun z H' => ∃ y, z = .str y ∧ Q (.str y) H') E
theorem call_strO (d : Dun X.K C "__str__" f) (F : FnR X.prog X.w X.K X.mg X.base CX n f sp) (hr : Room (n + 2) X.A) (hx : Passes CX X E) : CallR X (.type "str") (rStrO C sp E) := by
  intro pins s σ H xs us Q I r h
  obtain ⟨a, dx, fs, rfl, ha, q⟩ := h
  rw [Vals.ref1 r]
  obtain ⟨ox, od, J⟩ := ins_at I ha
  have hr2 : Room n X.A.in1.in1 := (show Room (n + 1) X.A.in1 from Room.in1 hr).in1
  refine PySem.W.kso_call hr2.units0 I.kIn J d.at_ d.fn (wpAny_mono (run_in (us := [.ref a]) (vs := [.ref a]) F hr2 I.env0.in1.in1 hx I (.cons rfl .nil) q) (fun r z ⟨y, H', I', ry, k, ey, qy⟩ => ?_) fun _ _ y => y)
  subst ey
  obtain ⟨t, e⟩ := (show ∃ t, r = Value.str k t from ry)
  subst e
  exact ⟨.str k, H', I', ⟨t, rfl⟩, qy⟩
end
end Own1
namespace K13
open PySem L2 Rng Bag Gd LamX Tr4
theorem args_go {K : PySem.W.Frag} {Ce : Nat → Addr} {H : Hp} {E : XK} {g ap og a : V} {r : Res} {ok : Option (Int × Int) → List (Str × Int) → List Str → Prop} (h : Verd K H g ap og a r) (hE : ∀ i v, r = .err i v → ErrK (Ce i) (cf i) v H E) (hF : ∀ n rs fs, r = .fine n rs fs → ok n rs fs) : ArgsGo K Ce g ap og a H E ok := by
  cases h with
  | grid ng => exact ⟨_, ng, fun _ => hE 6 _ rfl, fun n z => (nomatch z)⟩
  | apT ng nt => exact ⟨_, ng, fun z => (nomatch z), fun n _ => .inl ⟨nt, hE 14 _ rfl⟩⟩
  | apK ng tp L ln bd =>
    refine ⟨_, ng, fun z => (nomatch z), fun n _ => .inr ⟨_, _, _, rfl, tp, L, Nat.le_trans ln (by decide), fun k H1 b s => ?_, fun rs al => (bd.not al).elim⟩⟩
    obtain rfl := bd.one b
    exact (hE 14 _ rfl).same s
  | ogT ng tp L ln al nt =>
    exact ⟨_, ng, fun z => (nomatch z), fun n _ => .inr ⟨_, _, _, rfl, tp, L, Nat.le_trans ln (by decide), fun k H1 b s => (b.not al).elim, fun rs al' => .inl ⟨nt, hE 15 _ rfl⟩⟩⟩
  | ogK ng tp L ln al tp2 L2 ln2 bd =>
    refine ⟨_, ng, fun z => (nomatch z), fun n _ => .inr ⟨_, _, _, rfl, tp, L, Nat.le_trans ln (by decide), fun k H1 b s => (b.not al).elim, fun rs al' => .inr ⟨_, _, _, rfl, tp2, L2, Nat.le_trans ln2 (by decide), fun k H1 b s => ?_, fun fs al2 => (bd.not al2).elim⟩⟩⟩
    obtain rfl := bd.one b
    exact (hE 15 _ rfl).same s
  | ogN ng tp L ln al tp2 L2 ln2 al2 ne =>
    refine ⟨_, ng, fun z => (nomatch z), fun n en => .inr ⟨_, _, _, rfl, tp, L, Nat.le_trans ln (by decide), fun k H1 b s => (b.not al).elim, fun rs al' => .inr ⟨_, _, _, rfl, tp2, L2, Nat.le_trans ln2 (by decide), fun k H1 b s => (b.not al2).elim, fun fs' al2' => ⟨fun _ H1 s => (hE 15 _ rfl).same s, fun z => ?_⟩⟩⟩⟩
    obtain rfl := al2.one al2'
    cases en
    rcases z with z | z
    · exact absurd z ne
    · exact absurd rfl z
  | at_ ng tp L ln al tp2 L2 ln2 al2 hh n1 n2 =>
    refine ⟨_, ng, fun z => (nomatch z), fun n en => .inr ⟨_, _, _, rfl, tp, L, Nat.le_trans ln (by decide), fun k H1 b s => (b.not al).elim, fun rs al' => .inr ⟨_, _, _, rfl, tp2, L2, Nat.le_trans ln2 (by decide), fun k H1 b s => (b.not al2).elim, fun fs' al2' => ⟨fun z => ?_, fun _ => ⟨fun _ H1 s => (hE 0 _ rfl).same s, fun z => ?_⟩⟩⟩⟩⟩
    · obtain rfl := al2.one al2'
      cases en
      rcases hh with hh | hh
      · exact absurd hh z.1
      · exact absurd z.2 hh
    · rcases z with z | z
      · exact absurd z n1
      · rw [n2] at z
        cases z
  | fine ng tp L ln al tp2 L2 ln2 al2 hh ha =>
    refine ⟨_, ng, fun z => (nomatch z), fun n en => .inr ⟨_, _, _, rfl, tp, L, Nat.le_trans ln (by decide), fun k H1 b s => (b.not al).elim, fun rs al' => .inr ⟨_, _, _, rfl, tp2, L2, Nat.le_trans ln2 (by decide), fun k H1 b s => (b.not al2).elim, fun fs' al2' => ⟨fun z => ?_, fun _ => ⟨fun z => ?_, fun _ => ?_⟩⟩⟩⟩⟩
    · obtain rfl := al2.one al2'
      cases en
      rcases hh with hh | hh
      · exact absurd hh z.1
      · exact absurd z.2 hh
    · rcases ha with ha | ha
      · exact absurd ha z.1
      · rw [z.2] at ha
        cases ha
    · obtain rfl := al.one al'
      obtain rfl := al2.one al2'
      cases en
      exact hF _ _ _ rfl
end K13


namespace K13
open PySem L2 Rng Bag Gd LamX Tr4
section
variable {P : Program} {w : World} {K : PySem.W.Frag} {mg : Str → Option Value} {base : Heap}
abbrev sStr : Stmt := inClass sSet 7
theorem scStr : FnScope ["self"] ["self"] (defScope sStr) := ⟨rfl, rfl, rfl, by decide +kernel, rfl, by decide +kernel, by decide +kernel⟩
def spStrQ (C : Addr) : Sp := fun vs H Q _ => ∃ (o dx : Addr) (fs : List (Str × V)) (t : Str), vs = [.ref o] ∧ H o = some (.ins C dx fs) ∧ fs.lookup ("text" : Str) = some (.str t) ∧ Q (.str t) H
theorem ok_str {f C : Addr} {fd : FuncData} (F : Fun K "__str__" "Setting.__str__" sStr f fd) (T : Kt mg) (X : Sx K C) : FnOk P w K mg base CX0 1 f fd ["self"] (spStrQ C) := by
  refine F.ok scStr (fun vs H Q E h => ?_) (fun cdv A outer s H vs Q E hr h => ?_)
  · obtain ⟨o, dx, fs, t, rfl, _⟩ := h
    rfl
  · obtain ⟨o, dx, fs, t, rfl, ho, ht, q⟩ := h
    refine ⟨_, pss_one (ps_ret (pe_callTy SkE.call_str_str (by rfl) T.nStr PyProof.Rows.boot_str (pa_cons (pe_fld (pv 0) rfl) pa_nil))), ?_⟩
    exact ⟨_, rfl, o, C, dx, _, _, rfl, ho, X.cl, X.nT, ht, t, rfl, q⟩
/-- all four by keywords -/
theorem kb_all {f : Addr} {fd : FuncData} (F : Fun K "__init__" "Setting.__init__" sSInit f fd) : KBn K fd ["self", "grid", "apart", "on_grid", "at_rows"] 1 ["grid", "apart", "on_grid", "at_rows"] (fun us ws => us ++ ws) (fun us ws => us ++ ws) := by
  obtain ⟨oc, od, kV, doc, pm, an, cdv, ct, osl, rfl, lk, hcd⟩ := F.ex
  refine ⟨fun s us ws X h1 h2 => ?_, fun r1 r2 => r1.append r2⟩
  match us, ws, h1, h2 with
  | [a], [b, c, d, e], _, _ => exact .of_eq rfl
theorem set_go {Ce : Nat → Addr} {C : Addr} {H : Hp} {g ap og a : V} {r : Res} {Q : VK} {E : XK} (h : Verd K H g ap og a r) (ca : Cell H a) (hE : ∀ i v, r = .err i v → ErrK (Ce i) (cf i) v H E)
    (hF : ∀ n rs fs, r = .fine n rs fs → ∀ (o : Addr) (ps : List (Str × Int)) (os : List Str) (H' : Hp), ps.Perm rs → ps.Pairwise (fun q r => ltR (asRow r) (asRow q) = false) → os.Perm fs → PyProof.Rows.sortedS os = true → SettingAt C H' o n ps os a → H o = none → Same H H' → Q (.ref o) H')
    (x dx : Addr) (nx : H x = none) (nd : H dx = none) (ne : dx ≠ x) : spSet K C Ce [.ref x, g, ap, og, a] (upd (upd H dx (.own x)) x (.ins C dx [])) (fun v H3 => v = .non ∧ Q (.ref x) H3) E := by
  have s1 : Same H (upd (upd H dx (.own x)) x (.ins C dx [])) := fun c u e => by rw [upd_ne (ne_of_none e nx), upd_ne (ne_of_none e nd)]; exact e
  exact ⟨x, dx, g, ap, og, a, rfl, upd_same, ca.kin s1.kin, args_go (h.same s1) (fun i v e => (hE i v e).same s1) (fun n rs fs e ps os H' p1 p2 p3 p4 at_ b => ⟨rfl, hF n rs fs e x ps os H' p1 p2 p3 p4 at_ nx (fun c u e => b c u (fun z => by rw [z, nx] at e; cases e) (s1 c u e))⟩)⟩
theorem set_go2 {Ce : Nat → Addr} {C : Addr} {H : Hp} {g ap og a : V} {r : Res} {R : VK} {E : XK} (h : Verd K H g ap og a r) (ca : Cell H a) (x dx : Addr) (nx : H x = none) (nd : H dx = none) (hE : ∀ i v, r = .err i v → ErrK (Ce i) (cf i) v H E)
    (hF : ∀ n rs fs, r = .fine n rs fs → ∀ (ps : List (Str × Int)) (os : List Str) (H' : Hp), ps.Perm rs → ps.Pairwise (fun q r => ltR (asRow r) (asRow q) = false) → os.Perm fs → PyProof.Rows.sortedS os = true → SettingAt C H' x n ps os a → Same H H' → R .non H') :
    spSet K C Ce [.ref x, g, ap, og, a] (upd (upd H dx (.own x)) x (.ins C dx [])) R E := by
  have s1 : Same H (upd (upd H dx (.own x)) x (.ins C dx [])) := fun c u e => by rw [upd_ne (ne_of_none e nx), upd_ne (ne_of_none e nd)]; exact e
  exact ⟨x, dx, g, ap, og, a, rfl, upd_same, ca.kin s1.kin, args_go (h.same s1) (fun i v e => (hE i v e).same s1) (fun n rs fs e ps os H' p1 p2 p3 p4 at_ b => hF n rs fs e ps os H' p1 p2 p3 p4 at_ (fun c u e => b c u (fun z => by rw [z, nx] at e; cases e) (s1 c u e)))⟩
end
end K13


/-! what a setting shows: distance, __repr__, __eq__ -/
namespace Rng
open PySem L2 Bag Gd LamX Tr4
def kvsOf (ps : List (Str × Int)) : List (Key × V) := ps.map fun p => (.inr p.1, .int p.2)
/-- how far apart the rows of a feed are -/
def farV (ps : List (Str × Int)) (z : Str) : V := (valV (mergeK [] (kvsOf ps)) (.inr z)).getD (.int 1)
theorem TupsAt.refs {K : PySem.W.Frag} {H : Hp} {us : List V} {ps : List (Str × Int)} (h : TupsAt plcV H us ps) : ∃ cs : List Addr, us = cs.map V.ref ∧ Paired (fun p kv => SqT K H p [kV kv.1, kv.2]) cs (kvsOf ps) := by
  induction h with
  | nil => exact ⟨[], rfl, .nil⟩
  | cons e _ ih =>
    obtain ⟨cs, rfl, P⟩ := ih
    exact ⟨_ :: cs, rfl, .cons (SqT.of e) P⟩
end Rng
namespace K13
open PySem L2 Rng Bag Gd LamX Tr4
section
variable {P : Program} {w : World} {K : PySem.W.Frag} {mg : Str → Option Value} {base : Heap}
theorem SettingAt.same {C : Addr} {H H' : Hp} {o : Addr} {n : Option (Int × Int)} {ps : List (Str × Int)} {os : List Str} {a : V} (h : SettingAt C H o n ps os a) (s : Same H H') : SettingAt C H' o n ps os a := by
  obtain ⟨fs, ⟨dx, g, pa, pf, us, oq, h1, k1, k2, k3, k4, hg, h2, h3, h4, d⟩, t⟩ := h
  exact ⟨fs, ⟨dx, g, pa, pf, us, oq, s _ _ h1, k1, k2, k3, k4, hg.kin s.kin, s _ _ h2, h3.same s, s _ _ h4, d⟩, t⟩
abbrev sDs : Stmt := inClass sSet 1
theorem scDs : FnScope ["self", "feed"] ["self", "feed"] (defScope sDs) := ⟨rfl, rfl, rfl, by decide +kernel, rfl, by decide +kernel, by decide +kernel⟩
def spDs (C Ce : Addr) : Sp := fun vs H Q E => ∃ (o : Addr) (v : V) (n : Option (Int × Int)) (ps : List (Str × Int)) (os : List Str) (a : V), vs = [.ref o, v] ∧ SettingAt C H o n ps os a ∧ Cell H v ∧ (∀ z, v = .str z → isName z = true → ∀ H', Same H H' → Q (farV ps z) H') ∧ (nameV v = false → ErrK Ce "value" v H E)
theorem ok_ds {f fN C Ce : Addr} {fd dN : FuncData} (F : Fun K "distance" "Setting.distance" sDs f fd) (KS : Ks mg) (X : Sx K C) (FN : Fun K "check_name" "check_name" sCkN fN dN) (bN : Binds K dN ["value"] []) (mN : mg "check_name" = some (.ref fN)) (GN : FnOk P w K mg base (L2N.CX P w) 3 fN dN ["value"] (spChkName Ce)) :
    FnOk P w K mg base (L2N.CX P w) 4 f fd ["self", "feed"] (spDs C Ce) := by
  refine F.okN scDs (fun vs H Q E h => ?_) (fun cdv A outer s H vs Q E hr h => ?_)
  · obtain ⟨o, v, n, ps, os, a, rfl, _⟩ := h
    rfl
  · obtain ⟨o, v, n, ps, os, a, rfl, st, cv, q1, q2⟩ := h
    have hu := hu_of hr
    refine ⟨_, pss_cons (ps_expr (pe_call GN hr rfl mN FN.kp bN .nil passesN (pa_cons (pv 1) pa_nil)))
      (pss_one (ps_ret (pe_dget2 hu (pe_callTy (call_dictPT rfl) (by rfl) KS.nDict (by decide +kernel) (pa_cons (pe_fld (pv 0) rfl) pa_nil)) (pv 1) pe_int ⟨rfl, rfl, rfl, rfl⟩))), ?_⟩
    refine ⟨_, rfl, v, rfl, cv, fun nm H1 s1 => ?_, q2⟩
    obtain ⟨z, rfl, hz⟩ := nameV_str nm
    obtain ⟨fs, ⟨dx, g, pa, pf, us, oq, h1, k1, k2, k3, k4, hg, h2, h3, h4, hd⟩, t⟩ := st.same s1
    obtain ⟨cs, rfl, hp⟩ := h3.refs (K := K)
    refine ⟨_, rfl, o, C, dx, fs, .ref pa, rfl, h1, X.cl, X.nA, k2, pa, oq, cs, kvsOf ps, rfl, h2, hd, hp, fun p np => ?_⟩
    have e1 : (upd H1 p (.dK (mergeK [] (kvsOf ps)))) p = some (.dK (mergeK [] (kvsOf ps))) := upd_same
    exact ⟨p, rfl, .inl ⟨_, .inl e1⟩, _, rfl, _, .inl ⟨_, .inr z, .inl e1, rfl, rfl⟩, q1 z rfl hz _ (s1.trans (same_put np))⟩
/-- o is a setting with this text -/
def HasText (C : Addr) (H : Hp) (o : Addr) (t : Str) : Prop := ∃ dx fs, H o = some (.ins C dx fs) ∧ fs.lookup ("text" : Str) = some (.str t)
theorem SettingAt.text {C : Addr} {H : Hp} {o : Addr} {n : Option (Int × Int)} {ps : List (Str × Int)} {os : List Str} {a : V} (h : SettingAt C H o n ps os a) : HasText C H o (linesOf (setParts n ps os a)) := by
  obtain ⟨fs, ⟨dx, g, pa, pf, us, oq, h1, _⟩, t, _⟩ := h
  exact ⟨dx, fs, h1, t⟩
theorem HasText.same {C : Addr} {H H' : Hp} {o : Addr} {t : Str} (h : HasText C H o t) (s : Same H H') : HasText C H' o t := by
  obtain ⟨dx, fs, h1, k⟩ := h
  exact ⟨dx, fs, s _ _ h1, k⟩
def shownSet (t : Str) : Str := Str.ofString "Setting(" ++ t ++ Str.ofString ")"
abbrev sRepr : Stmt := inClass sSet 8
theorem scRepr : FnScope ["self"] ["self"] (defScope sRepr) := ⟨rfl, rfl, rfl, by decide +kernel, rfl, by decide +kernel, by decide +kernel⟩
def spReprS (C : Addr) : Sp := fun vs H Q _ => ∃ (o : Addr) (t : Str), vs = [.ref o] ∧ HasText C H o t ∧ t.length ≤ 10000 ∧ Q (.str (shownSet t)) H
theorem ok_repr {f C : Addr} {fd : FuncData} (F : Fun K "__repr__" "Setting.__repr__" sRepr f fd) (X : Sx K C) : FnOk P w K mg base CX0 1 f fd ["self"] (spReprS C) := by
  refine F.ok scRepr (fun vs H Q E h => ?_) (fun cdv A outer s H vs Q E hr h => ?_)
  · obtain ⟨o, t, rfl, _⟩ := h
    rfl
  · obtain ⟨o, t, rfl, ⟨dx, fs, h1, k⟩, hl, q⟩ := h
    refine ⟨_, pss_one (ps_ret (pe_joined (.cons pe_str (.cons (pe_fmt (pe_fld (pv 0) rfl)) (.cons pe_str .nil))))), ?_⟩
    have l1 : (Str.ofString "Setting(").length = 8 := by decide
    have l2 : (Str.ofString ")").length = 1 := by decide
    refine ⟨_, rfl, (by decide), _, rfl, o, C, dx, fs, .str t, rfl, h1, X.cl, X.nT, k, .inl ⟨t, rfl, ?_, ?_⟩⟩
    · rw [sizeLine_eq]; omega
    · refine ⟨t, rfl, ?_, _, rfl, ?_, q⟩
      · show (Str.ofString "Setting(" ++ t).length ≤ sizeLine
        rw [PySem.Str.length_append, l1, sizeLine_eq]; omega
      · show (Str.ofString "Setting(" ++ t ++ Str.ofString ")").length ≤ sizeLine
        rw [PySem.Str.length_append, PySem.Str.length_append, l1, l2, sizeLine_eq]; omega
abbrev sEq : Stmt := inClass sSet 6
theorem scEq : FnScope ["self", "other"] ["self", "other"] (defScope sEq) := ⟨rfl, rfl, rfl, by decide +kernel, rfl, by decide +kernel, by decide +kernel⟩
def spEqS (K : PySem.W.Frag) (C : Addr) : Sp := fun vs H Q _ => ∃ (o : Addr) (y : V) (t : Str), vs = [.ref o, y] ∧ HasText C H o t ∧
  ((∃ o2 t2, y = .ref o2 ∧ HasText C H o2 t2 ∧ Q (.bl (decide (t = t2))) H) ∨ ∃ ty, TyX K H y ty ∧ PySem.W.kitOne K ty (.ref C) = some false ∧ Q (.bl false) H)
theorem ok_eq {f C : Addr} {fd : FuncData} (F : Fun K "__eq__" "Setting.__eq__" sEq f fd) (T : Kt mg) (X : Sx K C) (Y : Ti K C) (mS : mg "Setting" = some (.ref C)) : FnOk P w K mg base CX0 1 f fd ["self", "other"] (spEqS K C) := by
  refine F.ok scEq (fun vs H Q E h => ?_) (fun cdv A outer s H vs Q E hr h => ?_)
  · obtain ⟨o, y, t, rfl, _⟩ := h
    rfl
  · obtain ⟨o, y, t, rfl, ⟨dx, fs, h1, k1⟩, q⟩ := h
    refine ⟨_, pss_one (ps_ret (pe_and (pe_callB call_isi (by rfl) T.nIsi (by decide +kernel) (pa_cons (pv 1) (pa_cons (pe_glob (v := .ref C) rfl mS rfl) pa_nil))) (pe_one (pe_cmpR op_eq (pe_fld (pv 0) rfl) (pe_fld (pv 1) rfl) (nomark _))))), ?_⟩
    rcases q with ⟨o2, t2, rfl, ⟨dx2, fs2, h2, k2⟩, q⟩ | ⟨ty, tx, k, q⟩
    · refine ⟨_, rfl, _, _, _, _, true, rfl, .own C, .base (.ins h2 X.cl Y.ca Y.cn Y.ct Y.cm), own_kit, true, rfl, ?_⟩
      refine ⟨_, rfl, o, C, dx, fs, .str t, rfl, h1, X.cl, X.nT, k1, _, rfl, o2, C, dx2, fs2, .str t2, rfl, h2, X.cl, X.nT, k2, ?_⟩
      have e : decide (V.str t = V.str t2) = decide (t = t2) := by
        by_cases h : t = t2
        · rw [h, decide_eq_true rfl, decide_eq_true rfl]
        · rw [decide_eq_false h, decide_eq_false fun z => h (by injection z)]
      refine ⟨rfl, ?_⟩
      rw [e]
      exact q
    · exact ⟨_, rfl, _, _, _, _, false, rfl, .own C, tx, k, false, rfl, q⟩
end
end K13


/-! with_rows_of: a setting made by keywords -/
namespace Rng
open PySem L2 Bag Gd LamX Tr4
/-- what a right setting holds -/
structure Right (n : Option (Int × Int)) (ps : List (Str × Int)) (os : List Str) (a : V) : Prop where
  net : ∀ q, n = some q → 1 ≤ q.1 ∧ q.1 ≤ 60 ∧ 0 ≤ q.2 ∧ q.2 < q.1
  pl : ps.length ≤ 20
  ol : os.length ≤ 20
  pn : ∀ p ∈ ps, isName p.1 = true ∧ 1 ≤ p.2 ∧ p.2 ≤ 1000000000
  pd : (ps.map Prod.fst).Nodup
  on : ∀ z ∈ os, isName z = true
  od : os.Nodup
  grid : os = [] ∨ n ≠ none
  at_ : a = .non ∨ nameV a = true
theorem Right.perm {n : Option (Int × Int)} {ps rs : List (Str × Int)} {os fs : List Str} {a : V} (h : Right n rs fs a) (p1 : ps.Perm rs) (p2 : os.Perm fs) : Right n ps os a := by
  refine ⟨h.net, by rw [p1.length_eq]; exact h.pl, by rw [p2.length_eq]; exact h.ol, fun p hp => h.pn p (p1.mem_iff.mp hp), (p1.map Prod.fst).nodup_iff.mpr h.pd, fun z hz => h.on z (p2.mem_iff.mp hz), p2.nodup_iff.mpr h.od, ?_, h.at_⟩
  rcases h.grid with e | e
  · subst e
    exact .inl (List.perm_nil.mp p2)
  · exact .inr e
theorem Right.with {n : Option (Int × Int)} {ps : List (Str × Int)} {os : List Str} {a b : V} (h : Right n ps os a) (hb : b = .non ∨ nameV b = true) : Right n ps os b := ⟨h.net, h.pl, h.ol, h.pn, h.pd, h.on, h.od, h.grid, hb⟩
theorem pairs_els {H : Hp} {us : List V} {ps : List (Str × Int)} (h : TupsAt plcV H us ps) (n : ∀ p ∈ ps, isName p.1 = true ∧ 1 ≤ p.2 ∧ p.2 ≤ 1000000000) : Els PairIs H us (ps.map some) := by
  induction h with
  | nil => exact .nil
  | cons e _ ih =>
    obtain ⟨a, b, c⟩ := n _ List.mem_cons_self
    exact .cons (.pair e a b c) (ih fun p hp => n p (List.mem_cons_of_mem _ hp))
theorem feeds_els {H : Hp} {os : List Str} (n : ∀ z ∈ os, isName z = true) : Els FeedIs H (os.map V.str) (os.map some) := by
  induction os with
  | nil => exact .nil
  | cons z os ih => exact .cons (.name (n z List.mem_cons_self)) (ih fun p hp => n p (List.mem_cons_of_mem _ hp))
/-- right arguments are fine -/
theorem Right.verd {K : PySem.W.Frag} {H : Hp} {g a : V} {p p2 : Addr} {us : List V} {n : Option (Int × Int)} {ps : List (Str × Int)} {os : List Str} (h : Right n ps os a) (hg : NetIs H g (some n)) (h1 : TpK K H p us) (h2 : TupsAt plcV H us ps) (h3 : TpK K H p2 (os.map V.str)) :
    Verd K H g (.ref p) (.ref p2) a (.fine n ps os) :=
  .fine hg h1 (pairs_els h2 h.pn) (by rw [List.length_map]; exact h.pl) ⟨rfl, h.pd⟩ h3 (feeds_els h.on) (by rw [List.length_map]; exact h.ol) ⟨rfl, by rw [List.map_id]; exact h.od⟩ h.grid h.at_
/-- a new setting -/
def MadeS (C : Addr) (n : Option (Int × Int)) (rs : List (Str × Int)) (fs : List Str) (a : V) (H : Hp) (Q : VK) : Prop :=
  ∀ (o : Addr) (ps : List (Str × Int)) (os : List Str) (H' : Hp), ps.Perm rs → ps.Pairwise (fun q r => ltR (asRow r) (asRow q) = false) → os.Perm fs → PyProof.Rows.sortedS os = true → K13.SettingAt C H' o n ps os a → H o = none → Same H H' → Q (.ref o) H'
end Rng
namespace K13
open PySem L2 Rng Bag Gd LamX Tr4
section
variable {P : Program} {w : World} {K : PySem.W.Frag} {mg : Str → Option Value} {base : Heap}
theorem made_go {Ce : Nat → Addr} {C : Addr} {H0 H : Hp} {g a : V} {p p2 : Addr} {us : List V} {n : Option (Int × Int)} {ps : List (Str × Int)} {os : List Str} {Q : VK} {E : XK} (h : Right n ps os a) (ca : Cell H a) (hg : NetIs H g (some n)) (h1 : TpK K H p us) (h2 : TupsAt plcV H us ps) (h3 : TpK K H p2 (os.map V.str))
    (s0 : Same H0 H) (q : MadeS C n ps os a H0 Q) (x dx : Addr) (nx : H x = none) (nd : H dx = none) (ne : dx ≠ x) : spSet K C Ce [.ref x, g, .ref p, .ref p2, a] (upd (upd H dx (.own x)) x (.ins C dx [])) (fun v H3 => v = .non ∧ Q (.ref x) H3) E := by
  refine set_go (h.verd hg h1 h2 h3) ca (fun i v e => by cases e) (fun n' rs fs e o ps' os' H' p1 p2' p3 p4 at_ no s' => ?_) x dx nx nd ne
  cases e
  exact q o ps' os' H' p1 p2' p3 p4 at_ (s0.free no) (s0.trans s')
abbrev sWith : Stmt := inClass sSet 4
theorem scWith : FnScope ["self", "feed"] ["self", "feed"] (defScope sWith) := ⟨rfl, rfl, rfl, by decide +kernel, rfl, by decide +kernel, by decide +kernel⟩
def spWith (C Ce : Addr) : Sp := fun vs H Q E => ∃ (o : Addr) (v : V) (n : Option (Int × Int)) (ps : List (Str × Int)) (os : List Str) (a : V), vs = [.ref o, v] ∧ SettingAt C H o n ps os a ∧ Right n ps os a ∧ Cell H v ∧ (nameV v = true → MadeS C n ps os v H Q) ∧ (nameV v = false → ErrK Ce "value" v H E)
theorem ok_with {f fN fI C : Addr} {Ce : Nat → Addr} {fd dN dI : FuncData} (F : Fun K "with_rows_of" "Setting.with_rows_of" sWith f fd) (X : Sx K C) (FN : Fun K "check_name" "check_name" sCkN fN dN) (bN : Binds K dN ["value"] []) (mN : mg "check_name" = some (.ref fN)) (GN : FnOk P w K mg base (L2N.CX P w) 3 fN dN ["value"] (spChkName (Ce 0)))
    (mS : mg "Setting" = some (.ref C)) (M : Mk K C fI) (kb : KBn K dI ["self", "grid", "apart", "on_grid", "at_rows"] 1 ["grid", "apart", "on_grid", "at_rows"] (fun us ws => us ++ ws) (fun us ws => us ++ ws)) (GI : FnOk P w K mg base (L2N.CX P w) 5 fI dI ["self", "grid", "apart", "on_grid", "at_rows"] (spSet K C Ce)) :
    FnOk P w K mg base (L2N.CX P w) 7 f fd ["self", "feed"] (spWith C (Ce 0)) := by
  refine F.okN scWith (fun vs H Q E h => ?_) (fun cdv A outer s H vs Q E hr h => ?_)
  · obtain ⟨o, v, n, ps, os, a, rfl, _⟩ := h
    rfl
  · obtain ⟨o, v, n, ps, os, a, rfl, st, ri, cv, q1, q2⟩ := h
    have hr3 : Room 3 _ := hr.mono (by decide)
    refine ⟨_, pss_cons (ps_expr (pe_call GN hr3 rfl mN FN.kp bN .nil passesN (pa_cons (pv 1) pa_nil)))
      (pss_one (ps_ret (pe_makeK0 M GI hr rfl mS kb passesN (pk_cons (pe_fld (pv 0) rfl) (pk_cons (pe_fld (pv 0) rfl) (pk_cons (pe_fld (pv 0) rfl) (pk_cons (pv 1) pk_nil))))))), ?_⟩
    refine ⟨_, rfl, v, rfl, cv, fun nm H1 s1 => ?_, q2⟩
    obtain ⟨fs, ⟨dx, g, pa, pf, us, oq, h1, k1, k2, k3, k4, hg, h2, h3, h4, hd⟩, t⟩ := st.same s1
    refine ⟨_, rfl, o, C, dx, fs, g, rfl, h1, X.cl, X.nG, k1, _, rfl, o, C, dx, fs, _, rfl, h1, X.cl, X.nA, k2, _, rfl, o, C, dx, fs, _, rfl, h1, X.cl, X.nO, k3, _, rfl, rfl, rfl, fun x dx' nx nd ne => ?_⟩
    exact made_go (ri.with (.inr nm)) (cv.kin s1.kin) hg (sqF h2) h3 (SqT.of h4) s1 (q1 nm) x dx' nx nd ne
end
end K13


/-! integer_in: a number's text read back -/
namespace Rng
open PySem L2 Bag Gd LamX Tr4
theorem int_nat {n : Int} (h : 0 ≤ n) : ∃ k : Nat, n = (k : Int) := ⟨n.toNat, by omega⟩
theorem intT_digits {n : Int} (h : 0 ≤ n) : ∀ c ∈ TL.tl (intT n), 48 ≤ c ∧ c ≤ 57 := by
  obtain ⟨k, rfl⟩ := int_nat h
  intro c hc
  have e : TL.tl (intT (k : Int)) = TL.numL k := TL.tl_num k
  rw [e] at hc
  exact TL.numL_digits k c hc
theorem intT_ne {n : Int} (h : 0 ≤ n) : TL.tl (intT n) ≠ [] := by
  obtain ⟨k, rfl⟩ := int_nat h
  have e : TL.tl (intT (k : Int)) = TL.numL k := TL.tl_num k
  rw [e]
  exact TL.numL_ne k
theorem intT_back {n : Int} (h : 0 ≤ n) (hn : n ≤ 1000000000) : PySem.intText? (intT n) = some n := by
  obtain ⟨k, rfl⟩ := int_nat h
  refine TL.int_num ?_
  exact Nat.le_trans (TL.numL_len (k := 11) (by decide) (by omega)) (by decide)
theorem no_minus {x : Str} (h : (45 : Nat) ∉ TL.tl x) : Txt.removeprefix x "-" = x := by
  rw [StrLaws.removeprefix_eq]
  rw [if_neg]
  intro z
  rw [Bool.and_eq_true] at z
  have e := StrLaws.subAt_eq x "-" 0
  rw [z.2] at e
  have e' := (eq_of_beq e.symm)
  have m : (45 : Nat) ∈ (x.cps.toList.drop 0).take ("-" : Str).length := by rw [e']; decide
  exact h (List.mem_of_mem_take (by simpa using m))
end Rng
namespace K13
open PySem L2 Rng Bag Gd LamX Tr4
section
variable {P : Program} {w : World} {K : PySem.W.Frag} {mg : Str → Option Value} {base : Heap}
abbrev sIn : Stmt := top 34
theorem scIn : FnScope ["word", "digits", "sign"] ["word"] (defScope sIn) := ⟨rfl, rfl, rfl, by decide +kernel, rfl, by decide +kernel, by decide +kernel⟩
def spIn : Sp := fun vs H Q _ => ∃ n : Int, vs = [.str (intT n)] ∧ 0 ≤ n ∧ n ≤ 1000000000 ∧ ∀ H', Same H H' → Q (.int n) H'
theorem ok_in {f fD Ci : Addr} {fd dD : FuncData} (F : Fun K "integer_in" "integer_in" sIn f fd) (T : Kt mg) (TI : ErrV K Ci) (mI : mg "InvalidText" = some (.ref Ci)) (FD : Fun K "_is_digit" "_is_digit" sDigit fD dD) (bD : Binds K dD ["sign"] []) (mD : mg "_is_digit" = some (.ref fD)) (GD : FnOk P w K mg base CX0 1 fD dD ["sign"] (spSign dig)) :
    FnOk P w K mg base (L2N.CX P w) 3 f fd ["word"] spIn := by
  refine F.okN scIn (fun vs H Q E h => ?_) (fun cdv A outer s H vs Q E hr h => ?_)
  · obtain ⟨n, rfl, _⟩ := h
    rfl
  · obtain ⟨n, rfl, h0, h1, q⟩ := h
    have hr1 : Room 1 _ := hr.mono (by decide)
    refine ⟨_, pss_cons (ps_set (i := 1) scIn.nd rfl (Or.inl rfl) (pe_m1 PySem.F.slot_str_removeprefix PySem.F.type_str_removeprefix mt_removeprefix (pv 0) pe_str))
      (pss_cons (ps_if (PW.pt (pw_or (pt_cmpR op_eq (pv 1) pe_str (nomark _)) (pw_or1 (pt_not (pt_val (pe_callB (cr_all rfl) (by rfl) T.nAll (by decide +kernel) (pa_cons
        (pe_lc (own := [("sign", 2)]) (g := gName 2) (tt := tYes) rfl scIn.nd (pi_str (pv 1)) (blkOk_by (own := [("sign", 2)]) (N := ["word", "digits", "sign"]) (sc := defScope sIn) (by decide +kernel)) (fun _ _ _ _ _ => pg_name (i := 2) scIn.nd rfl (Or.inl rfl)) (fun _ _ _ _ _ => pts_nil)
          (fun _ _ _ _ _ => pe_call GD hr1 rfl mD FD.kp bD .nil pass0 (pa_cons (pv 2) pa_nil))) pa_nil))))))) (pss_one (ps_raiseV rfl rfl takesN TI hr rfl mI (pa_cons (pv 0) pa_nil))) pss_nil)
      (pss_one (ps_ret (pe_callTy call_int_str (by rfl) T.nInt PyProof.Rows.boot_int (pa_cons (pv 0) pa_nil))))), ?_⟩
    have dg := intT_digits h0
    have hne := intT_ne h0
    have lt : (intT n).length ≤ 11 := intT_len h0 h1
    have lz : (intT n).cps.toList.length = (intT n).length := rfl
    have nom : (45 : Nat) ∉ TL.tl (intT n) := fun hm => by have := dg 45 hm; omega
    have nemp : decide (V.str (intT n) = V.str (Str.ofString "")) = false := decide_eq_false fun z => by
      injection z with z
      rw [z] at hne
      exact hne rfl
    have dall : ∀ c ∈ (intT n).cps.toList, dig c = true := fun c hc => by
      obtain ⟨a, b⟩ := dg c hc
      unfold dig
      simp [a, b]
    have bk := intT_back h0 h1
    rw [show (Str.ofString "") = Str.ofString "" from rfl] at nemp
    generalize intT n = z at *
    refine ⟨_, rfl, ⟨z, rfl⟩, z, _, rfl, rfl, by rw [sizeLine_eq]; omega, ?_⟩
    rw [no_minus nom]
    refine ⟨_, rfl, rfl, _, rfl, ?_⟩
    rw [nemp]
    refine iteF ?_
    refine ⟨_, rfl, z, rfl, fun D nD => lc_it (walk_str (z := z)) (fun i H' => Same H H' ∧ H' D = some (.lst (((z.cps.toList.take i).map dig).map V.bl))) ⟨same_put nD, upd_same⟩ (fun _ _ _ _ => trivial) ?_ ?_⟩
    · rintro i x H1 H2 hi ⟨s1, e1⟩ ⟨rfl, d, hd, rfl⟩
      have hd' : z.cps.toList[i]? = some d := by rw [Array.getElem?_toList]; exact hd
      have hsz : i < z.cps.toList.length := (List.getElem?_eq_some_iff.mp hd').1
      have tk : z.cps.toList.take (i + 1) = z.cps.toList.take i ++ [d] := by
        rw [List.take_add_one, hd']
        rfl
      refine ⟨rfl, _, rfl, d, rfl, _, e1, ?_, ?_, ?_⟩
      · rw [List.length_map, List.length_map, List.length_take]
        exact small1000 (by omega)
      · intro a o e
        rw [upd_ne (ne_of_none e nD)]
        exact s1 a o e
      · rw [upd_same, tk, List.map_append, List.map_append]
        rfl
    · rintro H1 ⟨s1, e1⟩
      have et : z.cps.toList.take z.cps.size = z.cps.toList := List.take_of_length_le (Nat.le_of_eq (by simp))
      rw [et] at e1
      refine ⟨D, _, rfl, SqL.of e1, ?_⟩
      have al : ((z.cps.toList.map dig).all id) = true := by
        rw [List.all_map, List.all_eq_true]
        exact fun c hc => dall c hc
      rw [al]
      refine ⟨true, rfl, ?_⟩
      show if (!true) = true then _ else _
      refine iteF ⟨_, rfl, z, n, rfl, bk, ?_, q H1 s1⟩
      have : z.cps.toList.length = z.length := rfl
      omega
end
end K13


namespace K13
open PySem PySem.Spec PyProof.Rows L2 Rng Bag Gd LamX Tr4
/-- the defaults of a setting -/
structure Dfl (K : PySem.W.Frag) (f D T0 T1 : Addr) : Prop where
  lk : ∃ (oc dc pm cd ct : Value) (od an : Option Addr) (sl : Array (Option Value)), K.lookup f = some ⟨oc, od, .func (PySem.W.fnOf "__init__" "Setting.__init__" (defArgs sSInit) (defBody sSInit) (defScope sSInit) .none (.ref D) dc pm an cd ct), sl⟩
  n1 : PySem.W.nsIn K D "grid" = some (some .none)
  n2 : PySem.W.nsIn K D "apart" = some (some (.ref T0))
  n3 : PySem.W.nsIn K D "on_grid" = some (some (.ref T1))
  n4 : PySem.W.nsIn K D "at_rows" = some (some .none)
  t0 : ∃ (o : Obj) (n : Nat), K.lookup T0 = some o ∧ o.cls = .type "tuple" ∧ o.data = .seq #[] n
  t1 : ∃ (o : Obj) (n : Nat), K.lookup T1 = some o ∧ o.cls = .type "tuple" ∧ o.data = .seq #[] n
section
variable {K : PySem.W.Frag} {f D T0 T1 : Addr} {fd : FuncData}
theorem Dfl.tp0 (h : Dfl K f D T0 T1) (H : Hp) : TpK K H T0 [] := by
  obtain ⟨o, n, a, b, c⟩ := h.t0
  exact .inr ⟨o, #[], n, a, b, c, by decide, .nil⟩
theorem Dfl.tp1 (h : Dfl K f D T0 T1) (H : Hp) : TpK K H T1 [] := by
  obtain ⟨o, n, a, b, c⟩ := h.t1
  exact .inr ⟨o, #[], n, a, b, c, by decide, .nil⟩
theorem Dfl.same_fd (h : Dfl K f D T0 T1) (F : Fun K "__init__" "Setting.__init__" sSInit f fd) : ∃ (dc pm cd ct : Value) (an : Option Addr), fd = PySem.W.fnOf "__init__" "Setting.__init__" (defArgs sSInit) (defBody sSInit) (defScope sSInit) .none (.ref D) dc pm an cd ct := by
  obtain ⟨oc, dc, pm, cd, ct, od, an, sl, lk⟩ := h.lk
  obtain ⟨oc', od', kV', doc', pm', an', cdv', ct', osl', rfl, lk', hcd⟩ := F.ex
  have e := Option.some.inj (lk'.symm.trans lk)
  have e2 := congrArg Obj.data e
  exact ⟨dc, pm, cd, ct, an, by injection e2⟩
/-- no argument but self -/
theorem kb_0 (h : Dfl K f D T0 T1) (F : Fun K "__init__" "Setting.__init__" sSInit f fd) : Binds K fd ["self", "grid", "apart", "on_grid", "at_rows"] [.none, .ref T0, .ref T1, .none] := by
  obtain ⟨dc, pm, cd, ct, an, rfl⟩ := h.same_fd F
  intro s us X hl
  have h1 : us.length = 1 := by
    rw [List.length_append] at hl
    exact Nat.add_right_cancel (m := 4) hl
  match us, h1 with
  | [a], _ =>
    refine BindsTo.of_looks fun M => KwChain.looks (D := D) (l := [("grid", .none), ("apart", .ref T0), ("on_grid", .ref T1), ("at_rows", .none)]) X (fun q hq => ?_) ?_
    · simp only [List.mem_cons, List.not_mem_nil, or_false] at hq
      rcases hq with rfl | rfl | rfl | rfl
      · exact h.n1
      · exact h.n2
      · exact h.n3
      · exact h.n4
    · exact ⟨_, _, _, _, _, _, rfl, rfl, _, _, _, _, _, _, rfl, rfl, _, _, _, _, _, _, rfl, rfl, _, _, _, _, _, _, rfl, rfl, rfl⟩
theorem kb_r (h : Dfl K f D T0 T1) (F : Fun K "__init__" "Setting.__init__" sSInit f fd) : KBn K fd ["self", "grid", "apart", "on_grid", "at_rows"] 1 ["at_rows"] (fun us ws => us ++ ([.none, .ref T0, .ref T1] ++ ws)) (fun us ws => us ++ ([.non, .ref T0, .ref T1] ++ ws)) := by
  obtain ⟨dc, pm, cd, ct, an, rfl⟩ := h.same_fd F
  refine ⟨fun s us ws X h1 h2 => ?_, fun r1 r2 => r1.append ((show Vals [V.non, V.ref T0, V.ref T1] [Value.none, Value.ref T0, Value.ref T1] from .cons rfl (.cons rfl (.cons rfl .nil))).append r2)⟩
  match us, ws, h1, h2 with
  | [a], [b], _, _ =>
    refine BindsTo.of_looks fun M => KwChain.looks (D := D) (l := [("grid", .none), ("apart", .ref T0), ("on_grid", .ref T1)]) X (fun q hq => ?_) ?_
    · simp only [List.mem_cons, List.not_mem_nil, or_false] at hq
      rcases hq with rfl | rfl | rfl
      · exact h.n1
      · exact h.n2
      · exact h.n3
    · exact ⟨_, _, _, _, _, _, rfl, rfl, _, _, _, _, _, _, rfl, rfl, _, _, _, _, _, _, rfl, rfl, rfl⟩
theorem kb_g (h : Dfl K f D T0 T1) (F : Fun K "__init__" "Setting.__init__" sSInit f fd) : KBn K fd ["self", "grid", "apart", "on_grid", "at_rows"] 1 ["grid"] (fun us ws => us ++ (ws ++ [.ref T0, .ref T1, .none])) (fun us ws => us ++ (ws ++ [.ref T0, .ref T1, .non])) := by
  obtain ⟨dc, pm, cd, ct, an, rfl⟩ := h.same_fd F
  refine ⟨fun s us ws X h1 h2 => ?_, fun r1 r2 => r1.append (r2.append (show Vals [V.ref T0, V.ref T1, V.non] [Value.ref T0, Value.ref T1, Value.none] from .cons rfl (.cons rfl (.cons rfl .nil))))⟩
  match us, ws, h1, h2 with
  | [a], [b], _, _ =>
    refine BindsTo.of_looks fun M => KwChain.looks (D := D) (l := [("apart", .ref T0), ("on_grid", .ref T1), ("at_rows", .none)]) X (fun q hq => ?_) ?_
    · simp only [List.mem_cons, List.not_mem_nil, or_false] at hq
      rcases hq with rfl | rfl | rfl
      · exact h.n2
      · exact h.n3
      · exact h.n4
    · exact ⟨_, _, _, _, _, _, rfl, rfl, _, _, _, _, _, _, rfl, rfl, _, _, _, _, _, _, rfl, rfl, rfl⟩
theorem kb_p (h : Dfl K f D T0 T1) (F : Fun K "__init__" "Setting.__init__" sSInit f fd) : KBn K fd ["self", "grid", "apart", "on_grid", "at_rows"] 1 ["apart"] (fun us ws => us ++ ([.none] ++ (ws ++ [.ref T1, .none]))) (fun us ws => us ++ ([.non] ++ (ws ++ [.ref T1, .non]))) := by
  obtain ⟨dc, pm, cd, ct, an, rfl⟩ := h.same_fd F
  refine ⟨fun s us ws X h1 h2 => ?_, fun r1 r2 => r1.append ((show Vals [V.non] [Value.none] from .cons rfl .nil).append (r2.append (show Vals [V.ref T1, V.non] [Value.ref T1, Value.none] from .cons rfl (.cons rfl .nil))))⟩
  match us, ws, h1, h2 with
  | [a], [b], _, _ =>
    refine BindsTo.of_looks fun M => KwChain.looks (D := D) (l := [("grid", .none), ("on_grid", .ref T1), ("at_rows", .none)]) X (fun q hq => ?_) ?_
    · simp only [List.mem_cons, List.not_mem_nil, or_false] at hq
      rcases hq with rfl | rfl | rfl
      · exact h.n1
      · exact h.n3
      · exact h.n4
    · exact ⟨_, _, _, _, _, _, rfl, rfl, _, _, _, _, _, _, rfl, rfl, _, _, _, _, _, _, rfl, rfl, rfl⟩
/-- all four, the last first -/
def rev4 {α : Type} : List α → List α
  | [a, b, c, d] => [d, c, b, a]
  | l => l
theorem kb_rev (F : Fun K "__init__" "Setting.__init__" sSInit f fd) : KBn K fd ["self", "grid", "apart", "on_grid", "at_rows"] 1 ["at_rows", "on_grid", "apart", "grid"] (fun us ws => us ++ rev4 ws) (fun us ws => us ++ rev4 ws) := by
  obtain ⟨oc, od, kV, doc, pm, an, cdv, ct, osl, rfl, lk, hcd⟩ := F.ex
  refine ⟨fun s us ws X h1 h2 => ?_, fun r1 r2 => r1.append ?_⟩
  · match us, ws, h1, h2 with
    | [a], [b, c, d, e], _, _ => exact .of_eq rfl
  · unfold rev4
    cases r2 with
    | nil => exact .nil
    | cons a r2 => cases r2 with
      | nil => exact .cons a .nil
      | cons b r2 => cases r2 with
        | nil => exact .cons a (.cons b .nil)
        | cons c r2 => cases r2 with
          | nil => exact .cons a (.cons b (.cons c .nil))
          | cons d r2 => cases r2 with
            | nil => exact .cons d (.cons c (.cons b (.cons a .nil)))
            | cons e r2 => exact .cons a (.cons b (.cons c (.cons d (.cons e r2))))
end
end K13


/-! a setting's text, cut into its parts and words again -/
namespace Rng
open PySem L2 Bag Gd LamX Tr4
/-- a word: neither a space nor a semicolon in it -/
def Word (w : Str) : Prop := (32 : Nat) ∉ TL.tl w ∧ (59 : Nat) ∉ TL.tl w
theorem word_name {z : Str} (h : isName z = true) : Word z := by
  unfold isName at h
  rw [Bool.and_eq_true] at h
  have g : ∀ c ∈ z.cps.toList, (low c || dig c) = true := by
    intro c hc
    cases e : z.cps.toList with
    | nil => rw [e] at hc; cases hc
    | cons d r =>
      rw [e] at h hc
      have h2 := h.2
      simp only [Bool.and_eq_true, List.all_eq_true] at h2
      rcases List.mem_cons.mp hc with rfl | hc
      · rw [h2.1]; rfl
      · exact h2.2 c hc
  constructor
  · intro m
    have := g 32 m
    revert this
    decide
  · intro m
    have := g 59 m
    revert this
    decide
theorem word_int {n : Int} (h : 0 ≤ n) : Word (intT n) := ⟨fun m => by have := intT_digits h 32 m; omega, fun m => by have := intT_digits h 59 m; omega⟩
theorem right_ok {n : Option (Int × Int)} {ps : List (Str × Int)} {os : List Str} {a : V} (h : Right n ps os a) : SetOk n ps os a := by
  refine ⟨fun q hq => ?_, Nat.le_trans h.pl (by decide), Nat.le_trans h.ol (by decide), h.pn, h.on, ?_⟩
  · obtain ⟨a, b, c, d⟩ := h.net q hq
    exact ⟨by omega, b, c, by omega⟩
  · rcases h.at_ with e | e
    · exact .inl e
    · obtain ⟨z, ez, hz⟩ := K13.nameV_str e
      exact .inr ⟨z, ez, hz⟩
theorem parts_words {n : Option (Int × Int)} {ps : List (Str × Int)} {os : List Str} {a : V} (h : Right n ps os a) : ∀ ws ∈ setParts n ps os a, 2 ≤ ws.length ∧ ∀ w ∈ ws, Word w := by
  intro ws hw
  unfold setParts at hw
  rcases List.mem_append.mp hw with hw | hw
  · rcases List.mem_append.mp hw with hw | hw
    · rcases List.mem_append.mp hw with hw | hw
      · cases n with
        | none => exact nomatch hw
        | some q =>
          obtain rfl := List.mem_singleton.mp hw
          obtain ⟨a1, a2, a3, a4⟩ := h.net q rfl
          refine ⟨by show 2 ≤ 3; decide, fun w hw => ?_⟩
          simp only [List.mem_cons, List.not_mem_nil, or_false] at hw
          rcases hw with rfl | rfl | rfl
          · exact ⟨by decide, by decide⟩
          · exact word_int (by omega)
          · exact word_int a3
      · obtain ⟨p, hp, rfl⟩ := List.mem_map.mp hw
        obtain ⟨b1, b2, b3⟩ := h.pn p hp
        refine ⟨by show 2 ≤ 3; decide, fun w hw => ?_⟩
        simp only [List.mem_cons, List.not_mem_nil, or_false] at hw
        rcases hw with rfl | rfl | rfl
        · exact ⟨by decide, by decide⟩
        · exact word_name b1
        · exact word_int (by omega)
    · obtain ⟨f, hf, rfl⟩ := List.mem_map.mp hw
      refine ⟨Nat.le_refl 2, fun w hw => ?_⟩
      simp only [List.mem_cons, List.not_mem_nil, or_false] at hw
      rcases hw with rfl | rfl
      · exact ⟨by decide, by decide⟩
      · exact word_name (h.on _ hf)
  · rcases h.at_ with rfl | e
    · exact nomatch hw
    · obtain ⟨z, rfl, hz⟩ := K13.nameV_str e
      obtain rfl := List.mem_singleton.mp hw
      refine ⟨Nat.le_refl 2, fun w hw => ?_⟩
      simp only [List.mem_cons, List.not_mem_nil, or_false] at hw
      rcases hw with rfl | rfl
      · exact ⟨by decide, by decide⟩
      · exact word_name hz
theorem joinL_mem {c : Nat} {S : List Nat} : ∀ {ps : List (List Nat)}, c ∈ TL.joinL S ps → c ∈ S ∨ ∃ p ∈ ps, c ∈ p
  | [], h => by cases h
  | [p], h => .inr ⟨p, List.mem_singleton.mpr rfl, h⟩
  | p :: q :: r, h => by
    have h' : c ∈ p ++ (S ++ TL.joinL S (q :: r)) := h
    rcases List.mem_append.mp h' with h' | h'
    · exact .inr ⟨p, List.mem_cons_self, h'⟩
    · rcases List.mem_append.mp h' with h' | h'
      · exact .inl h'
      · rcases joinL_mem h' with h' | ⟨z, hz, hc⟩
        · exact .inl h'
        · exact .inr ⟨z, List.mem_cons_of_mem _ hz, hc⟩
theorem words_back {ws : List Str} (h : ws ≠ []) (hw : ∀ w ∈ ws, Word w) : Txt.split (Txt.join " " ws) " " = ws := TL.split_join (y := " ") (s := 32) (S := []) rfl (by decide +kernel) h fun p hp => (hw p hp).1
theorem words_semi {ws : List Str} (hw : ∀ w ∈ ws, Word w) : (59 : Nat) ∉ TL.tl (Txt.join " " ws) := by
  intro m
  rw [TL.join_eq, TL.tl_join] at m
  rcases joinL_mem m with m | ⟨p, hp, m⟩
  · revert m
    decide
  · obtain ⟨z, hz, rfl⟩ := List.mem_map.mp hp
    exact (hw z hz).2 m
theorem parts_back {wss : List (List Str)} (h : wss ≠ []) (hw : ∀ ws ∈ wss, 2 ≤ ws.length ∧ ∀ w ∈ ws, Word w) : Txt.split (linesOf wss) "; " = wss.map (Txt.join " ") := by
  unfold linesOf
  rw [if_neg h]
  refine TL.split_join (y := "; ") (s := 59) (S := [32]) rfl (by decide +kernel) (fun z => h (List.map_eq_nil_iff.mp z)) fun p hp => ?_
  obtain ⟨ws, hws, rfl⟩ := List.mem_map.mp hp
  exact words_semi (hw ws hws).2
theorem any_not {wss : List (List Str)} (h : wss ≠ []) (hw : ∀ ws ∈ wss, 2 ≤ ws.length ∧ ∀ w ∈ ws, Word w) : linesOf wss ≠ "any" := by
  intro z
  have b := parts_back h hw
  rw [z] at b
  cases wss with
  | nil => exact h rfl
  | cons ws r =>
    have e : Txt.split "any" "; " = ([("any" : Str)] : List Str) := by
      have := TL.split_join (y := "; ") (s := 59) (S := [32]) rfl (by decide +kernel) (parts := ([("any" : Str)] : List Str)) (by simp) (fun p hp => by obtain rfl := List.mem_singleton.mp hp; decide)
      exact this
    rw [e, List.map_cons] at b
    injection b with b1 b2
    obtain ⟨h1, h2⟩ := hw ws List.mem_cons_self
    have c := words_back (ws := ws) (fun z => by rw [z] at h1; cases h1) h2
    rw [← b1] at c
    have e2 : Txt.split "any" " " = ([("any" : Str)] : List Str) := by
      have := TL.split_join (y := " ") (s := 32) (S := []) rfl (by decide +kernel) (parts := ([("any" : Str)] : List Str)) (by simp) (fun p hp => by obtain rfl := List.mem_singleton.mp hp; decide)
      exact this
    rw [e2] at c
    rw [← c] at h1
    revert h1
    decide
/-- what stands when i parts are read -/
theorem parts_at {n : Option (Int × Int)} {ps : List (Str × Int)} {os : List Str} {a : V} (i : Nat) (ws : List Str) (e : (setParts n ps os a)[i]? = some ws) :
    (∃ q, n = some q ∧ i = 0 ∧ ws = ([("grid" : Str), intT q.1, intT q.2] : List Str)) ∨
    (∃ j p, i = (netWords n).length + j ∧ ps[j]? = some p ∧ ws = ([("apart" : Str), p.1, intT p.2] : List Str)) ∨
    (∃ j z, i = (netWords n).length + ps.length + j ∧ os[j]? = some z ∧ ws = ([("on" : Str), z] : List Str)) ∨
    (∃ z, a = .str z ∧ i = (netWords n).length + ps.length + os.length ∧ ws = ([("at" : Str), z] : List Str)) := by
  have l1 : (ps.map (fun p => ([("apart" : Str), p.1, intT p.2] : List Str))).length = ps.length := List.length_map _
  have l2 : (os.map (fun f => ([("on" : Str), f] : List Str))).length = os.length := List.length_map _
  unfold setParts at e
  rw [List.getElem?_append, List.length_append, List.length_append, l1, l2] at e
  by_cases c : i < (netWords n).length + ps.length + os.length
  · rw [if_pos c, List.getElem?_append, List.length_append, l1] at e
    by_cases c2 : i < (netWords n).length + ps.length
    · rw [if_pos c2, List.getElem?_append] at e
      by_cases c3 : i < (netWords n).length
      · rw [if_pos c3] at e
        cases n with
        | none => exact absurd c3 (Nat.not_lt_zero _)
        | some q =>
          have i0 : i = 0 := by
            have : i < 1 := c3
            omega
          subst i0
          exact .inl ⟨q, rfl, rfl, (Option.some.inj e).symm⟩
      · rw [if_neg c3, List.getElem?_map] at e
        cases ep : ps[i - (netWords n).length]? with
        | none => rw [ep] at e; cases e
        | some p =>
          rw [ep] at e
          exact .inr (.inl ⟨i - (netWords n).length, p, by omega, ep, (Option.some.inj e).symm⟩)
    · rw [if_neg c2, List.getElem?_map] at e
      cases ep : os[i - ((netWords n).length + ps.length)]? with
      | none => rw [ep] at e; cases e
      | some z =>
        rw [ep] at e
        exact .inr (.inr (.inl ⟨i - ((netWords n).length + ps.length), z, by omega, ep, (Option.some.inj e).symm⟩))
  · rw [if_neg c] at e
    cases a with
    | str z =>
      have hl := (List.getElem?_eq_some_iff.mp e).1
      have : i - ((netWords n).length + ps.length + os.length) < 1 := hl
      have i0 : i = (netWords n).length + ps.length + os.length := by omega
      subst i0
      rw [Nat.sub_self] at e
      exact .inr (.inr (.inr ⟨z, rfl, rfl, (Option.some.inj e).symm⟩))
    | _ => simp [atWords] at e
end Rng


/-! word, *more = a list -/
namespace Sta
open PySem PySem.Spec PySem.Calls PyProof.Rows
section
variable {prog : Program} {w : World} {A : Around} {E : Value → Shared → Prop} {s : Shared}
/-- one name ahead, the rest of the list behind it in a new list -/
theorem star_two {l : Addr} {x : Value} {its : List Value} {Q : List Value → Shared → Prop} (hl : s.heap.IsList l (x :: its).toArray) (hh : A.handled = none) (hz : its.length < 16384)
    (h : ∀ (h' : Heap) (tk : Nat), (∀ b o, s.heap.get? b = some o → h'.get? b = some o) → Q [x, .ref h'.objs.size] { s with heap := h'.push { cls := .type "list", data := .seq its.toArray }, toks := tk }) : wpAny (model prog w) A (unpackItems (.ref l) 2 (some 1)) Q E s := by
  have lt : l < s.heap.objs.size := match hl with | ⟨_, e, _⟩ => Heap.lt_size e
  have big : (x :: its).toArray.size ≤ sizeLine := by rw [sizeLine_eq, List.size_toArray, List.length_cons]; omega
  have old : ∀ {b : Addr} {o : Obj}, s.heap.get? b = some o → b ≠ s.heap.objs.size := fun e => Nat.ne_of_lt (Heap.lt_size e)
  unfold unpackItems notIterableAtAll
  refine wpAny_bind (wpAny_bind (wpAny_specialOf hl.typeIs slot_list_iter.lookup (wpAny_pure ?_)))
  show wpAny _ _ (if false = true then _ else _) _ _ _
  rw [if_neg Bool.false_ne_true]
  have pushed := hl.push { cls := .type "list_iterator", data := .fields #[.ref l, .int 0 0] }
  refine wpAny_bind (wpAny_holding (wpAny_pyIter_list hl (wpAny_bind (wpAny_holding (PySem.W.kun_draw (Nat.ne_of_lt lt) 1 0 _ _ ⟨_, Heap.get?_push_size _ rfl, rfl, rfl⟩ pushed (by simp) fun g git gs => ?_)))))
  have gl : g.IsList l (x :: its).toArray := pushed.extBut gs.extBut (Nat.ne_of_lt lt)
  have gI : s.heap.objs.size < g.objs.size := match git with | ⟨_, e, _⟩ => Heap.lt_size e
  have gL : l < g.objs.size := match gl with | ⟨_, e, _⟩ => Heap.lt_size e
  have one : ((x :: its).toArray.toList.drop 0).take 1 = [x] := rfl
  simp only [one]
  show wpAny _ _ (if (1 : Nat) < 1 then _ else _) _ _ _
  rw [if_neg (Nat.lt_irrefl 1)]
  have walks := Walks.list (prog := prog) (w := w) (A := A.in1) hh s.heap.objs.size l (Nat.ne_of_lt lt) (x :: its).toArray
  refine wpAny_bind (wpAny_holding (PySem.W.kun_collect (s := { s with heap := g }) (T := "list_iterator") (Or.inr (Or.inr (Or.inl rfl))) walks (fun _ _ z => z.1.typeIs) (k := 1) (by simp) ⟨git, gl⟩ gI gL (fun g2 tk keep => ?_) big))
  have rest : (x :: its).toArray.toList.drop 1 = its := rfl
  rw [rest]
  show wpAny _ _ (if its.length < 0 then _ else _) _ _ _
  rw [if_neg (Nat.not_lt_zero _)]
  have fin : wpAny (model prog w) A (newList its >>= fun d => pure [x, d]) Q E { s with heap := g2, toks := tk } := by
    refine wpAny_bind (wpAny_newList (wpAny_pure (h g2 tk fun b o e => ?_)) (by rw [sizeLine_eq]; omega))
    exact keep b o (old e) (gs.extBut b o (old e) (Heap.get?_push_of_some _ e))
  have same : (newList (its.take (its.length - 0)) >>= fun d => pure ([x] ++ [d] ++ its.drop (its.length - 0)) : Sem (List Value)) = (newList its >>= fun d => pure [x, d]) := by
    rw [Nat.sub_zero, List.take_length, List.drop_length]
    rfl
  exact same ▸ fin
end
end Sta
namespace L2
open PySem PySem.Spec PyProof.Rows
theorem small64' {n : Nat} (h : n < 16384) : n ≤ sizeLine := by rw [sizeLine_eq]; omega
section
variable {X : Cx} {es : List Expr} {e : Expr} {t : TG} {u : TGs} {p pos : Pos}
theorem pgs_star (h1 : PG X e t) (h2 : PGs X es u) (hs : (assignEach (.Starred e p :: es) X.env).map (·.2) = assign e X.env :: (assignEach es X.env).map (·.2) := by rfl) : PGs X (.Starred e p :: es) (gCons t u) := by
  refine ⟨fun pins s σ H vs us Q I r h => ?_⟩
  obtain ⟨v, vr, e1, h⟩ := h
  subst e1
  cases r with
  | cons r rr =>
    rw [hs]
    refine assignInOrder_cons (thn (h1.run pins s σ H _ _ _ I r h) fun _ s1 ⟨σ1, H1, I1, q1⟩ => ?_)
    exact h2.run pins s1 σ1 H1 _ _ Q I1 rr q1
/-- a, *b = a list -/
def gStar1 (K : PySem.W.Frag) (t : TGs) : TG := fun v σ H Q => ∃ a x xs, v = .ref a ∧ SqL K H a (x :: xs) ∧ xs.length < 16384 ∧ ∀ D, H D = none → t [x, .ref D] σ (upd H D (.lst xs)) Q
theorem pg_star1 {k : Nat} {u : TGs} (hc : X.calm = true) (h : PGs X es u) (hn : (assignEach es X.env).length = 2 := by rfl) (hst : (assignEach es X.env).findIdx? (·.1) = some 1 := by rfl) : PG X (.Tuple es k pos) (gStar1 X.K u) := by
  refine ⟨fun pins s σ H v w Q I r hw => ?_⟩
  obtain ⟨a, x, xs, e1, hq, hl, hw⟩ := hw
  subst e1
  cases r
  obtain ⟨its, rv, pl, hz⟩ := I.list hq
  obtain ⟨o, n, ho, hc', hd, hdat⟩ := pl
  cases rv with
  | @cons _ x' _ its' rx rv =>
    have hlen : its'.length = xs.length := rv.length.symm
    rw [assign_Tuple]
    refine wpAny_bind (wpAny_standAt ?_)
    unfold unpack
    rw [hn, hst]
    refine wpAny_bind (wpAny_holding (Sta.star_two ⟨o, ho, hc', n, hdat⟩ (I.ok.hd hc) (by rw [hlen]; exact hl) fun h' tk k => ?_))
    have I1 : Inv X pins σ H { s with heap := h', toks := tk } := I.kept k
    have I2 : Inv X pins σ (upd H h'.objs.size (.lst xs)) { s with heap := h'.push { cls := .type "list", data := .seq its'.toArray }, toks := tk } :=
      I1.laid (t' := tk) (fun b o e => Heap.get?_push_of_some _ e) (Nat.le_refl _) ⟨small64' hl, its', 0, rv, Heap.get?_push_size _ rfl⟩
    exact h.run pins _ σ _ [x, .ref h'.objs.size] _ Q I2 (.cons rx (.cons rfl .nil)) (hw _ (I1.hok.fresh (Nat.le_refl _)))
end
end L2


/-! _setting_in: a setting's text read -/
namespace K13
open PySem L2 Rng Bag Gd LamX Tr4
section
variable {P : Program} {w : World} {K : PySem.W.Frag} {mg : Str → Option Value} {base : Heap}
theorem net_put {H : Hp} {g : V} {m : Option (Int × Int)} {l : Addr} {xs : List V} {u : HO} (h : NetIs H g (some m)) (e : H l = some (.lst xs)) : NetIs (upd H l u) g (some m) := by
  cases h with
  | non => exact .non
  | net k a b c d => exact .net (by rw [upd_ne (fun z => by rw [z, e] at k; cases k)]; exact k) a b c d
theorem but_lst {l : Addr} {H : Hp} {us : List V} {ps : List (Str × Int)} {vs : List V} {u : HO} (h : TupsAt plcV H us ps) (e : H l = some (.lst vs)) : TupsAt plcV (upd H l u) us ps :=
  h.but But.put fun zs z => by rw [e] at z; cases z
theorem cell_at {H : Hp} {a : V} (h : a = .non ∨ nameV a = true) : Cell H a := by
  rcases h with rfl | e
  · exact .non
  · obtain ⟨z, rfl, n⟩ := nameV_str e
    refine .str ?_
    unfold isName at n
    simp only [Bool.and_eq_true, decide_eq_true_eq] at n
    exact Nat.le_trans n.1 (by decide)
abbrev sRd : Stmt := top 42
theorem scRd : FnScope ["text", "grid", "apart", "on_grid", "at_rows", "part", "word", "more"] ["text"] (defScope sRd) := ⟨rfl, rfl, rfl, by decide +kernel, rfl, by decide +kernel, by decide +kernel⟩
def spRd (C : Addr) : Sp := fun vs H Q _ => ∃ (n : Option (Int × Int)) (ps : List (Str × Int)) (os : List Str) (a : V), vs = [.str (linesOf (setParts n ps os a))] ∧ Right n ps os a ∧ MadeS C n ps os a H Q
theorem ok_rd {f fN fI C D T0 T1 Ci : Addr} {Ce : Nat → Addr} {fd dN dI : FuncData} (F : Fun K "_setting_in" "_setting_in" sRd f fd) (T : Kt mg) (TI : ErrV K Ci) (mI : mg "InvalidText" = some (.ref Ci)) (FN : Fun K "integer_in" "integer_in" sIn fN dN) (bN : Binds K dN ["word"] []) (mN : mg "integer_in" = some (.ref fN)) (GN : FnOk P w K mg base (L2N.CX P w) 3 fN dN ["word"] spIn)
    (mS : mg "Setting" = some (.ref C)) (M : Mk K C fI) (DF : Dfl K fI D T0 T1) (FI : Fun K "__init__" "Setting.__init__" sSInit fI dI) (GI : FnOk P w K mg base (L2N.CX P w) 5 fI dI ["self", "grid", "apart", "on_grid", "at_rows"] (spSet K C Ce)) :
    FnOk P w K mg base (L2N.CX P w) 7 f fd ["text"] (spRd C) := by
  refine F.okN scRd (fun vs H Q E h => ?_) (fun cdv A outer s H vs Q E hr h => ?_)
  · obtain ⟨n, ps, os, a, rfl, _⟩ := h
    rfl
  · obtain ⟨n, ps, os, a, rfl, ri, q⟩ := h
    have hr3 : Room 3 _ := hr.mono (by decide)
    have kb := kb_all FI
    have kb0 := kb_0 DF FI
    have d0 : Vals [V.non, V.ref T0, V.ref T1, V.non] [Value.none, Value.ref T0, Value.ref T1, Value.none] := .cons rfl (.cons rfl (.cons rfl (.cons rfl .nil)))
    refine ⟨_, pss_cons (ps_if (pt_cmpR op_eq (pv 0) pe_str (nomark _)) (pss_one (ps_ret (pe_make0 M GI hr rfl mS kb0 d0 passesN))) pss_nil)
      (pss_cons (ps_asg (pe_tup (pa_cons pe_non (pa_cons (pe_lst pa_nil) (pa_cons (pe_lst pa_nil) (pa_cons pe_non pa_nil))))) (pg_tup (by rfl) (pgs_cons (pg_name (i := 1) scRd.nd rfl (Or.inl rfl)) (pgs_cons (pg_name (i := 2) scRd.nd rfl (Or.inl rfl)) (pgs_cons (pg_name (i := 3) scRd.nd rfl (Or.inl rfl)) (pgs_cons (pg_name (i := 4) scRd.nd rfl (Or.inl rfl)) pgs_nil))))))
      (pss_cons (ps_for (L2.passes_of rfl) rfl (pi_list (pe_split (pv 0) pe_str)) (pg_name (i := 5) scRd.nd rfl (Or.inl rfl))
        (pss_cons (ps_asg (pe_split (pv 5) pe_str) (pg_star1 rfl (pgs_cons (pg_name (i := 6) scRd.nd rfl (Or.inl rfl)) (pgs_star (pg_name (i := 7) scRd.nd rfl (Or.inl rfl)) pgs_nil))))
        (pss_one (ps_if (PW.pt (pw_and (pt_cmpR op_eq (pv 6) pe_str (nomark _)) (pw_and1 (pt_cmpR op_eq (pe_callB call_len_seq (by rfl) T.nLen PySem.boot_len (pa_cons (pv 7) pa_nil)) pe_int (nomark _)))))
          (pss_one (ps_set (i := 1) scRd.nd rfl (Or.inl rfl) (pe_tup (pa_cons (pe_call GN hr3 rfl mN FN.kp bN .nil passesN (pa_cons (pe_ix ix_list (pv 7) pe_int (fun _ _ => rfl)) pa_nil)) (pa_cons (pe_call GN hr3 rfl mN FN.kp bN .nil passesN (pa_cons (pe_ix ix_list (pv 7) pe_int (fun _ _ => rfl)) pa_nil)) pa_nil)))))
          (pss_one (ps_if (PW.pt (pw_and (pt_cmpR op_eq (pv 6) pe_str (nomark _)) (pw_and1 (pt_cmpR op_eq (pe_callB call_len_seq (by rfl) T.nLen PySem.boot_len (pa_cons (pv 7) pa_nil)) pe_int (nomark _)))))
            (pss_one (ps_expr (pe_bm PySem.F.plainAttrs_list PySem.F.slot_list_append PySem.F.type_list_append mt_append (pv 2) (pa_cons (pe_tup (pa_cons (pe_ix ix_list (pv 7) pe_int (fun _ _ => rfl)) (pa_cons (pe_call GN hr3 rfl mN FN.kp bN .nil passesN (pa_cons (pe_ix ix_list (pv 7) pe_int (fun _ _ => rfl)) pa_nil)) pa_nil))) pa_nil))))
            (pss_one (ps_if (PW.pt (pw_and (pt_cmpR op_eq (pv 6) pe_str (nomark _)) (pw_and1 (pt_cmpR op_eq (pe_callB call_len_seq (by rfl) T.nLen PySem.boot_len (pa_cons (pv 7) pa_nil)) pe_int (nomark _)))))
              (pss_one (ps_expr (pe_bm PySem.F.plainAttrs_list PySem.F.slot_list_append PySem.F.type_list_append mt_append (pv 3) (pa_cons (pe_ix ix_list (pv 7) pe_int (fun _ _ => rfl)) pa_nil))))
              (pss_one (ps_if (PW.pt (pw_and (pt_cmpR op_eq (pv 6) pe_str (nomark _)) (pw_and1 (pt_cmpR op_eq (pe_callB call_len_seq (by rfl) T.nLen PySem.boot_len (pa_cons (pv 7) pa_nil)) pe_int (nomark _)))))
                (pss_one (ps_set (i := 4) scRd.nd rfl (Or.inl rfl) (pe_ix ix_list (pv 7) pe_int (fun _ _ => rfl))))
                (pss_one (ps_raiseV rfl rfl takesN TI hr rfl mI (pa_cons (pv 5) pa_nil)))))))))))))
      (pss_one (ps_ret (pe_makeK0 M GI hr rfl mS kb passesN (pk_cons (pv 1) (pk_cons (pe_callTy call_tuple_of (by rfl) T.nTuple (by decide +kernel) (pa_cons (pv 2) pa_nil)) (pk_cons (pe_callTy call_tuple_of (by rfl) T.nTuple (by decide +kernel) (pa_cons (pv 3) pa_nil)) (pk_cons (pv 4) pk_nil))))))))), ?_⟩
    have pw := parts_words ri
    have wk := right_ok ri
    obtain ⟨w1, w2⟩ := parts_small wk
    by_cases e0 : setParts n ps os a = []
    · have z : netWords n = [] ∧ ps = [] ∧ os = [] ∧ atWords a = [] := by
        unfold setParts at e0
        rw [List.append_eq_nil_iff, List.append_eq_nil_iff, List.append_eq_nil_iff, List.map_eq_nil_iff, List.map_eq_nil_iff] at e0
        exact ⟨e0.1.1.1, e0.1.1.2, e0.1.2, e0.2⟩
      obtain ⟨z1, rfl, rfl, z4⟩ := z
      have hn : n = none := by
        cases n with
        | none => rfl
        | some q => cases z1
      have ha : a = .non := by
        rcases ri.at_ with e | e
        · exact e
        · obtain ⟨z, rfl, _⟩ := nameV_str e
          cases z4
      subst hn ha
      refine ⟨_, rfl, rfl, _, rfl, iteT fun x dx nx nd ne => ?_⟩
      exact made_go ri .non .non (DF.tp0 H) .nil (DF.tp1 H) (Same.refl H) q x dx nx nd ne
    · have ne := any_not e0 pw
      have dec : decide (V.str (linesOf (setParts n ps os a)) = V.str (Str.ofString "any")) = false := decide_eq_false fun z => ne (by injection z)
      refine ⟨_, rfl, rfl, _, rfl, ?_⟩
      rw [dec]
      refine iteF ?_
      refine ⟨Nat.zero_le _, fun l1 n1 => ⟨Nat.zero_le _, fun l2 n2 => ?_⟩⟩
      refine ⟨by show 4 ≤ sizeLine; decide, fun t nt => ⟨t, _, rfl, SqT.of upd_same, rfl, _, _, rfl, _, _, rfl, _, _, rfl, _, _, rfl, rfl, ?_⟩⟩
      have pb := parts_back e0 pw
      have lenT : (linesOf (setParts n ps os a)).length + 2 ≤ sizeLine := by
        have h1 := join_le "; " ((setParts n ps os a).map (Txt.join " "))
        have h2 := sum_le (ys := (setParts n ps os a).map (Txt.join " ")) (B := 36) fun y hy => by
          obtain ⟨ws, hw, rfl⟩ := List.mem_map.mp hy
          obtain ⟨h1, h2⟩ := w2 ws hw
          exact words_le h1 h2
        have h3 : ("; " : Str).length = 2 := by decide
        have h4 : linesOf (setParts n ps os a) = Txt.join "; " ((setParts n ps os a).map (Txt.join " ")) := if_neg e0
        rw [h4, sizeLine_eq]
        rw [h3] at h1
        rw [List.length_map] at h1 h2
        omega
      generalize hT : linesOf (setParts n ps os a) = txt at *
      refine ⟨_, rfl, ⟨_, rfl⟩, _, _, rfl, rfl, by rfl, lenT, ?_⟩
      rw [pb]
      intro L nL
      have A1 : Same H (upd (upd (upd (upd H l1 (.lst [])) l2 (.lst [])) t (.tup [.non, .ref l1, .ref l2, .non])) L (.lst (((setParts n ps os a).map (Txt.join " ")).map V.str))) := (((same_put n1).trans (same_put n2)).trans (same_put nt)).trans (same_put nL)
      have A2 : (upd (upd (upd (upd H l1 (.lst [])) l2 (.lst [])) t (.tup [.non, .ref l1, .ref l2, .non])) L (.lst (((setParts n ps os a).map (Txt.join " ")).map V.str))) l1 = some (.lst []) := (same_put nL) _ _ ((same_put nt) _ _ ((same_put n2) _ _ upd_same))
      have A3 : (upd (upd (upd (upd H l1 (.lst [])) l2 (.lst [])) t (.tup [.non, .ref l1, .ref l2, .non])) L (.lst (((setParts n ps os a).map (Txt.join " ")).map V.str))) l2 = some (.lst []) := (same_put nL) _ _ ((same_put nt) _ _ upd_same)
      have A4 : (upd (upd (upd (upd H l1 (.lst [])) l2 (.lst [])) t (.tup [.non, .ref l1, .ref l2, .non])) L (.lst (((setParts n ps os a).map (Txt.join " ")).map V.str))) L = some (.lst (((setParts n ps os a).map (Txt.join " ")).map V.str)) := upd_same
      have l12 : l1 ≠ l2 := fun z => by rw [← z, upd_same] at n2; cases n2
      have m2 : H l2 = none := (same_put n1).free n2
      have mL : H L = none := ((same_put n1).trans ((same_put n2).trans (same_put nt))).free nL
      have k1 : (upd (upd (upd H l1 (.lst [])) l2 (.lst [])) t (.tup [.non, .ref l1, .ref l2, .non])) l1 = some (.lst []) := (same_put nt) _ _ ((same_put n2) _ _ upd_same)
      have k2 : (upd (upd (upd H l1 (.lst [])) l2 (.lst [])) t (.tup [.non, .ref l1, .ref l2, .non])) l2 = some (.lst []) := (same_put nt) _ _ upd_same
      have L1 : L ≠ l1 := fun z => by rw [z, k1] at nL; cases nL
      have L2 : L ≠ l2 := fun z => by rw [z, k2] at nL; cases nL
      have gn : ∀ i, (netWords n).length ≤ i → (if i = 0 then none else n) = n := fun i hi => by
        by_cases z : i = 0
        · rw [if_pos z]
          cases n with
          | none => rfl
          | some q => exact absurd (show 1 ≤ i from hi) (by omega)
        · rw [if_neg z]
      revert A1 A2 A3 A4
      generalize upd (upd (upd (upd H l1 (.lst [])) l2 (.lst [])) t (.tup [.non, .ref l1, .ref l2, .non])) L (.lst (((setParts n ps os a).map (Txt.join " ")).map V.str)) = J0
      intro A1 A2 A3 A4
      refine ⟨L, rfl, ⟨_, SqL.of A4⟩, for_it (walk_list (K := K) (a := L) (xs := ((setParts n ps os a).map (Txt.join " ")).map V.str)) (fun i σ J => ∃ (g av : V) (us : List V) (x5 x6 x7 : Option V), σ = [some (.str txt), some g, some (.ref l1), some (.ref l2), some av, x5, x6, x7] ∧ Same H J ∧ J L = some (.lst (((setParts n ps os a).map (Txt.join " ")).map V.str)) ∧ J l1 = some (.lst us) ∧
        J l2 = some (.lst ((os.take (i - (netWords n).length - ps.length)).map V.str)) ∧ TupsAt plcV J us (ps.take (i - (netWords n).length)) ∧ NetIs J g (some (if i = 0 then none else n)) ∧ av = (if (netWords n).length + ps.length + os.length < i then a else .non))
        ⟨.non, .non, [], _, _, _, rfl, A1, A4, A2, ?_, ?_, ?_, ?_⟩ (fun _ _ _ _ h => by obtain ⟨_, _, _, _, _, _, _, _, k, _⟩ := h; exact SqL.of k) ?_ ?_⟩
      · simpa using A3
      · simpa using TupsAt.nil
      · exact .non
      · rw [if_neg (Nat.not_lt_zero _)]
      · rintro i x σ J J' hi ⟨g, av, us, x5, x6, x7, rfl, B1, B2, B3, B4, B5, B6, B7⟩ ⟨rfl, hx⟩
        rw [List.getElem?_map, List.getElem?_map] at hx
        obtain ⟨ws, hws, rfl⟩ : ∃ ws, (setParts n ps os a)[i]? = some ws ∧ x = V.str (Txt.join " " ws) := by
          cases e : (setParts n ps os a)[i]? with
          | none => rw [e] at hx; cases hx
          | some z => rw [e] at hx; exact ⟨z, rfl, (Option.some.inj hx).symm⟩
        obtain ⟨p1, p2⟩ := pw ws (List.mem_of_getElem? hws)
        obtain ⟨q1, q2⟩ := w2 ws (List.mem_of_getElem? hws)
        have lenW : (Txt.join " " ws).length + 2 ≤ sizeLine := by
          have := words_le q1 q2
          rw [sizeLine_eq]; omega
        have wb := words_back (ws := ws) (fun z => by rw [z] at p1; cases p1) p2
        refine ⟨_, rfl, ⟨_, rfl⟩, _, _, rfl, rfl, by rfl, lenW, ?_⟩
        rw [wb]
        intro Pp nP
        obtain ⟨w0, wr, rfl⟩ : ∃ w0 wr, ws = w0 :: wr := by
          cases ws with
          | nil => cases p1
          | cons w0 wr => exact ⟨w0, wr, rfl⟩
        have lwr : wr.length < 16384 := by
          rw [List.length_cons] at q1
          omega
        refine ⟨Pp, V.str w0, wr.map V.str, rfl, SqL.of upd_same, by rw [List.length_map]; exact lwr, fun Dm nD => ⟨_, _, rfl, _, _, rfl, rfl, ?_⟩⟩
        have S1 : Same J' (upd (upd J' Pp (.lst ((w0 :: wr).map V.str))) Dm (.lst (wr.map V.str))) := (same_put nP).trans (same_put nD)
        have S2 : (upd (upd J' Pp (.lst ((w0 :: wr).map V.str))) Dm (.lst (wr.map V.str))) Dm = some (.lst (wr.map V.str)) := upd_same
        revert S1 S2
        generalize upd (upd J' Pp (.lst ((w0 :: wr).map V.str))) Dm (.lst (wr.map V.str)) = J2
        intro S1 S2
        have C1 := B1.trans S1
        have C2 := S1 _ _ B2
        have C3 := S1 _ _ B3
        have C4 := S1 _ _ B4
        have C5 := B5.same S1
        have C6 := B6.kin S1.kin
        rcases parts_at i _ hws with ⟨qq, hn, i0, ew⟩ | ⟨j, p, ei, hp, ew⟩ | ⟨j, z, ei, hz, ew⟩ | ⟨z, hz, ei, ew⟩
        · obtain ⟨rfl, rfl⟩ := List.cons.inj ew
          subst hn i0
          obtain ⟨r1, r2, r3, r4⟩ := ri.net qq rfl
          refine ⟨_, rfl, rfl, _, rfl, iteT ⟨_, rfl, Dm, _, rfl, .inl (SqL.of S2), rfl, _, rfl, iteT ?_⟩⟩
          refine ⟨_, rfl, Dm, _, 0, _, rfl, rfl, SqL.of S2, atI_nat (j := 0) rfl, qq.1, rfl, by omega, by omega, fun J3 s3 => ⟨_, rfl, Dm, _, 1, _, rfl, rfl, SqL.of (s3 _ _ S2), atI_nat (j := 1) rfl, qq.2, rfl, r3, by omega, fun J4 s4 => ⟨by show 2 ≤ sizeLine; decide, fun c nc => ?_⟩⟩⟩
          have S4 : Same J2 (upd J4 c (.tup [.int qq.1, .int qq.2])) := (s3.trans s4).trans (same_put nc)
          refine ⟨.ref c, av, us, _, _, _, rfl, C1.trans S4, S4 _ _ C2, S4 _ _ C3, ?_, ?_, ?_, ?_⟩
          · have e := S4 _ _ C4
            rw [Nat.zero_sub, Nat.zero_sub] at e
            have z : (0 + 1 - (netWords (some qq)).length - ps.length) = 0 := by show 0 + 1 - 1 - ps.length = 0; omega
            rw [z]
            exact e
          · exact C5.same S4
          · exact .net upd_same r1 r2 r3 r4
          · rw [if_neg (by omega)] at B7
            rw [if_neg (by show ¬ 1 + ps.length + os.length < 0 + 1; omega)]
            exact B7
        · obtain ⟨rfl, rfl⟩ := List.cons.inj ew
          have jl := (List.getElem?_eq_some_iff.mp hp).1
          obtain ⟨r1, r2, r3⟩ := ri.pn p (List.mem_of_getElem? hp)
          refine ⟨_, rfl, rfl, _, rfl, iteF (iteF ⟨_, rfl, rfl, _, rfl, iteT ⟨_, rfl, Dm, _, rfl, .inl (SqL.of S2), rfl, _, rfl, iteT ?_⟩⟩)⟩
          refine ⟨_, rfl, .inl ⟨rfl, _, SqL.of C3⟩, _, rfl, Dm, _, 0, _, rfl, rfl, SqL.of S2, atI_nat (j := 0) rfl, _, rfl, Dm, _, 1, _, rfl, rfl, SqL.of S2, atI_nat (j := 1) rfl, p.2, rfl, by omega, r3, fun J3 s3 => ⟨by show 2 ≤ sizeLine; decide, fun c nc => ?_⟩⟩
          have S3 := s3
          have D1 := S3 _ _ C3
          have cl1 : c ≠ l1 := fun z => by rw [z, D1] at nc; cases nc
          have E1 : (upd J3 c (.tup [.str p.1, .int p.2])) l1 = some (.lst us) := by rw [upd_ne (Ne.symm cl1)]; exact D1
          have T3 : TupsAt plcV (upd J3 c (.tup [.str p.1, .int p.2])) (us ++ [.ref c]) (ps.take (i - (netWords n).length) ++ [p]) := ((C5.same S3).same (same_put nc)).snoc upd_same
          have tk : ps.take (i + 1 - (netWords n).length) = ps.take (i - (netWords n).length) ++ [p] := by
            have h1 : i + 1 - (netWords n).length = j + 1 := by omega
            have h2 : i - (netWords n).length = j := by omega
            rw [h1, h2, List.take_add_one, hp]
            rfl
          have lus : us.length < sizeLine := by
            have := C5.len
            rw [List.length_take] at this
            have := ri.pl
            exact small1000 (by omega)
          refine ⟨l1, us, _, rfl, rfl, E1, lus, g, av, us ++ [.ref c], _, _, _, rfl, ?_, ?_, upd_same, ?_, ?_, ?_, ?_⟩
          · intro x u e
            rw [upd_ne (fun z => by rw [z, n1] at e; cases e)]
            exact (same_put nc) _ _ (S3 _ _ (C1 _ _ e))
          · rw [upd_ne L1]
            exact (same_put nc) _ _ (S3 _ _ C2)
          · rw [upd_ne (Ne.symm l12)]
            have e := (same_put (o := .tup [.str p.1, .int p.2]) nc) _ _ (S3 _ _ C4)
            have z1 : i - (netWords n).length - ps.length = 0 := by omega
            have z2 : i + 1 - (netWords n).length - ps.length = 0 := by omega
            rw [z1] at e
            rw [z2]
            exact e
          · rw [tk]
            exact T3.put E1
          · rw [gn (i + 1) (by omega)]
            have e := ((C6.kin S3.kin).kin (same_put (o := .tup [.str p.1, .int p.2]) nc).kin)
            rw [gn i (by omega)] at e
            exact net_put e E1
          · rw [if_neg (by omega)] at B7
            rw [if_neg (by omega)]
            exact B7
        · obtain ⟨rfl, rfl⟩ := List.cons.inj ew
          have jl := (List.getElem?_eq_some_iff.mp hz).1
          refine ⟨_, rfl, rfl, _, rfl, iteF (iteF ⟨_, rfl, rfl, _, rfl, iteF (iteF ⟨_, rfl, rfl, _, rfl, iteT ⟨_, rfl, Dm, _, rfl, .inl (SqL.of S2), rfl, _, rfl, iteT ?_⟩⟩)⟩)⟩
          have lus : ((os.take (i - (netWords n).length - ps.length)).map V.str).length < sizeLine := by
            rw [List.length_map, List.length_take]
            have := ri.ol
            exact small1000 (by omega)
          refine ⟨_, rfl, .inl ⟨rfl, _, SqL.of C4⟩, _, rfl, Dm, _, 0, _, rfl, rfl, SqL.of S2, atI_nat (j := 0) rfl, l2, _, _, rfl, rfl, C4, lus, g, av, us, _, _, _, rfl, ?_, ?_, ?_, ?_, ?_, ?_, ?_⟩
          · intro x u e
            rw [upd_ne (fun z => by rw [z, m2] at e; cases e)]
            exact C1 _ _ e
          · rw [upd_ne L2]
            exact C2
          · rw [upd_ne l12]
            exact C3
          · rw [upd_same]
            have h1 : i + 1 - (netWords n).length - ps.length = j + 1 := by omega
            have h2 : i - (netWords n).length - ps.length = j := by omega
            rw [h1, h2, List.take_add_one, hz]
            simp
          · have h1 : ps.take (i + 1 - (netWords n).length) = ps.take (i - (netWords n).length) := by
              rw [List.take_of_length_le (by omega), List.take_of_length_le (by omega)]
            rw [h1]
            exact C5.put C4
          · rw [gn (i + 1) (by omega)]
            rw [gn i (by omega)] at C6
            exact net_put C6 C4
          · rw [if_neg (by omega)] at B7
            rw [if_neg (by omega)]
            exact B7
        · obtain ⟨rfl, rfl⟩ := List.cons.inj ew
          refine ⟨_, rfl, rfl, _, rfl, iteF (iteF ⟨_, rfl, rfl, _, rfl, iteF (iteF ⟨_, rfl, rfl, _, rfl, iteF (iteF ⟨_, rfl, rfl, _, rfl, iteT ⟨_, rfl, Dm, _, rfl, .inl (SqL.of S2), rfl, _, rfl, iteT ?_⟩⟩)⟩)⟩)⟩
          refine ⟨_, rfl, Dm, _, 0, _, rfl, rfl, SqL.of S2, atI_nat (j := 0) rfl, g, _, us, _, _, _, rfl, C1, C2, C3, ?_, ?_, ?_, ?_⟩
          · have h1 : os.take (i + 1 - (netWords n).length - ps.length) = os.take (i - (netWords n).length - ps.length) := by
              rw [List.take_of_length_le (by omega), List.take_of_length_le (by omega)]
            rw [h1]
            exact C4
          · have h1 : ps.take (i + 1 - (netWords n).length) = ps.take (i - (netWords n).length) := by
              rw [List.take_of_length_le (by omega), List.take_of_length_le (by omega)]
            rw [h1]
            exact C5
          · rw [gn (i + 1) (by omega)]
            rw [gn i (by omega)] at C6
            exact C6
          · rw [if_pos (by omega), hz]
      · rintro σ J ⟨g, av, us, x5, x6, x7, rfl, B1, B2, B3, B4, B5, B6, B7⟩
        have hN : (((setParts n ps os a).map (Txt.join " ")).map V.str).length = (netWords n).length + ps.length + os.length + (atWords a).length := by
          rw [List.length_map, List.length_map]
          unfold setParts
          rw [List.length_append, List.length_append, List.length_append, List.length_map, List.length_map]
        rw [hN] at B4 B5 B6 B7
        rw [List.take_of_length_le (by omega)] at B4 B5
        rw [gn _ (by omega)] at B6
        have ea : av = a := by
          rw [B7]
          rcases ri.at_ with rfl | e
          · split <;> rfl
          · obtain ⟨z, rfl, hz⟩ := nameV_str e
            rw [if_pos (show _ < _ + (atWords (V.str z)).length from Nat.lt_succ_self _)]
        subst ea
        refine ⟨_, rfl, _, rfl, l1, us, rfl, .inl ⟨SqL.of B3, fun pa na => ⟨_, rfl, l2, _, rfl, .inl ⟨SqL.of ((same_put na) _ _ B4), fun pf nf => ⟨_, rfl, rfl, rfl, fun x dx nx nd ne => ?_⟩⟩⟩⟩⟩
        have S5 : Same J (upd (upd J pa (.tup us)) pf (.tup (os.map V.str))) := (same_put na).trans (same_put nf)
        exact made_go ri (cell_at ri.at_) (B6.kin S5.kin) (TpK.of ((same_put nf) _ _ upd_same)) (B5.same S5) (TpK.of upd_same) (B1.trans S5) q x dx nx nd ne
end
end K13


/-! Setting.read -/
namespace Rng
open PySem L2
theorem passNo {P : Program} {w : World} {X : Cx} : Passes (L2N.CX P w) X (fun _ _ _ => False) := fun _ _ _ _ _ _ _ h => by
  obtain ⟨_, _, _, _, _, _, _, _, _, _, _, _, z⟩ := h
  exact z.elim
end Rng
namespace K13
open PySem L2 Rng Bag Gd LamX Tr4
section
variable {P : Program} {w : World} {K : PySem.W.Frag} {mg : Str → Option Value} {base : Heap}
abbrev sRead : Stmt := inClass sSet 5
theorem scRead : FnScope ["text", "setting"] ["text"] (defScope sRead) := ⟨rfl, rfl, rfl, by decide +kernel, rfl, by decide +kernel, by decide +kernel⟩
/-- sorted as a setting has them -/
def Sorted (ps : List (Str × Int)) (os : List Str) : Prop := ps.Pairwise (fun q r => ltR (asRow r) (asRow q) = false) ∧ PyProof.Rows.sortedS os = true
def spRead (C : Addr) : Sp := fun vs H Q _ => ∃ (n : Option (Int × Int)) (ps : List (Str × Int)) (os : List Str) (a : V), vs = [.str (linesOf (setParts n ps os a))] ∧ Right n ps os a ∧ Sorted ps os ∧ ∀ (o : Addr) (H' : Hp), SettingAt C H' o n ps os a → H o = none → Same H H' → Q (.ref o) H'
theorem ok_read {f fR C Ci : Addr} {fd dR : FuncData} (F : Fun K "read" "Setting.read" sRead f fd) (T : Kt mg) (X : Sx K C) (TI : ErrV K Ci) (mI : mg "InvalidText" = some (.ref Ci)) (FR : Fun K "_setting_in" "_setting_in" sRd fR dR) (bR : Binds K dR ["text"] []) (mR : mg "_setting_in" = some (.ref fR)) (GR : FnOk P w K mg base (L2N.CX P w) 7 fR dR ["text"] (spRd C)) :
    FnOk P w K mg base (L2N.CX P w) 8 f fd ["text"] (spRead C) := by
  refine F.okN scRead (fun vs H Q E h => ?_) (fun cdv A outer s H vs Q E hr h => ?_)
  · obtain ⟨n, ps, os, a, rfl, _⟩ := h
    rfl
  · obtain ⟨n, ps, os, a, rfl, ri, ⟨so1, so2⟩, q⟩ := h
    refine ⟨_, pss_cons (ps_if (pt_not (pt_val (pe_callB call_isi (by rfl) T.nIsi (by decide +kernel) (pa_cons (pv 0) (pa_cons (pe_bltn (v := .ty "str") (by rfl) T.nStr (by decide +kernel) rfl) pa_nil))))) (pss_one (ps_raiseV rfl rfl takesN TI hr rfl mI (pa_cons (pv 0) pa_nil))) pss_nil)
      (pss_cons (ps_try_thru0 (pss_one (ps_set (i := 1) scRead.nd rfl (Or.inl rfl) (pe_call GR hr rfl mR FR.kp bR .nil passNo (pa_cons (pv 0) pa_nil)))))
      (pss_cons (ps_if (pt_cmpR op_ne (pe_fld (pv 1) rfl) (pv 0) (nomark _)) (pss_one (ps_raiseV rfl rfl takesN TI hr rfl mI (pa_cons (pv 0) pa_nil))) pss_nil)
      (pss_one (ps_ret (pv 1))))), ?_⟩
    refine ⟨_, rfl, _, _, _, _, true, rfl, .ty "str", .base (.str _), kit_ty (by decide +kernel), true, rfl, ?_⟩
    show if (!true) = true then _ else _
    refine iteF ⟨_, rfl, n, ps, os, a, rfl, ri, fun o ps' os' H' p1 s1 p2 s2 at_ no sm => ?_⟩
    obtain rfl := pairs_one p1 s1 so1
    obtain rfl := names_one p2 s2 so2
    have ht := at_.text
    obtain ⟨dx, fs, h1, k1⟩ := ht
    refine ⟨_, rfl, o, C, dx, fs, _, rfl, h1, X.cl, X.nT, k1, _, rfl, rfl, _, rfl, ?_⟩
    have e : (!decide (V.str (linesOf (setParts n ps' os' a)) = V.str (linesOf (setParts n ps' os' a)))) = false := by rw [decide_eq_true rfl]; rfl
    rw [e]
    exact iteF ⟨_, rfl, q o H' at_ no sm⟩
end
end K13


namespace K13
open PySem L2 Rng Bag Gd LamX Tr4
section
variable {P : Program} {w : World} {K : PySem.W.Frag} {mg : Str → Option Value} {base : Heap}
abbrev sMixed : Stmt := top 51
theorem scMixed : FnScope ["_law_source_here", "_law_things", "_law_left", "_law_found", "_law_k"] ["_law_source_here", "_law_things"] (defScope sMixed) := ⟨rfl, rfl, rfl, by decide +kernel, rfl, by decide +kernel, by decide +kernel⟩
theorem ok_mixed {f fP : Addr} {fd dP : FuncData} (F : Fun K "_law_mixed" "_law_mixed" sMixed f fd) (T : Bt mg) (nList : mg "list" = none) (FP : Fun K "_law_pick" "_law_pick" sPick fP dP) (bP : Binds K dP ["_law_source_here", "_law_many"] []) (mP : mg "_law_pick" = some (.ref fP)) :
    FnOk P w K mg base CX0 2 f fd ["_law_source_here", "_law_things"] spMixed := by
  have GP : FnOk P w K mg base CX0 1 fP dP ["_law_source_here", "_law_many"] spPick := ok_pick FP T
  refine F.ok scMixed (fun vs H Q E h => ?_) (fun cdv A outer s H vs Q E hr h => ?_)
  · obtain ⟨p, l, b, xs, rfl, _⟩ := h
    rfl
  · obtain ⟨p, la, b, xs, rfl, nla, hs, hb, hX, hz, q⟩ := h
    refine ⟨_, pss_cons (ps_par (i := 2) (j := 3) (by rfl) scMixed.nd rfl rfl (by decide) rfl rfl (pa_cons (pe_callTy call_list_of (by rfl) nList (by decide +kernel) (pa_cons (pv 1) pa_nil)) (pa_cons (pe_lst pa_nil) pa_nil)) (by rfl))
      (pss_cons (ps_for PassesOwn.never rfl (pi_range1 rfl T.nRange (pa_cons (pe_callB call_len_seq (by rfl) T.nLen PySem.boot_len (pa_cons (pv 2) pa_nil)) pa_nil)) (pg_name (i := 4) scMixed.nd rfl (Or.inl rfl))
        (pss_one (ps_expr (pe_bm PySem.F.plainAttrs_list PySem.F.slot_list_append PySem.F.type_list_append mt_append (pv 3) (pa_cons (pe_bm PySem.F.plainAttrs_list PySem.F.slot_list_pop PySem.F.type_list_pop mt_popAt (pv 2)
          (pa_cons (pe_call GP hr rfl mP FP.kp bP .nil pass0 (pa_cons (pv 0) (pa_cons (pe_callB call_len_seq (by rfl) T.nLen PySem.boot_len (pa_cons (pv 2) pa_nil)) pa_nil))) pa_nil)) pa_nil)))))
      (pss_one (ps_ret (pv 3)))), ?_⟩
    refine ⟨_, rfl, la, xs, rfl, .inl (SqL.of hX), fun l nl => ⟨Nat.zero_le _, fun l2 nl2 => ⟨_, _, rfl, ?_⟩⟩⟩
    have ne : l2 ≠ l := fun z => by
      rw [z, upd_same] at nl2
      cases nl2
    have nl2' : H l2 = none := by rwa [upd_ne ne] at nl2
    have nlp : l ≠ p := hs.ne nl
    have nl2p : l2 ≠ p := hs.ne nl2'
    have s0 : Same H (upd (upd H l (.lst xs)) l2 (.lst [])) := (same_put nl).trans (same_put nl2)
    have e1 : (upd (upd H l (.lst xs)) l2 (.lst [])) l = some (.lst xs) := by rw [upd_ne (Ne.symm ne), upd_same]
    have e2 : (upd (upd H l (.lst xs)) l2 (.lst [])) l2 = some (.lst []) := upd_same
    revert s0 e1 e2
    generalize upd (upd H l (.lst xs)) l2 (.lst []) = H0
    intro s0 e1 e2
    refine ⟨_, rfl, l, xs, rfl, .inl (SqL.of e1), ⟨_, rfl, by omega, by omega, ?_⟩⟩
    have em : ((xs.length : Nat) : Int).toNat = xs.length := rfl
    refine for_it (walk_range (lo := 0) (n := ((xs.length : Nat) : Int).toNat)) (fun i σ H' => ∃ (x4 : Option V) (ys rest : List V), σ = [some (.ref p), some (.ref la), some (.ref l), some (.ref l2), x4] ∧ (ys ++ rest).Perm xs ∧ ys.length = i ∧ But p H H' ∧ Src H' p (b + i) ∧
        H' l = some (.lst rest) ∧ H' l2 = some (.lst ys))
      ⟨_, [], xs, rfl, .refl _, rfl, s0.but p, hs.same s0, e1, e2⟩ (fun _ _ _ _ _ => trivial) ?_ ?_
    · rintro i x σ Hx H2 hi ⟨x4, ys, rest, rfl, pm, yl, B2, S2, f1, f2⟩ ⟨rfl, rfl⟩
      have len : i + rest.length = xs.length := by
        have := pm.length_eq
        rw [List.length_append, yl] at this
        exact this
      have pos : 0 < rest.length := by omega
      refine ⟨_, rfl, .inl ⟨rfl, _, SqL.of f2⟩, _, rfl, .inl ⟨rfl, _, SqL.of f1⟩, _, rfl, _, rfl, l, rest, rfl, .inl (SqL.of f1), p, rest.length, b + i, rfl, S2, by omega, by omega, by omega, fun d H3 d0 d1 B3 S3 => ?_⟩
      have g1 := B3 _ _ nlp f1
      have g2 := B3 _ _ nl2p f2
      have hd : d.toNat < rest.length := by omega
      refine ⟨l, rest, d, d.toNat, rest[d.toNat], rfl, rfl, g1, by omega, by omega, PySem.StrLaws.seqIndex_nonneg d0 d1, List.getElem?_eq_getElem hd, ?_⟩
      have h2 : (upd H3 l (.lst (rest.eraseIdx d.toNat))) l2 = some (.lst ys) := by rw [upd_ne ne]; exact g2
      refine ⟨l2, ys, _, rfl, rfl, h2, small1000 (by omega), ?_⟩
      refine ⟨_, ys ++ [rest[d.toNat]], rest.eraseIdx d.toNat, rfl, ?_, ?_, ?_, ?_, ?_, upd_same⟩
      · rw [List.append_assoc]
        refine (List.Perm.append_left ys ?_).trans pm
        exact erase_perm rest d.toNat _ (List.getElem?_eq_getElem hd)
      · rw [List.length_append, yl]
        rfl
      · exact fun c o nc e => by
          rw [upd_ne (fun z => by rw [z, nl2'] at e; cases e), upd_ne (fun z => by rw [z, nl] at e; cases e)]
          exact B3 c o nc (B2 c o nc e)
      · obtain ⟨A0, B0, t0, e0, r⟩ := S3.mono (c := b + (i + 1)) (by omega)
        exact ⟨A0, B0, t0, by rw [upd_ne nl2p.symm, upd_ne nlp.symm]; exact e0, r⟩
      · rw [upd_ne (Ne.symm ne), upd_same]
    · rintro σ H2 ⟨x4, ys, rest, rfl, pm, yl, B2, S2, f1, f2⟩
      have := pm.length_eq
      rw [List.length_append, yl, em] at this
      have rn : rest = [] := List.length_eq_zero_iff.mp (by omega)
      rw [rn, List.append_nil] at pm
      exact ⟨_, rfl, q l2 ys H2 pm B2 nl2' nl2p f2 (by rw [em] at S2; exact S2)⟩
end
end K13


/-! _law_made -/
namespace K13
open PySem L2 Rng Bag Gd LamX Tr4
theorem KnownAt.right {H : Hp} {p k lp lo : Addr} {g a : V} {n : Option (Int × Int)} {us : List V} {rs : List (Str × Int)} {os : List Str} (h : KnownAt H p k lp lo g a n us rs os) : Right n rs os a := by
  refine ⟨fun q hq => ?_, ?_, Nat.le_trans h.ol (by decide), h.prn, h.prd, h.ois, h.od, h.og, ?_⟩
  · subst hq
    have ng := h.net
    cases ng with
    | net e a b c d => exact ⟨a, b, c, d⟩
  · have := h.prs.len
    have := h.pl
    omega
  · rcases h.at_ with e | ⟨z, e, hz⟩
    · exact .inl e
    · exact .inr (by rw [e]; exact hz)
def unS : V → Str
  | .str z => z
  | _ => ""
theorem perm_strs {zs : List V} {os : List Str} (h : zs.Perm (os.map V.str)) : ∃ os' : List Str, os'.Perm os ∧ zs = os'.map V.str := by
  refine ⟨zs.map unS, ?_, ?_⟩
  · have e := h.map unS
    rw [List.map_map] at e
    have : (unS ∘ V.str) = id := rfl
    rw [this, List.map_id] at e
    exact e
  · rw [List.map_map]
    refine (List.map_id zs).symm.trans (List.map_congr_left fun v hv => ?_)
    obtain ⟨z, _, rfl⟩ := List.mem_map.mp (h.mem_iff.mp hv)
    rfl
section
variable {P : Program} {w : World} {K : PySem.W.Frag} {mg : Str → Option Value} {base : Heap}
abbrev sMade : Stmt := top 57
theorem scMade : FnScope ["_law_source_here", "_law_known_here", "_law_pairs", "_law_ons"] ["_law_source_here", "_law_known_here"] (defScope sMade) := ⟨rfl, rfl, rfl, by decide +kernel, rfl, by decide +kernel, by decide +kernel⟩
def spMadeL (C : Addr) : Sp := fun vs H Q _ => ∃ (p k lp lo : Addr) (b : Nat) (g a : V) (n : Option (Int × Int)) (us : List V) (rs : List (Str × Int)) (os : List Str), vs = [.ref p, .ref k] ∧ Src H p b ∧ b ≤ 700000 ∧ k ≠ p ∧ KnownAt H p k lp lo g a n us rs os ∧
  ∀ (o : Addr) (ps : List (Str × Int)) (os' : List Str) (H' : Hp), ps.Perm rs → os'.Perm os → Sorted ps os' → SettingAt C H' o n ps os' a → H o = none → o ≠ p → But p H H' → Src H' p (b + 6) → Q (.ref o) H'
theorem ok_made {f fM fI C : Addr} {Ce : Nat → Addr} {fd dM dI : FuncData} (F : Fun K "_law_made" "_law_made" sMade f fd) (T : Kt mg) (FM : Fun K "_law_mixed" "_law_mixed" sMixed fM dM) (bM : Binds K dM ["_law_source_here", "_law_things"] []) (mM : mg "_law_mixed" = some (.ref fM)) (GM : FnOk P w K mg base CX0 2 fM dM ["_law_source_here", "_law_things"] spMixed)
    (mS : mg "Setting" = some (.ref C)) (M : Mk K C fI) (FI : Fun K "__init__" "Setting.__init__" sSInit fI dI) (GI : FnOk P w K mg base (L2N.CX P w) 5 fI dI ["self", "grid", "apart", "on_grid", "at_rows"] (spSet K C Ce)) :
    FnOk P w K mg base CX0 7 f fd ["_law_source_here", "_law_known_here"] (spMadeL C) := by
  refine F.ok scMade (fun vs H Q E h => ?_) (fun cdv A outer s H vs Q E hr h => ?_)
  · obtain ⟨p, k, lp, lo, b, g, a, n, us, rs, os, rfl, _⟩ := h
    rfl
  · obtain ⟨p, k, lp, lo, b, g, a, n, us, rs, os, rfl, hs, hb, nkp, kn, q⟩ := h
    have hr2 : Room 2 _ := hr.mono (by decide)
    have kb := kb_rev FI
    refine ⟨_, pss_cons (ps_par (i := 2) (j := 3) (by rfl) scMade.nd rfl rfl (by decide) rfl rfl (pa_cons (pe_callTy call_tuple_of (by rfl) T.nTuple (by decide +kernel) (pa_cons (pe_call GM hr2 rfl mM FM.kp bM .nil pass0 (pa_cons (pv 0) (pa_cons (pe_ix ix_list (pv 1) pe_int (fun _ _ => rfl)) pa_nil))) pa_nil)) (pa_cons (pe_callTy call_tuple_of (by rfl) T.nTuple (by decide +kernel) (pa_cons (pe_call GM hr2 rfl mM FM.kp bM .nil pass0 (pa_cons (pv 0) (pa_cons (pe_ix ix_list (pv 1) pe_int (fun _ _ => rfl)) pa_nil))) pa_nil)) pa_nil)) (by rfl))
      (pss_one (ps_ret (pe_makeK0 M GI hr rfl mS kb passNo (pk_cons (pe_ix ix_list (pv 1) pe_int (fun _ _ => rfl)) (pk_cons (pv 3) (pk_cons (pv 2) (pk_cons (pe_ix ix_list (pv 1) pe_int (fun _ _ => rfl)) pk_nil))))))), ?_⟩
    have ri := kn.right
    refine ⟨_, rfl, _, rfl, k, _, 1, _, rfl, rfl, SqL.of kn.k, atI_nat (j := 1) rfl, p, lp, b, us, rfl, kn.np, hs, by omega, kn.pairs, Nat.le_trans kn.pl (by decide), fun q1 ys H1 pm1 B1 nq1 nq1p e1 S1 => ⟨q1, ys, rfl, .inl ⟨SqL.of e1, fun t1 nt1 => ?_⟩⟩⟩
    have S1' := S1.same (same_put (o := .tup ys) nt1)
    have B1' : But p H (upd H1 t1 (.tup ys)) := B1.trans ((same_put nt1).but p)
    have et1 : (upd H1 t1 (.tup ys)) t1 = some (.tup ys) := upd_same
    have t1p : t1 ≠ p := S1.ne nt1
    revert S1' B1' et1
    generalize upd H1 t1 (.tup ys) = J1
    intro S1' B1' et1
    have ek1 := B1' _ _ nkp kn.k
    have eo1 := B1' _ _ kn.no kn.ons
    refine ⟨_, rfl, _, rfl, k, _, 2, _, rfl, rfl, SqL.of ek1, atI_nat (j := 2) rfl, p, lo, _, _, rfl, kn.no, S1', by have := kn.pl; omega, eo1, by rw [List.length_map]; exact Nat.le_trans kn.ol (by decide), fun q2 zs H2 pm2 B2 nq2 nq2p e2 S2 => ⟨q2, zs, rfl, .inl ⟨SqL.of e2, fun t2 nt2 => ?_⟩⟩⟩
    have S2' := S2.same (same_put (o := .tup zs) nt2)
    have B2' : But p J1 (upd H2 t2 (.tup zs)) := B2.trans ((same_put nt2).but p)
    have et2 : (upd H2 t2 (.tup zs)) t2 = some (.tup zs) := upd_same
    have t2p : t2 ≠ p := S2.ne nt2
    revert S2' B2' et2
    generalize upd H2 t2 (.tup zs) = J2
    intro S2' B2' et2
    have B12 : But p H J2 := B1'.trans B2'
    have ek2 := B12 _ _ nkp kn.k
    have et1' := B2' _ _ t1p et1
    obtain ⟨os', po, rfl⟩ := perm_strs pm2
    have T0 : TupsAt plcV J2 us rs := kn.prs.kin (S2'.kinB hs B12)
    obtain ⟨rs', pr, T1⟩ := T0.perm pm1
    refine ⟨_, _, rfl, _, rfl, k, _, 3, _, rfl, rfl, SqL.of ek2, atI_nat (j := 3) rfl, _, rfl, _, rfl, _, rfl, k, _, 0, _, rfl, rfl, SqL.of ek2, atI_nat (j := 0) rfl, rfl, rfl, fun x dx nx nd ne => ?_⟩
    have ri' := ri.perm pr po
    refine made_go (H0 := J2) ri' (cell_at ri.at_) (kn.net.kin (S2'.kinB hs B12)) (TpK.of et1') T1 (TpK.of et2) (Same.refl _) (fun o ps os2 H' p1 s1 p2 s2 at_ no sm => ?_) x dx nx nd ne
    have op : o ≠ p := S2'.ne no
    have ho : H o = none := by
      cases e : H o with
      | none => rfl
      | some u => exact absurd (B12 _ _ op e) (by rw [no]; exact fun z => nomatch z)
    refine q o ps os2 H' (p1.trans pr) (p2.trans po) ⟨s1, s2⟩ at_ ho op (B12.trans (sm.but p)) ((S2'.same sm).mono ?_)
    have := kn.pl
    have := kn.ol
    rw [List.length_map]
    omega
end
end K13


/-! bool(o) of a class that tells neither a truth nor a length -/
namespace Own1
open PySem PySem.Spec PyProof.Rows L2
section
variable {X : Cx}
/-- bool(o) is True -/
theorem call_bool0 {C : Addr} (nb : PySem.W.findIn X.K (.ref C) "__bool__" = some none) (nl : PySem.W.findIn X.K (.ref C) "__len__" = some none) : CallR X (.type "bool") (fun xs H Q => ∃ a dx fs, xs = [V.ref a] ∧ H a = some (.ins C dx fs) ∧ Q (.bl true) H) := by
  rintro pins s σ H xs us Q I r ⟨a, dx, fs, rfl, ha, q⟩
  rw [Vals.ref1 r]
  obtain ⟨ox, od, J⟩ := ins_at I ha
  obtain ⟨m, hF⟩ := I.fr
  refine callType_codes (T := "bool") (Bi := Builtin.«object.__init__») (Q₁ := fun r z => r = Value.bool true ∧ z = s) PySem.F.called_bool (PySem.F.typeCall_bool_1 _) PySem.F.entry_object_init (codeAny_of_tree ?_) ?_
  · have made : wpAny (model X.prog X.w) X.A.in1.in1.in1 (truthy (.ref a)) (fun b z => b = true ∧ z = s) X.xe s := PySem.W.truthy_K0 hF I.ok.mod.kin J nb nl ⟨rfl, rfl⟩
    show wpAny _ X.A.in1.in1 (do checkBuiltinCall "bool.__new__" ⟨[.type "bool", .ref a], []⟩; again (.builtin "bool.__new__" ⟨[.type "bool", .ref a], []⟩)) _ _ s
    refine wpAny_bind (wpAny_of_eq (PySem.F.newCall_bool_1 _) (wpAny_pure ⟨plainId_quiet (by decide +kernel) _, codeAny_builtin PySem.F.entry_bool_new ?_⟩))
    rw [Around.under_plainId (by decide +kernel) _]
    unfold Builtin.«bool.__new__»
    refine wpAny_bind (wpAny_of_eq (a := true) (by rfl) (PySem.W.KFB.if_not rfl (wpAny_bind (wpAny_of_eq (a := true) PySem.F.conv_sub_bool (PySem.W.KFB.if_not rfl (wpAny_bind (wpAny_of_eq (a := [Value.ref a]) (by rfl) (wpAny_bind ?_))))))))
    refine PySem.W.truthy_K0 hF I.ok.mod.kin J nb nl (wpAny_pure ⟨rfl, rfl⟩)
  · rintro obj s₁ ⟨rfl, rfl⟩
    exact ⟨PySem.typeIs_bool _ _, PySem.F.args_object_init_2 _ _, object_init_meets PySem.F.called_bool.init.lookup PySem.F.called_bool.made (by decide) X.prog X.w X.A.in1 _ s₁ ⟨PySem.typeIs_bool _ _, rfl, ⟨.bl true, H, I, rfl, q⟩⟩⟩
end
end Own1


/-! what is shown of a setting: data that fits -/
namespace Rng
open PySem L2 Bag Gd LamX Tr4 K13
structure FitsA (m p : Nat) (ds : List PyData) : Prop where
  short : PyData.leavesShortAll 201 ds = true
  shows : PyData.showableAll ds = true
  size : PyData.weightAll ds ≤ m
  deep : PyData.depthAll ds ≤ p
section
variable {m n p q : Nat} {d : PyData} {ds : List PyData}
theorem Fits.up (h : Fits m p d) (a : m ≤ n) (b : p ≤ q) : Fits n q d := ⟨h.short, h.shows, Nat.le_trans h.size a, Nat.le_trans h.deep b⟩
theorem FitsA.nil : FitsA 0 p [] := ⟨by rw [PyData.leavesShortAll], by rw [PyData.showableAll], by rw [PyData.weightAll]; exact Nat.le_refl _, by rw [PyData.depthAll]; exact Nat.zero_le _⟩
theorem FitsA.cons (h : Fits m p d) (t : FitsA n p ds) : FitsA (m + 1 + n) p (d :: ds) := by
  refine ⟨by rw [PyData.leavesShortAll, h.short, t.short]; rfl, by rw [PyData.showableAll, h.shows, t.shows]; rfl, ?_, ?_⟩
  · rw [PyData.weightAll]
    have := h.size
    have := t.size
    omega
  · rw [PyData.depthAll]
    have := h.deep
    have := t.deep
    omega
theorem FitsA.list (t : FitsA m p ds) : Fits m (p + 1) (.list ds) := by
  refine ⟨by rw [PyData.leavesShort]; exact t.short, by rw [PyData.showable]; exact t.shows, by rw [PyData.weight]; exact t.size, ?_⟩
  rw [PyData.depth]
  exact Nat.succ_le_succ t.deep
theorem FitsA.tuple (t : FitsA m p ds) : Fits m (p + 1) (.tuple ds) := by
  refine ⟨by rw [PyData.leavesShort]; exact t.short, by rw [PyData.showable]; exact t.shows, by rw [PyData.weight]; exact t.size, ?_⟩
  rw [PyData.depth]
  exact Nat.succ_le_succ t.deep
theorem fitsNon : Fits 0 p .none := ⟨by rw [PyData.leavesShort], by rw [PyData.showable], by rw [PyData.weight]; exact Nat.le_refl _, by rw [PyData.depth]; exact Nat.zero_le _⟩
theorem fitsBl (b : Bool) : Fits 0 p (.bool b) := ⟨by rw [PyData.leavesShort], by rw [PyData.showable], by rw [PyData.weight]; exact Nat.le_refl _, by rw [PyData.depth]; exact Nat.zero_le _⟩
theorem fitsInt {i : Int} (h : i.natAbs < 2 ^ 100) : Fits 101 p (.int i) := by
  have f := int_fits h
  refine ⟨f.short, f.shows, ?_, by rw [PyData.depth]; exact Nat.zero_le _⟩
  have l : i.natAbs.log2 < 101 := by
    by_cases z : i.natAbs = 0
    · rw [z]; decide
    · exact (Nat.log2_lt z).mpr (Nat.lt_of_lt_of_le h (by decide))
  unfold PyData.weight
  split <;> omega
theorem fitsStr {x : Str} {L : Nat} (h : PyData.strOk x = true) (hl : x.length ≤ L) : Fits L p (.str x) := by
  refine ⟨?_, by rw [PyData.showable], by rw [PyData.weight]; exact hl, by rw [PyData.depth]; exact Nat.zero_le _⟩
  rw [PyData.leavesShort]
  unfold PyData.strOk at h
  rw [← Array.all_toList, List.all_eq_true] at h
  exact List.all_eq_true.mpr fun c hc => decide_eq_true (Nat.lt_of_lt_of_le (of_decide_eq_true (h c hc)) (by decide))
theorem fitsMap {α : Type} {f : α → PyData} : ∀ (l : List α), (∀ x ∈ l, Fits m p (f x)) → FitsA ((m + 1) * l.length) p (l.map f)
  | [], _ => FitsA.nil
  | x :: l, h => by
    have t := fitsMap (f := f) l fun y hy => h y (List.mem_cons_of_mem _ hy)
    have c := FitsA.cons (h x List.mem_cons_self) t
    refine ⟨c.short, c.shows, Nat.le_trans c.size ?_, c.deep⟩
    rw [List.length_cons, Nat.mul_succ]
    omega
end
def netD : Option (Int × Int) → PyData
  | none => .none
  | some q => .tuple [.int q.1, .int q.2]
def pairD (r : Str × Int) : PyData := .tuple [.str r.1, .int r.2]
def atD : V → PyData
  | .str z => .str z
  | _ => .none
def farI (ps : List (Str × Int)) (z : Str) : Int := match farV ps z with
  | .int i => i
  | _ => 1
/-- what a setting shows -/
def setD (n : Option (Int × Int)) (ps : List (Str × Int)) (os : List Str) (a : V) (zs : List Str) : PyData :=
  .list [netD n, .tuple (ps.map pairD), .tuple (os.map .str), atD a, .str (linesOf (setParts n ps os a)), .str (shownSet (linesOf (setParts n ps os a))), .bool true, .list (zs.map fun z => .int (farI ps z))]
theorem lines_len {n : Option (Int × Int)} {ps : List (Str × Int)} {os : List Str} {a : V} (h : Right n ps os a) : (linesOf (setParts n ps os a)).length ≤ 8000 := by
  obtain ⟨w1, w2⟩ := parts_small (right_ok h)
  by_cases e : setParts n ps os a = []
  · rw [e]
    decide
  · have h1 := join_le "; " ((setParts n ps os a).map (Txt.join " "))
    have h2 := sum_le (ys := (setParts n ps os a).map (Txt.join " ")) (B := 36) fun y hy => by
      obtain ⟨ws, hw, rfl⟩ := List.mem_map.mp hy
      obtain ⟨h1, h2⟩ := w2 ws hw
      exact words_le h1 h2
    have h3 : ("; " : Str).length = 2 := by decide
    have h4 : linesOf (setParts n ps os a) = Txt.join "; " ((setParts n ps os a).map (Txt.join " ")) := if_neg e
    rw [h4]
    rw [h3] at h1
    rw [List.length_map] at h1 h2
    omega
theorem lines_ok {n : Option (Int × Int)} {ps : List (Str × Int)} {os : List Str} {a : V} (h : Right n ps os a) : PyData.strOk (linesOf (setParts n ps os a)) = true := by
  have w := parts_ok (right_ok h)
  unfold linesOf
  split
  · decide +kernel
  · refine strOk_join (by decide +kernel) _ fun p hp => ?_
    obtain ⟨ws, hw, rfl⟩ := List.mem_map.mp hp
    exact strOk_join (by decide +kernel) ws (w ws hw)
theorem shown_len {t : Str} (h : t.length ≤ 8000) : (shownSet t).length ≤ 8009 := by
  unfold shownSet
  rw [PySem.Str.length_append, PySem.Str.length_append]
  have l1 : (Str.ofString "Setting(").length = 8 := by decide
  have l2 : (Str.ofString ")").length = 1 := by decide
  omega
theorem merge_ints : ∀ (ps : List (Str × Int)) (acc : List (Key × V)) (k : Key), (∀ k, valV acc k = none ∨ ∃ i : Int, valV acc k = some (.int i) ∧ i.natAbs ≤ 1000000000) → (∀ p ∈ ps, p.2.natAbs ≤ 1000000000) → valV (mergeK acc (kvsOf ps)) k = none ∨ ∃ i : Int, valV (mergeK acc (kvsOf ps)) k = some (.int i) ∧ i.natAbs ≤ 1000000000
  | [], acc, k, h, _ => h k
  | p :: r, acc, k, h, hp => by
    refine merge_ints r (putK acc (.inr p.1) (.int p.2)) k (fun j => ?_) fun q hq => hp q (List.mem_cons_of_mem _ hq)
    rw [valV_put]
    split
    · exact .inr ⟨p.2, rfl, hp p List.mem_cons_self⟩
    · exact h j
theorem far_int {ps : List (Str × Int)} (z : Str) (h : ∀ p ∈ ps, isName p.1 = true ∧ 1 ≤ p.2 ∧ p.2 ≤ 1000000000) : farV ps z = .int (farI ps z) ∧ (farI ps z).natAbs ≤ 1000000000 := by
  unfold farI farV
  rcases merge_ints ps [] (.inr z) (fun _ => .inl rfl) (fun p hp => by have := h p hp; omega) with e | ⟨i, e, b⟩
  · rw [e]
    exact ⟨rfl, by decide⟩
  · rw [e]
    exact ⟨rfl, b⟩
theorem merge_find (z : Str) : ∀ (ps : List (Str × Int)) (acc : List (Key × V)), (ps.map Prod.fst).Nodup → valV (mergeK acc (kvsOf ps)) (.inr z) = match ps.find? (fun p => decide (p.1 = z)) with
    | some p => some (.int p.2)
    | none => valV acc (.inr z)
  | [], acc, _ => rfl
  | p :: r, acc, h => by
    rw [List.map_cons, List.nodup_cons] at h
    have ih := merge_find z r (putK acc (.inr p.1) (.int p.2)) h.2
    show valV (mergeK (putK acc (.inr p.1) (.int p.2)) (kvsOf r)) (.inr z) = _
    rw [ih, List.find?_cons]
    by_cases e : p.1 = z
    · rw [decide_eq_true e]
      have no : r.find? (fun p => decide (p.1 = z)) = none := by
        rw [List.find?_eq_none]
        intro q hq c
        exact h.1 (List.mem_map.mpr ⟨q, hq, (of_decide_eq_true c).trans e.symm⟩)
      rw [no]
      show valV (putK acc (.inr p.1) (.int p.2)) (.inr z) = some (.int p.2)
      rw [valV_put, if_pos (by rw [e])]
    · rw [decide_eq_false e]
      show (match r.find? (fun p => decide (p.1 = z)) with | some p => some (V.int p.2) | none => valV (putK acc (.inr p.1) (.int p.2)) (.inr z)) = _
      cases r.find? (fun p => decide (p.1 = z)) with
      | some q => rfl
      | none =>
        show valV (putK acc (.inr p.1) (.int p.2)) (.inr z) = valV acc (.inr z)
        rw [valV_put, if_neg (fun c => e (by injection c with c; exact c.symm))]
theorem find_perm {ps rs : List (Str × Int)} (z : Str) (h : ps.Perm rs) (d : (rs.map Prod.fst).Nodup) : ps.find? (fun p => decide (p.1 = z)) = rs.find? (fun p => decide (p.1 = z)) := by
  have uniq : ∀ {l : List (Str × Int)}, (l.map Prod.fst).Nodup → ∀ p ∈ l, p.1 = z → l.find? (fun p => decide (p.1 = z)) = some p := by
    intro l hd p hp e
    induction l with
    | nil => cases hp
    | cons q l ih =>
      rw [List.map_cons, List.nodup_cons] at hd
      rw [List.find?_cons]
      by_cases eq : q.1 = z
      · rw [decide_eq_true eq]
        rcases List.mem_cons.mp hp with rfl | hp
        · rfl
        · exact absurd (List.mem_map.mpr ⟨p, hp, e.trans eq.symm⟩) hd.1
      · rw [decide_eq_false eq]
        rcases List.mem_cons.mp hp with rfl | hp
        · exact absurd e eq
        · exact ih hd.2 hp
  cases e : rs.find? (fun p => decide (p.1 = z)) with
  | some p =>
    have hp := List.mem_of_find?_eq_some e
    have ez : p.1 = z := by simpa using List.find?_some e
    exact uniq ((h.map Prod.fst).nodup_iff.mpr d) p (h.mem_iff.mpr hp) ez
  | none =>
    rw [List.find?_eq_none] at e ⊢
    exact fun p hp => e p (h.mem_iff.mp hp)
theorem far_perm {ps rs : List (Str × Int)} (z : Str) (h : ps.Perm rs) (d : (rs.map Prod.fst).Nodup) : farV ps z = farV rs z := by
  unfold farV
  rw [merge_find z ps [] ((h.map Prod.fst).nodup_iff.mpr d), merge_find z rs [] d, find_perm z h d]
theorem net_small {n : Option (Int × Int)} {ps : List (Str × Int)} {os : List Str} {a : V} (h : Right n ps os a) : Fits 204 1 (netD n) := by
  cases n with
  | none => exact Fits.up (m := 0) (p := 0) fitsNon (by decide) (by decide)
  | some q =>
    obtain ⟨a1, a2, a3, a4⟩ := h.net q rfl
    have b1 : q.1.natAbs < 2 ^ 100 := Nat.lt_of_le_of_lt (by omega : q.1.natAbs ≤ 60) (by decide)
    have b2 : q.2.natAbs < 2 ^ 100 := Nat.lt_of_le_of_lt (by omega : q.2.natAbs ≤ 60) (by decide)
    exact Fits.up (m := 101 + 1 + (101 + 1 + 0)) (p := 0 + 1) (FitsA.cons (fitsInt (p := 0) b1) (FitsA.cons (fitsInt (p := 0) b2) (FitsA.nil (p := 0)))).tuple (by decide) (by decide)
theorem name_fits {z : Str} {p : Nat} (h : isName z = true) : Fits 8 p (.str z) := fitsStr (name_ok h) (name_len8 h)
theorem setD_fits {n : Option (Int × Int)} {ps : List (Str × Int)} {os : List Str} {a : V} {zs : List Str} (h : Right n ps os a) (hz : zs.length ≤ 3) : Fits 80000 40 (setD n ps os a zs) := by
  have f1 : Fits 204 4 (netD n) := Fits.up (net_small h) (by decide) (by decide)
  have f2 : Fits (112 * ps.length) 4 (.tuple (ps.map pairD)) := Fits.up (fitsMap (m := 111) (p := 1) (f := pairD) ps fun r hr => by
    obtain ⟨a1, a2, a3⟩ := h.pn r hr
    exact Fits.up (m := 8 + 1 + (101 + 1 + 0)) (p := 0 + 1) (FitsA.cons (name_fits (p := 0) a1) (FitsA.cons (fitsInt (p := 0) (Nat.lt_of_le_of_lt (by omega : r.2.natAbs ≤ 1000000000) (by decide))) (FitsA.nil (p := 0)))).tuple (by decide) (by decide)).tuple (Nat.le_refl _) (by decide)
  have f3 : Fits (9 * os.length) 4 (.tuple (os.map .str)) := Fits.up (fitsMap (m := 8) (p := 1) (f := .str) os fun z hz => name_fits (h.on z hz)).tuple (Nat.le_refl _) (by decide)
  have f4 : Fits 8 4 (atD a) := by
    rcases h.at_ with rfl | e
    · exact Fits.up fitsNon (by decide) (Nat.le_refl _)
    · obtain ⟨z, rfl, hz⟩ := K13.nameV_str e
      exact name_fits hz
  have f5 : Fits 8000 4 (.str (linesOf (setParts n ps os a))) := fitsStr (lines_ok h) (lines_len h)
  have f6 : Fits 8009 4 (.str (shownSet (linesOf (setParts n ps os a)))) := fitsStr (strOk_app (strOk_app (by decide +kernel) (lines_ok h)) (by decide +kernel)) (shown_len (lines_len h))
  have f8 : Fits (102 * zs.length) 4 (.list (zs.map fun z => .int (farI ps z))) := Fits.up (fitsMap (m := 101) (p := 1) (f := fun z => .int (farI ps z)) zs fun z _ => fitsInt (Nat.lt_of_le_of_lt (far_int z h.pn).2 (by decide))).list (Nat.le_refl _) (by decide)
  refine Fits.up (FitsA.cons f1 (FitsA.cons f2 (FitsA.cons f3 (FitsA.cons f4 (FitsA.cons f5 (FitsA.cons f6 (FitsA.cons (fitsBl true) (FitsA.cons f8 FitsA.nil)))))))).list ?_ (by decide)
  have := h.pl
  have := h.ol
  omega
end Rng


/-! _law_shown -/
namespace K13
open PySem L2 Rng Bag Gd LamX Tr4 Own1
section
variable {P : Program} {w : World} {K : PySem.W.Frag} {mg : Str → Option Value} {base : Heap}
theorem net_dp {H : Hp} {g : V} {n : Option (Int × Int)} (h : NetIs H g (some n)) : Dp K H g (netD n) := by
  cases h with
  | non => exact .non
  | net e _ _ _ _ => exact .tup (SqT.of e) (.cons (.int _) (.cons (.int _) .nil))
theorem pair_dp {H : Hp} (r : Str × Int) : DpAll K H (plcV r) [.str r.1, .int r.2] := .cons (.str _) (.cons (.int _) .nil)
theorem strs_dp {H : Hp} : ∀ os : List Str, DpAll K H (os.map V.str) (os.map .str)
  | [] => .nil
  | z :: os => .cons (.str z) (strs_dp os)
theorem ints_dp {H : Hp} {f : Str → Int} : ∀ zs : List Str, DpAll K H (zs.map fun z => .int (f z)) (zs.map fun z => .int (f z))
  | [] => .nil
  | z :: zs => .cons (.int _) (ints_dp zs)
theorem at_dp {H : Hp} {a : V} (h : a = .non ∨ nameV a = true) : Dp K H a (atD a) := by
  rcases h with rfl | e
  · exact .non
  · obtain ⟨z, rfl, _⟩ := nameV_str e
    exact .str z
abbrev sShown : Stmt := top 58
theorem scShown : FnScope ["_law_mine", "_law_tags_here", "_law_told", "_law_tag_here"] ["_law_mine", "_law_tags_here"] (defScope sShown) := ⟨rfl, rfl, rfl, by decide +kernel, rfl, by decide +kernel, by decide +kernel⟩
/-- a setting's own methods, and what they do -/
structure Own (P : Program) (w : World) (K : PySem.W.Frag) (mg : Str → Option Value) (base : Heap) (C : Addr) (Ce : Nat → Addr) (fS fR fE fD fW : Addr) (dD dW : FuncData) : Prop where
  nb : PySem.W.findIn K (.ref C) "__bool__" = some none
  nl : PySem.W.findIn K (.ref C) "__len__" = some none
  str : Dun K C "__str__" fS
  repr : Dun K C "__repr__" fR
  eq : Dun K C "__eq__" fE
  GS : FnR P w K mg base CX0 1 fS (spStrQ C)
  GR : FnR P w K mg base CX0 1 fR (spReprS C)
  GE : FnR P w K mg base CX0 1 fE (spEqS K C)
  dist : Meth K C "distance" fD
  bD : Binds K dD ["self", "feed"] []
  GD : FnOk P w K mg base (L2N.CX P w) 4 fD dD ["self", "feed"] (spDs C (Ce 0))
  with_ : Meth K C "with_rows_of" fW
  bW : Binds K dW ["self", "feed"] []
  GW : FnOk P w K mg base (L2N.CX P w) 7 fW dW ["self", "feed"] (spWith C (Ce 0))
def spShownL (C : Addr) : Sp := fun vs H Q _ => ∃ (o lt : Addr) (n : Option (Int × Int)) (ps : List (Str × Int)) (os : List Str) (a : V) (zs : List Str), vs = [.ref o, .ref lt] ∧ SettingAt C H o n ps os a ∧ Right n ps os a ∧ H lt = some (.lst (zs.map V.str)) ∧ zs.length ≤ 3 ∧ (∀ z ∈ zs, isName z = true) ∧
  ∀ H', Same H H' → Q (.str (setD n ps os a zs).shown) H'
theorem ok_shown {f C : Addr} {Ce : Nat → Addr} {fd : FuncData} {fS fR fE fD fW : Addr} {dD dW : FuncData} (F : Fun K "_law_shown" "_law_shown" sShown f fd) (T : Kt mg) (nRepr : mg "repr" = none) (X : Sx K C) (O : Own P w K mg base C Ce fS fR fE fD fW dD dW) :
    FnG P w K mg base 5 f fd ["_law_mine", "_law_tags_here"] (spShownL C) := by
  refine F.okG scShown (fun vs H Q E h => ?_) (fun cdv A outer s H vs Q E gq hr h => ?_)
  · obtain ⟨o, lt, n, ps, os, a, zs, rfl, _⟩ := h
    rfl
  · obtain ⟨o, lt, n, ps, os, a, zs, rfl, st, ri, ht, hz, hn, q⟩ := h
    have hr2 : Room 2 _ := hr.mono (by decide)
    have hr3 : Room 3 _ := hr.mono (by decide)
    have hu64 := Nat.lt_of_le_of_lt (Nat.add_le_add_left (by decide : 64 ≤ 16 * 4 + 200) _) (Nat.lt_of_le_of_lt (Nat.le_of_eq (Nat.add_assoc _ _ _).symm) hr.un)
    refine ⟨_, pss_cons (ps_set (i := 2) scShown.nd rfl (Or.inl rfl) (pe_lst (pa_cons (pe_fld (pv 0) rfl) (pa_cons (pe_fld (pv 0) rfl) (pa_cons (pe_fld (pv 0) rfl) (pa_cons (pe_fld (pv 0) rfl)
        (pa_cons (pe_callTy (call_strO (E := E0) O.str O.GS hr3 pass0) (by rfl) T.nStr PyProof.Rows.boot_str (pa_cons (pv 0) pa_nil)) (pa_cons (pe_callB (call_reprO (E := E0) O.repr O.GR hr2 pass0) (by rfl) nRepr (by decide +kernel) (pa_cons (pv 0) pa_nil))
        (pa_cons (pe_callTy (call_bool0 O.nb O.nl) (by rfl) T.nBool (by decide +kernel) (pa_cons (pv 0) pa_nil)) pa_nil)))))))))
      (pss_one (ps_ret (pe_callB (cr_repr gq hu64) (by rfl) nRepr (by decide +kernel) (pa_cons (pe_op op_cat (pv 2) (pe_lst (pa_cons
        (pe_lc (own := [("_law_tag_here", 3)]) (g := gName 3) (tt := tYes) (te := tMeth C "distance" (spDs C (Ce 0)) [] E0 (tVar 0) (tCons (tVar 3) tNil)) rfl scShown.nd (pi_list (pv 1)) (blkOk_by (own := [("_law_tag_here", 3)]) (N := ["_law_mine", "_law_tags_here", "_law_told", "_law_tag_here"]) (sc := defScope sShown) (by decide +kernel)) (fun _ _ _ _ _ => pg_name (i := 3) scShown.nd rfl (Or.inl rfl)) (fun _ _ _ _ _ => pts_nil)
          (fun _ _ _ _ _ => pe_meth (pv 0) X.cl O.dist O.GD hr O.bD .nil passNo (pa_cons (pv 3) pa_nil) rfl rfl rfl)) pa_nil))) pa_nil)))), ?_⟩
    have st0 := st
    obtain ⟨fs, ⟨dx, g, pa, pf, us, oq, h1, k1, k2, k3, k4, hg, h2, h3, h4, hd⟩, kt, kd, kw⟩ := st0
    refine ⟨_, rfl, o, C, dx, fs, g, rfl, h1, X.cl, X.nG, k1, _, rfl, o, C, dx, fs, _, rfl, h1, X.cl, X.nA, k2, _, rfl, o, C, dx, fs, _, rfl, h1, X.cl, X.nO, k3, _, rfl, o, C, dx, fs, _, rfl, h1, X.cl, X.nR, k4,
      _, rfl, o, dx, fs, rfl, h1, o, dx, fs, _, rfl, h1, kt, _, rfl, _, rfl, o, dx, fs, rfl, h1, o, _, rfl, ⟨dx, fs, h1, kt⟩, Nat.le_trans (lines_len ri) (by decide), _, rfl, _, rfl, o, dx, fs, rfl, h1, (by show 7 ≤ sizeLine; decide), fun l1 n1 => ?_⟩
    have e1 : (upd H l1 (.lst [g, .ref pa, .ref pf, a, .str (linesOf (setParts n ps os a)), .str (shownSet (linesOf (setParts n ps os a))), .bl true])) l1 = some (.lst [g, .ref pa, .ref pf, a, .str (linesOf (setParts n ps os a)), .str (shownSet (linesOf (setParts n ps os a))), .bl true]) := upd_same
    have s1 : Same H (upd H l1 (.lst [g, .ref pa, .ref pf, a, .str (linesOf (setParts n ps os a)), .str (shownSet (linesOf (setParts n ps os a))), .bl true])) := same_put n1
    revert e1 s1
    generalize upd H l1 (.lst [g, .ref pa, .ref pf, a, .str (linesOf (setParts n ps os a)), .str (shownSet (linesOf (setParts n ps os a))), .bl true]) = J1
    intro e1 s1
    have ht1 := s1 _ _ ht
    refine ⟨_, rfl, _, rfl, lt, rfl, ⟨_, SqL.of ht1⟩, fun D nD => lc_it (walk_list (K := K) (a := lt) (xs := zs.map V.str)) (fun i H' => Same J1 H' ∧ H' D = some (.lst (((zs.take i).map fun z => .int (farI ps z))))) ⟨same_put nD, upd_same⟩ (fun _ _ _ h => SqL.of (h.1 _ _ ht1)) ?_ ?_⟩
    · rintro i x Ha Hb hi ⟨sa, ea⟩ ⟨rfl, hx⟩
      obtain ⟨z, hz1, rfl⟩ : ∃ z, zs[i]? = some z ∧ x = V.str z := by
        rw [List.getElem?_map] at hx
        cases e : zs[i]? with
        | none => rw [e] at hx; cases hx
        | some z => rw [e] at hx; exact ⟨z, rfl, (Option.some.inj hx).symm⟩
      have nz := hn z (List.mem_of_getElem? hz1)
      have nzV : nameV (.str z) = true := nz
      refine ⟨rfl, _, rfl, o, dx, fs, rfl, (s1.trans sa) _ _ h1, kd, _, rfl, o, .str z, n, ps, os, a, rfl, st.same (s1.trans sa), cell_at (.inr nzV), fun z' ez hz' H2 s2 => ?_, fun nf => by rw [nzV] at nf; cases nf⟩
      injection ez with ez
      subst ez
      rw [(far_int z ri.pn).1]
      have nDb := s2 _ _ ea
      refine ⟨_, nDb, ?_, ?_, ?_⟩
      · rw [List.length_map, List.length_take]
        exact small1000 (by omega)
      · intro c u e
        rw [upd_ne (ne_of_none e nD)]
        exact s2 _ _ (sa c u e)
      · rw [upd_same, List.take_add_one, hz1, List.map_append]
        rfl
    · rintro H1 ⟨sb, eb⟩
      rw [List.length_map, List.take_length] at eb
      refine ⟨by show 1 ≤ sizeLine; decide, fun l2 n2 => ⟨l1, l2, _, _, rfl, rfl, (same_put n2) _ _ (sb _ _ e1), upd_same, by show 8 ≤ sizeLine; decide, fun l3 n3 => ?_⟩⟩
      have s4 : Same H1 (upd (upd H1 l2 (.lst [.ref D])) l3 (.lst ([g, .ref pa, .ref pf, a, .str (linesOf (setParts n ps os a)), .str (shownSet (linesOf (setParts n ps os a))), .bl true] ++ [.ref D]))) := (same_put n2).trans (same_put n3)
      have e4 : (upd (upd H1 l2 (.lst [.ref D])) l3 (.lst ([g, .ref pa, .ref pf, a, .str (linesOf (setParts n ps os a)), .str (shownSet (linesOf (setParts n ps os a))), .bl true] ++ [.ref D]))) l3 = some (.lst ([g, .ref pa, .ref pf, a, .str (linesOf (setParts n ps os a)), .str (shownSet (linesOf (setParts n ps os a))), .bl true] ++ [.ref D])) := upd_same
      revert s4 e4
      generalize upd (upd H1 l2 (.lst [.ref D])) l3 (.lst ([g, .ref pa, .ref pf, a, .str (linesOf (setParts n ps os a)), .str (shownSet (linesOf (setParts n ps os a))), .bl true] ++ [.ref D])) = J4
      intro s4 e4
      have s5 := s1.trans (sb.trans s4)
      refine ⟨.ref l3, setD n ps os a zs, rfl, .lst (SqL.of e4) ?_, setD_fits ri hz, q _ s5⟩
      exact .cons (net_dp (hg.kin s5.kin)) (.cons (.tup (sqF (s5 _ _ h2)) ((h3.same s5).data pair_dp)) (.cons (.tup (SqT.of (s5 _ _ h4)) (strs_dp os)) (.cons (at_dp ri.at_) (.cons (.str _) (.cons (.str _) (.cons (.bl true) (.cons (.lst (SqL.of (s4 _ _ eb)) (ints_dp zs)) .nil)))))))
end
end K13


/-! _law_due -/
namespace K13
open PySem L2 Rng Bag Gd LamX Tr4 Own1
section
variable {P : Program} {w : World} {K : PySem.W.Frag} {mg : Str → Option Value} {base : Heap}
abbrev sDueL : Stmt := top 59
theorem scDueL : FnScope ["_law_known_here", "_law_tags_here", "_law_line", "_law_far", "_law_told", "_law_tag_here"] ["_law_known_here", "_law_tags_here"] (defScope sDueL) := ⟨rfl, rfl, rfl, by decide +kernel, rfl, by decide +kernel, by decide +kernel⟩
def spDueL : Sp := fun vs H Q _ => ∃ (k lp lo lt : Addr) (g a : V) (n : Option (Int × Int)) (us : List V) (rs : List (Str × Int)) (os zs : List Str), vs = [.ref k, .ref lt] ∧ H k = some (.lst [g, .ref lp, .ref lo, a]) ∧ NetIs H g (some n) ∧ H lp = some (.lst us) ∧ TupsAt plcV H us rs ∧ H lo = some (.lst (os.map V.str)) ∧ Right n rs os a ∧
  H lt = some (.lst (zs.map V.str)) ∧ zs.length ≤ 3 ∧ ∀ (ps : List (Str × Int)) (os' : List Str) (H' : Hp), ps.Perm rs → os'.Perm os → Sorted ps os' → Same H H' → Q (.str (setD n ps os' a zs).shown) H'
theorem ok_dueL {f fK : Addr} {fd dK : FuncData} (F : Fun K "_law_due" "_law_due" sDueL f fd) (T : Kt mg) (KS : Ks mg) (nRepr : mg "repr" = none) (FK : Fun K "_law_known_text" "_law_known_text" sKt fK dK) (bK : Binds K dK ["_law_known_here"] []) (mK : mg "_law_known_text" = some (.ref fK)) (GK : FnOk P w K mg base CX0 2 fK dK ["_law_known_here"] spKnownText) :
    FnG P w K mg base 5 f fd ["_law_known_here", "_law_tags_here"] spDueL := by
  refine F.okG scDueL (fun vs H Q E h => ?_) (fun cdv A outer s H vs Q E gq hr h => ?_)
  · obtain ⟨k, lp, lo, lt, g, a, n, us, rs, os, zs, rfl, _⟩ := h
    rfl
  · obtain ⟨k, lp, lo, lt, g, a, n, us, rs, os, zs, rfl, hk, hg, hp, tp, ho, ri, ht, hz, q⟩ := h
    have hr2 : Room 2 _ := hr.mono (by decide)
    have hu := hu_of hr
    have hu64 := Nat.lt_of_le_of_lt (Nat.add_le_add_left (by decide : 64 ≤ 16 * 4 + 200) _) (Nat.lt_of_le_of_lt (Nat.le_of_eq (Nat.add_assoc _ _ _).symm) hr.un)
    refine ⟨_, pss_cons (ps_asg (pe_tup (pa_cons (pe_call GK hr2 rfl mK FK.kp bK .nil pass0 (pa_cons (pv 0) pa_nil)) (pa_cons (pe_callTy (call_dictP rfl) (by rfl) KS.nDict (by decide +kernel) (pa_cons (pe_ix ix_list (pv 0) pe_int (fun _ _ => rfl)) pa_nil)) pa_nil))) (pg_tup (by rfl) (pgs_cons (pg_name (i := 2) scDueL.nd rfl (Or.inl rfl)) (pgs_cons (pg_name (i := 3) scDueL.nd rfl (Or.inr rfl)) pgs_nil))))
      (pss_cons (ps_set (i := 4) scDueL.nd rfl (Or.inl rfl) (pe_lst (pa_cons (pe_ix ix_list (pv 0) pe_int (fun _ _ => rfl))
        (pa_cons (pe_callTy call_tuple_of (by rfl) T.nTuple (by decide +kernel) (pa_cons (pe_callB cr_sortPlcs (by rfl) KS.nSorted (by decide +kernel) (pa_cons (pe_ix ix_list (pv 0) pe_int (fun _ _ => rfl)) pa_nil)) pa_nil))
        (pa_cons (pe_callTy call_tuple_of (by rfl) T.nTuple (by decide +kernel) (pa_cons (pe_callB cr_sortedS (by rfl) KS.nSorted (by decide +kernel) (pa_cons (pe_ix ix_list (pv 0) pe_int (fun _ _ => rfl)) pa_nil)) pa_nil))
        (pa_cons (pe_ix ix_list (pv 0) pe_int (fun _ _ => rfl)) (pa_cons (pv 2) (pa_cons (pe_op op_add_str (pe_op op_add_str pe_str (pv 2)) pe_str) (pa_cons pe_bl pa_nil)))))))))
      (pss_one (ps_ret (pe_callB (cr_repr gq hu64) (by rfl) nRepr (by decide +kernel) (pa_cons (pe_op op_cat (pv 4) (pe_lst (pa_cons
        (pe_lc (own := [("_law_tag_here", 5)]) (g := gName 5) (tt := tYes) (te := tDGet2 (tVar 3) (tVar 5) (tC (.int 1))) rfl scDueL.nd (pi_list (pv 1)) (blkOk_by (own := [("_law_tag_here", 5)]) (N := ["_law_known_here", "_law_tags_here", "_law_line", "_law_far", "_law_told", "_law_tag_here"]) (sc := defScope sDueL) (by decide +kernel)) (fun _ _ _ _ _ => pg_name (i := 5) scDueL.nd rfl (Or.inl rfl)) (fun _ _ _ _ _ => pts_nil)
          (fun _ _ _ _ _ => pe_dget2 hu (pv 3) (pv 5) pe_int ⟨rfl, rfl, rfl, rfl⟩)) pa_nil))) pa_nil))))), ?_⟩
    have so := right_ok ri
    refine ⟨_, rfl, k, lp, lo, g, a, n, us, rs, os, rfl, hk, hg, hp, tp, ho, so, by have := ri.ol; omega, fun ps os' H1 p1 s1 p2 s2 m1 => ?_⟩
    obtain ⟨cs, ecs, hcs⟩ := (tp.same m1).refs (K := K)
    subst ecs
    refine ⟨_, rfl, k, _, 1, _, rfl, rfl, SqL.of (m1 _ _ hk), atI_nat (j := 1) rfl, lp, cs, kvsOf rs, rfl, SqL.of (m1 _ _ hp), hcs, fun dd nd => ?_⟩
    refine ⟨by show 2 ≤ sizeLine; decide, fun t nt => ⟨t, _, rfl, SqT.of upd_same, rfl, _, _, rfl, _, _, rfl, rfl, ?_⟩⟩
    have mJ : Same H (upd (upd H1 dd (.dK (mergeK [] (kvsOf rs)))) t (.tup [.str (linesOf (setParts n ps os' a)), .ref dd])) := m1.trans ((same_put nd).trans (same_put nt))
    have far : (upd (upd H1 dd (.dK (mergeK [] (kvsOf rs)))) t (.tup [.str (linesOf (setParts n ps os' a)), .ref dd])) dd = some (.dK (mergeK [] (kvsOf rs))) := (same_put nt) _ _ upd_same
    revert mJ far
    generalize upd (upd H1 dd (.dK (mergeK [] (kvsOf rs)))) t (.tup [.str (linesOf (setParts n ps os' a)), .ref dd]) = J1
    intro mJ far
    have ri' := ri.perm p1 p2
    have tlen := lines_len ri'
    refine ⟨_, rfl, k, _, 0, _, rfl, rfl, SqL.of (mJ _ _ hk), atI_nat (j := 0) rfl, _, rfl, k, _, 1, _, rfl, rfl, SqL.of (mJ _ _ hk), atI_nat (j := 1) rfl, lp, _, rs, rfl, .inl (SqL.of (mJ _ _ hp)), tp.same mJ, fun ys ps2 l1 q1 q2 ty nl1 => ⟨l1, ys, rfl, .inl ⟨SqL.of upd_same, fun pa na => ?_⟩⟩⟩
    obtain rfl := pairs_one (q1.trans p1.symm) q2 s1
    have mA : Same J1 (upd (upd J1 l1 (.lst ys)) pa (.tup ys)) := (same_put nl1).trans (same_put na)
    have eA : (upd (upd J1 l1 (.lst ys)) pa (.tup ys)) pa = some (.tup ys) := upd_same
    have tA := ty.same mA
    revert mA eA tA
    generalize upd (upd J1 l1 (.lst ys)) pa (.tup ys) = J2
    intro mA eA tA
    have mJ2 := mJ.trans mA
    refine ⟨_, rfl, k, _, 2, _, rfl, rfl, SqL.of (mJ2 _ _ hk), atI_nat (j := 2) rfl, lo, os, rfl, SqL.of (mJ2 _ _ ho), by have := ri.ol; omega, fun os2 l2 q3 q4 nl2 => ⟨l2, _, rfl, .inl ⟨SqL.of upd_same, fun pf nf => ?_⟩⟩⟩
    obtain rfl := names_one (q3.trans p2.symm) q4 s2
    have mB : Same J2 (upd (upd J2 l2 (.lst (os2.map V.str))) pf (.tup (os2.map V.str))) := (same_put nl2).trans (same_put nf)
    have eB : (upd (upd J2 l2 (.lst (os2.map V.str))) pf (.tup (os2.map V.str))) pf = some (.tup (os2.map V.str)) := upd_same
    revert mB eB
    generalize upd (upd J2 l2 (.lst (os2.map V.str))) pf (.tup (os2.map V.str)) = J3
    intro mB eB
    have mJ3 := mJ2.trans mB
    have lS : (Str.ofString "Setting(").length = 8 := by decide
    have lE : (Str.ofString ")").length = 1 := by decide
    refine ⟨_, rfl, k, _, 3, _, rfl, rfl, SqL.of (mJ3 _ _ hk), atI_nat (j := 3) rfl, _, rfl, _, rfl, _, _, rfl, rfl, by rw [sizeLine_eq]; omega, _, _, rfl, rfl, by rw [PySem.Str.length_append, sizeLine_eq]; omega, by show 7 ≤ sizeLine; decide, fun l3 nl3 => ?_⟩
    have e3 : (upd J3 l3 (.lst [g, .ref pa, .ref pf, a, .str (linesOf (setParts n ps2 os2 a)), .str (Str.ofString "Setting(" ++ linesOf (setParts n ps2 os2 a) ++ Str.ofString ")"), .bl true])) l3 = some (.lst [g, .ref pa, .ref pf, a, .str (linesOf (setParts n ps2 os2 a)), .str (Str.ofString "Setting(" ++ linesOf (setParts n ps2 os2 a) ++ Str.ofString ")"), .bl true]) := upd_same
    have mC : Same J3 (upd J3 l3 (.lst [g, .ref pa, .ref pf, a, .str (linesOf (setParts n ps2 os2 a)), .str (Str.ofString "Setting(" ++ linesOf (setParts n ps2 os2 a) ++ Str.ofString ")"), .bl true])) := same_put nl3
    revert e3 mC
    generalize upd J3 l3 (.lst [g, .ref pa, .ref pf, a, .str (linesOf (setParts n ps2 os2 a)), .str (Str.ofString "Setting(" ++ linesOf (setParts n ps2 os2 a) ++ Str.ofString ")"), .bl true]) = J4
    intro e3 mC
    have mJ4 := mJ3.trans mC
    have far4 := mC _ _ (mB _ _ (mA _ _ far))
    have ht4 := mJ4 _ _ ht
    have fe : ∀ z, (valV (mergeK [] (kvsOf rs)) (.inr z)).getD (.int 1) = V.int (farI ps2 z) := fun z => by
      have h1 := far_perm z p1 ri.pd
      have h2 := (far_int z ri'.pn).1
      rw [← h2, h1]
      rfl
    refine ⟨_, rfl, _, rfl, lt, rfl, ⟨_, SqL.of ht4⟩, fun D nD => lc_it (walk_list (K := K) (a := lt) (xs := zs.map V.str)) (fun i H' => Same J4 H' ∧ H' D = some (.lst (((zs.take i).map fun z => .int (farI ps2 z))))) ⟨same_put nD, upd_same⟩ (fun _ _ _ h => SqL.of (h.1 _ _ ht4)) ?_ ?_⟩
    · rintro i x Ha Hb hi ⟨sa, ea⟩ ⟨rfl, hx⟩
      obtain ⟨z, hz1, rfl⟩ : ∃ z, zs[i]? = some z ∧ x = V.str z := by
        rw [List.getElem?_map] at hx
        cases e : zs[i]? with
        | none => rw [e] at hx; cases hx
        | some z => rw [e] at hx; exact ⟨z, rfl, (Option.some.inj hx).symm⟩
      have fb := sa _ _ far4
      refine ⟨rfl, _, rfl, dd, rfl, .inl ⟨_, .inl fb⟩, _, rfl, _, .inl ⟨_, .inr z, .inl fb, rfl, rfl⟩, ?_⟩
      rw [fe z]
      refine ⟨_, ea, ?_, ?_, ?_⟩
      · rw [List.length_map, List.length_take]
        exact small1000 (by omega)
      · intro c u e
        rw [upd_ne (ne_of_none e nD)]
        exact sa c u e
      · rw [upd_same, List.take_add_one, hz1, List.map_append]
        rfl
    · rintro H5 ⟨sb, eb⟩
      rw [List.length_map, List.take_length] at eb
      refine ⟨by show 1 ≤ sizeLine; decide, fun l5 n5 => ⟨l3, l5, _, _, rfl, rfl, (same_put n5) _ _ (sb _ _ e3), upd_same, by show 8 ≤ sizeLine; decide, fun l6 n6 => ?_⟩⟩
      have s4 : Same H5 (upd (upd H5 l5 (.lst [.ref D])) l6 (.lst ([g, .ref pa, .ref pf, a, .str (linesOf (setParts n ps2 os2 a)), .str (Str.ofString "Setting(" ++ linesOf (setParts n ps2 os2 a) ++ Str.ofString ")"), .bl true] ++ [.ref D]))) := (same_put n5).trans (same_put n6)
      have e4 : (upd (upd H5 l5 (.lst [.ref D])) l6 (.lst ([g, .ref pa, .ref pf, a, .str (linesOf (setParts n ps2 os2 a)), .str (Str.ofString "Setting(" ++ linesOf (setParts n ps2 os2 a) ++ Str.ofString ")"), .bl true] ++ [.ref D]))) l6 = some (.lst ([g, .ref pa, .ref pf, a, .str (linesOf (setParts n ps2 os2 a)), .str (Str.ofString "Setting(" ++ linesOf (setParts n ps2 os2 a) ++ Str.ofString ")"), .bl true] ++ [.ref D])) := upd_same
      revert s4 e4
      generalize upd (upd H5 l5 (.lst [.ref D])) l6 (.lst ([g, .ref pa, .ref pf, a, .str (linesOf (setParts n ps2 os2 a)), .str (Str.ofString "Setting(" ++ linesOf (setParts n ps2 os2 a) ++ Str.ofString ")"), .bl true] ++ [.ref D])) = J6
      intro s4 e4
      have s5 := sb.trans s4
      have s6 := mJ4.trans s5
      refine ⟨.ref l6, setD n ps2 os2 a zs, rfl, .lst (SqL.of e4) ?_, setD_fits ri' hz, q ps2 os2 _ p1 p2 ⟨s1, s2⟩ s6⟩
      exact .cons (net_dp (hg.kin s6.kin)) (.cons (.tup (SqT.of (s5 _ _ (mC _ _ (mB _ _ eA)))) ((tA.same (mB.trans (mC.trans s5))).data pair_dp)) (.cons (.tup (SqT.of (s5 _ _ (mC _ _ eB))) (strs_dp os2)) (.cons (at_dp ri.at_) (.cons (.str _) (.cons (.str _) (.cons (.bl true) (.cons (.lst (SqL.of (s4 _ _ eb)) (ints_dp zs)) .nil)))))))
end
end K13


/-! values that are shown, whatever else changes -/
namespace K13
open PySem L2 Rng Bag Gd LamX Tr4
def ShowN (K : PySem.W.Frag) (p : Addr) (H : Hp) (v : V) (x : Str) : Prop := PyData.strOk x = true ∧ ∀ H', ButN p H H' → Shows K H' v x
def ShowE (K : PySem.W.Frag) (H : Hp) (v : V) (x : Str) : Prop := PyData.strOk x = true ∧ ∀ H', ExtN H H' → Shows K H' v x
section
variable {K : PySem.W.Frag} {p : Addr} {H H' : Hp} {v : V} {x : Str}
theorem ShowN.but (h : ShowN K p H v x) (b : ButN p H H') : ShowN K p H' v x := ⟨h.1, fun G g => h.2 G (b.trans g)⟩
theorem ShowN.e (h : ShowN K p H v x) : ShowE K H v x := ⟨h.1, fun G g => h.2 G (g.n p)⟩
theorem ShowE.ext (h : ShowE K H v x) (b : ExtN H H') : ShowE K H' v x := ⟨h.1, fun G g => h.2 G (b.trans g)⟩
theorem ShowE.here (h : ShowE K H v x) : Shows K H v x := h.2 H fun _ _ e _ => e
theorem shN_tup {a : Addr} {xs : List V} {ds : List PyData} (f : H a = some (.tup xs)) (ap : a ≠ p) (d : ∀ H', DpAll K H' xs ds) (ft : Fits 80000 40 (.tuple ds)) (ok : PyData.strOk (PyData.shown (.tuple ds)) = true) : ∃ x, ShowN K p H (.ref a) x :=
  ⟨_, ok, fun G g => .inl ⟨.tuple ds, fun G' s => .tup (SqT.of (s _ _ (g _ _ ap f fun _ z => nomatch z))) (d G'), ft, rfl⟩⟩
theorem shN_lst {a : Addr} {xs : List V} {ds : List PyData} (f : H a = some (.lst xs)) (ap : a ≠ p) (d : ∀ H', DpAll K H' xs ds) (ft : Fits 80000 40 (.list ds)) (ok : PyData.strOk (PyData.shown (.list ds)) = true) : ∃ x, ShowN K p H (.ref a) x :=
  ⟨_, ok, fun G g => .inl ⟨.list ds, fun G' s => .lst (SqL.of (s _ _ (g _ _ ap f fun _ z => nomatch z))) (d G'), ft, rfl⟩⟩
theorem shN_dK {a : Addr} (f : H a = some (.dK [])) (ap : a ≠ p) : ∃ x, ShowN K p H (.ref a) x := ⟨"{}", by decide +kernel, fun G g => .inr ⟨a, rfl, g _ _ ap f (fun _ z => nomatch z), rfl⟩⟩
theorem shN_flat {d : PyData} (h : ∀ H', Dp K H' v d) (ft : Fits 80000 40 d) (ok : PyData.strOk (PyData.shown d) = true) : ∃ x, ShowN K p H v x := ⟨_, ok, fun G _ => .inl ⟨d, fun G' _ => h G', ft, rfl⟩⟩
theorem name_lt {z : Str} (h : isName z = true) : ∀ c ∈ z.cps.toList, c < 123 := by
  unfold isName at h
  simp only [Bool.and_eq_true, decide_eq_true_eq] at h
  cases e : z.cps.toList with
  | nil => exact fun c hc => (nomatch hc)
  | cons c r =>
    rw [e] at h
    simp only [Bool.and_eq_true, List.all_eq_true, low, dig, Bool.or_eq_true, decide_eq_true_eq] at h
    intro d hd
    rcases List.mem_cons.mp hd with rfl | hd
    · omega
    · have := h.2.2 d hd
      omega
theorem repr_chars : ∀ q ∈ ([34, 39] : List Nat), ∀ c ∈ List.range 123, ∀ d ∈ Builtin.Str.reprChar q c, d < 0x110000 := by decide +kernel
theorem fold_ok (q : Nat) (hq : q ∈ ([34, 39] : List Nat)) : ∀ (l : List Nat) (acc : Array Nat), (∀ c ∈ l, c < 123) → (acc.all fun c => decide (c < 0x110000)) = true → ((l.foldl (fun out c => out ++ (Builtin.Str.reprChar q c).toArray) acc).all fun c => decide (c < 0x110000)) = true
  | [], acc, _, h => h
  | c :: l, acc, hl, h => by
    refine fold_ok q hq l _ (fun d hd => hl d (List.mem_cons_of_mem _ hd)) ?_
    rw [Array.all_append, h, Bool.true_and, ← Array.all_toList, List.toList_toArray]
    exact List.all_eq_true.mpr fun d hd => decide_eq_true (repr_chars q hq c (List.mem_range.mpr (hl c List.mem_cons_self)) d hd)
theorem repr_lt {z : Str} (h : ∀ c ∈ z.cps.toList, c < 123) : PyData.strOk (PySem.reprText z) = true := by
  have hq : PySem.reprQuote z ∈ ([34, 39] : List Nat) := by
    unfold PySem.reprQuote
    split
    · exact List.mem_cons_self
    · exact List.mem_cons_of_mem _ List.mem_cons_self
  have hq2 : PySem.reprQuote z < 0x110000 := by
    have : ∀ q ∈ ([34, 39] : List Nat), q < 0x110000 := by decide
    exact this _ hq
  unfold PyData.strOk PySem.reprText
  show (Array.push _ _).all _ = true
  rw [Array.all_push, ← Array.foldl_toList, fold_ok _ hq _ _ (h) (by simpa using hq2), decide_eq_true hq2]
  rfl
theorem repr_ok {z : Str} (h : isName z = true) : PyData.strOk (PySem.reprText z) = true := repr_lt (name_lt h)
theorem fits_name1 {z : Str} (h : isName z = true) : Fits 80000 40 (.tuple [.str z]) := by
  have l8 := name_len8 h
  refine ⟨?_, ?_, ?_, ?_⟩
  · simp only [PyData.leavesShort, PyData.leavesShortAll, Bool.and_true]
    exact List.all_eq_true.mpr fun c hc => decide_eq_true (Nat.lt_trans (name_lt h c hc) (by decide))
  · simp [PyData.showable, PyData.showableAll]
  · simp only [PyData.weight, PyData.weightAll]
    have : z.cps.size = z.length := rfl
    omega
  · simp [PyData.depth, PyData.depthAll]
theorem shown_name1 {z : Str} (h : isName z = true) : PyData.strOk (PyData.shown (.tuple [.str z])) = true := by
  simp only [PyData.shown, PyData.shownAll]
  unfold PySem.tupleText
  exact strOk_app (strOk_app (by decide +kernel) (repr_ok h)) (show PyData.strOk (",)" : Str) = true by decide +kernel)
end
end K13


/-! C(e, *xs); o.m(k = e, ..) -/
namespace Mk1
open PySem PySem.Spec PyProof.Rows L2 ClX StX
section
variable {X : Cx} {CX : CXT} {k : Nat} {f C : Addr} {sp : Sp} {E : XK} {x : Str} {e e1 : Expr} {te t1 : TE} {p pos q : Pos}
def tMakeES (K : PySem.W.Frag) (C : Addr) (sp : Sp) (E : XK) (t1 te : TE) : TE := fun σ H Q => t1 σ H fun y1 H1 => te σ H1 fun y H2 => ∃ a xs, y = V.ref a ∧ (SqT K H2 a xs ∨ SqL K H2 a xs) ∧ ∀ x dx, H2 x = Option.none → H2 dx = Option.none → dx ≠ x →
  sp (V.ref x :: (y1 :: xs)) (upd (upd H2 dx (.own x)) x (.ins C dx [])) (fun v H3 => v = .non ∧ Q (.ref x) H3) E
theorem pe_makeES (M : Mk X.K C f) (F : FnR X.prog X.w X.K X.mg X.base CX k f sp) (hr : Room (k + 1) X.A) (hg : Gl X x) (hm : X.mg x = some (.ref C)) (hx : Passes CX X E) (h1 : PE X e1 t1) (he : PE X e te) (hdb : (x == ("__debug__" : Str)) = false := by decide)
    (hst : starEach [e1, .Starred e q] X.env = (false, eval e1 X.env) :: starEach [.Starred e q] X.env := by rfl) (hst2 : starEach [.Starred e q] X.env = [(true, eval e X.env)] := by rfl) : PE X (.Call (.Name x p) [e1, .Starred e q] [] pos) (tMakeES X.K C sp E t1 te) := by
  refine ⟨fun pins s σ H Q I h => wpAny_Call_Name_kw (ld_glob I hg hm ?_ hdb)⟩
  refine PySem.W.callWith_S2 (h₀ := X.base) I.ok.mod.kin M.kp ?_ hst (by rw [hst2]; rfl)
  rw [hst, hst2]
  refine Calls.spliced_cons (thn (h1.run pins s σ H _ I h) fun v1 s1 ⟨y1, H1, I1, r1, h2⟩ => PySem.W.ks_spliced (thn (he.run pins s1 σ H1 _ I1 h2) fun v s2 ⟨y, H2, I2, ry, a, xs, ey, hxs, w⟩ => ?_))
  subst ey
  obtain rfl : v = Value.ref a := ry
  refine star_any I2 hxs fun us s3 I3 rv => Calls.spliced_nil ⟨I3.kIn, ?_⟩
  show wpAny (model X.prog X.w) X.A (call (.ref C) ([] ++ (v1 :: (us ++ []))) []) (EP X pins σ Q) X.xe s3
  rw [List.append_nil, List.nil_append]
  exact run_makeR M F hr hx I3 (.cons r1 rv) w
end
section
variable {X : Cx} {CX : CXT} {k : Nat} {C g : Addr} {sp : Sp} {E : XK} {o : Expr} {m : Str} {pos apos : Pos} {ta : TE} {tk : TA} {pl : Sem Bool} {fd : FuncData} {ps ks : List Str} {kws : List Keyword} {gu : List Value → List Value → List Value} {gV : List V → List V → List V}
def tMethK (C : Addr) (m : Str) (n : Nat) (sp : Sp) (gV : List V → List V → List V) (E : XK) (ta : TE) (tk : TA) : TE := fun σ H Q => ta σ H fun x H1 => ∃ a dx fs, x = .ref a ∧ H1 a = some (.ins C dx fs) ∧ fs.lookup m = none ∧ tk σ H1 fun zs H2 => zs.length = n ∧ sp (gV [x] zs) H2 Q E
/-- o.m(k = e, ..) -/
theorem pe_methK (he : PE X o ta) (c : Cls X.K C) (hm : Meth X.K C m g) (F : FnOk X.prog X.w X.K X.mg X.base CX k g fd ps sp) (hr : Room k X.A) (hb : KBn X.K fd ps 1 ks gu gV) (hx : Passes CX X E) (hkw : PK X kws tk)
    (hall : (backToKw pos (keywordEach kws X.env)).all (·.1.isSome) = true := by rfl) (hks : (backToKw pos (keywordEach kws X.env)).filterMap (·.1) = ks := by rfl)
    (hpl : ((backTo pos (starEach [] X.env)).any (·.1) || (backToKw pos (keywordEach kws X.env)).any (·.1.isNone)) = false := by rfl)
    (ht : eval (.Call (.Attribute o m apos) [] kws pos) X.env = (do
      let ov ← eval o X.env
      standAt apos.atName
      let (f, first) ← holding [ov] (getMethod ov m pl)
      callWith pos f first (backTo pos (starEach [] X.env)) (backToKw pos (keywordEach kws X.env))) := by rfl) : PE X (.Call (.Attribute o m apos) [] kws pos) (tMethK C m ks.length sp gV E ta tk) := by
  refine ⟨fun pins s σ H Q I h => PySem.W.methodCall_KW (pl := pl) (thn (he.run pins s σ H _ I h) fun u s1 ⟨x, H1, I1, rx, a, dx, fs, ex, ea, l, w⟩ => ?_) ht⟩
  subst ex
  obtain rfl : u = Value.ref a := rx
  refine getmeth_ok I1 ea c hm l ?_
  refine PySem.W.callWith_KW0 (first := [.ref a]) (h₀ := X.base) I1.ok.mod.kin hm.kp hall (thn (hkw.run pos pins s1 σ H1 _ I1 w) fun ws s3 ⟨zs, H2, I3, rz, hz, w2⟩ => ⟨I3.kIn, ?_⟩) hpl
  rw [hks]
  have lz : ws.length = ks.length := rz.length.symm.trans hz
  refine wpAny_call (codeAny_mono (F.run X.A X.stack s3 H2 ⟨[.ref a], ks.zip ws⟩ (gu [.ref a] ws) (gV [.ref a] zs) Q E hr I3.env0 (hb.to s3 [.ref a] ws I3.kIn rfl lz) (hb.rel (.cons rfl .nil) rz) w2) fun r z hq => ?_)
  cases r with
  | error e => exact hx pins σ H2 s3 e z I3 hq
  | ok fl =>
    cases fl with
    | ret u => exact I3.after hq
    | next => exact False.elim hq
    | brk => exact False.elim hq
    | cont => exact False.elim hq
end
end Mk1


/-! what stands while _law_right runs -/
namespace K13
open PySem PySem.Spec PyProof.Rows L2 Rng Bag Gd LamX Tr4 Own1
section
variable {p q : Addr} {G G' : Hp} {b c : Nat} {C k lp lo o lt : Addr} {g a : V} {n : Option (Int × Int)} {us : List V} {rs ps : List (Str × Int)} {os os' : List Str} {T : List (Addr × Str)} {zs : List Str}
theorem srcKeep (S : Src G p b) (B : ButN p G G') {u : HO} (e : G q = some u) (h : ∀ xs, u ≠ .lst xs) (h2 : ∀ xs, u ≠ .tbl xs) : G' q = some u := by
  refine B q u (fun z => ?_) e h2
  obtain ⟨xs, e'⟩ := S.some
  rw [z, e'] at e
  exact h xs (Option.some.inj e).symm
theorem net_butN (S : Src G p b) (B : ButN p G G') (h : NetIs G g (some n)) : NetIs G' g (some n) := by
  cases h with
  | non => exact .non
  | net e h1 h2 h3 h4 => exact .net (srcKeep S B e (fun _ z => (nomatch z)) fun _ z => (nomatch z)) h1 h2 h3 h4
theorem tups_butN (S : Src G p b) (B : ButN p G G') (h : TupsAt plcV G us rs) : TupsAt plcV G' us rs := by
  induction h with
  | nil => exact .nil
  | cons e _ ih => exact .cons (srcKeep S B e (fun _ z => (nomatch z)) fun _ z => (nomatch z)) ih
theorem KnownAt.butN (h : KnownAt G p k lp lo g a n us rs os) (kp : k ≠ p) (S : Src G p b) (B : ButN p G G') : KnownAt G' p k lp lo g a n us rs os :=
  ⟨B _ _ kp h.k fun _ z => (nomatch z), h.np, h.no, net_butN S B h.net, h.gp, B _ _ h.np h.pairs fun _ z => (nomatch z), h.pl, tups_butN S B h.prs, h.prn, h.prd, B _ _ h.no h.ons fun _ z => (nomatch z), h.ol, h.ois, h.od, h.og, h.at_⟩
theorem SettingAt.butN (h : SettingAt C G o n ps os a) (S : Src G p b) (B : ButN p G G') : SettingAt C G' o n ps os a := by
  obtain ⟨fs, ⟨dx, g, pa, pf, us, oq, h1, k1, k2, k3, k4, hg, h2, h3, h4, d⟩, t⟩ := h
  exact ⟨fs, ⟨dx, g, pa, pf, us, oq, srcKeep S B h1 (fun _ z => (nomatch z)) (fun _ z => (nomatch z)), k1, k2, k3, k4, net_butN S B hg, srcKeep S B h2 (fun _ z => (nomatch z)) (fun _ z => (nomatch z)), tups_butN S B h3, srcKeep S B h4 (fun _ z => (nomatch z)) (fun _ z => (nomatch z)), d⟩, t⟩
/-- what stands while a setting is tried -/
structure StM (C : Addr) (T : List (Addr × Str)) (p lt : Addr) (zs : List Str) (k lp lo : Addr) (g a : V) (n : Option (Int × Int)) (us : List V) (rs : List (Str × Int)) (os : List Str) (o : Addr) (ps : List (Str × Int)) (os' : List Str) (b : Nat) (G : Hp) : Prop where
  src : Src G p b
  tabs : Tabs T G
  tags : G lt = some (.lst (zs.map V.str))
  ltp : lt ≠ p
  kp : k ≠ p
  kn : KnownAt G p k lp lo g a n us rs os
  st : SettingAt C G o n ps os' a
theorem StM.butN (h : StM C T p lt zs k lp lo g a n us rs os o ps os' b G) (B : ButN p G G') (S : Src G' p c) (t : Tabs T G') : StM C T p lt zs k lp lo g a n us rs os o ps os' c G' :=
  ⟨S, t, B _ _ h.ltp h.tags fun _ z => (nomatch z), h.ltp, h.kp, h.kn.butN h.kp h.src B, h.st.butN h.src B⟩
theorem StM.but (h : StM C T p lt zs k lp lo g a n us rs os o ps os' b G) (B : But p G G') (S : Src G' p c) : StM C T p lt zs k lp lo g a n us rs os o ps os' c G' :=
  h.butN B.n S (h.tabs.but B fun u e => by
    obtain ⟨xs, e'⟩ := h.src.some
    rw [e] at e'
    exact ⟨xs, Option.some.inj e'⟩)
theorem StM.same (h : StM C T p lt zs k lp lo g a n us rs os o ps os' b G) (s : Same G G') : StM C T p lt zs k lp lo g a n us rs os o ps os' b G' := h.but (s.but p) (h.src.same s)
theorem src_ext (S : Src G p b) (s : ExtN G G') : Src G' p b := by
  obtain ⟨A, B, t, e, r⟩ := S
  exact ⟨A, B, t, s _ _ e fun _ z => (nomatch z), r⟩
theorem StM.ext (h : StM C T p lt zs k lp lo g a n us rs os o ps os' b G) (s : ExtN G G') (t : Tabs T G') : StM C T p lt zs k lp lo g a n us rs os o ps os' b G' := h.butN (s.n p) (src_ext h.src s) t
theorem kin_butN (S : Src G p b) (S' : Src G' p c) (B : ButN p G G') : Kin G G' := fun a => by
  by_cases e : a = p
  · subst e
    obtain ⟨xs, e1⟩ := S.some
    obtain ⟨ys, e2⟩ := S'.some
    exact ⟨fun _ _ => ⟨ys, e2⟩, fun zs h => (by rw [e1] at h; cases h), fun zs h => (by rw [e1] at h; cases h)⟩
  · exact ⟨fun xs h => ⟨xs, B _ _ e h fun _ z => (nomatch z)⟩, fun xs h => B _ _ e h fun _ z => (nomatch z), fun xs h => B _ _ e h fun _ z => (nomatch z)⟩
theorem butN_put {L : Addr} {u : HO} {G1 : Hp} (B1 : ButN p G G1) (nL : G1 L = none) (B2 : ButN p G G') : ButN p G (upd G' L u) := fun c w nc e k => by
  rw [upd_ne (fun z => ?_)]
  · exact B2 c w nc e k
  · have := B1 c w nc e k
    rw [z, nL] at this
    cases this
theorem src_put {L : Addr} {u : HO} (S : Src G p b) (n : L ≠ p) : Src (upd G L u) p b := by
  obtain ⟨A, B, t, e, r⟩ := S
  exact ⟨A, B, t, by rw [upd_ne n.symm]; exact e, r⟩
theorem tabs_put {L : Addr} {u : HO} {xs : List V} (t : Tabs T G) (e : G L = some (.lst xs)) : Tabs T (upd G L u) := t.but But.put fun w z => by rw [e] at z; exact ⟨_, (Option.some.inj z).symm⟩
theorem StM.mono (h : StM C T p lt zs k lp lo g a n us rs os o ps os' b G) (l : b ≤ c) : StM C T p lt zs k lp lo g a n us rs os o ps os' c G := ⟨h.src.mono l, h.tabs, h.tags, h.ltp, h.kp, h.kn, h.st⟩
end
end K13


/-! _law_right: the odd value -/
namespace K13
open PySem PySem.Spec PyProof.Rows L2 Rng Bag Gd LamX Tr4 Own1
section
variable {P : Program} {w : World} {K : PySem.W.Frag} {mg : Str → Option Value} {base : Heap}
abbrev sRight : Stmt := top 60
abbrev nmR : List Str := ["_law_source_here", "_law_tags_here", "_law_known_here", "_law_spare", "_law_mine", "_law_far", "_law_even", "_law_twin", "_law_told", "_law_turned", "_law_odd"]
theorem scRight : FnScope ["_law_source_here", "_law_tags_here", "_law_known_here", "_law_spare", "_law_mine", "_law_far", "_law_even", "_law_twin", "_law_told", "_law_turned", "_law_odd"] ["_law_source_here"] (defScope sRight) := ⟨rfl, rfl, rfl, by decide +kernel, rfl, by decide +kernel, by decide +kernel⟩
theorem scCa : FnScope ["_law_act", "_law_given", "_law_e", "_law_sorts", "_law_bases", "_law_plain", "_law_words", "_law_at", "_law_due_here"] ["_law_act"] (defScope sCaught) := ⟨rfl, rfl, rfl, by decide +kernel, rfl, by decide +kernel, by decide +kernel⟩
structure Env13 (P : Program) (w : World) (K : PySem.W.Frag) (mg : Str → Option Value) (base : Heap) (C : Addr) (Cs Bs : Nat → Addr) (fS fR fE fD fW pRd fRd fCa fFi fP fO fKt fDu fSh fMa : Addr) (mc : Value) (dD dW dRd dCa dFi dP dO dKt dDu dSh dMa : FuncData) : Prop where
  mT : mg "Setting" = some (.ref C)
  Z : Sx K C
  Y : Ti K C
  O : Own P w K mg base C Cs fS fR fE fD fW dD dW
  FD : Fun K "distance" "Setting.distance" sDs fD dD
  FW : Fun K "with_rows_of" "Setting.with_rows_of" sWith fW dW
  ne : PySem.W.findIn K (.ref C) "__ne__" = some (some (.builtin "object.__ne__"))
  nfS : PySem.W.notFirst K C (.type "str") = true
  kS : PySem.W.kitOne K (.type "str") (.ref C) = some false
  R : ClX.CRead K C mc
  SM : Mk1.SMet K C mc "read" pRd fRd
  FRd : Fun K "read" "Setting.read" sRead fRd dRd
  GRd : FnOk P w K mg base (L2N.CX P w) 8 fRd dRd ["text"] (spRead C)
  CT : CTxt K mg Cs Bs
  FCa : Fun K "_law_caught" "_law_caught" sCaught fCa dCa
  bCa : Binds K dCa ["_law_act"] []
  mCa : mg "_law_caught" = some (.ref fCa)
  FFi : Fun K "_law_field" "_law_field" sField fFi dFi
  bFi : Binds K dFi ["_law_e", "_law_at"] []
  mFi : mg "_law_field" = some (.ref fFi)
  FP : Fun K "_law_pick" "_law_pick" sPick fP dP
  bP : Binds K dP ["_law_source_here", "_law_many"] []
  mP : mg "_law_pick" = some (.ref fP)
  FO : Fun K "_law_one" "_law_one" sOne fO dO
  bO : Binds K dO ["_law_source_here", "_law_things"] []
  mO : mg "_law_one" = some (.ref fO)
  FKt : Fun K "_law_known_text" "_law_known_text" sKt fKt dKt
  bKt : Binds K dKt ["_law_known_here"] []
  mKt : mg "_law_known_text" = some (.ref fKt)
  GKt : FnOk P w K mg base CX0 2 fKt dKt ["_law_known_here"] spKnownText
  FDu : Fun K "_law_due" "_law_due" sDueL fDu dDu
  bDu : Binds K dDu ["_law_known_here", "_law_tags_here"] []
  mDu : mg "_law_due" = some (.ref fDu)
  GDu : FnG P w K mg base 5 fDu dDu ["_law_known_here", "_law_tags_here"] spDueL
  FSh : Fun K "_law_shown" "_law_shown" sShown fSh dSh
  bSh : Binds K dSh ["_law_mine", "_law_tags_here"] []
  mSh : mg "_law_shown" = some (.ref fSh)
  GSh : FnG P w K mg base 5 fSh dSh ["_law_mine", "_law_tags_here"] (spShownL C)
  FMa : Fun K "_law_made" "_law_made" sMade fMa dMa
  bMa : Binds K dMa ["_law_source_here", "_law_known_here"] []
  mMa : mg "_law_made" = some (.ref fMa)
  GMa : FnOk P w K mg base CX0 7 fMa dMa ["_law_source_here", "_law_known_here"] (spMadeL C)
section
variable {C cR pR p f : Addr} {Cs Bs : Nat → Addr} {T : List (Addr × Str)} {fS fR fE fD fW pRd fRd fCa fFi fP fO fKt fDu fSh fMa : Addr} {mc : Value} {dD dW dRd dCa dFi dP dO dKt dDu dSh dMa : FuncData} {A : Around} {outer : List Env} {s : Shared} {H : Hp} {E : XK}
/-- two pairs of texts in a list -/
theorem pair2_shaped {a b : Str} (ha : PyData.strOk a = true) (hb : PyData.strOk b = true) : SeqAt.shaped (.list [twoD a b, twoD a b]) = true := by
  unfold SeqAt.shaped twoD
  simp [PyData.canLay0, PyData.canLayAll0, PyData.depth, PyData.depthAll, ha, hb]
/-- the odd value is drawn -/
def PreOdd (K : PySem.W.Frag) (C : Addr) (T : List (Addr × Str)) (p : Addr) (D : Ends) (σ : L2.St) (G : Hp) : Prop := ∃ (b : Nat) (lt k lp lo o : Addr) (zs : List Str) (g a : V) (n : Option (Int × Int)) (us : List V) (rs ps : List (Str × Int)) (os os' : List Str) (v : V) (x : Str) (x3 x5 x6 x7 x8 x9 : Option V),
  σ = [some (.ref p), some (.ref lt), some (.ref k), x3, some (.ref o), x5, x6, x7, x8, x9, some v] ∧ StM C T p lt zs k lp lo g a n us rs os o ps os' b G ∧ ps.Perm rs ∧ os'.Perm os ∧ Sorted ps os' ∧ zs.length ≤ 3 ∧ (∀ z ∈ zs, isName z = true) ∧
  Cell G v ∧ nameV v = false ∧ ShowN K p G v x ∧ ∀ G', ButN p G G' → Src G' p b → Tabs T G' → D.rt (.bl true) G'
theorem tailOdd (X2 : Env13 P w K mg base C Cs Bs fS fR fE fD fW pRd fRd fCa fFi fP fO fKt fDu fSh fMa mc dD dW dRd dCa dFi dP dO dKt dDu dSh dMa) (TK : Kt mg) (nRepr : mg "repr" = none) (TB : TabB base mg cR pR) (hT : (pR, ("_law_right.<locals>.<lambda>" : Str)) ∈ T) (uT : ∀ q ∈ T, q.1 = pR → q.2 = ("_law_right.<locals>.<lambda>" : Str))
    (gq : (A.deeper (envOfC "_law_right" (defScope sRight) s.heap.objs.size f (.ref cR))).guards = some []) (hr9 : Room 9 (A.deeper (envOfC "_law_right" (defScope sRight) s.heap.objs.size f (.ref cR)))) :
    PSs (cxOf CX0 P w K mg base nmR "_law_right" (defScope sRight) f (.ref cR) A outer s H E).nox ((defBody sRight).drop 13) (PreOdd K C T p) := by
  obtain ⟨mT, Z, Y, O, FD, FW, ne, nfS, kS, R, SM, FRd, GRd, CT, FCa, bCa, mCa, FFi, bFi, mFi, FP, bP, mP, FO, bO, mO, FKt, bKt, mKt, GKt, FDu, bDu, mDu, GDu, FSh, bSh, mSh, GSh, FMa, bMa, mMa, GMa⟩ := X2
  have hr5 : Room 5 _ := hr9.mono (by decide)
  have GFi : FnQ P w K mg base 1 fFi dFi ["_law_e", "_law_at"] (spField Cs) := ok_field FFi CT
  have hu64 := Nat.lt_of_le_of_lt (Nat.add_le_add_left (by decide : 64 ≤ 16 * 9 + 200) _) (Nat.lt_of_le_of_lt (Nat.le_of_eq (Nat.add_assoc _ _ _).symm) hr9.un)
  have gives_caughtX : ∀ {cdv : Value}, GivesN (cxOf CX0 P w K mg base nmR "_law_right" (defScope sRight) f (.ref cR) A outer s H E).nox 8 ["_law_act", "_law_given", "_law_e", "_law_sorts", "_law_bases", "_law_plain", "_law_words", "_law_at", "_law_due_here"] "_law_caught" (defScope sCaught) fCa cdv (defBody sCaught) "_law_act" "_law_right.<locals>.<lambda>" (TCt K Cs) := fun {cdv} => gives_caught (X := (cxOf CX0 P w K mg base nmR "_law_right" (defScope sRight) f (.ref cR) A outer s H E).nox) (j := 7) CT FFi bFi mFi GFi
  refine pss_imp (pss_cons (ps_set (i := 8) scRight.nd rfl (Or.inl rfl) (pe_lst (pa_cons (pe_lamN (X := (cxOf CX0 P w K mg base nmR "_law_right" (defScope sRight) f (.ref cR) A outer s H E).nox) (k := 7) (j := 0) (TT := TCt K Cs) gq hr9 rfl mCa FCa bCa scCa rfl (Or.inl rfl) (fun cdv => gives_caughtX) TB rfl hT uT (lamS_by (by show lamSB (defScope sRight) _ = true; decide +kernel)) rfl (fun _ _ _ _ _ => rfl) (fun A1 outer1 s1 H1 E1 f1 c1 hr2 => pe_meth (X := lamN (cxOf CX0 P w K mg base nmR "_law_right" (defScope sRight) f (.ref cR) A outer s H E).nox A1 outer1 s1 H1 E1 _ f1 c1) (pv 4) Z.cl O.dist O.GD (hr2.mono (by decide)) O.bD .nil passLam (pa_cons (pv 10) pa_nil) rfl rfl rfl)) pa_nil)))
    (pss_cons (ps_expr (pe_bm (X := (cxOf CX0 P w K mg base nmR "_law_right" (defScope sRight) f (.ref cR) A outer s H E).nox) PySem.F.plainAttrs_list PySem.F.slot_list_append PySem.F.type_list_append mt_append (pv 8) (pa_cons (pe_lamN (X := (cxOf CX0 P w K mg base nmR "_law_right" (defScope sRight) f (.ref cR) A outer s H E).nox) (k := 7) (j := 0) (TT := TCt K Cs) gq hr9 rfl mCa FCa bCa scCa rfl (Or.inl rfl) (fun cdv => gives_caughtX) TB rfl hT uT (lamS_by (by show lamSB (defScope sRight) _ = true; decide +kernel)) rfl (fun _ _ _ _ _ => rfl) (fun A1 outer1 s1 H1 E1 f1 c1 hr2 => pe_meth (X := lamN (cxOf CX0 P w K mg base nmR "_law_right" (defScope sRight) f (.ref cR) A outer s H E).nox A1 outer1 s1 H1 E1 _ f1 c1) (pv 4) Z.cl O.with_ O.GW hr2 O.bW .nil passLam (pa_cons (pv 10) pa_nil) rfl rfl rfl)) pa_nil)))
    (pss_one (ps_ret (pe_and (pe_cmpR (op_eqD hu64) (pv 8) (pe_op op_rep (pe_lst (pa_cons (pe_lst (pa_cons pe_str (pa_cons (pe_callB (cr_shows gq hu64) (by rfl) nRepr (by decide +kernel) (pa_cons (pv 10) pa_nil)) pa_nil))) pa_nil)) pe_int) (nomark _))
      (pe_one (pe_cmpR op_eq (pe_callG (E := E0) GSh gq hr5 rfl mSh FSh.kp bSh .nil (pa_cons (pv 4) (pa_cons (pv 1) pa_nil))) (pe_callG (E := E0) GDu gq hr5 rfl mDu FDu.kp bDu .nil (pa_cons (pv 2) (pa_cons (pv 1) pa_nil))) (nomark _)))))))) ?_
  rintro D σ G ⟨b, lt, k, lp, lo, o, zs, g, a, n, us, rs, ps, os, os', v, x, x3, x5, x6, x7, x8, x9, rfl, S, p1, p2, so, lz, hz, cv, nv, sh, q⟩
  have ri := S.kn.right
  have ri' : Right n ps os' a := ri.perm p1 p2
  obtain ⟨fs, sA, kt, kd, kw⟩ := id S.st
  obtain ⟨dx, g0, pa, pf, us0, oq, h1, hrest⟩ := sA
  -- distance
  refine ⟨S.tabs, fun K0 e0 t0 => ?_⟩
  have S0 := S.ext e0 t0
  have cv0 := cv.kin e0.kin
  have h10 := e0 _ _ h1 fun _ z => (nomatch z)
  refine ⟨_, rfl, o, dx, fs, rfl, h10, kd, _, rfl, o, v, n, ps, os', a, rfl, S0.st, cv0, fun z ez hz' => ?_, fun _ d0 M0 nd0 sm0 em0 => ?_⟩
  · rw [ez] at nv
    have : isName z = false := nv
    rw [hz'] at this
    cases this
  have S1 := S0.same sm0
  have n0 : ButN p G M0 := (e0.n p).trans (sm0.n p)
  refine ⟨0, v, x, by decide, rfl, .inr ⟨by decide, d0, rfl, em0⟩, sh.2 M0 n0, fun D0 P0 sp0 nD0 eD0 => ?_⟩
  replace eD0 : P0 D0 = some (.lst [.str "name", .str x]) := eD0
  have S2 := S1.same sp0
  have n1 := n0.trans (sp0.n p)
  refine ⟨(by show 1 ≤ sizeLine; decide), fun L nL => ?_⟩
  have D0L : D0 ≠ L := ne_of_none eD0 nL
  have Lp : L ≠ p := S2.src.ne nL
  have D0p : D0 ≠ p := fun z => by
    have := S1.src.ne nD0
    exact this z
  have sL : Same P0 (upd P0 L (.lst [.ref D0])) := same_put nL
  have eL0 : (upd P0 L (.lst [.ref D0])) L = some (.lst [.ref D0]) := upd_same
  replace eD0 := sL _ _ eD0
  have S3 := S2.same sL
  have n2 := n1.trans (sL.n p)
  generalize upd P0 L (.lst [.ref D0]) = G0 at S3 n2 eD0 eL0 ⊢
  -- with_rows_of
  refine ⟨_, rfl, .inl ⟨rfl, _, SqL.of eL0⟩, S3.tabs, fun K1 e1 t1 => ?_⟩
  have S4 := S3.ext e1 t1
  have n3 := n2.trans (e1.n p)
  have h11 := srcKeep S.src n3 h1 (fun _ z => (nomatch z)) fun _ z => (nomatch z)
  have cv1 : Cell K1 v := cv.kin (kin_butN S.src S4.src n3)
  refine ⟨_, rfl, o, dx, fs, rfl, h11, kw, _, rfl, o, v, n, ps, os', a, rfl, S4.st, ri', cv1, fun z => ?_, fun _ d1 M1 nd1 sm1 em1 => ?_⟩
  · rw [nv] at z
    cases z
  have S5 := S4.same sm1
  have n4 := n3.trans (sm1.n p)
  refine ⟨0, v, x, by decide, rfl, .inr ⟨by decide, d1, rfl, em1⟩, sh.2 M1 n4, fun D1 P1 sp1 nD1 eD1 => ?_⟩
  replace eD1 : P1 D1 = some (.lst [.str "name", .str x]) := eD1
  have S6 := S5.same sp1
  have n5 := n4.trans (sp1.n p)
  have k1 : ExtN G0 P1 := e1.trans ((ExtN.of sm1).trans (ExtN.of sp1))
  have eL1 := k1 _ _ eL0 fun _ z => (nomatch z)
  replace eD0 := k1 _ _ eD0 fun _ z => (nomatch z)
  have D1L : D1 ≠ L := fun z => by rw [z, eL1] at eD1; cases eD1
  refine ⟨L, _, _, rfl, rfl, eL1, (by show 1 < sizeLine; decide), ?_⟩
  have n6 : ButN p G (upd P1 L (.lst ([.ref D0] ++ [.ref D1]))) := butN_put n1 nL n5
  have S7 := S.butN n6 (src_put S6.src Lp) (tabs_put S6.tabs eL1)
  replace eD0 : (upd P1 L (.lst ([.ref D0] ++ [.ref D1]))) D0 = some (.lst [.str "name", .str x]) := by rw [upd_ne D0L]; exact eD0
  replace eD1 : (upd P1 L (.lst ([.ref D0] ++ [.ref D1]))) D1 = some (.lst [.str "name", .str x]) := by rw [upd_ne D1L]; exact eD1
  replace eL1 : (upd P1 L (.lst ([.ref D0] ++ [.ref D1]))) L = some (.lst [.ref D0, .ref D1]) := upd_same
  generalize upd P1 L (.lst ([.ref D0] ++ [.ref D1])) = G1 at S7 n6 eD0 eD1 eL1 ⊢
  -- the last comparisons
  refine ⟨_, rfl, ?_⟩
  refine ⟨_, rfl, v, x, rfl, sh.2 G1 n6, (by show 2 ≤ sizeLine; decide), fun D2 nD2 => ⟨(by show 1 ≤ sizeLine; decide), fun L2 nL2 => ⟨L2, 2, _, rfl, rfl, upd_same, (by decide), (by decide), (by show 2 ≤ sizeLine; decide), fun L3 nL3 => ?_⟩⟩⟩
  have sA : Same G1 (upd G1 D2 (.lst [.str "name", .str x])) := same_put nD2
  have eA : (upd G1 D2 (.lst [.str "name", .str x])) D2 = some (.lst [.str "name", .str x]) := upd_same
  have sB := sA.trans ((same_put (o := .lst [.ref D2]) nL2).trans (same_put (o := .lst (List.replicate (2 : Int).toNat [V.ref D2]).flatten) nL3))
  have eB := ((same_put (o := .lst [.ref D2]) nL2).trans (same_put (o := .lst (List.replicate (2 : Int).toNat [V.ref D2]).flatten) nL3)) _ _ eA
  have eL3 : (upd (upd (upd G1 D2 (.lst [.str "name", .str x])) L2 (.lst [.ref D2])) L3 (.lst (List.replicate (2 : Int).toNat [V.ref D2]).flatten)) L3 = some (.lst [.ref D2, .ref D2]) := upd_same
  generalize (upd (upd (upd G1 D2 (.lst [.str "name", .str x])) L2 (.lst [.ref D2])) L3 (.lst (List.replicate (2 : Int).toNat [V.ref D2]).flatten)) = G2 at sB eB eL3 ⊢
  have S8 := S7.same sB
  have sp2 := pair2_shaped (a := "name") (by decide +kernel) sh.1
  refine ⟨.list [twoD "name" x, twoD "name" x], .list [twoD "name" x, twoD "name" x], .lst (SqL.of (sB _ _ eL1)) (.cons (two_data (sB _ _ eD0)) (.cons (two_data (sB _ _ eD1)) .nil)), .lst (SqL.of eL3) (.cons (two_data eB) (.cons (two_data eB) .nil)), sp2, sp2, _, rfl, ?_⟩
  rw [SeqAt.eqv_refl _ (SeqAt.canLay_of_shaped sp2)]
  refine iteT ⟨_, rfl, _, rfl, o, lt, n, ps, os', a, zs, rfl, S8.st, ri', S8.tags, lz, hz, fun H2 s2 => ?_⟩
  have S9 := S8.same s2
  refine ⟨_, rfl, _, rfl, k, lp, lo, lt, g, a, n, us, rs, os, zs, rfl, S9.kn.k, S9.kn.net, S9.kn.pairs, S9.kn.prs, S9.kn.ons, ri, S9.tags, lz, fun ps2 os2 H3 q1 q2 so2 s3 => ⟨rfl, ?_⟩⟩
  obtain rfl := pairs_one (q1.trans p1.symm) so2.1 so.1
  obtain rfl := names_one (q2.trans p2.symm) so2.2 so.2
  have e : decide (V.str (setD n ps2 os2 a zs).shown = V.str (setD n ps2 os2 a zs).shown) = true := decide_eq_true rfl
  show D.rt (.bl (decide (V.str (setD n ps2 os2 a zs).shown = V.str (setD n ps2 os2 a zs).shown))) H3
  rw [e]
  have S10 := S9.same s3
  exact q H3 (n6.trans ((sB.n p).trans ((s2.n p).trans (s3.n p)))) S10.src S10.tabs
end
end
end K13


/-! a text times a number -/
namespace Rng
open PySem PySem.Spec PyProof.Rows L2
/-- a text k times -/
def repS (z : Str) (k : Nat) : Str := ⟨(List.replicate k z.cps).foldl (· ++ ·) #[]⟩
theorem repS_len (z : Str) : ∀ (k : Nat) (acc : Array Nat), ((List.replicate k z.cps).foldl (· ++ ·) acc).size = acc.size + k * z.length
  | 0, acc => by simp
  | k + 1, acc => by
    rw [List.replicate_succ, List.foldl_cons, repS_len z k, Array.size_append, Nat.add_mul]
    show _ = acc.size + (k * z.cps.size + 1 * z.cps.size)
    show acc.size + z.cps.size + k * z.cps.size = _
    omega
theorem repS_length (z : Str) (k : Nat) : (repS z k).length = k * z.length := by
  have := repS_len z k #[]
  show ((List.replicate k z.cps).foldl (· ++ ·) #[]).size = _
  rw [this]
  simp
variable {X : Cx}
theorem op_mulStr : OpR X (binaryOp .Mult) (fun x y H Q => ∃ (z : Str) (k : Nat), x = .str z ∧ y = .int (k : Int) ∧ 1 < k ∧ k ≤ 1000 ∧ 0 < z.length ∧ z.length ≤ 1000 ∧ Q (.str (repS z k)) H) := by
  intro pins s σ H x y v u Q I rx ry h
  obtain ⟨z, k, rfl, rfl, k0, k1, z0, z1, q⟩ := h
  obtain ⟨t, rfl⟩ := rx
  obtain ⟨t', rfl⟩ := ry
  have kz : z.length * ((k : Nat) : Int).toNat ≤ 1000000 := by
    have : ((k : Nat) : Int).toNat = k := rfl
    rw [this]
    exact Nat.le_trans (Nat.mul_le_mul z1 k1) (by decide)
  have e1 : ¬ ((k : Nat) : Int) < 1 := by omega
  have e2 : (((k : Nat) : Int) == 1 || z.length == 0) = false := by
    rw [Bool.or_eq_false_iff]
    refine ⟨by simp; omega, by simp; omega⟩
  refine PySem.P.mul_str ?_ ?_ ?_ ?_
  · have a : ¬ ((k : Nat) : Int) < -(2 ^ 63 : Int) := by omega
    have b : ¬ ((k : Nat) : Int) ≥ 2 ^ 63 := by omega
    rw [decide_eq_false a, decide_eq_false b]; rfl
  · intro _ _ c
    have : ((2 : Int) ^ 63 - 1) / (k : Int) ≥ (2 ^ 63 - 1) / 1000 := by
      refine Int.le_ediv_of_mul_le (by omega) ?_
      have : ((2 : Int) ^ 63 - 1) / 1000 * (k : Int) ≤ ((2 : Int) ^ 63 - 1) / 1000 * 1000 := Int.mul_le_mul_of_nonneg_left (by omega) (by decide)
      exact Int.le_trans this (by decide)
    have h2 : ((2 : Int) ^ 63 - 1) / 1000 > 1000 := by decide
    omega
  · intro _ _
    unfold PySem.Builtin.Str.tooLong
    refine decide_eq_false ?_
    intro c
    have : (1000000 : Nat) ≤ sizeLine := by decide
    first | omega | (have := Nat.lt_of_lt_of_le c kz; omega)
  · rw [if_neg e1, if_neg (by rw [e2]; exact Bool.false_ne_true)]
    refine ⟨?_, .str (repS z k), H, I.tok _, ⟨_, rfl⟩, q⟩
    have e := repS_length z k
    have : k * z.length ≤ 1000 * 1000 := Nat.mul_le_mul k1 z1
    have h3 : (1000000 : Nat) ≤ sizeLine := by decide
    show (repS z k).length ≤ sizeLine
    rw [e]
    exact Nat.le_trans this h3
end Rng


/-! _law_right: the odd value is drawn -/
namespace K13
open PySem PySem.Spec PyProof.Rows L2 Rng Bag Gd LamX Tr4 Own1
theorem rep9_not {z : Str} (h : isName z = true) : isName (repS z 9) = false := by
  have l1 : 1 ≤ z.length := by
    unfold isName at h
    rw [Bool.and_eq_true] at h
    have h2 := h.2
    show 1 ≤ z.cps.size
    cases e : z.cps.toList with
    | nil => rw [e] at h2; cases h2
    | cons c r =>
      have : z.cps.toList.length = z.cps.size := Array.length_toList
      rw [e] at this
      rw [← this]
      exact Nat.succ_le_succ (Nat.zero_le _)
  unfold isName
  have e : (repS z 9).cps.toList.length = 9 * z.length := by
    rw [Array.length_toList]
    exact repS_length z 9
  rw [e, decide_eq_false (by omega)]
  rfl
theorem rep_all (z : Str) (f : Nat → Bool) (h : z.cps.all f = true) : ∀ (k : Nat) (acc : Array Nat), acc.all f = true → ((List.replicate k z.cps).foldl (· ++ ·) acc).all f = true
  | 0, acc, ha => by simpa using ha
  | k + 1, acc, ha => by
    rw [List.replicate_succ, List.foldl_cons]
    exact rep_all z f h k _ (by rw [Array.all_append, ha, h]; rfl)
theorem rep_lt {z : Str} (h : ∀ c ∈ z.cps.toList, c < 123) (k : Nat) : ∀ c ∈ (repS z k).cps.toList, c < 123 := by
  have e := rep_all z (fun c => decide (c < 123)) (by
    rw [← Array.all_toList, List.all_eq_true]
    exact fun c hc => decide_eq_true (h c hc)) k #[] (by simp)
  have e2 : (repS z k).cps.all (fun c => decide (c < 123)) = true := e
  rw [← Array.all_toList, List.all_eq_true] at e2
  exact fun c hc => of_decide_eq_true (e2 c hc)
theorem rep_ok {z : Str} (h : PyData.strOk z = true) (k : Nat) : PyData.strOk (repS z k) = true := rep_all z _ h k _ (by simp)
section
variable {P : Program} {w : World} {K : PySem.W.Frag} {mg : Str → Option Value} {base : Heap}
section
variable {C cR pR p f : Addr} {Cs Bs : Nat → Addr} {T : List (Addr × Str)} {fS fR fE fD fW pRd fRd fCa fFi fP fO fKt fDu fSh fMa : Addr} {mc : Value} {dD dW dRd dCa dFi dP dO dKt dDu dSh dMa : FuncData} {A : Around} {outer : List Env} {s : Shared} {H : Hp} {E : XK}
def PreDraw (K : PySem.W.Frag) (C : Addr) (T : List (Addr × Str)) (p : Addr) (D : Ends) (σ : L2.St) (G : Hp) : Prop := ∃ (b : Nat) (lt k lp lo o : Addr) (zs : List Str) (z : Str) (g a : V) (n : Option (Int × Int)) (us : List V) (rs ps : List (Str × Int)) (os os' : List Str) (x3 x5 x6 x7 x8 x9 : Option V),
  σ = [some (.ref p), some (.ref lt), some (.ref k), x3, some (.ref o), x5, x6, x7, x8, x9, none] ∧ StM C T p lt (z :: zs) k lp lo g a n us rs os o ps os' b G ∧ b ≤ 700000 ∧ ps.Perm rs ∧ os'.Perm os ∧ Sorted ps os' ∧ (z :: zs).length ≤ 3 ∧ (∀ y ∈ z :: zs, isName y = true) ∧
  ∀ G', ButN p G G' → Src G' p (b + 1) → Tabs T G' → D.rt (.bl true) G'
theorem tailDraw (X2 : Env13 P w K mg base C Cs Bs fS fR fE fD fW pRd fRd fCa fFi fP fO fKt fDu fSh fMa mc dD dW dRd dCa dFi dP dO dKt dDu dSh dMa) (TM : Bt mg) (TK : Kt mg) (nRepr : mg "repr" = none) (TB : TabB base mg cR pR) (hT : (pR, ("_law_right.<locals>.<lambda>" : Str)) ∈ T) (uT : ∀ q ∈ T, q.1 = pR → q.2 = ("_law_right.<locals>.<lambda>" : Str))
    (gq : (A.deeper (envOfC "_law_right" (defScope sRight) s.heap.objs.size f (.ref cR))).guards = some []) (hr9 : Room 9 (A.deeper (envOfC "_law_right" (defScope sRight) s.heap.objs.size f (.ref cR)))) :
    PSs (cxOf CX0 P w K mg base nmR "_law_right" (defScope sRight) f (.ref cR) A outer s H E).nox ((defBody sRight).drop 12) (PreDraw K C T p) := by
  have tD := tailOdd (E := E) (outer := outer) (s := s) (H := H) (p := p) (f := f) X2 TK nRepr TB hT uT gq hr9
  have FP := X2.FP
  have FO := X2.FO
  have hr2 : Room 2 _ := hr9.mono (by decide)
  have GO : FnOk P w K mg base CX0 2 fO dO ["_law_source_here", "_law_things"] (spOne K) := ok_one FO TM FP X2.bP X2.mP
  refine pss_imp (pss_cons (ps_set (i := 10) scRight.nd rfl (Or.inr rfl) (pe_call GO hr2 rfl X2.mO FO.kp X2.bO .nil pass0 (pa_cons (pv 0) (pa_cons (pe_lst (pa_cons pe_non (pa_cons pe_bl (pa_cons pe_int (pa_cons pe_str (pa_cons pe_str (pa_cons (pe_tup (pa_cons (pe_ix ix_list (pv 1) pe_int (fun _ _ => rfl)) pa_nil)) (pa_cons (pe_lst pa_nil) (pa_cons pe_dnewK (pa_cons (pe_op op_mulStr (pe_ix ix_list (pv 1) pe_int (fun _ _ => rfl)) pe_int) pa_nil)))))))))) pa_nil)))) tD) ?_
  rintro D σ G ⟨b, lt, k, lp, lo, o, zs, z, g, a, n, us, rs, ps, os, os', x3, x5, x6, x7, x8, x9, rfl, S, hb, p1, p2, so, lz, hz, q⟩
  have nz : isName z = true := hz z List.mem_cons_self
  have zl := name_len8 nz
  have z0 : 0 < z.length := by
    have h := nz
    unfold isName at h
    rw [Bool.and_eq_true] at h
    have h2 := h.2
    show 0 < z.cps.size
    cases e : z.cps.toList with
    | nil => rw [e] at h2; cases h2
    | cons c r =>
      have : z.cps.toList.length = z.cps.size := Array.length_toList
      rw [e] at this
      rw [← this]
      exact Nat.succ_pos _
  refine ⟨_, rfl, _, rfl, lt, _, 0, _, rfl, rfl, SqL.of S.tags, atI_nat (j := 0) rfl, (by show 1 ≤ sizeLine; decide), fun a0 na0 => ?_⟩
  have s0 : Same G (upd G a0 (.tup [.str z])) := same_put na0
  have f0 : (upd G a0 (.tup [.str z])) a0 = some (.tup [.str z]) := upd_same
  have p0 : a0 ≠ p := S.src.ne na0
  generalize upd G a0 (.tup [.str z]) = J0 at s0 f0 ⊢
  refine ⟨(by show 0 ≤ sizeLine; decide), fun a1 na1 => ?_⟩
  have s1 : Same J0 (upd J0 a1 (.lst [])) := same_put na1
  have f1 : (upd J0 a1 (.lst [])) a1 = some (.lst []) := upd_same
  have p1' : a1 ≠ p := (S.src.same s0).ne na1
  replace f0 := s1 _ _ f0
  replace s0 := s0.trans s1
  generalize upd J0 a1 (.lst []) = J1 at s0 f0 f1 ⊢
  clear s1
  refine fun a2 na2 => ?_
  have s1 : Same J1 (upd J1 a2 (.dK [])) := same_put na2
  have f2 : (upd J1 a2 (.dK [])) a2 = some (.dK []) := upd_same
  have p2' : a2 ≠ p := (S.src.same s0).ne na2
  replace f0 := s1 _ _ f0
  replace f1 := s1 _ _ f1
  replace s0 := s0.trans s1
  generalize upd J1 a2 (.dK []) = J2 at s0 f0 f1 f2 ⊢
  clear s1
  refine ⟨_, rfl, lt, _, 0, _, rfl, rfl, SqL.of (s0 _ _ S.tags), atI_nat (j := 0) rfl, z, 9, rfl, rfl, by decide, by decide, z0, Nat.le_trans zl (by decide), (by show 9 ≤ sizeLine; decide), fun a3 na3 => ?_⟩
  have s1 : Same J2 (upd J2 a3 (.lst [.non, .bl true, .int 0, .str "", .str "A", .ref a0, .ref a1, .ref a2, .str (repS z 9)])) := same_put na3
  have f3 : (upd J2 a3 (.lst [.non, .bl true, .int 0, .str "", .str "A", .ref a0, .ref a1, .ref a2, .str (repS z 9)])) a3 = some (.lst [.non, .bl true, .int 0, .str "", .str "A", .ref a0, .ref a1, .ref a2, .str (repS z 9)]) := upd_same
  have p3' : a3 ≠ p := (S.src.same s0).ne na3
  replace f0 := s1 _ _ f0
  replace f1 := s1 _ _ f1
  replace f2 := s1 _ _ f2
  replace s0 := s0.trans s1
  generalize upd J2 a3 (.lst [.non, .bl true, .int 0, .str "", .str "A", .ref a0, .ref a1, .ref a2, .str (repS z 9)]) = J3 at s0 f0 f1 f2 f3 ⊢
  have S3 := S.same s0
  refine ⟨p, .ref a3, _, rfl, S3.src, by omega, .inl ⟨a3, _, rfl, p3', SqL.of f3, by show 0 < 9; decide, by show 9 ≤ 1000; decide, fun y H2 hy B2 S2 => ?_⟩⟩
  have S4 := S3.but B2 S2
  have B := (s0.n p).trans B2.n
  replace f0 := B2 _ _ p0 f0
  replace f1 := B2 _ _ p1' f1
  replace f2 := B2 _ _ p2' f2
  have fin : ∀ x, Cell H2 y → nameV y = false → ShowN K p H2 y x → PreOdd K C T p D [some (.ref p), some (.ref lt), some (.ref k), x3, some (.ref o), x5, x6, x7, x8, x9, some y] H2 := fun x h1 h2 h3 =>
    ⟨b + 1, lt, k, lp, lo, o, z :: zs, g, a, n, us, rs, ps, os, os', y, x, x3, x5, x6, x7, x8, x9, rfl, S4, p1, p2, so, lz, hz, h1, h2, h3, fun G1 n1 s1 t1 => q G1 (B.trans n1) s1 t1⟩
  have go : (∃ x, ShowN K p H2 y x) → Cell H2 y → nameV y = false → PreOdd K C T p D [some (.ref p), some (.ref lt), some (.ref k), x3, some (.ref o), x5, x6, x7, x8, x9, some y] H2 := fun h a b => h.elim fun x hx => fin x a b hx
  simp only [List.mem_cons, List.not_mem_nil, or_false] at hy
  rcases hy with rfl | rfl | rfl | rfl | rfl | rfl | rfl | rfl | rfl
  · exact go (shN_flat (d := .none) (fun _ => .non) ⟨by decide +kernel, by decide +kernel, by decide +kernel, by decide +kernel⟩ (by decide +kernel)) .non rfl
  · exact go (shN_flat (d := .bool true) (fun _ => .bl _) ⟨by decide +kernel, by decide +kernel, by decide +kernel, by decide +kernel⟩ (by decide +kernel)) (.bl _) rfl
  · exact go (shN_flat (d := .int 0) (fun _ => .int _) ⟨by decide +kernel, by decide +kernel, by decide +kernel, by decide +kernel⟩ (by decide +kernel)) (.int _) rfl
  · exact go (shN_flat (d := .str "") (fun _ => .str _) ⟨by decide +kernel, by decide +kernel, by decide +kernel, by decide +kernel⟩ (by decide +kernel)) (.str (by decide)) (by decide +kernel)
  · exact go (shN_flat (d := .str "A") (fun _ => .str _) ⟨by decide +kernel, by decide +kernel, by decide +kernel, by decide +kernel⟩ (by decide +kernel)) (.str (by decide)) (by decide +kernel)
  · exact go (shN_tup f0 p0 (fun _ => .cons (.str _) .nil) (fits_name1 nz) (shown_name1 nz)) (.tup f0) rfl
  · exact go (shN_lst (ds := []) f1 p1' (fun _ => .nil) ⟨by decide +kernel, by decide +kernel, by decide +kernel, by decide +kernel⟩ (by decide +kernel)) (.lst f1) rfl
  · exact go (shN_dK f2 p2') (.dK f2) rfl
  · have l9 := repS_length z 9
    have ok := rep_ok (name_ok nz) 9
    refine go (shN_flat (d := .str (repS z 9)) (fun _ => .str _) (Fits.up (fitsStr (L := 100) ok (by omega)) (by decide) (Nat.le_refl 40)) ?_) (.str (by omega)) (rep9_not nz)
    exact repr_lt (rep_lt (name_lt nz) 9)
end
end
end K13


/-! _law_right: another feed for its questions -/
namespace K13
open PySem PySem.Spec PyProof.Rows L2 Rng Bag Gd LamX Tr4 Own1
theorem nf_self {K : PySem.W.Frag} {C : Addr} : PySem.W.notFirst K C (.ref C) = true := by simp [PySem.W.notFirst]
section
variable {P : Program} {w : World} {K : PySem.W.Frag} {mg : Str → Option Value} {base : Heap}
theorem kb_dist {f : Addr} {fd : FuncData} (F : Fun K "distance" "Setting.distance" sDs f fd) : KBn K fd ["self", "feed"] 1 ["feed"] (fun us ws => us ++ ws) (fun us ws => us ++ ws) := by
  obtain ⟨oc, od, kV, doc, pm, an, cdv, ct, osl, rfl, lk, hcd⟩ := F.ex
  refine ⟨fun s us ws X h1 h2 => ?_, fun r1 r2 => r1.append r2⟩
  match us, ws, h1, h2 with
  | [a], [b], _, _ => exact .of_eq rfl
theorem kb_with {f : Addr} {fd : FuncData} (F : Fun K "with_rows_of" "Setting.with_rows_of" sWith f fd) : KBn K fd ["self", "feed"] 1 ["feed"] (fun us ws => us ++ ws) (fun us ws => us ++ ws) := by
  obtain ⟨oc, od, kV, doc, pm, an, cdv, ct, osl, rfl, lk, hcd⟩ := F.ex
  refine ⟨fun s us ws X h1 h2 => ?_, fun r1 r2 => r1.append r2⟩
  match us, ws, h1, h2 with
  | [a], [b], _, _ => exact .of_eq rfl
theorem kb_read {f : Addr} {fd : FuncData} (F : Fun K "read" "Setting.read" sRead f fd) : KBn K fd ["text"] 0 ["text"] (fun us ws => us ++ ws) (fun us ws => us ++ ws) := by
  obtain ⟨oc, od, kV, doc, pm, an, cdv, ct, osl, rfl, lk, hcd⟩ := F.ex
  refine ⟨fun s us ws X h1 h2 => ?_, fun r1 r2 => r1.append r2⟩
  match us, ws, h1, h2 with
  | [], [b], _, _ => exact .of_eq rfl
section
variable {C cR pR p f : Addr} {Cs Bs : Nat → Addr} {T : List (Addr × Str)} {fS fR fE fD fW pRd fRd fCa fFi fP fO fKt fDu fSh fMa : Addr} {mc : Value} {dD dW dRd dCa dFi dP dO dKt dDu dSh dMa : FuncData} {A : Around} {outer : List Env} {s : Shared} {H : Hp} {E : XK}
def PreTurn (K : PySem.W.Frag) (C : Addr) (T : List (Addr × Str)) (p : Addr) (D : Ends) (σ : L2.St) (G : Hp) : Prop := ∃ (b : Nat) (lt k lp lo o : Addr) (z y x : Str) (g a : V) (n : Option (Int × Int)) (us : List V) (rs ps : List (Str × Int)) (os os' : List Str) (x3 x5 x6 x7 x8 : Option V),
  σ = [some (.ref p), some (.ref lt), some (.ref k), x3, some (.ref o), x5, x6, x7, x8, none, none] ∧ StM C T p lt [z, y, x] k lp lo g a n us rs os o ps os' b G ∧ b ≤ 700000 ∧ ps.Perm rs ∧ os'.Perm os ∧ Sorted ps os' ∧ (∀ w ∈ [z, y, x], isName w = true) ∧
  ∀ G', ButN p G G' → Src G' p (b + 1) → Tabs T G' → D.rt (.bl true) G'
theorem tailTurn (X2 : Env13 P w K mg base C Cs Bs fS fR fE fD fW pRd fRd fCa fFi fP fO fKt fDu fSh fMa mc dD dW dRd dCa dFi dP dO dKt dDu dSh dMa) (TM : Bt mg) (TK : Kt mg) (nRepr : mg "repr" = none) (TB : TabB base mg cR pR) (hT : (pR, ("_law_right.<locals>.<lambda>" : Str)) ∈ T) (uT : ∀ q ∈ T, q.1 = pR → q.2 = ("_law_right.<locals>.<lambda>" : Str))
    (gq : (A.deeper (envOfC "_law_right" (defScope sRight) s.heap.objs.size f (.ref cR))).guards = some []) (hr9 : Room 9 (A.deeper (envOfC "_law_right" (defScope sRight) s.heap.objs.size f (.ref cR)))) :
    PSs (cxOf CX0 P w K mg base nmR "_law_right" (defScope sRight) f (.ref cR) A outer s H E).nox ((defBody sRight).drop 9) (PreTurn K C T p) := by
  have tD := tailDraw (E := E) (outer := outer) (s := s) (H := H) (p := p) (f := f) X2 TM TK nRepr TB hT uT gq hr9
  obtain ⟨mT, Z, Y, O, FD, FW, ne, nfS, kS, R, SM, FRd, GRd, CT, FCa, bCa, mCa, FFi, bFi, mFi, FP, bP, mP, FO, bO, mO, FKt, bKt, mKt, GKt, FDu, bDu, mDu, GDu, FSh, bSh, mSh, GSh, FMa, bMa, mMa, GMa⟩ := X2
  have hr2 : Room 2 _ := hr9.mono (by decide)
  have hr5 : Room 5 _ := hr9.mono (by decide)
  have hr7 : Room 7 _ := hr9.mono (by decide)
  have hr8 : Room 8 _ := hr9.mono (by decide)
  refine pss_imp (pss_cons (ps_set (i := 9) scRight.nd rfl (Or.inl rfl) (pe_op op_cat (pe_slice sl_list (pv 2) po_none (po_some pe_int)) (pe_lst (pa_cons (pe_ix ix_list (pv 1) pe_int (fun _ _ => rfl)) pa_nil))))
    (pss_cons (ps_if (pt_cmpR op_ne (pe_callG (E := E0) GSh gq hr5 rfl mSh FSh.kp bSh .nil (pa_cons (pe_meth (pv 4) Z.cl O.with_ O.GW hr7 O.bW .nil passNo (pa_cons (pe_ix ix_list (pv 1) pe_int (fun _ _ => rfl)) pa_nil) rfl rfl rfl) (pa_cons (pv 1) pa_nil))) (pe_callG (E := E0) GDu gq hr5 rfl mDu FDu.kp bDu .nil (pa_cons (pv 9) (pa_cons (pv 1) pa_nil))) (nomark _)) (pss_one (ps_ret pe_bl)) pss_nil)
    (pss_cons (ps_if (pt_cmpR (op_neO (E := E0) ne Y.cm O.eq O.GE hr2 pass0) (Mk1.pe_methK (pv 4) Z.cl O.with_ O.GW hr7 (kb_with FW) passNo (pk_cons (pe_ix ix_list (pv 1) pe_int (fun _ _ => rfl)) pk_nil)) (Mk1.pe_smethK (pe_glob (v := .ref C) rfl mT rfl) R SM GRd hr8 (kb_read FRd) passNo (pk_cons (pe_call GKt hr2 rfl mKt FKt.kp bKt .nil pass0 (pa_cons (pv 9) pa_nil)) pk_nil)) (nomark _)) (pss_one (ps_ret pe_bl)) pss_nil)
    tD))) ?_
  rintro D σ G ⟨b, lt, k, lp, lo, o, z, y, x, g, a, n, us, rs, ps, os, os', x3, x5, x6, x7, x8, rfl, S, hb, p1, p2, so, hz, q⟩
  have ri := S.kn.right
  have ri' : Right n ps os' a := ri.perm p1 p2
  have nx : isName x = true := hz x (List.mem_cons_of_mem _ (List.mem_cons_of_mem _ List.mem_cons_self))
  have nxV : nameV (.str x) = true := nx
  have rix := ri.with (b := .str x) (.inr nxV)
  obtain ⟨fs, sA, kt, kd, kw⟩ := id S.st
  obtain ⟨dx, g0, pa, pf, us0, oq, h1, hrest⟩ := sA
  refine ⟨_, rfl, 3, rfl, k, _, rfl, SqL.of S.kn.k, fun l1 n1 => ?_⟩
  have ec : cutV [g, V.ref lp, V.ref lo, a] none (some 3) = [g, V.ref lp, V.ref lo] := rfl
  rw [ec]
  have s1 : Same G (upd G l1 (.lst [g, V.ref lp, V.ref lo])) := same_put n1
  have f1 : (upd G l1 (.lst [g, V.ref lp, V.ref lo])) l1 = some (.lst [g, V.ref lp, V.ref lo]) := upd_same
  generalize upd G l1 (.lst [g, V.ref lp, V.ref lo]) = J1 at s1 f1 ⊢
  have S1 := S.same s1
  refine ⟨_, rfl, lt, _, 2, _, rfl, rfl, SqL.of S1.tags, atI_nat (j := 2) rfl, (by show 1 ≤ sizeLine; decide), fun l2 n2 => ⟨l1, l2, _, _, rfl, rfl, (same_put n2) _ _ f1, upd_same, (by show 4 ≤ sizeLine; decide), fun k2 nk2 => ?_⟩⟩
  have s2 : Same J1 (upd (upd J1 l2 (.lst [.str x])) k2 (.lst ([g, V.ref lp, V.ref lo] ++ [.str x]))) := (same_put n2).trans (same_put nk2)
  have f2 : (upd (upd J1 l2 (.lst [.str x])) k2 (.lst ([g, V.ref lp, V.ref lo] ++ [.str x]))) k2 = some (.lst [g, .ref lp, .ref lo, .str x]) := upd_same
  have k2p : k2 ≠ p := (S1.src.same (same_put (o := .lst [.str x]) n2)).ne nk2
  generalize upd (upd J1 l2 (.lst [.str x])) k2 (.lst ([g, V.ref lp, V.ref lo] ++ [.str x])) = J2 at s2 f2 ⊢
  have S2 := S1.same s2
  have m2 := s1.trans s2
  have lz : [z, y, x].length ≤ 3 := by show 3 ≤ 3; decide
  -- with_rows_of, shown
  refine ⟨_, rfl, o, dx, fs, rfl, m2 _ _ h1, kw, _, rfl, lt, _, 2, _, rfl, rfl, SqL.of S2.tags, atI_nat (j := 2) rfl, o, .str x, n, ps, os', a, rfl, S2.st, ri', cell_at (.inr nxV), fun _ o2 ps2 os2 H3 q1 q2 q3 q4 at2 no2 s3 => ?_, fun z => by rw [nxV] at z; cases z⟩
  obtain rfl := pairs_one q1 q2 so.1
  obtain rfl := names_one q3 q4 so.2
  have S3 := S2.same s3
  have rix' := rix.perm p1 p2
  refine ⟨_, rfl, o2, lt, n, ps2, os2, .str x, _, rfl, at2, rix', S3.tags, lz, hz, fun H4 s4 => ?_⟩
  have S4 := S3.same s4
  have m4 := s3.trans s4
  have f4 := m4 _ _ f2
  refine ⟨_, rfl, _, rfl, k2, lp, lo, lt, g, .str x, n, us, rs, os, _, rfl, f4, S4.kn.net, S4.kn.pairs, S4.kn.prs, S4.kn.ons, rix, S4.tags, lz, fun ps3 os3 H5 t1 t2 t3 s5 => ?_⟩
  obtain rfl := pairs_one (t1.trans p1.symm) t3.1 so.1
  obtain rfl := names_one (t2.trans p2.symm) t3.2 so.2
  refine ⟨rfl, _, rfl, ?_⟩
  have e : (!decide (V.str (setD n ps3 os3 (.str x) [z, y, x]).shown = V.str (setD n ps3 os3 (.str x) [z, y, x]).shown)) = false := by rw [decide_eq_true rfl]; rfl
  rw [e]
  have S5 := S4.same s5
  have m5 := m4.trans s5
  -- with_rows_of by name, read
  refine iteF ⟨_, rfl, o, dx, fs, rfl, (m2.trans m5) _ _ h1, kw, _, rfl, lt, _, 2, _, rfl, rfl, SqL.of S5.tags, atI_nat (j := 2) rfl, rfl, o, .str x, n, ps3, os3, a, rfl, S5.st, ri', cell_at (.inr nxV), fun _ o4 ps4 os4 H6 q1 q2 q3 q4 at4 no4 s6 => ?_, fun z => by rw [nxV] at z; cases z⟩
  obtain rfl := pairs_one q1 q2 so.1
  obtain rfl := names_one q3 q4 so.2
  have S6 := S5.same s6
  have f6 := s6 _ _ (m5 _ _ f2)
  refine ⟨rfl, _, rfl, k2, lp, lo, g, .str x, n, us, rs, os, rfl, f6, S6.kn.net, S6.kn.pairs, S6.kn.prs, S6.kn.ons, right_ok rix, by have := ri.ol; omega, fun ps7 os7 H7 u1 u2 u3 u4 s7 => ?_⟩
  obtain rfl := pairs_one (u1.trans p1.symm) u2 so.1
  obtain rfl := names_one (u3.trans p2.symm) u4 so.2
  have S7 := S6.same s7
  refine ⟨rfl, n, ps7, os7, .str x, rfl, rix', so, fun o8 H8 at8 no8 s8 => ?_⟩
  have S8 := S7.same s8
  have at4' := at4.same (s7.trans s8)
  obtain ⟨dx4, fs4, h4, k4⟩ := at4'.text
  obtain ⟨dx8, fs8, h8, k8⟩ := at8.text
  refine ⟨o4, dx4, fs4, .ref C, rfl, h4, .base (.ins h8 Z.cl Y.ca Y.cn Y.ct Y.cm), nf_self, o4, .ref o8, _, rfl, ⟨dx4, fs4, h4, k4⟩, .inl ⟨o8, _, rfl, ⟨dx8, fs8, h8, k8⟩, _, rfl, ?_⟩⟩
  refine ⟨_, rfl, ?_⟩
  have e2 : (!decide (linesOf (setParts n ps7 os7 (V.str x)) = linesOf (setParts n ps7 os7 (V.str x)))) = false := by rw [decide_eq_true rfl]; rfl
  rw [e2]
  have m8 := m2.trans (m5.trans (s6.trans (s7.trans s8)))
  exact iteF ⟨b, lt, k, lp, lo, o, [y, x], z, g, a, n, us, rs, ps7, os, os7, x3, x5, x6, x7, x8, _, rfl, S8, hb, p1, p2, so, lz, hz, fun G1 n1 s1 t1 => q G1 ((m8.n p).trans n1) s1 t1⟩
end
end
end K13


/-! _law_right: equality -/
namespace K13
open PySem PySem.Spec PyProof.Rows L2 Rng Bag Gd LamX Tr4 Own1
section
variable {P : Program} {w : World} {K : PySem.W.Frag} {mg : Str → Option Value} {base : Heap}
theorem bools_fits : ∀ bs : List Bool, bs.length ≤ 10 → Fits 80000 40 (.list (bs.map PyData.bool)) := by
  intro bs hl
  have h := fitsMap (f := PyData.bool) (m := 0) (p := 1) bs (fun b _ => fitsBl b)
  exact Fits.up (FitsA.list h) (by omega) (by decide)
theorem dec_str {x y : Str} : decide (V.str x = V.str y) = decide (x = y) := by
  by_cases h : x = y
  · rw [h, decide_eq_true rfl, decide_eq_true rfl]
  · rw [decide_eq_false h, decide_eq_false fun z => h (by injection z)]
theorem bools_dp {H : Hp} : ∀ bs : List Bool, DpAll K H (bs.map V.bl) (bs.map PyData.bool)
  | [] => .nil
  | b :: bs => .cons (.bl b) (bools_dp bs)
section
variable {C cR pR p f : Addr} {Cs Bs : Nat → Addr} {T : List (Addr × Str)} {fS fR fE fD fW pRd fRd fCa fFi fP fO fKt fDu fSh fMa : Addr} {mc : Value} {dD dW dRd dCa dFi dP dO dKt dDu dSh dMa : FuncData} {A : Around} {outer : List Env} {s : Shared} {H : Hp} {E : XK}
def PreEven (K : PySem.W.Frag) (C : Addr) (T : List (Addr × Str)) (p : Addr) (D : Ends) (σ : L2.St) (G : Hp) : Prop := ∃ (b : Nat) (lt k lp lo o k' lp' lo' o' : Addr) (z y x : Str) (g a g' a' : V) (n n' : Option (Int × Int)) (us us' : List V) (rs ps rs' ps' : List (Str × Int)) (os ns os' ns' : List Str),
  σ = [some (.ref p), some (.ref lt), some (.ref k), some (.ref k'), some (.ref o), some (.ref o'), none, none, none, none, none] ∧ StM C T p lt [z, y, x] k lp lo g a n us rs os o ps ns b G ∧ StM C T p lt [z, y, x] k' lp' lo' g' a' n' us' rs' os' o' ps' ns' b G ∧ b ≤ 600000 ∧ ps.Perm rs ∧ ns.Perm os ∧ Sorted ps ns ∧ ps'.Perm rs' ∧ ns'.Perm os' ∧ Sorted ps' ns' ∧ (∀ w ∈ [z, y, x], isName w = true) ∧
  ∀ G', ButN p G G' → Src G' p (b + 10) → Tabs T G' → D.rt (.bl true) G'
theorem tailEven (X2 : Env13 P w K mg base C Cs Bs fS fR fE fD fW pRd fRd fCa fFi fP fO fKt fDu fSh fMa mc dD dW dRd dCa dFi dP dO dKt dDu dSh dMa) (TM : Bt mg) (TK : Kt mg) (nRepr : mg "repr" = none) (TB : TabB base mg cR pR) (hT : (pR, ("_law_right.<locals>.<lambda>" : Str)) ∈ T) (uT : ∀ q ∈ T, q.1 = pR → q.2 = ("_law_right.<locals>.<lambda>" : Str))
    (gq : (A.deeper (envOfC "_law_right" (defScope sRight) s.heap.objs.size f (.ref cR))).guards = some []) (hr9 : Room 9 (A.deeper (envOfC "_law_right" (defScope sRight) s.heap.objs.size f (.ref cR)))) :
    PSs (cxOf CX0 P w K mg base nmR "_law_right" (defScope sRight) f (.ref cR) A outer s H E).nox ((defBody sRight).drop 4) (PreEven K C T p) := by
  have tD := tailTurn (E := E) (outer := outer) (s := s) (H := H) (p := p) (f := f) X2 TM TK nRepr TB hT uT gq hr9
  obtain ⟨mT, Z, Y, O, FD, FW, ne, nfS, kS, R, SM, FRd, GRd, CT, FCa, bCa, mCa, FFi, bFi, mFi, FP, bP, mP, FO, bO, mO, FKt, bKt, mKt, GKt, FDu, bDu, mDu, GDu, FSh, bSh, mSh, GSh, FMa, bMa, mMa, GMa⟩ := X2
  have hr1 : Room 1 _ := hr9.mono (by decide)
  have hr2 : Room 2 _ := hr9.mono (by decide)
  have hr3 : Room 3 _ := hr9.mono (by decide)
  have hr4 : Room 4 _ := hr9.mono (by decide)
  have hr7 : Room 7 _ := hr9.mono (by decide)
  have hr8 : Room 8 _ := hr9.mono (by decide)
  have hu64 := Nat.lt_of_le_of_lt (Nat.add_le_add_left (by decide : 64 ≤ 16 * 9 + 200) _) (Nat.lt_of_le_of_lt (Nat.le_of_eq (Nat.add_assoc _ _ _).symm) hr9.un)
  have bRd := FRd.binds (ps := ["text"]) fun _ _ _ _ _ _ us hl => match us, hl with | [_], _ => rfl
  have GRR : FnR P w K mg base (L2N.CX P w) 8 fRd (spRead C) := (GRd.raw bRd .nil).imp fun vs H Q E h => by rw [List.append_nil]; exact h
  have hS := call_strO (X := (cxOf CX0 P w K mg base nmR "_law_right" (defScope sRight) f (.ref cR) A outer s H E).nox) (E := E0) O.str O.GS hr3 pass0
  refine pss_imp (pss_cons (ps_set (i := 6) scRight.nd rfl (Or.inl rfl) (pe_cmpR op_eq (pe_call GKt hr2 rfl mKt FKt.kp bKt .nil pass0 (pa_cons (pv 2) pa_nil)) (pe_call GKt hr2 rfl mKt FKt.kp bKt .nil pass0 (pa_cons (pv 3) pa_nil)) (nomark _)))
    (pss_cons (ps_set (i := 7) scRight.nd rfl (Or.inl rfl) (pe_call GMa hr7 rfl mMa FMa.kp bMa .nil pass0 (pa_cons (pv 0) (pa_cons (pv 2) pa_nil))))
    (pss_cons (ps_set (i := 8) scRight.nd rfl (Or.inl rfl) (pe_lst (pa_cons (pe_cmpR (op_eqO (E := E0) O.eq O.GE hr1 pass0) (pv 4) (pv 7) (nomark _)) (pa_cons (pe_cmpR (op_eqO (E := E0) O.eq O.GE hr1 pass0) (pv 4) (pv 5) (nomark _)) (pa_cons (pe_cmpR (op_neO (E := E0) ne Y.cm O.eq O.GE hr2 pass0) (pv 4) (pv 5) (nomark _))
      (pa_cons (pe_cmpR (op_eqO (E := E0) O.eq O.GE hr1 pass0) (pv 4) (pe_callTy hS (by rfl) TK.nStr PyProof.Rows.boot_str (pa_cons (pv 4) pa_nil)) (nomark _))
      (pa_cons (pe_cmpR (op_eqO (E := E0) O.eq O.GE hr1 pass0) (Mk1.pe_smeth (pe_glob (v := .ref C) rfl mT rfl) R SM GRR hr8 passNo (pa_cons (pe_callTy hS (by rfl) TK.nStr PyProof.Rows.boot_str (pa_cons (pv 4) pa_nil)) pa_nil)) (pv 4) (nomark _)) pa_nil)))))))
    (pss_cons (ps_expr (pe_bm (X := (cxOf CX0 P w K mg base nmR "_law_right" (defScope sRight) f (.ref cR) A outer s H E).nox) PySem.F.plainAttrs_list PySem.F.slot_list_append PySem.F.type_list_append mt_append (pv 8) (pa_cons (pe_cmpR (X := (cxOf CX0 P w K mg base nmR "_law_right" (defScope sRight) f (.ref cR) A outer s H E).nox) op_eq (Mk1.pe_methK (pv 4) Z.cl O.dist O.GD hr4 (kb_dist FD) passNo (pk_cons (pe_ix ix_list (pv 1) pe_int (fun _ _ => rfl)) pk_nil)) (pe_meth (pv 4) Z.cl O.dist O.GD hr4 O.bD .nil passNo (pa_cons (pe_ix ix_list (pv 1) pe_int (fun _ _ => rfl)) pa_nil) rfl rfl rfl) (nomark _)) pa_nil)))
    (pss_cons (ps_if (pt_cmpR op_ne (pe_callB (cr_shows gq hu64) (by rfl) nRepr (by decide +kernel) (pa_cons (pv 8) pa_nil)) (pe_callB (cr_shows gq hu64) (by rfl) nRepr (by decide +kernel) (pa_cons (pe_lst (pa_cons pe_bl (pa_cons (pv 6) (pa_cons (pe_not (pv 6)) (pa_cons pe_bl (pa_cons pe_bl (pa_cons pe_bl pa_nil))))))) pa_nil)) (nomark _)) (pss_one (ps_ret pe_bl)) pss_nil)
    tD))))) ?_
  rintro D σ G ⟨b, lt, k, lp, lo, o, k', lp', lo', o', z, y, x, g, a, g', a', n, n', us, us', rs, ps, rs', ps', os, ns, os', ns', rfl, S, S', hb, p1, p2, so, p1', p2', so', hz, q⟩
  have ri := S.kn.right
  have rim : Right n ps ns a := ri.perm p1 p2
  have ri' := S'.kn.right
  have rim' : Right n' ps' ns' a' := ri'.perm p1' p2'
  obtain ⟨dx, fs, h1, kt⟩ := S.st.text
  obtain ⟨dx', fs', h1', kt'⟩ := S'.st.text
  refine ⟨_, rfl, k, lp, lo, g, a, n, us, rs, os, rfl, S.kn.k, S.kn.net, S.kn.pairs, S.kn.prs, S.kn.ons, right_ok ri, by have := ri.ol; omega, fun ps1 os1 H1 u1 u2 u3 u4 s1 => ?_⟩
  obtain rfl := pairs_one (u1.trans p1.symm) u2 so.1
  obtain rfl := names_one (u3.trans p2.symm) u4 so.2
  have S1 := S.same s1
  have S1' := S'.same s1
  refine ⟨_, rfl, k', lp', lo', g', a', n', us', rs', os', rfl, S1'.kn.k, S1'.kn.net, S1'.kn.pairs, S1'.kn.prs, S1'.kn.ons, right_ok ri', by have := ri'.ol; omega, fun ps2 os2 H2 v1 v2 v3 v4 s2 => ?_⟩
  obtain rfl := pairs_one (v1.trans p1'.symm) v2 so'.1
  obtain rfl := names_one (v3.trans p2'.symm) v4 so'.2
  have S2 := S1.same s2
  have S2' := S1'.same s2
  refine ⟨rfl, ?_⟩
  rw [dec_str]
  obtain ⟨t1, et1⟩ : ∃ t, t = linesOf (setParts n ps1 os1 a) := ⟨_, rfl⟩
  obtain ⟨t2, et2⟩ : ∃ t, t = linesOf (setParts n' ps2 os2 a') := ⟨_, rfl⟩
  rw [← et1] at kt ⊢
  rw [← et2] at kt' ⊢
  obtain ⟨ev, hev⟩ : ∃ e, e = decide (t1 = t2) := ⟨_, rfl⟩
  rw [← hev]
  refine ⟨_, rfl, _, rfl, p, k, lp, lo, b, g, a, n, us, rs, os, rfl, S2.src, by omega, S2.kp, S2.kn, fun o3 ps3 os3 H3 w1 w2 so3 at3 no3 o3p B3 q3 => ?_⟩
  obtain rfl := pairs_one (w1.trans p1.symm) so3.1 so.1
  obtain rfl := names_one (w2.trans p2.symm) so3.2 so.2
  have S3 := S2.but B3 q3
  have S3' := S2'.but B3 q3
  obtain ⟨dx3, fs3, h3, kt3⟩ := at3.text
  rw [← et1] at kt3
  have m2 := s1.trans s2
  have n3 : ButN p G H3 := (m2.n p).trans B3.n
  have g1 := srcKeep S.src n3 h1 (fun _ z => (nomatch z)) fun _ z => (nomatch z)
  have g1' := srcKeep S.src n3 h1' (fun _ z => (nomatch z)) fun _ z => (nomatch z)
  have ty3 : TyX K H3 (.ref o3) (.ref C) := .base (.ins h3 Z.cl Y.ca Y.cn Y.ct Y.cm)
  have ty' : TyX K H3 (.ref o') (.ref C) := .base (.ins g1' Z.cl Y.ca Y.cn Y.ct Y.cm)
  have ht : HasText C H3 o t1 := ⟨dx, fs, g1, kt⟩
  have ht' : HasText C H3 o' t2 := ⟨dx', fs', g1', kt'⟩
  have ht3 : HasText C H3 o3 t1 := ⟨dx3, fs3, h3, kt3⟩
  refine ⟨_, rfl, _, rfl, o, dx, fs, .ref C, rfl, g1, ty3, nf_self, o, .ref o3, t1, rfl, ht, .inl ⟨o3, t1, rfl, ht3, ?_⟩⟩
  rw [decide_eq_true (rfl : t1 = t1)]
  refine ⟨_, rfl, _, rfl, o, dx, fs, .ref C, rfl, g1, ty', nf_self, o, .ref o', t1, rfl, ht, .inl ⟨o', t2, rfl, ht', ?_⟩⟩
  rw [← hev]
  refine ⟨_, rfl, _, rfl, o, dx, fs, .ref C, rfl, g1, ty', nf_self, o, .ref o', t1, rfl, ht, .inl ⟨o', t2, rfl, ht', ev, by rw [hev], ?_⟩⟩
  refine ⟨_, rfl, _, rfl, o, dx, fs, rfl, g1, o, dx, fs, _, rfl, g1, kt, _, rfl, o, dx, fs, .type "str", rfl, g1, .base (.str _), nfS, o, .str t1, t1, rfl, ht, .inr ⟨.type "str", .base (.str _), kS, ?_⟩⟩
  refine ⟨rfl, _, rfl, o, dx, fs, rfl, g1, o, dx, fs, _, rfl, g1, kt, _, rfl, n, ps3, os3, a, by rw [et1], rim, so, fun o5 H5 at5 no5 s5 => ?_⟩
  have S5 := S3.same s5
  have S5' := S3'.same s5
  obtain ⟨dx5, fs5, h5, kt5⟩ := at5.text
  rw [← et1] at kt5
  have ht5 : HasText C H5 o5 t1 := ⟨dx5, fs5, h5, kt5⟩
  have gg1 := s5 _ _ g1
  have tyo : TyX K H5 (.ref o) (.ref C) := .base (.ins gg1 Z.cl Y.ca Y.cn Y.ct Y.cm)
  refine ⟨_, rfl, o5, dx5, fs5, .ref C, rfl, h5, tyo, nf_self, o5, .ref o, t1, rfl, ht5, .inl ⟨o, t1, rfl, ht.same s5, ?_⟩⟩
  rw [decide_eq_true (rfl : t1 = t1)]
  refine ⟨(by show 5 ≤ sizeLine; decide), fun L nL => ?_⟩
  have eL : (upd H5 L (.lst [.bl true, .bl ev, .bl (!ev), .bl false, .bl true])) L = some (.lst [.bl true, .bl ev, .bl (!ev), .bl false, .bl true]) := upd_same
  have sL : Same H5 (upd H5 L (.lst [.bl true, .bl ev, .bl (!ev), .bl false, .bl true])) := same_put nL
  have nLp : L ≠ p := S5.src.ne nL
  have n5 : ButN p G H5 := n3.trans (s5.n p)
  have n6 := n5.trans (sL.n p)
  generalize upd H5 L (.lst [.bl true, .bl ev, .bl (!ev), .bl false, .bl true]) = H6 at eL sL n6 ⊢
  have S6 := S5.same sL
  have S6' := S5'.same sL
  -- distances
  have hz0 : isName z = true := hz z List.mem_cons_self
  have hzV : nameV (.str z) = true := hz0
  have g6 := srcKeep S.src n6 h1 (fun _ z => (nomatch z)) fun _ z => (nomatch z)
  obtain ⟨fs0, ⟨dx0, g0, pa, pf, us0, oq, h10, hrest⟩, kt0, kd, kw⟩ := id S6.st
  refine ⟨_, rfl, .inl ⟨rfl, _, SqL.of eL⟩, _, rfl, o, dx0, fs0, rfl, h10, kd, _, rfl, lt, _, 0, _, rfl, rfl, SqL.of S6.tags, atI_nat (j := 0) rfl, rfl, o, .str z, n, ps3, os3, a, rfl, S6.st, cell_at (.inr hzV), fun z' ez hz' H7 s7 => ?_, fun z => by rw [hzV] at z; cases z⟩
  injection ez with ez
  subst ez
  have S7 := S6.same s7
  rw [(far_int z rim.pn).1]
  refine ⟨_, rfl, o, dx0, fs0, rfl, s7 _ _ h10, kd, _, rfl, lt, _, 0, _, rfl, rfl, SqL.of S7.tags, atI_nat (j := 0) rfl, o, .str z, n, ps3, os3, a, rfl, S7.st, cell_at (.inr hzV), fun z' ez hz' H8 s8 => ?_, fun z => by rw [hzV] at z; cases z⟩
  injection ez with ez
  subst ez
  have S8 := S7.same s8
  have S8' := (S6'.same s7).same s8
  rw [(far_int z rim.pn).1]
  have e8 := s8 _ _ (s7 _ _ eL)
  refine ⟨rfl, L, _, _, rfl, rfl, e8, (by show 5 < sizeLine; decide), ?_⟩
  rw [decide_eq_true rfl]
  have n8 : ButN p G (upd H8 L (.lst ([.bl true, .bl ev, .bl (!ev), .bl false, .bl true] ++ [.bl true]))) := butN_put n5 nL (n6.trans ((s7.trans s8).n p))
  have S9 := S.butN n8 ((src_put (S8.src) nLp).mono (Nat.le_refl _)) (tabs_put S8.tabs e8)
  have e9 : (upd H8 L (.lst ([.bl true, .bl ev, .bl (!ev), .bl false, .bl true] ++ [.bl true]))) L = some (.lst (([true, ev, !ev, false, true, true] : List Bool).map V.bl)) := upd_same
  generalize upd H8 L (.lst ([.bl true, .bl ev, .bl (!ev), .bl false, .bl true] ++ [.bl true])) = H9 at n8 S9 e9 ⊢
  have ft : Fits 80000 40 (.list (([true, ev, !ev, false, true, true] : List Bool).map PyData.bool)) := bools_fits _ (by show 6 ≤ 10; decide)
  refine ⟨_, rfl, .ref L, _, rfl, .inl ⟨_, fun H' s' => .lst (SqL.of (s' _ _ e9)) (bools_dp _), ft, rfl⟩, _, rfl, _, rfl, ev, rfl, (by show 6 ≤ sizeLine; decide), fun l10 n10 => ?_⟩
  have e10 : (upd H9 l10 (.lst [.bl true, .bl ev, .bl (!ev), .bl false, .bl true, .bl true])) l10 = some (.lst (([true, ev, !ev, false, true, true] : List Bool).map V.bl)) := upd_same
  have s10 : Same H9 (upd H9 l10 (.lst [.bl true, .bl ev, .bl (!ev), .bl false, .bl true, .bl true])) := same_put n10
  generalize upd H9 l10 (.lst [.bl true, .bl ev, .bl (!ev), .bl false, .bl true, .bl true]) = H10 at e10 s10 ⊢
  refine ⟨.ref l10, _, rfl, .inl ⟨_, fun H' s' => .lst (SqL.of (s' _ _ e10)) (bools_dp _), ft, rfl⟩, rfl, _, rfl, ?_⟩
  rw [dec_str, decide_eq_true rfl]
  have S10 := S9.same s10
  exact iteF ⟨b + 6, lt, k, lp, lo, o, z, y, x, g, a, n, us, rs, ps3, os, os3, _, _, _, _, _, rfl, S10, by omega, p1, p2, so, hz, fun G1 n1 s1 t1 => q G1 ((n8.trans (s10.n p)).trans n1) (s1.mono (by omega)) t1⟩
end
end
end K13


/-! _law_right -/
namespace K13
open PySem PySem.Spec PyProof.Rows L2 Rng Bag Gd LamX Tr4 Own1
def spRightT (T : List (Addr × Str)) : Sp := fun vs H Q _ => ∃ (p : Addr) (b : Nat), vs = [.ref p] ∧ Src H p b ∧ b ≤ 500000 ∧ Tabs T H ∧ ∀ H', ButN p H H' → Src H' p (b + 600) → Tabs T H' → Q (.bl true) H'
section
variable {P : Program} {w : World} {K : PySem.W.Frag} {mg : Str → Option Value} {base : Heap}
section
variable {C cR pR p f fTs fKn : Addr} {Cs Bs : Nat → Addr} {T : List (Addr × Str)} {fS fR fE fD fW pRd fRd fCa fFi fP fO fKt fDu fSh fMa : Addr} {mc : Value} {fd dD dW dRd dCa dFi dP dO dKt dDu dSh dMa dTs dKn : FuncData}
theorem ok_right (F : FunC K "_law_right" "_law_right" sRight f fd cR) (X2 : Env13 P w K mg base C Cs Bs fS fR fE fD fW pRd fRd fCa fFi fP fO fKt fDu fSh fMa mc dD dW dRd dCa dFi dP dO dKt dDu dSh dMa) (TM : Bt mg) (TK : Kt mg) (nRepr : mg "repr" = none) (TB : TabB base mg cR pR) (hT : (pR, ("_law_right.<locals>.<lambda>" : Str)) ∈ T) (uT : ∀ q ∈ T, q.1 = pR → q.2 = ("_law_right.<locals>.<lambda>" : Str))
    (FTs : Fun K "_law_tags" "_law_tags" sTags fTs dTs) (bTs : Binds K dTs ["_law_source_here", "_law_many"] []) (mTs : mg "_law_tags" = some (.ref fTs)) (GTs : FnOk P w K mg base CX0 4 fTs dTs ["_law_source_here", "_law_many"] spTags)
    (FKn : Fun K "_law_known" "_law_known" sKn fKn dKn) (bKn : Binds K dKn ["_law_source_here", "_law_tags_here"] []) (mKn : mg "_law_known" = some (.ref fKn)) (GKn : FnOk P w K mg base CX0 4 fKn dKn ["_law_source_here", "_law_tags_here"] spKnown) :
    FnG P w K mg base 10 f fd ["_law_source_here"] (spRightT T) := by
  refine F.okG scRight (fun vs H Q E h => ?_) (fun A outer s H vs Q E gq hr9 h => ?_)
  · obtain ⟨p, b, rfl, _⟩ := h
    rfl
  obtain ⟨p, b, rfl, hs, hb, tb, q⟩ := h
  have tD := tailEven (E := E) (outer := outer) (s := s) (H := H) (p := p) (f := f) X2 TM TK nRepr TB hT uT gq hr9
  obtain ⟨mT, Z, Y, O, FD, FW, ne, nfS, kS, R, SM, FRd, GRd, CT, FCa, bCa, mCa, FFi, bFi, mFi, FP, bP, mP, FO, bO, mO, FKt, bKt, mKt, GKt, FDu, bDu, mDu, GDu, FSh, bSh, mSh, GSh, FMa, bMa, mMa, GMa⟩ := X2
  have hr4 : Room 4 _ := hr9.mono (by decide)
  have hr5 : Room 5 _ := hr9.mono (by decide)
  have hr7 : Room 7 _ := hr9.mono (by decide)
  refine ⟨_, pss_cons (ps_set (i := 1) scRight.nd rfl (Or.inl rfl) (pe_call GTs hr4 rfl mTs FTs.kp bTs .nil pass0 (pa_cons (pv 0) (pa_cons pe_int pa_nil))))
    (pss_cons (ps_par (i := 2) (j := 3) (by rfl) scRight.nd rfl rfl (by decide) rfl rfl (pa_cons (pe_call GKn hr4 rfl mKn FKn.kp bKn .nil pass0 (pa_cons (pv 0) (pa_cons (pe_slice sl_list (pv 1) po_none (po_some pe_int)) pa_nil))) (pa_cons (pe_call GKn hr4 rfl mKn FKn.kp bKn .nil pass0 (pa_cons (pv 0) (pa_cons (pe_slice sl_list (pv 1) po_none (po_some pe_int)) pa_nil))) pa_nil)) (by rfl))
    (pss_cons (ps_asg (pe_tup (pa_cons (pe_call GMa hr7 rfl mMa FMa.kp bMa .nil pass0 (pa_cons (pv 0) (pa_cons (pv 2) pa_nil))) (pa_cons (pe_call GMa hr7 rfl mMa FMa.kp bMa .nil pass0 (pa_cons (pv 0) (pa_cons (pv 3) pa_nil))) pa_nil))) (pg_tup (by rfl) (pgs_cons (pg_name (i := 4) scRight.nd rfl (Or.inr rfl)) (pgs_cons (pg_name (i := 5) scRight.nd rfl (Or.inl rfl)) pgs_nil))))
    (pss_cons (ps_if (PW.pt (pw_or (pt_cmpR op_ne (pe_callG (E := E0) GSh gq hr5 rfl mSh FSh.kp bSh .nil (pa_cons (pv 4) (pa_cons (pv 1) pa_nil))) (pe_callG (E := E0) GDu gq hr5 rfl mDu FDu.kp bDu .nil (pa_cons (pv 2) (pa_cons (pv 1) pa_nil))) (nomark _)) (pw_or1 (pt_cmpR op_ne (pe_callG (E := E0) GSh gq hr5 rfl mSh FSh.kp bSh .nil (pa_cons (pv 5) (pa_cons (pv 1) pa_nil))) (pe_callG (E := E0) GDu gq hr5 rfl mDu FDu.kp bDu .nil (pa_cons (pv 3) (pa_cons (pv 1) pa_nil))) (nomark _))))) (pss_one (ps_ret pe_bl)) pss_nil)
    tD))), ?_⟩
  have hsome : ∀ {J : Hp} {c : Nat}, Src J p c → ∀ u, J p = some u → ∃ xs, u = .lst xs := fun {J c} h u e => by
    obtain ⟨xs, e'⟩ := h.some
    rw [e] at e'
    exact ⟨xs, Option.some.inj e'⟩
  refine ⟨_, rfl, p, 3, b, rfl, by omega, by omega, hs, by omega, fun lt zs H1 lz ndz nz B1 nlt lne elt q1 => ?_⟩
  have tb1 : Tabs T H1 := tb.but B1 (hsome hs)
  obtain ⟨z, y, x, rfl⟩ : ∃ z y x, zs = [z, y, x] := by
    match zs, lz with
    | [z, y, x], _ => exact ⟨z, y, x, rfl⟩
  have ec : cutV ([z, y, x].map V.str) none (some 2) = [z, y].map V.str := rfl
  refine ⟨_, rfl, _, rfl, 2, rfl, lt, _, rfl, SqL.of elt, fun l1 n1 => ?_⟩
  rw [ec]
  have s1 : Same H1 (upd H1 l1 (.lst ([z, y].map V.str))) := same_put n1
  have e1 : (upd H1 l1 (.lst ([z, y].map V.str))) l1 = some (.lst ([z, y].map V.str)) := upd_same
  have p1 : l1 ≠ p := q1.ne n1
  generalize upd H1 l1 (.lst ([z, y].map V.str)) = H2 at s1 e1 ⊢
  have q2 := q1.same s1
  have tb2 := tb1.same s1
  have nd2 : [z, y].Nodup := (show [z, y].Sublist [z, y, x] from .cons_cons _ (.cons_cons _ (List.nil_sublist _))).nodup ndz
  have nz2 : ∀ w ∈ [z, y], isName w = true := fun w hw => nz w (by
    simp only [List.mem_cons, List.not_mem_nil, or_false] at hw ⊢
    rcases hw with h | h
    · exact .inl h
    · exact .inr (.inl h))
  refine ⟨p, l1, b + 200, [z, y], rfl, q2, by omega, p1, e1, by show 2 ≤ 3; decide, nz2, nd2, fun k lp lo g a n us rs os H3 KA B3 q3 => ?_⟩
  have tb3 := tb2.but B3 (hsome q2)
  have elt2 := s1 _ _ elt
  have elt3 := B3 _ _ lne elt2
  have kp : k ≠ p := fun e => by
    obtain ⟨A0, B0, t0, e0, _⟩ := q3
    have := KA.k
    rw [e, e0] at this
    cases this
  refine ⟨_, rfl, _, rfl, 2, rfl, lt, _, rfl, SqL.of elt3, fun l2 n2 => ?_⟩
  rw [ec]
  have s2 : Same H3 (upd H3 l2 (.lst ([z, y].map V.str))) := same_put n2
  have e2 : (upd H3 l2 (.lst ([z, y].map V.str))) l2 = some (.lst ([z, y].map V.str)) := upd_same
  have p2 : l2 ≠ p := q3.ne n2
  generalize upd H3 l2 (.lst ([z, y].map V.str)) = H4 at s2 e2 ⊢
  have q4 := q3.same s2
  have tb4 := tb3.same s2
  have KA4 := KA.butN kp q3 (s2.n p)
  refine ⟨p, l2, b + 200 + 30, [z, y], rfl, q4, by omega, p2, e2, by show 2 ≤ 3; decide, nz2, nd2, fun k' lp' lo' g' a' n' us' rs' os' H5 KB B5 q5 => ?_⟩
  have tb5 := tb4.but B5 (hsome q4)
  have kp' : k' ≠ p := fun e => by
    obtain ⟨A0, B0, t0, e0, _⟩ := q5
    have := KB.k
    rw [e, e0] at this
    cases this
  have KA5 := KA4.butN kp q4 B5.n
  have elt5 := B5 _ _ lne (s2 _ _ elt3)
  refine ⟨_, _, rfl, ?_⟩
  -- both made
  refine ⟨_, rfl, _, rfl, p, k, lp, lo, b + 200 + 30 + 30, g, a, n, us, rs, os, rfl, q5, by omega, kp, KA5, fun o ps ns H6 w1 w2 so at1 no op B6 q6 => ?_⟩
  have tb6 := tb5.but B6 (hsome q5)
  have KB6 := KB.butN kp' q5 B6.n
  have KA6 := KA5.butN kp q5 B6.n
  have elt6 := B6 _ _ lne elt5
  refine ⟨_, rfl, _, rfl, p, k', lp', lo', _, g', a', n', us', rs', os', rfl, q6, by omega, kp', KB6, fun o' ps' ns' H7 w1' w2' so' at2 no' op' B7 q7 => ?_⟩
  have tb7 := tb6.but B7 (hsome q6)
  have KB7 := KB6.butN kp' q6 B7.n
  have KA7 := KA6.butN kp q6 B7.n
  have at7 := at1.butN q6 B7.n
  have elt7 := B7 _ _ lne elt6
  refine ⟨by show 2 ≤ sizeLine; decide, fun t nt => ⟨t, _, rfl, SqT.of upd_same, rfl, _, _, rfl, _, _, rfl, rfl, ?_⟩⟩
  have s8 : Same H7 (upd H7 t (.tup [.ref o, .ref o'])) := same_put nt
  generalize upd H7 t (.tup [.ref o, .ref o']) = H8 at s8 ⊢
  have S8 : StM C T p lt [z, y, x] k lp lo g a n us rs os o ps ns _ H7 := ⟨q7, tb7, elt7, lne, kp, KA7, at7⟩
  have S8' : StM C T p lt [z, y, x] k' lp' lo' g' a' n' us' rs' os' o' ps' ns' _ H7 := ⟨q7, tb7, elt7, lne, kp', KB7, at2⟩
  replace S8 := S8.same s8
  replace S8' := S8'.same s8
  have B08 : ButN p H H8 := B1.n.trans ((s1.n p).trans (B3.n.trans ((s2.n p).trans (B5.n.trans (B6.n.trans (B7.n.trans (s8.n p)))))))
  have ri := S8.kn.right
  have ri' := S8'.kn.right
  have lz3 : [z, y, x].length ≤ 3 := by show 3 ≤ 3; decide
  refine ⟨_, rfl, _, rfl, o, lt, n, ps, ns, a, _, rfl, S8.st, ri.perm w1 w2, S8.tags, lz3, nz, fun H9 s9 => ?_⟩
  have S9 := S8.same s9
  have S9' := S8'.same s9
  refine ⟨_, rfl, _, rfl, k, lp, lo, lt, g, a, n, us, rs, os, _, rfl, S9.kn.k, S9.kn.net, S9.kn.pairs, S9.kn.prs, S9.kn.ons, ri, S9.tags, lz3, fun ps2 os2 HA v1 v2 v3 sA => ?_⟩
  obtain rfl := pairs_one (v1.trans w1.symm) v3.1 so.1
  obtain rfl := names_one (v2.trans w2.symm) v3.2 so.2
  have SA := S9.same sA
  have SA' := S9'.same sA
  refine ⟨rfl, _, rfl, ?_⟩
  rw [dec_str, decide_eq_true rfl]
  refine iteF ⟨_, rfl, _, rfl, o', lt, n', ps', ns', a', _, rfl, SA'.st, ri'.perm w1' w2', SA'.tags, lz3, nz, fun HB sB => ?_⟩
  have SB := SA.same sB
  have SB' := SA'.same sB
  refine ⟨_, rfl, _, rfl, k', lp', lo', lt, g', a', n', us', rs', os', _, rfl, SB'.kn.k, SB'.kn.net, SB'.kn.pairs, SB'.kn.prs, SB'.kn.ons, ri', SB'.tags, lz3, fun ps3 os3 HC v1' v2' v3' sC => ?_⟩
  obtain rfl := pairs_one (v1'.trans w1'.symm) v3'.1 so'.1
  obtain rfl := names_one (v2'.trans w2'.symm) v3'.2 so'.2
  have SC := SB.same sC
  have SC' := SB'.same sC
  refine ⟨rfl, _, rfl, ?_⟩
  rw [dec_str, decide_eq_true rfl]
  have BC : ButN p H HC := B08.trans ((s9.n p).trans ((sA.n p).trans ((sB.n p).trans (sC.n p))))
  exact iteF ⟨b + 200 + 30 + 30 + 6 + 6, lt, k, lp, lo, o, k', lp', lo', o', z, y, x, g, a, g', a', n, n', us, us', rs, _, rs', _, os, _, os', _, rfl, SC, SC', by omega, w1, w2, so, w1', w2', so', nz, fun G1 n1 s1 t1 => q G1 (BC.trans n1) (s1.mono (by omega)) t1⟩
end
end
end K13


/-! _law_by_hand -/
namespace K13
open PySem PySem.Spec PyProof.Rows L2 Rng Bag Gd LamX Tr4 Own1
section
variable {P : Program} {w : World} {K : PySem.W.Frag} {mg : Str → Option Value} {base : Heap}
abbrev sHand : Stmt := top 61
theorem scHand : FnScope ["_law_mine", "_law_told"] [] (defScope sHand) := ⟨rfl, rfl, rfl, by decide +kernel, rfl, by decide +kernel, by decide +kernel⟩
def spHand : Sp := fun vs H Q _ => vs = [] ∧ ∀ H', Same H H' → Q (.bl true) H'
theorem right_any : Right none [] [] .non := ⟨fun _ z => (nomatch z), by decide, by decide, fun _ z => (nomatch z), List.nodup_nil, fun _ z => (nomatch z), List.nodup_nil, .inl rfl, .inl rfl⟩
section
variable {C f f0 D T0 T1 : Addr} {Cs : Nat → Addr} {fS fR fE fD fW : Addr} {fd dIn dD dW : FuncData}
theorem ok_hand (F : Fun K "_law_by_hand" "_law_by_hand" sHand f fd) (TK : Kt mg) (mT : mg "Setting" = some (.ref C)) (M : Mk K C f0) (FI : Fun K "__init__" "Setting.__init__" sSInit f0 dIn) (DF : Dfl K f0 D T0 T1) (GI : FnOk P w K mg base (L2N.CX P w) 5 f0 dIn ["self", "grid", "apart", "on_grid", "at_rows"] (spSet K C Cs))
    (Z : Sx K C) (Y : Ti K C) (O : Own P w K mg base C Cs fS fR fE fD fW dD dW) : FnOk P w K mg base CX0 7 f fd [] spHand := by
  refine F.ok scHand (fun vs H Q E h => ?_) (fun cdv A outer s H vs Q E hr h => ?_)
  · obtain ⟨rfl, _⟩ := h
    rfl
  obtain ⟨rfl, q⟩ := h
  have hr1 : Room 1 _ := hr.mono (by decide)
  have hr3 : Room 3 _ := hr.mono (by decide)
  have hu64 := Nat.lt_of_le_of_lt (Nat.add_le_add_left (by decide : 64 ≤ 16 * 6 + 200) _) (Nat.lt_of_le_of_lt (Nat.le_of_eq (Nat.add_assoc _ _ _).symm) hr.un)
  have hS := call_strO (X := (cxOf CX0 P w K mg base ["_law_mine", "_law_told"] "_law_by_hand" (defScope sHand) f cdv A outer s H E).nox) (E := E0) O.str O.GS hr3 pass0
  have GI0 : FnR P w K mg base (L2N.CX P w) 5 f0 (fun vs H Q E => spSet K C Cs (vs ++ [.non, .ref T0, .ref T1, .non]) H Q E) := GI.raw (kb_0 DF FI) (.cons rfl (.cons rfl (.cons rfl (.cons rfl .nil))))
  refine ⟨_, pss_cons (ps_set (i := 0) scHand.nd rfl (Or.inl rfl) (pe_makeK0 M GI hr rfl mT (kb_all FI) passNo (pk_cons (pe_tup (pa_cons pe_int (pa_cons pe_int pa_nil))) (pk_cons (pe_tup (pa_cons (pe_tup (pa_cons pe_str (pa_cons pe_int pa_nil))) (pa_cons (pe_tup (pa_cons pe_str (pa_cons pe_int pa_nil))) pa_nil))) (pk_cons (pe_tup (pa_cons pe_str pa_nil)) (pk_cons pe_str pk_nil))))))
    (pss_cons (ps_set (i := 1) scHand.nd rfl (Or.inl rfl) (pe_lst (pa_cons (pe_callTy hS (by rfl) TK.nStr PyProof.Rows.boot_str (pa_cons (pv 0) pa_nil)) (pa_cons (pe_callTy hS (by rfl) TK.nStr PyProof.Rows.boot_str (pa_cons (Mk1.pe_makeR0 M GI0 hr rfl mT passNo) pa_nil))
      (pa_cons (pe_callTy hS (by rfl) TK.nStr PyProof.Rows.boot_str (pa_cons (pe_makeK0 M GI hr rfl mT (kb_r DF FI) passNo (pk_cons pe_str pk_nil)) pa_nil)) (pa_cons (pe_callTy hS (by rfl) TK.nStr PyProof.Rows.boot_str (pa_cons (pe_makeK0 M GI hr rfl mT (kb_g DF FI) passNo (pk_cons (pe_tup (pa_cons pe_int (pa_cons pe_int pa_nil))) pk_nil)) pa_nil)) pa_nil))))))
    (pss_cons (ps_expr (pe_bm PySem.F.plainAttrs_list PySem.F.slot_list_append PySem.F.type_list_append mt_append (pv 1) (pa_cons (pe_cmpR (op_eqO (E := E0) O.eq O.GE hr1 pass0) (Mk1.pe_makeR0 M GI0 hr rfl mT passNo) (pe_makeK0 M GI hr rfl mT (kb_p DF FI) passNo (pk_cons (pe_tup pa_nil) pk_nil)) (nomark _)) pa_nil)))
    (pss_one (ps_ret (pe_cmpR (op_eqD hu64) (pv 1) (pe_lst (pa_cons pe_str (pa_cons pe_str (pa_cons pe_str (pa_cons pe_str (pa_cons pe_bl pa_nil)))))) (nomark _)))))), ?_⟩
  -- the first
  refine ⟨(by show 2 ≤ sizeLine; decide), fun a0 na0 => ?_⟩
  have s0 : Same H (upd H a0 (.tup [.int 5, .int 1])) := same_put na0
  have f0 : (upd H a0 (.tup [.int 5, .int 1])) a0 = some (.tup [.int 5, .int 1]) := upd_same
  generalize upd H a0 (.tup [.int 5, .int 1]) = J0 at s0 f0 ⊢
  refine ⟨(by show 2 ≤ sizeLine; decide), fun a1 na1 => ?_⟩
  have s1 : Same J0 (upd J0 a1 (.tup [.str "b", .int 7])) := same_put na1
  have f1 : (upd J0 a1 (.tup [.str "b", .int 7])) a1 = some (.tup [.str "b", .int 7]) := upd_same
  generalize upd J0 a1 (.tup [.str "b", .int 7]) = J1 at s1 f1 ⊢
  refine ⟨(by show 2 ≤ sizeLine; decide), fun a2 na2 => ?_⟩
  have s2 : Same J1 (upd J1 a2 (.tup [.str "a", .int 3])) := same_put na2
  have f2 : (upd J1 a2 (.tup [.str "a", .int 3])) a2 = some (.tup [.str "a", .int 3]) := upd_same
  generalize upd J1 a2 (.tup [.str "a", .int 3]) = J2 at s2 f2 ⊢
  refine ⟨(by show 2 ≤ sizeLine; decide), fun a3 na3 => ?_⟩
  have s3 : Same J2 (upd J2 a3 (.tup [.ref a1, .ref a2])) := same_put na3
  have f3 : (upd J2 a3 (.tup [.ref a1, .ref a2])) a3 = some (.tup [.ref a1, .ref a2]) := upd_same
  generalize upd J2 a3 (.tup [.ref a1, .ref a2]) = J3 at s3 f3 ⊢
  refine ⟨(by show 1 ≤ sizeLine; decide), fun a4 na4 => ?_⟩
  have s4 : Same J3 (upd J3 a4 (.tup [.str "b"])) := same_put na4
  have f4 : (upd J3 a4 (.tup [.str "b"])) a4 = some (.tup ((["b"] : List Str).map V.str)) := upd_same
  generalize upd J3 a4 (.tup [.str "b"]) = J4 at s4 f4 ⊢
  have t12 : TupsAt plcV J4 [.ref a1, .ref a2] [("b", 7), ("a", 3)] := .cons (s4 _ _ (s3 _ _ (s2 _ _ f1))) (.cons (s4 _ _ (s3 _ _ f2)) .nil)
  have g0 : NetIs J4 (.ref a0) (some (some (5, 1))) := .net (s4 _ _ (s3 _ _ (s2 _ _ (s1 _ _ f0)))) (by decide) (by decide) (by decide) (by decide)
  have r0 : Right (some (5, 1)) [("b", 7), ("a", 3)] ["b"] (.str "a") := ⟨fun q z => by cases z; decide, by decide, by decide, by decide +kernel, by decide +kernel, by decide +kernel, by decide +kernel, .inr (fun z => nomatch z), .inr (by decide +kernel)⟩
  have m4 : Same H J4 := s0.trans (s1.trans (s2.trans (s3.trans s4)))
  refine ⟨rfl, rfl, fun o dx0 nx0 nd0 ne0 => set_go2 (Ce := Cs) (r0.verd g0 (TpK.of (s4 _ _ f3)) t12 (TpK.of f4)) (.str (by decide)) o dx0 nx0 nd0 (fun i v er => by cases er) (fun n rs fs er ps os H5 p1 p2 p3 p4 at0 s5 => ⟨rfl, ?_⟩)⟩
  cases er
  obtain rfl : ps = ([("a", 3), ("b", 7)] : List (Str × Int)) := pairs_one (p1.trans (List.Perm.swap _ _ _)) p2 (by decide +kernel)
  obtain rfl : os = (["b"] : List Str) := List.perm_singleton.mp p3
  have ht0 := at0.text
  rw [show linesOf (setParts (some (5, 1)) [("a", 3), ("b", 7)] ["b"] (.str "a")) = ("grid 5 1; apart a 3; apart b 7; on b; at a" : Str) by decide +kernel] at ht0
  obtain ⟨d0, fs0, h0, k0⟩ := ht0
  refine ⟨_, rfl, o, d0, fs0, rfl, h0, o, d0, fs0, _, rfl, h0, k0, _, rfl, ?_⟩
  -- the second
  refine fun o2 dx2 nx2 nd2 ne2 => set_go2 (Ce := Cs) (right_any.verd .non (DF.tp0 _) .nil (DF.tp1 _)) .non o2 dx2 nx2 nd2 (fun i v er => by cases er) (fun n rs fs er ps os H6 p1 p2 p3 p4 at2 s6 => ⟨rfl, ?_⟩)
  cases er
  obtain rfl := List.Perm.eq_nil p1
  obtain rfl := List.Perm.eq_nil p3
  have ht2 := at2.text
  rw [show linesOf (setParts none [] [] .non) = ("any" : Str) by decide +kernel] at ht2
  obtain ⟨d2, fs2, h2, k2⟩ := ht2
  refine ⟨o2, d2, fs2, rfl, h2, o2, d2, fs2, _, rfl, h2, k2, _, rfl, ?_⟩
  -- the third
  have r3 : Right none [] [] (.str "any") := right_any.with (.inr (by decide +kernel))
  refine ⟨rfl, rfl, fun o3 dx3 nx3 nd3 ne3 => set_go2 (Ce := Cs) (r3.verd .non (DF.tp0 _) .nil (DF.tp1 _)) (.str (by decide)) o3 dx3 nx3 nd3 (fun i v er => by cases er) (fun n rs fs er ps os H7 p1 p2 p3 p4 at3 s7 => ⟨rfl, ?_⟩)⟩
  cases er
  obtain rfl := List.Perm.eq_nil p1
  obtain rfl := List.Perm.eq_nil p3
  have ht3 := at3.text
  rw [show linesOf (setParts none [] [] (.str "any")) = ("at any" : Str) by decide +kernel] at ht3
  obtain ⟨d3, fs3, h3, k3⟩ := ht3
  refine ⟨o3, d3, fs3, rfl, h3, o3, d3, fs3, _, rfl, h3, k3, _, rfl, ?_⟩
  -- the fourth
  refine ⟨(by show 2 ≤ sizeLine; decide), fun a8 na8 => ?_⟩
  have s8 : Same H7 (upd H7 a8 (.tup [.int 1, .int 0])) := same_put na8
  have f8 : (upd H7 a8 (.tup [.int 1, .int 0])) a8 = some (.tup [.int 1, .int 0]) := upd_same
  generalize upd H7 a8 (.tup [.int 1, .int 0]) = J8 at s8 f8 ⊢
  have g8 : NetIs J8 (.ref a8) (some (some (1, 0))) := .net f8 (by decide) (by decide) (by decide) (by decide)
  have r8 : Right (some (1, 0)) [] [] .non := ⟨fun q z => by cases z; decide, by decide, by decide, fun _ z => (nomatch z), List.nodup_nil, fun _ z => (nomatch z), List.nodup_nil, .inl rfl, .inl rfl⟩
  refine ⟨rfl, rfl, fun o9 dx9 nx9 nd9 ne9 => set_go2 (Ce := Cs) (r8.verd g8 (DF.tp0 _) .nil (DF.tp1 _)) .non o9 dx9 nx9 nd9 (fun i v er => by cases er) (fun n rs fs er ps os H9 p1 p2 p3 p4 at9 s9 => ⟨rfl, ?_⟩)⟩
  cases er
  obtain rfl := List.Perm.eq_nil p1
  obtain rfl := List.Perm.eq_nil p3
  have ht9 := at9.text
  rw [show linesOf (setParts (some (1, 0)) [] [] .non) = ("grid 1 0" : Str) by decide +kernel] at ht9
  obtain ⟨d9, fs9, h9, k9⟩ := ht9
  refine ⟨o9, d9, fs9, rfl, h9, o9, d9, fs9, _, rfl, h9, k9, _, rfl, (by show 4 ≤ sizeLine; decide), fun L nL => ?_⟩
  have m9 : Same H H9 := m4.trans (s5.trans (s6.trans (s7.trans (s8.trans s9))))
  have eL : (upd H9 L (.lst [.str "grid 5 1; apart a 3; apart b 7; on b; at a", .str "any", .str "at any", .str "grid 1 0"])) L = some (.lst [.str "grid 5 1; apart a 3; apart b 7; on b; at a", .str "any", .str "at any", .str "grid 1 0"]) := upd_same
  have sL : Same H9 (upd H9 L (.lst [.str "grid 5 1; apart a 3; apart b 7; on b; at a", .str "any", .str "at any", .str "grid 1 0"])) := same_put nL
  have nHL : H L = none := m9.free nL
  generalize upd H9 L (.lst [.str "grid 5 1; apart a 3; apart b 7; on b; at a", .str "any", .str "at any", .str "grid 1 0"]) = HA at eL sL ⊢
  -- two that are equal
  refine ⟨_, rfl, .inl ⟨rfl, _, SqL.of eL⟩, ?_⟩
  refine fun oB dxB nxB ndB neB => set_go2 (Ce := Cs) (right_any.verd .non (DF.tp0 _) .nil (DF.tp1 _)) .non oB dxB nxB ndB (fun i v er => by cases er) (fun n rs fs er ps os HB p1 p2 p3 p4 atB sB => ⟨rfl, ?_⟩)
  cases er
  obtain rfl := List.Perm.eq_nil p1
  obtain rfl := List.Perm.eq_nil p3
  refine ⟨(by show 0 ≤ sizeLine; decide), fun aC naC => ?_⟩
  have sC : Same HB (upd HB aC (.tup [])) := same_put naC
  have fC : (upd HB aC (.tup [])) aC = some (.tup []) := upd_same
  generalize upd HB aC (.tup []) = HC at sC fC ⊢
  refine ⟨rfl, rfl, fun oD dxD nxD ndD neD => set_go2 (Ce := Cs) (right_any.verd .non (TpK.of fC) .nil (DF.tp1 _)) .non oD dxD nxD ndD (fun i v er => by cases er) (fun n rs fs er ps os HD p1 p2 p3 p4 atD sD => ⟨rfl, ?_⟩)⟩
  cases er
  obtain rfl := List.Perm.eq_nil p1
  obtain rfl := List.Perm.eq_nil p3
  have atB' := atB.same (sC.trans sD)
  obtain ⟨dB, fsB, hB, kB⟩ := atB'.text
  obtain ⟨dD', fsD, hD, kD⟩ := atD.text
  refine ⟨oB, dB, fsB, .ref C, rfl, hB, .base (.ins hD Z.cl Y.ca Y.cn Y.ct Y.cm), nf_self, oB, .ref oD, _, rfl, ⟨dB, fsB, hB, kB⟩, .inl ⟨oD, _, rfl, ⟨dD', fsD, hD, kD⟩, ?_⟩⟩
  rw [decide_eq_true rfl]
  have eL2 := (sB.trans (sC.trans sD)) _ _ eL
  refine ⟨L, _, _, rfl, rfl, eL2, (by show 4 < sizeLine; decide), ?_⟩
  have mD : Same H HD := m9.trans (sL.trans (sB.trans (sC.trans sD)))
  have mE : Same H (upd HD L (.lst ([.str "grid 5 1; apart a 3; apart b 7; on b; at a", .str "any", .str "at any", .str "grid 1 0"] ++ [.bl true]))) := fun c u e => by rw [upd_ne (ne_of_none e nHL)]; exact mD c u e
  have eE : (upd HD L (.lst ([.str "grid 5 1; apart a 3; apart b 7; on b; at a", .str "any", .str "at any", .str "grid 1 0"] ++ [.bl true]))) L = some (.lst [.str "grid 5 1; apart a 3; apart b 7; on b; at a", .str "any", .str "at any", .str "grid 1 0", .bl true]) := upd_same
  generalize upd HD L (.lst ([.str "grid 5 1; apart a 3; apart b 7; on b; at a", .str "any", .str "at any", .str "grid 1 0"] ++ [.bl true])) = HE at mE eE ⊢
  refine ⟨_, rfl, (by show 5 ≤ sizeLine; decide), fun M nM => ?_⟩
  have sM : Same HE (upd HE M (.lst [.str "grid 5 1; apart a 3; apart b 7; on b; at a", .str "any", .str "at any", .str "grid 1 0", .bl true])) := same_put nM
  have sp : SeqAt.shaped (.list [.str "grid 5 1; apart a 3; apart b 7; on b; at a", .str "any", .str "at any", .str "grid 1 0", .bool true]) = true := by decide +kernel
  have dp : ∀ {G : Hp} {l : Addr}, G l = some (.lst [.str "grid 5 1; apart a 3; apart b 7; on b; at a", .str "any", .str "at any", .str "grid 1 0", .bl true]) → Dp K G (.ref l) (.list [.str "grid 5 1; apart a 3; apart b 7; on b; at a", .str "any", .str "at any", .str "grid 1 0", .bool true]) := fun e => .lst (SqL.of e) (.cons (.str _) (.cons (.str _) (.cons (.str _) (.cons (.str _) (.cons (.bl _) .nil)))))
  refine ⟨_, _, dp (sM _ _ eE), dp upd_same, sp, sp, ?_⟩
  rw [SeqAt.eqv_refl _ (SeqAt.canLay_of_shaped sp)]
  exact q _ (mE.trans sM)
end
end
end K13


namespace Tr4
open PySem PySem.Spec PyProof.Rows L2 LamX Gd Rng Bag
def spLawT (K : PySem.W.Frag) (T : List (Addr × Str)) : Sp := fun vs H Q _ => ∃ (a : Addr) (ns : List Int), vs = [.ref a] ∧ SqL K H a (ns.map V.int) ∧ ns.length ≤ 63 ∧ Tabs T H ∧ ∀ H', Q (.bl true) H'
end Tr4


namespace K13
open PySem PySem.Spec PyProof.Rows L2 Rng Bag Gd LamX Tr4 Own1
section
variable {P : Program} {w : World} {K : PySem.W.Frag} {mg : Str → Option Value} {base : Heap}
abbrev sLaw : Stmt := top 62
theorem scLaw : FnScope ["_law_script", "_law_k", "_law_source_here", "_law_turn"] ["_law_script"] (defScope sLaw) := ⟨rfl, rfl, rfl, by decide +kernel, rfl, by decide +kernel, by decide +kernel⟩
section
variable {f fR fN fS fH : Addr} {T : List (Addr × Str)} {fd dR dN dS dH : FuncData}
theorem ok_law (F : Fun K "law" "law" sLaw f fd) (TK : Kt mg) (TR : Bt mg) (nMax : mg "max" = none) (nMin : mg "min" = none)
    (FR : Fun K "_law_right" "_law_right" sRight fR dR) (bR : Binds K dR ["_law_source_here"] []) (mR : mg "_law_right" = some (.ref fR)) (GR : FnG P w K mg base 10 fR dR ["_law_source_here"] (spRightT T))
    (FH : Fun K "_law_by_hand" "_law_by_hand" sHand fH dH) (bH : Binds K dH [] []) (mH : mg "_law_by_hand" = some (.ref fH)) (GH : FnOk P w K mg base CX0 7 fH dH [] spHand)
    (FN : Fun K "_law_number" "_law_number" sNumber fN dN) (bN : Binds K dN ["_law_script", "_law_k"] []) (mN : mg "_law_number" = some (.ref fN)) (FS : Fun K "_law_source" "_law_source" sSource fS dS) (bS : Binds K dS ["_law_cell"] []) (mS : mg "_law_source" = some (.ref fS)) : FnG P w K mg base 11 f fd ["_law_script"] (spLawT K T) := by
  have GN : FnOk P w K mg base CX0 1 fN dN ["_law_script", "_law_k"] (spNumber K) := ok_number FN TR
  have GS : FnOk P w K mg base CX0 1 fS dS ["_law_cell"] spSource := ok_source FS TR
  refine F.okG scLaw (fun vs H Q E h => ?_) (fun cdv A outer s H vs Q E gq hr h => ?_)
  · obtain ⟨a, ns, rfl, _⟩ := h
    rfl
  · obtain ⟨a, ns, rfl, hS, hl, tb, q⟩ := h
    have hr1 : Room 1 _ := hr.mono (by decide)
    have hr7 : Room 7 _ := hr.mono (by decide)
    refine ⟨_, pss_cons (ps_for PassesOwn.never rfl (pi_range1 rfl TR.nRange (pa_cons (pe_callB (call_max2 rfl) (by rfl) nMax (by decide +kernel) (pa_cons pe_int (pa_cons (pe_callB (call_min2 rfl) (by rfl) nMin (by decide +kernel) (pa_cons (pe_callB call_len_seq (by rfl) TK.nLen PySem.boot_len (pa_cons (pv 0) pa_nil)) (pa_cons pe_int pa_nil))) pa_nil))) pa_nil)) (pg_name (i := 1) scLaw.nd rfl (Or.inl rfl))
        (pss_cons (ps_set (i := 2) scLaw.nd rfl (Or.inr rfl) (pe_call GS hr1 rfl mS FS.kp bS .nil pass0 (pa_cons (pe_call GN hr1 rfl mN FN.kp bN .nil pass0 (pa_cons (pv 0) (pa_cons (pv 1) pa_nil))) pa_nil)))
        (pss_one (ps_if (pt_not (pt_val (pe_callB (cr_all rfl) (by rfl) TK.nAll (by decide +kernel) (pa_cons
            (pe_lc (own := [("_law_turn", 3)]) (g := gName 3) (tt := tYes) rfl scLaw.nd (pi_range1 rfl TR.nRange (pa_cons pe_int pa_nil)) (blkOk_by (own := [("_law_turn", 3)]) (N := ["_law_script", "_law_k", "_law_source_here", "_law_turn"]) (sc := defScope sLaw) (by decide +kernel)) (fun _ _ _ _ _ => pg_name (i := 3) scLaw.nd rfl (Or.inl rfl)) (fun _ _ _ _ _ => pts_nil)
              (fun _ _ _ _ _ => pe_callG (E := E0) GR gq hr rfl mR FR.kp bR .nil (pa_cons (pv 2) pa_nil))) pa_nil)))) (pss_one (ps_ret pe_bl)) pss_nil))))
      (pss_one (ps_ret (pe_callG0 (E := E0) GH.toG gq hr7 rfl mH FH.kp bH .nil))), ?_⟩
    refine ⟨_, rfl, a, _, rfl, .inl hS, _, _, rfl, _, _, rfl, ?_⟩
    obtain ⟨N0, eN, N1, N4⟩ : ∃ N0 : Int, (if (if (4 : Int) < ((ns.map V.int).length : Int) then (4 : Int) else ((ns.map V.int).length : Int)) > 2 then (if (4 : Int) < ((ns.map V.int).length : Int) then (4 : Int) else ((ns.map V.int).length : Int)) else 2) = N0 ∧ 0 ≤ N0 ∧ N0 ≤ 4 := by
      refine ⟨_, rfl, ?_, ?_⟩
      · split
        · omega
        · omega
      · split
        · split <;> omega
        · omega
    rw [eN]
    refine ⟨N0, rfl, by omega, by omega, for_it (walk_range (lo := 0) (n := N0.toNat)) (fun i σ H' => ∃ (x1 x2 : Option V), σ = [some (.ref a), x1, x2, none] ∧ SqL K H' a (ns.map V.int) ∧ Tabs T H') ⟨_, _, rfl, hS, tb⟩ (fun _ _ _ _ _ => trivial) ?_ ?_⟩
    · rintro i x σ Hx H6 hi ⟨x1, x2, rfl, hS6, tb6⟩ ⟨rfl, rfl⟩
      refine ⟨_, rfl, _, rfl, a, ns, 0 + (i : Int), rfl, hS6, hl, by omega, by omega, fun z H7 s7 => ⟨z, rfl, fun p H8 s8 np S8 => ?_⟩⟩
      have hS7 := s7.seq hS6
      have hS8 := s8.seq hS7
      have tb8 := (tb6.same s7).same s8
      refine ⟨3, rfl, by decide, by decide, fun D nD => lc_it (walk_range (lo := 0) (n := 3)) (fun j H' => ButN p H8 H' ∧ Src H' p (0 + 600 * j) ∧ Tabs T H' ∧ H' D = some (.lst ((List.replicate j true).map V.bl))) ⟨(same_put nD).n p, S8.same (same_put nD), tb8.same (same_put nD), upd_same⟩ (fun _ _ _ _ => trivial) ?_ ?_⟩
      · rintro j y Ha Hb hj ⟨B1, S1, T1, e1⟩ ⟨rfl, rfl⟩
        have nDp : D ≠ p := S8.ne nD
        refine ⟨rfl, _, rfl, p, _, rfl, S1, by omega, T1, fun H9 B9 S9 T9 => ⟨_, B9 _ _ nDp e1 (fun _ z => nomatch z), ?_, ?_, ?_, ?_, ?_⟩⟩
        · rw [List.length_map, List.length_replicate]
          exact small1000 (by omega)
        · intro c u nc e k
          rw [upd_ne (ne_of_none e nD)]
          exact B9 c u nc (B1 c u nc e k) k
        · obtain ⟨A0, B0, t0, e0, r⟩ := S9.mono (c := 0 + 600 * (j + 1)) (by omega)
          exact ⟨A0, B0, t0, by rw [upd_ne nDp.symm]; exact e0, r⟩
        · have e9 := B9 _ _ nDp e1 (fun _ z => nomatch z)
          exact T9.but But.put fun u e => by rw [e9] at e; exact ⟨_, (Option.some.inj e).symm⟩
        · rw [upd_same, List.replicate_succ', List.map_append]
          rfl
      · rintro H9 ⟨B9, S9, T9, e9⟩
        refine ⟨D, _, rfl, SqL.of e9, true, rfl, ?_⟩
        show if (!true) = true then _ else _
        refine iteF ⟨_, _, rfl, ?_, T9⟩
        rcases hS7 with (h | ⟨o, h⟩) | h
        · exact .inl (.inl (B9 _ _ (fun z => by rw [z, np] at h; cases h) (s8 _ _ h) fun _ z => (nomatch z)))
        · exact .inl (.inr ⟨o, B9 _ _ (fun z => by rw [z, np] at h; cases h) (s8 _ _ h) fun _ z => (nomatch z)⟩)
        · exact .inr h
    · rintro σ H6 ⟨x1, x2, rfl, hS6, tb6⟩
      exact ⟨rfl, fun H' _ => q H'⟩
end
end
end K13


/-! the end of a law whose defs make lambdas: their tables are empty ahead, grown behind -/
namespace Tr4
open PySem PySem.Spec PyProof.Rows L2 LamX Gd
/-- what stands ahead of the law's call: the script at a, the tables of ts -/
structure Ahead (K : PySem.W.Frag) (h : Heap) (a : Addr) (us : List Value) (ts : List (Addr × Addr)) : Prop where
  script : h.get? a = some { cls := .type "list", data := .seq us.toArray }
  empty : ∀ t ∈ ts, h.get? t.2 = some { cls := .none, data := .fields #[] }
  free : ∀ t ∈ ts, K.lookup t.2 = none
  code : ∀ t ∈ ts, PySem.W.CodeHd h t.1 t.2
section
variable {P : Program} {w : World} {K : PySem.W.Frag} {mg mb : Str → Option Value} {k : Nat} {fa a : Addr} {fd : FuncData} {x : Str} {sp : Sp} {s : Shared} {us : List Value} {ns : List Int} {ts : List (Addr × Addr)}
theorem Ahead.off (D : Ahead K s.heap a us ts) {b : Addr} (hb : b ∈ ts.map (·.2)) : s.heap.get? b = some { cls := .none, data := .fields #[] } ∧ K.lookup b = none ∧ ∃ c, PySem.W.CodeHd s.heap c b := by
  obtain ⟨t, ht, rfl⟩ := List.mem_map.mp hb
  exact ⟨D.empty t ht, D.free t ht, t.1, D.code t ht⟩
theorem Ahead.ne (D : Ahead K s.heap a us ts) : a ∉ ts.map (·.2) := fun m => by
  have e := (D.off m).1
  rw [D.script] at e
  have z : Data.seq us.toArray _ = Data.fields #[] := congrArg Obj.data (Option.some.inj e)
  cases z
/-- tracked: the script (locked) unless it is written, the tables -/
theorem call_tabs (KX : K.In s.heap) (hg : s.heap.Ns mainGlobals mg) (hb : s.heap.Ns builtinsNs mb) (hbb : ∀ x : Str, x ≠ "__name__" → mb x = bootBuiltins x) (hlim : s.heap.NoLimit) (g0 : s.gens = #[]) (D : Ahead K s.heap a us ts)
    (main : ∃ (bm : Addr) (o : Obj), mg "__builtins__" = some (.ref bm) ∧ bm ≠ builtinsNs ∧ s.heap.get? bm = some o ∧ o.cls = .type "module" ∧ o.dict = some builtinsNs ∧ o.data = .plain)
    (hi : IntsAre us ns) (hl : ns.length ≤ sizeLine) (hr : Room k callerA) (F : ∀ base : Heap, K.In base → base.Ns mainGlobals mg → (∀ t ∈ ts, TabB base mg t.1 t.2) → FnG P w K mg base k fa fd [x] sp) (bind : ∀ (s : Shared) (u : Value), BindsTo s fd ⟨[u], []⟩ [(x, u)])
    (hsp : ∀ H : Hp, (∀ t ∈ ts, H t.2 = some (.tbl #[])) → SqL K H a (ns.map V.int) → sp [.ref a] H (fun v _ => v = .bl true) fun _ _ _ => False) :
    codeAny (model P w) callerA (.call (.ref fa) ⟨[.ref a], []⟩) (fun r z => r = .ok (.ret (.bool true)) ∧ OldK s.heap z.heap ∧ z.os = s.os ∧ AllBare z.gens) s := by
  have rv := vals_ints hi
  have ha := D.script
  have run : ∀ H : Hp, (∀ b u, H b = some u → (b = a ∧ ∃ o xs, u = .frz o (.lst xs)) ∨ (b ∈ ts.map (·.2) ∧ u = .tbl #[])) → (∀ t ∈ ts, H t.2 = some (.tbl #[])) → (H a ≠ none → K.lookup a = none) → SqL K H a (ns.map V.int) → HOk P w H s.heap →
      codeAny (model P w) callerA (.call (.ref fa) ⟨[.ref a], []⟩) (fun r z => r = .ok (.ret (.bool true)) ∧ OldK s.heap z.heap ∧ z.os = s.os ∧ AllBare z.gens) s := by
    intro H only tabs hK hS hok
    have keep : ∀ {b : Addr} {o : Obj}, s.heap.get? b = some o → H b = none → (hidT s.heap H).get? b = some o := fun e n => hidT_get e n
    have off : ∀ {b : Addr} {o : Obj}, s.heap.get? b = some o → (∀ vs n, o.data ≠ .seq vs n) → o.data ≠ .fields #[] → H b = none := fun {b o} e n1 n2 => by
      cases q : H b with
      | none => rfl
      | some u =>
        rcases only b u q with ⟨rfl, _⟩ | ⟨m, _⟩
        · rw [ha] at e
          cases e
          exact (n1 _ _ rfl).elim
        · rw [(D.off m).1] at e
          cases e
          exact (n2 rfl).elim
    have dicts : ∀ {b : Addr} {m : Str → Option Value}, s.heap.Ns b m → (hidT s.heap H).Ns b m := fun {b m} ⟨o, es, ep, e, d, r⟩ => ⟨o, es, ep, keep e (off e (fun _ _ z => by rw [d] at z; cases z) fun z => by rw [d] at z; cases z), d, r⟩
    have KB : K.In (hidT s.heap H) := fun b o e => keep (KX b o e) (by
      cases q : H b with
      | none => rfl
      | some u =>
        rcases only b u q with ⟨rfl, _⟩ | ⟨m, _⟩
        · rw [hK (by rw [q]; exact fun z => nomatch z)] at e
          cases e
        · rw [(D.off m).2.1] at e
          cases e)
    have M : L2.Mod K mg (hidT s.heap H) := ⟨KB, dicts hg, ⟨mb, dicts hb, hbb⟩, let ⟨mc, h1, h2⟩ := hlim; ⟨mc, dicts h1, h2⟩⟩
    have TB : ∀ t ∈ ts, TabB (hidT s.heap H) mg t.1 t.2 := fun t ht => by
      refine ⟨?_, ?_, fun z => ?_⟩
      · obtain ⟨o, vs, file, tf, flags, tg, inF, text, tt, e, r⟩ := D.code t ht
        obtain ⟨r1, r2, r3, r4⟩ := r
        refine ⟨o, vs, file, tf, flags, tg, inF, text, tt, keep e (off e (fun _ _ z => by rw [r2] at z; cases z) fun z => ?_), r1, r2, r3, r4⟩
        rw [r2] at z
        cases z
        simp at r3
      · obtain ⟨bm, o, b1, b2, b3, b4, b5, b6⟩ := main
        have n1 : bm ≠ mainGlobals := fun z => by
          obtain ⟨o', _, _, e, d, _⟩ := hg
          rw [z, e] at b3
          cases b3
          rw [d] at b6
          cases b6
        have n2 : bm ≠ t.2 := fun z => by
          rw [z, D.empty t ht] at b3
          cases b3
          cases b6
        exact ⟨bm, o, b1, b2, n1, n2, keep b3 (off b3 (fun _ _ z => by rw [b6] at z; cases z) fun z => by rw [b6] at z; cases z), b4, b5, b6⟩
      · obtain ⟨o, _, _, e, d, _⟩ := hg
        rw [z, D.empty t ht] at e
        cases e
        cases d
    have e0 : Env0 P w K mg (hidT s.heap H) callerA [] s H := ⟨rfl, M, fun b o e => of_hidT e, Nat.le_of_eq (hidT_size _ _), trivial, fun b hb => (List.not_mem_nil hb).elim, hok, .of_eq g0⟩
    refine codeAny_mono ((F _ KB (dicts hg) TB).run callerA [] s H ⟨[.ref a], []⟩ [.ref a] [.ref a] _ _ rfl hr e0 (bind s (.ref a)) (.cons rfl .nil) (hsp H tabs hS)) fun r z hz => ?_
    cases r with
    | error e => exact False.elim hz
    | ok fl =>
      cases fl with
      | next => exact False.elim hz
      | brk => exact False.elim hz
      | cont => exact False.elim hz
      | ret u =>
        obtain ⟨v, H', os, bare, un, hok', ru, q⟩ := hz
        obtain rfl : v = .bl true := q
        obtain rfl : u = Value.bool true := ru
        have same : ∀ b o, b ∉ ts.map (·.2) → s.heap.get? b = some o → z.heap.get? b = some o := fun b o nb e => by
          cases q : H b with
          | none => exact un.keep b o e q (fun m => List.not_mem_nil m) (by simp)
          | some u =>
            rcases only b u q with ⟨_, ob, xs, rfl⟩ | ⟨m, _⟩
            · have e1 := (hok b _ q).1
              have e2 := (hok' b _ (un.frzs b ob _ q)).1
              rw [e] at e1
              cases e1
              exact e2
            · exact absurd m nb
        have grown : ∀ t ∈ ts, ∃ more : Array Value, z.heap.get? t.2 = some { cls := .none, data := .fields more } := fun t ht => by
          obtain ⟨more, m⟩ := un.tbls t.2 #[] (tabs t ht)
          exact ⟨_, hok' t.2 _ m⟩
        refine ⟨rfl, ⟨fun b o e => ?_, fun b o e => ?_⟩, os, bare⟩
        · by_cases m : b ∈ ts.map (·.2)
          · obtain ⟨t, ht, rfl⟩ := List.mem_map.mp m
            obtain ⟨more, hm⟩ := grown t ht
            rw [D.empty t ht] at e
            cases e
            exact .inr (.inl ⟨((D.code t ht).tab (D.empty t ht)).isCodeTable, rfl, #[], more, rfl, by rw [Array.empty_append]; exact hm⟩)
          · exact .inl (same b o m e)
        · by_cases m : b ∈ ts.map (·.2)
          · obtain ⟨t, ht, rfl⟩ := List.mem_map.mp m
            obtain ⟨more, hm⟩ := grown t ht
            exact ⟨_, hm⟩
          · exact ⟨o, same b o m e⟩
  have ln : (ns.map V.int).length ≤ sizeLine := by rw [List.length_map]; exact hl
  have inT : ∀ t ∈ ts, t.2 ∈ ts.map (·.2) := fun t ht => List.mem_map.mpr ⟨t, ht, rfl⟩
  -- only the tables
  let T0 : Hp := fun b => if b ∈ ts.map (·.2) then some (.tbl #[]) else none
  have t0 : ∀ b u, T0 b = some u → b ∈ ts.map (·.2) ∧ u = .tbl #[] := fun b u e => by
    by_cases m : b ∈ ts.map (·.2)
    · have z := (if_pos m).symm.trans e
      cases z
      exact ⟨m, rfl⟩
    · have z := (if_neg m).symm.trans e
      cases z
  have t1 : ∀ t ∈ ts, T0 t.2 = some (.tbl #[]) := fun t ht => if_pos (inT t ht)
  have t2 : T0 a = none := if_neg D.ne
  cases hk : K.lookup a with
  | some o =>
    have e := KX a o hk
    rw [ha] at e
    cases e
    refine run T0 (fun b u z => .inr (t0 b u z)) t1 (fun z => absurd t2 z) (.inr ⟨_, us.toArray, _, hk, rfl, rfl, rfl, by rw [List.size_toArray, hi.length]; exact hl, by simpa using rv⟩) fun b u z => ?_
    obtain ⟨m, rfl⟩ := t0 b u z
    exact (D.off m).1
  | none =>
    have at_ : ∀ b, b ≠ a → upd T0 a (.frz { cls := .type "list", data := .seq us.toArray } (.lst (ns.map V.int))) b = T0 b := fun b n => upd_ne n
    refine run (upd T0 a (.frz { cls := .type "list", data := .seq us.toArray } (.lst (ns.map V.int)))) (fun b u z => ?_) (fun t ht => ?_) (fun _ => hk) (.inl (.inr ⟨_, upd_same⟩)) fun b u z => ?_
    · by_cases c : b = a
      · rw [c, upd_same] at z
        cases z
        exact .inl ⟨c, _, _, rfl⟩
      · rw [at_ b c] at z
        exact .inr (t0 b u z)
    · rw [at_ _ fun z => D.ne (z ▸ inT t ht)]
      exact t1 t ht
    · by_cases c : b = a
      · rw [c, upd_same] at z
        cases z
        rw [c]
        exact ⟨ha, ln, us, _, rv, ha⟩
      · rw [at_ b c] at z
        obtain ⟨m, rfl⟩ := t0 b u z
        exact (D.off m).1
end
/-- what the law's text says at the head's heap h -/
structure LawG (l : PySem.W.OpenLaw) (w : World) (K : PySem.W.Frag) (k n : Nat) (x : Str) (mg : Str → Option Value) (fa : Addr) (q : Program) (sp : Sp) (fd : FuncData) (ts : List (Addr × Addr)) : Prop where
  tab : ∀ t ∈ ts, ∃ (y : Str) (d : DefRec), (recsOf q).find? (fun e => e.name == y) = some d ∧ PySem.W.tabIn K y = some t
  free : ∀ t ∈ ts, K.lookup t.2 = none
  bind : ∀ (s : Shared) (u : Value), BindsTo s fd ⟨[u], []⟩ [(x, u)]
  ask : ∀ (H : Hp) (a : Addr) (ns : List Int), ns.length ≤ n → (∀ t ∈ ts, H t.2 = some (.tbl #[])) → SqL K H a (ns.map V.int) → sp [.ref a] H (fun v _ => v = .bl true) fun _ _ _ => False
  run : ∀ base : Heap, K.In base → base.Ns mainGlobals mg → (∀ t ∈ ts, TabB base mg t.1 t.2) → FnG l.prog w K mg base k fa fd [x] sp
/-- the case hc of k_head -/
theorem walk_tabs {l : PySem.W.OpenLaw} {n k : Nat} {q : Program} {loose : List Str} {XP : (Str → Option Value) → Heap → Prop} {YP : World → Heap → Prop} {d : DefRec} {K : Params → PySem.W.Frag} {x : Str} (hn : l.most = some n) (hn2 : n ≤ sizeLine) (hdf : d.params.defaults = []) (hr : Room k callerA)
    (hY : ∀ (w : World) (h : Heap), YP w h → (K w.params).In h) (F : ∀ (w : World) (mg : Str → Option Value) (fa : Addr) (h : Heap), (K w.params).In h → h.Ns mainGlobals mg → mg d.name = some (.ref fa) → ∃ sp fd ts, LawG l w (K w.params) k n x mg fa q sp fd ts) :
    PySem.W.WalkO q loose XP YP l.row.toRowW d [] (fun f vs => PySem.call f vs) := by
  refine Att.attach_call hn hdf fun w s₀ s₁ mg mb fa o pm cd doc a vs ns G Y ho hd hcd hmg hobj hints hlen hg => ?_
  have KX := hY w _ Y
  obtain ⟨sp, fd, ts, L⟩ := F w mg fa _ KX G.T.g hmg
  have D : Ahead (K w.params) s₁.heap a vs ts := {
    script := hobj
    empty := fun t ht => by
      obtain ⟨y, d, hd, e⟩ := L.tab t ht
      exact (PySem.W.tab_of G.T KX hd e).2
    free := L.free
    code := fun t ht => by
      obtain ⟨y, d, hd, e⟩ := L.tab t ht
      exact (PySem.W.tab_of G.T KX hd e).1 }
  exact call_tabs KX G.T.g G.T.b G.T.builtins G.T.nolimit hg D G.T.bmain hints (Nat.le_trans hlen hn2) hr L.run L.bind fun H tabs hS => L.ask H a ns hlen tabs hS
end Tr4


namespace Tr4
open PySem PySem.Spec PyProof.Rows L2 LamX Gd
def bm (t : String) : List Value := [.type t, .type "Exception", .type "BaseException", .type "object"]
def LkX (K : PySem.W.Frag) (C B : Addr) (t n : String) : Prop := ∃ nm q N bs sn sub ab col dd k0 k1 k2 k3 k5, K.lookup C = some (excClassObj nm q C N bs (.ref B :: bm t) true sn sub ab col dd k0 k1 k2 k3 k5 n)
theorem lkx_mk {K : PySem.W.Frag} {C B : Addr} {t n : String} {nm q : Str} {N : Addr} {bs : List Value} {sn : List Str} {sub : List Value} {ab : Bool} {col : Option Bool} {dd : Option Addr} {k0 k1 k2 k3 k5 : Option Value} (h : K.lookup C = some (excClassObj nm q C N bs (.ref B :: bm t) true sn sub ab col dd k0 k1 k2 k3 k5 n)) : LkX K C B t n := ⟨nm, q, N, bs, sn, sub, ab, col, dd, k0, k1, k2, k3, k5, h⟩
theorem fn_value_mk {K : PySem.W.Frag} {fI : Addr} {qn : Str} {oc : Value} {od : Option Addr} {doc pm : Value} {an : Option Addr} {cdv ct : Value} {osl : Array (Option Value)} {p1 p2 q1 q2 q3 q4 : Pos} (l : K.lookup fI = some ⟨oc, od, .func (PySem.W.fnOf "__init__" qn (PySem.XV.iA_value p1 p2) (PySem.XV.iB_value q1 q2 q3 q4) PySem.XV.iS_value .none .none doc pm an cdv ct), osl⟩) (c : PySem.W.codeIn K cdv qn = true) : PySem.XV.Fn_value K fI qn := ⟨oc, od, doc, pm, an, cdv, ct, osl, p1, p2, q1, q2, q3, q4, l, c⟩
theorem fn_index_mk {K : PySem.W.Frag} {fI : Addr} {qn : Str} {oc : Value} {od : Option Addr} {doc pm : Value} {an : Option Addr} {cdv ct : Value} {osl : Array (Option Value)} {p1 p2 q1 q2 q3 q4 : Pos} (l : K.lookup fI = some ⟨oc, od, .func (PySem.W.fnOf "__init__" qn (PySem.XV.iA_index p1 p2) (PySem.XV.iB_index q1 q2 q3 q4) PySem.XV.iS_index .none .none doc pm an cdv ct), osl⟩) (c : PySem.W.codeIn K cdv qn = true) : PySem.XV.Fn_index K fI qn := ⟨oc, od, doc, pm, an, cdv, ct, osl, p1, p2, q1, q2, q3, q4, l, c⟩
theorem fn_limit_mk {K : PySem.W.Frag} {fI : Addr} {qn : Str} {oc : Value} {od : Option Addr} {doc pm : Value} {an : Option Addr} {cdv ct : Value} {osl : Array (Option Value)} {p1 p2 q1 q2 q3 q4 : Pos} (l : K.lookup fI = some ⟨oc, od, .func (PySem.W.fnOf "__init__" qn (PySem.XV.iA_limit p1 p2) (PySem.XV.iB_limit q1 q2 q3 q4) PySem.XV.iS_limit .none .none doc pm an cdv ct), osl⟩) (c : PySem.W.codeIn K cdv qn = true) : PySem.XV.Fn_limit K fI qn := ⟨oc, od, doc, pm, an, cdv, ct, osl, p1, p2, q1, q2, q3, q4, l, c⟩
theorem lk_cls {K : PySem.W.Frag} {C B : Addr} {t n : String} (h : LkX K C B t n) : (∃ cd, PySem.W.clsIn K C = some cd ∧ cd.mro = .ref C :: .ref B :: bm t) ∧ PySem.W.typeIn K (.ref C) = some (.type "type") := by
  obtain ⟨nm, q, N, bs, sn, sub, ab, col, dd, k0, k1, k2, k3, k5, e⟩ := h
  refine ⟨⟨_, by unfold PySem.W.clsIn; rw [e] <;> rfl, rfl⟩, ?_⟩
  show (K.lookup C).map (·.cls) = some (.type "type")
  rw [e] <;> rfl
theorem lk_ok {K : PySem.W.Frag} {C B : Addr} {t n : String} (h : LkX K C B t n) : ((PySem.W.clsIn K C).isSome && PySem.W.typeIn K (.ref C) == some (.type "type")) = true := by
  obtain ⟨⟨cd, e, _⟩, e2⟩ := lk_cls h
  rw [e, e2] <;> rfl
theorem ref_beq (a b : Addr) : ((Value.ref a) == (Value.ref b)) = decide (b = a) := by
  by_cases h : b = a
  · subst h
    simp
  · rw [decide_eq_false h]
    exact beq_eq_false_iff_ne.mpr fun q => h (Value.ref.inj q).symm
theorem bm_ref (t : String) (D : Addr) : (bm t).contains (.ref D) = false := by
  unfold bm
  rfl
theorem kit_ref {K : PySem.W.Frag} {C B D : Addr} {t n : String} (h : LkX K C B t n) (ok : ((PySem.W.clsIn K D).isSome && PySem.W.typeIn K (.ref D) == some (.type "type")) = true) : PySem.W.kitOne K (.ref C) (.ref D) = some (decide (D = C) || decide (D = B)) := by
  obtain ⟨⟨cd, e, em⟩, _⟩ := lk_cls h
  unfold PySem.W.kitOne
  rw [ref_beq]
  by_cases hD : D = C
  · rw [if_pos (decide_eq_true hD), decide_eq_true hD, Bool.true_or]
  · rw [if_neg (by rw [decide_eq_false hD]; exact Bool.false_ne_true)]
    show (if ((PySem.W.clsIn K D).isSome && PySem.W.typeIn K (.ref D) == some (.type "type")) = true then PySem.W.subIn K (.ref C) (.ref D) else none) = _
    rw [if_pos ok]
    show PySem.W.mroIn K C (.ref D) = _
    unfold PySem.W.mroIn
    rw [e, Option.bind_some, em]
    show some ((Value.ref C :: Value.ref B :: bm t).contains (.ref D)) = _
    rw [List.contains_cons, List.contains_cons, bm_ref, Bool.or_false, ref_beq, ref_beq, decide_eq_false hD]
    have e1 : decide (C = D) = false := decide_eq_false fun q => hD q.symm
    have e2 : decide (B = D) = decide (D = B) := by
      by_cases q : B = D
      · rw [decide_eq_true q, decide_eq_true q.symm]
      · rw [decide_eq_false q, decide_eq_false fun z => q z.symm]
    rw [e1, e2]
theorem kit_typ {K : PySem.W.Frag} {C B : Addr} {t n u : String} (h : LkX K C B t n) (hm : PySem.W.kitMeta u = true) : PySem.W.kitOne K (.ref C) (.type u) = some ((bm t).contains (.type u)) := by
  obtain ⟨⟨cd, e, em⟩, _⟩ := lk_cls h
  unfold PySem.W.kitOne
  have e0 : (Value.ref C == Value.type u) = false := beq_eq_false_iff_ne.mpr fun q => nomatch q
  rw [e0, if_neg Bool.false_ne_true]
  show (if PySem.W.kitMeta u = true then PySem.W.subIn K (.ref C) (.type u) else none) = _
  rw [if_pos hm]
  show PySem.W.mroIn K C (.type u) = _
  unfold PySem.W.mroIn
  rw [e, Option.bind_some, em]
  show some ((Value.ref C :: Value.ref B :: bm t).contains (.type u)) = _
  rw [List.contains_cons, List.contains_cons]
  have z1 : (Value.type u == Value.ref C) = false := beq_eq_false_iff_ne.mpr fun q => nomatch q
  have z2 : (Value.type u == Value.ref B) = false := beq_eq_false_iff_ne.mpr fun q => nomatch q
  rw [z1, z2, Bool.false_or, Bool.false_or]
theorem ctn_bm : ∀ b, b < 4 → ∀ j, j < 4 → (bm (ctn b)).contains (.type (ctn j)) = decide (b = j) := by decide +kernel
theorem ctn_meta : ∀ j, j < 4 → PySem.W.kitMeta (ctn j) = true := by decide +kernel
theorem cb_lt : ∀ i, i < 18 → cb i < 4 := by decide
theorem getD_inj : ∀ {l : List Addr} {i j : Nat}, l.Nodup → i < l.length → j < l.length → l.getD i 0 = l.getD j 0 → i = j := by
  intro l i j nd hi hj e
  rw [List.getD_eq_getElem?_getD, List.getD_eq_getElem?_getD, List.getElem?_eq_getElem hi, List.getElem?_eq_getElem hj] at e
  have e' : l[i] = l[j] := Option.some.inj (by simpa using congrArg some e)
  have pw := List.pairwise_iff_getElem.mp nd
  rcases Nat.lt_trichotomy i j with h | h | h
  · exact absurd e' (pw i j hi hj h)
  · exact h
  · exact absurd e'.symm (pw j i hj hi h)

theorem exm_ref {K : PySem.W.Frag} {C B D : Addr} {t n : String} (h : LkX K C B t n) (ok : ((PySem.W.clsIn K D).isSome && PySem.W.typeIn K (.ref D) == some (.type "type")) = true) (sb : PySem.W.subIn K (.ref D) (.type "BaseException") = some true) (ne : D ≠ C) : PySem.W.exmOne K (.ref C) (.ref D) = some (decide (D = B)) := by
  have z := kit_ref h ok
  rw [decide_eq_false ne, Bool.false_or] at z
  unfold PySem.W.exmOne
  rw [sb, if_pos (by rfl)]
  unfold PySem.W.kitOne at z
  rw [ref_beq, decide_eq_false ne, if_neg Bool.false_ne_true] at z
  exact z
theorem exm_or {K : PySem.W.Frag} {c : Value} {a b d e : Value} {x1 x2 x3 x4 : Bool} (h1 : PySem.W.exmOne K c a = some x1) (h2 : PySem.W.exmOne K c b = some x2) (h3 : PySem.W.exmOne K c d = some x3) (h4 : PySem.W.exmOne K c e = some x4) : PySem.W.exmAny K c [a, b, d, e] = some (x1 || (x2 || (x3 || (x4 || false)))) := by
  simp only [PySem.W.exmAny, h1, h2, h3, h4]
theorem kit_tyc {K : PySem.W.Frag} {C : Addr} {u : String} (hm : PySem.W.kitMeta u = true) (h : PySem.W.subIn K (.ref C) (.type u) = some false) : PySem.W.kitOne K (.ref C) (.type u) = some false := by
  unfold PySem.W.kitOne
  have e0 : (Value.ref C == Value.type u) = false := beq_eq_false_iff_ne.mpr fun q => nomatch q
  rw [e0, if_neg Bool.false_ne_true]
  show (if PySem.W.kitMeta u = true then PySem.W.subIn K (.ref C) (.type u) else none) = _
  rw [if_pos hm, h]
def FunY (K : PySem.W.Frag) (x q : Str) (st : Stmt) (f : Addr) : Prop := ∃ (oc kV dc pm cd ct : Value) (od an : Option Addr) (sl : Array (Option Value)), K.lookup f = some ⟨oc, od, .func (PySem.W.fnOf x q (defArgs st) (defBody st) (defScope st) .none kV dc pm an cd ct), sl⟩ ∧ PySem.W.codeIn K cd q = true
theorem funy_mk {K : PySem.W.Frag} {x q : Str} {st : Stmt} {f : Addr} {oc kV dc pm cd ct : Value} {od an : Option Addr} {sl : Array (Option Value)} (l : K.lookup f = some ⟨oc, od, .func (PySem.W.fnOf x q (defArgs st) (defBody st) (defScope st) .none kV dc pm an cd ct), sl⟩) (c : PySem.W.codeIn K cd q = true) : FunY K x q st f := ⟨oc, kV, dc, pm, cd, ct, od, an, sl, l, c⟩
theorem FunY.fun {K : PySem.W.Frag} {x q : Str} {st : Stmt} {f : Addr} (h : FunY K x q st f) (k : PySem.W.keepIn K (.ref f) = true) : ∃ fd, Fun K x q st f fd := by
  obtain ⟨oc, kV, dc, pm, cd, ct, od, an, sl, l, c⟩ := h
  exact ⟨_, fun_mk l c k⟩
def FunYC (K : PySem.W.Frag) (x q : Str) (st : Stmt) (f c : Addr) : Prop := ∃ (oc kV dc pm ct : Value) (od an : Option Addr) (sl : Array (Option Value)), K.lookup f = some ⟨oc, od, .func (PySem.W.fnOf x q (defArgs st) (defBody st) (defScope st) .none kV dc pm an (.ref c) ct), sl⟩ ∧ PySem.W.codeIn K (.ref c) q = true
theorem funyc_mk {K : PySem.W.Frag} {x q : Str} {st : Stmt} {f c : Addr} {oc kV dc pm ct : Value} {od an : Option Addr} {sl : Array (Option Value)} (l : K.lookup f = some ⟨oc, od, .func (PySem.W.fnOf x q (defArgs st) (defBody st) (defScope st) .none kV dc pm an (.ref c) ct), sl⟩) (e : PySem.W.codeIn K (.ref c) q = true) : FunYC K x q st f c := ⟨oc, kV, dc, pm, ct, od, an, sl, l, e⟩
theorem FunYC.fun {K : PySem.W.Frag} {x q : Str} {st : Stmt} {f c : Addr} (h : FunYC K x q st f c) (k : PySem.W.keepIn K (.ref f) = true) : ∃ fd, FunC K x q st f fd c := by
  obtain ⟨oc, kV, dc, pm, ct, od, an, sl, l, e⟩ := h
  exact ⟨_, ⟨oc, od, kV, dc, pm, an, ct, sl, rfl, l⟩, e, k⟩
theorem ctxt_mk {K : PySem.W.Frag} {h : Heap} {mg : Str → Option Value} (X : K.In h) (G : h.Ns mainGlobals mg) {C0 C1 C2 C3 C4 C5 C6 C7 C8 C9 C10 C11 C12 C13 C14 C15 C16 C17 B0 B1 B2 B3 : Addr}
    (g0 : PySem.W.nsIn K mainGlobals "InvalidName" = some (some (.ref C0)))
    (g1 : PySem.W.nsIn K mainGlobals "InvalidTime" = some (some (.ref C1)))
    (g2 : PySem.W.nsIn K mainGlobals "InvalidNumber" = some (some (.ref C2)))
    (g3 : PySem.W.nsIn K mainGlobals "InvalidWithin" = some (some (.ref C3)))
    (g4 : PySem.W.nsIn K mainGlobals "InvalidStrict" = some (some (.ref C4)))
    (g5 : PySem.W.nsIn K mainGlobals "InvalidText" = some (some (.ref C5)))
    (g6 : PySem.W.nsIn K mainGlobals "InvalidGrid" = some (some (.ref C6)))
    (g7 : PySem.W.nsIn K mainGlobals "NotATime" = some (some (.ref C7)))
    (g8 : PySem.W.nsIn K mainGlobals "NotALook" = some (some (.ref C8)))
    (g9 : PySem.W.nsIn K mainGlobals "NotAReader" = some (some (.ref C9)))
    (g10 : PySem.W.nsIn K mainGlobals "NotATable" = some (some (.ref C10)))
    (g11 : PySem.W.nsIn K mainGlobals "MissingRow" = some (some (.ref C11)))
    (g12 : PySem.W.nsIn K mainGlobals "NoSuchPart" = some (some (.ref C12)))
    (g13 : PySem.W.nsIn K mainGlobals "InvalidRows" = some (some (.ref C13)))
    (g14 : PySem.W.nsIn K mainGlobals "InvalidApart" = some (some (.ref C14)))
    (g15 : PySem.W.nsIn K mainGlobals "InvalidFeeds" = some (some (.ref C15)))
    (g16 : PySem.W.nsIn K mainGlobals "TooMany" = some (some (.ref C16)))
    (g17 : PySem.W.nsIn K mainGlobals "NoGrid" = some (some (.ref C17)))
    (h0 : PySem.W.nsIn K mainGlobals "LatestError" = some (some (.ref B0)))
    (ib0 : PySem.W.isClsIn K B0 = true)
    (tb0 : PySem.W.typeIn K (.ref B0) = some (.type "type"))
    (sB0 : PySem.W.subIn K (.ref B0) (.type "BaseException") = some true)
    (h1 : PySem.W.nsIn K mainGlobals "StateError" = some (some (.ref B1)))
    (ib1 : PySem.W.isClsIn K B1 = true)
    (tb1 : PySem.W.typeIn K (.ref B1) = some (.type "type"))
    (sB1 : PySem.W.subIn K (.ref B1) (.type "BaseException") = some true)
    (h2 : PySem.W.nsIn K mainGlobals "RuleError" = some (some (.ref B2)))
    (ib2 : PySem.W.isClsIn K B2 = true)
    (tb2 : PySem.W.typeIn K (.ref B2) = some (.type "type"))
    (sB2 : PySem.W.subIn K (.ref B2) (.type "BaseException") = some true)
    (h3 : PySem.W.nsIn K mainGlobals "LimitError" = some (some (.ref B3)))
    (ib3 : PySem.W.isClsIn K B3 = true)
    (tb3 : PySem.W.typeIn K (.ref B3) = some (.type "type"))
    (sB3 : PySem.W.subIn K (.ref B3) (.type "BaseException") = some true)
    (x0 : LkX K C0 B0 "ValueError" "ValueError.__new__")
    (ga0 : PySem.W.findIn K (.ref C0) "__getattribute__" = some (some (.builtin "BaseException.__getattribute__")))
    (gt0 : PySem.W.findIn K (.ref C0) "__getattr__" = some none)
    (sb0 : PySem.W.subIn K (.ref C0) (.type "BaseException") = some true)
    (hd0 : PySem.W.hasDictIn K C0 = true)
    (hc0 : PySem.W.findIn K (.ref C0) "__class__" = some (some (.builtin "object.__class__")))
    (mo0 : PySem.W.mroIn K C0 (.type "object") = some true)
    (no0 : PySem.W.findIn K (.ref C0) "value" = some none)
    (x1 : LkX K C1 B0 "ValueError" "ValueError.__new__")
    (ga1 : PySem.W.findIn K (.ref C1) "__getattribute__" = some (some (.builtin "BaseException.__getattribute__")))
    (gt1 : PySem.W.findIn K (.ref C1) "__getattr__" = some none)
    (sb1 : PySem.W.subIn K (.ref C1) (.type "BaseException") = some true)
    (hd1 : PySem.W.hasDictIn K C1 = true)
    (hc1 : PySem.W.findIn K (.ref C1) "__class__" = some (some (.builtin "object.__class__")))
    (mo1 : PySem.W.mroIn K C1 (.type "object") = some true)
    (no1 : PySem.W.findIn K (.ref C1) "value" = some none)
    (x2 : LkX K C2 B0 "ValueError" "ValueError.__new__")
    (ga2 : PySem.W.findIn K (.ref C2) "__getattribute__" = some (some (.builtin "BaseException.__getattribute__")))
    (gt2 : PySem.W.findIn K (.ref C2) "__getattr__" = some none)
    (sb2 : PySem.W.subIn K (.ref C2) (.type "BaseException") = some true)
    (hd2 : PySem.W.hasDictIn K C2 = true)
    (hc2 : PySem.W.findIn K (.ref C2) "__class__" = some (some (.builtin "object.__class__")))
    (mo2 : PySem.W.mroIn K C2 (.type "object") = some true)
    (no2 : PySem.W.findIn K (.ref C2) "value" = some none)
    (x3 : LkX K C3 B0 "ValueError" "ValueError.__new__")
    (ga3 : PySem.W.findIn K (.ref C3) "__getattribute__" = some (some (.builtin "BaseException.__getattribute__")))
    (gt3 : PySem.W.findIn K (.ref C3) "__getattr__" = some none)
    (sb3 : PySem.W.subIn K (.ref C3) (.type "BaseException") = some true)
    (hd3 : PySem.W.hasDictIn K C3 = true)
    (hc3 : PySem.W.findIn K (.ref C3) "__class__" = some (some (.builtin "object.__class__")))
    (mo3 : PySem.W.mroIn K C3 (.type "object") = some true)
    (no3 : PySem.W.findIn K (.ref C3) "value" = some none)
    (x4 : LkX K C4 B0 "ValueError" "ValueError.__new__")
    (ga4 : PySem.W.findIn K (.ref C4) "__getattribute__" = some (some (.builtin "BaseException.__getattribute__")))
    (gt4 : PySem.W.findIn K (.ref C4) "__getattr__" = some none)
    (sb4 : PySem.W.subIn K (.ref C4) (.type "BaseException") = some true)
    (hd4 : PySem.W.hasDictIn K C4 = true)
    (hc4 : PySem.W.findIn K (.ref C4) "__class__" = some (some (.builtin "object.__class__")))
    (mo4 : PySem.W.mroIn K C4 (.type "object") = some true)
    (no4 : PySem.W.findIn K (.ref C4) "value" = some none)
    (x5 : LkX K C5 B0 "ValueError" "ValueError.__new__")
    (ga5 : PySem.W.findIn K (.ref C5) "__getattribute__" = some (some (.builtin "BaseException.__getattribute__")))
    (gt5 : PySem.W.findIn K (.ref C5) "__getattr__" = some none)
    (sb5 : PySem.W.subIn K (.ref C5) (.type "BaseException") = some true)
    (hd5 : PySem.W.hasDictIn K C5 = true)
    (hc5 : PySem.W.findIn K (.ref C5) "__class__" = some (some (.builtin "object.__class__")))
    (mo5 : PySem.W.mroIn K C5 (.type "object") = some true)
    (no5 : PySem.W.findIn K (.ref C5) "value" = some none)
    (x6 : LkX K C6 B0 "ValueError" "ValueError.__new__")
    (ga6 : PySem.W.findIn K (.ref C6) "__getattribute__" = some (some (.builtin "BaseException.__getattribute__")))
    (gt6 : PySem.W.findIn K (.ref C6) "__getattr__" = some none)
    (sb6 : PySem.W.subIn K (.ref C6) (.type "BaseException") = some true)
    (hd6 : PySem.W.hasDictIn K C6 = true)
    (hc6 : PySem.W.findIn K (.ref C6) "__class__" = some (some (.builtin "object.__class__")))
    (mo6 : PySem.W.mroIn K C6 (.type "object") = some true)
    (no6 : PySem.W.findIn K (.ref C6) "value" = some none)
    (x7 : LkX K C7 B0 "ValueError" "ValueError.__new__")
    (ga7 : PySem.W.findIn K (.ref C7) "__getattribute__" = some (some (.builtin "BaseException.__getattribute__")))
    (gt7 : PySem.W.findIn K (.ref C7) "__getattr__" = some none)
    (sb7 : PySem.W.subIn K (.ref C7) (.type "BaseException") = some true)
    (hd7 : PySem.W.hasDictIn K C7 = true)
    (hc7 : PySem.W.findIn K (.ref C7) "__class__" = some (some (.builtin "object.__class__")))
    (mo7 : PySem.W.mroIn K C7 (.type "object") = some true)
    (no7 : PySem.W.findIn K (.ref C7) "value" = some none)
    (x8 : LkX K C8 B0 "ValueError" "ValueError.__new__")
    (ga8 : PySem.W.findIn K (.ref C8) "__getattribute__" = some (some (.builtin "BaseException.__getattribute__")))
    (gt8 : PySem.W.findIn K (.ref C8) "__getattr__" = some none)
    (sb8 : PySem.W.subIn K (.ref C8) (.type "BaseException") = some true)
    (hd8 : PySem.W.hasDictIn K C8 = true)
    (hc8 : PySem.W.findIn K (.ref C8) "__class__" = some (some (.builtin "object.__class__")))
    (mo8 : PySem.W.mroIn K C8 (.type "object") = some true)
    (no8 : PySem.W.findIn K (.ref C8) "value" = some none)
    (x9 : LkX K C9 B0 "ValueError" "ValueError.__new__")
    (ga9 : PySem.W.findIn K (.ref C9) "__getattribute__" = some (some (.builtin "BaseException.__getattribute__")))
    (gt9 : PySem.W.findIn K (.ref C9) "__getattr__" = some none)
    (sb9 : PySem.W.subIn K (.ref C9) (.type "BaseException") = some true)
    (hd9 : PySem.W.hasDictIn K C9 = true)
    (hc9 : PySem.W.findIn K (.ref C9) "__class__" = some (some (.builtin "object.__class__")))
    (mo9 : PySem.W.mroIn K C9 (.type "object") = some true)
    (no9 : PySem.W.findIn K (.ref C9) "value" = some none)
    (x10 : LkX K C10 B0 "ValueError" "ValueError.__new__")
    (ga10 : PySem.W.findIn K (.ref C10) "__getattribute__" = some (some (.builtin "BaseException.__getattribute__")))
    (gt10 : PySem.W.findIn K (.ref C10) "__getattr__" = some none)
    (sb10 : PySem.W.subIn K (.ref C10) (.type "BaseException") = some true)
    (hd10 : PySem.W.hasDictIn K C10 = true)
    (hc10 : PySem.W.findIn K (.ref C10) "__class__" = some (some (.builtin "object.__class__")))
    (mo10 : PySem.W.mroIn K C10 (.type "object") = some true)
    (no10 : PySem.W.findIn K (.ref C10) "value" = some none)
    (x11 : LkX K C11 B1 "LookupError" "LookupError.__new__")
    (ga11 : PySem.W.findIn K (.ref C11) "__getattribute__" = some (some (.builtin "BaseException.__getattribute__")))
    (gt11 : PySem.W.findIn K (.ref C11) "__getattr__" = some none)
    (sb11 : PySem.W.subIn K (.ref C11) (.type "BaseException") = some true)
    (hd11 : PySem.W.hasDictIn K C11 = true)
    (hc11 : PySem.W.findIn K (.ref C11) "__class__" = some (some (.builtin "object.__class__")))
    (mo11 : PySem.W.mroIn K C11 (.type "object") = some true)
    (no11 : PySem.W.findIn K (.ref C11) "value" = some none)
    (x12 : LkX K C12 B1 "LookupError" "LookupError.__new__")
    (ga12 : PySem.W.findIn K (.ref C12) "__getattribute__" = some (some (.builtin "BaseException.__getattribute__")))
    (gt12 : PySem.W.findIn K (.ref C12) "__getattr__" = some none)
    (sb12 : PySem.W.subIn K (.ref C12) (.type "BaseException") = some true)
    (hd12 : PySem.W.hasDictIn K C12 = true)
    (hc12 : PySem.W.findIn K (.ref C12) "__class__" = some (some (.builtin "object.__class__")))
    (mo12 : PySem.W.mroIn K C12 (.type "object") = some true)
    (no12 : PySem.W.findIn K (.ref C12) "value" = some none)
    (x13 : LkX K C13 B0 "ValueError" "ValueError.__new__")
    (ga13 : PySem.W.findIn K (.ref C13) "__getattribute__" = some (some (.builtin "BaseException.__getattribute__")))
    (gt13 : PySem.W.findIn K (.ref C13) "__getattr__" = some none)
    (sb13 : PySem.W.subIn K (.ref C13) (.type "BaseException") = some true)
    (hd13 : PySem.W.hasDictIn K C13 = true)
    (hc13 : PySem.W.findIn K (.ref C13) "__class__" = some (some (.builtin "object.__class__")))
    (mo13 : PySem.W.mroIn K C13 (.type "object") = some true)
    (no13 : PySem.W.findIn K (.ref C13) "index" = some none)
    (x14 : LkX K C14 B0 "ValueError" "ValueError.__new__")
    (ga14 : PySem.W.findIn K (.ref C14) "__getattribute__" = some (some (.builtin "BaseException.__getattribute__")))
    (gt14 : PySem.W.findIn K (.ref C14) "__getattr__" = some none)
    (sb14 : PySem.W.subIn K (.ref C14) (.type "BaseException") = some true)
    (hd14 : PySem.W.hasDictIn K C14 = true)
    (hc14 : PySem.W.findIn K (.ref C14) "__class__" = some (some (.builtin "object.__class__")))
    (mo14 : PySem.W.mroIn K C14 (.type "object") = some true)
    (no14 : PySem.W.findIn K (.ref C14) "index" = some none)
    (x15 : LkX K C15 B0 "ValueError" "ValueError.__new__")
    (ga15 : PySem.W.findIn K (.ref C15) "__getattribute__" = some (some (.builtin "BaseException.__getattribute__")))
    (gt15 : PySem.W.findIn K (.ref C15) "__getattr__" = some none)
    (sb15 : PySem.W.subIn K (.ref C15) (.type "BaseException") = some true)
    (hd15 : PySem.W.hasDictIn K C15 = true)
    (hc15 : PySem.W.findIn K (.ref C15) "__class__" = some (some (.builtin "object.__class__")))
    (mo15 : PySem.W.mroIn K C15 (.type "object") = some true)
    (no15 : PySem.W.findIn K (.ref C15) "index" = some none)
    (x16 : LkX K C16 B3 "ArithmeticError" "ArithmeticError.__new__")
    (ga16 : PySem.W.findIn K (.ref C16) "__getattribute__" = some (some (.builtin "BaseException.__getattribute__")))
    (gt16 : PySem.W.findIn K (.ref C16) "__getattr__" = some none)
    (sb16 : PySem.W.subIn K (.ref C16) (.type "BaseException") = some true)
    (hd16 : PySem.W.hasDictIn K C16 = true)
    (hc16 : PySem.W.findIn K (.ref C16) "__class__" = some (some (.builtin "object.__class__")))
    (mo16 : PySem.W.mroIn K C16 (.type "object") = some true)
    (no16 : PySem.W.findIn K (.ref C16) "limit" = some none)
    (x17 : LkX K C17 B2 "RuntimeError" "RuntimeError.__new__")
    (ga17 : PySem.W.findIn K (.ref C17) "__getattribute__" = some (some (.builtin "BaseException.__getattribute__")))
    (gt17 : PySem.W.findIn K (.ref C17) "__getattr__" = some none)
    (sb17 : PySem.W.subIn K (.ref C17) (.type "BaseException") = some true)
    (hd17 : PySem.W.hasDictIn K C17 = true)
    (hc17 : PySem.W.findIn K (.ref C17) "__class__" = some (some (.builtin "object.__class__")))
    (mo17 : PySem.W.mroIn K C17 (.type "object") = some true)
    (cn : PySem.W.specialIn K (.builtin "object.__class__") "__get__" = some (some (.builtin "getset_descriptor.__get__")))
    (ct : PySem.W.takesIn K (.builtin "object.__class__") = some true)
    (z_isinstance : PySem.W.nsIn K mainGlobals "isinstance" = some none)
    (z_list : PySem.W.nsIn K mainGlobals "list" = some none)
    (z_range : PySem.W.nsIn K mainGlobals "range" = some none)
    (z_repr : PySem.W.nsIn K mainGlobals "repr" = some none)
    (z_ValueError : PySem.W.nsIn K mainGlobals "ValueError" = some none)
    (z_LookupError : PySem.W.nsIn K mainGlobals "LookupError" = some none)
    (z_RuntimeError : PySem.W.nsIn K mainGlobals "RuntimeError" = some none)
    (z_ArithmeticError : PySem.W.nsIn K mainGlobals "ArithmeticError" = some none)
    (nd : ([C0, C1, C2, C3, C4, C5, C6, C7, C8, C9, C10, C11, C12, C13, C14, C15, C16, C17, B0, B1, B2, B3] : List Addr).Nodup)
    : CTxt K mg (fun i => ([C0, C1, C2, C3, C4, C5, C6, C7, C8, C9, C10, C11, C12, C13, C14, C15, C16, C17, B0, B1, B2, B3] : List Addr).getD i 0) (fun j => ([C0, C1, C2, C3, C4, C5, C6, C7, C8, C9, C10, C11, C12, C13, C14, C15, C16, C17, B0, B1, B2, B3] : List Addr).getD (18 + j) 0) := by
  obtain ⟨As, hAs⟩ : ∃ As : List Addr, As = [C0, C1, C2, C3, C4, C5, C6, C7, C8, C9, C10, C11, C12, C13, C14, C15, C16, C17, B0, B1, B2, B3] := ⟨_, rfl⟩
  have hlen : As.length = 22 := by rw [hAs]; rfl
  rw [← hAs] at nd ⊢
  have okB : ∀ i, i < 4 → ((PySem.W.clsIn K (As.getD (18 + i) 0)).isSome && PySem.W.typeIn K (.ref (As.getD (18 + i) 0)) == some (.type "type")) = true := by
    intro i hi
    rw [hAs]
    match i, hi with
    | 0, _ => show ((PySem.W.clsIn K B0).isSome && PySem.W.typeIn K (.ref B0) == some (.type "type")) = true; rw [tb0, show (PySem.W.clsIn K B0).isSome = true from ib0] <;> rfl
    | 1, _ => show ((PySem.W.clsIn K B1).isSome && PySem.W.typeIn K (.ref B1) == some (.type "type")) = true; rw [tb1, show (PySem.W.clsIn K B1).isSome = true from ib1] <;> rfl
    | 2, _ => show ((PySem.W.clsIn K B2).isSome && PySem.W.typeIn K (.ref B2) == some (.type "type")) = true; rw [tb2, show (PySem.W.clsIn K B2).isSome = true from ib2] <;> rfl
    | 3, _ => show ((PySem.W.clsIn K B3).isSome && PySem.W.typeIn K (.ref B3) == some (.type "type")) = true; rw [tb3, show (PySem.W.clsIn K B3).isSome = true from ib3] <;> rfl
    | i + 4, h => exact absurd h (by omega)
  have sB : ∀ i, i < 4 → PySem.W.subIn K (.ref (As.getD (18 + i) 0)) (.type "BaseException") = some true := by
    intro i hi
    rw [hAs]
    match i, hi with
    | 0, _ => exact sB0
    | 1, _ => exact sB1
    | 2, _ => exact sB2
    | 3, _ => exact sB3
    | i + 4, h => exact absurd h (by omega)
  have hx : ∀ i, i < 18 → ∃ n, LkX K (As.getD i 0) (As.getD (18 + cb i) 0) (ctn (cb i)) n := by
    intro i hi
    rw [hAs]
    match i, hi with
    | 0, _ => exact ⟨_, x0⟩
    | 1, _ => exact ⟨_, x1⟩
    | 2, _ => exact ⟨_, x2⟩
    | 3, _ => exact ⟨_, x3⟩
    | 4, _ => exact ⟨_, x4⟩
    | 5, _ => exact ⟨_, x5⟩
    | 6, _ => exact ⟨_, x6⟩
    | 7, _ => exact ⟨_, x7⟩
    | 8, _ => exact ⟨_, x8⟩
    | 9, _ => exact ⟨_, x9⟩
    | 10, _ => exact ⟨_, x10⟩
    | 11, _ => exact ⟨_, x11⟩
    | 12, _ => exact ⟨_, x12⟩
    | 13, _ => exact ⟨_, x13⟩
    | 14, _ => exact ⟨_, x14⟩
    | 15, _ => exact ⟨_, x15⟩
    | 16, _ => exact ⟨_, x16⟩
    | 17, _ => exact ⟨_, x17⟩
    | i + 18, h => exact absurd h (by omega)
  have one : ∀ i, i < 18 → ∀ j, j < 4 → PySem.W.exmOne K (.ref (As.getD i 0)) (.ref (As.getD (18 + j) 0)) = some (decide (cb i = j)) := by
    intro i hi j hj
    obtain ⟨n, z⟩ := hx i hi
    have b4 := cb_lt i hi
    rw [exm_ref z (okB j hj) (sB j hj) (fun q => by have := getD_inj nd (by omega) (by omega) q; omega)]
    by_cases q : cb i = j
    · rw [q]
      simp
    · rw [decide_eq_false q, decide_eq_false fun z => q (by have := getD_inj nd (by omega) (by omega) z; omega)]
  refine {
    g := ?g, gB := ?gB, ec := ?ec, kit := ?kit, kitB := ?kitB, kitT := ?kitT, exm := ?exm, no := ?no, iN := PySem.W.mg_none_of X G z_isinstance, n0 := PySem.W.mg_none_of X G z_ValueError, n1 := PySem.W.mg_none_of X G z_LookupError,
    n2 := PySem.W.mg_none_of X G z_RuntimeError, n3 := PySem.W.mg_none_of X G z_ArithmeticError, nList := PySem.W.mg_none_of X G z_list, nRange := PySem.W.mg_none_of X G z_range, nRepr := PySem.W.mg_none_of X G z_repr }
  case g =>
    intro i hi
    show mg (cnm i) = some (.ref (As.getD i 0))
    rw [hAs]
    match i, hi with
    | 0, _ => exact PySem.W.mg_of X G g0
    | 1, _ => exact PySem.W.mg_of X G g1
    | 2, _ => exact PySem.W.mg_of X G g2
    | 3, _ => exact PySem.W.mg_of X G g3
    | 4, _ => exact PySem.W.mg_of X G g4
    | 5, _ => exact PySem.W.mg_of X G g5
    | 6, _ => exact PySem.W.mg_of X G g6
    | 7, _ => exact PySem.W.mg_of X G g7
    | 8, _ => exact PySem.W.mg_of X G g8
    | 9, _ => exact PySem.W.mg_of X G g9
    | 10, _ => exact PySem.W.mg_of X G g10
    | 11, _ => exact PySem.W.mg_of X G g11
    | 12, _ => exact PySem.W.mg_of X G g12
    | 13, _ => exact PySem.W.mg_of X G g13
    | 14, _ => exact PySem.W.mg_of X G g14
    | 15, _ => exact PySem.W.mg_of X G g15
    | 16, _ => exact PySem.W.mg_of X G g16
    | 17, _ => exact PySem.W.mg_of X G g17
    | i + 18, h => exact absurd h (by omega)
  case gB =>
    intro i hi
    show mg (cnB i) = some (.ref (As.getD (18 + i) 0))
    rw [hAs]
    match i, hi with
    | 0, _ => exact PySem.W.mg_of X G h0
    | 1, _ => exact PySem.W.mg_of X G h1
    | 2, _ => exact PySem.W.mg_of X G h2
    | 3, _ => exact PySem.W.mg_of X G h3
    | i + 4, h => exact absurd h (by omega)
  case ec =>
    intro i hi
    show ExcC K (As.getD i 0)
    rw [hAs]
    match i, hi with
    | 0, _ => exact ⟨ga0, gt0, sb0, hd0, hc0, cn, ct, mo0⟩
    | 1, _ => exact ⟨ga1, gt1, sb1, hd1, hc1, cn, ct, mo1⟩
    | 2, _ => exact ⟨ga2, gt2, sb2, hd2, hc2, cn, ct, mo2⟩
    | 3, _ => exact ⟨ga3, gt3, sb3, hd3, hc3, cn, ct, mo3⟩
    | 4, _ => exact ⟨ga4, gt4, sb4, hd4, hc4, cn, ct, mo4⟩
    | 5, _ => exact ⟨ga5, gt5, sb5, hd5, hc5, cn, ct, mo5⟩
    | 6, _ => exact ⟨ga6, gt6, sb6, hd6, hc6, cn, ct, mo6⟩
    | 7, _ => exact ⟨ga7, gt7, sb7, hd7, hc7, cn, ct, mo7⟩
    | 8, _ => exact ⟨ga8, gt8, sb8, hd8, hc8, cn, ct, mo8⟩
    | 9, _ => exact ⟨ga9, gt9, sb9, hd9, hc9, cn, ct, mo9⟩
    | 10, _ => exact ⟨ga10, gt10, sb10, hd10, hc10, cn, ct, mo10⟩
    | 11, _ => exact ⟨ga11, gt11, sb11, hd11, hc11, cn, ct, mo11⟩
    | 12, _ => exact ⟨ga12, gt12, sb12, hd12, hc12, cn, ct, mo12⟩
    | 13, _ => exact ⟨ga13, gt13, sb13, hd13, hc13, cn, ct, mo13⟩
    | 14, _ => exact ⟨ga14, gt14, sb14, hd14, hc14, cn, ct, mo14⟩
    | 15, _ => exact ⟨ga15, gt15, sb15, hd15, hc15, cn, ct, mo15⟩
    | 16, _ => exact ⟨ga16, gt16, sb16, hd16, hc16, cn, ct, mo16⟩
    | 17, _ => exact ⟨ga17, gt17, sb17, hd17, hc17, cn, ct, mo17⟩
    | i + 18, h => exact absurd h (by omega)
  case kit =>
    intro i hi j hj
    obtain ⟨n, z⟩ := hx i hi
    obtain ⟨n', z'⟩ := hx j hj
    show PySem.W.kitOne K (.ref (As.getD i 0)) (.ref (As.getD j 0)) = some (decide (i = j))
    rw [kit_ref z (lk_ok z')]
    have h2 : decide (As.getD j 0 = As.getD (18 + cb i) 0) = false := decide_eq_false fun q => by
      have b4 := cb_lt i hi
      have := getD_inj nd (by omega) (by omega) q
      omega
    rw [h2, Bool.or_false]
    by_cases q : i = j
    · subst q
      simp
    · rw [decide_eq_false q, decide_eq_false fun z => q (getD_inj nd (by omega) (by omega) z).symm]
  case kitB =>
    intro i hi j hj
    obtain ⟨n, z⟩ := hx i hi
    show PySem.W.kitOne K (.ref (As.getD i 0)) (.ref (As.getD (18 + j) 0)) = some (decide (cb i = j))
    rw [kit_ref z (okB j hj)]
    have b4 := cb_lt i hi
    have h2 : decide (As.getD (18 + j) 0 = As.getD i 0) = false := decide_eq_false fun q => by
      have := getD_inj nd (by omega) (by omega) q
      omega
    rw [h2, Bool.false_or]
    by_cases q : cb i = j
    · rw [q]
      simp
    · rw [decide_eq_false q, decide_eq_false fun z => q (by have := getD_inj nd (by omega) (by omega) z; omega)]
  case kitT =>
    intro i hi j hj
    obtain ⟨n, z⟩ := hx i hi
    show PySem.W.kitOne K (.ref (As.getD i 0)) (.type (ctn j)) = some (decide (cb i = j))
    rw [kit_typ z (ctn_meta j hj), ctn_bm _ (cb_lt i hi) j hj]
  case exm =>
    intro i hi
    show PySem.W.exmAny K (.ref (As.getD i 0)) [.ref (As.getD (18 + 0) 0), .ref (As.getD (18 + 1) 0), .ref (As.getD (18 + 2) 0), .ref (As.getD (18 + 3) 0)] = some true
    rw [exm_or (one i hi 0 (by decide)) (one i hi 1 (by decide)) (one i hi 2 (by decide)) (one i hi 3 (by decide))]
    have key : ∀ i, i < 18 → (decide (cb i = 0) || (decide (cb i = 1) || (decide (cb i = 2) || (decide (cb i = 3) || false)))) = true := by decide
    rw [key i hi]
  case no =>
    intro i hi
    show PySem.W.findIn K (.ref (As.getD i 0)) (cf i) = some none
    rw [hAs]
    match i, hi with
    | 0, _ => exact no0
    | 1, _ => exact no1
    | 2, _ => exact no2
    | 3, _ => exact no3
    | 4, _ => exact no4
    | 5, _ => exact no5
    | 6, _ => exact no6
    | 7, _ => exact no7
    | 8, _ => exact no8
    | 9, _ => exact no9
    | 10, _ => exact no10
    | 11, _ => exact no11
    | 12, _ => exact no12
    | 13, _ => exact no13
    | 14, _ => exact no14
    | 15, _ => exact no15
    | 16, _ => exact no16
    | i + 17, h => exact absurd h (by omega)
end Tr4


namespace K13
open PySem PySem.Spec PyProof.Rows L2 LamX Gd Rng Bag Tr4 Own1
theorem toR0 {P : Program} {w : World} {K : PySem.W.Frag} {mg : Str → Option Value} {base : Heap} {k : Nat} {f : Addr} {fd : FuncData} {ps : List Str} {sp : Sp} (F : FnOk P w K mg base CX0 k f fd ps sp) (hb : Binds K fd ps []) : FnR P w K mg base CX0 k f sp :=
  (F.raw hb .nil).imp fun vs H Q E h => by rw [List.append_nil]; exact h
theorem kit_own {K : PySem.W.Frag} {C : Addr} {u : String} (b : PySem.W.isClsIn K C = true) (t : PySem.W.typeIn K (.ref C) = some (.type "type")) (n : PySem.W.notFirst K C (.type u) = true) : PySem.W.kitOne K (.type u) (.ref C) = some false := by
  unfold PySem.W.kitOne
  have e0 : (Value.type u == Value.ref C) = false := beq_eq_false_iff_ne.mpr fun q => nomatch q
  rw [e0, if_neg Bool.false_ne_true]
  show (if ((PySem.W.clsIn K C).isSome && PySem.W.typeIn K (.ref C) == some (.type "type")) = true then PySem.W.subIn K (.type u) (.ref C) else none) = _
  have b' : (PySem.W.clsIn K C).isSome = true := b
  rw [if_pos (by rw [b', t]; decide)]
  unfold PySem.W.notFirst at n
  rw [e0, Bool.false_or] at n
  exact beq_iff_eq.mp n
theorem all_mk {l : PySem.W.OpenLaw} {w : World} {K : PySem.W.Frag} {h : Heap} {mg : Str → Option Value} {fa : Addr} {q : Program} (X : K.In h) (G : h.Ns mainGlobals mg) (hfa : mg "law" = some (.ref fa))
    {C D T0 T1 pO fNu fSo fPi fOn fTa fTs fIt fNa fLe fDi fGr fCg fCn fNt fNi fDs fAp fFe fTx fRd fNe fKn fKt fMi fMa fSh fDu fCa fFi fHa fLa fRi fMin fMst fMre fMeq fMdi fMwi fMrd C0 C1 C2 C3 C4 C5 C6 C7 C8 C9 C10 C11 C12 C13 C14 C15 C16 C17 B0 B1 B2 B3 fi0 fi5 fi6 fi14 fi15 cRi pRi : Addr} {tM tS tD : Tok} {rO : List Value} {ocD dcD pmD cdD ctD : Value} {odD anD odT0 odT1 : Option Addr} {slD slT0 slT1 : Array (Option Value)} {nT0 nT1 : Nat} {qRi : DefRec}
    (gC : PySem.W.nsIn K mainGlobals "Setting" = some (some (.ref C)))
    (gM : PySem.W.nsIn K mainGlobals "MAX_NAME" = some (some (.int 8 tM)))
    (gS : PySem.W.nsIn K mainGlobals "MAX_STEP" = some (some (.int 60 tS)))
    (gD : PySem.W.nsIn K mainGlobals "MAX_DISTANCE" = some (some (.int 1000000000 tD)))
    (z_len : PySem.W.nsIn K mainGlobals "len" = some none)
    (z_int : PySem.W.nsIn K mainGlobals "int" = some none)
    (z_abs : PySem.W.nsIn K mainGlobals "abs" = some none)
    (z_str : PySem.W.nsIn K mainGlobals "str" = some none)
    (z_bool : PySem.W.nsIn K mainGlobals "bool" = some none)
    (z_all : PySem.W.nsIn K mainGlobals "all" = some none)
    (z_tuple : PySem.W.nsIn K mainGlobals "tuple" = some none)
    (z_enumerate : PySem.W.nsIn K mainGlobals "enumerate" = some none)
    (z_sorted : PySem.W.nsIn K mainGlobals "sorted" = some none)
    (z_max : PySem.W.nsIn K mainGlobals "max" = some none)
    (z_min : PySem.W.nsIn K mainGlobals "min" = some none)
    (z_set : PySem.W.nsIn K mainGlobals "set" = some none)
    (z_dict : PySem.W.nsIn K mainGlobals "dict" = some none)
    (g0 : PySem.W.nsIn K mainGlobals "InvalidName" = some (some (.ref C0)))
    (g1 : PySem.W.nsIn K mainGlobals "InvalidTime" = some (some (.ref C1)))
    (g2 : PySem.W.nsIn K mainGlobals "InvalidNumber" = some (some (.ref C2)))
    (g3 : PySem.W.nsIn K mainGlobals "InvalidWithin" = some (some (.ref C3)))
    (g4 : PySem.W.nsIn K mainGlobals "InvalidStrict" = some (some (.ref C4)))
    (g5 : PySem.W.nsIn K mainGlobals "InvalidText" = some (some (.ref C5)))
    (g6 : PySem.W.nsIn K mainGlobals "InvalidGrid" = some (some (.ref C6)))
    (g7 : PySem.W.nsIn K mainGlobals "NotATime" = some (some (.ref C7)))
    (g8 : PySem.W.nsIn K mainGlobals "NotALook" = some (some (.ref C8)))
    (g9 : PySem.W.nsIn K mainGlobals "NotAReader" = some (some (.ref C9)))
    (g10 : PySem.W.nsIn K mainGlobals "NotATable" = some (some (.ref C10)))
    (g11 : PySem.W.nsIn K mainGlobals "MissingRow" = some (some (.ref C11)))
    (g12 : PySem.W.nsIn K mainGlobals "NoSuchPart" = some (some (.ref C12)))
    (g13 : PySem.W.nsIn K mainGlobals "InvalidRows" = some (some (.ref C13)))
    (g14 : PySem.W.nsIn K mainGlobals "InvalidApart" = some (some (.ref C14)))
    (g15 : PySem.W.nsIn K mainGlobals "InvalidFeeds" = some (some (.ref C15)))
    (g16 : PySem.W.nsIn K mainGlobals "TooMany" = some (some (.ref C16)))
    (g17 : PySem.W.nsIn K mainGlobals "NoGrid" = some (some (.ref C17)))
    (h0 : PySem.W.nsIn K mainGlobals "LatestError" = some (some (.ref B0)))
    (ib0 : PySem.W.isClsIn K B0 = true)
    (tb0 : PySem.W.typeIn K (.ref B0) = some (.type "type"))
    (sB0 : PySem.W.subIn K (.ref B0) (.type "BaseException") = some true)
    (h1 : PySem.W.nsIn K mainGlobals "StateError" = some (some (.ref B1)))
    (ib1 : PySem.W.isClsIn K B1 = true)
    (tb1 : PySem.W.typeIn K (.ref B1) = some (.type "type"))
    (sB1 : PySem.W.subIn K (.ref B1) (.type "BaseException") = some true)
    (h2 : PySem.W.nsIn K mainGlobals "RuleError" = some (some (.ref B2)))
    (ib2 : PySem.W.isClsIn K B2 = true)
    (tb2 : PySem.W.typeIn K (.ref B2) = some (.type "type"))
    (sB2 : PySem.W.subIn K (.ref B2) (.type "BaseException") = some true)
    (h3 : PySem.W.nsIn K mainGlobals "LimitError" = some (some (.ref B3)))
    (ib3 : PySem.W.isClsIn K B3 = true)
    (tb3 : PySem.W.typeIn K (.ref B3) = some (.type "type"))
    (sB3 : PySem.W.subIn K (.ref B3) (.type "BaseException") = some true)
    (x0 : LkX K C0 B0 "ValueError" "ValueError.__new__")
    (ga0 : PySem.W.findIn K (.ref C0) "__getattribute__" = some (some (.builtin "BaseException.__getattribute__")))
    (gt0 : PySem.W.findIn K (.ref C0) "__getattr__" = some none)
    (sb0 : PySem.W.subIn K (.ref C0) (.type "BaseException") = some true)
    (hd0 : PySem.W.hasDictIn K C0 = true)
    (hc0 : PySem.W.findIn K (.ref C0) "__class__" = some (some (.builtin "object.__class__")))
    (mo0 : PySem.W.mroIn K C0 (.type "object") = some true)
    (no0 : PySem.W.findIn K (.ref C0) "value" = some none)
    (kc0 : PySem.W.keepIn K (.ref C0) = true)
    (sa0 : PySem.W.findIn K (.ref C0) "__setattr__" = some (some (.builtin "object.__setattr__")))
    (ic0 : PySem.W.findIn K (.ref C0) "__init__" = some (some (.ref fi0)))
    (ti0 : PySem.W.typeIn K (.ref fi0) = some (.type "function"))
    (fn0 : PySem.XV.Fn_value K fi0 "InvalidName.__init__")
    (tc0 : PySem.W.typeIn K (.ref C0) = some (.type "type"))
    (x1 : LkX K C1 B0 "ValueError" "ValueError.__new__")
    (ga1 : PySem.W.findIn K (.ref C1) "__getattribute__" = some (some (.builtin "BaseException.__getattribute__")))
    (gt1 : PySem.W.findIn K (.ref C1) "__getattr__" = some none)
    (sb1 : PySem.W.subIn K (.ref C1) (.type "BaseException") = some true)
    (hd1 : PySem.W.hasDictIn K C1 = true)
    (hc1 : PySem.W.findIn K (.ref C1) "__class__" = some (some (.builtin "object.__class__")))
    (mo1 : PySem.W.mroIn K C1 (.type "object") = some true)
    (no1 : PySem.W.findIn K (.ref C1) "value" = some none)
    (x2 : LkX K C2 B0 "ValueError" "ValueError.__new__")
    (ga2 : PySem.W.findIn K (.ref C2) "__getattribute__" = some (some (.builtin "BaseException.__getattribute__")))
    (gt2 : PySem.W.findIn K (.ref C2) "__getattr__" = some none)
    (sb2 : PySem.W.subIn K (.ref C2) (.type "BaseException") = some true)
    (hd2 : PySem.W.hasDictIn K C2 = true)
    (hc2 : PySem.W.findIn K (.ref C2) "__class__" = some (some (.builtin "object.__class__")))
    (mo2 : PySem.W.mroIn K C2 (.type "object") = some true)
    (no2 : PySem.W.findIn K (.ref C2) "value" = some none)
    (x3 : LkX K C3 B0 "ValueError" "ValueError.__new__")
    (ga3 : PySem.W.findIn K (.ref C3) "__getattribute__" = some (some (.builtin "BaseException.__getattribute__")))
    (gt3 : PySem.W.findIn K (.ref C3) "__getattr__" = some none)
    (sb3 : PySem.W.subIn K (.ref C3) (.type "BaseException") = some true)
    (hd3 : PySem.W.hasDictIn K C3 = true)
    (hc3 : PySem.W.findIn K (.ref C3) "__class__" = some (some (.builtin "object.__class__")))
    (mo3 : PySem.W.mroIn K C3 (.type "object") = some true)
    (no3 : PySem.W.findIn K (.ref C3) "value" = some none)
    (x4 : LkX K C4 B0 "ValueError" "ValueError.__new__")
    (ga4 : PySem.W.findIn K (.ref C4) "__getattribute__" = some (some (.builtin "BaseException.__getattribute__")))
    (gt4 : PySem.W.findIn K (.ref C4) "__getattr__" = some none)
    (sb4 : PySem.W.subIn K (.ref C4) (.type "BaseException") = some true)
    (hd4 : PySem.W.hasDictIn K C4 = true)
    (hc4 : PySem.W.findIn K (.ref C4) "__class__" = some (some (.builtin "object.__class__")))
    (mo4 : PySem.W.mroIn K C4 (.type "object") = some true)
    (no4 : PySem.W.findIn K (.ref C4) "value" = some none)
    (x5 : LkX K C5 B0 "ValueError" "ValueError.__new__")
    (ga5 : PySem.W.findIn K (.ref C5) "__getattribute__" = some (some (.builtin "BaseException.__getattribute__")))
    (gt5 : PySem.W.findIn K (.ref C5) "__getattr__" = some none)
    (sb5 : PySem.W.subIn K (.ref C5) (.type "BaseException") = some true)
    (hd5 : PySem.W.hasDictIn K C5 = true)
    (hc5 : PySem.W.findIn K (.ref C5) "__class__" = some (some (.builtin "object.__class__")))
    (mo5 : PySem.W.mroIn K C5 (.type "object") = some true)
    (no5 : PySem.W.findIn K (.ref C5) "value" = some none)
    (kc5 : PySem.W.keepIn K (.ref C5) = true)
    (sa5 : PySem.W.findIn K (.ref C5) "__setattr__" = some (some (.builtin "object.__setattr__")))
    (ic5 : PySem.W.findIn K (.ref C5) "__init__" = some (some (.ref fi5)))
    (ti5 : PySem.W.typeIn K (.ref fi5) = some (.type "function"))
    (fn5 : PySem.XV.Fn_value K fi5 "InvalidText.__init__")
    (tc5 : PySem.W.typeIn K (.ref C5) = some (.type "type"))
    (x6 : LkX K C6 B0 "ValueError" "ValueError.__new__")
    (ga6 : PySem.W.findIn K (.ref C6) "__getattribute__" = some (some (.builtin "BaseException.__getattribute__")))
    (gt6 : PySem.W.findIn K (.ref C6) "__getattr__" = some none)
    (sb6 : PySem.W.subIn K (.ref C6) (.type "BaseException") = some true)
    (hd6 : PySem.W.hasDictIn K C6 = true)
    (hc6 : PySem.W.findIn K (.ref C6) "__class__" = some (some (.builtin "object.__class__")))
    (mo6 : PySem.W.mroIn K C6 (.type "object") = some true)
    (no6 : PySem.W.findIn K (.ref C6) "value" = some none)
    (kc6 : PySem.W.keepIn K (.ref C6) = true)
    (sa6 : PySem.W.findIn K (.ref C6) "__setattr__" = some (some (.builtin "object.__setattr__")))
    (ic6 : PySem.W.findIn K (.ref C6) "__init__" = some (some (.ref fi6)))
    (ti6 : PySem.W.typeIn K (.ref fi6) = some (.type "function"))
    (fn6 : PySem.XV.Fn_value K fi6 "InvalidGrid.__init__")
    (tc6 : PySem.W.typeIn K (.ref C6) = some (.type "type"))
    (x7 : LkX K C7 B0 "ValueError" "ValueError.__new__")
    (ga7 : PySem.W.findIn K (.ref C7) "__getattribute__" = some (some (.builtin "BaseException.__getattribute__")))
    (gt7 : PySem.W.findIn K (.ref C7) "__getattr__" = some none)
    (sb7 : PySem.W.subIn K (.ref C7) (.type "BaseException") = some true)
    (hd7 : PySem.W.hasDictIn K C7 = true)
    (hc7 : PySem.W.findIn K (.ref C7) "__class__" = some (some (.builtin "object.__class__")))
    (mo7 : PySem.W.mroIn K C7 (.type "object") = some true)
    (no7 : PySem.W.findIn K (.ref C7) "value" = some none)
    (x8 : LkX K C8 B0 "ValueError" "ValueError.__new__")
    (ga8 : PySem.W.findIn K (.ref C8) "__getattribute__" = some (some (.builtin "BaseException.__getattribute__")))
    (gt8 : PySem.W.findIn K (.ref C8) "__getattr__" = some none)
    (sb8 : PySem.W.subIn K (.ref C8) (.type "BaseException") = some true)
    (hd8 : PySem.W.hasDictIn K C8 = true)
    (hc8 : PySem.W.findIn K (.ref C8) "__class__" = some (some (.builtin "object.__class__")))
    (mo8 : PySem.W.mroIn K C8 (.type "object") = some true)
    (no8 : PySem.W.findIn K (.ref C8) "value" = some none)
    (x9 : LkX K C9 B0 "ValueError" "ValueError.__new__")
    (ga9 : PySem.W.findIn K (.ref C9) "__getattribute__" = some (some (.builtin "BaseException.__getattribute__")))
    (gt9 : PySem.W.findIn K (.ref C9) "__getattr__" = some none)
    (sb9 : PySem.W.subIn K (.ref C9) (.type "BaseException") = some true)
    (hd9 : PySem.W.hasDictIn K C9 = true)
    (hc9 : PySem.W.findIn K (.ref C9) "__class__" = some (some (.builtin "object.__class__")))
    (mo9 : PySem.W.mroIn K C9 (.type "object") = some true)
    (no9 : PySem.W.findIn K (.ref C9) "value" = some none)
    (x10 : LkX K C10 B0 "ValueError" "ValueError.__new__")
    (ga10 : PySem.W.findIn K (.ref C10) "__getattribute__" = some (some (.builtin "BaseException.__getattribute__")))
    (gt10 : PySem.W.findIn K (.ref C10) "__getattr__" = some none)
    (sb10 : PySem.W.subIn K (.ref C10) (.type "BaseException") = some true)
    (hd10 : PySem.W.hasDictIn K C10 = true)
    (hc10 : PySem.W.findIn K (.ref C10) "__class__" = some (some (.builtin "object.__class__")))
    (mo10 : PySem.W.mroIn K C10 (.type "object") = some true)
    (no10 : PySem.W.findIn K (.ref C10) "value" = some none)
    (x11 : LkX K C11 B1 "LookupError" "LookupError.__new__")
    (ga11 : PySem.W.findIn K (.ref C11) "__getattribute__" = some (some (.builtin "BaseException.__getattribute__")))
    (gt11 : PySem.W.findIn K (.ref C11) "__getattr__" = some none)
    (sb11 : PySem.W.subIn K (.ref C11) (.type "BaseException") = some true)
    (hd11 : PySem.W.hasDictIn K C11 = true)
    (hc11 : PySem.W.findIn K (.ref C11) "__class__" = some (some (.builtin "object.__class__")))
    (mo11 : PySem.W.mroIn K C11 (.type "object") = some true)
    (no11 : PySem.W.findIn K (.ref C11) "value" = some none)
    (x12 : LkX K C12 B1 "LookupError" "LookupError.__new__")
    (ga12 : PySem.W.findIn K (.ref C12) "__getattribute__" = some (some (.builtin "BaseException.__getattribute__")))
    (gt12 : PySem.W.findIn K (.ref C12) "__getattr__" = some none)
    (sb12 : PySem.W.subIn K (.ref C12) (.type "BaseException") = some true)
    (hd12 : PySem.W.hasDictIn K C12 = true)
    (hc12 : PySem.W.findIn K (.ref C12) "__class__" = some (some (.builtin "object.__class__")))
    (mo12 : PySem.W.mroIn K C12 (.type "object") = some true)
    (no12 : PySem.W.findIn K (.ref C12) "value" = some none)
    (x13 : LkX K C13 B0 "ValueError" "ValueError.__new__")
    (ga13 : PySem.W.findIn K (.ref C13) "__getattribute__" = some (some (.builtin "BaseException.__getattribute__")))
    (gt13 : PySem.W.findIn K (.ref C13) "__getattr__" = some none)
    (sb13 : PySem.W.subIn K (.ref C13) (.type "BaseException") = some true)
    (hd13 : PySem.W.hasDictIn K C13 = true)
    (hc13 : PySem.W.findIn K (.ref C13) "__class__" = some (some (.builtin "object.__class__")))
    (mo13 : PySem.W.mroIn K C13 (.type "object") = some true)
    (no13 : PySem.W.findIn K (.ref C13) "index" = some none)
    (x14 : LkX K C14 B0 "ValueError" "ValueError.__new__")
    (ga14 : PySem.W.findIn K (.ref C14) "__getattribute__" = some (some (.builtin "BaseException.__getattribute__")))
    (gt14 : PySem.W.findIn K (.ref C14) "__getattr__" = some none)
    (sb14 : PySem.W.subIn K (.ref C14) (.type "BaseException") = some true)
    (hd14 : PySem.W.hasDictIn K C14 = true)
    (hc14 : PySem.W.findIn K (.ref C14) "__class__" = some (some (.builtin "object.__class__")))
    (mo14 : PySem.W.mroIn K C14 (.type "object") = some true)
    (no14 : PySem.W.findIn K (.ref C14) "index" = some none)
    (kc14 : PySem.W.keepIn K (.ref C14) = true)
    (sa14 : PySem.W.findIn K (.ref C14) "__setattr__" = some (some (.builtin "object.__setattr__")))
    (ic14 : PySem.W.findIn K (.ref C14) "__init__" = some (some (.ref fi14)))
    (ti14 : PySem.W.typeIn K (.ref fi14) = some (.type "function"))
    (fn14 : PySem.XV.Fn_index K fi14 "InvalidApart.__init__")
    (tc14 : PySem.W.typeIn K (.ref C14) = some (.type "type"))
    (x15 : LkX K C15 B0 "ValueError" "ValueError.__new__")
    (ga15 : PySem.W.findIn K (.ref C15) "__getattribute__" = some (some (.builtin "BaseException.__getattribute__")))
    (gt15 : PySem.W.findIn K (.ref C15) "__getattr__" = some none)
    (sb15 : PySem.W.subIn K (.ref C15) (.type "BaseException") = some true)
    (hd15 : PySem.W.hasDictIn K C15 = true)
    (hc15 : PySem.W.findIn K (.ref C15) "__class__" = some (some (.builtin "object.__class__")))
    (mo15 : PySem.W.mroIn K C15 (.type "object") = some true)
    (no15 : PySem.W.findIn K (.ref C15) "index" = some none)
    (kc15 : PySem.W.keepIn K (.ref C15) = true)
    (sa15 : PySem.W.findIn K (.ref C15) "__setattr__" = some (some (.builtin "object.__setattr__")))
    (ic15 : PySem.W.findIn K (.ref C15) "__init__" = some (some (.ref fi15)))
    (ti15 : PySem.W.typeIn K (.ref fi15) = some (.type "function"))
    (fn15 : PySem.XV.Fn_index K fi15 "InvalidFeeds.__init__")
    (tc15 : PySem.W.typeIn K (.ref C15) = some (.type "type"))
    (x16 : LkX K C16 B3 "ArithmeticError" "ArithmeticError.__new__")
    (ga16 : PySem.W.findIn K (.ref C16) "__getattribute__" = some (some (.builtin "BaseException.__getattribute__")))
    (gt16 : PySem.W.findIn K (.ref C16) "__getattr__" = some none)
    (sb16 : PySem.W.subIn K (.ref C16) (.type "BaseException") = some true)
    (hd16 : PySem.W.hasDictIn K C16 = true)
    (hc16 : PySem.W.findIn K (.ref C16) "__class__" = some (some (.builtin "object.__class__")))
    (mo16 : PySem.W.mroIn K C16 (.type "object") = some true)
    (no16 : PySem.W.findIn K (.ref C16) "limit" = some none)
    (x17 : LkX K C17 B2 "RuntimeError" "RuntimeError.__new__")
    (ga17 : PySem.W.findIn K (.ref C17) "__getattribute__" = some (some (.builtin "BaseException.__getattribute__")))
    (gt17 : PySem.W.findIn K (.ref C17) "__getattr__" = some none)
    (sb17 : PySem.W.subIn K (.ref C17) (.type "BaseException") = some true)
    (hd17 : PySem.W.hasDictIn K C17 = true)
    (hc17 : PySem.W.findIn K (.ref C17) "__class__" = some (some (.builtin "object.__class__")))
    (mo17 : PySem.W.mroIn K C17 (.type "object") = some true)
    (cn : PySem.W.specialIn K (.builtin "object.__class__") "__get__" = some (some (.builtin "getset_descriptor.__get__")))
    (ct : PySem.W.takesIn K (.builtin "object.__class__") = some true)
    (z_isinstance : PySem.W.nsIn K mainGlobals "isinstance" = some none)
    (z_list : PySem.W.nsIn K mainGlobals "list" = some none)
    (z_range : PySem.W.nsIn K mainGlobals "range" = some none)
    (z_repr : PySem.W.nsIn K mainGlobals "repr" = some none)
    (z_ValueError : PySem.W.nsIn K mainGlobals "ValueError" = some none)
    (z_LookupError : PySem.W.nsIn K mainGlobals "LookupError" = some none)
    (z_RuntimeError : PySem.W.nsIn K mainGlobals "RuntimeError" = some none)
    (z_ArithmeticError : PySem.W.nsIn K mainGlobals "ArithmeticError" = some none)
    (nd : ([C0, C1, C2, C3, C4, C5, C6, C7, C8, C9, C10, C11, C12, C13, C14, C15, C16, C17, B0, B1, B2, B3] : List Addr).Nodup)
    (dNu : PySem.W.nsIn K mainGlobals "_law_number" = some (some (.ref fNu)))
    (eNu : FunY K "_law_number" "_law_number" sNumber fNu)
    (kNu : PySem.W.keepIn K (.ref fNu) = true)
    (dSo : PySem.W.nsIn K mainGlobals "_law_source" = some (some (.ref fSo)))
    (eSo : FunY K "_law_source" "_law_source" sSource fSo)
    (kSo : PySem.W.keepIn K (.ref fSo) = true)
    (dPi : PySem.W.nsIn K mainGlobals "_law_pick" = some (some (.ref fPi)))
    (ePi : FunY K "_law_pick" "_law_pick" sPick fPi)
    (kPi : PySem.W.keepIn K (.ref fPi) = true)
    (dOn : PySem.W.nsIn K mainGlobals "_law_one" = some (some (.ref fOn)))
    (eOn : FunY K "_law_one" "_law_one" sOne fOn)
    (kOn : PySem.W.keepIn K (.ref fOn) = true)
    (dTa : PySem.W.nsIn K mainGlobals "_law_tag" = some (some (.ref fTa)))
    (eTa : FunY K "_law_tag" "_law_tag" sTag fTa)
    (kTa : PySem.W.keepIn K (.ref fTa) = true)
    (dTs : PySem.W.nsIn K mainGlobals "_law_tags" = some (some (.ref fTs)))
    (eTs : FunY K "_law_tags" "_law_tags" sTags fTs)
    (kTs : PySem.W.keepIn K (.ref fTs) = true)
    (dIt : PySem.W.nsIn K mainGlobals "is_integer" = some (some (.ref fIt)))
    (eIt : FunY K "is_integer" "is_integer" sInteger fIt)
    (kIt : PySem.W.keepIn K (.ref fIt) = true)
    (dNa : PySem.W.nsIn K mainGlobals "is_name" = some (some (.ref fNa)))
    (eNa : FunY K "is_name" "is_name" sName fNa)
    (kNa : PySem.W.keepIn K (.ref fNa) = true)
    (dLe : PySem.W.nsIn K mainGlobals "_is_letter" = some (some (.ref fLe)))
    (eLe : FunY K "_is_letter" "_is_letter" sLetter fLe)
    (kLe : PySem.W.keepIn K (.ref fLe) = true)
    (dDi : PySem.W.nsIn K mainGlobals "_is_digit" = some (some (.ref fDi)))
    (eDi : FunY K "_is_digit" "_is_digit" sDigit fDi)
    (kDi : PySem.W.keepIn K (.ref fDi) = true)
    (dGr : PySem.W.nsIn K mainGlobals "is_grid" = some (some (.ref fGr)))
    (eGr : FunY K "is_grid" "is_grid" sGrid fGr)
    (kGr : PySem.W.keepIn K (.ref fGr) = true)
    (dCg : PySem.W.nsIn K mainGlobals "check_grid" = some (some (.ref fCg)))
    (eCg : FunY K "check_grid" "check_grid" sCkG fCg)
    (kCg : PySem.W.keepIn K (.ref fCg) = true)
    (dCn : PySem.W.nsIn K mainGlobals "check_name" = some (some (.ref fCn)))
    (eCn : FunY K "check_name" "check_name" sCkN fCn)
    (kCn : PySem.W.keepIn K (.ref fCn) = true)
    (dNt : PySem.W.nsIn K mainGlobals "integer_text" = some (some (.ref fNt)))
    (eNt : FunY K "integer_text" "integer_text" sIT fNt)
    (kNt : PySem.W.keepIn K (.ref fNt) = true)
    (dNi : PySem.W.nsIn K mainGlobals "integer_in" = some (some (.ref fNi)))
    (eNi : FunY K "integer_in" "integer_in" sIn fNi)
    (kNi : PySem.W.keepIn K (.ref fNi) = true)
    (dDs : PySem.W.nsIn K mainGlobals "_is_distance" = some (some (.ref fDs)))
    (eDs : FunY K "_is_distance" "_is_distance" sDist fDs)
    (kDs : PySem.W.keepIn K (.ref fDs) = true)
    (dAp : PySem.W.nsIn K mainGlobals "_check_apart" = some (some (.ref fAp)))
    (eAp : FunY K "_check_apart" "_check_apart" sApart fAp)
    (kAp : PySem.W.keepIn K (.ref fAp) = true)
    (dFe : PySem.W.nsIn K mainGlobals "_check_feeds" = some (some (.ref fFe)))
    (eFe : FunY K "_check_feeds" "_check_feeds" sFeeds fFe)
    (kFe : PySem.W.keepIn K (.ref fFe) = true)
    (dTx : PySem.W.nsIn K mainGlobals "_setting_text" = some (some (.ref fTx)))
    (eTx : FunY K "_setting_text" "_setting_text" sText fTx)
    (kTx : PySem.W.keepIn K (.ref fTx) = true)
    (dRd : PySem.W.nsIn K mainGlobals "_setting_in" = some (some (.ref fRd)))
    (eRd : FunY K "_setting_in" "_setting_in" sRd fRd)
    (kRd : PySem.W.keepIn K (.ref fRd) = true)
    (dNe : PySem.W.nsIn K mainGlobals "_law_net" = some (some (.ref fNe)))
    (eNe : FunY K "_law_net" "_law_net" sNet fNe)
    (kNe : PySem.W.keepIn K (.ref fNe) = true)
    (dKn : PySem.W.nsIn K mainGlobals "_law_known" = some (some (.ref fKn)))
    (eKn : FunY K "_law_known" "_law_known" sKn fKn)
    (kKn : PySem.W.keepIn K (.ref fKn) = true)
    (dKt : PySem.W.nsIn K mainGlobals "_law_known_text" = some (some (.ref fKt)))
    (eKt : FunY K "_law_known_text" "_law_known_text" sKt fKt)
    (kKt : PySem.W.keepIn K (.ref fKt) = true)
    (dMi : PySem.W.nsIn K mainGlobals "_law_mixed" = some (some (.ref fMi)))
    (eMi : FunY K "_law_mixed" "_law_mixed" sMixed fMi)
    (kMi : PySem.W.keepIn K (.ref fMi) = true)
    (dMa : PySem.W.nsIn K mainGlobals "_law_made" = some (some (.ref fMa)))
    (eMa : FunY K "_law_made" "_law_made" sMade fMa)
    (kMa : PySem.W.keepIn K (.ref fMa) = true)
    (dSh : PySem.W.nsIn K mainGlobals "_law_shown" = some (some (.ref fSh)))
    (eSh : FunY K "_law_shown" "_law_shown" sShown fSh)
    (kSh : PySem.W.keepIn K (.ref fSh) = true)
    (dDu : PySem.W.nsIn K mainGlobals "_law_due" = some (some (.ref fDu)))
    (eDu : FunY K "_law_due" "_law_due" sDueL fDu)
    (kDu : PySem.W.keepIn K (.ref fDu) = true)
    (dCa : PySem.W.nsIn K mainGlobals "_law_caught" = some (some (.ref fCa)))
    (eCa : FunY K "_law_caught" "_law_caught" sCaught fCa)
    (kCa : PySem.W.keepIn K (.ref fCa) = true)
    (dFi : PySem.W.nsIn K mainGlobals "_law_field" = some (some (.ref fFi)))
    (eFi : FunY K "_law_field" "_law_field" sField fFi)
    (kFi : PySem.W.keepIn K (.ref fFi) = true)
    (dHa : PySem.W.nsIn K mainGlobals "_law_by_hand" = some (some (.ref fHa)))
    (eHa : FunY K "_law_by_hand" "_law_by_hand" sHand fHa)
    (kHa : PySem.W.keepIn K (.ref fHa) = true)
    (dLa : PySem.W.nsIn K mainGlobals "law" = some (some (.ref fLa)))
    (eLa : FunY K "law" "law" sLaw fLa)
    (kLa : PySem.W.keepIn K (.ref fLa) = true)
    (dRi : PySem.W.nsIn K mainGlobals "_law_right" = some (some (.ref fRi)))
    (eRi : FunYC K "_law_right" "_law_right" sRight fRi cRi)
    (kRi : PySem.W.keepIn K (.ref fRi) = true)
    (tRi : PySem.W.tabIn K "_law_right" = some (cRi, pRi))
    (lRi : K.lookup pRi = none)
    (rRi : (recsOf q).find? (fun e => e.name == ("_law_right" : Str)) = some qRi)
    (iMin : PySem.W.findIn K (.ref C) "__init__" = some (some (.ref fMin)))
    (nMin : PySem.W.isFn K (.ref fMin) = true)
    (eMin : FunY K "__init__" "Setting.__init__" sSInit fMin)
    (kMin : PySem.W.keepIn K (.ref fMin) = true)
    (iMst : PySem.W.findIn K (.ref C) "__str__" = some (some (.ref fMst)))
    (nMst : PySem.W.isFn K (.ref fMst) = true)
    (eMst : FunY K "__str__" "Setting.__str__" sStr fMst)
    (kMst : PySem.W.keepIn K (.ref fMst) = true)
    (iMre : PySem.W.findIn K (.ref C) "__repr__" = some (some (.ref fMre)))
    (nMre : PySem.W.isFn K (.ref fMre) = true)
    (eMre : FunY K "__repr__" "Setting.__repr__" sRepr fMre)
    (kMre : PySem.W.keepIn K (.ref fMre) = true)
    (iMeq : PySem.W.findIn K (.ref C) "__eq__" = some (some (.ref fMeq)))
    (nMeq : PySem.W.isFn K (.ref fMeq) = true)
    (eMeq : FunY K "__eq__" "Setting.__eq__" sEq fMeq)
    (kMeq : PySem.W.keepIn K (.ref fMeq) = true)
    (iMdi : PySem.W.findIn K (.ref C) "distance" = some (some (.ref fMdi)))
    (nMdi : PySem.W.isFn K (.ref fMdi) = true)
    (eMdi : FunY K "distance" "Setting.distance" sDs fMdi)
    (kMdi : PySem.W.keepIn K (.ref fMdi) = true)
    (iMwi : PySem.W.findIn K (.ref C) "with_rows_of" = some (some (.ref fMwi)))
    (nMwi : PySem.W.isFn K (.ref fMwi) = true)
    (eMwi : FunY K "with_rows_of" "Setting.with_rows_of" sWith fMwi)
    (kMwi : PySem.W.keepIn K (.ref fMwi) = true)
    (at_rd : PySem.W.findCls K (.ref C) (.type "type") "read" = some (.get (.builtin "staticmethod.__get__") (.ref pO) .none (.ref C)))
    (rc_rd : PySem.W.recIn K pO "staticmethod" = some (.ref fMrd :: rO))
    (eMrd : FunY K "read" "Setting.read" sRead fMrd)
    (kMrd : PySem.W.keepIn K (.ref fMrd) = true)
    (lkD : K.lookup fMin = some ⟨ocD, odD, .func (PySem.W.fnOf "__init__" "Setting.__init__" (defArgs sSInit) (defBody sSInit) (defScope sSInit) .none (.ref D) dcD pmD anD cdD ctD), slD⟩)
    (nD1 : PySem.W.nsIn K D "grid" = some (some .none))
    (nD2 : PySem.W.nsIn K D "apart" = some (some (.ref T0)))
    (nD3 : PySem.W.nsIn K D "on_grid" = some (some (.ref T1)))
    (nD4 : PySem.W.nsIn K D "at_rows" = some (some .none))
    (lT0 : K.lookup T0 = some ⟨.type "tuple", odT0, .seq #[] nT0, slT0⟩)
    (lT1 : K.lookup T1 = some ⟨.type "tuple", odT1, .seq #[] nT1, slT1⟩)
    (makes : PySem.W.makesIn K C = true)
    (kC : PySem.W.keepIn K (.ref C) = true)
    (pg : PySem.W.plainGet K C Str.empty = true)
    (hdC : PySem.W.hasDictIn K C = true)
    (po : PySem.W.plainOver K C = true)
    (saC : PySem.W.findIn K (.ref C) "__setattr__" = some (some (.builtin "object.__setattr__")))
    (caC : PySem.W.findIn K (.ref C) "__class__" = some (some (.builtin "object.__class__")))
    (cmC : PySem.W.mroIn K C (.type "object") = some true)
    (rdC : PySem.W.readsIn K C (.type "type") = true)
    (gaC : PySem.W.specialIn K (.ref C) "__getattribute__" = some (some (.builtin "type.__getattribute__")))
    (neC : PySem.W.findIn K (.ref C) "__ne__" = some (some (.builtin "object.__ne__")))
    (nbC : PySem.W.findIn K (.ref C) "__bool__" = some none)
    (nlC : PySem.W.findIn K (.ref C) "__len__" = some none)
    (nfS : PySem.W.notFirst K C (.type "str") = true)
    (bC : PySem.W.isClsIn K C = true)
    (tC : PySem.W.typeIn K (.ref C) = some (.type "type"))
    (noCgrid : PySem.W.findIn K (.ref C) "grid" = some none)
    (noCapart : PySem.W.findIn K (.ref C) "apart" = some none)
    (noCon_grid : PySem.W.findIn K (.ref C) "on_grid" = some none)
    (noCat_rows : PySem.W.findIn K (.ref C) "at_rows" = some none)
    (noCtext : PySem.W.findIn K (.ref C) "text" = some none)
    : ∃ sp fd ts, LawG l w K 11 63 "_law_script" mg fa q sp fd ts := by
  have e := hfa.symm.trans (PySem.W.mg_of X G dLa)
  cases e
  have mC := PySem.W.mg_of X G gC
  have mM := PySem.W.mg_of X G gM
  have mS := PySem.W.mg_of X G gS
  have mD := PySem.W.mg_of X G gD
  have CT := ctxt_mk X G g0 g1 g2 g3 g4 g5 g6 g7 g8 g9 g10 g11 g12 g13 g14 g15 g16 g17 h0 ib0 tb0 sB0 h1 ib1 tb1 sB1 h2 ib2 tb2 sB2 h3 ib3 tb3 sB3 x0 ga0 gt0 sb0 hd0 hc0 mo0 no0 x1 ga1 gt1 sb1 hd1 hc1 mo1 no1 x2 ga2 gt2 sb2 hd2 hc2 mo2 no2 x3 ga3 gt3 sb3 hd3 hc3 mo3 no3 x4 ga4 gt4 sb4 hd4 hc4 mo4 no4 x5 ga5 gt5 sb5 hd5 hc5 mo5 no5 x6 ga6 gt6 sb6 hd6 hc6 mo6 no6 x7 ga7 gt7 sb7 hd7 hc7 mo7 no7 x8 ga8 gt8 sb8 hd8 hc8 mo8 no8 x9 ga9 gt9 sb9 hd9 hc9 mo9 no9 x10 ga10 gt10 sb10 hd10 hc10 mo10 no10 x11 ga11 gt11 sb11 hd11 hc11 mo11 no11 x12 ga12 gt12 sb12 hd12 hc12 mo12 no12 x13 ga13 gt13 sb13 hd13 hc13 mo13 no13 x14 ga14 gt14 sb14 hd14 hc14 mo14 no14 x15 ga15 gt15 sb15 hd15 hc15 mo15 no15 x16 ga16 gt16 sb16 hd16 hc16 mo16 no16 x17 ga17 gt17 sb17 hd17 hc17 mo17 cn ct z_isinstance z_list z_range z_repr z_ValueError z_LookupError z_RuntimeError z_ArithmeticError nd
  have mE0 := PySem.W.mg_of X G g0
  have mE5 := PySem.W.mg_of X G g5
  have mE6 := PySem.W.mg_of X G g6
  have mE14 := PySem.W.mg_of X G g14
  have mE15 := PySem.W.mg_of X G g15
  have E0 : ErrV K C0 := ⟨⟨_, _, _, _, _, _, _, ⟨PySem.F.excBase_ValueError, PySem.F.store_ValueError, x0, kc0, rfl⟩, ⟨sa0, no0, ic0, ti0⟩, fn0⟩, sb0, tc0⟩
  have E5 : ErrV K C5 := ⟨⟨_, _, _, _, _, _, _, ⟨PySem.F.excBase_ValueError, PySem.F.store_ValueError, x5, kc5, rfl⟩, ⟨sa5, no5, ic5, ti5⟩, fn5⟩, sb5, tc5⟩
  have E6 : ErrV K C6 := ⟨⟨_, _, _, _, _, _, _, ⟨PySem.F.excBase_ValueError, PySem.F.store_ValueError, x6, kc6, rfl⟩, ⟨sa6, no6, ic6, ti6⟩, fn6⟩, sb6, tc6⟩
  have E14 : ErrI K C14 := ⟨⟨_, _, _, _, _, _, _, ⟨PySem.F.excBase_ValueError, PySem.F.store_ValueError, x14, kc14, rfl⟩, ⟨sa14, no14, ic14, ti14⟩, fn14⟩, sb14, tc14⟩
  have E15 : ErrI K C15 := ⟨⟨_, _, _, _, _, _, _, ⟨PySem.F.excBase_ValueError, PySem.F.store_ValueError, x15, kc15, rfl⟩, ⟨sa15, no15, ic15, ti15⟩, fn15⟩, sb15, tc15⟩
  have TB : Bt mg := ⟨PySem.W.mg_none_of X G z_len, PySem.W.mg_none_of X G z_int, PySem.W.mg_none_of X G z_abs, PySem.W.mg_none_of X G z_range, PySem.W.mg_none_of X G z_str⟩
  have TK : Kt mg := ⟨PySem.W.mg_none_of X G z_isinstance, PySem.W.mg_none_of X G z_int, PySem.W.mg_none_of X G z_bool, PySem.W.mg_none_of X G z_str, PySem.W.mg_none_of X G z_len, PySem.W.mg_none_of X G z_all, PySem.W.mg_none_of X G z_tuple⟩
  have KS : Ks mg := ⟨PySem.W.mg_none_of X G z_set, PySem.W.mg_none_of X G z_enumerate, PySem.W.mg_none_of X G z_sorted, PySem.W.mg_none_of X G z_dict⟩
  obtain ⟨dNu_, FNu⟩ := FunY.fun eNu kNu
  have bNu := (FNu).binds (ps := ["_law_script", "_law_k"]) fun _ _ _ _ _ _ us hl => match us, hl with | [_, _], _ => rfl
  have mNu := PySem.W.mg_of X G dNu
  obtain ⟨dSo_, FSo⟩ := FunY.fun eSo kSo
  have bSo := (FSo).binds (ps := ["_law_cell"]) fun _ _ _ _ _ _ us hl => match us, hl with | [_], _ => rfl
  have mSo := PySem.W.mg_of X G dSo
  obtain ⟨dPi_, FPi⟩ := FunY.fun ePi kPi
  have bPi := (FPi).binds (ps := ["_law_source_here", "_law_many"]) fun _ _ _ _ _ _ us hl => match us, hl with | [_, _], _ => rfl
  have mPi := PySem.W.mg_of X G dPi
  obtain ⟨dOn_, FOn⟩ := FunY.fun eOn kOn
  have bOn := (FOn).binds (ps := ["_law_source_here", "_law_things"]) fun _ _ _ _ _ _ us hl => match us, hl with | [_, _], _ => rfl
  have mOn := PySem.W.mg_of X G dOn
  obtain ⟨dTa_, FTa⟩ := FunY.fun eTa kTa
  have bTa := (FTa).binds (ps := ["_law_source_here"]) fun _ _ _ _ _ _ us hl => match us, hl with | [_], _ => rfl
  have mTa := PySem.W.mg_of X G dTa
  obtain ⟨dTs_, FTs⟩ := FunY.fun eTs kTs
  have bTs := (FTs).binds (ps := ["_law_source_here", "_law_many"]) fun _ _ _ _ _ _ us hl => match us, hl with | [_, _], _ => rfl
  have mTs := PySem.W.mg_of X G dTs
  obtain ⟨dIt_, FIt⟩ := FunY.fun eIt kIt
  have bIt := (FIt).binds (ps := ["value"]) fun _ _ _ _ _ _ us hl => match us, hl with | [_], _ => rfl
  have mIt := PySem.W.mg_of X G dIt
  obtain ⟨dNa_, FNa⟩ := FunY.fun eNa kNa
  have bNa := (FNa).binds (ps := ["value"]) fun _ _ _ _ _ _ us hl => match us, hl with | [_], _ => rfl
  have mNa := PySem.W.mg_of X G dNa
  obtain ⟨dLe_, FLe⟩ := FunY.fun eLe kLe
  have bLe := (FLe).binds (ps := ["sign"]) fun _ _ _ _ _ _ us hl => match us, hl with | [_], _ => rfl
  have mLe := PySem.W.mg_of X G dLe
  obtain ⟨dDi_, FDi⟩ := FunY.fun eDi kDi
  have bDi := (FDi).binds (ps := ["sign"]) fun _ _ _ _ _ _ us hl => match us, hl with | [_], _ => rfl
  have mDi := PySem.W.mg_of X G dDi
  obtain ⟨dGr_, FGr⟩ := FunY.fun eGr kGr
  have bGr := (FGr).binds (ps := ["value"]) fun _ _ _ _ _ _ us hl => match us, hl with | [_], _ => rfl
  have mGr := PySem.W.mg_of X G dGr
  obtain ⟨dCg_, FCg⟩ := FunY.fun eCg kCg
  have bCg := (FCg).binds (ps := ["value"]) fun _ _ _ _ _ _ us hl => match us, hl with | [_], _ => rfl
  have mCg := PySem.W.mg_of X G dCg
  obtain ⟨dCn_, FCn⟩ := FunY.fun eCn kCn
  have bCn := (FCn).binds (ps := ["value"]) fun _ _ _ _ _ _ us hl => match us, hl with | [_], _ => rfl
  have mCn := PySem.W.mg_of X G dCn
  obtain ⟨dNt_, FNt⟩ := FunY.fun eNt kNt
  have bNt := (FNt).binds (ps := ["number"]) fun _ _ _ _ _ _ us hl => match us, hl with | [_], _ => rfl
  have mNt := PySem.W.mg_of X G dNt
  obtain ⟨dNi_, FNi⟩ := FunY.fun eNi kNi
  have bNi := (FNi).binds (ps := ["word"]) fun _ _ _ _ _ _ us hl => match us, hl with | [_], _ => rfl
  have mNi := PySem.W.mg_of X G dNi
  obtain ⟨dDs_, FDs⟩ := FunY.fun eDs kDs
  have bDs := (FDs).binds (ps := ["value"]) fun _ _ _ _ _ _ us hl => match us, hl with | [_], _ => rfl
  have mDs := PySem.W.mg_of X G dDs
  obtain ⟨dAp_, FAp⟩ := FunY.fun eAp kAp
  have bAp := (FAp).binds (ps := ["apart"]) fun _ _ _ _ _ _ us hl => match us, hl with | [_], _ => rfl
  have mAp := PySem.W.mg_of X G dAp
  obtain ⟨dFe_, FFe⟩ := FunY.fun eFe kFe
  have bFe := (FFe).binds (ps := ["feeds", "grid"]) fun _ _ _ _ _ _ us hl => match us, hl with | [_, _], _ => rfl
  have mFe := PySem.W.mg_of X G dFe
  obtain ⟨dTx_, FTx⟩ := FunY.fun eTx kTx
  have bTx := (FTx).binds (ps := ["setting"]) fun _ _ _ _ _ _ us hl => match us, hl with | [_], _ => rfl
  have mTx := PySem.W.mg_of X G dTx
  obtain ⟨dRd_, FRd⟩ := FunY.fun eRd kRd
  have bRd := (FRd).binds (ps := ["text"]) fun _ _ _ _ _ _ us hl => match us, hl with | [_], _ => rfl
  have mRd := PySem.W.mg_of X G dRd
  obtain ⟨dNe_, FNe⟩ := FunY.fun eNe kNe
  have bNe := (FNe).binds (ps := ["_law_source_here"]) fun _ _ _ _ _ _ us hl => match us, hl with | [_], _ => rfl
  have mNe := PySem.W.mg_of X G dNe
  obtain ⟨dKn_, FKn⟩ := FunY.fun eKn kKn
  have bKn := (FKn).binds (ps := ["_law_source_here", "_law_tags_here"]) fun _ _ _ _ _ _ us hl => match us, hl with | [_, _], _ => rfl
  have mKn := PySem.W.mg_of X G dKn
  obtain ⟨dKt_, FKt⟩ := FunY.fun eKt kKt
  have bKt := (FKt).binds (ps := ["_law_known_here"]) fun _ _ _ _ _ _ us hl => match us, hl with | [_], _ => rfl
  have mKt := PySem.W.mg_of X G dKt
  obtain ⟨dMi_, FMi⟩ := FunY.fun eMi kMi
  have bMi := (FMi).binds (ps := ["_law_source_here", "_law_things"]) fun _ _ _ _ _ _ us hl => match us, hl with | [_, _], _ => rfl
  have mMi := PySem.W.mg_of X G dMi
  obtain ⟨dMa_, FMa⟩ := FunY.fun eMa kMa
  have bMa := (FMa).binds (ps := ["_law_source_here", "_law_known_here"]) fun _ _ _ _ _ _ us hl => match us, hl with | [_, _], _ => rfl
  have mMa := PySem.W.mg_of X G dMa
  obtain ⟨dSh_, FSh⟩ := FunY.fun eSh kSh
  have bSh := (FSh).binds (ps := ["_law_mine", "_law_tags_here"]) fun _ _ _ _ _ _ us hl => match us, hl with | [_, _], _ => rfl
  have mSh := PySem.W.mg_of X G dSh
  obtain ⟨dDu_, FDu⟩ := FunY.fun eDu kDu
  have bDu := (FDu).binds (ps := ["_law_known_here", "_law_tags_here"]) fun _ _ _ _ _ _ us hl => match us, hl with | [_, _], _ => rfl
  have mDu := PySem.W.mg_of X G dDu
  obtain ⟨dCa_, FCa⟩ := FunY.fun eCa kCa
  have bCa := (FCa).binds (ps := ["_law_act"]) fun _ _ _ _ _ _ us hl => match us, hl with | [_], _ => rfl
  have mCa := PySem.W.mg_of X G dCa
  obtain ⟨dFi_, FFi⟩ := FunY.fun eFi kFi
  have bFi := (FFi).binds (ps := ["_law_e", "_law_at"]) fun _ _ _ _ _ _ us hl => match us, hl with | [_, _], _ => rfl
  have mFi := PySem.W.mg_of X G dFi
  obtain ⟨dHa_, FHa⟩ := FunY.fun eHa kHa
  have bHa := (FHa).binds (ps := []) fun _ _ _ _ _ _ us hl => match us, hl with | [], _ => rfl
  have mHa := PySem.W.mg_of X G dHa
  obtain ⟨dLa_, FLa⟩ := FunY.fun eLa kLa
  have bLa := (FLa).binds (ps := ["_law_script"]) fun _ _ _ _ _ _ us hl => match us, hl with | [_], _ => rfl
  have mLa := PySem.W.mg_of X G dLa
  obtain ⟨dRi_, FRi⟩ := FunYC.fun eRi kRi
  have bRi := (FRi.fun).binds (ps := ["_law_source_here"]) fun _ _ _ _ _ _ us hl => match us, hl with | [_], _ => rfl
  have mRi := PySem.W.mg_of X G dRi
  obtain ⟨dMin_, FMin⟩ := FunY.fun eMin kMin
  obtain ⟨dMst_, FMst⟩ := FunY.fun eMst kMst
  have bMst := (FMst).binds (ps := ["self"]) fun _ _ _ _ _ _ us hl => match us, hl with | [_], _ => rfl
  obtain ⟨dMre_, FMre⟩ := FunY.fun eMre kMre
  have bMre := (FMre).binds (ps := ["self"]) fun _ _ _ _ _ _ us hl => match us, hl with | [_], _ => rfl
  obtain ⟨dMeq_, FMeq⟩ := FunY.fun eMeq kMeq
  have bMeq := (FMeq).binds (ps := ["self", "other"]) fun _ _ _ _ _ _ us hl => match us, hl with | [_, _], _ => rfl
  obtain ⟨dMdi_, FMdi⟩ := FunY.fun eMdi kMdi
  have bMdi := (FMdi).binds (ps := ["self", "feed"]) fun _ _ _ _ _ _ us hl => match us, hl with | [_, _], _ => rfl
  obtain ⟨dMwi_, FMwi⟩ := FunY.fun eMwi kMwi
  have bMwi := (FMwi).binds (ps := ["self", "feed"]) fun _ _ _ _ _ _ us hl => match us, hl with | [_, _], _ => rfl
  obtain ⟨dMrd_, FMrd⟩ := FunY.fun eMrd kMrd
  have bMrd := (FMrd).binds (ps := ["text"]) fun _ _ _ _ _ _ us hl => match us, hl with | [_], _ => rfl
  have Mk0 : Mk K C fMin := ⟨makes, iMin, nMin, kC⟩
  have Z : Sx K C := ⟨⟨pg, hdC, po, saC⟩, noCgrid, noCapart, noCon_grid, noCat_rows, noCtext⟩
  have Y : Ti K C := ⟨caC, cn, ct, cmC⟩
  have R : ClX.CRead K C (.type "type") := ⟨rdC, gaC⟩
  have SM : Mk1.SMet K C (.type "type") "read" pO fMrd := ⟨at_rd, ⟨_, rc_rd⟩, kMrd⟩
  have kS := kit_own bC tC nfS
  have DF : Dfl K fMin D T0 T1 := ⟨⟨_, _, _, _, _, _, _, _, lkD⟩, nD1, nD2, nD3, nD4, ⟨_, _, lT0, rfl, rfl⟩, ⟨_, _, lT1, rfl, rfl⟩⟩
  obtain ⟨Tb, hTb⟩ : ∃ Tb : List (Addr × Str), Tb = [(pRi, ("_law_right.<locals>.<lambda>" : Str))] := ⟨_, rfl⟩
  refine ⟨spLawT K Tb, dLa_, [(cRi, pRi)], ?tab, ?free, fun s v => ?bind, fun H a ns hn tb hS => ⟨a, ns, rfl, hS, hn, ?tbs, fun _ => rfl⟩, fun base _ _ TT => ?run⟩
  case tab =>
    intro t ht
    rw [List.mem_singleton.mp ht]
    exact ⟨_, _, rRi, tRi⟩
  case free =>
    intro t ht
    rw [List.mem_singleton.mp ht]
    exact lRi
  case bind =>
    obtain ⟨oc, od, kV, doc, pm, an, cdv, ct, osl, rfl, lk, hcd⟩ := FLa.ex
    exact .of_eq rfl
  case tbs =>
    intro p hp
    rw [hTb] at hp
    rw [List.mem_singleton.mp hp]
    exact TabS.nil (tb _ List.mem_cons_self)
  case run =>
    have TR := TT _ List.mem_cons_self
    have iR : (pRi, ("_law_right.<locals>.<lambda>" : Str)) ∈ Tb := by rw [hTb]; exact List.mem_cons_self
    have uR : ∀ q ∈ Tb, q.1 = pRi → q.2 = ("_law_right.<locals>.<lambda>" : Str) := fun q hq e => by
      rw [hTb] at hq
      rw [List.mem_singleton.mp hq]
    have GIt := ok_integer (P := l.prog) (w := w) (base := base) FIt TK
    have GNa := ok_name (P := l.prog) (w := w) (base := base) FNa TK mM FLe bLe mLe FDi bDi mDi
    have GGr := ok_grid (P := l.prog) (w := w) (base := base) FGr TK mS FIt bIt mIt GIt
    have GCg := ok_ckgrid (P := l.prog) (w := w) (base := base) FCg E6 mE6 FGr bGr mGr GGr
    have GCn := ok_ckname (P := l.prog) (w := w) (base := base) FCn E0 mE0 FNa bNa mNa GNa
    have GDs := ok_dist (P := l.prog) (w := w) (base := base) FDs TK mD FNa bNa mNa GNa FIt bIt mIt GIt
    have GAp := ok_apart (P := l.prog) (w := w) (base := base) FAp TK KS E14 mE14 FDs bDs mDs GDs
    have GFe := ok_feeds (P := l.prog) (w := w) (base := base) FFe TK KS E15 mE15 FNa bNa mNa GNa
    have GNt := ok_it (P := l.prog) (w := w) (base := base) FNt TK
    have GTx := ok_text (P := l.prog) (w := w) (base := base) FTx Z FNt bNt mNt GNt
    have GI := ok_sinit (P := l.prog) (w := w) (base := base) (Ce := (fun i => ([C0, C1, C2, C3, C4, C5, C6, C7, C8, C9, C10, C11, C12, C13, C14, C15, C16, C17, B0, B1, B2, B3] : List Addr).getD i 0)) FMin TK KS Z FCg bCg mCg GCg FAp bAp mAp GAp FFe bFe mFe GFe FCn bCn mCn GCn FTx bTx mTx GTx
    have GS := toR0 (ok_str (P := l.prog) (w := w) (base := base) FMst TK Z) bMst
    have GR := toR0 (ok_repr (P := l.prog) (w := w) (mg := mg) (base := base) FMre Z) bMre
    have GE := toR0 (ok_eq (mg := mg) (P := l.prog) (w := w) (base := base) FMeq TK Z Y mC) bMeq
    have GD := ok_ds (P := l.prog) (w := w) (base := base) FMdi KS Z FCn bCn mCn GCn
    have GW := ok_with (P := l.prog) (w := w) (base := base) FMwi Z FCn bCn mCn GCn mC Mk0 (kb_all FMin) GI
    have O : Own l.prog w K mg base C (fun i => ([C0, C1, C2, C3, C4, C5, C6, C7, C8, C9, C10, C11, C12, C13, C14, C15, C16, C17, B0, B1, B2, B3] : List Addr).getD i 0) fMst fMre fMeq fMdi fMwi dMdi_ dMwi_ := ⟨nbC, nlC, ⟨iMst, nMst⟩, ⟨iMre, nMre⟩, ⟨iMeq, nMeq⟩, GS, GR, GE, ⟨iMdi, nMdi, kMdi⟩, bMdi, GD, ⟨iMwi, nMwi, kMwi⟩, bMwi, GW⟩
    have GNi := ok_in (P := l.prog) (w := w) (base := base) FNi TK E5 mE5 FDi bDi mDi (ok_digit (mg := mg) FDi)
    have GRd0 := ok_rd (P := l.prog) (w := w) (base := base) FRd TK E5 mE5 FNi bNi mNi GNi mC Mk0 DF FMin GI
    have GRd := ok_read (P := l.prog) (w := w) (base := base) FMrd TK Z E5 mE5 FRd bRd mRd GRd0
    have GTs := ok_tags (P := l.prog) (w := w) (base := base) FTs TB FPi bPi mPi FOn bOn mOn FTa bTa mTa
    have GKn := ok_known (P := l.prog) (w := w) (base := base) FKn TB FPi bPi mPi FOn bOn mOn FNe bNe mNe
    have GKt := ok_knownText (P := l.prog) (w := w) (base := base) FKt TB (PySem.W.mg_none_of X G z_sorted)
    have GMi := ok_mixed (P := l.prog) (w := w) (base := base) FMi TB (PySem.W.mg_none_of X G z_list) FPi bPi mPi
    have GMa := ok_made (P := l.prog) (w := w) (base := base) FMa TK FMi bMi mMi GMi mC Mk0 FMin GI
    have GSh := ok_shown (P := l.prog) (w := w) (base := base) FSh TK (PySem.W.mg_none_of X G z_repr) Z O
    have GDu := ok_dueL (P := l.prog) (w := w) (base := base) FDu TK KS (PySem.W.mg_none_of X G z_repr) FKt bKt mKt GKt
    have X2 : Env13 l.prog w K mg base C (fun i => ([C0, C1, C2, C3, C4, C5, C6, C7, C8, C9, C10, C11, C12, C13, C14, C15, C16, C17, B0, B1, B2, B3] : List Addr).getD i 0) (fun j => ([C0, C1, C2, C3, C4, C5, C6, C7, C8, C9, C10, C11, C12, C13, C14, C15, C16, C17, B0, B1, B2, B3] : List Addr).getD (18 + j) 0) fMst fMre fMeq fMdi fMwi pO fMrd fCa fFi fPi fOn fKt fDu fSh fMa (.type "type") dMdi_ dMwi_ dMrd_ dCa_ dFi_ dPi_ dOn_ dKt_ dDu_ dSh_ dMa_ := ⟨mC, Z, Y, O, FMdi, FMwi, neC, nfS, kS, R, SM, FMrd, GRd, CT, FCa, bCa, mCa, FFi, bFi, mFi, FPi, bPi, mPi, FOn, bOn, mOn, FKt, bKt, mKt, GKt, FDu, bDu, mDu, GDu, FSh, bSh, mSh, GSh, FMa, bMa, mMa, GMa⟩
    have GRi := ok_right FRi X2 TB TK (PySem.W.mg_none_of X G z_repr) TR iR uR FTs bTs mTs GTs FKn bKn mKn GKn
    have GHa := ok_hand (P := l.prog) (w := w) (base := base) FHa TK mC Mk0 FMin DF GI Z Y O
    exact ok_law FLa TK TB (PySem.W.mg_none_of X G z_max) (PySem.W.mg_none_of X G z_min) FRi.fun bRi mRi GRi FHa bHa mHa GHa FNu bNu mNu FSo bSo mSo
end K13


open PySem PySem.W PyProof.Rows
set_option maxRecDepth 100000 in
set_option maxHeartbeats 0 in
theorem PySem.Challenge.cw_latestrows_k13_settings_made_holds : PySem.Challenge.rw_latestrows_k13_settings_made.Holds := by
  w_on; o_law; k_head; (case hw => w_witness2)
  k_fill
  refine Tr4.walk_tabs (l := PySem.Challenge.rw_latestrows_k13_settings_made) (n := 63) (k := 11) (x := "_law_script") rfl (by decide) rfl ⟨rfl, by decide, by decide⟩ (fun w h Y => PySem.W.km_in_of Y) ?F
  case F =>
    intro w mg fa h KX G hmg
    refine' K13.all_mk KX G hmg ?hy_gC ?hy_gM ?hy_gS ?hy_gD ?hy_z_len ?hy_z_int ?hy_z_abs ?hy_z_str ?hy_z_bool ?hy_z_all ?hy_z_tuple ?hy_z_enumerate ?hy_z_sorted ?hy_z_max ?hy_z_min ?hy_z_set ?hy_z_dict ?hy_g0 ?hy_g1 ?hy_g2 ?hy_g3 ?hy_g4 ?hy_g5 ?hy_g6 ?hy_g7 ?hy_g8 ?hy_g9 ?hy_g10 ?hy_g11 ?hy_g12 ?hy_g13 ?hy_g14 ?hy_g15 ?hy_g16 ?hy_g17 ?hy_h0 ?hy_ib0 ?hy_tb0 ?hy_sB0 ?hy_h1 ?hy_ib1 ?hy_tb1 ?hy_sB1 ?hy_h2 ?hy_ib2 ?hy_tb2 ?hy_sB2 ?hy_h3 ?hy_ib3 ?hy_tb3 ?hy_sB3 ?hy_x0 ?hy_ga0 ?hy_gt0 ?hy_sb0 ?hy_hd0 ?hy_hc0 ?hy_mo0 ?hy_no0 ?hy_kc0 ?hy_sa0 ?hy_ic0 ?hy_ti0 ?hy_fn0 ?hy_tc0 ?hy_x1 ?hy_ga1 ?hy_gt1 ?hy_sb1 ?hy_hd1 ?hy_hc1 ?hy_mo1 ?hy_no1 ?hy_x2 ?hy_ga2 ?hy_gt2 ?hy_sb2 ?hy_hd2 ?hy_hc2 ?hy_mo2 ?hy_no2 ?hy_x3 ?hy_ga3 ?hy_gt3 ?hy_sb3 ?hy_hd3 ?hy_hc3 ?hy_mo3 ?hy_no3 ?hy_x4 ?hy_ga4 ?hy_gt4 ?hy_sb4 ?hy_hd4 ?hy_hc4 ?hy_mo4 ?hy_no4 ?hy_x5 ?hy_ga5 ?hy_gt5 ?hy_sb5 ?hy_hd5 ?hy_hc5 ?hy_mo5 ?hy_no5 ?hy_kc5 ?hy_sa5 ?hy_ic5 ?hy_ti5 ?hy_fn5 ?hy_tc5 ?hy_x6 ?hy_ga6 ?hy_gt6 ?hy_sb6 ?hy_hd6 ?hy_hc6 ?hy_mo6 ?hy_no6 ?hy_kc6 ?hy_sa6 ?hy_ic6 ?hy_ti6 ?hy_fn6 ?hy_tc6 ?hy_x7 ?hy_ga7 ?hy_gt7 ?hy_sb7 ?hy_hd7 ?hy_hc7 ?hy_mo7 ?hy_no7 ?hy_x8 ?hy_ga8 ?hy_gt8 ?hy_sb8 ?hy_hd8 ?hy_hc8 ?hy_mo8 ?hy_no8 ?hy_x9 ?hy_ga9 ?hy_gt9 ?hy_sb9 ?hy_hd9 ?hy_hc9 ?hy_mo9 ?hy_no9 ?hy_x10 ?hy_ga10 ?hy_gt10 ?hy_sb10 ?hy_hd10 ?hy_hc10 ?hy_mo10 ?hy_no10 ?hy_x11 ?hy_ga11 ?hy_gt11 ?hy_sb11 ?hy_hd11 ?hy_hc11 ?hy_mo11 ?hy_no11 ?hy_x12 ?hy_ga12 ?hy_gt12 ?hy_sb12 ?hy_hd12 ?hy_hc12 ?hy_mo12 ?hy_no12 ?hy_x13 ?hy_ga13 ?hy_gt13 ?hy_sb13 ?hy_hd13 ?hy_hc13 ?hy_mo13 ?hy_no13 ?hy_x14 ?hy_ga14 ?hy_gt14 ?hy_sb14 ?hy_hd14 ?hy_hc14 ?hy_mo14 ?hy_no14 ?hy_kc14 ?hy_sa14 ?hy_ic14 ?hy_ti14 ?hy_fn14 ?hy_tc14 ?hy_x15 ?hy_ga15 ?hy_gt15 ?hy_sb15 ?hy_hd15 ?hy_hc15 ?hy_mo15 ?hy_no15 ?hy_kc15 ?hy_sa15 ?hy_ic15 ?hy_ti15 ?hy_fn15 ?hy_tc15 ?hy_x16 ?hy_ga16 ?hy_gt16 ?hy_sb16 ?hy_hd16 ?hy_hc16 ?hy_mo16 ?hy_no16 ?hy_x17 ?hy_ga17 ?hy_gt17 ?hy_sb17 ?hy_hd17 ?hy_hc17 ?hy_mo17 ?hy_cn ?hy_ct ?hy_z_isinstance ?hy_z_list ?hy_z_range ?hy_z_repr ?hy_z_ValueError ?hy_z_LookupError ?hy_z_RuntimeError ?hy_z_ArithmeticError ?hy_nd ?hy_dNu ?hy_eNu ?hy_kNu ?hy_dSo ?hy_eSo ?hy_kSo ?hy_dPi ?hy_ePi ?hy_kPi ?hy_dOn ?hy_eOn ?hy_kOn ?hy_dTa ?hy_eTa ?hy_kTa ?hy_dTs ?hy_eTs ?hy_kTs ?hy_dIt ?hy_eIt ?hy_kIt ?hy_dNa ?hy_eNa ?hy_kNa ?hy_dLe ?hy_eLe ?hy_kLe ?hy_dDi ?hy_eDi ?hy_kDi ?hy_dGr ?hy_eGr ?hy_kGr ?hy_dCg ?hy_eCg ?hy_kCg ?hy_dCn ?hy_eCn ?hy_kCn ?hy_dNt ?hy_eNt ?hy_kNt ?hy_dNi ?hy_eNi ?hy_kNi ?hy_dDs ?hy_eDs ?hy_kDs ?hy_dAp ?hy_eAp ?hy_kAp ?hy_dFe ?hy_eFe ?hy_kFe ?hy_dTx ?hy_eTx ?hy_kTx ?hy_dRd ?hy_eRd ?hy_kRd ?hy_dNe ?hy_eNe ?hy_kNe ?hy_dKn ?hy_eKn ?hy_kKn ?hy_dKt ?hy_eKt ?hy_kKt ?hy_dMi ?hy_eMi ?hy_kMi ?hy_dMa ?hy_eMa ?hy_kMa ?hy_dSh ?hy_eSh ?hy_kSh ?hy_dDu ?hy_eDu ?hy_kDu ?hy_dCa ?hy_eCa ?hy_kCa ?hy_dFi ?hy_eFi ?hy_kFi ?hy_dHa ?hy_eHa ?hy_kHa ?hy_dLa ?hy_eLa ?hy_kLa ?hy_dRi ?hy_eRi ?hy_kRi ?hy_tRi ?hy_lRi ?hy_rRi ?hy_iMin ?hy_nMin ?hy_eMin ?hy_kMin ?hy_iMst ?hy_nMst ?hy_eMst ?hy_kMst ?hy_iMre ?hy_nMre ?hy_eMre ?hy_kMre ?hy_iMeq ?hy_nMeq ?hy_eMeq ?hy_kMeq ?hy_iMdi ?hy_nMdi ?hy_eMdi ?hy_kMdi ?hy_iMwi ?hy_nMwi ?hy_eMwi ?hy_kMwi ?hy_at_rd ?hy_rc_rd ?hy_eMrd ?hy_kMrd ?hy_lkD ?hy_nD1 ?hy_nD2 ?hy_nD3 ?hy_nD4 ?hy_lT0 ?hy_lT1 ?hy_makes ?hy_kC ?hy_pg ?hy_hdC ?hy_po ?hy_saC ?hy_caC ?hy_cmC ?hy_rdC ?hy_gaC ?hy_neC ?hy_nbC ?hy_nlC ?hy_nfS ?hy_bC ?hy_tC ?hy_noCgrid ?hy_noCapart ?hy_noCon_grid ?hy_noCat_rows ?hy_noCtext
    (case hy_gC => k_is)
    (case hy_gM => k_is)
    (case hy_gS => k_is)
    (case hy_gD => k_is)
    (case hy_z_len => k_is)
    (case hy_z_int => k_is)
    (case hy_z_abs => k_is)
    (case hy_z_str => k_is)
    (case hy_z_bool => k_is)
    (case hy_z_all => k_is)
    (case hy_z_tuple => k_is)
    (case hy_z_enumerate => k_is)
    (case hy_z_sorted => k_is)
    (case hy_z_max => k_is)
    (case hy_z_min => k_is)
    (case hy_z_set => k_is)
    (case hy_z_dict => k_is)
    (case hy_g0 => k_is)
    (case hy_g1 => k_is)
    (case hy_g2 => k_is)
    (case hy_g3 => k_is)
    (case hy_g4 => k_is)
    (case hy_g5 => k_is)
    (case hy_g6 => k_is)
    (case hy_g7 => k_is)
    (case hy_g8 => k_is)
    (case hy_g9 => k_is)
    (case hy_g10 => k_is)
    (case hy_g11 => k_is)
    (case hy_g12 => k_is)
    (case hy_g13 => k_is)
    (case hy_g14 => k_is)
    (case hy_g15 => k_is)
    (case hy_g16 => k_is)
    (case hy_g17 => k_is)
    (case hy_h0 => k_is)
    (case hy_ib0 => k_is)
    (case hy_tb0 => k_is)
    (case hy_sB0 => k_is)
    (case hy_h1 => k_is)
    (case hy_ib1 => k_is)
    (case hy_tb1 => k_is)
    (case hy_sB1 => k_is)
    (case hy_h2 => k_is)
    (case hy_ib2 => k_is)
    (case hy_tb2 => k_is)
    (case hy_sB2 => k_is)
    (case hy_h3 => k_is)
    (case hy_ib3 => k_is)
    (case hy_tb3 => k_is)
    (case hy_sB3 => k_is)
    (case hy_x0 => (refine' Tr4.lkx_mk ?hz_xy0; (case hz_xy0 => k_is)))
    (case hy_ga0 => k_is)
    (case hy_gt0 => k_is)
    (case hy_sb0 => k_is)
    (case hy_hd0 => k_is)
    (case hy_hc0 => k_is)
    (case hy_mo0 => k_is)
    (case hy_no0 => k_is)
    (case hy_kc0 => k_is)
    (case hy_sa0 => k_is)
    (case hy_ic0 => k_is)
    (case hy_ti0 => k_is)
    (case hy_fn0 => (refine' Tr4.fn_value_mk ?hz_fy0 ?hz_fz0; (case hz_fy0 => k_is); (case hz_fz0 => k_is)))
    (case hy_tc0 => k_is)
    (case hy_x1 => (refine' Tr4.lkx_mk ?hz_xy1; (case hz_xy1 => k_is)))
    (case hy_ga1 => k_is)
    (case hy_gt1 => k_is)
    (case hy_sb1 => k_is)
    (case hy_hd1 => k_is)
    (case hy_hc1 => k_is)
    (case hy_mo1 => k_is)
    (case hy_no1 => k_is)
    (case hy_x2 => (refine' Tr4.lkx_mk ?hz_xy2; (case hz_xy2 => k_is)))
    (case hy_ga2 => k_is)
    (case hy_gt2 => k_is)
    (case hy_sb2 => k_is)
    (case hy_hd2 => k_is)
    (case hy_hc2 => k_is)
    (case hy_mo2 => k_is)
    (case hy_no2 => k_is)
    (case hy_x3 => (refine' Tr4.lkx_mk ?hz_xy3; (case hz_xy3 => k_is)))
    (case hy_ga3 => k_is)
    (case hy_gt3 => k_is)
    (case hy_sb3 => k_is)
    (case hy_hd3 => k_is)
    (case hy_hc3 => k_is)
    (case hy_mo3 => k_is)
    (case hy_no3 => k_is)
    (case hy_x4 => (refine' Tr4.lkx_mk ?hz_xy4; (case hz_xy4 => k_is)))
    (case hy_ga4 => k_is)
    (case hy_gt4 => k_is)
    (case hy_sb4 => k_is)
    (case hy_hd4 => k_is)
    (case hy_hc4 => k_is)
    (case hy_mo4 => k_is)
    (case hy_no4 => k_is)
    (case hy_x5 => (refine' Tr4.lkx_mk ?hz_xy5; (case hz_xy5 => k_is)))
    (case hy_ga5 => k_is)
    (case hy_gt5 => k_is)
    (case hy_sb5 => k_is)
    (case hy_hd5 => k_is)
    (case hy_hc5 => k_is)
    (case hy_mo5 => k_is)
    (case hy_no5 => k_is)
    (case hy_kc5 => k_is)
    (case hy_sa5 => k_is)
    (case hy_ic5 => k_is)
    (case hy_ti5 => k_is)
    (case hy_fn5 => (refine' Tr4.fn_value_mk ?hz_fy5 ?hz_fz5; (case hz_fy5 => k_is); (case hz_fz5 => k_is)))
    (case hy_tc5 => k_is)
    (case hy_x6 => (refine' Tr4.lkx_mk ?hz_xy6; (case hz_xy6 => k_is)))
    (case hy_ga6 => k_is)
    (case hy_gt6 => k_is)
    (case hy_sb6 => k_is)
    (case hy_hd6 => k_is)
    (case hy_hc6 => k_is)
    (case hy_mo6 => k_is)
    (case hy_no6 => k_is)
    (case hy_kc6 => k_is)
    (case hy_sa6 => k_is)
    (case hy_ic6 => k_is)
    (case hy_ti6 => k_is)
    (case hy_fn6 => (refine' Tr4.fn_value_mk ?hz_fy6 ?hz_fz6; (case hz_fy6 => k_is); (case hz_fz6 => k_is)))
    (case hy_tc6 => k_is)
    (case hy_x7 => (refine' Tr4.lkx_mk ?hz_xy7; (case hz_xy7 => k_is)))
    (case hy_ga7 => k_is)
    (case hy_gt7 => k_is)
    (case hy_sb7 => k_is)
    (case hy_hd7 => k_is)
    (case hy_hc7 => k_is)
    (case hy_mo7 => k_is)
    (case hy_no7 => k_is)
    (case hy_x8 => (refine' Tr4.lkx_mk ?hz_xy8; (case hz_xy8 => k_is)))
    (case hy_ga8 => k_is)
    (case hy_gt8 => k_is)
    (case hy_sb8 => k_is)
    (case hy_hd8 => k_is)
    (case hy_hc8 => k_is)
    (case hy_mo8 => k_is)
    (case hy_no8 => k_is)
    (case hy_x9 => (refine' Tr4.lkx_mk ?hz_xy9; (case hz_xy9 => k_is)))
    (case hy_ga9 => k_is)
    (case hy_gt9 => k_is)
    (case hy_sb9 => k_is)
    (case hy_hd9 => k_is)
    (case hy_hc9 => k_is)
    (case hy_mo9 => k_is)
    (case hy_no9 => k_is)
    (case hy_x10 => (refine' Tr4.lkx_mk ?hz_xy10; (case hz_xy10 => k_is)))
    (case hy_ga10 => k_is)
    (case hy_gt10 => k_is)
    (case hy_sb10 => k_is)
    (case hy_hd10 => k_is)
    (case hy_hc10 => k_is)
    (case hy_mo10 => k_is)
    (case hy_no10 => k_is)
    (case hy_x11 => (refine' Tr4.lkx_mk ?hz_xy11; (case hz_xy11 => k_is)))
    (case hy_ga11 => k_is)
    (case hy_gt11 => k_is)
    (case hy_sb11 => k_is)
    (case hy_hd11 => k_is)
    (case hy_hc11 => k_is)
    (case hy_mo11 => k_is)
    (case hy_no11 => k_is)
    (case hy_x12 => (refine' Tr4.lkx_mk ?hz_xy12; (case hz_xy12 => k_is)))
    (case hy_ga12 => k_is)
    (case hy_gt12 => k_is)
    (case hy_sb12 => k_is)
    (case hy_hd12 => k_is)
    (case hy_hc12 => k_is)
    (case hy_mo12 => k_is)
    (case hy_no12 => k_is)
    (case hy_x13 => (refine' Tr4.lkx_mk ?hz_xy13; (case hz_xy13 => k_is)))
    (case hy_ga13 => k_is)
    (case hy_gt13 => k_is)
    (case hy_sb13 => k_is)
    (case hy_hd13 => k_is)
    (case hy_hc13 => k_is)
    (case hy_mo13 => k_is)
    (case hy_no13 => k_is)
    (case hy_x14 => (refine' Tr4.lkx_mk ?hz_xy14; (case hz_xy14 => k_is)))
    (case hy_ga14 => k_is)
    (case hy_gt14 => k_is)
    (case hy_sb14 => k_is)
    (case hy_hd14 => k_is)
    (case hy_hc14 => k_is)
    (case hy_mo14 => k_is)
    (case hy_no14 => k_is)
    (case hy_kc14 => k_is)
    (case hy_sa14 => k_is)
    (case hy_ic14 => k_is)
    (case hy_ti14 => k_is)
    (case hy_fn14 => (refine' Tr4.fn_index_mk ?hz_fy14 ?hz_fz14; (case hz_fy14 => k_is); (case hz_fz14 => k_is)))
    (case hy_tc14 => k_is)
    (case hy_x15 => (refine' Tr4.lkx_mk ?hz_xy15; (case hz_xy15 => k_is)))
    (case hy_ga15 => k_is)
    (case hy_gt15 => k_is)
    (case hy_sb15 => k_is)
    (case hy_hd15 => k_is)
    (case hy_hc15 => k_is)
    (case hy_mo15 => k_is)
    (case hy_no15 => k_is)
    (case hy_kc15 => k_is)
    (case hy_sa15 => k_is)
    (case hy_ic15 => k_is)
    (case hy_ti15 => k_is)
    (case hy_fn15 => (refine' Tr4.fn_index_mk ?hz_fy15 ?hz_fz15; (case hz_fy15 => k_is); (case hz_fz15 => k_is)))
    (case hy_tc15 => k_is)
    (case hy_x16 => (refine' Tr4.lkx_mk ?hz_xy16; (case hz_xy16 => k_is)))
    (case hy_ga16 => k_is)
    (case hy_gt16 => k_is)
    (case hy_sb16 => k_is)
    (case hy_hd16 => k_is)
    (case hy_hc16 => k_is)
    (case hy_mo16 => k_is)
    (case hy_no16 => k_is)
    (case hy_x17 => (refine' Tr4.lkx_mk ?hz_xy17; (case hz_xy17 => k_is)))
    (case hy_ga17 => k_is)
    (case hy_gt17 => k_is)
    (case hy_sb17 => k_is)
    (case hy_hd17 => k_is)
    (case hy_hc17 => k_is)
    (case hy_mo17 => k_is)
    (case hy_cn => k_is)
    (case hy_ct => k_is)
    (case hy_z_isinstance => k_is)
    (case hy_z_list => k_is)
    (case hy_z_range => k_is)
    (case hy_z_repr => k_is)
    (case hy_z_ValueError => k_is)
    (case hy_z_LookupError => k_is)
    (case hy_z_RuntimeError => k_is)
    (case hy_z_ArithmeticError => k_is)
    (case hy_nd => decide)
    (case hy_dNu => k_is)
    (case hy_eNu => (refine' Tr4.funy_mk ?hz_eyNu ?hz_ezNu; (case hz_eyNu => k_is); (case hz_ezNu => k_is)))
    (case hy_kNu => k_is)
    (case hy_dSo => k_is)
    (case hy_eSo => (refine' Tr4.funy_mk ?hz_eySo ?hz_ezSo; (case hz_eySo => k_is); (case hz_ezSo => k_is)))
    (case hy_kSo => k_is)
    (case hy_dPi => k_is)
    (case hy_ePi => (refine' Tr4.funy_mk ?hz_eyPi ?hz_ezPi; (case hz_eyPi => k_is); (case hz_ezPi => k_is)))
    (case hy_kPi => k_is)
    (case hy_dOn => k_is)
    (case hy_eOn => (refine' Tr4.funy_mk ?hz_eyOn ?hz_ezOn; (case hz_eyOn => k_is); (case hz_ezOn => k_is)))
    (case hy_kOn => k_is)
    (case hy_dTa => k_is)
    (case hy_eTa => (refine' Tr4.funy_mk ?hz_eyTa ?hz_ezTa; (case hz_eyTa => k_is); (case hz_ezTa => k_is)))
    (case hy_kTa => k_is)
    (case hy_dTs => k_is)
    (case hy_eTs => (refine' Tr4.funy_mk ?hz_eyTs ?hz_ezTs; (case hz_eyTs => k_is); (case hz_ezTs => k_is)))
    (case hy_kTs => k_is)
    (case hy_dIt => k_is)
    (case hy_eIt => (refine' Tr4.funy_mk ?hz_eyIt ?hz_ezIt; (case hz_eyIt => k_is); (case hz_ezIt => k_is)))
    (case hy_kIt => k_is)
    (case hy_dNa => k_is)
    (case hy_eNa => (refine' Tr4.funy_mk ?hz_eyNa ?hz_ezNa; (case hz_eyNa => k_is); (case hz_ezNa => k_is)))
    (case hy_kNa => k_is)
    (case hy_dLe => k_is)
    (case hy_eLe => (refine' Tr4.funy_mk ?hz_eyLe ?hz_ezLe; (case hz_eyLe => k_is); (case hz_ezLe => k_is)))
    (case hy_kLe => k_is)
    (case hy_dDi => k_is)
    (case hy_eDi => (refine' Tr4.funy_mk ?hz_eyDi ?hz_ezDi; (case hz_eyDi => k_is); (case hz_ezDi => k_is)))
    (case hy_kDi => k_is)
    (case hy_dGr => k_is)
    (case hy_eGr => (refine' Tr4.funy_mk ?hz_eyGr ?hz_ezGr; (case hz_eyGr => k_is); (case hz_ezGr => k_is)))
    (case hy_kGr => k_is)
    (case hy_dCg => k_is)
    (case hy_eCg => (refine' Tr4.funy_mk ?hz_eyCg ?hz_ezCg; (case hz_eyCg => k_is); (case hz_ezCg => k_is)))
    (case hy_kCg => k_is)
    (case hy_dCn => k_is)
    (case hy_eCn => (refine' Tr4.funy_mk ?hz_eyCn ?hz_ezCn; (case hz_eyCn => k_is); (case hz_ezCn => k_is)))
    (case hy_kCn => k_is)
    (case hy_dNt => k_is)
    (case hy_eNt => (refine' Tr4.funy_mk ?hz_eyNt ?hz_ezNt; (case hz_eyNt => k_is); (case hz_ezNt => k_is)))
    (case hy_kNt => k_is)
    (case hy_dNi => k_is)
    (case hy_eNi => (refine' Tr4.funy_mk ?hz_eyNi ?hz_ezNi; (case hz_eyNi => k_is); (case hz_ezNi => k_is)))
    (case hy_kNi => k_is)
    (case hy_dDs => k_is)
    (case hy_eDs => (refine' Tr4.funy_mk ?hz_eyDs ?hz_ezDs; (case hz_eyDs => k_is); (case hz_ezDs => k_is)))
    (case hy_kDs => k_is)
    (case hy_dAp => k_is)
    (case hy_eAp => (refine' Tr4.funy_mk ?hz_eyAp ?hz_ezAp; (case hz_eyAp => k_is); (case hz_ezAp => k_is)))
    (case hy_kAp => k_is)
    (case hy_dFe => k_is)
    (case hy_eFe => (refine' Tr4.funy_mk ?hz_eyFe ?hz_ezFe; (case hz_eyFe => k_is); (case hz_ezFe => k_is)))
    (case hy_kFe => k_is)
    (case hy_dTx => k_is)
    (case hy_eTx => (refine' Tr4.funy_mk ?hz_eyTx ?hz_ezTx; (case hz_eyTx => k_is); (case hz_ezTx => k_is)))
    (case hy_kTx => k_is)
    (case hy_dRd => k_is)
    (case hy_eRd => (refine' Tr4.funy_mk ?hz_eyRd ?hz_ezRd; (case hz_eyRd => k_is); (case hz_ezRd => k_is)))
    (case hy_kRd => k_is)
    (case hy_dNe => k_is)
    (case hy_eNe => (refine' Tr4.funy_mk ?hz_eyNe ?hz_ezNe; (case hz_eyNe => k_is); (case hz_ezNe => k_is)))
    (case hy_kNe => k_is)
    (case hy_dKn => k_is)
    (case hy_eKn => (refine' Tr4.funy_mk ?hz_eyKn ?hz_ezKn; (case hz_eyKn => k_is); (case hz_ezKn => k_is)))
    (case hy_kKn => k_is)
    (case hy_dKt => k_is)
    (case hy_eKt => (refine' Tr4.funy_mk ?hz_eyKt ?hz_ezKt; (case hz_eyKt => k_is); (case hz_ezKt => k_is)))
    (case hy_kKt => k_is)
    (case hy_dMi => k_is)
    (case hy_eMi => (refine' Tr4.funy_mk ?hz_eyMi ?hz_ezMi; (case hz_eyMi => k_is); (case hz_ezMi => k_is)))
    (case hy_kMi => k_is)
    (case hy_dMa => k_is)
    (case hy_eMa => (refine' Tr4.funy_mk ?hz_eyMa ?hz_ezMa; (case hz_eyMa => k_is); (case hz_ezMa => k_is)))
    (case hy_kMa => k_is)
    (case hy_dSh => k_is)
    (case hy_eSh => (refine' Tr4.funy_mk ?hz_eySh ?hz_ezSh; (case hz_eySh => k_is); (case hz_ezSh => k_is)))
    (case hy_kSh => k_is)
    (case hy_dDu => k_is)
    (case hy_eDu => (refine' Tr4.funy_mk ?hz_eyDu ?hz_ezDu; (case hz_eyDu => k_is); (case hz_ezDu => k_is)))
    (case hy_kDu => k_is)
    (case hy_dCa => k_is)
    (case hy_eCa => (refine' Tr4.funy_mk ?hz_eyCa ?hz_ezCa; (case hz_eyCa => k_is); (case hz_ezCa => k_is)))
    (case hy_kCa => k_is)
    (case hy_dFi => k_is)
    (case hy_eFi => (refine' Tr4.funy_mk ?hz_eyFi ?hz_ezFi; (case hz_eyFi => k_is); (case hz_ezFi => k_is)))
    (case hy_kFi => k_is)
    (case hy_dHa => k_is)
    (case hy_eHa => (refine' Tr4.funy_mk ?hz_eyHa ?hz_ezHa; (case hz_eyHa => k_is); (case hz_ezHa => k_is)))
    (case hy_kHa => k_is)
    (case hy_dLa => k_is)
    (case hy_eLa => (refine' Tr4.funy_mk ?hz_eyLa ?hz_ezLa; (case hz_eyLa => k_is); (case hz_ezLa => k_is)))
    (case hy_kLa => k_is)
    (case hy_dRi => k_is)
    (case hy_eRi => (refine' Tr4.funyc_mk ?hz_eyRi ?hz_ezRi; (case hz_eyRi => k_is); (case hz_ezRi => k_is)))
    (case hy_kRi => k_is)
    (case hy_tRi => rfl)
    (case hy_lRi => rfl)
    (case hy_rRi => first | rfl | kernel_rfl)
    (case hy_iMin => k_is)
    (case hy_nMin => k_is)
    (case hy_eMin => (refine' Tr4.funy_mk ?hz_eyMin ?hz_ezMin; (case hz_eyMin => k_is); (case hz_ezMin => k_is)))
    (case hy_kMin => k_is)
    (case hy_iMst => k_is)
    (case hy_nMst => k_is)
    (case hy_eMst => (refine' Tr4.funy_mk ?hz_eyMst ?hz_ezMst; (case hz_eyMst => k_is); (case hz_ezMst => k_is)))
    (case hy_kMst => k_is)
    (case hy_iMre => k_is)
    (case hy_nMre => k_is)
    (case hy_eMre => (refine' Tr4.funy_mk ?hz_eyMre ?hz_ezMre; (case hz_eyMre => k_is); (case hz_ezMre => k_is)))
    (case hy_kMre => k_is)
    (case hy_iMeq => k_is)
    (case hy_nMeq => k_is)
    (case hy_eMeq => (refine' Tr4.funy_mk ?hz_eyMeq ?hz_ezMeq; (case hz_eyMeq => k_is); (case hz_ezMeq => k_is)))
    (case hy_kMeq => k_is)
    (case hy_iMdi => k_is)
    (case hy_nMdi => k_is)
    (case hy_eMdi => (refine' Tr4.funy_mk ?hz_eyMdi ?hz_ezMdi; (case hz_eyMdi => k_is); (case hz_ezMdi => k_is)))
    (case hy_kMdi => k_is)
    (case hy_iMwi => k_is)
    (case hy_nMwi => k_is)
    (case hy_eMwi => (refine' Tr4.funy_mk ?hz_eyMwi ?hz_ezMwi; (case hz_eyMwi => k_is); (case hz_ezMwi => k_is)))
    (case hy_kMwi => k_is)
    (case hy_at_rd => k_is)
    (case hy_rc_rd => k_is)
    (case hy_eMrd => (refine' Tr4.funy_mk ?hz_eyMrd ?hz_ezMrd; (case hz_eyMrd => k_is); (case hz_ezMrd => k_is)))
    (case hy_kMrd => k_is)
    (case hy_lkD => k_is)
    (case hy_nD1 => k_is)
    (case hy_nD2 => k_is)
    (case hy_nD3 => k_is)
    (case hy_nD4 => k_is)
    (case hy_lT0 => k_is)
    (case hy_lT1 => k_is)
    (case hy_makes => k_is)
    (case hy_kC => k_is)
    (case hy_pg => k_is)
    (case hy_hdC => k_is)
    (case hy_po => k_is)
    (case hy_saC => k_is)
    (case hy_caC => k_is)
    (case hy_cmC => k_is)
    (case hy_rdC => k_is)
    (case hy_gaC => k_is)
    (case hy_neC => k_is)
    (case hy_nbC => k_is)
    (case hy_nlC => k_is)
    (case hy_nfS => k_is)
    (case hy_bC => k_is)
    (case hy_tC => k_is)
    (case hy_noCgrid => k_is)
    (case hy_noCapart => k_is)
    (case hy_noCon_grid => k_is)
    (case hy_noCat_rows => k_is)
    (case hy_noCtext => k_is)


