import PyProof.Rows.All
import Wide.All
import OpenK.AllK
import Wide.FinOn
import PyProof.FString3
import PyProof.StrBlock2
import PyProof.ReprRoads
import KE.KxField
import HandS.ForMost
import HandS.EndTab
import HandS.WordsExc
import HandS.ExcOwn
import HandS.ExcValue
import HandS.ExcIs
import HandS.IsInst
import HandS.StrMore
import HandS.FStr
import HandS.Style
import HandS.Wide
import HandS.WideBits
import HandS.RaiseMore
import HandS.Small
import HandS.Evl
import HandS.Defaults
import KE.KExcSuper
import KE.KExcIs
import PySem.Challenge.RW_pricedreels_k45_webs_waits_and_kept_fram
import KE.DataMinMax
import HandS.TupMul
import HandS.TupAny
import PyProof.InstEq
import HandS.OwnEq
import HandS.Zip
import HandS.Walk
import PyProof.Draws
import PyProof.ReprReads
import PyProof.ReprHeads
import PyProof.ReprDict
import HandS.FStrTup
import PyProof.EqKinds
import PyProof.FactsAll.dict_1
import PyProof.FactsAll.subtypes_3
import HandS.Deep
import HandS.TupSets
import KE.SortData
import HandS.Sort
import HandS.List
import HandS.Strs
import HandS.SetFor
import PyProof.Rows.SetFrom
import HandS.SortRule
import HandS.NamedTupSort
import HandS.Conv
import PyProof.StrOps2
import KE.RegKSuper
import KE.KExcLine
set_option Elab.async false
set_option linter.all false
set_option maxRecDepth 100000
set_option maxHeartbeats 4000000
namespace K45
/-! ### frames that lean on others: the mathematics -/
def subs : Nat → List (List Nat)
  | 0 => [[]]
  | n + 1 => subs n ++ (subs n).map (· ++ [n])
theorem mem_subs : ∀ (n : Nat) (s : List Nat), s ∈ subs n ↔ s.Pairwise (· < ·) ∧ ∀ x ∈ s, x < n
  | 0, s => by
    constructor
    · intro h
      rw [List.mem_singleton.mp h]
      exact ⟨.nil, fun x hx => nomatch hx⟩
    · rintro ⟨_, h⟩
      cases s with
      | nil => exact List.mem_singleton.mpr rfl
      | cons x s => exact absurd (h x List.mem_cons_self) (Nat.not_lt_zero _)
  | n + 1, s => by
    have ih := mem_subs n
    show s ∈ subs n ++ (subs n).map (· ++ [n]) ↔ _
    rw [List.mem_append, List.mem_map]
    constructor
    · rintro (h | ⟨t, ht, rfl⟩)
      · obtain ⟨a, b⟩ := (ih s).mp h
        exact ⟨a, fun x hx => Nat.lt_succ_of_lt (b x hx)⟩
      · obtain ⟨a, b⟩ := (ih t).mp ht
        refine ⟨List.pairwise_append.mpr ⟨a, List.pairwise_singleton _ _, fun x hx y hy => ?_⟩, fun x hx => ?_⟩
        · rw [List.mem_singleton.mp hy]
          exact b x hx
        · rcases List.mem_append.mp hx with h | h
          · exact Nat.lt_succ_of_lt (b x h)
          · rw [List.mem_singleton.mp h]
            exact Nat.lt_succ_self _
    · rintro ⟨a, b⟩
      rcases List.eq_nil_or_concat s with rfl | ⟨t, y, rfl⟩
      · exact .inl ((ih []).mpr ⟨.nil, fun x hx => nomatch hx⟩)
      · simp only [List.concat_eq_append] at a b ⊢
        obtain ⟨a1, _, a3⟩ := List.pairwise_append.mp a
        have lt : ∀ x ∈ t, x < y := fun x hx => a3 x hx y (List.mem_singleton.mpr rfl)
        have hy := b y (List.mem_append_right _ (List.mem_singleton.mpr rfl))
        by_cases e : y = n
        · subst e
          exact .inr ⟨t, (ih t).mpr ⟨a1, lt⟩, rfl⟩
        · refine .inl ((ih _).mpr ⟨a, fun x hx => ?_⟩)
          rcases List.mem_append.mp hx with h | h
          · have := lt x h
            omega
          · rw [List.mem_singleton.mp h]
            omega
/-- ascending lists of the same items are one -/
theorem asc_ext : ∀ (a b : List Nat), a.Pairwise (· < ·) → b.Pairwise (· < ·) → (∀ x, x ∈ a ↔ x ∈ b) → a = b
  | [], [], _, _, _ => rfl
  | [], y :: b, _, _, h => by have := (h y).mpr List.mem_cons_self; cases this
  | x :: a, [], _, _, h => by have := (h x).mp List.mem_cons_self; cases this
  | x :: a, y :: b, ha, hb, h => by
    obtain ⟨a1, a2⟩ := List.pairwise_cons.mp ha
    obtain ⟨b1, b2⟩ := List.pairwise_cons.mp hb
    have e : x = y := by
      rcases List.mem_cons.mp ((h x).mp List.mem_cons_self) with z | z
      · exact z
      · rcases List.mem_cons.mp ((h y).mpr List.mem_cons_self) with z2 | z2
        · exact z2.symm
        · have := a1 y z2
          have := b1 x z
          omega
    subst e
    rw [asc_ext a b a2 b2 fun z => ?_]
    constructor
    · intro hz
      rcases List.mem_cons.mp ((h z).mp (List.mem_cons_of_mem _ hz)) with e | e
      · subst e
        exact absurd (a1 z hz) (Nat.lt_irrefl _)
      · exact e
    · intro hz
      rcases List.mem_cons.mp ((h z).mpr (List.mem_cons_of_mem _ hz)) with e | e
      · subst e
        exact absurd (b1 z hz) (Nat.lt_irrefl _)
      · exact e
theorem range_asc : ∀ n : Nat, (List.range n).Pairwise (· < ·) := fun n => List.pairwise_lt_range
theorem filter_asc (n : Nat) (p : Nat → Bool) : ((List.range n).filter p).Pairwise (· < ·) := (range_asc n).filter _
theorem filter_subs (n : Nat) (p : Nat → Bool) : (List.range n).filter p ∈ subs n :=
  (mem_subs n _).mpr ⟨filter_asc n p, fun x hx => List.mem_range.mp (List.mem_filter.mp hx).1⟩
theorem asc_filter {n : Nat} {s : List Nat} (h : s ∈ subs n) : s = (List.range n).filter fun x => decide (x ∈ s) := by
  obtain ⟨a, b⟩ := (mem_subs n s).mp h
  refine asc_ext _ _ a (filter_asc _ _) fun x => ?_
  rw [List.mem_filter, List.mem_range, decide_eq_true_eq]
  exact ⟨fun hx => ⟨b x hx, hx⟩, fun h => h.2⟩
/-! ### gains -/
def gat (g : List Int) (i : Nat) : Int := g.getD i 0
def gain (g : List Int) (s : List Nat) : Int := (s.map (gat g)).sum
def wsum (g : List Int) (p : Nat → Bool) : Nat → Int
  | 0 => 0
  | n + 1 => wsum g p n + if p n then gat g n else 0
theorem gain_filter (g : List Int) (p : Nat → Bool) : ∀ n, gain g ((List.range n).filter p) = wsum g p n
  | 0 => rfl
  | n + 1 => by
    have ih := gain_filter g p n
    unfold gain at ih ⊢
    rw [List.range_succ, List.filter_append, List.map_append, List.sum_append, ih]
    show _ = wsum g p n + _
    cases h : p n
    · simp [h]
    · simp [h]
theorem wsum_mod (g : List Int) (p q : Nat → Bool) : ∀ n, wsum g (fun x => p x && q x) n + wsum g (fun x => p x || q x) n = wsum g p n + wsum g q n
  | 0 => rfl
  | n + 1 => by
    have ih := wsum_mod g p q n
    simp only [wsum]
    generalize wsum g (fun x => p x && q x) n = z1 at ih ⊢
    generalize wsum g (fun x => p x || q x) n = z2 at ih ⊢
    generalize wsum g p n = z3 at ih ⊢
    generalize wsum g q n = z4 at ih ⊢
    have h : ∀ (x y : Bool) (v : Int), (if (x && y) = true then v else 0) + (if (x || y) = true then v else 0) = (if x = true then v else 0) + (if y = true then v else 0) := fun x y v => by
      cases x <;> cases y <;> simp
    have := h (p n) (q n) (gat g n)
    omega
theorem wsum_congr (g g' : List Int) (p q : Nat → Bool) : ∀ n, (∀ i, i < n → gat g i = gat g' i) → (∀ i, i < n → p i = q i) → wsum g p n = wsum g' q n
  | 0, _, _ => rfl
  | n + 1, h1, h2 => by
    simp only [wsum]
    rw [wsum_congr g g' p q n (fun i hi => h1 i (Nat.lt_succ_of_lt hi)) (fun i hi => h2 i (Nat.lt_succ_of_lt hi)), h1 n (Nat.lt_succ_self _), h2 n (Nat.lt_succ_self _)]
def row (rows : List (List Nat)) (f : Nat) : List Nat := rows.getD f []
def inB (s : List Nat) (x : Nat) : Bool := decide (x ∈ s)
def wholeB (rows : List (List Nat)) (s : List Nat) : Bool := s.all fun f => (row rows f).all (inB s)
theorem wholeB_iff {rows : List (List Nat)} {s : List Nat} : wholeB rows s = true ↔ ∀ f ∈ s, ∀ x ∈ row rows f, x ∈ s := by
  unfold wholeB inB
  simp only [List.all_eq_true, decide_eq_true_eq]
def wholes (rows : List (List Nat)) : List (List Nat) := (subs rows.length).filter (wholeB rows)
theorem mem_wholes {rows : List (List Nat)} {s : List Nat} : s ∈ wholes rows ↔ (s.Pairwise (· < ·) ∧ ∀ x ∈ s, x < rows.length) ∧ ∀ f ∈ s, ∀ x ∈ row rows f, x ∈ s := by
  unfold wholes
  rw [List.mem_filter, mem_subs, wholeB_iff]
def cap (n : Nat) (a b : List Nat) : List Nat := (List.range n).filter fun x => inB a x && inB b x
def cup (n : Nat) (a b : List Nat) : List Nat := (List.range n).filter fun x => inB a x || inB b x
theorem mem_cap {n : Nat} {a b : List Nat} {x : Nat} : x ∈ cap n a b ↔ x < n ∧ x ∈ a ∧ x ∈ b := by
  unfold cap inB
  simp [List.mem_filter]
theorem mem_cup {n : Nat} {a b : List Nat} {x : Nat} : x ∈ cup n a b ↔ x < n ∧ (x ∈ a ∨ x ∈ b) := by
  unfold cup inB
  simp [List.mem_filter]
section
variable {rows : List (List Nat)} {a b : List Nat}
theorem cap_wholes (ha : a ∈ wholes rows) (hb : b ∈ wholes rows) : cap rows.length a b ∈ wholes rows := by
  obtain ⟨⟨a1, a2⟩, a3⟩ := mem_wholes.mp ha
  obtain ⟨⟨b1, b2⟩, b3⟩ := mem_wholes.mp hb
  refine mem_wholes.mpr ⟨⟨filter_asc _ _, fun x hx => (mem_cap.mp hx).1⟩, fun f hf x hx => ?_⟩
  obtain ⟨h1, h2, h3⟩ := mem_cap.mp hf
  have q := a3 f h2 x hx
  exact mem_cap.mpr ⟨a2 x q, q, b3 f h3 x hx⟩
theorem cup_wholes (ha : a ∈ wholes rows) (hb : b ∈ wholes rows) : cup rows.length a b ∈ wholes rows := by
  obtain ⟨⟨a1, a2⟩, a3⟩ := mem_wholes.mp ha
  obtain ⟨⟨b1, b2⟩, b3⟩ := mem_wholes.mp hb
  refine mem_wholes.mpr ⟨⟨filter_asc _ _, fun x hx => (mem_cup.mp hx).1⟩, fun f hf x hx => ?_⟩
  obtain ⟨h1, h2⟩ := mem_cup.mp hf
  rcases h2 with h2 | h2
  · have q := a3 f h2 x hx
    exact mem_cup.mpr ⟨a2 x q, .inl q⟩
  · have q := b3 f h2 x hx
    exact mem_cup.mpr ⟨b2 x q, .inr q⟩
theorem gain_wsum (g : List Int) {n : Nat} {s : List Nat} (h : s ∈ subs n) : gain g s = wsum g (inB s) n := by
  have e := asc_filter h
  have q : gain g s = gain g ((List.range n).filter fun x => decide (x ∈ s)) := by rw [← e]
  rw [q, gain_filter]
  rfl
theorem wholes_subs (ha : a ∈ wholes rows) : a ∈ subs rows.length := (List.mem_filter.mp ha).1
theorem gain_mod (g : List Int) (ha : a ∈ wholes rows) (hb : b ∈ wholes rows) : gain g (cap rows.length a b) + gain g (cup rows.length a b) = gain g a + gain g b := by
  rw [gain_wsum g (wholes_subs ha), gain_wsum g (wholes_subs hb)]
  unfold cap cup
  rw [gain_filter, gain_filter]
  exact wsum_mod _ _ _ _
end
/-! ### the greatest, and the sets that reach it -/
def maxI : List Int → Int
  | [] => 0
  | [x] => x
  | x :: y :: l => max x (maxI (y :: l))
theorem maxI_spec : ∀ (l : List Int), l ≠ [] → maxI l ∈ l ∧ ∀ y ∈ l, y ≤ maxI l
  | [], h => absurd rfl h
  | [x], _ => ⟨List.mem_singleton.mpr rfl, fun y hy => by rw [List.mem_singleton.mp hy]; exact Int.le_refl _⟩
  | x :: y :: l, _ => by
    obtain ⟨a, b⟩ := maxI_spec (y :: l) (by simp)
    show max x (maxI (y :: l)) ∈ _ ∧ ∀ z ∈ _, z ≤ max x (maxI (y :: l))
    refine ⟨?_, fun z hz => ?_⟩
    · by_cases c : x ≤ maxI (y :: l)
      · rw [Int.max_eq_right c]
        exact List.mem_cons_of_mem _ a
      · rw [Int.max_eq_left (by omega)]
        exact List.mem_cons_self
    · rcases List.mem_cons.mp hz with rfl | hz
      · exact Int.le_max_left _ _
      · have := b z hz
        omega
theorem maxI_eq {l : List Int} {m : Int} (h1 : m ∈ l) (h2 : ∀ y ∈ l, y ≤ m) : m = maxI l := by
  obtain ⟨a, b⟩ := maxI_spec l (fun e => by rw [e] at h1; cases h1)
  have := b m h1
  have := h2 _ a
  omega
def topG (rows : List (List Nat)) (g : List Int) : Int := maxI ((wholes rows).map (gain g))
theorem nil_wholes (rows : List (List Nat)) : [] ∈ wholes rows := mem_wholes.mpr ⟨⟨.nil, fun x hx => nomatch hx⟩, fun x hx => nomatch hx⟩
theorem topG_spec (rows : List (List Nat)) (g : List Int) : (∃ s ∈ wholes rows, gain g s = topG rows g) ∧ ∀ s ∈ wholes rows, gain g s ≤ topG rows g := by
  obtain ⟨a, b⟩ := maxI_spec ((wholes rows).map (gain g)) (fun e => by
    have := List.mem_map_of_mem (f := gain g) (nil_wholes rows)
    rw [e] at this
    cases this)
  obtain ⟨s, hs, e⟩ := List.mem_map.mp a
  exact ⟨⟨s, hs, e⟩, fun s hs => b _ (List.mem_map_of_mem hs)⟩
def bests (rows : List (List Nat)) (g : List Int) : List (List Nat) := (wholes rows).filter fun s => decide (gain g s = topG rows g)
theorem mem_bests {rows : List (List Nat)} {g : List Int} {s : List Nat} : s ∈ bests rows g ↔ s ∈ wholes rows ∧ gain g s = topG rows g := by
  unfold bests
  rw [List.mem_filter, decide_eq_true_eq]
theorem bests_ne (rows : List (List Nat)) (g : List Int) : ∃ s, s ∈ bests rows g := by
  obtain ⟨⟨s, h1, h2⟩, _⟩ := topG_spec rows g
  exact ⟨s, mem_bests.mpr ⟨h1, h2⟩⟩
def leastL (rows : List (List Nat)) (g : List Int) : List Nat := (List.range rows.length).filter fun x => (bests rows g).all fun s => inB s x
def mostL (rows : List (List Nat)) (g : List Int) : List Nat := (List.range rows.length).filter fun x => (bests rows g).any fun s => inB s x
theorem mem_leastL {rows : List (List Nat)} {g : List Int} {x : Nat} : x ∈ leastL rows g ↔ x < rows.length ∧ ∀ s ∈ bests rows g, x ∈ s := by
  unfold leastL inB
  rw [List.mem_filter, List.mem_range, List.all_eq_true]
  simp only [decide_eq_true_eq]
theorem mem_mostL {rows : List (List Nat)} {g : List Int} {x : Nat} : x ∈ mostL rows g ↔ x < rows.length ∧ ∃ s ∈ bests rows g, x ∈ s := by
  unfold mostL inB
  rw [List.mem_filter, List.mem_range, List.any_eq_true]
  simp only [decide_eq_true_eq]
section
variable {rows : List (List Nat)} {g : List Int} {a b : List Nat}
theorem bests_cap (ha : a ∈ bests rows g) (hb : b ∈ bests rows g) : cap rows.length a b ∈ bests rows g ∧ cup rows.length a b ∈ bests rows g := by
  obtain ⟨a1, a2⟩ := mem_bests.mp ha
  obtain ⟨b1, b2⟩ := mem_bests.mp hb
  have c1 := cap_wholes a1 b1
  have c2 := cup_wholes a1 b1
  have m := gain_mod g a1 b1
  have t1 := (topG_spec rows g).2 _ c1
  have t2 := (topG_spec rows g).2 _ c2
  exact ⟨mem_bests.mpr ⟨c1, by omega⟩, mem_bests.mpr ⟨c2, by omega⟩⟩
theorem bests_asc (ha : a ∈ bests rows g) : a.Pairwise (· < ·) ∧ ∀ x ∈ a, x < rows.length := (mem_wholes.mp (mem_bests.mp ha).1).1
theorem least_of (ha : a ∈ bests rows g) (h : ∀ s ∈ bests rows g, a.length ≤ s.length) : a = leastL rows g := by
  refine asc_ext _ _ (bests_asc ha).1 (filter_asc _ _) fun x => ?_
  rw [mem_leastL]
  refine ⟨fun hx => ⟨(bests_asc ha).2 x hx, fun s hs => ?_⟩, fun hx => hx.2 a ha⟩
  have c := (bests_cap ha hs).1
  have e : cap rows.length a s = a.filter (inB s) := by
    refine asc_ext _ _ (bests_asc c).1 ((bests_asc ha).1.filter _) fun y => ?_
    rw [mem_cap, List.mem_filter]
    unfold inB
    rw [decide_eq_true_eq]
    exact ⟨fun h => h.2, fun h => ⟨(bests_asc ha).2 y h.1, h⟩⟩
  have l := h _ c
  rw [e] at l
  have := List.length_filter_eq_length_iff.mp (Nat.le_antisymm (List.length_filter_le _ _) l) x hx
  exact of_decide_eq_true this
theorem most_of (ha : a ∈ bests rows g) (h : ∀ s ∈ bests rows g, s.length ≤ a.length) : a = mostL rows g := by
  refine asc_ext _ _ (bests_asc ha).1 (filter_asc _ _) fun x => ?_
  rw [mem_mostL]
  refine ⟨fun hx => ⟨(bests_asc ha).2 x hx, a, ha, hx⟩, fun ⟨hx, s, hs, hxs⟩ => ?_⟩
  have c := (bests_cap ha hs).2
  have e : a = (cup rows.length a s).filter (inB a) := by
    refine asc_ext _ _ (bests_asc ha).1 ((bests_asc c).1.filter _) fun y => ?_
    rw [List.mem_filter, mem_cup]
    unfold inB
    rw [decide_eq_true_eq]
    exact ⟨fun h => ⟨⟨(bests_asc ha).2 y h, .inl h⟩, h⟩, fun h => h.2⟩
  have l := h _ c
  have l2 : ((cup rows.length a s).filter (inB a)).length = a.length := by rw [← e]
  have := List.length_filter_eq_length_iff.mp (Nat.le_antisymm (List.length_filter_le _ _) (l2 ▸ l)) x (mem_cup.mpr ⟨hx, .inr hxs⟩)
  exact of_decide_eq_true this
theorem least_best : leastL rows g ∈ bests rows g := by
  obtain ⟨a, ha, hm⟩ : ∃ a ∈ bests rows g, ∀ s ∈ bests rows g, a.length ≤ s.length := by
    have go : ∀ (k : Nat) (a : List Nat), a ∈ bests rows g → a.length ≤ k → ∃ a ∈ bests rows g, ∀ s ∈ bests rows g, a.length ≤ s.length := by
      intro k
      induction k with
      | zero => exact fun a ha hl => ⟨a, ha, fun s _ => by omega⟩
      | succ k ih =>
        intro a ha hl
        by_cases c : ∃ s ∈ bests rows g, s.length < a.length
        · obtain ⟨s, hs, hl2⟩ := c
          exact ih s hs (by omega)
        · exact ⟨a, ha, fun s hs => Nat.le_of_not_lt fun q => c ⟨s, hs, q⟩⟩
    obtain ⟨a, ha⟩ := bests_ne rows g
    exact go a.length a ha (Nat.le_refl _)
  rw [← least_of ha hm]
  exact ha
theorem most_best : mostL rows g ∈ bests rows g := by
  have bd : ∀ s ∈ bests rows g, s.length ≤ rows.length := fun s hs => by
    have e := asc_filter (wholes_subs (mem_bests.mp hs).1)
    rw [e]
    exact Nat.le_trans (List.length_filter_le _ _) (by rw [List.length_range]; exact Nat.le_refl _)
  obtain ⟨a, ha, hm⟩ : ∃ a ∈ bests rows g, ∀ s ∈ bests rows g, s.length ≤ a.length := by
    have go : ∀ (k : Nat) (a : List Nat), a ∈ bests rows g → rows.length ≤ a.length + k → ∃ a ∈ bests rows g, ∀ s ∈ bests rows g, s.length ≤ a.length := by
      intro k
      induction k with
      | zero => exact fun a ha hl => ⟨a, ha, fun s hs => by have := bd s hs; omega⟩
      | succ k ih =>
        intro a ha hl
        by_cases c : ∃ s ∈ bests rows g, a.length < s.length
        · obtain ⟨s, hs, hl2⟩ := c
          exact ih s hs (by omega)
        · exact ⟨a, ha, fun s hs => Nat.le_of_not_lt fun q => c ⟨s, hs, q⟩⟩
    obtain ⟨a, ha⟩ := bests_ne rows g
    exact go rows.length a ha (by omega)
  rw [← most_of ha hm]
  exact ha
end
end K45
namespace K45
/-! ### webs: checked, in an order, made longer -/
def ascB : List Nat → Bool
  | x :: y :: l => decide (x < y) && ascB (y :: l)
  | _ => true
theorem ascB_iff : ∀ l : List Nat, ascB l = true ↔ l.Pairwise (· < ·)
  | [] => by simp [ascB]
  | [x] => by simp [ascB]
  | x :: y :: l => by
    have ih := ascB_iff (y :: l)
    show (decide (x < y) && ascB (y :: l)) = true ↔ _
    rw [Bool.and_eq_true, decide_eq_true_eq, ih]
    constructor
    · rintro ⟨a, b⟩
      refine List.pairwise_cons.mpr ⟨fun z hz => ?_, b⟩
      rcases List.mem_cons.mp hz with rfl | hz
      · exact a
      · exact Nat.lt_trans a ((List.pairwise_cons.mp b).1 z hz)
    · intro h
      obtain ⟨a, b⟩ := List.pairwise_cons.mp h
      exact ⟨a y List.mem_cons_self, b⟩
def lotB (n : Nat) (s : List Nat) : Bool := s.all (fun x => decide (x < n)) && ascB s
theorem lotB_iff {n : Nat} {s : List Nat} : lotB n s = true ↔ s.Pairwise (· < ·) ∧ ∀ x ∈ s, x < n := by
  unfold lotB
  rw [Bool.and_eq_true, List.all_eq_true, ascB_iff]
  simp only [decide_eq_true_eq]
  exact ⟨fun ⟨a, b⟩ => ⟨b, a⟩, fun ⟨a, b⟩ => ⟨b, a⟩⟩
def badAt (rows : List (List Nat)) (i : Nat) : Bool := !(lotB rows.length (row rows i)) || inB (row rows i) i
def readyL (rows : List (List Nat)) (told : List Nat) : List Nat := (List.range rows.length).filter fun f => !(inB told f) && (row rows f).all (inB told)
def runs (rows : List (List Nat)) : Nat → List Nat → Bool
  | 0, _ => true
  | k + 1, told => if rows.length ≤ told.length then true else if readyL rows told = [] then false else runs rows k (told ++ readyL rows told)
theorem runs_done {rows : List (List Nat)} {told : List Nat} (h : rows.length ≤ told.length) : ∀ k, runs rows k told = true
  | 0 => rfl
  | k + 1 => by rw [runs, if_pos h]
/-- what a web is told: nothing, or the place -/
inductive At where
  | good
  | whole
  | frame (i : Nat)
  deriving DecidableEq
def webAns : Option (List (List Nat)) → At
  | none => .whole
  | some rows => if ¬ (1 ≤ rows.length ∧ rows.length ≤ 10) then .whole else match (List.range rows.length).find? (badAt rows) with
    | some i => .frame i
    | none => if runs rows rows.length [] = true then .good else .whole
/-- in the line's order each frame leans on those ahead alone -/
structure Ord (rows : List (List Nat)) (line : List Nat) : Prop where
  nd : line.Nodup
  len : line.length = rows.length
  lt : ∀ x ∈ line, x < rows.length
  asc : ∀ i, i < rows.length → (row rows i).Pairwise (· < ·)
  lean : ∀ t f, line[t]? = some f → ∀ x ∈ row rows f, x ∈ line.take t
theorem nodup_le : ∀ (a b : List Nat), a.Nodup → (∀ x ∈ a, x ∈ b) → a.length ≤ b.length
  | [], _, _, _ => Nat.zero_le _
  | x :: a, b, h, s => by
    obtain ⟨h1, h2⟩ := List.nodup_cons.mp h
    have hx := s x List.mem_cons_self
    have := nodup_le a (b.erase x) h2 fun y hy => (List.mem_erase_of_ne (fun e : y = x => h1 (by rw [← e]; exact hy))).mpr (s y (List.mem_cons_of_mem _ hy))
    rw [List.length_erase_of_mem hx] at this
    have : 0 < b.length := List.length_pos_of_mem hx
    rw [List.length_cons]
    omega
theorem range_nodup (n : Nat) : (List.range n).Nodup := List.nodup_range
section
variable {rows : List (List Nat)} {line : List Nat}
theorem Ord.all (o : Ord rows line) {x : Nat} (h : x < rows.length) : x ∈ line := by
  refine Decidable.byContradiction fun q => ?_
  have := nodup_le (x :: line) (List.range rows.length) (List.nodup_cons.mpr ⟨q, o.nd⟩) fun y hy => by
    rcases List.mem_cons.mp hy with rfl | hy
    · exact List.mem_range.mpr h
    · exact List.mem_range.mpr (o.lt y hy)
  rw [List.length_cons, List.length_range, o.len] at this
  omega
theorem Ord.lt' (o : Ord rows line) {f : Nat} (hf : f < rows.length) {x : Nat} (hx : x ∈ row rows f) : x < rows.length := by
  obtain ⟨t, ht⟩ := List.getElem?_of_mem (o.all hf)
  exact o.lt x (List.mem_of_mem_take (o.lean t f ht x hx))
theorem Ord.own (o : Ord rows line) {f : Nat} (hf : f < rows.length) : f ∉ row rows f := by
  intro h
  obtain ⟨t, ht⟩ := List.getElem?_of_mem (o.all hf)
  have m := o.lean t f ht f h
  obtain ⟨t2, h2⟩ := List.getElem?_of_mem m
  rw [List.getElem?_take] at h2
  by_cases c : t2 < t
  · rw [if_pos c] at h2
    obtain ⟨l1, e1⟩ := List.getElem?_eq_some_iff.mp ht
    obtain ⟨l2, e2⟩ := List.getElem?_eq_some_iff.mp h2
    have := (List.nodup_iff_pairwise_ne.mp o.nd)
    have := (List.pairwise_iff_getElem.mp this) t2 t l2 l1 c
    exact this (e2.trans e1.symm)
  · rw [if_neg c] at h2
    cases h2
theorem Ord.ready (o : Ord rows line) {told : List Nat} (h : told.length < rows.length) : readyL rows told ≠ [] := by
  obtain ⟨t, f, ht, hf, hb⟩ : ∃ t f, line[t]? = some f ∧ f ∉ told ∧ ∀ x ∈ line.take t, x ∈ told := by
    have go : ∀ (k : Nat), k ≤ line.length → (∀ x ∈ line.take k, x ∈ told) ∨ ∃ t f, line[t]? = some f ∧ f ∉ told ∧ ∀ x ∈ line.take t, x ∈ told := by
      intro k
      induction k with
      | zero => exact fun _ => .inl fun x hx => by rw [List.take_zero] at hx; cases hx
      | succ k ih =>
        intro hk
        rcases ih (by omega) with q | q
        · have e : line[k]? = some line[k] := List.getElem?_eq_getElem (by omega)
          by_cases c : line[k] ∈ told
          · refine .inl fun x hx => ?_
            rw [List.take_add_one, e] at hx
            rcases List.mem_append.mp hx with z | z
            · exact q x z
            · rw [List.mem_singleton.mp z]
              exact c
          · exact .inr ⟨k, _, e, c, q⟩
        · exact .inr q
    rcases go line.length (Nat.le_refl _) with q | q
    · rw [List.take_length] at q
      have := nodup_le line told o.nd q
      rw [o.len] at this
      omega
    · exact q
  have hfl := o.lt f (List.mem_of_getElem? ht)
  refine List.ne_nil_of_mem (a := f) ?_
  unfold readyL inB
  rw [List.mem_filter, List.mem_range]
  refine ⟨hfl, ?_⟩
  simp only [Bool.and_eq_true, Bool.not_eq_true', decide_eq_false_iff_not, List.all_eq_true, decide_eq_true_eq]
  exact ⟨hf, fun x hx => hb x (o.lean t f ht x hx)⟩
theorem Ord.runs (o : Ord rows line) : ∀ (k : Nat) (told : List Nat), rows.length ≤ told.length + k → K45.runs rows k told = true
  | 0, _, _ => rfl
  | k + 1, told, h => by
    rw [K45.runs]
    split
    · rfl
    · rename_i c
      rw [if_neg (o.ready (by omega))]
      refine o.runs k _ ?_
      have := List.length_pos_iff.mpr (o.ready (told := told) (by omega))
      rw [List.length_append]
      omega
theorem Ord.good (o : Ord rows line) (h1 : 1 ≤ rows.length) (h2 : rows.length ≤ 10) : webAns (some rows) = .good := by
  show (if ¬ (1 ≤ rows.length ∧ rows.length ≤ 10) then At.whole else match (List.range rows.length).find? (badAt rows) with
    | some i => At.frame i
    | none => if K45.runs rows rows.length [] = true then At.good else At.whole) = At.good
  rw [if_neg (fun q => q ⟨h1, h2⟩)]
  have e : (List.range rows.length).find? (badAt rows) = none := by
    refine List.find?_eq_none.mpr fun i hi => ?_
    have hi := List.mem_range.mp hi
    have l : lotB rows.length (row rows i) = true := lotB_iff.mpr ⟨o.asc i hi, fun x hx => o.lt' hi hx⟩
    unfold badAt inB
    simp [l, o.own hi]
  rw [e]
  show (if _ then _ else _) = _
  rw [if_pos (o.runs _ _ (by simp))]
theorem row_lt {rows : List (List Nat)} {r : List Nat} {i : Nat} (h : i < rows.length) : row (rows ++ [r]) i = row rows i := by
  unfold row
  rw [List.getD_eq_getElem?_getD, List.getD_eq_getElem?_getD, List.getElem?_append_left h]
theorem row_end {rows : List (List Nat)} {r : List Nat} : row (rows ++ [r]) rows.length = r := by
  unfold row
  rw [List.getD_eq_getElem?_getD, List.getElem?_append_right (Nat.le_refl _)]
  simp
theorem Ord.longer (o : Ord rows line) {lot : List Nat} (h : lot ∈ wholes rows) : Ord (rows ++ [lot]) (line ++ [rows.length]) := by
  obtain ⟨⟨l1, l2⟩, _⟩ := mem_wholes.mp h
  refine ⟨?_, ?_, ?_, ?_, ?_⟩
  · refine List.nodup_append.mpr ⟨o.nd, List.nodup_cons.mpr ⟨by simp, List.nodup_nil⟩, fun x hx y hy => ?_⟩
    rw [List.mem_singleton.mp hy]
    have := o.lt x hx
    omega
  · rw [List.length_append, List.length_append, o.len]
    rfl
  · intro x hx
    rw [List.length_append]
    rcases List.mem_append.mp hx with q | q
    · exact Nat.lt_succ_of_lt (o.lt x q)
    · rw [List.mem_singleton.mp q]
      exact Nat.lt_succ_self _
  · intro i hi
    rw [List.length_append] at hi
    by_cases c : i < rows.length
    · rw [row_lt c]
      exact o.asc i c
    · have e : i = rows.length := by simp at hi; omega
      rw [e, row_end]
      exact l1
  · intro t f ht x hx
    by_cases c : t < line.length
    · rw [List.getElem?_append_left c] at ht
      have fl := o.lt f (List.mem_of_getElem? ht)
      rw [row_lt fl] at hx
      rw [List.take_append_of_le_length (by omega)]
      exact o.lean t f ht x hx
    · rw [List.getElem?_append_right (by omega)] at ht
      have e : t = line.length := by
        rcases Nat.eq_zero_or_pos (t - line.length) with z | z
        · omega
        · rw [List.getElem?_eq_none (by simp; omega)] at ht
          cases ht
      subst e
      simp at ht
      subst ht
      rw [row_end] at hx
      rw [List.take_left']
      · exact o.all (l2 x hx)
      · rfl
end
/-! ### the frame behind the others -/
section
variable {rows : List (List Nat)} {lot : List Nat} {g : List Int}
theorem gat_lt {c : Int} {i : Nat} (h : i < g.length) : gat (g ++ [c]) i = gat g i := by
  unfold gat
  rw [List.getD_eq_getElem?_getD, List.getD_eq_getElem?_getD, List.getElem?_append_left h]
theorem gat_end {c : Int} : gat (g ++ [c]) g.length = c := by
  unfold gat
  rw [List.getD_eq_getElem?_getD, List.getElem?_append_right (Nat.le_refl _)]
  simp
def least0 (g : List Int) : Int := (g.map fun x => min x 0).sum
theorem wsum_le (g : List Int) (p : Nat → Bool) : ∀ n, n ≤ g.length → wsum g p n ≤ wsum g (fun _ => true) n - ((g.take n).map fun x => min x 0).sum
  | 0, _ => by simp [wsum]
  | n + 1, h => by
    have ih := wsum_le g p n (by omega)
    have e : g[n]? = some g[n] := List.getElem?_eq_getElem (by omega)
    have eg : gat g n = g[n] := by
      unfold gat
      rw [List.getD_eq_getElem?_getD, e]
      rfl
    rw [List.take_add_one, e, List.map_append, List.sum_append]
    simp only [wsum, eg]
    show _ ≤ _ + _ - (_ + (List.map _ [g[n]]).sum)
    simp only [List.map_cons, List.map_nil, List.sum_cons, List.sum_nil]
    have m1 : min g[n] 0 ≤ g[n] := Int.min_le_left _ _
    have m2 : min g[n] 0 ≤ 0 := Int.min_le_right _ _
    generalize ((g.take n).map fun x => min x 0).sum = z at ih ⊢
    generalize min g[n] 0 = y at m1 m2 ⊢
    generalize wsum g p n = z1 at ih ⊢
    generalize wsum g (fun _ => true) n = z2 at ih ⊢
    generalize g[n] = v at m1 ⊢
    rw [if_pos trivial]
    split <;> omega
theorem full_wholes {line : List Nat} (o : Ord rows line) : List.range rows.length ∈ wholes rows :=
  mem_wholes.mpr ⟨⟨range_asc _, fun x hx => List.mem_range.mp hx⟩, fun f hf x hx => List.mem_range.mpr (o.lt' (List.mem_range.mp hf) hx)⟩
theorem gain_full (g : List Int) (n : Nat) : gain g (List.range n) = wsum g (fun _ => true) n := by
  have := gain_filter g (fun _ => true) n
  rwa [List.filter_eq_self.mpr (fun _ _ => rfl)] at this
theorem len_snoc {lot : List Nat} : (rows ++ [lot]).length = rows.length + 1 := by rw [List.length_append]; rfl
theorem gain_snoc {c : Int} {s : List Nat} (h : ∀ x ∈ s, x < g.length) : gain (g ++ [c]) s = gain g s := by
  unfold gain
  congr 1
  refine List.map_congr_left fun x hx => gat_lt (h x hx)
/-- with what the frame behind gains, every best set holds it -/
theorem behind_in {line : List Nat} (o : Ord rows line) (hl : lot ∈ wholes rows) (hg : g.length = rows.length) {s : List Nat} (hs : s ∈ wholes (rows ++ [lot])) (hn : rows.length ∉ s) :
    gain (g ++ [0 - least0 g + 1]) s < gain (g ++ [0 - least0 g + 1]) (List.range (rows ++ [lot]).length) := by
  have ss := wholes_subs hs
  rw [len_snoc] at ss
  obtain ⟨s1, s2⟩ := (mem_subs _ s).mp ss
  have s3 : ∀ x ∈ s, x < rows.length := fun x hx => by
    have := s2 x hx
    have : x ≠ rows.length := fun e => hn (e ▸ hx)
    omega
  rw [gain_snoc (fun x hx => hg ▸ s3 x hx), gain_wsum g ((mem_subs rows.length s).mpr ⟨s1, s3⟩), len_snoc, gain_full]
  simp only [wsum, if_true]
  have e : gat (g ++ [0 - least0 g + 1]) rows.length = 0 - least0 g + 1 := by rw [← hg]; exact gat_end
  have q := wsum_le g (inB s) rows.length (by omega)
  have t : g.take rows.length = g := by rw [← hg, List.take_length]
  rw [t] at q
  have w : wsum (g ++ [0 - least0 g + 1]) (fun _ => true) rows.length = wsum g (fun _ => true) rows.length := wsum_congr _ _ _ _ _ (fun i hi => gat_lt (by omega)) (fun _ _ => rfl)
  rw [e, w]
  unfold least0 at *
  omega
theorem behind_all {line : List Nat} (o : Ord rows line) (hl : lot ∈ wholes rows) (hg : g.length = rows.length) {s : List Nat} (hs : s ∈ bests (rows ++ [lot]) (g ++ [0 - least0 g + 1])) : rows.length ∈ s := by
  obtain ⟨h1, h2⟩ := mem_bests.mp hs
  refine Decidable.byContradiction fun q => ?_
  have := behind_in (g := g) o hl hg h1 q
  have := (topG_spec (rows ++ [lot]) (g ++ [0 - least0 g + 1])).2 _ (full_wholes (o.longer hl))
  omega
theorem short_wholes {s : List Nat} (hs : s ∈ wholes rows) : s ∈ wholes (rows ++ [lot]) := by
  obtain ⟨⟨a, b⟩, c⟩ := mem_wholes.mp hs
  refine mem_wholes.mpr ⟨⟨a, fun x hx => by rw [len_snoc]; exact Nat.lt_succ_of_lt (b x hx)⟩, fun f hf x hx => ?_⟩
  rw [row_lt (b f hf)] at hx
  exact c f hf x hx
theorem more_top (hg : g.length = rows.length) (c : Int) : topG rows g ≤ topG (rows ++ [lot]) (g ++ [c]) := by
  obtain ⟨⟨s, hs, e⟩, _⟩ := topG_spec rows g
  have := (topG_spec (rows ++ [lot]) (g ++ [c])).2 s (short_wholes hs)
  rw [gain_snoc (fun x hx => hg ▸ (mem_wholes.mp hs).1.2 x hx)] at this
  omega
/-- a whole set that holds the frame behind is whole without it -/
theorem cut_wholes {s : List Nat} (hs : s ∈ wholes (rows ++ [lot])) (hlt : ∀ f, f < rows.length → ∀ x ∈ row rows f, x < rows.length) (hn : rows.length ∈ s) : ∃ t ∈ wholes rows, s = t ++ [rows.length] := by
  obtain ⟨⟨a, b⟩, c⟩ := mem_wholes.mp hs
  rw [len_snoc] at b
  have e : s = s.filter (fun x => decide (x < rows.length)) ++ [rows.length] := by
    refine asc_ext _ _ a (List.pairwise_append.mpr ⟨a.filter _, List.pairwise_singleton _ _, fun x hx y hy => ?_⟩) fun x => ?_
    · rw [List.mem_singleton.mp hy]
      exact of_decide_eq_true (List.mem_filter.mp hx).2
    · rw [List.mem_append, List.mem_filter, List.mem_singleton, decide_eq_true_eq]
      constructor
      · intro hx
        have := b x hx
        by_cases z : x < rows.length
        · exact .inl ⟨hx, z⟩
        · exact .inr (by omega)
      · rintro (⟨h, _⟩ | rfl)
        · exact h
        · exact hn
  refine ⟨_, mem_wholes.mpr ⟨⟨a.filter _, fun x hx => of_decide_eq_true (List.mem_filter.mp hx).2⟩, fun f hf x hx => ?_⟩, e⟩
  obtain ⟨h1, h2⟩ := List.mem_filter.mp hf
  have h2 := of_decide_eq_true h2
  have := c f h1 x (by rw [row_lt h2]; exact hx)
  exact List.mem_filter.mpr ⟨this, decide_eq_true (hlt f h2 x hx)⟩
theorem bests_less {line : List Nat} (o : Ord rows line) (hg : g.length = rows.length) (s : List Nat) : s ∈ bests (rows ++ [lot]) (g ++ [-1]) ↔ s ∈ bests rows g := by
  have ch : ∀ s ∈ wholes (rows ++ [lot]), (s ∈ wholes rows ∧ gain (g ++ [-1]) s = gain g s) ∨ gain (g ++ [-1]) s < topG rows g := fun s hs => by
    by_cases c : rows.length ∈ s
    · obtain ⟨t, ht, rfl⟩ := cut_wholes hs (fun f hf x hx => o.lt' hf hx) c
      refine .inr ?_
      have e : gain (g ++ [-1]) (t ++ [rows.length]) = gain g t - 1 := by
        have q : gain (g ++ [-1]) (t ++ [rows.length]) = gain (g ++ [-1]) t + gat (g ++ [-1]) rows.length := by
          unfold gain
          rw [List.map_append, List.sum_append]
          simp
        rw [q, gain_snoc (fun x hx => hg ▸ (mem_wholes.mp ht).1.2 x hx)]
        have : gat (g ++ [-1]) rows.length = -1 := by rw [← hg]; exact gat_end
        omega
      have := (topG_spec rows g).2 t ht
      omega
    · obtain ⟨⟨a, b⟩, d⟩ := mem_wholes.mp hs
      have b' : ∀ x ∈ s, x < rows.length := fun x hx => by
        have := b x hx
        rw [len_snoc] at this
        have : x ≠ rows.length := fun e => c (e ▸ hx)
        omega
      exact .inl ⟨mem_wholes.mpr ⟨⟨a, b'⟩, fun f hf x hx => d f hf x (by rw [row_lt (b' f hf)]; exact hx)⟩, gain_snoc (fun x hx => hg ▸ b' x hx)⟩
  have top : topG (rows ++ [lot]) (g ++ [-1]) = topG rows g := by
    have m := more_top (lot := lot) hg (-1)
    obtain ⟨⟨t, ht, e⟩, _⟩ := topG_spec (rows ++ [lot]) (g ++ [-1])
    rcases ch t ht with ⟨q1, q2⟩ | q
    · have := (topG_spec rows g).2 t q1
      omega
    · omega
  rw [mem_bests, mem_bests, top]
  constructor
  · rintro ⟨h1, h2⟩
    rcases ch s h1 with ⟨q1, q2⟩ | q
    · exact ⟨q1, q2 ▸ h2⟩
    · omega
  · rintro ⟨h1, h2⟩
    exact ⟨short_wholes h1, by rw [gain_snoc (fun x hx => hg ▸ (mem_wholes.mp h1).1.2 x hx)]; exact h2⟩
theorem least_less {line : List Nat} (o : Ord rows line) (hg : g.length = rows.length) : leastL (rows ++ [lot]) (g ++ [-1]) = leastL rows g := by
  refine asc_ext _ _ (filter_asc _ _) (filter_asc _ _) fun x => ?_
  rw [mem_leastL, mem_leastL]
  constructor
  · rintro ⟨_, h⟩
    obtain ⟨s, hs⟩ := bests_ne rows g
    exact ⟨(bests_asc hs).2 x (h s ((bests_less o hg s).mpr hs)), fun s hs => h s ((bests_less o hg s).mpr hs)⟩
  · rintro ⟨h1, h⟩
    exact ⟨by rw [len_snoc]; omega, fun s hs => h s ((bests_less o hg s).mp hs)⟩
theorem most_less {line : List Nat} (o : Ord rows line) (hg : g.length = rows.length) : mostL (rows ++ [lot]) (g ++ [-1]) = mostL rows g := by
  refine asc_ext _ _ (filter_asc _ _) (filter_asc _ _) fun x => ?_
  rw [mem_mostL, mem_mostL]
  constructor
  · rintro ⟨_, s, hs, hx⟩
    have hs := (bests_less o hg s).mp hs
    exact ⟨(bests_asc hs).2 x hx, s, hs, hx⟩
  · rintro ⟨h1, s, hs, hx⟩
    exact ⟨by rw [len_snoc]; omega, s, (bests_less o hg s).mpr hs, hx⟩
/-! ### no gains, and losses alone -/
theorem gain_rep (n : Nat) (c : Int) : ∀ s : List Nat, (∀ x ∈ s, x < n) → gain (List.replicate n c) s = c * (s.length : Int)
  | [], _ => by simp [gain]
  | x :: s, h => by
    have ih := gain_rep n c s fun y hy => h y (List.mem_cons_of_mem _ hy)
    have e : gat (List.replicate n c) x = c := by
      unfold gat
      rw [List.getD_eq_getElem?_getD, List.getElem?_replicate, if_pos (h x List.mem_cons_self)]
      rfl
    have q : gain (List.replicate n c) (x :: s) = gat (List.replicate n c) x + gain (List.replicate n c) s := by
      unfold gain
      rw [List.map_cons, List.sum_cons]
    rw [q, e, ih, List.length_cons, Int.natCast_succ, Int.mul_add, Int.mul_one, Int.add_comm]
theorem zero_best {s : List Nat} (hs : s ∈ wholes rows) : s ∈ bests rows (List.replicate rows.length 0) := by
  have z : ∀ s ∈ wholes rows, gain (List.replicate rows.length 0) s = 0 := fun s hs => by
    rw [gain_rep _ _ _ (mem_wholes.mp hs).1.2, Int.zero_mul]
  obtain ⟨⟨t, ht, e⟩, _⟩ := topG_spec rows (List.replicate rows.length 0)
  exact mem_bests.mpr ⟨hs, by rw [z s hs, ← e, z t ht]⟩
theorem least_zero : leastL rows (List.replicate rows.length 0) = [] := by
  refine List.eq_nil_iff_forall_not_mem.mpr fun x hx => ?_
  have := (mem_leastL.mp hx).2 [] (zero_best (nil_wholes rows))
  cases this
theorem most_zero {line : List Nat} (o : Ord rows line) : mostL rows (List.replicate rows.length 0) = List.range rows.length := by
  refine asc_ext _ _ (filter_asc _ _) (range_asc _) fun x => ?_
  rw [mem_mostL, List.mem_range]
  exact ⟨fun h => h.1, fun h => ⟨h, _, zero_best (full_wholes o), List.mem_range.mpr h⟩⟩
theorem top_loss : topG rows (List.replicate rows.length (-1)) = 0 := by
  obtain ⟨⟨t, ht, e⟩, m⟩ := topG_spec rows (List.replicate rows.length (-1))
  have := m [] (nil_wholes rows)
  rw [gain_rep _ _ _ (fun x hx => absurd hx List.not_mem_nil)] at this
  rw [gain_rep _ _ _ (mem_wholes.mp ht).1.2] at e
  simp at this
  omega
end
/-! ### what cannot be -/
theorem ans_none : webAns none = .whole := rfl
theorem ans_nil : webAns (some []) = .whole := rfl
theorem ans_own : webAns (some [[0]]) = .frame 0 := by decide
theorem ans_ring : webAns (some [[1], [0]]) = .whole := by decide
theorem ans_out : webAns (some [[], [2]]) = .frame 1 := by decide
end K45
namespace K45
/-! ### the smallest whole set that has these frames -/
def clos (rows : List (List Nat)) (fs : List Nat) : List Nat := (List.range rows.length).filter fun x => (wholes rows).all fun s => !(fs.all (inB s)) || inB s x
variable {rows : List (List Nat)} {fs : List Nat}
theorem inB_iff {s : List Nat} {x : Nat} : inB s x = true ↔ x ∈ s := by unfold inB; rw [decide_eq_true_eq]
theorem all_inB {s l : List Nat} : (l.all (inB s)) = true ↔ ∀ x ∈ l, x ∈ s := by
  rw [List.all_eq_true]
  exact ⟨fun h x hx => inB_iff.mp (h x hx), fun h x hx => inB_iff.mpr (h x hx)⟩
theorem mem_clos {x : Nat} : x ∈ clos rows fs ↔ x < rows.length ∧ ∀ s ∈ wholes rows, (∀ f ∈ fs, f ∈ s) → x ∈ s := by
  unfold clos
  rw [List.mem_filter, List.mem_range, List.all_eq_true]
  refine and_congr Iff.rfl ⟨fun h s hs hf => ?_, fun h s hs => ?_⟩
  · have := h s hs
    rw [all_inB.mpr hf] at this
    exact inB_iff.mp (by simpa using this)
  · cases c : fs.all (inB s) with
    | false => rfl
    | true => exact inB_iff.mpr (h s hs (all_inB.mp c))
theorem clos_asc : (clos rows fs).Pairwise (· < ·) := filter_asc _ _
theorem clos_lt {x : Nat} (h : x ∈ clos rows fs) : x < rows.length := (mem_clos.mp h).1
theorem asc_nodup {l : List Nat} (h : l.Pairwise (· < ·)) : l.Nodup := h.imp fun q => Nat.ne_of_lt q
theorem clos_nodup : (clos rows fs).Nodup := asc_nodup clos_asc
theorem sub_clos (h : ∀ f ∈ fs, f < rows.length) : ∀ f ∈ fs, f ∈ clos rows fs := fun f hf => mem_clos.mpr ⟨h f hf, fun s _ q => q f hf⟩
theorem row_lot (hl : ∀ r ∈ rows, lotB rows.length r = true) {f : Nat} (hf : f < rows.length) : lotB rows.length (row rows f) = true := by
  refine hl _ ?_
  unfold row
  rw [List.getD_eq_getElem?_getD, List.getElem?_eq_getElem hf]
  exact List.getElem_mem hf
theorem clos_whole (hl : ∀ r ∈ rows, lotB rows.length r = true) : clos rows fs ∈ wholes rows := by
  refine mem_wholes.mpr ⟨⟨clos_asc, fun x hx => clos_lt hx⟩, fun f hf x hx => ?_⟩
  obtain ⟨h1, h2⟩ := mem_clos.mp hf
  exact mem_clos.mpr ⟨(lotB_iff.mp (row_lot hl h1)).2 x hx, fun s hs q => (mem_wholes.mp hs).2 f (h2 s hs q) x hx⟩
theorem clos_least {s : List Nat} (hs : s ∈ wholes rows) (h : ∀ f ∈ fs, f ∈ s) : ∀ x ∈ clos rows fs, x ∈ s := fun x hx => (mem_clos.mp hx).2 s hs h
/-- a list that is whole as a set, in order -/
def inOrder (n : Nat) (l : List Nat) : List Nat := (List.range n).filter (inB l)
theorem mem_inOrder {n : Nat} {l : List Nat} {x : Nat} : x ∈ inOrder n l ↔ x < n ∧ x ∈ l := by
  unfold inOrder
  rw [List.mem_filter, List.mem_range, inB_iff]
theorem inOrder_asc {n : Nat} {l : List Nat} : (inOrder n l).Pairwise (· < ·) := filter_asc _ _
theorem whole_inOrder {l : List Nat} (h1 : ∀ x ∈ l, x < rows.length) (h2 : ∀ f ∈ l, ∀ x ∈ row rows f, x ∈ l) : inOrder rows.length l ∈ wholes rows :=
  mem_wholes.mpr ⟨⟨inOrder_asc, fun x hx => (mem_inOrder.mp hx).1⟩, fun f hf x hx => by
    have := h2 f (mem_inOrder.mp hf).2 x hx
    exact mem_inOrder.mpr ⟨h1 x this, this⟩⟩
theorem le_lt {l : List Nat} (h1 : l.Pairwise (· ≤ ·)) (h2 : l.Nodup) : l.Pairwise (· < ·) := (List.Pairwise.and h1 h2).imp fun q => Nat.lt_of_le_of_ne q.1 q.2
theorem inOrder_of {n : Nat} {l k : List Nat} (p : k.Perm l) (h : k.Pairwise (· ≤ ·)) (nd : l.Nodup) (hl : ∀ x ∈ l, x < n) : k = inOrder n l :=
  asc_ext _ _ (le_lt h (p.nodup_iff.mpr nd)) inOrder_asc fun x => by
    rw [p.mem_iff, mem_inOrder]
    exact ⟨fun q => ⟨hl x q, q⟩, fun q => q.2⟩
/-- what has been gathered, and leans on nothing else, is the smallest -/
theorem clos_done {found k : List Nat} (p : k.Perm found) (h : k.Pairwise (· ≤ ·)) (nd : found.Nodup) (hl : ∀ x ∈ found, x < rows.length) (hf : ∀ f ∈ fs, f ∈ found) (hw : ∀ f ∈ found, ∀ x ∈ row rows f, x ∈ found) (hm : ∀ x ∈ found, ∀ s ∈ wholes rows, (∀ f ∈ fs, f ∈ s) → x ∈ s) : k = clos rows fs := by
  rw [inOrder_of p h nd hl]
  refine asc_ext _ _ inOrder_asc clos_asc fun x => ?_
  rw [mem_inOrder, mem_clos]
  refine ⟨fun q => ⟨q.1, fun s hs a => hm x q.2 s hs a⟩, fun q => ⟨q.1, ?_⟩⟩
  exact (mem_inOrder.mp (q.2 _ (whole_inOrder hl hw) fun f hf' => mem_inOrder.mpr ⟨hl f (hf f hf'), hf f hf'⟩)).2
theorem clos_size {s : List Nat} (hs : s ∈ wholes rows) (h : ∀ f ∈ fs, f ∈ s) : (clos rows fs).length ≤ s.length := nodup_le _ _ clos_nodup (clos_least hs h)
def excess (rows : List (List Nat)) (f : Nat) : Int := ((clos rows (List.range (f + 1))).length : Int) - f - 1
def exs (rows : List (List Nat)) : List Int := (List.range rows.length).map (excess rows)
theorem exs_len : (exs rows).length = rows.length := by unfold exs; rw [List.length_map, List.length_range]
theorem range_sub {f : Nat} (h : f ≤ rows.length) : ∀ x ∈ List.range f, x < rows.length := fun x hx => Nat.lt_of_lt_of_le (List.mem_range.mp hx) h
theorem clos_ge {f : Nat} (h : f ≤ rows.length) : f ≤ (clos rows (List.range f)).length := by
  have := nodup_le _ _ (range_nodup f) (sub_clos (range_sub h))
  rw [List.length_range] at this
  exact this
theorem clos_le : (clos rows fs).length ≤ rows.length := by
  have := nodup_le _ (List.range rows.length) (clos_nodup (rows := rows) (fs := fs)) fun x hx => List.mem_range.mpr (clos_lt hx)
  rw [List.length_range] at this
  exact this
theorem excess_nn {f : Nat} (h : f < rows.length) : 0 ≤ excess rows f := by
  have := clos_ge (rows := rows) (f := f + 1) h
  unfold excess
  omega
end K45
namespace K45
/-! ### orders in which each frame is behind those on which it leans -/
variable {rows : List (List Nat)}
inductive Tpl (rows : List (List Nat)) : List Nat → Prop where
  | nil : Tpl rows []
  | snoc {l : List Nat} {o : Nat} (h : Tpl rows l) (ho : o < rows.length) (hn : o ∉ l) (hr : ∀ x ∈ row rows o, x ∈ l) : Tpl rows (l ++ [o])
theorem mem_snoc {l : List Nat} {o x : Nat} : x ∈ l ++ [o] ↔ x ∈ l ∨ x = o := by rw [List.mem_append, List.mem_singleton]
theorem nodup_snoc {l : List Nat} {o : Nat} (h : l.Nodup) (hn : o ∉ l) : (l ++ [o]).Nodup := by
  rw [List.nodup_append]
  refine ⟨h, by simp, fun a ha b hb => ?_⟩
  rw [List.mem_singleton.mp hb]
  exact fun e => hn (e ▸ ha)
theorem Tpl.lt {l : List Nat} (h : Tpl rows l) : ∀ x ∈ l, x < rows.length := by
  induction h with
  | nil => exact fun x hx => nomatch hx
  | snoc h ho hn hr ih => exact fun x hx => (mem_snoc.mp hx).elim (ih x) fun e => e ▸ ho
theorem Tpl.nd {l : List Nat} (h : Tpl rows l) : l.Nodup := by
  induction h with
  | nil => exact .nil
  | snoc h ho hn hr ih => exact nodup_snoc ih hn
theorem Tpl.shut {l : List Nat} (h : Tpl rows l) : ∀ f ∈ l, ∀ x ∈ row rows f, x ∈ l := by
  induction h with
  | nil => exact fun x hx => nomatch hx
  | snoc h ho hn hr ih => exact fun f hf x hx => mem_snoc.mpr (.inl ((mem_snoc.mp hf).elim (fun q => ih f q x hx) fun e => hr x (e ▸ hx)))
theorem Tpl.take {l : List Nat} (h : Tpl rows l) (k : Nat) : Tpl rows (l.take k) := by
  induction h with
  | nil => rw [List.take_nil]; exact .nil
  | @snoc l o h ho hn hr ih =>
    by_cases c : k ≤ l.length
    · rw [List.take_append_of_le_length c]
      exact ih
    · rw [List.take_of_length_le (by rw [List.length_append]; show l.length + 1 ≤ k; omega)]
      exact .snoc h ho hn hr
theorem Tpl.len {l : List Nat} (h : Tpl rows l) : l.length ≤ rows.length := by
  have := nodup_le _ (List.range rows.length) h.nd fun x hx => List.mem_range.mpr (h.lt x hx)
  rw [List.length_range] at this
  exact this
theorem Tpl.all {l : List Nat} (h : Tpl rows l) (e : l.length = rows.length) {x : Nat} (hx : x < rows.length) : x ∈ l := by
  refine Decidable.byContradiction fun q => ?_
  have := nodup_le (x :: l) (List.range rows.length) (List.nodup_cons.mpr ⟨q, h.nd⟩) fun y hy => by
    rcases List.mem_cons.mp hy with rfl | hy
    · exact List.mem_range.mpr hx
    · exact List.mem_range.mpr (h.lt y hy)
  rw [List.length_cons, List.length_range] at this
  omega
/-- all of them, of k frames -/
def nexts (rows : List (List Nat)) (l : List Nat) : List (List Nat) := ((List.range rows.length).filter fun o => !(inB l o) && (row rows o).all (inB l)).map fun o => l ++ [o]
def ordsN (rows : List (List Nat)) : Nat → List (List Nat)
  | 0 => [[]]
  | k + 1 => (ordsN rows k).flatMap (nexts rows)
theorem mem_nexts {l m : List Nat} : m ∈ nexts rows l ↔ ∃ o, m = l ++ [o] ∧ o < rows.length ∧ o ∉ l ∧ ∀ x ∈ row rows o, x ∈ l := by
  unfold nexts
  rw [List.mem_map]
  constructor
  · rintro ⟨o, ho, rfl⟩
    rw [List.mem_filter, List.mem_range, Bool.and_eq_true, all_inB] at ho
    exact ⟨o, rfl, ho.1, fun q => by rw [inB_iff.mpr q] at ho; exact absurd ho.2.1 (by decide), ho.2.2⟩
  · rintro ⟨o, rfl, h1, h2, h3⟩
    refine ⟨o, ?_, rfl⟩
    rw [List.mem_filter, List.mem_range, Bool.and_eq_true, all_inB]
    refine ⟨h1, ?_, h3⟩
    rw [Bool.eq_false_iff.mpr fun q => h2 (inB_iff.mp q)]
    rfl
theorem mem_ordsN : ∀ (k : Nat) (l : List Nat), l ∈ ordsN rows k ↔ Tpl rows l ∧ l.length = k
  | 0, l => by
    constructor
    · intro h
      rw [List.mem_singleton.mp h]
      exact ⟨.nil, rfl⟩
    · rintro ⟨_, h⟩
      rw [List.eq_nil_of_length_eq_zero h]
      exact List.mem_singleton.mpr rfl
  | k + 1, m => by
    show m ∈ (ordsN rows k).flatMap (nexts rows) ↔ _
    rw [List.mem_flatMap]
    constructor
    · rintro ⟨l, hl, hm⟩
      obtain ⟨h, e⟩ := (mem_ordsN k l).mp hl
      obtain ⟨o, rfl, h1, h2, h3⟩ := mem_nexts.mp hm
      exact ⟨.snoc h h1 h2 h3, by rw [List.length_append, e]; rfl⟩
    · rintro ⟨h, e⟩
      cases h with
      | nil => cases e
      | @snoc l o h ho hn hr =>
        refine ⟨l, (mem_ordsN k l).mpr ⟨h, ?_⟩, mem_nexts.mpr ⟨o, rfl, ho, hn, hr⟩⟩
        rw [List.length_append] at e
        exact Nat.succ.inj e
def ords (rows : List (List Nat)) : List (List Nat) := ordsN rows rows.length
theorem mem_ords {l : List Nat} : l ∈ ords rows ↔ Tpl rows l ∧ l.length = rows.length := mem_ordsN _ _
/-! ### how far behind -/
def lags (line : List Nat) : List Int := (List.range line.length).map fun t : Nat => (t : Int) - ((line.getD t 0 : Nat) : Int)
def lag (line : List Nat) : Int := maxI (0 :: lags line)
theorem lag_le {line : List Nat} {m : Int} : lag line ≤ m ↔ 0 ≤ m ∧ ∀ (t x : Nat), line[t]? = some x → (t : Int) - x ≤ m := by
  obtain ⟨a, b⟩ := maxI_spec (0 :: lags line) (by simp)
  constructor
  · intro h
    refine ⟨Int.le_trans (b 0 List.mem_cons_self) h, fun t x e => Int.le_trans (b _ (List.mem_cons_of_mem _ (List.mem_map.mpr ⟨t, List.mem_range.mpr (List.getElem?_eq_some_iff.mp e).1, ?_⟩))) h⟩
    rw [List.getD_eq_getElem?_getD, e]
    rfl
  · rintro ⟨h0, h⟩
    rcases List.mem_cons.mp a with e | e
    · show maxI _ ≤ m
      omega
    · obtain ⟨t, ht, e⟩ := List.mem_map.mp e
      have lt := List.mem_range.mp ht
      have := h t line[t] (List.getElem?_eq_getElem lt)
      rw [List.getD_eq_getElem?_getD, List.getElem?_eq_getElem lt] at e
      show maxI _ ≤ m
      have e : (t : Int) - ((line[t] : Nat) : Int) = maxI (0 :: lags line) := e
      omega
theorem lag_nn {line : List Nat} : 0 ≤ lag line := (lag_le.mp (Int.le_refl (lag line))).1
/-- no order is better than the excess of any frame -/
theorem excess_lag {line : List Nat} (h : Tpl rows line) (e : line.length = rows.length) {f : Nat} (hf : f < rows.length) : excess rows f ≤ lag line := by
  refine Int.not_lt.mp fun q => ?_
  have hl := (lag_le.mp (Int.le_refl (lag line))).2
  have c1 := clos_ge (rows := rows) (f := f + 1) hf
  have q' : lag line < ((clos rows (List.range (f + 1))).length : Int) - f - 1 := q
  generalize hc : (clos rows (List.range (f + 1))).length = c at c1 q'
  have hp := h.take (c - 1)
  have sub := clos_least (whole_inOrder hp.lt hp.shut) (fs := List.range (f + 1)) fun x hx => by
    have hx := List.mem_range.mp hx
    obtain ⟨t, ht⟩ := List.getElem?_of_mem (h.all e (show x < rows.length by omega))
    have := hl t x ht
    have lt : t < c - 1 := by omega
    refine mem_inOrder.mpr ⟨by omega, ?_⟩
    have : (line.take (c - 1))[t]? = some x := by rw [List.getElem?_take_of_lt lt]; exact ht
    exact List.mem_of_getElem? this
  have := nodup_le _ (line.take (c - 1)) clos_nodup fun x hx => (mem_inOrder.mp (sub x hx)).2
  rw [hc, List.length_take] at this
  omega
/-- a whole set gathered behind another, in an order's order -/
theorem Tpl.grow {w l S : List Nat} (hw : Tpl rows w) (hs : S ∈ wholes rows) (hl : Tpl rows l) : Tpl rows (w ++ l.filter fun x => inB S x && !(inB w x)) := by
  induction hl with
  | nil => rw [List.filter_nil, List.append_nil]; exact hw
  | @snoc l o h ho hn hr ih =>
    rw [List.filter_append]
    cases c : (inB S o && !(inB w o)) with
    | false =>
      rw [show [o].filter (fun x => inB S x && !(inB w x)) = [] by rw [List.filter_cons, c]; rfl, List.append_nil]
      exact ih
    | true =>
      rw [show [o].filter (fun x => inB S x && !(inB w x)) = [o] by rw [List.filter_cons, c]; rfl, ← List.append_assoc]
      rw [Bool.and_eq_true] at c
      have ow : o ∉ w := fun q => by rw [inB_iff.mpr q] at c; exact absurd c.2 (by decide)
      have oS := inB_iff.mp c.1
      refine .snoc ih ho (fun q => ?_) fun x hx => ?_
      · rcases List.mem_append.mp q with q | q
        · exact ow q
        · exact hn (List.mem_filter.mp q).1
      · refine List.mem_append.mpr ?_
        by_cases xw : x ∈ w
        · exact .inl xw
        · refine .inr (List.mem_filter.mpr ⟨hr x hx, ?_⟩)
          rw [Bool.and_eq_true]
          refine ⟨inB_iff.mpr ((mem_wholes.mp hs).2 o oS x hx), ?_⟩
          rw [Bool.eq_false_iff.mpr fun q => xw (inB_iff.mp q)]
          rfl
theorem same_len {a b : List Nat} (h1 : a.Nodup) (h2 : b.Nodup) (h : ∀ x, x ∈ a ↔ x ∈ b) : a.length = b.length := Nat.le_antisymm (nodup_le a b h1 fun x q => (h x).mp q) (nodup_le b a h2 fun x q => (h x).mpr q)
theorem build (hl : ∀ r ∈ rows, lotB rows.length r = true) {l0 : List Nat} (h0 : Tpl rows l0) (e0 : l0.length = rows.length) {m : Int} (hm : ∀ f, f < rows.length → excess rows f ≤ m) :
    ∀ f, f ≤ rows.length → ∃ w, Tpl rows w ∧ (∀ x, x ∈ w ↔ x ∈ clos rows (List.range f)) ∧ ∀ (t x : Nat), w[t]? = some x → (t : Int) - x ≤ m
  | 0, _ => ⟨[], .nil, fun x => ⟨fun h => (nomatch h), fun h => by
      have := clos_least (fs := List.range 0) (nil_wholes rows) (fun f hf => absurd (List.mem_range.mp hf) (Nat.not_lt_zero _)) x h
      exact this⟩, fun t x h => by simp at h⟩
  | f + 1, hf => by
    obtain ⟨w, hw, sw, lw⟩ := build hl h0 e0 hm f (by omega)
    have hS := clos_whole (fs := List.range (f + 1)) hl
    have hg := hw.grow hS h0
    have sub : ∀ x ∈ w, x ∈ clos rows (List.range (f + 1)) := fun x hx => clos_least hS (fun y hy => sub_clos (range_sub hf) y (List.mem_range.mpr (Nat.lt_succ_of_lt (List.mem_range.mp hy)))) x ((sw x).mp hx)
    have same : ∀ x, x ∈ (w ++ l0.filter fun x => inB (clos rows (List.range (f + 1))) x && !(inB w x)) ↔ x ∈ clos rows (List.range (f + 1)) := fun x => by
      rw [List.mem_append, List.mem_filter, Bool.and_eq_true, inB_iff]
      refine ⟨fun q => q.elim (sub x) fun q => q.2.1, fun q => ?_⟩
      by_cases xw : x ∈ w
      · exact .inl xw
      · refine .inr ⟨h0.all e0 (clos_lt q), q, ?_⟩
        rw [Bool.eq_false_iff.mpr fun q => xw (inB_iff.mp q)]
        rfl
    refine ⟨_, hg, same, fun t x ht => ?_⟩
    by_cases c : t < w.length
    · rw [List.getElem?_append_left c] at ht
      exact lw t x ht
    · have lt := (List.getElem?_eq_some_iff.mp ht).1
      rw [same_len hg.nd clos_nodup same] at lt
      rw [List.getElem?_append_right (by omega)] at ht
      have hx := (List.mem_filter.mp (List.mem_of_getElem? ht)).2
      rw [Bool.and_eq_true] at hx
      have xw : x ∉ w := fun q => by rw [inB_iff.mpr q] at hx; exact absurd hx.2 (by decide)
      have xf : f ≤ x := Nat.le_of_not_lt fun q => xw ((sw x).mpr (sub_clos (range_sub (by omega)) x (List.mem_range.mpr q)))
      have := hm f (by omega)
      unfold excess at this
      omega
def minI (l : List Int) : Int := -(maxI (l.map fun x => -x))
theorem minI_eq {l : List Int} {m : Int} (h1 : m ∈ l) (h2 : ∀ y ∈ l, m ≤ y) : m = minI l := by
  have := maxI_eq (l := l.map fun x => -x) (m := -m) (List.mem_map.mpr ⟨m, h1, rfl⟩) fun y hy => by
    obtain ⟨z, hz, rfl⟩ := List.mem_map.mp hy
    have := h2 z hz
    omega
  unfold minI
  omega
/-- the best order is as good as the worst excess -/
theorem best_lag (hl : ∀ r ∈ rows, lotB rows.length r = true) (hn : 1 ≤ rows.length) {l0 : List Nat} (h0 : l0 ∈ ords rows) : maxI (exs rows) ∈ (ords rows).map lag ∧ ∀ y ∈ (ords rows).map lag, maxI (exs rows) ≤ y := by
  obtain ⟨h0, e0⟩ := mem_ords.mp h0
  have ne : exs rows ≠ [] := fun e => by
    have := exs_len (rows := rows)
    rw [e] at this
    exact absurd this (by show ¬ (0 = rows.length); omega)
  obtain ⟨a, b⟩ := maxI_spec (exs rows) ne
  have up : ∀ f, f < rows.length → excess rows f ≤ maxI (exs rows) := fun f hf => b _ (List.mem_map.mpr ⟨f, List.mem_range.mpr hf, rfl⟩)
  have low : ∀ y ∈ (ords rows).map lag, maxI (exs rows) ≤ y := fun y hy => by
    obtain ⟨line, hline, rfl⟩ := List.mem_map.mp hy
    obtain ⟨h, e⟩ := mem_ords.mp hline
    obtain ⟨f, hf, ef⟩ := List.mem_map.mp a
    rw [← ef]
    exact excess_lag h e (List.mem_range.mp hf)
  obtain ⟨w, hw, sw, lw⟩ := build hl h0 e0 up rows.length (Nat.le_refl _)
  have ew : w.length = rows.length := by
    refine Nat.le_antisymm hw.len ?_
    have := nodup_le (List.range rows.length) w (range_nodup _) fun x hx => (sw x).mpr (sub_clos (range_sub (Nat.le_refl _)) x hx)
    rw [List.length_range] at this
    exact this
  have mem : lag w ∈ (ords rows).map lag := List.mem_map.mpr ⟨w, mem_ords.mpr ⟨hw, ew⟩, rfl⟩
  have m0 : 0 ≤ maxI (exs rows) := Int.le_trans (excess_nn hn) (up 0 hn)
  have : lag w = maxI (exs rows) := Int.le_antisymm (lag_le.mpr ⟨m0, lw⟩) (low _ mem)
  exact ⟨this ▸ mem, low⟩
end K45
namespace KA
open PySem PySem.Spec PyProof.Rows L2
section
variable {X : Cx}
/-- text * int -/
def rMulS : R2 := fun x y H Q => ∃ (a : Str) (n : Int), x = .str a ∧ y = .int n ∧ 0 ≤ n ∧ n ≤ 1000 ∧ a.length ≤ 1000 ∧ Q (.str (Txt.mul a n)) H
theorem op_mulS : OpR X (binaryOp .Mult) rMulS := by
  intro pins s σ H x y v u Q I rx ry h
  obtain ⟨a, n, rfl, rfl, h0, h1, h2, q⟩ := h
  obtain ⟨t, rfl⟩ := rx
  obtain ⟨t', rfl⟩ := ry
  refine SB.mul ⟨?_, fun hn hz => ?_, fun hn hz => ?_⟩ fun t' k => ⟨.str (Txt.mul a n), H, I.tok _, ⟨_, rfl⟩, q⟩
  · simp
    omega
  · have h3 : (1000 : Int) ≤ (2 ^ 63 - 1) / n := by
      refine Int.le_ediv_of_mul_le (by omega) ?_
      omega
    omega
  · have : a.length * n.toNat ≤ 1000 * 1000 := Nat.mul_le_mul h2 (by omega)
    unfold Builtin.Str.tooLong
    simp
    have e : sizeLine = 16777216 := by rfl
    omega
end
end KA
namespace KA
open PySem PySem.Spec PyProof.Rows L2 PySem.W
/-- the binary digits of a number from 0 on, as a text -/
def binText (n : Nat) : Str := ⟨((Nat.toDigits 2 n).map Char.toNat).toArray⟩
def specB : Str := ⟨#[98]⟩
theorem digits_some (n : Nat) : ∃ d ds, (Nat.toDigits 2 n).map Char.toNat = d :: ds := by
  cases e : (Nat.toDigits 2 n).map Char.toNat with
  | nil =>
    have h := congrArg List.length e
    simp at h
  | cons d ds => exact ⟨d, ds, rfl⟩
theorem meets_b {a : Int} {t : Tok} (h0 : 0 ≤ a) (hl : (binText a.natAbs).length ≤ sizeLine) (u : Tok) :
    Meets (Builtin.«int.__format__» ⟨[.int a t, .str specB u], []⟩) (fun _ R s => ∀ t' k, R (.ok (.ret (.str (binText a.natAbs) t'))) { s with toks := k }) := by
  apply KPc.meets_of
  intro _ _ _ _ _ _ _
  unfold Builtin.«int.__format__»
  refine wpAny_bind (wpAny_of_eq (a := (_, _)) rfl ?_)
  refine wpAny_bind (wpAny_of_eq (a := _) rfl ?_)
  kxf_if
  refine wpAny_bind (wpAny_typeNameOf (T := "str") (typeIs_str _ _ _) (by decide) fun _ => ?_)
  refine wpAny_bind (wpAny_of_eq (a := some _) rfl ?_)
  kxf_if
  kxf_if
  refine wpAny_bind (wpAny_typeNameOfCut_int ?_)
  have hneg : decide (a < 0) = false := decide_eq_false (by omega)
  (repeat kxf_if)
  refine KXf.ret_text (T := binText a.natAbs) ?_ ?_ ?_
  · rw [hneg]
    obtain ⟨d, ds, e⟩ := digits_some a.natAbs
    unfold binText
    rw [e]
    generalize hL : List.map _ _ = L
    have eL : L = d :: ds := hL.symm.trans e
    subst eL
    show ((⟨(List.replicate (((-1 : Int) - ((([] : List Nat).length : Nat) + (([] : List Nat).length : Nat) + (([] : List Nat).length : Nat)) - ((List.replicate ((0 : Int).toNat - (d :: ds).length) 48 ++ (d :: ds)).length : Nat)).toNat) 32 ++ ([] : List Nat) ++ [] ++ List.replicate 0 32 ++ (List.replicate ((0 : Int).toNat - (d :: ds).length) 48 ++ (d :: ds)) ++ [] ++ List.replicate 0 32).toArray⟩ : Str)) = _
    have z1 : (0 : Int).toNat - (d :: ds).length = 0 := by simp
    rw [z1]
    have z2 : ((-1 : Int) - ((([] : List Nat).length : Nat) + (([] : List Nat).length : Nat) + (([] : List Nat).length : Nat)) - ((List.replicate 0 48 ++ (d :: ds)).length : Nat)).toNat = 0 := by
      simp
      omega
    rw [z2]
    simp
  · rw [hneg]
    obtain ⟨d, ds, e⟩ := digits_some a.natAbs
    unfold binText at hl
    rw [e] at hl
    generalize hL : List.map _ _ = L
    have eL : L = d :: ds := hL.symm.trans e
    subst eL
    show (⟨(List.replicate (((-1 : Int) - ((([] : List Nat).length : Nat) + (([] : List Nat).length : Nat) + (([] : List Nat).length : Nat)) - ((List.replicate ((0 : Int).toNat - (d :: ds).length) 48 ++ (d :: ds)).length : Nat)).toNat) 32 ++ ([] : List Nat) ++ [] ++ List.replicate 0 32 ++ (List.replicate ((0 : Int).toNat - (d :: ds).length) 48 ++ (d :: ds)) ++ [] ++ List.replicate 0 32).toArray⟩ : Str).length ≤ _
    have z1 : (0 : Int).toNat - (d :: ds).length = 0 := by simp
    rw [z1]
    have z2 : ((-1 : Int) - ((([] : List Nat).length : Nat) + (([] : List Nat).length : Nat) + (([] : List Nat).length : Nat)) - ((List.replicate 0 48 ++ (d :: ds)).length : Nat)).toNat = 0 := by
      simp
      omega
    rw [z2]
    simpa using hl
  · assumption
end KA
namespace KA
open PySem PySem.Spec PyProof.Rows L2 PySem.W
section
variable {X : Cx}
/-- f'{e:b}', a number from 0 on -/
theorem pe_fmtB {e : Expr} {te : TE} {pos p1 p2 : Pos} {k : Nat} (he : PE X e te) :
    PE X (.FormattedValue e (-1) (some (.JoinedStr [.Constant (.str "b") k p1] p2)) pos) (fun σ H Q => te σ H fun x H1 => ∃ i : Int, x = .int i ∧ 0 ≤ i ∧ (binText i.natAbs).length ≤ sizeLine ∧ Q (.str (binText i.natAbs)) H1) := by
  refine ⟨fun pins s σ H Q I h => ?_⟩
  refine wpAny_FormattedValue_spec (thn (he.run pins s σ H _ I h) fun v s1 hv => ?_)
  obtain ⟨x, H1, I1, r1, i, rfl, h0, hz, q⟩ := hv
  obtain ⟨t, rfl⟩ := r1
  refine wpAny_JoinedStr_one ?_
  refine Calls.Constant_str ⟨("b" : Str), _, rfl, ?_⟩
  exact KXf.field_int (spec' := specB) (by decide +kernel) (by decide) (by decide) (fun u => meets_b h0 hz u) fun t' k => ⟨.str (binText i.natAbs), H1, (I1.tok _).tok _, ⟨_, rfl⟩, q⟩
end
end KA
namespace KA
open PySem PySem.Spec PyProof.Rows L2 PySem.W
/-! ### an exception that was caught, kept as a value -/
/-- an exception of the class cls with the own dict d stands at a -/
def ExV (cls : Value) (d : Option Addr) (a : Addr) : HO := .ext fun h => ∃ oe : Obj, h.get? a = some oe ∧ Zc cls d oe ∧ ∃ vs, oe.data = .fields vs
theorem exV_ok {P : Program} {w : World} {H : Hp} {h : Heap} {a : Addr} {cls : Value} {d : Option Addr} {oe : Obj} {vs : Array Value} (e : h.get? a = some oe) (z : Zc cls d oe) (f : oe.data = .fields vs) :
    ObjOk P w H h a (ExV cls d a) := ⟨⟨oe, e, z, vs, f⟩, ⟨oe, e⟩, fun _ _ ⟨o, q, r⟩ k => ⟨o, k o q, r⟩⟩
section
variable {X : Cx} {pins : List (Addr × Obj)} {σ : L2.St} {H : Hp} {s : Shared}
/-- what was pinned, and did not stand at the entry, is tracked from here on -/
theorem track {a : Addr} {oe : Obj} {φ : Heap → Prop} (J : Inv X ((a, oe) :: pins) σ H s) (ok : X.Ok) (n0 : X.s_0.heap.get? a = none) (np : ∀ p ∈ X.pn ++ pins, p.1 ≠ a)
    (new : ObjOk X.prog X.w (upd H a (.ext φ)) s.heap a (.ext φ)) : Inv X pins σ (upd H a (.ext φ)) s := by
  obtain ⟨ea, na, nL, notF, nc⟩ := J.pin (a, oe) (List.mem_append_right _ List.mem_cons_self)
  have nz : ∀ b u, H b = some u → b ≠ a := fun b u q => ne_of_none q na
  have cut : ∀ p, p ∈ X.pn ++ pins → p ∈ X.pn ++ (a, oe) :: pins := fun p hp => by
    rcases List.mem_append.mp hp with h | h
    · exact List.mem_append_left _ h
    · exact List.mem_append_right _ (List.mem_cons_of_mem _ h)
  have old : ∀ b o, X.s_0.heap.get? b = some o → b ≠ a := fun b o q z => by
    rw [z, n0] at q
    cases q
  have base : Un X.fs X.ex X.H_0 (upd H a (.ext φ)) X.s_0.heap s.heap :=
    { keep := J.base.keep, slot := J.base.slot, there := J.base.there
      free := fun b o q n hx => (upd_ne (old b o q)).trans (J.base.free b o q n hx)
      tups := fun b xs q => (upd_ne (nz b _ (J.base.tups b xs q))).trans (J.base.tups b xs q)
      frzs := fun b o u q => (upd_ne (nz b _ (J.base.frzs b o u q))).trans (J.base.frzs b o u q)
      tbls := fun b ps q => by
        obtain ⟨more, z⟩ := J.base.tbls b ps q
        exact ⟨more, (upd_ne (nz b _ z)).trans z⟩ }
  have apart : ∀ b, b ≠ a → H b = none → upd H a (.ext φ) b = none := fun b hb hn => (upd_ne hb).trans hn
  have ce : ∀ x c, X.env.cells.lookup x = some c → c ≠ a := fun x c q z => by
    obtain ⟨v, o, ho, hd⟩ := J.cell x c q
    rw [z, ea] at ho
    cases ho
    exact nc v hd
  have hk : HOk X.prog X.w (upd H a (.ext φ)) s.heap := fun b o q => by
    by_cases hb : b = a
    · subst hb
      rw [upd_same] at q
      cases q
      exact new
    · rw [upd_ne hb] at q
      exact (J.hok b o q).stay (fun c v _ r => r) (fun c r => (upd_ne (nz c _ r)).trans r) (fun c xs r => (upd_ne (nz c _ r)).trans r)
  have pk : ∀ p ∈ X.pn ++ pins, s.heap.get? p.1 = some p.2 ∧ upd H a (.ext φ) p.1 = none ∧ p.1 ≠ X.env.locals ∧ p.1 ∉ X.fs ∧ ∀ v, p.2.data ≠ .cell v := fun p hp => by
    obtain ⟨e1, e2, e3⟩ := J.pin p (cut p hp)
    exact ⟨e1, apart _ (np p hp) e2, e3⟩
  exact { ok := ok, os := J.os, bare := J.bare, base := base, loc := J.loc, cell := J.cell, free := apart _ (Ne.symm nL) J.free
          freeC := fun x c q => apart _ (ce x c q) (J.freeC x c q), pin := pk, hok := hk, len := J.len }
end
/-- what 'except x as n: m = n' wishes of an exception of the body: it is of the clause's class, and m holds it behind the try (slots: n in i, m in j) -/
def wKeep (K : PySem.W.Frag) (c : Value) (i j len : Nat) (D : Ends) : WX := fun cls d σ H =>
  PySem.W.exmOne K cls c = some true ∧ ∀ a, H a = none → σ.length = len → D.nx ((((σ.set i (some (.ref a))).set j (some (.ref a)))).set i none) (upd H a (ExV cls d a))
section
variable {X : Cx} {x n m : Str} {c : Value} {i j : Nat} {body : List Stmt} {np pm pr pa ph pt : Pos} {tb : WX → TS}
theorem ps_try_keep (hx : X.ex = []) (hs : X.stack = X.env :: X.outer) (hf : X.env.frame = some X.env.locals) (hN : X.N.Nodup) (hi : X.N[i]? = some n) (hj : X.N[j]? = some m) (hln : X.env.kindOf n = some .local) (hlm : X.env.kindOf m = some .local) (hc : Names X x c)
    (hd : (n == ("__debug__" : Str)) = false) (hcd : (n == ("__classdict__" : Str)) = false)
    (hb : ∀ (W : WX) (pn : List (Addr × Obj)) (xe : Value → Shared → Prop), Takes (X.tr pn xe) W → PassesOwn (model X.prog X.w) X.A X.env xe → PSs (X.tr pn xe) body (tb W)) :
    PS X (.Try body [.ExceptHandler (some (.Name x np)) (some n) [.Assign [.Name m pm] (.Name n pr) pa] ph] [] [] pt) (fun D σ H => tb (wKeep X.K c i j X.N.length D) D σ H) := by
  refine ⟨fun pins s σ H D I h => wpAny_Try_except ?_⟩
  have ok := I.ok
  have fr : X.A.frames = some (X.env :: X.outer) := ok.frames.trans (congrArg some hs)
  have ways : ∀ u s', XE (X.tr (X.pn ++ pins) (fun e s₁ => wpAny (model X.prog X.w) X.A (noteFrame e X.env)
      (fun _ s₂ => wpAny (model X.prog X.w) X.A (setFlight e none)
        (fun _ s₃ => wpAny (model X.prog X.w) X.A (handleBy e X.env [.ExceptHandler (some (.Name x np)) (some n) [.Assign [.Name m pm] (.Name n pr) pa] ph]) (SP X pins D) X.xe s₃) X.xe s₂) X.xe s₁)) (wKeep X.K c i j X.N.length D) u s' →
      wpAny (model X.prog X.w) X.A (noteFrame u X.env)
        (fun _ s₂ => wpAny (model X.prog X.w) X.A (setFlight u none)
          (fun _ s₃ => wpAny (model X.prog X.w) X.A (handleBy u X.env [.ExceptHandler (some (.Name x np)) (some n) [.Assign [.Name m pm] (.Name n pr) pa] ph]) (SP X pins D) X.xe s₃) X.xe s₂) X.xe s' := by
    rintro u s' ⟨a, B, sI, pins', σ', H', cls, d, rfl, Jt, nb, up, sky, na, os, ag, hyes, hgo⟩
    have J : Inv X pins σ' H' sI := Jt.ofTry ok
    have nb : ∀ b o, sI.heap.get? b = some o → b ∉ frs X.stack → B.get? b = some o := nb
    have sky : Sky B (X.env :: X.outer) a (Zc cls d) X.env.locals s'.heap := hs ▸ sky
    refine Sky.land Zc.steady fr hf sky fun h3 air3 grow3 => ?_
    have J3 : Inv X pins σ' H' { s' with heap := h3 } := J.landed nb air3.1 (up.trans grow3) os ag
    obtain ⟨o3, v3, e3, z3, f3⟩ := air3.there
    have away : a ∉ frs (X.env :: X.outer) := fun hm => by
      obtain ⟨_, o', e', hnf⟩ := air3.2.2.1.mem hm
      cases e3.symm.trans e'
      exact hnf _ f3
    have nL : a ≠ X.env.locals := fun z => away (List.mem_filterMap.mpr ⟨X.env, List.mem_cons_self, hf.trans (congrArg some z.symm)⟩)
    have notF : a ∉ X.fs := fun hm => by
      obtain ⟨e, inX, q⟩ := List.mem_filterMap.mp hm
      exact away (List.mem_filterMap.mpr ⟨e, List.mem_cons_of_mem _ inX, q⟩)
    have gone : sI.heap.get? a = none := by
      cases q : sI.heap.get? a with
      | none => rfl
      | some o =>
        have z := nb a o q (by rw [hs]; exact away)
        rw [air3.2.1] at z
        cases z
    have n0 : X.s_0.heap.get? a = none := by
      cases q : X.s_0.heap.get? a with
      | none => rfl
      | some o =>
        obtain ⟨o', z⟩ := J.base.there a o q (by rw [hx]; exact fun z => nomatch z)
        rw [gone] at z
        cases z
    have np' : ∀ p ∈ X.pn ++ pins, p.1 ≠ a := fun p hp z => by
      have q := (J.pin p hp).1
      rw [z, gone] at q
      cases q
    have S3 := J3.suite e3 f3 na nL notF
    refine wpAny_handleBy_cons (codeAny_handlers_test ?_) (by intro q; cases q)
    have LT : PySem.W.Looks (model X.prog X.w) h3 (typeOf (.ref a)) cls := fun A Q E s k q => wpAny_typeOf_ref (k _ _ e3) (z3.1.symm ▸ q)
    have LM := PySem.W.exm_one (M := model X.prog X.w) J3.kIn LT hyes
    have named : ∀ {Q E : Value → Shared → Prop}, Q c { s' with heap := h3 } →
        wpAny (model X.prog X.w) (X.A.mark (some (.ref a))) (eval (.Name x np) X.env) Q E { s' with heap := h3 } := fun {Q E} q => by
      obtain ⟨g, gd, gm | ⟨gm, gv, gn⟩⟩ := hc
      · exact ld_glob (X := X.suite a _) S3 g gm q gd
      · exact ld_blt (X := X.suite a _) S3 g gm gv q gn gd
    refine named (LM.here (codeAny_handlers_suite_as ?_))
    refine HandSPX.lands_againZ air3 fun h4 air4 grow4 => ?_
    have J4 : Inv X pins σ' H' { s' with heap := h4 } := J.landed nb air4.1 ((up.trans grow3).trans grow4) os ag
    obtain ⟨o4, v4, e4, z4, f4⟩ := air4.there
    refine store_ok (X := X.suite a ((a, o4) :: (X.pn ++ pins))) (v := .ref a) (J4.suite e4 f4 na nL notF) hN hi (.inl hln) rfl (fun s5 S5 => ?_) (.inr hln)
    have assign : PSs (X.suite a ((a, o4) :: (X.pn ++ pins))) [.Assign [.Name m pm] (.Name n pr) pa] (tAsg (tVar i) (gName j)) :=
      pss_one (ps_set (i := j) hN hj (.inl hlm) (pe_var hi (.inl hln) hd hcd) (hf := .inr hlm))
    have hlt : i < (σ'.set i (some (V.ref a))).length := by
      rw [List.length_set, J.len]
      exact (List.getElem?_eq_some_iff.mp hi).1
    refine wpAny_mono (assign.run [] s5 _ H' { D with nx := fun σ6 H6 => σ6 = (σ'.set i (some (.ref a))).set j (some (.ref a)) ∧ H6 = H', rt := fun _ _ => False, bk := fun _ _ => False, ct := fun _ _ => False } S5
      ⟨.ref a, by rw [List.getElem?_set_self (by simpa using hlt)], rfl, rfl⟩) (fun f s6 q6 => ?_) (fun _ _ z => z.elim)
    cases f with
    | next =>
      obtain ⟨σ6, H6, S6, eσ, eH⟩ := q6
      subst eσ
      subst eH
      have U : Inv X pins _ H6 s6 := S6.unsuite ok
      have P6 := S6.pin (a, o4) (List.mem_append_left _ List.mem_cons_self)
      have pin2 : ∀ p ∈ X.pn ++ (a, o4) :: pins, s6.heap.get? p.1 = some p.2 ∧ H6 p.1 = none ∧ p.1 ≠ X.env.locals ∧ p.1 ∉ X.fs ∧ ∀ v, p.2.data ≠ .cell v := fun p hp => by
        rcases List.mem_append.mp hp with h | h
        · exact U.pin p (List.mem_append_left _ h)
        · rcases List.mem_cons.mp h with e | h
          · rw [e]
            exact P6
          · exact U.pin p (List.mem_append_right _ h)
      have U2 : Inv X ((a, o4) :: pins) _ H6 s6 := { U with pin := pin2 }
      refine gone_ok U2 hN hi hln fun s7 J7 => ?_
      have P7 := (J7.pin (a, o4) (List.mem_append_right _ List.mem_cons_self)).1
      exact ⟨_, _, track J7 ok n0 np' (exV_ok P7 z4 f4), hgo a na J.len⟩
    | brk =>
      obtain ⟨_, _, _, z⟩ := q6
      exact z.elim
    | cont =>
      obtain ⟨_, _, _, z⟩ := q6
      exact z.elim
    | ret u =>
      obtain ⟨_, _, _, _, _, z⟩ := q6
      exact z.elim
  refine wpAny_mono ((hb (wKeep X.K c i j X.N.length D) (X.pn ++ pins) _ ways PassesOwn.looking).run [] s σ H D (I.toTry _) h) (fun f s1 q => ?_) fun _ _ z => z
  cases f with
  | next =>
    obtain ⟨σ1, H1, J1, q1⟩ := q
    exact wpAny_execs_nil ⟨σ1, H1, J1.ofTry ok, q1⟩
  | brk =>
    obtain ⟨σ1, H1, J1, q1⟩ := q
    exact ⟨σ1, H1, J1.ofTry ok, q1⟩
  | cont =>
    obtain ⟨σ1, H1, J1, q1⟩ := q
    exact ⟨σ1, H1, J1.ofTry ok, q1⟩
  | ret u =>
    obtain ⟨v, σ1, H1, J1, r, q1⟩ := q
    exact ⟨v, σ1, H1, J1.ofTry ok, r, q1⟩
end
end KA
namespace KA
open PySem PySem.Spec PyProof.Rows L2 PySem.W
/-- isinstance of an exception that is kept as a value, its class without fields of its own -/
def rIsV (K : PySem.W.Frag) : List V → Hp → VK → Prop := fun xs H Q => ∃ (a D : Addr) (c : V) (cv : Value) (b : Bool), xs = [.ref a, c] ∧ H a = some (ExV (.ref D) none a) ∧ ExcC K D ∧ ClsV c cv ∧ PySem.W.kitOne K (.ref D) cv = some b ∧ Q (.bl b) H
def rIs2 (K : PySem.W.Frag) : List V → Hp → VK → Prop := fun xs H Q => rIsi K xs H Q ∨ rIsV K xs H Q
section
variable {X : Cx}
theorem call_isV : CallR X (.builtin "isinstance") (rIsV X.K) := by
  intro pins s σ H xs us Q I r h
  obtain ⟨a, D, c, cv, b, rfl, ha, C, k, e, q⟩ := h
  obtain ⟨u1, u2, rfl, r1, r2⟩ := vals2 r
  cases k.eq r2
  cases (show u1 = Value.ref a from r1)
  obtain ⟨⟨oe, h1, ⟨z1, z2⟩, vs, z3⟩, _⟩ := I.hok a _ ha
  obtain ⟨oc, od, dt, sl⟩ := oe
  dsimp only at z1 z2 z3
  subst z1 z2 z3
  have J : PySem.W.InstAt s.heap a ⟨.ref D, none, .fields vs, sl⟩ D none := ⟨h1, rfl, rfl, trivial⟩
  exact PySem.W.kia_one (PySem.W.handS_kitx_exc C.hg C.hk C.hs C.hd C.ha C.hn C.ht C.hm) I.kIn J e (fun z => nomatch z) fun tk => ⟨.bl b, H, I.tok tk, rfl, q⟩
theorem call_is2 : CallR X (.builtin "isinstance") (rIs2 X.K) := by
  intro pins s σ H xs us Q I r h
  rcases h with h | h
  · exact call_isi pins s σ H xs us Q I r h
  · exact call_isV pins s σ H xs us Q I r h
/-- repr of data -/
def rRepr (K : PySem.W.Frag) : List V → Hp → VK → Prop := fun xs H Q => ∃ (x : Addr) (d : PyData), xs = [.ref x] ∧ Dp K H (.ref x) d ∧ d.showable = true ∧ d.hasDict = false ∧ d.depth ≤ 60 ∧ d.shown.length ≤ sizeLine ∧ Q (.str d.shown) H
theorem call_repr {k : Nat} (hg : X.A.guards = some []) (hr : Room k X.A) : CallR X (.builtin "repr") (rRepr X.K) := by
  intro pins s σ H xs us Q I r h
  obtain ⟨x, d, rfl, hd, hs, hn, hz, hl, q⟩ := h
  obtain ⟨u1, rfl, r1⟩ := vals1 r
  cases (show u1 = Value.ref x from r1)
  obtain ⟨as, rd⟩ := Dp.reads I d (.ref x) (.ref x) hd rfl
  have hu := hr.un
  refine repr_of_reads' rd hs (fun z => by rw [hn] at z; cases z) hg (by omega) (fun _ _ e => e) (fun h' u tk hk => ?_) hl
  exact ⟨.str d.shown, H, I.kept (t' := tk) hk, ⟨_, rfl⟩, q⟩
end
end KA
namespace KA
open PySem PySem.Spec PyProof.Rows L2 PySem.W LamX
section
variable {X : Cx}
/-- caught: what the lambda raises is kept and handed back, None if it raises nothing -/
def TCaught (K : PySem.W.Frag) (CS : Addr) : (XK → Hp → VK → Prop) → Hp → VK → Prop := fun tl H Q => ∀ Q1 : VK, (∀ v H', Q .non H' → Q1 v H') →
  tl (fun cls d H' => PySem.W.exmOne K cls (.ref CS) = some true ∧ ∀ a, H' a = none → Q (.ref a) (upd H' a (ExV cls d a))) H Q1
theorem caught_gives {a e n m q x : Str} {sg : Scope} {g CS : Addr} {cdg : Value} {j1 : Nat} {p1 p2 p3 p4 p5 p6 p7 p8 p9 pa pb pc pd pe : Pos} (S : FnScope [a, m, n] [a] sg)
    (la : sg.names.lookup a = some .local) (lm : sg.names.lookup m = some .local) (ln : sg.names.lookup n = some .local) (he : sg.names.lookup e = some .globalImplicit) (hme : X.mg e = some (.ref CS)) (hde : (e == ("__debug__" : Str)) = false)
    (d1 : (n == ("__debug__" : Str)) = false) (d2 : (n == ("__classdict__" : Str)) = false) (d3 : (m == ("__debug__" : Str)) = false) (d4 : (m == ("__classdict__" : Str)) = false) :
    GivesTo X [a, m, n] x sg g cdg
      [.Assign [.Name m p1] (.Constant .none j1 p2) p3,
       .Try [.Expr (.Call (.Name a p4) [] [] p5) p6] [.ExceptHandler (some (.Name e p7)) (some n) [.Assign [.Name m p8] (.Name n p9) pa] pb] [] [] pc,
       .Return (some (.Name m pd)) pe] a q (TCaught X.K CS) := by
  intro f c' s H Q tl act hc h
  have hgl : Gl (cxOf C8.CX0 X.prog X.w X.K X.mg X.base [a, m, n] x sg g cdg X.A X.stack s H C8.E0).nox e := he
  refine ⟨_, pss_cons (ps_set (i := 1) S.nd rfl (.inl lm) pe_non) (pss_cons (ps_try_keep (X := (cxOf C8.CX0 X.prog X.w X.K X.mg X.base [a, m, n] x sg g cdg X.A X.stack s H C8.E0).nox) (c := .ref CS) (i := 2) (j := 1)
      (tb := fun W D σ H => ∃ Eb : XK, (∀ cls d σ' H', Eb cls d H' → W cls d σ' H') ∧ σ[0]? = some (some (.ref f)) ∧ H c' = some (CodeO c' q) ∧ tl Eb H (fun _ H' => D.nx σ H'))
      rfl rfl rfl S.nd rfl rfl ln lm ⟨hgl, hde, .inl hme⟩ d1 d2 (fun W pn xe tk _ => ?_))
    (pss_one (ps_ret (pe_var (i := 1) rfl (.inl lm) d3 d4)))), ?_⟩
  · refine ⟨fun pins s' σ H' D I h' => ?_⟩
    obtain ⟨Eb, wish, h1, h2, h3⟩ := h'
    exact (pss_one (ps_expr (act W pn xe Eb p4 p5 tk wish))).run pins s' σ H' D I ⟨h1, h2, h3⟩
  · refine ⟨fun cls d H' => PySem.W.exmOne X.K cls (.ref CS) = some true ∧ ∀ a, H' a = none → Q (.ref a) (upd H' a (ExV cls d a)), fun cls d σ' H' ⟨e1, e2⟩ => ⟨e1, fun b hb hl => ?_⟩, rfl, hc, ?_⟩
    · match σ', hl with
      | [u, v, w], _ => exact ⟨_, rfl, e2 b hb⟩
    · exact h _ fun v H' z => ⟨_, rfl, z⟩
end
end KA
namespace KA
open PySem PySem.Spec PyProof.Rows L2 PySem.W LamX
/-! ### what the top has written, by name -/
/-- a def of the top -/
structure DefT (K : PySem.W.Frag) (mg : Str → Option Value) (x : Str) (st : Stmt) where
  a : Addr
  d : FuncData
  f : Fun K x x st a d
  m : mg x = some (.ref a)
abbrev veB : List Value := [.type "ValueError", .type "Exception", .type "BaseException", .type "object"]
/-- an exception class of the top over ReelError at R, without an __init__ of its own -/
structure ExcT (K : PySem.W.Frag) (mg : Str → Option Value) (x : Str) (R : Addr) where
  C : Addr
  g : mg x = some (.ref C)
  q : PySem.W.excIn K C veB "ValueError.__new__" = true
  k : PySem.W.keepIn K (.ref C) = true
  b : PySem.W.subIn K (.ref C) (.type "BaseException") = some true
  t : PySem.W.typeIn K (.ref C) = some (.type "type")
  r : PySem.W.subIn K (.ref C) (.ref R) = some true
  e : ExcC K C
/-- ReelError -/
structure ReelT (K : PySem.W.Frag) (mg : Str → Option Value) where
  C : Addr
  g : mg "ReelError" = some (.ref C)
  b : PySem.W.subIn K (.ref C) (.type "BaseException") = some true
  t : PySem.W.typeIn K (.ref C) = some (.type "type")
  d : PySem.W.hasDictIn K C = true
theorem ExcT.exm {K : PySem.W.Frag} {mg : Str → Option Value} {x : Str} (R : ReelT K mg) (T : ExcT K mg x R.C) : PySem.W.exmOne K (.ref T.C) (.ref R.C) = some true := PySem.W.exm_ref R.b R.d R.t T.r
/-- an int constant of the top -/
def CstT (mg : Str → Option Value) (x : Str) (n : Int) : Prop := ∃ t, mg x = some (.int n t)
abbrev C1 := L2.CX
theorem passE {X : Cx} : Passes (L2.CX X.prog X.w) X E0 := passL
section
variable {X : Cx} {E : XK}
/-- raise C('..') in a def that lets it out -/
theorem ps_raiseT {K : PySem.W.Frag} {mg : Str → Option Value} {x : Str} {R : Addr} {pos p1 p2 pc : Pos} {j : Nat} {m : Str} (hK : X.K = K) (hM : X.mg = mg) (T : ExcT K mg x R) (hg : Gl X x) (hc : X.calm = true) {W : WX} (tk : Takes X W)
    (hdb : (x == ("__debug__" : Str)) = false := by decide) :
    PS X (.Raise (some (.Call (.Name x p1) [.Constant (.str m) j pc] [] p2)) none pos) (fun _ σ H => W (.ref T.C) none σ H) := by
  subst hK
  subst hM
  exact ps_raise hc tk (pmk_own PySem.F.excBase_ValueError T.q T.g T.k (raises_own T.b T.t) hg hdb)
end
end KA
namespace KA
open PySem PySem.Spec PyProof.Rows L2 PySem.W LamX
/-! ### the law's own draws: their state -/
abbrev kLarge : Key := Sum.inr "large"
abbrev kCells : Key := Sum.inr "cells"
abbrev kLeft : Key := Sum.inr "left"
abbrev kTurn : Key := Sum.inr "turn"
def stKv (lg cl : Addr) (left turn : Int) : List (Key × V) := [(kLarge, .ref lg), (kCells, .ref cl), (kLeft, .int left), (kTurn, .int turn)]
section
variable {lg cl : Addr} {left turn : Int}
theorem k12 : ¬ kLarge = kCells := by decide +kernel
theorem k13 : ¬ kLarge = kLeft := by decide +kernel
theorem k14 : ¬ kLarge = kTurn := by decide +kernel
theorem k23 : ¬ kCells = kLeft := by decide +kernel
theorem k24 : ¬ kCells = kTurn := by decide +kernel
theorem k34 : ¬ kLeft = kTurn := by decide +kernel
theorem st_large : valV (stKv lg cl left turn) kLarge = some (.ref lg) := valV_pos rfl
theorem st_cells : valV (stKv lg cl left turn) kCells = some (.ref cl) := (valV_neg k12).trans (valV_pos rfl)
theorem st_left : valV (stKv lg cl left turn) kLeft = some (.int left) := (valV_neg k13).trans ((valV_neg k23).trans (valV_pos rfl))
theorem st_turn : valV (stKv lg cl left turn) kTurn = some (.int turn) := (valV_neg k14).trans ((valV_neg k24).trans ((valV_neg k34).trans (valV_pos rfl)))
theorem st_put_left (l : Int) : putK (stKv lg cl left turn) kLeft (.int l) = stKv lg cl l turn := by
  unfold putK
  rw [valV_any, st_left, Option.isSome_some, if_pos rfl]
  simp only [stKv, List.map_cons, List.map_nil, if_neg k13, if_neg k23, if_neg (Ne.symm k34), if_true]
theorem st_put_turn (t : Int) : putK (stKv lg cl left turn) kTurn (.int t) = stKv lg cl left t := by
  unfold putK
  rw [valV_any, st_turn, Option.isSome_some, if_pos rfl]
  simp only [stKv, List.map_cons, List.map_nil, if_neg k14, if_neg k24, if_neg k34, if_true]
end
/-- the state stands at st: the numbers that are left to draw from at lg, the script's at cl -/
structure StD (H : Hp) (st lg cl : Addr) (large cells : List Int) (left : Int) (turn : Nat) : Prop where
  d : H st = some (.dK (stKv lg cl left turn))
  l : H lg = some (.lst (large.map V.int))
  c : H cl = some (.lst (cells.map V.int))
  ne : lg ≠ cl
  pl : ∀ x ∈ large, 0 ≤ x
  p0 : 0 ≤ left
def StAt (H : Hp) (st lg cl : Addr) (n : Nat) : Prop := ∃ large cells left turn, StD H st lg cl large cells left turn ∧ turn ≤ n
/-- all but the state stands as it stood -/
def Kp (st lg : Addr) (H H' : Hp) : Prop := ∀ b o, H b = some o → b ≠ st → b ≠ lg → H' b = some o
theorem Kp.refl {st lg : Addr} {H : Hp} : Kp st lg H H := fun _ _ h _ _ => h
theorem Kp.trans {st lg : Addr} {H H1 H2 : Hp} (a : Kp st lg H H1) (b : Kp st lg H1 H2) : Kp st lg H H2 := fun c o h n1 n2 => b c o (a c o h n1 n2) n1 n2
theorem Kp.same {st lg : Addr} {H H1 : Hp} (a : Same H H1) : Kp st lg H H1 := fun c o h _ _ => a c o h
theorem Same.new {H : Hp} {p : Addr} {o : HO} (h : H p = none) : Same H (upd H p o) := fun b u e => by
  rw [upd_ne (ne_of_none e h)]
  exact e
theorem StD.same {H H' : Hp} {st lg cl : Addr} {large cells : List Int} {left : Int} {turn : Nat} (S : StD H st lg cl large cells left turn) (e : Same H H') : StD H' st lg cl large cells left turn :=
  { S with d := e _ _ S.d, l := e _ _ S.l, c := e _ _ S.c }
theorem StAt.same {H H' : Hp} {st lg cl : Addr} {n : Nat} (S : StAt H st lg cl n) (e : Same H H') : StAt H' st lg cl n := by
  obtain ⟨a, b, c, d, s, h⟩ := S
  exact ⟨a, b, c, d, s.same e, h⟩
theorem StAt.mono {H : Hp} {st lg cl : Addr} {n m : Nat} (S : StAt H st lg cl n) (h : n ≤ m) : StAt H st lg cl m := by
  obtain ⟨a, b, c, d, s, h'⟩ := S
  exact ⟨a, b, c, d, s, Nat.le_trans h' h⟩
theorem StD.st_lg {H : Hp} {st lg cl : Addr} {large cells : List Int} {left : Int} {turn : Nat} (S : StD H st lg cl large cells left turn) : st ≠ lg := ne_of S.d S.l (by intro z; cases z)
theorem StD.st_cl {H : Hp} {st lg cl : Addr} {large cells : List Int} {left : Int} {turn : Nat} (S : StD H st lg cl large cells left turn) : st ≠ cl := ne_of S.d S.c (by intro z; cases z)
/-- the state's dict is written -/
theorem StD.put {H : Hp} {st lg cl : Addr} {large cells : List Int} {left l : Int} {turn t : Nat} (S : StD H st lg cl large cells left turn) (h : 0 ≤ l) : StD (upd H st (.dK (stKv lg cl l t))) st lg cl large cells l t :=
  { d := upd_same, l := (upd_ne S.st_lg.symm).trans S.l, c := (upd_ne S.st_cl.symm).trans S.c, ne := S.ne, pl := S.pl, p0 := h }
theorem Kp.put {st lg : Addr} {H : Hp} {o : HO} : Kp st lg H (upd H st o) := fun b u e n _ => (upd_ne n).trans e
theorem Kp.put2 {st lg : Addr} {H : Hp} {o : HO} : Kp st lg H (upd H lg o) := fun b u e _ n => (upd_ne n).trans e
theorem dp_ints {K : PySem.W.Frag} {H : Hp} : ∀ ns : List Int, DpAll K H (ns.map V.int) (ns.map PyData.int)
  | [] => .nil
  | n :: r => .cons (.int n) (dp_ints r)
theorem dp_int_list {K : PySem.W.Frag} {H : Hp} {a : Addr} {ns : List Int} (h : H a = some (.lst (ns.map V.int))) : Dp K H (.ref a) (.list (ns.map PyData.int)) := .lst (SqL.of h) (dp_ints ns)
theorem dp_nil {K : PySem.W.Frag} {H : Hp} {a : Addr} (h : H a = some (.lst [])) : Dp K H (.ref a) (.list []) := .lst (SqL.of h) .nil
theorem lay_is : ∀ ns : List Int, PyData.canLayAll0 (ns.map PyData.int) = true ∧ PyData.depthAll (ns.map PyData.int) = 0
  | [] => ⟨rfl, rfl⟩
  | n :: r => by
    obtain ⟨h1, h2⟩ := lay_is r
    exact ⟨by simp [PyData.canLayAll0, PyData.canLay0, h1], by simp [PyData.depthAll, PyData.depth, h2]⟩
theorem shaped_is (ns : List Int) : SeqAt.shaped (.list (ns.map PyData.int)) = true := by
  obtain ⟨h1, h2⟩ := lay_is ns
  simp [SeqAt.shaped, PyData.canLay0, PyData.depth, h1, h2]
theorem shaped_nil : SeqAt.shaped (.list []) = true := shaped_is []
theorem eqv_ints_nil (ns : List Int) : PyData.eqv (.list (ns.map PyData.int)) (.list []) = ns.isEmpty := by
  cases ns <;> rfl
theorem st_merge (lg cl : Addr) (left turn : Int) : mergeK [] (stKv lg cl left turn) = stKv lg cl left turn := by
  unfold stKv mergeK
  simp only [List.foldl_cons, List.foldl_nil]
  rw [putK_new (kvs := []) _ valV_nil, List.nil_append]
  rw [putK_new (k := kCells) _ ((valV_neg (show ¬ kLarge = kCells from k12)).trans valV_nil), List.cons_append, List.nil_append]
  rw [putK_new (k := kLeft) _ ((valV_neg (show ¬ kLarge = kLeft from k13)).trans ((valV_neg (show ¬ kCells = kLeft from k23)).trans valV_nil)), List.cons_append, List.cons_append, List.nil_append]
  rw [putK_new (k := kTurn) _ ((valV_neg (show ¬ kLarge = kTurn from k14)).trans ((valV_neg (show ¬ kCells = kTurn from k24)).trans ((valV_neg (show ¬ kLeft = kTurn from k34)).trans valV_nil)))]
  rfl
theorem take_map_snoc {α β : Type} (f : α → β) (l : List α) (i : Nat) (x : α) (h : l[i]? = some x) : (l.take (i + 1)).map f = (l.take i).map f ++ [f x] := by
  rw [List.take_add_one, h]
  simp
theorem StAt.off {H : Hp} {st lg cl p : Addr} {n : Nat} (S : StAt H st lg cl n) (hp : H p = none) : p ≠ st ∧ p ≠ lg := by
  obtain ⟨_, _, _, _, S', _⟩ := S
  exact ⟨(ne_of_none S'.d hp).symm, (ne_of_none S'.l hp).symm⟩
end KA
namespace KA
open PySem PySem.Spec PyProof.Rows L2 PySem.W LamX
/-! ### calls by names alone; defs whose frame must know that no repr is running -/
section
variable {X : Cx} {CX : CXT} {k : Nat} {f : Addr} {fd : FuncData} {ps ks : List Str} {sp : Sp} {E : XK} {x : Str} {p pos : Pos} {kws : List Keyword} {tk : TA} {g : List Value → List Value → List Value} {gV : List V → List V → List V}
def tKw (m : Nat) (sp : Sp) (gV : List V → List V → List V) (E : XK) (tk : TA) : TE := fun σ H Q => tk σ H fun zs H2 => zs.length = m ∧ sp (gV [] zs) H2 Q E
/-- f(k = v, ..) -/
theorem pe_kw (F : FnOk X.prog X.w X.K X.mg X.base CX k f fd ps sp) (hr : Room k X.A) (hg : Gl X x) (hm : X.mg x = some (.ref f)) (hk : PySem.W.keepIn X.K (.ref f) = true) (hb : KBn X.K fd ps 0 ks g gV) (hx : Passes CX X E) (hkw : PK X kws tk)
    (named : (backToKw pos (keywordEach kws X.env)).all (·.1.isSome) = true := by rfl) (theirs : (backToKw pos (keywordEach kws X.env)).filterMap (·.1) = ks := by rfl) (hdb : (x == ("__debug__" : Str)) = false := by decide)
    (noStars : ((backTo pos (starEach [] X.env)).any (·.1) || (backToKw pos (keywordEach kws X.env)).any (·.1.isNone)) = false := by rfl) :
    PE X (.Call (.Name x p) [] kws pos) (tKw ks.length sp gV E tk) :=
  ⟨fun pins s σ H Q I h => wpAny_Call_Name_kw (ld_glob I hg hm (PySem.W.callWith_KW0 (h₀ := X.base) I.ok.mod.kin hk named (thn (hkw.run pos pins s σ H _ I h) fun ws s2 hw => by
    obtain ⟨zs, H2, I2, rz, l2, q2⟩ := hw
    refine ⟨I2.kIn, ?_⟩
    rw [theirs]
    exact run_fnN F hr hb hx I2 .nil rz rfl l2 q2) noStars) hdb)⟩
end
section
variable {K : PySem.W.Frag} {x qual : Str} {st : Stmt} {f : Addr} {fd : FuncData} {ps ks : List Str}
/-- one parameter, by its name -/
theorem Fun.kw1 {a : Str} (F : Fun K x qual st f fd) (h : ∀ (kV doc pm : Value) (an : Option Addr) (cdv ct u : Value), bindArgs (PySem.W.fnOf x qual (defArgs st) (defBody st) (defScope st) .none kV doc pm an cdv ct) ⟨[], [(a, u)]⟩ = pure [(a, u)]) :
    KBn K fd [a] 0 [a] (fun _ ws => ws) (fun _ zs => zs) := by
  obtain ⟨oc, od, kV, doc, pm, an, cdv, ct, osl, rfl, lk, hcd⟩ := F.ex
  refine ⟨fun s us ws X l1 l2 => ?_, fun _ r => r⟩
  match us, ws, l1, l2 with
  | [], [u], _, _ => exact .of_eq (h kV doc pm an cdv ct u)
/-- two parameters a, b, called as f(b = .., a = ..) -/
theorem Fun.kw2 {a b : Str} (F : Fun K x qual st f fd) (h : ∀ (kV doc pm : Value) (an : Option Addr) (cdv ct u v : Value), bindArgs (PySem.W.fnOf x qual (defArgs st) (defBody st) (defScope st) .none kV doc pm an cdv ct) ⟨[], [(b, u), (a, v)]⟩ = pure [(a, v), (b, u)]) :
    KBn K fd [a, b] 0 [b, a] (fun _ ws => ws.reverse) (fun _ zs => zs.reverse) := by
  obtain ⟨oc, od, kV, doc, pm, an, cdv, ct, osl, rfl, lk, hcd⟩ := F.ex
  refine ⟨fun s us ws X l1 l2 => ?_, fun {_ _ zs ws} _ r => ?_⟩
  · match us, ws, l1, l2 with
    | [], [u, v], _, _ => exact .of_eq (h kV doc pm an cdv ct u v)
  · clear h
    have rev : ∀ {zs : List V} {ws : List Value}, Vals zs ws → Vals zs.reverse ws.reverse := fun {zs ws} r => by
      induction r with
      | nil => exact .nil
      | cons h _ ih =>
        rw [List.reverse_cons, List.reverse_cons]
        exact ih.append (.cons h .nil)
    exact rev r
end
end KA
namespace KA
open PySem PySem.Spec PyProof.Rows L2 PySem.W LamX
/-- as FnOk, where no repr is running around the call -/
structure FnG (P : Program) (w : World) (K : PySem.W.Frag) (mg : Str → Option Value) (base : Heap) (CX : CXT) (k : Nat) (f : Addr) (fd : FuncData) (ps : List Str) (sp : Sp) : Prop where
  len : ∀ vs H Q E, sp vs H Q E → vs.length = ps.length
  run : ∀ (A : Around) (outer : List Env) (s : Shared) (H : Hp) (args : Args) (us : List Value) (vs : List V) (Q : VK) (E : XK), Room k A → A.guards = some [] →
    Env0 P w K mg base A outer s H → BindsTo s fd args (ps.zip us) → Vals vs us → sp vs H Q E → codeAny (model P w) A (.call (.ref f) args) (CR CX outer P w H s Q E) s
theorem fnG_of {CX : CXT} {P : Program} {w : World} {K : PySem.W.Frag} {mg : Str → Option Value} {base : Heap} {k : Nat} {f : Addr} {x qual : Str} {st : Stmt} {fd : FuncData} {N ps : List Str} {sp : Sp} (F : Fun K x qual st f fd) (S : FnScope N ps (defScope st))
    (len : ∀ vs H Q E, sp vs H Q E → vs.length = ps.length)
    (hbody : ∀ (cdv : Value) (A : Around) (outer : List Env) (s : Shared) (H : Hp) (vs : List V) (Q : VK) (E : XK), Room k (A.deeper (envOfC qual (defScope st) s.heap.objs.size f cdv)) → A.guards = some [] → sp vs H Q E →
      ∃ t, PSs (cxOf CX P w K mg base N qual (defScope st) f cdv A outer s H E) (defBody st) t ∧ t { nx := fun _ H' => Q .non H', rt := Q } (L2.start N vs) H) : FnG P w K mg base CX (k + 1) f fd ps sp := by
  obtain ⟨oc, od, kV, doc, pm, an, cdv, ct, osl, rfl, lk, hcd⟩ := F.ex
  exact ⟨len, fun A outer s H args us vs Q E hr hg e0 hb r h => run_ofS lk hcd S hr e0 hb r (len _ _ _ _ h) fun hr' => hbody cdv A outer s H vs Q E hr' hg h⟩
/-- what stands around the law's call: the script at a, the tables of cs (each a code object and its table) empty -/
structure Law (h : Heap) (mg mb : Str → Option Value) (K : PySem.W.Frag) (cs : List (Addr × Addr)) (a : Addr) (vs : List Value) (ns : List Int) : Prop where
  kx : K.In h
  nsM : h.Ns mainGlobals mg
  bn : h.Ns builtinsNs mb
  bb : ∀ x : Str, x ≠ "__name__" → mb x = bootBuiltins x
  lim : h.NoLimit
  tab : ∀ p ∈ cs, h.get? p.2 = some { cls := .none, data := .fields #[] }
  notab : ∀ p ∈ cs, K.lookup p.2 = none
  code : ∀ p ∈ cs, PySem.W.CodeHd h p.1 p.2
  bm : ∃ (bm : Addr) (ob : Obj), mg "__builtins__" = some (.ref bm) ∧ bm ≠ builtinsNs ∧ h.get? bm = some ob ∧ ob.cls = .type "module" ∧ ob.dict = some builtinsNs ∧ ob.data = .plain
  at_ : h.get? a = some { cls := .type "list", data := .seq vs.toArray }
  isI : IntsAre vs ns
  len : ns.length ≤ sizeLine
/-- the abstract heap at the law's call -/
def lawH (K : PySem.W.Frag) (cs : List (Addr × Addr)) (a : Addr) (vs : List Value) (ns : List Int) : Hp := fun b =>
  if b = a ∧ K.lookup a = none then some (.frz { cls := .type "list", data := .seq vs.toArray } (.lst (ns.map V.int)))
  else if b ∈ cs.map (·.2) then some (.tbl #[]) else none
section
variable {P : Program} {w : World} {K : PySem.W.Frag} {mg mb : Str → Option Value} {h : Heap} {cs : List (Addr × Addr)} {a : Addr} {vs : List Value} {ns : List Int}
theorem Law.tabAt (L : Law h mg mb K cs a vs ns) {b : Addr} (hb : b ∈ cs.map (·.2)) : h.get? b = some { cls := .none, data := .fields #[] } ∧ K.lookup b = none := by
  obtain ⟨p, hp, rfl⟩ := List.mem_map.mp hb
  exact ⟨L.tab p hp, L.notab p hp⟩
theorem Law.ne (L : Law h mg mb K cs a vs ns) {b : Addr} (hb : b ∈ cs.map (·.2)) : b ≠ a := fun z => by
  have q := (L.tabAt hb).1
  rw [z, L.at_] at q
  cases q
/-- what is tracked: the script, or a table -/
theorem Law.cases (L : Law h mg mb K cs a vs ns) {b : Addr} {u : HO} (e : lawH K cs a vs ns b = some u) :
    (b = a ∧ K.lookup a = none ∧ u = .frz { cls := .type "list", data := .seq vs.toArray } (.lst (ns.map V.int))) ∨ (b ∈ cs.map (·.2) ∧ u = .tbl #[]) := by
  unfold lawH at e
  split at e
  · rename_i c
    exact .inl ⟨c.1, c.2, (Option.some.inj e).symm⟩
  · split at e
    · rename_i c
      exact .inr ⟨c, (Option.some.inj e).symm⟩
    · cases e
theorem Law.tbl (L : Law h mg mb K cs a vs ns) {b : Addr} (hb : b ∈ cs.map (·.2)) : lawH K cs a vs ns b = some (.tbl #[]) := by
  unfold lawH
  rw [if_neg (fun z => L.ne hb z.1), if_pos hb]
theorem Law.seq (L : Law h mg mb K cs a vs ns) : SqL K (lawH K cs a vs ns) a (ns.map V.int) := by
  cases q : K.lookup a with
  | none => exact .inl (.inr ⟨_, by unfold lawH; rw [if_pos ⟨rfl, q⟩]⟩)
  | some o =>
    have e := L.kx a o q
    rw [L.at_] at e
    cases e
    exact .inr ⟨_, vs.toArray, _, q, rfl, rfl, rfl, by rw [List.size_toArray, L.isI.length]; exact L.len, by simpa using vals_ints L.isI⟩
theorem Law.hok (L : Law h mg mb K cs a vs ns) : HOk P w (lawH K cs a vs ns) h := fun b u e => by
  rcases L.cases e with ⟨rfl, _, rfl⟩ | ⟨hb, rfl⟩
  · exact ⟨L.at_, by rw [List.length_map]; exact L.len, vs, _, vals_ints L.isI, L.at_⟩
  · exact (L.tabAt hb).1
/-- an object that is neither a list nor an empty record is not tracked -/
theorem Law.free (L : Law h mg mb K cs a vs ns) {b : Addr} {o : Obj} (e : h.get? b = some o) (h1 : ∀ vs n, o.data ≠ .seq vs n) (h2 : o.data ≠ .fields #[]) : lawH K cs a vs ns b = none := by
  cases q : lawH K cs a vs ns b with
  | none => rfl
  | some u =>
    rcases L.cases q with ⟨rfl, _⟩ | ⟨hb, _⟩
    · rw [L.at_] at e
      cases e
      exact absurd rfl (h1 _ _)
    · rw [(L.tabAt hb).1] at e
      cases e
      exact absurd rfl h2
theorem Law.nsK (L : Law h mg mb K cs a vs ns) {b : Addr} {m : Str → Option Value} (x : h.Ns b m) : (hidT h (lawH K cs a vs ns)).Ns b m := by
  obtain ⟨o, es, ep, e, d, r⟩ := x
  refine ⟨o, es, ep, hidT_get e (L.free e (fun _ _ z => ?_) fun z => ?_), d, r⟩ <;> (rw [d] at z; cases z)
theorem Law.kin (L : Law h mg mb K cs a vs ns) : K.In (hidT h (lawH K cs a vs ns)) := fun b o e => hidT_get (L.kx b o e) (by
  cases q : lawH K cs a vs ns b with
  | none => rfl
  | some u =>
    rcases L.cases q with ⟨rfl, z, _⟩ | ⟨hb, _⟩
    · rw [z] at e
      cases e
    · rw [(L.tabAt hb).2] at e
      cases e)
theorem Law.mod (L : Law h mg mb K cs a vs ns) : L2.Mod K mg (hidT h (lawH K cs a vs ns)) := by
  obtain ⟨mc, h1, h2⟩ := L.lim
  exact ⟨L.kin, L.nsK L.nsM, ⟨mb, L.nsK L.bn, L.bb⟩, mc, L.nsK h1, h2⟩
theorem Law.main (L : Law h mg mb K cs a vs ns) {b : Addr} {o : Obj} (e : h.get? b = some o) (n : ∀ es ep, o.data ≠ .dict es ep) : b ≠ mainGlobals := fun z => by
  obtain ⟨o', es, ep, e', d, _⟩ := L.nsM
  rw [z, e'] at e
  cases e
  exact n _ _ d
theorem Law.tabs (L : Law h mg mb K cs a vs ns) : ∀ p ∈ cs, TabB (hidT h (lawH K cs a vs ns)) mg p.1 p.2 := fun p hp => by
  have hm : p.2 ∈ cs.map (·.2) := List.mem_map.mpr ⟨p, hp, rfl⟩
  have ht := (L.tabAt hm).1
  refine ⟨?_, ?_, fun z => L.main ht (fun _ _ q => by cases q) z.symm⟩
  · obtain ⟨o, us, file, tf, flags, tg, inF, text, tt, e1, r1, r2, r3, rest⟩ := L.code p hp
    refine ⟨o, us, file, tf, flags, tg, inF, text, tt, hidT_get e1 (L.free e1 (fun _ _ z => ?_) fun z => ?_), r1, r2, r3, rest⟩
    · rw [r2] at z
      cases z
    · rw [r2] at z
      cases z
      simp at r3
  · obtain ⟨bm, ob, b1, b2, b3, b4, b5, b6⟩ := L.bm
    refine ⟨bm, ob, b1, b2, L.main b3 (fun _ _ q => by rw [b6] at q; cases q), fun q => ?_, hidT_get b3 (L.free b3 (fun _ _ z => ?_) fun z => ?_), b4, b5, b6⟩
    · rw [q, ht] at b3
      cases b3
      cases b6
    · rw [b6] at z
      cases z
    · rw [b6] at z
      cases z
/-- an address of the heap at the call stands as it stood, or it is a table that has grown -/
theorem Law.stay (L : Law h mg mb K cs a vs ns) {s' : Shared} {H' : Hp} {b : Addr} {o : Obj} (un : Un [] [] (lawH K cs a vs ns) H' h s'.heap) (ok : HOk P w H' s'.heap) (e : h.get? b = some o) (nb : b ∉ cs.map (·.2)) : s'.heap.get? b = some o := by
  cases q : lawH K cs a vs ns b with
  | none => exact un.keep b o e q (by simp) (by simp)
  | some u =>
    rcases L.cases q with ⟨rfl, _, rfl⟩ | ⟨z, _⟩
    · have e2 := (ok b _ (un.frzs b _ _ q)).1
      rw [L.at_] at e
      rw [← e]
      exact e2
    · exact absurd z nb
theorem Law.grown (L : Law h mg mb K cs a vs ns) {s' : Shared} {H' : Hp} {b : Addr} (un : Un [] [] (lawH K cs a vs ns) H' h s'.heap) (ok : HOk P w H' s'.heap) (hb : b ∈ cs.map (·.2)) : ∃ more : Array Value, s'.heap.get? b = some { cls := .none, data := .fields more } := by
  obtain ⟨more, z⟩ := un.tbls b #[] (L.tbl hb)
  exact ⟨_, ok b _ z⟩
theorem Law.old (L : Law h mg mb K cs a vs ns) {s' : Shared} {H' : Hp} (un : Un [] [] (lawH K cs a vs ns) H' h s'.heap) (ok : HOk P w H' s'.heap) : OldK h s'.heap := by
  constructor
  · intro b o e
    by_cases hb : b ∈ cs.map (·.2)
    · obtain ⟨p, hp, rfl⟩ := List.mem_map.mp hb
      obtain ⟨more, hm⟩ := L.grown un ok hb
      have ht := L.tab p hp
      rw [ht] at e
      cases e
      refine .inr (.inl ⟨((L.code p hp).tab ht).isCodeTable, rfl, #[], more, rfl, ?_⟩)
      rw [Array.empty_append]
      exact hm
    · exact .inl (L.stay un ok e hb)
  · intro b o e
    by_cases hb : b ∈ cs.map (·.2)
    · obtain ⟨more, hm⟩ := L.grown un ok hb
      exact ⟨_, hm⟩
    · exact ⟨o, L.stay un ok e hb⟩
end
/-- the law, called with the script at a -/
theorem law_callG {P : Program} {w : World} {K : PySem.W.Frag} {mg mb : Str → Option Value} {CX : CXT} {k : Nat} {fa a : Addr} {cs : List (Addr × Addr)} {fd : FuncData} {x : Str} {sp : Sp} {s : Shared} {vs : List Value} {ns : List Int}
    (L : Law s.heap mg mb K cs a vs ns) (hg : s.gens = #[]) (hr : Room k callerA) (F : ∀ base : Heap, K.In base → base.Ns mainGlobals mg → (∀ p ∈ cs, TabB base mg p.1 p.2) → FnG P w K mg base CX k fa fd [x] sp)
    (hbind : ∀ (s : Shared) (u : Value), BindsTo s fd ⟨[u], []⟩ [(x, u)]) (hsp : ∀ H : Hp, (∀ p ∈ cs, H p.2 = some (.tbl #[])) → SqL K H a (ns.map V.int) → sp [.ref a] H (fun v _ => v = .bl true) fun _ _ _ => False)
    (hCX : ∀ H e s', CX [] H s (fun _ _ _ => False) e s' → False) :
    codeAny (model P w) callerA (.call (.ref fa) ⟨[.ref a], []⟩) (fun r s' => r = .ok (.ret (.bool true)) ∧ OldK s.heap s'.heap ∧ s'.os = s.os ∧ AllBare s'.gens) s := by
  have env : Env0 P w K mg (hidT s.heap (lawH K cs a vs ns)) callerA [] s (lawH K cs a vs ns) :=
    ⟨rfl, L.mod, fun _ _ => of_hidT, Nat.le_of_eq (hidT_size _ _), trivial, fun b hb => absurd (show b ∈ ([] : List Addr) from hb) List.not_mem_nil, L.hok, .of_eq hg⟩
  have pre := hsp (lawH K cs a vs ns) (fun p hp => L.tbl (List.mem_map.mpr ⟨p, hp, rfl⟩)) L.seq
  have run := (F _ L.kin (L.nsK L.nsM) L.tabs).run callerA [] s _ ⟨[.ref a], []⟩ [.ref a] [.ref a] _ _ hr rfl env (hbind s _) (.cons rfl .nil) pre
  refine codeAny_mono run fun r s' q => ?_
  match r, q with
  | .error e, q => exact (hCX _ e s' q).elim
  | .ok .next, q => exact False.elim q
  | .ok .brk, q => exact False.elim q
  | .ok .cont, q => exact False.elim q
  | .ok (.ret u), q =>
    obtain ⟨v, H', os, bare, un, ok, rv, e⟩ := q
    cases (show v = .bl true from e)
    cases (show u = Value.bool true from rv)
    exact ⟨rfl, L.old un ok, os, bare⟩
/-- what is known of the law at the head's heap h -/
def LawAtG (l : PySem.W.OpenLaw) (w : World) (K : PySem.W.Frag) (CX : CXT) (k n : Nat) (x : Str) (mg : Str → Option Value) (fa : Addr) (h : Heap) : Prop :=
  ∃ (fd : FuncData) (cs : List (Addr × Addr)) (sp : Sp), ((∀ p ∈ cs, h.get? p.2 = some { cls := .none, data := .fields #[] }) ∧ (∀ p ∈ cs, K.lookup p.2 = none) ∧ ∀ p ∈ cs, PySem.W.CodeHd h p.1 p.2) ∧
    (∀ (s : Shared) (u : Value), BindsTo s fd ⟨[u], []⟩ [(x, u)]) ∧
    (∀ (H : Hp) (a : Addr) (ns : List Int), ns.length ≤ n → (∀ p ∈ cs, H p.2 = some (.tbl #[])) → SqL K H a (ns.map V.int) → sp [.ref a] H (fun v _ => v = .bl true) fun _ _ _ => False) ∧
    ∀ base : Heap, K.In base → base.Ns mainGlobals mg → (∀ p ∈ cs, TabB base mg p.1 p.2) → FnG l.prog w K mg base CX k fa fd [x] sp
theorem walk_ofG {l : PySem.W.OpenLaw} {n k : Nat} {q : Program} {loose : List Str} {XP : (Str → Option Value) → Heap → Prop} {YP : World → Heap → Prop} {d : DefRec} {K : Params → PySem.W.Frag} {CX : World → CXT} {x : Str}
    (most : l.most = some n) (line : n ≤ sizeLine) (plain : d.params.defaults = []) (room : Room k callerA) (known : ∀ (w : World) (h : Heap), YP w h → (K w.params).In h)
    (at_ : ∀ (w : World) (mg : Str → Option Value) (fa : Addr) (h : Heap), YP w h → (K w.params).In h → h.Ns mainGlobals mg → mg d.name = some (.ref fa) → LawAtG l w (K w.params) (CX w) k n x mg fa h)
    (calm : ∀ (w : World) (H : Hp) (s : Shared) (e : Value) (s' : Shared), CX w [] H s (fun _ _ _ => False) e s' → False) : PySem.W.WalkO q loose XP YP l.row.toRowW d [] (fun f vs => PySem.call f vs) := by
  refine Att.attach_callB most plain fun w _ s mg mb fa _ _ _ _ a vs ns G Y _ _ _ name here isI short _ bare => ?_
  obtain ⟨fd, cs, sp, ⟨t1, t2, t3⟩, bind, pre, F⟩ := at_ w mg fa _ Y (known w _ Y) G.T.g name
  exact law_callG ⟨known w _ Y, G.T.g, G.T.b, G.T.builtins, G.T.nolimit, t1, t2, t3, G.T.bmain, here, isI, Nat.le_trans short line⟩ bare room F bind (fun H t S => pre H a ns short t S) fun H e s' => calm w H s e s'
end KA
namespace KU
open PySem PySem.W PySem.Calls PyProof.Rows PySem.HandSPX
/-! ### an own error whose __init__(self, f) says super().__init__(e) and self.f = f -/
abbrev upBody (f : Str) (e : Expr) (p0 p1 p2 p3 pe q1 q2 q3 q4 : Pos) : List Stmt :=
  [.Expr (.Call (.Attribute (.Call (.Name "super" p0) [] [] p1) "__init__" p2) [e] [] p3) pe, .Assign [.Attribute (.Name "self" q1) f q2] (.Name f q3) q4]
abbrev upArgs (f : Str) (r1 r2 : Pos) : Arguments := { posonlyargs := [], args := [{ arg := "self", annotation := none, pos := r1 }, { arg := f, annotation := none, pos := r2 }], vararg := none, kwonlyargs := [], kw_defaults := [], kwarg := none, defaults := [] }
abbrev upScope (f : Str) : Scope := { kind := .function, names := [(PySem.Str.ofString "self", .local), (f, .local), (PySem.Str.ofString "__class__", .free), (PySem.Str.ofString "super", .globalImplicit)], isGenerator := false, isCoroutine := false, more := [] }
/-- what the written part says of the class at C, of its __init__ at fI -/
structure UpTxt (P : Program) (K : Frag) (C fI cda cc : Addr) (qual f : Str) (e : Expr) : Prop where
  fn : ∃ (oc : Value) (od : Option Addr) (doc pm : Value) (an : Option Addr) (ct : Value) (osl : Array (Option Value)) (r1 r2 p0 p1 p2 p3 pe q1 q2 q3 q4 : Pos),
    K.lookup fI = some ⟨oc, od, .func (ksFn "__init__" qual (upArgs f r1 r2) (upBody f e p0 p1 p2 p3 pe q1 q2 q3 q4) (upScope f) .none .none doc pm an (.ref cda) ct cc), osl⟩ ∧
      (∀ a b : Value, bindArgs (ksFn "__init__" qual (upArgs f r1 r2) (upBody f e p0 p1 p2 p3 pe q1 q2 q3 q4) (upScope f) .none .none doc pm an (.ref cda) ct cc) ⟨[a, b], []⟩ = pure [(PySem.Str.ofString "self", a), (f, b)]) ∧
      (∀ L : Addr, swapsWith (.Name f q3) (some (.Attribute (.Name "self" q1) f q2)) q4.line (ksEnv qual (upScope f) L fI (.ref cda) cc) = pure false) ∧
      ∃ pl : Sem Bool, ∀ L : Addr, eval (.Call (.Attribute (.Call (.Name "super" p0) [] [] p1) "__init__" p2) [e] [] p3) (ksEnv qual (upScope f) L fI (.ref cda) cc) = (do
        let o ← attributeBase (.Call (.Name "super" p0) [] [] p1) "__init__" (ksEnv qual (upScope f) L fI (.ref cda) cc) (eval (.Call (.Name "super" p0) [] [] p1) (ksEnv qual (upScope f) L fI (.ref cda) cc))
        standAt p2.atName
        let (g, first) ← holding [o] (getMethod o "__init__" pl)
        callWith p3 g first (backTo p3 (starEach [e] (ksEnv qual (upScope f) L fI (.ref cda) cc))) [])
  star : ∀ env : Env, starEach [e] env = [(false, eval e env)]
  code : codeIn K (.ref cda) qual = true
  file : ∃ (cl : Value) (cdd : Option Addr) (vs : Array Value) (ccs : Array (Option Value)) (fl : Str) (tf : Tok), K.lookup cda = some ⟨cl, cdd, .fields vs, ccs⟩ ∧ vs[2]? = some (.str fl tf) ∧ ((P.main.file : Str) == fl) = true
  cell : ∃ (cl : Value) (cld : Option Addr) (csl : Array (Option Value)), K.lookup cc = some ⟨cl, cld, .cell (some (.ref C)), csl⟩
  cls : ∃ cd, clsIn K C = some cd ∧ refsVE cd.mro = true ∧ cd.hasDict = true
  self : mroIn K C (.ref C) = some true
  noSuper : nsIn K mainGlobals "super" = some none
  top : (P.main.scope.names.lookup ("super" : Str)).isSome = false
  third : nsIn K cStatics "thirdparty.any" = some none
  up : ks_superIn K C C "__init__" = some (some (.builtin "ValueError.__init__"))
  val : subIn K (.ref C) (.type "ValueError") = some true
  own : excInitIn K C [.type "ValueError", .type "Exception", .type "BaseException", .type "object"] "ValueError.__new__" = true
  set : findIn K (.ref C) "__setattr__" = some (some (.builtin "object.__setattr__"))
  noF : findIn K (.ref C) f = some none
  obj : ∃ (nm q : Str) (N : Addr) (bs bm : List Value) (sn : List Str) (sub : List Value) (ab : Bool) (col : Option Bool) (dd : Option Addr) (k0 k1 k2 k3 k5 : Option Value),
    K.lookup C = some (excClassObj nm q C N bs bm true sn sub ab col dd k0 k1 k2 k3 k5 "ValueError.__new__") ∧ refsVE bm = true
  iC : findIn K (.ref C) "__init__" = some (some (.ref fI))
  tC : typeIn K (.ref fI) = some (.type "function")
  ga : findIn K (.ref C) "__getattribute__" = some (some (.builtin "BaseException.__getattribute__"))
  gg : findIn K (.ref C) "__getattr__" = some none
  kC : keepIn K (.ref C) = true
  exC : subIn K (.ref C) (.type "BaseException") = some true
  tyC : typeIn K (.ref C) = some (.type "type")
  hdC : hasDictIn K C = true
  nf : f ≠ "self" ∧ f ≠ "__class__" ∧ f ≠ "super" ∧ f ≠ "__debug__"
/-- what it leaves of a fresh exception at x -/
structure UpEnd (h h' : Heap) (x C dx t1 : Addr) (f : Str) (v : Value) : Prop where
  keep : ∀ b o, b ≠ x → h.get? b = some o → h'.get? b = some o
  obj : h'.get? x = some { cls := .ref C, dict := some dx, data := .fields #[.ref t1, .none, .none, .none, .bool false, .none] }
  big : h.objs.size ≤ dx
  ne : dx ≠ x
  ns : h'.Ns1 dx (fun y => if y = f then some v else none)
section
variable {prog : Program} {w : World} {A : Around} {R : Result → Shared → Prop} {s : Shared} {K : Frag} {mg mb : Str → Option Value} {C fI cda cc : Addr} {qual f : Str} {e : Expr}
theorem up_init (T : UpTxt prog K C fI cda cc qual f e) {x t0 : Addr} {v : Value} (X : K.In s.heap) (hlim : s.heap.NoLimit) (hg : s.heap.Ns mainGlobals mg) (hb : s.heap.Ns builtinsNs mb) (hbb : ∀ y : Str, y ≠ "__name__" → mb y = bootBuiltins y)
    (hx : s.heap.get? x = some (excO C t0)) (hnx : K.lookup x = none) (hroom : A.depth < recursionLimit)
    (text : ∀ (A' : Around) (E : Value → Shared → Prop) (s' : Shared) (L : Addr) (m : Str → Option Value) (Q : Value → Shared → Prop), A'.units ≤ A.units + 4 → (∀ b o, s.heap.get? b = some o → s'.heap.get? b = some o) → s'.heap.Ns L m → m f = some v → (∀ (z : Str) (t : Tok) (h' : Heap) (t' : Tok), (∀ b o, s'.heap.get? b = some o → h'.get? b = some o) → Q (.str z t) { s' with heap := h', toks := t' }) → wpAny (model prog w) A' (eval e (ksEnv qual (upScope f) L fI (.ref cda) cc)) Q E s')
    (hq : ∀ h' tk dx t1, UpEnd s.heap h' x C dx t1 f v → R (.ok (.ret .none)) { s with heap := h', toks := tk }) :
    codeAny (model prog w) A (.call (.ref fI) ⟨[.ref x, v], []⟩) R s := by
  obtain ⟨hp, g, dr, tk, os⟩ := s
  dsimp only at X hlim hg hb hx
  obtain ⟨oc, od, doc, pm, an, ct, osl, r1, r2, p0, p1, p2, p3, pe, q1, q2, q3, q4, ho, hbd, hswap, pl, hcall⟩ := T.fn
  obtain ⟨n1, n2, n3, n4⟩ := T.nf
  have lf : (upScope f).names.lookup f = some .local := by
    show List.lookup f ((PySem.Str.ofString "self", NameKind.local) :: _) = _
    rw [List.lookup_cons]
    cases f == PySem.Str.ofString "self" with
    | true => rfl
    | false =>
      show List.lookup f ((f, NameKind.local) :: _) = _
      rw [List.lookup_cons, beq_self_eq_true]
  refine ks_codeAny_call_defAt (binds := [(PySem.Str.ofString "self", .ref x), (f, v)]) (body := upBody f e p0 p1 p2 p3 pe q1 q2 q3 q4) hroom (X _ _ ho) rfl hlim (codeRec_of X T.code) rfl ?bind ?cells ?locs (fun h₁ hns keep => ?_) rfl rfl rfl
  case bind => exact .of_eq (hbd _ _)
  case cells =>
    intro y hy
    simp only [List.mem_cons, List.not_mem_nil, or_false] at hy
    rcases hy with z | z | z | z <;> (subst z; exact fun q => by cases q)
  case locs =>
    intro y hy
    simp only [List.mem_cons, List.not_mem_nil, or_false] at hy
    rcases hy with z | z <;> subst z
    · rfl
    · exact lf
  have X1 : K.In h₁ := X.keeps keep
  have ms : (List.lookup (PySem.Str.ofString "self") [(PySem.Str.ofString "self", Value.ref x), (f, v)].reverse) = some (.ref x) := by
    show List.lookup (PySem.Str.ofString "self") [(f, v), (PySem.Str.ofString "self", Value.ref x)] = _
    rw [List.lookup_cons, beq_false_of_ne (Ne.symm n1)]
    rfl
  have mf : (List.lookup f [(PySem.Str.ofString "self", Value.ref x), (f, v)].reverse) = some v := by
    show List.lookup f [(f, v), (PySem.Str.ofString "self", Value.ref x)] = _
    rw [List.lookup_cons, beq_self_eq_true]
  obtain ⟨cd, hcd, hmro, hdict⟩ := T.cls
  obtain ⟨cl, cdd, vs, ccs, fl, tf, hcode, hvs, hfile⟩ := T.file
  obtain ⟨ccl, cld, csl, hcell⟩ := T.cell
  have hx1 := keep _ _ hx
  generalize hm : (fun y => List.lookup y [(PySem.Str.ofString "self", Value.ref x), (f, v)].reverse) = m at hns
  have ms' : m "self" = some (.ref x) := by rw [← hm]; exact ms
  have mf' : m f = some v := by rw [← hm]; exact mf
  clear ms mf hm
  show PySem.wpAt _ _ _ (execs (upBody f e p0 p1 p2 p3 pe q1 q2 q3 q4) (ksEnv qual (upScope f) hp.objs.size fI (.ref cda) cc)) _ _ _
  refine ks_wpAt_execs_cons (ks_wpAt_Expr_any (ks_wpAt_MethodCall (pl := pl) ?_ (hcall _)))
  obtain ⟨oC, hC1, hC2⟩ : ∃ oC, h₁.get? C = some oC ∧ oC.data = .cls cd := by
    unfold clsIn at hcd
    split at hcd
    · rename_i c d cd' sl z
      cases hcd
      exact ⟨_, X1 _ _ z, rfl⟩
    · cases hcd
  have k1 : (upScope f).names.lookup ("super" : Str) = some .globalImplicit := by
    show List.lookup (PySem.Str.ofString "super") ((f, NameKind.local) :: _) = _
    rw [List.lookup_cons, beq_false_of_ne (Ne.symm n3)]
    rfl
  have k2 : (upScope f).names.lookup ("__class__" : Str) = some .free := by
    show List.lookup (PySem.Str.ofString "__class__") ((f, NameKind.local) :: _) = _
    rw [List.lookup_cons, beq_false_of_ne (Ne.symm n2)]
    rfl
  refine ks_wpAt_super_base (env := ksEnv qual (upScope f) hp.objs.size fI (.ref cda) cc) k1 k2 rfl rfl (X1 _ _ ho) rfl rfl rfl (X1 _ _ hcode) rfl hvs hfile T.top ?_
  refine ks_loadName_global rfl k1 (loadGlobal_builtin (env := ksEnv qual (upScope f) hp.objs.size fI (.ref cda) cc) (hg.keeps keep) (mg_none_of X hg T.noSuper) (hb.keeps keep) ((hbb _ (by decide +kernel)).trans (show bootBuiltins "super" = some (.type "super") by kernel_rfl)) ⟨rfl, ?_⟩)
  refine wpAny_loadName_free rfl k2 rfl ⟨_, X1 _ _ hcell, rfl⟩ ?_
  refine wpAny_loadName_local rfl rfl hns ms' ?_
  refine ks_wpAny_isType_cls hC1 hC2 ⟨rfl, ?_⟩
  refine ks_wpAny_call_super hC1 hC2 hx1 rfl (fun c z => by cases z) (looks_mroIn X1 T.self) (fun h2 so keep2 => ?_)
  have X2 : K.In h2 := X1.keeps keep2
  have hx2 := keep2 _ _ hx1
  have I2 : InstAt h2 x (excO C t0) C none := ⟨hx2, rfl, rfl, trivial⟩
  have along : alongIn K "__init__" ((cd.mro.dropWhile (· != .ref C)).drop 1) = some (some (.builtin "ValueError.__init__")) := by
    have z := T.up
    unfold ks_superIn at z
    rw [hcd] at z
    exact z
  refine kxs_getMethod kxs_ValueError so (looks_opaque X2 T.third) (l₀ := cd.mro) (fun A Q E s k q => wpAny_bind ((looks_clsIn X2 hcd) A _ E s k (wpAny_pure q))) rfl X2 along (I2.type.andThen (looks_subIn X2 T.val)) (ks_ne X2 I2 hcd) rfl ?_
  have push3 : ∀ b o, h2.get? b = some o → (h2.push (kxs_mw "ValueError.__init__" x)).get? b = some o := fun b o z => Heap.get?_push_of_some _ z
  generalize hh3 : h2.push (kxs_mw "ValueError.__init__" x) = h3 at push3
  have hu : h3.get? h2.objs.size = some (kxs_mw "ValueError.__init__" x) := by
    rw [← hh3]
    exact Heap.get?_push_at rfl rfl
  generalize h2.objs.size = u at hu
  have X3 : K.In h3 := X2.keeps push3
  have hx3 := push3 _ _ hx2
  have hns3 : h3.Ns hp.objs.size m := (hns.keeps keep2).keeps push3
  rw [T.star]
  refine kxs_callWith (i := "ValueError.__init__") (x := x) (u := u) rfl (evalArgs_plain (spliced_cons ?_))
  refine text _ _ _ _ _ _ (by show A.units + 3 ≤ A.units + 4; omega) (fun b o z => push3 b o (keep2 b o (keep b o z))) hns3 mf' fun z zt h3' t' g3 => spliced_nil ⟨g3 _ _ hu, ?_⟩
  replace X3 := X3.keeps g3
  replace hx3 := g3 _ _ hx3
  replace hns3 := hns3.keeps g3
  replace hu := g3 _ _ hu
  replace push3 : ∀ b o, h2.get? b = some o → h3'.get? b = some o := fun b o z => g3 b o (push3 b o z)
  obtain ⟨nm, N', qn, bs, bm, hdct, sn, sub, ab, col, dd, kk0, kk1, kk2, kk3, kk5, hC, hT⟩ := excInit_of X3 T.own
  refine wpAny_call (codeAny_of_tree ?_)
  show wpAny _ (Around.in1 _) (callAny (.ref u) ⟨[.str z zt], []⟩) _ _ _
  simp only [callAny]
  refine wpAny_bind (wpAny_load hu ?_)
  simp only [kxs_mw, show (Value.type "method-wrapper" == Value.type "method" || Value.type "method-wrapper" == Value.type "builtin_function_or_method" || Value.type "method-wrapper" == Value.type "method-wrapper") = true by decide, if_true]
  have FB := F.excBase_ValueError
  refine KFB.if_so (by decide) (wpAny_bind (check_bound_init FB.toExcCallFacts hC hx3 rfl (wpAny_bind (wpAny_pure (wpAny_pure ⟨plainId_quiet FB.init.plain _, codeAny_builtin FB.initEntry ?_⟩)))))
  refine exc_init_tree (cls := .ref C) (t0 := t0) (dv := none) (c2 := .none) (c3 := .none) (b4 := .bool false) hx3 (by show 1 ≤ sizeLine; decide) fun h4 keep4 hx4 _ => ?_
  have X4 : K.In h4 := fun b o z => keep4 b o (fun q => by rw [q, hnx] at z; cases z) (X3 b o z)
  have hns4 : h4.Ns hp.objs.size m := by
    obtain ⟨oL, es, ep, hL, rest⟩ := hns3
    exact ⟨oL, es, ep, keep4 _ _ (Nat.ne_of_gt (Heap.lt_size hx)) hL, rest⟩
  refine wpAt_of_wpAny (wpAny_execs_cons (plainObj_wpAny_Assign_Attribute ?_ (hswap _)))
  have kf : (ksEnv qual (upScope f) hp.objs.size fI (.ref cda) cc).kindOf f = some .local := lf
  have ndb : (f == ("__debug__" : Str)) = false := beq_false_of_ne n4
  refine wpAny_Name (wpAny_loadName_local rfl kf hns4 mf' ?_) ndb
  refine wpAny_Name (wpAny_loadName_local rfl rfl hns4 ms' ?_) rfl
  refine set_plain X4 (ox := excO C h3'.objs.size) (od := none) ⟨hx4, rfl, rfl, trivial⟩ T.set ?_
  refine exc_osa X4 hx4 hcd hmro hdict T.noF fun h5 tk5 dx keep5 big ne5 hx5 hn5 => ?_
  refine wpAny_execs_nil (hq h5 tk5 dx h3'.objs.size ⟨fun b o hb z => keep5 b o hb (keep4 b o hb (push3 b o (keep2 b o (keep b o z)))), hx5, ?_, ne5, hn5⟩)
  exact Nat.le_of_lt (Nat.lt_of_lt_of_le hns4.lt big)
/-- a made one -/
structure UpMade (h h' : Heap) (e C d : Addr) (f : Str) (v : Value) : Prop where
  keep : ∀ b o, h.get? b = some o → h'.get? b = some o
  new : h.objs.size ≤ e
  obj : ∃ oe vs, h'.get? e = some oe ∧ oe.cls = .ref C ∧ oe.dict = some d ∧ oe.data = .fields vs ∧ vs[1]? = some .none
  big : h.objs.size ≤ d
  ne : d ≠ e
  ns : h'.Ns1 d (fun y => if y = f then some v else none)
theorem up_made (T : UpTxt prog K C fI cda cc qual f e) {v : Value} (X : K.In s.heap) (hlim : s.heap.NoLimit) (hg : s.heap.Ns mainGlobals mg) (hb : s.heap.Ns builtinsNs mb) (hbb : ∀ y : Str, y ≠ "__name__" → mb y = bootBuiltins y) (hroom : A.depth + 1 < recursionLimit)
    (text : ∀ (A' : Around) (E : Value → Shared → Prop) (s' : Shared) (L : Addr) (m : Str → Option Value) (Q : Value → Shared → Prop), A'.units ≤ A.units + 12 → (∀ b o, s.heap.get? b = some o → s'.heap.get? b = some o) → s'.heap.Ns L m → m f = some v → (∀ (z : Str) (t : Tok) (h' : Heap) (t' : Tok), (∀ b o, s'.heap.get? b = some o → h'.get? b = some o) → Q (.str z t) { s' with heap := h', toks := t' }) → wpAny (model prog w) A' (eval e (ksEnv qual (upScope f) L fI (.ref cda) cc)) Q E s')
    (hq : ∀ h' tk a d, UpMade s.heap h' a C d f v → R (.ok (.ret (.ref a))) { s with heap := h', toks := tk }) : codeAny (model prog w) A (.call (.ref C) ⟨[v], []⟩) R s := by
  obtain ⟨nm, q, N, bs, bm, sn, sub, ab, col, dd, k0, k1, k2, k3, k5, hC, hbm⟩ := T.obj
  obtain ⟨hp, g, dr, tk, os⟩ := s
  dsimp only at X hlim hg hb
  generalize hh : (hp.push (kdv_tup [v])).push (excO C hp.objs.size) = h1
  have k : ∀ b o, hp.get? b = some o → h1.get? b = some o := fun b o z => by
    rw [← hh]
    exact Heap.get?_push_of_some _ (Heap.get?_push_of_some _ z)
  have got : h1.get? (hp.objs.size + 1) = some (excO C hp.objs.size) := by
    rw [← hh]
    heap_get
  have fresh : K.lookup (hp.objs.size + 1) = none := by
    cases z : K.lookup (hp.objs.size + 1) with
    | none => rfl
    | some o => exact absurd (show hp.objs.size + 1 < hp.objs.size from Heap.lt_size (X _ _ z)) (Nat.not_lt.mpr (Nat.le_succ _))
  refine call_own F.excBase_ValueError (fun Y => refsVE_contains Y bm hbm) (X _ _ hC) (looks_findIn X T.iC) (fun self => bind_fn X self T.tC) (by show 1 ≤ sizeLine; decide) ?_
  rw [hh]
  refine up_init (s := ⟨h1, g, dr, tk, os⟩) T (X.keeps k) (hlim.keeps k) (hg.keeps k) (hb.keeps k) hbb got fresh hroom (fun A' E s' L m Q un kp => text A' E s' L m Q (Nat.le_trans un (by show A.units + 1 + 4 ≤ A.units + 12; omega)) fun b o z => kp b o (k b o z)) fun h' tk' dx t1 Z => ?_
  have size1 : hp.objs.size ≤ h1.objs.size := Nat.le_of_lt (Nat.lt_of_succ_lt (Heap.lt_size got))
  exact ⟨rfl, hq h' tk' (hp.objs.size + 1) dx ⟨fun b o z => Z.keep b o (Nat.ne_of_lt (Nat.lt_succ_of_lt (Heap.lt_size z))) (k b o z), Nat.le_succ _, ⟨_, _, Z.obj, rfl, rfl, rfl, rfl⟩, Nat.le_trans size1 Z.big, Z.ne, Z.ns⟩⟩
end
end KU
namespace KU
open PySem PySem.W PySem.Calls PyProof.Rows PySem.HandSPX
/-- what the error says of v can be told -/
abbrev Text (P : Program) (w : World) (fI cda cc : Addr) (qual f : Str) (e : Expr) (v : Value) : Prop :=
  ∀ (A' : Around) (E : Value → Shared → Prop) (s' : Shared) (L : Addr) (m : Str → Option Value) (Q : Value → Shared → Prop), s'.heap.Ns L m → m f = some v → (∀ (z : Str) (t t' : Tok), Q (.str z t) { s' with toks := t' }) →
    wpAny (model P w) A' (eval e (ksEnv qual (upScope f) L fI (.ref cda) cc)) Q E s'
theorem kind_f {f : Str} : (upScope f).names.lookup f = some .local := by
  show List.lookup f ((PySem.Str.ofString "self", NameKind.local) :: _) = _
  rw [List.lookup_cons]
  cases f == PySem.Str.ofString "self" with
  | true => rfl
  | false =>
    show List.lookup f ((f, NameKind.local) :: _) = _
    rw [List.lookup_cons, beq_self_eq_true]
/-- f'z{f}' of an int, of a text -/
theorem text_of {P : Program} {w : World} {fI cda cc : Addr} {qual f z : Str} {j : Nat} {pc pn pf pj : Pos} {v : Value} {y : Str} (hd : f ≠ "__debug__")
    (fld : ∀ (A' : Around) (E : Value → Shared → Prop) (s' : Shared) (Q : Value → Shared → Prop), (∀ (t t' : Tok), Q (.str y t) { s' with toks := t' }) → wpAny (model P w) A' (formatField v Str.empty) Q E s')
    (h1 : z.length ≤ sizeLine) (h2 : (z ++ y).length ≤ sizeLine) : Text P w fI cda cc qual f (.JoinedStr [.Constant (.str z) j pc, .FormattedValue (.Name f pn) (-1) none pf] pj) v := by
  intro A' E s' L m Q hn hm k
  refine wpAny_JoinedStr ?_
  have e0 : ∀ env : Env, evalEach [.Constant (.str z) j pc, .FormattedValue (.Name f pn) (-1) none pf] env = [eval (.Constant (.str z) j pc) env, eval (.FormattedValue (.Name f pn) (-1) none pf) env] := fun _ => by first | rfl | simp [evalEach]
  rw [e0]
  have e1 : Str.empty ++ z = z := by
    show (⟨#[] ++ z.cps⟩ : Str) = z
    rw [Array.empty_append]
  refine Calls.Constant_str ⟨z, _, rfl, by rw [e1]; exact h1, ?_⟩
  rw [e1]
  refine wpAny_FormattedValue_plain (wpAny_Name (wpAny_loadName_local rfl (show (ksEnv qual (upScope f) L fI (.ref cda) cc).kindOf f = some .local from kind_f) hn hm ?_) (beq_false_of_ne hd))
  exact fld _ _ _ _ fun t t' => ⟨y, t, rfl, h2, h2, k _ _ _⟩
theorem text_int {P : Program} {w : World} {fI cda cc : Addr} {qual f z : Str} {j : Nat} {pc pn pf pj : Pos} {i : Int} {t : Tok} (hd : f ≠ "__debug__") (hi : i.natAbs.log2 < 1920) (h1 : z.length ≤ sizeLine) (h2 : (z ++ (toString i : String)).length ≤ sizeLine) :
    Text P w fI cda cc qual f (.JoinedStr [.Constant (.str z) j pc, .FormattedValue (.Name f pn) (-1) none pf] pj) (.int i t) :=
  text_of hd (fun _ _ _ _ k => wpAny_formatField_int hi (k _ _)) h1 h2
theorem text_str {P : Program} {w : World} {fI cda cc : Addr} {qual f z y : Str} {j : Nat} {pc pn pf pj : Pos} {t : Tok} (hd : f ≠ "__debug__") (h1 : z.length ≤ sizeLine) (h2 : (z ++ y).length ≤ sizeLine) (h3 : y.length ≤ sizeLine) :
    Text P w fI cda cc qual f (.JoinedStr [.Constant (.str z) j pc, .FormattedValue (.Name f pn) (-1) none pf] pj) (.str y t) :=
  text_of hd (fun _ _ _ _ k => wpAny_formatField_str (k _ _) (k _ _) h3) h1 h2
end KU
namespace KU
open PySem PySem.Spec PyProof.Rows L2
theorem relO_up {v : V} {v' : Value} {n : Str} (r : RelV v v') (f : Str) : RelO (List.lookup f [(n, v)]) (if f = n then some v' else none) := by
  by_cases c : f = n
  · subst c
    rw [if_pos rfl, List.lookup_cons, beq_self_eq_true]
    exact r
  · rw [if_neg c, List.lookup_cons, beq_false_of_ne c]
    trivial
section
variable {X : Cx} {C fI cda cc : Addr} {qual f x : Str} {e : Expr}
/-- x(a), x the class's name -/
def tMkUp (T : Value → Prop) (C : Addr) (f : Str) (ta : TA) : L2.St → Hp → XK → Prop := fun σ H Q => ta σ H fun vs H1 => ∃ v, vs = [v] ∧ (∀ v', RelV v v' → T v') ∧ ∀ d, H1 d = none → Q (.ref C) (some d) (upd H1 d (.xd [(f, v)]))
theorem pmk_up {a : Expr} {ta : TA} {p pos : Pos} {k : Nat} (T : UpTxt X.prog X.K C fI cda cc qual f e) (gC : X.mg x = some (.ref C)) (hr : Room k X.A) (ha : PA X [a] ta) (hg : Gl X x) (hdb : (x == ("__debug__" : Str)) = false := by decide)
    (he : starEach (a :: []) X.env = (false, eval a X.env) :: starEach [] X.env := by rfl) (hpl : (backTo pos (starEach [] X.env)).any (·.1) = false := by rfl) :
    PMk X (.Call (.Name x p) [a] [] pos) (tMkUp (Text X.prog X.w fI cda cc qual f e) C f ta) := by
  intro pins s σ H Q I h
  refine wpAny_Call_Name_kw (ld_glob I hg gC ?_ hdb)
  refine PySem.W.callWith_K (h₀ := X.base) I.ok.mod.kin T.kC (thn (ha.run pos pins s σ H _ I h) fun us s1 hh => ?_) he hpl
  obtain ⟨vs, H1, I1, r1, v, rfl, ht, q1⟩ := hh
  refine ⟨I1.kIn, ?_⟩
  cases r1 with
  | cons rv rn =>
    rename_i v' us'
    cases rn
    show wpAny _ _ (call (.ref C) [v']) _ _ _
    obtain ⟨mb, b1, b2⟩ := I1.mod.blt
    have lim := I1.nolimit
    have glob := I1.mod.glob.keeps I1.bk
    have blt := b1.keeps I1.bk
    have dp := hr.dp
    obtain ⟨hp, g, dr, tk, os⟩ := s1
    refine wpAny_call (up_made T I1.kIn lim glob blt b2 (by omega) (fun A' E s' L m Q _ _ hn hm k => ht v' rv A' E s' L m Q hn hm fun z t t' => k z t s'.heap t' fun _ _ e => e) fun h' tk' a' d M => ?_)
    show MkP X pins σ Q (.ref a') ⟨h', g, dr, tk', os⟩
    obtain ⟨oe, fv, hoe, hc, hd, hdat, one⟩ := M.obj
    obtain ⟨G, in_, out⟩ := restrict h' fun b => decide (b ≠ a')
    have same : ∀ b, b ≠ a' → G.get? b = h'.get? b := fun b hb => in_ b (decide_eq_true hb)
    have gone : G.get? a' = none := out a' (by simp)
    have stay : ∀ b o, hp.get? b = some o → G.get? b = some o := fun b o z => (same b (Nat.ne_of_lt (Nat.lt_of_lt_of_le (Heap.lt_size z) M.new))).trans (M.keep b o z)
    have own : ObjOk X.prog X.w (upd H1 d (.xd [(f, v)])) G d (.xd [(f, v)]) := ⟨_, M.ns.at (fun o z => (same d M.ne).trans z), fun y => relO_up rv y⟩
    have J : Inv X pins σ (upd H1 d (.xd [(f, v)])) ⟨G, g, dr, tk', os⟩ := I1.laid (t' := tk') stay M.big own
    refine ⟨a', oe, fv, ⟨G, g, dr, tk', os⟩, _, .ref C, some d, rfl, J, fun b o z => ?_, gone, hoe, ⟨hc, hd⟩, hdat, one, ?_, rfl, I1.bare, raises_own T.exC T.tyC, q1 d (I1.hok.fresh M.big)⟩
    · have hb : b ≠ a' := fun y => by
        rw [y] at z
        exact absurd (gone.symm.trans z) (by simp)
      exact (same b hb).symm.trans z
    · rw [upd_ne (Ne.symm M.ne)]
      exact I1.hok.fresh M.new
/-- raise x(a) -/
theorem ps_raiseUp {a : Expr} {ta : TA} {W : WX} {p pos pos2 : Pos} {k : Nat} (hc : X.calm = true) (T : UpTxt X.prog X.K C fI cda cc qual f e) (gC : X.mg x = some (.ref C)) (hr : Room k X.A) (tk : Takes X W) (ha : PA X [a] ta) (hg : Gl X x) (hdb : (x == ("__debug__" : Str)) = false := by decide)
    (he : starEach (a :: []) X.env = (false, eval a X.env) :: starEach [] X.env := by rfl) (hpl : (backTo pos (starEach [] X.env)).any (·.1) = false := by rfl) :
    PS X (.Raise (some (.Call (.Name x p) [a] [] pos)) none pos2) (fun _ σ H => tMkUp (Text X.prog X.w fI cda cc qual f e) C f ta σ H fun cls d H' => W cls d σ H') := ps_raise hc tk (pmk_up T gC hr ha hg hdb he hpl)
/-- err.f, err an exception that is kept as a value -/
def tUpGet (C : Addr) (f : Str) (te : TE) : TE := fun σ H Q => te σ H fun x H1 => ∃ (a d : Addr) (v : V), x = .ref a ∧ H1 a = some (KA.ExV (.ref C) (some d) a) ∧ H1 d = some (.xd [(f, v)]) ∧ Q v H1
theorem pe_upGet {o : Expr} {te : TE} {pos : Pos} (T : UpTxt X.prog X.K C fI cda cc qual f e) (he : PE X o te) (hb : attributeBase o f X.env (eval o X.env) = eval o X.env := by rfl) :
    PE X (.Attribute o f pos) (tUpGet C f te) := by
  refine ⟨fun pins s σ H Q I h => ?_⟩
  refine attr_of hb (thn (he.run pins s σ H _ I h) fun u s1 hh => ?_)
  obtain ⟨x, H1, I1, rx, a, d, v, rfl, ha, hd, q⟩ := hh
  obtain rfl : u = Value.ref a := rx
  obtain ⟨⟨oe, got, z, vs, dat⟩, _⟩ := I1.hok a _ ha
  obtain ⟨mA, ns, rel⟩ := I1.hok d _ hd
  obtain ⟨od, at_, look⟩ := lookIn_ns ns
  have l : List.lookup f [(f, v)] = some v := by rw [List.lookup_cons, beq_self_eq_true]
  obtain ⟨u, hu, ru⟩ := RelO.some_of (v := v) (o := mA f) (by rw [← l]; exact rel f)
  have J : PySem.W.InstAt s1.heap a oe C (some od) := ⟨got, z.1, by unfold PySem.W.notCls; rw [dat] <;> rfl, by rw [z.2]; exact at_⟩
  exact HandSPX.exc_get I1.kIn J T.ga T.gg T.exC (PySem.W.findObj_own T.hdC T.noF rfl (by rw [look, hu])) (handed_of ru) ⟨v, H1, I1.tok _, ru, q⟩
end
end KU
namespace KW
open PySem PySem.Spec PyProof.Rows L2 PySem.W LamX
/-! ### a lambda without parameters that is handed on from def to def: it stands as it was made, whoever calls it -/
theorem un_comp {fs gs : List Addr} {H H1 H2 : Hp} {h h1 h2 : Heap} (a : Un fs [] H H1 h h1) (b : Un gs [] H1 H2 h1 h2) (sub : ∀ x ∈ gs, x ∈ fs ∨ h.get? x = none) : Un fs [] H H2 h h2 := by
  have no : ∀ {x : Addr} {o : Obj}, h.get? x = some o → x ∉ fs → x ∉ gs := fun e n z => by
    rcases sub _ z with q | q
    · exact n q
    · rw [q] at e
      cases e
  refine ⟨fun x o e n hx _ => ?_, fun x o e n hx _ => ?_, fun x o e n _ => ?_, fun x o e _ => ?_, fun x xs e => b.tups _ _ (a.tups _ _ e), fun x o u e => b.frzs _ _ _ (a.frzs _ _ _ e), fun x ps e => ?_⟩
  · exact b.keep x o (a.keep x o e n hx (by simp)) (a.free x o e n (by simp)) (no e hx) (by simp)
  · obtain ⟨sl, e1⟩ := a.slot x o e n hx (by simp)
    have n1 := a.free x o e n (by simp)
    by_cases hg : x ∈ gs
    · obtain ⟨sl2, e2⟩ := b.slot x _ e1 n1 hg (by simp)
      exact ⟨sl2, e2⟩
    · exact ⟨sl, b.keep x _ e1 n1 hg (by simp)⟩
  · obtain ⟨o1, e1⟩ := a.there x o e (by simp)
    exact b.free x o1 e1 (a.free x o e n (by simp)) (by simp)
  · obtain ⟨o1, e1⟩ := a.there x o e (by simp)
    exact b.there x o1 e1 (by simp)
  · obtain ⟨m1, e1⟩ := a.tbls x ps e
    obtain ⟨m2, e2⟩ := b.tbls x _ e1
    exact ⟨m1 ++ m2, by rw [e2, Array.append_assoc]⟩
/-- the lambda at f, its code object at c' of the name q, made where the heaps were H0, h0; fs: the frames that ran then; t: what it promises -/
structure Work (P : Program) (w : World) (K : PySem.W.Frag) (mg : Str → Option Value) (base : Heap) (k : Nat) (fs : List Addr) (H0 : Hp) (h0 : Heap) (f c' : Addr) (q : Str) (t : XK → Hp → VK → Prop) : Prop where
  obj : ∃ (params : Arguments) (body : Expr) (scope : Scope) (cl : List (Str × Addr)) (pm ctv : Value), h0.get? f = some (PySem.W.kla_obj "<lambda>" q params body scope cl pm c' ctv)
  free : H0 f = none
  out : f ∉ fs
  run : ∀ (A : Around) (outer : List Env) (s1 : Shared) (HZ : Hp) (Q : VK) (E : XK), Room (k + 1) A → Env0 P w K mg base A outer s1 HZ → Un fs [] H0 HZ h0 s1.heap → HZ c' = some (CodeO c' q) → t E HZ Q →
    codeAny (model P w) A (.call (.ref f) ⟨[], []⟩) (CR (L2.CX P w) outer P w HZ s1 Q E) s1
section
variable {X : Cx} {pins : List (Addr × Obj)} {σ : L2.St} {H : Hp} {s : Shared}
theorem work_of {k : Nat} {f c' : Addr} {pm ctv : Value} {params : Arguments} {body : Expr} {scope : Scope} {tb : XK → TE} (I : Inv X pins σ H s) (L : LamS X.env.scope scope)
    (hf : s.heap.get? f = some (PySem.W.kla_obj "<lambda>" (X.env.qual ++ "<lambda>") params body scope (cloFrom X.env.cells scope.names []) pm c' ctv)) (hfn : H f = none) (hfr : f ∉ frs X.stack)
    (hbind : bindArgs (PySem.W.kla_fn "<lambda>" (X.env.qual ++ "<lambda>") params body scope (cloFrom X.env.cells scope.names []) pm (.ref c') ctv) ⟨[], []⟩ = pure [])
    (hbody : ∀ (A : Around) (outer : List Env) (s1 : Shared) (HZ : Hp) (E : XK), Room k (A.deeper (lamEnv X scope s1.heap.objs.size f c')) → PE (lamCx X A outer s1 HZ E scope f c') body (tb E)) :
    Work X.prog X.w X.K X.mg X.base k (frs X.stack) H s.heap f c' (X.env.qual ++ "<lambda>") (fun E HZ Q => tb E σ HZ Q) := by
  refine ⟨⟨_, _, _, _, _, _, hf⟩, hfn, hfr, fun A outer s1 HZ Q E hr e0 un hc ht => ?_⟩
  have of1 := un.keep f _ hf hfn hfr (by simp)
  obtain ⟨⟨oc, vs, t, hoc, hdc, hvc⟩, _, _⟩ := e0.hok c' _ hc
  have lim : s1.heap.NoLimit := e0.mod.nolimit.keeps fun b o e => (e0.bs b o e).1
  refine PySem.W.kla_callFunE hr.depth of1 rfl L.co L.gen rfl ⟨c', oc, vs, t, rfl, hoc, hdc, hvc⟩ ?_
  rw [hbind]
  refine wpAny_pure (wpAny_newFunctionEnv (fun y hy => (L.own y hy).2) (fun y hy => absurd hy (by simp)) (fun h₁ hns hsb => ⟨lim.fresh _ hsb, ?_⟩) L.kind)
  show codeAny _ _ (.expr body (lamEnv X scope s1.heap.objs.size f c')) _ _
  have kp : ∀ b o, s1.heap.get? b = some o → h₁.get? b = some o := fun b o e => hsb.extBut b o (Nat.ne_of_lt (Heap.lt_size e)) (Heap.get?_push_of_some _ e)
  have J : Inv (lamCx X A outer s1 HZ E scope f c') [] σ HZ { s1 with heap := h₁, toks := s1.toks + ([] : List (Str × Value)).length } := lam_start2 I L e0 hr.hd un hns kp
  refine PySem.W.kla_codeExpr (wpAny_mono ((hbody A outer s1 HZ E (hr.deeper _)).run [] _ _ HZ Q J ht) (fun v s' hq => ?_) fun e s' hq => hq)
  obtain ⟨w', H', J', rv, q⟩ := hq
  exact ⟨w', H', J'.os, J'.bare, J'.base, J'.hok, rv, q⟩
end
section
variable {Z : Cx} {k : Nat} {fs : List Addr} {H0 : Hp} {h0 : Heap} {f c' : Addr} {q : Str} {t : XK → Hp → VK → Prop}
/-- where Z stands to the making -/
structure Since (Z : Cx) (fs : List Addr) (H0 : Hp) (h0 : Heap) : Prop where
  un : Un fs [] H0 Z.H_0 h0 Z.s_0.heap
  sub : ∀ b ∈ Z.fs, b ∈ fs ∨ h0.get? b = none
  ex : Z.ex = []
theorem Since.now {pins : List (Addr × Obj)} {σ : L2.St} {H : Hp} {s : Shared} (S : Since Z fs H0 h0) (I : Inv Z pins σ H s) : Un fs [] H0 H h0 s.heap := by
  have b := I.base
  rw [S.ex] at b
  exact un_comp S.un b S.sub
theorem Since.stk {pins : List (Addr × Obj)} {σ : L2.St} {H : Hp} {s : Shared} (S : Since Z fs H0 h0) (I : Inv Z pins σ H s) : ∀ b ∈ frs Z.stack, b ∈ fs ∨ h0.get? b = none := fun b hb => by
  rcases List.mem_cons.mp (I.stkSub b hb) with e | e
  · refine .inr ?_
    cases z : h0.get? b with
    | none => rfl
    | some o =>
      obtain ⟨o', z'⟩ := S.un.there b o z (by simp)
      have l := Heap.lt_size z'
      have a := I.ok.above
      rw [e] at l
      exact absurd l (Nat.not_lt.mpr a)
  · exact S.sub b e
/-- the slot's name is called: a work stands in it -/
theorem pe_work {i : Nat} {a : Str} {E : XK} {p1 p2 : Pos} (Wk : Work Z.prog Z.w Z.K Z.mg Z.base k fs H0 h0 f c' q t) (S : Since Z fs H0 h0) (hx : Passes (L2.CX Z.prog Z.w) Z E) (hr : Room (k + 1) Z.A) (hN : Z.N[i]? = some a) (hv : Vis Z.env.scope a)
    (hd : (a == ("__debug__" : Str)) = false := by decide) (hcd : (a == ("__classdict__" : Str)) = false := by decide) :
    PE Z (.Call (.Name a p1) [] [] p2) (fun σ H Q => σ[i]? = some (some (.ref f)) ∧ H c' = some (CodeO c' q) ∧ t E H Q) := by
  refine ⟨fun pins s σ H Q I h => ?_⟩
  obtain ⟨hs, hc, ht⟩ := h
  refine wpAny_Call_Name_kw (thn ((pe_var (pos := p1) (i := i) hN hv hd hcd).run pins s σ H (fun v H1 => v = .ref f ∧ H1 = H) I ⟨.ref f, hs, rfl, rfl⟩) fun u s1 ⟨v, H1, I1, r1, q1⟩ => ?_)
  obtain ⟨ev, eH⟩ := q1
  subst ev
  rw [eH] at I1
  obtain rfl : u = Value.ref f := r1
  obtain ⟨_, _, _, _, _, _, ob⟩ := Wk.obj
  have un := S.now I1
  have of1 := un.keep f _ ob Wk.free Wk.out (by simp)
  refine PySem.W.callWith_F0 ⟨_, _, _, _, of1⟩ ?_
  refine wpAny_call (codeAny_mono (Wk.run Z.A Z.stack s1 H Q E hr I1.env0 un hc ht) fun r s' hq => ?_)
  match r, hq with
  | .error e, hq => exact hx pins σ H s1 e s' I1 hq
  | .ok (.ret u), hq => exact I1.after hq
  | .ok .next, hq => exact False.elim hq
  | .ok .brk, hq => exact False.elim hq
  | .ok .cont, hq => exact False.elim hq
end
/-- the promise of a def that a work is handed to -/
structure FnW (P : Program) (w : World) (K : PySem.W.Frag) (mg : Str → Option Value) (base : Heap) (fs : List Addr) (H0 : Hp) (h0 : Heap) (CX : CXT) (k : Nat) (g : Addr) (fd : FuncData) (ps : List Str) (sp : Sp) : Prop where
  len : ∀ vs H Q E, sp vs H Q E → vs.length = ps.length
  run : ∀ (A : Around) (outer : List Env) (s : Shared) (H : Hp) (args : Args) (us : List Value) (vs : List V) (Q : VK) (E : XK), Room k A → A.guards = some [] → Env0 P w K mg base A outer s H → Un fs [] H0 H h0 s.heap → (∀ b ∈ frs outer, b ∈ fs ∨ h0.get? b = none) →
    BindsTo s fd args (ps.zip us) → Vals vs us → sp vs H Q E → codeAny (model P w) A (.call (.ref g) args) (CR CX outer P w H s Q E) s
theorem fnW_of {CX : CXT} {P : Program} {w : World} {K : PySem.W.Frag} {mg : Str → Option Value} {base : Heap} {fs : List Addr} {H0 : Hp} {h0 : Heap} {k : Nat} {f : Addr} {x qual : Str} {st : Stmt} {fd : FuncData} {N ps : List Str} {sp : Sp} (F : Fun K x qual st f fd) (S : FnScope N ps (defScope st))
    (len : ∀ vs H Q E, sp vs H Q E → vs.length = ps.length)
    (hbody : ∀ (cdv : Value) (A : Around) (outer : List Env) (s : Shared) (H : Hp) (vs : List V) (Q : VK) (E : XK), Room k (A.deeper (envOfC qual (defScope st) s.heap.objs.size f cdv)) → A.guards = some [] → Since (cxOf CX P w K mg base N qual (defScope st) f cdv A outer s H E) fs H0 h0 → sp vs H Q E →
      ∃ t, PSs (cxOf CX P w K mg base N qual (defScope st) f cdv A outer s H E) (defBody st) t ∧ t { nx := fun _ H' => Q .non H', rt := Q } (L2.start N vs) H) : FnW P w K mg base fs H0 h0 CX (k + 1) f fd ps sp := by
  obtain ⟨oc, od, kV, doc, pm, an, cdv, ct, osl, rfl, lk, hcd⟩ := F.ex
  exact ⟨len, fun A outer s H args us vs Q E hr hgd e0 un sub hb r h => run_ofS lk hcd S hr e0 hb r (len _ _ _ _ h) fun hr' => hbody cdv A outer s H vs Q E hr' hgd ⟨un, sub, rfl⟩ h⟩
section
variable {Z : Cx} {CX : CXT} {k : Nat} {fs : List Addr} {H0 : Hp} {h0 : Heap} {g : Addr} {fd : FuncData} {ps : List Str} {sp : Sp} {E : XK} {x : Str} {p pos : Pos} {e : Expr} {es : List Expr} {t : TA}
/-- x(a, ..) in a def that the work has been handed to, handed on -/
theorem pe_wcall (F : FnW Z.prog Z.w Z.K Z.mg Z.base fs H0 h0 CX k g fd ps sp) (S : Since Z fs H0 h0) (hr : Room k Z.A) (hgd : Z.A.guards = some []) (hg : Gl Z x) (hm : Z.mg x = some (.ref g)) (hk : PySem.W.keepIn Z.K (.ref g) = true) (hb : Binds Z.K fd ps []) (hx : Passes CX Z E) (ha : PA Z (e :: es) t)
    (hdb : (x == ("__debug__" : Str)) = false := by decide) (he : starEach (e :: es) Z.env = (false, eval e Z.env) :: starEach es Z.env := by rfl) (hpl : (backTo pos (starEach es Z.env)).any (·.1) = false := by rfl) :
    PE Z (.Call (.Name x p) (e :: es) [] pos) (tCall sp [] E t) := by
  refine ⟨fun pins s σ H Q I h => ?_⟩
  refine wpAny_Call_Name_kw (ld_glob I hg hm ?_ hdb)
  refine PySem.W.callWith_K (h₀ := Z.base) I.ok.mod.kin hk (thn (ha.run pos pins s σ H _ I h) fun us s1 ⟨vs, H1, I1, r, q⟩ => ⟨I1.kIn, ?_⟩) he hpl
  have q : sp (vs ++ []) H1 Q E := q
  rw [List.append_nil] at q
  have hl : us.length = ps.length := by rw [← r.length]; exact F.len _ _ _ _ q
  have bt := hb s1 us I1.kIn (by simpa using hl)
  rw [List.append_nil] at bt
  refine wpAny_call (codeAny_mono (F.run Z.A Z.stack s1 H1 ⟨us, []⟩ us vs Q E hr hgd I1.env0 (S.now I1) (S.stk I1) bt r q) fun rr s' hq => ?_)
  match rr, hq with
  | .error e, hq => exact hx pins σ H1 s1 e s' I1 hq
  | .ok (.ret u), hq => exact I1.after hq
  | .ok .next, hq => exact False.elim hq
  | .ok .brk, hq => exact False.elim hq
  | .ok .cont, hq => exact False.elim hq
end
section
variable {X : Cx} {T : List (Addr × Str)} {CX : CXT} {kb k : Nat} {g c P : Addr} {fd : FuncData} {ps : List Str} {E : XK} {x : Str} {params : Arguments} {body : Expr} {scope : Scope} {t : XK → TE} {p lpos pos : Pos} {es : List Expr} {ta : TA} {sp : Addr → Addr → (XK → Hp → VK → Prop) → Sp}
/-- x(lambda: body, ..), x a def that hands it on -/
theorem pe_lamW (FW : ∀ (H0 : Hp) (h0 : Heap) (f c' : Addr) (t' : XK → Hp → VK → Prop), Work X.prog X.w X.K X.mg X.base kb (frs X.stack) H0 h0 f c' (X.env.qual ++ "<lambda>") t' → FnW X.prog X.w X.K X.mg X.base (frs X.stack) H0 h0 CX k g fd ps (sp f c' t'))
    (hg : Gl X x) (hm : X.mg x = some (.ref g)) (hk : PySem.W.keepIn X.K (.ref g) = true) (hb : Binds X.K fd ps []) (hx : Passes CX X E) (hr : Room k X.A) (hgd : X.A.guards = some []) (TB : TabB X.base X.mg c P) (hcode : X.env.code = .ref c) (hmT : (P, X.env.qual ++ "<lambda>") ∈ T) (hu : ∀ p ∈ T, p.1 = P → p.2 = X.env.qual ++ "<lambda>")
    (L : LamS X.env.scope scope) (hdef : defaultsOf params X.env = ([], [])) (hbind : ∀ (q : Str) (cl : List (Str × Addr)) (pm cv ctv : Value), bindArgs (PySem.W.kla_fn "<lambda>" q params body scope cl pm cv ctv) ⟨[], []⟩ = pure [])
    (hbody : ∀ (A : Around) (outer : List Env) (s : Shared) (H : Hp) (E : XK) (f c' : Addr), Room kb (A.deeper (lamEnv X scope s.heap.objs.size f c')) → PE (lamCx X A outer s H E scope f c') body (t E)) (ha : PA X es ta)
    (hdb : (x == ("__debug__" : Str)) = false := by decide) (he : starEach (.Lambda params body scope lpos :: es) X.env = (false, eval (.Lambda params body scope lpos) X.env) :: starEach es X.env := by rfl) (hpl : (backTo pos (starEach es X.env)).any (·.1) = false := by rfl) :
    PE X (.Call (.Name x p) (.Lambda params body scope lpos :: es) [] pos) (fun σ H Q => Tabs T H ∧ ∀ H1, ExtN H H1 → Tabs T H1 → ∀ f c' : Addr, H1 c' = some (CodeO c' (X.env.qual ++ "<lambda>")) →
      ta σ H1 fun vs H2 => sp f c' (fun E H Q => t E σ H Q) (.ref f :: vs) H2 Q E) := by
  refine ⟨fun pins s σ H Q I h => ?_⟩
  obtain ⟨hT, h⟩ := h
  refine wpAny_Call_Name_kw (ld_glob I hg hm ?_ hdb)
  refine PySem.W.callWith_K (h₀ := X.base) I.ok.mod.kin hk ?_ he hpl
  rw [he]
  show wpAny _ _ (spliced ((false, eval (.Lambda params body scope lpos) X.env) :: backTo pos (starEach es X.env))) _ _ s
  refine Calls.spliced_cons (lam_make2 I TB hcode hmT hu hT hdef (L.has I.ok) fun f c' pm' ctv H1 s' I1 eN T1 hf hfn hfr hco => ?_)
  have fl : f ≠ X.env.locals := fun z => by
    obtain ⟨m, ⟨o, es', ep, e1, e2, _⟩, _⟩ := I1.loc
    rw [← z, hf] at e1
    cases e1
    cases e2
  have ff : f ∉ X.fs := fun z => hfr (by
    rcases I1.ok.stk with q | ⟨q, _⟩
    · rw [q]
      exact z
    · rw [q]
      obtain ⟨e, he', q'⟩ := List.mem_filterMap.mp z
      exact List.mem_filterMap.mpr ⟨e, List.mem_cons_of_mem _ he', q'⟩)
  have J1 : Inv X ((f, PySem.W.kla_obj "<lambda>" (X.env.qual ++ "<lambda>") params body scope (cloFrom X.env.cells scope.names []) pm' c' ctv) :: pins) σ H1 s' := I1.pins_of fun q hq => by
    rcases List.mem_cons.mp hq with z | z
    · rw [z]
      exact ⟨hf, hfn, fl, ff, fun v y => by cases y⟩
    · exact I1.pin q (List.mem_append_right _ z)
  refine thn (ha.run pos _ s' σ H1 _ J1 (h H1 eN T1 f c' hco)) fun us s2 ⟨vs, H2, J2, r, q⟩ => ⟨J2.kIn, ?_⟩
  have at2 := J2.pin (f, _) (List.mem_append_right _ List.mem_cons_self)
  have I2 : Inv X pins σ H2 s2 := J2.pins_of fun q hq => J2.pin q (List.mem_append_right _ (List.mem_cons_of_mem _ hq))
  have Wk := work_of (tb := t) I2 L at2.1 at2.2.1 hfr (hbind _ _ _ _ _) (fun A outer s1 HZ E hr2 => hbody A outer s1 HZ E f c' hr2)
  have F := FW H2 s2.heap f c' _ Wk
  have r2 : Vals (.ref f :: vs) (.ref f :: us) := .cons rfl r
  have hl : (Value.ref f :: us).length = ps.length := by rw [← r2.length]; exact F.len _ _ _ _ q
  have bt := hb s2 (.ref f :: us) I2.kIn (by simpa using hl)
  rw [List.append_nil] at bt
  refine wpAny_call (codeAny_mono (F.run X.A X.stack s2 H2 ⟨.ref f :: us, []⟩ (.ref f :: us) (.ref f :: vs) Q E hr hgd I2.env0 (Un.kept fun _ _ z => z) (fun b hb => .inl hb) bt r2 q) fun rr s3 hq => ?_)
  match rr, hq with
  | .error e, hq => exact hx pins σ H2 s2 e s3 I2 hq
  | .ok (.ret u), hq => exact I2.after hq
  | .ok .next, hq => exact False.elim hq
  | .ok .brk, hq => exact False.elim hq
  | .ok .cont, hq => exact False.elim hq
end
end KW
namespace KA
open PySem PySem.Spec PyProof.Rows L2 PySem.W LamX KW
/-- isinstance of an exception that is kept as a value, with fields of its own -/
def rIsD (K : PySem.W.Frag) : List V → Hp → VK → Prop := fun xs H Q => ∃ (a D d : Addr) (fs : List (Str × V)) (c : V) (cv : Value) (b : Bool), xs = [.ref a, c] ∧ H a = some (ExV (.ref D) (some d) a) ∧ H d = some (.xd fs) ∧ ExcC K D ∧ ClsV c cv ∧ PySem.W.kitOne K (.ref D) cv = some b ∧ Q (.bl b) H
def rIs3 (K : PySem.W.Frag) : List V → Hp → VK → Prop := fun xs H Q => rIs2 K xs H Q ∨ rIsD K xs H Q
section
variable {X : Cx}
theorem call_isD : CallR X (.builtin "isinstance") (rIsD X.K) := by
  intro pins s σ H xs us Q I r h
  obtain ⟨a, D, d, fs, c, cv, b, rfl, ha, hd, C, k, e, q⟩ := h
  obtain ⟨u1, u2, rfl, r1, r2⟩ := vals2 r
  cases k.eq r2
  obtain rfl : u1 = Value.ref a := r1
  obtain ⟨⟨oe, at1, z, vs, dat⟩, _⟩ := I.hok a _ ha
  obtain ⟨mA, ns, _⟩ := I.hok d _ hd
  obtain ⟨od, at2, _⟩ := lookIn_ns ns
  have J : PySem.W.InstAt s.heap a oe D (some od) := ⟨at1, z.1, by unfold PySem.W.notCls; rw [dat] <;> rfl, by rw [z.2]; exact at2⟩
  obtain ⟨cd, hc, _⟩ := any_some C.hd
  exact PySem.W.kia_one (kitx_exc (by rw [hc]; rfl) C.hg C.hk C.hs C.ha C.hn C.ht C.hm) I.kIn J e (fun z => nomatch z) fun tk => ⟨.bl b, H, I.tok tk, rfl, q⟩
theorem call_is3 : CallR X (.builtin "isinstance") (rIs3 X.K) := by
  intro pins s σ H xs us Q I r h
  rcases h with h | h
  · exact call_is2 pins s σ H xs us Q I r h
  · exact call_isD pins s σ H xs us Q I r h
end
/-- caught, of a work that was handed on: at f, its code object at c' -/
def spCaughtW (K : PySem.W.Frag) (CS : Addr) (f c' : Addr) (q : Str) (t : XK → Hp → VK → Prop) : Sp := fun vs H Q _ => vs = [.ref f] ∧ H c' = some (CodeO c' q) ∧ TCaught K CS t H Q
theorem caught_work {P : Program} {w : World} {K : PySem.W.Frag} {mg : Str → Option Value} {base : Heap} {fs : List Addr} {H0 : Hp} {h0 : Heap} {k : Nat} {f c' : Addr} {q : Str} {t : XK → Hp → VK → Prop} {g : Addr} {fd : FuncData} {x a e n m : Str} {st : Stmt} {CS : Addr} {j1 : Nat} {p1 p2 p3 p4 p5 p6 p7 p8 p9 pa pb pc pd pe : Pos}
    (Wk : Work P w K mg base k fs H0 h0 f c' q t) (F : Fun K x x st g fd) (S : FnScope [a, m, n] [a] (defScope st))
    (hb : defBody st = [.Assign [.Name m p1] (.Constant .none j1 p2) p3,
       .Try [.Expr (.Call (.Name a p4) [] [] p5) p6] [.ExceptHandler (some (.Name e p7)) (some n) [.Assign [.Name m p8] (.Name n p9) pa] pb] [] [] pc,
       .Return (some (.Name m pd)) pe])
    (la : (defScope st).names.lookup a = some .local) (lm : (defScope st).names.lookup m = some .local) (ln : (defScope st).names.lookup n = some .local) (he : (defScope st).names.lookup e = some .globalImplicit) (hme : mg e = some (.ref CS)) (hde : (e == ("__debug__" : Str)) = false)
    (d0 : (a == ("__debug__" : Str)) = false) (d00 : (a == ("__classdict__" : Str)) = false) (d1 : (n == ("__debug__" : Str)) = false) (d2 : (n == ("__classdict__" : Str)) = false) (d3 : (m == ("__debug__" : Str)) = false) (d4 : (m == ("__classdict__" : Str)) = false) :
    FnW P w K mg base fs H0 h0 (L2.CX P w) (k + 2) g fd [a] (spCaughtW K CS f c' q t) := by
  refine fnW_of F S (fun vs H Q E h => by rw [h.1]; rfl) (fun cdv A outer s H vs Q E hr _ Sn h => ?_)
  obtain ⟨rfl, hc, hT⟩ := h
  rw [hb]
  refine ⟨_, pss_cons (ps_set (i := 1) S.nd rfl (.inl lm) pe_non) (pss_cons (ps_try_keep (c := .ref CS) (i := 2) (j := 1)
      (tb := fun W D σ H => ∃ Eb : XK, (∀ cls d σ' H', Eb cls d H' → W cls d σ' H') ∧ σ[0]? = some (some (.ref f)) ∧ H c' = some (CodeO c' q) ∧ t Eb H (fun _ H' => D.nx σ H'))
      rfl rfl rfl S.nd rfl rfl ln lm ⟨he, hde, .inl hme⟩ d1 d2 (fun W pn xe tk _ => ?_))
    (pss_one (ps_ret (pe_var (i := 1) rfl (.inl lm) d3 d4)))), ?_⟩
  · refine ⟨fun pins s' σ H' D I h' => ?_⟩
    obtain ⟨Eb, wish, h1, h2, h3⟩ := h'
    exact (pss_one (ps_expr (pe_work (Z := (cxOf (L2.CX P w) P w K mg base [a, m, n] x (defScope st) g cdv A outer s H E).tr pn xe) (i := 0) Wk ⟨Sn.un, Sn.sub, Sn.ex⟩ (passes_call tk wish) hr rfl (.inl la) d0 d00))).run pins s' σ H' D I ⟨h1, h2, h3⟩
  · refine ⟨fun cls d H' => PySem.W.exmOne K cls (.ref CS) = some true ∧ ∀ b, H' b = none → Q (.ref b) (upd H' b (ExV cls d b)), fun cls d σ' H' ⟨e1, e2⟩ => ⟨e1, fun b hb hl => ?_⟩, rfl, hc, ?_⟩
    · match σ', hl with
      | [u, v, z], _ => exact ⟨_, rfl, e2 b hb⟩
    · exact hT _ fun v H' z => ⟨_, rfl, z⟩
end KA
namespace KL
open PySem PySem.Spec PyProof.Rows L2 PySem.W LamX KA KW
/-! ### a lambda without parameters as a value: kept in a list, a local name, and called later by a def it is handed to -/
/-- the lambda at f, its code object at c', as the def with the frame env made it -/
def LamO (env : Env) (params : Arguments) (body : Expr) (scope : Scope) (f c' : Addr) : HO :=
  .ext fun h => ∃ pm ctv : Value, h.get? f = some (PySem.W.kla_obj "<lambda>" (env.qual ++ "<lambda>") params body scope (cloFrom env.cells scope.names []) pm c' ctv)
theorem lamO_tbl {env : Env} {params : Arguments} {body : Expr} {scope : Scope} {f c' : Addr} (ps : Array Value) : LamO env params body scope f c' ≠ .tbl ps := fun z => by
  unfold LamO at z
  cases z
theorem lamO_lst {env : Env} {params : Arguments} {body : Expr} {scope : Scope} {f c' : Addr} (xs : List V) : LamO env params body scope f c' ≠ .lst xs := fun z => by
  unfold LamO at z
  cases z
section
variable {X : Cx} {pins : List (Addr × Obj)} {σ : L2.St} {H : Hp} {s : Shared}
theorem laidLam {env : Env} {params : Arguments} {body : Expr} {scope : Scope} {c' : Addr} {pm ctv : Value} {h' : Heap} {tk : Nat} (I : Inv X pins σ H { s with heap := h', toks := tk }) :
    Inv X pins σ (upd H h'.objs.size (LamO env params body scope h'.objs.size c')) { s with heap := h'.push (PySem.W.kla_obj "<lambda>" (env.qual ++ "<lambda>") params body scope (cloFrom env.cells scope.names []) pm c' ctv), toks := tk } :=
  I.laid (t' := tk) (fun b o e => Heap.get?_push_of_some _ e) (Nat.le_refl _) ⟨⟨pm, ctv, Heap.get?_push_size _ rfl⟩, ⟨_, Heap.get?_push_size _ rfl⟩, fun h1 h2 ⟨a, b, e⟩ st => ⟨a, b, st _ e⟩⟩
/-- it is made: a value of the heap -/
theorem lam_valF {T : List (Addr × Str)} {c P : Addr} {params : Arguments} {body : Expr} {scope : Scope} {pos : Pos} {E Q : Value → Shared → Prop} (I : Inv X pins σ H s) (TB : TabB X.base X.mg c P) (hcode : X.env.code = .ref c)
    (mem : (P, X.env.qual ++ "<lambda>") ∈ T) (one : ∀ p ∈ T, p.1 = P → p.2 = X.env.qual ++ "<lambda>") (hT : Tabs T H) (hdef : defaultsOf params X.env = ([], [])) (hfree : ∀ y ∈ scope.names, y.2 = .free → ∃ c, X.env.cells.lookup y.1 = some c)
    (k : ∀ (f c' : Addr) (H1 : Hp) (s' : Shared), ExtN H H1 → Tabs T H1 → H1 f = none → H1 c' = some (CodeO c' (X.env.qual ++ "<lambda>")) → Inv X pins σ (upd H1 f (LamO X.env params body scope f c')) s' → Q (.ref f) s') :
    wpAny (model X.prog X.w) X.A (eval (.Lambda params body scope pos) X.env) Q E s := by
  obtain ⟨tb, atP, tri, amg⟩ := hT _ mem
  have clo := closure_ok hfree
  have glob := I.mod.glob.keeps I.bk
  have code := TB.code.keeps I.bk
  have raw : s.heap.get? P = some { cls := .none, data := .fields tb } := I.hok P _ atP
  have bm := TB.bm.keeps I.bk
  refine PySem.W.kla_eval hdef ?_
  cases found : codeAmong pos tb.toList with
  | some cv =>
    obtain ⟨c', rfl, hco⟩ := amg pos cv found
    refine PySem.W.kla_makeFunctionHit clo I.ok.glob glob hcode code raw tri found bm ?_
    intro ctv h' tk hx hsz
    have J : Inv X pins σ H { s with heap := h', toks := tk } := I.kept fun b o e => hx b o e
    exact k _ c' H _ (ExtN.refl H) hT (I.hok.fresh hsz) hco (laidLam J)
  | none =>
    refine PySem.W.kla_makeFunction clo I.ok.glob glob hcode code raw tri found TB.gP bm ?_
    intro c' ctv h' tk hx hge hlt rec tbl
    obtain ⟨c2, oc, vs, t, ec, hoc, hd, hv⟩ := rec
    cases ec
    have free : H c' = none := I.hok.fresh hge
    have ne : P ≠ c' := ne_of_none atP free
    have J := inv_table (t' := tk) (more := #[rawInt pos.line, rawInt pos.col, .ref c']) (h' := h') I atP hx tbl hge ⟨oc, vs, t, hoc, hd, hv⟩
    generalize hH : upd (upd H P (.tbl (tb ++ #[rawInt pos.line, rawInt pos.col, .ref c']))) c' (CodeO c' (X.env.qual ++ "<lambda>")) = H1 at J
    have at1 : H1 c' = some (CodeO c' (X.env.qual ++ "<lambda>")) := by rw [← hH, upd_same]
    have at2 : H1 P = some (.tbl (tb ++ #[rawInt pos.line, rawInt pos.col, .ref c'])) := by rw [← hH, upd_ne ne, upd_same]
    have at3 : ∀ b, b ≠ P → b ≠ c' → H1 b = H b := fun b h1 h2 => by rw [← hH, upd_ne h2, upd_ne h1]
    have ext : ExtN H H1 := fun b o e n => by
      rw [at3 b (fun z => n tb (Option.some.inj (e.symm.trans (z ▸ atP)))) (ne_of_none e free)]
      exact e
    have eL : (tb ++ #[rawInt pos.line, rawInt pos.col, .ref c']).toList = tb.toList ++ [rawInt pos.line, rawInt pos.col, .ref c'] := by simp
    refine k _ c' H1 _ ext (fun p hp => ?_) (J.hok.fresh (Nat.le_refl _)) at1 (laidLam J)
    by_cases hb : p.1 = P
    · rw [one p hp hb, hb]
      refine ⟨_, at2, eL ▸ PySem.TriplesOk_snoc _ _ _ _ tri, fun p' cv hcv => ?_⟩
      rw [eL] at hcv
      cases among_app _ tri hcv with
      | inl z =>
        obtain ⟨c0, e1, e2⟩ := amg p' cv z
        exact ⟨c0, e1, ext _ _ e2 codeO_ne⟩
      | inr z => exact ⟨c', z, at1⟩
    · obtain ⟨ps', a1, a2, a3⟩ := hT p hp
      refine ⟨ps', (at3 p.1 hb (ne_of_none a1 free)).trans a1, a2, fun p' cv hcv => ?_⟩
      obtain ⟨c0, e1, e2⟩ := a3 p' cv hcv
      exact ⟨c0, e1, ext _ _ e2 codeO_ne⟩
end
def tLamV (T : List (Addr × Str)) (env : Env) (params : Arguments) (body : Expr) (scope : Scope) : TE := fun _ H Q => Tabs T H ∧ ∀ H1, ExtN H H1 → Tabs T H1 → ∀ f c' : Addr, H1 f = none → H1 c' = some (CodeO c' (env.qual ++ "<lambda>")) → Q (.ref f) (upd H1 f (LamO env params body scope f c'))
theorem pe_lamV {X : Cx} {T : List (Addr × Str)} {c P : Addr} {params : Arguments} {body : Expr} {scope : Scope} {pos : Pos} (TB : TabB X.base X.mg c P) (hcode : X.env.code = .ref c) (mem : (P, X.env.qual ++ "<lambda>") ∈ T) (one : ∀ p ∈ T, p.1 = P → p.2 = X.env.qual ++ "<lambda>")
    (L : LamS X.env.scope scope) (hdef : defaultsOf params X.env = ([], [])) : PE X (.Lambda params body scope pos) (tLamV T X.env params body scope) := by
  refine ⟨fun pins s σ H Q I h => ?_⟩
  obtain ⟨hT, h⟩ := h
  exact lam_valF I TB hcode mem one hT hdef (L.has I.ok) fun f c' H1 s' ext T1 fr co J => ⟨.ref f, _, J, rfl, h H1 ext T1 f c' fr co⟩
/-- the same, of a lambda with names of its own, which uses none of the def's -/
theorem pe_lamVF {X : Cx} {T : List (Addr × Str)} {c P : Addr} {params : Arguments} {body : Expr} {scope : Scope} {pos : Pos} (TB : TabB X.base X.mg c P) (hcode : X.env.code = .ref c) (mem : (P, X.env.qual ++ "<lambda>") ∈ T) (one : ∀ p ∈ T, p.1 = P → p.2 = X.env.qual ++ "<lambda>")
    (hn : ∀ y ∈ scope.names, y.2 ≠ .free) (hdef : defaultsOf params X.env = ([], [])) : PE X (.Lambda params body scope pos) (tLamV T X.env params body scope) := by
  refine ⟨fun pins s σ H Q I h => ?_⟩
  obtain ⟨hT, h⟩ := h
  exact lam_valF I TB hcode mem one hT hdef (fun y hy e => absurd e (hn y hy)) fun f c' H1 s' ext T1 fr co J => ⟨.ref f, _, J, rfl, h H1 ext T1 f c' fr co⟩
/-- what is known of a lambda that was handed on: pre tells that it stands, t what its call promises -/
structure WorkL (P : Program) (w : World) (K : PySem.W.Frag) (mg : Str → Option Value) (base : Heap) (k : Nat) (fs : List Addr) (H0 : Hp) (h0 : Heap) (f : Addr) (pre : Hp → Prop) (t : XK → Hp → VK → Prop) : Prop where
  fn : ∀ (HZ : Hp) (h1 : Heap), HOk P w HZ h1 → pre HZ → ∃ (qual : Str) (params : Arguments) (body : Expr) (scope : Scope) (cl : List (Str × Addr)) (pm : Value) (c' : Addr) (ctv : Value), h1.get? f = some (PySem.W.kla_obj "<lambda>" qual params body scope cl pm c' ctv)
  run : ∀ (A : Around) (outer : List Env) (s1 : Shared) (HZ : Hp) (Q : VK) (E : XK), Room (k + 1) A → Env0 P w K mg base A outer s1 HZ → Un fs [] H0 HZ h0 s1.heap → pre HZ → t E HZ Q →
    codeAny (model P w) A (.call (.ref f) ⟨[], []⟩) (CR (L2.CX P w) outer P w HZ s1 Q E) s1
section
variable {X : Cx} {pins : List (Addr × Obj)} {σ : L2.St} {H : Hp} {s : Shared}
theorem work_ofL {k : Nat} {f c' : Addr} {params : Arguments} {body : Expr} {scope : Scope} {tb : XK → TE} (I : Inv X pins σ H s) (L : LamS X.env.scope scope)
    (hbind : ∀ (q : Str) (cl : List (Str × Addr)) (pm cv ctv : Value), bindArgs (PySem.W.kla_fn "<lambda>" q params body scope cl pm cv ctv) ⟨[], []⟩ = pure [])
    (hbody : ∀ (A : Around) (outer : List Env) (s1 : Shared) (HZ : Hp) (E : XK), Room k (A.deeper (lamEnv X scope s1.heap.objs.size f c')) → PE (lamCx X A outer s1 HZ E scope f c') body (tb E)) :
    WorkL X.prog X.w X.K X.mg X.base k (frs X.stack) H s.heap f (fun HZ => HZ f = some (LamO X.env params body scope f c') ∧ HZ c' = some (CodeO c' (X.env.qual ++ "<lambda>"))) (fun E HZ Q => tb E σ HZ Q) := by
  refine ⟨fun HZ h1 ok pre => ?_, fun A outer s1 HZ Q E hr e0 un pre ht => ?_⟩
  · obtain ⟨⟨pm, ctv, e⟩, _⟩ := ok f _ pre.1
    exact ⟨_, _, _, _, _, _, _, _, e⟩
  · obtain ⟨pf, pc⟩ := pre
    obtain ⟨⟨pm, ctv, of1⟩, _⟩ := e0.hok f _ pf
    obtain ⟨⟨oc, vs, t, hoc, hdc, hvc⟩, _⟩ := e0.hok c' _ pc
    have lim : s1.heap.NoLimit := e0.mod.nolimit.keeps fun b o e => (e0.bs b o e).1
    refine PySem.W.kla_callFunE hr.depth of1 rfl L.co L.gen rfl ⟨c', oc, vs, t, rfl, hoc, hdc, hvc⟩ ?_
    rw [hbind]
    refine wpAny_pure (wpAny_newFunctionEnv (fun y hy => (L.own y hy).2) (fun y hy => absurd hy (by simp)) (fun h₁ hns hsb => ⟨lim.fresh _ hsb, ?_⟩) L.kind)
    show codeAny _ _ (.expr body (lamEnv X scope s1.heap.objs.size f c')) _ _
    have keep : ∀ b o, s1.heap.get? b = some o → h₁.get? b = some o := fun b o e => hsb.extBut b o (Nat.ne_of_lt (Heap.lt_size e)) (Heap.get?_push_of_some _ e)
    have J : Inv (lamCx X A outer s1 HZ E scope f c') [] σ HZ { s1 with heap := h₁, toks := s1.toks + ([] : List (Str × Value)).length } := lam_start2 I L e0 hr.hd un hns keep
    refine PySem.W.kla_codeExpr (wpAny_mono ((hbody A outer s1 HZ E (hr.deeper _)).run [] _ _ HZ Q J ht) (fun v s' hq => ?_) fun e s' hq => hq)
    obtain ⟨w', H', J', rv, q⟩ := hq
    exact ⟨w', H', J'.os, J'.bare, J'.base, J'.hok, rv, q⟩
end
section
variable {Z : Cx} {k : Nat} {fs : List Addr} {H0 : Hp} {h0 : Heap} {f : Addr} {pre : Hp → Prop} {t : XK → Hp → VK → Prop}
theorem pe_workL {i : Nat} {a : Str} {E : XK} {p1 p2 : Pos} (Wk : WorkL Z.prog Z.w Z.K Z.mg Z.base k fs H0 h0 f pre t) (S : Since Z fs H0 h0) (hx : Passes (L2.CX Z.prog Z.w) Z E) (hr : Room (k + 1) Z.A) (hN : Z.N[i]? = some a) (hv : Vis Z.env.scope a)
    (hd : (a == ("__debug__" : Str)) = false := by decide) (hcd : (a == ("__classdict__" : Str)) = false := by decide) :
    PE Z (.Call (.Name a p1) [] [] p2) (fun σ H Q => σ[i]? = some (some (.ref f)) ∧ pre H ∧ t E H Q) := by
  refine ⟨fun pins s σ H Q I h => ?_⟩
  obtain ⟨hs, hp, ht⟩ := h
  refine wpAny_Call_Name_kw (thn ((pe_var (pos := p1) (i := i) hN hv hd hcd).run pins s σ H (fun v H1 => v = .ref f ∧ H1 = H) I ⟨.ref f, hs, rfl, rfl⟩) fun u s1 ⟨v, H1, I1, r1, q1⟩ => ?_)
  obtain ⟨rfl, rfl⟩ := q1
  obtain rfl : u = Value.ref f := r1
  obtain ⟨_, _, _, _, _, _, _, _, ob⟩ := Wk.fn H1 s1.heap I1.hok hp
  refine PySem.W.callWith_F0 ⟨_, _, _, _, ob⟩ ?_
  refine wpAny_call (codeAny_mono (Wk.run Z.A Z.stack s1 H1 Q E hr I1.env0 (S.now I1) hp ht) fun r s' hq => ?_)
  match r, hq with
  | .error e, hq => exact hx pins σ H1 s1 e s' I1 hq
  | .ok (.ret u), hq => exact I1.after hq
  | .ok .next, hq => exact False.elim hq
  | .ok .brk, hq => exact False.elim hq
  | .ok .cont, hq => exact False.elim hq
end
/-- caught, of such a lambda -/
def spCaughtL (K : PySem.W.Frag) (CS : Addr) (f : Addr) (pre : Hp → Prop) (t : XK → Hp → VK → Prop) : Sp := fun vs H Q _ => vs = [.ref f] ∧ pre H ∧ TCaught K CS t H Q
theorem caught_workL {P : Program} {w : World} {K : PySem.W.Frag} {mg : Str → Option Value} {base : Heap} {fs : List Addr} {H0 : Hp} {h0 : Heap} {k : Nat} {f : Addr} {pre : Hp → Prop} {t : XK → Hp → VK → Prop} {g : Addr} {fd : FuncData} {x a e n m : Str} {st : Stmt} {CS : Addr} {j1 : Nat} {p1 p2 p3 p4 p5 p6 p7 p8 p9 pa pb pc pd pe : Pos}
    (Wk : WorkL P w K mg base k fs H0 h0 f pre t) (F : Fun K x x st g fd) (S : FnScope [a, m, n] [a] (defScope st))
    (hb : defBody st = [.Assign [.Name m p1] (.Constant .none j1 p2) p3,
       .Try [.Expr (.Call (.Name a p4) [] [] p5) p6] [.ExceptHandler (some (.Name e p7)) (some n) [.Assign [.Name m p8] (.Name n p9) pa] pb] [] [] pc,
       .Return (some (.Name m pd)) pe])
    (la : (defScope st).names.lookup a = some .local) (lm : (defScope st).names.lookup m = some .local) (ln : (defScope st).names.lookup n = some .local) (he : (defScope st).names.lookup e = some .globalImplicit) (hme : mg e = some (.ref CS)) (hde : (e == ("__debug__" : Str)) = false)
    (d0 : (a == ("__debug__" : Str)) = false) (d00 : (a == ("__classdict__" : Str)) = false) (d1 : (n == ("__debug__" : Str)) = false) (d2 : (n == ("__classdict__" : Str)) = false) (d3 : (m == ("__debug__" : Str)) = false) (d4 : (m == ("__classdict__" : Str)) = false) :
    FnW P w K mg base fs H0 h0 (L2.CX P w) (k + 2) g fd [a] (spCaughtL K CS f pre t) := by
  refine fnW_of F S (fun vs H Q E h => by rw [h.1]; rfl) (fun cdv A outer s H vs Q E hr _ Sn h => ?_)
  obtain ⟨rfl, hp, hT⟩ := h
  rw [hb]
  refine ⟨_, pss_cons (ps_set (i := 1) S.nd rfl (.inl lm) pe_non) (pss_cons (ps_try_keep (c := .ref CS) (i := 2) (j := 1)
      (tb := fun W D σ H => ∃ Eb : XK, (∀ cls d σ' H', Eb cls d H' → W cls d σ' H') ∧ σ[0]? = some (some (.ref f)) ∧ pre H ∧ t Eb H (fun _ H' => D.nx σ H'))
      rfl rfl rfl S.nd rfl rfl ln lm ⟨he, hde, .inl hme⟩ d1 d2 (fun W pn xe tk _ => ?_))
    (pss_one (ps_ret (pe_var (i := 1) rfl (.inl lm) d3 d4)))), ?_⟩
  · refine ⟨fun pins s' σ H' D I h' => ?_⟩
    obtain ⟨Eb, wish, h1, h2, h3⟩ := h'
    exact (pss_one (ps_expr (pe_workL (Z := (cxOf (L2.CX P w) P w K mg base [a, m, n] x (defScope st) g cdv A outer s H E).tr pn xe) (i := 0) Wk ⟨Sn.un, Sn.sub, Sn.ex⟩ (passes_call tk wish) hr rfl (.inl la) d0 d00))).run pins s' σ H' D I ⟨h1, h2, h3⟩
  · refine ⟨fun cls d H' => PySem.W.exmOne K cls (.ref CS) = some true ∧ ∀ b, H' b = none → Q (.ref b) (upd H' b (ExV cls d b)), fun cls d σ' H' ⟨e1, e2⟩ => ⟨e1, fun b hb hl => ?_⟩, rfl, hp, ?_⟩
    · match σ', hl with
      | [u, v, z], _ => exact ⟨_, rfl, e2 b hb⟩
    · exact hT _ fun v H' z => ⟨_, rfl, z⟩
/-- a lambda of a def, and what its body promises -/
structure LamD where
  params : Arguments
  body : Expr
  scope : Scope
  t : XK → TE
structure LamOk (X : Cx) (kb : Nat) (l : LamD) : Prop where
  L : LamS X.env.scope l.scope
  bind : ∀ (q : Str) (cl : List (Str × Addr)) (pm cv ctv : Value), bindArgs (PySem.W.kla_fn "<lambda>" q l.params l.body l.scope cl pm cv ctv) ⟨[], []⟩ = pure []
  run : ∀ (A : Around) (outer : List Env) (s : Shared) (H : Hp) (E : XK) (f c' : Addr), Room kb (A.deeper (lamEnv X l.scope s.heap.objs.size f c')) → PE (lamCx X A outer s H E l.scope f c') l.body (l.t E)
/-- x(work): work, a name of this def, stands for one of its lambdas -/
theorem pe_callL {X : Cx} {CX : CXT} {kb k i : Nat} {g : Addr} {fd : FuncData} {ps : List Str} {E : XK} {x a : Str} {p p' pos : Pos} {sp : Addr → (Hp → Prop) → (XK → Hp → VK → Prop) → Sp} (lams : List LamD) (ok : ∀ l ∈ lams, LamOk X kb l)
    (FW : ∀ (H0 : Hp) (h0 : Heap) (f : Addr) (pre : Hp → Prop) (t' : XK → Hp → VK → Prop), WorkL X.prog X.w X.K X.mg X.base kb (frs X.stack) H0 h0 f pre t' → FnW X.prog X.w X.K X.mg X.base (frs X.stack) H0 h0 CX k g fd ps (sp f pre t'))
    (hg : Gl X x) (hm : X.mg x = some (.ref g)) (hk : PySem.W.keepIn X.K (.ref g) = true) (hb : Binds X.K fd ps []) (hx : Passes CX X E) (hr : Room k X.A) (hgd : X.A.guards = some []) (hN : X.N[i]? = some a) (hv : Vis X.env.scope a)
    (hdb : (x == ("__debug__" : Str)) = false := by decide) (hd : (a == ("__debug__" : Str)) = false := by decide) (hcd : (a == ("__classdict__" : Str)) = false := by decide)
    (he : starEach [.Name a p'] X.env = (false, eval (.Name a p') X.env) :: starEach [] X.env := by rfl) (hpl : (backTo pos (starEach [] X.env)).any (·.1) = false := by rfl) :
    PE X (.Call (.Name x p) [.Name a p'] [] pos) (fun σ H Q => ∃ l ∈ lams, ∃ f c' : Addr, σ[i]? = some (some (.ref f)) ∧ H f = some (LamO X.env l.params l.body l.scope f c') ∧ H c' = some (CodeO c' (X.env.qual ++ "<lambda>")) ∧
      sp f (fun HZ => HZ f = some (LamO X.env l.params l.body l.scope f c') ∧ HZ c' = some (CodeO c' (X.env.qual ++ "<lambda>"))) (fun E H Q => l.t E σ H Q) [.ref f] H Q E) := by
  refine ⟨fun pins s σ H Q I h => ?_⟩
  obtain ⟨l, hl, f, c', hs, hf, hc, q⟩ := h
  have O := ok l hl
  refine wpAny_Call_Name_kw (ld_glob I hg hm ?_ hdb)
  refine PySem.W.callWith_K (h₀ := X.base) I.ok.mod.kin hk ?_ he hpl
  rw [he]
  refine Calls.spliced_cons (thn ((pe_var (pos := p') (i := i) hN hv hd hcd).run pins s σ H (fun v H1 => v = .ref f ∧ H1 = H) I ⟨.ref f, hs, rfl, rfl⟩) fun u s1 ⟨v, H1, I1, r1, q1⟩ => ?_)
  obtain ⟨rfl, rfl⟩ := q1
  obtain rfl : u = Value.ref f := r1
  refine Calls.spliced_nil ⟨I1.kIn, ?_⟩
  have Wk := work_ofL (tb := l.t) (f := f) (c' := c') I1 O.L O.bind (fun A outer s2 HZ E hr2 => O.run A outer s2 HZ E f c' hr2)
  have F := FW H1 s1.heap f _ _ Wk
  have hlen : [Value.ref f].length = ps.length := by
    have := F.len _ _ _ _ q
    exact this
  have bt := hb s1 [.ref f] I1.kIn (by simpa using hlen)
  rw [List.append_nil] at bt
  refine wpAny_call (codeAny_mono (F.run X.A X.stack s1 H1 ⟨[.ref f], []⟩ [.ref f] [.ref f] Q E hr hgd I1.env0 (Un.kept fun _ _ z => z) (fun b hb => .inl hb) bt (.cons rfl .nil) q) fun rr s3 hq => ?_)
  match rr, hq with
  | .error e, hq => exact hx pins σ H1 s1 e s3 I1 hq
  | .ok (.ret u), hq => exact I1.after hq
  | .ok .next, hq => exact False.elim hq
  | .ok .brk, hq => exact False.elim hq
  | .ok .cont, hq => exact False.elim hq
end KL
namespace K45
open PySem PySem.Spec PyProof.Rows L2 PySem.W LamX KA
def top (i : Nat) : Stmt := PySem.Challenge.pw_pricedreels_k45_webs_waits_and_kept_fram.main.body.getD i (.Pass ⟨0, 0, 0, 0⟩)
abbrev s_is_number : Stmt := top 1
theorem sc_is_number : FnScope ["thing"] ["thing"] (defScope s_is_number) := ⟨rfl, rfl, rfl, by decide +kernel, rfl, by decide +kernel, by decide +kernel⟩
abbrev s_is_within : Stmt := top 2
theorem sc_is_within : FnScope ["thing", "low", "high"] ["thing", "low", "high"] (defScope s_is_within) := ⟨rfl, rfl, rfl, by decide +kernel, rfl, by decide +kernel, by decide +kernel⟩
abbrev s_web_wait : Stmt := top 12
theorem sc_web_wait : FnScope ["web"] ["web"] (defScope s_web_wait) := ⟨rfl, rfl, rfl, by decide +kernel, rfl, by decide +kernel, by decide +kernel⟩
abbrev s_critical_frame : Stmt := top 13
theorem sc_critical_frame : FnScope ["web", "found"] ["web"] (defScope s_critical_frame) := ⟨rfl, rfl, rfl, by decide +kernel, rfl, by decide +kernel, by decide +kernel⟩
abbrev s_kept : Stmt := top 14
theorem sc_kept : FnScope ["web", "wait", "told"] ["web", "wait", "told"] (defScope s_kept) := ⟨rfl, rfl, rfl, by decide +kernel, rfl, by decide +kernel, by decide +kernel⟩
abbrev s_most_kept : Stmt := top 15
theorem sc_most_kept : FnScope ["web", "wait", "order", "many"] ["web", "wait", "order"] (defScope s_most_kept) := ⟨rfl, rfl, rfl, by decide +kernel, rfl, by decide +kernel, by decide +kernel⟩
abbrev s_check_web : Stmt := top 16
theorem sc_check_web : FnScope ["web", "frame", "row", "told", "ready"] ["web"] (defScope s_check_web) := ⟨rfl, rfl, rfl, by decide +kernel, rfl, by decide +kernel, by decide +kernel⟩
abbrev s_check_wait : Stmt := top 17
theorem sc_check_wait : FnScope ["wait"] ["wait"] (defScope s_check_wait) := ⟨rfl, rfl, rfl, by decide +kernel, rfl, by decide +kernel, by decide +kernel⟩
abbrev s_are_in : Stmt := top 18
theorem sc_are_in : FnScope ["frames", "others", "frame"] ["frames", "others"] (defScope s_are_in) := ⟨rfl, rfl, rfl, by decide +kernel, rfl, by decide +kernel, by decide +kernel⟩
abbrev s_is_lot : Stmt := top 19
theorem sc_is_lot : FnScope ["thing", "many", "one", "other", "number"] ["thing", "many"] (defScope s_is_lot) := ⟨rfl, rfl, rfl, by decide +kernel, rfl, by decide +kernel, by decide +kernel⟩
abbrev s_is_whole : Stmt := top 20
theorem sc_is_whole : FnScope ["web", "thing", "frame"] ["web", "thing"] (defScope s_is_whole) := ⟨rfl, rfl, rfl, by decide +kernel, rfl, by decide +kernel, by decide +kernel⟩
abbrev s_is_in_time : Stmt := top 21
theorem sc_is_in_time : FnScope ["web", "wait", "thing", "tick", "frame"] ["web", "wait", "thing"] (defScope s_is_in_time) := ⟨rfl, rfl, rfl, by decide +kernel, rfl, by decide +kernel, by decide +kernel⟩
abbrev s_closed : Stmt := top 22
theorem sc_closed : FnScope ["web", "frames", "found", "at", "other"] ["web", "frames"] (defScope s_closed) := ⟨rfl, rfl, rfl, by decide +kernel, rfl, by decide +kernel, by decide +kernel⟩
abbrev s_excesses_of : Stmt := top 23
theorem sc_excesses_of : FnScope ["web", "frame"] ["web"] (defScope s_excesses_of) := ⟨rfl, rfl, rfl, by decide +kernel, rfl, by decide +kernel, by decide +kernel⟩
abbrev s_kept_of : Stmt := top 24
theorem sc_kept_of : FnScope ["web", "wait", "told", "tick", "needed", "other", "frame"] ["web", "wait", "told"] (defScope s_kept_of) := ⟨rfl, rfl, rfl, by decide +kernel, rfl, by decide +kernel, by decide +kernel⟩
abbrev s__law_begun : Stmt := top 26
theorem sc__law_begun : FnScope ["script", "cells_here", "large", "cell"] ["script"] (defScope s__law_begun) := ⟨rfl, rfl, rfl, by decide +kernel, rfl, by decide +kernel, by decide +kernel⟩
abbrev s__law_draw : Stmt := top 27
theorem sc__law_draw : FnScope ["state", "size_here", "found", "turn", "cell", "mixed"] ["state", "size_here"] (defScope s__law_draw) := ⟨rfl, rfl, rfl, by decide +kernel, rfl, by decide +kernel, by decide +kernel⟩
abbrev s__law_pick : Stmt := top 28
theorem sc__law_pick : FnScope ["state", "several"] ["state", "several"] (defScope s__law_pick) := ⟨rfl, rfl, rfl, by decide +kernel, rfl, by decide +kernel, by decide +kernel⟩
abbrev s__law_mixed : Stmt := top 29
theorem sc__law_mixed : FnScope ["state", "several", "left", "found"] ["state", "several"] (defScope s__law_mixed) := ⟨rfl, rfl, rfl, by decide +kernel, rfl, by decide +kernel, by decide +kernel⟩
abbrev s__law_caught : Stmt := top 30
theorem sc__law_caught : FnScope ["work", "caught", "error"] ["work"] (defScope s__law_caught) := ⟨rfl, rfl, rfl, by decide +kernel, rfl, by decide +kernel, by decide +kernel⟩
abbrev s__law_is_whole : Stmt := top 31
theorem sc__law_is_whole : FnScope ["item"] ["item"] (defScope s__law_is_whole) := ⟨rfl, rfl, rfl, by decide +kernel, rfl, by decide +kernel, by decide +kernel⟩
abbrev s__law_odd : Stmt := top 32
theorem sc__law_odd : FnScope ["state"] ["state"] (defScope s__law_odd) := ⟨rfl, rfl, rfl, by decide +kernel, rfl, by decide +kernel, by decide +kernel⟩
abbrev s__law_is_lot : Stmt := top 33
theorem sc__law_is_lot : FnScope ["item", "size_here", "each"] ["item", "size_here"] (defScope s__law_is_lot) := ⟨rfl, rfl, rfl, by decide +kernel, rfl, by decide +kernel, by decide +kernel⟩
abbrev s__law_net : Stmt := top 34
theorem sc__law_net : FnScope ["state", "most", "size_here", "rounds_here", "line", "found", "turn", "own", "some", "lap"] ["state", "most"] (defScope s__law_net) := ⟨rfl, rfl, rfl, by decide +kernel, rfl, by decide +kernel, by decide +kernel⟩
abbrev s__law_is_shut : Stmt := top 35
theorem sc__law_is_shut : FnScope ["net", "lot", "own", "mate"] ["net", "lot"] (defScope s__law_is_shut) := ⟨rfl, rfl, rfl, by decide +kernel, rfl, by decide +kernel, by decide +kernel⟩
abbrev s__law_shut_lots : Stmt := top 36
theorem sc__law_shut_lots : FnScope ["net", "found", "own", "lot"] ["net"] (defScope s__law_shut_lots) := ⟨rfl, rfl, rfl, by decide +kernel, rfl, by decide +kernel, by decide +kernel⟩
abbrev s__law_orders : Stmt := top 37
theorem sc__law_orders : FnScope ["net", "found", "turn", "longer", "line", "own", "mate"] ["net"] (defScope s__law_orders) := ⟨rfl, rfl, rfl, by decide +kernel, rfl, by decide +kernel, by decide +kernel⟩
abbrev s__law_lag : Stmt := top 38
theorem sc__law_lag : FnScope ["line", "tick", "own"] ["line"] (defScope s__law_lag) := ⟨rfl, rfl, rfl, by decide +kernel, rfl, by decide +kernel, by decide +kernel⟩
abbrev s__law_held : Stmt := top 39
theorem sc__law_held : FnScope ["net", "pause", "lot", "tick", "found", "own", "some", "mate"] ["net", "pause", "lot"] (defScope s__law_held) := ⟨rfl, rfl, rfl, by decide +kernel, rfl, by decide +kernel, by decide +kernel⟩
abbrev s__law_most_held : Stmt := top 40
theorem sc__law_most_held : FnScope ["net", "pause", "line", "turn"] ["net", "pause", "line"] (defScope s__law_most_held) := ⟨rfl, rfl, rfl, by decide +kernel, rfl, by decide +kernel, by decide +kernel⟩
abbrev s__law_critical : Stmt := top 41
theorem sc__law_critical : FnScope ["net", "found", "every", "own", "some", "lot", "mate"] ["net"] (defScope s__law_critical) := ⟨rfl, rfl, rfl, by decide +kernel, rfl, by decide +kernel, by decide +kernel⟩
abbrev s__law_refused_net : Stmt := top 42
theorem sc__law_refused_net : FnScope ["item", "own", "lot", "found", "turn", "some", "mate"] ["item"] (defScope s__law_refused_net) := ⟨rfl, rfl, rfl, by decide +kernel, rfl, by decide +kernel, by decide +kernel⟩
abbrev s__law_bent_net : Stmt := top 43
theorem sc__law_bent_net : FnScope ["state", "net", "found", "fashion", "own", "mate", "some"] ["state", "net"] (defScope s__law_bent_net) := ⟨rfl, rfl, rfl, by decide +kernel, rfl, by decide +kernel, by decide +kernel⟩
abbrev s__law_kept_right : Stmt := top 44
theorem sc__law_kept_right : FnScope ["state", "net", "lines", "lap", "lot", "due", "found", "line", "pause"] ["state", "net", "lines"] (defScope s__law_kept_right) := ⟨rfl, rfl, rfl, by decide +kernel, rfl, by decide +kernel, by decide +kernel⟩
abbrev s__law_bent_line : Stmt := top 45
theorem sc__law_bent_line : FnScope ["state", "line", "lines", "found", "own", "mate", "fashion", "is_line", "item"] ["state", "line", "lines"] (defScope s__law_bent_line) := ⟨rfl, rfl, rfl, by decide +kernel, rfl, by decide +kernel, by decide +kernel⟩
abbrev s__law_refused_right : Stmt := top 46
theorem sc__law_refused_right : FnScope ["state", "net", "lines", "line", "due", "some", "more", "error", "shown", "lots", "is_line", "bent", "odd", "lot"] ["state", "net", "lines"] (defScope s__law_refused_right) := ⟨rfl, rfl, rfl, by decide +kernel, rfl, by decide +kernel, by decide +kernel⟩
abbrev s_law : Stmt := top 47
theorem sc_law : FnScope ["script", "state", "turn", "net", "shown", "lines", "spot_here", "due", "line"] ["script"] (defScope s_law) := ⟨rfl, rfl, rfl, by decide +kernel, rfl, by decide +kernel, by decide +kernel⟩
/-- what the top has written -/
structure Top (K : PySem.W.Frag) (mg : Str → Option Value) where
  reel : ReelT K mg
  BadOrder : ExcT K mg "BadOrder" reel.C
  BadSet : ExcT K mg "BadSet" reel.C
  BadWait : ExcT K mg "BadWait" reel.C
  is_number : DefT K mg "is_number" s_is_number
  is_within : DefT K mg "is_within" s_is_within
  web_wait : DefT K mg "web_wait" s_web_wait
  critical_frame : DefT K mg "critical_frame" s_critical_frame
  kept : DefT K mg "kept" s_kept
  most_kept : DefT K mg "most_kept" s_most_kept
  check_web : DefT K mg "check_web" s_check_web
  check_wait : DefT K mg "check_wait" s_check_wait
  are_in : DefT K mg "are_in" s_are_in
  is_lot : DefT K mg "is_lot" s_is_lot
  is_whole : DefT K mg "is_whole" s_is_whole
  is_in_time : DefT K mg "is_in_time" s_is_in_time
  closed : DefT K mg "closed" s_closed
  excesses_of : DefT K mg "excesses_of" s_excesses_of
  kept_of : DefT K mg "kept_of" s_kept_of
  _law_begun : DefT K mg "_law_begun" s__law_begun
  _law_draw : DefT K mg "_law_draw" s__law_draw
  _law_pick : DefT K mg "_law_pick" s__law_pick
  _law_mixed : DefT K mg "_law_mixed" s__law_mixed
  _law_caught : DefT K mg "_law_caught" s__law_caught
  _law_is_whole : DefT K mg "_law_is_whole" s__law_is_whole
  _law_odd : DefT K mg "_law_odd" s__law_odd
  _law_is_lot : DefT K mg "_law_is_lot" s__law_is_lot
  _law_net : DefT K mg "_law_net" s__law_net
  _law_is_shut : DefT K mg "_law_is_shut" s__law_is_shut
  _law_shut_lots : DefT K mg "_law_shut_lots" s__law_shut_lots
  _law_orders : DefT K mg "_law_orders" s__law_orders
  _law_lag : DefT K mg "_law_lag" s__law_lag
  _law_held : DefT K mg "_law_held" s__law_held
  _law_most_held : DefT K mg "_law_most_held" s__law_most_held
  _law_critical : DefT K mg "_law_critical" s__law_critical
  _law_refused_net : DefT K mg "_law_refused_net" s__law_refused_net
  _law_bent_net : DefT K mg "_law_bent_net" s__law_bent_net
  _law_kept_right : DefT K mg "_law_kept_right" s__law_kept_right
  _law_bent_line : DefT K mg "_law_bent_line" s__law_bent_line
  _law_refused_right : DefT K mg "_law_refused_right" s__law_refused_right
  law : DefT K mg "law" s_law
  cMOST_FRAMES : CstT mg "MOST_FRAMES" (10)
  cMOST_WAIT : CstT mg "MOST_WAIT" (20)
  b_isinstance : mg "isinstance" = none
  b_int : mg "int" = none
  b_bool : mg "bool" = none
  b_len : mg "len" = none
  b_abs : mg "abs" = none
  b_range : mg "range" = none
  b_min : mg "min" = none
  b_max : mg "max" = none
  b_repr : mg "repr" = none
  b_list : mg "list" = none
  b_tuple : mg "tuple" = none
  b_sorted : mg "sorted" = none
  b_set : mg "set" = none
  b_zip : mg "zip" = none
  b_all : mg "all" = none
  b_enumerate : mg "enumerate" = none
  b_ValueError : mg "ValueError" = none
section
variable {K : PySem.W.Frag} {mg : Str → Option Value}
theorem bd_is_number (T : Top K mg) : Binds K T.is_number.d ["thing"] [] := T.is_number.f.binds fun _ _ _ _ _ _ us hl => match us, hl with | [_], _ => rfl
theorem bd_is_within (T : Top K mg) : Binds K T.is_within.d ["thing", "low", "high"] [] := T.is_within.f.binds fun _ _ _ _ _ _ us hl => match us, hl with | [_, _, _], _ => rfl
theorem bd_web_wait (T : Top K mg) : Binds K T.web_wait.d ["web"] [] := T.web_wait.f.binds fun _ _ _ _ _ _ us hl => match us, hl with | [_], _ => rfl
theorem bd_critical_frame (T : Top K mg) : Binds K T.critical_frame.d ["web"] [] := T.critical_frame.f.binds fun _ _ _ _ _ _ us hl => match us, hl with | [_], _ => rfl
theorem bd_kept (T : Top K mg) : Binds K T.kept.d ["web", "wait", "told"] [] := T.kept.f.binds fun _ _ _ _ _ _ us hl => match us, hl with | [_, _, _], _ => rfl
theorem bd_most_kept (T : Top K mg) : Binds K T.most_kept.d ["web", "wait", "order"] [] := T.most_kept.f.binds fun _ _ _ _ _ _ us hl => match us, hl with | [_, _, _], _ => rfl
theorem bd_check_web (T : Top K mg) : Binds K T.check_web.d ["web"] [] := T.check_web.f.binds fun _ _ _ _ _ _ us hl => match us, hl with | [_], _ => rfl
theorem bd_check_wait (T : Top K mg) : Binds K T.check_wait.d ["wait"] [] := T.check_wait.f.binds fun _ _ _ _ _ _ us hl => match us, hl with | [_], _ => rfl
theorem bd_are_in (T : Top K mg) : Binds K T.are_in.d ["frames", "others"] [] := T.are_in.f.binds fun _ _ _ _ _ _ us hl => match us, hl with | [_, _], _ => rfl
theorem bd_is_lot (T : Top K mg) : Binds K T.is_lot.d ["thing", "many"] [] := T.is_lot.f.binds fun _ _ _ _ _ _ us hl => match us, hl with | [_, _], _ => rfl
theorem bd_is_whole (T : Top K mg) : Binds K T.is_whole.d ["web", "thing"] [] := T.is_whole.f.binds fun _ _ _ _ _ _ us hl => match us, hl with | [_, _], _ => rfl
theorem bd_is_in_time (T : Top K mg) : Binds K T.is_in_time.d ["web", "wait", "thing"] [] := T.is_in_time.f.binds fun _ _ _ _ _ _ us hl => match us, hl with | [_, _, _], _ => rfl
theorem bd_closed (T : Top K mg) : Binds K T.closed.d ["web", "frames"] [] := T.closed.f.binds fun _ _ _ _ _ _ us hl => match us, hl with | [_, _], _ => rfl
theorem bd_excesses_of (T : Top K mg) : Binds K T.excesses_of.d ["web"] [] := T.excesses_of.f.binds fun _ _ _ _ _ _ us hl => match us, hl with | [_], _ => rfl
theorem bd_kept_of (T : Top K mg) : Binds K T.kept_of.d ["web", "wait", "told"] [] := T.kept_of.f.binds fun _ _ _ _ _ _ us hl => match us, hl with | [_, _, _], _ => rfl
theorem bd__law_begun (T : Top K mg) : Binds K T._law_begun.d ["script"] [] := T._law_begun.f.binds fun _ _ _ _ _ _ us hl => match us, hl with | [_], _ => rfl
theorem bd__law_draw (T : Top K mg) : Binds K T._law_draw.d ["state", "size_here"] [] := T._law_draw.f.binds fun _ _ _ _ _ _ us hl => match us, hl with | [_, _], _ => rfl
theorem bd__law_pick (T : Top K mg) : Binds K T._law_pick.d ["state", "several"] [] := T._law_pick.f.binds fun _ _ _ _ _ _ us hl => match us, hl with | [_, _], _ => rfl
theorem bd__law_mixed (T : Top K mg) : Binds K T._law_mixed.d ["state", "several"] [] := T._law_mixed.f.binds fun _ _ _ _ _ _ us hl => match us, hl with | [_, _], _ => rfl
theorem bd__law_caught (T : Top K mg) : Binds K T._law_caught.d ["work"] [] := T._law_caught.f.binds fun _ _ _ _ _ _ us hl => match us, hl with | [_], _ => rfl
theorem bd__law_is_whole (T : Top K mg) : Binds K T._law_is_whole.d ["item"] [] := T._law_is_whole.f.binds fun _ _ _ _ _ _ us hl => match us, hl with | [_], _ => rfl
theorem bd__law_odd (T : Top K mg) : Binds K T._law_odd.d ["state"] [] := T._law_odd.f.binds fun _ _ _ _ _ _ us hl => match us, hl with | [_], _ => rfl
theorem bd__law_is_lot (T : Top K mg) : Binds K T._law_is_lot.d ["item", "size_here"] [] := T._law_is_lot.f.binds fun _ _ _ _ _ _ us hl => match us, hl with | [_, _], _ => rfl
theorem bd__law_net (T : Top K mg) : Binds K T._law_net.d ["state", "most"] [] := T._law_net.f.binds fun _ _ _ _ _ _ us hl => match us, hl with | [_, _], _ => rfl
theorem bd__law_is_shut (T : Top K mg) : Binds K T._law_is_shut.d ["net", "lot"] [] := T._law_is_shut.f.binds fun _ _ _ _ _ _ us hl => match us, hl with | [_, _], _ => rfl
theorem bd__law_shut_lots (T : Top K mg) : Binds K T._law_shut_lots.d ["net"] [] := T._law_shut_lots.f.binds fun _ _ _ _ _ _ us hl => match us, hl with | [_], _ => rfl
theorem bd__law_orders (T : Top K mg) : Binds K T._law_orders.d ["net"] [] := T._law_orders.f.binds fun _ _ _ _ _ _ us hl => match us, hl with | [_], _ => rfl
theorem bd__law_lag (T : Top K mg) : Binds K T._law_lag.d ["line"] [] := T._law_lag.f.binds fun _ _ _ _ _ _ us hl => match us, hl with | [_], _ => rfl
theorem bd__law_held (T : Top K mg) : Binds K T._law_held.d ["net", "pause", "lot"] [] := T._law_held.f.binds fun _ _ _ _ _ _ us hl => match us, hl with | [_, _, _], _ => rfl
theorem bd__law_most_held (T : Top K mg) : Binds K T._law_most_held.d ["net", "pause", "line"] [] := T._law_most_held.f.binds fun _ _ _ _ _ _ us hl => match us, hl with | [_, _, _], _ => rfl
theorem bd__law_critical (T : Top K mg) : Binds K T._law_critical.d ["net"] [] := T._law_critical.f.binds fun _ _ _ _ _ _ us hl => match us, hl with | [_], _ => rfl
theorem bd__law_refused_net (T : Top K mg) : Binds K T._law_refused_net.d ["item"] [] := T._law_refused_net.f.binds fun _ _ _ _ _ _ us hl => match us, hl with | [_], _ => rfl
theorem bd__law_bent_net (T : Top K mg) : Binds K T._law_bent_net.d ["state", "net"] [] := T._law_bent_net.f.binds fun _ _ _ _ _ _ us hl => match us, hl with | [_, _], _ => rfl
theorem bd__law_kept_right (T : Top K mg) : Binds K T._law_kept_right.d ["state", "net", "lines"] [] := T._law_kept_right.f.binds fun _ _ _ _ _ _ us hl => match us, hl with | [_, _, _], _ => rfl
theorem bd__law_bent_line (T : Top K mg) : Binds K T._law_bent_line.d ["state", "line", "lines"] [] := T._law_bent_line.f.binds fun _ _ _ _ _ _ us hl => match us, hl with | [_, _, _], _ => rfl
theorem bd__law_refused_right (T : Top K mg) : Binds K T._law_refused_right.d ["state", "net", "lines"] [] := T._law_refused_right.f.binds fun _ _ _ _ _ _ us hl => match us, hl with | [_, _, _], _ => rfl
theorem bd_law (T : Top K mg) : Binds K T.law.d ["script"] [] := T.law.f.binds fun _ _ _ _ _ _ us hl => match us, hl with | [_], _ => rfl
end
end K45
namespace KA
open PySem
/-! ### numbers in bits: the mathematics -/
/-- n in k bits, as codes -/
def bitsL : Nat → Nat → List Nat
  | 0, _ => []
  | k + 1, n => bitsL k (n / 2) ++ [48 + n % 2]
theorem bitsL_len : ∀ k n, (bitsL k n).length = k
  | 0, _ => rfl
  | k + 1, n => by simp [bitsL, bitsL_len k]
def binL (n : Nat) : List Nat := (Nat.toDigits 2 n).map Char.toNat
theorem binL_lt {n : Nat} (h : n < 2) : binL n = [48 + n] := by
  unfold binL
  rw [Nat.toDigits_of_lt_base h]
  have : n = 0 ∨ n = 1 := by omega
  rcases this with rfl | rfl <;> rfl
theorem binL_ge {n : Nat} (h : 2 ≤ n) : binL n = binL (n / 2) ++ [48 + n % 2] := by
  unfold binL
  rw [Nat.toDigits_of_base_le (by decide) h, List.map_append]
  have : n % 2 = 0 ∨ n % 2 = 1 := by omega
  rcases this with e | e <;> rw [e] <;> rfl
/-- the digits behind the first one -/
def tailL (n : Nat) : List Nat := (binL n).drop 1
theorem binL_ne (n : Nat) : binL n ≠ [] := by
  unfold binL
  intro h
  exact Nat.toDigits_ne_nil (List.map_eq_nil_iff.mp h)
theorem tailL_lt {n : Nat} (h : n < 2) : tailL n = [] := by
  unfold tailL
  rw [binL_lt h]
  rfl
theorem tailL_ge {n : Nat} (h : 2 ≤ n) : tailL n = tailL (n / 2) ++ [48 + n % 2] := by
  unfold tailL
  rw [binL_ge h, List.drop_append_of_le_length]
  have := List.length_pos_iff.mpr (binL_ne (n / 2))
  omega
theorem binL_head : ∀ (n : Nat), 1 ≤ n → binL n = 49 :: tailL n := by
  intro n
  induction n using Nat.strongRecOn with
  | _ n ih =>
    intro h
    by_cases h2 : n < 2
    · have : n = 1 := by omega
      subst this
      rfl
    · rw [tailL_ge (by omega), binL_ge (by omega), ih (n / 2) (by omega) (by omega)]
      rfl
theorem binL_le : ∀ (k n : Nat), 0 < k → n < 2 ^ k → (binL n).length ≤ k
  | 0, _, h, _ => by omega
  | k + 1, n, _, h => by
    by_cases h2 : n < 2
    · rw [binL_lt h2]
      simp
    · rw [binL_ge (by omega), List.length_append]
      have hk : 0 < k := by
        rcases Nat.eq_zero_or_pos k with e | e
        · subst e
          simp at h
          omega
        · exact e
      have := binL_le k (n / 2) hk (by rw [Nat.pow_succ] at h; omega)
      simp
      omega
theorem bitsL_bin : ∀ (k n : Nat), 0 < k → n < 2 ^ k → List.replicate (k - (binL n).length) 48 ++ binL n = bitsL k n
  | 0, _, h, _ => by omega
  | k + 1, n, _, h => by
    rw [bitsL]
    by_cases h2 : n < 2
    · rw [binL_lt h2]
      have e : n / 2 = 0 := by omega
      have e2 : n % 2 = n := by omega
      rw [e, e2]
      have z : ∀ j, bitsL j 0 = List.replicate j 48 := fun j => by
        induction j with
        | zero => rfl
        | succ j ih => rw [bitsL, Nat.zero_div, ih, List.replicate_succ']
      rw [z]
      simp
    · have hk : 0 < k := by
        rcases Nat.eq_zero_or_pos k with e | e
        · subst e
          simp at h
          omega
        · exact e
      have hd : n / 2 < 2 ^ k := by
        rw [Nat.pow_succ] at h
        omega
      rw [← bitsL_bin k (n / 2) hk hd, binL_ge (by omega), List.length_append]
      have e : k + 1 - ((binL (n / 2)).length + [48 + n % 2].length) = k - (binL (n / 2)).length := by simp
      rw [e, List.append_assoc]
theorem binText_eq (n : Nat) : binText n = ⟨(binL n).toArray⟩ := rfl
theorem binText_len (n : Nat) : (binText n).length = (binL n).length := by simp [binText, binL, Str.length]
/-- n in m bits, as a text -/
def twosT (m n : Nat) : Str := ⟨(bitsL m n).toArray⟩
theorem zfill_bin {m n : Nat} (hm : 0 < m) (h : n < 2 ^ m) : Txt.zfill (binText n) (m : Int) = twosT m n := by
  have hl := binL_le m n hm h
  have hb := bitsL_bin m n hm h
  unfold Txt.zfill
  rw [binText_len]
  by_cases e : (m : Int) ≤ ((binL n).length : Nat)
  · rw [if_pos e]
    have : m - (binL n).length = 0 := by omega
    rw [this] at hb
    simp only [List.replicate_zero, List.nil_append] at hb
    rw [binText_eq, hb]
    rfl
  · rw [if_neg e]
    have h0 : (binText n).cps[0]? = some 48 ∨ (binText n).cps[0]? = some 49 := by
      rw [binText_eq]
      rcases Nat.eq_zero_or_pos n with z | z
      · subst z
        exact .inl rfl
      · rw [binL_head n z]
        exact .inr rfl
    have e2 : zfilled (binText n) ((m : Int).toNat - (binL n).length) = Builtin.Str.padded (binText n) ((m : Int).toNat - (binL n).length) 0 48 := by
      unfold zfilled
      rcases h0 with z | z
      · rw [z]
        rfl
      · rw [z]
        rfl
    rw [e2]
    unfold Builtin.Str.padded twosT
    rw [← hb, binText_eq]
    congr 1
    apply Array.toList_inj.mp
    simp
/-- n ones -/
def onesT (n : Nat) : Str := ⟨(List.replicate n 49).toArray⟩
theorem onesT_len (n : Nat) : (onesT n).length = n := by simp [onesT, Str.length]
theorem fold_ones (n : Nat) : ∀ acc : Array Nat, (List.replicate n (#[49] : Array Nat)).foldl (· ++ ·) acc = acc ++ (List.replicate n 49).toArray := by
  induction n with
  | zero => intro acc; simp
  | succ n ih =>
    intro acc
    rw [List.replicate_succ, List.foldl_cons, ih, List.replicate_succ]
    apply Array.toList_inj.mp
    simp
theorem mul_ones (n : Nat) : Txt.mul "1" (n : Int) = onesT n := by
  unfold Txt.mul
  by_cases h : (n : Int) < 1
  · rw [if_pos h]
    have : n = 0 := by omega
    subst this
    rfl
  · rw [if_neg h]
    by_cases h1 : n = 1
    · subst h1
      rfl
    · rw [if_neg (by
        have e : ((n : Int) == 1) = false := by
          rw [beq_eq_false_iff_ne]
          omega
        rw [e]
        decide)]
      show (⟨(List.replicate (n : Int).toNat (#[49] : Array Nat)).foldl (· ++ ·) #[]⟩ : Str) = _
      rw [Int.toNat_natCast, fold_ones]
      unfold onesT
      congr 1
      apply Array.toList_inj.mp
      simp
end KA
namespace K45
open PySem PySem.Spec PyProof.Rows L2 PySem.W LamX KA
/-! ### the promises -/
/-- a value whose type isinstance can tell; whether it is a number -/
inductive Pl (K : PySem.W.Frag) (H : Hp) : V → Bool → Prop where
  | int (i : Int) : Pl K H (.int i) true
  | bl (b : Bool) : Pl K H (.bl b) false
  | str (s : Str) : Pl K H (.str s) false
  | non : Pl K H .non false
  | tup {a : Addr} {xs : List V} (e : H a = some (.tup xs)) : Pl K H (.ref a) false
  | lst {a : Addr} {xs : List V} (e : H a = some (.lst xs)) : Pl K H (.ref a) false
  | dK {a : Addr} {kvs : List (Key × V)} (e : H a = some (.dK kvs)) : Pl K H (.ref a) false
theorem Pl.ty {K : PySem.W.Frag} {H : Hp} {x : V} {b : Bool} (h : Pl K H x b) : ∃ t : String, TyX K H x (.type t) ∧ kitB t "int" = some (b || (t == "bool")) ∧ kitB t "bool" = some (t == "bool") ∧ ((b || (t == "bool")) && !(t == "bool")) = b := by
  cases h with
  | int i => exact ⟨"int", .base (.int i), by decide +kernel, by decide +kernel, by decide⟩
  | bl i => exact ⟨"bool", .base (.bl i), by decide +kernel, by decide +kernel, by decide⟩
  | str i => exact ⟨"str", .base (.str i), by decide +kernel, by decide +kernel, by decide⟩
  | non => exact ⟨"NoneType", .base .non, by decide +kernel, by decide +kernel, by decide⟩
  | tup e => exact ⟨"tuple", .base (.tup e), by decide +kernel, by decide +kernel, by decide⟩
  | lst e => exact ⟨"list", .base (.lst e), by decide +kernel, by decide +kernel, by decide⟩
  | dK e => exact ⟨"dict", .base (.dK e), by decide +kernel, by decide +kernel, by decide⟩
def within (x : V) (lo hi : Int) : Bool := match x with
  | .int i => decide (lo ≤ i) && decide (i ≤ hi)
  | _ => false
def spNumber (K : PySem.W.Frag) : Sp := fun vs H Q _ => ∃ x b, vs = [x] ∧ Pl K H x b ∧ Q (.bl b) H
def spWithin (K : PySem.W.Frag) : Sp := fun vs H Q _ => ∃ x b lo hi, vs = [x, .int lo, .int hi] ∧ Pl K H x b ∧ Q (.bl (within x lo hi)) H
section
variable {P : Program} {w : World} {K : PySem.W.Frag} {mg : Str → Option Value} {base : Heap} (T : Top K mg)
abbrev pInt {X : Cx} {pos : Pos} (hg : Gl X "int") (hm : X.mg "int" = none) : PE X (.Name "int" pos) (tC (.ty "int")) := pe_bltn hg hm PyProof.Rows.boot_int rfl
theorem q_bl {Q : VK} {H : Hp} {a b : Bool} (k : Q (.bl b) H) (e : a = b) : Q (.bl a) H := e ▸ k
theorem q_int {Q : VK} {H : Hp} {a b : Int} (k : Q (.int b) H) (e : a = b) : Q (.int a) H := e ▸ k
theorem q_str {Q : VK} {H : Hp} {a b : Str} (k : Q (.str b) H) (e : a = b) : Q (.str a) H := e ▸ k
theorem ok_is_number : FnOk P w K mg base (L2.CX P w) 1 T.is_number.a T.is_number.d ["thing"] (spNumber K) := by
  refine T.is_number.f.okX sc_is_number (fun vs H Q E h => ?_) (fun cdv A outer s H vs Q E hr h => ?_)
  · obtain ⟨x, b, rfl, _⟩ := h
    rfl
  · obtain ⟨x, b, rfl, hp, k⟩ := h
    refine ⟨_, pss_one (ps_ret (pe_and
      (pe_callB call_isi (by rfl) T.b_isinstance PyProof.Rows.boot_isinstance (pa_cons (pv 0) (pa_cons (pe_bltn (v := .ty "int") (by rfl) T.b_int PyProof.Rows.boot_int rfl) pa_nil)))
      (pe_one (pe_not (pe_callB call_isi (by rfl) T.b_isinstance PyProof.Rows.boot_isinstance (pa_cons (pv 0) (pa_cons (pe_bltn (v := .ty "bool") (by rfl) T.b_bool (by decide +kernel) rfl) pa_nil))))))), ?_⟩
    obtain ⟨t, ht, h1, h2, h3⟩ := hp.ty
    refine ⟨_, rfl, x, _, _, _, _, rfl, .ty "int", ht, kit_ty h1, _, rfl, ?_⟩
    cases e : (b || (t == "bool"))
    · rw [e] at h3
      refine iteF ?_
      exact q_bl k h3
    · rw [e] at h3
      refine iteT ?_
      refine ⟨_, rfl, x, _, _, _, _, rfl, .ty "bool", ht, kit_ty h2, _, rfl, ?_⟩
      exact q_bl k (by simpa using h3)
theorem ok_is_within : FnOk P w K mg base (L2.CX P w) 2 T.is_within.a T.is_within.d ["thing", "low", "high"] (spWithin K) := by
  refine T.is_within.f.okX sc_is_within (fun vs H Q E h => ?_) (fun cdv A outer s H vs Q E hr h => ?_)
  · obtain ⟨x, b, lo, hi, rfl, _⟩ := h
    rfl
  · obtain ⟨x, b, lo, hi, rfl, hp, k⟩ := h
    refine ⟨_, pss_one (ps_ret (pe_and (pe_call (ok_is_number T) hr (by rfl) T.is_number.m T.is_number.f.kp (bd_is_number T) .nil passE (pa_cons (pv 0) pa_nil))
      (pe_one (pe_chain op_le op_le (pv 1) (pv 0) (pv 2))))), ?_⟩
    refine ⟨_, rfl, x, b, rfl, hp, b, rfl, ?_⟩
    cases hp with
    | int i =>
      refine iteT ⟨_, rfl, _, rfl, lo, i, rfl, rfl, _, rfl, ?_⟩
      by_cases h1 : lo ≤ i
      · rw [decide_eq_true h1]
        refine iteT ⟨_, rfl, i, hi, rfl, rfl, ?_⟩
        exact q_bl k (by simp [within, h1])
      · rw [decide_eq_false h1]
        refine iteF ?_
        exact q_bl k (by simp [within, h1])
    | _ => exact iteF k
def foldI (i : Int) : Int := if i > 0 then 2 * i - 1 else -2 * i
def spFold : Sp := fun vs H Q _ => ∃ i : Int, vs = [.int i] ∧ Q (.int (foldI i)) H
def unfoldI (n : Int) : Int := if Builtin.bitAnd n 1 != 0 then (n + 1) / 2 else -(n / 2)
def spUnfold : Sp := fun vs H Q _ => ∃ i : Int, vs = [.int i] ∧ Q (.int (unfoldI i)) H
/-- n in m bits, as the program writes it -/
theorem padOk {m : Int} (h0 : 0 ≤ m) (h1 : m ≤ 100) : PadOk m = true := by
  unfold PadOk fitsSsize Builtin.Str.tooLong
  have e : sizeLine = 16777216 := rfl
  rw [e]
  simp
  omega
def inBits (n m : Int) : Str := if m = 0 then "" else Txt.zfill (binText n.natAbs) m
def spInBits : Sp := fun vs H Q _ => ∃ n m : Int, vs = [.int n, .int m] ∧ 0 ≤ n ∧ (binText n.natAbs).length ≤ 100 ∧ 0 ≤ m ∧ m ≤ 100 ∧ Q (.str (inBits n m)) H
def spIsTold (K : PySem.W.Frag) : Sp := fun vs H Q _ => ∃ x b, vs = [x] ∧ Pl K H x b ∧ Q (.bl (within x (-32767) 32767)) H
/-- a check: nothing, or an error of the class at C -/
def spCheck (K : PySem.W.Frag) (lo hi : Int) (C : Addr) : Sp := fun vs H Q E => ∃ x b, vs = [x] ∧ Pl K H x b ∧ (within x lo hi = true → Q .non H) ∧ (within x lo hi = false → E (.ref C) none H)
theorem iteNot {A B : Prop} {b : Bool} (h1 : b = false → A) (h2 : b = true → B) : if (!b) = true then A else B := by
  cases b
  · exact h1 rfl
  · exact h2 rfl
theorem passX {X : Cx} {E : XK} (hs : X.stack = X.env :: X.outer) (hf : X.env.frame = some X.env.locals) (hex : X.ex = []) (hx : X.xe = fun e s' => wpAny (model X.prog X.w) X.A (leaving X.env e) (fun _ s'' => L2.CX X.prog X.w X.outer X.H_0 X.s_0 E e s'') (fun e' s'' => L2.CX X.prog X.w X.outer X.H_0 X.s_0 E e' s'') s') :
    Passes (L2.CX X.prog X.w) X E := passes_call (takes_of hs hf hex hx) fun _ _ _ _ h => h
theorem within_int {x : V} {lo hi : Int} (h : within x lo hi = true) : ∃ i, x = .int i ∧ lo ≤ i ∧ i ≤ hi := by
  cases x with
  | int i =>
    simp only [within, Bool.and_eq_true, decide_eq_true_eq] at h
    exact ⟨i, rfl, h⟩
  | _ => cases h
def spFolded (K : PySem.W.Frag) (C : Addr) : Sp := fun vs H Q E => ∃ x b, vs = [x] ∧ Pl K H x b ∧ (∀ i, x = .int i → -32767 ≤ i → i ≤ 32767 → Q (.int (foldI i)) H) ∧ (within x (-32767) 32767 = false → E (.ref C) none H)
def spUnfolded (K : PySem.W.Frag) (C : Addr) : Sp := fun vs H Q E => ∃ x b, vs = [x] ∧ Pl K H x b ∧ (∀ i, x = .int i → 0 ≤ i → i ≤ 65534 → Q (.int (unfoldI i)) H) ∧ (within x 0 65534 = false → E (.ref C) none H)
end
end K45
namespace K45
open PySem PySem.Spec PyProof.Rows L2 PySem.W LamX KA
open Evl (pss_cut tCut)
def spDraw : Sp := fun vs H Q _ => ∃ (st lg cl : Addr) (n m : Nat), vs = [.ref st, .int n] ∧ 0 < n ∧ n < 2 ^ 100 ∧ m ≤ 1000000 ∧ StAt H st lg cl m ∧
  ∀ (r : Nat) (H' : Hp), r < n → StAt H' st lg cl (m + 1) → Kp st lg H H' → Q (.int r) H'
section
variable {P : Program} {w : World} {K : PySem.W.Frag} {mg : Str → Option Value} {base : Heap} (T : Top K mg)
theorem draw_div {n : Nat} (h0 : 0 < n) (h : n < 2 ^ 100) {i : Int} : CDivW i (n : Int) := wide_div (b := 100) (by omega) (by simpa using h) (by decide) (by decide)
theorem ok_draw : FnOk P w K mg base (L2.CX P w) 1 T._law_draw.a T._law_draw.d ["state", "size_here"] spDraw := by
  refine T._law_draw.f.okX sc__law_draw (fun vs H Q E h => ?_) (fun cdv A outer s H vs Q E hr h => ?_)
  · obtain ⟨st, lg, cl, n, m, rfl, _⟩ := h
    rfl
  · obtain ⟨st, lg, cl, n, m, rfl, hn, hn2, hm, ⟨large, cells, left, turn, S, ht⟩, k⟩ := h
    have hu := hu_of hr
    refine ⟨_, pss_cut (ps_while (passes_of rfl) (PW.pt (pw_and (pt_cmpR op_eq (pe_dget hu (pv 0) pe_str (fun _ _ => rfl)) pe_int (nomark _)) (pw_and1 (pt_cmpR (op_neD hr.units) (pe_dget hu (pv 0) pe_str (fun _ _ => rfl)) (pe_lst pa_nil) (nomark _)))))
        (pss_one (ps_dput hu (pv 0) pe_str (pe_bm PySem.F.plainAttrs_list PySem.F.slot_list_pop PySem.F.type_list_pop mt_popAt (pe_dget hu (pv 0) pe_str (fun _ _ => rfl)) (pa_cons pe_int pa_nil)) rfl)))
      (pss_cons (ps_if (pt_cmpR op_gt (pe_dget hu (pv 0) pe_str (fun _ _ => rfl)) pe_int (nomark _))
        (pss_cons (ps_set (i := 2) sc__law_draw.nd rfl (.inl rfl) (pe_op op_mod (pe_callTy call_int1 (by rfl) T.b_int PyProof.Rows.boot_int (pa_cons (pe_dget hu (pv 0) pe_str (fun _ _ => rfl)) pa_nil)) (pv 1)))
        (pss_cons (ps_dput hu (pv 0) pe_str (pe_op op_fdivW (pe_dget hu (pv 0) pe_str (fun _ _ => rfl)) (pv 1)) rfl)
        (pss_one (ps_ret (pv 2))))) pss_nil)
      (pss_cons (ps_set (i := 3) sc__law_draw.nd rfl (.inl rfl) (pe_op op_add (pe_dget hu (pv 0) pe_str (fun _ _ => rfl)) pe_int))
      (pss_cons (ps_dput hu (pv 0) pe_str (pv 3) rfl)
      (pss_cut (ps_set (i := 4) sc__law_draw.nd rfl (.inl rfl) (pe_ifExp (pt_cmpR (op_neD hr.units) (pe_dget hu (pv 0) pe_str (fun _ _ => rfl)) (pe_lst pa_nil) (nomark _))
        (pe_ix ix_list (pe_dget hu (pv 0) pe_str (fun _ _ => rfl)) (pe_op op_mod (pe_callTy call_int1 (by rfl) T.b_int PyProof.Rows.boot_int (pa_cons (pv 3) pa_nil)) (pe_callB call_len_seq (by rfl) T.b_len PySem.boot_len (pa_cons (pe_dget hu (pv 0) pe_str (fun _ _ => rfl)) pa_nil))) (fun _ _ => rfl))
        pe_int))
      (pss_cons (ps_set (i := 5) sc__law_draw.nd rfl (.inl rfl) (pe_op op_mod (pe_callTy call_int1 (by rfl) T.b_int PyProof.Rows.boot_int (pa_cons (pe_op op_pow (pe_op op_add (pe_op op_add (pe_op op_mod (pe_callTy call_int1 (by rfl) T.b_int PyProof.Rows.boot_int (pa_cons (pv 4) pa_nil)) pe_int) (pe_op op_mul pe_int (pv 3))) pe_int) pe_int) pa_nil)) pe_int))
      (pss_one (ps_ret (pe_op op_mod (pe_callTy call_int1 (by rfl) T.b_int PyProof.Rows.boot_int (pa_cons (pe_op op_fdiv (pe_op op_mod (pe_callTy call_int1 (by rfl) T.b_int PyProof.Rows.boot_int (pa_cons (pe_op op_pow (pe_op op_add (pv 5) (pe_op op_mul pe_int (pv 3))) pe_int) pa_nil)) pe_int) pe_int) pa_nil)) (pv 1))))))))), ?_⟩
    -- the while
    refine ⟨fun σ' H' => σ' = [some (.ref st), some (.int n), none, none, none, none] ∧ ∃ large' left', StD H' st lg cl large' cells left' turn ∧ Kp st lg H H', ?_, ?_⟩
    · refine ⟨fun μ σ' H' => σ' = [some (.ref st), some (.int n), none, none, none, none] ∧ ∃ large' left', large'.length = μ ∧ StD H' st lg cl large' cells left' turn ∧ Kp st lg H H',
        ⟨large.length, rfl, large, left, rfl, S, Kp.refl⟩, ?_⟩
      rintro μ σ' H1 ⟨rfl, large', left', hμ, S1, kp1⟩
      refine ⟨_, rfl, st, _, rfl, (show DGet H1 st (kV kLeft) _ from st_left ▸ DGet.k S1.d), rfl, _, rfl, ?_⟩
      by_cases c1 : left' = 0
      · subst c1
        refine iteT ⟨_, rfl, st, _, rfl, (show DGet H1 st (kV kLarge) _ from st_large ▸ DGet.k S1.d), by decide, fun p hp => ?_⟩
        have S2 := S1.same (Same.new (o := .lst []) hp)
        have kp2 := kp1.trans (Kp.same (Same.new (o := .lst []) hp))
        refine ⟨_, _, dp_int_list S2.l, dp_nil upd_same, shaped_is _, shaped_nil, _, rfl, ?_⟩
        rw [eqv_ints_nil]
        cases large' with
        | nil => exact iteF ⟨rfl, [], 0, S2, kp2⟩
        | cons x rest =>
          refine iteT ⟨fun σ' H' => σ' = [some (.ref st), some (.int n), none, none, none, none] ∧ ∃ large' left', large'.length = rest.length ∧ StD H' st lg cl large' cells left' turn ∧ Kp st lg H H',
            fun σ' H' ⟨e, l', lf, e2, r⟩ => ⟨rest.length, by rw [← hμ]; exact Nat.lt_succ_self _, e, l', lf, e2, r⟩, ?_⟩
          refine ⟨_, rfl, st, .ref lg, rfl, (show DGet _ st (kV kLarge) _ from st_large ▸ DGet.k S2.d), .inl ⟨rfl, _, SqL.of S2.l⟩, lg, _, 0, 0, .int x, rfl, rfl, S2.l, by decide, by decide, by simp [seqIndex?], rfl, ?_⟩
          have S3 : StD (upd (upd H1 p (.lst [])) lg (.lst (rest.map V.int))) st lg cl rest cells 0 turn :=
            { d := (upd_ne S2.st_lg).trans S2.d, l := upd_same, c := (upd_ne S2.ne.symm).trans S2.c, ne := S2.ne, pl := fun y hy => S2.pl y (List.mem_cons_of_mem _ hy), p0 := S2.p0 }
          have hx : 0 ≤ x := S2.pl x List.mem_cons_self
          refine ⟨_, rfl, st, _, rfl, (show DPut _ st (kV kLeft) _ _ from DPut.k S3.d (by show 4 < sizeLine; decide)), ?_⟩
          rw [st_put_left]
          exact ⟨rfl, rest, x, rfl, S3.put hx, (kp2.trans Kp.put2).trans Kp.put⟩
      · rw [show decide (V.int left' = V.int 0) = false from decide_eq_false fun z => c1 (V.int.inj z)]
        exact iteF ⟨rfl, large', left', S1, kp1⟩
    · rintro σ' H1 ⟨rfl, large', left', S1, kp1⟩
      refine ⟨_, rfl, st, _, rfl, (show DGet H1 st (kV kLeft) _ from st_left ▸ DGet.k S1.d), _, _, rfl, rfl, _, rfl, ?_⟩
      by_cases c1 : 0 < left'
      · rw [show decide ((0 : Int) < left') = true from decide_eq_true c1]
        refine iteT ⟨_, rfl, st, _, rfl, (show DGet H1 st (kV kLeft) _ from st_left ▸ DGet.k S1.d), .inl ⟨_, rfl, _, rfl, _, _, rfl, rfl, (by show (0 : Int) < (n : Int); omega), ?_⟩⟩
        refine ⟨_, rfl, st, _, rfl, (show DGet H1 st (kV kLeft) _ from st_left ▸ DGet.k S1.d), _, rfl, _, _, rfl, rfl, draw_div hn hn2, _, rfl, st, _, rfl, (show DPut _ st (kV kLeft) _ _ from DPut.k S1.d (by show 4 < sizeLine; decide)), ?_⟩
        rw [st_put_left]
        have hr0 := Int.emod_nonneg left' (show (n : Int) ≠ 0 by omega)
        have hr1 := Int.emod_lt_of_pos left' (show (0 : Int) < n by omega)
        have S3 := S1.put (t := turn) (l := left' / (n : Int)) (Int.ediv_nonneg (by omega) (by omega))
        exact ⟨_, rfl, q_int (k (left' % (n : Int)).toNat _ (by omega) ⟨_, _, _, _, S3, by omega⟩ (kp1.trans Kp.put)) (by omega)⟩
      · rw [show decide ((0 : Int) < left') = false from decide_eq_false c1]
        refine iteF ⟨_, rfl, st, _, rfl, (show DGet H1 st (kV kTurn) _ from st_turn ▸ DGet.k S1.d), _, _, rfl, rfl, _, rfl, _, rfl, st, _, rfl, (show DPut _ st (kV kTurn) _ _ from DPut.k S1.d (by show 4 < sizeLine; decide)), ?_⟩
        rw [st_put_turn]
        have S2 : StD (upd H1 st (.dK (stKv lg cl left' ((turn + 1 : Nat) : Int)))) st lg cl large' cells left' (turn + 1) := S1.put S1.p0
        have kp2 : Kp st lg H (upd H1 st (.dK (stKv lg cl left' ((turn + 1 : Nat) : Int)))) := kp1.trans Kp.put
        have e1 : ((turn : Int) + 1) = ((turn + 1 : Nat) : Int) := by omega
        rw [e1]
        generalize upd H1 st (.dK (stKv lg cl left' ((turn + 1 : Nat) : Int))) = H2 at S2 kp2 ⊢
        refine ⟨fun σ' H' => ∃ c : Int, σ' = [some (.ref st), some (.int n), none, some (.int ((turn + 1 : Nat) : Int)), some (.int c), none] ∧ StD H' st lg cl large' cells left' (turn + 1) ∧ Kp st lg H H', ?_, ?_⟩
        · refine ⟨_, rfl, st, .ref cl, rfl, (show DGet H2 st (kV kCells) _ from st_cells ▸ DGet.k S2.d), by decide, fun p hp => ?_⟩
          have S3 := S2.same (Same.new (o := .lst []) hp)
          have kp3 := kp2.trans (Kp.same (Same.new (o := .lst []) hp))
          refine ⟨_, _, dp_int_list S3.c, dp_nil upd_same, shaped_is _, shaped_nil, _, rfl, ?_⟩
          rw [eqv_ints_nil]
          generalize upd H2 p (.lst []) = H3 at S3 kp3 ⊢
          cases cells with
          | nil => exact iteF ⟨0, rfl, S3, kp3⟩
          | cons y ys =>
            refine iteT ⟨_, rfl, st, .ref cl, rfl, (show DGet H3 st (kV kCells) _ from st_cells ▸ DGet.k S3.d), _, rfl, .inl ⟨_, rfl, _, rfl, st, .ref cl, rfl, (show DGet H3 st (kV kCells) _ from st_cells ▸ DGet.k S3.d), cl, _, rfl, .inl (SqL.of S3.c), _, _, rfl, rfl, ?_, ?_⟩⟩
            · show (0 : Int) < ((((y :: ys).map V.int).length : Nat) : Int)
              simp
            · have hlen : ((y :: ys).map V.int).length = (y :: ys).length := List.length_map _
              have hz : (turn + 1) % (y :: ys).length < (y :: ys).length := Nat.mod_lt _ (by simp)
              obtain ⟨c, hc⟩ : ∃ c, (y :: ys)[(turn + 1) % (y :: ys).length]? = some c := ⟨_, List.getElem?_eq_getElem hz⟩
              refine ⟨cl, _, _, .int c, rfl, rfl, SqL.of S3.c, ?_, c, rfl, S3, kp3⟩
              rw [hlen, show (((turn : Int) + 1) % (((y :: ys).length : Nat) : Int)) = (((turn + 1) % (y :: ys).length : Nat) : Int) from rfl]
              exact atI_nat (by rw [List.getElem?_map, hc]; rfl)
        · rintro σ' H3 ⟨c, rfl, S3, kp3⟩
          have h1 := Int.emod_nonneg c (show (2147483563 : Int) ≠ 0 by decide)
          have h2 := Int.emod_lt_of_pos c (show (0 : Int) < 2147483563 by decide)
          refine ⟨_, rfl, .inl ⟨_, rfl, _, _, rfl, rfl, (by show (0 : Int) < 2147483563; decide), _, rfl, _, _, rfl, rfl, .inl ⟨by decide, by decide⟩, _, _, rfl, rfl, _, _, rfl, rfl, _, _, rfl, rfl, ⟨by decide, by decide, ?_⟩, .inl ⟨_, rfl, _, _, rfl, rfl, (by show (0 : Int) < 2147483629; decide), ?_⟩⟩⟩
          · generalize c % 2147483563 = c' at h1 h2 ⊢
            omega
          generalize (c % 2147483563 + 40692 * ((turn + 1 : Nat) : Int) + 24681) ^ (3 : Int).toNat = z
          have h3 := Int.emod_nonneg z (show (2147483629 : Int) ≠ 0 by decide)
          have h4 := Int.emod_lt_of_pos z (show (0 : Int) < 2147483629 by decide)
          dsimp only
          generalize z % 2147483629 = y at h3 h4 ⊢
          refine ⟨_, rfl, _, rfl, _, _, rfl, rfl, .inl ⟨by decide, by decide⟩, _, _, rfl, rfl, _, _, rfl, rfl, ⟨by decide, by decide, by omega⟩, .inl ⟨_, rfl, _, _, rfl, rfl, (by show (0 : Int) < 2147483579; decide), _, _, rfl, rfl, ⟨by decide, by decide⟩, .inl ⟨_, rfl, _, rfl, _, _, rfl, rfl, (by show (0 : Int) < (n : Int); omega), ?_⟩⟩⟩
          generalize (y + 104917 * ((turn + 1 : Nat) : Int)) ^ (5 : Int).toNat % 2147483579 / 29 = x
          have h5 := Int.emod_nonneg x (show (n : Int) ≠ 0 by omega)
          have h6 := Int.emod_lt_of_pos x (show (0 : Int) < n by omega)
          exact q_int (k (x % (n : Int)).toNat _ (by omega) ⟨_, _, _, _, S3, by omega⟩ kp3) (by omega)
end
end K45
namespace K45
open PySem PySem.Spec PyProof.Rows L2 PySem.W LamX KA
open Evl (pss_cut tCut)
def spPick : Sp := fun vs H Q _ => ∃ (st lg cl a : Addr) (xs : List V) (m : Nat), vs = [.ref st, .ref a] ∧ H a = some (.lst xs) ∧ a ≠ lg ∧ 0 < xs.length ∧ xs.length ≤ 1000 ∧ m ≤ 1000000 ∧ StAt H st lg cl m ∧
  ∀ (x : V) (H' : Hp), x ∈ xs → StAt H' st lg cl (m + 1) → Kp st lg H H' → Q x H'
section
variable {P : Program} {w : World} {K : PySem.W.Frag} {mg : Str → Option Value} {base : Heap} (T : Top K mg)
theorem ok_pick : FnOk P w K mg base (L2.CX P w) 2 T._law_pick.a T._law_pick.d ["state", "several"] spPick := by
  refine T._law_pick.f.okX sc__law_pick (fun vs H Q E h => ?_) (fun cdv A outer s H vs Q E hr h => ?_)
  · obtain ⟨st, lg, cl, a, xs, m, rfl, _⟩ := h
    rfl
  · obtain ⟨st, lg, cl, a, xs, m, rfl, ha, hal, h0, h1, hm, S, k⟩ := h
    have has : a ≠ st := by
      obtain ⟨_, _, _, _, S', _⟩ := S
      exact ne_of ha S'.d (by intro z; cases z)
    refine ⟨_, pss_one (ps_ret (pe_ix ix_list (pv 1) (pe_call (ok_draw T) hr (by rfl) T._law_draw.m T._law_draw.f.kp (bd__law_draw T) .nil passE (pa_cons (pv 0) (pa_cons (pe_callB call_len_seq (by rfl) T.b_len PySem.boot_len (pa_cons (pv 1) pa_nil)) pa_nil))) (fun _ _ => rfl))), ?_⟩
    refine ⟨_, rfl, _, rfl, _, rfl, a, xs, rfl, .inl (SqL.of ha), st, lg, cl, xs.length, m, rfl, h0, ?_, hm, S, fun r H' hr' S' kp => ?_⟩
    · exact Nat.lt_of_le_of_lt h1 (by decide)
    · obtain ⟨x, hx⟩ : ∃ x, xs[r]? = some x := ⟨_, List.getElem?_eq_getElem hr'⟩
      exact ⟨a, xs, _, x, rfl, rfl, SqL.of (kp a _ ha has hal), atI_nat hx, k x H' (List.mem_of_getElem? hx) S' kp⟩
def spBegun (K : PySem.W.Frag) : Sp := fun vs H Q _ => ∃ (a : Addr) (ns : List Int), vs = [.ref a] ∧ SqL K H a (ns.map V.int) ∧ ns.length ≤ 63 ∧
  ∀ (st lg cl : Addr) (H' : Hp), StAt H' st lg cl 0 → Same H H' → H st = none → H lg = none → Q (.ref st) H'
theorem ok_begun : FnOk P w K mg base (L2.CX P w) 1 T._law_begun.a T._law_begun.d ["script"] (spBegun K) := by
  refine T._law_begun.f.okX sc__law_begun (fun vs H Q E h => ?_) (fun cdv A outer s H vs Q E hr h => ?_)
  · obtain ⟨a, ns, rfl, _⟩ := h
    rfl
  · obtain ⟨a, ns, rfl, hS, hl, k⟩ := h
    refine ⟨_, pss_cons (ps_setLc (i := 1) (own := [("cell", 3)]) (g := gName 3) (tt := tYes) rfl sc__law_begun.nd rfl rfl (sw_true rfl rfl rfl (by decide +kernel)) (pi_list (pv 0)) (blkOk_by (own := [("cell", 3)]) (N := ["script", "cells_here", "large", "cell"]) (sc := defScope s__law_begun) (by decide +kernel))
        (fun _ _ _ _ _ => pg_name (i := 3) sc__law_begun.nd rfl (Or.inl rfl)) (fun _ _ _ _ _ => pts_nil) (fun _ _ _ _ _ => pe_callB call_abs (by rfl) T.b_abs (by decide +kernel) (pa_cons (pv 3) pa_nil)))
      (pss_cons (ps_setLc (i := 2) (own := [("cell", 3)]) (g := gName 3) rfl sc__law_begun.nd rfl rfl (sw_true rfl rfl rfl (by decide +kernel)) (pi_list (pv 1)) (blkOk_by (own := [("cell", 3)]) (N := ["script", "cells_here", "large", "cell"]) (sc := defScope s__law_begun) (by decide +kernel))
        (fun _ _ _ _ _ => pg_name (i := 3) sc__law_begun.nd rfl (Or.inl rfl)) (fun _ _ _ _ _ => pts_one (pt_cmpR op_ge (pv 3) (pe_op op_pow pe_int pe_int) (nomark _))) (fun _ _ _ _ _ => pe_op op_sub (pv 3) (pe_op op_pow pe_int pe_int)))
      (pss_one (ps_ret (pe_disp (pps_cons pe_str (pv 2) (pps_cons pe_str (pv 1) (pps_cons pe_str pe_int (pps_cons pe_str pe_int pps_nil)))) (by rfl) (by rfl) (fun z => by cases z) (by decide))))), ?_⟩
    refine ⟨_, rfl, a, rfl, ⟨_, hS⟩, fun cl hcl => lc_list (K := K) (a := a) (xs := ns.map V.int) (fun i H' => H' cl = some (.lst ((ns.take i).map fun n => V.int (if n < 0 then -n else n))) ∧ Same H H') ⟨upd_same, Same.new hcl⟩ (fun i H' _ h => h.2.seq hS) ?_ ?_⟩
    · rintro i x H' hx ⟨h1, h2⟩
      obtain ⟨n, hn, rfl⟩ : ∃ n, ns[i]? = some n ∧ x = V.int n := by
        rw [List.getElem?_map] at hx
        cases e : ns[i]? with
        | none => rw [e] at hx; cases hx
        | some n => rw [e] at hx; exact ⟨n, rfl, (Option.some.inj hx).symm⟩
      refine ⟨rfl, ?_⟩
      dsimp only [tYes]
      rw [if_pos rfl]
      refine ⟨_, rfl, n, rfl, _, h1, ?_, ?_, ?_⟩
      · rw [List.length_map, List.length_take]
        exact Nat.lt_of_le_of_lt (Nat.min_le_right _ _) (Nat.lt_of_le_of_lt hl (by decide))
      · rw [upd_same, take_map_snoc _ _ _ _ hn]
      · intro b o e
        rw [upd_ne (ne_of_none e hcl)]
        exact h2 b o e
    rintro H1 ⟨h1, h2⟩
    rw [List.length_map, List.take_length] at h1
    have h1 : H1 cl = some (.lst ((ns.map fun n => if n < 0 then -n else n).map V.int)) := by rw [h1, List.map_map]; rfl
    have hlc : (ns.map fun n => if n < 0 then -n else n).length ≤ 63 := by rw [List.length_map]; exact hl
    generalize (ns.map fun n => if n < 0 then -n else n) = cells at h1 hlc
    refine ⟨_, rfl, cl, rfl, ⟨_, SqL.of h1⟩, fun lg hlg => lc_list (K := K) (a := cl) (xs := cells.map V.int) (fun i H' => H' lg = some (.lst ((((cells.take i).filter fun c => decide ((1000000000000000000 : Int) ≤ c)).map fun c => c - 1000000000000000000).map V.int)) ∧ Same H1 H') ⟨upd_same, Same.new hlg⟩ (fun i H' _ h => h.2.seq (SqL.of h1)) ?_ ?_⟩
    · rintro i x H' hx ⟨h3, h4⟩
      obtain ⟨n, hn, rfl⟩ : ∃ n, cells[i]? = some n ∧ x = V.int n := by
        rw [List.getElem?_map] at hx
        cases e : cells[i]? with
        | none => rw [e] at hx; cases hx
        | some n => rw [e] at hx; exact ⟨n, rfl, (Option.some.inj hx).symm⟩
      have et : cells.take (i + 1) = cells.take i ++ [n] := by rw [List.take_add_one, hn]; rfl
      refine ⟨rfl, _, rfl, _, _, rfl, rfl, ⟨by decide, by decide, by decide⟩, _, _, rfl, rfl, _, rfl, ?_⟩
      rw [show ((10 : Int) ^ (18 : Int).toNat) = 1000000000000000000 by decide, et, List.filter_append]
      by_cases c : (1000000000000000000 : Int) ≤ n
      · rw [show decide ((1000000000000000000 : Int) ≤ n) = true from decide_eq_true c]
        dsimp only
        rw [if_pos rfl]
        refine ⟨_, rfl, _, _, rfl, rfl, ⟨by decide, by decide, by decide⟩, _, _, rfl, rfl, _, h3, ?_, ?_, ?_⟩
        · rw [List.length_map, List.length_map]
          refine Nat.lt_of_le_of_lt (Nat.le_trans (List.length_filter_le _ _) ?_) (show 63 < sizeLine by decide)
          rw [List.length_take]
          omega
        · rw [upd_same]
          simp [c]
        · intro b o e
          rw [upd_ne (ne_of_none e hlg)]
          exact h4 b o e
      · rw [show decide ((1000000000000000000 : Int) ≤ n) = false from decide_eq_false c]
        dsimp only
        rw [if_neg Bool.false_ne_true]
        refine ⟨?_, h4⟩
        simpa [c] using h3
    rintro H2 ⟨h3, h4⟩
    intro st hst
    refine ⟨_, rfl, _, rfl, upd_same, stKv lg cl 0 0, rfl, (by show 4 ≤ 15; decide), ?_⟩
    rw [st_merge]
    have hne : cl ≠ lg := ne_of_none h1 hlg
    have h5 := h4 cl _ h1
    rw [List.length_map, List.take_length] at h3
    have hp : ∀ x ∈ (cells.filter fun c => decide ((1000000000000000000 : Int) ≤ c)).map (fun c => c - 1000000000000000000), 0 ≤ x := by
      intro x hx
      obtain ⟨c, hc, rfl⟩ := List.mem_map.mp hx
      have := (List.mem_filter.mp hc).2
      simp at this
      omega
    generalize (cells.filter fun c => decide ((1000000000000000000 : Int) ≤ c)).map (fun c => c - 1000000000000000000) = large at h3 hp
    have n1 : lg ≠ st := ne_of_none h3 hst
    have n2 : cl ≠ st := ne_of_none h5 hst
    have same : Same H (upd (upd H2 st (.dK [])) st (.dK (stKv lg cl 0 0))) := fun b o e => by
      have e2 := h4 b o (h2 b o e)
      rw [upd_upd, upd_ne (ne_of_none e2 hst)]
      exact e2
    refine k st lg cl _ ⟨large, cells, 0, 0, ⟨upd_same, ?_, ?_, hne.symm, hp, Int.le_refl _⟩, Nat.le_refl _⟩ same ((h2.trans h4).free hst) (h2.free hlg)
    · rw [upd_upd, upd_ne n1]
      exact h3
    · rw [upd_upd, upd_ne n2]
      exact h5
end
end K45
namespace KT
open PySem PySem.Spec PyProof.Rows L2 PySem.W LamX KA KW
/-! ### min(t), max(t) of a tuple of ints; t[::-1]; t * n, n from 1 on -/
theorem alike_ints (ns : List Int) : AlikeAll (ns.map PyData.int) := by
  refine ⟨fun x hx y hy => ?_, fun x hx => ?_⟩
  · obtain ⟨i, _, rfl⟩ := List.mem_map.mp hx
    obtain ⟨j, _, rfl⟩ := List.mem_map.mp hy
    simp [alike]
  · obtain ⟨i, _, rfl⟩ := List.mem_map.mp hx
    exact fun z => by cases z
theorem dp_ints {K : PySem.W.Frag} {H : Hp} : ∀ ns : List Int, DpAll K H (ns.map V.int) (ns.map PyData.int)
  | [] => .nil
  | i :: ns => .cons (.int i) (dp_ints ns)
theorem depth_ints : ∀ ns : List Int, PyData.depthAll (ns.map PyData.int) ≤ 1
  | [] => by simp [PyData.depthAll]
  | i :: ns => by
    have := depth_ints ns
    simp only [List.map_cons, PyData.depthAll, PyData.depth]
    omega
theorem reads_int {h : Heap} {v : Value} {i : Int} {as : List Addr} (r : Reads h v (.int i) as) : ∃ t, v = .int i t := by
  cases r
  exact ⟨_, rfl⟩
theorem foldl_min_mem (n : Int) : ∀ ns : List Int, ns.foldl min n ∈ n :: ns := by
  intro ns
  induction ns generalizing n with
  | nil => simp
  | cons k r ih =>
    rw [List.foldl_cons]
    rcases List.mem_cons.mp (ih (min n k)) with e | e
    · rw [e]
      rcases Int.le_total n k with h | h
      · rw [Int.min_eq_left h]; exact List.mem_cons_self
      · rw [Int.min_eq_right h]; exact List.mem_cons_of_mem _ List.mem_cons_self
    · exact List.mem_cons_of_mem _ (List.mem_cons_of_mem _ e)
theorem foldl_min_le (n : Int) : ∀ (ns : List Int) (y : Int), y ∈ n :: ns → ns.foldl min n ≤ y := by
  intro ns
  induction ns generalizing n with
  | nil => intro y hy; simp at hy; subst hy; exact Int.le_refl _
  | cons k r ih =>
    intro y hy
    rw [List.foldl_cons]
    have h0 := ih (min n k) (min n k) List.mem_cons_self
    rcases List.mem_cons.mp hy with e | e
    · subst e; omega
    · rcases List.mem_cons.mp e with e | e
      · subst e; omega
      · exact ih (min n k) y (List.mem_cons_of_mem _ e)
theorem foldl_max_mem (n : Int) : ∀ ns : List Int, ns.foldl max n ∈ n :: ns := by
  intro ns
  induction ns generalizing n with
  | nil => simp
  | cons k r ih =>
    rw [List.foldl_cons]
    rcases List.mem_cons.mp (ih (max n k)) with e | e
    · rw [e]
      rcases Int.le_total n k with h | h
      · rw [Int.max_eq_right h]; exact List.mem_cons_of_mem _ List.mem_cons_self
      · rw [Int.max_eq_left h]; exact List.mem_cons_self
    · exact List.mem_cons_of_mem _ (List.mem_cons_of_mem _ e)
theorem foldl_max_ge (n : Int) : ∀ (ns : List Int) (y : Int), y ∈ n :: ns → y ≤ ns.foldl max n := by
  intro ns
  induction ns generalizing n with
  | nil => intro y hy; simp at hy; subst hy; exact Int.le_refl _
  | cons k r ih =>
    intro y hy
    rw [List.foldl_cons]
    have h0 := ih (max n k) (max n k) List.mem_cons_self
    rcases List.mem_cons.mp hy with e | e
    · subst e; omega
    · rcases List.mem_cons.mp e with e | e
      · subst e; omega
      · exact ih (max n k) y (List.mem_cons_of_mem _ e)
def rMinT (K : PySem.W.Frag) : List V → Hp → VK → Prop := fun vs H Q => ∃ (a : Addr) (ns : List Int), vs = [V.ref a] ∧ SqT K H a (ns.map V.int) ∧ 0 < ns.length ∧ ∀ m, m ∈ ns → (∀ y, y ∈ ns → m ≤ y) → Q (.int m) H
def rMaxT (K : PySem.W.Frag) : List V → Hp → VK → Prop := fun vs H Q => ∃ (a : Addr) (ns : List Int), vs = [V.ref a] ∧ SqT K H a (ns.map V.int) ∧ 0 < ns.length ∧ ∀ m, m ∈ ns → (∀ y, y ∈ ns → y ≤ m) → Q (.int m) H
section
variable {X : Cx}
theorem cr_minT (hc : X.calm = true) (hu : X.A.units + 2 < cLine) : CallR X (.builtin "min") (rMinT X.K) := by
  intro pins s σ H vs us Q I r h
  obtain ⟨a, ns, rfl, hs, hne, q⟩ := h
  obtain ⟨its, rv, hl, _⟩ := I.tuple hs
  rw [Vals.ref1 r]
  cases ns with
  | nil => cases hne
  | cons n ns =>
    obtain ⟨as, hr⟩ := Dp.readsAll I _ _ its (dp_ints (n :: ns)) rv
    refine min_tuple_data (x := .int n) (xs := ns.map .int) (I.ok.hd hc) hl hr (alike_ints (n :: ns)) ?_ fun i v h' tk bs _ rd hk => ?_
    · have := depth_ints (n :: ns)
      rw [List.map_cons] at this
      omega
    · rw [minD_ints] at rd
      obtain ⟨t, rfl⟩ := reads_int rd
      exact ⟨.int _, H, I.kept hk, ⟨_, rfl⟩, q _ (foldl_min_mem n ns) (foldl_min_le n ns)⟩
theorem cr_maxT (hc : X.calm = true) (hu : X.A.units + 2 < cLine) : CallR X (.builtin "max") (rMaxT X.K) := by
  intro pins s σ H vs us Q I r h
  obtain ⟨a, ns, rfl, hs, hne, q⟩ := h
  obtain ⟨its, rv, hl, _⟩ := I.tuple hs
  rw [Vals.ref1 r]
  cases ns with
  | nil => cases hne
  | cons n ns =>
    obtain ⟨as, hr⟩ := Dp.readsAll I _ _ its (dp_ints (n :: ns)) rv
    refine max_tuple_data (x := .int n) (xs := ns.map .int) (I.ok.hd hc) hl hr (alike_ints (n :: ns)) ?_ fun i v h' tk bs _ rd hk => ?_
    · have := depth_ints (n :: ns)
      rw [List.map_cons] at this
      omega
    · rw [maxD_ints] at rd
      obtain ⟨t, rfl⟩ := reads_int rd
      exact ⟨.int _, H, I.kept hk, ⟨_, rfl⟩, q _ (foldl_max_mem n ns) (foldl_max_ge n ns)⟩
/-- one call name, either a list or a tuple -/
def rOrC (r r' : List V → Hp → VK → Prop) : List V → Hp → VK → Prop := fun vs H Q => r vs H Q ∨ r' vs H Q
theorem cr_or {f : Value} {r r' : List V → Hp → VK → Prop} (h : CallR X f r) (h' : CallR X f r') : CallR X f (rOrC r r') := fun pins s σ H vs us Q I rv q => q.elim (h pins s σ H vs us Q I rv) (h' pins s σ H vs us Q I rv)
end
section
variable {prog : Program} {w : World} {A : Around} {E : Value → Shared → Prop} {s : Shared}
theorem adjust_rev (n : Nat) : Builtin.Slice.sliceAdjust none none (-1) (n : Int) = ((n : Int) - 1, -1) := rfl
theorem places_rev (n : Nat) : Builtin.Slice.slicePlaces ((n : Int) - 1) (-1) (-1) = n := by
  unfold Builtin.Slice.slicePlaces
  have h1 : ¬ ((-1 : Int) > 0) := by omega
  have h2 : (- -1 : Int) = 1 := by decide
  simp only [h1, if_false, h2, Int.ediv_one]
  split <;> omega
theorem sliceApplied_rev {sl : Addr} {vl vu vs : Value} {n : Nat} {Q : Int × Int × Nat → Shared → Prop} (hs : s.heap.IsSliceOf sl vl vu vs) (pl : IsPart vl none) (pu : IsPart vu none) (ps : IsPart vs (some (-1)))
    (h : Q ((n : Int) - 1, -1, n) s) : wpAny (model prog w) A (Builtin.Slice.sliceApplied (.ref sl) (pure (n : Int))) Q E s := by
  obtain ⟨os, hos, hcs, hds⟩ := id hs
  unfold Builtin.Slice.sliceApplied Builtin.Slice.sliceFields
  refine wpAny_bind (wpAny_bind (wpAny_field hos hds (x := vl) rfl (wpAny_bind (wpAny_field hos hds (x := vu) rfl (wpAny_bind (wpAny_field hos hds (x := vs) rfl (wpAny_pure ?_)))))))
  refine wpAny_bind (HT.slicePart_ ps ?_)
  show wpAny _ _ (if ((-1 : Int) == 0) = true then _ else _) _ _ s
  rw [if_neg (by decide)]
  refine wpAny_bind (HT.slicePart_ pl (wpAny_bind (HT.slicePart_ pu (wpAny_bind (wpAny_pure ?_)))))
  show wpAny _ _ (match Builtin.Slice.sliceAdjust none none (-1) (n : Int) with | (lo, hi) => pure (lo, (-1 : Int), Builtin.Slice.slicePlaces lo hi (-1))) _ _ s
  rw [adjust_rev n]
  show wpAny _ _ (pure ((n : Int) - 1, (-1 : Int), Builtin.Slice.slicePlaces ((n : Int) - 1) (-1) (-1))) _ _ s
  rw [places_rev]
  exact wpAny_pure h
theorem fm_congr {α β : Type} {f g : α → Option β} : ∀ {l : List α}, (∀ x, x ∈ l → f x = g x) → l.filterMap f = l.filterMap g
  | [], _ => rfl
  | x :: l, h => by
    have ih := fm_congr (l := l) fun y hy => h y (List.mem_cons_of_mem _ hy)
    rw [List.filterMap_cons, List.filterMap_cons, h x List.mem_cons_self, ih]
theorem pick_rev (xs : Array Value) : ((List.range xs.size).filterMap fun (m : Nat) => xs[(((xs.size : Int) - 1) + (m : Int) * (-1)).toNat]?).toArray = xs.toList.reverse.toArray := by
  have h := krv_pick xs
  unfold slicePick at h
  rw [krv_bounds] at h
  rw [← h]
  show _ = ((sliceRange ((xs.size : Int) - 1) (-1) (-1)).filterMap (xs[·]?)).toArray
  rw [krv_sliceRange, List.filterMap_map]
  congr 1
  apply fm_congr
  intro m hm
  have := List.mem_range.mp hm
  have e : (((xs.size : Int) - 1) + (m : Int) * (-1)).toNat = xs.size - 1 - m := by omega
  show xs[(((xs.size : Int) - 1) + (m : Int) * (-1)).toNat]? = xs[xs.size - 1 - m]?
  rw [e]
theorem getItem_tuple_rev {t sl : Addr} {items : Array Value} {vl vu vs : Value} {Q : Value → Shared → Prop} (ht : IsTup s.heap t items) (hs : s.heap.IsSliceOf sl vl vu vs) (pl : IsPart vl none) (pu : IsPart vu none) (ps : IsPart vs (some (-1)))
    (h : Q (.ref s.heap.objs.size) { s with heap := s.heap.push { cls := .type "tuple", data := .seq items.toList.reverse.toArray } })
    (hsz : items.size ≤ sizeLine) : wpAny (model prog w) A (getItem (.ref t) (.ref sl)) Q E s := by
  have htake : sizeOk (.seq items.toList.reverse.toArray) := by
    show items.toList.reverse.toArray.size ≤ sizeLine
    rw [List.size_toArray, List.length_reverse, Array.length_toList]
    exact hsz
  obtain ⟨os, hos, hcs, hds⟩ := id hs
  have hTs : s.TypeIs (.ref sl) "slice" := ⟨os, hos, hcs⟩
  unfold getItem
  try with_reducible refine wpAny_holding ?_
  first | refine wpAny_bind (wpAny_pure ?_) | skip
  refine wpAny_bind (wpAny_sequenceKey ht.typeIs (by decide) ?_)
  refine wpAny_bind (wpAny_callSpecial?_slot (name := Str.ofString "__getitem__") ht.typeIs PyProof.Rows.slot_tuple_getitem
    (wpAny_call_entry PyProof.Rows.slot_tuple_getitem ht.typeIs entry_tuple_getitem ?_ (args_tuple_getitem _ _)))
  show wpAny _ _ (Builtin.Tuple.tupleItemsOf (.ref t) >>= _) _ _ s
  refine wpAny_bind (tupleItemsOf_ ht ?_)
  refine wpAny_bind (wpAny_typeOf hTs ?_)
  rw [if_pos (by decide)]
  refine wpAny_bind (sliceApplied_rev hs pl pu ps ?_)
  have hno : ¬ ((((items.size : Int) - 1) == 0 && (-1 : Int) == 1 && items.size == items.size) = true) := by
    intro q
    rw [Bool.and_eq_true, Bool.and_eq_true] at q
    exact absurd q.1.2 (by decide)
  show wpAny _ _ (if (((items.size : Int) - 1) == 0 && (-1 : Int) == 1 && items.size == items.size) = true then _ else _) _ _ s
  rw [if_neg hno, pick_rev]
  first
    | exact wpAny_bind (m := Builtin.Tuple.tupleExact _) (wpAny_newObj_type (wpAny_pure ⟨_, rfl, wpAny_pure h⟩) htake)
    | exact wpAny_bind (m := Builtin.Tuple.tupleExact _) (wpAny_newObj_type (wpAny_bind (wpAny_pure (wpAny_pure ⟨_, rfl, wpAny_pure h⟩))) htake)
    | exact wpAny_bind (wpAny_bind (m := Builtin.Tuple.tupleExact _) (wpAny_newObj_type (wpAny_pure (wpAny_pure ⟨_, rfl, wpAny_pure h⟩)) htake))
    | exact wpAny_bind (wpAny_bind (m := Builtin.Tuple.tupleExact _) (wpAny_newObj_type (wpAny_pure ⟨_, rfl, wpAny_pure h⟩) htake))
end
section
variable {X : Cx}
def tRevT (K : PySem.W.Frag) (te : TE) : TE := fun σ H Q => te σ H fun x H1 => ∃ a xs, x = .ref a ∧ SqT K H1 a xs ∧ ∀ p, H1 p = none → Q (.ref p) (upd H1 p (.tup xs.reverse))
theorem pe_revT {e : Expr} {te : TE} {k : Nat} {p1 p2 p3 pos : Pos} (he : PE X e te) : PE X (.Subscript e (.Slice none none (some (.UnaryOp .USub (.Constant (.int 1) k p1) p2)) p3) pos) (tRevT X.K te) := by
  refine ⟨fun pins s σ H Q I h => ?_⟩
  refine Subscript_ (thn (he.run pins s σ H _ I h) fun v s1 ⟨x, H1, I1, r1, q1⟩ => ?_)
  obtain ⟨a, xs, ex, hx, q⟩ := q1
  subst ex
  cases r1
  have hst : PO X (some (.UnaryOp .USub (.Constant (.int 1) k p1) p2)) (tPart (tUn (rU fun i => .int (-i)) (tC (.int 1)))) := po_some (pe_un un_neg pe_int)
  refine wpAny_Slice (thn (po_none.run pins s1 σ H1 (fun o H2 => o = none ∧ H2 = H1) I1 ⟨rfl, rfl⟩) fun vl s2 ⟨l, H2, I2, pl, el, e2⟩ => ?_)
  subst el e2
  refine thn (po_none.run pins s2 σ H2 (fun o H3 => o = none ∧ H3 = H2) I2 ⟨rfl, rfl⟩) fun vu s3 ⟨u, H3, I3, pu, eu, e3⟩ => ?_
  subst eu e3
  refine thn (hst.run pins s3 σ H3 (fun o H4 => o = some (-1) ∧ H4 = H3) I3 ⟨1, rfl, -1, rfl, rfl, rfl⟩) fun vs s4 ⟨o, H4, I4, ps, eo, e4⟩ => ?_
  subst eo e4
  have I5 : Inv X pins σ H4 { s4 with heap := s4.heap.push { cls := .type "slice", data := .fields #[vl, vu, vs] } } := I4.kept (t' := s4.toks) fun b ob q => Heap.get?_push_of_some _ q
  obtain ⟨its, r, ht, hz⟩ := I5.tuple hx
  have hlen := r.length
  show wpAny (model X.prog X.w) X.A (subscriptTail e (.Slice none none (some (.UnaryOp .USub (.Constant (.int 1) k p1) p2)) p3) (.ref a) (.ref s4.heap.objs.size)) (EP X pins σ Q) X.xe { s4 with heap := s4.heap.push { cls := .type "slice", data := .fields #[vl, vu, vs] } }
  refine tail_any (ops := [.ref a, .ref s4.heap.objs.size]) ht.typeIs (PyProof.Rows.slot_tuple_getitem.lookup) ?_ (by with_unfolding_all rfl)
  refine getItem_tuple_rev ht (Heap.IsSliceOf.new _ vl vu vs) pl pu ps ?_ (by rw [List.size_toArray]; omega)
  refine ⟨.ref _, _, I5.laid (t' := s4.toks) (o := .tup xs.reverse) (fun b ob q => Heap.get?_push_of_some _ q) (Nat.le_refl _) ?_, rfl, q _ (I5.hok.fresh (Nat.le_refl _))⟩
  exact ⟨by rw [List.length_reverse]; exact hz, _, r.reverse, IsTup.new _ _⟩
end
section
theorem tuple_mul_one (l : Addr) (items : Array Value) (n : Nat) (dd : Option Addr) (sl : Array (Option Value)) (u : Tok) :
    Meets (Builtin.«tuple.__mul__» ⟨[.ref l, .int 1 u], []⟩) (fun _ R s => s.heap.get? l = some { cls := .type "tuple", dict := dd, data := .seq items n, slots := sl } ∧ R (.ok (.ret (Value.ref l))) s) :=
  .of_wp fun prog w A R s h => by
    obtain ⟨hp, g, d, tk, os⟩ := s
    obtain ⟨hl, h⟩ := h
    have f1 := AutoSeq1.idx_int
    have c0 : (decide ((1 : Int) < -(2 ^ 63)) || decide ((1 : Int) ≥ 2 ^ 63)) = false := by decide
    have c1 : (items.isEmpty || (1 : Int) == 1) = true := by
      cases items.isEmpty <;> rfl
    wp_walk using wpAny_loadPart' hl
    repeat (first
      | (refine wpAny_ite_false (decide_eq_false (by rw [c0]; exact Bool.false_ne_true)) ?_; wp_walk using wpAny_loadPart' hl)
      | (refine wpAny_ite_true (decide_eq_true c1) ?_; wp_walk using wpAny_loadPart' hl))
    exact ⟨_, rfl, h⟩
/-- t * k, k from 1 on: of 1 it is t itself -/
def rRepA (K : PySem.W.Frag) : R2 := fun x y H Q => ∃ l k xs, x = .ref l ∧ y = .int k ∧ SqT K H l xs ∧ xs ≠ [] ∧ 1 ≤ k ∧ k ≤ 1000 ∧ xs.length ≤ 1000 ∧ (k = 1 → Q (.ref l) H) ∧ (2 ≤ k → ∀ p, H p = none → Q (.ref p) (upd H p (.tup (List.replicate k.toNat xs).flatten)))
variable {X : Cx}
theorem op_repA : OpR X (binaryOp .Mult) (rRepA X.K) := by
  intro pins s σ H x y v u Q I rx ry h
  obtain ⟨l, k, xs, rfl, rfl, hT, hne, h1, h2, hz, q1, q2⟩ := h
  by_cases hk : k = 1
  · subst hk
    cases rx
    obtain ⟨t, rfl⟩ := ry
    obtain ⟨its, r, ⟨⟨cls, dd, data, sl⟩, ho, hc, n, hd⟩, hs⟩ := I.tuple hT
    simp only at hc hd
    subst hc hd
    refine wpAny_binaryOp_repeat_ref (T := "tuple") (U := "int") (by decide) ⟨_, ho, rfl⟩ (fun s' => typeIs_int s' 1 t) noFill_tuple_mul F.fills_int_mul F.slot_int_rmul repeat_tuple F.slot_int_index.lookup
      (call_meets F.slot_int_rmul (typeIs_int s 1 t) F.entry_int_rmul (F.args_int_rmul_2 _ _) (int_rmul_tuple 1 t l its.toArray n dd sl)
        ⟨ho, rfl, ⟨_, ho, rfl⟩, call_meets F.slot_tuple_mul ⟨_, ho, rfl⟩ F.entry_tuple_mul (F.args_tuple_mul_2 _ _) (tuple_mul_one l its.toArray n dd sl t) ⟨ho, ?_⟩⟩)
    exact ⟨.ref l, H, I, rfl, q1 rfl⟩
  · exact op_repT pins s σ H _ _ v u Q I rx ry ⟨l, k, xs, rfl, rfl, hT, hne, by omega, h2, hz, q2 (by omega)⟩
end
end KT
namespace KY
open PySem PySem.Spec PyProof.Rows L2 PySem.W LamX KA KW
/-! ### x == y, x != y, where x is an instance whose class writes __eq__ and no __ne__ -/
section
variable {X : Cx} {CX : CXT} {n : Nat} {C f : Addr} {fd : FuncData} {ps : List Str} {sp : Sp} {E : XK}
theorem own_call {A : Around} {pins : List (Addr × Obj)} {σ : L2.St} {H : Hp} {s : Shared} {x y : V} {v u : Value} {R : Bool → Hp → Prop} (sb : L2.Sub X n A) (F : FnOk X.prog X.w X.K X.mg X.base CX n f fd ps sp) (hb : Binds X.K fd ps []) (hx : Passes CX X E)
    (I : Inv X pins σ H s) (rx : RelV x v) (ry : RelV y u) (hsp : sp [x, y] H (fun v H' => ∃ b, v = .bl b ∧ R b H') E) :
    wpAny (model X.prog X.w) A (call (.ref f) [v, u]) (fun r s' => ∃ b, r = .bool b ∧ ∃ H', Inv X pins σ H' s' ∧ R b H') X.xe s := by
  have e0 : Env0 X.prog X.w X.K X.mg X.base A X.stack s H := by
    have e := I.env0
    exact ⟨by rw [sb.fr]; exact e.frames, e.mod, e.bs, e.bsz, e.funs, e.frf, e.hok, e.bare⟩
  have hl := F.len _ _ _ _ hsp
  have r2 : L2.Vals [x, y] [v, u] := .cons rx (.cons ry .nil)
  refine wpAny_call (codeAny_mono (F.run A X.stack s H ⟨[v, u], []⟩ [v, u] [x, y] _ E sb.room e0 (by
    have := hb s [v, u] I.kIn (by simpa using hl)
    simpa using this) r2 hsp) fun r s' hq => ?_)
  cases r with
  | error e => exact hx pins σ H s e s' I hq
  | ok fl =>
    cases fl with
    | ret w =>
      obtain ⟨z, H', I', rz, b, ez, ex⟩ := I.after hq
      subst ez
      cases rz
      exact ⟨b, rfl, H', I', ex⟩
    | next => exact False.elim hq
    | brk => exact False.elim hq
    | cont => exact False.elim hq
def rEqI (K : PySem.W.Frag) (C : Addr) (sp : Sp) (E : XK) (g : Bool → Bool) : R2 := fun x y H Q => ∃ a dx fs tb, x = .ref a ∧ H a = some (.ins C dx fs) ∧ TyX K H y tb ∧ PySem.W.notFirst K C tb = true ∧ sp [x, y] H (fun v H' => ∃ b, v = .bl b ∧ Q (.bl (g b)) H') E
theorem op_eqI (F : FnOk X.prog X.w X.K X.mg X.base CX n f fd ps sp) (hr : Room n X.A) (hs : PySem.W.findIn X.K (.ref C) "__eq__" = some (some (.ref f))) (hf : PySem.W.isFn X.K (.ref f) = true) (hb : Binds X.K fd ps []) (hx : Passes CX X E) :
    OpR X (compareOp .Eq) (rEqI X.K C sp E fun b => b) := by
  intro pins s σ H x y v u Q I rx ry h
  obtain ⟨a, dx, fs, tb, rfl, ha, ty, nf, hsp⟩ := h
  cases rx
  obtain ⟨mA, J, _⟩ := ins_get I.hok ha
  obtain ⟨od, J, _⟩ := J.look
  obtain ⟨Pk, Z, pk, _⟩ := kit_of I ry ty
  obtain ⟨m, hF⟩ := I.fr
  show wpAny (model X.prog X.w) X.A (richCompare .Eq (.ref a) u) (EP X pins σ Q) X.xe s
  refine PySem.W.cmp_K (op := .Eq) hr.units0 hF I.ok.mod.kin J (Z.ty _ _ I.kIn pk) nf hs hf ?_
  refine wpAny_mono (own_call ⟨hr, rfl⟩ F hb hx I (x := .ref a) (show L2.RelV (.ref a) (.ref a) from rfl) ry hsp) (fun r s' hq => ?_) fun _ _ e => e
  obtain ⟨b, rfl, H', I', q⟩ := hq
  exact ⟨.bl b, H', I', rfl, q⟩
section
variable {M : Model} {prog : Program} {w : World} {A : Around} {E' : Value → Shared → Prop} {s : Shared} {K : PySem.W.Frag} {x : Addr} {ox : Obj} {od : Option Obj}
theorem ifBound_objNe {args : List Value} {Q : Option Value → Shared → Prop} (X : K.In s.heap) (I : PySem.W.InstAt s.heap x ox C od) (hs : PySem.W.findIn K (.ref C) "__ne__" = some (some (.builtin "object.__ne__")))
    (h : wpAny M A (call (.builtin "object.__ne__") (.ref x :: args)) (fun v => Q (some v)) E' s) : wpAny M A (callSpecialIfBound? (.ref x) "__ne__" args) Q E' s := by
  simp only [callSpecialIfBound?, bindSpecialIfBound?]
  refine wpAny_holding (wpAny_bind (wpAny_bind (wpAny_bind (I.type.here ((PySem.W.looks_findIn X hs).here ?_)))))
  refine wpAny_bind (wpAny_askSetting (wpAny_ite ?_))
  have fin : wpAny M A (call (.builtin "object.__ne__") ([.ref x] ++ args) >>= fun v => pure (some v)) Q E' s := wpAny_bind (wpAny_mono h (fun v s' h' => wpAny_pure h') fun _ _ h' => h')
  split
  · exact wpAny_bind (wpAny_of_eq (F.cmp_object.ne.bind _) (wpAny_pure (by exact fin)))
  · exact wpAny_tryCatch (wpAny_bind (wpAny_of_eq (F.cmp_object.ne.bind _) (wpAny_pure (by exact fin))))
theorem entry_ne {y : Value} {Q : Fin → Shared → Prop} (hu : A.units < cLine) (X : K.In s.heap) (I : PySem.W.InstAt s.heap x ox C od) (hs : PySem.W.findIn K (.ref C) "__eq__" = some (some (.ref f))) (hf : PySem.W.isFn K (.ref f) = true)
    (hcall : wpAny (model prog w) A (call (.ref f) [.ref x, y]) (fun v s' => ∃ b, v = .bool b ∧ Q (.done (.ret (.bool (!b)))) s') E' s) :
    wpAny (model prog w) A (Builtin.«object.__ne__» ⟨[.ref x, y], []⟩) Q E' s := by
  unfold Builtin.«object.__ne__»
  repeat (first
    | with_reducible refine wpAny_cRoomFor hu ?_
    | (refine wpAny_bind (m := callSpecialIfBound? (.ref x) (Str.ofString "__eq__") [y])
        (PySem.W.ifBound_K X I hs hf (wpAny_mono hcall (fun r s' hr => by
          obtain ⟨b, rfl, hq⟩ := hr
          repeat (first | exact hq | exact wpAny_pure hq | exact wpAny_truthy_bool hq | (refine wpAny_bind (m := truthy (.bool _)) (wpAny_truthy_bool ?_)) | wp_step)) fun _ _ e => e)))
    | wp_step)
theorem ne_K {L : Addr} {h₀ : Heap} {m : Str → Option Value} {b tb : Value} {Q : Value → Shared → Prop} (hu : A.units + 1 < cLine) (hF : Fr h₀ L s.heap m) (X₀ : K.In h₀) (I : PySem.W.InstAt s.heap x ox C od) (hb : PySem.W.Looks (model prog w) s.heap (typeOf b) tb) (hn : PySem.W.notFirst K C tb = true)
    (hne : PySem.W.findIn K (.ref C) "__ne__" = some (some (.builtin "object.__ne__"))) (hm : PySem.W.mroIn K C (.type "object") = some true) (hs : PySem.W.findIn K (.ref C) "__eq__" = some (some (.ref f))) (hf : PySem.W.isFn K (.ref f) = true)
    (h : wpAny (model prog w) A.in1 (call (.ref f) [.ref x, b]) (fun v s' => ∃ c, v = .bool c ∧ Q (.bool (!c)) s') E' s) : wpAny (model prog w) A (richCompare .NotEq (.ref x) b) Q E' s := by
  have X := X₀.keeps hF.keep
  have one : wpAny (model prog w) A (tryCompare (.ref x) "__ne__" b) (fun r s' => ∃ v, r = some v ∧ Q v s') E' s := by
    unfold tryCompare
    refine wpAny_bind (ifBound_objNe X I hne ?_)
    refine wpAny_call (codeAny_call_builtin F.cmp_object.ne.plain F.cmpEntry_ne (PySem.W.check_slot F.cmpKind_ne F.cmpSplit_ne (I.type.andThen (PySem.W.looks_mroIn X hm)) (F.cmpArgs_ne _ _) (entry_ne (A := A.in1) (by show A.units + 1 < cLine; exact hu) X I hs hf (wpAny_mono h (fun r s' hr => ?_) fun _ _ e => e))))
    obtain ⟨c, rfl, q⟩ := hr
    refine ⟨c, rfl, ?_⟩
    first
      | exact wpAny_pure ⟨_, rfl, q⟩
      | exact ⟨_, rfl, q⟩
  unfold richCompare
  simp only [oneThing_ref]
  refine wpAny_holding (wpAny_bind (wpAny_cRoomFor (by omega) ?_))
  refine wpAny_bind (I.type.here (wpAny_bind (hb.here ?_)))
  split
  · rename_i q
    have e : subIn K tb (.ref C) = some false := by
      rcases Bool.or_eq_true_iff.mp hn with e | e
      · rw [beq_iff_eq.mp e] at q; simp at q
      · exact beq_iff_eq.mp e
    refine wpAny_bind ((looks_subIn X e).here ?_)
    simp only [Bool.false_eq_true, if_false]
    refine wpAny_bind (wpAny_mono one (fun r s' z => ?_) fun _ _ e => e)
    obtain ⟨v, rfl, hq⟩ := z
    exact wpAny_pure hq
  · refine wpAny_bind (wpAny_pure ?_)
    simp only [Bool.false_eq_true, if_false]
    refine wpAny_bind (wpAny_mono one (fun r s' z => ?_) fun _ _ e => e)
    obtain ⟨v, rfl, hq⟩ := z
    exact wpAny_pure hq
end
theorem op_neI (F : FnOk X.prog X.w X.K X.mg X.base CX n f fd ps sp) (hr : Room (n + 1) X.A) (hs : PySem.W.findIn X.K (.ref C) "__eq__" = some (some (.ref f))) (hne : PySem.W.findIn X.K (.ref C) "__ne__" = some (some (.builtin "object.__ne__"))) (hm : PySem.W.mroIn X.K C (.type "object") = some true)
    (hf : PySem.W.isFn X.K (.ref f) = true) (hb : Binds X.K fd ps []) (hx : Passes CX X E) :
    OpR X (compareOp .NotEq) (rEqI X.K C sp E fun b => !b) := by
  intro pins s σ H x y v u Q I rx ry h
  obtain ⟨a, dx, fs, tb, rfl, ha, ty, nf, hsp⟩ := h
  cases rx
  obtain ⟨mA, J, _⟩ := ins_get I.hok ha
  obtain ⟨od, J, _⟩ := J.look
  obtain ⟨Pk, Z, pk, _⟩ := kit_of I ry ty
  obtain ⟨m, hF⟩ := I.fr
  show wpAny (model X.prog X.w) X.A (richCompare .NotEq (.ref a) u) (EP X pins σ Q) X.xe s
  have hu : X.A.units + 1 < cLine := by
    have := hr.units
    omega
  refine ne_K hu hF I.ok.mod.kin J (Z.ty _ _ I.kIn pk) nf hne hm hs hf ?_
  refine wpAny_mono (own_call (L2.Sub.in1 ⟨hr, rfl⟩) F hb hx I (x := .ref a) (show L2.RelV (.ref a) (.ref a) from rfl) ry hsp) (fun r s' hq => ?_) fun _ _ e => e
  obtain ⟨b, rfl, H', I', q⟩ := hq
  exact ⟨b, rfl, .bl (!b), H', I', rfl, q⟩
end
end KY
namespace KEN
open PySem PySem.Spec PyProof.Rows L2 PySem.W PySem.AutoSeq1 RZ
/-! ### enumerate(t), t a tuple: the iterator's two cells, a turn of it -/
abbrev enO (it : Addr) : Obj := { cls := .type "enumerate", data := .fields #[.none, .bool false, .ref it, rawInt 0, .none, .none] }
abbrev tiO (l : Addr) : Obj := { cls := .type "tuple_iterator", data := .fields #[.ref l, .int 0 0] }
/-- what enumerate makes of a tuple: its iterator, and the counter behind it -/
theorem made_enum (l : Addr) (its : Array Value) : Meets (Builtin.«enumerate.__new__» ⟨[.type "enumerate", .ref l], []⟩)
    fun _ R s => s.heap.IsTuple l its ∧ R (.ok (.ret (.ref (s.heap.push (tiO l)).objs.size))) { s with heap := (s.heap.push (tiO l)).push (enO s.heap.objs.size) } :=
  .of_wp fun P w A R ⟨hp, g, d, tk, os⟩ ⟨tl, fin⟩ => by
    have up := sub_enumerate
    have it {A' : Around} {E Q : Value → Shared → Prop} (q : Q (.ref hp.objs.size) ⟨hp.push (tiO l), g, d, tk, os⟩) : wpAny (model P w) A' (pyIter (.ref l)) Q E ⟨hp, g, d, tk, os⟩ := wpAny_pyIter_tuple (s := ⟨hp, g, d, tk, os⟩) tl q
    wp_walk using it
    refine wpAny_stack_any fun _ => wpAny_pure ?_
    split
    all_goals first
      | (rename_i cl _ _ _ _ _; cases (cl == Value.type "enumerate") <;> (wp_walk using it; exact ⟨_, rfl, fin⟩))
      | (wp_walk using it; exact ⟨_, rfl, fin⟩)
/-- the state of such an iterator ahead of item i -/
structure EnSt (a e it : Addr) (i : Nat) (h : Heap) : Prop where
  en : ∃ old, IsEnum h e it (i : Int) old
  ti : h.IsTupleIter it a i
  ne : e ≠ it
section
variable {a e it : Addr} {i : Nat} {h h' : Heap}
theorem two {b x y : Addr} (m : b ∈ [x, y]) : b = x ∨ b = y := by simpa using m
theorem EnSt.keep (s : EnSt a e it i h) (k : ∀ b ∈ [e, it], ∀ o, h.get? b = some o → h'.get? b = some o) : EnSt a e it i h' :=
  ⟨s.en.imp fun _ q => k e List.mem_cons_self _ q, s.ti.at fun o q => k it (List.mem_cons_of_mem _ List.mem_cons_self) o q, s.ne⟩
theorem EnSt.cell (s : EnSt a e it i h) {b : Addr} (m : b ∈ [e, it]) : b < h.objs.size ∧ ∃ o, h.get? b = some o ∧ ∀ v, o.data ≠ .cell v := by
  rcases two m with rfl | rfl
  · obtain ⟨_, q⟩ := s.en
    exact ⟨Heap.lt_size q, _, q, fun _ z => nomatch z⟩
  · obtain ⟨o, q, _, dq⟩ := s.ti
    exact ⟨Heap.lt_size q, o, q, fun _ z => by rw [dq] at z; cases z⟩
theorem EnSt.off (s : EnSt a e it i h) {its : Array Value} (t : h.IsTuple a its) : a ≠ it ∧ a ≠ e := by
  obtain ⟨o, q, cq, _⟩ := t
  constructor <;> rintro rfl
  · obtain ⟨o2, q2, cq2, _⟩ := s.ti
    rw [q] at q2
    cases q2
    exact absurd (Value.type.inj (cq.symm.trans cq2)) (by decide)
  · obtain ⟨_, q2⟩ := s.en
    have same := q.symm.trans q2
    cases same
    exact absurd (Value.type.inj cq.symm) (by decide)
end
theorem seqT {K : PySem.W.Frag} {H H' : Hp} {a : Addr} {xs : List V} (e : Same H H') (h : SqT K H a xs) : SqT K H' a xs := h.imp (fun q => q.imp (e _ _) fun ⟨o, z⟩ => ⟨o, e _ _ z⟩) id
/-- the tuple's items in draws -/
theorem drawn {P : Program} {w : World} {A : Around} {it l : Addr} {its : Array Value} (calm : A.handled = none) (ne : l ≠ it) : Draws P w A it [it, l] its.size (fun j v => its[j]? = some v) fun j h => h.IsTupleIter it l j ∧ h.IsTuple l its := by
  constructor
  · exact fun _ _ st => st.1.imp fun _ q => q.1
  · rintro j h h' ⟨st, o, q, r⟩ k
    exact ⟨st.at fun _ z => k it List.mem_cons_self _ z, o, k l (List.mem_cons_of_mem _ List.mem_cons_self) _ q, r⟩
  · intro j s Q E lt st k
    have here : its[j]? = some its[j] := Array.getElem?_eq_getElem lt
    exact nextOf_tuple_item st.1 st.2 here fun h' st' sb => k _ h' s.toks here ⟨st', st.2.extBut sb.extBut ne⟩ sb
  · exact fun s Q E st k => nextOf_tuple_end calm st.1 st.2 (Array.getElem?_eq_none (Nat.le_refl _)) k
/-- each item of the tuple at a in a new pair behind its place -/
def ItE (K : PySem.W.Frag) (a : Addr) : It where
  go i H := ∃ xs x, SqT K H a xs ∧ xs[i]? = some x
  yld i H v H' := ∃ t x, v = .ref t ∧ H t = none ∧ H' = upd H t (.tup [.int (i : Nat), x]) ∧ ∀ xs, SqT K H a xs → xs[i]? = some x
  stop i H := ∃ xs : List V, SqT K H a xs ∧ xs.length = i
theorem turn_en {P : Program} {w : World} {K : PySem.W.Frag} {elts : List Expr} {kk : Nat} {tpos : Pos} (a e it : Addr) : Turn P w K (.Tuple elts kk tpos) (ItE K a) [e, it] e (EnSt a e it) := by
  constructor
  · exact List.mem_cons_self
  · exact fun i h st b m => (st.cell m).2
  · exact fun i h h' st k => st.keep k
  · intro X eP ew eK calm i pins s σ H E I free st ⟨xs, x, sq, at_⟩
    subst eP ew eK
    obtain ⟨vs, vals, tup, _⟩ := I.tuple sq
    have tup : s.heap.IsTuple a vs.toArray := tup
    obtain ⟨u, uat, urel⟩ := vals.get at_
    obtain ⟨o1, o2⟩ := st.off tup
    obtain ⟨old, en⟩ := st.en
    have lt : i < vs.toArray.size := by simpa using (List.getElem?_eq_some_iff.mp uat).1
    refine wpAny_pyNext_enum_itemD (drawn (its := vs.toArray) (A := X.A.in1) (I.ok.hd calm) o1) en ⟨st.ti, tup⟩ lt st.ne (fun m => (two m).elim st.ne o2.symm) fun y h1 tk yat out ti1 pair size keep => ?_
    have same : y = u := Option.some.inj (yat.symm.trans (by simpa using uat))
    subst same
    refine ⟨_, rfl, wpAny_letOwnedTupleGo_enum (s := { s with heap := h1, toks := tk + 1 }) out fun h2 en2 sb => ?_⟩
    have le := (st.cell (b := e) List.mem_cons_self).1
    have pair2 : h2.get? s.heap.objs.size = some { cls := .type "tuple", data := .seq #[.int i tk, y] } := (sb.2 _ (Nat.ne_of_gt le)).trans pair
    have obj : ObjOk X.prog X.w (upd H s.heap.objs.size (.tup [.int (i : Nat), x])) h2 s.heap.objs.size (.tup [.int (i : Nat), x]) :=
      ⟨by show 2 ≤ sizeLine; decide, _, .cons ⟨tk, rfl⟩ (.cons urel .nil), ⟨_, pair2, rfl, _, rfl⟩⟩
    refine ⟨.ref s.heap.objs.size, _, I.turnedNew (t' := tk + 1) (fun b o off q => ?_) free (Nat.le_refl _) obj, rfl, ⟨_, x, rfl, I.hok.fresh (Nat.le_refl _), rfl, fun ys sy => ?_⟩, ⟨⟨y, ?_⟩, ti1.1.at fun o q => (sb.2 it st.ne.symm).trans q, st.ne⟩, fun b m => ?_⟩
    · have ne1 : b ≠ e := fun z => off (z ▸ List.mem_cons_self)
      exact (sb.2 b ne1).trans (keep b o ne1 (fun z => off (z ▸ List.mem_cons_of_mem _ List.mem_cons_self)) q)
    · rw [I.tuple_inj sy sq]
      exact at_
    · rw [Int.natCast_succ]
      exact en2
    · rw [upd_ne (Nat.ne_of_lt (st.cell m).1)]
      exact (free b m).1
  · intro X eP ew eK calm i pins s σ H E I free st ⟨xs, sq, all⟩
    subst eP ew eK all
    obtain ⟨vs, vals, tup, _⟩ := I.tuple sq
    obtain ⟨old, en⟩ := st.en
    have tup : s.heap.IsTuple a vs.toArray := tup
    have size : vs.toArray.size = xs.length := by rw [List.size_toArray, vals.length]
    have own := free it (List.mem_cons_of_mem _ List.mem_cons_self)
    refine wpAny_pyNext_enum_endD (drawn (its := vs.toArray) (A := X.A.in1) (I.ok.hd calm) (st.off tup).1) en (by rw [size]; exact ⟨st.ti, tup⟩) fun h1 but => ⟨rfl, ?_⟩
    exact I.turned (t' := s.toks) (fun b o off q => but b o off q) own.1 own.2.1 own.2.2.2.1 own.2.2.2.2.1 own.2.2.2.2.2
  · exact fun A i s Q E st k => st.en.elim fun _ q => wpAny_pyIter_enum q k
theorem walk_en {K : PySem.W.Frag} {a : Addr} {xs : List V} : Walk (ItE K a) xs.length (fun H => SqT K H a xs) (YPair (fun i => some (.int (i : Nat))) fun i => xs[i]?) := by
  refine ⟨fun i H lt sq => ⟨xs, _, sq, List.getElem?_eq_getElem lt⟩, fun H sq => ⟨xs, sq, rfl⟩, ?_⟩
  rintro i H v H' lt sq ⟨t, x, ev, ft, eH, k⟩
  exact ⟨t, _, x, ev, ft, eH, rfl, k xs sq⟩
section
variable {X : Cx}
theorem fresh_fp {pins : List (Addr × Obj)} {σ : L2.St} {H : Hp} {s : Shared} (I : Inv X pins σ H s) {bs : List Addr} (h : ∀ b ∈ bs, s.heap.objs.size ≤ b) : ∀ b ∈ bs, FpOk X pins H b := fun b m => I.fpOk (h b m) (I.hok.fresh (h b m))
/-- for i, x in enumerate(l), l a list or a tuple -/
def iEnumS (K : PySem.W.Frag) (ta : TA) : TI := fun σ H R => ta σ H fun vs H1 => ∃ a xs, vs = [.ref a] ∧ (SqL K H1 a xs ∨ SqT K H1 a xs) ∧ ∀ (J : It) (G : Hp → Prop), Walk J xs.length G (YPair (fun i => some (.int (i : Nat))) (fun i => xs[i]?)) → (∀ H', Same H1 H' → G H') → R J H1
theorem pi_enumS {e : Expr} {ta : TA} {p pos tpos : Pos} {elts : List Expr} {kk : Nat} (hg : Gl X "enumerate") (hm : X.mg "enumerate" = none) (ha : PA X [e] ta) (hs : starEach [e] X.env = [(false, eval e X.env)] := by rfl) :
    PI X (.Tuple elts kk tpos) (.Call (.Name "enumerate" p) [e] [] pos) (iEnumS X.K ta) := by
  constructor
  intro pins s σ H R I h
  have args := thn (ha.run pos pins s σ H _ I h) (Q' := fun us s1 => wpAny (model X.prog X.w) X.A (call (.type "enumerate") us) (fun v s2 => wpAny (model X.prog X.w) X.A (pyIter v) (PIE X pins σ (.Tuple elts kk tpos) R) X.xe s2) X.xe s1) ?_
  · exact Call_ (ld_blt I hg hm boot_enumerate (PyProof.Rows.callWith_type1 args hs rfl))
  rintro us s1 ⟨vs, H1, J1, rel, a, xs, rfl, sq, k⟩
  obtain ⟨u, rfl, ru⟩ := vals1 rel
  cases ru
  have fp := fresh_fp J1 (bs := [s1.heap.objs.size + 1, s1.heap.objs.size]) fun b m => (two m).elim (fun z => Nat.le_of_lt (Nat.lt_of_lt_of_eq (Nat.lt_succ_self _) z.symm)) fun z => Nat.le_of_eq z.symm
  rcases sq with sq | sq
  · obtain ⟨vs, vals, lst, _⟩ := J1.list sq
    refine call_enumerate_list lst.isList fun h' en li size keep => wpAny_pyIter_enum en ?_
    exact ⟨_, _, _, _, H1, rfl, J1.kept (t' := s1.toks) keep, turn_enum a _ _, ⟨⟨_, en⟩, li, Nat.succ_ne_self _⟩, fp, k _ _ walk_enum fun H' s' => s'.seq sq⟩
  · obtain ⟨vs, vals, tup, _⟩ := J1.tuple sq
    refine callType_new F.called_enumerate (by decide) (F.typeCall_enumerate_1 _) (F.newCall_enumerate_1 _) (fun o => F.args_object_init_2 o _) F.entry_enumerate_new (made_enum a vs.toArray) ⟨tup, ?_⟩
    have size : (s1.heap.push (tiO a)).objs.size = s1.heap.objs.size + 1 := Heap.size_push _ _
    have en : IsEnum ((s1.heap.push (tiO a)).push (enO s1.heap.objs.size)) (s1.heap.objs.size + 1) s1.heap.objs.size 0 .none := size ▸ Heap.get?_push_size (s1.heap.push (tiO a)) (o := enO s1.heap.objs.size) rfl
    rw [size]
    refine ⟨⟨_, en, rfl⟩, wpAny_pyIter_enum en ?_⟩
    have keep : ∀ b o, s1.heap.get? b = some o → ((s1.heap.push (tiO a)).push (enO s1.heap.objs.size)).get? b = some o := fun b o q => Heap.get?_push_of_some _ (Heap.get?_push_of_some _ q)
    exact ⟨_, _, _, _, H1, rfl, J1.kept (t' := s1.toks) keep, turn_en a _ _, ⟨⟨_, en⟩, ⟨_, Heap.get?_push_of_some _ (Heap.get?_push_size _ rfl), rfl, rfl⟩, Nat.succ_ne_self _⟩, fp, k _ _ walk_en fun H' s' => seqT s' sq⟩
/-! ### for x in l, l a list or a tuple -/
def iSeqS (K : PySem.W.Frag) (tl : TE) : TI := fun σ H R => tl σ H fun x H1 => ∃ a xs, x = .ref a ∧ (SqL K H1 a xs ∨ SqT K H1 a xs) ∧ ∀ (J : It) (G : Hp → Prop), Walk J xs.length G (YAt xs) → (∀ H', Same H1 H' → G H') → R J H1
theorem pi_seqS {tg l : Expr} {tl : TE} (hl : PE X l tl) : PI X tg l (iSeqS X.K tl) := by
  constructor
  intro pins s σ H R I h
  refine thn (hl.run pins s σ H _ I h) ?_
  rintro v s1 ⟨x, H1, J1, rel, a, xs, rfl, sq, k⟩
  cases rel
  have fp := fresh_fp J1 (bs := [s1.heap.objs.size]) fun b m => Nat.le_of_eq (List.mem_singleton.mp m).symm
  have keep (o : Obj) := J1.kept (t' := s1.toks) fun b u (q : s1.heap.get? b = some u) => Heap.get?_push_of_some o q
  rcases sq with sq | sq
  · obtain ⟨vs, vals, lst, _⟩ := J1.list sq
    exact wpAny_pyIter_list lst.isList ⟨_, _, _, _, H1, rfl, keep _, turn_list a _, ⟨_, Heap.get?_push_size _ rfl, rfl, rfl⟩, fp, k _ _ walk_list fun H' s' => s'.seq sq⟩
  · obtain ⟨vs, vals, tup, _⟩ := J1.tuple sq
    have tup : s1.heap.IsTuple a vs.toArray := tup
    exact wpAny_pyIter_tuple tup ⟨_, _, _, _, H1, rfl, keep _, turn_tuple a _, ⟨_, Heap.get?_push_size _ rfl, rfl, rfl⟩, fp, k _ _ walk_tup fun H' s' => seqT s' sq⟩
end
end KEN
namespace K45
open PySem PySem.Spec PyProof.Rows L2 PySem.W LamX KA KW KU KL KT
open Evl (pss_cut tCut)
theorem Same.put {H H' : Hp} {D : Addr} {o : HO} (s : Same H H') (h : H D = none) : Same H (upd H' D o) := fun b o e => by
  rw [upd_ne (ne_of_none e h)]
  exact s b o e
theorem Kp.put3 {st lg D : Addr} {H H' : Hp} {o : HO} (k : Kp st lg H H') (hD : H D = none) : Kp st lg H (upd H' D o) := fun b u e n1 n2 => by
  rw [upd_ne (fun z => by rw [z, hD] at e; cases e)]
  exact k _ _ e n1 n2
theorem offc {H : Hp} {st lg cl p : Addr} {n : Nat} (S : StAt H st lg cl n) (hp : H p = none) : p ≠ cl := by
  obtain ⟨_, _, _, _, S', _⟩ := S
  exact (ne_of_none S'.c hp).symm
theorem stAt_put {H : Hp} {st lg cl e : Addr} {n : Nat} {ys : List V} (S : StAt H st lg cl n) (h1 : e ≠ st) (h2 : e ≠ lg) (h3 : e ≠ cl) : StAt (upd H e (.lst ys)) st lg cl n := by
  obtain ⟨a, b, c, d, s, h'⟩ := S
  exact ⟨a, b, c, d, { s with d := (upd_ne h1.symm).trans s.d, l := (upd_ne h2.symm).trans s.l, c := (upd_ne h3.symm).trans s.c }, h'⟩
/-! ### lists of new tuples, loops within loops -/
/-- tuples stay -/
def Tp (H H' : Hp) : Prop := ∀ b xs, H b = some (.tup xs) → H' b = some (.tup xs)
theorem Tp.same {H H' : Hp} (s : Same H H') : Tp H H' := fun b xs e => s _ _ e
theorem Tp.trans {H H1 H2 : Hp} (a : Tp H H1) (b : Tp H1 H2) : Tp H H2 := fun c xs e => b _ _ (a _ _ e)
theorem Tp.put {H : Hp} {D : Addr} {xs : List V} {o : HO} (h : H D = some (.lst xs)) : Tp H (upd H D o) := fun b ys e => by
  rw [upd_ne (fun z => by rw [z, h] at e; cases e)]
  exact e
theorem Tp.kp {st lg cl : Addr} {m : Nat} {H H' : Hp} (S : StAt H st lg cl m) (k : Kp st lg H H') : Tp H H' := fun b xs e => by
  obtain ⟨_, _, _, _, s, _⟩ := S
  exact k _ _ e (ne_of e s.d (by intro z; cases z)) (ne_of e s.l (by intro z; cases z))
/-- v is the tuple of these values -/
def TupAt (H : Hp) (v : V) (xs : List V) : Prop := ∃ p, v = .ref p ∧ H p = some (.tup xs)
theorem TupAt.tp {H H' : Hp} {v : V} {xs : List V} (h : TupAt H v xs) (t : Tp H H') : TupAt H' v xs := by
  obtain ⟨p, e, q⟩ := h
  exact ⟨p, e, t _ _ q⟩
/-- these are tuples, as f tells -/
def RL {α : Type} (f : α → List V) (H : Hp) (vs : List V) (as : List α) : Prop := vs.length = as.length ∧ ∀ (i : Nat) (v : V), vs[i]? = some v → ∃ a, as[i]? = some a ∧ TupAt H v (f a)
section
variable {α : Type} {f : α → List V} {H H' : Hp} {vs us : List V} {as bs : List α}
theorem RL.nil : RL f H [] [] := ⟨rfl, fun i v h => by simp at h⟩
theorem RL.tp (r : RL f H vs as) (t : Tp H H') : RL f H' vs as := ⟨r.1, fun i v h => by
  obtain ⟨a, e, q⟩ := r.2 i v h
  exact ⟨a, e, q.tp t⟩⟩
theorem RL.same (r : RL f H vs as) (t : Same H H') : RL f H' vs as := r.tp (Tp.same t)
theorem RL.append (r : RL f H vs as) (q : RL f H us bs) : RL f H (vs ++ us) (as ++ bs) := ⟨by rw [List.length_append, List.length_append, r.1, q.1], fun i v h => by
  by_cases c : i < vs.length
  · rw [List.getElem?_append_left c] at h
    obtain ⟨a, e, z⟩ := r.2 i v h
    exact ⟨a, by rw [List.getElem?_append_left (by rw [← r.1]; exact c)]; exact e, z⟩
  · rw [List.getElem?_append_right (by omega)] at h
    obtain ⟨a, e, z⟩ := q.2 _ v h
    exact ⟨a, by rw [List.getElem?_append_right (by rw [← r.1]; omega), ← r.1]; exact e, z⟩⟩
theorem RL.one {v : V} {a : α} (h : TupAt H v (f a)) : RL f H [v] [a] := ⟨rfl, fun i u e => by
  match i, e with
  | 0, e => exact ⟨a, rfl, (Option.some.inj e) ▸ h⟩⟩
theorem RL.get (r : RL f H vs as) {i : Nat} {v : V} (h : vs[i]? = some v) : ∃ p a, v = .ref p ∧ as[i]? = some a ∧ H p = some (.tup (f a)) := by
  obtain ⟨a, e, p, q, z⟩ := r.2 i v h
  exact ⟨p, a, q, e, z⟩
theorem RL.at_ (r : RL f H vs as) {i : Nat} {a : α} (h : as[i]? = some a) : ∃ p, vs[i]? = some (.ref p) ∧ H p = some (.tup (f a)) := by
  have l := (List.getElem?_eq_some_iff.mp h).1
  obtain ⟨p, a', e1, e2, e3⟩ := r.get (List.getElem?_eq_getElem (l := vs) (i := i) (by rw [r.1]; exact l))
  rw [h] at e2
  cases e2
  exact ⟨p, by rw [List.getElem?_eq_getElem (by rw [r.1]; exact l), e1], e3⟩
end
/-- the list at D, made since H1 -/
def NI {α : Type} (f : α → List V) (H1 : Hp) (D : Addr) (as : List α) (H : Hp) : Prop := ∃ ws, H D = some (.lst ws) ∧ RL f H ws as ∧ Same H1 H
section
variable {α : Type} {f : α → List V} {H1 H H' : Hp} {D : Addr} {as bs : List α}
theorem NI.new (hD : H1 D = none) : NI f H1 D [] (upd H1 D (.lst [])) := ⟨[], upd_same, .nil, Same.new hD⟩
theorem NI.same (n : NI f H1 D as H) (s : Same H H') : NI f H1 D as H' := by
  obtain ⟨ws, a, b, c⟩ := n
  exact ⟨ws, s _ _ a, b.same s, c.trans s⟩
theorem NI.s (n : NI f H1 D as H) : Same H1 H := n.elim fun _ q => q.2.2
theorem NI.push {v : V} {a : α} (n : NI f H1 D as H) (hD : H1 D = none) (l : as.length < 100000) (q : TupAt H v (f a)) : ∃ acc, H D = some (.lst acc) ∧ acc.length < sizeLine ∧ NI f H1 D (as ++ [a]) (upd H D (.lst (acc ++ [v]))) := by
  obtain ⟨ws, e, r, s⟩ := n
  refine ⟨ws, e, Nat.lt_trans (by rw [r.1]; exact l) (by decide), ws ++ [v], upd_same, (r.append (.one q)).tp (Tp.put e), K45.Same.put s hD⟩
end
theorem walk_core {J : It} {n : Nat} {G : Hp → Prop} {Y : Nat → Hp → V → Hp → Prop} (w : Walk J n G Y) {H1 : Hp} {Stop : Hp → Prop} {Body : (Hp → Prop) → V → Hp → Prop} (Pv : Nat → Hp → Prop) (h0 : Pv 0 H1) (hG : ∀ i H, i ≤ n → Pv i H → G H)
    (hs : ∀ i x H H', i < n → Pv i H → Y i H x H' → Body (Pv (i + 1)) x H') (hd : ∀ H, Pv n H → Stop H) :
    ∃ W : Nat → Nat → Hp → Prop, (∃ m, W 0 m H1) ∧ ∀ i m H, W i m H → (J.stop i H ∧ Stop H) ∨ (J.go i H ∧ ∃ Nx : Hp → Prop, (∀ H', Nx H' → ∃ m', m' < m ∧ W (i + 1) m' H') ∧ ∀ x H', J.yld i H x H' → Body Nx x H') := by
  refine ⟨fun i m H => m = n - i ∧ i ≤ n ∧ Pv i H, ⟨n, by simp, Nat.zero_le _, h0⟩, ?_⟩
  rintro i m H ⟨rfl, hi, p⟩
  have q := hG i H hi p
  by_cases hlt : i < n
  · exact .inr ⟨w.goes i H hlt q, Pv (i + 1), fun H' p' => ⟨n - (i + 1), by omega, rfl, hlt, p'⟩, fun x H' y => hs i x H H' hlt p (w.yields i H x H' hlt q y)⟩
  · have e : i = n := by omega
    subst e
    exact .inl ⟨w.stops H q, hd H p⟩
/-- the inner loop of two, the list at D growing -/
theorem inn_it {J : It} {n : Nat} {G : Hp → Prop} {Y : Nat → Hp → V → Hp → Prop} (w : Walk J n G Y) {g : TG} {tt : TT} {te : TE} {vs : List Nat} {σ : L2.St} {H4 : Hp} {D : Addr} {Nx : Hp → Prop} (Pv : Nat → Hp → Prop) (h0 : Pv 0 H4) (hG : ∀ i H, i ≤ n → Pv i H → G H)
    (hs : ∀ i x H H', i < n → Pv i H → Y i H x H' → g x (wipe σ vs) H' fun σ3 H5 => wipe σ3 vs = wipe σ vs ∧ tt σ3 H5 fun b H6 => if b = true then te σ3 H6 fun y H7 => ∃ acc, H7 D = some (.lst acc) ∧ acc.length < sizeLine ∧ Pv (i + 1) (upd H7 D (.lst (acc ++ [y]))) else Pv (i + 1) H6)
    (hd : ∀ H, Pv n H → Nx H) :
    ∃ W1 : Nat → Nat → Hp → Prop, (∃ m, W1 0 m H4) ∧ ∀ j k H, W1 j k H → (J.stop j H ∧ Nx H) ∨ (J.go j H ∧ ∃ Nx1 : Hp → Prop, (∀ H', Nx1 H' → ∃ k', k' < k ∧ W1 (j + 1) k' H') ∧ ∀ x H', J.yld j H x H' → g x (wipe σ vs) H' fun σ3 H5 => wipe σ3 vs = wipe σ vs ∧ tt σ3 H5 fun b H6 =>
        if b = true then te σ3 H6 fun y H7 => ∃ acc, H7 D = some (.lst acc) ∧ acc.length < sizeLine ∧ Nx1 (upd H7 D (.lst (acc ++ [y]))) else Nx1 H6) :=
  walk_core w (Body := fun Nx1 x H' => g x (wipe σ vs) H' fun σ3 H5 => wipe σ3 vs = wipe σ vs ∧ tt σ3 H5 fun b H6 => if b = true then te σ3 H6 fun y H7 => ∃ acc, H7 D = some (.lst acc) ∧ acc.length < sizeLine ∧ Nx1 (upd H7 D (.lst (acc ++ [y]))) else Nx1 H6) Pv h0 hG hs hd
/-- the outer one -/
theorem out_it {J : It} {n : Nat} {G : Hp → Prop} {Y : Nat → Hp → V → Hp → Prop} (w : Walk J n G Y) {g : TG} {tt : TT} {wi1 : TI} {g1 : TG} {tt1 : TT} {te : TE} {vs vs1 : List Nat} {σ : L2.St} {H1 : Hp} {D : Addr} {Qd : Hp → Prop} (Pv : Nat → Hp → Prop) (h0 : Pv 0 (upd H1 D (.lst []))) (hG : ∀ i H, i ≤ n → Pv i H → G H)
    (hs : ∀ i x H H', i < n → Pv i H → Y i H x H' → g x (wipe σ vs) H' fun σ2 H2 => wipe σ2 vs = wipe σ vs ∧ tt σ2 H2 fun b H3 =>
      if b = true then wi1 σ2 H3 fun J1 H4 => ∃ W1 : Nat → Nat → Hp → Prop, (∃ m, W1 0 m H4) ∧ ∀ j k H, W1 j k H →
      (J1.stop j H ∧ Pv (i + 1) H) ∨ (J1.go j H ∧ ∃ Nx1 : Hp → Prop, (∀ H', Nx1 H' → ∃ k', k' < k ∧ W1 (j + 1) k' H') ∧ ∀ x H', J1.yld j H x H' → g1 x (wipe σ2 vs1) H' fun σ3 H5 => wipe σ3 vs1 = wipe σ2 vs1 ∧ tt1 σ3 H5 fun b H6 =>
        if b = true then te σ3 H6 fun y H7 => ∃ acc, H7 D = some (.lst acc) ∧ acc.length < sizeLine ∧ Nx1 (upd H7 D (.lst (acc ++ [y]))) else Nx1 H6) else Pv (i + 1) H3) (hd : ∀ H, Pv n H → Qd H) :
    ∃ W : Nat → Nat → Hp → Prop, (∃ m, W 0 m (upd H1 D (.lst []))) ∧ ∀ i m H, W i m H → (J.stop i H ∧ Qd H) ∨ (J.go i H ∧ ∃ Nx : Hp → Prop, (∀ H', Nx H' → ∃ m', m' < m ∧ W (i + 1) m' H') ∧ ∀ x H', J.yld i H x H' → g x (wipe σ vs) H' fun σ2 H2 => wipe σ2 vs = wipe σ vs ∧ tt σ2 H2 fun b H3 =>
      if b = true then wi1 σ2 H3 fun J1 H4 => ∃ W1 : Nat → Nat → Hp → Prop, (∃ m, W1 0 m H4) ∧ ∀ j k H, W1 j k H →
      (J1.stop j H ∧ Nx H) ∨ (J1.go j H ∧ ∃ Nx1 : Hp → Prop, (∀ H', Nx1 H' → ∃ k', k' < k ∧ W1 (j + 1) k' H') ∧ ∀ x H', J1.yld j H x H' → g1 x (wipe σ2 vs1) H' fun σ3 H5 => wipe σ3 vs1 = wipe σ2 vs1 ∧ tt1 σ3 H5 fun b H6 =>
        if b = true then te σ3 H6 fun y H7 => ∃ acc, H7 D = some (.lst acc) ∧ acc.length < sizeLine ∧ Nx1 (upd H7 D (.lst (acc ++ [y]))) else Nx1 H6) else Nx H3) :=
  walk_core w (Body := fun Nx x H' => g x (wipe σ vs) H' fun σ2 H2 => wipe σ2 vs = wipe σ vs ∧ tt σ2 H2 fun b H3 =>
      if b = true then wi1 σ2 H3 fun J1 H4 => ∃ W1 : Nat → Nat → Hp → Prop, (∃ m, W1 0 m H4) ∧ ∀ j k H, W1 j k H →
      (J1.stop j H ∧ Nx H) ∨ (J1.go j H ∧ ∃ Nx1 : Hp → Prop, (∀ H', Nx1 H' → ∃ k', k' < k ∧ W1 (j + 1) k' H') ∧ ∀ x H', J1.yld j H x H' → g1 x (wipe σ2 vs1) H' fun σ3 H5 => wipe σ3 vs1 = wipe σ2 vs1 ∧ tt1 σ3 H5 fun b H6 =>
        if b = true then te σ3 H6 fun y H7 => ∃ acc, H7 D = some (.lst acc) ∧ acc.length < sizeLine ∧ Nx1 (upd H7 D (.lst (acc ++ [y]))) else Nx1 H6) else Nx H3) Pv h0 hG hs hd
end K45
namespace K45
open PySem PySem.Spec PyProof.Rows L2 PySem.W LamX KA KW KU KL KT
open Evl (pss_cut tCut)
/-! ### the law's own mixing -/
theorem erase_map {α β : Type} (f : α → β) : ∀ (l : List α) (d : Nat), (l.map f).eraseIdx d = (l.eraseIdx d).map f
  | [], _ => rfl
  | x :: l, 0 => rfl
  | x :: l, d + 1 => by
    rw [List.map_cons, List.eraseIdx_cons_succ, List.eraseIdx_cons_succ, List.map_cons, erase_map f l d]
theorem erase_perm {α : Type} : ∀ (l : List α) (d : Nat) (y : α), l[d]? = some y → ([y] ++ l.eraseIdx d).Perm l
  | [], _, _, h => by simp at h
  | x :: l, 0, y, h => by
    have : x = y := by simpa using h
    subst this
    exact List.Perm.refl _
  | x :: l, d + 1, y, h => by
    have ih := erase_perm l d y (by simpa using h)
    rw [List.eraseIdx_cons_succ]
    exact (List.Perm.swap x y _).trans (ih.cons x)
section
variable {P : Program} {w : World} {K : PySem.W.Frag} {mg : Str → Option Value} {base : Heap} (T : Top K mg)
def spMixed (K : PySem.W.Frag) : Sp := fun vs H Q _ => ∃ (st lg cl a : Addr) (is : List Int) (m : Nat), vs = [.ref st, .ref a] ∧ SqL K H a (is.map V.int) ∧ is.length ≤ 1000 ∧ m ≤ 900000 ∧ StAt H st lg cl m ∧
  ∀ (p : Addr) (js : List Int) (H' : Hp), js.Perm is → H' p = some (.lst (js.map V.int)) → H p = none → StAt H' st lg cl (m + is.length) → Kp st lg H H' → Q (.ref p) H'
theorem ok_mixed : FnOk P w K mg base (L2.CX P w) 2 T._law_mixed.a T._law_mixed.d ["state", "several"] (spMixed K) := by
  refine T._law_mixed.f.okX sc__law_mixed (fun vs H Q E h => ?_) (fun cdv A outer s H vs Q E hr h => ?_)
  · obtain ⟨st, lg, cl, a, is, m, rfl, _⟩ := h
    rfl
  · obtain ⟨st, lg, cl, a, is, m, rfl, ha, hl, hm, S, k⟩ := h
    refine ⟨_, pss_cons (ps_par (i := 2) (j := 3) rfl sc__law_mixed.nd rfl rfl (by decide) rfl rfl (pa_cons (pe_callTy call_list_of (by rfl) T.b_list (by decide +kernel) (pa_cons (pv 1) pa_nil)) (pa_cons (pe_lst pa_nil) pa_nil)) (by rfl))
      (pss_cons (ps_while (passes_of rfl) (pt_cmpR (op_neD hr.units) (pv 2) (pe_lst pa_nil) (nomark _))
        (pss_one (ps_expr (pe_bm PySem.F.plainAttrs_list PySem.F.slot_list_append PySem.F.type_list_append mt_append (pv 3) (pa_cons (pe_bm PySem.F.plainAttrs_list PySem.F.slot_list_pop PySem.F.type_list_pop mt_popAt (pv 2)
          (pa_cons (pe_call (ok_draw T) hr (by rfl) T._law_draw.m T._law_draw.f.kp (bd__law_draw T) .nil passE (pa_cons (pv 0) (pa_cons (pe_callB call_len_seq (by rfl) T.b_len PySem.boot_len (pa_cons (pv 2) pa_nil)) pa_nil))) pa_nil)) pa_nil)))))
      (pss_one (ps_ret (pv 3)))), ?_⟩
    refine ⟨_, rfl, a, _, rfl, .inl ha, fun q hq => ⟨(by show 0 ≤ sizeLine; decide), fun r hr' => ⟨_, _, rfl, ?_⟩⟩⟩
    have sq := Same.new (o := .lst (is.map V.int)) hq
    have S1 := S.same sq
    have sr := Same.new (o := .lst []) hr'
    have S2 := S1.same sr
    have q1 := (S.off hq).1
    have q2 := (S.off hq).2
    have q3 := offc S hq
    have r1 := (S1.off hr').1
    have r2 := (S1.off hr').2
    have r3 := offc S1 hr'
    have qr : q ≠ r := ne_of_none upd_same hr'
    have hr0 : H r = none := sq.free hr'
    refine ⟨fun μ σ' H1 => σ' = [some (.ref st), some (.ref a), some (.ref q), some (.ref r)] ∧ ∃ (L M : List Int), L.length = μ ∧ (L ++ M).Perm is ∧ H1 q = some (.lst (L.map V.int)) ∧ H1 r = some (.lst (M.map V.int)) ∧ StAt H1 st lg cl (m + M.length) ∧
      Kp st lg H H1, ⟨is.length, rfl, is, [], rfl, by rw [List.append_nil], (upd_ne qr).trans upd_same, upd_same, S2, (Kp.same sq).trans (Kp.same sr)⟩, ?_⟩
    clear S1 S2 sr hr'
    rintro μ σ' H1 ⟨rfl, L, M, rfl, e2, e4, e5, S1, kp⟩
    have e1 : L.length + M.length = is.length := by rw [← e2.length_eq, List.length_append]
    refine ⟨_, rfl, (by show 0 ≤ sizeLine; decide), fun p hp => ?_⟩
    have nq : q ≠ p := ne_of_none e4 hp
    have nr : r ≠ p := ne_of_none e5 hp
    have e4' : (upd H1 p (.lst [])) q = some (.lst (L.map V.int)) := (upd_ne nq).trans e4
    have e5' : (upd H1 p (.lst [])) r = some (.lst (M.map V.int)) := (upd_ne nr).trans e5
    have S2 := S1.same (Same.new (o := .lst []) hp)
    have kp2 := kp.trans (Kp.same (Same.new (o := .lst []) hp))
    refine ⟨_, _, dp_int_list e4', dp_nil upd_same, shaped_is _, shaped_nil, _, rfl, ?_⟩
    rw [eqv_ints_nil]
    generalize upd H1 p (.lst []) = H2 at e4' e5' S2 kp2
    cases L with
    | nil =>
      refine iteF ⟨_, rfl, ?_⟩
      have : M.length = is.length := by simpa using e1
      exact k r M H2 e2 e5' hr0 (this ▸ S2) kp2
    | cons x rest =>
      refine iteT ⟨fun σ' H' => σ' = [some (.ref st), some (.ref a), some (.ref q), some (.ref r)] ∧ ∃ (L' M' : List Int), L'.length = rest.length ∧ (L' ++ M').Perm is ∧ H' q = some (.lst (L'.map V.int)) ∧ H' r = some (.lst (M'.map V.int)) ∧ StAt H' st lg cl (m + M'.length) ∧ Kp st lg H H',
        fun σ' H' ⟨e, L', M', f1, f2⟩ => ⟨rest.length, by simp, e, L', M', f1, f2⟩, ?_⟩
      refine ⟨_, rfl, .inl ⟨rfl, _, SqL.of e5'⟩, _, rfl, .inl ⟨rfl, _, SqL.of e4'⟩, _, rfl, _, rfl, q, _, rfl, .inl (SqL.of e4'), st, lg, cl, ((x :: rest).map V.int).length, m + M.length, rfl, by simp, ?_, ?_, S2, fun d H3 hd S3 kp3 => ?_⟩
      · rw [List.length_map]
        exact Nat.lt_of_le_of_lt (show _ ≤ 1000 from by omega) (by decide)
      · omega
      rw [List.length_map] at hd
      have g4 := kp3 q _ e4' q1 q2
      have g5 := kp3 r _ e5' r1 r2
      obtain ⟨y, hy⟩ : ∃ y, (x :: rest)[d]? = some y := ⟨_, List.getElem?_eq_getElem hd⟩
      have le : d < 1001 := by omega
      refine ⟨q, _, (d : Int), d, .int y, rfl, rfl, g4, by omega, by omega, ?_, by rw [List.getElem?_map, hy]; rfl, ?_⟩
      · have hd2 : d < rest.length + 1 := by simpa using hd
        unfold seqIndex?
        rw [if_neg (show ¬ (d : Int) < 0 by omega), if_pos ?_, Int.toNat_natCast]
        rw [Bool.and_eq_true, decide_eq_true_eq, decide_eq_true_eq, List.length_map, List.length_cons]
        omega
      rw [erase_map]
      have g6 : (upd H3 q (.lst (((x :: rest).eraseIdx d).map V.int))) r = some (.lst (M.map V.int)) := (upd_ne qr.symm).trans g5
      refine ⟨r, _, .int y, rfl, rfl, g6, ?_, rfl, (x :: rest).eraseIdx d, M ++ [y], ?_, ?_, ?_, ?_, ?_, ?_⟩
      · rw [List.length_map]
        exact Nat.lt_of_le_of_lt (show M.length ≤ 1000 by omega) (by decide)
      · rw [List.length_eraseIdx_of_lt hd]
        simp
      · refine List.Perm.trans ?_ e2
        rw [← List.append_assoc]
        refine (List.perm_append_comm (l₂ := [y])).trans ?_
        rw [← List.append_assoc]
        exact (erase_perm _ d y hy).append_right M
      · rw [upd_ne qr, upd_same]
      · rw [upd_same, List.map_append]
        rfl
      · have := stAt_put (ys := (M.map V.int) ++ [.int y]) (stAt_put (ys := ((x :: rest).eraseIdx d).map V.int) S3 q1 q2 q3) r1 r2 r3
        rw [List.length_append]
        exact this
      · exact Kp.put3 (Kp.put3 (kp2.trans kp3) (by first | exact hq)) hr0
end
end K45
namespace K45
open PySem PySem.Spec PyProof.Rows L2 PySem.W LamX KA KW KU KL KT
/-! ### comprehensions: what they leave, said once -/
theorem take_filter_yes {α : Type} {as : List α} {p : α → Bool} {i : Nat} {a : α} (e : as[i]? = some a) (h : p a = true) : (as.take (i + 1)).filter p = (as.take i).filter p ++ [a] := by
  rw [List.take_add_one, e, List.filter_append]
  simp [h]
theorem take_filter_no {α : Type} {as : List α} {p : α → Bool} {i : Nat} {a : α} (e : as[i]? = some a) (h : p a = false) : (as.take (i + 1)).filter p = (as.take i).filter p := by
  rw [List.take_add_one, e, List.filter_append]
  simp [h]
/-- what is left are plain values -/
theorem lcP {J : It} {n : Nat} {G : Hp → Prop} {Yd : Nat → Hp → V → Hp → Prop} (w : Walk J n G Yd) {g : TG} {tt : TT} {te : TE} {vs : List Nat} {σ : L2.St} {H1 : Hp} {D : Addr} {Qd : Hp → Prop} {α : Type} (as : List α) (p : α → Bool) (h : α → V)
    (hn : n = as.length) (hD : H1 D = none) (hG : ∀ H', Same H1 H' → G H') (l : as.length ≤ 100000) (hY : ∀ i H x H', Yd i H x H' → Same H H')
    (hs : ∀ i x a H H' (N : Hp → Prop) (R : VK), as[i]? = some a → Same H1 H → Yd i H x H' → (p a = true → ∀ H4, Same H' H4 → R (h a) H4) → (p a = false → ∀ H4, Same H' H4 → N H4) → g x (wipe σ vs) H' fun σ2 H2 => wipe σ2 vs = wipe σ vs ∧ tt σ2 H2 fun b H3 => if b = true then te σ2 H3 R else N H3)
    (hd : ∀ H', Same H1 H' → H' D = some (.lst ((as.filter p).map h)) → Qd H') :
    ∃ W : Nat → Nat → Hp → Prop, (∃ m, W 0 m (upd H1 D (.lst []))) ∧ ∀ i m H, W i m H →
      (J.stop i H ∧ Qd H) ∨ (J.go i H ∧ ∃ Nx : Hp → Prop, (∀ H', Nx H' → ∃ m', m' < m ∧ W (i + 1) m' H') ∧ ∀ x H', J.yld i H x H' → g x (wipe σ vs) H' fun σ2 H2 => wipe σ2 vs = wipe σ vs ∧ tt σ2 H2 fun b H3 =>
        if b = true then te σ2 H3 fun y H4 => ∃ acc, H4 D = some (.lst acc) ∧ acc.length < sizeLine ∧ Nx (upd H4 D (.lst (acc ++ [y]))) else Nx H3) := by
  subst hn
  refine lc_it w (fun i H => H D = some (.lst (((as.take i).filter p).map h)) ∧ Same H1 H) ⟨upd_same, Same.new hD⟩ (fun i H _ q => hG H q.2) ?_ ?_
  · rintro i x H H' hi ⟨e, s⟩ y
    obtain ⟨a, ha⟩ : ∃ a, as[i]? = some a := ⟨_, List.getElem?_eq_getElem hi⟩
    have s' := hY i H x H' y
    refine hs i x a H H' _ _ ha s y (fun hp H4 s4 => ?_) (fun hp H4 s4 => ?_)
    · refine ⟨_, s4 _ _ (s' _ _ e), ?_, ?_, ?_⟩
      · refine Nat.lt_of_le_of_lt (Nat.le_trans (List.length_map (as := (as.take i).filter p) h ▸ List.length_filter_le p (as.take i)) (Nat.le_trans (by rw [List.length_take]; exact Nat.min_le_right _ _) l)) (by decide)
      · rw [upd_same, take_filter_yes ha hp, List.map_append]
        rfl
      · exact Same.put (s.trans (s'.trans s4)) hD
    · rw [take_filter_no ha hp]
      exact ⟨s4 _ _ (s' _ _ e), s.trans (s'.trans s4)⟩
  · rintro H' ⟨e, s⟩
    rw [List.take_length] at e
    exact hd H' s e
/-- what is left are tuples -/
theorem lcR {J : It} {n : Nat} {G : Hp → Prop} {Yd : Nat → Hp → V → Hp → Prop} (w : Walk J n G Yd) {g : TG} {tt : TT} {te : TE} {vs : List Nat} {σ : L2.St} {H1 : Hp} {D : Addr} {Qd : Hp → Prop} {α β : Type} (f : β → List V) (as : List α) (p : α → Bool) (h : α → β)
    (hn : n = as.length) (hD : H1 D = none) (hG : ∀ H', Same H1 H' → G H') (l : as.length < 100000) (hY : ∀ i H x H', Yd i H x H' → Same H H')
    (hs : ∀ i x a H H' (N : Hp → Prop) (R : VK), as[i]? = some a → Same H1 H → Yd i H x H' → (p a = true → ∀ v H4, Same H' H4 → TupAt H4 v (f (h a)) → R v H4) → (p a = false → ∀ H4, Same H' H4 → N H4) → g x (wipe σ vs) H' fun σ2 H2 => wipe σ2 vs = wipe σ vs ∧ tt σ2 H2 fun b H3 => if b = true then te σ2 H3 R else N H3)
    (hd : ∀ H' ws, Same H1 H' → H' D = some (.lst ws) → RL f H' ws ((as.filter p).map h) → Qd H') :
    ∃ W : Nat → Nat → Hp → Prop, (∃ m, W 0 m (upd H1 D (.lst []))) ∧ ∀ i m H, W i m H →
      (J.stop i H ∧ Qd H) ∨ (J.go i H ∧ ∃ Nx : Hp → Prop, (∀ H', Nx H' → ∃ m', m' < m ∧ W (i + 1) m' H') ∧ ∀ x H', J.yld i H x H' → g x (wipe σ vs) H' fun σ2 H2 => wipe σ2 vs = wipe σ vs ∧ tt σ2 H2 fun b H3 =>
        if b = true then te σ2 H3 fun y H4 => ∃ acc, H4 D = some (.lst acc) ∧ acc.length < sizeLine ∧ Nx (upd H4 D (.lst (acc ++ [y]))) else Nx H3) := by
  subst hn
  refine lc_it w (fun i H => NI f H1 D (((as.take i).filter p).map h) H) (NI.new hD) (fun i H _ q => hG H q.s) ?_ ?_
  · rintro i x H H' hi ni y
    obtain ⟨a, ha⟩ : ∃ a, as[i]? = some a := ⟨_, List.getElem?_eq_getElem hi⟩
    have s' := hY i H x H' y
    refine hs i x a H H' _ _ ha ni.s y (fun hp v H4 s4 tv => ?_) (fun hp H4 s4 => ?_)
    · rw [take_filter_yes ha hp, List.map_append]
      refine (ni.same (s'.trans s4)).push hD ?_ tv
      rw [List.length_map]
      refine Nat.lt_of_le_of_lt (List.length_filter_le p (as.take i)) ?_
      rw [List.length_take]
      omega
    · rw [take_filter_no ha hp]
      exact ni.same (s'.trans s4)
  · rintro H' ⟨ws, e, r, s⟩
    rw [List.take_length] at r
    exact hd H' ws s e r
theorem yAt_same {xs : List V} : ∀ (i : Nat) (H : Hp) (x : V) (H' : Hp), YAt xs i H x H' → Same H H' := fun i H x H' y => by
  obtain ⟨rfl, _⟩ := y
  exact fun _ _ e => e
theorem yFn_same {f : Nat → V} : ∀ (i : Nat) (H : Hp) (x : V) (H' : Hp), YFn f i H x H' → Same H H' := fun i H x H' y => by
  obtain ⟨rfl, _⟩ := y
  exact fun _ _ e => e
theorem yPair_same {f g : Nat → Option V} : ∀ (i : Nat) (H : Hp) (x : V) (H' : Hp), YPair f g i H x H' → Same H H' := fun i H x H' y => by
  obtain ⟨T, x, y, rfl, hT, rfl, h1, h2⟩ := y
  exact Same.new hT
theorem walk_zipT {K : PySem.W.Frag} {a b : Addr} {xs ys : List V} {n : Nat} (hn : n = min xs.length ys.length) : Walk (RZ.ItzT K a b) n (fun H => SqT K H a xs ∧ SqT K H b ys) (YPair (fun i => xs[i]?) (fun i => ys[i]?)) := by
  subst hn
  constructor
  · intro i H lt ⟨sx, sy⟩
    exact ⟨xs, ys, _, _, sx, sy, List.getElem?_eq_getElem (Nat.lt_of_lt_of_le lt (Nat.min_le_left _ _)), List.getElem?_eq_getElem (Nat.lt_of_lt_of_le lt (Nat.min_le_right _ _))⟩
  · exact fun H q => ⟨xs, ys, q.1, q.2, by omega⟩
  · rintro i H v H' _ ⟨sx, sy⟩ ⟨t, x, y, ev, ft, eH, kx, ky⟩
    exact ⟨t, x, y, ev, ft, eH, kx xs sx, ky ys sy⟩
theorem walk_rangeN {n : Nat} : Walk (Itr 0 n) n (fun _ => True) (YFn fun i : Nat => V.int (i : Int)) := by
  have e : (fun i : Nat => V.int (0 + (i : Int))) = fun i : Nat => V.int (i : Int) := funext fun i => by rw [Int.zero_add]
  rw [← e]
  exact walk_range
theorem range_at {n i a : Nat} (h : (List.range n)[i]? = some a) : a = i ∧ i < n := by
  obtain ⟨h1, h2⟩ := List.getElem?_eq_some_iff.mp h
  rw [List.getElem_range] at h2
  rw [List.length_range] at h1
  exact ⟨h2.symm, h1⟩
def rLen (K : PySem.W.Frag) : List V → Hp → VK → Prop := fun xs H Q => ∃ p ys, xs = [.ref p] ∧ (SqL K H p ys ∨ SqT K H p ys) ∧ Q (.int ((ys.length : Nat) : Int)) H
/-! ### natural numbers as values -/
def NV (ns : List Nat) : List V := ns.map fun n : Nat => V.int (n : Int)
theorem NV_len (ns : List Nat) : (NV ns).length = ns.length := List.length_map _
theorem NV_ints (ns : List Nat) : NV ns = (ns.map fun n : Nat => (n : Int)).map V.int := by
  unfold NV
  rw [List.map_map]
  rfl
theorem NV_at {ns : List Nat} {i : Nat} {x : V} (h : (NV ns)[i]? = some x) : ∃ n, ns[i]? = some n ∧ x = .int (n : Int) := by
  unfold NV at h
  rw [List.getElem?_map] at h
  cases e : ns[i]? with
  | none => rw [e] at h; cases h
  | some n => rw [e] at h; exact ⟨n, rfl, (Option.some.inj h).symm⟩
theorem NV_get {ns : List Nat} {i : Nat} {n : Nat} (h : ns[i]? = some n) : (NV ns)[i]? = some (.int (n : Int)) := by
  unfold NV
  rw [List.getElem?_map, h]
  rfl
theorem NV_flat (ns : List Nat) : (NV ns).all flatV = true := by
  rw [List.all_eq_true]
  intro x hx
  obtain ⟨n, _, rfl⟩ := List.mem_map.mp hx
  rfl
theorem inV_NV (n : Nat) (ns : List Nat) : inV (.int (n : Int)) (NV ns) = inB ns n := by
  rw [Bool.eq_iff_iff]
  unfold inV inB NV
  rw [List.any_eq_true, decide_eq_true_eq]
  constructor
  · rintro ⟨x, hx, e⟩
    obtain ⟨m, hm, rfl⟩ := List.mem_map.mp hx
    have e : ((m : Int) == (n : Int)) = true := e
    have : (m : Int) = (n : Int) := eq_of_beq e
    have : m = n := by omega
    exact this ▸ hm
  · intro h
    exact ⟨.int (n : Int), List.mem_map.mpr ⟨n, h, rfl⟩, beq_self_eq_true (n : Int)⟩
/-- a list or a tuple at x of the tuples of these rows -/
def Wv (H : Hp) (x : V) (rows : List (List Nat)) : Prop := ∃ (a : Addr) (vs : List V), x = .ref a ∧ (H a = some (.lst vs) ∨ H a = some (.tup vs)) ∧ RL NV H vs rows
theorem Wv.keep {H H' : Hp} {x : V} {rows : List (List Nat)} (h : Wv H x rows) (s : Same H H') : Wv H' x rows := by
  obtain ⟨a, vs, rfl, e, r⟩ := h
  exact ⟨a, vs, rfl, e.imp (s _ _) (s _ _), r.same s⟩
end K45
namespace K45
open PySem PySem.Spec PyProof.Rows L2 PySem.W LamX KA KW KU KL KT
open Evl (pss_cut tCut)
/-! ### lots and whole sets -/
/-- no tuple -/
inductive Nt (H : Hp) : V → Prop where
  | int (i : Int) : Nt H (.int i)
  | bl (b : Bool) : Nt H (.bl b)
  | str (s : Str) : Nt H (.str s)
  | non : Nt H .non
  | lst {a : Addr} {xs : List V} (e : H a = some (.lst xs)) : Nt H (.ref a)
  | dK {a : Addr} {kvs : List (Key × V)} (e : H a = some (.dK kvs)) : Nt H (.ref a)
theorem Nt.ty {K : PySem.W.Frag} {H : Hp} {x : V} (h : Nt H x) : ∃ t : String, TyX K H x (.type t) ∧ kitB t "tuple" = some false := by
  cases h with
  | int i => exact ⟨"int", .base (.int i), by decide +kernel⟩
  | bl i => exact ⟨"bool", .base (.bl i), by decide +kernel⟩
  | str i => exact ⟨"str", .base (.str i), by decide +kernel⟩
  | non => exact ⟨"NoneType", .base .non, by decide +kernel⟩
  | lst e => exact ⟨"list", .base (.lst e), by decide +kernel⟩
  | dK e => exact ⟨"dict", .base (.dK e), by decide +kernel⟩
theorem Nt.keep {H H' : Hp} {x : V} (h : Nt H x) (s : Same H H') : Nt H' x := by
  cases h with
  | int i => exact .int i
  | bl i => exact .bl i
  | str i => exact .str i
  | non => exact .non
  | lst e => exact .lst (s _ _ e)
  | dK e => exact .dK (s _ _ e)
theorem Pl.keep {K : PySem.W.Frag} {H H' : Hp} {x : V} {b : Bool} (h : Pl K H x b) (s : Same H H') : Pl K H' x b := by
  cases h with
  | int i => exact .int i
  | bl i => exact .bl i
  | str i => exact .str i
  | non => exact .non
  | tup e => exact .tup (s _ _ e)
  | lst e => exact .lst (s _ _ e)
  | dK e => exact .dK (s _ _ e)
/-- values that hold no others -/
inductive Fl : V → Prop where
  | int (i : Int) : Fl (.int i)
  | bl (b : Bool) : Fl (.bl b)
  | str (s : Str) (h : PyData.strOk s = true) : Fl (.str s)
  | non : Fl .non
theorem Fl.pl {K : PySem.W.Frag} {H : Hp} {x : V} (h : Fl x) : ∃ b, Pl K H x b := by
  cases h with
  | int i => exact ⟨_, .int i⟩
  | bl i => exact ⟨_, .bl i⟩
  | str i _ => exact ⟨_, .str i⟩
  | non => exact ⟨_, .non⟩
/-- a value as a set of frames -/
inductive Rv (K : PySem.W.Frag) (H : Hp) : V → Option (List V) → Prop where
  | no {x : V} (h : Nt H x) : Rv K H x none
  | tup {a : Addr} {xs : List V} (e : H a = some (.tup xs)) (p : ∀ x ∈ xs, Fl x) (l : xs.length ≤ 1000) : Rv K H (.ref a) (some xs)
theorem Rv.keep {K : PySem.W.Frag} {H H' : Hp} {x : V} {o : Option (List V)} (h : Rv K H x o) (s : Same H H') : Rv K H' x o := by
  cases h with
  | no h => exact .no (h.keep s)
  | tup e p l => exact .tup (s _ _ e) p l
theorem Rv.nv {K : PySem.W.Frag} {H : Hp} {a : Addr} {ns : List Nat} (e : H a = some (.tup (NV ns))) (l : ns.length ≤ 1000) : Rv K H (.ref a) (some (NV ns)) := .tup e (fun x hx => by
  obtain ⟨n, _, rfl⟩ := List.mem_map.mp hx
  exact .int n) (by rw [NV_len]; exact l)
def natOf : V → Nat
  | .int i => i.toNat
  | _ => 0
def nats (o : Option (List V)) : List Nat := (o.getD []).map natOf
def insideB (n : Nat) (xs : List V) : Bool := xs.all fun x => within x 0 ((n : Int) - 1)
def lotV (n : Nat) : Option (List V) → Bool
  | none => false
  | some xs => insideB n xs && ascB (xs.map natOf)
theorem nats_NV (ns : List Nat) : nats (some (NV ns)) = ns := by
  show (NV ns).map natOf = ns
  unfold NV
  rw [List.map_map]
  exact (List.map_congr_left (fun x _ => Int.toNat_natCast x)).trans (List.map_id _)
theorem inside_nv {n : Nat} : ∀ {xs : List V}, insideB n xs = true → xs = NV (xs.map natOf) ∧ ∀ x ∈ xs.map natOf, x < n
  | [], _ => ⟨rfl, fun x hx => nomatch hx⟩
  | x :: xs, h => by
    have h : (within x 0 ((n : Int) - 1) && insideB n xs) = true := h
    rw [Bool.and_eq_true] at h
    obtain ⟨e1, e2⟩ := inside_nv h.2
    obtain ⟨i, rfl, h1, h2⟩ : ∃ i, x = .int i ∧ 0 ≤ i ∧ i ≤ (n : Int) - 1 := within_int h.1
    have ei : ((natOf (.int i) : Nat) : Int) = i := Int.toNat_of_nonneg h1
    refine ⟨?_, fun y hy => ?_⟩
    · show V.int i :: xs = V.int (natOf (.int i) : Nat) :: NV (xs.map natOf)
      rw [ei, ← e1]
    · rcases List.mem_cons.mp hy with rfl | hy
      · have : ((natOf (.int i) : Nat) : Int) < n := by omega
        exact Int.ofNat_lt.mp this
      · exact e2 y hy
theorem inside_NV (n : Nat) (ns : List Nat) : insideB n (NV ns) = ns.all fun x => decide (x < n) := by
  unfold insideB NV
  rw [List.all_map]
  refine congrArg (fun f => ns.all f) (funext fun x => ?_)
  show (decide ((0 : Int) ≤ x) && decide ((x : Int) ≤ n - 1)) = _
  rw [Bool.eq_iff_iff, Bool.and_eq_true, decide_eq_true_eq, decide_eq_true_eq, decide_eq_true_eq]
  omega
theorem lotV_NV (n : Nat) (ns : List Nat) : lotV n (some (NV ns)) = lotB n ns := by
  show (insideB n (NV ns) && ascB (nats (some (NV ns)))) = _
  rw [inside_NV, nats_NV]
  rfl
theorem lotV_nv {n : Nat} {o : Option (List V)} (h : lotV n o = true) : ∃ ns, o = some (NV ns) ∧ nats o = ns ∧ lotB n ns = true := by
  cases o with
  | none => cases h
  | some xs =>
    have h' := h
    rw [lotV, Bool.and_eq_true] at h'
    have e := (inside_nv h'.1).1
    rw [e] at h ⊢
    exact ⟨_, rfl, nats_NV _, (lotV_NV n _).symm.trans h⟩
def spLot (K : PySem.W.Frag) : Sp := fun vs H Q _ => ∃ (x : V) (o : Option (List V)) (n : Nat), vs = [x, .int (n : Int)] ∧ Rv K H x o ∧ ∀ H', Same H H' → Q (.bl (lotV n o)) H'
def spAreIn (K : PySem.W.Frag) : Sp := fun vs H Q _ => ∃ (a b : Addr) (ns ms : List Nat), vs = [.ref a, .ref b] ∧ H a = some (.tup (NV ns)) ∧ ns.length ≤ 1000 ∧ (H b = some (.lst (NV ms)) ∨ H b = some (.tup (NV ms))) ∧ ∀ H', Same H H' → Q (.bl (ns.all (inB ms))) H'
def spWhole (K : PySem.W.Frag) : Sp := fun vs H Q _ => ∃ (x y : V) (rows : List (List Nat)) (o : Option (List V)), vs = [x, y] ∧ Wv H x rows ∧ rows.length ≤ 1000 ∧ (∀ r ∈ rows, r.length ≤ 1000) ∧ Rv K H y o ∧ ∀ H', Same H H' → Q (.bl (lotV rows.length o && wholeB rows (nats o))) H'
theorem within_nat (x n : Nat) : within (.int (x : Int)) 0 ((n : Int) - 1) = decide (x < n) := by
  show (decide ((0 : Int) ≤ x) && decide ((x : Int) ≤ n - 1)) = _
  rw [Bool.eq_iff_iff, Bool.and_eq_true, decide_eq_true_eq, decide_eq_true_eq, decide_eq_true_eq]
  omega
theorem ix_either {K : PySem.W.Frag} {a : Addr} {vs : List V} {H : Hp} {Q : VK} {i : Nat} {v : V} (ha : H a = some (.lst vs) ∨ H a = some (.tup vs)) (h : vs[i]? = some v) (q : Q v H) : rIx K (.ref a) (.int (i : Int)) H Q := by
  rcases ha with ha | ha
  · exact .inl ⟨a, vs, _, v, rfl, rfl, SqL.of ha, atI_nat h, q⟩
  · exact .inr (.inl ⟨a, vs, _, v, rfl, rfl, SqT.of ha, atI_nat h, q⟩)
/-- neighbours rise -/
def pairsUp (ns : List Nat) : List (Nat × Nat) := ns.zip ns.tail
theorem pairsUp_all : ∀ ns : List Nat, (pairsUp ns).all (fun p => decide (p.1 < p.2)) = ascB ns
  | [] => rfl
  | [x] => rfl
  | x :: y :: l => by
    have ih := pairsUp_all (y :: l)
    show (decide (x < y) && (pairsUp (y :: l)).all _) = (decide (x < y) && ascB (y :: l))
    rw [ih]
theorem all_map_bl {α : Type} (as : List α) (p : α → Bool) : (as.map fun a => V.bl (p a)) = (as.map p).map V.bl := by rw [List.map_map]; rfl
theorem all_id {α : Type} (as : List α) (p : α → Bool) : (as.map p).all id = as.all p := by rw [List.all_map]; rfl
theorem filter_yes {α : Type} (as : List α) : as.filter (fun _ => true) = as := List.filter_eq_self.mpr fun _ _ => rfl
theorem sl_tail {K : PySem.W.Frag} {a : Addr} {ns : List Nat} {H : Hp} {Q : VK} (e : H a = some (.tup (NV ns))) (k : ∀ q H', Same H H' → H' q = some (.tup (NV ns.tail)) → Q (.ref q) H') : rSlA K (.ref a) (some 1) none H Q := by
  have c1 : HT.sIx (NV ns).length 0 (some 1) = min 1 ns.length := (HT.sIx_nat _ 0 1).trans (by rw [NV_len])
  refine ⟨a, NV ns, rfl, SqT.of e, fun c => ?_, fun c p hp => ?_⟩
  · have : ns = [] := by
      rw [c1] at c
      exact List.eq_nil_of_length_eq_zero (by omega)
    subst this
    exact k a H (fun _ _ e => e) e
  · have : cutV (NV ns) (some 1) none = NV ns.tail := by
      unfold cutV
      rw [c1, HT.sIx_none, NV_len]
      cases ns with
      | nil => rfl
      | cons x l =>
        rw [show min 1 (x :: l).length = 1 by rw [List.length_cons]; omega, List.take_of_length_le (by rw [List.length_drop, NV_len]; exact Nat.le_refl _)]
        rfl
    rw [this]
    exact k p _ (Same.new hp) upd_same
section
variable {P : Program} {w : World} {K : PySem.W.Frag} {mg : Str → Option Value} {base : Heap} (T : Top K mg)
theorem ok_is_lot : FnOk P w K mg base (L2.CX P w) 3 T.is_lot.a T.is_lot.d ["thing", "many"] (spLot K) := by
  refine T.is_lot.f.okX sc_is_lot (fun vs H Q E h => ?_) (fun cdv A outer s H vs Q E hr h => ?_)
  · obtain ⟨x, o, n, rfl, _⟩ := h
    rfl
  · obtain ⟨x, o, n, rfl, hv, k⟩ := h
    refine ⟨_, (pss_cons (ps_if (PW.pt (pw_or (pt_not (pt_val (pe_callB call_isi (by rfl) T.b_isinstance PyProof.Rows.boot_isinstance (pa_cons (pv 0) (pa_cons (pe_bltn (v := .ty "tuple") (by rfl) T.b_tuple (by decide +kernel) rfl) pa_nil))))) (pw_or1 (pt_not (pt_val (pe_callB (cr_all rfl) (by rfl) T.b_all (by decide +kernel) (pa_cons (pe_lc (own := [("number", 4)]) (g := (gName 4)) (tt := tYes) rfl sc_is_lot.nd (pi_tup (pv 0)) (blkOk_by (own := [("number", 4)]) (N := ["thing", "many", "one", "other", "number"]) (sc := defScope s_is_lot) (by decide +kernel)) (fun _ _ _ _ _ => pg_name (i := 4) sc_is_lot.nd rfl (by first | exact .inl rfl | exact .inr rfl)) (fun _ _ _ _ _ => pts_nil) (fun _ _ _ _ _ => (pe_call (ok_is_within T) (hr.mono (by decide)) (by rfl) T.is_within.m T.is_within.f.kp (bd_is_within T) .nil passE (pa_cons (pv 4) (pa_cons pe_int (pa_cons (pe_op op_sub (pv 1) pe_int) pa_nil)))))) pa_nil))))))) (pss_one (ps_ret pe_bl)) pss_nil)
      (pss_one (ps_ret (pe_callB (cr_all rfl) (by rfl) T.b_all (by decide +kernel) (pa_cons (pe_lc (own := [("one", 2), ("other", 3)]) (g := (gTup K 2 (gCons (gName 2) (gCons (gName 3) gNil)))) (tt := tYes) rfl sc_is_lot.nd (RZ.pi_zipA (by rfl) T.b_zip (pa_cons (pv 0) (pa_cons (pe_slice sl_tupA (pv 0) (po_some pe_int) po_none) pa_nil))) (blkOk_by (own := [("one", 2), ("other", 3)]) (N := ["thing", "many", "one", "other", "number"]) (sc := defScope s_is_lot) (by decide +kernel)) (fun _ _ _ _ _ => pg_tup rfl (pgs_cons (pg_name (i := 2) sc_is_lot.nd rfl (by first | exact .inl rfl | exact .inr rfl)) (pgs_cons (pg_name (i := 3) sc_is_lot.nd rfl (by first | exact .inl rfl | exact .inr rfl)) pgs_nil))) (fun _ _ _ _ _ => pts_nil) (fun _ _ _ _ _ => (pe_cmpR op_lt (pv 2) (pv 3) (nomark _)))) pa_nil))))), ?_⟩
    cases hv with
    | no h =>
      obtain ⟨t, ht, kt⟩ := h.ty (K := K)
      exact ⟨_, rfl, _, _, _, _, false, rfl, .ty "tuple", ht, kit_ty kt, _, rfl, iteT (iteT (k H (fun _ _ e => e)))⟩
    | @tup a xs ha hp hl =>
    refine ⟨_, rfl, _, _, _, _, true, rfl, .ty "tuple", .base (.tup ha), kit_ty (by decide +kernel), _, rfl, iteF ⟨_, rfl, a, rfl, ⟨_, SqT.of ha⟩, fun D hD => ?_⟩⟩
    refine lcP (walk_tup (K := K) (a := a) (xs := xs)) xs (fun _ => true) (fun x => V.bl (within x 0 ((n : Int) - 1))) rfl hD (fun H' s' => SqT.of (s' _ _ ha)) (Nat.le_trans hl (by decide)) yAt_same ?_ ?_
    · rintro i x m H1 H2 N R hm s1 ⟨rfl, hx⟩ hy hn
      rw [hm] at hx
      cases hx
      refine ⟨rfl, ?_⟩
      dsimp only [tYes]
      rw [if_pos rfl]
      obtain ⟨b, hb⟩ := Fl.pl (K := K) (H := H2) (hp _ (List.mem_of_getElem? hm))
      exact ⟨_, rfl, _, rfl, _, _, rfl, rfl, _, b, _, _, rfl, hb, hy rfl _ fun _ _ e => e⟩
    · intro H1 s1 e1
      rw [filter_yes, all_map_bl] at e1
      refine ⟨D, _, rfl, SqL.of e1, ?_⟩
      rw [all_id]
      cases hc : xs.all fun x => within x 0 ((n : Int) - 1) with
      | false => exact ⟨_, rfl, iteT (q_bl (k H1 s1) (by show false = (insideB n xs && _); unfold insideB; rw [hc]; rfl))⟩
      | true =>
        have hin : insideB n xs = true := hc
        obtain ⟨ens, _⟩ := inside_nv hin
        clear hc hp
        generalize ens' : xs.map natOf = ns at ens
        subst ens
        have e0 : lotV n (some (NV ns)) = ascB ns := by
          show (insideB n (NV ns) && ascB (nats (some (NV ns)))) = _
          rw [hin, nats_NV]
          rfl
        rw [NV_len] at hl
        rw [e0] at k
        refine ⟨_, rfl, iteF ?_⟩
        have ha1 := s1 _ _ ha
        refine ⟨_, rfl, _, rfl, _, rfl, ?_⟩
        dsimp only [tNoPart]
        refine sl_tail (K := K) ha1 fun q H2 s2 e2 => ?_
        have ha2 := s2 _ _ ha1
        refine ⟨a, q, NV ns, NV ns.tail, rfl, .inr ⟨SqT.of ha2, SqT.of e2, fun D2 hD2 => ?_⟩⟩
        refine lcP (walk_zipT (K := K) (a := a) (b := q) (xs := NV ns) (ys := NV ns.tail) rfl) (pairsUp ns) (fun _ => true) (fun p => V.bl (decide (p.1 < p.2))) (by rw [NV_len, NV_len]; unfold pairsUp; rw [List.length_zip]) hD2 (fun H' s' => ⟨SqT.of (s' _ _ ha2), SqT.of (s' _ _ e2)⟩) (by unfold pairsUp; rw [List.length_zip]; omega) yPair_same ?_ ?_
        · rintro i x ⟨m1, m2⟩ H3 H4 N R hm s3 ⟨T', x1, y1, rfl, hT, rfl, h1, h2⟩ hy hn
          obtain ⟨n1, p1, rfl⟩ := NV_at h1
          obtain ⟨n2, p2, rfl⟩ := NV_at h2
          have hm' : (pairsUp ns)[i]? = some (n1, n2) := List.getElem?_zip_eq_some.mpr ⟨p1, p2⟩
          rw [hm] at hm'
          cases hm'
          refine ⟨T', _, rfl, SqT.of upd_same, rfl, _, _, rfl, _, _, rfl, rfl, rfl, ?_⟩
          dsimp only [tYes]
          rw [if_pos rfl]
          refine ⟨_, rfl, _, rfl, _, _, rfl, rfl, ?_⟩
          show R (.bl (decide ((m1 : Int) < (m2 : Int)))) _
          rw [show decide ((m1 : Int) < (m2 : Int)) = decide (m1 < m2) from decide_eq_decide.mpr (by omega)]
          exact hy rfl _ fun _ _ e => e
        · intro H3 s3 e3
          rw [filter_yes, all_map_bl] at e3
          refine ⟨D2, _, rfl, SqL.of e3, ?_⟩
          rw [all_id, pairsUp_all]
          exact k H3 (s1.trans (s2.trans s3))
theorem ok_are_in : FnOk P w K mg base (L2.CX P w) 1 T.are_in.a T.are_in.d ["frames", "others"] (spAreIn K) := by
  refine T.are_in.f.okX sc_are_in (fun vs H Q E h => ?_) (fun cdv A outer s H vs Q E hr h => ?_)
  · obtain ⟨a, b, ns, ms, rfl, _⟩ := h
    rfl
  · obtain ⟨a, b, ns, ms, rfl, ha, hl, hb, k⟩ := h
    refine ⟨_, pss_one (ps_ret (pe_callB (cr_all rfl) (by rfl) T.b_all (by decide +kernel) (pa_cons (pe_lc (own := [("frame", 2)]) (g := gName 2) (tt := tYes) rfl sc_are_in.nd (pi_tup (pv 0)) (blkOk_by (own := [("frame", 2)]) (N := ["frames", "others", "frame"]) (sc := defScope s_are_in) (by decide +kernel))
          (fun _ _ _ _ _ => pg_name (i := 2) sc_are_in.nd rfl (Or.inl rfl)) (fun _ _ _ _ _ => pts_nil) (fun _ _ _ _ _ => pe_cmpR (show OpR _ _ (rIn K false) from op_in_seq) (pv 2) (pv 1) (by rfl))) pa_nil))), ?_⟩
    refine ⟨_, rfl, a, rfl, ⟨_, SqT.of ha⟩, fun D hD => ?_⟩
    refine lcP (walk_tup (K := K) (a := a) (xs := NV ns)) ns (fun _ => true) (fun x => V.bl (inB ms x)) (NV_len ns) hD (fun H' s' => SqT.of (s' _ _ ha)) (Nat.le_trans hl (by decide)) yAt_same ?_ ?_
    · rintro i x m H1 H2 N R hm s1 ⟨rfl, hx⟩ hy hn
      rw [NV_get hm] at hx
      cases hx
      refine ⟨rfl, ?_⟩
      dsimp only [tYes]
      rw [if_pos rfl]
      refine ⟨_, rfl, _, rfl, b, _, rfl, hb.imp (fun e => SqL.of (s1 _ _ e)) (fun e => SqT.of (s1 _ _ e)), rfl, NV_flat ms, ?_⟩
      rw [if_neg Bool.false_ne_true, inV_NV]
      exact hy rfl _ fun _ _ e => e
    · intro H1 s1 e1
      rw [filter_yes, all_map_bl] at e1
      refine ⟨D, _, rfl, SqL.of e1, ?_⟩
      rw [all_id]
      exact k H1 s1
theorem ok_is_whole : FnOk P w K mg base (L2.CX P w) 4 T.is_whole.a T.is_whole.d ["web", "thing"] (spWhole K) := by
  refine T.is_whole.f.okX sc_is_whole (fun vs H Q E h => ?_) (fun cdv A outer s H vs Q E hr h => ?_)
  · obtain ⟨x, y, rows, o, rfl, _⟩ := h
    rfl
  · obtain ⟨x, y, rows, o, rfl, hw, hl, hrl, hv, k⟩ := h
    refine ⟨_, (pss_one (ps_ret (pe_and (pe_call (ok_is_lot T) (hr.mono (by decide)) (by rfl) T.is_lot.m T.is_lot.f.kp (bd_is_lot T) .nil passE (pa_cons (pv 1) (pa_cons (pe_callB call_len_seq (by rfl) T.b_len PySem.boot_len (pa_cons (pv 0) pa_nil)) pa_nil))) (pe_one (pe_callB (cr_all rfl) (by rfl) T.b_all (by decide +kernel) (pa_cons (pe_lc (own := [("frame", 2)]) (g := (gName 2)) (tt := tYes) rfl sc_is_whole.nd (pi_tup (pv 1)) (blkOk_by (own := [("frame", 2)]) (N := ["web", "thing", "frame"]) (sc := defScope s_is_whole) (by decide +kernel)) (fun _ _ _ _ _ => pg_name (i := 2) sc_is_whole.nd rfl (by first | exact .inl rfl | exact .inr rfl)) (fun _ _ _ _ _ => pts_nil) (fun _ _ _ _ _ => (pe_call (ok_are_in T) (hr.mono (by decide)) (by rfl) T.are_in.m T.are_in.f.kp (bd_are_in T) .nil passE (pa_cons (pe_ix (show IxR _ (rIx K) from ix_seq) (pv 0) (pv 2) (fun _ _ => rfl)) (pa_cons (pv 1) pa_nil))))) pa_nil)))))), ?_⟩
    obtain ⟨a, ws, rfl, ha, rl⟩ := id hw
    have hlen : ws.length = rows.length := rl.1
    refine ⟨_, rfl, _, rfl, a, ws, rfl, ha.imp SqL.of SqT.of, y, o, rows.length, by rw [hlen]; rfl, hv, fun H1 s1 => ⟨_, rfl, ?_⟩⟩
    cases hc : lotV rows.length o with
    | false => exact iteF (q_bl (k H1 s1) (by rw [hc]; rfl))
    | true =>
      obtain ⟨s, rfl, en, hs⟩ := lotV_nv hc
      rw [en] at k
      have hlt := (lotB_iff.mp hs).2
      obtain ⟨b, rfl, hb, hls⟩ : ∃ b, y = .ref b ∧ H b = some (.tup (NV s)) ∧ s.length ≤ 1000 := by
        cases hv with
        | tup e p l => exact ⟨_, rfl, e, by rw [NV_len] at l; exact l⟩
      have hb1 := s1 _ _ hb
      refine iteT ⟨_, rfl, b, rfl, ⟨_, SqT.of hb1⟩, fun D hD => ?_⟩
      refine lcP (walk_tup (K := K) (a := b) (xs := NV s)) s (fun _ => true) (fun f => V.bl ((row rows f).all (inB s))) (NV_len s) hD (fun H' s' => SqT.of (s' _ _ hb1)) (Nat.le_trans hls (by decide)) yAt_same ?_ ?_
      · rintro i x m H2 H3 N R hm s2 ⟨rfl, hx⟩ hy hn
        rw [NV_get hm] at hx
        cases hx
        refine ⟨rfl, ?_⟩
        dsimp only [tYes]
        rw [if_pos rfl]
        have hml := hlt m (List.mem_of_getElem? hm)
        have er : rows[m]? = some (row rows m) := by
          unfold row
          rw [List.getD_eq_getElem?_getD, List.getElem?_eq_getElem hml]
          rfl
        obtain ⟨p, ep, hp⟩ := (rl.same (s1.trans s2)).at_ er
        have s12 := s1.trans s2
        refine ⟨_, rfl, _, rfl, ix_either (K := K) (ha.imp (s12 _ _) (s12 _ _)) ep ⟨_, rfl, p, b, row rows m, s, rfl, hp, hrl _ (List.mem_of_getElem? er), .inr (s2 _ _ hb1), fun H4 s4 => hy rfl H4 s4⟩⟩
      · intro H2 s2 e2
        rw [filter_yes, all_map_bl] at e2
        refine ⟨D, _, rfl, SqL.of e2, ?_⟩
        rw [all_id]
        exact q_bl (k H2 (s1.trans s2)) (by rw [hc]; rfl)
end
end K45
namespace KU
open PySem PySem.W PySem.Calls PyProof.Rows PySem.HandSPX
/-! ### an own error of a value of the heap: what it says of it, whatever is being shown -/
abbrev TextAt (P : Program) (w : World) (fI cda cc : Addr) (qual f : Str) (e : Expr) (u0 : Nat) (h0 : Heap) (v : Value) : Prop :=
  ∀ (A' : Around) (E : Value → Shared → Prop) (s' : Shared) (L : Addr) (m : Str → Option Value) (Q : Value → Shared → Prop), A'.units ≤ u0 + 12 → (∀ b o, h0.get? b = some o → s'.heap.get? b = some o) → s'.heap.Ns L m → m f = some v →
    (∀ (z : Str) (t : Tok) (h' : Heap) (t' : Tok), (∀ b o, s'.heap.get? b = some o → h'.get? b = some o) → Q (.str z t) { s' with heap := h', toks := t' }) → wpAny (model P w) A' (eval e (ksEnv qual (upScope f) L fI (.ref cda) cc)) Q E s'
theorem Text.at_ {P : Program} {w : World} {fI cda cc : Addr} {qual f : Str} {e : Expr} {v : Value} (t : Text P w fI cda cc qual f e v) (u0 : Nat) (h0 : Heap) : TextAt P w fI cda cc qual f e u0 h0 v := fun A' E s' L m Q _ _ hn hm k => t A' E s' L m Q hn hm fun z t t' => k z t s'.heap t' fun _ _ e => e
/-- f'z{f}': a short text, the heap may grow -/
theorem textAt_of {P : Program} {w : World} {fI cda cc : Addr} {qual f z : Str} {j : Nat} {pc pn pf pj : Pos} {v : Value} {u0 : Nat} {h0 : Heap} (hd : f ≠ "__debug__")
    (fld : ∀ (A' : Around) (E : Value → Shared → Prop) (s' : Shared) (Q : Value → Shared → Prop), A'.units ≤ u0 + 12 → (∀ b o, h0.get? b = some o → s'.heap.get? b = some o) → (∀ (y : Str) (t : Tok) (h' : Heap) (t' : Tok), y.length ≤ 1000 → (∀ b o, s'.heap.get? b = some o → h'.get? b = some o) → Q (.str y t) { s' with heap := h', toks := t' }) → wpAny (model P w) A' (formatField v Str.empty) Q E s')
    (h1 : z.length ≤ 1000) : TextAt P w fI cda cc qual f (.JoinedStr [.Constant (.str z) j pc, .FormattedValue (.Name f pn) (-1) none pf] pj) u0 h0 v := by
  intro A' E s' L m Q hu hk hn hm k
  refine wpAny_JoinedStr ?_
  have e0 : ∀ env : Env, evalEach [.Constant (.str z) j pc, .FormattedValue (.Name f pn) (-1) none pf] env = [eval (.Constant (.str z) j pc) env, eval (.FormattedValue (.Name f pn) (-1) none pf) env] := fun _ => by first | rfl | simp [evalEach]
  rw [e0]
  have e1 : Str.empty ++ z = z := by
    show (⟨#[] ++ z.cps⟩ : Str) = z
    rw [Array.empty_append]
  have line : 2000 ≤ sizeLine := by decide
  refine Calls.Constant_str ⟨z, _, rfl, by rw [e1]; omega, ?_⟩
  rw [e1]
  refine wpAny_FormattedValue_plain (wpAny_Name (wpAny_loadName_local rfl (show (ksEnv qual (upScope f) L fI (.ref cda) cc).kindOf f = some .local from kind_f) hn hm ?_) (beq_false_of_ne hd))
  refine fld _ _ _ _ hu hk fun y t h' t' hy kp => ?_
  have h2 : (z ++ y).length ≤ sizeLine := by
    have e : (z ++ y).length = z.length + y.length := Array.size_append
    rw [e]
    omega
  exact ⟨y, t, rfl, h2, h2, k _ _ _ _ kp⟩
section
variable {prog : Program} {w : World} {A : Around} {E : Value → Shared → Prop} {s : Shared}
/-- list.__repr__, whatever is under way -/
theorem list_head_any {M : Model} {Q : Fin → Shared → Prop} {a : Addr} {o : Obj} {x : Value} {l : List Value} {n b : Nat} (hget : s.heap.get? a = some o) (hd : o.data = .seq (x :: l).toArray n)
    (h0 : Q (.done (.ret (.str "[...]" s.toks))) { s with toks := s.toks + 1 })
    (h : wpAny M A (do again (.builtin "list.__repr__.loop" ⟨[.ref a, rawInt 0, ← newList [], rawInt b], []⟩)) Q E s) : wpAny M A (Builtin.listReprAt b ⟨[.ref a], []⟩) Q E s := by
  intro Γ p hΓ
  have h1 := h Γ p hΓ
  unfold Builtin.listReprAt
  simp [slotArgs, Builtin.List.listItems, seqItems?, Sem.wp_load_of (h := hget), hd, stack]
  show Sem.wp M Γ (if (Γ.below.any _) = true then _ else _) _ _ p s
  split
  · simp [rule, retStr, ret]
    exact h0
  · exact h1
theorem list_repr_any {Q : Value → Shared → Prop} {a : Addr} {o : Obj} {x : Value} {l : List Value} {n : Nat} {ts : List Str} (ha : s.heap.get? a = some o) (hc : o.cls = .type "list") (hd : o.data = .seq (x :: l).toArray n) (hlen : ts.length = (x :: l).toArray.size)
    (hT : ∀ (i : Nat) (y : Value), (x :: l).toArray[i]? = some y → ∃ t, ts[i]? = some t ∧ ReprIs prog w y t) (hsz : (listText ts).length ≤ 900)
    (h : ∀ (m : Str) (u : Tok) (h' : Heap) (tk : Nat), m.length ≤ 1000 → (∀ b o, s.heap.get? b = some o → h'.get? b = some o) → Q (.str m u) { s with heap := h', toks := tk }) : wpAny (model prog w) A (call (.builtin "list.__repr__") [.ref a]) Q E s := by
  have line : 2000 ≤ sizeLine := by decide
  refine wpAny_call (codeAny_call_builtin F.slot_list_repr.plain F.entry_list_repr (F.slot_list_repr.check _ _ _ _ _ _ _ _ ⟨o, ha, hc⟩ (F.args_list_repr_1 _) (list_head_any (A := A.in1) (b := 0) ha hd ?_ ?_)))
  · exact h "[...]" _ s.heap _ (by decide +kernel) fun _ _ e => e
  · refine wpAny_bind (m := newList []) (wpAny_newObj_type ?_)
    refine wpAny_pure ⟨F.quiet_list_repr_loop _, ?_⟩
    refine codeAny_list_repr_start (P := s.heap.objs.size) (Nat.ne_of_lt (Heap.lt_size ha)) hlen hT (Heap.get?_push_of_some _ ha) hd (Heap.get?_push_size _ rfl) (fun h' u tk hk => ?_) (by omega)
    exact h _ u h' tk (by omega) fun b o e => hk b o (Nat.ne_of_lt (Heap.lt_size e)) (Heap.get?_push_of_some _ e)
/-- dict.__repr__ of an empty dict, whatever is under way -/
theorem dict_repr_any {Q : Value → Shared → Prop} {a : Addr} {o : Obj} {n : Nat} (ha : s.heap.get? a = some o) (hc : o.cls = .type "dict") (hd : o.data = .dict #[] n) (hsys : (a == sysModules) = false)
    (h : ∀ (m : Str) (u tk : Tok), m.length ≤ 1000 → Q (.str m u) { s with toks := tk }) : wpAny (model prog w) A (call (.builtin "dict.__repr__") [.ref a]) Q E s := by
  have hTy : s.TypeIs (.ref a) "dict" := ⟨o, ha, hc⟩
  have line : 2000 ≤ sizeLine := by decide
  refine wpAny_call (codeAny_call_builtin_own (Code.quiet_builtin _ (by decide +kernel)) F.entry_dict_repr (F.slot_dict_repr.check _ _ _ _ _ _ _ _ ⟨o, ha, hc⟩ (F.args_dict_repr_1 _) (wpOwn_of_wpAny ?_)))
  show wpAny _ _ (Builtin.dictReprAt 0 ⟨[.ref a], []⟩) _ _ s
  unfold Builtin.dictReprAt
  refine wpAny_bind ?_
  unfold Builtin.Dict.dictSlotNone
  refine wpAny_bind (wpAny_notOrdered_dict hTy ?_)
  show wpAny _ _ (pure (Value.ref a)) _ _ s
  refine wpAny_pure ?_
  rw [dictReprRunning_eq]
  refine wpAny_bind (wpAny_bind (wpAny_stack_any fun st => wpAny_pure ?_))
  generalize (st.tail.any (dictGuardF (.ref a))) = b
  cases b with
  | true =>
    refine PySem.W.KFB.if_so rfl ?_
    refine wpAny_bind (wpAny_rule ?_)
    refine wpAny_bind (wpAny_mkStr (wpAny_pure ?_) (by decide +kernel))
    exact h "{...}" _ _ (by decide +kernel)
  | false =>
    refine PySem.W.KFB.if_not rfl ?_
    show wpAny _ _ (Builtin.Dict.addrOf (.ref a) >>= _) _ _ s
    refine wpAny_bind (wpAny_pure ?_)
    show wpAny _ _ (Builtin.Dict.showsAll a >>= _) _ _ s
    unfold Builtin.Dict.showsAll
    rw [if_neg (by rw [hsys]; exact Bool.false_ne_true)]
    refine wpAny_bind (wpAny_pure ?_)
    refine wpAny_bind (wpAny_dictEpoch ha hd ?_)
    refine wpAny_bind (wpAny_dictEntries ha hd ?_)
    refine wpAny_bind ?_
    rw [Std.Legacy.Range.forIn_eq_forIn_range']
    refine wpAny_pure ?_
    refine wpAny_bind (wpAny_mkStr (wpAny_pure ?_) (by decide +kernel))
    exact h "{}" _ _ (by decide +kernel)
/-! ### in an f-string -/
theorem field_list {Q : Value → Shared → Prop} {a : Addr} {o : Obj} {x : Value} {l : List Value} {n : Nat} {ts : List Str} (hu : A.units + 2 < cLine) (ha : s.heap.get? a = some o) (hc : o.cls = .type "list") (hd : o.data = .seq (x :: l).toArray n) (hlen : ts.length = (x :: l).toArray.size)
    (hT : ∀ (i : Nat) (y : Value), (x :: l).toArray[i]? = some y → ∃ t, ts[i]? = some t ∧ ReprIs prog w y t) (hsz : (listText ts).length ≤ 900)
    (h : ∀ (m : Str) (u : Tok) (h' : Heap) (tk : Nat), m.length ≤ 1000 → (∀ b o, s.heap.get? b = some o → h'.get? b = some o) → Q (.str m u) { s with heap := h', toks := tk }) : wpAny (model prog w) A (formatField (.ref a) Str.empty) Q E s :=
  wpAny_formatField_slot (fun _ _ => nofun) hu ⟨o, ha, hc⟩ F.slot_list_format F.slot_list_str F.slot_list_repr.toG
    (list_repr_any (s := { s with toks := s.toks + 1 }) ha hc hd hlen hT hsz fun m u h' tk hm kp => ⟨m, u, rfl, h m u h' tk hm kp⟩)
theorem field_dict {Q : Value → Shared → Prop} {a : Addr} {o : Obj} {n : Nat} (hu : A.units + 2 < cLine) (ha : s.heap.get? a = some o) (hc : o.cls = .type "dict") (hd : o.data = .dict #[] n) (hsys : (a == sysModules) = false)
    (h : ∀ (m : Str) (u tk : Tok), m.length ≤ 1000 → Q (.str m u) { s with toks := tk }) : wpAny (model prog w) A (formatField (.ref a) Str.empty) Q E s :=
  wpAny_formatField_slot (fun _ _ => nofun) hu ⟨o, ha, hc⟩ F.slot_dict_format F.slot_dict_str F.slot_dict_repr
    (dict_repr_any (s := { s with toks := s.toks + 1 }) ha hc hd hsys fun m u tk hm => ⟨m, u, rfl, h m u tk hm⟩)
theorem field_tuple {Q : Value → Shared → Prop} {a : Addr} {o : Obj} {items : Array Value} {n : Nat} {ts : List Str} (hu : A.units + 2 < cLine) (ha : s.heap.get? a = some o) (hc : o.cls = .type "tuple") (hd : o.data = .seq items n) (hT : ReprAll prog w items.toList ts) (hsz : (tupleText ts).length ≤ 900)
    (h : ∀ (m : Str) (u tk : Tok), m.length ≤ 1000 → Q (.str m u) { s with toks := tk }) : wpAny (model prog w) A (formatField (.ref a) Str.empty) Q E s := by
  have line : 2000 ≤ sizeLine := by decide
  exact fmt_tuple hu ha hc hd hT (by omega) fun m u tk hm => h m u tk (by omega)
end
end KU
namespace KU
open PySem PySem.Spec PyProof.Rows L2
section
variable {X : Cx} {C fI cda cc : Addr} {qual f x : Str} {e : Expr}
/-- x(a), x the class's name, of any value that can be told -/
def tMkUpH (P : Program) (w : World) (T : Heap → Value → Prop) (C : Addr) (f : Str) (ta : TA) : L2.St → Hp → XK → Prop := fun σ H Q => ta σ H fun vs H1 => ∃ v, vs = [v] ∧ (∀ (h0 : Heap) v', HOk P w H1 h0 → RelV v v' → T h0 v') ∧ ∀ d, H1 d = none → Q (.ref C) (some d) (upd H1 d (.xd [(f, v)]))
theorem pmk_upH {a : Expr} {ta : TA} {p pos : Pos} {k : Nat} (T : UpTxt X.prog X.K C fI cda cc qual f e) (gC : X.mg x = some (.ref C)) (hr : Room k X.A) (ha : PA X [a] ta) (hg : Gl X x) (hdb : (x == ("__debug__" : Str)) = false := by decide)
    (he : starEach (a :: []) X.env = (false, eval a X.env) :: starEach [] X.env := by rfl) (hpl : (backTo pos (starEach [] X.env)).any (·.1) = false := by rfl) :
    PMk X (.Call (.Name x p) [a] [] pos) (tMkUpH X.prog X.w (fun h0 v => ∀ u0, u0 + 14 < cLine → TextAt X.prog X.w fI cda cc qual f e u0 h0 v) C f ta) := by
  intro pins s σ H Q I h
  refine wpAny_Call_Name_kw (ld_glob I hg gC ?_ hdb)
  refine PySem.W.callWith_K (h₀ := X.base) I.ok.mod.kin T.kC (thn (ha.run pos pins s σ H _ I h) fun us s1 hh => ?_) he hpl
  obtain ⟨vs, H1, I1, r1, v, rfl, ht, q1⟩ := hh
  refine ⟨I1.kIn, ?_⟩
  cases r1 with
  | cons rv rn =>
    rename_i v' us'
    cases rn
    show wpAny _ _ (call (.ref C) [v']) _ _ _
    obtain ⟨mb, b1, b2⟩ := I1.mod.blt
    have lim := I1.nolimit
    have glob := I1.mod.glob.keeps I1.bk
    have blt := b1.keeps I1.bk
    have dp := hr.dp
    have un := hr.un
    have hok := I1.hok
    obtain ⟨hp, g, dr, tk, os⟩ := s1
    refine wpAny_call (up_made T I1.kIn lim glob blt b2 (by omega) (ht _ v' hok rv X.A.units (by omega)) fun h' tk' a' d M => ?_)
    show MkP X pins σ Q (.ref a') ⟨h', g, dr, tk', os⟩
    obtain ⟨oe, fv, hoe, hc, hd, hdat, one⟩ := M.obj
    obtain ⟨G, in_, out⟩ := restrict h' fun b => decide (b ≠ a')
    have same : ∀ b, b ≠ a' → G.get? b = h'.get? b := fun b hb => in_ b (decide_eq_true hb)
    have gone : G.get? a' = none := out a' (by simp)
    have stay : ∀ b o, hp.get? b = some o → G.get? b = some o := fun b o z => (same b (Nat.ne_of_lt (Nat.lt_of_lt_of_le (Heap.lt_size z) M.new))).trans (M.keep b o z)
    have own : ObjOk X.prog X.w (upd H1 d (.xd [(f, v)])) G d (.xd [(f, v)]) := ⟨_, M.ns.at (fun o z => (same d M.ne).trans z), fun y => relO_up rv y⟩
    have J : Inv X pins σ (upd H1 d (.xd [(f, v)])) ⟨G, g, dr, tk', os⟩ := I1.laid (t' := tk') stay M.big own
    refine ⟨a', oe, fv, ⟨G, g, dr, tk', os⟩, _, .ref C, some d, rfl, J, fun b o z => ?_, gone, hoe, ⟨hc, hd⟩, hdat, one, ?_, rfl, I1.bare, raises_own T.exC T.tyC, q1 d (I1.hok.fresh M.big)⟩
    · have hb : b ≠ a' := fun y => by
        rw [y] at z
        exact absurd (gone.symm.trans z) (by simp)
      exact (same b hb).symm.trans z
    · rw [upd_ne (Ne.symm M.ne)]
      exact I1.hok.fresh M.new
/-- raise x(a) -/
theorem ps_raiseUpH {a : Expr} {ta : TA} {W : WX} {p pos pos2 : Pos} {k : Nat} (hc : X.calm = true) (T : UpTxt X.prog X.K C fI cda cc qual f e) (gC : X.mg x = some (.ref C)) (hr : Room k X.A) (tk : Takes X W) (ha : PA X [a] ta) (hg : Gl X x) (hdb : (x == ("__debug__" : Str)) = false := by decide)
    (he : starEach (a :: []) X.env = (false, eval a X.env) :: starEach [] X.env := by rfl) (hpl : (backTo pos (starEach [] X.env)).any (·.1) = false := by rfl) :
    PS X (.Raise (some (.Call (.Name x p) [a] [] pos)) none pos2) (fun _ σ H => tMkUpH X.prog X.w (fun h0 v => ∀ u0, u0 + 14 < cLine → TextAt X.prog X.w fI cda cc qual f e u0 h0 v) C f ta σ H fun cls d H' => W cls d σ H') := ps_raise hc tk (pmk_upH T gC hr ha hg hdb he hpl)
/-- a value of some kind that an error may tell of -/
inductive Sy (H : Hp) : V → Prop where
  | non : Sy H .non
  | zero : Sy H (.int 0)
  | str (y : Str) (h : y.length ≤ 100) : Sy H (.str y)
  | tup {a : Addr} {y : Str} (e : H a = some (.tup [.str y])) (h : (tupleText [reprText y]).length ≤ 900) : Sy H (.ref a)
  | lst {a : Addr} {y : Str} (e : H a = some (.lst [.str y])) (h : (listText [reprText y]).length ≤ 900) : Sy H (.ref a)
  | dK {a : Addr} (e : H a = some (.dK [])) : Sy H (.ref a)
theorem Sy.text {P : Program} {w : World} {H : Hp} {v : V} (s : Sy H v) {fI cda cc : Addr} {qual f z : Str} {j : Nat} {pc pn pf pj : Pos} (hd : f ≠ "__debug__") (h1 : z.length ≤ 1000) {h0 : Heap} {v' : Value} (ok : HOk P w H h0) (r : RelV v v') (u0 : Nat) (hu : u0 + 14 < cLine) :
    TextAt P w fI cda cc qual f (.JoinedStr [.Constant (.str z) j pc, .FormattedValue (.Name f pn) (-1) none pf] pj) u0 h0 v' := by
  have line : 2000 ≤ sizeLine := by decide
  cases s with
  | non =>
    obtain rfl : v' = Value.none := r
    exact textAt_of hd (fun A' E s' Q _ _ k => wpAny_formatField_none (k "None" _ s'.heap _ (by decide +kernel) fun _ _ e => e)) h1
  | zero =>
    obtain ⟨t, rfl⟩ := r
    exact textAt_of hd (fun A' E s' Q _ _ k => wpAny_formatField_int (by decide) (k _ _ s'.heap _ (by decide +kernel) fun _ _ e => e)) h1
  | str y h =>
    obtain ⟨t, rfl⟩ := r
    exact textAt_of hd (fun A' E s' Q _ _ k => wpAny_formatField_str (k _ _ s'.heap s'.toks (by omega) fun _ _ e => e) (k _ _ s'.heap _ (by omega) fun _ _ e => e) (by omega)) h1
  | tup e h =>
    obtain rfl : v' = Value.ref _ := r
    obtain ⟨_, its, rv, o, ho, hc, n, hdd⟩ := ok _ _ e
    obtain ⟨u, rfl, ru⟩ := vals1 rv
    obtain ⟨t, rfl⟩ := ru
    refine textAt_of hd (fun A' E s' Q hu' kp k => field_tuple (by omega) (kp _ _ ho) hc hdd (.cons (ReprIs.str _ t (Nat.le_trans (tupleText_mem_le (List.mem_singleton.mpr rfl)) (by omega))) .nil) h fun m u tk hm => k m u s'.heap tk hm fun _ _ e => e) h1
  | lst e h =>
    obtain rfl : v' = Value.ref _ := r
    obtain ⟨_, its, n, rv, ho⟩ := ok _ _ e
    obtain ⟨u, rfl, ru⟩ := vals1 rv
    obtain ⟨t, rfl⟩ := ru
    refine textAt_of hd (fun A' E s' Q hu' kp k => field_list (by omega) (kp _ _ ho) rfl rfl (ts := [_]) rfl (fun i y hy => ?_) h fun m u h' tk hm kp' => k m u h' tk hm kp') h1
    rcases i with _ | i
    · have hy := Option.some.inj hy
      subst hy
      exact ⟨_, rfl, ReprIs.str _ t (Nat.le_trans (listText_mem_le (List.mem_singleton.mpr rfl)) (by omega))⟩
    · simp at hy
  | dK e =>
    obtain rfl : v' = Value.ref _ := r
    obtain ⟨_, hsys, vs, rv, o, es, ep, ho, ed, hdd, ko, pr, nd⟩ := ok _ _ e
    cases rv
    have ee : es = #[] := by
      obtain ⟨l⟩ := es
      have pr : Pairs _ l [] := pr
      cases pr
      rfl
    subst ee
    exact textAt_of hd (fun A' E s' Q hu' kp k => field_dict (by omega) (kp _ _ ho) ed.1 hdd hsys fun m u tk hm => k m u s'.heap tk hm fun _ _ e => e) h1
end
end KU
/-! a text and a dict are not equal; x in texts, x of any kind that an error may tell of -/
namespace KEQ
open PySem PySem.Spec PyProof.Rows L2
open AutoSeq1 (wpAny_loadPart')
open SeqAt MeetsSeq MeetsSeq2 MeetsSeq3 SeqRoads2
theorem sub_dict_str : isSubtype (.type "dict") (.type "str") = pure false := by rw [isSubtype_type]; kernel_rfl
theorem str_eq_declines_dict (b : Str) (u : Tok) (l : Addr) (es : Array DictEntry) (n : Nat) (dd : Option Addr) (sl : Array (Option Value)) :
    Meets (Builtin.«str.__eq__» ⟨[.str b u, .ref l], []⟩) (fun _ R s => s.heap.get? l = some { cls := .type "dict", dict := dd, data := .dict es n, slots := sl } ∧ R (.ok (.ret .notImplemented)) s) :=
  .of_wp fun prog w A R s h => by obtain ⟨hp, g, d, tk, os⟩ := s; obtain ⟨hl, h⟩ := h; have f1 := sub_dict_str; wp_walk using wpAny_loadPart' hl, wpAny_load hl; exact ⟨_, rfl, h⟩
theorem dict_eq_declines_str (l : Addr) (es : Array DictEntry) (n : Nat) (dd : Option Addr) (sl : Array (Option Value)) (b : Str) (u : Tok) :
    Meets (Builtin.«dict.__eq__» ⟨[.ref l, .str b u], []⟩) (fun _ R s => s.heap.get? l = some { cls := .type "dict", dict := dd, data := .dict es n, slots := sl } ∧ R (.ok (.ret .notImplemented)) s) :=
  .of_wp fun prog w A R s h => by obtain ⟨hp, g, d, tk, os⟩ := s; obtain ⟨hl, h⟩ := h; have f1 := F.sub_str_dict; wp_walk using wpAny_loadPart' hl; exact ⟨_, rfl, h⟩
section
variable {A : Around} {s : Shared}
theorem rc_str_dict {l : Addr} {o : Obj} {es : Array DictEntry} {n : Nat} (b : Str) (u : Tok) (ho : s.heap.get? l = some o) (hc : o.cls = .type "dict") (hd : o.data = .dict es n) (hu : A.units < cLine) : RcAt A s (.str b u) (.ref l) false := fun prog w E Q h => by
  obtain ⟨cls, dd, data, sl⟩ := o
  simp only at hc hd
  subst hc hd
  exact rc_eq_decline_or (k := false) (typeIs_str s b u) ⟨_, ho, rfl⟩ (by decide) sub_dict_str F.slot_str_eq F.slot_dict_eq_refl
    (fun _ hq => call_meets F.slot_str_eq (typeIs_str s b u) F.entry_str_eq (F.args_str_eq_2 _ _) (str_eq_declines_dict b u l es n dd sl) ⟨ho, hq⟩)
    (fun _ hq => call_meets F.slot_dict_eq_refl ⟨_, ho, rfl⟩ F.entry_dict_eq (F.args_dict_eq_2 _ _) (dict_eq_declines_str l es n dd sl b u) ⟨ho, hq⟩)
    (fun _ hq => wpAny_of_eq (rfl : isSame (.str b u) (.ref l) = pure false) hq) (.inr hu) h
theorem eq_str_dict {l : Addr} {o : Obj} {es : Array DictEntry} {n : Nat} (b : Str) (u : Tok) (ho : s.heap.get? l = some o) (hc : o.cls = .type "dict") (hd : o.data = .dict es n) (hu : A.units < cLine) : EqAt A s (.str b u) (.ref l) false := fun prog w E Q h => by
  unfold eqBool
  refine wpAny_holding ?_
  refine wpAny_ite_split (fun hab => absurd (eq_of_beq hab) nofun) (fun _ => ?_)
  exact wpAny_bind (rc_str_dict b u ho hc hd hu prog w E _ (wpAny_truthy_bool h))
end
/-- x is one of these texts -/
def inY (x : V) (ms : List Str) : Bool := match x with
  | .str z => ms.any fun y => y == z
  | _ => false
def eY (x : V) : Value → Bool
  | .str b _ => (match x with | .str z => b == z | _ => false)
  | _ => false
theorem any_eY {x : V} : ∀ {ms : List Str} {its : List Value}, Vals (ms.map V.str) its → its.any (eY x) = inY x ms
  | [], [], _ => by cases x <;> rfl
  | m :: ms, _, .cons r t => by
    obtain ⟨k, rfl⟩ := r
    rw [List.any_cons, any_eY t]
    cases x with
    | str z =>
      show ((m == z) || (ms.any fun y => y == z)) = ((m :: ms).any fun y => y == z)
      rw [List.any_cons]
    | _ => rfl
theorem eY_at {X : Cx} {A : Around} {pins : List (Addr × Obj)} {σ : L2.St} {H : Hp} {s : Shared} {x : V} {v : Value} (I : Inv X pins σ H s) (rx : RelV x v) (sy : KU.Sy H x) (hu : A.units < cLine) {b : Str} {u : Tok} : EqAt A s (.str b u) v (eY x (.str b u)) := by
  cases sy with
  | non =>
    obtain rfl : v = Value.none := rx
    exact EqAt.str_none b u
  | zero =>
    obtain ⟨t, rfl⟩ := rx
    exact EqAt.str_int b u _ _
  | str y h =>
    obtain ⟨t, rfl⟩ := rx
    exact EqAt.str_str b u _ _
  | tup e h =>
    obtain rfl : v = Value.ref _ := rx
    obtain ⟨_, its, rv, tt⟩ := I.hok _ _ e
    exact EqAt.str_tuple b u tt hu
  | lst e h =>
    obtain rfl : v = Value.ref _ := rx
    obtain ⟨its, rv, pl, _⟩ := I.list (SqL.of e)
    exact EqAt.str_list b u pl.isList hu
  | dK e =>
    obtain rfl : v = Value.ref _ := rx
    obtain ⟨_, hsys, vs, rv, o, es, ep, ho, ed, hdd, _⟩ := I.hok _ _ e
    exact eq_str_dict b u ho ed.1 hdd hu
def rNotInY (K : PySem.W.Frag) : R2 := fun x y H Q => ∃ p ms, y = .ref p ∧ SqL K H p (ms.map V.str) ∧ KU.Sy H x ∧ Q (.bl (!inY x ms)) H
theorem op_notInY {X : Cx} (hu : X.A.units + 65 < cLine) : OpR X (compareOp .NotIn) (rNotInY X.K) := by
  intro pins s σ H x y v u Q I rx ry h
  obtain ⟨p, ms, rfl, hq, sy, q⟩ := h
  cases ry
  obtain ⟨its, r, pl, hz⟩ := I.list hq
  refine SeqAt.notIn_listAt (eY x) pl.isList (fun w hw => ?_) ⟨.bl _, H, I, rfl, ?_⟩
  · have hw : w ∈ its := by simpa using hw
    obtain ⟨i, hi, e⟩ := List.mem_iff_getElem.mp hw
    have hi2 : i < (ms.map V.str).length := by rw [r.length]; exact hi
    obtain ⟨w', e1, r1⟩ := r.get (i := i) (List.getElem?_eq_getElem hi2)
    rw [List.getElem?_eq_getElem hi] at e1
    have e2 := Option.some.inj e1
    rw [e] at e2
    subst e2
    rw [List.getElem_map] at r1
    obtain ⟨t, rfl⟩ := r1
    exact eY_at I rx sy (by show X.A.units + 1 < cLine; omega)
  · rw [show its.toArray.any (eY x) = its.any (eY x) by simp, any_eY r]
    exact q
end KEQ
namespace K45
open PySem PySem.Spec PyProof.Rows L2 PySem.W LamX KA KW KU KL KT
open Evl (pss_cut tCut)
/-! ### webs are checked -/
/-- what is known of the error of a web -/
structure BadWebT (P : Program) (w : World) (K : PySem.W.Frag) (mg : Str → Option Value) (R : Addr) where
  C : Addr
  fI : Addr
  cda : Addr
  cc : Addr
  e : Expr
  g : mg "BadWeb" = some (.ref C)
  u : UpTxt P K C fI cda cc "BadWeb.__init__" "at" e
  r : PySem.W.subIn K (.ref C) (.ref R) = some true
  x : ExcC K C
  sayN : Text P w fI cda cc "BadWeb.__init__" "at" e .none
  sayI : ∀ (i : Nat) (t : Tok), i ≤ 1000 → Text P w fI cda cc "BadWeb.__init__" "at" e (.int (i : Int) t)
theorem bw_exm {P : Program} {w : World} {K : PySem.W.Frag} {mg : Str → Option Value} (R : ReelT K mg) (S : BadWebT P w K mg R.C) : PySem.W.exmOne K (.ref S.C) (.ref R.C) = some true := PySem.W.exm_ref R.b R.d R.t S.r
/-- neither a list nor a tuple -/
inductive Ns (H : Hp) : V → Prop where
  | int (i : Int) : Ns H (.int i)
  | bl (b : Bool) : Ns H (.bl b)
  | str (s : Str) : Ns H (.str s)
  | non : Ns H .non
  | dK {a : Addr} {kvs : List (Key × V)} (e : H a = some (.dK kvs)) : Ns H (.ref a)
theorem Ns.keep {H H' : Hp} {x : V} (h : Ns H x) (s : Same H H') : Ns H' x := by
  cases h with
  | int i => exact .int i
  | bl i => exact .bl i
  | str i => exact .str i
  | non => exact .non
  | dK e => exact .dK (s _ _ e)
/-- a list or a tuple of values that may be sets of frames -/
def Rvs (K : PySem.W.Frag) (H : Hp) (ws : List V) (os : List (Option (List V))) : Prop := ws.length = os.length ∧ ∀ (i : Nat) (v : V), ws[i]? = some v → ∃ o, os[i]? = some o ∧ Rv K H v o
theorem Rvs.keep {K : PySem.W.Frag} {H H' : Hp} {ws : List V} {os : List (Option (List V))} (h : Rvs K H ws os) (s : Same H H') : Rvs K H' ws os := ⟨h.1, fun i v e => (h.2 i v e).imp fun o q => ⟨q.1, q.2.keep s⟩⟩
/-- a value as a web -/
inductive Web (K : PySem.W.Frag) (H : Hp) : V → Option (List (Option (List V))) → Prop where
  | no {x : V} (h : Ns H x) : Web K H x none
  | some {a : Addr} {ws : List V} {os : List (Option (List V))} (e : H a = some (.lst ws) ∨ H a = some (.tup ws)) (r : Rvs K H ws os) : Web K H (.ref a) (some os)
theorem Web.keep {K : PySem.W.Frag} {H H' : Hp} {x : V} {o : Option (List (Option (List V)))} (h : Web K H x o) (s : Same H H') : Web K H' x o := by
  cases h with
  | no h => exact .no (h.keep s)
  | some e r => exact .some (e.imp (s _ _) (s _ _)) (r.keep s)
abbrev okV (os : List (Option (List V))) (i : Nat) : Option (List V) := os.getD i none
def rowsOf (os : List (Option (List V))) : List (List Nat) := os.map nats
def badV (os : List (Option (List V))) (i : Nat) : Bool := !(lotV os.length (okV os i)) || inB (nats (okV os i)) i
def webV : Option (List (Option (List V))) → At
  | none => .whole
  | some os => if ¬ (1 ≤ os.length ∧ os.length ≤ 10) then .whole else match (List.range os.length).find? (badV os) with
    | some i => .frame i
    | none => if runs (rowsOf os) os.length [] = true then .good else .whole
theorem okV_at {os : List (Option (List V))} {i : Nat} {o : Option (List V)} (h : os[i]? = some o) : okV os i = o := by
  show os.getD i none = o
  rw [List.getD_eq_getElem?_getD, h]
  rfl
theorem row_of (os : List (Option (List V))) (i : Nat) : row (rowsOf os) i = nats (okV os i) := by
  show (os.map nats).getD i [] = nats (os.getD i none)
  rw [List.getD_eq_getElem?_getD, List.getD_eq_getElem?_getD, List.getElem?_map]
  cases os[i]? <;> rfl
theorem Rvs.rl {K : PySem.W.Frag} {H : Hp} {ws : List V} {os : List (Option (List V))} {n : Nat} (h : Rvs K H ws os) (hg : ∀ j, j < os.length → lotV n (okV os j) = true) : RL NV H ws (rowsOf os) ∧ ∀ r ∈ rowsOf os, r.length ≤ 1000 := by
  refine ⟨⟨by unfold rowsOf; rw [List.length_map]; exact h.1, fun i v e => ?_⟩, fun r hr => ?_⟩
  · obtain ⟨o, eo, hv⟩ := h.2 i v e
    have g := hg i (List.getElem?_eq_some_iff.mp eo).1
    rw [okV_at eo] at g
    obtain ⟨ns, rfl, en, _⟩ := lotV_nv g
    refine ⟨ns, by unfold rowsOf; rw [List.getElem?_map, eo]; exact congrArg some en, ?_⟩
    cases hv with
    | tup e p l => exact ⟨_, rfl, e⟩
  · obtain ⟨o, ho, rfl⟩ := List.mem_map.mp hr
    obtain ⟨i, hi⟩ := List.getElem?_of_mem ho
    have g := hg i (List.getElem?_eq_some_iff.mp hi).1
    rw [okV_at hi] at g
    obtain ⟨ns, rfl, en, _⟩ := lotV_nv g
    rw [en]
    obtain ⟨v, hv⟩ : ∃ v, ws[i]? = some v := ⟨_, List.getElem?_eq_getElem (h.1 ▸ (List.getElem?_eq_some_iff.mp hi).1)⟩
    obtain ⟨o', eo', q⟩ := h.2 i v hv
    rw [hi] at eo'
    cases eo'
    cases q with
    | tup e p l => rw [NV_len] at l; exact l
/-- a good web as any value -/
theorem web_wv {K : PySem.W.Frag} {H : Hp} {x : V} {rows : List (List Nat)} (h : Wv H x rows) (l : ∀ r ∈ rows, r.length ≤ 1000) : Web K H x (some (rows.map fun r => some (NV r))) := by
  obtain ⟨a, ws, rfl, e, r⟩ := h
  refine Web.some e ⟨by rw [List.length_map]; exact r.1, fun i v e => ?_⟩
  obtain ⟨p, ns, rfl, en, hp⟩ := r.get e
  exact ⟨_, by rw [List.getElem?_map, en]; rfl, .nv hp (l _ (List.mem_of_getElem? en))⟩
theorem okV_wv {rows : List (List Nat)} {i : Nat} (h : i < rows.length) : okV (rows.map fun r => some (NV r)) i = some (NV (row rows i)) := by
  show (rows.map _).getD i none = some (NV (rows.getD i []))
  rw [List.getD_eq_getElem?_getD, List.getD_eq_getElem?_getD, List.getElem?_map, List.getElem?_eq_getElem h]
  rfl
theorem rowsOf_wv (rows : List (List Nat)) : rowsOf (rows.map fun r => some (NV r)) = rows := by
  unfold rowsOf
  rw [List.map_map]
  exact (List.map_congr_left (fun r _ => nats_NV r)).trans (List.map_id _)
theorem find_same {p q : Nat → Bool} : ∀ l : List Nat, (∀ i ∈ l, p i = q i) → l.find? p = l.find? q
  | [], _ => rfl
  | i :: l, h => by
    rw [List.find?_cons, List.find?_cons, h i List.mem_cons_self, find_same l fun j hj => h j (List.mem_cons_of_mem _ hj)]
theorem webV_wv (rows : List (List Nat)) : webV (some (rows.map fun r => some (NV r))) = webAns (some rows) := by
  have e : (List.range rows.length).find? (badV (rows.map fun r => some (NV r))) = (List.range rows.length).find? (badAt rows) := find_same _ fun i hi => by
    have hi := List.mem_range.mp hi
    unfold badV badAt
    rw [okV_wv hi, lotV_NV, nats_NV, List.length_map]
  show (if ¬ (1 ≤ (rows.map _).length ∧ (rows.map _).length ≤ 10) then At.whole else match (List.range (rows.map _).length).find? (badV (rows.map _)) with | some i => At.frame i | none => if runs (rowsOf (rows.map _)) (rows.map _).length [] = true then At.good else At.whole) = (if ¬ (1 ≤ rows.length ∧ rows.length ≤ 10) then At.whole else match (List.range rows.length).find? (badAt rows) with | some i => At.frame i | none => if runs rows rows.length [] = true then At.good else At.whole)
  rw [List.length_map, e, rowsOf_wv]
theorem webV_good {o : Option (List (Option (List V)))} (h : webV o = .good) : ∃ os, o = some os ∧ 1 ≤ os.length ∧ os.length ≤ 10 ∧ (∀ j, j < os.length → badV os j = false) := by
  cases o with
  | none => cases h
  | some os =>
    rw [webV] at h
    split at h
    · cases h
    · rename_i c
      have c := Decidable.not_not.mp c
      split at h
      · cases h
      · rename_i e
        exact ⟨os, rfl, c.1, c.2, fun j hj => Bool.eq_false_iff.mpr (List.find?_eq_none.mp e j (List.mem_range.mpr hj))⟩
/-- what is good stands as sets of frames -/
theorem web_good {K : PySem.W.Frag} {H : Hp} {x : V} {o : Option (List (Option (List V)))} (h : Web K H x o) (g : webV o = .good) : ∃ rows, Wv H x rows ∧ (∃ os, o = some os ∧ rows = rowsOf os) ∧ 1 ≤ rows.length ∧ rows.length ≤ 10 ∧ (∀ r ∈ rows, r.length ≤ 1000) := by
  obtain ⟨os, rfl, l1, l2, hb⟩ := webV_good g
  cases h with
  | @some a ws _ e r =>
    obtain ⟨q1, q2⟩ := r.rl (n := os.length) fun j hj => by
      have := hb j hj
      unfold badV at this
      rw [Bool.or_eq_false_iff] at this
      simpa using this.1
    have el : (rowsOf os).length = os.length := List.length_map _
    exact ⟨rowsOf os, ⟨a, ws, rfl, e, q1⟩, ⟨os, rfl, rfl⟩, by omega, by omega, q2⟩
def webX : At → V
  | .frame i => .int (i : Int)
  | _ => .non
def spCheckWeb (K : PySem.W.Frag) (CB : Addr) : Sp := fun vs H Q E => ∃ x o, vs = [x] ∧ Web K H x o ∧ (webV o = .good → ∀ H', Same H H' → Q .non H') ∧ (webV o ≠ .good → ∀ H' d, Same H H' → H' d = none → E (.ref CB) (some d) (upd H' d (.xd [("at", webX (webV o))])))
theorem kit_two {K : PySem.W.Frag} {t a b : String} {x y : Bool} (e1 : kitB t a = some x) (e2 : kitB t b = some y) : PySem.W.kitAny K (.type t) [.type a, .type b] = some (x || y) := by
  unfold PySem.W.kitAny
  rw [kit_ty e1]
  cases x
  · show (match PySem.W.kitOne K (.type t) (.type b) with | some true => some true | some false => some false | none => none) = _
    rw [kit_ty e2]
    cases y <;> rfl
  · rfl
theorem Ns.ty {K : PySem.W.Frag} {H : Hp} {x : V} (h : Ns H x) : ∃ t : String, TyX K H x (.type t) ∧ PySem.W.kitAny K (.type t) [.type "list", .type "tuple"] = some false := by
  cases h with
  | int i => exact ⟨"int", .base (.int i), kit_two (x := false) (y := false) (by decide +kernel) (by decide +kernel)⟩
  | bl i => exact ⟨"bool", .base (.bl i), kit_two (x := false) (y := false) (by decide +kernel) (by decide +kernel)⟩
  | str i => exact ⟨"str", .base (.str i), kit_two (x := false) (y := false) (by decide +kernel) (by decide +kernel)⟩
  | non => exact ⟨"NoneType", .base .non, kit_two (x := false) (y := false) (by decide +kernel) (by decide +kernel)⟩
  | dK e => exact ⟨"dict", .base (.dK e), kit_two (x := false) (y := false) (by decide +kernel) (by decide +kernel)⟩
section
variable {P : Program} {w : World} {K : PySem.W.Frag} {mg : Str → Option Value} {base : Heap} (T : Top K mg) (BW : BadWebT P w K mg T.reel.C)
theorem ok_check_web : FnOk P w K mg base (L2.CX P w) 4 T.check_web.a T.check_web.d ["web"] (spCheckWeb K BW.C) := by
  refine T.check_web.f.okX sc_check_web (fun vs H Q E h => ?_) (fun cdv A outer s H vs Q E hr h => ?_)
  · obtain ⟨x, o, rfl, _⟩ := h
    rfl
  · obtain ⟨x, o, rfl, hw, k1, k2⟩ := h
    obtain ⟨tF, hcF⟩ := T.cMOST_FRAMES
    refine ⟨_, (pss_cons (ps_if (PW.pt (pw_or (pt_not (pt_val (pe_callB (show CallR _ _ (rIsiT K) from call_isiT) (by rfl) T.b_isinstance PyProof.Rows.boot_isinstance (pa_cons (pv 0) (pa_cons (pe_tup (pa_cons (pe_bltn (v := .ty "list") (by rfl) T.b_list (by decide +kernel) rfl) (pa_cons (pe_bltn (v := .ty "tuple") (by rfl) T.b_tuple (by decide +kernel) rfl) pa_nil))) pa_nil))))) (pw_or1 (pt_not (pt_chain op_le op_le pe_int (pe_callB call_len_seq (by rfl) T.b_len PySem.boot_len (pa_cons (pv 0) pa_nil)) (pe_glob (v := .int 10) (by rfl) hcF ⟨_, rfl⟩)))))) (pss_one (ps_raiseUp rfl BW.u BW.g hr (takes_of rfl rfl rfl rfl) (pa_cons pe_non pa_nil) (by rfl))) pss_nil)
      (pss_cons (ps_for (passes_of rfl) rfl (KEN.pi_enumS (by rfl) T.b_enumerate (pa_cons (pv 0) pa_nil)) (pg_tup rfl (pgs_cons (pg_name (i := 1) sc_check_web.nd rfl (by first | exact .inl rfl | exact .inr rfl)) (pgs_cons (pg_name (i := 2) sc_check_web.nd rfl (by first | exact .inl rfl | exact .inr rfl)) pgs_nil)))
        (pss_one (ps_if (PW.pt (pw_or (pt_not (pt_val (pe_call (ok_is_lot T) (hr.mono (by decide)) (by rfl) T.is_lot.m T.is_lot.f.kp (bd_is_lot T) .nil passE (pa_cons (pv 2) (pa_cons (pe_callB call_len_seq (by rfl) T.b_len PySem.boot_len (pa_cons (pv 0) pa_nil)) pa_nil))))) (pw_or1 (pt_cmpR (show OpR _ _ (rIn K false) from op_in_seq) (pv 1) (pv 2) (by rfl))))) (pss_one (ps_raiseUp rfl BW.u BW.g hr (takes_of rfl rfl rfl rfl) (pa_cons (pv 1) pa_nil) (by rfl))) pss_nil)))
      (pss_cons (ps_set (i := 3) sc_check_web.nd rfl (by first | exact .inl rfl | exact .inr rfl) (pe_lst pa_nil))
      (pss_one (ps_while (passes_of rfl) (pt_cmpR op_lt (pe_callB call_len_seq (by rfl) T.b_len PySem.boot_len (pa_cons (pv 3) pa_nil)) (pe_callB call_len_seq (by rfl) T.b_len PySem.boot_len (pa_cons (pv 0) pa_nil)) (nomark _))
        (pss_cons (ps_setLc (i := 4) (own := [("frame", 1)]) (g := (gName 1)) rfl sc_check_web.nd rfl rfl (sw_true rfl rfl rfl (by decide +kernel)) (pi_range1 (by rfl) T.b_range (pa_cons (pe_callB call_len_seq (by rfl) T.b_len PySem.boot_len (pa_cons (pv 0) pa_nil)) pa_nil)) (blkOk_by (own := [("frame", 1)]) (N := ["web", "frame", "row", "told", "ready"]) (sc := defScope s_check_web) (by decide +kernel)) (fun _ _ _ _ _ => pg_name (i := 1) sc_check_web.nd rfl (by first | exact .inl rfl | exact .inr rfl)) (fun _ _ _ _ _ => pts_one (PW.pt (pw_and (pt_cmpR (show OpR _ _ (rIn K true) from op_notIn_seq) (pv 1) (pv 3) (by rfl)) (pw_and1 (pt_val (pe_call (ok_are_in T) (hr.mono (by decide)) (by rfl) T.are_in.m T.are_in.f.kp (bd_are_in T) .nil passE (pa_cons (pe_ix (show IxR _ (rIx K) from ix_seq) (pv 0) (pv 1) (fun _ _ => rfl)) (pa_cons (pv 3) pa_nil)))))))) (fun _ _ _ _ _ => (pv 1)))
      (pss_cons (ps_if (pt_cmpR (op_eqD hr.units) (pv 4) (pe_lst pa_nil) (nomark _)) (pss_one (ps_raiseUp rfl BW.u BW.g hr (takes_of rfl rfl rfl rfl) (pa_cons pe_non pa_nil) (by rfl))) pss_nil)
      (pss_one (ps_expr (pe_bm PySem.F.plainAttrs_list PySem.F.slot_list_extend PySem.F.type_list_extend mt_extend (pv 3) (pa_cons (pv 4) pa_nil))))))))))), ?_⟩
    cases hw with
    | @no x hn =>
      refine ⟨_, rfl, (by show 2 ≤ sizeLine; decide), fun z hz => ?_⟩
      have tz := Same.new (o := .tup [V.ty "list", .ty "tuple"]) hz
      obtain ⟨t, ht, kt⟩ := (hn.keep tz).ty (K := K)
      refine ⟨x, z, _, _, _, _, rfl, upd_same, .cons (.ty "list") (.cons (.ty "tuple") .nil), ht, kt, _, rfl, ?_⟩
      refine iteT (iteT ⟨_, rfl, fun v' r => ?_, fun d hd => k2 (by show At.whole ≠ At.good; decide) _ d tz hd⟩)
      cases r
      exact BW.sayN
    | @some a ws os ha rl =>
      have hlen := rl.1
      refine ⟨_, rfl, (by show 2 ≤ sizeLine; decide), fun z hz => ?_⟩
      have tz := Same.new (o := .tup [V.ty "list", .ty "tuple"]) hz
      obtain ⟨t, ht, kt⟩ : ∃ t, TyX K (upd H z (.tup [V.ty "list", .ty "tuple"])) (.ref a) (.type t) ∧ PySem.W.kitAny K (.type t) [.type "list", .type "tuple"] = some true := by
        rcases ha with ha | ha
        · exact ⟨_, .base (.lst (tz _ _ ha)), kit_two (x := true) (y := false) (by decide +kernel) (by decide +kernel)⟩
        · exact ⟨_, .base (.tup (tz _ _ ha)), kit_two (x := false) (y := true) (by decide +kernel) (by decide +kernel)⟩
      refine ⟨.ref a, z, _, _, _, _, rfl, upd_same, .cons (.ty "list") (.cons (.ty "tuple") .nil), ht, kt, _, rfl, iteF ⟨_, rfl, a, ws, rfl, ha.imp (fun e => SqL.of (tz _ _ e)) (fun e => SqT.of (tz _ _ e)), 1, ((ws.length : Nat) : Int), rfl, rfl, _, rfl, ?_⟩⟩
      clear ht kt t
      generalize upd H z (.tup [V.ty "list", .ty "tuple"]) = Hz at tz
      have few : ¬ (1 ≤ os.length ∧ os.length ≤ 10) → webV (some os) = .whole := fun q => by
        show (if ¬ (1 ≤ os.length ∧ os.length ≤ 10) then At.whole else _) = _
        rw [if_pos q]
      by_cases c1 : (1 : Int) ≤ ((ws.length : Nat) : Int)
      case neg =>
        rw [decide_eq_false c1]
        have e := few (by omega)
        refine iteF ⟨_, rfl, iteT ⟨_, rfl, fun v' r => ?_, fun d hd => ?_⟩⟩
        · cases r
          exact BW.sayN
        · have := k2 (by rw [e]; decide) _ d tz hd
          rw [e] at this
          exact this
      rw [decide_eq_true c1]
      refine iteT ⟨((ws.length : Nat) : Int), 10, rfl, rfl, _, rfl, ?_⟩
      by_cases c2 : ((ws.length : Nat) : Int) ≤ 10
      case neg =>
        rw [decide_eq_false c2]
        have e := few (by omega)
        refine iteT ⟨_, rfl, fun v' r => ?_, fun d hd => ?_⟩
        · cases r
          exact BW.sayN
        · have := k2 (by rw [e]; decide) _ d tz hd
          rw [e] at this
          exact this
      rw [decide_eq_true c2]
      have nn : 1 ≤ os.length ∧ os.length ≤ 10 := ⟨by omega, by omega⟩
      have ans : webV (some os) = match (List.range os.length).find? (badV os) with
          | some i => At.frame i
          | none => if runs (rowsOf os) os.length [] = true then .good else .whole := by
        show (if ¬ (1 ≤ os.length ∧ os.length ≤ 10) then At.whole else _) = _
        rw [if_neg (fun q => q nn)]
        all_goals (cases (List.range os.length).find? (badV os) <;> rfl)
      refine iteF ⟨_, rfl, a, ws, rfl, ha.imp (fun e => SqL.of (tz _ _ e)) (fun e => SqT.of (tz _ _ e)), fun J G wk hG => for_it wk (fun i σ H' => (∃ v1 v2, σ = [some (.ref a), v1, v2, none, none]) ∧ Same Hz H' ∧ ∀ j, j < i → badV os j = false) ⟨⟨none, none, rfl⟩, fun _ _ e => e, fun j hj => absurd hj (Nat.not_lt_zero _)⟩ (fun i σ H' _ p => hG H' p.2.1) ?_ ?_⟩
      · rintro i x σ Hq Hr hi ⟨⟨v1, v2, rfl⟩, sq, hb⟩ ⟨T', x1, y1, rfl, hT, rfl, h1, h2⟩
        cases h1
        have rq := rl.keep (tz.trans sq)
        obtain ⟨o, eo, hv⟩ := rq.2 _ _ h2
        have tT := Same.new (o := .tup [V.int ((i : Nat) : Int), y1]) hT
        have hi' : i < os.length := hlen ▸ hi
        have ern : okV os i = o := okV_at eo
        refine ⟨T', _, rfl, SqT.of upd_same, rfl, _, _, rfl, _, _, rfl, rfl, ?_⟩
        have tq := (tz.trans sq).trans tT
        refine ⟨_, rfl, _, rfl, a, ws, rfl, ha.imp (fun e => SqL.of (tq _ _ e)) (fun e => SqT.of (tq _ _ e)), y1, o, os.length, by rw [hlen]; rfl, hv.keep tT, fun H2 s2 => ⟨_, rfl, ?_⟩⟩
        have s02 : Same H H2 := tq.trans s2
        have bad : badV os i = true → webV (some os) = .frame i := fun z => by
          rw [ans, find_range _ hi' z hb]
        have raise : badV os i = true → ∀ d, H2 d = none → E (.ref BW.C) (some d) (upd H2 d (.xd [("at", V.int ((i : Nat) : Int))])) := fun z d hd => by
          have e := bad z
          have := k2 (by rw [e]; exact fun q => nomatch q) _ d s02 hd
          rw [e] at this
          exact this
        have say : ∀ v', RelV (V.int ((i : Nat) : Int)) v' → Text P w BW.fI BW.cda BW.cc "BadWeb.__init__" "at" BW.e v' := fun v' r => by
          obtain ⟨t, rfl⟩ := r
          exact BW.sayI i t (by omega)
        cases hc : lotV os.length o with
        | false => exact iteT (iteT ⟨_, rfl, _, rfl, say, raise (by unfold badV; rw [ern, hc]; rfl)⟩)
        | true =>
          obtain ⟨ns, rfl, en, hns⟩ := lotV_nv hc
          obtain ⟨p, rfl, hp⟩ : ∃ p, y1 = .ref p ∧ Hq p = some (.tup (NV ns)) := by
            cases hv with
            | tup e p l => exact ⟨_, rfl, e⟩
          refine iteF ⟨_, rfl, _, rfl, p, _, rfl, .inr (SqT.of (s2 _ _ (tT _ _ hp))), rfl, NV_flat ns, ?_⟩
          rw [if_neg Bool.false_ne_true, inV_NV]
          refine ⟨_, rfl, ?_⟩
          cases ho : inB ns i with
          | true => exact iteT ⟨_, rfl, _, rfl, say, raise (by unfold badV; rw [ern, hc, en, ho]; rfl)⟩
          | false =>
            refine iteF ⟨⟨_, _, rfl⟩, (sq.trans tT).trans s2, fun j hj => ?_⟩
            by_cases ej : j = i
            · subst ej
              unfold badV
              rw [ern, hc, en, ho]
              rfl
            · exact hb j (by omega)
      · rintro σ H1 ⟨⟨v1, v2, rfl⟩, s1, hb⟩
        rw [hlen] at hb
        have fn : (List.range os.length).find? (badV os) = none := List.find?_eq_none.mpr fun j hj => by
          rw [hb j (List.mem_range.mp hj)]
          exact Bool.false_ne_true
        rw [fn] at ans
        have rlr := rl.rl (n := os.length) fun j hj => by
          have := hb j hj
          unfold badV at this
          rw [Bool.or_eq_false_iff] at this
          simpa using this.1
        have el : (rowsOf os).length = os.length := List.length_map _
        have ans : webV (some os) = if runs (rowsOf os) (rowsOf os).length [] = true then .good else .whole := by rw [el]; exact ans
        have nn : (rowsOf os).length ≤ 10 := by omega
        have hlen : ws.length = (rowsOf os).length := hlen.trans el.symm
        generalize rowsOf os = rows at rlr ans nn hlen
        obtain ⟨rl, l2⟩ := rlr
        have s01 : Same H H1 := tz.trans s1
        refine ⟨(by show 0 ≤ sizeLine; decide), fun q hq => ?_⟩
        have whole : runs rows rows.length [] = false → ∀ H' d, Same H H' → H' d = none → E (.ref BW.C) (some d) (upd H' d (.xd [("at", V.non)])) := fun z H' d s' hd => by
          have e : webV (some os) = .whole := by
            rw [ans, z, if_neg Bool.false_ne_true]
          have := k2 (by rw [e]; decide) _ d s' hd
          rw [e] at this
          exact this
        refine ⟨fun μ σ' H2 => ∃ v1 v2 v4, σ' = [some (.ref a), v1, v2, some (.ref q), v4] ∧ ∃ told : List Nat, H2 q = some (.lst (NV told)) ∧ Same H1 H2 ∧ told.length ≤ 1000 ∧ rows.length ≤ told.length + μ ∧ runs rows rows.length [] = runs rows μ told,
          ⟨rows.length, v1, v2, none, rfl, [], upd_same, Same.new hq, Nat.zero_le _, by simp, rfl⟩, ?_⟩
        rintro μ σ' H2 ⟨v1, v2, v4, rfl, told, eq, s2, tl, tm, er⟩
        have s02 := s01.trans s2
        refine ⟨_, rfl, q, _, rfl, .inl (SqL.of eq), _, rfl, a, ws, rfl, ha.imp (fun e => SqL.of (s02 _ _ e)) (fun e => SqT.of (s02 _ _ e)), _, _, rfl, rfl, _, rfl, ?_⟩
        rw [NV_len, hlen]
        by_cases ct : told.length < rows.length
        case neg =>
          rw [show decide (((told.length : Nat) : Int) < ((rows.length : Nat) : Int)) = false from decide_eq_false (by omega)]
          refine iteF (k1 ?_ H2 s02)
          rw [ans]
          have : runs rows μ told = true := by
            cases μ with
            | zero => rfl
            | succ μ => rw [runs, if_pos (by omega)]
          rw [er, this, if_pos rfl]
        rw [show decide (((told.length : Nat) : Int) < ((rows.length : Nat) : Int)) = true from decide_eq_true (by omega)]
        obtain ⟨μ, rfl⟩ : ∃ ν, μ = ν + 1 := ⟨μ - 1, by omega⟩
        refine iteT ⟨fun σ' H' => ∃ v1 v2 v4, σ' = [some (.ref a), v1, v2, some (.ref q), v4] ∧ ∃ told : List Nat, H' q = some (.lst (NV told)) ∧ Same H1 H' ∧ told.length ≤ 1000 ∧ rows.length ≤ told.length + μ ∧ runs rows rows.length [] = runs rows μ told,
          fun σ' H' h => ⟨μ, Nat.lt_succ_self _, h⟩, ?_⟩
        refine ⟨_, rfl, a, ws, rfl, ha.imp (fun e => SqL.of (s02 _ _ e)) (fun e => SqT.of (s02 _ _ e)), _, rfl, by omega, by omega, ?_⟩
        rw [Int.toNat_natCast]
        intro D hD
        refine lcP (walk_rangeN (n := ws.length)) (List.range rows.length) (fun f => !(inB told f) && (row rows f).all (inB told)) (fun f => V.int ((f : Nat) : Int)) (by rw [List.length_range, hlen]) hD (fun _ _ => trivial) (by rw [List.length_range]; omega) yFn_same ?_ ?_
        · rintro i x f H3 H4 N R hf s3 ⟨rfl, rfl⟩ hy hn
          obtain ⟨rfl, hfl⟩ := range_at hf
          refine ⟨rfl, ?_⟩
          have s23 := s02.trans s3
          have eq3 := s3 _ _ eq
          refine ⟨_, rfl, _, rfl, q, _, rfl, .inl (SqL.of eq3), rfl, NV_flat told, ?_⟩
          rw [if_pos rfl, inV_NV]
          cases c : inB told f with
          | true => exact ⟨_, rfl, iteF (hn (by rw [c]; rfl) _ fun _ _ e => e)⟩
          | false =>
            have er : rows[f]? = some (row rows f) := by
              unfold row
              rw [List.getD_eq_getElem?_getD, List.getElem?_eq_getElem hfl]
              rfl
            obtain ⟨p, ep, hp⟩ := (rl.same s23).at_ er
            refine ⟨_, rfl, iteT ⟨_, rfl, _, rfl, ix_either (K := K) (ha.imp (s23 _ _) (s23 _ _)) ep ⟨_, rfl, p, q, row rows f, told, rfl, hp, l2 _ (List.mem_of_getElem? er), .inl eq3, fun H5 s5 => ⟨_, rfl, ?_⟩⟩⟩⟩
            cases c2 : (row rows f).all (inB told) with
            | true => exact iteT ⟨_, rfl, hy (by rw [c, c2]; rfl) _ s5⟩
            | false => exact iteF (hn (by rw [c, c2]; rfl) _ s5)
        · intro H3 s3 e3
          have e3 : H3 D = some (.lst (NV (readyL rows told))) := e3
          have s03 := s02.trans s3
          refine ⟨_, rfl, (by show 0 ≤ sizeLine; decide), fun z2 hz2 => ?_⟩
          have t4 := Same.new (o := .lst []) hz2
          have e4 := t4 _ _ e3
          have q4 := t4 _ _ (s3 _ _ eq)
          have s13 := (s2.trans s3).trans t4
          have s04 := s03.trans t4
          refine ⟨_, _, dp_int_list (by rw [← NV_ints]; exact e4), dp_nil upd_same, shaped_is _, shaped_nil, _, rfl, ?_⟩
          rw [eqv_ints_nil]
          generalize upd H3 z2 (.lst []) = H4 at t4 e4 q4 s13 s04
          cases hR : readyL rows told with
          | nil =>
            refine iteT ⟨_, rfl, fun v' r => ?_, fun d hd => whole ?_ _ d s04 hd⟩
            · cases r
              exact BW.sayN
            · rw [er, runs, if_neg (by omega), if_pos hR]
          | cons f fs =>
            rw [hR] at e4
            have hfl : (f :: fs).length ≤ rows.length := by
              rw [← hR]
              refine Nat.le_trans (List.length_filter_le _ _) ?_
              rw [List.length_range]
              exact Nat.le_refl _
            refine iteF ⟨_, rfl, .inl ⟨rfl, _, SqL.of q4⟩, _, rfl, q, D, NV told, NV (f :: fs), rfl, rfl, q4, e4, ?_, ?_⟩
            · rw [NV_len, NV_len]
              exact Nat.le_trans (show _ ≤ 2000 by omega) (by decide)
            · refine ⟨v1, v2, _, rfl, told ++ (f :: fs), ?_, ?_, ?_, ?_, ?_⟩
              · rw [upd_same]
                unfold NV
                rw [List.map_append]
              · exact Same.put s13 hq
              · rw [List.length_append]
                omega
              · rw [List.length_append, List.length_cons]
                omega
              · rw [er, runs, if_neg (by omega), if_neg (by rw [hR]; exact List.cons_ne_nil _ _), hR]
end
end K45
namespace K45
open PySem PySem.Spec PyProof.Rows L2 PySem.W LamX KA KW KU KL KT
open Evl (pss_cut tCut)
/-! ### gains are checked -/
theorem Pl.num {K : PySem.W.Frag} {H : Hp} {x : V} {b : Bool} (h : Pl K H x b) (lo hi : Int) : b = false → within x lo hi = false := by
  intro e
  subst e
  cases h <;> rfl
/-- a value as gains -/
inductive Gn (K : PySem.W.Frag) (H : Hp) : V → Option (List V) → Prop where
  | no {x : V} (h : Ns H x) : Gn K H x none
  | some {a : Addr} {xs : List V} (e : H a = some (.lst xs) ∨ H a = some (.tup xs)) (p : ∀ x ∈ xs, Fl x) (l : xs.length ≤ 1000) : Gn K H (.ref a) (some xs)
theorem Gn.keep {K : PySem.W.Frag} {H H' : Hp} {x : V} {o : Option (List V)} (h : Gn K H x o) (s : Same H H') : Gn K H' x o := by
  cases h with
  | no h => exact .no (h.keep s)
  | some e p l => exact .some (e.imp (s _ _) (s _ _)) p l
def numsB (n : Nat) (lo hi : Int) : Option (List V) → Bool
  | none => false
  | some xs => decide (xs.length = n) && xs.all fun x => within x lo hi
section
variable {P : Program} {w : World} {K : PySem.W.Frag} {mg : Str → Option Value} {base : Heap} (T : Top K mg) (BW : BadWebT P w K mg T.reel.C)
end
end K45
namespace K45
open PySem PySem.Spec L2
/-! ### orders in time, what is kept -/
variable {rows : List (List Nat)}
def topB (rows : List (List Nat)) (l : List Nat) : Bool := (List.range l.length).all fun t => !(inB (l.take t) (l.getD t 0)) && (row rows (l.getD t 0)).all (inB (l.take t))
def soonB (p : Int) (l : List Nat) : Bool := (List.range l.length).all fun t : Nat => decide ((t : Int) ≤ p + ((l.getD t 0 : Nat) : Int))
def timeB (rows : List (List Nat)) (p : Int) (l : List Nat) : Bool := (List.range l.length).all fun t : Nat => !(inB (l.take t) (l.getD t 0)) && ((row rows (l.getD t 0)).all (inB (l.take t)) && decide ((t : Int) ≤ p + ((l.getD t 0 : Nat) : Int)))
theorem timeB_eq (rows : List (List Nat)) (p : Int) (l : List Nat) : timeB rows p l = (topB rows l && soonB p l) := by
  rw [Bool.eq_iff_iff, Bool.and_eq_true]
  unfold timeB topB soonB
  rw [List.all_eq_true, List.all_eq_true, List.all_eq_true]
  constructor
  · intro h
    refine ⟨fun t ht => ?_, fun t ht => ?_⟩
    · have := h t ht
      rw [Bool.and_eq_true, Bool.and_eq_true] at this
      rw [Bool.and_eq_true]
      exact ⟨this.1, this.2.1⟩
    · have := h t ht
      rw [Bool.and_eq_true, Bool.and_eq_true] at this
      exact this.2.2
  · rintro ⟨h1, h2⟩ t ht
    have := h1 t ht
    rw [Bool.and_eq_true] at this
    rw [Bool.and_eq_true, Bool.and_eq_true]
    exact ⟨this.1, this.2, h2 t ht⟩
theorem getD_at {l : List Nat} {t x : Nat} (h : l[t]? = some x) : l.getD t 0 = x := by rw [List.getD_eq_getElem?_getD, h]; rfl
theorem soonB_iff {p : Int} {l : List Nat} : soonB p l = true ↔ ∀ (t x : Nat), l[t]? = some x → (t : Int) - x ≤ p := by
  unfold soonB
  rw [List.all_eq_true]
  constructor
  · intro h t x e
    have := of_decide_eq_true (h t (List.mem_range.mpr (List.getElem?_eq_some_iff.mp e).1))
    rw [getD_at e] at this
    omega
  · intro h t ht
    have e := List.getElem?_eq_getElem (List.mem_range.mp ht)
    have := h t _ e
    rw [getD_at e]
    exact decide_eq_true (by omega)
theorem Tpl.inv {m : List Nat} (h : Tpl rows m) : ∀ {l : List Nat} {o : Nat}, m = l ++ [o] → Tpl rows l ∧ o < rows.length ∧ o ∉ l ∧ ∀ x ∈ row rows o, x ∈ l := by
  intro l o e
  cases h with
  | nil => simp at e
  | snoc h ho hn hr =>
    obtain ⟨e1, e2⟩ := List.append_inj' e rfl
    cases e1
    cases e2
    exact ⟨h, ho, hn, hr⟩
theorem topB_iff {l : List Nat} : topB rows l = true ∧ (∀ x ∈ l, x < rows.length) ↔ Tpl rows l := by
  constructor
  · rintro ⟨h, hl⟩
    have : ∀ k, k ≤ l.length → Tpl rows (l.take k) := by
      intro k
      induction k with
      | zero => exact fun _ => .nil
      | succ k ih =>
        intro hk
        have hk : k < l.length := hk
        have e := List.getElem?_eq_getElem hk
        rw [List.take_add_one, e]
        unfold topB at h
        rw [List.all_eq_true] at h
        have := h k (List.mem_range.mpr hk)
        rw [getD_at e, Bool.and_eq_true, all_inB] at this
        refine .snoc (ih (by omega)) (hl _ (List.getElem_mem hk)) (fun q => ?_) this.2
        rw [inB_iff.mpr q] at this
        exact absurd this.1 (by decide)
    have := this l.length (Nat.le_refl _)
    rw [List.take_length] at this
    exact this
  · intro h
    refine ⟨?_, h.lt⟩
    unfold topB
    rw [List.all_eq_true]
    intro t ht
    have ht := List.mem_range.mp ht
    have e := List.getElem?_eq_getElem ht
    have q := (h.take (t + 1)).inv (by rw [List.take_add_one, e]; rfl)
    rw [getD_at e, Bool.and_eq_true, all_inB]
    refine ⟨?_, q.2.2.2⟩
    rw [Bool.eq_false_iff.mpr fun z => q.2.2.1 (inB_iff.mp z)]
    rfl
def inTime (rows : List (List Nat)) (p : Int) : Option (List V) → Bool
  | none => false
  | some xs => decide (xs.length = rows.length) && (insideB rows.length xs && timeB rows p (xs.map natOf))
theorem inTime_some {p : Int} {xs : List V} : inTime rows p (some xs) = true ↔ ∃ l, xs = NV l ∧ l ∈ ords rows ∧ ∀ (t x : Nat), l[t]? = some x → (t : Int) - x ≤ p := by
  show (decide (xs.length = rows.length) && (insideB rows.length xs && timeB rows p (xs.map natOf))) = true ↔ _
  rw [Bool.and_eq_true, Bool.and_eq_true, decide_eq_true_eq, timeB_eq, Bool.and_eq_true, soonB_iff]
  constructor
  · rintro ⟨h1, h2, h3, h4⟩
    obtain ⟨e, hl⟩ := inside_nv h2
    refine ⟨_, e, mem_ords.mpr ⟨topB_iff.mp ⟨h3, hl⟩, by rw [List.length_map]; exact h1⟩, h4⟩
  · rintro ⟨l, rfl, h, h4⟩
    obtain ⟨h1, h2⟩ := mem_ords.mp h
    have e : (NV l).map natOf = l := nats_NV l
    rw [e, NV_len]
    refine ⟨h2, ?_, (topB_iff.mpr h1).1, h4⟩
    rw [inside_NV, List.all_eq_true]
    exact fun x hx => decide_eq_true (h1.lt x hx)
theorem NV_inj {a b : List Nat} (h : NV a = NV b) : a = b := by
  have := congrArg (fun l => nats (some l)) h
  rw [nats_NV, nats_NV] at this
  exact this
theorem inTime_ord {p : Int} {line : List Nat} (h : line ∈ ords rows) (h0 : 0 ≤ p) : inTime rows p (some (NV line)) = decide (lag line ≤ p) := by
  rw [Bool.eq_iff_iff, inTime_some, decide_eq_true_eq, lag_le]
  constructor
  · rintro ⟨l, e, _, q⟩
    rw [NV_inj e]
    exact ⟨h0, q⟩
  · exact fun q => ⟨line, rfl, h, q.2⟩
theorem inTime_twenty {xs : List V} (hn : rows.length ≤ 10) : inTime rows 20 (some xs) = true ↔ ∃ l, xs = NV l ∧ l ∈ ords rows := by
  rw [inTime_some]
  refine ⟨fun ⟨l, a, b, _⟩ => ⟨l, a, b⟩, fun ⟨l, a, b⟩ => ⟨l, a, b, fun t x e => ?_⟩⟩
  have := (List.getElem?_eq_some_iff.mp e).1
  rw [(mem_ords.mp b).2] at this
  omega
/-- frames on which another leans that isn't there -/
def outB (rows : List (List Nat)) (told : List Nat) (f : Nat) : Bool := (List.range rows.length).any fun m => !(inB told m) && inB (row rows m) f
def needL (rows : List (List Nat)) (told : List Nat) : List Nat := ((List.range rows.length).filter fun m => !(inB told m)).flatMap (row rows)
theorem inB_need (told : List Nat) (f : Nat) : inB (needL rows told) f = outB rows told f := by
  rw [Bool.eq_iff_iff, inB_iff]
  unfold needL outB
  rw [List.mem_flatMap, List.any_eq_true]
  constructor
  · rintro ⟨m, hm, hf⟩
    rw [List.mem_filter] at hm
    exact ⟨m, hm.1, by rw [Bool.and_eq_true]; exact ⟨hm.2, inB_iff.mpr hf⟩⟩
  · rintro ⟨m, hm, hf⟩
    rw [Bool.and_eq_true] at hf
    exact ⟨m, List.mem_filter.mpr ⟨hm, hf.1⟩, inB_iff.mp hf.2⟩
def keepB (rows : List (List Nat)) (p : Int) (told : List Nat) (f : Nat) : Bool := decide (p + f > (told.length : Int) - 1) || outB rows told f
def keptL (rows : List (List Nat)) (p : Int) (told : List Nat) : List Nat := told.filter (keepB rows p told)
def manyK (rows : List (List Nat)) (p : Int) (line : List Nat) : List Int := (List.range line.length).map fun t : Nat => ((keptL rows p (inOrder rows.length (line.take (t + 1)))).length : Int)
def mostK (rows : List (List Nat)) (p : Int) (line : List Nat) : Int := maxI (manyK rows p line)
end K45
namespace KST
open PySem PySem.Spec PyProof.Rows L2 PySem.W
/-! ### sorted(xs), xs a list of pairs of ints: in their order -/
def pairLe (p q : Int × Int) : Prop := p.1 < q.1 ∨ (p.1 = q.1 ∧ p.2 ≤ q.2)
theorem each_refs : ∀ (bs : List (Addr × Int × Int)) {us : List Value}, Vals (bs.map fun b => V.ref b.1) us → EachIs (fun v (b : Addr × Int × Int) => v = Value.ref b.1) us bs
  | [], _, r => by cases r; exact .nil
  | b :: bs, _, r => by
    cases r with
    | cons r1 r2 => exact .cons r1 (each_refs bs r2)
theorem refs_each : ∀ {us : List Value} {bs : List (Addr × Int × Int)}, EachIs (fun v (b : Addr × Int × Int) => v = Value.ref b.1) us bs → Vals (bs.map fun b => V.ref b.1) us
  | _, _, .nil => .nil
  | _, _, .cons h t => .cons h (refs_each t)
def enc (b : Addr × Int × Int) : PyData := .tuple [.int b.2.1, .int b.2.2]
theorem pair_uniq : ∀ (xs ys : List (Int × Int)), xs.Perm ys → xs.Pairwise pairLe → ys.Pairwise pairLe → xs = ys
  | [], ys, p, _, _ => by rw [List.nil_perm.mp p]
  | x :: xs, ys, p, h1, h2 => by
    cases ys with
    | nil => exact absurd p.length_eq (by simp)
    | cons y ys =>
      have e : x = y := by
        have m1 : x ∈ y :: ys := p.mem_iff.mp List.mem_cons_self
        have m2 : y ∈ x :: xs := p.symm.mem_iff.mp List.mem_cons_self
        rcases List.mem_cons.mp m1 with z | z
        · exact z
        · rcases List.mem_cons.mp m2 with z2 | z2
          · exact z2.symm
          · have a := (List.pairwise_cons.mp h2).1 x z
            have b := (List.pairwise_cons.mp h1).1 y z2
            unfold pairLe at a b
            obtain ⟨x1, x2⟩ := x
            obtain ⟨y1, y2⟩ := y
            simp only [Prod.mk.injEq]
            dsimp only at a b
            omega
      subst e
      rw [pair_uniq xs ys (List.Perm.cons_inv p) (List.pairwise_cons.mp h1).2 (List.pairwise_cons.mp h2).2]
section
variable {X : Cx}
def rSortedT (K : PySem.W.Frag) : List V → Hp → VK → Prop := fun vs H Q => ∃ (a : Addr) (bs : List (Addr × Int × Int)), vs = [V.ref a] ∧ SqL K H a (bs.map fun b => V.ref b.1) ∧ (∀ b ∈ bs, H b.1 = some (.tup [.int b.2.1, .int b.2.2])) ∧
  ∀ (bs' : List (Addr × Int × Int)) (q : Addr), bs'.Perm bs → (bs'.map (·.2)).Pairwise pairLe → H q = none → Q (.ref q) (upd H q (.lst (bs'.map fun b => V.ref b.1)))
theorem cr_sortedT (hu : X.A.units + 4 < cLine) : CallR X (.builtin "sorted") (rSortedT X.K) := by
  intro pins s σ H vs us Q I r h
  obtain ⟨a, bs, rfl, hs, hx, q⟩ := h
  obtain ⟨its, rv, hl, hz⟩ := I.list hs
  rw [Vals.ref1 r]
  have e := each_refs bs rv
  have lb : its.length = bs.length := by
    have := rv.length
    rw [List.length_map] at this
    exact this.symm
  have er : EachIs (fun v b => ∃ as, Reads s.heap v (enc b) as) its bs := by
    have go : ∀ (cs : List (Addr × Int × Int)) (ws : List Value), (∀ b ∈ cs, b ∈ bs) → EachIs (fun v (b : Addr × Int × Int) => v = Value.ref b.1) ws cs → EachIs (fun v b => ∃ as, Reads s.heap v (enc b) as) ws cs := by
      intro cs ws hm e
      induction e with
      | nil => exact .nil
      | @cons v b vs bs' h1 t ih =>
        refine .cons ?_ (ih fun b hb => hm b (List.mem_cons_of_mem _ hb))
        exact Dp.reads I (enc b) (.ref b.1) v (.tup (SqT.of (hx b (hm b List.mem_cons_self))) (.cons (.int _) (.cons (.int _) .nil))) h1
    exact go bs its (fun _ h => h) e
  refine sorted_data (enc := enc) (R := fun v (b : Addr × Int × Int) => v = Value.ref b.1) hl.isList e er (AllAlike.of fun _ _ => by simp [alike, alikeAll, enc]) (Sortable.tuples fun _ => ⟨_, _, rfl⟩) (by rw [← lb, ← rv.length]; exact hz) (fun b _ => ?_) fun out lo eo => ?_
  · show X.A.units + 2 + (PyData.tuple [.int b.2.1, .int b.2.2]).depth < cLine
    have : (PyData.tuple [.int b.2.1, .int b.2.2]).depth ≤ 1 := by simp [PyData.depth, PyData.depthAll]
    omega
  · have en : dataLe false enc = fun p q : Addr × Int × Int => decide (p.2.1 < q.2.1 ∨ (p.2.1 = q.2.1 ∧ p.2.2 ≤ q.2.2)) := dataLe_ii (fun b : Addr × Int × Int => b.2.1) (fun b => b.2.2)
    obtain ⟨ep, he'⟩ := PyProof.Rows.sortedAll_at s.heap its out.toArray
    have pm := List.mergeSort_perm bs (dataLe false enc)
    have pw : ((bs.mergeSort (dataLe false enc)).map (·.2)).Pairwise pairLe := by
      rw [List.pairwise_map, en]
      refine (List.pairwise_mergeSort (fun a b c h1 h2 => ?_) (fun a b => ?_) bs).imp fun h => ?_
      · simp only [decide_eq_true_eq] at h1 h2 ⊢
        omega
      · simp only [Bool.or_eq_true, decide_eq_true_eq]
        omega
      · exact (decide_eq_true_eq (p := _ ∨ _)).mp h
    refine ⟨.ref _, upd H (s.heap.objs.size + 1) (.lst ((bs.mergeSort (dataLe false enc)).map fun b => V.ref b.1)), I.laid (t' := s.toks) (fun _ _ => PyProof.Rows.sortedAll_old) (Nat.le_succ _) ⟨?_, out, ep, refs_each eo, he'⟩, rfl, q _ _ pm pw (I.hok.fresh (Nat.le_succ _))⟩
    rw [List.length_map, pm.length_eq, ← lb, ← rv.length]
    exact hz
end
end KST
namespace KSL
open PySem PySem.Spec PyProof.Rows L2 PySem.W
/-! ### set(xs), xs a list of ints -/
theorem call_set_listI {P : Program} {w : World} {A : Around} {E : Value → Shared → Prop} {s : Shared} {l : Addr} {items : Array Value} (ns : List Int) {Q : Value → Shared → Prop}
    (hh : A.handled = none) (hl : s.heap.IsList l items) (hit : IntsAre items.toList ns) (hb : ns.length + 1 < scanBound)
    (h : ∀ (h' : Heap) (tk c : Nat), SetR w h' s.heap.objs.size (fun j => decide (j ∈ ns)) c → c ≤ ns.length → (∀ (b : Addr) (o : Obj), s.heap.get? b = some o → h'.get? b = some o) →
      Q (Value.ref s.heap.objs.size) { heap := h', gens := s.gens, drawn := s.drawn, toks := tk, os := s.os }) :
    wpAny (model P w) A (call (Value.type "set") [Value.ref l]) Q E s := by
  have hisz : items.size = ns.length := by
    have q := hit.length
    rw [Array.length_toList] at q
    exact q
  obtain ⟨c, tl, hmro⟩ := F.called_set.mro
  have hmade := F.called_set.made
  have hsub := F.called_set.sub
  refine wpAny_call (codeAny_of_tree (wpAny_pure ⟨Code.quiet_builtin _ (by kernel_rfl), codeAny_builtin F.entry_type_call ?_⟩))
  rw [Around.under_plain (weight_type_call_type "set" [Value.ref l] []) rfl]
  have h1 := F.called_set.notType
  have h2 := F.called_set.canCreate
  have hct := F.typeCall_set_1 (Value.ref l)
  show wpAny _ _ (Builtin.«type.__call__» ⟨[Value.type "set", Value.ref l], []⟩) _ _ _
  unfold Builtin.«type.__call__»
  dsimp only
  refine wpAny_ite_false (Eq.refl _) (wpAny_ite_false (Eq.refl _) (wpAny_bind (wpAny_of_eq hct ?_)))
  refine wpAny_bind (wpAny_of_eq hmro ?_)
  refine wpAny_ite_false (Eq.refl _) (wpAny_bind (wpAny_of_eq hmade ?_))
  refine wpAny_bind (wpAny_pure ?_)
  refine wpAny_bind (wpAny_holding (wpAny_call (codeAny_mono (code_set_led1 (E := E) (Q₁ := fun obj s₁ => obj = Value.ref s.heap.objs.size ∧ s₁ = { heap := s.heap.push { cls := Value.type "set", data := Data.set #[] 0 (SetTable.fresh 0 0 !w.params.followText "set-order") }, gens := s.gens, drawn := s.drawn, toks := s.toks, os := s.os }) (Value.ref l) ⟨rfl, rfl⟩) fun r s₁ hr => ?_)))
  cases r with
  | error e => exact hr
  | ok fl =>
  cases fl with
  | ret obj =>
    obtain ⟨rfl, rfl⟩ := hr
    have hS : (s.heap.push { cls := Value.type "set", data := Data.set #[] 0 (SetTable.fresh 0 0 !w.params.followText "set-order") }).get? s.heap.objs.size = some { cls := Value.type "set", data := Data.set #[] 0 (SetTable.fresh 0 0 !w.params.followText "set-order") } := Heap.get?_push_size _ rfl
    have hT : Shared.TypeIs { heap := s.heap.push { cls := Value.type "set", data := Data.set #[] 0 (SetTable.fresh 0 0 !w.params.followText "set-order") }, gens := s.gens, drawn := s.drawn, toks := s.toks, os := s.os } (Value.ref s.heap.objs.size) "set" := ⟨_, hS, rfl⟩
    have hli := F.called_set.init.lookup
    have hbi := F.called_set.init.bind (Value.ref s.heap.objs.size)
    dsimp only
    refine wpAny_bind (wpAny_isInstance hT hsub (wpAny_ite_false (Eq.refl _) ?_))
    refine wpAny_bind (wpAny_holding ?_)
    unfold callSpecial?
    refine wpAny_bind (wpAny_specialOf hT hli (wpAny_holding ?_))
    dsimp only
    refine wpAny_bind (wpAny_of_eq hbi ?_)
    dsimp only
    refine wpAny_bind (wpAny_call (codeAny_mono (R := wants (fun v s' => v = Value.none ∧ ∃ h' tk c', s' = { heap := h', gens := s.gens, drawn := s.drawn, toks := tk, os := s.os } ∧ SetR w h' s.heap.objs.size (fun j => decide (j ∈ ns)) c' ∧ c' ≤ ns.length ∧ ∀ (b : Addr) (o : Obj), s.heap.get? b = some o → h'.get? b = some o) E)
      (codeAny_call_builtin F.called_set.init.plain F.entry_set_init (check_set_init_1 hT ?_)) fun r₂ s₂ hr₂ => ?_))
    · obtain ⟨⟨ocls, odict, odata, oslots⟩, hol, hcl, nl, hdl⟩ := hl
      cases hcl
      cases hdl
      have hol' : (s.heap.push { cls := Value.type "set", data := Data.set #[] 0 (SetTable.fresh 0 0 !w.params.followText "set-order") }).get? l = some _ := Heap.get?_push_of_some _ hol
      have hsls := F.sub_list_set
      have hslf := F.sub_list_frozenset
      have hl1 : (s.heap.push { cls := Value.type "set", data := Data.set #[] 0 (SetTable.fresh 0 0 !w.params.followText "set-order") }).IsList l items := ⟨_, hol', rfl, _, rfl⟩
      show wpAny _ _ (Builtin.«set.__init__» ⟨[Value.ref s.heap.objs.size, Value.ref l], []⟩) _ _ _
      unfold Builtin.«set.__init__»
      dsimp only
      refine wpAny_bind (wpAny_ite_true (Eq.refl _) (wpAny_pure ?_))
      refine wpAny_bind ?_
      unfold typeNameOfCut shownTypeOf
      refine wpAny_bind (wpAny_bind (wpAny_typeOf hT (wpAny_ite_false (Eq.refl _) (wpAny_pure ?_))))
      unfold typeNameCut typeName
      refine wpAny_pure ?_
      refine wpAny_bind ?_
      unfold checkCount
      refine wpAny_ite_false (Eq.refl _) (wpAny_ite_false (Eq.refl _) (wpAny_ite_false (Eq.refl _) (wpAny_pure ?_)))
      refine wpAny_bind ?_
      unfold Builtin.Frozenset.addrOf
      refine wpAny_pure ?_
      refine wpAny_bind ?_
      unfold setUsed
      refine wpAny_bind ?_
      unfold setState
      refine wpAny_bind (wpAny_load' hS ?_)
      dsimp only
      refine wpAny_ite_false (Eq.refl _) (wpAny_pure (wpAny_pure (wpAny_ite_false (Eq.refl _) ?_)))
      unfold Builtin.Frozenset.updateFrom Builtin.Frozenset.isAnySet
      have hTl : Shared.TypeIs { heap := s.heap.push { cls := Value.type "set", data := Data.set #[] 0 (SetTable.fresh 0 0 !w.params.followText "set-order") }, gens := s.gens, drawn := s.drawn, toks := s.toks, os := s.os } (Value.ref l) "list" := ⟨_, hol', rfl⟩
      refine wpAny_bind (wpAny_bind ?_)
      show wpAny _ _ (isInstance (Value.ref l) (Value.type "set") >>= _) _ _ _
      refine wpAny_bind (wpAny_isInstance hTl hsls ?_)
      show wpAny _ _ (isInstance (Value.ref l) (Value.type "frozenset")) _ _ _
      refine wpAny_isInstance hTl hslf ?_
      refine wpAny_ite_false (Eq.refl _) ?_
      refine wpAny_bind (wpAny_typeOf hTl (wpAny_ite_false (Eq.refl _) ?_))
      refine wpAny_bind (wpAny_pyIter_list hl1 ?_)
      refine wpAny_bind (wpAny_runValue ?_)
      have hlS := Heap.lt_size hol
      have hh3 : A.in1.in1.in1.handled = none := hh
      have hz1 := Heap.size_push s.heap { cls := Value.type "set", data := Data.set #[] 0 (SetTable.fresh 0 0 !w.params.followText "set-order") }
      have hneI : (show Addr from l) ≠ (s.heap.push { cls := Value.type "set", data := Data.set #[] 0 (SetTable.fresh 0 0 !w.params.followText "set-order") }).objs.size := by
        rw [hz1]
        exact Nat.ne_of_lt (Nat.lt_succ_of_lt hlS)
      have hSf : ¬ s.heap.objs.size ∈ [(s.heap.push { cls := Value.type "set", data := Data.set #[] 0 (SetTable.fresh 0 0 !w.params.followText "set-order") }).objs.size, l] := by
        rw [hz1]
        intro m
        rcases List.mem_cons.mp m with m | m
        · exact absurd m (Nat.ne_of_lt (Nat.lt_succ_self _))
        · exact absurd (List.mem_singleton.mp m) (Nat.ne_of_gt hlS)
      have hval : ∀ (i : Nat) (v : Value), items[i]? = some v → ∃ k t, ns[i]? = some k ∧ v = Value.int k t := fun i v hv => by
        have hi : i < ns.length := by
          rw [← hisz]
          exact (Array.getElem?_eq_some_iff.mp hv).1
        obtain ⟨t, e⟩ := hit.int_at (i := i) (v := v) (by rw [Array.getElem?_toList]; exact hv)
        refine ⟨_, t, List.getElem?_eq_getElem hi, ?_⟩
        rw [e, List.getD_eq_getElem?_getD, List.getElem?_eq_getElem hi]
        rfl
      have hget : ((s.heap.push { cls := Value.type "set", data := Data.set #[] 0 (SetTable.fresh 0 0 !w.params.followText "set-order") }).push { cls := Value.type "list_iterator", data := Data.fields #[Value.ref l, Value.int 0 0] }).get? s.heap.objs.size = some _ := Heap.get?_push_of_some _ hS
      refine set_update_ints (Walks.toS (Walks.list hh3 (s.heap.push { cls := Value.type "set", data := Data.set #[] 0 (SetTable.fresh 0 0 !w.params.followText "set-order") }).objs.size l hneI items)) s.heap.objs.size hSf ns hisz hb hval _ 0 _ rfl (Nat.zero_le _) ⟨⟨_, Heap.get?_push_size _ rfl, rfl, rfl⟩, hl1.push _⟩ ⟨0, Nat.le_refl _, setR_new_at hget⟩ ?_
      rintro ⟨h', g2, d', tk', os'⟩ c' hm hc' hS'
      have eg := hm.gens
      have ed := hm.drawn
      have eo := hm.os
      cases eg
      cases ed
      cases eo
      refine wpAny_pure (wpAny_pure ⟨rfl, h', tk', c', rfl, hS', hisz ▸ hc', fun b o e => ?_⟩)
      have hb0 := Heap.lt_size e
      have hb1 := Nat.ne_of_lt hb0
      refine hm.heap b o ?_ (Heap.get?_push_of_some _ (Heap.get?_push_of_some _ e))
      rw [hz1]
      intro m
      rcases List.mem_cons.mp m with m | m
      · exact hb1 m
      · exact absurd (List.mem_singleton.mp m) (Nat.ne_of_lt (Nat.lt_succ_of_lt hb0))
    · cases r₂ with
      | error e => exact hr₂
      | ok fl₂ =>
      cases fl₂ with
      | ret r =>
        obtain ⟨rfl, h', tk, c', rfl, hS', hc', hk'⟩ := hr₂
        refine wpAny_pure ?_
        dsimp only
        refine wpAny_ite_false (Eq.refl _) (wpAny_pure (h _ _ _ hS' hc' hk'))
      | _ => exact hr₂.elim
  | _ => exact hr.elim
section
variable {X : Cx}
def rSetL (K : PySem.W.Frag) (w : World) : List V → Hp → VK → Prop := fun vs H Q => ∃ (a : Addr) (ns : List Int), vs = [V.ref a] ∧ SqL K H a (ns.map V.int) ∧ ns.length ≤ 1000 ∧
  ∀ (q : Addr) (c : Nat), c ≤ ns.length → H q = none → Q (.ref q) (upd H q (SetO w q (fun j => decide (j ∈ ns)) c))
theorem cr_setL (hc : X.calm = true) : CallR X (.type "set") (rSetL X.K X.w) := by
  intro pins s σ H vs us Q I r h
  obtain ⟨a, ns, rfl, hs, hl, q⟩ := h
  obtain ⟨its, rv, hil, hz⟩ := I.list hs
  rw [Vals.ref1 r]
  refine call_set_listI ns (I.ok.hd hc) hil.isList (intsAre_of rv) ?_ fun h' tk c hS hle hk => ⟨.ref _, upd H s.heap.objs.size (SetO X.w s.heap.objs.size (fun j => decide (j ∈ ns)) c), I.laid (t' := tk) hk (Nat.le_refl _) (setO_new hS), rfl, q _ c hle (I.hok.fresh (Nat.le_refl _))⟩
  exact Nat.lt_of_le_of_lt (Nat.add_le_add_right hl 1) (by decide)
end
end KSL
namespace KSU
open PySem PySem.Spec PyProof.Rows L2 PySem.W
/-! ### sorted(xs), xs a list of tuples of ints of any lengths, the first of which is empty: a new list of the same ones -/
theorem perm_of_map {α β : Type} {f : α → β} {out xs : List β} (p : out.Perm xs) : ∀ l : List α, xs = l.map f → ∃ l' : List α, l'.Perm l ∧ out = l'.map f := by
  induction p with
  | nil =>
    intro l e
    cases l with
    | nil => exact ⟨[], .nil, rfl⟩
    | cons a l => cases e
  | @cons x l1 l2 p ih =>
    intro l e
    cases l with
    | nil => cases e
    | cons a l =>
      injection e with e1 e2
      obtain ⟨l', p', q⟩ := ih l e2
      exact ⟨a :: l', p'.cons a, by rw [e1, q, List.map_cons]⟩
  | swap x y l1 =>
    intro l e
    match l, e with
    | [], e => cases e
    | [_], e => cases e
    | a :: b :: l, e =>
      injection e with e1 e2
      injection e2 with e2 e3
      exact ⟨b :: a :: l, .swap _ _ _, by rw [e1, e2, e3, List.map_cons, List.map_cons]⟩
  | trans p1 p2 ih1 ih2 =>
    intro l e
    obtain ⟨l2, q2, e2⟩ := ih2 l e
    obtain ⟨l1, q1, e1⟩ := ih1 l2 e2
    exact ⟨l1, q1.trans q2, e1⟩
section
variable {prog : Program} {w : World} {A : Around} {E : Value → Shared → Prop} {s : Shared} {M : Model}
theorem mapM_wp {α β : Type} {f : α → Sem β} {R : α → β → Prop} : ∀ (l : List α) {Q : List β → Shared → Prop}, (∀ v ∈ l, ∀ Q' : β → Shared → Prop, (∀ r, R v r → Q' r s) → wpAny M A (f v) Q' E s) → (∀ rs, EachIs (fun r v => R v r) rs l → Q rs s) → wpAny M A (l.mapM f) Q E s
  | [], _, _, h => by rw [List.mapM_nil]; exact wpAny_pure (h _ .nil)
  | x :: l, Q, hf, h => by
    rw [List.mapM_cons]
    exact wpAny_bind (hf x (.head _) _ fun r hr => wpAny_bind (mapM_wp l (fun v hv => hf v (.tail _ hv)) fun rs e => wpAny_pure (h _ (.cons hr e))))
theorem first_wp {v : Value} {ns : List Int} (t : TS.TupInts s.heap v ns) (Q : Option Value → Shared → Prop) (h : ∀ r, (ns = [] → r = none) → Q r s) : wpAny M A (firstOfTuple' v) Q E s := by
  obtain ⟨a, xs, rfl, ⟨o, ho, hc, n, hd⟩, i⟩ := t
  rw [kas_first_eq]
  refine wpAny_bind (Looks.here (show Looks M s.heap (typeOf (.ref a)) o.cls from (Looks.ld ho).andThen .now) ?_)
  rw [hc, if_neg (by first | decide | simp)]
  refine wpAny_bind (listItems_at ho hd (wpAny_pure (h _ fun e => ?_)))
  subst e
  have l1 := i.length
  rw [Array.length_toList] at l1
  have : xs.size = 0 := l1
  simp [this]
theorem kind_tups {v0 : Value} {vs : List Value} {k : Value → List Int} (ht : ∀ v ∈ v0 :: vs, TS.TupInts s.heap v (k v)) (h0 : k v0 = []) (Q : SortKind → Shared → Prop) (h : Q oneType' s) : wpAny M A (keyKind' (v0 :: vs).toArray) Q E s := by
  have hT : ∀ v ∈ v0 :: vs, Looks M s.heap (typeOf v) (Value.type "tuple") := fun v hv => by
    obtain ⟨a, xs, rfl, ⟨o, ho, hc, n, hd⟩, i⟩ := ht v hv
    exact hc ▸ (show Looks M s.heap (typeOf (.ref a)) o.cls from (Looks.ld ho).andThen .now)
  rw [keyKind'_eq, List.mapM_toArray, map_eq_pure_bind]
  refine wpAny_bind (wpAny_bind (mapM_wp (R := fun v r => k v = [] → r = none) _ (fun v hv Q' hq => first_wp (ht v hv) Q' hq) fun rs e => wpAny_pure ?_))
  cases e with
  | @cons r _ rs' _ h1 h2 =>
    have e1 := h1 h0
    subst e1
    rw [if_neg (by simp), if_neg (by simp)]
    rw [oneTypeOnly'_eq, List.mapM_toArray, map_eq_pure_bind]
    refine wpAny_bind (wpAny_bind (wpAny_bind (kas_mapM (r := Value.type "tuple") _ (fun v hv Q' hq => (hT v hv).here hq) (wpAny_pure ?_))))
    have hall : ((List.map (fun _ => Value.type "tuple") (v0 :: vs)).toArray.all fun x => x == Value.type "tuple") = true := by
      simp only [List.all_toArray, List.all_map, List.all_eq_true]
      intro _ _
      rfl
    have h0 : (List.map (fun _ => Value.type "tuple") (v0 :: vs)).toArray[0]? = some (Value.type "tuple") := by simp
    rw [h0]
    simp only [hall, if_true]
    exact wpAny_pure (wpAny_pure h)
theorem oneLt_tups {x y : Value} {ns ms : List Int} {Q : Bool → Shared → Prop} (hu : A.units < cLine) (hx : TS.TupInts s.heap x ns) (hy : TS.TupInts s.heap y ms) (h : Q (HT.lexLt ns ms) s) : wpAny (model prog w) A (oneLt' true x y) Q E s := by
  obtain ⟨l, items, rfl, ⟨⟨cls, dd, data, sl⟩, ho, hc, n, hd⟩, hi⟩ := hx
  obtain ⟨b, items2, rfl, ⟨⟨cls2, dd2, data2, sl2⟩, ho2, hc2, n2, hd2⟩, hj⟩ := hy
  simp only at hc hd hc2 hd2
  subst hc hd hc2 hd2
  rw [oneLt'_eq]
  simp only [if_true]
  refine wpAny_bind (wpAny_cRoomFor hu ?_)
  refine wpAny_bind (wpAny_callSpecialIfBound?_slot ⟨_, ho, rfl⟩ PySem.F.slot_tuple_lt (call_meets PySem.F.slot_tuple_lt ⟨_, ho, rfl⟩ PySem.F.entry_tuple_lt (PySem.F.args_tuple_lt_2 _ _) (HT.tuple_lt_ints l b items items2 n n2 dd dd2 sl sl2 ns ms hi hj) ⟨ho, ho2, ?_⟩))
  exact wpAny_truthy_bool h
theorem sortable {a : Addr} {v0 : Value} {vs : List Value} {k : Value → List Int} (hu : A.units < cLine) (ht : ∀ v ∈ v0 :: vs, TS.TupInts s.heap v (k v)) (h0 : k v0 = []) (ha : ∀ o, s.heap.get? a = some o → o.cls ≠ .type "tuple") :
    SrtO.SortableO prog w A s a (v0 :: vs) fun v u => HT.lexLt (k v) (k u) := by
  intro h' keep
  have ht' : ∀ v ∈ v0 :: vs, TS.TupInts h' v (k v) := fun v hm => (ht v hm).keeps fun b o e c => keep b o (fun z => by subst z; exact ha o e c) e
  refine ⟨oneType', fun Q E hq => kind_tups (s := { s with heap := h' }) ht' h0 Q hq, fun p q hp hq => ?_⟩
  show wpAny (model prog w) A (keyLt' oneType' p.1 q.1) _ _ _
  rw [keyLt'_oneType]
  exact oneLt_tups hu (ht' _ hp) (ht' _ hq) ⟨rfl, rfl⟩
end
section
variable {X : Cx}
theorem refs_each : ∀ (bs : List (Addr × List Int)) {us : List Value}, Vals (bs.map fun b => V.ref b.1) us → us = bs.map fun b => Value.ref b.1
  | [], _, r => by cases r; rfl
  | b :: bs, _, r => by
    cases r with
    | cons r1 r2 => rw [refs_each bs r2]; cases r1; rfl
theorem each_refs : ∀ (bs : List (Addr × List Int)), Vals (bs.map fun b => V.ref b.1) (bs.map fun b => Value.ref b.1)
  | [] => .nil
  | b :: bs => .cons rfl (each_refs bs)
def rSortedL (K : PySem.W.Frag) : List V → Hp → VK → Prop := fun vs H Q => ∃ (a p0 : Addr) (bs : List (Addr × List Int)), vs = [V.ref a] ∧ SqL K H a (((p0, []) :: bs).map fun b => V.ref b.1) ∧ (∀ b ∈ ((p0, []) :: bs : List (Addr × List Int)), H b.1 = some (.tup (b.2.map V.int))) ∧
  ∀ (bs' : List (Addr × List Int)) (q : Addr), bs'.Perm ((p0, []) :: bs) → H q = none → Q (.ref q) (upd H q (.lst (bs'.map fun b => V.ref b.1)))
theorem cr_sortedL (hu : X.A.units + 4 < cLine) : CallR X (.builtin "sorted") (rSortedL X.K) := by
  intro pins s σ H vs us Q I r h
  obtain ⟨a, p0, bs, rfl, hs, hx, q⟩ := h
  obtain ⟨its, rv, hl, hz⟩ := I.list hs
  rw [Vals.ref1 r]
  have ei := refs_each _ rv
  subst ei
  have ht : ∀ b ∈ ((p0, []) :: bs : List (Addr × List Int)), TS.TupInts s.heap (Value.ref b.1) b.2 := fun b hb => by
    obtain ⟨_, its2, r2, o, ho, hc, n, hd⟩ := I.hok _ _ (hx b hb)
    exact ⟨_, _, rfl, ⟨o, ho, hc, n, hd⟩, intsAre_of r2⟩
  have hk : ∀ v ∈ (((p0, []) :: bs : List (Addr × List Int)).map fun b => Value.ref b.1), TS.TupInts s.heap v (TS.intsOf s.heap v) := fun v hv => by
    obtain ⟨b, hb, rfl⟩ := List.mem_map.mp hv
    rw [(ht b hb).ints]
    exact ht b hb
  have hk0 : TS.intsOf s.heap (Value.ref p0) = [] := (ht (p0, []) List.mem_cons_self).ints
  refine SrtO.sorted_ord (ltv := fun v u => HT.lexLt (TS.intsOf s.heap v) (TS.intsOf s.heap u)) (NtL.swo_lexL _) hl.isList (by rw [← rv.length]; exact hz) (fun h2 h₁ a ha kk => ?_) fun out hs2 hb => ?_
  · refine sortable (s := { s with heap := h₁ }) (show X.A.units + 2 < cLine by omega) (fun v hv => (hk v hv).keeps fun b o e _ => (kk b o e).2) hk0 fun o e => ?_
    have e' : some o = some (seqObj "list" _ 0) := e.symm.trans ha
    cases e'
    intro c
    exact absurd (Value.type.inj c) (by decide)
  · obtain ⟨bs', pm, rfl⟩ := perm_of_map hb.perm _ rfl
    obtain ⟨ep, he'⟩ := PyProof.Rows.sortedAll_at s.heap (((p0, []) :: bs : List (Addr × List Int)).map fun b => Value.ref b.1) (bs'.map fun b => Value.ref b.1).toArray
    refine ⟨.ref _, upd H (s.heap.objs.size + 1) (.lst (bs'.map fun b => V.ref b.1)), I.laid (t' := s.toks) (fun _ _ => PyProof.Rows.sortedAll_old) (Nat.le_succ _) ⟨?_, _, ep, each_refs bs', he'⟩, rfl, q _ _ pm (I.hok.fresh (Nat.le_succ _))⟩
    have l1 := pm.length_eq
    rw [List.length_map, l1]
    rw [List.length_map] at hz
    exact hz
end
end KSU
namespace K45
open PySem PySem.Spec PyProof.Rows L2 PySem.W LamX KA KW KU KL KT
open Evl (pss_cut tCut)
/-! ### all whole sets -/
theorem subs_len : ∀ n, (subs n).length = 2 ^ n
  | 0 => rfl
  | n + 1 => by
    show (subs n ++ (subs n).map (· ++ [n])).length = _
    rw [List.length_append, List.length_map, subs_len n, Nat.pow_succ]
    omega
theorem subs_few {n : Nat} (h : n ≤ 10) : (subs n).length ≤ 1024 := by
  rw [subs_len]
  exact Nat.pow_le_pow_right (by decide) h
theorem sub_len {n : Nat} {s : List Nat} (h : s ∈ subs n) : s.length ≤ n := by
  have e := asc_filter h
  rw [e]
  exact Nat.le_trans (List.length_filter_le _ _) (by rw [List.length_range]; exact Nat.le_refl _)
theorem sub_lot {n : Nat} {s : List Nat} (h : s ∈ subs n) : lotB n s = true := lotB_iff.mpr ((mem_subs n s).mp h)
theorem good_len {rows : List (List Nat)} (h : webAns (some rows) = .good) : 1 ≤ rows.length ∧ rows.length ≤ 10 := by
  refine Decidable.byContradiction fun q => ?_
  have e : webAns (some rows) = .whole := by
    show (if ¬ (1 ≤ rows.length ∧ rows.length ≤ 10) then At.whole else _) = _
    rw [if_pos q]
  rw [e] at h
  cases h
def spWholeSets : Sp := fun vs H Q _ => ∃ (x : V) (rows : List (List Nat)), vs = [x] ∧ Wv H x rows ∧ rows.length ≤ 10 ∧ (∀ r ∈ rows, r.length ≤ 1000) ∧ ∀ q ws H', Same H H' → H q = none → H' q = some (.lst ws) → RL NV H' ws (wholes rows) → Q (.ref q) H'
/-- gains, good ones -/
def Gv (H : Hp) (x : V) (g : List Int) : Prop := ∃ a, x = .ref a ∧ (H a = some (.lst (g.map V.int)) ∨ H a = some (.tup (g.map V.int)))
theorem Gv.keep {H H' : Hp} {x : V} {g : List Int} (h : Gv H x g) (s : Same H H') : Gv H' x g := by
  obtain ⟨a, rfl, e⟩ := h
  exact ⟨a, rfl, e.imp (s _ _) (s _ _)⟩
def spGainOf : Sp := fun vs H Q _ => ∃ (x : V) (b : Addr) (g : List Int) (s : List Nat), vs = [x, .ref b] ∧ Gv H x g ∧ H b = some (.tup (NV s)) ∧ s.length ≤ 1000 ∧ (∀ f ∈ s, f < g.length) ∧ ∀ H', Same H H' → Q (.int (gain g s)) H'
section
variable {P : Program} {w : World} {K : PySem.W.Frag} {mg : Str → Option Value} {base : Heap} (T : Top K mg)
end
end K45
namespace KSE
open PySem PySem.Spec PyProof.Rows L2 PySem.W
/-! ### a list or a tuple: a part of it, it sorted -/
def rSlE (K : PySem.W.Frag) : V → Option Int → Option Int → Hp → VK → Prop := fun x lo hi H Q => rSlL K x lo hi H Q ∨ rSlA K x lo hi H Q
theorem sl_either {X : Cx} : SlR X (rSlE X.K) := fun pins s σ H x v vl vu lo hi sl Q I rx hs pl pu h => h.elim (sl_list pins s σ H x v vl vu lo hi sl Q I rx hs pl pu) (sl_tupA pins s σ H x v vl vu lo hi sl Q I rx hs pl pu)
/-- the items of a tuple, gathered -/
theorem collect_tup {P : Program} {w : World} {A : Around} {E : Value → Shared → Prop} {s : Shared} {l : Addr} {o : Obj} {vs : List Value} {n : Nat} {Q : List Value → Shared → Prop} (ho : s.heap.get? l = some o) (hc : o.cls = .type "tuple") (hd : o.data = .seq vs.toArray n) (hsz : vs.length < 64)
    (h : Q vs { s with heap := (s.heap.push (seqObj "list" #[] 0)).update s.heap.objs.size (Obj.mapSeq fun x => x ++ vs.toArray) }) : wpAny (model P w) A (collect (.ref l)) Q E s := by
  have hz : vs.length + 1 ≤ sizeLine := Nat.le_trans hsz (by decide)
  unfold collect
  refine wpAny_bind (wpAny_runValue (codeAny_builtin entry_proto_collect' ?_))
  unfold Builtin.«proto.collect»
  refine wpAny_bind (wpAny_newList (wpAny_pure ⟨Code.quiet_builtin _ (by decide +kernel), codeAny_builtin entry_list_iadd' ?_⟩) (by rw [sizeLine_eq]; decide))
  unfold Builtin.«list.__iadd__»
  have ho' := Heap.get?_push_of_some (seqObj "list" #[] 0) ho
  have hn : (s.heap.push (seqObj "list" #[] 0)).get? s.heap.objs.size = some (seqObj "list" #[] 0) := Heap.get?_push_size s.heap rfl
  show wpAny _ _ (Builtin.List.listExtendWith (.ref s.heap.objs.size) (.ref l) (.ref s.heap.objs.size)) _ _ _
  unfold Builtin.List.listExtendWith
  refine wpAny_bind (wpAny_typeOf ⟨o, ho', hc⟩ ?_)
  rw [if_pos (by rw [show (Value.type "tuple" == Value.type "tuple") = true from beq_self_eq_true _, Bool.or_true])]
  refine wpAny_bind (listItems_at ho' hd (wpAny_bind (listItems_at hn rfl ?_)))
  rw [if_neg (by exact fun q => nomatch q)]
  refine wpAny_bind (listUpdate_at hn rfl (wpAny_pure ?_) (Nat.zero_le _) (by simp; omega))
  refine wpAny_bind (wpAny_load (get?_update_seq hn fun x => x ++ vs.toArray) ?_)
  show wpAny _ _ (pure (#[] ++ vs.toArray).toList) _ _ _
  have e : (#[] ++ vs.toArray).toList = vs := by simp
  rw [e]
  exact wpAny_pure h
/-- sorted(t), t a tuple of ints -/
theorem sorted_tup {P : Program} {w : World} {A : Around} {E : Value → Shared → Prop} {s : Shared} {l : Addr} {o : Obj} {vs : List Value} {n : Nat} {ns : List Int} {Q : Value → Shared → Prop} (ho : s.heap.get? l = some o) (hc : o.cls = .type "tuple") (hd : o.data = .seq vs.toArray n) (hI : IntsAre vs ns) (h64 : vs.length < 64)
    (h : ∀ (h' : Heap) (p : Addr) (out : Array Value) (c : Nat) (ns' : List Int), (∀ (b : Addr) (u : Obj), s.heap.get? b = some u → h'.get? b = some u) → s.heap.objs.size ≤ p → h'.get? p = some (seqObj "list" out c) → IntsAre out.toList ns' → ns'.Perm ns → ns'.Pairwise (· ≤ ·) → Q (.ref p) { s with heap := h' }) :
    wpAny (model P w) A (call (.builtin "sorted") [.ref l]) Q E s := by
  have hz : vs.length ≤ sizeLine := Nat.le_trans (Nat.le_of_lt h64) (by decide)
  refine Calls.call_function_entry kind_sorted plain_sorted entry_sorted (args_sorted1 (.ref l)) ?_
  refine wpAny_bind (wpAny_pure (wpAny_bind (collect_tup ho hc hd h64 ?_)))
  have keep : ∀ (b : Addr) (u : Obj), s.heap.get? b = some u → ((s.heap.push (seqObj "list" #[] 0)).update s.heap.objs.size (Obj.mapSeq fun x => x ++ vs.toArray)).get? b = some u := fun b u e => by
    rw [Heap.get?_update_ne _ _ _ _ (Nat.ne_of_lt (Heap.lt_size e))]
    exact Heap.get?_push_of_some _ e
  have lle : s.heap.objs.size ≤ ((s.heap.push (seqObj "list" #[] 0)).update s.heap.objs.size (Obj.mapSeq fun x => x ++ vs.toArray)).objs.size := by
    rw [Heap.size_update, size_push']
    omega
  generalize (s.heap.push (seqObj "list" #[] 0)).update s.heap.objs.size (Obj.mapSeq fun x => x ++ vs.toArray) = h1 at keep lle
  refine wpAny_bind (wpAny_newList ?_ hz)
  have hoL : (h1.push (seqObj "list" vs.toArray 0)).get? h1.objs.size = some (seqObj "list" vs.toArray 0) := Heap.get?_push_size h1 rfl
  refine wpAny_bind (wpAny_holding (wpAny_call_entry slot_list_sort ⟨_, hoL, rfl⟩ entry_list_sort (list_sort_tree (vs := vs) hoL hI h64 fun out ns' a1 a2 a3 => ⟨Value.none, rfl, wpAny_pure ⟨_, rfl, ?_⟩⟩) (args_list_sort _)))
  obtain ⟨c, hc'⟩ := sortedHeap_at (out := out) hoL
  refine h _ _ out c ns' (fun b u e => ?_) lle hc' a1 a2 a3
  have k := keep b u e
  have lt := Heap.lt_size k
  rw [sortedHeap_old (Nat.ne_of_lt lt) (by rw [size_push']; exact Nat.lt_succ_of_lt lt)]
  exact Heap.get?_push_of_some _ k
def rSortedE (K : PySem.W.Frag) : List V → Hp → VK → Prop := fun vs H Q => ∃ a ns, vs = [V.ref a] ∧ (SqL K H a (ns.map V.int) ∨ SqT K H a (ns.map V.int)) ∧ ns.length < 64 ∧ ∀ (ns' : List Int) (p : Addr), ns'.Perm ns → ns'.Pairwise (· ≤ ·) → H p = none → Q (.ref p) (upd H p (.lst (ns'.map V.int)))
theorem cr_sortedE {X : Cx} : CallR X (.builtin "sorted") (rSortedE X.K) := by
  intro pins s σ H vs us Q I r h
  obtain ⟨a, ns, rfl, hs, hl, q⟩ := h
  rcases hs with hs | hs
  · exact cr_sorted pins s σ H _ us Q I r ⟨a, ns, rfl, hs, hl, q⟩
  · obtain ⟨its, rv, ht, hz⟩ := I.tuple hs
    rw [Vals.ref1 r]
    obtain ⟨o, ho, hc, n, hd⟩ := ht
    have l1 := rv.length
    rw [List.length_map] at l1
    refine sorted_tup (vs := its) ho hc hd (Vals.ints rv) (by rw [← l1]; exact hl) fun h' p out c ns' keep le at_ iv pm pw => ?_
    refine ⟨.ref p, upd H p (.lst (ns'.map V.int)), I.laid keep le ⟨?_, _, c, vals_of_ints iv, at_⟩, rfl, q _ _ pm pw (I.hok.fresh le)⟩
    rw [List.length_map, pm.length_eq]
    exact Nat.le_trans (Nat.le_of_lt hl) (by decide)
/-- set(t), t a list or a tuple of ints -/
def rSetE (K : PySem.W.Frag) (w : World) : List V → Hp → VK → Prop := fun vs H Q => ∃ (a : Addr) (ns : List Int), vs = [V.ref a] ∧ (SqL K H a (ns.map V.int) ∨ SqT K H a (ns.map V.int)) ∧ ns.length ≤ 1000 ∧
  ∀ (q : Addr) (c : Nat), c ≤ ns.length → H q = none → Q (.ref q) (upd H q (SetO w q (fun j => decide (j ∈ ns)) c))
theorem cr_setE {X : Cx} (hc : X.calm = true) : CallR X (.type "set") (rSetE X.K X.w) := by
  intro pins s σ H vs us Q I r h
  obtain ⟨a, ns, rfl, hs, hl, q⟩ := h
  rcases hs with hs | hs
  · exact KSL.cr_setL hc pins s σ H _ us Q I r ⟨a, ns, rfl, hs, hl, q⟩
  · obtain ⟨its, rv, ht, hz⟩ := I.tuple hs
    rw [Vals.ref1 r]
    refine call_set_tupI ns (I.ok.hd hc) ht (Vals.ints rv) (Nat.lt_of_le_of_lt (Nat.add_le_add_right hl 1) (by decide)) fun h' tk c hS hle hk => ?_
    exact ⟨.ref _, upd H s.heap.objs.size (SetO X.w s.heap.objs.size (fun j => decide (j ∈ ns)) c), I.laid (t' := tk) hk (Nat.le_refl _) (setO_new hS), rfl, q _ c hle (I.hok.fresh (Nat.le_refl _))⟩
end KSE
namespace K45
open PySem PySem.Spec PyProof.Rows L2 PySem.W LamX KA KW KU KL KT
open Evl (pss_cut tCut)
/-! ### waits, orders in time -/
theorem cut_take {xs : List V} {t : Nat} (h : t ≤ xs.length) : cutV xs none (some (t : Int)) = xs.take t := by
  unfold cutV
  rw [HT.sIx_none, HT.sIx_nat, Nat.min_eq_left h]
  rfl
theorem take_either {K : PySem.W.Frag} {a : Addr} {xs : List V} {t : Nat} {H : Hp} {Q : VK} (ea : H a = some (.lst xs) ∨ H a = some (.tup xs)) (h : t ≤ xs.length) (k : ∀ c H', Same H H' → (H' c = some (.lst (xs.take t)) ∨ H' c = some (.tup (xs.take t))) → Q (.ref c) H') : KSE.rSlE K (.ref a) none (some (t : Int)) H Q := by
  rcases ea with ea | ea
  · exact .inl ⟨a, xs, rfl, SqL.of ea, fun p hp => k p _ (Same.new hp) (.inl (by rw [upd_same, cut_take h]))⟩
  · refine .inr ⟨a, xs, rfl, SqT.of ea, fun z => ?_, fun _ p hp => k p _ (Same.new hp) (.inr (by rw [upd_same, cut_take h]))⟩
    refine k a H (fun _ _ e => e) (.inr ?_)
    have := z.2
    rw [HT.sIx_nat, Nat.min_eq_left h] at this
    rw [this, List.take_length]
    exact ea
def spInTime (K : PySem.W.Frag) : Sp := fun vs H Q _ => ∃ (x y : V) (p : Int) (rows : List (List Nat)) (o : Option (List V)), vs = [x, .int p, y] ∧ Wv H x rows ∧ 1 ≤ rows.length ∧ rows.length ≤ 10 ∧ (∀ r ∈ rows, r.length ≤ 1000) ∧ Gn K H y o ∧ ∀ H', Same H H' → Q (.bl (inTime rows p o)) H'
section
variable {P : Program} {w : World} {K : PySem.W.Frag} {mg : Str → Option Value} {base : Heap} (T : Top K mg)
theorem ok_check_wait : FnOk P w K mg base (L2.CX P w) 4 T.check_wait.a T.check_wait.d ["wait"] (spCheck K 0 20 T.BadWait.C) := by
  refine T.check_wait.f.okX sc_check_wait (fun vs H Q E h => ?_) (fun cdv A outer s H vs Q E hr h => ?_)
  · obtain ⟨x, b, rfl, _⟩ := h
    rfl
  · obtain ⟨x, b, rfl, hp, k1, k2⟩ := h
    obtain ⟨tW, hcW⟩ := T.cMOST_WAIT
    refine ⟨_, (pss_one (ps_if (pt_not (pt_val (pe_call (ok_is_within T) (hr.mono (by decide)) (by rfl) T.is_within.m T.is_within.f.kp (bd_is_within T) .nil passE (pa_cons (pv 0) (pa_cons pe_int (pa_cons (pe_glob (v := .int 20) (by rfl) hcW ⟨_, rfl⟩) pa_nil)))))) (pss_one (ps_raiseT rfl rfl T.BadWait (by rfl) rfl (takes_of rfl rfl rfl rfl))) pss_nil)), ?_⟩
    refine ⟨_, rfl, x, b, _, _, rfl, hp, _, rfl, ?_⟩
    cases c : within x 0 20 with
    | true => exact iteF (k1 c)
    | false => exact iteT (k2 c)
theorem ok_is_in_time : FnOk P w K mg base (L2.CX P w) 4 T.is_in_time.a T.is_in_time.d ["web", "wait", "thing"] (spInTime K) := by
  refine T.is_in_time.f.okX sc_is_in_time (fun vs H Q E h => ?_) (fun cdv A outer s H vs Q E hr h => ?_)
  · obtain ⟨x, y, p, rows, o, rfl, _⟩ := h
    rfl
  · obtain ⟨x, y, p, rows, o, rfl, hw, l1, l2, hrl, hg, k⟩ := h
    refine ⟨_, (pss_cons (ps_if (PW.pt (pw_or (pt_not (pt_val (pe_callB (show CallR _ _ (rIsiT K) from call_isiT) (by rfl) T.b_isinstance PyProof.Rows.boot_isinstance (pa_cons (pv 2) (pa_cons (pe_tup (pa_cons (pe_bltn (v := .ty "list") (by rfl) T.b_list (by decide +kernel) rfl) (pa_cons (pe_bltn (v := .ty "tuple") (by rfl) T.b_tuple (by decide +kernel) rfl) pa_nil))) pa_nil))))) (pw_or1 (pt_cmpR op_ne (pe_callB call_len_seq (by rfl) T.b_len PySem.boot_len (pa_cons (pv 2) pa_nil)) (pe_callB call_len_seq (by rfl) T.b_len PySem.boot_len (pa_cons (pv 0) pa_nil)) (nomark _))))) (pss_one (ps_ret pe_bl)) pss_nil)
      (pss_cons (ps_if (pt_not (pt_val (pe_callB (cr_all rfl) (by rfl) T.b_all (by decide +kernel) (pa_cons (pe_lc (own := [("frame", 4)]) (g := (gName 4)) (tt := tYes) rfl sc_is_in_time.nd (KEN.pi_seqS (pv 2)) (blkOk_by (own := [("frame", 4)]) (N := ["web", "wait", "thing", "tick", "frame"]) (sc := defScope s_is_in_time) (by decide +kernel)) (fun _ _ _ _ _ => pg_name (i := 4) sc_is_in_time.nd rfl (by first | exact .inl rfl | exact .inr rfl)) (fun _ _ _ _ _ => pts_nil) (fun _ _ _ _ _ => (pe_call (ok_is_within T) (hr.mono (by decide)) (by rfl) T.is_within.m T.is_within.f.kp (bd_is_within T) .nil passE (pa_cons (pv 4) (pa_cons pe_int (pa_cons (pe_op op_sub (pe_callB (show CallR _ _ (rLen K) from call_len_seq) (by rfl) T.b_len PySem.boot_len (pa_cons (pv 0) pa_nil)) pe_int) pa_nil)))))) pa_nil)))) (pss_one (ps_ret pe_bl)) pss_nil)
      (pss_one (ps_ret (pe_callB (cr_all rfl) (by rfl) T.b_all (by decide +kernel) (pa_cons (pe_lc (own := [("tick", 3), ("frame", 4)]) (g := (gTup K 2 (gCons (gName 3) (gCons (gName 4) gNil)))) (tt := tYes) rfl sc_is_in_time.nd (KEN.pi_enumS (by rfl) T.b_enumerate (pa_cons (pv 2) pa_nil)) (blkOk_by (own := [("tick", 3), ("frame", 4)]) (N := ["web", "wait", "thing", "tick", "frame"]) (sc := defScope s_is_in_time) (by decide +kernel)) (fun _ _ _ _ _ => pg_tup rfl (pgs_cons (pg_name (i := 3) sc_is_in_time.nd rfl (by first | exact .inl rfl | exact .inr rfl)) (pgs_cons (pg_name (i := 4) sc_is_in_time.nd rfl (by first | exact .inl rfl | exact .inr rfl)) pgs_nil))) (fun _ _ _ _ _ => pts_nil) (fun _ _ _ _ _ => (pe_and (pe_cmpR (show OpR _ _ (rIn K true) from op_notIn_seq) (pv 4) (pe_slice (show SlR _ (KSE.rSlE K) from KSE.sl_either) (pv 2) po_none (po_some (pv 3))) (by rfl)) (pe_and (pe_call (ok_are_in T) (hr.mono (by decide)) (by rfl) T.are_in.m T.are_in.f.kp (bd_are_in T) .nil passE (pa_cons (pe_ix (show IxR _ (rIx K) from ix_seq) (pv 0) (pv 4) (fun _ _ => rfl)) (pa_cons (pe_slice (show SlR _ (KSE.rSlE K) from KSE.sl_either) (pv 2) po_none (po_some (pv 3))) pa_nil))) (pe_one (pe_cmpR op_le (pv 3) (pe_op op_add (pv 1) (pv 4)) (nomark _))))))) pa_nil)))))), ?_⟩
    obtain ⟨a, ws, rfl, ha, rl⟩ := id hw
    have hlen : ws.length = rows.length := rl.1
    refine ⟨_, rfl, (by show 2 ≤ sizeLine; decide), fun z hz => ?_⟩
    have tz := Same.new (o := .tup [V.ty "list", .ty "tuple"]) hz
    cases hg with
    | no hn =>
      obtain ⟨t, ht, kt⟩ := (hn.keep tz).ty (K := K)
      refine ⟨y, z, _, _, _, _, rfl, upd_same, .cons (.ty "list") (.cons (.ty "tuple") .nil), ht, kt, _, rfl, ?_⟩
      exact iteT (iteT (k _ tz))
    | @some b xs hb hp hl =>
    obtain ⟨t, ht, kt⟩ : ∃ t, TyX K (upd H z (.tup [V.ty "list", .ty "tuple"])) (.ref b) (.type t) ∧ PySem.W.kitAny K (.type t) [.type "list", .type "tuple"] = some true := by
      rcases hb with ha | ha
      · exact ⟨_, .base (.lst (tz _ _ ha)), kit_two (x := true) (y := false) (by decide +kernel) (by decide +kernel)⟩
      · exact ⟨_, .base (.tup (tz _ _ ha)), kit_two (x := false) (y := true) (by decide +kernel) (by decide +kernel)⟩
    refine ⟨_, z, _, _, _, _, rfl, upd_same, .cons (.ty "list") (.cons (.ty "tuple") .nil), ht, kt, _, rfl, iteF ⟨_, rfl, b, xs, rfl, hb.imp (fun e => SqL.of (tz _ _ e)) (fun e => SqT.of (tz _ _ e)), _, rfl, a, ws, rfl, ha.imp (fun e => SqL.of (tz _ _ e)) (fun e => SqT.of (tz _ _ e)), rfl, _, rfl, ?_⟩⟩
    clear ht kt t
    generalize upd H z (.tup [V.ty "list", .ty "tuple"]) = Hz at tz
    rw [dec_int, hlen]
    by_cases c1 : xs.length = rows.length
    case neg =>
      rw [show (!(((xs.length : Nat) : Int) == ((rows.length : Nat) : Int))) = true by rw [show (((xs.length : Nat) : Int) == ((rows.length : Nat) : Int)) = false from beq_eq_false_iff_ne.mpr (by omega)]; rfl]
      refine iteT (q_bl (k _ tz) ?_)
      show false = (decide (xs.length = rows.length) && _)
      rw [decide_eq_false c1]
      rfl
    rw [show (!(((xs.length : Nat) : Int) == ((rows.length : Nat) : Int))) = false by rw [show (((xs.length : Nat) : Int) == ((rows.length : Nat) : Int)) = true from beq_iff_eq.mpr (by omega)]; rfl]
    refine iteF ?_
    have hb := hb.imp (tz _ _) (tz _ _)
    have ha := ha.imp (tz _ _) (tz _ _)
    refine ⟨_, rfl, b, xs, rfl, hb.imp SqL.of SqT.of, fun J G wk hG => fun D hD => ?_⟩
    refine lcP wk xs (fun _ => true) (fun x => V.bl (within x 0 ((rows.length : Int) - 1))) rfl hD hG (Nat.le_trans hl (by decide)) yAt_same ?_ ?_
    · rintro i x m H1 H2 N R hm s1 ⟨rfl, hx⟩ hy hn
      rw [hm] at hx
      cases hx
      refine ⟨rfl, ?_⟩
      dsimp only [tYes]
      rw [if_pos rfl]
      obtain ⟨b', hb'⟩ := Fl.pl (K := K) (H := H2) (hp _ (List.mem_of_getElem? hm))
      refine ⟨_, rfl, _, rfl, a, ws, rfl, ha.imp (fun e => SqL.of (s1 _ _ e)) (fun e => SqT.of (s1 _ _ e)), _, _, rfl, rfl, ?_⟩
      rw [hlen]
      exact ⟨_, b', _, _, rfl, hb', hy rfl _ fun _ _ e => e⟩
    · intro H1 s1 e1
      rw [filter_yes, all_map_bl] at e1
      refine ⟨D, _, rfl, SqL.of e1, ?_⟩
      rw [all_id]
      cases hc : xs.all fun x => within x 0 ((rows.length : Int) - 1) with
      | false =>
        refine ⟨_, rfl, iteT (q_bl (k H1 (tz.trans s1)) ?_)⟩
        show false = (decide (xs.length = rows.length) && (insideB rows.length xs && _))
        unfold insideB
        rw [hc, Bool.false_and, Bool.and_false]
      | true =>
        have hin : insideB rows.length xs = true := hc
        obtain ⟨ens, nlt⟩ := inside_nv hin
        clear hc hp
        generalize xs.map natOf = ns at ens nlt
        subst ens
        have e0 : inTime rows p (some (NV ns)) = timeB rows p ns := by
          show (decide ((NV ns).length = rows.length) && (insideB rows.length (NV ns) && timeB rows p (nats (some (NV ns))))) = _
          rw [c1, hin, nats_NV, decide_eq_true rfl]
          rfl
        rw [e0] at k
        have hb1 := hb.imp (s1 _ _) (s1 _ _)
        have ha1 := ha.imp (s1 _ _) (s1 _ _)
        refine ⟨_, rfl, iteF ⟨_, rfl, b, NV ns, rfl, hb1.imp SqL.of SqT.of, fun J G wk hG => fun D2 hD2 => ?_⟩⟩
        rw [NV_len] at c1
        refine lcP wk (List.range ns.length) (fun _ => true) (fun t : Nat => V.bl (!(inB (ns.take t) (ns.getD t 0)) && ((row rows (ns.getD t 0)).all (inB (ns.take t)) && decide ((t : Int) ≤ p + ((ns.getD t 0 : Nat) : Int))))) (by rw [NV_len, List.length_range]) hD2 hG (by rw [List.length_range]; omega) yPair_same ?_ ?_
        · rintro i x t H3 H4 N R hm s3 ⟨T', x1, y1, rfl, hT, rfl, h1, h2⟩ hy hn
          obtain ⟨rfl, hi⟩ := range_at hm
          cases h1
          obtain ⟨f, ef, rfl⟩ := NV_at h2
          have lf : f < rows.length := nlt f (List.mem_of_getElem? ef)
          have tT := Same.new (o := .tup [V.int ((t : Nat) : Int), .int (f : Int)]) hT
          refine ⟨T', _, rfl, SqT.of upd_same, rfl, _, _, rfl, _, _, rfl, rfl, rfl, ?_⟩
          dsimp only [tYes]
          rw [if_pos rfl]
          have hy := hy rfl
          rw [getD_at ef] at hy
          have s13 := s3.trans tT
          refine ⟨_, rfl, _, rfl, _, rfl, _, rfl, ?_⟩
          refine take_either (K := K) (hb1.imp (s13 _ _) (s13 _ _)) (show t ≤ (NV ns).length by rw [NV_len]; omega) fun c H5 s5 e5 => ?_
          have tk : (NV ns).take t = NV (ns.take t) := (List.map_take ..).symm
          rw [tk] at e5
          refine ⟨c, _, rfl, e5.imp SqL.of SqT.of, rfl, NV_flat _, ?_⟩
          rw [if_pos rfl, inV_NV]
          cases q1 : inB (ns.take t) f with
          | true =>
            rw [q1] at hy
            exact ⟨_, rfl, iteF (hy H5 s5)⟩
          | false =>
            rw [q1] at hy
            refine ⟨_, rfl, iteT ?_⟩
            have er : rows[f]? = some (row rows f) := by
              unfold row
              rw [List.getD_eq_getElem?_getD, List.getElem?_eq_getElem lf]
              rfl
            have s15 := s13.trans s5
            obtain ⟨q, eq, hq⟩ := (rl.same (((tz.trans s1).trans s13).trans s5)).at_ er
            refine ⟨_, rfl, _, rfl, ix_either (K := K) (ha1.imp (s15 _ _) (s15 _ _)) eq ⟨_, rfl, _, rfl, _, rfl, ?_⟩⟩
            refine take_either (K := K) (hb1.imp (s15 _ _) (s15 _ _)) (show t ≤ (NV ns).length by rw [NV_len]; omega) fun c2 H6 s6 e6 => ?_
            rw [tk] at e6
            refine ⟨q, c2, row rows f, ns.take t, rfl, s6 _ _ hq, hrl _ (List.mem_of_getElem? er), e6, fun H7 s7 => ⟨_, rfl, ?_⟩⟩
            have s47 := s5.trans (s6.trans s7)
            cases q2 : (row rows f).all (inB (ns.take t)) with
            | false =>
              rw [q2] at hy
              exact iteF (hy H7 s47)
            | true =>
              rw [q2] at hy
              exact iteT ⟨_, rfl, _, rfl, _, rfl, _, _, rfl, rfl, _, _, rfl, rfl, hy H7 s47⟩
        · intro H3 s3 e3
          rw [filter_yes, all_map_bl] at e3
          refine ⟨D2, _, rfl, SqL.of e3, ?_⟩
          rw [all_id]
          exact k H3 ((tz.trans s1).trans s3)
end
end K45
namespace K45
open PySem PySem.Spec PyProof.Rows L2 PySem.W LamX KA KW KU KL KT
open Evl (pss_cut tCut)
/-! ### what is kept -/
def Nv (H : Hp) (b : Addr) (ns : List Nat) : Prop := H b = some (.lst (NV ns)) ∨ H b = some (.tup (NV ns))
def spKeptOf : Sp := fun vs H Q _ => ∃ (x : V) (p : Int) (b : Addr) (rows : List (List Nat)) (told : List Nat), vs = [x, .int p, .ref b] ∧ Wv H x rows ∧ rows.length ≤ 10 ∧ (∀ r ∈ rows, r.length ≤ 1000) ∧ Nv H b told ∧ told.length ≤ 1000 ∧ ∀ q H', Same H H' → H' q = some (.tup (NV (keptL rows p told))) → Q (.ref q) H'
theorem NV_snoc (l : List Nat) (f : Nat) : NV (l ++ [f]) = NV l ++ [V.int (f : Int)] := by unfold NV; rw [List.map_append]; rfl
def needU (rows : List (List Nat)) (told : List Nat) (i : Nat) : List Nat := ((List.range i).filter fun m => !(inB told m)).flatMap (row rows)
theorem row_len {rows : List (List Nat)} (h : ∀ r ∈ rows, r.length ≤ 1000) (i : Nat) : (row rows i).length ≤ 1000 := by
  unfold row
  rw [List.getD_eq_getElem?_getD]
  cases e : rows[i]? with
  | none => exact Nat.zero_le _
  | some r => exact h r (List.mem_of_getElem? e)
theorem needU_succ {rows : List (List Nat)} {told : List Nat} (i : Nat) : needU rows told (i + 1) = needU rows told i ++ (if inB told i then [] else row rows i) := by
  unfold needU
  rw [List.range_succ, List.filter_append, List.flatMap_append]
  congr 1
  cases c : inB told i with
  | true => rw [List.filter_cons, c]; rfl
  | false => rw [List.filter_cons, c]; exact List.append_nil _
theorem needU_len {rows : List (List Nat)} {told : List Nat} (h : ∀ r ∈ rows, r.length ≤ 1000) : ∀ i, (needU rows told i).length ≤ 1000 * i
  | 0 => Nat.le_refl _
  | i + 1 => by
    have := needU_len (told := told) h i
    have := row_len h i
    rw [needU_succ, List.length_append]
    split
    · show _ + 0 ≤ _
      omega
    · omega
section
variable {P : Program} {w : World} {K : PySem.W.Frag} {mg : Str → Option Value} {base : Heap} (T : Top K mg)
theorem ok_kept_of : FnOk P w K mg base (L2.CX P w) 1 T.kept_of.a T.kept_of.d ["web", "wait", "told"] spKeptOf := by
  refine T.kept_of.f.okX sc_kept_of (fun vs H Q E h => ?_) (fun cdv A outer s H vs Q E hr h => ?_)
  · obtain ⟨x, p, b, rows, told, rfl, _⟩ := h
    rfl
  · obtain ⟨x, p, b, rows, told, rfl, hw, hn, hrl, hb, hl, k⟩ := h
    refine ⟨_, (pss_cons (ps_set (i := 3) sc_kept_of.nd rfl (by first | exact .inl rfl | exact .inr rfl) (pe_op op_sub (pe_callB call_len_seq (by rfl) T.b_len PySem.boot_len (pa_cons (pv 2) pa_nil)) pe_int))
      (pss_cons (ps_set (i := 4) sc_kept_of.nd rfl (by first | exact .inl rfl | exact .inr rfl) (pe_lc2 (own := [("other", 5), ("frame", 6)]) (wi1 := iTup K (tOp (rIx K) (tVar 0) (tVar 5))) (vs1 := [6]) (g := (gName 5)) (g1 := (gName 6)) (tt1 := tYes) rfl sc_kept_of.nd (pi_range1 (by rfl) T.b_range (pa_cons (pe_callB call_len_seq (by rfl) T.b_len PySem.boot_len (pa_cons (pv 0) pa_nil)) pa_nil)) (blkOk_by (own := [("other", 5), ("frame", 6)]) (N := ["web", "wait", "told", "tick", "needed", "other", "frame"]) (sc := defScope s_kept_of) (by decide +kernel)) (by decide) (fun _ _ _ _ _ => pg_name (i := 5) sc_kept_of.nd rfl (by first | exact .inl rfl | exact .inr rfl)) (fun _ _ _ _ _ => pts_one (pt_cmpR (show OpR _ _ (rIn K true) from op_notIn_seq) (pv 5) (pv 2) (by rfl))) (fun _ _ _ _ _ => (pi_tup (pe_ix (show IxR _ (rIx K) from ix_seq) (pv 0) (pv 5) (fun _ _ => rfl)))) (fun _ _ _ _ _ => pg_name (i := 6) sc_kept_of.nd rfl (by first | exact .inl rfl | exact .inr rfl)) (fun _ _ _ _ _ => pts_nil) (fun _ _ _ _ _ => (pv 6))))
      (pss_one (ps_ret (pe_callTy call_tuple_of (by rfl) T.b_tuple (by decide +kernel) (pa_cons (pe_lc (own := [("frame", 6)]) (g := (gName 6)) rfl sc_kept_of.nd (KEN.pi_seqS (pv 2)) (blkOk_by (own := [("frame", 6)]) (N := ["web", "wait", "told", "tick", "needed", "other", "frame"]) (sc := defScope s_kept_of) (by decide +kernel)) (fun _ _ _ _ _ => pg_name (i := 6) sc_kept_of.nd rfl (by first | exact .inl rfl | exact .inr rfl)) (fun _ _ _ _ _ => pts_one (PW.pt (pw_or (pt_cmpR op_gt (pe_op op_add (pv 1) (pv 6)) (pv 3) (nomark _)) (pw_or1 (pt_cmpR (show OpR _ _ (rIn K false) from op_in_seq) (pv 6) (pv 4) (by rfl)))))) (fun _ _ _ _ _ => (pv 6))) pa_nil)))))), ?_⟩
    obtain ⟨a, ws, rfl, ha, rl⟩ := id hw
    have hlen : ws.length = rows.length := rl.1
    refine ⟨_, rfl, b, NV told, rfl, hb.imp SqL.of SqT.of, _, _, rfl, rfl, _, rfl, a, ws, rfl, ha.imp SqL.of SqT.of, _, rfl, by omega, by omega, ?_⟩
    rw [Int.toNat_natCast, NV_len]
    intro D hD
    refine out_it (walk_rangeN (n := ws.length)) (fun i H' => H' D = some (.lst (NV (needU rows told i))) ∧ Same H H') ⟨upd_same, Same.new hD⟩ (fun _ _ _ _ => trivial) ?_ ?_
    · rintro i x H3 H2 hi ⟨eD, s1⟩ ⟨rfl, rfl⟩
      refine ⟨rfl, ?_⟩
      refine ⟨_, rfl, _, rfl, b, _, rfl, hb.imp (fun e => SqL.of (s1 _ _ e)) (fun e => SqT.of (s1 _ _ e)), rfl, NV_flat told, ?_⟩
      rw [if_pos rfl, inV_NV]
      refine ⟨_, rfl, ?_⟩
      rw [needU_succ]
      have l1 := needU_len (told := told) hrl i
      cases c : inB told i with
      | true =>
        refine iteF ⟨?_, s1⟩
        rw [if_pos rfl, List.append_nil]
        exact eD
      | false =>
        have er : rows[i]? = some (row rows i) := by
          unfold row
          rw [List.getD_eq_getElem?_getD, List.getElem?_eq_getElem (show i < rows.length by omega)]
          rfl
        obtain ⟨q, eq, hq⟩ := (rl.same s1).at_ er
        refine iteT ⟨_, rfl, _, rfl, ix_either (K := K) (ha.imp (s1 _ _) (s1 _ _)) eq ⟨q, rfl, ⟨_, SqT.of hq⟩, ?_⟩⟩
        have hq := rl.at_ er
        obtain ⟨q', eq', hq⟩ := hq
        rw [eq] at eq'
        cases eq'
        rw [if_neg Bool.false_ne_true]
        have l2 := row_len hrl i
        refine inn_it (walk_tup (K := K) (a := q) (xs := NV (row rows i))) (g := gName 6) (tt := tYes) (te := tVar 6) (vs := [6]) (fun j H' => H' D = some (.lst (NV (needU rows told i ++ (row rows i).take j))) ∧ Same H H') ⟨by rw [List.take_zero, List.append_nil]; exact eD, s1⟩ (fun _ H' _ n => SqT.of (n.2 _ _ hq)) ?_ ?_
        · rintro j y H5 H4 hj ⟨e5, s5⟩ ⟨rfl, hy⟩
          rw [NV_len] at hj
          obtain ⟨f, ef, rfl⟩ := NV_at hy
          refine ⟨rfl, ?_⟩
          dsimp only [tYes]
          rw [if_pos rfl]
          refine ⟨_, rfl, _, e5, ?_, ?_, Same.put s5 hD⟩
          · rw [NV_len, List.length_append, List.length_take]
            exact Nat.lt_of_le_of_lt (show _ ≤ 20000 by omega) (by decide)
          · rw [upd_same, List.take_add_one, ef, ← List.append_assoc]
            exact congrArg (fun l => some (HO.lst l)) (NV_snoc _ f).symm
        · rintro H5 ⟨e5, s5⟩
          rw [NV_len, List.take_length] at e5
          exact ⟨e5, s5⟩
    · rintro H1 ⟨e1, s1⟩
      rw [hlen] at e1
      have e1 : H1 D = some (.lst (NV (needL rows told))) := e1
      have hb1 := hb.imp (s1 _ _) (s1 _ _)
      refine ⟨_, rfl, b, NV told, rfl, hb1.imp SqL.of SqT.of, fun J G wk hG => fun D2 hD2 => ?_⟩
      refine lcP wk told (keepB rows p told) (fun f : Nat => V.int (f : Int)) (NV_len told) hD2 hG (Nat.le_trans hl (by decide)) yAt_same ?_ ?_
      · rintro i x f H2 H3 N R hm s2 ⟨rfl, hx⟩ hy hn'
        rw [NV_get hm] at hx
        cases hx
        refine ⟨rfl, _, rfl, _, rfl, _, _, rfl, rfl, _, rfl, _, _, rfl, rfl, _, rfl, ?_⟩
        have ek : keepB rows p told f = (decide (p + f > (told.length : Int) - 1) || outB rows told f) := rfl
        cases c : decide (p + f > (told.length : Int) - 1) with
        | true =>
          rw [c] at ek
          exact iteT (iteT ⟨_, rfl, hy ek _ fun _ _ e => e⟩)
        | false =>
          rw [c] at ek
          refine iteF ⟨_, rfl, _, rfl, D, _, rfl, .inl (SqL.of (s2 _ _ e1)), rfl, NV_flat _, ?_⟩
          rw [if_neg Bool.false_ne_true, inV_NV, inB_need]
          refine ⟨_, rfl, ?_⟩
          cases c2 : outB rows told f with
          | true =>
            rw [c2] at ek
            exact iteT ⟨_, rfl, hy ek _ fun _ _ e => e⟩
          | false =>
            rw [c2] at ek
            exact iteF (hn' ek _ fun _ _ e => e)
      · intro H2 s2 e2
        exact ⟨D2, _, rfl, .inl ⟨SqL.of e2, fun l hl' => k l _ ((s1.trans s2).trans (Same.new hl')) upd_same⟩⟩
end
end K45
namespace K45
open PySem PySem.Spec PyProof.Rows L2 PySem.W LamX KA KW KU KL KT
open Evl (pss_cut tCut)
/-! ### the smallest whole set, the excesses -/
def Lots (rows : List (List Nat)) : Prop := ∀ r ∈ rows, lotB rows.length r = true
def spClosed : Sp := fun vs H Q _ => ∃ (x : V) (b : Addr) (rows : List (List Nat)) (fs : List Nat), vs = [x, .ref b] ∧ Wv H x rows ∧ Lots rows ∧ rows.length ≤ 10 ∧ H b = some (.lst (NV fs)) ∧ fs.Nodup ∧ (∀ f ∈ fs, f < rows.length) ∧ ∀ q H', Same H H' → H' q = some (.tup (NV (clos rows fs))) → Q (.ref q) H'
def spExcesses : Sp := fun vs H Q _ => ∃ (x : V) (rows : List (List Nat)), vs = [x] ∧ Wv H x rows ∧ Lots rows ∧ rows.length ≤ 10 ∧ ∀ q H', Same H H' → H' q = some (.lst ((exs rows).map V.int)) → Q (.ref q) H'
theorem row_at {rows : List (List Nat)} {i : Nat} (h : i < rows.length) : rows[i]? = some (row rows i) := by
  unfold row
  rw [List.getD_eq_getElem?_getD, List.getElem?_eq_getElem h]
  rfl
theorem nodup_count {l : List Nat} {n : Nat} (nd : l.Nodup) (h : ∀ x ∈ l, x < n) : l.length ≤ n := by
  have := nodup_le l (List.range n) nd fun x hx => List.mem_range.mpr (h x hx)
  rw [List.length_range] at this
  exact this
/-- what is gathered on the way -/
structure Way (rows : List (List Nat)) (fs found : List Nat) (at_ : Nat) : Prop where
  nd : found.Nodup
  lt : ∀ x ∈ found, x < rows.length
  has : ∀ f ∈ fs, f ∈ found
  shut : ∀ f ∈ found.take at_, ∀ x ∈ row rows f, x ∈ found
  least : ∀ x ∈ found, ∀ s ∈ wholes rows, (∀ f ∈ fs, f ∈ s) → x ∈ s
theorem Way.next {rows : List (List Nat)} {fs found : List Nat} {i f : Nat} (h : Way rows fs found i) (hl : Lots rows) (e : found[i]? = some f) : Way rows fs (found ++ (row rows f).filter fun x => !(inB found x)) (i + 1) := by
  have hf := List.mem_of_getElem? e
  have lf := h.lt f hf
  have q := lotB_iff.mp (row_lot hl lf)
  have new : ∀ x, x ∈ (row rows f).filter (fun x => !(inB found x)) ↔ x ∈ row rows f ∧ x ∉ found := fun x => by
    rw [List.mem_filter]
    refine and_congr Iff.rfl ⟨fun z y => ?_, fun z => ?_⟩
    · rw [inB_iff.mpr y] at z
      exact absurd z (by decide)
    · rw [Bool.eq_false_iff.mpr fun y => z (inB_iff.mp y)]
      rfl
  refine ⟨?_, fun x hx => ?_, fun g hg => List.mem_append.mpr (.inl (h.has g hg)), fun g hg x hx => ?_, fun x hx s hs a => ?_⟩
  · rw [List.nodup_append]
    refine ⟨h.nd, (asc_nodup q.1).filter _, fun a ha b hb z => ?_⟩
    exact ((new b).mp hb).2 (z ▸ ha)
  · rcases List.mem_append.mp hx with hx | hx
    · exact h.lt x hx
    · exact q.2 x ((new x).mp hx).1
  · have lt := (List.getElem?_eq_some_iff.mp e).1
    rw [List.take_append_of_le_length (by omega), List.take_add_one, e] at hg
    refine List.mem_append.mpr ?_
    rcases List.mem_append.mp hg with hg | hg
    · exact .inl (h.shut g hg x hx)
    · have : g = f := List.mem_singleton.mp hg
      subst this
      by_cases c : x ∈ found
      · exact .inl c
      · exact .inr ((new x).mpr ⟨hx, c⟩)
  · rcases List.mem_append.mp hx with hx | hx
    · exact h.least x hx s hs a
    · exact (mem_wholes.mp hs).2 f (h.least f hf s hs a) x ((new x).mp hx).1
theorem Way.done {rows : List (List Nat)} {fs found k : List Nat} {i : Nat} (h : Way rows fs found i) (e : found.length ≤ i) (p : k.Perm found) (pw : k.Pairwise (· ≤ ·)) : k = clos rows fs := by
  refine clos_done p pw h.nd h.lt h.has (fun f hf x hx => h.shut f ?_ x hx) h.least
  rw [List.take_of_length_le e]
  exact hf
theorem pw_nat : ∀ {l : List Nat}, (l.map fun n : Nat => (n : Int)).Pairwise (· ≤ ·) → l.Pairwise (· ≤ ·) := fun {l} h => by
  rw [List.pairwise_map] at h
  exact h.imp fun q => Int.ofNat_le.mp q
theorem rg_nat (n : Nat) : rgV 0 (n : Int) = NV (List.range n) := by
  unfold rgV NV
  rw [show ((n : Int) - 0).toNat = n by omega]
  exact List.map_congr_left fun i _ => by rw [Int.zero_add]
section
variable {P : Program} {w : World} {K : PySem.W.Frag} {mg : Str → Option Value} {base : Heap} (T : Top K mg)
theorem ok_closed : FnOk P w K mg base (L2.CX P w) 1 T.closed.a T.closed.d ["web", "frames"] spClosed := by
  refine T.closed.f.okX sc_closed (fun vs H Q E h => ?_) (fun cdv A outer s H vs Q E hr h => ?_)
  · obtain ⟨x, b, rows, fs, rfl, _⟩ := h
    rfl
  · obtain ⟨x, b, rows, fs, rfl, hw, hl, hn, hb, nd, flt, k⟩ := h
    refine ⟨_, (pss_cons (ps_set (i := 2) sc_closed.nd rfl (by first | exact .inl rfl | exact .inr rfl) (pe_callTy call_list_of (by rfl) T.b_list (by decide +kernel) (pa_cons (pv 1) pa_nil)))
      (pss_cons (ps_set (i := 3) sc_closed.nd rfl (by first | exact .inl rfl | exact .inr rfl) pe_int)
      (pss_cons (ps_while (passes_of rfl) (pt_cmpR op_lt (pv 3) (pe_callB call_len_seq (by rfl) T.b_len PySem.boot_len (pa_cons (pv 2) pa_nil)) (nomark _))
        (pss_cons (ps_expr (pe_bm PySem.F.plainAttrs_list PySem.F.slot_list_extend PySem.F.type_list_extend mt_extend (pv 2) (pa_cons (pe_lc (own := [("other", 4)]) (g := (gName 4)) rfl sc_closed.nd (pi_tup (pe_ix (show IxR _ (rIx K) from ix_seq) (pv 0) (pe_ix (show IxR _ (rIx K) from ix_seq) (pv 2) (pv 3) (fun _ _ => rfl)) (fun _ _ => rfl))) (blkOk_by (own := [("other", 4)]) (N := ["web", "frames", "found", "at", "other"]) (sc := defScope s_closed) (by decide +kernel)) (fun _ _ _ _ _ => pg_name (i := 4) sc_closed.nd rfl (by first | exact .inl rfl | exact .inr rfl)) (fun _ _ _ _ _ => pts_one (pt_cmpR (show OpR _ _ (rIn K true) from op_notIn_seq) (pv 4) (pv 2) (by rfl))) (fun _ _ _ _ _ => (pv 4))) pa_nil)))
      (pss_one (ps_aug (i := 3) sc_closed.nd rfl (by first | exact .inl rfl | exact .inr rfl) pe_int ip_add))))
      (pss_one (ps_ret (pe_callTy call_tuple_of (by rfl) T.b_tuple (by decide +kernel) (pa_cons (pe_callB cr_sorted (by rfl) T.b_sorted (by decide +kernel) (pa_cons (pv 2) pa_nil)) pa_nil))))))), ?_⟩
    obtain ⟨a, ws, rfl, ha, rl⟩ := id hw
    have hlen : ws.length = rows.length := rl.1
    refine ⟨_, rfl, b, NV fs, rfl, .inl (SqL.of hb), fun q hq => ?_⟩
    refine ⟨fun μ σ' H2 => ∃ v4, ∃ (found : List Nat) (at_ : Nat), σ' = [some (.ref a), some (.ref b), some (.ref q), some (.int (at_ : Int)), v4] ∧ H2 q = some (.lst (NV found)) ∧ Same H H2 ∧ Way rows fs found at_ ∧ rows.length ≤ at_ + μ,
      ⟨rows.length, none, fs, 0, rfl, upd_same, Same.new hq, ⟨nd, flt, fun _ h => h, fun f hf => absurd hf (by rw [List.take_zero]; exact fun z => nomatch z), fun x hx s hs z => z x hx⟩, by omega⟩, ?_⟩
    rintro μ σ' H2 ⟨v4, found, at_, rfl, eq, s2, wy, hm⟩
    have hc := nodup_count wy.nd wy.lt
    refine ⟨_, rfl, _, rfl, q, _, rfl, .inl (SqL.of eq), _, _, rfl, rfl, _, rfl, ?_⟩
    rw [NV_len]
    by_cases ct : at_ < found.length
    case neg =>
      rw [show decide (((at_ : Nat) : Int) < ((found.length : Nat) : Int)) = false from decide_eq_false (by omega)]
      refine iteF ⟨_, rfl, q, found.map fun n : Nat => (n : Int), rfl, SqL.of (by rw [← NV_ints]; exact eq), by rw [List.length_map]; omega, fun ns' p pm pw hp => ?_⟩
      obtain ⟨k', pm', rfl⟩ := KSU.perm_of_map pm found rfl
      have ek := wy.done (by omega) pm' (pw_nat pw)
      subst ek
      rw [← NV_ints]
      refine ⟨p, _, rfl, .inl ⟨SqL.of upd_same, fun l hl' => ?_⟩⟩
      exact k l _ ((s2.trans (Same.new hp)).trans (Same.new hl')) upd_same
    rw [show decide (((at_ : Nat) : Int) < ((found.length : Nat) : Int)) = true from decide_eq_true (by omega)]
    obtain ⟨μ, rfl⟩ : ∃ ν, μ = ν + 1 := ⟨μ - 1, by omega⟩
    refine iteT ⟨fun σ' H' => ∃ v4, ∃ (found : List Nat) (at_ : Nat), σ' = [some (.ref a), some (.ref b), some (.ref q), some (.int (at_ : Int)), v4] ∧ H' q = some (.lst (NV found)) ∧ Same H H' ∧ Way rows fs found at_ ∧ rows.length ≤ at_ + μ,
      fun σ' H' h => ⟨μ, Nat.lt_succ_self _, h⟩, ?_⟩
    obtain ⟨f, ef⟩ : ∃ f, found[at_]? = some f := ⟨_, List.getElem?_eq_getElem ct⟩
    have lf := wy.lt f (List.mem_of_getElem? ef)
    obtain ⟨p, ep, hp⟩ := (rl.same s2).at_ (row_at lf)
    have rlen : (row rows f).length ≤ 10 := by
      have q := lotB_iff.mp (row_lot hl lf)
      have := nodup_count (asc_nodup q.1) q.2
      omega
    refine ⟨_, rfl, .inl ⟨rfl, _, SqL.of eq⟩, _, rfl, _, rfl, _, rfl, ix_either (K := K) (.inl eq) (NV_get ef) (ix_either (K := K) (ha.imp (s2 _ _) (s2 _ _)) ep ⟨p, rfl, ⟨_, SqT.of hp⟩, fun D hD => ?_⟩)⟩
    refine lcP (walk_tup (K := K) (a := p) (xs := NV (row rows f))) (row rows f) (fun x => !(inB found x)) (fun x : Nat => V.int (x : Int)) (NV_len _) hD (fun H' s' => SqT.of (s' _ _ hp)) (by omega) yAt_same ?_ ?_
    · rintro i x m H4 H3 N R hm' s3 ⟨rfl, hx⟩ hy hn'
      rw [NV_get hm'] at hx
      cases hx
      refine ⟨rfl, _, rfl, _, rfl, q, _, rfl, .inl (SqL.of (s3 _ _ eq)), rfl, NV_flat found, ?_⟩
      rw [if_pos rfl, inV_NV]
      refine ⟨_, rfl, ?_⟩
      cases c : inB found m with
      | true => exact iteF (hn' (by rw [c]; rfl) _ fun _ _ e => e)
      | false => exact iteT ⟨_, rfl, hy (by rw [c]; rfl) _ fun _ _ e => e⟩
    · intro H3 s3 e3
      have e3 : H3 D = some (.lst (NV ((row rows f).filter fun x => !(inB found x)))) := e3
      have fl : ((row rows f).filter fun x => !(inB found x)).length ≤ 10 := Nat.le_trans (List.length_filter_le _ _) rlen
      refine ⟨q, D, NV found, _, rfl, rfl, s3 _ _ eq, e3, ?_, ?_⟩
      · rw [NV_len, NV_len]
        exact Nat.le_trans (show _ ≤ 2000 by omega) (by decide)
      · refine ⟨_, rfl, _, _, rfl, rfl, ?_⟩
        refine ⟨_, found ++ (row rows f).filter fun x => !(inB found x), at_ + 1, rfl, ?_, ?_, wy.next hl ef, by omega⟩
        · rw [upd_same]
          unfold NV
          rw [List.map_append]
        · exact Same.put (s2.trans s3) hq
theorem ok_excesses_of : FnOk P w K mg base (L2.CX P w) 2 T.excesses_of.a T.excesses_of.d ["web"] spExcesses := by
  refine T.excesses_of.f.okX sc_excesses_of (fun vs H Q E h => ?_) (fun cdv A outer s H vs Q E hr h => ?_)
  · obtain ⟨x, rows, rfl, _⟩ := h
    rfl
  · obtain ⟨x, rows, rfl, hw, hl, hn, k⟩ := h
    refine ⟨_, (pss_one (ps_ret (pe_lc (own := [("frame", 1)]) (g := (gName 1)) (tt := tYes) rfl sc_excesses_of.nd (pi_range1 (by rfl) T.b_range (pa_cons (pe_callB call_len_seq (by rfl) T.b_len PySem.boot_len (pa_cons (pv 0) pa_nil)) pa_nil)) (blkOk_by (own := [("frame", 1)]) (N := ["web", "frame"]) (sc := defScope s_excesses_of) (by decide +kernel)) (fun _ _ _ _ _ => pg_name (i := 1) sc_excesses_of.nd rfl (by first | exact .inl rfl | exact .inr rfl)) (fun _ _ _ _ _ => pts_nil) (fun _ _ _ _ _ => (pe_op op_sub (pe_op op_sub (pe_callB (show CallR _ _ (rLen K) from call_len_seq) (by rfl) T.b_len PySem.boot_len (pa_cons (pe_call (ok_closed T) (hr.mono (by decide)) (by rfl) T.closed.m T.closed.f.kp (bd_closed T) .nil passE (pa_cons (pv 0) (pa_cons (pe_listRg rfl (by rfl) T.b_list (prg_1 (by rfl) T.b_range (pe_op op_add (pv 1) pe_int))) pa_nil))) pa_nil)) (pv 1)) pe_int))))), ?_⟩
    obtain ⟨a, ws, rfl, ha, rl⟩ := id hw
    have hlen : ws.length = rows.length := rl.1
    refine ⟨_, rfl, a, ws, rfl, ha.imp SqL.of SqT.of, _, rfl, by omega, by omega, ?_⟩
    rw [Int.toNat_natCast]
    intro D hD
    refine lcP (walk_rangeN (n := ws.length)) (List.range rows.length) (fun _ => true) (fun f => V.int (excess rows f)) (by rw [List.length_range, hlen]) hD (fun _ _ => trivial) (by rw [List.length_range]; omega) yFn_same ?_ ?_
    · rintro i x f H3 H2 N R hf s1 ⟨rfl, rfl⟩ hy hn'
      obtain ⟨rfl, hfl⟩ := range_at hf
      refine ⟨rfl, ?_⟩
      dsimp only [tYes]
      rw [if_pos rfl]
      refine ⟨_, rfl, _, rfl, _, _, rfl, rfl, _, rfl, RgOk.of_le (by decide) (by omega) (by decide) (by omega), fun q hq => ?_⟩
      dsimp only [tNil]
      rw [show ((f : Nat) : Int) + 1 = ((f + 1 : Nat) : Int) by omega, rg_nat]
      refine ⟨.ref a, q, rows, List.range (f + 1), rfl, hw.keep (s1.trans (Same.new hq)), hl, hn, upd_same, range_nodup _, range_sub (by omega), fun p H4 s4 e4 => ?_⟩
      refine ⟨p, _, rfl, .inr (SqT.of e4), _, rfl, _, _, rfl, rfl, _, _, rfl, rfl, ?_⟩
      rw [NV_len]
      exact hy rfl H4 ((Same.new hq).trans s4)
    · intro H1 s1 e1
      rw [filter_yes] at e1
      refine k D H1 s1 ?_
      rw [e1]
      unfold exs
      rw [List.map_map]
      rfl
end
end K45
namespace K45
open PySem PySem.Spec PyProof.Rows L2 PySem.W LamX KA KW KU KL KT
open Evl (pss_cut tCut)
/-! ### the four that are asked -/
def rowsO (o : Option (List (Option (List V)))) : List (List Nat) := rowsOf (o.getD [])
theorem web_ok {K : PySem.W.Frag} {H : Hp} {x : V} {o : Option (List (Option (List V)))} (h : Web K H x o) (g : webV o = .good) : Wv H x (rowsO o) ∧ 1 ≤ (rowsO o).length ∧ (rowsO o).length ≤ 10 ∧ (∀ r ∈ rowsO o, r.length ≤ 1000) ∧ Lots (rowsO o) := by
  obtain ⟨rows, w, ⟨os, rfl, rfl⟩, l1, l2, l3⟩ := web_good h g
  obtain ⟨os', e, _, _, hb⟩ := webV_good g
  cases e
  refine ⟨w, l1, l2, l3, fun r hr => ?_⟩
  have hr : r ∈ rowsOf os := hr
  obtain ⟨q, hq, rfl⟩ := List.mem_map.mp hr
  obtain ⟨i, hi⟩ := List.getElem?_of_mem hq
  have := hb i (List.getElem?_eq_some_iff.mp hi).1
  unfold badV at this
  rw [Bool.or_eq_false_iff, okV_at hi] at this
  obtain ⟨ns, _, en, hl⟩ := lotV_nv (show lotV os.length q = true by simpa using this.1)
  rw [en]
  show lotB (rowsOf os).length ns = true
  rw [show (rowsOf os).length = os.length from List.length_map _]
  exact hl
def firstIx (v : Int) : List Int → Nat
  | [] => 0
  | x :: l => if x = v then 0 else firstIx v l + 1
theorem firstIx_spec {v : Int} : ∀ {l : List Int}, v ∈ l → l[firstIx v l]? = some v ∧ ∀ (m : Nat) (z : Int), m < firstIx v l → l[m]? = some z → z ≠ v
  | x :: l, h => by
    rw [firstIx]
    by_cases c : x = v
    · rw [if_pos c]
      exact ⟨by rw [c]; rfl, fun m z hm => absurd hm (Nat.not_lt_zero _)⟩
    · rw [if_neg c]
      obtain ⟨a, b⟩ := firstIx_spec (l := l) ((List.mem_cons.mp h).resolve_left fun e => c e.symm)
      refine ⟨a, fun m z hm e => ?_⟩
      cases m with
      | zero =>
        have : x = z := Option.some.inj e
        rw [← this]
        exact c
      | succ m => exact b m z (by omega) e
def spot (rows : List (List Nat)) : Nat := firstIx (maxI (exs rows)) (exs rows)
def Er (E : XK) (H : Hp) (C : Addr) (x : V) : Prop := ∀ H' d, Same H H' → H' d = none → E (.ref C) (some d) (upd H' d (.xd [("at", x)]))
def spWebWait (K : PySem.W.Frag) (CB : Addr) : Sp := fun vs H Q E => ∃ x o, vs = [x] ∧ Web K H x o ∧ (webV o ≠ .good → Er E H CB (webX (webV o))) ∧ (webV o = .good → ∀ H', Same H H' → Q (.int (maxI (exs (rowsO o)))) H')
def spCritical (K : PySem.W.Frag) (CB : Addr) : Sp := fun vs H Q E => ∃ x o, vs = [x] ∧ Web K H x o ∧ (webV o ≠ .good → Er E H CB (webX (webV o))) ∧ (webV o = .good → ∀ H', Same H H' → Q (.int (spot (rowsO o) : Nat)) H')
def spKept (K : PySem.W.Frag) (CB CW CS : Addr) : Sp := fun vs H Q E => ∃ x y z o b r, vs = [x, y, z] ∧ Web K H x o ∧ Pl K H y b ∧ Rv K H z r ∧ (webV o ≠ .good → Er E H CB (webX (webV o))) ∧ (webV o = .good → (within y 0 20 = false → ∀ H', Same H H' → E (.ref CW) none H') ∧
  (within y 0 20 = true → ((lotV (rowsO o).length r && wholeB (rowsO o) (nats r)) = false → ∀ H', Same H H' → E (.ref CS) none H') ∧ ((lotV (rowsO o).length r && wholeB (rowsO o) (nats r)) = true → ∀ p, y = .int p → ∀ q H', Same H H' → H' q = some (.tup (NV (keptL (rowsO o) p (nats r)))) → Q (.ref q) H')))
def spMostKept (K : PySem.W.Frag) (CB CW CO : Addr) : Sp := fun vs H Q E => ∃ x y z o b r, vs = [x, y, z] ∧ Web K H x o ∧ Pl K H y b ∧ Gn K H z r ∧ (webV o ≠ .good → Er E H CB (webX (webV o))) ∧ (webV o = .good → (within y 0 20 = false → ∀ H', Same H H' → E (.ref CW) none H') ∧
  (within y 0 20 = true → ∀ p, y = .int p → (inTime (rowsO o) p r = false → ∀ H', Same H H' → E (.ref CO) none H') ∧ (inTime (rowsO o) p r = true → ∀ H', Same H H' → Q (.int (mostK (rowsO o) p (nats r))) H')))
section
variable {P : Program} {w : World} {K : PySem.W.Frag} {mg : Str → Option Value} {base : Heap} (T : Top K mg) (BW : BadWebT P w K mg T.reel.C)
theorem ok_web_wait : FnOk P w K mg base (L2.CX P w) 5 T.web_wait.a T.web_wait.d ["web"] (spWebWait K BW.C) := by
  refine T.web_wait.f.okX sc_web_wait (fun vs H Q E h => ?_) (fun cdv A outer s H vs Q E hr h => ?_)
  · obtain ⟨x, o, rfl, _⟩ := h
    rfl
  · obtain ⟨x, o, rfl, hw, k1, k2⟩ := h
    refine ⟨_, (pss_cons (ps_expr (pe_call (ok_check_web T BW) (hr.mono (by decide)) (by rfl) T.check_web.m T.check_web.f.kp (bd_check_web T) .nil (passX rfl rfl rfl rfl) (pa_cons (pv 0) pa_nil)))
      (pss_one (ps_ret (pe_callB (cr_max rfl) (by rfl) T.b_max (by decide +kernel) (pa_cons (pe_call (ok_excesses_of T) (hr.mono (by decide)) (by rfl) T.excesses_of.m T.excesses_of.f.kp (bd_excesses_of T) .nil passE (pa_cons (pv 0) pa_nil)) pa_nil))))), ?_⟩
    refine ⟨_, rfl, x, o, rfl, hw, fun g H1 s1 => ?_, k1⟩
    have k2 := k2 g
    obtain ⟨wv, l1, l2, l3, l4⟩ := web_ok (hw.keep s1) g
    refine ⟨_, rfl, x, _, rfl, wv, l4, l2, fun q H2 s2 e2 => ⟨q, exs (rowsO o), rfl, SqL.of e2, by rw [exs_len]; omega, fun m h1 h2 => ?_⟩⟩
    rw [maxI_eq h1 h2]
    exact k2 H2 (s1.trans s2)
theorem ok_critical_frame : FnOk P w K mg base (L2.CX P w) 5 T.critical_frame.a T.critical_frame.d ["web"] (spCritical K BW.C) := by
  refine T.critical_frame.f.okX sc_critical_frame (fun vs H Q E h => ?_) (fun cdv A outer s H vs Q E hr h => ?_)
  · obtain ⟨x, o, rfl, _⟩ := h
    rfl
  · obtain ⟨x, o, rfl, hw, k1, k2⟩ := h
    refine ⟨_, (pss_cons (ps_expr (pe_call (ok_check_web T BW) (hr.mono (by decide)) (by rfl) T.check_web.m T.check_web.f.kp (bd_check_web T) .nil (passX rfl rfl rfl rfl) (pa_cons (pv 0) pa_nil)))
      (pss_cons (ps_set (i := 1) sc_critical_frame.nd rfl (by first | exact .inl rfl | exact .inr rfl) (pe_call (ok_excesses_of T) (hr.mono (by decide)) (by rfl) T.excesses_of.m T.excesses_of.f.kp (bd_excesses_of T) .nil passE (pa_cons (pv 0) pa_nil)))
      (pss_one (ps_ret (pe_bm PySem.F.plainAttrs_list PySem.F.slot_list_index PySem.F.type_list_index mt_index (pv 1) (pa_cons (pe_callB (cr_max rfl) (by rfl) T.b_max (by decide +kernel) (pa_cons (pv 1) pa_nil)) pa_nil)))))), ?_⟩
    refine ⟨_, rfl, x, o, rfl, hw, fun g H1 s1 => ?_, k1⟩
    have k2 := k2 g
    obtain ⟨wv, l1, l2, l3, l4⟩ := web_ok (hw.keep s1) g
    refine ⟨_, rfl, x, _, rfl, wv, l4, l2, fun q H2 s2 e2 => ?_⟩
    refine ⟨_, rfl, .inl ⟨rfl, _, SqL.of e2⟩, _, rfl, q, exs (rowsO o), rfl, SqL.of e2, by rw [exs_len]; omega, fun m h1 h2 => ?_⟩
    rw [maxI_eq h1 h2]
    obtain ⟨c1, c2⟩ := firstIx_spec (maxI_eq h1 h2 ▸ h1)
    refine ⟨q, _, _, spot (rowsO o), .int (maxI (exs (rowsO o))), rfl, rfl, SqL.of e2, rfl, ?_, ?_, ?_, fun m z hm hz => ?_, k2 H2 (s1.trans s2)⟩
    · rw [List.all_eq_true]
      intro x hx
      obtain ⟨n, _, rfl⟩ := List.mem_map.mp hx
      rfl
    · rw [List.getElem?_map]
      show ((exs (rowsO o))[firstIx (maxI (exs (rowsO o))) (exs (rowsO o))]?).map V.int = _
      rw [c1]
      rfl
    · exact beq_self_eq_true (maxI (exs (rowsO o)))
    · rw [List.getElem?_map] at hz
      cases e : (exs (rowsO o))[m]? with
      | none => rw [e] at hz; cases hz
      | some n =>
        rw [e] at hz
        cases hz
        exact beq_eq_false_iff_ne.mpr (c2 m n hm e)
theorem ok_kept : FnOk P w K mg base (L2.CX P w) 5 T.kept.a T.kept.d ["web", "wait", "told"] (spKept K BW.C T.BadWait.C T.BadSet.C) := by
  refine T.kept.f.okX sc_kept (fun vs H Q E h => ?_) (fun cdv A outer s H vs Q E hr h => ?_)
  · obtain ⟨x, y, z, o, b, r, rfl, _⟩ := h
    rfl
  · obtain ⟨x, y, z, o, b, r, rfl, hw, hp, hv, k1, k2⟩ := h
    refine ⟨_, (pss_cons (ps_expr (pe_call (ok_check_web T BW) (hr.mono (by decide)) (by rfl) T.check_web.m T.check_web.f.kp (bd_check_web T) .nil (passX rfl rfl rfl rfl) (pa_cons (pv 0) pa_nil)))
      (pss_cons (ps_expr (pe_call (ok_check_wait T) (hr.mono (by decide)) (by rfl) T.check_wait.m T.check_wait.f.kp (bd_check_wait T) .nil (passX rfl rfl rfl rfl) (pa_cons (pv 1) pa_nil)))
      (pss_cons (ps_if (pt_not (pt_val (pe_call (ok_is_whole T) (hr.mono (by decide)) (by rfl) T.is_whole.m T.is_whole.f.kp (bd_is_whole T) .nil passE (pa_cons (pv 0) (pa_cons (pv 2) pa_nil))))) (pss_one (ps_raiseT rfl rfl T.BadSet (by rfl) rfl (takes_of rfl rfl rfl rfl))) pss_nil)
      (pss_one (ps_ret (pe_call (ok_kept_of T) (hr.mono (by decide)) (by rfl) T.kept_of.m T.kept_of.f.kp (bd_kept_of T) .nil passE (pa_cons (pv 0) (pa_cons (pv 1) (pa_cons (pv 2) pa_nil))))))))), ?_⟩
    refine ⟨_, rfl, x, o, rfl, hw, fun g H1 s1 => ?_, k1⟩
    obtain ⟨k2, k3⟩ := k2 g
    obtain ⟨wv, l1, l2, l3, l4⟩ := web_ok (hw.keep s1) g
    refine ⟨_, rfl, y, b, rfl, hp.keep s1, fun c => ?_, fun c => k2 c _ s1⟩
    obtain ⟨k5, k6⟩ := k3 c
    obtain ⟨p, rfl, p1, p2⟩ := within_int c
    refine ⟨_, rfl, _, rfl, x, z, rowsO o, r, rfl, wv, by omega, l3, hv.keep s1, fun H2 s2 => ⟨_, rfl, ?_⟩⟩
    cases hc : (lotV (rowsO o).length r && wholeB (rowsO o) (nats r)) with
    | false => exact iteT (k5 hc H2 (s1.trans s2))
    | true =>
      refine iteF ?_
      have k4 := k6 hc p rfl
      rw [Bool.and_eq_true] at hc
      obtain ⟨ns, rfl, en, hs⟩ := lotV_nv hc.1
      rw [en] at k4
      have hv2 := hv.keep (s1.trans s2)
      cases hv2 with
      | tup e _ l =>
        rw [NV_len] at l
        exact ⟨_, rfl, _, rfl, _, rfl, x, p, _, rowsO o, ns, rfl, wv.keep s2, l2, l3, .inr e, l, fun q H3 s3 e3 => k4 q H3 ((s1.trans s2).trans s3) e3⟩
theorem ok_most_kept : FnOk P w K mg base (L2.CX P w) 5 T.most_kept.a T.most_kept.d ["web", "wait", "order"] (spMostKept K BW.C T.BadWait.C T.BadOrder.C) := by
  refine T.most_kept.f.okX sc_most_kept (fun vs H Q E h => ?_) (fun cdv A outer s H vs Q E hr h => ?_)
  · obtain ⟨x, y, z, o, b, r, rfl, _⟩ := h
    rfl
  · obtain ⟨x, y, z, o, b, r, rfl, hw, hp, hg, k1, k2⟩ := h
    refine ⟨_, (pss_cons (ps_expr (pe_call (ok_check_web T BW) (hr.mono (by decide)) (by rfl) T.check_web.m T.check_web.f.kp (bd_check_web T) .nil (passX rfl rfl rfl rfl) (pa_cons (pv 0) pa_nil)))
      (pss_cons (ps_expr (pe_call (ok_check_wait T) (hr.mono (by decide)) (by rfl) T.check_wait.m T.check_wait.f.kp (bd_check_wait T) .nil (passX rfl rfl rfl rfl) (pa_cons (pv 1) pa_nil)))
      (pss_cons (ps_if (pt_not (pt_val (pe_call (ok_is_in_time T) (hr.mono (by decide)) (by rfl) T.is_in_time.m T.is_in_time.f.kp (bd_is_in_time T) .nil passE (pa_cons (pv 0) (pa_cons (pv 1) (pa_cons (pv 2) pa_nil)))))) (pss_one (ps_raiseT rfl rfl T.BadOrder (by rfl) rfl (takes_of rfl rfl rfl rfl))) pss_nil)
      (pss_one (ps_ret (pe_callB (cr_max rfl) (by rfl) T.b_max (by decide +kernel) (pa_cons (pe_lc (own := [("many", 3)]) (g := (gName 3)) (tt := tYes) rfl sc_most_kept.nd (pi_range2 (by rfl) T.b_range (pa_cons pe_int (pa_cons (pe_op op_add (pe_callB call_len_seq (by rfl) T.b_len PySem.boot_len (pa_cons (pv 0) pa_nil)) pe_int) pa_nil))) (blkOk_by (own := [("many", 3)]) (N := ["web", "wait", "order", "many"]) (sc := defScope s_most_kept) (by decide +kernel)) (fun _ _ _ _ _ => pg_name (i := 3) sc_most_kept.nd rfl (by first | exact .inl rfl | exact .inr rfl)) (fun _ _ _ _ _ => pts_nil) (fun _ _ _ _ _ => (pe_callB (show CallR _ _ (rLen K) from call_len_seq) (by rfl) T.b_len PySem.boot_len (pa_cons (pe_call (ok_kept_of T) (hr.mono (by decide)) (by rfl) T.kept_of.m T.kept_of.f.kp (bd_kept_of T) .nil passE (pa_cons (pv 0) (pa_cons (pv 1) (pa_cons (pe_callB (show CallR _ _ (KSE.rSortedE K) from KSE.cr_sortedE) (by rfl) T.b_sorted (by decide +kernel) (pa_cons (pe_slice (show SlR _ (KSE.rSlE K) from KSE.sl_either) (pv 2) po_none (po_some (pv 3))) pa_nil)) pa_nil)))) pa_nil)))) pa_nil))))))), ?_⟩
    refine ⟨_, rfl, x, o, rfl, hw, fun g H1 s1 => ?_, k1⟩
    obtain ⟨k2, k3⟩ := k2 g
    obtain ⟨wv, l1, l2, l3, l4⟩ := web_ok (hw.keep s1) g
    refine ⟨_, rfl, y, b, rfl, hp.keep s1, fun c => ?_, fun c => k2 c _ s1⟩
    obtain ⟨p, rfl, p1, p2⟩ := within_int c
    obtain ⟨k3, k4⟩ := k3 c p rfl
    refine ⟨_, rfl, _, rfl, _, rfl, x, z, p, rowsO o, r, rfl, wv, l1, l2, l3, hg.keep s1, fun H2 s2 => ⟨_, rfl, ?_⟩⟩
    cases hc : inTime (rowsO o) p r with
    | false => exact iteT (k3 hc H2 (s1.trans s2))
    | true =>
      refine iteF ?_
      have k4 := k4 hc
      cases r with
      | none => cases hc
      | some xs =>
      obtain ⟨line, rfl, hord, _⟩ := inTime_some.mp hc
      rw [nats_NV] at k4
      obtain ⟨tp, el⟩ := mem_ords.mp hord
      have s12 := s1.trans s2
      obtain ⟨d, rfl, hd⟩ : ∃ d, z = .ref d ∧ Nv H2 d line := by
        cases hg.keep s12 with
        | some e _ _ => exact ⟨_, rfl, e⟩
      have wv2 := wv.keep s2
      obtain ⟨a, ws, rfl, ha, rl⟩ := id wv2
      have hlen : ws.length = (rowsO o).length := rl.1
      refine ⟨_, rfl, a, ws, rfl, ha.imp SqL.of SqT.of, _, _, rfl, rfl, _, _, rfl, ⟨by decide, by decide, by omega, by omega⟩, ?_⟩
      intro D hD
      refine lcP (walk_range (lo := 1) (n := (((ws.length : Nat) : Int) + 1 - 1).toNat)) (List.range line.length) (fun _ => true) (fun t : Nat => V.int ((keptL (rowsO o) p (inOrder (rowsO o).length (line.take (t + 1)))).length : Int)) (by rw [List.length_range]; omega) hD (fun _ _ => trivial) (by rw [List.length_range]; omega) yFn_same ?_ ?_
      · rintro i x t H4 H3 N R ht s3 ⟨rfl, rfl⟩ hy hn'
        obtain ⟨rfl, htl⟩ := range_at ht
        refine ⟨rfl, ?_⟩
        dsimp only [tYes]
        rw [if_pos rfl]
        refine ⟨_, rfl, _, rfl, _, rfl, _, rfl, _, rfl, ?_⟩
        have tk : (NV line).take (t + 1) = NV (line.take (t + 1)) := (List.map_take ..).symm
        dsimp only
        rw [show (1 : Int) + (t : Int) = ((t + 1 : Nat) : Int) by omega]
        refine take_either (K := K) (hd.imp (s3 _ _) (s3 _ _)) (show t + 1 ≤ (NV line).length by rw [NV_len]; omega) fun c' H5 s5 e5 => ?_
        rw [tk, NV_ints] at e5
        refine ⟨c', (line.take (t + 1)).map fun n : Nat => (n : Int), rfl, e5.imp SqL.of SqT.of, by rw [List.length_map, List.length_take]; omega, fun ns' q pm pw hq => ?_⟩
        obtain ⟨k', pm', rfl⟩ := KSU.perm_of_map pm _ rfl
        have ek := inOrder_of pm' (pw_nat pw) (tp.take (t + 1)).nd (tp.take (t + 1)).lt
        subst ek
        rw [← NV_ints]
        refine ⟨.ref a, p, q, rowsO o, _, rfl, wv2.keep ((s3.trans s5).trans (Same.new hq)), l2, l3, .inl upd_same, ?_, fun q' H6 s6 e6 => ?_⟩
        · have := nodup_count (asc_nodup inOrder_asc) (fun x hx => (mem_inOrder (n := (rowsO o).length) (l := line.take (t + 1)) (x := x)).mp hx |>.1)
          omega
        · refine ⟨q', _, rfl, .inr (SqT.of e6), ?_⟩
          rw [NV_len]
          exact hy rfl H6 (s5.trans ((Same.new hq).trans s6))
      · intro H3 s3 e3
        rw [filter_yes] at e3
        refine ⟨D, manyK (rowsO o) p line, rfl, SqL.of (by rw [e3]; unfold manyK; rw [List.map_map]; rfl), by unfold manyK; rw [List.length_map, List.length_range]; omega, fun m h1 h2 => ?_⟩
        rw [maxI_eq h1 h2]
        exact k4 H3 (s12.trans s3)
end
end K45
namespace K45
open PySem PySem.Spec PyProof.Rows L2 PySem.W LamX KA KW KU KL KT
open Evl (pss_cut tCut)
/-! ### the law's own sums and shut lots -/
def spLsum : Sp := fun vs H Q _ => ∃ (a b : Addr) (g : List Int) (s : List Nat), vs = [.ref a, .ref b] ∧ H a = some (.lst (g.map V.int)) ∧ H b = some (.tup (NV s)) ∧ s.length ≤ 1000 ∧ (∀ f ∈ s, f < g.length) ∧ ∀ H', Same H H' → Q (.int (gain g s)) H'
def spShut : Sp := fun vs H Q _ => ∃ (a b : Addr) (ws : List V) (rows : List (List Nat)) (s : List Nat), vs = [.ref a, .ref b] ∧ H a = some (.lst ws) ∧ RL NV H ws rows ∧ (∀ r ∈ rows, r.length ≤ 1000) ∧ H b = some (.tup (NV s)) ∧ s.length ≤ 1000 ∧ (∀ f ∈ s, f < rows.length) ∧ ∀ H', Same H H' → Q (.bl (wholeB rows s)) H'
theorem room_units {k : Nat} {A : Around} (h : Room k A) : A.units + 4 < cLine := by
  have := h.units
  omega
theorem rest_nil {r s : List Nat} : (r.filter fun x => !(inB s x)).isEmpty = r.all (inB s) := by
  rw [Bool.eq_iff_iff, List.isEmpty_iff, List.filter_eq_nil_iff, List.all_eq_true]
  constructor
  · intro h x hx
    have := h x hx
    cases c : inB s x with
    | true => rfl
    | false => rw [c] at this; exact absurd rfl this
  · intro h x hx
    rw [h x hx]
    exact Bool.false_ne_true
theorem shut_nil {rows : List (List Nat)} {s : List Nat} : (s.filter fun f => !((row rows f).all (inB s))).isEmpty = wholeB rows s := by
  unfold wholeB
  rw [Bool.eq_iff_iff, List.isEmpty_iff, List.filter_eq_nil_iff, List.all_eq_true]
  constructor
  · intro h x hx
    have := h x hx
    cases c : (row rows x).all (inB s) with
    | true => rfl
    | false => rw [c] at this; exact absurd rfl this
  · intro h x hx
    rw [h x hx]
    exact Bool.false_ne_true
theorem NV_empty (s : List Nat) : (s.map fun n : Nat => (n : Int)).isEmpty = s.isEmpty := by cases s <;> rfl
/-- the comprehension in an expression -/
def lcIn : Expr → Expr
  | .Compare l _ _ _ => l
  | e => e
def lcOf : Expr → Scope
  | .ListComp _ _ s _ => s
  | _ => defScope s_is_number
def lcIf : Expr → Expr
  | .ListComp _ (g :: _) _ _ => match g.ifs with
    | c :: _ => lcIn c
    | [] => .Name "x" ⟨0, 0, 0, 0⟩
  | e => e
def retOf : Stmt → Expr
  | .Return (some e) _ => e
  | .Assign _ e _ => e
  | _ => .Name "x" ⟨0, 0, 0, 0⟩
def stAt (s : Stmt) (i : Nat) : Expr := lcIn (retOf ((defBody s).getD i (.Pass ⟨0, 0, 0, 0⟩)))
section
variable {P : Program} {w : World} {K : PySem.W.Frag} {mg : Str → Option Value} {base : Heap} (T : Top K mg)
theorem ok_is_shut : FnOk P w K mg base (L2.CX P w) 1 T._law_is_shut.a T._law_is_shut.d ["net", "lot"] spShut := by
  refine T._law_is_shut.f.okX sc__law_is_shut (fun vs H Q E h => ?_) (fun cdv A outer s0 H vs Q E hr h => ?_)
  · obtain ⟨a, b, ws, rows, s, rfl, _⟩ := h
    rfl
  · obtain ⟨a, b, ws, rows, s, rfl, ha, rl, l2, hb, hs, hlt, k⟩ := h
    have inR : ∀ (sI : Shared) (HI : Hp) (C : Addr) (cl : List (Str × Addr)) (fp : List Addr), PE ((cxOf (L2.CX P w) P w K mg base ["net", "lot", "own", "mate"] "_law_is_shut" (defScope s__law_is_shut) T._law_is_shut.a cdv A outer s0 H E).blk sI HI (lcOf (stAt s__law_is_shut 0)) (compEnvC (lcOf (stAt s__law_is_shut 0)) cl C (cxOf (L2.CX P w) P w K mg base ["net", "lot", "own", "mate"] "_law_is_shut" (defScope s__law_is_shut) T._law_is_shut.a cdv A outer s0 H E).env) fp) (lcIf (stAt s__law_is_shut 0)) (tLc (iTup K (tOp (rIxL K) (tVar 0) (tVar 2))) (gName 3) (tTest (tOp (rIn K true) (tVar 3) (tVar 1))) (tVar 3) [3]) := by
      intro sI HI C cl fp
      refine pe_lc (own := [("mate", 3)]) (g := gName 3) rfl sc__law_is_shut.nd ?_ ?_ ?_ ?_ ?_
      · exact (pi_tup (pe_ix (show IxR _ (rIxL K) from ix_list) (pv 0) (pv 2) (fun _ _ => rfl)))
      · exact blkOk_by (N := ["net", "lot", "own", "mate"]) (sc := relS (lcOf (stAt s__law_is_shut 0)) (defScope s__law_is_shut)) (by decide +kernel)
      · exact fun _ _ _ _ _ => pg_name (i := 3) sc__law_is_shut.nd rfl (Or.inl rfl)
      · exact fun _ _ _ _ _ => pts_one (pt_cmpR (show OpR _ _ (rIn K true) from op_notIn_seq) (pv 3) (pv 1) (by rfl))
      · exact fun _ _ _ _ _ => (pv 3)
    refine ⟨_, (pss_one (ps_ret (pe_cmpR (op_eqD hr.units) (pe_lc (own := [("own", 2)]) (g := (gName 2)) rfl sc__law_is_shut.nd (pi_tup (pv 1)) (blkOk_by (own := [("own", 2)]) (N := ["net", "lot", "own", "mate"]) (sc := defScope s__law_is_shut) (by decide +kernel)) (fun _ _ _ _ _ => pg_name (i := 2) sc__law_is_shut.nd rfl (Or.inl rfl)) (fun _ _ _ _ _ => pts_one (pt_cmpR (show OpR _ _ (rNeD K) from op_neD hr.units) (inR _ _ _ _ _) (pe_lst pa_nil) (nomark _))) (fun _ _ _ _ _ => (pv 2))) (pe_lst pa_nil) (nomark _)))), ?_⟩
    refine ⟨_, rfl, b, rfl, ⟨_, SqT.of hb⟩, fun D hD => ?_⟩
    refine lcP (walk_tup (K := K) (a := b) (xs := NV s)) s (fun f => !((row rows f).all (inB s))) (fun f => V.int ((f : Nat) : Int)) (NV_len s) hD (fun H' s' => SqT.of (s' _ _ hb)) (Nat.le_trans hs (by decide)) yAt_same ?_ ?_
    · rintro i x m H1 H2 N R hm s1 ⟨rfl, hx⟩ hy hn
      rw [NV_get hm] at hx
      cases hx
      refine ⟨rfl, ?_⟩
      have hml := hlt m (List.mem_of_getElem? hm)
      have er : rows[m]? = some (row rows m) := by
        unfold row
        rw [List.getD_eq_getElem?_getD, List.getElem?_eq_getElem hml]
        rfl
      obtain ⟨p, ep, hp⟩ := (rl.same s1).at_ er
      have lr := l2 _ (List.mem_of_getElem? er)
      refine ⟨_, rfl, _, rfl, a, ws, _, _, rfl, rfl, SqL.of (s1 _ _ ha), atI_nat ep, p, rfl, ⟨_, SqT.of hp⟩, fun D2 hD2 => ?_⟩
      refine lcP (walk_tup (K := K) (a := p) (xs := NV (row rows m))) (row rows m) (fun x => !(inB s x)) (fun f => V.int ((f : Nat) : Int)) (NV_len _) hD2 (fun H' s' => SqT.of (s' _ _ hp)) (Nat.le_trans lr (by decide)) yAt_same ?_ ?_
      · rintro j y n H3 H4 N2 R2 hn2 s3 ⟨rfl, hx2⟩ ky kn
        rw [NV_get hn2] at hx2
        cases hx2
        refine ⟨rfl, ?_⟩
        refine ⟨_, rfl, _, rfl, b, _, rfl, .inr (SqT.of (s3 _ _ (s1 _ _ hb))), rfl, NV_flat s, ?_⟩
        rw [if_pos rfl, inV_NV]
        cases c : inB s n with
        | true => exact ⟨_, rfl, kn (by rw [c]; rfl) _ fun _ _ e => e⟩
        | false => exact ⟨_, rfl, _, rfl, ky (by rw [c]; rfl) _ fun _ _ e => e⟩
      · intro H3 s3 e3
        have e3 : H3 D2 = some (.lst (NV ((row rows m).filter fun x => !(inB s x)))) := e3
        refine ⟨(by show 0 ≤ sizeLine; decide), fun z hz => ?_⟩
        have t4 := Same.new (o := .lst []) hz
        refine ⟨_, _, dp_int_list (by rw [← NV_ints]; exact t4 _ _ e3), dp_nil upd_same, shaped_is _, shaped_nil, _, rfl, ?_⟩
        rw [eqv_ints_nil, NV_empty, rest_nil]
        cases c : (row rows m).all (inB s) with
        | true => exact hn (by rw [c]; rfl) _ (s3.trans t4)
        | false => exact ⟨_, rfl, hy (by rw [c]; rfl) _ (s3.trans t4)⟩
    · intro H1 s1 e1
      have e1 : H1 D = some (.lst (NV (s.filter fun f => !((row rows f).all (inB s))))) := e1
      refine ⟨(by show 0 ≤ sizeLine; decide), fun z hz => ?_⟩
      have t2 := Same.new (o := .lst []) hz
      refine ⟨_, _, dp_int_list (by rw [← NV_ints]; exact t2 _ _ e1), dp_nil upd_same, shaped_is _, shaped_nil, ?_⟩
      rw [eqv_ints_nil, NV_empty, shut_nil]
      exact k _ (s1.trans t2)
end
end K45
namespace K45
open PySem PySem.Spec PyProof.Rows L2 PySem.W LamX KA KW KU KL KT
open Evl (pss_cut tCut)
/-! ### the law's own shut lots -/
def spShutLots : Sp := fun vs H Q _ => ∃ (a : Addr) (ws : List V) (rows : List (List Nat)), vs = [.ref a] ∧ H a = some (.lst ws) ∧ RL NV H ws rows ∧ rows.length ≤ 10 ∧ (∀ r ∈ rows, r.length ≤ 1000) ∧ ∀ q us ls H', Same H H' → H q = none → H' q = some (.lst us) → RL NV H' us ls → ls.Perm (wholes rows) → Q (.ref q) H'
theorem subs_head : ∀ n, ∃ t, subs n = [] :: t
  | 0 => ⟨[], rfl⟩
  | n + 1 => by
    obtain ⟨t, e⟩ := subs_head n
    refine ⟨t ++ (subs n).map (· ++ [n]), ?_⟩
    show subs n ++ (subs n).map (· ++ [n]) = _
    rw [e, List.cons_append]
theorem wholes_head (rows : List (List Nat)) : ∃ t, wholes rows = [] :: t := by
  obtain ⟨t, e⟩ := subs_head rows.length
  refine ⟨t.filter (wholeB rows), ?_⟩
  unfold wholes
  rw [e, List.filter_cons_of_pos rfl]
/-- the addresses of a list of tuples -/
theorem rl_addr {H : Hp} : ∀ {ws : List V} {ls : List (List Nat)}, RL NV H ws ls → ∃ cs : List (Addr × List Nat), ws = cs.map (fun c => V.ref c.1) ∧ ls = cs.map (·.2) ∧ ∀ c ∈ cs, H c.1 = some (.tup (NV c.2))
  | [], [], _ => ⟨[], rfl, rfl, fun c hc => nomatch hc⟩
  | [], _ :: _, r => by cases r.1
  | _ :: _, [], r => by cases r.1
  | v :: ws, l :: ls, r => by
    obtain ⟨p, a, e1, e2, e3⟩ := r.get (i := 0) rfl
    have e2 : l = a := by simpa using e2
    subst e1 e2
    obtain ⟨cs, h1, h2, h3⟩ := rl_addr (ws := ws) (ls := ls) ⟨by have := r.1; simpa using this, fun i v hv => by
      obtain ⟨a, ea, q⟩ := r.2 (i + 1) v (by simpa using hv)
      exact ⟨a, by simpa using ea, q⟩⟩
    refine ⟨(p, l) :: cs, by rw [h1, List.map_cons], by rw [h2, List.map_cons], fun c hc => ?_⟩
    rcases List.mem_cons.mp hc with rfl | hc
    · exact e3
    · exact h3 c hc
theorem addr_rl {H : Hp} : ∀ {cs : List (Addr × List Nat)}, (∀ c ∈ cs, H c.1 = some (.tup (NV c.2))) → RL NV H (cs.map fun c => V.ref c.1) (cs.map (·.2))
  | [], _ => .nil
  | c :: cs, h => (RL.one (f := NV) (a := c.2) ⟨c.1, rfl, h c List.mem_cons_self⟩).append (addr_rl fun d hd => h d (List.mem_cons_of_mem _ hd))
def toI (c : Addr × List Nat) : Addr × List Int := (c.1, c.2.map fun n : Nat => (n : Int))
theorem map_toI (cs : List (Addr × List Nat)) : ((cs.map toI).map fun b => V.ref b.1) = cs.map fun c => V.ref c.1 := by rw [List.map_map]; rfl
section
variable {P : Program} {w : World} {K : PySem.W.Frag} {mg : Str → Option Value} {base : Heap} (T : Top K mg)
theorem ok_shut_lots : FnOk P w K mg base (L2.CX P w) 2 T._law_shut_lots.a T._law_shut_lots.d ["net"] spShutLots := by
  refine T._law_shut_lots.f.okX sc__law_shut_lots (fun vs H Q E h => ?_) (fun cdv A outer s H vs Q E hr h => ?_)
  · obtain ⟨a, ws, rows, rfl, _⟩ := h
    rfl
  · obtain ⟨a, ws, rows, rfl, ha, rl, hl, l2, k⟩ := h
    refine ⟨_, (pss_cons (ps_set (i := 1) sc__law_shut_lots.nd rfl (by first | exact .inl rfl | exact .inr rfl) (pe_lst (pa_cons (pe_tup pa_nil) pa_nil)))
      (pss_cons (ps_for (passes_of rfl) rfl (pi_range1 (by rfl) T.b_range (pa_cons (pe_callB call_len_seq (by rfl) T.b_len PySem.boot_len (pa_cons (pv 0) pa_nil)) pa_nil)) (pg_name (i := 2) sc__law_shut_lots.nd rfl (by first | exact .inl rfl | exact .inr rfl))
        (pss_one (ps_set (i := 1) sc__law_shut_lots.nd rfl (by first | exact .inl rfl | exact .inr rfl) (pe_op op_cat (pv 1) (pe_lc (own := [("lot", 3)]) (g := (gName 3)) (tt := tYes) rfl sc__law_shut_lots.nd (pi_list (pv 1)) (blkOk_by (own := [("lot", 3)]) (N := ["net", "found", "own", "lot"]) (sc := defScope s__law_shut_lots) (by decide +kernel)) (fun _ _ _ _ _ => pg_name (i := 3) sc__law_shut_lots.nd rfl (Or.inl rfl)) (fun _ _ _ _ _ => pts_nil) (fun _ _ _ _ _ => (pe_op (show OpR _ _ (rCatA K) from op_catA) (pv 3) (pe_tup (pa_cons (pv 2) pa_nil)))))))))
      (pss_one (ps_ret (pe_callB (KSU.cr_sortedL (room_units hr)) (by rfl) T.b_sorted (by decide +kernel) (pa_cons (pe_lc (own := [("lot", 3)]) (g := (gName 3)) rfl sc__law_shut_lots.nd (pi_list (pv 1)) (blkOk_by (own := [("lot", 3)]) (N := ["net", "found", "own", "lot"]) (sc := defScope s__law_shut_lots) (by decide +kernel)) (fun _ _ _ _ _ => pg_name (i := 3) sc__law_shut_lots.nd rfl (Or.inl rfl)) (fun _ _ _ _ _ => pts_one (pt_val (pe_call (ok_is_shut T) (hr.mono (by decide)) (by rfl) T._law_is_shut.m T._law_is_shut.f.kp (bd__law_is_shut T) .nil passE (pa_cons (pv 0) (pa_cons (pv 3) pa_nil))))) (fun _ _ _ _ _ => (pv 3))) pa_nil)))))), ?_⟩
    have hlen := rl.1
    refine ⟨(by show 0 ≤ sizeLine; decide), fun e0 he0 => ⟨(by show 1 ≤ sizeLine; decide), fun q0 hq0 => ?_⟩⟩
    have t0 := Same.new (o := .tup []) he0
    have t1 := Same.new (o := .lst [.ref e0]) hq0
    have s1 := t0.trans t1
    have rl0 : RL NV (upd (upd H e0 (.tup [])) q0 (.lst [.ref e0])) [.ref e0] (subs 0) := .one ⟨e0, rfl, t1 _ _ upd_same⟩
    have eq0 : (upd (upd H e0 (.tup [])) q0 (.lst [.ref e0])) q0 = some (.lst [.ref e0]) := upd_same
    have hq0' : H q0 = none := t0.free hq0
    generalize upd (upd H e0 (.tup [])) q0 (.lst [.ref e0]) = H1 at s1 rl0 eq0
    clear t0 t1 he0 hq0
    refine ⟨_, rfl, a, ws, rfl, .inl (SqL.of (s1 _ _ ha)), _, rfl, by omega, by omega, ?_⟩
    rw [Int.toNat_natCast]
    refine for_it (walk_rangeN (n := ws.length)) (fun i σ H' => ∃ v2 q us, σ = [some (.ref a), some (.ref q), v2, none] ∧ H' q = some (.lst us) ∧ RL NV H' us (subs i) ∧ Same H H') ⟨none, q0, _, rfl, eq0, rl0, s1⟩ (fun _ _ _ _ _ => trivial) ?_ ?_
    · rintro i x σ H2 H3 hi ⟨v2, q, us, rfl, e2, r2, s2⟩ ⟨rfl, rfl⟩
      refine ⟨_, rfl, _, rfl, q, rfl, ⟨_, SqL.of e2⟩, fun D hD => ?_⟩
      have few : (subs i).length ≤ 1024 := subs_few (by omega)
      refine lcR (walk_list (K := K) (a := q) (xs := us)) NV (subs i) (fun _ => true) (fun s => s ++ [i]) r2.1 hD (fun H' s' => SqL.of (s' _ _ e2)) (by omega) yAt_same ?_ ?_
      · rintro j y s H4 H5 N R hs s4 ⟨rfl, hy⟩ ky kn
        obtain ⟨p, s', rfl, es, hp⟩ := r2.get hy
        rw [hs] at es
        cases es
        have hp4 := s4 _ _ hp
        refine ⟨rfl, ?_⟩
        dsimp only [tYes]
        rw [if_pos rfl]
        refine ⟨_, rfl, _, rfl, (by show 1 ≤ sizeLine; decide), fun p2 hp2 => ?_⟩
        have t5 := Same.new (o := .tup [V.int ((i : Nat) : Int)]) hp2
        have lim : s.length ≤ i := sub_len (List.mem_of_getElem? hs)
        refine ⟨p, p2, NV s, [V.int ((i : Nat) : Int)], rfl, rfl, SqT.of (t5 _ _ hp4), SqT.of upd_same, ?_, fun z => ?_, fun _ z => ?_, fun z _ p3 hp3 => ?_⟩
        · rw [NV_len]
          exact Nat.le_trans (show s.length + 1 ≤ 1000 by omega) (by decide)
        · refine ky rfl _ _ t5 ⟨p2, rfl, ?_⟩
          have : s = [] := by
            cases s with
            | nil => rfl
            | cons _ _ => cases z
          rw [this]
          exact upd_same
        · cases z
        · refine ky rfl _ _ (t5.trans (Same.new hp3)) ⟨p3, rfl, ?_⟩
          rw [upd_same]
          unfold NV
          rw [List.map_append]
          rfl
      · intro H4 vs4 s4 e4 r4
        rw [filter_yes] at r4
        have u4 := s4 _ _ e2
        have ru4 := r2.same s4
        refine ⟨q, D, us, vs4, rfl, rfl, u4, e4, ?_, fun p hp => ?_⟩
        · have l1 := ru4.1
          have l2' := r4.1
          rw [List.length_map] at l2'
          exact Nat.le_trans (show _ ≤ 2048 by omega) (by decide)
        · have t5 := Same.new (o := .lst (us ++ vs4)) hp
          exact ⟨_, p, us ++ vs4, rfl, upd_same, (ru4.append r4).same t5, (s2.trans s4).trans t5⟩
    · rintro σ H2 ⟨v2, q, us, rfl, e2, r2, s2⟩
      rw [hlen] at r2
      have few : (subs rows.length).length ≤ 1024 := subs_few hl
      refine ⟨_, rfl, q, rfl, ⟨_, SqL.of e2⟩, fun D hD => ?_⟩
      refine lcR (walk_list (K := K) (a := q) (xs := us)) NV (subs rows.length) (wholeB rows) id r2.1 hD (fun H' s' => SqL.of (s' _ _ e2)) (by omega) yAt_same ?_ ?_
      · rintro j y s H4 H5 N R hs s4 ⟨rfl, hy⟩ ky kn
        obtain ⟨p, s', rfl, es, hp⟩ := r2.get hy
        rw [hs] at es
        cases es
        have ms := List.mem_of_getElem? hs
        have lim : s.length ≤ rows.length := sub_len ms
        refine ⟨rfl, ?_⟩
        refine ⟨_, rfl, _, rfl, a, p, ws, rows, s, rfl, s4 _ _ (s2 _ _ ha), rl.same (s2.trans s4), l2, s4 _ _ hp, by omega, ((mem_subs _ _).mp ms).2, fun H6 s6 => ⟨_, rfl, ?_⟩⟩
        cases hc : wholeB rows s with
        | true => exact iteT ⟨_, rfl, ky hc _ _ s6 ⟨p, rfl, s6 _ _ (s4 _ _ hp)⟩⟩
        | false => exact iteF (kn hc _ s6)
      · intro H4 vs4 s4 e4 r4
        rw [List.map_id] at r4
        have r4 : RL NV H4 vs4 (wholes rows) := r4
        obtain ⟨cs, h1, h2, h3⟩ := rl_addr r4
        obtain ⟨t, et⟩ := wholes_head rows
        obtain ⟨p0, cs', rfl⟩ : ∃ p0 cs', cs = (p0, []) :: cs' := by
          cases cs with
          | nil => rw [et] at h2; cases h2
          | cons c cs =>
            rw [et, List.map_cons] at h2
            injection h2 with a1 a2
            exact ⟨c.1, cs, by rw [a1]⟩
        refine ⟨D, p0, cs'.map toI, rfl, ?_, fun b hb => ?_, fun bs' q hp hq => ?_⟩
        · have : (((p0, []) :: cs'.map toI : List (Addr × List Int)).map fun b => V.ref b.1) = vs4 := by
            rw [h1, List.map_cons, map_toI, List.map_cons]
          rw [this]
          exact SqL.of e4
        · rcases List.mem_cons.mp hb with rfl | hb
          · exact h3 _ List.mem_cons_self
          · obtain ⟨c, hc, rfl⟩ := List.mem_map.mp hb
            have := h3 c (List.mem_cons_of_mem _ hc)
            show H4 c.1 = some (.tup ((c.2.map fun n : Nat => (n : Int)).map V.int))
            rw [this, NV_ints]
        · have hp' : bs'.Perm (((p0, []) :: cs').map toI) := hp
          obtain ⟨ds, pd, rfl⟩ := KSU.perm_of_map hp' _ rfl
          have t5 := Same.new (o := .lst ((ds.map toI).map fun b => V.ref b.1)) hq
          refine k q _ (ds.map (·.2)) _ ((s2.trans s4).trans t5) ((s2.trans s4).free hq) upd_same ?_ ?_
          · have r5 := addr_rl (H := upd H4 q (.lst ((ds.map toI).map fun b => V.ref b.1))) (cs := ds) fun c hc => t5 _ _ (h3 c (pd.mem_iff.mp hc))
            rw [← map_toI ds] at r5
            exact r5
          · rw [h2]
            exact pd.map _
end
end K45
namespace K45
open PySem PySem.Spec PyProof.Rows L2 PySem.W LamX KA KW KU KL KT
open Evl (pss_cut tCut)
/-! ### data small enough to be shown and compared; repr of any value -/
structure Sm (n z : Nat) (d : PyData) : Prop where
  l : d.leavesShort 13 = true
  w : d.weight ≤ n
  s : d.showable = true
  n : d.hasDict = false
  z : d.depth ≤ z
  c : d.canLay0 = true
theorem small_fits {d : PyData} (hl : d.leavesShort 13 = true) (hw : d.weight ≤ 2 ^ 20) : d.shown.length ≤ sizeLine := PyData.shown_fits (by decide) (by decide) hl hw
theorem int_small {i : Int} (h1 : -100000000000 ≤ i) (h2 : i ≤ 100000000000) : (PyData.int i).leavesShort 13 = true ∧ (PyData.int i).weight ≤ 40 ∧ (PyData.int i).showable = true := by
  have hn : i.natAbs < 2 ^ 40 := by omega
  have hl : i.natAbs.log2 ≤ 40 := by
    rcases Nat.eq_zero_or_pos i.natAbs with z | z
    · rw [z]
      decide
    · exact Nat.le_of_lt ((Nat.log2_lt (by omega)).mpr hn)
  have hl2 : i.natAbs.log2 < 40 ∨ i.natAbs = 0 := by
    rcases Nat.eq_zero_or_pos i.natAbs with z | z
    · exact .inr z
    · exact .inl ((Nat.log2_lt (by omega)).mpr hn)
  refine ⟨?_, ?_, ?_⟩
  · simp only [PyData.leavesShort, decide_eq_true_eq]
    exact PyData.shown_int_le (by omega)
  · simp only [PyData.weight]
    split
    · omega
    · rename_i c
      rcases hl2 with q | q
      · omega
      · exact absurd (by simpa using q) c
  · simp only [PyData.showable, decide_eq_true_eq]
    omega
theorem Sm.mono {n m z y : Nat} {d : PyData} (h : Sm n z d) (h1 : n ≤ m) (h2 : z ≤ y) : Sm m y d := ⟨h.l, Nat.le_trans h.w h1, h.s, h.n, Nat.le_trans h.z h2, h.c⟩
theorem sm_int {i : Int} (h1 : -100000000000 ≤ i) (h2 : i ≤ 100000000000) : Sm 40 0 (.int i) := by
  obtain ⟨a, b, c⟩ := int_small h1 h2
  exact ⟨a, b, c, rfl, Nat.le_refl _, rfl⟩
theorem sm_bool {b : Bool} : Sm 17 0 (.bool b) := ⟨rfl, Nat.zero_le _, rfl, rfl, Nat.le_refl _, rfl⟩
theorem sm_all {n z : Nat} : ∀ ds : List PyData, (∀ d ∈ ds, Sm n z d) → PyData.leavesShortAll 13 ds = true ∧ PyData.weightAll ds ≤ (n + 1) * ds.length ∧ PyData.showableAll ds = true ∧ PyData.hasDictAll ds = false ∧ PyData.depthAll ds ≤ z ∧ PyData.canLayAll0 ds = true
  | [], _ => ⟨rfl, Nat.zero_le _, rfl, rfl, Nat.zero_le _, rfl⟩
  | d :: r, h => by
    obtain ⟨a, b, c, e, f, g⟩ := sm_all r fun x hx => h x (List.mem_cons_of_mem _ hx)
    obtain ⟨a', b', c', e', f', g'⟩ := h d List.mem_cons_self
    refine ⟨by simp [PyData.leavesShortAll, a, a'], ?_, by simp [PyData.showableAll, c, c'], by simp [PyData.hasDictAll, e, e'], ?_, by simp [PyData.canLayAll0, g, g']⟩
    · simp only [PyData.weightAll, List.length_cons, Nat.mul_add, Nat.mul_one]
      omega
    · simp only [PyData.depthAll]
      omega
theorem sm_tuple {n z k : Nat} {ds : List PyData} (h : ∀ d ∈ ds, Sm n z d) (hl : ds.length ≤ k) : Sm ((n + 1) * k) (z + 1) (.tuple ds) := by
  obtain ⟨a, b, c, e, f, g⟩ := sm_all ds h
  have hk : (n + 1) * ds.length ≤ (n + 1) * k := Nat.mul_le_mul_left _ hl
  refine ⟨by simpa only [PyData.leavesShort] using a, ?_, by simpa only [PyData.showable] using c, by simpa only [PyData.hasDict] using e, ?_, by simpa only [PyData.canLay0] using g⟩
  · simp only [PyData.weight]
    omega
  · simp only [PyData.depth]
    omega
theorem sm_list {n z k : Nat} {ds : List PyData} (h : ∀ d ∈ ds, Sm n z d) (hl : ds.length ≤ k) : Sm ((n + 1) * k) (z + 1) (.list ds) := by
  obtain ⟨a, b, c, e, f, g⟩ := sm_all ds h
  have hk : (n + 1) * ds.length ≤ (n + 1) * k := Nat.mul_le_mul_left _ hl
  refine ⟨by simpa only [PyData.leavesShort] using a, ?_, by simpa only [PyData.showable] using c, by simpa only [PyData.hasDict] using e, ?_, by simpa only [PyData.canLay0] using g⟩
  · simp only [PyData.weight]
    omega
  · simp only [PyData.depth]
    omega
theorem Sm.repr {n z : Nat} {d : PyData} (h : Sm n z d) (h1 : n ≤ 2 ^ 20) (h2 : z ≤ 60) : d.showable = true ∧ d.hasDict = false ∧ d.depth ≤ 60 ∧ d.shown.length ≤ sizeLine := ⟨h.s, h.n, Nat.le_trans h.z h2, small_fits h.l (Nat.le_trans h.w h1)⟩
theorem Sm.shaped {n z : Nat} {d : PyData} (h : Sm n z d) (h2 : z ≤ 60) : SeqAt.shaped d = true := by
  unfold SeqAt.shaped
  rw [h.c, Bool.true_and, decide_eq_true_eq]
  exact Nat.le_trans h.z (Nat.le_trans h2 (by decide))
theorem dp_rl {α : Type} {K : PySem.W.Frag} {H : Hp} {f : α → List V} {g : α → PyData} (hfg : ∀ p a, H p = some (.tup (f a)) → Dp K H (.ref p) (g a)) : ∀ {us : List V} {as : List α}, RL f H us as → DpAll K H us (as.map g)
  | [], [], _ => .nil
  | [], _ :: _, r => by cases r.1
  | _ :: _, [], r => by cases r.1
  | u :: us, b :: bs, r => by
    obtain ⟨p, a, e1, e2, e3⟩ := r.get (i := 0) (v := u) rfl
    have : b = a := Option.some.inj e2
    subst this e1
    refine .cons (hfg _ _ e3) (dp_rl hfg ⟨by simpa using r.1, fun j v e => ?_⟩)
    exact r.2 (j + 1) v (by simpa using e)
/-- lots as data -/
def lotD (s : List Nat) : PyData := .tuple ((s.map fun n : Nat => (n : Int)).map PyData.int)
theorem dp_lot {K : PySem.W.Frag} {H : Hp} (p : Addr) (s : List Nat) (e : H p = some (.tup (NV s))) : Dp K H (.ref p) (lotD s) := .tup (SqT.of e) (by rw [NV_ints]; exact KA.dp_ints _)
theorem sm_lot {s : List Nat} (h1 : s.length ≤ 10) (h2 : ∀ x ∈ s, x ≤ 1000) : Sm 410 1 (lotD s) := sm_tuple (n := 40) (z := 0) (k := 10) (fun d hd => by
  obtain ⟨i, hi, rfl⟩ := List.mem_map.mp hd
  obtain ⟨n, hn, rfl⟩ := List.mem_map.mp hi
  have := h2 n hn
  exact sm_int (by omega) (by omega)) (by rw [List.length_map, List.length_map]; exact h1)
theorem lots_shaped {ls : List (List Nat)} : SeqAt.shaped (.list (ls.map lotD)) = true := by
  have all : ∀ ls : List (List Nat), PyData.canLayAll0 (ls.map lotD) = true ∧ PyData.depthAll (ls.map lotD) ≤ 1 := fun ls => by
    induction ls with
    | nil => exact ⟨rfl, Nat.zero_le _⟩
    | cons s ls ih =>
      obtain ⟨a, b⟩ := KA.lay_is (s.map fun n : Nat => (n : Int))
      refine ⟨?_, ?_⟩
      · show ((lotD s).canLay0 && PyData.canLayAll0 (ls.map lotD)) = true
        rw [ih.1, Bool.and_true]
        show PyData.canLay0 (.tuple _) = true
        simp only [PyData.canLay0]
        exact a
      · rw [List.map_cons]
        have : (lotD s).depth ≤ 1 := by
          unfold lotD
          simp only [PyData.depth]
          rw [b]
          exact Nat.le_refl _
        simp only [PyData.depthAll]
        have := ih.2
        omega
  obtain ⟨a, b⟩ := all ls
  simp [SeqAt.shaped, PyData.canLay0, PyData.depth, a]
  omega
theorem eqv_lots_nil (ls : List (List Nat)) : PyData.eqv (.list (ls.map lotD)) (.list []) = ls.isEmpty := by
  cases ls <;> rfl
end K45
namespace K45
open PySem PySem.Spec PyProof.Rows L2 PySem.W LamX KA KW KU KL KT
open Evl (pss_cut tCut)
/-! ### the law draws a web -/
def spNet : Sp := fun vs H Q _ => ∃ (st lg cl : Addr) (m : Nat), vs = [.ref st, .int 5] ∧ m ≤ 800000 ∧ StAt H st lg cl m ∧
  ∀ (a : Addr) (ws : List V) (rows : List (List Nat)) (line : List Nat) (H' : Hp), StAt H' st lg cl (m + 100) → Kp st lg H H' → H a = none → H' a = some (.lst ws) → RL NV H' ws rows → 1 ≤ rows.length → rows.length ≤ 5 → Ord rows line → Q (.ref a) H'
/-- so far the frames ahead in the line have their rows, the others none -/
structure Sofar (rows : List (List Nat)) (line : List Nat) (n t : Nat) : Prop where
  len : rows.length = n
  asc : ∀ f, (row rows f).Pairwise (· < ·)
  lean : ∀ j f, j < t → line[j]? = some f → ∀ x ∈ row rows f, x ∈ line.take j
  rest : ∀ f, f ∉ line.take t → row rows f = []
theorem row_set {rows : List (List Nat)} {i f : Nat} {r : List Nat} (h : i < rows.length) : row (rows.set i r) f = if f = i then r else row rows f := by
  unfold row
  rw [List.getD_eq_getElem?_getD, List.getD_eq_getElem?_getD]
  by_cases c : f = i
  · subst c
    rw [if_pos rfl, List.getElem?_set_self h]
    rfl
  · rw [if_neg c, List.getElem?_set_ne (fun e => c e.symm)]
theorem Sofar.start {line : List Nat} {n : Nat} : Sofar (List.replicate n []) line n 0 := by
  have e : ∀ f, row (List.replicate n []) f = [] := fun f => by
    unfold row
    rw [List.getD_eq_getElem?_getD, List.getElem?_replicate]
    split <;> rfl
  exact ⟨List.length_replicate, fun f => by rw [e]; exact .nil, fun j f h => absurd h (Nat.not_lt_zero _), fun f _ => e f⟩
theorem Sofar.next {rows : List (List Nat)} {line r : List Nat} {n t own : Nat} (S : Sofar rows line n t) (nd : line.Nodup) (ho : line[t]? = some own) (hl : own < n) (ha : r.Pairwise (· < ·)) (hr : ∀ x ∈ r, x ∈ line.take t) : Sofar (rows.set own r) line n (t + 1) := by
  have hlo : own < rows.length := S.len.symm ▸ hl
  have tk : line.take (t + 1) = line.take t ++ [own] := by rw [List.take_add_one, ho]; rfl
  refine ⟨by rw [List.length_set]; exact S.len, fun f => ?_, fun j f hj hf x hx => ?_, fun f hf => ?_⟩
  · rw [row_set hlo]
    split
    · exact ha
    · exact S.asc f
  · rw [row_set hlo] at hx
    by_cases c : f = own
    · rw [if_pos c] at hx
      have : j = t := by
        subst c
        obtain ⟨l1, e1⟩ := List.getElem?_eq_some_iff.mp hf
        obtain ⟨l2, e2⟩ := List.getElem?_eq_some_iff.mp ho
        have np := List.pairwise_iff_getElem.mp (List.nodup_iff_pairwise_ne.mp nd)
        by_cases q : j < t
        · exact absurd (e1.trans e2.symm) (np j t l1 l2 q)
        · omega
      subst this
      exact hr x hx
    · rw [if_neg c] at hx
      by_cases q : j < t
      · exact S.lean j f q hf x hx
      · have : j = t := by omega
        subst this
        rw [ho] at hf
        exact absurd (Option.some.inj hf).symm c
  · rw [tk] at hf
    rw [row_set hlo, if_neg (fun e => hf (List.mem_append_right _ (List.mem_singleton.mpr e)))]
    exact S.rest f fun q => hf (List.mem_append_left _ q)
theorem Sofar.ord {rows : List (List Nat)} {line : List Nat} {n : Nat} (S : Sofar rows line n n) (pm : line.Perm (List.range n)) : Ord rows line := by
  have nd : line.Nodup := (pm.nodup_iff).mpr List.nodup_range
  have ln : line.length = n := by rw [pm.length_eq, List.length_range]
  exact ⟨nd, by rw [ln, S.len], fun x hx => by rw [S.len]; exact List.mem_range.mp (pm.mem_iff.mp hx), fun i _ => S.asc i, fun t f h x hx => S.lean t f (by
    have := (List.getElem?_eq_some_iff.mp h).1
    omega) h x hx⟩
/-- numbers that are naturals -/
theorem nat_list : ∀ ns : List Int, (∀ x ∈ ns, 0 ≤ x) → ∃ ms : List Nat, ns = ms.map fun m : Nat => (m : Int)
  | [], _ => ⟨[], rfl⟩
  | x :: ns, h => by
    obtain ⟨ms, e⟩ := nat_list ns fun y hy => h y (List.mem_cons_of_mem _ hy)
    have := h x List.mem_cons_self
    exact ⟨x.toNat :: ms, by rw [List.map_cons, ← e, Int.toNat_of_nonneg this]⟩
theorem ixN_nat {n j : Nat} (h : j < n) : ixN n (j : Int) = some j := by
  unfold ixN
  rw [if_pos (by omega), if_pos (by omega), Int.toNat_natCast]
theorem rl_set {α : Type} {f : α → List V} {H : Hp} {vs : List V} {as : List α} {i : Nat} {v : V} {a : α} (r : RL f H vs as) (hi : i < as.length) (t : TupAt H v (f a)) : RL f H (vs.set i v) (as.set i a) :=
  ⟨by rw [List.length_set, List.length_set, r.1], fun j u hu => by
    by_cases c : i = j
    · subst c
      rw [List.getElem?_set_self (by rw [r.1]; exact hi)] at hu
      cases hu
      exact ⟨a, List.getElem?_set_self hi, t⟩
    · rw [List.getElem?_set_ne c] at hu
      obtain ⟨b, e, q⟩ := r.2 j u hu
      exact ⟨b, by rw [List.getElem?_set_ne c]; exact e, q⟩⟩
theorem rep_flat {α : Type} (x : α) : ∀ n : Nat, (List.replicate n [x]).flatten = List.replicate n x
  | 0 => rfl
  | n + 1 => by rw [List.replicate_succ, List.flatten_cons, rep_flat x n, List.replicate_succ]; rfl
section
variable {P : Program} {w : World} {K : PySem.W.Frag} {mg : Str → Option Value} {base : Heap} (T : Top K mg)
theorem ok_net : FnOk P w K mg base (L2.CX P w) 3 T._law_net.a T._law_net.d ["state", "most"] spNet := by
  refine T._law_net.f.okX sc__law_net (fun vs H Q E h => ?_) (fun cdv A outer s0 H vs Q E hr h => ?_)
  · obtain ⟨st, lg, cl, m, rfl, _⟩ := h
    rfl
  · obtain ⟨st, lg, cl, m, rfl, hm, S, k⟩ := h
    refine ⟨_, (pss_cons (ps_par (i := 2) (j := 3) rfl sc__law_net.nd rfl rfl (by decide) rfl rfl (pa_cons (pe_op op_add pe_int (pe_call (ok_draw T) (hr.mono (by decide)) (by rfl) T._law_draw.m T._law_draw.f.kp (bd__law_draw T) .nil passE (pa_cons (pv 0) (pa_cons (pv 1) pa_nil)))) (pa_cons (pe_call (ok_pick T) (hr.mono (by decide)) (by rfl) T._law_pick.m T._law_pick.f.kp (bd__law_pick T) .nil passE (pa_cons (pv 0) (pa_cons (pe_lst (pa_cons pe_int (pa_cons pe_int (pa_cons pe_int (pa_cons pe_int pa_nil))))) pa_nil))) pa_nil)) (by rfl))
      (pss_cons (ps_par (i := 4) (j := 5) rfl sc__law_net.nd rfl rfl (by decide) rfl rfl (pa_cons (pe_call (ok_mixed T) (hr.mono (by decide)) (by rfl) T._law_mixed.m T._law_mixed.f.kp (bd__law_mixed T) .nil passE (pa_cons (pv 0) (pa_cons (pe_listRg rfl (by rfl) T.b_list (prg_1 (by rfl) T.b_range (pv 2))) pa_nil))) (pa_cons (pe_op op_rep (pe_lst (pa_cons (pe_tup pa_nil) pa_nil)) (pv 2)) pa_nil)) (by rfl))
      (pss_cons (ps_for (passes_of rfl) rfl (pi_enum (by rfl) T.b_enumerate (pa_cons (pv 4) pa_nil)) (pg_tup rfl (pgs_cons (pg_name (i := 6) sc__law_net.nd rfl (by first | exact .inl rfl | exact .inr rfl)) (pgs_cons (pg_name (i := 7) sc__law_net.nd rfl (by first | exact .inl rfl | exact .inr rfl)) pgs_nil)))
        (pss_cons (ps_set (i := 8) sc__law_net.nd rfl (by first | exact .inl rfl | exact .inr rfl) (pe_lst pa_nil))
      (pss_cons (ps_for (passes_of rfl) rfl (pi_range1 (by rfl) T.b_range (pa_cons (pe_ifExp (pt_cmpR op_gt (pv 6) pe_int (nomark _)) (pe_call (ok_draw T) (hr.mono (by decide)) (by rfl) T._law_draw.m T._law_draw.f.kp (bd__law_draw T) .nil passE (pa_cons (pv 0) (pa_cons (pe_op op_add (pv 3) pe_int) pa_nil))) pe_int) pa_nil)) (pg_name (i := 9) sc__law_net.nd rfl (by first | exact .inl rfl | exact .inr rfl))
        (pss_one (ps_expr (pe_bm PySem.F.plainAttrs_list PySem.F.slot_list_append PySem.F.type_list_append mt_append (pv 8) (pa_cons (pe_ix (show IxR _ (rIx K) from ix_seq) (pv 4) (pe_call (ok_draw T) (hr.mono (by decide)) (by rfl) T._law_draw.m T._law_draw.f.kp (bd__law_draw T) .nil passE (pa_cons (pv 0) (pa_cons (pv 6) pa_nil))) (fun _ _ => rfl)) pa_nil)))))
      (pss_one (ps_asg (pe_callTy call_tuple_of (by rfl) T.b_tuple (by decide +kernel) (pa_cons (pe_callB (cr_sortedSet rfl) (by rfl) T.b_sorted (by decide +kernel) (pa_cons (pe_callTy (show CallR _ _ (KSL.rSetL K w) from KSL.cr_setL rfl) (by rfl) T.b_set (by decide +kernel) (pa_cons (pv 8) pa_nil)) pa_nil)) pa_nil)) (pg_sub (pv 5) (pv 7) set_list))))))
      (pss_one (ps_ret (pv 5)))))), ?_⟩
    refine ⟨_, rfl, _, rfl, st, lg, cl, 5, m, rfl, by decide, by decide, by omega, S, fun r H1 hr1 S1 kp1 => ⟨_, _, rfl, rfl, ?_⟩⟩
    refine ⟨_, rfl, (by show 4 ≤ sizeLine; decide), fun pl hpl => ?_⟩
    have t1 := Same.new (o := .lst [V.int 1, .int 2, .int 2, .int 3]) hpl
    have S1' := S1.same t1
    refine ⟨st, lg, cl, pl, [V.int 1, .int 2, .int 2, .int 3], m + 1, rfl, upd_same, (S1.off hpl).2, by decide, by decide, by omega, S1', fun x H2 hx S2 kp2 => ?_⟩
    obtain ⟨rd, rfl, hrd⟩ : ∃ rd : Nat, x = .int ((rd : Nat) : Int) ∧ rd ≤ 3 := by
      simp only [List.mem_cons, List.not_mem_nil, or_false] at hx
      rcases hx with rfl | rfl | rfl | rfl
      · exact ⟨1, rfl, by decide⟩
      · exact ⟨2, rfl, by decide⟩
      · exact ⟨2, rfl, by decide⟩
      · exact ⟨3, rfl, by decide⟩
    refine ⟨_, _, rfl, ?_⟩
    have en : (1 : Int) + (r : Int) = (((1 + r : Nat)) : Int) := by omega
    dsimp only
    rw [en]
    generalize hn : 1 + r = n
    have n1 : 1 ≤ n := by omega
    have n5 : n ≤ 5 := by omega
    have kp02 : Kp st lg H H2 := (kp1.trans (.same t1)).trans kp2
    clear hn en hr1 hx
    refine ⟨_, rfl, _, rfl, ?_⟩
    refine ⟨_, rfl, RgOk.of_le (by decide) (by omega) (by decide) (by omega), fun ql hql => ?_⟩
    have t3 := Same.new (o := .lst (rgV 0 (n : Int))) hql
    have erg : rgV 0 (n : Int) = ((List.range n).map fun i : Nat => (i : Int)).map V.int := by
      unfold rgV
      rw [List.map_map, show ((n : Int) - 0).toNat = n by omega]
      exact List.map_congr_left fun i _ => by rw [Int.zero_add]; rfl
    refine ⟨st, lg, cl, ql, (List.range n).map (fun i : Nat => (i : Int)), m + 1 + 1, rfl, by rw [← erg]; exact SqL.of upd_same, by rw [List.length_map, List.length_range]; omega, by omega, S2.same t3, fun ln js H3 pm eln hln S3 kp3 => ?_⟩
    obtain ⟨line, rfl, pml⟩ : ∃ line : List Nat, js = line.map (fun i : Nat => (i : Int)) ∧ line.Perm (List.range n) := by
      obtain ⟨l', h1, h2⟩ := KSU.perm_of_map pm _ rfl
      exact ⟨l', h2, h1⟩
    have eln : H3 ln = some (.lst (NV line)) := by rw [eln, NV_ints]
    have kp03 : Kp st lg H H3 := (kp02.trans (.same t3)).trans kp3
    rw [List.length_map, List.length_range] at S3
    clear pm erg
    refine ⟨(by show 0 ≤ sizeLine; decide), fun e0 he0 => ⟨(by show 1 ≤ sizeLine; decide), fun q0 hq0 => ⟨_, rfl, q0, (n : Int), [.ref e0], rfl, rfl, upd_same, by omega, by omega, ?_, fun fd hfd => ⟨_, _, rfl, ?_⟩⟩⟩⟩
    · rw [Int.toNat_natCast, List.length_singleton, Nat.one_mul]
      exact Nat.le_trans (show n ≤ 1000 by omega) (by decide)
    have u1 := Same.new (o := .tup []) he0
    have u2 := Same.new (o := .lst [.ref e0]) hq0
    have hfdH : (upd (upd H3 e0 (.tup [])) q0 (.lst [.ref e0])) fd = none := hfd
    have u3 := Same.new (o := .lst (List.replicate (n : Int).toNat [V.ref e0]).flatten) hfd
    have u := (u1.trans u2).trans u3
    have ews : (List.replicate (n : Int).toNat [V.ref e0]).flatten = List.replicate n (V.ref e0) := by
      rw [Int.toNat_natCast, rep_flat]
    have efd : (upd (upd (upd H3 e0 (.tup [])) q0 (.lst [.ref e0])) fd (.lst (List.replicate (n : Int).toNat [V.ref e0]).flatten)) fd = some (.lst (List.replicate n (V.ref e0))) := by rw [upd_same, ews]
    have ee0 : (upd (upd (upd H3 e0 (.tup [])) q0 (.lst [.ref e0])) fd (.lst (List.replicate (n : Int).toNat [V.ref e0]).flatten)) e0 = some (.tup []) := u3 _ _ (u2 _ _ upd_same)
    have fdH3 : H3 fd = none := (u1.trans u2).free hfd
    have S4 := S3.same u
    have kp04 : Kp st lg H _ := kp03.trans (.same u)
    have eln4 := u _ _ eln
    have nfln : fd ≠ ln := fun z => by rw [z, eln] at fdH3; cases fdH3
    have nfst := S3.off fdH3
    have nfcl := offc S3 fdH3
    have nln := StAt.off S2 ((show Same _ _ from t3).free hln)
    have nlncl : ln ≠ cl := offc S2 ((show Same _ _ from t3).free hln)
    have hfH : H fd = none := by
      cases z : H fd with
      | none => rfl
      | some o =>
        have := kp03 fd o z nfst.1 nfst.2
        rw [fdH3] at this
        cases this
    generalize upd (upd (upd H3 e0 (.tup [])) q0 (.lst [.ref e0])) fd (.lst (List.replicate (n : Int).toNat [V.ref e0]).flatten) = H4 at efd ee0 S4 kp04 eln4
    clear u u1 u2 u3 he0 hq0 hfd ews hfdH fdH3 hln eln
    have rl4 : RL NV H4 (List.replicate n (V.ref e0)) (List.replicate n []) := ⟨by rw [List.length_replicate, List.length_replicate], fun i v hv => by
      rw [List.getElem?_replicate] at hv
      split at hv
      · rename_i hi
        cases hv
        exact ⟨[], by rw [List.getElem?_replicate, if_pos hi], e0, rfl, ee0⟩
      · cases hv⟩
    have lln : line.length = n := by rw [pml.length_eq, List.length_range]
    have ndl : line.Nodup := pml.nodup_iff.mpr List.nodup_range
    refine ⟨_, rfl, ln, NV line, rfl, SqL.of eln4, ?_⟩
    refine for_it (walk_enum (K := K) (a := ln) (xs := NV line)) (fun t σ H' => ∃ v6 v7 v8 v9, σ = [some (.ref st), some (.int 5), some (.int (n : Int)), some (.int (rd : Int)), some (.ref ln), some (.ref fd), v6, v7, v8, v9] ∧ ∃ ws rows, StAt H' st lg cl (m + 10 + 10 * t) ∧ Kp st lg H H' ∧ H' ln = some (.lst (NV line)) ∧ H' fd = some (.lst ws) ∧ RL NV H' ws rows ∧ Sofar rows line n t)
      ⟨none, none, none, none, rfl, _, _, S4.mono (by omega), kp04, eln4, efd, rl4, .start⟩ (fun t σ H' _ p => ?_) ?_ ?_
    · obtain ⟨_, _, _, _, _, _, _, _, _, e, _⟩ := p
      exact SqL.of e
    · rintro t x σ Hq Hr hi ⟨v6, v7, v8, v9, rfl, ws, rows, Sq, kq, eq, fq, rq, so⟩ ⟨T', x1, y1, rfl, hT, rfl, h1, h2⟩
      cases h1
      obtain ⟨own, eown, rfl⟩ := NV_at h2
      rw [NV_len] at hi
      have tT := Same.new (o := .tup [V.int ((t : Nat) : Int), .int (own : Int)]) hT
      refine ⟨T', _, rfl, SqT.of upd_same, rfl, _, _, rfl, _, _, rfl, rfl, ?_⟩
      refine ⟨(by show 0 ≤ sizeLine; decide), fun sm hsm => ?_⟩
      have t5 := Same.new (o := .lst []) hsm
      have tt := tT.trans t5
      have Sm := Sq.same tt
      have km := kq.trans (.same tt)
      have em := tt _ _ eq
      have fm := tt _ _ fq
      have rm := rq.same tt
      have nsm := Sq.off (tT.free hsm)
      have nsmc := offc Sq (tT.free hsm)
      have nsf : fd ≠ sm := fun z => by have := tT.free hsm; rw [← z, fq] at this; cases this
      have nsl : ln ≠ sm := fun z => by have := tT.free hsm; rw [← z, eq] at this; cases this
      have hsmH : H sm = none := by
        cases z : H sm with
        | none => rfl
        | some o =>
          have := kq sm o z nsm.1 nsm.2
          rw [tT.free hsm] at this
          cases this
      have esm : (upd (upd Hq T' (.tup [V.int ((t : Nat) : Int), .int (own : Int)])) sm (.lst [])) sm = some (.lst (NV [])) := upd_same
      generalize upd (upd Hq T' (.tup [V.int ((t : Nat) : Int), .int (own : Int)])) sm (.lst []) = H5 at Sm km em fm rm esm
      have ht0 : ∀ x : Nat, x = x := fun _ => rfl
      refine ⟨_, rfl, _, _, rfl, rfl, _, rfl, ?_⟩
      by_cases c0 : t = 0
      · subst c0
        refine iteF ⟨_, rfl, by decide, by decide, ?_⟩
        rw [show Int.toNat 0 = 0 from rfl]
        refine for_it (walk_rangeN (n := 0)) (fun j σ H' => ∃ v9, σ = [some (.ref st), some (.int 5), some (.int (n : Int)), some (.int (rd : Int)), some (.ref ln), some (.ref fd), some (.int ((0 : Nat) : Int)), some (.int (own : Int)), some (.ref sm), v9] ∧ ∃ xs, xs.length = j ∧ (∀ x ∈ xs, x ∈ line.take 0) ∧ StAt H' st lg cl (m + 12 + 10 * 0 + j) ∧ Kp st lg H H' ∧ H' ln = some (.lst (NV line)) ∧ H' fd = some (.lst ws) ∧ RL NV H' ws rows ∧ H' sm = some (.lst (NV xs))) ⟨_, rfl, [], rfl, fun x hx => absurd hx List.not_mem_nil, Sm.mono (by omega), km, em, fm, rm, esm⟩ (fun _ _ _ _ _ => trivial) ?_ ?_
        · exact fun j x σ H' H'' hj => absurd hj (Nat.not_lt_zero _)
        · rintro σ H' ⟨v9, rfl, xs, lxs, hxs, Sx, kx, ex, fx, rx, smx⟩
          refine ⟨_, rfl, sm, xs.map (fun i : Nat => (i : Int)), rfl, by rw [← NV_ints]; exact SqL.of smx, by rw [List.length_map]; omega, fun q c hc hq => ?_⟩
          have y1 := Same.new (o := SetO w q (fun j => decide (j ∈ xs.map (fun i : Nat => (i : Int)))) c) hq
          refine ⟨q, _, c, rfl, upd_same, by rw [List.length_map] at hc; omega, fun ns p hasc hmem hlen hp => ?_⟩
          have y2 := Same.new (o := .lst (ns.map V.int)) hp
          have mns : ∀ x : Int, x ∈ ns → ∃ y ∈ xs, x = (y : Int) := fun x hx => by
            have := of_decide_eq_true ((hmem x).mp hx)
            obtain ⟨y, hy, e⟩ := List.mem_map.mp this
            exact ⟨y, hy, e.symm⟩
          obtain ⟨ms, rfl⟩ := nat_list ns fun x hx => by
            obtain ⟨y, _, rfl⟩ := mns x hx
            omega
          have masc : ms.Pairwise (· < ·) := by
            have := List.pairwise_map.mp hasc
            exact this.imp fun h => by omega
          have mms : ∀ x ∈ ms, x ∈ line.take 0 := fun x hx => by
            obtain ⟨y, hy, e⟩ := mns (x : Int) (List.mem_map_of_mem hx)
            have : x = y := by omega
            exact this ▸ hxs y hy
          refine ⟨p, _, rfl, .inl ⟨SqL.of upd_same, fun l hl => ?_⟩⟩
          rw [← NV_ints] at y2 hl ⊢
          have y3 := Same.new (o := .tup (NV ms)) hl
          have yy := (y1.trans y2).trans y3
          have hownn : own < n := by
            have := pml.mem_iff.mp (List.mem_of_getElem? eown)
            exact List.mem_range.mp this
          have lws : ws.length = n := by rw [rx.1, so.len]
          have fy := yy _ _ fx
          refine ⟨_, rfl, _, rfl, fd, ws, (own : Int), own, rfl, rfl, fy, ?_, ?_⟩
          · exact ixN_nat (by omega)
          have put := Tp.put (o := .lst (ws.set own (.ref l))) fy
          refine ⟨_, _, _, _, rfl, ws.set own (.ref l), rows.set own ms, ?_, ?_, ?_, upd_same, ?_, ?_⟩
          · exact stAt_put ((Sx.mono (by omega)).same yy) nfst.1 nfst.2 nfcl
          · exact Kp.put3 (kx.trans (.same yy)) hfH
          · exact (upd_ne (Ne.symm nfln)).trans (yy _ _ ex)
          · exact rl_set ((rx.same yy).tp put) (by rw [so.len]; exact hownn) ⟨l, rfl, put _ _ upd_same⟩
          · exact so.next ndl eown hownn masc mms
      · rw [show decide ((0 : Int) < ((t : Nat) : Int)) = true from decide_eq_true (by omega)]
        refine iteT ⟨_, rfl, _, rfl, _, _, rfl, rfl, st, lg, cl, rd + 1, _, rfl, by omega, ?_, ?_, Sm, fun r6 H6 hr6 S6 kp6 => ?_⟩
        · exact Nat.lt_of_le_of_lt (show rd + 1 ≤ 4 by omega) (by decide)
        · omega
        have em6 := kp6 _ _ em nln.1 nln.2
        have fm6 := kp6 _ _ fm nfst.1 nfst.2
        have sm6 := kp6 _ _ esm nsm.1 nsm.2
        have rm6 := rm.tp (Tp.kp Sm kp6)
        refine ⟨_, rfl, by omega, by omega, ?_⟩
        rw [Int.toNat_natCast]
        refine for_it (walk_rangeN (n := r6)) (fun j σ H' => ∃ v9, σ = [some (.ref st), some (.int 5), some (.int (n : Int)), some (.int (rd : Int)), some (.ref ln), some (.ref fd), some (.int (t : Int)), some (.int (own : Int)), some (.ref sm), v9] ∧ ∃ xs, xs.length = j ∧ (∀ x ∈ xs, x ∈ line.take t) ∧ StAt H' st lg cl (m + 12 + 10 * t + j) ∧ Kp st lg H H' ∧ H' ln = some (.lst (NV line)) ∧ H' fd = some (.lst ws) ∧ RL NV H' ws rows ∧ H' sm = some (.lst (NV xs))) ⟨_, rfl, [], rfl, fun x hx => absurd hx List.not_mem_nil, S6.mono (by omega), km.trans kp6, em6, fm6, rm6, sm6⟩ (fun _ _ _ _ _ => trivial) ?_ ?_
        · rintro j x σ H7 H8 hj ⟨v9, rfl, xs, lxs, hxs, Sx, kx, ex, fx, rx, smx⟩ ⟨rfl, rfl⟩
          refine ⟨_, rfl, .inl ⟨rfl, _, SqL.of smx⟩, _, rfl, _, rfl, _, rfl, st, lg, cl, t, _, rfl, by omega, ?_, ?_, Sx, fun d H9 hd S9 kp9 => ?_⟩
          · exact Nat.lt_of_le_of_lt (show t ≤ 100 by omega) (by decide)
          · omega
          have hdl : d < line.length := by omega
          have edl : line[d]? = some line[d] := List.getElem?_eq_getElem hdl
          have sm9 := kp9 _ _ smx nsm.1 nsm.2
          refine ix_either (K := K) (.inl (kp9 _ _ ex nln.1 nln.2)) (NV_get edl) ⟨sm, NV xs, _, rfl, rfl, sm9, ?_, ?_⟩
          · rw [NV_len]
            exact Nat.lt_of_le_of_lt (show xs.length ≤ 100 by omega) (by decide)
          have put := Tp.put (o := .lst (NV xs ++ [V.int (line[d] : Int)])) sm9
          refine ⟨_, rfl, xs ++ [line[d]], ?_, fun x hx => ?_, ?_, ?_, ?_, ?_, ?_, ?_⟩
          · rw [List.length_append, lxs]
            rfl
          · rcases List.mem_append.mp hx with hx | hx
            · exact hxs x hx
            · rw [List.mem_singleton.mp hx]
              exact List.mem_of_getElem? (i := d) (by rw [List.getElem?_take, if_pos hd]; exact edl)
          · exact stAt_put (S9.mono (by omega)) nsm.1 nsm.2 nsmc
          · exact Kp.put3 (kx.trans kp9) hsmH
          · exact (upd_ne nsl).trans (kp9 _ _ ex nln.1 nln.2)
          · exact (upd_ne nsf).trans (kp9 _ _ fx nfst.1 nfst.2)
          · exact (rx.tp (Tp.kp Sx kp9)).tp put
          · rw [upd_same]
            unfold NV
            rw [List.map_append]
            rfl
        · rintro σ H' ⟨v9, rfl, xs, lxs, hxs, Sx, kx, ex, fx, rx, smx⟩
          refine ⟨_, rfl, sm, xs.map (fun i : Nat => (i : Int)), rfl, by rw [← NV_ints]; exact SqL.of smx, by rw [List.length_map]; omega, fun q c hc hq => ?_⟩
          have y1 := Same.new (o := SetO w q (fun j => decide (j ∈ xs.map (fun i : Nat => (i : Int)))) c) hq
          refine ⟨q, _, c, rfl, upd_same, by rw [List.length_map] at hc; omega, fun ns p hasc hmem hlen hp => ?_⟩
          have y2 := Same.new (o := .lst (ns.map V.int)) hp
          have mns : ∀ x : Int, x ∈ ns → ∃ y ∈ xs, x = (y : Int) := fun x hx => by
            have := of_decide_eq_true ((hmem x).mp hx)
            obtain ⟨y, hy, e⟩ := List.mem_map.mp this
            exact ⟨y, hy, e.symm⟩
          obtain ⟨ms, rfl⟩ := nat_list ns fun x hx => by
            obtain ⟨y, _, rfl⟩ := mns x hx
            omega
          have masc : ms.Pairwise (· < ·) := by
            have := List.pairwise_map.mp hasc
            exact this.imp fun h => by omega
          have mms : ∀ x ∈ ms, x ∈ line.take t := fun x hx => by
            obtain ⟨y, hy, e⟩ := mns (x : Int) (List.mem_map_of_mem hx)
            have : x = y := by omega
            exact this ▸ hxs y hy
          refine ⟨p, _, rfl, .inl ⟨SqL.of upd_same, fun l hl => ?_⟩⟩
          rw [← NV_ints] at y2 hl ⊢
          have y3 := Same.new (o := .tup (NV ms)) hl
          have yy := (y1.trans y2).trans y3
          have hownn : own < n := by
            have := pml.mem_iff.mp (List.mem_of_getElem? eown)
            exact List.mem_range.mp this
          have lws : ws.length = n := by rw [rx.1, so.len]
          have fy := yy _ _ fx
          refine ⟨_, rfl, _, rfl, fd, ws, (own : Int), own, rfl, rfl, fy, ?_, ?_⟩
          · exact ixN_nat (by omega)
          have put := Tp.put (o := .lst (ws.set own (.ref l))) fy
          refine ⟨_, _, _, _, rfl, ws.set own (.ref l), rows.set own ms, ?_, ?_, ?_, upd_same, ?_, ?_⟩
          · exact stAt_put ((Sx.mono (by omega)).same yy) nfst.1 nfst.2 nfcl
          · exact Kp.put3 (kx.trans (.same yy)) hfH
          · exact (upd_ne (Ne.symm nfln)).trans (yy _ _ ex)
          · exact rl_set ((rx.same yy).tp put) (by rw [so.len]; exact hownn) ⟨l, rfl, put _ _ upd_same⟩
          · exact so.next ndl eown hownn masc mms
    · rintro σ H' ⟨v6, v7, v8, v9, rfl, ws, rows, Sq, kq, eq, fq, rq, so⟩
      rw [NV_len, lln] at so Sq
      exact ⟨_, rfl, k fd ws rows line H' (Sq.mono (by omega)) kq hfH fq rq (by rw [so.len]; exact n1) (by rw [so.len]; exact n5) (so.ord pml)⟩
end
end K45
namespace KRY
open PySem PySem.Spec PyProof.Rows L2 PySem.W KA KU
/-! ### repr of a value of some kind that an error may tell of -/
inductive YT (H : Hp) : V → Str → Prop where
  | non : YT H .non "None"
  | zero : YT H (.int 0) "0"
  | str (y : Str) (h : (reprText y).length ≤ sizeLine) : YT H (.str y) (reprText y)
  | tup {a : Addr} (y : Str) (e : H a = some (.tup [.str y])) (h : (PyData.tuple [.str y]).shown.length ≤ sizeLine) : YT H (.ref a) (PyData.tuple [.str y]).shown
  | lst {a : Addr} (y : Str) (e : H a = some (.lst [.str y])) (h : (PyData.list [.str y]).shown.length ≤ sizeLine) : YT H (.ref a) (PyData.list [.str y]).shown
  | dK {a : Addr} (e : H a = some (.dK [])) : YT H (.ref a) (PyData.dict []).shown
def rReprY : List V → Hp → VK → Prop := fun xs H Q => ∃ (x : V) (s : Str), xs = [x] ∧ YT H x s ∧ Q (.str s) H
theorem call_reprY {X : Cx} {k : Nat} (hg : X.A.guards = some []) (hr : Room k X.A) : CallR X (.builtin "repr") rReprY := by
  intro pins s σ H xs us Q I r h
  obtain ⟨x, t, rfl, y, q⟩ := h
  obtain ⟨u1, rfl, r1⟩ := vals1 r
  have hu := hr.un
  cases y with
  | non =>
    cases (show u1 = Value.none from r1)
    exact PySem.P.repr_of_none ⟨.str "None", H, I.tok _, ⟨_, rfl⟩, q⟩
  | zero =>
    obtain ⟨k, rfl⟩ := r1
    exact PySem.P.repr_of_int (by decide) ⟨.str "0", H, I.tok _, ⟨_, rfl⟩, q⟩
  | str y h =>
    obtain ⟨k, rfl⟩ := r1
    exact PySem.P.repr_of_str ⟨.str (reprText y), H, I.tok _, ⟨_, rfl⟩, q⟩ h
  | tup y e h =>
    cases (show u1 = Value.ref _ from r1)
    obtain ⟨as, rd⟩ := Dp.reads I (.tuple [.str y]) _ _ (.tup (SqT.of e) (.cons (.str y) .nil)) rfl
    refine repr_of_reads' rd rfl (fun z => by cases z) hg (by show X.A.units + ((PyData.tuple [.str y]).depth + 1) < cLine; simp [PyData.depth, PyData.depthAll]; omega) (fun _ _ e => e) (fun h' u tk hk => ?_) h
    exact ⟨.str _, H, I.kept (t' := tk) hk, ⟨_, rfl⟩, q⟩
  | lst y e h =>
    cases (show u1 = Value.ref _ from r1)
    obtain ⟨as, rd⟩ := Dp.reads I (.list [.str y]) _ _ (.lst (SqL.of e) (.cons (.str y) .nil)) rfl
    refine repr_of_reads' rd rfl (fun z => by cases z) hg (by show X.A.units + ((PyData.list [.str y]).depth + 1) < cLine; simp [PyData.depth, PyData.depthAll]; omega) (fun _ _ e => e) (fun h' u tk hk => ?_) h
    exact ⟨.str _, H, I.kept (t' := tk) hk, ⟨_, rfl⟩, q⟩
  | dK e =>
    cases (show u1 = Value.ref _ from r1)
    obtain ⟨_, hsys, vs, rv, o, es, ep, ho, ed, hdd, ko, pr, nd⟩ := I.hok _ _ e
    cases rv
    have ee : es = #[] := by
      obtain ⟨l⟩ := es
      have pr : Pairs _ l [] := pr
      cases pr
      rfl
    subst ee
    have rd : Reads s.heap (.ref _) (.dict []) _ := Reads.dict ho ed.1 hdd .nil .nil
    refine repr_of_reads' rd rfl (fun _ m => ?_) hg (by show X.A.units + ((PyData.dict []).depth + 1) < cLine; show X.A.units + ((0 + 1) + 1) < cLine; omega) (fun _ _ e => e) (fun h' u tk hk => ?_) (by decide +kernel)
    · simp at m
      subst m
      simp at hsys
    · exact ⟨.str _, H, I.kept (t' := tk) hk, ⟨_, rfl⟩, q⟩
end KRY
namespace KSM
open PySem PySem.Spec PyProof.Rows L2 PySem.W
/-! ### a text times an int: some text -/
def rMulS : R2 := fun x y H Q => ∃ (z : Str) (k : Int), x = .str z ∧ y = .int k ∧ 0 ≤ k ∧ k ≤ 1000 ∧ z.length ≤ 1000 ∧ ∀ t : Str, Q (.str t) H
theorem rep_size {α : Type} (a : Array α) : ∀ (n : Nat) (acc : Array α), ((List.replicate n a).foldl (· ++ ·) acc).size = acc.size + n * a.size
  | 0, acc => by simp
  | n + 1, acc => by
    rw [List.replicate_succ, List.foldl_cons, rep_size a n, Array.size_append, Nat.succ_mul]
    omega
theorem op_mulS {X : Cx} : OpR X (binaryOp .Mult) rMulS := by
  intro pins s σ H x y v u Q I rx ry h
  obtain ⟨z, k, rfl, rfl, h0, h1, hz, q⟩ := h
  obtain ⟨t, rfl⟩ := rx
  obtain ⟨t2, rfl⟩ := ry
  refine PySem.P.mul_str ?_ (fun c _ => ?_) (fun c _ => ?_) ?_
  · rw [Bool.or_eq_false_iff]
    exact ⟨decide_eq_false (by omega), decide_eq_false (by omega)⟩
  · have : (1000 : Int) ≤ (2 ^ 63 - 1) / k := Int.le_ediv_of_mul_le (by omega) (by omega)
    omega
  · have h2 : z.length * k.toNat ≤ 1000 * 1000 := Nat.mul_le_mul hz (by omega)
    have e : Builtin.Str.tooLong (z.length * k.toNat) = decide (z.length * k.toNat > sizeLine) := rfl
    rw [e]
    exact decide_eq_false (Nat.not_lt.mpr (Nat.le_trans h2 (by decide)))
  · split
    · exact ⟨by decide, .str _, H, I.tok _, ⟨_, rfl⟩, q _⟩
    · split
      · exact ⟨.str _, H, I, ⟨_, rfl⟩, q _⟩
      · refine ⟨?_, .str _, H, I.tok _, ⟨_, rfl⟩, q _⟩
        have e := rep_size z.cps k.toNat #[]
        have h2 : k.toNat * z.length ≤ 1000 * 1000 := Nat.mul_le_mul (by omega) hz
        show ((List.replicate k.toNat z.cps).foldl (· ++ ·) #[]).size ≤ sizeLine
        rw [e]
        have e3 : (#[] : Array Nat).size = 0 := rfl
        have e2 : z.cps.size = z.length := rfl
        rw [e2, e3, Nat.zero_add]
        exact Nat.le_trans h2 (by decide)
end KSM
namespace K45
open PySem PySem.Spec PyProof.Rows L2 PySem.W LamX KA KW KU KL
open Evl (pss_cut tCut)
/-- the code object of a def that makes lambdas, and its table -/
structure LamT (K : PySem.W.Frag) (x : Str) (st : Stmt) (a : Addr) (d : FuncData) (c P : Addr) : Prop where
  ex : ∃ (oc : Value) (od : Option Addr) (kV doc pm : Value) (an : Option Addr) (ct : Value) (osl : Array (Option Value)),
    d = PySem.W.fnOf x x (defArgs st) (defBody st) (defScope st) .none kV doc pm an (.ref c) ct ∧ K.lookup a = some ⟨oc, od, .func d, osl⟩ ∧ PySem.W.codeIn K (.ref c) x = true
/-- all but the state and the tables stands as it stood -/
def KpN (st lg : Addr) (H H' : Hp) : Prop := ∀ b o, H b = some o → b ≠ st → b ≠ lg → (∀ ps, o ≠ .tbl ps) → H' b = some o
theorem KpN.refl {st lg : Addr} {H : Hp} : KpN st lg H H := fun _ _ h _ _ _ => h
theorem KpN.trans {st lg : Addr} {H H1 H2 : Hp} (a : KpN st lg H H1) (b : KpN st lg H1 H2) : KpN st lg H H2 := fun c o h n1 n2 n3 => b c o (a c o h n1 n2 n3) n1 n2 n3
theorem KpN.kp {st lg : Addr} {H H1 : Hp} (a : Kp st lg H H1) : KpN st lg H H1 := fun c o h n1 n2 _ => a c o h n1 n2
theorem KpN.ext {st lg : Addr} {H H1 : Hp} (a : ExtN H H1) : KpN st lg H H1 := fun c o h _ _ n => a c o h n
theorem KpN.new {st lg p : Addr} {H : Hp} {o : HO} (h : H p = none) : KpN st lg H (upd H p o) := .kp (.same (Same.new h))
abbrev lamQ : Str := (envOfC "_law_refused_right" (defScope s__law_refused_right) 0 0 .none).qual ++ "<lambda>"
abbrev lamK : Str := (envOfC "_law_kept_right" (defScope s__law_kept_right) 0 0 .none).qual ++ "<lambda>"
abbrev tabs (Pk Pt : Addr) : List (Addr × Str) := [(Pk, lamK), (Pt, lamQ)]
theorem tabs_kp {st lg cl : Addr} {n : Nat} {L : List (Addr × Str)} {H H' : Hp} (t : Tabs L H) (S : StAt H st lg cl n) (e : Kp st lg H H') : Tabs L H' := by
  obtain ⟨_, _, _, _, S', _⟩ := S
  intro p hp
  obtain ⟨ps, h1, h2, h3⟩ := t p hp
  refine ⟨ps, e _ _ h1 (ne_of h1 S'.d (by intro z; cases z)) (ne_of h1 S'.l (by intro z; cases z)), h2, fun pos cv hc => ?_⟩
  obtain ⟨c, e1, e2⟩ := h3 pos cv hc
  exact ⟨c, e1, e _ _ e2 (ne_of e2 S'.d (by intro z; unfold CodeO at z; cases z)) (ne_of e2 S'.l (by intro z; unfold CodeO at z; cases z))⟩
theorem stAt_ext {H H' : Hp} {st lg cl : Addr} {n : Nat} (S : StAt H st lg cl n) (e : ExtN H H') : StAt H' st lg cl n := by
  obtain ⟨a, b, c, d, s, h⟩ := S
  exact ⟨a, b, c, d, { s with d := e _ _ s.d (fun _ z => by cases z), l := e _ _ s.l (fun _ z => by cases z), c := e _ _ s.c (fun _ z => by cases z) }, h⟩
theorem exV_tbl {c : Value} {d : Option Addr} {a : Addr} (ps : Array Value) : ExV c d a ≠ .tbl ps := fun z => by
  unfold ExV at z
  cases z
theorem exV_lst {c : Value} {d : Option Addr} {a : Addr} (xs : List V) : ExV c d a ≠ .lst xs := fun z => by
  unfold ExV at z
  cases z
theorem kit_self {K : PySem.W.Frag} {C : Addr} : PySem.W.kitOne K (.ref C) (.ref C) = some true := by
  unfold PySem.W.kitOne
  rw [if_pos (by simp)]
/-- the law's code object, and its table: FnG of a def that makes lambdas -/
theorem fnG_ofC {CX : CXT} {P : Program} {w : World} {K : PySem.W.Frag} {mg : Str → Option Value} {base : Heap} {k : Nat} {f c Pt : Addr} {x : Str} {st : Stmt} {fd : FuncData} {N ps : List Str} {sp : Sp} (LT : LamT K x st f fd c Pt) (S : FnScope N ps (defScope st))
    (len : ∀ vs H Q E, sp vs H Q E → vs.length = ps.length)
    (hbody : ∀ (A : Around) (outer : List Env) (s : Shared) (H : Hp) (vs : List V) (Q : VK) (E : XK), Room k (A.deeper (envOfC x (defScope st) s.heap.objs.size f (.ref c))) → A.guards = some [] → sp vs H Q E →
      ∃ t, PSs (cxOf CX P w K mg base N x (defScope st) f (.ref c) A outer s H E) (defBody st) t ∧ t { nx := fun _ H' => Q .non H', rt := Q } (L2.start N vs) H) : FnG P w K mg base CX (k + 1) f fd ps sp := by
  obtain ⟨oc, od, kV, doc, pm, an, ct, osl, rfl, lk, hcd⟩ := LT.ex
  exact ⟨len, fun A outer s H args us vs Q E hr hg e0 hb r h => run_ofS lk hcd S hr e0 hb r (len _ _ _ _ h) fun hr' => hbody A outer s H vs Q E hr' hg h⟩
theorem KpN.tp {st lg cl : Addr} {m : Nat} {H H' : Hp} (S : StAt H st lg cl m) (k : KpN st lg H H') : Tp H H' := fun b xs e => by
  obtain ⟨_, _, _, _, S', _⟩ := S
  exact k b _ e (ne_of e S'.d (by intro z; cases z)) (ne_of e S'.l (by intro z; cases z)) (fun _ z => by cases z)
/-- the lambda in the call itself, beside all tables -/
theorem pe_caught1 {X : Cx} (T : Top X.K X.mg) {TT : List (Addr × Str)} {c Pt : Addr} {k : Nat} {params : Arguments} {body : Expr} {scope : Scope} {t : XK → TE} {p lpos pos : Pos} (TB : TabB X.base X.mg c Pt) (hcode : X.env.code = .ref c) (hr : Room (k + 2) X.A) (hg : Gl X "_law_caught")
    (mem : (Pt, X.env.qual ++ "<lambda>") ∈ TT) (one : ∀ q ∈ TT, q.1 = Pt → q.2 = X.env.qual ++ "<lambda>") (L : LamS X.env.scope scope)
    (hdef : defaultsOf params X.env = ([], [])) (hbind : ∀ (q : Str) (cl : List (Str × Addr)) (pm cv ctv : Value), bindArgs (PySem.W.kla_fn "<lambda>" q params body scope cl pm cv ctv) ⟨[], []⟩ = pure [])
    (hbody : ∀ (A : Around) (outer : List Env) (s : Shared) (H : Hp) (E : XK) (f c' : Addr), Room k (A.deeper (lamEnv X scope s.heap.objs.size f c')) → PE (lamCx X A outer s H E scope f c') body (t E)) :
    PE X (.Call (.Name "_law_caught" p) [.Lambda params body scope lpos] [] pos) (tLam TT (TCaught X.K T.reel.C) t) := by
  obtain ⟨oc, od, kV, doc, pm, an, cdv, ct, osl, ed, lk, hcd⟩ := T._law_caught.f.ex
  have hb := bd__law_caught T
  rw [ed] at lk hb
  exact pe_lamcall (T := TT) hg T._law_caught.m T._law_caught.f.kp lk hcd hb sc__law_caught rfl (.inl rfl)
    (caught_gives sc__law_caught rfl rfl rfl rfl T.reel.g (by decide) (by decide) (by decide) (by decide) (by decide)) TB hcode mem one hr L hdef hbind hbody
theorem caught_err1 {K : PySem.W.Frag} {mg : Str → Option Value} (T : Top K mg) {n : Str} (X : ExcT K mg n T.reel.C) {Pk Pt st lg cl : Addr} {m m' : Nat} {t : XK → TE} {σ : L2.St} {H : Hp} {Q : VK} (hT : Tabs (tabs Pk Pt) H) (S : StAt H st lg cl m)
    (A : ∀ (H1 : Hp) (E : XK) (Q1 : VK), ExtN H H1 → StAt H1 st lg cl m → (∀ H2, Kp st lg H1 H2 → StAt H2 st lg cl m' → E (.ref X.C) none H2) → t E σ H1 Q1)
    (k : ∀ a H', StAt H' st lg cl m' → Tabs (tabs Pk Pt) H' → KpN st lg H H' → H' a = some (ExV (.ref X.C) none a) → a ≠ st → a ≠ lg → Q (.ref a) H') : tLam (tabs Pk Pt) (TCaught K T.reel.C) t σ H Q := by
  refine ⟨hT, fun H1 e1 t1 Q1 hQ1 => A H1 _ Q1 e1 (stAt_ext S e1) fun H2 kp S2 => ⟨X.exm T.reel, fun a ha => ?_⟩⟩
  have t2 := tabs_kp t1 (stAt_ext S e1) kp
  exact k a _ (S2.same (Same.new ha)) (t2.ext (Same.new ha)) (((KpN.ext e1).trans (.kp kp)).trans (.new ha)) upd_same (S2.off ha).1 (S2.off ha).2
theorem one_q {Pk Pt : Addr} (nP : Pk ≠ Pt) : ∀ q ∈ tabs Pk Pt, q.1 = Pt → q.2 = lamQ := fun q hq e => by
  rcases List.mem_cons.mp hq with rfl | hq
  · exact absurd e nP
  · rcases List.mem_singleton.mp hq with rfl
    rfl
theorem one_k {Pk Pt : Addr} (nP : Pk ≠ Pt) : ∀ q ∈ tabs Pk Pt, q.1 = Pk → q.2 = lamK := fun q hq e => by
  rcases List.mem_cons.mp hq with rfl | hq
  · rfl
  · rcases List.mem_singleton.mp hq with rfl
    exact absurd e.symm nP
theorem off_tup {H : Hp} {st lg cl p : Addr} {m : Nat} {xs : List V} (S : StAt H st lg cl m) (e : H p = some (.tup xs)) : p ≠ st ∧ p ≠ lg := by
  obtain ⟨_, _, _, _, S', _⟩ := S
  exact ⟨ne_of e S'.d (by intro z; cases z), ne_of e S'.l (by intro z; cases z)⟩
/-- an error of a web, kept -/
theorem caught_errU {P : Program} {w : World} {K : PySem.W.Frag} {mg : Str → Option Value} (T : Top K mg) (BW : BadWebT P w K mg T.reel.C) {Pk Pt st lg cl : Addr} {m : Nat} {x : V} {t : XK → TE} {σ : L2.St} {H : Hp} {Q : VK} (hT : Tabs (tabs Pk Pt) H) (S : StAt H st lg cl m)
    (A : ∀ (H1 : Hp) (E : XK) (Q1 : VK), ExtN H H1 → StAt H1 st lg cl m → (∀ H2 d, Same H1 H2 → H2 d = none → E (.ref BW.C) (some d) (upd H2 d (.xd [("at", x)]))) → t E σ H1 Q1)
    (k : ∀ a d H', StAt H' st lg cl m → Tabs (tabs Pk Pt) H' → KpN st lg H H' → H' a = some (ExV (.ref BW.C) (some d) a) → H' d = some (.xd [("at", x)]) → a ≠ st → a ≠ lg → Q (.ref a) H') : tLam (tabs Pk Pt) (TCaught K T.reel.C) t σ H Q := by
  refine ⟨hT, fun H1 e1 t1 Q1 hQ1 => A H1 _ Q1 e1 (stAt_ext S e1) fun H2 d s2 hd => ⟨bw_exm T.reel BW, fun a ha => ?_⟩⟩
  have S1 := stAt_ext S e1
  have n1 := Same.new (o := .xd [("at", x)]) hd
  have n2 := Same.new (o := ExV (.ref BW.C) (some d) a) ha
  have s12 := (s2.trans n1).trans n2
  exact k a d _ (S1.same s12) (t1.ext s12) ((KpN.ext e1).trans (.kp (.same s12))) upd_same (n2 _ _ upd_same) ((S1.same (s2.trans n1)).off ha).1 ((S1.same (s2.trans n1)).off ha).2
/-! ### repr of None and of numbers -/
inductive YN : V → Str → Prop where
  | non : YN .non "None"
  | int (i : Nat) (h : i ≤ 1000) : YN (.int (i : Int)) (Str.ofString (toString (i : Int)))
def rReprN : List V → Hp → VK → Prop := fun xs H Q => ∃ (x : V) (s : Str), xs = [x] ∧ YN x s ∧ Q (.str s) H
theorem call_reprN {X : Cx} : CallR X (.builtin "repr") rReprN := by
  intro pins s σ H xs us Q I r h
  obtain ⟨x, t, rfl, y, q⟩ := h
  obtain ⟨u1, rfl, r1⟩ := vals1 r
  cases y with
  | non =>
    cases (show u1 = Value.none from r1)
    exact PySem.P.repr_of_none ⟨.str "None", H, I.tok _, ⟨_, rfl⟩, q⟩
  | int i h =>
    obtain ⟨k, rfl⟩ := r1
    refine PySem.P.repr_of_int ?_ ⟨.str _, H, I.tok _, ⟨_, rfl⟩, q⟩
    have : ((i : Int).natAbs).log2 ≤ (i : Int).natAbs := Nat.log2_le_self _
    omega
end K45
namespace K45
open PySem PySem.Spec PyProof.Rows L2 PySem.W LamX KA KW KU KL KT
open Evl (pss_cut tCut)
/-! ### the law's small words -/
def isNum : V → Bool
  | .int _ => true
  | _ => false
theorem Fl.plN {K : PySem.W.Frag} {H : Hp} {x : V} (h : Fl x) : Pl K H x (isNum x) := by
  cases h with
  | int i => exact .int i
  | bl i => exact .bl i
  | str i _ => exact .str i
  | non => exact .non
def fd : V → PyData
  | .int i => .int i
  | .bl b => .bool b
  | .str s => .str s
  | _ => .none
theorem Fl.dp {K : PySem.W.Frag} {H : Hp} {x : V} (h : Fl x) : Dp K H x (fd x) := by
  cases h with
  | int i => exact .int i
  | bl i => exact .bl i
  | str i _ => exact .str i
  | non => exact .non
theorem dp_fl {K : PySem.W.Frag} {H : Hp} : ∀ {xs : List V}, (∀ x ∈ xs, Fl x) → DpAll K H xs (xs.map fd)
  | [], _ => .nil
  | x :: xs, h => .cons (h x List.mem_cons_self).dp (dp_fl fun y hy => h y (List.mem_cons_of_mem _ hy))
theorem fl_lay : ∀ xs : List V, (∀ x ∈ xs, Fl x) → PyData.canLayAll0 (xs.map fd) = true ∧ PyData.depthAll (xs.map fd) = 0
  | [], _ => ⟨rfl, rfl⟩
  | x :: xs, h => by
    obtain ⟨h1, h2⟩ := fl_lay xs fun y hy => h y (List.mem_cons_of_mem _ hy)
    cases h x List.mem_cons_self with
    | str s e => exact ⟨by simp [fd, PyData.canLayAll0, PyData.canLay0, h1, e], by simp [fd, PyData.depthAll, PyData.depth, h2]⟩
    | _ => exact ⟨by simp [fd, PyData.canLayAll0, PyData.canLay0, h1], by simp [fd, PyData.depthAll, PyData.depth, h2]⟩
theorem shaped_fl (xs : List V) (h : ∀ x ∈ xs, Fl x) : SeqAt.shaped (.list (xs.map fd)) = true := by
  obtain ⟨h1, h2⟩ := fl_lay xs h
  simp [SeqAt.shaped, PyData.canLay0, PyData.depth, h1, h2]
theorem filter_none {α : Type} {xs : List α} {f : α → Bool} : (xs.filter fun x => !f x).isEmpty = xs.all f := by
  induction xs with
  | nil => rfl
  | cons x xs ih =>
    rw [List.filter_cons, List.all_cons]
    cases f x
    · rfl
    · rw [Bool.true_and, ← ih]
      rfl
theorem filter_any {α : Type} {xs : List α} {f : α → Bool} : (!(xs.filter f).isEmpty) = xs.any f := by
  induction xs with
  | nil => rfl
  | cons x xs ih =>
    rw [List.filter_cons, List.any_cons]
    cases f x
    · rw [Bool.false_or, ← ih]
      rfl
    · rfl
theorem eqv_fl_nil (xs : List V) : PyData.eqv (.list (xs.map fd)) (.list []) = xs.isEmpty := by
  cases xs <;> rfl
theorem eqvAll_ints : ∀ a b : List Int, PyData.eqvAll (a.map PyData.int) (b.map PyData.int) = decide (a = b)
  | [], [] => rfl
  | [], _ :: _ => rfl
  | _ :: _, [] => rfl
  | x :: a, y :: b => by
    rw [List.map_cons, List.map_cons]
    have ih := eqvAll_ints a b
    simp only [PyData.eqvAll, ih]
    show ((x == y) && decide (a = b)) = _
    rw [Bool.eq_iff_iff, Bool.and_eq_true, beq_iff_eq, decide_eq_true_eq, decide_eq_true_eq, List.cons.injEq]
theorem eqv_ints (a b : List Int) : PyData.eqv (.list (a.map PyData.int)) (.list (b.map PyData.int)) = decide (a = b) := by
  rw [← eqvAll_ints]
  simp only [PyData.eqv]
theorem nums_ints : ∀ {xs : List V}, xs.all isNum = true → ∃ ns : List Int, xs = ns.map V.int
  | [], _ => ⟨[], rfl⟩
  | x :: xs, h => by
    rw [List.all_cons, Bool.and_eq_true] at h
    obtain ⟨ns, e⟩ := nums_ints h.2
    have h1 := h.1
    cases x with
    | int i => exact ⟨i :: ns, by rw [e]; rfl⟩
    | _ => cases h1
def outI (n : Nat) (i : Int) : Bool := decide (i < 0) || decide (i ≥ (n : Int))
theorem inside_ints (n : Nat) : ∀ ns : List Int, insideB n (ns.map V.int) = ns.all fun i => !(outI n i)
  | [] => rfl
  | i :: ns => by
    have ih := inside_ints n ns
    show (within (.int i) 0 ((n : Int) - 1) && insideB n (ns.map V.int)) = (!(outI n i) && _)
    rw [ih]
    congr 1
    show (decide ((0 : Int) ≤ i) && decide (i ≤ (n : Int) - 1)) = !(decide (i < 0) || decide (i ≥ (n : Int)))
    rw [Bool.eq_iff_iff, Bool.and_eq_true, decide_eq_true_eq, decide_eq_true_eq, Bool.not_eq_true', Bool.or_eq_false_iff, decide_eq_false_iff_not, decide_eq_false_iff_not]
    omega
theorem not_not_all {α : Type} {xs : List α} {f : α → Bool} : (xs.filter f).isEmpty = xs.all fun x => !(f x) := by
  have := filter_none (xs := xs) (f := fun x => !(f x))
  simpa using this
def spLawLot (K : PySem.W.Frag) : Sp := fun vs H Q _ => ∃ (x : V) (o : Option (List V)) (n : Nat), vs = [x, .int (n : Int)] ∧ Rv K H x o ∧ (∀ xs, o = some xs → xs.length < 60) ∧ ∀ H', Same H H' → Q (.bl (lotV n o)) H'
def spLag : Sp := fun vs H Q _ => ∃ (b : Addr) (line : List Nat), vs = [.ref b] ∧ H b = some (.tup (NV line)) ∧ line.length ≤ 1000 ∧ ∀ H', Same H H' → Q (.int (lag line)) H'
def spHeld : Sp := fun vs H Q _ => ∃ (a b : Addr) (p : Int) (ws : List V) (rows : List (List Nat)) (lot : List Nat), vs = [.ref a, .int p, .ref b] ∧ H a = some (.lst ws) ∧ RL NV H ws rows ∧ rows.length ≤ 10 ∧ H b = some (.tup (NV lot)) ∧ lot.length ≤ 1000 ∧ ∀ q H', Same H H' → H' q = some (.tup (NV (keptL rows p lot))) → Q (.ref q) H'
def spMostHeld : Sp := fun vs H Q _ => ∃ (a b : Addr) (p : Int) (ws : List V) (rows : List (List Nat)) (line : List Nat), vs = [.ref a, .int p, .ref b] ∧ H a = some (.lst ws) ∧ RL NV H ws rows ∧ 1 ≤ rows.length ∧ rows.length ≤ 10 ∧ H b = some (.tup (NV line)) ∧ line ∈ ords rows ∧ ∀ H', Same H H' → Q (.int (mostK rows p line)) H'
theorem take_tup {K : PySem.W.Frag} {a : Addr} {xs : List V} {t : Nat} {H : Hp} {Q : VK} (ea : H a = some (.tup xs)) (h : t ≤ xs.length) (k : ∀ c H', Same H H' → H' c = some (.tup (xs.take t)) → Q (.ref c) H') : rSlA K (.ref a) none (some (t : Int)) H Q := by
  refine ⟨a, xs, rfl, SqT.of ea, fun z => ?_, fun _ p hp => k p _ (Same.new hp) (by rw [upd_same, cut_take h])⟩
  refine k a H (fun _ _ e => e) ?_
  have := z.2
  rw [HT.sIx_nat, Nat.min_eq_left h] at this
  rw [this, List.take_length]
  exact ea
def rTupOf (K : PySem.W.Frag) : List V → Hp → VK → Prop := fun xs H Q => ∃ p ys, xs = [V.ref p] ∧ ((SqL K H p ys ∧ ∀ (l : Addr), H l = none → Q (V.ref l) (upd H l (HO.tup ys))) ∨ SqT K H p ys ∧ Q (V.ref p) H)
theorem asc_uniq {ns ms : List Int} (h1 : ns.Pairwise (· < ·)) (h2 : ms.Pairwise (· < ·)) (h : ∀ k, k ∈ ns ↔ k ∈ ms) : ns = ms := by
  induction ns generalizing ms with
  | nil =>
    cases ms with
    | nil => rfl
    | cons y ms => exact absurd ((h y).mpr List.mem_cons_self) (fun z => nomatch z)
  | cons x ns ih =>
    cases ms with
    | nil => exact absurd ((h x).mp List.mem_cons_self) (fun z => nomatch z)
    | cons y ms =>
      have a1 := List.pairwise_cons.mp h1
      have a2 := List.pairwise_cons.mp h2
      have e : x = y := by
        rcases List.mem_cons.mp ((h x).mp List.mem_cons_self) with e | e
        · exact e
        · rcases List.mem_cons.mp ((h y).mpr List.mem_cons_self) with e' | e'
          · exact e'.symm
          · have := a2.1 x e
            have := a1.1 y e'
            omega
      subst e
      rw [ih a1.2 a2.2 fun k => ?_]
      constructor
      · intro hk
        rcases List.mem_cons.mp ((h k).mp (List.mem_cons_of_mem _ hk)) with e | e
        · have := a1.1 k hk
          omega
        · exact e
      · intro hk
        rcases List.mem_cons.mp ((h k).mpr (List.mem_cons_of_mem _ hk)) with e | e
        · have := a2.1 k hk
          omega
        · exact e
theorem asc_int {l : List Nat} : (l.map fun n : Nat => (n : Int)).Pairwise (· < ·) ↔ l.Pairwise (· < ·) := by
  rw [List.pairwise_map]
  exact ⟨fun h => h.imp fun q => Int.ofNat_lt.mp q, fun h => h.imp fun q => Int.ofNat_lt.mpr q⟩
section
variable {P : Program} {w : World} {K : PySem.W.Frag} {mg : Str → Option Value} {base : Heap} (T : Top K mg)
theorem ok_whole : FnOk P w K mg base (L2.CX P w) 1 T._law_is_whole.a T._law_is_whole.d ["item"] (spNumber K) := by
  refine T._law_is_whole.f.okX sc__law_is_whole (fun vs H Q E h => ?_) (fun cdv A outer s H vs Q E hr h => ?_)
  · obtain ⟨x, b, rfl, _⟩ := h
    rfl
  · obtain ⟨x, b, rfl, hp, k⟩ := h
    refine ⟨_, (pss_one (ps_ret (pe_and (pe_callB call_isi (by rfl) T.b_isinstance PyProof.Rows.boot_isinstance (pa_cons (pv 0) (pa_cons (pe_bltn (v := .ty "int") (by rfl) T.b_int (by decide +kernel) rfl) pa_nil))) (pe_one (pe_not (pe_callB call_isi (by rfl) T.b_isinstance PyProof.Rows.boot_isinstance (pa_cons (pv 0) (pa_cons (pe_bltn (v := .ty "bool") (by rfl) T.b_bool (by decide +kernel) rfl) pa_nil)))))))), ?_⟩
    obtain ⟨t, ht, h1, h2, h3⟩ := hp.ty
    refine ⟨_, rfl, x, _, _, _, _, rfl, .ty "int", ht, kit_ty h1, _, rfl, ?_⟩
    cases e : (b || (t == "bool"))
    · rw [e] at h3
      refine iteF ?_
      exact q_bl k h3
    · rw [e] at h3
      refine iteT ?_
      refine ⟨_, rfl, x, _, _, _, _, rfl, .ty "bool", ht, kit_ty h2, _, rfl, ?_⟩
      exact q_bl k (by simpa using h3)
theorem ok_lis_lot : FnOk P w K mg base (L2.CX P w) 3 T._law_is_lot.a T._law_is_lot.d ["item", "size_here"] (spLawLot K) := by
  refine T._law_is_lot.f.okX sc__law_is_lot (fun vs H Q E h => ?_) (fun cdv A outer s H vs Q E hr h => ?_)
  · obtain ⟨x, o, n, rfl, _⟩ := h
    rfl
  · obtain ⟨x, o, n, rfl, hv, hlen, k⟩ := h
    refine ⟨_, (pss_cons (ps_if (PW.pt (pw_or (pt_not (pt_val (pe_callB call_isi (by rfl) T.b_isinstance PyProof.Rows.boot_isinstance (pa_cons (pv 0) (pa_cons (pe_bltn (v := .ty "tuple") (by rfl) T.b_tuple (by decide +kernel) rfl) pa_nil))))) (pw_or1 (pt_cmpR (op_neD hr.units) (pe_lc (own := [("each", 2)]) (g := (gName 2)) rfl sc__law_is_lot.nd (pi_tup (pv 0)) (blkOk_by (own := [("each", 2)]) (N := ["item", "size_here", "each"]) (sc := defScope s__law_is_lot) (by decide +kernel)) (fun _ _ _ _ _ => pg_name (i := 2) sc__law_is_lot.nd rfl (by first | exact .inl rfl | exact .inr rfl)) (fun _ _ _ _ _ => pts_one (pt_not (pt_val (pe_call (ok_whole T) (hr.mono (by decide)) (by rfl) T._law_is_whole.m T._law_is_whole.f.kp (bd__law_is_whole T) .nil passE (pa_cons (pv 2) pa_nil))))) (fun _ _ _ _ _ => (pv 2))) (pe_lst pa_nil) (nomark _))))) (pss_one (ps_ret pe_bl)) pss_nil)
      (pss_cons (ps_if (pt_cmpR (op_neD hr.units) (pe_lc (own := [("each", 2)]) (g := (gName 2)) rfl sc__law_is_lot.nd (pi_tup (pv 0)) (blkOk_by (own := [("each", 2)]) (N := ["item", "size_here", "each"]) (sc := defScope s__law_is_lot) (by decide +kernel)) (fun _ _ _ _ _ => pg_name (i := 2) sc__law_is_lot.nd rfl (by first | exact .inl rfl | exact .inr rfl)) (fun _ _ _ _ _ => pts_one (PW.pt (pw_or (pt_cmpR op_lt (pv 2) pe_int (nomark _)) (pw_or1 (pt_cmpR op_ge (pv 2) (pv 1) (nomark _)))))) (fun _ _ _ _ _ => (pv 2))) (pe_lst pa_nil) (nomark _)) (pss_one (ps_ret pe_bl)) pss_nil)
      (pss_one (ps_ret (pe_cmpR (op_eqD hr.units) (pe_callTy call_list_of (by rfl) T.b_list (by decide +kernel) (pa_cons (pv 0) pa_nil)) (pe_callB (cr_sortedSet rfl) (by rfl) T.b_sorted (by decide +kernel) (pa_cons (pe_callTy (KSE.cr_setE rfl) (by rfl) T.b_set (by decide +kernel) (pa_cons (pv 0) pa_nil)) pa_nil)) (nomark _)))))), ?_⟩
    cases hv with
    | no h =>
      obtain ⟨t, ht, kt⟩ := h.ty (K := K)
      exact ⟨_, rfl, _, _, _, _, false, rfl, .ty "tuple", ht, kit_ty kt, _, rfl, iteT (iteT (k H (fun _ _ e => e)))⟩
    | @tup a xs ha hp hl =>
    have hlen := hlen xs rfl
    refine ⟨_, rfl, _, _, _, _, true, rfl, .ty "tuple", .base (.tup ha), kit_ty (by decide +kernel), _, rfl, iteF ⟨_, rfl, a, rfl, ⟨_, SqT.of ha⟩, fun D hD => ?_⟩⟩
    refine lcP (walk_tup (K := K) (a := a) (xs := xs)) xs (fun x => !(isNum x)) id rfl hD (fun H' s' => SqT.of (s' _ _ ha)) (Nat.le_trans hl (by decide)) yAt_same ?_ ?_
    · rintro i x m H1 H2 N R hm s1 ⟨rfl, hx⟩ hy hn
      rw [hm] at hx
      have hx : m = x := Option.some.inj hx
      subst hx
      have hfl := hp _ (List.mem_of_getElem? hm)
      refine ⟨rfl, _, rfl, _, _, rfl, hfl.plN, _, rfl, ?_⟩
      cases c : isNum m with
      | true => exact iteF (hn (by rw [c]; rfl) _ fun _ _ e => e)
      | false => exact iteT ⟨_, rfl, hy (by rw [c]; rfl) _ fun _ _ e => e⟩
    · intro H1 s1 e1
      rw [List.map_id] at e1
      have hf : ∀ x ∈ xs.filter (fun x => !(isNum x)), Fl x := fun x hx => hp x (List.mem_filter.mp hx).1
      refine ⟨(by show 0 ≤ sizeLine; decide), fun q hq => ?_⟩
      have t1 := Same.new (o := .lst []) hq
      refine ⟨_, _, .lst (SqL.of (t1 _ _ e1)) (dp_fl hf), dp_nil upd_same, shaped_fl _ hf, shaped_nil, _, rfl, ?_⟩
      rw [eqv_fl_nil, filter_none]
      have s1q := s1.trans t1
      generalize upd H1 q (.lst []) = H2 at s1q
      cases c : xs.all isNum with
      | false =>
        refine iteT (q_bl (k H2 s1q) ?_)
        have : insideB n xs = false := by
          refine Bool.eq_false_iff.mpr fun z => ?_
          rw [(inside_nv z).1] at c
          have : (NV (xs.map natOf)).all isNum = true := by
            rw [List.all_eq_true]
            intro x hx
            obtain ⟨m, _, rfl⟩ := List.mem_map.mp hx
            rfl
          rw [this] at c
          cases c
        show false = (insideB n xs && _)
        rw [this]
        rfl
      | true =>
        obtain ⟨ns, rfl⟩ := nums_ints c
        refine iteF ?_
        have ha2 := s1q _ _ ha
        rw [List.length_map] at hlen
        refine ⟨_, rfl, a, rfl, ⟨_, SqT.of ha2⟩, fun D2 hD2 => ?_⟩
        refine lcP (walk_tup (K := K) (a := a) (xs := ns.map V.int)) ns (outI n) V.int (by rw [List.length_map]) hD2 (fun H' s' => SqT.of (s' _ _ ha2)) (by omega) yAt_same ?_ ?_
        · rintro i x m H3 H4 N R hm s3 ⟨rfl, hx⟩ hy hn
          rw [List.getElem?_map, hm] at hx
          have hx : V.int m = x := Option.some.inj hx
          subst hx
          refine ⟨rfl, _, rfl, _, _, rfl, rfl, _, rfl, ?_⟩
          have e0 : outI n m = (decide (m < 0) || decide (m ≥ (n : Int))) := rfl
          cases c1 : decide (m < 0) with
          | true =>
            rw [c1] at e0
            exact iteT (iteT ⟨_, rfl, hy e0 _ fun _ _ e => e⟩)
          | false =>
            rw [c1] at e0
            refine iteF ⟨_, rfl, _, rfl, _, _, rfl, rfl, _, rfl, ?_⟩
            cases c2 : decide (m ≥ (n : Int)) with
            | true =>
              rw [c2] at e0
              exact iteT ⟨_, rfl, hy e0 _ fun _ _ e => e⟩
            | false =>
              rw [c2] at e0
              exact iteF (hn e0 _ fun _ _ e => e)
        · intro H3 s3 e3
          refine ⟨(by show 0 ≤ sizeLine; decide), fun q2 hq2 => ?_⟩
          have t3 := Same.new (o := .lst []) hq2
          refine ⟨_, _, dp_int_list (t3 _ _ e3), dp_nil upd_same, shaped_is _, shaped_nil, _, rfl, ?_⟩
          rw [eqv_ints_nil, not_not_all, ← inside_ints]
          have s3q := s3.trans t3
          generalize upd H3 q2 (.lst []) = H5 at s3q
          have s05 := s1q.trans s3q
          cases c2 : insideB n (ns.map V.int) with
          | false =>
            refine iteT (q_bl (k H5 s05) ?_)
            show false = (insideB n (ns.map V.int) && _)
            rw [c2]
            rfl
          | true =>
            refine iteF ?_
            obtain ⟨e4, lt4⟩ := inside_nv c2
            have ens : ns = (((ns.map V.int).map natOf).map fun n : Nat => (n : Int)) := by
              rw [NV_ints] at e4
              exact (List.map_inj_right (f := V.int) (fun a b e => by injection e)).mp e4
            have k := fun H' s' => k H' s'
            have ek : lotV n (some (ns.map V.int)) = ascB ((ns.map V.int).map natOf) := by
              show (insideB n (ns.map V.int) && _) = _
              rw [c2]
              rfl
            rw [ek] at k
            have ha5 := s05 _ _ ha
            generalize (ns.map V.int).map natOf = ms at ens k
            refine ⟨_, rfl, a, _, rfl, .inr (SqT.of ha5), fun l0 hl0 => ?_⟩
            have t6 := Same.new (o := .lst (ns.map V.int)) hl0
            refine ⟨_, rfl, a, ns, rfl, .inr (SqT.of (t6 _ _ ha5)), by omega, fun q3 c hc hq3 => ?_⟩
            have t7 := Same.new (o := SetO w q3 (fun j => decide (j ∈ ns)) c) hq3
            refine ⟨q3, _, c, rfl, upd_same, by omega, fun ns' p3 pw mem len hp3 => ?_⟩
            have t8 := Same.new (o := .lst (ns'.map V.int)) hp3
            refine ⟨_, _, dp_int_list (t8 _ _ (t7 _ _ upd_same)), dp_int_list upd_same, shaped_is _, shaped_is _, ?_⟩
            rw [eqv_ints]
            refine q_bl (k _ (s05.trans (t6.trans (t7.trans t8)))) ?_
            rw [Bool.eq_iff_iff, decide_eq_true_eq, ascB_iff, ← asc_int, ← ens]
            constructor
            · intro e
              rw [e]
              exact pw
            · intro h
              exact asc_uniq h pw fun k' => by rw [mem k', decide_eq_true_eq]
theorem ok_lag : FnOk P w K mg base (L2.CX P w) 1 T._law_lag.a T._law_lag.d ["line"] spLag := by
  refine T._law_lag.f.okX sc__law_lag (fun vs H Q E h => ?_) (fun cdv A outer s H vs Q E hr h => ?_)
  · obtain ⟨b, line, rfl, _⟩ := h
    rfl
  · obtain ⟨b, line, rfl, hb, hl, k⟩ := h
    refine ⟨_, (pss_one (ps_ret (pe_callB (cr_max rfl) (by rfl) T.b_max (by decide +kernel) (pa_cons (pe_op op_cat (pe_lst (pa_cons pe_int pa_nil)) (pe_lc (own := [("tick", 1), ("own", 2)]) (g := (gTup K 2 (gCons (gName 1) (gCons (gName 2) gNil)))) (tt := tYes) rfl sc__law_lag.nd (KEN.pi_enumS (by rfl) T.b_enumerate (pa_cons (pv 0) pa_nil)) (blkOk_by (own := [("tick", 1), ("own", 2)]) (N := ["line", "tick", "own"]) (sc := defScope s__law_lag) (by decide +kernel)) (fun _ _ _ _ _ => pg_tup rfl (pgs_cons (pg_name (i := 1) sc__law_lag.nd rfl (by first | exact .inl rfl | exact .inr rfl)) (pgs_cons (pg_name (i := 2) sc__law_lag.nd rfl (by first | exact .inl rfl | exact .inr rfl)) pgs_nil))) (fun _ _ _ _ _ => pts_nil) (fun _ _ _ _ _ => (pe_op op_sub (pv 1) (pv 2))))) pa_nil)))), ?_⟩
    refine ⟨(by show 1 ≤ sizeLine; decide), fun q hq => ?_⟩
    have t1 := Same.new (o := .lst [.int 0]) hq
    refine ⟨_, rfl, b, NV line, rfl, .inr (SqT.of (t1 _ _ hb)), fun J G wk hG => fun D hD => ?_⟩
    refine lcP wk (List.range line.length) (fun _ => true) (fun t : Nat => V.int ((t : Int) - ((line.getD t 0 : Nat) : Int))) (by rw [NV_len, List.length_range]) hD hG (by rw [List.length_range]; omega) yPair_same ?_ ?_
    · rintro i x t H3 H4 N R hm s3 ⟨T', x1, y1, rfl, hT, rfl, h1, h2⟩ hy hn
      obtain ⟨rfl, hi⟩ := range_at hm
      cases h1
      obtain ⟨f, ef, rfl⟩ := NV_at h2
      refine ⟨T', _, rfl, SqT.of upd_same, rfl, _, _, rfl, _, _, rfl, rfl, rfl, ?_⟩
      dsimp only [tYes]
      rw [if_pos rfl]
      have hy := hy rfl
      rw [getD_at ef] at hy
      exact ⟨_, rfl, _, rfl, _, _, rfl, rfl, hy _ fun _ _ e => e⟩
    · intro H3 s3 e3
      rw [filter_yes] at e3
      have e3 : H3 D = some (.lst ((List.range line.length).map fun t : Nat => V.int ((t : Int) - ((line.getD t 0 : Nat) : Int)))) := e3
      have el : ((List.range line.length).map fun t : Nat => V.int ((t : Int) - ((line.getD t 0 : Nat) : Int))) = (lags line).map V.int := by
        unfold lags
        rw [List.map_map]
        rfl
      rw [el] at e3
      have ll : (lags line).length = line.length := by unfold lags; rw [List.length_map, List.length_range]
      refine ⟨q, D, _, _, rfl, rfl, s3 _ _ upd_same, e3, ?_, fun r hr => ?_⟩
      · rw [List.length_map, ll]
        exact Nat.le_trans (show _ ≤ 2000 by show 1 + _ ≤ _; omega) (by decide)
      refine ⟨r, 0 :: lags line, rfl, SqL.of upd_same, Nat.succ_pos _, fun m h1 h2 => ?_⟩
      rw [maxI_eq h1 h2]
      exact k _ ((t1.trans s3).trans (Same.new hr))
theorem ok_held : FnOk P w K mg base (L2.CX P w) 1 T._law_held.a T._law_held.d ["net", "pause", "lot"] spHeld := by
  refine T._law_held.f.okX sc__law_held (fun vs H Q E h => ?_) (fun cdv A outer s H vs Q E hr h => ?_)
  · obtain ⟨a, b, p, ws, rows, lot, rfl, _⟩ := h
    rfl
  · obtain ⟨a, b, p, ws, rows, lot, rfl, ha, rl, hn, hb, hl, k⟩ := h
    refine ⟨_, (pss_cons (ps_par (i := 3) (j := 4) rfl sc__law_held.nd rfl rfl (by decide) rfl rfl (pa_cons (pe_op op_sub (pe_callB call_len_seq (by rfl) T.b_len PySem.boot_len (pa_cons (pv 2) pa_nil)) pe_int) (pa_cons (pe_lst pa_nil) pa_nil)) (by rfl))
      (pss_cons (ps_for (passes_of rfl) rfl (pi_tup (pv 2)) (pg_name (i := 5) sc__law_held.nd rfl (by first | exact .inl rfl | exact .inr rfl))
        (pss_cons (ps_setLc (i := 6) (own := [("mate", 7)]) (g := (gName 7)) rfl sc__law_held.nd rfl rfl (sw_true rfl rfl rfl (by decide +kernel)) (pi_range1 (by rfl) T.b_range (pa_cons (pe_callB call_len_seq (by rfl) T.b_len PySem.boot_len (pa_cons (pv 0) pa_nil)) pa_nil)) (blkOk_by (own := [("mate", 7)]) (N := ["net", "pause", "lot", "tick", "found", "own", "some", "mate"]) (sc := defScope s__law_held) (by decide +kernel)) (fun _ _ _ _ _ => pg_name (i := 7) sc__law_held.nd rfl (by first | exact .inl rfl | exact .inr rfl)) (fun _ _ _ _ _ => pts_one (PW.pt (pw_and (pt_cmpR (show OpR _ _ (rIn K true) from op_notIn_seq) (pv 7) (pv 2) (by rfl)) (pw_and1 (pt_cmpR (show OpR _ _ (rIn K false) from op_in_seq) (pv 5) (pe_ix (show IxR _ (rIx K) from ix_seq) (pv 0) (pv 7) (fun _ _ => rfl)) (by rfl)))))) (fun _ _ _ _ _ => (pv 7)))
      (pss_one (ps_if (PW.pt (pw_or (pt_cmpR op_gt (pe_op op_add (pv 1) (pv 5)) (pv 3) (nomark _)) (pw_or1 (pt_cmpR (op_neD hr.units) (pv 6) (pe_lst pa_nil) (nomark _))))) (pss_one (ps_expr (pe_bm PySem.F.plainAttrs_list PySem.F.slot_list_append PySem.F.type_list_append mt_append (pv 4) (pa_cons (pv 5) pa_nil)))) pss_nil))))
      (pss_one (ps_ret (pe_callTy call_tuple_of (by rfl) T.b_tuple (by decide +kernel) (pa_cons (pv 4) pa_nil)))))), ?_⟩
    have hlen : ws.length = rows.length := rl.1
    refine ⟨_, rfl, b, NV lot, rfl, .inr (SqT.of hb), _, _, rfl, rfl, (by show 0 ≤ sizeLine; decide), fun f0 hf0 => ?_⟩
    rw [NV_len]
    have sf0 := Same.new (o := .lst []) hf0
    refine ⟨_, _, rfl, _, rfl, b, rfl, ⟨_, SqT.of (sf0 _ _ hb)⟩, ?_⟩
    refine for_it (walk_tup (K := K) (a := b) (xs := NV lot)) (fun i σ H' => (∃ v5 v6, σ = [some (.ref a), some (.int p), some (.ref b), some (.int ((lot.length : Int) - 1)), some (.ref f0), v5, v6, none]) ∧ H' f0 = some (.lst (NV ((lot.take i).filter (keepB rows p lot)))) ∧ Same H H') ⟨⟨none, none, rfl⟩, upd_same, sf0⟩ (fun i σ H' _ n => SqT.of (n.2.2 _ _ hb)) ?_ ?_
    · rintro i x σ H1' H1 hi ⟨⟨v5, v6, rfl⟩, e1, s1⟩ ⟨rfl, hx⟩
      rw [NV_len] at hi
      obtain ⟨f, ef, rfl⟩ := NV_at hx
      refine ⟨_, rfl, a, ws, rfl, .inl (SqL.of (s1 _ _ ha)), _, rfl, by omega, by omega, ?_⟩
      rw [Int.toNat_natCast]
      intro D hD
      refine lcP (walk_rangeN (n := ws.length)) (List.range rows.length) (fun m => !(inB lot m) && inB (row rows m) f) (fun m : Nat => V.int (m : Int)) (by rw [List.length_range, hlen]) hD (fun _ _ => trivial) (by rw [List.length_range]; omega) yFn_same ?_ ?_
      · rintro j x m H3 H2 N R hm s2 ⟨rfl, rfl⟩ hy hn'
        obtain ⟨rfl, hml⟩ := range_at hm
        have s12 := s1.trans s2
        refine ⟨rfl, _, rfl, _, rfl, b, _, rfl, .inr (SqT.of (s12 _ _ hb)), rfl, NV_flat lot, ?_⟩
        rw [if_pos rfl, inV_NV]
        refine ⟨_, rfl, ?_⟩
        cases c : inB lot m with
        | true => exact iteF (hn' (by rw [c]; rfl) _ fun _ _ e => e)
        | false =>
          obtain ⟨q, eq, hq⟩ := (rl.same s12).at_ (row_at hml)
          refine iteT ⟨_, rfl, _, rfl, _, rfl, ix_either (K := K) (.inl (s12 _ _ ha)) eq ⟨q, _, rfl, .inr (SqT.of hq), rfl, NV_flat _, ?_⟩⟩
          rw [if_neg Bool.false_ne_true, inV_NV]
          refine ⟨_, rfl, ?_⟩
          cases c2 : inB (row rows m) f with
          | true => exact iteT ⟨_, rfl, hy (by rw [c, c2]; rfl) _ fun _ _ e => e⟩
          | false => exact iteF (hn' (by rw [c, c2]; rfl) _ fun _ _ e => e)
      · intro H2 s2 e2
        have e2 : H2 D = some (.lst (NV ((List.range rows.length).filter fun m => !(inB lot m) && inB (row rows m) f))) := e2
        have sf := Same.put (s1.trans s2) (D := f0) (o := .lst (NV ((lot.take i).filter (keepB rows p lot)) ++ [V.int (f : Int)])) hf0
        have e1' := s2 _ _ e1
        refine ⟨_, rfl, _, rfl, _, _, rfl, rfl, _, rfl, _, _, rfl, rfl, _, rfl, ?_⟩
        have ek : keepB rows p lot f = (decide (p + f > (lot.length : Int) - 1) || outB rows lot f) := rfl
        have tk : ∀ g : Bool, keepB rows p lot f = g → (lot.take (i + 1)).filter (keepB rows p lot) = (lot.take i).filter (keepB rows p lot) ++ (if g then [f] else []) := fun g hg => by
          cases g
          · rw [take_filter_no ef hg]; exact (List.append_nil _).symm
          · exact take_filter_yes ef hg
        have lk : ((lot.take i).filter (keepB rows p lot)).length ≤ 1000 := Nat.le_trans (List.length_filter_le _ _) (by rw [List.length_take]; omega)
        have app : ∀ H3, Same H2 H3 → keepB rows p lot f = true → (upd H3 f0 (.lst (NV ((lot.take i).filter (keepB rows p lot)) ++ [V.int (f : Int)]))) f0 = some (.lst (NV ((lot.take (i + 1)).filter (keepB rows p lot)))) := fun H3 s3 hk => by
          rw [upd_same, tk _ hk, if_pos rfl, NV_snoc]
        cases c : decide (p + f > (lot.length : Int) - 1) with
        | true =>
          rw [c] at ek
          exact iteT (iteT ⟨_, rfl, .inl ⟨rfl, _, SqL.of e1'⟩, _, rfl, f0, _, _, rfl, rfl, e1', by rw [NV_len]; exact Nat.lt_of_le_of_lt lk (by decide), ⟨_, _, rfl⟩, app H2 (fun _ _ e => e) ek, Same.put (s1.trans s2) hf0⟩)
        | false =>
          rw [c] at ek
          refine iteF ⟨_, rfl, (by show 0 ≤ sizeLine; decide), fun z hz => ?_⟩
          have tz := Same.new (o := .lst []) hz
          refine ⟨_, _, dp_int_list (by rw [← NV_ints]; exact tz _ _ e2), dp_nil upd_same, shaped_is _, shaped_nil, _, rfl, ?_⟩
          rw [eqv_ints_nil, List.isEmpty_map, filter_any]
          show if outB rows lot f = true then _ else _
          have e1z := tz _ _ e1'
          have s2z := s2.trans tz
          cases c2 : outB rows lot f with
          | true =>
            rw [c2] at ek
            exact iteT ⟨_, rfl, .inl ⟨rfl, _, SqL.of e1z⟩, _, rfl, f0, _, _, rfl, rfl, e1z, by rw [NV_len]; exact Nat.lt_of_le_of_lt lk (by decide), ⟨_, _, rfl⟩, app _ tz ek, Same.put (s1.trans s2z) hf0⟩
          | false =>
            rw [c2] at ek
            refine iteF ⟨⟨_, _, rfl⟩, ?_, s1.trans s2z⟩
            rw [tk _ ek]
            exact e1z.trans (congrArg (fun l => some (HO.lst (NV l))) (List.append_nil _).symm)
    · rintro σ H1 ⟨⟨v5, v6, rfl⟩, e1, s1⟩
      rw [NV_len, List.take_length] at e1
      exact ⟨_, rfl, f0, _, rfl, .inl ⟨SqL.of e1, fun l hl' => k l _ (s1.trans (Same.new hl')) upd_same⟩⟩
theorem ok_most_held : FnOk P w K mg base (L2.CX P w) 2 T._law_most_held.a T._law_most_held.d ["net", "pause", "line"] spMostHeld := by
  refine T._law_most_held.f.okX sc__law_most_held (fun vs H Q E h => ?_) (fun cdv A outer s H vs Q E hr h => ?_)
  · obtain ⟨a, b, p, ws, rows, line, rfl, _⟩ := h
    rfl
  · obtain ⟨a, b, p, ws, rows, line, rfl, ha, rl, l1, l2, hb, hord, k⟩ := h
    refine ⟨_, (pss_one (ps_ret (pe_callB (cr_max rfl) (by rfl) T.b_max (by decide +kernel) (pa_cons (pe_lc (own := [("turn", 3)]) (g := (gName 3)) (tt := tYes) rfl sc__law_most_held.nd (pi_range1 (by rfl) T.b_range (pa_cons (pe_callB call_len_seq (by rfl) T.b_len PySem.boot_len (pa_cons (pv 2) pa_nil)) pa_nil)) (blkOk_by (own := [("turn", 3)]) (N := ["net", "pause", "line", "turn"]) (sc := defScope s__law_most_held) (by decide +kernel)) (fun _ _ _ _ _ => pg_name (i := 3) sc__law_most_held.nd rfl (by first | exact .inl rfl | exact .inr rfl)) (fun _ _ _ _ _ => pts_nil) (fun _ _ _ _ _ => (pe_callB (show CallR _ _ (rLen K) from call_len_seq) (by rfl) T.b_len PySem.boot_len (pa_cons (pe_call (ok_held T) (hr.mono (by decide)) (by rfl) T._law_held.m T._law_held.f.kp (bd__law_held T) .nil passE (pa_cons (pv 0) (pa_cons (pv 1) (pa_cons (pe_callTy (show CallR _ (.type "tuple") (rTupOf K) from call_tuple_of) (by rfl) T.b_tuple (by decide +kernel) (pa_cons (pe_callB (show CallR _ _ (KSE.rSortedE K) from KSE.cr_sortedE) (by rfl) T.b_sorted (by decide +kernel) (pa_cons (pe_slice (show SlR _ (rSlA K) from sl_tupA) (pv 2) po_none (po_some (pe_op op_add (pv 3) pe_int))) pa_nil)) pa_nil)) pa_nil)))) pa_nil)))) pa_nil)))), ?_⟩
    obtain ⟨tp, el⟩ := mem_ords.mp hord
    refine ⟨_, rfl, b, _, rfl, .inr (SqT.of hb), _, rfl, by rw [NV_len]; omega, by rw [NV_len]; omega, ?_⟩
    rw [Int.toNat_natCast, NV_len]
    intro D hD
    refine lcP (walk_rangeN (n := line.length)) (List.range line.length) (fun _ => true) (fun t : Nat => V.int ((keptL rows p (inOrder rows.length (line.take (t + 1)))).length : Int)) (by rw [List.length_range]) hD (fun _ _ => trivial) (by rw [List.length_range]; omega) yFn_same ?_ ?_
    · rintro i x t H4 H3 N R ht s3 ⟨rfl, rfl⟩ hy hn'
      obtain ⟨rfl, htl⟩ := range_at ht
      refine ⟨rfl, ?_⟩
      dsimp only [tYes]
      rw [if_pos rfl]
      refine ⟨_, rfl, _, rfl, _, rfl, _, rfl, _, _, rfl, rfl, _, rfl, ?_⟩
      have tk : (NV line).take (t + 1) = NV (line.take (t + 1)) := (List.map_take ..).symm
      dsimp only
      rw [show (t : Int) + 1 = ((t + 1 : Nat) : Int) by omega]
      refine take_tup (K := K) (s3 _ _ hb) (show t + 1 ≤ (NV line).length by rw [NV_len]; omega) fun c' H5 s5 e5 => ?_
      rw [tk, NV_ints] at e5
      refine ⟨c', (line.take (t + 1)).map fun n : Nat => (n : Int), rfl, .inr (SqT.of e5), by rw [List.length_map, List.length_take]; omega, fun ns' q pm pw hq => ?_⟩
      obtain ⟨k', pm', rfl⟩ := KSU.perm_of_map pm _ rfl
      have ek := inOrder_of pm' (pw_nat pw) (tp.take (t + 1)).nd (tp.take (t + 1)).lt
      subst ek
      rw [← NV_ints]
      have tq := Same.new (o := .lst (NV (inOrder rows.length (line.take (t + 1))))) hq
      refine ⟨q, _, rfl, .inl ⟨SqL.of upd_same, fun q2 hq2 => ?_⟩⟩
      have tq2 := Same.new (o := .tup (NV (inOrder rows.length (line.take (t + 1))))) hq2
      have s0 := (s3.trans s5).trans (tq.trans tq2)
      refine ⟨a, q2, p, ws, rows, _, rfl, s0 _ _ ha, rl.same s0, l2, upd_same, ?_, fun q' H6 s6 e6 => ?_⟩
      · have := nodup_count (asc_nodup inOrder_asc) (fun x hx => (mem_inOrder (n := rows.length) (l := line.take (t + 1)) (x := x)).mp hx |>.1)
        omega
      · refine ⟨q', _, rfl, .inr (SqT.of e6), ?_⟩
        rw [NV_len]
        exact hy rfl H6 (s5.trans ((tq.trans tq2).trans s6))
    · intro H3 s3 e3
      rw [filter_yes] at e3
      refine ⟨D, manyK rows p line, rfl, SqL.of (by rw [e3]; unfold manyK; rw [List.map_map]; rfl), by unfold manyK; rw [List.length_map, List.length_range]; omega, fun m h1 h2 => ?_⟩
      rw [maxI_eq h1 h2]
      exact k H3 s3
end
end K45
namespace K45
open PySem PySem.Spec PyProof.Rows L2 PySem.W LamX KA KW KU KL KT
open Evl (pss_cut tCut)
/-! ### the law's orders -/
def spOrders : Sp := fun vs H Q _ => ∃ (a : Addr) (ws : List V) (rows : List (List Nat)), vs = [.ref a] ∧ H a = some (.lst ws) ∧ RL NV H ws rows ∧ rows.length ≤ 5 ∧ (∀ r ∈ rows, r.length ≤ 1000) ∧ ∀ q us H', Same H H' → H q = none → H' q = some (.lst us) → RL NV H' us (ords rows) → Q (.ref q) H'
theorem cat_any {K : PySem.W.Frag} {a b : Addr} {xs ys : List V} {H : Hp} {Q : VK} (ea : H a = some (.tup xs)) (eb : H b = some (.tup ys)) (l : xs.length + ys.length ≤ 4000) (k : ∀ c H', Same H H' → H' c = some (.tup (xs ++ ys)) → Q (.ref c) H') : rCatA K (.ref a) (.ref b) H Q := by
  refine ⟨a, b, xs, ys, rfl, rfl, SqT.of ea, SqT.of eb, Nat.le_trans l (by decide), fun z => ?_, fun _ z => ?_, fun _ _ p hp => k p _ (Same.new hp) upd_same⟩
  · exact k b H (fun _ _ e => e) (by rw [z, List.nil_append]; exact eb)
  · exact k a H (fun _ _ e => e) (by rw [z, List.append_nil]; exact ea)
theorem nexts_len {rows : List (List Nat)} (l : List Nat) : (nexts rows l).length ≤ rows.length := by
  unfold nexts
  rw [List.length_map]
  exact Nat.le_trans (List.length_filter_le _ _) (by rw [List.length_range]; exact Nat.le_refl _)
theorem flat_len {α β : Type} {f : α → List β} {n : Nat} (h : ∀ a, (f a).length ≤ n) : ∀ l : List α, (l.flatMap f).length ≤ n * l.length
  | [] => Nat.zero_le _
  | a :: l => by
    rw [List.flatMap_cons, List.length_append, List.length_cons]
    have := flat_len h l
    have := h a
    rw [Nat.mul_succ]
    omega
theorem ordsN_len {rows : List (List Nat)} (h : rows.length ≤ 5) : ∀ k, (ordsN rows k).length ≤ 5 ^ k
  | 0 => Nat.le_refl _
  | k + 1 => by
    have h1 := ordsN_len h k
    have h2 := flat_len (f := nexts rows) (n := 5) (fun a => Nat.le_trans (nexts_len a) h) (ordsN rows k)
    show ((ordsN rows k).flatMap (nexts rows)).length ≤ _
    rw [Nat.pow_succ]
    omega
def nextsU (rows : List (List Nat)) (l : List Nat) (m : Nat) : List (List Nat) := ((List.range m).filter fun o => !(inB l o) && (row rows o).all (inB l)).map fun o => l ++ [o]
theorem nextsU_yes {rows : List (List Nat)} {l : List Nat} {m : Nat} (h : (!(inB l m) && (row rows m).all (inB l)) = true) : nextsU rows l (m + 1) = nextsU rows l m ++ [l ++ [m]] := by
  unfold nextsU
  rw [List.range_succ, List.filter_append, List.map_append, List.filter_cons, h]
  rfl
theorem nextsU_no {rows : List (List Nat)} {l : List Nat} {m : Nat} (h : (!(inB l m) && (row rows m).all (inB l)) = false) : nextsU rows l (m + 1) = nextsU rows l m := by
  unfold nextsU
  rw [List.range_succ, List.filter_append, List.map_append, List.filter_cons, h]
  exact List.append_nil _
section
variable {P : Program} {w : World} {K : PySem.W.Frag} {mg : Str → Option Value} {base : Heap} (T : Top K mg)
theorem ok_orders : FnOk P w K mg base (L2.CX P w) 1 T._law_orders.a T._law_orders.d ["net"] spOrders := by
  refine T._law_orders.f.okX sc__law_orders (fun vs H Q E h => ?_) (fun cdv A outer s H vs Q E hr h => ?_)
  · obtain ⟨a, ws, rows, rfl, _⟩ := h
    rfl
  · obtain ⟨a, ws, rows, rfl, ha, rl, hn, l2, k⟩ := h
    refine ⟨_, (pss_cons (ps_set (i := 1) sc__law_orders.nd rfl (by first | exact .inl rfl | exact .inr rfl) (pe_lst (pa_cons (pe_tup pa_nil) pa_nil)))
      (pss_cons (ps_for (passes_of rfl) rfl (pi_range1 (by rfl) T.b_range (pa_cons (pe_callB call_len_seq (by rfl) T.b_len PySem.boot_len (pa_cons (pv 0) pa_nil)) pa_nil)) (pg_name (i := 2) sc__law_orders.nd rfl (by first | exact .inl rfl | exact .inr rfl))
        (pss_cons (ps_set (i := 3) sc__law_orders.nd rfl (by first | exact .inl rfl | exact .inr rfl) (pe_lst pa_nil))
      (pss_cons (ps_for (passes_of rfl) rfl (pi_list (pv 1)) (pg_name (i := 4) sc__law_orders.nd rfl (by first | exact .inl rfl | exact .inr rfl))
        (pss_one (ps_for (passes_of rfl) rfl (pi_range1 (by rfl) T.b_range (pa_cons (pe_callB call_len_seq (by rfl) T.b_len PySem.boot_len (pa_cons (pv 0) pa_nil)) pa_nil)) (pg_name (i := 5) sc__law_orders.nd rfl (by first | exact .inl rfl | exact .inr rfl))
        (pss_one (ps_if (PW.pt (pw_and (pt_cmpR (show OpR _ _ (rIn K true) from op_notIn_seq) (pv 5) (pv 4) (by rfl)) (pw_and1 (pt_cmpR (op_eqD hr.units) (pe_lc (own := [("mate", 6)]) (g := (gName 6)) rfl sc__law_orders.nd (pi_tup (pe_ix (show IxR _ (rIx K) from ix_seq) (pv 0) (pv 5) (fun _ _ => rfl))) (blkOk_by (own := [("mate", 6)]) (N := ["net", "found", "turn", "longer", "line", "own", "mate"]) (sc := defScope s__law_orders) (by decide +kernel)) (fun _ _ _ _ _ => pg_name (i := 6) sc__law_orders.nd rfl (by first | exact .inl rfl | exact .inr rfl)) (fun _ _ _ _ _ => pts_one (pt_cmpR (show OpR _ _ (rIn K true) from op_notIn_seq) (pv 6) (pv 4) (by rfl))) (fun _ _ _ _ _ => (pv 6))) (pe_lst pa_nil) (nomark _))))) (pss_one (ps_expr (pe_bm PySem.F.plainAttrs_list PySem.F.slot_list_append PySem.F.type_list_append mt_append (pv 3) (pa_cons (pe_op op_catA (pv 4) (pe_tup (pa_cons (pv 5) pa_nil))) pa_nil)))) pss_nil)))))
      (pss_one (ps_set (i := 1) sc__law_orders.nd rfl (by first | exact .inl rfl | exact .inr rfl) (pv 3))))))
      (pss_one (ps_ret (pv 1))))), ?_⟩
    have hlen : ws.length = rows.length := rl.1
    refine ⟨(by show 0 ≤ sizeLine; decide), fun e0 he0 => ⟨(by show 1 ≤ sizeLine; decide), fun q0 hq0 => ?_⟩⟩
    have t0 := Same.new (o := .tup []) he0
    have t1 := Same.new (o := .lst [.ref e0]) hq0
    have s1 := t0.trans t1
    have rl0 : RL NV (upd (upd H e0 (.tup [])) q0 (.lst [.ref e0])) [.ref e0] (ordsN rows 0) := .one ⟨e0, rfl, t1 _ _ upd_same⟩
    have eq0 : (upd (upd H e0 (.tup [])) q0 (.lst [.ref e0])) q0 = some (.lst [.ref e0]) := upd_same
    have hq0' : H q0 = none := t0.free hq0
    generalize upd (upd H e0 (.tup [])) q0 (.lst [.ref e0]) = H1 at s1 rl0 eq0
    clear t0 t1 he0 hq0
    refine ⟨_, rfl, a, ws, rfl, .inl (SqL.of (s1 _ _ ha)), _, rfl, by omega, by omega, ?_⟩
    rw [Int.toNat_natCast]
    refine for_it (walk_rangeN (n := ws.length)) (fun i σ H' => ∃ v2 q v3 v4 v5 us, σ = [some (.ref a), some (.ref q), v2, v3, v4, v5, none] ∧ H q = none ∧ H' q = some (.lst us) ∧ RL NV H' us (ordsN rows i) ∧ Same H H') ⟨none, q0, none, none, none, _, rfl, hq0', eq0, rl0, s1⟩ (fun _ _ _ _ _ => trivial) ?_ ?_
    · rintro i x σ H2' H2 hi ⟨v2, q, v3, v4, v5, us, rfl, hq, e2, r2, s2⟩ ⟨rfl, rfl⟩
      have few := ordsN_len hn i
      have few : (ordsN rows i).length ≤ 3125 := Nat.le_trans few (Nat.pow_le_pow_right (by decide) (show i ≤ 5 by omega))
      refine ⟨(by show 0 ≤ sizeLine; decide), fun D hD => ?_⟩
      have tD := Same.new (o := .lst []) hD
      have hHD : H D = none := s2.free hD
      refine ⟨_, rfl, q, rfl, ⟨_, SqL.of (tD _ _ e2)⟩, ?_⟩
      refine for_it (walk_list (K := K) (a := q) (xs := us)) (fun j σ H' => (∃ v4 v5, σ = [some (.ref a), some (.ref q), some (.int (i : Int)), some (.ref D), v4, v5, none]) ∧ NI NV H2 D (((ordsN rows i).take j).flatMap (nexts rows)) H') ⟨⟨v4, v5, rfl⟩, .new hD⟩ (fun j σ H' _ n => SqL.of (n.2.s _ _ e2)) ?_ ?_
      · rintro j x σ H3' H3 hj ⟨⟨v4, v5, rfl⟩, n3⟩ ⟨rfl, hx⟩
        obtain ⟨p, l, rfl, el, hp⟩ := r2.get hx
        have s23 := n3.s
        have lim : l.length = i := ((mem_ordsN i l).mp (List.mem_of_getElem? el)).2
        have hp3 := s23 _ _ hp
        have s03 := s2.trans s23
        refine ⟨_, rfl, a, ws, rfl, .inl (SqL.of (s03 _ _ ha)), _, rfl, by omega, by omega, ?_⟩
        rw [Int.toNat_natCast]
        have bd : (((ordsN rows i).take j).flatMap (nexts rows)).length ≤ 15625 := by
          refine Nat.le_trans (flat_len (n := 5) (fun a => Nat.le_trans (nexts_len a) hn) _) ?_
          rw [List.length_take]
          omega
        have step : ((ordsN rows i).take (j + 1)).flatMap (nexts rows) = ((ordsN rows i).take j).flatMap (nexts rows) ++ nexts rows l := by
          rw [List.take_add_one, el, List.flatMap_append]
          exact congrArg _ (List.append_nil _)
        rw [step]
        generalize ((ordsN rows i).take j).flatMap (nexts rows) = acc at n3 bd
        refine for_it (walk_rangeN (n := ws.length)) (fun m σ H' => (∃ v5, σ = [some (.ref a), some (.ref q), some (.int (i : Int)), some (.ref D), some (.ref p), v5, none]) ∧ NI NV H2 D (acc ++ nextsU rows l m) H') ⟨⟨v5, rfl⟩, by rw [show nextsU rows l 0 = [] from rfl, List.append_nil]; exact n3⟩ (fun _ _ _ _ _ => trivial) ?_ ?_
        · rintro m x σ H4' H4 hm ⟨⟨v5, rfl⟩, n4⟩ ⟨rfl, rfl⟩
          have s24 := n4.s
          have s04 := s2.trans s24
          have hp4 := s24 _ _ hp
          have lm : m < rows.length := by omega
          have bd2 : (nextsU rows l m).length ≤ 5 := by
            unfold nextsU
            rw [List.length_map]
            exact Nat.le_trans (List.length_filter_le _ _) (by rw [List.length_range]; omega)
          refine ⟨_, rfl, _, rfl, p, _, rfl, .inr (SqT.of hp4), rfl, NV_flat l, ?_⟩
          rw [if_pos rfl, inV_NV]
          refine ⟨_, rfl, ?_⟩
          cases c : inB l m with
          | true => exact iteF ⟨⟨_, rfl⟩, by rw [nextsU_no (by rw [c]; rfl)]; exact n4⟩
          | false =>
            obtain ⟨r, er, hr'⟩ := (rl.same s04).at_ (row_at lm)
            have lr := l2 _ (List.mem_of_getElem? (row_at lm))
            refine iteT ⟨_, rfl, _, rfl, ix_either (K := K) (.inl (s04 _ _ ha)) er ⟨r, rfl, ⟨_, SqT.of hr'⟩, fun D2 hD2 => ?_⟩⟩
            refine lcP (walk_tup (K := K) (a := r) (xs := NV (row rows m))) (row rows m) (fun x => !(inB l x)) (fun f : Nat => V.int (f : Int)) (NV_len _) hD2 (fun H' s' => SqT.of (s' _ _ hr')) (Nat.le_trans lr (by decide)) yAt_same ?_ ?_
            · rintro jj y n H6 H5 N2 R2 hn2 s5 ⟨rfl, hx2⟩ ky kn
              rw [NV_get hn2] at hx2
              cases hx2
              refine ⟨rfl, _, rfl, _, rfl, p, _, rfl, .inr (SqT.of (s5 _ _ hp4)), rfl, NV_flat l, ?_⟩
              rw [if_pos rfl, inV_NV]
              refine ⟨_, rfl, ?_⟩
              cases c : inB l n with
              | true => exact iteF (kn (by rw [c]; rfl) _ fun _ _ e => e)
              | false => exact iteT ⟨_, rfl, ky (by rw [c]; rfl) _ fun _ _ e => e⟩
            · intro H5 s5 e5
              have e5 : H5 D2 = some (.lst (NV ((row rows m).filter fun x => !(inB l x)))) := e5
              refine ⟨(by show 0 ≤ sizeLine; decide), fun z hz => ?_⟩
              have tz := Same.new (o := .lst []) hz
              refine ⟨_, _, dp_int_list (by rw [← NV_ints]; exact tz _ _ e5), dp_nil upd_same, shaped_is _, shaped_nil, _, rfl, ?_⟩
              rw [eqv_ints_nil, List.isEmpty_map, filter_none]
              have s4z := s5.trans tz
              have n6 := n4.same s4z
              have hp6 := s4z _ _ hp4
              generalize upd H5 z (.lst []) = H6 at n6 hp6
              cases c2 : (row rows m).all fun x => inB l x with
              | false =>
                refine iteF ⟨⟨_, rfl⟩, ?_⟩
                rw [nextsU_no (by rw [c]; exact c2)]
                exact n6
              | true =>
                obtain ⟨ws6, e6, _, _⟩ := id n6
                refine iteT ⟨_, rfl, .inl ⟨rfl, _, SqL.of e6⟩, _, rfl, _, rfl, (by show 1 ≤ sizeLine; decide), fun t ht => ?_⟩
                have tt := Same.new (o := .tup [V.int ((m : Nat) : Int)]) ht
                refine cat_any (K := K) (tt _ _ hp6) upd_same (by rw [NV_len]; show l.length + 1 ≤ _; omega) fun c7 H7 s7 e7 => ?_
                rw [← NV_snoc] at e7
                have n7 := n6.same (tt.trans s7)
                obtain ⟨acc', ea, la, n8⟩ := n7.push hD (by rw [List.length_append]; omega) (v := .ref c7) (a := l ++ [m]) ⟨c7, rfl, e7⟩
                refine ⟨D, acc', _, rfl, rfl, ea, la, ⟨_, rfl⟩, ?_⟩
                rw [nextsU_yes (by rw [c]; exact c2), ← List.append_assoc]
                exact n8
        · rintro σ H4 ⟨⟨v5, rfl⟩, n4⟩
          rw [hlen] at n4
          exact ⟨⟨_, _, rfl⟩, n4⟩
      · rintro σ H3 ⟨⟨v4, v5, rfl⟩, n3⟩
        rw [show us.length = (ordsN rows i).length from r2.1, List.take_length] at n3
        obtain ⟨ws3, e3, r3, s3⟩ := n3
        exact ⟨_, rfl, _, D, _, _, _, ws3, rfl, hHD, e3, r3, s2.trans s3⟩
    · rintro σ H2 ⟨v2, q, v3, v4, v5, us, rfl, hq, e2, r2, s2⟩
      rw [hlen] at r2
      exact ⟨_, rfl, k q us H2 s2 hq e2 r2⟩
end
end K45
namespace K45
open PySem PySem.Spec PyProof.Rows L2 PySem.W LamX KA KW KU KL KT
open Evl (pss_cut tCut)
/-! ### the law's critical frame -/
def spLawCrit : Sp := fun vs H Q _ => ∃ (a : Addr) (ws : List V) (rows : List (List Nat)), vs = [.ref a] ∧ H a = some (.lst ws) ∧ RL NV H ws rows ∧ 1 ≤ rows.length ∧ rows.length ≤ 10 ∧ (∀ r ∈ rows, r.length ≤ 1000) ∧ Lots rows ∧ ∀ q H', Same H H' → H' q = some (.tup [.int (spot rows : Nat), .int (maxI (exs rows))]) → Q (.ref q) H'
theorem ints_flat (ns : List Int) : (ns.map V.int).all flatV = true := by
  rw [List.all_eq_true]
  intro x hx
  obtain ⟨n, _, rfl⟩ := List.mem_map.mp hx
  rfl
theorem ix_first {K : PySem.W.Frag} {q : Addr} {ns : List Int} {v : Int} {H : Hp} {Q : VK} (e : H q = some (.lst (ns.map V.int))) (hv : v ∈ ns) (k : Q (.int ((firstIx v ns : Nat) : Int)) H) : rIndex K (.ref q) [.int v] H Q := by
  obtain ⟨c1, c2⟩ := firstIx_spec hv
  refine ⟨q, _, _, firstIx v ns, .int v, rfl, rfl, SqL.of e, rfl, ints_flat ns, ?_, beq_self_eq_true v, fun m z hm hz => ?_, k⟩
  · rw [List.getElem?_map, c1]
    rfl
  · rw [List.getElem?_map] at hz
    cases e : ns[m]? with
    | none => rw [e] at hz; cases hz
    | some n =>
      rw [e] at hz
      cases hz
      exact beq_eq_false_iff_ne.mpr (c2 m n hm e)
theorem min_clos {rows ls : List (List Nat)} {i : Nat} {m : Int} (hl : Lots rows) (hi : i < rows.length) (pm : ls.Perm (wholes rows)) (h1 : m ∈ (ls.filter fun s => (List.range (i + 1)).all (inB s)).map fun s : List Nat => (s.length : Int)) (h2 : ∀ y ∈ (ls.filter fun s => (List.range (i + 1)).all (inB s)).map fun s : List Nat => (s.length : Int), m ≤ y) : m - i - 1 = excess rows i := by
  obtain ⟨s, hs, rfl⟩ := List.mem_map.mp h1
  rw [List.mem_filter, all_inB] at hs
  have c1 := clos_size (pm.mem_iff.mp hs.1) hs.2
  have c2 := h2 _ (List.mem_map.mpr ⟨clos rows (List.range (i + 1)), List.mem_filter.mpr ⟨pm.mem_iff.mpr (clos_whole hl), all_inB.mpr (sub_clos (range_sub hi))⟩, rfl⟩)
  unfold excess
  omega
section
variable {P : Program} {w : World} {K : PySem.W.Frag} {mg : Str → Option Value} {base : Heap} (T : Top K mg)
def forBody : Stmt → List Stmt
  | .For _ _ b _ _ => b
  | _ => []
def critC : Expr := retOf ((forBody ((defBody s__law_critical).getD 1 (.Pass ⟨0, 0, 0, 0⟩))).getD 0 (.Pass ⟨0, 0, 0, 0⟩))
theorem ok_critical : FnOk P w K mg base (L2.CX P w) 3 T._law_critical.a T._law_critical.d ["net"] spLawCrit := by
  refine T._law_critical.f.okX sc__law_critical (fun vs H Q E h => ?_) (fun cdv A outer s0 H vs Q E hr h => ?_)
  · obtain ⟨a, ws, rows, rfl, _⟩ := h
    rfl
  · obtain ⟨a, ws, rows, rfl, ha, rl, l1, hn, l2, hl, k⟩ := h
    have inR : ∀ (sI : Shared) (HI : Hp) (C : Addr) (cl : List (Str × Addr)) (fp : List Addr), PE ((cxOf (L2.CX P w) P w K mg base ["net", "found", "every", "own", "some", "lot", "mate"] "_law_critical" (defScope s__law_critical) T._law_critical.a cdv A outer s0 H E).blk sI HI (lcOf critC) (compEnvC (lcOf critC) cl C (cxOf (L2.CX P w) P w K mg base ["net", "found", "every", "own", "some", "lot", "mate"] "_law_critical" (defScope s__law_critical) T._law_critical.a cdv A outer s0 H E).env) fp) (lcIf critC) (tLc (iRng1 (tCons (tOp (rI0 fun i j => V.int (i + j)) (tVar 3) (tC (.int 1))) tNil)) (gName 6) (tTest (tOp (rIn K true) (tVar 6) (tVar 5))) (tVar 6) [6]) := by
      intro sI HI C cl fp
      refine pe_lc (own := [("mate", 6)]) (g := gName 6) rfl sc__law_critical.nd ?_ ?_ ?_ ?_ ?_
      · exact (pi_range1 (by rfl) T.b_range (pa_cons (pe_op op_add (pv 3) pe_int) pa_nil))
      · exact blkOk_by (N := ["net", "found", "every", "own", "some", "lot", "mate"]) (sc := relS (lcOf critC) (defScope s__law_critical)) (by decide +kernel)
      · exact fun _ _ _ _ _ => pg_name (i := 6) sc__law_critical.nd rfl (Or.inl rfl)
      · exact fun _ _ _ _ _ => pts_one (pt_cmpR (show OpR _ _ (rIn K true) from op_notIn_seq) (pv 6) (pv 5) (by rfl))
      · exact fun _ _ _ _ _ => (pv 6)
    refine ⟨_, (pss_cons (ps_par (i := 1) (j := 2) rfl sc__law_critical.nd rfl rfl (by decide) rfl rfl (pa_cons (pe_lst pa_nil) (pa_cons (pe_call (ok_shut_lots T) (hr.mono (by decide)) (by rfl) T._law_shut_lots.m T._law_shut_lots.f.kp (bd__law_shut_lots T) .nil passE (pa_cons (pv 0) pa_nil)) pa_nil)) (by rfl))
      (pss_cons (ps_for (passes_of rfl) rfl (pi_range1 (by rfl) T.b_range (pa_cons (pe_callB call_len_seq (by rfl) T.b_len PySem.boot_len (pa_cons (pv 0) pa_nil)) pa_nil)) (pg_name (i := 3) sc__law_critical.nd rfl (by first | exact .inl rfl | exact .inr rfl))
        (pss_cons (ps_setLc (i := 4) (own := [("lot", 5)]) (g := (gName 5)) rfl sc__law_critical.nd rfl rfl (sw_true rfl rfl rfl (by decide +kernel)) (pi_list (pv 2)) (blkOk_by (own := [("lot", 5)]) (N := ["net", "found", "every", "own", "some", "lot", "mate"]) (sc := defScope s__law_critical) (by decide +kernel)) (fun _ _ _ _ _ => pg_name (i := 5) sc__law_critical.nd rfl (by first | exact .inl rfl | exact .inr rfl)) (fun _ _ _ _ _ => pts_one (pt_cmpR (show OpR _ _ (rEqD K) from op_eqD hr.units) (inR _ _ _ _ _) (pe_lst pa_nil) (nomark _))) (fun _ _ _ _ _ => (pe_callB (show CallR _ _ (rLen K) from call_len_seq) (by rfl) T.b_len PySem.boot_len (pa_cons (pv 5) pa_nil))))
      (pss_one (ps_expr (pe_bm PySem.F.plainAttrs_list PySem.F.slot_list_append PySem.F.type_list_append mt_append (pv 1) (pa_cons (pe_op op_sub (pe_op op_sub (pe_callB (cr_min rfl) (by rfl) T.b_min (by decide +kernel) (pa_cons (pv 4) pa_nil)) (pv 3)) pe_int) pa_nil))))))
      (pss_one (ps_ret (pe_tup (pa_cons (pe_bm PySem.F.plainAttrs_list PySem.F.slot_list_index PySem.F.type_list_index mt_index (pv 1) (pa_cons (pe_callB (cr_max rfl) (by rfl) T.b_max (by decide +kernel) (pa_cons (pv 1) pa_nil)) pa_nil)) (pa_cons (pe_callB (cr_max rfl) (by rfl) T.b_max (by decide +kernel) (pa_cons (pv 1) pa_nil)) pa_nil))))))), ?_⟩
    have hlen : ws.length = rows.length := rl.1
    refine ⟨(by show 0 ≤ sizeLine; decide), fun f0 hf0 => ?_⟩
    have tf := Same.new (o := .lst []) hf0
    refine ⟨_, rfl, a, ws, rows, rfl, tf _ _ ha, rl.same tf, hn, l2, fun q us ls H1 s1 nq e1 r1 pm => ?_⟩
    have ef0 : H1 f0 = some (.lst []) := s1 _ _ upd_same
    have s01 := tf.trans s1
    have hqf : q ≠ f0 := fun z => by
      rw [z, upd_same] at nq
      cases nq
    have hq0 : H q = none := tf.free nq
    have lsl : ls.length ≤ 1024 := by
      rw [pm.length_eq]
      exact Nat.le_trans (List.length_filter_le _ _) (subs_few hn)
    refine ⟨_, _, rfl, _, rfl, a, ws, rfl, .inl (SqL.of (s01 _ _ ha)), _, rfl, by omega, by omega, ?_⟩
    rw [Int.toNat_natCast]
    refine for_it (walk_rangeN (n := ws.length)) (fun i σ H' => (∃ v3 v4, σ = [some (.ref a), some (.ref f0), some (.ref q), v3, v4, none, none]) ∧ H' f0 = some (.lst (((List.range i).map (excess rows)).map V.int)) ∧ H' q = some (.lst us) ∧ RL NV H' us ls ∧ Same H H') ⟨⟨none, none, rfl⟩, ef0, e1, r1, s01⟩ (fun _ _ _ _ _ => trivial) ?_ ?_
    · rintro i x σ H2' H2 hi ⟨⟨v3, v4, rfl⟩, e2, eq2, r2, s2⟩ ⟨rfl, rfl⟩
      have hi : i < rows.length := by omega
      refine ⟨_, rfl, q, rfl, ⟨_, SqL.of eq2⟩, fun D hD => ?_⟩
      refine lcP (walk_list (K := K) (a := q) (xs := us)) ls (fun s => (List.range (i + 1)).all (inB s)) (fun s => V.int ((s.length : Nat) : Int)) r2.1 hD (fun H' s' => SqL.of (s' _ _ eq2)) (by omega) yAt_same ?_ ?_
      · rintro j x s H4 H3 N R hs s3 ⟨rfl, hx⟩ hy hn'
        obtain ⟨p, s', rfl, es, hp⟩ := r2.get hx
        rw [hs] at es
        cases es
        have hp3 := s3 _ _ hp
        refine ⟨rfl, _, rfl, _, _, rfl, rfl, _, rfl, by omega, by omega, ?_⟩
        rw [show ((i : Nat) : Int) + 1 = ((i + 1 : Nat) : Int) by omega, Int.toNat_natCast]
        intro D2 hD2
        refine lcP (walk_rangeN (n := i + 1)) (List.range (i + 1)) (fun m => !(inB s m)) (fun m : Nat => V.int (m : Int)) (by rw [List.length_range]) hD2 (fun _ _ => trivial) (by rw [List.length_range]; omega) yFn_same ?_ ?_
        · rintro jj y m H6 H5 N2 R2 hm2 s5 ⟨rfl, rfl⟩ ky kn
          obtain ⟨rfl, hml⟩ := range_at hm2
          refine ⟨rfl, _, rfl, _, rfl, p, _, rfl, .inr (SqT.of (s5 _ _ hp3)), rfl, NV_flat s, ?_⟩
          rw [if_pos rfl, inV_NV]
          refine ⟨_, rfl, ?_⟩
          cases c : inB s m with
          | true => exact iteF (kn (by rw [c]; rfl) _ fun _ _ e => e)
          | false => exact iteT ⟨_, rfl, ky (by rw [c]; rfl) _ fun _ _ e => e⟩
        · intro H5 s5 e5
          have e5 : H5 D2 = some (.lst (NV ((List.range (i + 1)).filter fun x => !(inB s x)))) := e5
          refine ⟨(by show 0 ≤ sizeLine; decide), fun z hz => ?_⟩
          have tz := Same.new (o := .lst []) hz
          refine ⟨_, _, dp_int_list (by rw [← NV_ints]; exact tz _ _ e5), dp_nil upd_same, shaped_is _, shaped_nil, _, rfl, ?_⟩
          rw [eqv_ints_nil, List.isEmpty_map, filter_none]
          have s5z := s5.trans tz
          cases c : (List.range (i + 1)).all fun x => inB s x with
          | false => exact iteF (hn' c _ s5z)
          | true =>
            refine iteT ⟨_, rfl, p, _, rfl, .inr (SqT.of (s5z _ _ hp3)), ?_⟩
            rw [NV_len]
            exact hy c _ s5z
      · intro H3 s3 e3
        have e3 : H3 D = some (.lst (((ls.filter fun s => (List.range (i + 1)).all (inB s)).map fun s : List Nat => (s.length : Int)).map V.int)) := by
          rw [e3, List.map_map]
          rfl
        have ne : 0 < ((ls.filter fun s => (List.range (i + 1)).all (inB s)).map fun s : List Nat => (s.length : Int)).length := by
          rw [List.length_map]
          exact List.length_pos_of_mem (List.mem_filter.mpr ⟨pm.mem_iff.mpr (clos_whole (fs := List.range (i + 1)) hl), all_inB.mpr (sub_clos (range_sub hi))⟩)
        refine ⟨_, rfl, .inl ⟨rfl, _, SqL.of (s3 _ _ e2)⟩, _, rfl, D, _, rfl, SqL.of e3, ne, fun m h1 h2 => ?_⟩
        have em := min_clos hl hi pm h1 h2
        refine ⟨_, rfl, _, _, rfl, rfl, _, _, rfl, rfl, f0, _, _, rfl, rfl, s3 _ _ e2, ?_, ⟨_, _, rfl⟩, ?_, ?_, ?_, ?_⟩
        · rw [List.length_map, List.length_map, List.length_range]
          exact Nat.lt_of_lt_of_le (show i < 11 by omega) (by decide)
        · rw [upd_same, List.range_succ, List.map_append, List.map_append]
          show some (HO.lst (_ ++ [V.int (m - (i : Int) - 1)])) = some (HO.lst (_ ++ [V.int (excess rows i)]))
          rw [em]
        · exact (upd_ne hqf).trans (s3 _ _ eq2)
        · exact (r2.same s3).tp (Tp.put (s3 _ _ e2))
        · exact Same.put (s2.trans s3) hf0
    · rintro σ H2 ⟨⟨v3, v4, rfl⟩, e2, eq2, r2, s2⟩
      rw [hlen] at e2
      have e2 : H2 f0 = some (.lst ((exs rows).map V.int)) := e2
      refine ⟨_, rfl, .inl ⟨rfl, _, SqL.of e2⟩, _, rfl, f0, exs rows, rfl, SqL.of e2, by rw [exs_len]; omega, fun m h1 h2 => ?_⟩
      rw [maxI_eq h1 h2]
      have hv : maxI (exs rows) ∈ exs rows := maxI_eq h1 h2 ▸ h1
      dsimp only [tNil]
      refine ix_first (K := K) e2 hv ?_
      refine ⟨_, rfl, f0, exs rows, rfl, SqL.of e2, by rw [exs_len]; omega, fun m' h1' h2' => ?_⟩
      rw [maxI_eq h1' h2']
      refine ⟨(by show 2 ≤ sizeLine; decide), fun t ht => ?_⟩
      exact k t _ (s2.trans (Same.new ht)) upd_same
end
end K45
namespace K45
open PySem PySem.Spec PyProof.Rows L2 PySem.W LamX KA KW KU KL KT
open Evl (pss_cut tCut)
/-! ### what the law makes of a bent web -/
def rounds (rows : List (List Nat)) : Nat → List Nat → List Nat
  | 0, told => told
  | k + 1, told => rounds rows k (told ++ readyL rows told)
theorem rounds_snoc {rows : List (List Nat)} : ∀ (k : Nat) (told : List Nat), rounds rows (k + 1) told = rounds rows k told ++ readyL rows (rounds rows k told)
  | 0, _ => rfl
  | k + 1, told => rounds_snoc k (told ++ readyL rows told)
theorem rounds_ge {rows : List (List Nat)} : ∀ (k : Nat) (told : List Nat), told.length ≤ (rounds rows k told).length
  | 0, _ => Nat.le_refl _
  | k + 1, told => Nat.le_trans (by rw [List.length_append]; omega) (rounds_ge k (told ++ readyL rows told))
theorem rounds_stuck {rows : List (List Nat)} {told : List Nat} (h : readyL rows told = []) : ∀ k, rounds rows k told = told
  | 0 => rfl
  | k + 1 => by
    show rounds rows k (told ++ readyL rows told) = told
    rw [h, List.append_nil]
    exact rounds_stuck h k
theorem runs_rounds {rows : List (List Nat)} : ∀ (k : Nat) (told : List Nat), rows.length ≤ told.length + k → runs rows k told = decide (rows.length ≤ (rounds rows k told).length)
  | 0, told, h => (decide_eq_true (show rows.length ≤ told.length from h)).symm
  | k + 1, told, h => by
    by_cases c : rows.length ≤ told.length
    · rw [runs_done c, decide_eq_true (Nat.le_trans c (rounds_ge _ _))]
    · rw [runs, if_neg c]
      by_cases r : readyL rows told = []
      · rw [if_pos r, rounds_stuck r, decide_eq_false c]
      · rw [if_neg r]
        refine runs_rounds k _ ?_
        have : 0 < (readyL rows told).length := List.length_pos_iff.mpr r
        rw [List.length_append]
        omega
theorem rounds_fine {rows : List (List Nat)} : ∀ (k : Nat) (told : List Nat), told.Nodup → (∀ x ∈ told, x < rows.length) → (rounds rows k told).Nodup ∧ ∀ x ∈ rounds rows k told, x < rows.length
  | 0, _, h1, h2 => ⟨h1, h2⟩
  | k + 1, told, h1, h2 => by
    have mem : ∀ x, x ∈ readyL rows told → x < rows.length ∧ x ∉ told := fun x hx => by
      unfold readyL at hx
      rw [List.mem_filter, List.mem_range, Bool.and_eq_true] at hx
      exact ⟨hx.1, fun q => by rw [inB_iff.mpr q] at hx; exact absurd hx.2.1 (by decide)⟩
    refine rounds_fine k _ ?_ fun x hx => ?_
    · rw [List.nodup_append]
      exact ⟨h1, (asc_nodup (range_asc _)).filter _, fun a ha b hb e => (mem b hb).2 (e ▸ ha)⟩
    · rcases List.mem_append.mp hx with hx | hx
      · exact h2 x hx
      · exact (mem x hx).1
theorem ready_two (rows : List (List Nat)) (told : List Nat) : ((List.range rows.length).filter fun f => !(inB told f)).filter (fun f => (row rows f).all (inB told)) = readyL rows told := by
  unfold readyL
  rw [List.filter_filter]
  exact List.filter_congr fun x _ => Bool.and_comm _ _
def Short (o : Option (List (Option (List V)))) : Prop := ∀ os, o = some os → os.length ≤ 1000 ∧ ∀ xs, some xs ∈ os → xs.length < 60
def spRefusedNet (K : PySem.W.Frag) : Sp := fun vs H Q _ => ∃ x o, vs = [x] ∧ Web K H x o ∧ Short o ∧ ∀ v H', Same H H' → (webV o = .good → v = .non) → (∀ i, webV o = .frame i → v = .int (i : Int)) → (webV o = .whole → v = .str "no list" ∨ v = .str "ring") → Q v H'
def lcRight : Expr → Expr
  | .BinOp _ _ r _ => r
  | e => e
def refC : Expr := lcRight (retOf ((forBody ((defBody s__law_refused_net).getD 3 (.Pass ⟨0, 0, 0, 0⟩))).getD 1 (.Pass ⟨0, 0, 0, 0⟩)))
section
variable {P : Program} {w : World} {K : PySem.W.Frag} {mg : Str → Option Value} {base : Heap} (T : Top K mg)
theorem ok_refused_net : FnOk P w K mg base (L2.CX P w) 4 T._law_refused_net.a T._law_refused_net.d ["item"] (spRefusedNet K) := by
  refine T._law_refused_net.f.okX sc__law_refused_net (fun vs H Q E h => ?_) (fun cdv A outer s0 H vs Q E hr h => ?_)
  · obtain ⟨x, o, rfl, _⟩ := h
    rfl
  · obtain ⟨x, o, rfl, hw, hsh, k⟩ := h
    have inR : ∀ (sI : Shared) (HI : Hp) (C : Addr) (cl : List (Str × Addr)) (fp : List Addr), PE ((cxOf (L2.CX P w) P w K mg base ["item", "own", "lot", "found", "turn", "some", "mate"] "_law_refused_net" (defScope s__law_refused_net) T._law_refused_net.a cdv A outer s0 H E).blk sI HI (lcOf refC) (compEnvC (lcOf refC) cl C (cxOf (L2.CX P w) P w K mg base ["item", "own", "lot", "found", "turn", "some", "mate"] "_law_refused_net" (defScope s__law_refused_net) T._law_refused_net.a cdv A outer s0 H E).env) fp) (lcIf refC) (tLc (iTup K (tOp (rIx K) (tVar 0) (tVar 1))) (gName 6) (tTest (tOp (rIn K true) (tVar 6) (tVar 3))) (tVar 6) [6]) := by
      intro sI HI C cl fp
      refine pe_lc (own := [("mate", 6)]) (g := gName 6) rfl sc__law_refused_net.nd ?_ ?_ ?_ ?_ ?_
      · exact (pi_tup (pe_ix (show IxR _ (rIx K) from ix_seq) (pv 0) (pv 1) (fun _ _ => rfl)))
      · exact blkOk_by (N := ["item", "own", "lot", "found", "turn", "some", "mate"]) (sc := relS (lcOf refC) (defScope s__law_refused_net)) (by decide +kernel)
      · exact fun _ _ _ _ _ => pg_name (i := 6) sc__law_refused_net.nd rfl (Or.inl rfl)
      · exact fun _ _ _ _ _ => pts_one (pt_cmpR (show OpR _ _ (rIn K true) from op_notIn_seq) (pv 6) (pv 3) (by rfl))
      · exact fun _ _ _ _ _ => (pv 6)
    refine ⟨_, (pss_cons (ps_if (PW.pt (pw_or (pt_not (pt_val (pe_callB (show CallR _ _ (rIsiT K) from call_isiT) (by rfl) T.b_isinstance PyProof.Rows.boot_isinstance (pa_cons (pv 0) (pa_cons (pe_tup (pa_cons (pe_bltn (v := .ty "list") (by rfl) T.b_list (by decide +kernel) rfl) (pa_cons (pe_bltn (v := .ty "tuple") (by rfl) T.b_tuple (by decide +kernel) rfl) pa_nil))) pa_nil))))) (pw_or1 (pt_not (pt_chain op_le op_le pe_int (pe_callB call_len_seq (by rfl) T.b_len PySem.boot_len (pa_cons (pv 0) pa_nil)) pe_int))))) (pss_one (ps_ret pe_str)) pss_nil)
      (pss_cons (ps_for (passes_of rfl) rfl (KEN.pi_enumS (by rfl) T.b_enumerate (pa_cons (pv 0) pa_nil)) (pg_tup rfl (pgs_cons (pg_name (i := 1) sc__law_refused_net.nd rfl (by first | exact .inl rfl | exact .inr rfl)) (pgs_cons (pg_name (i := 2) sc__law_refused_net.nd rfl (by first | exact .inl rfl | exact .inr rfl)) pgs_nil)))
        (pss_one (ps_if (PW.pt (pw_or (pt_not (pt_val (pe_call (ok_lis_lot T) (hr.mono (by decide)) (by rfl) T._law_is_lot.m T._law_is_lot.f.kp (bd__law_is_lot T) .nil passE (pa_cons (pv 2) (pa_cons (pe_callB call_len_seq (by rfl) T.b_len PySem.boot_len (pa_cons (pv 0) pa_nil)) pa_nil))))) (pw_or1 (pt_cmpR (show OpR _ _ (rIn K false) from op_in_seq) (pv 1) (pv 2) (by rfl))))) (pss_one (ps_ret (pv 1))) pss_nil)))
      (pss_cons (ps_set (i := 3) sc__law_refused_net.nd rfl (by first | exact .inl rfl | exact .inr rfl) (pe_lst pa_nil))
      (pss_cons (ps_for (passes_of rfl) rfl (KEN.pi_seqS (pv 0)) (pg_name (i := 4) sc__law_refused_net.nd rfl (by first | exact .inl rfl | exact .inr rfl))
        (pss_cons (ps_setLc (i := 5) (own := [("own", 1)]) (g := (gName 1)) rfl sc__law_refused_net.nd rfl rfl (sw_true rfl rfl rfl (by decide +kernel)) (pi_range1 (by rfl) T.b_range (pa_cons (pe_callB call_len_seq (by rfl) T.b_len PySem.boot_len (pa_cons (pv 0) pa_nil)) pa_nil)) (blkOk_by (own := [("own", 1)]) (N := ["item", "own", "lot", "found", "turn", "some", "mate"]) (sc := defScope s__law_refused_net) (by decide +kernel)) (fun _ _ _ _ _ => pg_name (i := 1) sc__law_refused_net.nd rfl (by first | exact .inl rfl | exact .inr rfl)) (fun _ _ _ _ _ => pts_one (pt_cmpR (show OpR _ _ (rIn K true) from op_notIn_seq) (pv 1) (pv 3) (by rfl))) (fun _ _ _ _ _ => (pv 1)))
      (pss_one (ps_set (i := 3) sc__law_refused_net.nd rfl (by first | exact .inl rfl | exact .inr rfl) (pe_op op_cat (pv 3) (pe_lc (own := [("own", 1)]) (g := (gName 1)) rfl sc__law_refused_net.nd (pi_list (pv 5)) (blkOk_by (own := [("own", 1)]) (N := ["item", "own", "lot", "found", "turn", "some", "mate"]) (sc := defScope s__law_refused_net) (by decide +kernel)) (fun _ _ _ _ _ => pg_name (i := 1) sc__law_refused_net.nd rfl (by first | exact .inl rfl | exact .inr rfl)) (fun _ _ _ _ _ => pts_one (pt_cmpR (show OpR _ _ (rEqD K) from op_eqD hr.units) (inR _ _ _ _ _) (pe_lst pa_nil) (nomark _))) (fun _ _ _ _ _ => (pv 1))))))))
      (pss_one (ps_ret (pe_ifExp (pt_cmpR op_eq (pe_callB call_len_seq (by rfl) T.b_len PySem.boot_len (pa_cons (pv 3) pa_nil)) (pe_callB call_len_seq (by rfl) T.b_len PySem.boot_len (pa_cons (pv 0) pa_nil)) (nomark _)) pe_non pe_str))))))), ?_⟩
    refine ⟨_, rfl, (by show 2 ≤ sizeLine; decide), fun z hz => ?_⟩
    have tz := Same.new (o := .tup [V.ty "list", .ty "tuple"]) hz
    cases hw with
    | @no x hn =>
      obtain ⟨t, ht, kt⟩ := (hn.keep tz).ty (K := K)
      refine ⟨x, z, _, _, _, _, rfl, upd_same, .cons (.ty "list") (.cons (.ty "tuple") .nil), ht, kt, _, rfl, ?_⟩
      exact iteT (iteT (k _ _ tz (fun q => nomatch q) (fun i q => nomatch q) fun _ => .inl rfl))
    | @some a ws os ha rl =>
    have hlen : ws.length = os.length := rl.1
    obtain ⟨hsl, hsh⟩ := hsh os rfl
    obtain ⟨t, ht, kt⟩ : ∃ t, TyX K (upd H z (.tup [V.ty "list", .ty "tuple"])) (.ref a) (.type t) ∧ PySem.W.kitAny K (.type t) [.type "list", .type "tuple"] = some true := by
      rcases ha with ha | ha
      · exact ⟨_, .base (.lst (tz _ _ ha)), kit_two (x := true) (y := false) (by decide +kernel) (by decide +kernel)⟩
      · exact ⟨_, .base (.tup (tz _ _ ha)), kit_two (x := false) (y := true) (by decide +kernel) (by decide +kernel)⟩
    refine ⟨.ref a, z, _, _, _, _, rfl, upd_same, .cons (.ty "list") (.cons (.ty "tuple") .nil), ht, kt, _, rfl, iteF ⟨_, rfl, a, ws, rfl, ha.imp (fun e => SqL.of (tz _ _ e)) (fun e => SqT.of (tz _ _ e)), 1, ((ws.length : Nat) : Int), rfl, rfl, _, rfl, ?_⟩⟩
    clear ht kt t
    generalize upd H z (.tup [V.ty "list", .ty "tuple"]) = Hz at tz
    have few : ¬ (1 ≤ os.length ∧ os.length ≤ 10) → ∀ H', Same H H' → Q (.str "no list") H' := fun q H' s' => by
      have e : webV (some os) = .whole := by
        show (if ¬ (1 ≤ os.length ∧ os.length ≤ 10) then At.whole else _) = _
        rw [if_pos q]
      exact k _ _ s' (fun q => by rw [e] at q; cases q) (fun i q => by rw [e] at q; cases q) fun _ => .inl rfl
    by_cases c1 : (1 : Int) ≤ ((ws.length : Nat) : Int)
    case neg =>
      rw [decide_eq_false c1]
      exact iteF ⟨_, rfl, iteT (few (by omega) _ tz)⟩
    rw [decide_eq_true c1]
    refine iteT ⟨((ws.length : Nat) : Int), 10, rfl, rfl, _, rfl, ?_⟩
    by_cases c2 : ((ws.length : Nat) : Int) ≤ 10
    case neg =>
      rw [decide_eq_false c2]
      exact iteT (few (by omega) _ tz)
    rw [decide_eq_true c2]
    clear few
    have nn : 1 ≤ os.length ∧ os.length ≤ 10 := ⟨by omega, by omega⟩
    have ans : webV (some os) = match (List.range os.length).find? (badV os) with
        | some i => At.frame i
        | none => if runs (rowsOf os) os.length [] = true then .good else .whole := by
      show (if ¬ (1 ≤ os.length ∧ os.length ≤ 10) then At.whole else _) = _
      rw [if_neg (fun q => q nn)]
      all_goals (cases (List.range os.length).find? (badV os) <;> rfl)
    refine iteF ⟨_, rfl, a, ws, rfl, ha.imp (fun e => SqL.of (tz _ _ e)) (fun e => SqT.of (tz _ _ e)), fun J G wk hG => for_it wk (fun i σ H' => (∃ v1 v2, σ = [some (.ref a), v1, v2, none, none, none, none]) ∧ Same Hz H' ∧ ∀ j, j < i → badV os j = false) ⟨⟨none, none, rfl⟩, fun _ _ e => e, fun j hj => absurd hj (Nat.not_lt_zero _)⟩ (fun i σ H' _ p => hG H' p.2.1) ?_ ?_⟩
    · rintro i x σ Hq Hr hi ⟨⟨v1, v2, rfl⟩, sq, hb⟩ ⟨T', x1, y1, rfl, hT, rfl, h1, h2⟩
      cases h1
      have rq := rl.keep (tz.trans sq)
      obtain ⟨o, eo, hv⟩ := rq.2 _ _ h2
      have tT := Same.new (o := .tup [V.int ((i : Nat) : Int), y1]) hT
      have hi' : i < os.length := hlen ▸ hi
      have ern : okV os i = o := okV_at eo
      refine ⟨T', _, rfl, SqT.of upd_same, rfl, _, _, rfl, _, _, rfl, rfl, ?_⟩
      have tq := (tz.trans sq).trans tT
      refine ⟨_, rfl, _, rfl, a, ws, rfl, ha.imp (fun e => SqL.of (tq _ _ e)) (fun e => SqT.of (tq _ _ e)), y1, o, os.length, by rw [hlen]; rfl, hv.keep tT, fun xs e => hsh xs (e ▸ List.mem_of_getElem? eo), fun H2 s2 => ⟨_, rfl, ?_⟩⟩
      have s02 : Same H H2 := tq.trans s2
      have bad : badV os i = true → Q (.int (i : Int)) H2 := fun z => by
        have e : webV (some os) = .frame i := by rw [ans, find_range _ hi' z hb]
        exact k _ _ s02 (fun q => by rw [e] at q; cases q) (fun j q => by rw [e] at q; injection q with q; rw [q]) fun q => by rw [e] at q; cases q
      cases hc : lotV os.length o with
      | false => exact iteT (iteT ⟨_, rfl, bad (by unfold badV; rw [ern, hc]; rfl)⟩)
      | true =>
        obtain ⟨ns, rfl, en, hns⟩ := lotV_nv hc
        obtain ⟨p, rfl, hp⟩ : ∃ p, y1 = .ref p ∧ Hq p = some (.tup (NV ns)) := by
          cases hv with
          | tup e p l => exact ⟨_, rfl, e⟩
        refine iteF ⟨_, rfl, _, rfl, p, _, rfl, .inr (SqT.of (s2 _ _ (tT _ _ hp))), rfl, NV_flat ns, ?_⟩
        rw [if_neg Bool.false_ne_true, inV_NV]
        refine ⟨_, rfl, ?_⟩
        cases ho : inB ns i with
        | true => exact iteT ⟨_, rfl, bad (by unfold badV; rw [ern, hc, en, ho]; rfl)⟩
        | false =>
          refine iteF ⟨⟨_, _, rfl⟩, (sq.trans tT).trans s2, fun j hj => ?_⟩
          by_cases ej : j = i
          · subst ej
            unfold badV
            rw [ern, hc, en, ho]
            rfl
          · exact hb j (by omega)
    · rintro σ H1 ⟨⟨v1, v2, rfl⟩, s1, hb⟩
      rw [hlen] at hb
      have fn : (List.range os.length).find? (badV os) = none := List.find?_eq_none.mpr fun j hj => by
        rw [hb j (List.mem_range.mp hj)]
        exact Bool.false_ne_true
      rw [fn] at ans
      have rlr := rl.rl (n := os.length) fun j hj => by
        have := hb j hj
        unfold badV at this
        rw [Bool.or_eq_false_iff] at this
        simpa using this.1
      have el : (rowsOf os).length = os.length := List.length_map _
      have ans : webV (some os) = if runs (rowsOf os) (rowsOf os).length [] = true then .good else .whole := by rw [el]; exact ans
      have nn : (rowsOf os).length ≤ 10 := by omega
      have hlen : ws.length = (rowsOf os).length := hlen.trans el.symm
      generalize rowsOf os = rows at rlr ans nn hlen
      obtain ⟨rl, l2⟩ := rlr
      rw [runs_rounds _ _ (by show rows.length ≤ 0 + rows.length; omega)] at ans
      have s01 : Same H H1 := tz.trans s1
      refine ⟨(by show 0 ≤ sizeLine; decide), fun f0 hf0 => ?_⟩
      have tf := Same.new (o := .lst []) hf0
      have sf := s01.trans tf
      refine ⟨_, rfl, a, ws, rfl, ha.imp (fun e => SqL.of (sf _ _ e)) (fun e => SqT.of (sf _ _ e)), fun J G wk hG => for_it wk (fun i σ H' => (∃ v1 v2 f v4 v5, σ = [some (.ref a), v1, v2, some (.ref f), v4, v5, none] ∧ H' f = some (.lst (NV (rounds rows i [])))) ∧ Same H H' ∧ Same (upd H1 f0 (.lst [])) H') ⟨⟨v1, v2, f0, none, none, rfl, upd_same⟩, sf, fun _ _ e => e⟩ (fun i σ H' _ p => hG H' p.2.2) ?_ ?_⟩
      · rintro i x σ H3' H3 hi ⟨⟨v1, v2, f, v4, v5, rfl, ef⟩, s3, s3'⟩ ⟨rfl, hx⟩
        have fine := rounds_fine (rows := rows) i [] .nil (fun x hx => nomatch hx)
        have hc := nodup_count fine.1 fine.2
        rw [rounds_snoc]
        generalize rounds rows i [] = told at ef fine hc
        refine ⟨_, rfl, a, ws, rfl, ha.imp (fun e => SqL.of (s3 _ _ e)) (fun e => SqT.of (s3 _ _ e)), _, rfl, by omega, by omega, ?_⟩
        rw [Int.toNat_natCast]
        intro D hD
        refine lcP (walk_rangeN (n := ws.length)) (List.range rows.length) (fun m => !(inB told m)) (fun m : Nat => V.int (m : Int)) (by rw [List.length_range, hlen]) hD (fun _ _ => trivial) (by rw [List.length_range]; omega) yFn_same ?_ ?_
        · rintro j x m H5 H4 N R hm s4 ⟨rfl, rfl⟩ hy hn'
          obtain ⟨rfl, hml⟩ := range_at hm
          refine ⟨rfl, _, rfl, _, rfl, f, _, rfl, .inl (SqL.of (s4 _ _ ef)), rfl, NV_flat told, ?_⟩
          rw [if_pos rfl, inV_NV]
          refine ⟨_, rfl, ?_⟩
          cases c : inB told m with
          | true => exact iteF (hn' (by rw [c]; rfl) _ fun _ _ e => e)
          | false => exact iteT ⟨_, rfl, hy (by rw [c]; rfl) _ fun _ _ e => e⟩
        · intro H4 s4 e4
          have e4 : H4 D = some (.lst (NV ((List.range rows.length).filter fun m => !(inB told m)))) := e4
          have sl : ((List.range rows.length).filter fun m => !(inB told m)).length ≤ 10 := Nat.le_trans (List.length_filter_le _ _) (by rw [List.length_range]; exact nn)
          have slt : ∀ m ∈ (List.range rows.length).filter fun m => !(inB told m), m < rows.length := fun m hm => List.mem_range.mp (List.mem_filter.mp hm).1
          rw [← ready_two]
          generalize (List.range rows.length).filter (fun m => !(inB told m)) = sm at e4 sl slt
          have ef4 := s4 _ _ ef
          have s34 := s3.trans s4
          refine ⟨_, rfl, _, rfl, D, rfl, ⟨_, SqL.of e4⟩, fun D2 hD2 => ?_⟩
          refine lcP (walk_list (K := K) (a := D) (xs := NV sm)) sm (fun f => (row rows f).all (inB told)) (fun m : Nat => V.int (m : Int)) (NV_len sm) hD2 (fun H' s' => SqL.of (s' _ _ e4)) (by omega) yAt_same ?_ ?_
          · rintro j x m H6 H5 N R hm s5 ⟨rfl, hx⟩ hy hn'
            rw [NV_get hm] at hx
            cases hx
            have lm := slt m (List.mem_of_getElem? hm)
            have s35 := s34.trans s5
            obtain ⟨p, ep, hp⟩ := (rl.same (show Same H H5 from s35)).at_ (row_at lm)
            have lr := l2 _ (List.mem_of_getElem? (row_at lm))
            refine ⟨rfl, _, rfl, _, rfl, ix_either (K := K) (ha.imp (s35 _ _) (s35 _ _)) ep ⟨p, rfl, ⟨_, SqT.of hp⟩, fun D3 hD3 => ?_⟩⟩
            refine lcP (walk_tup (K := K) (a := p) (xs := NV (row rows m))) (row rows m) (fun x => !(inB told x)) (fun f : Nat => V.int (f : Int)) (NV_len _) hD3 (fun H' s' => SqT.of (s' _ _ hp)) (Nat.le_trans lr (by decide)) yAt_same ?_ ?_
            · rintro jj y n H8 H7 N2 R2 hn2 s7 ⟨rfl, hx2⟩ ky kn
              rw [NV_get hn2] at hx2
              cases hx2
              refine ⟨rfl, _, rfl, _, rfl, f, _, rfl, .inl (SqL.of (s7 _ _ (s5 _ _ ef4))), rfl, NV_flat told, ?_⟩
              rw [if_pos rfl, inV_NV]
              refine ⟨_, rfl, ?_⟩
              cases c : inB told n with
              | true => exact iteF (kn (by rw [c]; rfl) _ fun _ _ e => e)
              | false => exact iteT ⟨_, rfl, ky (by rw [c]; rfl) _ fun _ _ e => e⟩
            · intro H7 s7 e7
              have e7 : H7 D3 = some (.lst (NV ((row rows m).filter fun x => !(inB told x)))) := e7
              refine ⟨(by show 0 ≤ sizeLine; decide), fun z hz => ?_⟩
              have t8 := Same.new (o := .lst []) hz
              refine ⟨_, _, dp_int_list (by rw [← NV_ints]; exact t8 _ _ e7), dp_nil upd_same, shaped_is _, shaped_nil, _, rfl, ?_⟩
              rw [eqv_ints_nil, List.isEmpty_map, filter_none]
              have s7z := s7.trans t8
              cases c : (row rows m).all fun x => inB told x with
              | false => exact iteF (hn' c _ s7z)
              | true => exact iteT ⟨_, rfl, hy c _ s7z⟩
          · intro H5 s5 e5
            have e5 : H5 D2 = some (.lst (NV (sm.filter fun f => (row rows f).all (inB told)))) := e5
            have fl := Nat.le_trans (List.length_filter_le (fun f => (row rows f).all (inB told)) sm) sl
            refine ⟨f, D2, _, _, rfl, rfl, s5 _ _ ef4, e5, ?_, fun r hr => ?_⟩
            · rw [NV_len, NV_len]
              exact Nat.le_trans (show _ ≤ 2000 by omega) (by decide)
            have tr := Same.new (o := .lst (NV told ++ NV (sm.filter fun f => (row rows f).all (inB told)))) hr
            refine ⟨⟨_, _, r, _, _, rfl, ?_⟩, (s34.trans s5).trans tr, ((s3'.trans s4).trans s5).trans tr⟩
            rw [upd_same]
            unfold NV
            rw [List.map_append]
      · rintro σ H3 ⟨⟨v1, v2, f, v4, v5, rfl, ef⟩, s3, s3'⟩
        rw [hlen] at ef
        have fine := rounds_fine (rows := rows) rows.length [] .nil (fun x hx => nomatch hx)
        have hc := nodup_count fine.1 fine.2
        refine ⟨_, rfl, f, _, rfl, .inl (SqL.of ef), _, rfl, a, ws, rfl, ha.imp (fun e => SqL.of (s3 _ _ e)) (fun e => SqT.of (s3 _ _ e)), rfl, _, rfl, ?_⟩
        rw [NV_len, dec_int, hlen]
        by_cases c : rows.length ≤ (rounds rows rows.length []).length
        · rw [decide_eq_true c, if_pos rfl] at ans
          rw [show ((((rounds rows rows.length []).length : Nat) : Int) == ((rows.length : Nat) : Int)) = true from beq_iff_eq.mpr (by omega)]
          exact iteT (k _ _ s3 (fun _ => rfl) (fun i q => by rw [ans] at q; cases q) fun q => by rw [ans] at q; cases q)
        · rw [decide_eq_false c, if_neg Bool.false_ne_true] at ans
          rw [show ((((rounds rows rows.length []).length : Nat) : Int) == ((rows.length : Nat) : Int)) = false from beq_eq_false_iff_ne.mpr (by omega)]
          exact iteF (k _ _ s3 (fun q => by rw [ans] at q; cases q) (fun i q => by rw [ans] at q; cases q) fun _ => .inr rfl)
end
end K45
namespace K45
open PySem PySem.Spec PyProof.Rows L2 PySem.W LamX KA KW KU KL KT
open Evl (pss_cut tCut)
/-! ### odd webs, whatever is drawn behind them -/
def Rq (st lg : Addr) (K : PySem.W.Frag) (H : Hp) (v : V) (o : Option (List V)) : Prop := (∀ H', KpN st lg H H' → Rv K H' v o) ∧ ∀ xs, o = some xs → xs.length < 60
def Rqs (st lg : Addr) (K : PySem.W.Frag) (H : Hp) (ws : List V) (os : List (Option (List V))) : Prop := ws.length = os.length ∧ ∀ (i : Nat) (v : V), ws[i]? = some v → ∃ o, os[i]? = some o ∧ Rq st lg K H v o
def Wq (st lg : Addr) (K : PySem.W.Frag) (H : Hp) (x : V) (o : Option (List (Option (List V)))) : Prop := (∀ H', KpN st lg H H' → Web K H' x o) ∧ Short o
section
variable {st lg : Addr} {K : PySem.W.Frag} {H H' : Hp}
theorem Rq.mono {v : V} {o : Option (List V)} (h : Rq st lg K H v o) (k : KpN st lg H H') : Rq st lg K H' v o := ⟨fun H2 k2 => h.1 H2 (k.trans k2), h.2⟩
theorem Rqs.mono {ws : List V} {os : List (Option (List V))} (h : Rqs st lg K H ws os) (k : KpN st lg H H') : Rqs st lg K H' ws os := ⟨h.1, fun i v e => (h.2 i v e).imp fun o q => ⟨q.1, q.2.mono k⟩⟩
theorem Wq.mono {x : V} {o : Option (List (Option (List V)))} (h : Wq st lg K H x o) (k : KpN st lg H H') : Wq st lg K H' x o := ⟨fun H2 k2 => h.1 H2 (k.trans k2), h.2⟩
theorem Wq.now {x : V} {o : Option (List (Option (List V)))} (h : Wq st lg K H x o) : Web K H x o := h.1 H .refl
theorem KpN.same (s : Same H H') : KpN st lg H H' := .kp (.same s)
theorem KpN.lst (k : KpN st lg H H') {a : Addr} {xs : List V} (n : a ≠ st ∧ a ≠ lg) (e : H a = some (.lst xs)) : H' a = some (.lst xs) := k a _ e n.1 n.2 fun ps z => by cases z
theorem KpN.tup (k : KpN st lg H H') {a : Addr} {xs : List V} (n : a ≠ st ∧ a ≠ lg) (e : H a = some (.tup xs)) : H' a = some (.tup xs) := k a _ e n.1 n.2 fun ps z => by cases z
theorem KpN.dK (k : KpN st lg H H') {a : Addr} {xs : List (Key × V)} (n : a ≠ st ∧ a ≠ lg) (e : H a = some (.dK xs)) : H' a = some (.dK xs) := k a _ e n.1 n.2 fun ps z => by cases z
theorem Rq.flat {x : V} (h : Fl x) : Rq st lg K H x none := ⟨fun H' _ => .no (by cases h with | int i => exact .int i | bl i => exact .bl i | str i _ => exact .str i | non => exact .non), fun xs e => nomatch e⟩
theorem Rq.tup {a : Addr} {xs : List V} (n : a ≠ st ∧ a ≠ lg) (e : H a = some (.tup xs)) (p : ∀ x ∈ xs, Fl x) (l : xs.length < 60) : Rq st lg K H (.ref a) (some xs) := ⟨fun H' k => .tup (k.tup n e) p (by omega), fun ys q => by cases q; exact l⟩
theorem Rq.lst {a : Addr} {xs : List V} (n : a ≠ st ∧ a ≠ lg) (e : H a = some (.lst xs)) : Rq st lg K H (.ref a) none := ⟨fun H' k => .no (.lst (k.lst n e)), fun xs e => nomatch e⟩
theorem Rqs.rvs {ws : List V} {os : List (Option (List V))} (h : Rqs st lg K H ws os) (k : KpN st lg H H') : Rvs K H' ws os := ⟨h.1, fun i v e => (h.2 i v e).imp fun o q => ⟨q.1, q.2.1 H' k⟩⟩
theorem Rqs.short {ws : List V} {os : List (Option (List V))} (h : Rqs st lg K H ws os) (l : os.length ≤ 1000) : Short (some os) := fun os' e => by
  cases e
  refine ⟨l, fun xs hx => ?_⟩
  obtain ⟨i, hi⟩ := List.getElem?_of_mem hx
  obtain ⟨v, hv⟩ : ∃ v, ws[i]? = some v := ⟨_, List.getElem?_eq_getElem (h.1 ▸ (List.getElem?_eq_some_iff.mp hi).1)⟩
  obtain ⟨o, eo, q⟩ := h.2 i v hv
  rw [hi] at eo
  cases eo
  exact q.2 xs rfl
theorem Wq.lst {a : Addr} {ws : List V} {os : List (Option (List V))} (n : a ≠ st ∧ a ≠ lg) (e : H a = some (.lst ws)) (h : Rqs st lg K H ws os) (l : os.length ≤ 1000) : Wq st lg K H (.ref a) (some os) := ⟨fun H' k => .some (.inl (k.lst n e)) (h.rvs k), h.short l⟩
theorem Wq.tup {a : Addr} {ws : List V} {os : List (Option (List V))} (n : a ≠ st ∧ a ≠ lg) (e : H a = some (.tup ws)) (h : Rqs st lg K H ws os) (l : os.length ≤ 1000) : Wq st lg K H (.ref a) (some os) := ⟨fun H' k => .some (.inr (k.tup n e)) (h.rvs k), h.short l⟩
theorem Wq.flat {x : V} (h : Fl x) : Wq st lg K H x none := ⟨fun H' _ => .no (by cases h with | int i => exact .int i | bl i => exact .bl i | str i _ => exact .str i | non => exact .non), fun os e => nomatch e⟩
theorem Wq.dK {a : Addr} {kvs : List (Key × V)} (n : a ≠ st ∧ a ≠ lg) (e : H a = some (.dK kvs)) : Wq st lg K H (.ref a) none := ⟨fun H' k => .no (.dK (k.dK n e)), fun os e => nomatch e⟩
theorem Rqs.nil : Rqs st lg K H [] [] := ⟨rfl, fun i v h => by simp at h⟩
theorem Rqs.cons {v : V} {o : Option (List V)} {ws : List V} {os : List (Option (List V))} (h : Rq st lg K H v o) (r : Rqs st lg K H ws os) : Rqs st lg K H (v :: ws) (o :: os) := ⟨by simp [r.1], fun i u e => by
  cases i with
  | zero =>
    have : v = u := by simpa using e
    subst this
    exact ⟨o, rfl, h⟩
  | succ i => exact r.2 i u (by simpa using e)⟩
theorem Rqs.append {ws us : List V} {os ps : List (Option (List V))} (r : Rqs st lg K H ws os) (q : Rqs st lg K H us ps) : Rqs st lg K H (ws ++ us) (os ++ ps) := ⟨by rw [List.length_append, List.length_append, r.1, q.1], fun i v h => by
  by_cases c : i < ws.length
  · rw [List.getElem?_append_left c] at h
    obtain ⟨o, e, z⟩ := r.2 i v h
    exact ⟨o, by rw [List.getElem?_append_left (r.1 ▸ c)]; exact e, z⟩
  · rw [List.getElem?_append_right (by omega)] at h
    obtain ⟨o, e, z⟩ := q.2 _ v h
    have := r.1
    exact ⟨o, by rw [List.getElem?_append_right (by omega), ← this]; exact e, z⟩⟩
theorem Rqs.set {v : V} {o : Option (List V)} {ws : List V} {os : List (Option (List V))} {j : Nat} (r : Rqs st lg K H ws os) (h : Rq st lg K H v o) : Rqs st lg K H (ws.set j v) (os.set j o) := ⟨by rw [List.length_set, List.length_set]; exact r.1, fun i u e => by
  rw [List.getElem?_set] at e
  by_cases c : j = i
  · rw [if_pos c] at e
    by_cases l : j < ws.length
    · rw [if_pos l] at e
      cases e
      refine ⟨o, ?_, h⟩
      rw [List.getElem?_set, if_pos c, if_pos (r.1 ▸ l)]
    · rw [if_neg l] at e
      cases e
  · rw [if_neg c] at e
    obtain ⟨o', e', z⟩ := r.2 i u e
    refine ⟨o', ?_, z⟩
    rw [List.getElem?_set, if_neg c]
    exact e'⟩
theorem Rqs.rl {cl : Addr} {m : Nat} {ws : List V} {rows : List (List Nat)} (S : StAt H st lg cl m) (r : RL NV H ws rows) (l : ∀ x ∈ rows, x.length < 60) : Rqs st lg K H ws (rows.map fun r => some (NV r)) := ⟨by rw [List.length_map]; exact r.1, fun i v e => by
  obtain ⟨p, ns, rfl, en, hp⟩ := r.get e
  refine ⟨some (NV ns), by rw [List.getElem?_map, en]; rfl, .tup (off_tup S hp) hp (fun x hx => ?_) (by rw [NV_len]; exact l _ (List.mem_of_getElem? en))⟩
  obtain ⟨n, _, rfl⟩ := List.mem_map.mp hx
  exact .int n⟩
end
def spOdd (K : PySem.W.Frag) : Sp := fun vs H Q _ => ∃ (st lg cl : Addr) (m : Nat), vs = [.ref st] ∧ m ≤ 999999 ∧ StAt H st lg cl m ∧
  ∀ (x : V) (o : Option (List (Option (List V)))) (H' : Hp), Wq st lg K H' x o → StAt H' st lg cl (m + 1) → Kp st lg H H' → Q x H'
theorem off1 {x : V} (h : Fl x) : ∀ y ∈ [x], Fl y := fun y hy => by rw [List.mem_singleton.mp hy]; exact h
section
variable {P : Program} {w : World} {K : PySem.W.Frag} {mg : Str → Option Value} {base : Heap} (T : Top K mg)
theorem ok_odd : FnOk P w K mg base (L2.CX P w) 3 T._law_odd.a T._law_odd.d ["state"] (spOdd K) := by
  refine T._law_odd.f.okX sc__law_odd (fun vs H Q E h => ?_) (fun cdv A outer s H vs Q E hr h => ?_)
  · obtain ⟨st, lg, cl, m, rfl, _⟩ := h
    rfl
  · obtain ⟨st, lg, cl, m, rfl, hm, S, k⟩ := h
    refine ⟨_, (pss_one (ps_ret (pe_call (ok_pick T) (hr.mono (by decide)) (by rfl) T._law_pick.m T._law_pick.f.kp (bd__law_pick T) .nil passE (pa_cons (pv 0) (pa_cons (pe_lst (pa_cons pe_non (pa_cons pe_bl (pa_cons pe_bl (pa_cons pe_str (pa_cons pe_str (pa_cons (pe_lst pa_nil) (pa_cons pe_dnewK (pa_cons (pe_tup (pa_cons pe_non pa_nil)) (pa_cons (pe_tup (pa_cons pe_str (pa_cons pe_int pa_nil))) (pa_cons (pe_lst (pa_cons (pe_lst (pa_cons pe_int pa_nil)) pa_nil)) (pa_cons (pe_disp (pps_cons pe_int pe_int pps_nil) (by rfl) (by rfl) (fun z => by cases z) (by decide)) (pa_cons (pe_tup (pa_cons pe_bl pa_nil)) pa_nil))))))))))))) pa_nil))))), ?_⟩
    refine ⟨_, rfl, ⟨(by show 0 ≤ sizeLine; decide), fun p1 h1 => ?_⟩⟩
    intro p2 h2
    refine ⟨(by show 1 ≤ sizeLine; decide), fun p3 h3 => ⟨(by show 2 ≤ sizeLine; decide), fun p4 h4 => ⟨(by show 1 ≤ sizeLine; decide), fun p5 h5 => ⟨(by show 1 ≤ sizeLine; decide), fun p6 h6 => ?_⟩⟩⟩⟩
    intro p7 h7
    refine ⟨upd_same, [(.inl 0, .int 0)], rfl, (by decide), ?_⟩
    have s1 := Same.new (o := .lst []) h1
    have s2 := Same.new (o := .dK []) h2
    have s3 := Same.new (o := .tup [.non]) h3
    have s4 := Same.new (o := .tup [.str "a", .int 1]) h4
    have s5 := Same.new (o := .lst [.int 0]) h5
    have s6 := Same.new (o := .lst [.ref p5]) h6
    rw [upd_upd]
    have s7 := Same.new (o := .dK (mergeK [] [(.inl 0, V.int 0)])) h7
    refine ⟨(by show 1 ≤ sizeLine; decide), fun p8 h8 => ⟨(by show 12 ≤ sizeLine; decide), fun p9 h9 => ?_⟩⟩
    have s8 := Same.new (o := .tup [.bl true]) h8
    have s9 := Same.new (o := .lst [.non, .bl true, .bl false, .str "0", .str "", .ref p1, .ref p2, .ref p3, .ref p4, .ref p6, .ref p7, .ref p8]) h9
    have S1 := S.same s1
    have S2 := S1.same s2
    have S3 := S2.same s3
    have S4 := S3.same s4
    have S5 := S4.same s5
    have S6 := S5.same s6
    have S7 := S6.same s7
    have S8 := S7.same s8
    have S9 := S8.same s9
    refine ⟨st, lg, cl, p9, _, m, rfl, upd_same, (S8.off h9).2, (by show 0 < 12; decide), (by show 12 ≤ 1000; decide), by omega, S9, fun x H2 hx S' kp => ?_⟩
    have t8 := s9
    have t7 := s8.trans t8
    have t6 := s7.trans t7
    have t5 := s6.trans t6
    have t4 := s5.trans t5
    have t3 := s4.trans t4
    have t2 := s3.trans t3
    have t1 := s2.trans t2
    have e1 := kp p1 _ (t1 _ _ upd_same) (S.off h1).1 (S.off h1).2
    have e2 := kp p2 _ (t2 _ _ upd_same) (S1.off h2).1 (S1.off h2).2
    have e3 := kp p3 _ (t3 _ _ upd_same) (S2.off h3).1 (S2.off h3).2
    have e4 := kp p4 _ (t4 _ _ upd_same) (S3.off h4).1 (S3.off h4).2
    have e5 := kp p5 _ (t5 _ _ upd_same) (S4.off h5).1 (S4.off h5).2
    have e6 := kp p6 _ (t6 _ _ upd_same) (S5.off h6).1 (S5.off h6).2
    have e7 := kp p7 _ (t7 _ _ upd_same) (S6.off h7).1 (S6.off h7).2
    have e8 := kp p8 _ (t8 _ _ upd_same) (S7.off h8).1 (S7.off h8).2
    have kk : Kp st lg H H2 := (Kp.same (s1.trans t1)).trans kp
    simp only [List.mem_cons, List.not_mem_nil, or_false] at hx
    rcases hx with h | h | h | h | h | h | h | h | h | h | h | h <;> subst h
    · exact k _ _ _ (.flat .non) S' kk
    · exact k _ _ _ (.flat (.bl true)) S' kk
    · exact k _ _ _ (.flat (.bl false)) S' kk
    · exact k _ _ _ (.flat (.str "0" (by decide +kernel))) S' kk
    · exact k _ _ _ (.flat (.str "" (by decide +kernel))) S' kk
    · exact k _ _ _ (.lst (S.off h1) e1 .nil (by decide)) S' kk
    · exact k _ _ _ (.dK (S1.off h2) e2) S' kk
    · exact k _ _ _ (.tup (S2.off h3) e3 (.cons (.flat .non) .nil) (by show 1 ≤ _; decide)) S' kk
    · exact k _ _ _ (.tup (S3.off h4) e4 (.cons (.flat (.str "a" (by decide +kernel))) (.cons (.flat (.int 1)) .nil)) (by show 2 ≤ _; decide)) S' kk
    · exact k _ _ _ (.lst (S5.off h6) e6 (.cons (.lst (S4.off h5) e5) .nil) (by show 1 ≤ _; decide)) S' kk
    · exact k _ _ _ (.dK (S6.off h7) e7) S' kk
    · exact k _ _ _ (.tup (S7.off h8) e8 (.cons (.flat (.bl true)) .nil) (by show 1 ≤ _; decide)) S' kk
end
end K45
namespace K45
open PySem PySem.Spec PyProof.Rows L2 PySem.W LamX KA KW KU KL KT
open Evl (pss_cut tCut)
/-! ### bent webs -/
def spBent (K : PySem.W.Frag) : Sp := fun vs H Q _ => ∃ (st lg cl a : Addr) (ws : List V) (rows : List (List Nat)) (m : Nat), vs = [.ref st, .ref a] ∧ H a = some (.lst ws) ∧ a ≠ st ∧ a ≠ lg ∧ RL NV H ws rows ∧ 1 ≤ rows.length ∧ rows.length ≤ 5 ∧ (∀ r ∈ rows, r.length ≤ 10) ∧ m ≤ 900000 ∧ StAt H st lg cl m ∧
  ∀ (x : V) (o : Option (List (Option (List V)))) (H' : Hp), Wq st lg K H' x o → StAt H' st lg cl (m + 10) → Kp st lg H H' → Q x H'
theorem eqi {i j : Int} : decide (V.int i = V.int j) = (i == j) := dec_int
theorem new_at {H : Hp} {a : Addr} {o : HO} (_ : H a = none) : (upd H a o) a = some o := upd_same
theorem ixN_last {n : Nat} (h : 0 < n) : ixN n (-1) = some (n - 1) := by
  unfold ixN
  simp
  omega
theorem off2 {x y : V} (h : Fl x) (g : Fl y) : ∀ z ∈ [x, y], Fl z := fun z hz => by
  rcases List.mem_cons.mp hz with e | hz
  · rw [e]; exact h
  · rw [List.mem_singleton.mp hz]; exact g
theorem Rqs.rep {st lg : Addr} {K : PySem.W.Frag} {H : Hp} {v : V} {o : Option (List V)} (h : Rq st lg K H v o) : ∀ n, Rqs st lg K H (List.replicate n v) (List.replicate n o)
  | 0 => .nil
  | n + 1 => by
    rw [List.replicate_succ, List.replicate_succ]
    exact .cons h (.rep h n)
section
variable {P : Program} {w : World} {K : PySem.W.Frag} {mg : Str → Option Value} {base : Heap} (T : Top K mg)
theorem ok_bent_net : FnOk P w K mg base (L2.CX P w) 4 T._law_bent_net.a T._law_bent_net.d ["state", "net"] (spBent K) := by
  refine T._law_bent_net.f.okX sc__law_bent_net (fun vs H Q E h => ?_) (fun cdv A outer s0 H vs Q E hr h => ?_)
  · obtain ⟨st, lg, cl, a, ws, rows, m, rfl, _⟩ := h
    rfl
  · obtain ⟨st, lg, cl, a, ws, rows, m, rfl, ha, na1, na2, rl, l1, l5, lr, hm, S, k⟩ := h
    have hlen : ws.length = rows.length := rl.1
    refine ⟨_, (pss_cons (ps_par (i := 2) (j := 3) rfl sc__law_bent_net.nd rfl rfl (by decide) rfl rfl (pa_cons (pe_callTy call_list_of (by rfl) T.b_list (by decide +kernel) (pa_cons (pv 1) pa_nil)) (pa_cons (pe_call (ok_draw T) (hr.mono (by decide)) (by rfl) T._law_draw.m T._law_draw.f.kp (bd__law_draw T) .nil passE (pa_cons (pv 0) (pa_cons pe_int pa_nil))) pa_nil)) (by rfl))
      (pss_cons (ps_par (i := 4) (j := 5) rfl sc__law_bent_net.nd rfl rfl (by decide) rfl rfl (pa_cons (pe_call (ok_draw T) (hr.mono (by decide)) (by rfl) T._law_draw.m T._law_draw.f.kp (bd__law_draw T) .nil passE (pa_cons (pv 0) (pa_cons (pe_callB call_len_seq (by rfl) T.b_len PySem.boot_len (pa_cons (pv 1) pa_nil)) pa_nil))) (pa_cons (pe_call (ok_draw T) (hr.mono (by decide)) (by rfl) T._law_draw.m T._law_draw.f.kp (bd__law_draw T) .nil passE (pa_cons (pv 0) (pa_cons (pe_callB call_len_seq (by rfl) T.b_len PySem.boot_len (pa_cons (pv 1) pa_nil)) pa_nil))) pa_nil)) (by rfl))
      (pss_cons (ps_if (pt_cmpR op_eq (pv 3) pe_int (nomark _)) (pss_one (ps_ret (pe_call (ok_pick T) (hr.mono (by decide)) (by rfl) T._law_pick.m T._law_pick.f.kp (bd__law_pick T) .nil passE (pa_cons (pv 0) (pa_cons (pe_lst (pa_cons (pe_call (ok_odd T) (hr.mono (by decide)) (by rfl) T._law_odd.m T._law_odd.f.kp (bd__law_odd T) .nil passE (pa_cons (pv 0) pa_nil)) (pa_cons (pe_lst pa_nil) (pa_cons (pe_op op_rep (pe_lst (pa_cons (pe_tup pa_nil) pa_nil)) pe_int) (pa_cons (pe_disp (pps_cons pe_int (pe_tup pa_nil) pps_nil) (by rfl) (by rfl) (fun z => by cases z) (by decide)) (pa_cons pe_int (pa_cons (pe_callTy call_tuple_of (by rfl) T.b_tuple (by decide +kernel) (pa_cons (pv 1) pa_nil)) pa_nil))))))) pa_nil))))) pss_nil)
      (pss_cons (ps_if (pt_cmpR op_eq (pv 3) pe_int (nomark _)) (pss_cons (ps_set (i := 6) sc__law_bent_net.nd rfl (by first | exact .inl rfl | exact .inr rfl) (pe_lst (pa_cons (pe_tup (pa_cons (pv 4) pa_nil)) (pa_cons (pe_tup (pa_cons (pe_callB call_len_seq (by rfl) T.b_len PySem.boot_len (pa_cons (pv 1) pa_nil)) pa_nil)) (pa_cons (pe_tup (pa_cons (pe_un un_neg pe_int) pa_nil)) (pa_cons (pe_lst pa_nil) (pa_cons pe_non (pa_cons (pe_tup (pa_cons pe_bl pa_nil)) (pa_cons (pe_tup (pa_cons pe_int (pa_cons pe_int pa_nil))) (pa_cons (pe_tup (pa_cons pe_int (pa_cons pe_int pa_nil))) (pa_cons pe_str (pa_cons (pe_tup (pa_cons pe_non pa_nil)) pa_nil))))))))))))
      (pss_one (ps_asg (pe_call (ok_pick T) (hr.mono (by decide)) (by rfl) T._law_pick.m T._law_pick.f.kp (bd__law_pick T) .nil passE (pa_cons (pv 0) (pa_cons (pv 6) pa_nil))) (pg_sub (pv 2) (pv 4) set_list)))) (pss_one (ps_if (pt_cmpR op_eq (pv 3) pe_int (nomark _)) (pss_cons (ps_asg (pe_tup (pa_cons (pe_tup (pa_cons (pv 5) pa_nil)) (pa_cons (pe_tup (pa_cons (pv 4) pa_nil)) pa_nil))) (pg_tup rfl (pgs_cons (pg_sub (pv 2) (pv 4) set_list) (pgs_cons (pg_sub (pv 2) (pv 5) set_list) pgs_nil))))
      (pss_one (ps_set (i := 2) sc__law_bent_net.nd rfl (by first | exact .inl rfl | exact .inr rfl) (pe_op op_cat (pv 2) (pe_call (ok_pick T) (hr.mono (by decide)) (by rfl) T._law_pick.m T._law_pick.f.kp (bd__law_pick T) .nil passE (pa_cons (pv 0) (pa_cons (pe_lst (pa_cons (pe_lst pa_nil) (pa_cons (pe_lst pa_nil) (pa_cons (pe_lst (pa_cons pe_non pa_nil)) (pa_cons (pe_lst (pa_cons (pe_tup (pa_cons (pe_op op_add (pe_callB call_len_seq (by rfl) T.b_len PySem.boot_len (pa_cons (pv 1) pa_nil)) pe_int) pa_nil)) pa_nil)) pa_nil))))) pa_nil))))))) (pss_one (ps_if (pt_cmpR op_eq (pv 3) pe_int (nomark _)) (pss_one (ps_asg (pe_callTy call_tuple_of (by rfl) T.b_tuple (by decide +kernel) (pa_cons (pe_callB (cr_sortedSet rfl) (by rfl) T.b_sorted (by decide +kernel) (pa_cons (pe_callTy (KSE.cr_setE rfl) (by rfl) T.b_set (by decide +kernel) (pa_cons (pe_op (show OpR _ _ (rCatA K) from op_catA) (pe_ix (show IxR _ (rIx K) from ix_seq) (pv 2) (pv 4) (fun _ _ => rfl)) (pe_tup (pa_cons (pv 5) pa_nil))) pa_nil)) pa_nil)) pa_nil)) (pg_sub (pv 2) (pv 4) set_list))) (pss_one (ps_if (pt_cmpR op_eq (pv 3) pe_int (nomark _)) (pss_one (ps_asg (pe_tup (pa_cons pe_non (pa_cons (pe_tup (pa_cons pe_int pa_nil)) pa_nil))) (pg_tup rfl (pgs_cons (pg_sub (pv 2) (pe_un un_neg pe_int) set_list) (pgs_cons (pg_sub (pv 2) pe_int set_list) pgs_nil))))) (pss_one (ps_set (i := 2) sc__law_bent_net.nd rfl (by first | exact .inl rfl | exact .inr rfl) (pe_op op_cat (pv 2) (pe_lst (pa_cons (pe_tupRg rfl (by rfl) T.b_tuple (prg_1 (by rfl) T.b_range (pe_callB call_len_seq (by rfl) T.b_len PySem.boot_len (pa_cons (pv 1) pa_nil)))) pa_nil))))))))))))
      (pss_one (ps_ret (pv 2))))))), ?_⟩
    refine ⟨_, rfl, a, ws, rfl, .inl (SqL.of ha), fun fd hfd => ?_⟩
    have tf := Same.new (o := .lst ws) hfd
    refine ⟨_, rfl, st, lg, cl, 6, m, rfl, by decide, by decide, by omega, S.same tf, fun fz H1 hz S1 kp1 => ⟨_, _, rfl, ?_⟩⟩
    have nf := S.off hfd
    have ea1 := kp1 a _ (tf _ _ ha) na1 na2
    have ef1 := kp1 fd _ upd_same nf.1 nf.2
    refine ⟨_, rfl, _, rfl, a, ws, rfl, .inl (SqL.of ea1), st, lg, cl, ws.length, m + 1, rfl, by omega, Nat.lt_of_le_of_lt (show ws.length ≤ 5 by omega) (by decide), by omega, S1, fun own H2 ho S2 kp2 => ?_⟩
    have ea2 := kp2 a _ ea1 na1 na2
    refine ⟨_, rfl, _, rfl, a, ws, rfl, .inl (SqL.of ea2), st, lg, cl, ws.length, m + 1 + 1, rfl, by omega, Nat.lt_of_le_of_lt (show ws.length ≤ 5 by omega) (by decide), by omega, S2, fun mate H3 hmt S3 kp3 => ⟨_, _, rfl, ?_⟩⟩
    have ea3 := kp3 a _ ea2 na1 na2
    have ef3 := kp3 fd _ (kp2 fd _ ef1 nf.1 nf.2) nf.1 nf.2
    have kpH : Kp st lg H H3 := (((Kp.same tf).trans kp1).trans kp2).trans kp3
    have rl3 : RL NV H3 ws rows := rl.tp (Tp.kp S kpH)
    have rq : Rqs st lg K H3 ws (rows.map fun r => some (NV r)) := .rl S3 rl3 (fun r hr => by have := lr r hr; omega)
    have lo : (rows.map fun r => some (NV r)).length ≤ 5 := by rw [List.length_map]; exact l5
    clear S1 S2 kp1 kp2 kp3 ea1 ea2 ef1
    generalize hos : (rows.map fun r => some (NV r)) = os at rq lo
    refine ⟨_, rfl, rfl, _, rfl, ?_⟩
    rw [dec_int]
    cases c0 : (((fz : Nat) : Int) == 0) with
    | true =>
      refine iteT ?_
      refine ⟨_, rfl, _, rfl, st, lg, cl, m + 1 + 1 + 1, rfl, by omega, S3, fun x1 o1 H4 w1 S4 kp4 => ?_⟩
      refine ⟨(by show 0 ≤ sizeLine; decide), fun q1 hq1 => ⟨(by show 0 ≤ sizeLine; decide), fun q2 hq2 => ⟨(by show 1 ≤ sizeLine; decide), fun q3 hq3 => ?_⟩⟩⟩
      refine ⟨q3, 11, [.ref q2], rfl, rfl, upd_same, by decide, by decide, (by show 11 ≤ sizeLine; decide), fun q4 hq4 => ?_⟩
      intro q5 hq5
      refine ⟨(by show 0 ≤ sizeLine; decide), fun q6 hq6 => ?_⟩
      have t1 := Same.new (o := .lst []) hq1
      have t2 := Same.new (o := .tup []) hq2
      have t3 := Same.new (o := .lst [.ref q2]) hq3
      have t4 := Same.new (o := .lst (List.replicate (11 : Int).toNat [V.ref q2]).flatten) hq4
      have t5 := Same.new (o := .dK []) hq5
      have t6 := Same.new (o := .tup []) hq6
      refine ⟨t6 _ _ upd_same, [(.inl 0, .ref q6)], rfl, (by show 1 ≤ _; decide), ?_⟩
      have S4d := (((S4.same t1).same t2).same t3).same t4
      have t56 := Same.put (o := .dK (mergeK [] [(.inl 0, V.ref q6)])) (t5.trans t6) hq5
      have e5 : (upd (upd (upd (upd (upd (upd (upd H4 q1 (.lst [])) q2 (.tup [])) q3 (.lst [.ref q2])) q4 (.lst (List.replicate (11 : Int).toNat [V.ref q2]).flatten)) q5 (.dK [])) q6 (.tup [])) q5 (.dK (mergeK [] [(.inl 0, V.ref q6)]))) q5 = some (.dK (mergeK [] [(.inl 0, V.ref q6)])) := upd_same
      have t14 := ((t1.trans t2).trans t3).trans t4
      have e1 := t56 _ _ (t4 _ _ (t3 _ _ (t2 _ _ (upd_same (H := H4) (a := q1) (o := .lst [])))))
      have e2 := t56 _ _ (t4 _ _ (t3 _ _ (upd_same (a := q2) (o := .tup []))))
      have e4 := t56 _ _ (upd_same (a := q4) (o := .lst (List.replicate (11 : Int).toNat [V.ref q2]).flatten))
      have n5 := S4d.off hq5
      have n4 := (((S4.same t1).same t2).same t3).off hq4
      have n2 := (S4.same t1).off hq2
      have n1 := S4.off hq1
      have t46 := t14.trans t56
      have S6 := S4d.same t56
      have ea6 := t46 _ _ (kp4 a _ ea3 na1 na2)
      generalize upd (upd (upd (upd (upd (upd (upd H4 q1 (.lst [])) q2 (.tup [])) q3 (.lst [.ref q2])) q4 (.lst (List.replicate (11 : Int).toNat [V.ref q2]).flatten)) q5 (.dK [])) q6 (.tup [])) q5 (.dK (mergeK [] [(.inl 0, V.ref q6)])) = H6 at e5 e1 e2 e4 t46 S6 ea6
      clear t1 t2 t3 t4 t5 t6 t56 t14 S4d hq1 hq2 hq3 hq4 hq5 hq6
      refine ⟨_, rfl, a, ws, rfl, .inl ⟨SqL.of ea6, fun q7 hq7 => ?_⟩⟩
      have t7 := Same.new (o := .tup ws) hq7
      refine ⟨(by show 6 ≤ sizeLine; decide), fun q8 hq8 => ?_⟩
      have t8 := Same.new (o := .lst [x1, .ref q1, .ref q4, .ref q5, .int 5, .ref q7]) hq8
      have S8 := (S6.same t7).same t8
      refine ⟨st, lg, cl, q8, _, m + 1 + 1 + 1 + 1, rfl, upd_same, ((S6.same t7).off hq8).2, (by show 0 < 6; decide), (by show 6 ≤ 1000; decide), by omega, S8, fun x H9 hx S9 kp9 => ?_⟩
      have k69 : Kp st lg H6 H9 := (Kp.same (t7.trans t8)).trans kp9
      have k49 : Kp st lg H4 H9 := (Kp.same t46).trans k69
      have kk := (kpH.trans kp4).trans k49
      have S9 := S9.mono (show _ ≤ m + 10 by omega)
      simp only [List.mem_cons, List.not_mem_nil, or_false] at hx
      rcases hx with h | h | h | h | h | h <;> subst h
      · exact k _ _ _ (w1.mono (.kp k49)) S9 kk
      · exact k _ _ _ (.lst n1 (k69 _ _ e1 n1.1 n1.2) .nil (by decide)) S9 kk
      · refine k _ (some (List.replicate 11 (some []))) _ (.lst n4 (k69 _ _ e4 n4.1 n4.2) ?_ (by rw [List.length_replicate]; decide)) S9 kk
        rw [rep_flat]
        exact .rep (.tup n2 (k69 _ _ e2 n2.1 n2.2) (fun x hx => nomatch hx) (by decide)) 11
      · exact k _ _ _ (.dK n5 (k69 _ _ e5 n5.1 n5.2)) S9 kk
      · exact k _ _ _ (.flat (.int 5)) S9 kk
      · exact k _ _ _ (.tup (S6.off hq7) (kp9 _ _ (t8 _ _ upd_same) (S6.off hq7).1 (S6.off hq7).2) (rq.mono (.kp (kp4.trans k49))) (by omega)) S9 kk
    | false =>
    refine iteF ?_
    refine ⟨_, rfl, rfl, _, rfl, ?_⟩
    rw [dec_int]
    cases c1 : (((fz : Nat) : Int) == 1) with
    | true =>
      refine iteT ?_
      refine ⟨_, rfl, (by show 1 ≤ sizeLine; decide), fun q1 hq1 => ?_⟩
      have t1 := Same.new (o := .tup [V.int (own : Int)]) hq1
      refine ⟨_, rfl, a, ws, rfl, .inl (SqL.of (t1 _ _ ea3)), (by show 1 ≤ sizeLine; decide), fun q2 hq2 => ⟨_, rfl, (by show 1 ≤ sizeLine; decide), fun q3 hq3 => ⟨(by show 0 ≤ sizeLine; decide), fun q4 hq4 => ⟨(by show 1 ≤ sizeLine; decide), fun q5 hq5 => ⟨(by show 2 ≤ sizeLine; decide), fun q6 hq6 => ⟨(by show 2 ≤ sizeLine; decide), fun q7 hq7 => ⟨(by show 1 ≤ sizeLine; decide), fun q8 hq8 => ⟨(by show 10 ≤ sizeLine; decide), fun q9 hq9 => ?_⟩⟩⟩⟩⟩⟩⟩⟩
      have t2 := Same.new (o := .tup [V.int (ws.length : Nat)]) hq2
      have t3 := Same.new (o := .tup [V.int (-1)]) hq3
      have t4 := Same.new (o := .lst []) hq4
      have t5 := Same.new (o := .tup [V.bl true]) hq5
      have t6 := Same.new (o := .tup [V.int 0, .int 0]) hq6
      have t7 := Same.new (o := .tup [V.int 1, .int 0]) hq7
      have t8 := Same.new (o := .tup [V.non]) hq8
      have t9 := Same.new (o := .lst [.ref q1, .ref q2, .ref q3, .ref q4, .non, .ref q5, .ref q6, .ref q7, .str "0", .ref q8]) hq9
      have S4 := ((S3.same t1).same t2).same t3
      have S9 := (((((S4.same t4).same t5).same t6).same t7).same t8).same t9
      have n4 := S4.off hq4
      have n4f : q4 ≠ fd := fun z => by
        rw [z, (t1.trans (t2.trans t3)) _ _ ef3] at hq4
        cases hq4
      have u8 := t9
      have u7 := t8.trans u8
      have u6 := t7.trans u7
      have u5 := t6.trans u6
      have u4 := t5.trans u5
      have u3 := t4.trans u4
      have u2 := t3.trans u3
      have u1 := t2.trans u2
      have e1 := u1 _ _ (upd_same (H := H3) (a := q1) (o := .tup [V.int (own : Int)]))
      have e2 := u2 _ _ (upd_same (a := q2) (o := .tup [V.int (ws.length : Nat)]))
      have e3 := u3 _ _ (upd_same (a := q3) (o := .tup [V.int (-1)]))
      have e4 := u4 _ _ (upd_same (a := q4) (o := .lst []))
      have e5 := u5 _ _ (upd_same (a := q5) (o := .tup [V.bl true]))
      have e6 := u6 _ _ (upd_same (a := q6) (o := .tup [V.int 0, .int 0]))
      have e7 := u7 _ _ (upd_same (a := q7) (o := .tup [V.int 1, .int 0]))
      have e8 := u8 _ _ (upd_same (a := q8) (o := .tup [V.non]))
      refine ⟨_, rfl, _, rfl, st, lg, cl, q9, _, m + 1 + 1 + 1, rfl, upd_same, (((((((S4.same t4).same t5).same t6).same t7).same t8).off hq9).2), (by show 0 < 10; decide), (by show 10 ≤ 1000; decide), by omega, S9, fun x H9 hx S9' kp9 => ?_⟩
      have k39 : Kp st lg H3 H9 := (Kp.same (t1.trans u1)).trans kp9
      have ef9 := k39 _ _ ef3 nf.1 nf.2
      have tp9 := Tp.kp S9 kp9
      have e4 := kp9 _ _ e4 n4.1 n4.2
      have e1 := tp9 _ _ e1
      have e2 := tp9 _ _ e2
      have e3 := tp9 _ _ e3
      have e5 := tp9 _ _ e5
      have e6 := tp9 _ _ e6
      have e7 := tp9 _ _ e7
      have e8 := tp9 _ _ e8
      clear t1 t2 t3 t4 t5 t6 t7 t8 t9 u1 u2 u3 u4 u5 u6 u7 u8 S4 S9 tp9 kp9 hq1 hq2 hq3 hq4 hq5 hq6 hq7 hq8 hq9
      refine ⟨_, rfl, _, rfl, fd, ws, (own : Int), own, rfl, rfl, ef9, ixN_nat ho, ?_⟩
      have Sf := stAt_put (ys := ws.set own x) S9' nf.1 nf.2 (offc S hfd)
      have kf : Kp st lg H (upd H9 fd (.lst (ws.set own x))) := Kp.put3 (kpH.trans k39) hfd
      have tp : Tp H9 (upd H9 fd (.lst (ws.set own x))) := Tp.put ef9
      have rqf : Rqs st lg K (upd H9 fd (.lst (ws.set own x))) ws os := hos ▸ .rl Sf (rl.tp (Tp.kp S kf)) (fun r hr => by have := lr r hr; omega)
      have fin : ∀ o, Rq st lg K (upd H9 fd (.lst (ws.set own x))) x o → Q (.ref fd) (upd H9 fd (.lst (ws.set own x))) := fun o ho => k _ (some (os.set own o)) _ (.lst nf upd_same (rqf.set ho) (by rw [List.length_set]; omega)) (Sf.mono (show _ ≤ m + 10 by omega)) kf
      refine ⟨_, rfl, ?_⟩
      have e1 := tp _ _ e1
      have e2 := tp _ _ e2
      have e3 := tp _ _ e3
      have e5 := tp _ _ e5
      have e6 := tp _ _ e6
      have e7 := tp _ _ e7
      have e8 := tp _ _ e8
      have e4 : (upd H9 fd (.lst (ws.set own x))) q4 = some (.lst []) := (upd_ne n4f).trans e4
      simp only [List.mem_cons, List.not_mem_nil, or_false] at hx
      rcases hx with h | h | h | h | h | h | h | h | h | h <;> subst h
      · exact fin _ (.tup (off_tup Sf e1) e1 (off1 (.int _)) (by show 1 < 60; decide))
      · exact fin _ (.tup (off_tup Sf e2) e2 (off1 (.int _)) (by show 1 < 60; decide))
      · exact fin _ (.tup (off_tup Sf e3) e3 (off1 (.int _)) (by show 1 < 60; decide))
      · exact fin _ (.lst n4 e4)
      · exact fin _ (.flat .non)
      · exact fin _ (.tup (off_tup Sf e5) e5 (off1 (.bl _)) (by decide))
      · exact fin _ (.tup (off_tup Sf e6) e6 (off2 (.int _) (.int _)) (by decide))
      · exact fin _ (.tup (off_tup Sf e7) e7 (off2 (.int _) (.int _)) (by decide))
      · exact fin _ (.flat (.str "0" (by decide +kernel)))
      · exact fin _ (.tup (off_tup Sf e8) e8 (off1 .non) (by decide))
    | false =>
    refine iteF ?_
    refine ⟨_, rfl, rfl, _, rfl, ?_⟩
    rw [dec_int]
    cases c2 : (((fz : Nat) : Int) == 2) with
    | true =>
      refine iteT ?_
      refine ⟨_, rfl, (by show 1 ≤ sizeLine; decide), fun q1 hq1 => ⟨_, rfl, (by show 1 ≤ sizeLine; decide), fun q2 hq2 => ⟨(by show 2 ≤ sizeLine; decide), fun q3 hq3 => ?_⟩⟩⟩
      have t1 := Same.new (o := .tup [V.int (mate : Int)]) hq1
      have t2 := Same.new (o := .tup [V.int (own : Int)]) hq2
      have t3 := Same.new (o := .tup [V.ref q1, .ref q2]) hq3
      have t13 := t1.trans (t2.trans t3)
      have e1 := t3 _ _ (t2 _ _ (upd_same (H := H3) (a := q1) (o := .tup [V.int (mate : Int)])))
      have e2 := t3 _ _ (upd_same (a := q2) (o := .tup [V.int (own : Int)]))
      have S4 := S3.same t13
      have ef4 := t13 _ _ ef3
      refine ⟨q3, _, rfl, SqT.of upd_same, rfl, _, _, rfl, _, rfl, _, rfl, fd, ws, (own : Int), own, rfl, rfl, ef4, ixN_nat ho, ?_⟩
      have tp5 : Tp _ _ := Tp.put (o := .lst (ws.set own (.ref q1))) ef4
      have S5 := stAt_put (ys := ws.set own (.ref q1)) S4 nf.1 nf.2 (offc S hfd)
      refine ⟨_, _, rfl, _, rfl, _, rfl, fd, ws.set own (.ref q1), (mate : Int), mate, rfl, rfl, upd_same, ixN_nat (by rw [List.length_set]; exact hmt), ?_⟩
      have tp6 : Tp _ _ := Tp.put (H := upd (upd (upd (upd H3 q1 (.tup [V.int (mate : Int)])) q2 (.tup [V.int (own : Int)])) q3 (.tup [V.ref q1, .ref q2])) fd (.lst (ws.set own (.ref q1)))) (D := fd) (o := .lst ((ws.set own (.ref q1)).set mate (.ref q2))) upd_same
      have S6 := stAt_put (ys := (ws.set own (.ref q1)).set mate (.ref q2)) S5 nf.1 nf.2 (offc S hfd)
      have e1 := tp6 _ _ (tp5 _ _ e1)
      have e2 := tp6 _ _ (tp5 _ _ e2)
      have kp6 := Kp.put3 (o := .lst ((ws.set own (.ref q1)).set mate (.ref q2))) (Kp.put3 (o := .lst (ws.set own (.ref q1))) (kpH.trans (.same t13)) hfd) hfd
      have ef6 : (upd (upd (upd (upd (upd H3 q1 (.tup [V.int (mate : Int)])) q2 (.tup [V.int (own : Int)])) q3 (.tup [V.ref q1, .ref q2])) fd (.lst (ws.set own (.ref q1)))) fd (.lst ((ws.set own (.ref q1)).set mate (.ref q2)))) fd = some (.lst ((ws.set own (.ref q1)).set mate (.ref q2))) := upd_same
      generalize upd (upd (upd (upd (upd H3 q1 (.tup [V.int (mate : Int)])) q2 (.tup [V.int (own : Int)])) q3 (.tup [V.ref q1, .ref q2])) fd (.lst (ws.set own (.ref q1)))) fd (.lst ((ws.set own (.ref q1)).set mate (.ref q2))) = H6 at e1 e2 S6 kp6 ef6
      clear tp5 tp6 S5 S4 ef4 t13 t1 t2 t3 hq1 hq2 hq3
      have rq6 : Rqs st lg K H6 ((ws.set own (.ref q1)).set mate (.ref q2)) ((os.set own (some [V.int (mate : Int)])).set mate (some [V.int (own : Int)])) := by
        refine .set (.set ?_ (.tup (off_tup S6 e1) e1 (off1 (.int _)) (by show 1 < 60; decide))) (.tup (off_tup S6 e2) e2 (off1 (.int _)) (by show 1 < 60; decide))
        exact hos ▸ .rl S6 (rl.tp (Tp.kp S kp6)) (fun r hr => by have := lr r hr; omega)
      have l6 : ((os.set own (some [V.int (mate : Int)])).set mate (some [V.int (own : Int)])).length ≤ 5 := by rw [List.length_set, List.length_set]; exact lo
      generalize (os.set own (some [V.int (mate : Int)])).set mate (some [V.int (own : Int)]) = os6 at rq6 l6
      generalize (ws.set own (.ref q1)).set mate (.ref q2) = ws6 at rq6 ef6
      have ea6 := kp6 _ _ ha na1 na2
      refine ⟨rfl, _, rfl, _, rfl, (by show 0 ≤ sizeLine; decide), fun p1 hp1 => ⟨(by show 0 ≤ sizeLine; decide), fun p2 hp2 => ⟨(by show 1 ≤ sizeLine; decide), fun p3 hp3 => ?_⟩⟩⟩
      have t1 := Same.new (o := .lst []) hp1
      have t2 := Same.new (o := .lst []) hp2
      have t3 := Same.new (o := .lst [V.non]) hp3
      have t13 := t1.trans (t2.trans t3)
      refine ⟨_, rfl, a, ws, rfl, .inl (SqL.of (t13 _ _ ea6)), _, _, rfl, rfl, (by show 1 ≤ sizeLine; decide), fun p4 hp4 => ⟨(by show 1 ≤ sizeLine; decide), fun p5 hp5 => ⟨(by show 4 ≤ sizeLine; decide), fun p6 hp6 => ?_⟩⟩⟩
      have t4 := Same.new (o := .tup [V.int ((ws.length : Nat) + 1)]) hp4
      have t5 := Same.new (o := .lst [V.ref p4]) hp5
      have t7 := Same.new (o := .lst [.ref p1, .ref p2, .ref p3, .ref p5]) hp6
      have S7a := (S6.same t1)
      have S7b := S7a.same t2
      have S7c := S7b.same t3
      have S7d := S7c.same t4
      have S7e := S7d.same t5
      have S7 := S7e.same t7
      have e1 := t7 _ _ (t5 _ _ (t4 _ _ (t3 _ _ (t2 _ _ (upd_same (H := H6) (a := p1) (o := .lst []))))))
      have e2 := t7 _ _ (t5 _ _ (t4 _ _ (t3 _ _ (upd_same (a := p2) (o := .lst [])))))
      have e3 := t7 _ _ (t5 _ _ (t4 _ _ (upd_same (a := p3) (o := .lst [V.non]))))
      have e4 := t7 _ _ (t5 _ _ (upd_same (a := p4) (o := .tup [V.int ((ws.length : Nat) + 1)])))
      have e5 := t7 _ _ (upd_same (a := p5) (o := .lst [V.ref p4]))
      refine ⟨st, lg, cl, p6, _, m + 1 + 1 + 1, rfl, upd_same, (S7e.off hp6).2, (by show 0 < 4; decide), (by show 4 ≤ 1000; decide), by omega, S7, fun x H9 hx S9 kp9 => ?_⟩
      have k69 : Kp st lg H6 H9 := (Kp.same (t13.trans (t4.trans (t5.trans t7)))).trans kp9
      have e1 := kp9 _ _ e1 (S6.off hp1).1 (S6.off hp1).2
      have e2 := kp9 _ _ e2 (S7a.off hp2).1 (S7a.off hp2).2
      have e3 := kp9 _ _ e3 (S7b.off hp3).1 (S7b.off hp3).2
      have e4 := kp9 _ _ e4 (S7c.off hp4).1 (S7c.off hp4).2
      have e5 := kp9 _ _ e5 (S7d.off hp5).1 (S7d.off hp5).2
      have ef9 := k69 _ _ ef6 nf.1 nf.2
      have rq9 := rq6.mono (.kp k69)
      have lw6 : ws6.length ≤ 5 := by rw [rq6.1]; exact l6
      obtain ⟨u, us, ps, rfl, eu, ru, lu⟩ : ∃ u us ps, x = .ref u ∧ H9 u = some (.lst us) ∧ Rqs st lg K H9 us ps ∧ us.length ≤ 1 := by
        simp only [List.mem_cons, List.not_mem_nil, or_false] at hx
        rcases hx with h | h | h | h <;> subst h
        · exact ⟨p1, [], [], rfl, e1, .nil, by decide⟩
        · exact ⟨p2, [], [], rfl, e2, .nil, by decide⟩
        · exact ⟨p3, [V.non], [none], rfl, e3, .cons (.flat .non) .nil, by decide⟩
        · exact ⟨p5, [V.ref p4], [_], rfl, e5, .cons (.tup (off_tup S9 e4) e4 (off1 (.int _)) (by show 1 < 60; decide)) .nil, Nat.le_refl _⟩
      refine ⟨fd, u, ws6, us, rfl, rfl, ef9, eu, Nat.le_trans (show _ ≤ 10 by omega) (by decide), fun r hr => ⟨_, rfl, ?_⟩⟩
      have tr := Same.new (o := .lst (ws6 ++ us)) hr
      have lps : ps.length ≤ 1 := by rw [← ru.1]; exact lu
      exact k _ (some (os6 ++ ps)) _ (.lst (S9.off hr) upd_same ((rq9.append ru).mono (.same tr)) (by rw [List.length_append]; omega)) ((S9.same tr).mono (show _ ≤ m + 10 by omega)) ((kp6.trans k69).trans (.same tr))
    | false =>
    refine iteF ?_
    refine ⟨_, rfl, rfl, _, rfl, ?_⟩
    rw [dec_int]
    cases c3 : (((fz : Nat) : Int) == 3) with
    | true =>
      refine iteT ?_
      obtain ⟨p, ep, hp⟩ := rl3.at_ (row_at (show own < rows.length by omega))
      have lrow := lr _ (List.mem_of_getElem? (row_at (show own < rows.length by omega)))
      refine ⟨_, rfl, _, rfl, ix_either (K := K) (.inl ef3) ep ⟨_, rfl, (by show 1 ≤ sizeLine; decide), fun q1 hq1 => ?_⟩⟩
      have t1 := Same.new (o := .tup [V.int (mate : Int)]) hq1
      refine cat_any (K := K) (t1 _ _ hp) upd_same (by rw [NV_len]; show _ + 1 ≤ _; omega) fun c2 H4 s4 e4 => ?_
      rw [← NV_snoc, NV_ints] at e4
      refine ⟨c2, _, rfl, .inr (SqT.of e4), (by rw [List.length_map, List.length_append]; show _ + 1 ≤ _; omega), fun q3 c hc hq3 => ?_⟩
      rw [List.length_map, List.length_append] at hc
      have hc : c ≤ 11 := Nat.le_trans hc (by show _ + 1 ≤ 11; omega)
      have t5 := Same.new (o := SetO w q3 (fun j => decide (j ∈ ((row rows own ++ [mate]).map fun n : Nat => (n : Int)))) c) hq3
      refine ⟨q3, _, c, rfl, upd_same, by omega, fun ns' p3 pw mem len hp3 => ?_⟩
      have t6 := Same.new (o := .lst (ns'.map V.int)) hp3
      refine ⟨p3, _, rfl, .inl ⟨SqL.of upd_same, fun l hl => ?_⟩⟩
      have t7 := Same.new (o := .tup (ns'.map V.int)) hl
      have s37 := ((t1.trans s4).trans (t5.trans t6)).trans t7
      have ef7 := s37 _ _ ef3
      have e7 := new_at (o := .tup (ns'.map V.int)) hl
      have S7 := S3.same s37
      have kp7 := kpH.trans (Kp.same s37)
      refine ⟨_, rfl, _, rfl, fd, ws, (own : Int), own, rfl, rfl, ef7, ixN_nat ho, ?_⟩
      have Sf := stAt_put (ys := ws.set own (.ref l)) S7 nf.1 nf.2 (offc S hfd)
      have kf := Kp.put3 (o := .lst (ws.set own (.ref l))) kp7 hfd
      have e8 := Tp.put (o := .lst (ws.set own (.ref l))) ef7 _ _ e7
      have rqf := Rqs.rl (K := K) Sf (rl.tp (Tp.kp S kf)) (fun r hr => by have := lr r hr; omega)
      rw [hos] at rqf
      refine ⟨_, rfl, k _ (some (os.set own (some (ns'.map V.int)))) _ (.lst nf upd_same (rqf.set (.tup (off_tup Sf e8) e8 (fun x hx => ?_) ?_)) (by rw [List.length_set]; omega)) (Sf.mono (show _ ≤ m + 10 by omega)) kf⟩
      · obtain ⟨i, _, rfl⟩ := List.mem_map.mp hx
        exact .int i
      · rw [List.length_map, len]
        omega
    | false =>
    refine iteF ?_
    refine ⟨_, rfl, rfl, _, rfl, ?_⟩
    rw [dec_int]
    cases c4 : (((fz : Nat) : Int) == 4) with
    | true =>
      refine iteT ?_
      refine ⟨(by show 1 ≤ sizeLine; decide), fun q1 hq1 => ⟨(by show 2 ≤ sizeLine; decide), fun q2 hq2 => ?_⟩⟩
      have t1 := Same.new (o := .tup [V.int 0]) hq1
      have t2 := Same.new (o := .tup [V.non, .ref q1]) hq2
      have t12 := t1.trans t2
      have e1 := t2 _ _ (upd_same (H := H3) (a := q1) (o := .tup [V.int 0]))
      have S4 := S3.same t12
      have ef4 := t12 _ _ ef3
      have lw : 0 < ws.length := by omega
      refine ⟨q2, _, rfl, SqT.of upd_same, rfl, _, _, rfl, _, rfl, _, rfl, fd, ws, -1, ws.length - 1, rfl, rfl, ef4, ixN_last lw, ?_⟩
      have S5 := stAt_put (ys := ws.set (ws.length - 1) .non) S4 nf.1 nf.2 (offc S hfd)
      refine ⟨_, _, rfl, _, rfl, fd, ws.set (ws.length - 1) .non, 0, 0, rfl, rfl, upd_same, ixN_nat (n := (ws.set (ws.length - 1) V.non).length) (j := 0) (by rw [List.length_set]; exact lw), ?_⟩
      have Sf := stAt_put (ys := (ws.set (ws.length - 1) .non).set 0 (.ref q1)) S5 nf.1 nf.2 (offc S hfd)
      have kf := Kp.put3 (o := .lst ((ws.set (ws.length - 1) .non).set 0 (.ref q1))) (Kp.put3 (o := .lst (ws.set (ws.length - 1) .non)) (kpH.trans (.same t12)) hfd) hfd
      have e5 := Tp.put (o := .lst (ws.set (ws.length - 1) .non)) ef4 _ _ e1
      have e6 := Tp.put (D := fd) (o := .lst ((ws.set (ws.length - 1) .non).set 0 (.ref q1))) (upd_same (H := upd (upd H3 q1 (.tup [V.int 0])) q2 (.tup [V.non, .ref q1])) (o := .lst (ws.set (ws.length - 1) .non))) _ _ e5
      refine ⟨rfl, _, rfl, k _ (some ((os.set (ws.length - 1) none).set 0 (some [V.int 0]))) _ (.lst nf upd_same (.set (.set (hos ▸ .rl Sf (rl.tp (Tp.kp S kf)) (fun r hr => by have := lr r hr; omega)) (.flat .non)) (.tup (off_tup Sf e6) e6 (off1 (.int 0)) (by decide))) (by rw [List.length_set, List.length_set]; omega)) (Sf.mono (show _ ≤ m + 10 by omega)) kf⟩
    | false =>
      refine iteF ?_
      refine ⟨_, rfl, _, rfl, a, ws, rfl, .inl (SqL.of ea3), _, rfl, RgOk.of_le (by decide) (by omega) (by decide) (by omega), fun q1 hq1 => ⟨(by show 1 ≤ sizeLine; decide), fun q2 hq2 => ?_⟩⟩
      rw [rg_nat] at hq2 ⊢
      have t1 := Same.new (o := .tup (NV (List.range ws.length))) hq1
      have t2 := Same.new (o := .lst [V.ref q1]) hq2
      have t12 := t1.trans t2
      have e1 := t2 _ _ (upd_same (H := H3) (a := q1) (o := .tup (NV (List.range ws.length))))
      have S4 := S3.same t12
      refine ⟨fd, q2, ws, [V.ref q1], rfl, rfl, t12 _ _ ef3, upd_same, Nat.le_trans (show _ ≤ 10 by show ws.length + 1 ≤ 10; omega) (by decide), fun r hr => ⟨_, rfl, ?_⟩⟩
      have tr := Same.new (o := .lst (ws ++ [V.ref q1])) hr
      have Sf := S4.same tr
      have e1 := tr _ _ e1
      refine k _ (some (os ++ [some (NV (List.range ws.length))])) _ (.lst (S4.off hr) upd_same (.append (rq.mono (.same (t12.trans tr))) (.cons (.tup (off_tup Sf e1) e1 (fun x hx => ?_) ?_) .nil)) (by rw [List.length_append]; show _ + 1 ≤ _; omega)) (Sf.mono (show _ ≤ m + 10 by omega)) (kpH.trans (.same (t12.trans tr)))
      · obtain ⟨i, _, rfl⟩ := List.mem_map.mp hx
        exact .int i
      · rw [NV_len, List.length_range]
        omega
end
end K45
namespace K45
open PySem PySem.Spec PyProof.Rows L2 PySem.W LamX KA KW KU KL KT
open Evl (pss_cut tCut)
/-! ### bent lines -/
inductive Bl (st lg : Addr) (H : Hp) : V → Option (List V) → Prop where
  | lst {f : Addr} {xs : List V} (n : f ≠ st ∧ f ≠ lg) (e : H f = some (.lst xs)) (p : ∀ x ∈ xs, Fl x) (l : xs.length ≤ 10) : Bl st lg H (.ref f) (some xs)
  | dK {f : Addr} {kvs : List (Key × V)} (n : f ≠ st ∧ f ≠ lg) (e : H f = some (.dK kvs)) : Bl st lg H (.ref f) none
  | flat {x : V} (h : Fl x) : Bl st lg H x none
theorem Bl.mono {st lg : Addr} {H H' : Hp} {y : V} {o : Option (List V)} (h : Bl st lg H y o) (k : KpN st lg H H') : Bl st lg H' y o := by
  cases h with
  | lst n e p l => exact .lst n (k.lst n e) p l
  | dK n e => exact .dK n (k.dK n e)
  | flat h => exact .flat h
theorem Bl.cases {st lg : Addr} {K : PySem.W.Frag} {H : Hp} {y : V} {o : Option (List V)} (h : Bl st lg H y o) : (∃ t : String, TyX K H y (.type t) ∧ kitB t "list" = some false ∧ o = none) ∨ ∃ f xs, y = .ref f ∧ o = some xs ∧ (f ≠ st ∧ f ≠ lg) ∧ H f = some (.lst xs) ∧ (∀ x ∈ xs, Fl x) ∧ xs.length ≤ 10 := by
  cases h with
  | lst n e p l => exact .inr ⟨_, _, rfl, rfl, n, e, p, l⟩
  | dK n e => exact .inl ⟨"dict", .base (.dK e), by decide +kernel, rfl⟩
  | flat h =>
    refine .inl ?_
    cases h with
    | int i => exact ⟨"int", .base (.int i), by decide +kernel, rfl⟩
    | bl i => exact ⟨"bool", .base (.bl i), by decide +kernel, rfl⟩
    | str i _ => exact ⟨"str", .base (.str i), by decide +kernel, rfl⟩
    | non => exact ⟨"NoneType", .base .non, by decide +kernel, rfl⟩
theorem Bl.gn {st lg : Addr} {K : PySem.W.Frag} {H : Hp} {y : V} {o : Option (List V)} (h : Bl st lg H y o) : Gn K H y o := by
  cases h with
  | lst n e p l => exact .some (.inl e) p (by omega)
  | dK n e => exact .no (.dK e)
  | flat h =>
    refine .no ?_
    cases h with
    | int i => exact .int i
    | bl i => exact .bl i
    | str i _ => exact .str i
    | non => exact .non
def spBentLine : Sp := fun vs H Q _ => ∃ (st lg cl lp ls : Addr) (us : List V) (rows : List (List Nat)) (line : List Nat) (m : Nat), vs = [.ref st, .ref lp, .ref ls] ∧ H lp = some (.tup (NV line)) ∧ line ∈ ords rows ∧ H ls = some (.lst us) ∧ RL NV H us (ords rows) ∧ ls ≠ st ∧ ls ≠ lg ∧ 1 ≤ rows.length ∧ rows.length ≤ 5 ∧ m ≤ 900000 ∧ StAt H st lg cl m ∧
  ∀ (y : V) (o : Option (List V)) (q : Addr) (H' : Hp), Bl st lg H' y o → H' q = some (.tup [y, .bl (inTime rows 20 o)]) → StAt H' st lg cl (m + 5) → Kp st lg H H' → Q (.ref q) H'
theorem hu65 {k : Nat} {A : Around} (r : Room k A) : A.units + 65 < cLine := by have := r.un; omega
theorem fl_nv (l : List Nat) : ∀ x ∈ NV l, Fl x := fun x hx => by
  obtain ⟨n, _, rfl⟩ := List.mem_map.mp hx
  exact .int n
theorem fl_set {l : List V} {i : Nat} {v : V} (h : ∀ x ∈ l, Fl x) (g : Fl v) : ∀ x ∈ l.set i v, Fl x := fun x hx => by
  rcases List.mem_or_eq_of_mem_set hx with hx | hx
  · exact h x hx
  · rw [hx]; exact g
theorem fl_cat {l k : List V} (h : ∀ x ∈ l, Fl x) (g : ∀ x ∈ k, Fl x) : ∀ x ∈ l ++ k, Fl x := fun x hx => by
  rcases List.mem_append.mp hx with hx | hx
  · exact h x hx
  · exact g x hx
theorem eqv_lot (s : List Nat) (ns : List Int) : PyData.eqv (lotD s) (.tuple (ns.map PyData.int)) = decide (NV s = ns.map V.int) := by
  have e : PyData.eqv (lotD s) (.tuple (ns.map PyData.int)) = PyData.eqvAll ((s.map fun n : Nat => (n : Int)).map PyData.int) (ns.map PyData.int) := by
    unfold lotD
    simp only [PyData.eqv]
  rw [e, eqvAll_ints, NV_ints]
  refine decide_eq_decide.mpr ⟨fun h => by rw [h], fun h => ?_⟩
  exact (List.map_inj_right (f := V.int) (fun a b e => by injection e)).mp h
theorem any_lot {rows : List (List Nat)} (ns : List Int) (hn : rows.length ≤ 10) : (((ords rows).map lotD).any fun z => PyData.eqv z (.tuple (ns.map PyData.int))) = inTime rows 20 (some (ns.map V.int)) := by
  rw [Bool.eq_iff_iff, List.any_map, List.any_eq_true, inTime_twenty hn]
  constructor
  · rintro ⟨l, hl, e⟩
    have e : PyData.eqv (lotD l) (.tuple (ns.map PyData.int)) = true := e
    rw [eqv_lot, decide_eq_true_eq] at e
    exact ⟨l, e.symm, hl⟩
  · rintro ⟨l, e, hl⟩
    refine ⟨l, hl, ?_⟩
    show PyData.eqv (lotD l) (.tuple (ns.map PyData.int)) = true
    rw [eqv_lot, e, decide_eq_true_eq]
theorem shaped_tup (ns : List Int) : SeqAt.shaped (.tuple (ns.map PyData.int)) = true := by
  obtain ⟨h1, h2⟩ := KA.lay_is ns
  simp [SeqAt.shaped, PyData.canLay0, PyData.depth, h1, h2]
theorem cut_drop1 {xs : List V} (h : 1 ≤ xs.length) : cutV xs (some 1) none = xs.drop 1 := by
  unfold cutV
  rw [HT.sIx_none, show (some (1 : Int)) = some ((1 : Nat) : Int) from rfl, HT.sIx_nat, Nat.min_eq_left h, List.take_of_length_le]
  rw [List.length_drop]
  exact Nat.le_refl _
theorem not_nums {rows : List (List Nat)} {xs : List V} (h : xs.all isNum = false) : inTime rows 20 (some xs) = false := by
  refine Bool.eq_false_iff.mpr fun z => ?_
  obtain ⟨l, rfl, _⟩ := inTime_some.mp z
  have : (NV l).all isNum = true := by
    rw [List.all_eq_true]
    intro x hx
    obtain ⟨m, _, rfl⟩ := List.mem_map.mp hx
    rfl
  rw [this] at h
  cases h
section
variable {P : Program} {w : World} {K : PySem.W.Frag} {mg : Str → Option Value} {base : Heap} (T : Top K mg)
theorem ok_bent_line : FnOk P w K mg base (L2.CX P w) 3 T._law_bent_line.a T._law_bent_line.d ["state", "line", "lines"] spBentLine := by
  refine T._law_bent_line.f.okX sc__law_bent_line (fun vs H Q E h => ?_) (fun cdv A outer s0 H vs Q E hr h => ?_)
  · obtain ⟨st, lg, cl, lp, ls, us, rows, line, m, rfl, _⟩ := h
    rfl
  · obtain ⟨st, lg, cl, lp, ls, us, rows, line, m, rfl, hlp, hord, hls, rl, nl1, nl2, l1, l5, hm, S, k⟩ := h
    obtain ⟨tp, elen⟩ := mem_ords.mp hord
    refine ⟨_, (pss_cons (ps_par3 (i := 3) (j := 4) (l := 5) rfl sc__law_bent_line.nd rfl rfl rfl (by decide) (by decide) (by decide) rfl rfl rfl (pa_cons (pe_callTy call_list_of (by rfl) T.b_list (by decide +kernel) (pa_cons (pv 1) pa_nil)) (pa_cons (pe_call (ok_draw T) (hr.mono (by decide)) (by rfl) T._law_draw.m T._law_draw.f.kp (bd__law_draw T) .nil passE (pa_cons (pv 0) (pa_cons (pe_callB call_len_seq (by rfl) T.b_len PySem.boot_len (pa_cons (pv 1) pa_nil)) pa_nil))) (pa_cons (pe_call (ok_draw T) (hr.mono (by decide)) (by rfl) T._law_draw.m T._law_draw.f.kp (bd__law_draw T) .nil passE (pa_cons (pv 0) (pa_cons (pe_callB call_len_seq (by rfl) T.b_len PySem.boot_len (pa_cons (pv 1) pa_nil)) pa_nil))) pa_nil))) (by rfl))
      (pss_cons (ps_set (i := 6) sc__law_bent_line.nd rfl (by first | exact .inl rfl | exact .inr rfl) (pe_call (ok_draw T) (hr.mono (by decide)) (by rfl) T._law_draw.m T._law_draw.f.kp (bd__law_draw T) .nil passE (pa_cons (pv 0) (pa_cons pe_int pa_nil))))
      (pss_cut (ps_if (pt_cmpR op_eq (pv 6) pe_int (nomark _)) (pss_one (ps_asg (pe_tup (pa_cons (pe_ix (show IxR _ (rIx K) from ix_seq) (pv 3) (pv 5) (fun _ _ => rfl)) (pa_cons (pe_ix (show IxR _ (rIx K) from ix_seq) (pv 3) (pv 4) (fun _ _ => rfl)) pa_nil))) (pg_tup rfl (pgs_cons (pg_sub (pv 3) (pv 4) set_list) (pgs_cons (pg_sub (pv 3) (pv 5) set_list) pgs_nil))))) (pss_one (ps_if (pt_cmpR op_eq (pv 6) pe_int (nomark _)) (pss_one (ps_asg (pe_call (ok_pick T) (hr.mono (by decide)) (by rfl) T._law_pick.m T._law_pick.f.kp (bd__law_pick T) .nil passE (pa_cons (pv 0) (pa_cons (pe_lst (pa_cons (pe_ix (show IxR _ (rIx K) from ix_seq) (pv 3) (pv 5) (fun _ _ => rfl)) (pa_cons (pe_callB call_len_seq (by rfl) T.b_len PySem.boot_len (pa_cons (pv 1) pa_nil)) (pa_cons (pe_un un_neg pe_int) (pa_cons pe_bl (pa_cons pe_non (pa_cons pe_str pa_nil))))))) pa_nil))) (pg_sub (pv 3) (pv 4) set_list))) (pss_one (ps_if (pt_cmpR op_eq (pv 6) pe_int (nomark _)) (pss_one (ps_set (i := 3) sc__law_bent_line.nd rfl (by first | exact .inl rfl | exact .inr rfl) (pe_call (ok_pick T) (hr.mono (by decide)) (by rfl) T._law_pick.m T._law_pick.f.kp (bd__law_pick T) .nil passE (pa_cons (pv 0) (pa_cons (pe_lst (pa_cons (pe_slice sl_list (pv 3) (po_some pe_int) po_none) (pa_cons (pe_op op_cat (pv 3) (pe_lst (pa_cons pe_int pa_nil))) (pa_cons (pe_lst pa_nil) (pa_cons pe_dnewK (pa_cons pe_non (pa_cons pe_int (pa_cons pe_str pa_nil)))))))) pa_nil))))) pss_nil)))))
      (pss_cons (ps_set (i := 7) sc__law_bent_line.nd rfl (by first | exact .inl rfl | exact .inr rfl) (pe_and (pe_callB call_isi (by rfl) T.b_isinstance PyProof.Rows.boot_isinstance (pa_cons (pv 3) (pa_cons (pe_bltn (v := .ty "list") (by rfl) T.b_list (by decide +kernel) rfl) pa_nil))) (pe_one (pe_cmpR (op_eqD hr.units) (pe_lc (own := [("item", 8)]) (g := (gName 8)) rfl sc__law_bent_line.nd (pi_list (pv 3)) (blkOk_by (own := [("item", 8)]) (N := ["state", "line", "lines", "found", "own", "mate", "fashion", "is_line", "item"]) (sc := defScope s__law_bent_line) (by decide +kernel)) (fun _ _ _ _ _ => pg_name (i := 8) sc__law_bent_line.nd rfl (by first | exact .inl rfl | exact .inr rfl)) (fun _ _ _ _ _ => pts_one (pt_not (pt_val (pe_call (ok_whole T) (hr.mono (by decide)) (by rfl) T._law_is_whole.m T._law_is_whole.f.kp (bd__law_is_whole T) .nil passE (pa_cons (pv 8) pa_nil))))) (fun _ _ _ _ _ => (pv 8))) (pe_lst pa_nil) (nomark _)))))
      (pss_one (ps_ret (pe_tup (pa_cons (pv 3) (pa_cons (pe_and (pv 7) (pe_one (pe_cmpR (op_inD (hu65 hr)) (pe_callTy call_tuple_of (by rfl) T.b_tuple (by decide +kernel) (pa_cons (pv 3) pa_nil)) (pv 2) (by rfl)))) pa_nil))))))))), ?_⟩
    refine ⟨_, rfl, lp, _, rfl, .inr (SqT.of hlp), fun fd hfd => ?_⟩
    have tf := Same.new (o := .lst (NV line)) hfd
    have nf := S.off hfd
    have S0 := S.same tf
    refine ⟨_, rfl, _, rfl, lp, _, rfl, .inr (SqT.of (tf _ _ hlp)), st, lg, cl, line.length, m, by rw [NV_len]; rfl, by omega, Nat.lt_of_le_of_lt (show line.length ≤ 5 by omega) (by decide), by omega, S0, fun own H1 ho S1 kp1 => ?_⟩
    have el1 := Tp.kp S0 kp1 _ _ (tf _ _ hlp)
    have ef1 := kp1 fd _ upd_same nf.1 nf.2
    refine ⟨_, rfl, _, rfl, lp, _, rfl, .inr (SqT.of el1), st, lg, cl, line.length, m + 1, by rw [NV_len]; rfl, by omega, Nat.lt_of_le_of_lt (show line.length ≤ 5 by omega) (by decide), by omega, S1, fun mate H2 hmt S2 kp2 => ?_⟩
    have el2 := Tp.kp S1 kp2 _ _ el1
    have ef2 := kp2 fd _ ef1 nf.1 nf.2
    refine ⟨_, _, _, rfl, ?_⟩
    have kpH : Kp st lg H H2 := (Kp.same tf).trans (kp1.trans kp2)
    refine ⟨_, rfl, st, lg, cl, 4, m + 1 + 1, rfl, by decide, by decide, by omega, S2, fun fz H4 hz4 S4 kp4 => ?_⟩
    have el4 := Tp.kp S2 kp4 _ _ el2
    have ef4 := kp4 fd _ ef2 nf.1 nf.2
    have kp4 := kpH.trans kp4
    clear S1 S2 kp1 kp2 el1 el2 ef1 ef2 kpH
    refine ⟨fun σ H' => ∃ y o v4 v5 v6, σ = [some (.ref st), some (.ref lp), some (.ref ls), some y, v4, v5, v6, none, none] ∧ Bl st lg H' y o ∧ StAt H' st lg cl (m + 5) ∧ Kp st lg H H', ?_, ?_⟩
    · have al : ∀ (xs : List V) H5, (∀ x ∈ xs, Fl x) → xs.length ≤ 10 → Kp st lg H (upd H5 fd (.lst xs)) → StAt H5 st lg cl (m + 5) → ∃ y o v4 v5 v6, [some (.ref st), some (.ref lp), some (.ref ls), some (.ref fd), some (.int (own : Int)), some (.int (mate : Int)), some (.int (fz : Int)), none, none] = [some (.ref st), some (.ref lp), some (.ref ls), some y, v4, v5, v6, none, none] ∧ Bl st lg (upd H5 fd (.lst xs)) y o ∧ StAt (upd H5 fd (.lst xs)) st lg cl (m + 5) ∧ Kp st lg H (upd H5 fd (.lst xs)) := fun xs H5 h1 h2 h3 h4 => ⟨_, _, _, _, _, rfl, .lst nf upd_same h1 h2, stAt_put h4 nf.1 nf.2 (offc S hfd), h3⟩
      refine ⟨_, rfl, rfl, _, rfl, ?_⟩
      rw [dec_int]
      cases c0 : (((fz : Nat) : Int) == 0) with
      | true =>
        obtain ⟨x1, ex1⟩ : ∃ x, line[mate]? = some x := ⟨_, List.getElem?_eq_getElem hmt⟩
        obtain ⟨x2, ex2⟩ : ∃ x, line[own]? = some x := ⟨_, List.getElem?_eq_getElem ho⟩
        refine iteT ⟨_, rfl, _, rfl, ix_either (K := K) (.inl ef4) (NV_get ex1) ⟨_, rfl, _, rfl, ix_either (K := K) (.inl ef4) (NV_get ex2) ⟨(by show 2 ≤ sizeLine; decide), fun q hq => ?_⟩⟩⟩
        have tq := Same.new (o := .tup [V.int (x1 : Int), .int (x2 : Int)]) hq
        refine ⟨q, _, rfl, SqT.of upd_same, rfl, _, _, rfl, _, rfl, _, rfl, fd, NV line, (own : Int), own, rfl, rfl, tq _ _ ef4, ixN_nat (by rw [NV_len]; exact ho), ?_⟩
        refine ⟨_, _, rfl, _, rfl, _, rfl, fd, (NV line).set own (.int (x1 : Int)), (mate : Int), mate, rfl, rfl, upd_same, ixN_nat (by rw [List.length_set, NV_len]; exact hmt), rfl, ?_⟩
        have S5 := stAt_put (ys := (NV line).set own (.int (x1 : Int))) (S4.same tq) nf.1 nf.2 (offc S hfd)
        exact al _ _ (fl_set (fl_set (fl_nv line) (.int _)) (.int _)) (by rw [List.length_set, List.length_set, NV_len]; omega) (Kp.put3 (Kp.put3 (kp4.trans (.same tq)) hfd) hfd) (S5.mono (by omega))
      | false =>
      refine iteF ⟨_, rfl, rfl, _, rfl, ?_⟩
      rw [dec_int]
      cases c1 : (((fz : Nat) : Int) == 1) with
      | true =>
        obtain ⟨x1, ex1⟩ : ∃ x, line[mate]? = some x := ⟨_, List.getElem?_eq_getElem hmt⟩
        refine iteT ⟨_, rfl, _, rfl, _, rfl, ix_either (K := K) (.inl ef4) (NV_get ex1) ⟨_, rfl, lp, _, rfl, .inr (SqT.of el4), _, rfl, (by show 6 ≤ sizeLine; decide), fun q hq => ?_⟩⟩
        have tq := Same.new (o := .lst [V.int (x1 : Int), .int ((NV line).length : Nat), .int (-1), .bl true, .non, .str "0"]) hq
        refine ⟨st, lg, cl, q, _, m + 1 + 1 + 1, rfl, upd_same, (S4.off hq).2, (by show 0 < 6; decide), (by show 6 ≤ 1000; decide), by omega, S4.same tq, fun x H5 hx S5 kp5 => ?_⟩
        have ef5 := kp5 fd _ (tq _ _ ef4) nf.1 nf.2
        have hfx : Fl x := by
          simp only [List.mem_cons, List.not_mem_nil, or_false] at hx
          rcases hx with h | h | h | h | h | h <;> subst h
          · exact .int _
          · exact .int _
          · exact .int _
          · exact .bl _
          · exact .non
          · exact .str "0" (by decide +kernel)
        refine ⟨_, rfl, _, rfl, fd, NV line, (own : Int), own, rfl, rfl, ef5, ixN_nat (by rw [NV_len]; exact ho), ?_⟩
        exact al _ _ (fl_set (fl_nv line) hfx) (by rw [List.length_set, NV_len]; omega) (Kp.put3 ((kp4.trans (.same tq)).trans kp5) hfd) (S5.mono (by omega))
      | false =>
      refine iteF ⟨_, rfl, rfl, _, rfl, ?_⟩
      rw [dec_int]
      cases c2 : (((fz : Nat) : Int) == 2) with
      | true =>
        refine iteT ⟨_, rfl, _, rfl, _, rfl, ?_⟩
        refine ⟨fd, NV line, rfl, SqL.of ef4, fun p1 hp1 => ?_⟩
        have t1 := Same.new (o := .lst (cutV (NV line) (some 1) none)) hp1
        have ecut : cutV (NV line) (some 1) none = (NV line).drop 1 := cut_drop1 (by rw [NV_len]; omega)
        refine ⟨_, rfl, (by show 1 ≤ sizeLine; decide), fun p2 hp2 => ?_⟩
        have t2 := Same.new (o := .lst [V.int 0]) hp2
        refine ⟨fd, p2, NV line, [V.int 0], rfl, rfl, t2 _ _ (t1 _ _ ef4), upd_same, Nat.le_trans (show _ ≤ 10 by rw [NV_len]; show _ + 1 ≤ _; omega) (by decide), fun p3 hp3 => ?_⟩
        have t3 := Same.new (o := .lst (NV line ++ [V.int 0])) hp3
        refine ⟨(by show 0 ≤ sizeLine; decide), fun p4 hp4 => ?_⟩
        have t4 := Same.new (o := .lst []) hp4
        intro p5 hp5
        have t5 := Same.new (o := .dK []) hp5
        refine ⟨(by show 7 ≤ sizeLine; decide), fun p6 hp6 => ?_⟩
        have t6 := Same.new (o := .lst [.ref p1, .ref p3, .ref p4, .ref p5, .non, .int 5, .str "01"]) hp6
        have S5a := S4.same t1
        have S5b := S5a.same t2
        have S5c := S5b.same t3
        have S5d := S5c.same t4
        have S5e := S5d.same t5
        have S5 := S5e.same t6
        have e1 := t6 _ _ (t5 _ _ (t4 _ _ (t3 _ _ (t2 _ _ (new_at (o := .lst (cutV (NV line) (some 1) none)) hp1)))))
        have e3 := t6 _ _ (t5 _ _ (t4 _ _ (new_at (o := .lst (NV line ++ [V.int 0])) hp3)))
        have e4 := t6 _ _ (t5 _ _ (new_at (o := .lst []) hp4))
        have e5 := t6 _ _ (new_at (o := .dK []) hp5)
        refine ⟨st, lg, cl, p6, _, m + 1 + 1 + 1, rfl, upd_same, (S5e.off hp6).2, (by show 0 < 7; decide), (by show 7 ≤ 1000; decide), by omega, S5, fun x H9 hx S9 kp9 => ?_⟩
        have kk : Kp st lg H H9 := (kp4.trans (.same (t1.trans (t2.trans (t3.trans (t4.trans (t5.trans t6))))))).trans kp9
        have S9 := S9.mono (show _ ≤ m + 5 by omega)
        have fin : ∀ y o, Bl st lg H9 y o → ∃ y' o v4 v5 v6, [some (.ref st), some (.ref lp), some (.ref ls), some y, some (.int (own : Int)), some (.int (mate : Int)), some (.int (fz : Int)), none, none] = [some (.ref st), some (.ref lp), some (.ref ls), some y', v4, v5, v6, none, none] ∧ Bl st lg H9 y' o ∧ StAt H9 st lg cl (m + 5) ∧ Kp st lg H H9 := fun y o hb => ⟨_, _, _, _, _, rfl, hb, S9, kk⟩
        simp only [List.mem_cons, List.not_mem_nil, or_false] at hx
        rcases hx with h | h | h | h | h | h | h <;> subst h
        · have e1 := kp9 _ _ e1 (S4.off hp1).1 (S4.off hp1).2
          rw [ecut] at e1
          exact fin _ _ (.lst (S4.off hp1) e1 (fun x hx => fl_nv line x (List.mem_of_mem_drop hx)) (by rw [List.length_drop, NV_len]; omega))
        · exact fin _ _ (.lst (S5b.off hp3) (kp9 _ _ e3 (S5b.off hp3).1 (S5b.off hp3).2) (fl_cat (fl_nv line) (off1 (.int 0))) (by rw [List.length_append, NV_len]; show _ + 1 ≤ _; omega))
        · exact fin _ _ (.lst (S5c.off hp4) (kp9 _ _ e4 (S5c.off hp4).1 (S5c.off hp4).2) (fun x hx => nomatch hx) (by decide))
        · exact fin _ _ (.dK (S5d.off hp5) (kp9 _ _ e5 (S5d.off hp5).1 (S5d.off hp5).2))
        · exact fin _ _ (.flat .non)
        · exact fin _ _ (.flat (.int 5))
        · exact fin _ _ (.flat (.str "01" (by decide +kernel)))
      | false => exact iteF ⟨_, _, _, _, _, rfl, .lst nf ef4 (fl_nv line) (by rw [NV_len]; omega), S4.mono (by omega), kp4⟩
    · rintro σ H5 ⟨y, o, v4, v5, v6, rfl, hb, S5, kp5⟩
      have els := kp5 ls _ hls nl1 nl2
      have rl5 : RL NV H5 us (ords rows) := rl.tp (Tp.kp S kp5)
      rcases hb.cases (K := K) with ⟨t, ht, kt, rfl⟩ | ⟨f, xs, rfl, rfl, n, e, p, l⟩
      · refine ⟨_, rfl, _, _, _, _, false, rfl, .ty "list", ht, kit_ty kt, _, rfl, iteF ?_⟩
        refine ⟨_, rfl, _, rfl, _, rfl, iteF ⟨(by show 2 ≤ sizeLine; decide), fun q hq => ?_⟩⟩
        have tq := Same.new (o := .tup [y, V.bl false]) hq
        exact k y none q _ (hb.mono (.same tq)) upd_same (S5.same tq) (kp5.trans (.same tq))
      · clear hb
        refine ⟨_, rfl, _, _, _, _, true, rfl, .ty "list", .base (.lst e), kit_ty (by decide +kernel), _, rfl, iteT ?_⟩
        refine ⟨_, rfl, f, rfl, ⟨_, SqL.of e⟩, fun D hD => ?_⟩
        refine lcP (walk_list (K := K) (a := f) (xs := xs)) xs (fun x => !(isNum x)) id rfl hD (fun H' s' => SqL.of (s' _ _ e)) (by omega) yAt_same ?_ ?_
        · rintro i x m' H6' H6 N R hm' s6 ⟨rfl, hx⟩ hy hn
          rw [hm'] at hx
          have hx : m' = x := Option.some.inj hx
          subst hx
          have hfl := p _ (List.mem_of_getElem? hm')
          refine ⟨rfl, _, rfl, _, _, rfl, hfl.plN, _, rfl, ?_⟩
          cases c : isNum m' with
          | true => exact iteF (hn (by rw [c]; rfl) _ fun _ _ e => e)
          | false => exact iteT ⟨_, rfl, hy (by rw [c]; rfl) _ fun _ _ e => e⟩
        · intro H6 s6 e6
          rw [List.map_id] at e6
          have hf : ∀ x ∈ xs.filter (fun x => !(isNum x)), Fl x := fun x hx => p x (List.mem_filter.mp hx).1
          refine ⟨(by show 0 ≤ sizeLine; decide), fun z hz => ?_⟩
          have tz := Same.new (o := .lst []) hz
          refine ⟨_, _, .lst (SqL.of (tz _ _ e6)) (dp_fl hf), dp_nil upd_same, shaped_fl _ hf, shaped_nil, ?_⟩
          rw [eqv_fl_nil, filter_none]
          have s5z := s6.trans tz
          generalize upd H6 z (.lst []) = H7 at s5z
          have e7 := s5z _ _ e
          have S7 := S5.same s5z
          have kp7 := kp5.trans (.same s5z)
          refine ⟨_, rfl, _, rfl, _, rfl, ?_⟩
          cases c : xs.all isNum with
          | false =>
            refine iteF ⟨(by show 2 ≤ sizeLine; decide), fun q hq => ?_⟩
            have tq := Same.new (o := .tup [V.ref f, V.bl false]) hq
            exact k _ (some xs) q _ (.lst n (tq _ _ e7) p l) (by rw [not_nums c]; exact upd_same) (S7.same tq) (kp7.trans (.same tq))
          | true =>
            obtain ⟨ns, rfl⟩ := nums_ints c
            refine iteT ⟨_, rfl, f, _, rfl, .inl ⟨SqL.of e7, fun t ht => ?_⟩⟩
            have tt := Same.new (o := .tup (ns.map V.int)) ht
            refine ⟨_, rfl, .tuple (ns.map PyData.int), (ords rows).map lotD, .tup (SqT.of upd_same) (KA.dp_ints ns), .lst (SqL.of (tt _ _ (s5z _ _ els))) (dp_rl dp_lot (rl5.same (s5z.trans tt))), shaped_tup ns, lots_shaped, ?_⟩
            rw [any_lot ns (by omega)]
            refine ⟨(by show 2 ≤ sizeLine; decide), fun q hq => ?_⟩
            have tq := Same.new (o := .tup [V.ref f, V.bl (inTime rows 20 (some (ns.map V.int)))]) hq
            exact k _ (some (ns.map V.int)) q _ (.lst n (tq _ _ (tt _ _ e7)) p l) upd_same ((S7.same tt).same tq) (kp7.trans (.same (tt.trans tq)))
end
end K45
namespace KA
open PySem PySem.Spec PyProof.Rows L2 PySem.W LamX
section
variable {K : PySem.W.Frag} {x qual : Str} {st : Stmt} {f : Addr} {fd : FuncData} {ps ks : List Str}
theorem Fun.kw3 {a b c : Str} (F : Fun K x qual st f fd) (h : ∀ (kV doc pm : Value) (an : Option Addr) (cdv ct u v z : Value), bindArgs (PySem.W.fnOf x qual (defArgs st) (defBody st) (defScope st) .none kV doc pm an cdv ct) ⟨[], [(c, u), (b, v), (a, z)]⟩ = pure [(a, z), (b, v), (c, u)]) :
    KBn K fd [a, b, c] 0 [c, b, a] (fun _ ws => ws.reverse) (fun _ zs => zs.reverse) := by
  obtain ⟨oc, od, kV, doc, pm, an, cdv, ct, osl, rfl, lk, hcd⟩ := F.ex
  refine ⟨fun s us ws X l1 l2 => ?_, fun {_ _ zs ws} _ r => ?_⟩
  · match us, ws, l1, l2 with
    | [], [u, v, z], _, _ => exact .of_eq (h kV doc pm an cdv ct u v z)
  · clear h
    have rev : ∀ {zs : List V} {ws : List Value}, Vals zs ws → Vals zs.reverse ws.reverse := fun {zs ws} r => by
      induction r with
      | nil => exact .nil
      | cons h _ ih =>
        rw [List.reverse_cons, List.reverse_cons]
        exact ih.append (.cons h .nil)
    exact rev r
end
end KA
namespace K45
open PySem PySem.Spec PyProof.Rows L2 PySem.W LamX KA KW KU KL
open Evl (pss_cut tCut)
/-! ### what is kept, held against the law's -/
structure GN (rows : List (List Nat)) : Prop where
  n1 : 1 ≤ rows.length
  n5 : rows.length ≤ 5
  lots : Lots rows
  l2 : ∀ r ∈ rows, r.length ≤ 10
  good : webAns (some rows) = .good
  ord : ∃ l, l ∈ ords rows
abbrev osOf (rows : List (List Nat)) : Option (List (Option (List V))) := some (rows.map fun r => some (NV r))
theorem rowsO_of (rows : List (List Nat)) : rowsO (osOf rows) = rows := rowsOf_wv rows
theorem GN.web {rows : List (List Nat)} (G : GN rows) : webV (osOf rows) = .good := (webV_wv rows).trans G.good
theorem GN.of {K : PySem.W.Frag} {rows : List (List Nat)} (G : GN rows) {H : Hp} {x : V} (w : Wv H x rows) : Web K H x (osOf rows) := web_wv w fun r hr => by have := G.l2 r hr; omega
theorem ask_kept {K : PySem.W.Frag} {CB CW CS : Addr} {rows : List (List Nat)} (G : GN rows) {H : Hp} {x : V} {b : Addr} {p : Int} {lot : List Nat} {Q : VK} {E : XK} (w : Wv H x rows) (p1 : 0 ≤ p) (p2 : p ≤ 20) (hb : H b = some (.tup (NV lot))) (hl : lot ∈ wholes rows) (k : ∀ q H', Same H H' → H' q = some (.tup (NV (keptL rows p lot))) → Q (.ref q) H') : spKept K CB CW CS [x, .int p, .ref b] H Q E := by
  have hm := mem_wholes.mp hl
  have ll : lot.length ≤ 1000 := by
    have := nodup_count (asc_nodup hm.1.1) hm.1.2
    have := G.n5
    omega
  refine ⟨x, .int p, .ref b, osOf rows, true, some (NV lot), rfl, G.of w, .int p, .nv hb ll, fun z => absurd G.web z, fun _ => ⟨fun z => ?_, fun _ => ⟨fun z => ?_, fun _ p' e q H' s' hq => ?_⟩⟩⟩
  · have : within (.int p) 0 20 = true := by
      show (decide ((0 : Int) ≤ p) && decide (p ≤ 20)) = true
      rw [decide_eq_true p1, decide_eq_true p2]
      rfl
    rw [this] at z
    cases z
  · rw [rowsO_of, lotV_NV, nats_NV] at z
    have e1 : lotB rows.length lot = true := lotB_iff.mpr hm.1
    have e2 : wholeB rows lot = true := wholeB_iff.mpr hm.2
    rw [e1, e2] at z
    cases z
  · cases e
    rw [rowsO_of, nats_NV] at hq
    exact k q H' s' hq
theorem ask_most {K : PySem.W.Frag} {CB CW CO : Addr} {rows : List (List Nat)} (G : GN rows) {H : Hp} {x z : V} {p : Int} {line : List Nat} {Q : VK} {E : XK} (w : Wv H x rows) (p1 : 0 ≤ p) (p2 : p ≤ 20) (hz : Gn K H z (some (NV line))) (ho : line ∈ ords rows) (k1 : lag line > p → ∀ H', Same H H' → E (.ref CO) none H') (k2 : ¬ lag line > p → ∀ H', Same H H' → Q (.int (mostK rows p line)) H') : spMostKept K CB CW CO [x, .int p, z] H Q E := by
  refine ⟨x, .int p, z, osOf rows, true, some (NV line), rfl, G.of w, .int p, hz, fun z => absurd G.web z, fun _ => ⟨fun z => ?_, fun _ p' e => ⟨fun z => ?_, fun z => ?_⟩⟩⟩
  · have : within (.int p) 0 20 = true := by
      show (decide ((0 : Int) ≤ p) && decide (p ≤ 20)) = true
      rw [decide_eq_true p1, decide_eq_true p2]
      rfl
    rw [this] at z
    cases z
  · cases e
    rw [rowsO_of, inTime_ord ho p1, decide_eq_false_iff_not] at z
    exact k1 (by omega)
  · cases e
    rw [rowsO_of, inTime_ord ho p1, decide_eq_true_eq] at z
    rw [rowsO_of, nats_NV]
    exact k2 (by omega)
structure LB (Pk Pt st lg cl a ls : Addr) (ws us : List V) (rows : List (List Nat)) (m : Nat) (H : Hp) : Prop where
  S : StAt H st lg cl m
  Tb : Tabs (tabs Pk Pt) H
  ha : H a = some (.lst ws)
  na : a ≠ st ∧ a ≠ lg
  rl : RL NV H ws rows
  hls : H ls = some (.lst us)
  nls : ls ≠ st ∧ ls ≠ lg
  rls : RL NV H us (ords rows)
  G : GN rows
section
variable {Pk Pt st lg cl a ls : Addr} {ws us : List V} {rows : List (List Nat)} {m m' : Nat} {H H' : Hp}
theorem LB.kn (B : LB Pk Pt st lg cl a ls ws us rows m H) (k : KpN st lg H H') (S : StAt H' st lg cl m') (Tb : Tabs (tabs Pk Pt) H') : LB Pk Pt st lg cl a ls ws us rows m' H' :=
  { B with S := S, Tb := Tb, ha := k.lst B.na B.ha, rl := B.rl.tp (KpN.tp B.S k), hls := k.lst B.nls B.hls, rls := B.rls.tp (KpN.tp B.S k) }
theorem LB.kp (B : LB Pk Pt st lg cl a ls ws us rows m H) (k : Kp st lg H H') (S : StAt H' st lg cl m') : LB Pk Pt st lg cl a ls ws us rows m' H' := B.kn (.kp k) S (tabs_kp B.Tb B.S k)
theorem LB.same (B : LB Pk Pt st lg cl a ls ws us rows m H) (k : Same H H') : LB Pk Pt st lg cl a ls ws us rows m H' := B.kp (.same k) (B.S.same k)
theorem LB.wv (B : LB Pk Pt st lg cl a ls ws us rows m H) : Wv H (.ref a) rows := ⟨a, ws, rfl, .inl B.ha, B.rl⟩
end
def twoD (s : List Nat) : PyData := .list [lotD s, lotD s]
theorem two_sm {s : List Nat} (h1 : s.length ≤ 10) (h2 : ∀ x ∈ s, x ≤ 1000) : Sm 822 2 (twoD s) := sm_list (n := 410) (z := 1) (k := 2) (fun d hd => by
  simp only [List.mem_cons, List.not_mem_nil, or_false] at hd
  rcases hd with rfl | rfl <;> exact sm_lot h1 h2) (by show 2 ≤ 2; decide)
theorem two_dp {K : PySem.W.Frag} {H : Hp} {q p1 p2 : Addr} {s : List Nat} (e : H q = some (.lst [.ref p1, .ref p2])) (e1 : H p1 = some (.tup (NV s))) (e2 : H p2 = some (.tup (NV s))) : Dp K H (.ref q) (twoD s) := .lst (SqL.of e) (.cons (dp_lot _ _ e1) (.cons (dp_lot _ _ e2) .nil))
def twoI (i : Int) : PyData := .list [.int i, .int i]
theorem twoI_sm {i : Int} (h1 : -100000000000 ≤ i) (h2 : i ≤ 100000000000) : Sm 82 1 (twoI i) := sm_list (n := 40) (z := 0) (k := 2) (fun d hd => by
  simp only [List.mem_cons, List.not_mem_nil, or_false] at hd
  rcases hd with rfl | rfl <;> exact sm_int h1 h2) (by show 2 ≤ 2; decide)
theorem twoI_dp {K : PySem.W.Frag} {H : Hp} {q : Addr} {i : Int} (e : H q = some (.lst [.int i, .int i])) : Dp K H (.ref q) (twoI i) := .lst (SqL.of e) (.cons (.int _) (.cons (.int _) .nil))
theorem kept_len {rows : List (List Nat)} {p : Int} {lot : List Nat} : (keptL rows p lot).length ≤ lot.length := List.length_filter_le _ _
theorem most_in {rows : List (List Nat)} {p : Int} {line : List Nat} (h : line.length ≤ 10) (h1 : 1 ≤ line.length) : 0 ≤ mostK rows p line ∧ mostK rows p line ≤ 1000 := by
  have ne : manyK rows p line ≠ [] := fun e => by
    have l : (manyK rows p line).length = line.length := by unfold manyK; rw [List.length_map, List.length_range]
    rw [e] at l
    have l : 0 = line.length := l
    omega
  obtain ⟨a, _⟩ := maxI_spec _ ne
  obtain ⟨t, ht, e⟩ := List.mem_map.mp a
  have := List.mem_range.mp ht
  have l1 := kept_len (rows := rows) (p := p) (lot := inOrder rows.length (line.take (t + 1)))
  have l2 : (inOrder rows.length (line.take (t + 1))).length ≤ 10 := by
    have := nodup_le (inOrder rows.length (line.take (t + 1))) (line.take (t + 1)) (asc_nodup inOrder_asc) fun x hx => (mem_inOrder.mp hx).2
    rw [List.length_take] at this
    omega
  unfold mostK
  omega
theorem nexts_fine {rows : List (List Nat)} {l : List Nat} (h : Tpl rows l) : (nexts rows l).length ≤ rows.length - l.length := by
  unfold nexts
  rw [List.length_map]
  have := nodup_count (n := rows.length) (l := l ++ (List.range rows.length).filter fun o => !(inB l o) && (row rows o).all (inB l)) (by
    rw [List.nodup_append]
    refine ⟨h.nd, (asc_nodup (range_asc _)).filter _, fun a ha b hb e => ?_⟩
    rw [List.mem_filter, Bool.and_eq_true, inB_iff.mpr (e ▸ ha)] at hb
    exact absurd hb.2.1 (by decide)) (fun x hx => by
    rcases List.mem_append.mp hx with hx | hx
    · exact h.lt x hx
    · exact List.mem_range.mp (List.mem_filter.mp hx).1)
  rw [List.length_append] at this
  omega
def falls (n : Nat) : Nat → Nat
  | 0 => 1
  | k + 1 => falls n k * (n - k)
theorem flat_le2 {α β : Type} {f : α → List β} {n : Nat} : ∀ l : List α, (∀ a ∈ l, (f a).length ≤ n) → (l.flatMap f).length ≤ l.length * n
  | [], _ => Nat.zero_le _
  | a :: l, h => by
    rw [List.flatMap_cons, List.length_append, List.length_cons, Nat.succ_mul]
    have := flat_le2 l fun b hb => h b (List.mem_cons_of_mem _ hb)
    have := h a List.mem_cons_self
    omega
theorem ordsN_falls {rows : List (List Nat)} : ∀ k, (ordsN rows k).length ≤ falls rows.length k
  | 0 => Nat.le_refl _
  | k + 1 => by
    refine Nat.le_trans (flat_le2 (n := rows.length - k) (ordsN rows k) fun l hl => ?_) (Nat.mul_le_mul_right _ (ordsN_falls k))
    obtain ⟨h, e⟩ := (mem_ordsN k l).mp hl
    rw [← e]
    exact nexts_fine h
theorem ords_few {rows : List (List Nat)} (h : rows.length ≤ 5) : (ords rows).length ≤ 120 := by
  refine Nat.le_trans (ordsN_falls _) ?_
  generalize rows.length = n at h
  match n, h with
  | 0, _ => decide
  | 1, _ => decide
  | 2, _ => decide
  | 3, _ => decide
  | 4, _ => decide
  | 5, _ => decide
def spKeptRight (Pk Pt : Addr) : Sp := fun vs H Q _ => ∃ (st lg cl a ls : Addr) (ws us : List V) (rows : List (List Nat)) (m : Nat), vs = [.ref st, .ref a, .ref ls] ∧ m ≤ 800000 ∧ LB Pk Pt st lg cl a ls ws us rows m H ∧
  ∀ H', StAt H' st lg cl (m + 9) → Tabs (tabs Pk Pt) H' → KpN st lg H H' → Q (.bl true) H'
section
variable {P : Program} {w : World} {K : PySem.W.Frag} {mg : Str → Option Value} {base : Heap} (T : Top K mg) (BW : BadWebT P w K mg T.reel.C)
include BW in
theorem ok_kept_right {c Pk Pt : Addr} (nP : Pk ≠ Pt) (LT : LamT K "_law_kept_right" s__law_kept_right T._law_kept_right.a T._law_kept_right.d c Pk) (TB : TabB base mg c Pk) : FnG P w K mg base (L2.CX P w) 10 T._law_kept_right.a T._law_kept_right.d ["state", "net", "lines"] (spKeptRight Pk Pt) := by
  refine fnG_ofC (N := ["state", "net", "lines", "lap", "lot", "due", "found", "line", "pause"]) LT sc__law_kept_right (fun vs H Q E h => ?_) (fun A outer s0 H vs Q E hr hg h => ?_)
  · obtain ⟨st, lg, cl, a, ls, ws, us, rows, m, rfl, _⟩ := h
    rfl
  · obtain ⟨st, lg, cl, a, ls, ws, us, rows, m, rfl, hm, B, k⟩ := h
    refine ⟨_, (pss_cons (ps_for (passes_of rfl) rfl (pi_range1 (by rfl) T.b_range (pa_cons pe_int pa_nil)) (pg_name (i := 3) sc__law_kept_right.nd rfl (by first | exact .inl rfl | exact .inr rfl))
        (pss_cons (ps_asg (pe_tup (pa_cons (pe_call (ok_pick T) (hr.mono (by decide)) (by rfl) T._law_pick.m T._law_pick.f.kp (bd__law_pick T) .nil passE (pa_cons (pv 0) (pa_cons (pe_lst (pa_cons pe_int (pa_cons pe_int (pa_cons pe_int (pa_cons pe_int (pa_cons pe_int (pa_cons pe_int (pa_cons pe_int pa_nil)))))))) pa_nil))) (pa_cons (pe_call (ok_pick T) (hr.mono (by decide)) (by rfl) T._law_pick.m T._law_pick.f.kp (bd__law_pick T) .nil passE (pa_cons (pv 0) (pa_cons (pe_call (ok_shut_lots T) (hr.mono (by decide)) (by rfl) T._law_shut_lots.m T._law_shut_lots.f.kp (bd__law_shut_lots T) .nil passE (pa_cons (pv 1) pa_nil)) pa_nil))) pa_nil))) (pg_tup rfl (pgs_cons (pg_name (i := 8) sc__law_kept_right.nd rfl (by first | exact .inl rfl | exact .inr rfl)) (pgs_cons (pg_name (i := 4) sc__law_kept_right.nd rfl (by first | exact .inl rfl | exact .inr rfl)) pgs_nil))))
      (pss_cons (ps_set (i := 5) sc__law_kept_right.nd rfl (by first | exact .inl rfl | exact .inr rfl) (pe_call (ok_held T) (hr.mono (by decide)) (by rfl) T._law_held.m T._law_held.f.kp (bd__law_held T) .nil passE (pa_cons (pv 1) (pa_cons (pv 8) (pa_cons (pv 4) pa_nil)))))
      (pss_cons (ps_if (pt_cmpR op_ne (pe_callB (show CallR _ _ (rRepr K) from call_repr hg hr) (by rfl) T.b_repr (by decide +kernel) (pa_cons (pe_lst (pa_cons (pe_call (ok_kept T BW) (hr.mono (by decide)) (by rfl) T.kept.m T.kept.f.kp (bd_kept T) .nil passE (pa_cons (pv 1) (pa_cons (pv 8) (pa_cons (pv 4) pa_nil)))) (pa_cons (pe_kw (ok_kept T BW) (hr.mono (by decide)) (by rfl) T.kept.m T.kept.f.kp (KA.Fun.kw3 T.kept.f fun _ _ _ _ _ _ _ _ _ => rfl) passE (pk_cons (pv 4) (pk_cons (pv 8) (pk_cons (pv 1) pk_nil)))) pa_nil))) pa_nil)) (pe_callB (show CallR _ _ (rRepr K) from call_repr hg hr) (by rfl) T.b_repr (by decide +kernel) (pa_cons (pe_lst (pa_cons (pv 5) (pa_cons (pv 5) pa_nil))) pa_nil)) (nomark _)) (pss_one (ps_ret pe_bl)) pss_nil)
      (pss_cons (ps_set (i := 7) sc__law_kept_right.nd rfl (by first | exact .inl rfl | exact .inr rfl) (pe_call (ok_pick T) (hr.mono (by decide)) (by rfl) T._law_pick.m T._law_pick.f.kp (bd__law_pick T) .nil passE (pa_cons (pv 0) (pa_cons (pv 2) pa_nil))))
      (pss_one (ps_if (pt_cmpR op_gt (pe_call (ok_lag T) (hr.mono (by decide)) (by rfl) T._law_lag.m T._law_lag.f.kp (bd__law_lag T) .nil passE (pa_cons (pv 7) pa_nil)) (pv 8) (nomark _)) (pss_one (ps_if (pt_not (pt_val (pe_callB (show CallR _ _ (rIs2 K) from call_is2) (by rfl) T.b_isinstance PyProof.Rows.boot_isinstance (pa_cons (pe_caught1 T TB rfl (show Room (7 + 2) _ from hr) (by rfl) List.mem_cons_self (one_k nP) (lamS_by (sc := defScope s__law_kept_right) (by decide +kernel)) rfl (fun _ _ _ _ _ => rfl) (fun A outer s H E f c h => (pe_call (ok_most_kept T BW) (h.mono (by decide)) (by rfl) T.most_kept.m T.most_kept.f.kp (bd_most_kept T) .nil (passX rfl rfl rfl rfl) (pa_cons (pv 1) (pa_cons (pv 8) (pa_cons (pv 7) pa_nil)))))) (pa_cons (pe_glob (v := .ref T.BadOrder.C) (by rfl) T.BadOrder.g rfl) pa_nil))))) (pss_one (ps_ret pe_bl)) pss_nil)) (pss_cons (ps_set (i := 5) sc__law_kept_right.nd rfl (by first | exact .inl rfl | exact .inr rfl) (pe_call (ok_most_held T) (hr.mono (by decide)) (by rfl) T._law_most_held.m T._law_most_held.f.kp (bd__law_most_held T) .nil passE (pa_cons (pv 1) (pa_cons (pv 8) (pa_cons (pv 7) pa_nil)))))
      (pss_cons (ps_set (i := 6) sc__law_kept_right.nd rfl (by first | exact .inl rfl | exact .inr rfl) (pe_lst (pa_cons (pe_call (ok_most_kept T BW) (hr.mono (by decide)) (by rfl) T.most_kept.m T.most_kept.f.kp (bd_most_kept T) .nil passE (pa_cons (pv 1) (pa_cons (pv 8) (pa_cons (pv 7) pa_nil)))) (pa_cons (pe_kw (ok_most_kept T BW) (hr.mono (by decide)) (by rfl) T.most_kept.m T.most_kept.f.kp (KA.Fun.kw3 T.most_kept.f fun _ _ _ _ _ _ _ _ _ => rfl) passE (pk_cons (pe_callTy call_list_of (by rfl) T.b_list (by decide +kernel) (pa_cons (pv 7) pa_nil)) (pk_cons (pv 8) (pk_cons (pv 1) pk_nil)))) pa_nil))))
      (pss_one (ps_if (pt_cmpR op_ne (pe_callB (show CallR _ _ (rRepr K) from call_repr hg hr) (by rfl) T.b_repr (by decide +kernel) (pa_cons (pv 6) pa_nil)) (pe_callB (show CallR _ _ (rRepr K) from call_repr hg hr) (by rfl) T.b_repr (by decide +kernel) (pa_cons (pe_lst (pa_cons (pv 5) (pa_cons (pv 5) pa_nil))) pa_nil)) (nomark _)) (pss_one (ps_ret pe_bl)) pss_nil)))))))))))
      (pss_one (ps_ret pe_bl))), ?_⟩
    refine ⟨3, rfl, by decide, by decide, ?_⟩
    refine for_it (walk_rangeN (n := 3)) (fun i σ H' => (∃ v3 v4 v5 v6 v7 v8, σ = [some (.ref st), some (.ref a), some (.ref ls), v3, v4, v5, v6, v7, v8]) ∧ LB Pk Pt st lg cl a ls ws us rows (m + 3 * i) H' ∧ KpN st lg H H') ⟨⟨none, none, none, none, none, none, rfl⟩, B, .refl⟩ (fun _ _ _ _ _ => trivial) ?_ ?_
    · rintro i x σ H1' H1 hi ⟨⟨v3, v4, v5, v6, v7, v8, rfl⟩, B1, k1⟩ ⟨rfl, rfl⟩
      have n1 := B1.G.n1
      have n5 := B1.G.n5
      refine ⟨_, rfl, (by show 7 ≤ sizeLine; decide), fun p1 hp1 => ?_⟩
      have t1 := Same.new (o := .lst [V.int 0, .int 0, .int 1, .int 2, .int 3, .int 5, .int 20]) hp1
      refine ⟨st, lg, cl, p1, _, m + 3 * i, rfl, upd_same, (B1.S.off hp1).2, (by show 0 < 7; decide), (by show 7 ≤ 1000; decide), by omega, B1.S.same t1, fun x H2 hx S2 kp2 => ?_⟩
      obtain ⟨p, rfl, p0, p20⟩ : ∃ p : Int, x = .int p ∧ 0 ≤ p ∧ p ≤ 20 := by
        simp only [List.mem_cons, List.not_mem_nil, or_false] at hx
        rcases hx with h | h | h | h | h | h | h <;> subst h <;> exact ⟨_, rfl, by decide, by decide⟩
      have kp12 := (Kp.same t1).trans kp2
      have B2 := B1.kp kp12 S2
      have k2 := k1.trans (.kp kp12)
      clear hx t1 hp1 kp2 kp12 B1 k1
      have l2w : ∀ r ∈ rows, r.length ≤ 1000 := fun r hr => by have := B2.G.l2 r hr; omega
      refine ⟨_, rfl, _, rfl, a, ws, rows, rfl, B2.ha, B2.rl, by omega, l2w, fun q us' ls' H3 s3 nq e3 r3 pm => ?_⟩
      have B3 := B2.same s3
      have nq3 := B2.S.off nq
      have l32 : ls'.length ≤ 32 := by
        rw [pm.length_eq]
        refine Nat.le_trans (List.length_filter_le _ _) ?_
        rw [subs_len]
        exact Nat.pow_le_pow_right (by decide) n5
      have lpos : 0 < ls'.length := List.length_pos_of_mem (pm.mem_iff.mpr (nil_wholes rows))
      refine ⟨st, lg, cl, q, us', m + 3 * i + 1, rfl, e3, nq3.2, by rw [r3.1]; exact lpos, by rw [r3.1]; omega, by omega, B3.S, fun y H4 hy S4 kp4 => ?_⟩
      obtain ⟨iy, hiy⟩ := List.getElem?_of_mem hy
      obtain ⟨b, lot, rfl, elot, hb3⟩ := r3.get hiy
      have hlot : lot ∈ wholes rows := pm.mem_iff.mp (List.mem_of_getElem? elot)
      have hb4 := Tp.kp B3.S kp4 _ _ hb3
      have B4 := B3.kp kp4 S4
      have k4 := (k2.trans (.kp (.same s3))).trans (.kp kp4)
      clear hy hiy elot r3 e3 nq nq3 pm l32 lpos B2 S2 k2 B3 s3 kp4 hb3
      refine ⟨(by show 2 ≤ sizeLine; decide), fun z hz => ?_⟩
      have tz := Same.new (o := .tup [V.int p, .ref b]) hz
      refine ⟨z, _, rfl, SqT.of upd_same, rfl, _, _, rfl, _, _, rfl, rfl, ?_⟩
      have B5 := B4.same tz
      have k5 := k4.trans (.kp (.same tz))
      have hb5 := tz _ _ hb4
      generalize upd H4 z (.tup [V.int p, .ref b]) = H5 at B5 k5 hb5
      clear tz hz B4 k4 hb4 S4
      have hmw := mem_wholes.mp hlot
      have llen : lot.length ≤ 5 := by
        have := nodup_count (asc_nodup hmw.1.1) hmw.1.2
        omega
      refine ⟨_, rfl, _, rfl, _, rfl, a, b, p, ws, rows, lot, rfl, B5.ha, B5.rl, by omega, hb5, by omega, fun d H6 s6 e6 => ?_⟩
      have B6 := B5.same s6
      have hb6 := s6 _ _ hb5
      refine ⟨_, rfl, _, rfl, _, rfl, ?_⟩
      dsimp only [tNil]
      refine ask_kept B6.G B6.wv p0 p20 hb6 hlot fun c1 H7 s7 e7 => ?_
      have B7 := B6.same s7
      refine ⟨_, rfl, _, rfl, _, rfl, rfl, ?_⟩
      dsimp only [tNil]
      refine ask_kept B7.G B7.wv p0 p20 (s7 _ _ hb6) hlot fun c2 H8 s8 e8 => ?_
      refine ⟨(by show 2 ≤ sizeLine; decide), fun q1 hq1 => ?_⟩
      have t9 := Same.new (o := .lst [V.ref c1, .ref c2]) hq1
      have kl : (keptL rows p lot).length ≤ 10 := Nat.le_trans kept_len (by omega)
      have klt : ∀ x ∈ keptL rows p lot, x ≤ 1000 := fun x hx => by
        have := hmw.1.2 x (List.mem_filter.mp hx).1
        omega
      obtain ⟨x1, x2, x3, x4⟩ := (two_sm kl klt).repr (by decide) (by decide)
      refine ⟨q1, _, rfl, two_dp upd_same (t9 _ _ (s8 _ _ e7)) (t9 _ _ e8), x1, x2, x3, x4, ?_⟩
      have e69 := t9 _ _ (s8 _ _ (s7 _ _ e6))
      refine ⟨_, rfl, _, rfl, (by show 2 ≤ sizeLine; decide), fun q2 hq2 => ?_⟩
      have t10 := Same.new (o := .lst [V.ref d, .ref d]) hq2
      refine ⟨q2, _, rfl, two_dp upd_same (t10 _ _ e69) (t10 _ _ e69), x1, x2, x3, x4, rfl, _, rfl, ?_⟩
      rw [decide_eq_true rfl]
      refine iteF ?_
      have s610 := ((s7.trans s8).trans t9).trans t10
      have B10 := B6.same s610
      have k10 := k5.trans (.kp (.same (s6.trans s610)))
      generalize upd (upd H8 q1 (.lst [V.ref c1, .ref c2])) q2 (.lst [V.ref d, .ref d]) = H10 at B10 k10
      clear B5 k5 hb5 s6 e6 B6 hb6 s7 e7 B7 s8 e8 t9 t10 e69 s610 hq1 hq2 x1 x2 x3 x4
      have ol := ords_few B10.G.n5
      obtain ⟨l0, hl0⟩ := B10.G.ord
      refine ⟨_, rfl, _, rfl, st, lg, cl, ls, us, m + 3 * i + 1 + 1, rfl, B10.hls, B10.nls.2, by rw [B10.rls.1]; exact List.length_pos_of_mem hl0, by rw [B10.rls.1]; omega, by omega, B10.S, fun y H11 hy S11 kp11 => ?_⟩
      obtain ⟨iy, hiy⟩ := List.getElem?_of_mem hy
      obtain ⟨lp, line, rfl, eline, hl10⟩ := B10.rls.get hiy
      have hord : line ∈ ords rows := List.mem_of_getElem? eline
      have hl11 := Tp.kp B10.S kp11 _ _ hl10
      have B11 := B10.kp kp11 S11
      have k11 := k10.trans (.kp kp11)
      clear hy hiy eline hl10 B10 k10 kp11 hl0
      obtain ⟨tpl, len⟩ := mem_ords.mp hord
      refine ⟨_, rfl, lp, line, rfl, hl11, by omega, fun H12 s12 => ?_⟩
      have B12 := B11.same s12
      have hl12 := s12 _ _ hl11
      have k12 := k11.trans (.kp (.same s12))
      clear B11 k11 hl11 s12 S11
      refine ⟨_, rfl, _, _, rfl, rfl, _, rfl, ?_⟩
      by_cases c : lag line > p
      · rw [decide_eq_true c]
        refine iteT ?_
        refine caught_err1 (m' := m + 3 * i + 1 + 1 + 1) T T.BadOrder B12.Tb B12.S (fun H13 E13 Q13 e13 S13 r13 => ?_) (fun x1 H13 S13 Tb13 kN13 hx1 na1 nb1 => ?_)
        · have kx : KpN st lg H12 H13 := .ext e13
          have hl13 := KpN.tp B12.S kx _ _ hl12
          have w13 : Wv H13 (.ref a) rows := ⟨a, ws, rfl, .inl (kx.lst B12.na B12.ha), B12.rl.tp (KpN.tp B12.S kx)⟩
          exact ⟨_, rfl, _, rfl, _, rfl, ask_most B12.G w13 p0 p20 (.some (.inr hl13) (fl_nv line) (by rw [NV_len]; omega)) hord (fun _ H' s' => r13 H' (Kp.same s') (S13.same s')) (fun h => absurd c h)⟩
        refine .inr ⟨x1, T.BadOrder.C, _, _, true, rfl, hx1, T.BadOrder.e, .own _, kit_self, _, rfl, iteF ?_⟩
        exact ⟨⟨_, _, _, _, _, _, rfl⟩, (B12.kn kN13 S13 Tb13 : LB Pk Pt st lg cl a ls ws us rows (m + 3 * (i + 1)) H13), k12.trans kN13⟩
      · rw [decide_eq_false c]
        refine iteF ?_
        refine ⟨_, rfl, _, rfl, _, rfl, a, lp, p, ws, rows, line, rfl, B12.ha, B12.rl, n1, by omega, hl12, hord, fun H13 s13 => ?_⟩
        have B13 := B12.same s13
        have hl13 := s13 _ _ hl12
        refine ⟨_, rfl, _, rfl, _, rfl, ?_⟩
        dsimp only [tNil]
        refine ask_most B13.G B13.wv p0 p20 (.some (.inr hl13) (fl_nv line) (by rw [NV_len]; omega)) hord (fun h => absurd h c) fun _ H14 s14 => ?_
        have B14 := B13.same s14
        refine ⟨_, rfl, lp, _, rfl, .inr (SqT.of (s14 _ _ hl13)), fun lc hlc => ?_⟩
        have t15 := Same.new (o := .lst (NV line)) hlc
        have B15 := B14.same t15
        refine ⟨_, rfl, _, rfl, rfl, ?_⟩
        dsimp only [tNil]
        refine ask_most B15.G B15.wv p0 p20 (.some (.inl upd_same) (fl_nv line) (by rw [NV_len]; omega)) hord (fun h => absurd h c) fun _ H16 s16 => ?_
        refine ⟨(by show 2 ≤ sizeLine; decide), fun q1 hq1 => ?_⟩
        have t17 := Same.new (o := .lst [V.int (mostK rows p line), .int (mostK rows p line)]) hq1
        have mi := most_in (rows := rows) (p := p) (line := line) (by omega) (by omega)
        obtain ⟨x1, x2, x3, x4⟩ := (twoI_sm (i := mostK rows p line) (by omega) (by omega)).repr (by decide) (by decide)
        refine ⟨_, rfl, q1, _, rfl, twoI_dp upd_same, x1, x2, x3, x4, ?_⟩
        refine ⟨_, rfl, _, rfl, (by show 2 ≤ sizeLine; decide), fun q2 hq2 => ?_⟩
        have t18 := Same.new (o := .lst [V.int (mostK rows p line), .int (mostK rows p line)]) hq2
        refine ⟨q2, _, rfl, twoI_dp upd_same, x1, x2, x3, x4, rfl, _, rfl, ?_⟩
        rw [decide_eq_true rfl]
        refine iteF ?_
        have s1218 := ((((s13.trans s14).trans t15).trans s16).trans t17).trans t18
        exact ⟨⟨_, _, _, _, _, _, rfl⟩, (B12.same s1218 : LB Pk Pt st lg cl a ls ws us rows (m + 3 * (i + 1)) _), k12.trans (.kp (.same s1218))⟩
    · rintro σ H1 ⟨⟨v3, v4, v5, v6, v7, v8, rfl⟩, B1, k1⟩
      exact k H1 B1.S B1.Tb k1
end
end K45
namespace K45
open PySem PySem.Spec PyProof.Rows L2 PySem.W LamX KA KW KU KL
open Evl (pss_cut tCut)
/-! ### what a lambda comes to: nothing, an error without a field, an error of a web -/
def Er1 (C st lg : Addr) (H : Hp) (y : V) : Prop := ∃ a, y = .ref a ∧ H a = some (ExV (.ref C) none a) ∧ a ≠ st ∧ a ≠ lg
def Er2 (C st lg : Addr) (x : V) (H : Hp) (y : V) : Prop := ∃ a d, y = .ref a ∧ H a = some (ExV (.ref C) (some d) a) ∧ H d = some (.xd [("at", x)]) ∧ (a ≠ st ∧ a ≠ lg) ∧ d ≠ st ∧ d ≠ lg
theorem Er1.kn {C st lg : Addr} {H H' : Hp} {y : V} (h : Er1 C st lg H y) (k : KpN st lg H H') : Er1 C st lg H' y := by
  obtain ⟨a, rfl, e, n1, n2⟩ := h
  exact ⟨a, rfl, k _ _ e n1 n2 exV_tbl, n1, n2⟩
theorem Er2.kn {C st lg : Addr} {x : V} {H H' : Hp} {y : V} (h : Er2 C st lg x H y) (k : KpN st lg H H') : Er2 C st lg x H' y := by
  obtain ⟨a, d, rfl, e, f, n, m⟩ := h
  exact ⟨a, d, rfl, k _ _ e n.1 n.2 exV_tbl, k _ _ f m.1 m.2 (fun ps z => by cases z), n, m⟩
/-- what is kept of a call -/
def Ca (g0 g1 g2 : Prop) (C CB st lg : Addr) (x : V) (H : Hp) (y : V) : Prop := (g0 ∧ y = .non) ∨ (g1 ∧ Er1 C st lg H y) ∨ (g2 ∧ Er2 CB st lg x H y)
theorem Ca.kn {g0 g1 g2 : Prop} {C CB st lg : Addr} {x : V} {H H' : Hp} {y : V} (h : Ca g0 g1 g2 C CB st lg x H y) (k : KpN st lg H H') : Ca g0 g1 g2 C CB st lg x H' y := by
  rcases h with h | h | h
  · exact .inl h
  · exact .inr (.inl ⟨h.1, h.2.kn k⟩)
  · exact .inr (.inr ⟨h.1, h.2.kn k⟩)
theorem caught_any {P : Program} {w : World} {K : PySem.W.Frag} {mg : Str → Option Value} (T : Top K mg) (BW : BadWebT P w K mg T.reel.C) {n : Str} (X : ExcT K mg n T.reel.C) {Pk Pt st lg cl : Addr} {m : Nat} {x : V} {t : XK → TE} {σ : L2.St} {H : Hp} {Q : VK} (g0 g1 g2 : Prop) (hT : Tabs (tabs Pk Pt) H) (S : StAt H st lg cl m)
    (A : ∀ (H1 : Hp) (E : XK) (Q1 : VK), ExtN H H1 → StAt H1 st lg cl m → (g0 → ∀ v H2, Same H1 H2 → Q1 v H2) → (g1 → ∀ H2, Same H1 H2 → E (.ref X.C) none H2) → (g2 → ∀ H2 d, Same H1 H2 → H2 d = none → E (.ref BW.C) (some d) (upd H2 d (.xd [("at", x)]))) → t E σ H1 Q1)
    (k : ∀ y H', StAt H' st lg cl m → Tabs (tabs Pk Pt) H' → KpN st lg H H' → Ca g0 g1 g2 X.C BW.C st lg x H' y → Q y H') : tLam (tabs Pk Pt) (TCaught K T.reel.C) t σ H Q := by
  refine ⟨hT, fun H1 e1 t1 Q1 hQ1 => A H1 _ Q1 e1 (stAt_ext S e1) (fun h v H2 s2 => ?_) (fun h H2 s2 => ⟨X.exm T.reel, fun a ha => ?_⟩) fun h H2 d s2 hd => ⟨bw_exm T.reel BW, fun a ha => ?_⟩⟩
  · have S1 := stAt_ext S e1
    exact hQ1 v H2 (k _ _ (S1.same s2) (t1.ext s2) ((KpN.ext e1).trans (.same s2)) (.inl ⟨h, rfl⟩))
  · have S1 := stAt_ext S e1
    have n2 := Same.new (o := ExV (.ref X.C) none a) ha
    have s12 := s2.trans n2
    have off := (S1.same s2).off ha
    exact k _ _ (S1.same s12) (t1.ext s12) ((KpN.ext e1).trans (.same s12)) (.inr (.inl ⟨h, a, rfl, upd_same, off.1, off.2⟩))
  · have S1 := stAt_ext S e1
    have n1 := Same.new (o := .xd [("at", x)]) hd
    have n2 := Same.new (o := ExV (.ref BW.C) (some d) a) ha
    have s12 := (s2.trans n1).trans n2
    exact k _ _ (S1.same s12) (t1.ext s12) ((KpN.ext e1).trans (.same s12)) (.inr (.inr ⟨h, a, d, rfl, upd_same, n2 _ _ upd_same, (S1.same (s2.trans n1)).off ha, (S1.same s2).off hd⟩))
def rIsN : R2 := fun x y H Q => y = V.non ∧ Q (V.bl (decide (x = V.non))) H
theorem tabs_put {L : List (Addr × Str)} {H : Hp} {e : Addr} {xs ys : List V} (t : Tabs L H) (h : H e = some (.lst xs)) : Tabs L (upd H e (.lst ys)) := by
  intro p hp
  obtain ⟨ps, h1, h2, h3⟩ := t p hp
  refine ⟨ps, (upd_ne (fun z => by rw [z, h] at h1; cases h1)).trans h1, h2, fun pos cv hc => ?_⟩
  obtain ⟨c, e1, e2⟩ := h3 pos cv hc
  exact ⟨c, e1, (upd_ne (fun z => by rw [z, h] at e2; unfold CodeO at e2; cases e2)).trans e2⟩
theorem KpN.own {st lg D : Addr} {H H6 H8 : Hp} {o : HO} (k6 : KpN st lg H H6) (h : H6 D = none) (k8 : KpN st lg H H8) : KpN st lg H (upd H8 D o) := fun b u e n1 n2 n3 => by
  have := k6 b u e n1 n2 n3
  rw [upd_ne (fun z => by rw [z, h] at this; cases this)]
  exact k8 _ _ e n1 n2 n3
theorem Ca.put {g0 g1 g2 : Prop} {C CB st lg so : Addr} {x : V} {H : Hp} {y : V} {xs : List V} {o : HO} (h : Ca g0 g1 g2 C CB st lg x H y) (e : H so = some (.lst xs)) : Ca g0 g1 g2 C CB st lg x (upd H so o) y := by
  rcases h with h | ⟨h, a, rfl, e1, n⟩ | ⟨h, a, d, rfl, e1, e2, n⟩
  · exact .inl h
  · exact .inr (.inl ⟨h, a, rfl, (upd_ne (fun z => by rw [z, e] at e1; exact exV_lst _ (Option.some.inj e1).symm)).trans e1, n⟩)
  · exact .inr (.inr ⟨h, a, d, rfl, (upd_ne (fun z => by rw [z, e] at e1; exact exV_lst _ (Option.some.inj e1).symm)).trans e1, (upd_ne (fun z => by rw [z, e] at e2; cases e2)).trans e2, n⟩)
/-- one is kept in a new list, the other put behind it -/
structure Two (Pk Pt st lg cl so : Addr) (y1 y2 : V) (m : Nat) (H5 H9 : Hp) : Prop where
  S : StAt H9 st lg cl m
  Tb : Tabs (tabs Pk Pt) H9
  k : KpN st lg H5 H9
  e : H9 so = some (.lst [y1, y2])
theorem two_of {Pk Pt st lg cl so : Addr} {y1 y2 : V} {m : Nat} {H5 H8 : Hp} (S5 : StAt H5 st lg cl m) (hso : H5 so = none) (S8 : StAt H8 st lg cl m) (Tb8 : Tabs (tabs Pk Pt) H8) (k8 : KpN st lg (upd H5 so (.lst [y1])) H8) :
    H8 so = some (.lst [y1]) ∧ Two Pk Pt st lg cl so y1 y2 m H5 (upd H8 so (.lst ([y1] ++ [y2]))) := by
  have n := S5.off hso
  have e8 : H8 so = some (.lst [y1]) := k8.lst n upd_same
  exact ⟨e8, stAt_put S8 n.1 n.2 (offc S5 hso), tabs_put Tb8 e8, KpN.own .refl hso ((KpN.new hso).trans k8), upd_same⟩
end K45
namespace K45
open PySem PySem.Spec PyProof.Rows L2 PySem.W LamX KA KW KU KL
open Evl (pss_cut tCut)
/-! ### what is refused -/
theorem webV_frame {o : Option (List (Option (List V)))} {i : Nat} (h : webV o = .frame i) : i ≤ 10 := by
  cases o with
  | none => cases h
  | some os =>
    rw [webV] at h
    split at h
    · cases h
    · rename_i c
      have c := Decidable.not_not.mp c
      split at h
      · rename_i j e
        injection h with h
        have := List.mem_range.mp (List.mem_of_find?_eq_some e)
        omega
      · split at h <;> cases h
section
variable {C CB st lg : Addr} {x : V} {H : Hp} {y : V} {g : Prop}
theorem Ca.nil (h : Ca g False (¬ g) C CB st lg x H y) (q : g) : y = .non := by
  rcases h with h | h | h
  · exact h.2
  · exact h.1.elim
  · exact absurd q h.1
theorem Ca.one (h : Ca False g (¬ g) C CB st lg x H y) (q : g) : Er1 C st lg H y := by
  rcases h with h | h | h
  · exact h.1.elim
  · exact h.2
  · exact absurd q h.1
theorem Ca.only (h : Ca False True False C CB st lg x H y) : Er1 C st lg H y := by
  rcases h with h | h | h
  · exact h.1.elim
  · exact h.2
  · exact h.1.elim
theorem Ca.two {g0 g1 : Prop} (h : Ca g0 g1 (¬ g) C CB st lg x H y) (q : ¬ g) (n0 : g0 → g := by first | exact id | exact False.elim) (n1 : g1 → g := by first | exact id | exact False.elim) : Er2 CB st lg x H y := by
  rcases h with h | h | h
  · exact absurd (n0 h.1) q
  · exact absurd (n1 h.1) q
  · exact h.2
end
def BadS (K : PySem.W.Frag) (rows : List (List Nat)) (st lg : Addr) (H : Hp) (y : V) : Prop := ∃ o, Rq st lg K H y o ∧ (lotV rows.length o && wholeB rows (nats o)) = false
def spRefusedRight (Pk Pt : Addr) : Sp := fun vs H Q _ => ∃ (st lg cl a ls : Addr) (ws us : List V) (rows : List (List Nat)) (m : Nat), vs = [.ref st, .ref a, .ref ls] ∧ m ≤ 800000 ∧ LB Pk Pt st lg cl a ls ws us rows m H ∧
  ∀ H', StAt H' st lg cl (m + 30) → Tabs (tabs Pk Pt) H' → KpN st lg H H' → Q (.bl true) H'
section
variable {P : Program} {w : World} {K : PySem.W.Frag} {mg : Str → Option Value} {base : Heap} (T : Top K mg) (BW : BadWebT P w K mg T.reel.C)
include BW in
theorem ok_refused {c Pk Pt : Addr} (nP : Pk ≠ Pt) (LT : LamT K "_law_refused_right" s__law_refused_right T._law_refused_right.a T._law_refused_right.d c Pt) (TB : TabB base mg c Pt) : FnG P w K mg base (L2.CX P w) 10 T._law_refused_right.a T._law_refused_right.d ["state", "net", "lines"] (spRefusedRight Pk Pt) := by
  refine fnG_ofC (N := ["state", "net", "lines", "line", "due", "some", "more", "error", "shown", "lots", "is_line", "bent", "odd", "lot"]) LT sc__law_refused_right (fun vs H Q E h => ?_) (fun A outer s0 H vs Q E hr hg h => ?_)
  · obtain ⟨st, lg, cl, a, ls, ws, us, rows, m, rfl, _⟩ := h
    rfl
  · obtain ⟨st, lg, cl, a, ls, ws, us, rows, m, rfl, hm, B, k⟩ := h
    refine ⟨_, (pss_cons (ps_asg (pe_tup (pa_cons (pe_call (ok_bent_net T) (hr.mono (by decide)) (by rfl) T._law_bent_net.m T._law_bent_net.f.kp (bd__law_bent_net T) .nil passE (pa_cons (pv 0) (pa_cons (pv 1) pa_nil))) (pa_cons (pe_call (ok_pick T) (hr.mono (by decide)) (by rfl) T._law_pick.m T._law_pick.f.kp (bd__law_pick T) .nil passE (pa_cons (pv 0) (pa_cons (pv 2) pa_nil))) pa_nil))) (pg_tup rfl (pgs_cons (pg_name (i := 11) sc__law_refused_right.nd rfl (by first | exact .inl rfl | exact .inr rfl)) (pgs_cons (pg_name (i := 3) sc__law_refused_right.nd rfl (by first | exact .inl rfl | exact .inr rfl)) pgs_nil))))
      (pss_cons (ps_set (i := 4) sc__law_refused_right.nd rfl (by first | exact .inl rfl | exact .inr rfl) (pe_call (ok_refused_net T) (hr.mono (by decide)) (by rfl) T._law_refused_net.m T._law_refused_net.f.kp (bd__law_refused_net T) .nil passE (pa_cons (pv 11) pa_nil)))
      (pss_cons (ps_set (i := 5) sc__law_refused_right.nd rfl (by first | exact .inl rfl | exact .inr rfl) (pe_lst (pa_cons (pe_caught1 T TB rfl (show Room (7 + 2) _ from hr) (by rfl) (List.mem_cons_of_mem _ List.mem_cons_self) (one_q nP) (lamS_by (sc := defScope s__law_refused_right) (by decide +kernel)) rfl (fun _ _ _ _ _ => rfl) (fun A outer s H E f c h => (pe_call (ok_web_wait T BW) (h.mono (by decide)) (by rfl) T.web_wait.m T.web_wait.f.kp (bd_web_wait T) .nil (passX rfl rfl rfl rfl) (pa_cons (pv 11) pa_nil)))) pa_nil)))
      (pss_cons (ps_expr (pe_bm PySem.F.plainAttrs_list PySem.F.slot_list_append PySem.F.type_list_append mt_append (pv 5) (pa_cons (pe_caught1 T TB rfl (show Room (7 + 2) _ from hr) (by rfl) (List.mem_cons_of_mem _ List.mem_cons_self) (one_q nP) (lamS_by (sc := defScope s__law_refused_right) (by decide +kernel)) rfl (fun _ _ _ _ _ => rfl) (fun A outer s H E f c h => (pe_call (ok_critical_frame T BW) (h.mono (by decide)) (by rfl) T.critical_frame.m T.critical_frame.f.kp (bd_critical_frame T) .nil (passX rfl rfl rfl rfl) (pa_cons (pv 11) pa_nil)))) pa_nil)))
      (pss_cons (ps_set (i := 6) sc__law_refused_right.nd rfl (by first | exact .inl rfl | exact .inr rfl) (pe_lst (pa_cons (pe_caught1 T TB rfl (show Room (7 + 2) _ from hr) (by rfl) (List.mem_cons_of_mem _ List.mem_cons_self) (one_q nP) (lamS_by (sc := defScope s__law_refused_right) (by decide +kernel)) rfl (fun _ _ _ _ _ => rfl) (fun A outer s H E f c h => (pe_call (ok_kept T BW) (h.mono (by decide)) (by rfl) T.kept.m T.kept.f.kp (bd_kept T) .nil (passX rfl rfl rfl rfl) (pa_cons (pv 11) (pa_cons pe_non (pa_cons pe_non pa_nil)))))) pa_nil)))
      (pss_cons (ps_expr (pe_bm PySem.F.plainAttrs_list PySem.F.slot_list_append PySem.F.type_list_append mt_append (pv 6) (pa_cons (pe_caught1 T TB rfl (show Room (7 + 2) _ from hr) (by rfl) (List.mem_cons_of_mem _ List.mem_cons_self) (one_q nP) (lamS_by (sc := defScope s__law_refused_right) (by decide +kernel)) rfl (fun _ _ _ _ _ => rfl) (fun A outer s H E f c h => (pe_call (ok_most_kept T BW) (h.mono (by decide)) (by rfl) T.most_kept.m T.most_kept.f.kp (bd_most_kept T) .nil (passX rfl rfl rfl rfl) (pa_cons (pv 11) (pa_cons pe_non (pa_cons pe_non pa_nil)))))) pa_nil)))
      (pss_cut (ps_if (pt_cmpR (show OpR _ _ rIsN from op_isN) (pv 4) pe_non (nomark _)) (pss_one (ps_if (PW.pt (pw_or (pt_cmpR (op_neD hr.units) (pv 5) (pe_lst (pa_cons pe_non (pa_cons pe_non pa_nil))) (nomark _)) (pw_or1 (pt_cmpR (op_neD hr.units) (pe_lc (own := [("error", 7)]) (g := (gName 7)) rfl sc__law_refused_right.nd (pi_list (pv 6)) (blkOk_by (own := [("error", 7)]) (N := ["state", "net", "lines", "line", "due", "some", "more", "error", "shown", "lots", "is_line", "bent", "odd", "lot"]) (sc := defScope s__law_refused_right) (by decide +kernel)) (fun _ _ _ _ _ => pg_name (i := 7) sc__law_refused_right.nd rfl (by first | exact .inl rfl | exact .inr rfl)) (fun _ _ _ _ _ => pts_one (pt_not (pt_val (pe_callB (show CallR _ _ (rIs2 K) from call_is2) (by rfl) T.b_isinstance PyProof.Rows.boot_isinstance (pa_cons (pv 7) (pa_cons (pe_glob (v := .ref T.BadWait.C) (by rfl) T.BadWait.g rfl) pa_nil)))))) (fun _ _ _ _ _ => pe_int)) (pe_lst pa_nil) (nomark _))))) (pss_one (ps_ret pe_bl)) pss_nil)) (pss_cons (ps_set (i := 8) sc__law_refused_right.nd rfl (by first | exact .inl rfl | exact .inr rfl) (pe_callB (show CallR _ _ rReprN from call_reprN) (by rfl) T.b_repr (by decide +kernel) (pa_cons (pe_ifExp (pt_cmpR (show OpR _ _ (rIn K false) from op_in_seq) (pv 4) (pe_tup (pa_cons pe_str (pa_cons pe_str pa_nil))) (by rfl)) pe_non (pv 4)) pa_nil)))
      (pss_one (ps_if (pt_cmpR (op_neD hr.units) (pe_lc (own := [("error", 7)]) (g := (gName 7)) rfl sc__law_refused_right.nd (pi_list (pe_op op_cat (pv 5) (pv 6))) (blkOk_by (own := [("error", 7)]) (N := ["state", "net", "lines", "line", "due", "some", "more", "error", "shown", "lots", "is_line", "bent", "odd", "lot"]) (sc := defScope s__law_refused_right) (by decide +kernel)) (fun _ _ _ _ _ => pg_name (i := 7) sc__law_refused_right.nd rfl (by first | exact .inl rfl | exact .inr rfl)) (fun _ _ _ _ _ => pts_one (PW.pt (pw_or (pt_not (pt_val (pe_callB (show CallR _ _ (rIs3 K) from call_is3) (by rfl) T.b_isinstance PyProof.Rows.boot_isinstance (pa_cons (pv 7) (pa_cons (pe_glob (v := .ref BW.C) (by rfl) BW.g rfl) pa_nil))))) (pw_or1 (pt_cmpR op_ne (pe_callB (show CallR _ _ rReprN from call_reprN) (by rfl) T.b_repr (by decide +kernel) (pa_cons (pe_upGet BW.u (pv 7)) pa_nil)) (pv 8) (nomark _)))))) (fun _ _ _ _ _ => pe_int)) (pe_lst pa_nil) (nomark _)) (pss_one (ps_ret pe_bl)) pss_nil))))
      (pss_cons (ps_set (i := 12) sc__law_refused_right.nd rfl (by first | exact .inl rfl | exact .inr rfl) (pe_call (ok_pick T) (hr.mono (by decide)) (by rfl) T._law_pick.m T._law_pick.f.kp (bd__law_pick T) .nil passE (pa_cons (pv 0) (pa_cons (pe_lst (pa_cons pe_non (pa_cons (pe_un un_neg pe_int) (pa_cons pe_int (pa_cons pe_bl (pa_cons pe_str pa_nil)))))) pa_nil))))
      (pss_cons (ps_set (i := 5) sc__law_refused_right.nd rfl (by first | exact .inl rfl | exact .inr rfl) (pe_lst (pa_cons (pe_caught1 T TB rfl (show Room (7 + 2) _ from hr) (by rfl) (List.mem_cons_of_mem _ List.mem_cons_self) (one_q nP) (lamS_by (sc := defScope s__law_refused_right) (by decide +kernel)) rfl (fun _ _ _ _ _ => rfl) (fun A outer s H E f c h => (pe_call (ok_kept T BW) (h.mono (by decide)) (by rfl) T.kept.m T.kept.f.kp (bd_kept T) .nil (passX rfl rfl rfl rfl) (pa_cons (pv 1) (pa_cons (pv 12) (pa_cons pe_non pa_nil)))))) pa_nil)))
      (pss_cons (ps_expr (pe_bm PySem.F.plainAttrs_list PySem.F.slot_list_append PySem.F.type_list_append mt_append (pv 5) (pa_cons (pe_caught1 T TB rfl (show Room (7 + 2) _ from hr) (by rfl) (List.mem_cons_of_mem _ List.mem_cons_self) (one_q nP) (lamS_by (sc := defScope s__law_refused_right) (by decide +kernel)) rfl (fun _ _ _ _ _ => rfl) (fun A outer s H E f c h => (pe_call (ok_most_kept T BW) (h.mono (by decide)) (by rfl) T.most_kept.m T.most_kept.f.kp (bd_most_kept T) .nil (passX rfl rfl rfl rfl) (pa_cons (pv 1) (pa_cons (pv 12) (pa_cons pe_non pa_nil)))))) pa_nil)))
      (pss_cut (ps_if (pt_cmpR (op_neD hr.units) (pe_lc (own := [("error", 7)]) (g := (gName 7)) rfl sc__law_refused_right.nd (pi_list (pv 5)) (blkOk_by (own := [("error", 7)]) (N := ["state", "net", "lines", "line", "due", "some", "more", "error", "shown", "lots", "is_line", "bent", "odd", "lot"]) (sc := defScope s__law_refused_right) (by decide +kernel)) (fun _ _ _ _ _ => pg_name (i := 7) sc__law_refused_right.nd rfl (by first | exact .inl rfl | exact .inr rfl)) (fun _ _ _ _ _ => pts_one (pt_not (pt_val (pe_callB (show CallR _ _ (rIs2 K) from call_is2) (by rfl) T.b_isinstance PyProof.Rows.boot_isinstance (pa_cons (pv 7) (pa_cons (pe_glob (v := .ref T.BadWait.C) (by rfl) T.BadWait.g rfl) pa_nil)))))) (fun _ _ _ _ _ => pe_int)) (pe_lst pa_nil) (nomark _)) (pss_one (ps_ret pe_bl)) pss_nil)
      (pss_cons (ps_set (i := 9) sc__law_refused_right.nd rfl (by first | exact .inl rfl | exact .inr rfl) (pe_lst (pa_cons (pe_tup (pa_cons pe_int pa_nil)) (pa_cons (pe_tup (pa_cons pe_int (pa_cons pe_int pa_nil))) (pa_cons (pe_tup (pa_cons pe_int pa_nil)) (pa_cons (pe_tup (pa_cons pe_int pa_nil)) pa_nil))))))
      (pss_cons (ps_setLc (i := 9) (own := [("lot", 13)]) (g := (gName 13)) rfl sc__law_refused_right.nd rfl rfl (sw_true rfl rfl rfl (by decide +kernel)) (pi_list (pv 9)) (blkOk_by (own := [("lot", 13)]) (N := ["state", "net", "lines", "line", "due", "some", "more", "error", "shown", "lots", "is_line", "bent", "odd", "lot"]) (sc := defScope s__law_refused_right) (by decide +kernel)) (fun _ _ _ _ _ => pg_name (i := 13) sc__law_refused_right.nd rfl (by first | exact .inl rfl | exact .inr rfl)) (fun _ _ _ _ _ => pts_one (PW.pt (pw_or (pt_not (pt_val (pe_call (ok_lis_lot T) (hr.mono (by decide)) (by rfl) T._law_is_lot.m T._law_is_lot.f.kp (bd__law_is_lot T) .nil passE (pa_cons (pv 13) (pa_cons (pe_callB (show CallR _ _ (rLen K) from call_len_seq) (by rfl) T.b_len PySem.boot_len (pa_cons (pv 1) pa_nil)) pa_nil))))) (pw_or1 (pt_not (pt_val (pe_call (ok_is_shut T) (hr.mono (by decide)) (by rfl) T._law_is_shut.m T._law_is_shut.f.kp (bd__law_is_shut T) .nil passE (pa_cons (pv 1) (pa_cons (pv 13) pa_nil))))))))) (fun _ _ _ _ _ => (pv 13)))
      (pss_cut (ps_set (i := 9) sc__law_refused_right.nd rfl (by first | exact .inl rfl | exact .inr rfl) (pe_op op_cat (pv 9) (pe_lst (pa_cons pe_non (pa_cons (pe_lst (pa_cons pe_int pa_nil)) (pa_cons (pe_tup (pa_cons (pe_callB call_len_seq (by rfl) T.b_len PySem.boot_len (pa_cons (pv 1) pa_nil)) pa_nil)) (pa_cons (pe_tup (pa_cons pe_int (pa_cons pe_int pa_nil))) (pa_cons (pe_tup (pa_cons pe_bl pa_nil)) (pa_cons (pe_tup (pa_cons (pe_un un_neg pe_int) pa_nil)) (pa_cons pe_str pa_nil))))))))))
      (pss_cons (ps_set (i := 12) sc__law_refused_right.nd rfl (by first | exact .inl rfl | exact .inr rfl) (pe_call (ok_pick T) (hr.mono (by decide)) (by rfl) T._law_pick.m T._law_pick.f.kp (bd__law_pick T) .nil passE (pa_cons (pv 0) (pa_cons (pv 9) pa_nil))))
      (pss_cons (ps_if (pt_not (pt_val (pe_callB (show CallR _ _ (rIs2 K) from call_is2) (by rfl) T.b_isinstance PyProof.Rows.boot_isinstance (pa_cons (pe_caught1 T TB rfl (show Room (7 + 2) _ from hr) (by rfl) (List.mem_cons_of_mem _ List.mem_cons_self) (one_q nP) (lamS_by (sc := defScope s__law_refused_right) (by decide +kernel)) rfl (fun _ _ _ _ _ => rfl) (fun A outer s H E f c h => (pe_call (ok_kept T BW) (h.mono (by decide)) (by rfl) T.kept.m T.kept.f.kp (bd_kept T) .nil (passX rfl rfl rfl rfl) (pa_cons (pv 1) (pa_cons pe_int (pa_cons (pv 12) pa_nil)))))) (pa_cons (pe_glob (v := .ref T.BadSet.C) (by rfl) T.BadSet.g rfl) pa_nil))))) (pss_one (ps_ret pe_bl)) pss_nil)
      (pss_cons (ps_asg (pe_call (ok_bent_line T) (hr.mono (by decide)) (by rfl) T._law_bent_line.m T._law_bent_line.f.kp (bd__law_bent_line T) .nil passE (pa_cons (pv 0) (pa_cons (pv 3) (pa_cons (pv 2) pa_nil)))) (pg_tup rfl (pgs_cons (pg_name (i := 11) sc__law_refused_right.nd rfl (by first | exact .inl rfl | exact .inr rfl)) (pgs_cons (pg_name (i := 10) sc__law_refused_right.nd rfl (by first | exact .inl rfl | exact .inr rfl)) pgs_nil))))
      (pss_cons (ps_set (i := 7) sc__law_refused_right.nd rfl (by first | exact .inl rfl | exact .inr rfl) (pe_caught1 T TB rfl (show Room (7 + 2) _ from hr) (by rfl) (List.mem_cons_of_mem _ List.mem_cons_self) (one_q nP) (lamS_by (sc := defScope s__law_refused_right) (by decide +kernel)) rfl (fun _ _ _ _ _ => rfl) (fun A outer s H E f c h => (pe_call (ok_most_kept T BW) (h.mono (by decide)) (by rfl) T.most_kept.m T.most_kept.f.kp (bd_most_kept T) .nil (passX rfl rfl rfl rfl) (pa_cons (pv 1) (pa_cons pe_int (pa_cons (pv 11) pa_nil)))))))
      (pss_one (ps_ret (pe_ifExp (pt_val (pv 10)) (pe_cmpR (show OpR _ _ rIsN from op_isN) (pv 7) pe_non (nomark _)) (pe_callB (show CallR _ _ (rIs2 K) from call_is2) (by rfl) T.b_isinstance PyProof.Rows.boot_isinstance (pa_cons (pv 7) (pa_cons (pe_glob (v := .ref T.BadOrder.C) (by rfl) T.BadOrder.g rfl) pa_nil)))))))))))))))))))))))), ?_⟩
    have n1 := B.G.n1
    have n5 := B.G.n5
    refine ⟨_, rfl, _, rfl, st, lg, cl, a, ws, rows, m, rfl, B.ha, B.na.1, B.na.2, B.rl, n1, n5, B.G.l2, by omega, B.S, fun x o H1 wq S1 kp1 => ?_⟩
    have B1 := B.kp kp1 S1
    have ol := ords_few n5
    obtain ⟨l0, hl0⟩ := B.G.ord
    refine ⟨_, rfl, _, rfl, st, lg, cl, ls, us, m + 10, rfl, B1.hls, B1.nls.2, by rw [B1.rls.1]; exact List.length_pos_of_mem hl0, by rw [B1.rls.1]; omega, by omega, B1.S, fun y H2 hy S2 kp2 => ?_⟩
    obtain ⟨iy, hiy⟩ := List.getElem?_of_mem hy
    obtain ⟨lp, line, rfl, eline, hl1⟩ := B1.rls.get hiy
    have hord : line ∈ ords rows := List.mem_of_getElem? eline
    have hl2 := Tp.kp B1.S kp2 _ _ hl1
    have B2 := B1.kp kp2 S2
    have k2 : KpN st lg H H2 := (KpN.kp kp1).trans (.kp kp2)
    have wq2 := wq.mono (.kp kp2)
    clear hy hiy eline hl1 hl0 B1 kp1 kp2 S1 wq
    refine ⟨(by show 2 ≤ sizeLine; decide), fun z hz => ?_⟩
    have tz := Same.new (o := .tup [x, V.ref lp]) hz
    refine ⟨z, _, rfl, SqT.of upd_same, rfl, _, _, rfl, _, _, rfl, rfl, ?_⟩
    have B3 := B2.same tz
    have k3 := k2.trans (.same tz)
    have wq3 := wq2.mono (.same tz)
    have hl3 := tz _ _ hl2
    generalize upd H2 z (.tup [x, V.ref lp]) = H3 at B3 k3 wq3 hl3
    clear tz hz B2 k2 wq2 hl2 S2
    refine ⟨_, rfl, x, o, rfl, wq3.now, wq3.2, fun dv H4 s4 dg df dw => ?_⟩
    have B4 := B3.same s4
    have k4 := k3.trans (.same s4)
    have wq4 := wq3.mono (.same s4)
    have hl4 := s4 _ _ hl3
    clear B3 k3 wq3 hl3 s4
    refine caught_any T BW T.BadWait (x := webX (webV o)) (webV o = .good) False (webV o ≠ .good) B4.Tb B4.S (fun H5 E5 Q5 e5 S5 r0 r1 r2 => ?_) (fun y1 H5 S5 Tb5 kN5 c1 => ?_)
    · exact ⟨_, rfl, x, o, rfl, (wq4.mono (.ext e5)).now, fun ng => r2 ng, fun g H' s' => r0 g _ H' s'⟩
    have B5 := B4.kn kN5 S5 Tb5
    have k5 := k4.trans kN5
    have wq5 := wq4.mono kN5
    have hl5 := KpN.tp B4.S kN5 _ _ hl4
    clear B4 k4 wq4 hl4 kN5
    refine ⟨(by show 1 ≤ sizeLine; decide), fun so hso => ?_⟩
    have t6 := Same.new (o := .lst [y1]) hso
    refine ⟨_, rfl, .inl ⟨rfl, _, SqL.of upd_same⟩, ?_⟩
    refine caught_any T BW T.BadWait (x := webX (webV o)) (webV o = .good) False (webV o ≠ .good) (B5.same t6).Tb (B5.same t6).S (fun H7 E7 Q7 e7 S7 r0 r1 r2 => ?_) (fun y2 H7 S7 Tb7 kN7 c2 => ?_)
    · exact ⟨_, rfl, x, o, rfl, ((wq5.mono (.same t6)).mono (.ext e7)).now, fun ng => r2 ng, fun g H' s' => r0 g _ H' s'⟩
    obtain ⟨e7, w7⟩ := two_of (y2 := y2) S5 hso S7 Tb7 kN7
    refine ⟨so, _, _, rfl, rfl, e7, (by show 1 < sizeLine; decide), ?_⟩
    have c2 := c2.put (o := .lst ([y1] ++ [y2])) e7
    generalize upd H7 so (.lst ([y1] ++ [y2])) = H8 at w7 c2
    have c1 := c1.kn w7.k
    have es8 := w7.e
    have B8 := B5.kn w7.k w7.S w7.Tb
    have k8 := k5.trans w7.k
    have wq8 := wq5.mono w7.k
    have hl8 := KpN.tp B5.S w7.k _ _ hl5
    have nso := S5.off hso
    clear B5 k5 wq5 hl5 t6 S7 Tb7 kN7 e7 w7 S5 Tb5 hso
    refine caught_any T BW T.BadWait (x := webX (webV o)) False (webV o = .good) (webV o ≠ .good) B8.Tb B8.S (fun H9 E9 Q9 e9 S9 r0 r1 r2 => ?_) (fun y3 H9 S9 Tb9 kN9 c3 => ?_)
    · exact ⟨_, rfl, x, .non, .non, o, false, none, rfl, (wq8.mono (.ext e9)).now, .non, .no .non, fun ng => r2 ng, fun g => ⟨fun _ H' s' => r1 g H' s', fun h => by cases h⟩⟩
    have B9 := B8.kn kN9 S9 Tb9
    have k9 := k8.trans kN9
    have wq9 := wq8.mono kN9
    have hl9 := KpN.tp B8.S kN9 _ _ hl8
    have c1 := c1.kn kN9
    have c2 := c2.kn kN9
    have es9 := kN9.lst nso es8
    clear B8 k8 wq8 hl8 kN9 es8
    refine ⟨(by show 1 ≤ sizeLine; decide), fun mo hmo => ?_⟩
    have t10 := Same.new (o := .lst [y3]) hmo
    refine ⟨_, rfl, .inl ⟨rfl, _, SqL.of upd_same⟩, ?_⟩
    refine caught_any T BW T.BadWait (x := webX (webV o)) False (webV o = .good) (webV o ≠ .good) (B9.same t10).Tb (B9.same t10).S (fun H7 E7 Q7 e7 S7 r0 r1 r2 => ?_) (fun y4 H7 S7 Tb7 kN7 c4 => ?_)
    · exact ⟨_, rfl, x, .non, .non, o, false, none, rfl, ((wq9.mono (.same t10)).mono (.ext e7)).now, .non, .no .non, fun ng => r2 ng, fun g => ⟨fun _ H' s' => r1 g H' s', fun h => by cases h⟩⟩
    obtain ⟨e7, w7⟩ := two_of (y2 := y4) S9 hmo S7 Tb7 kN7
    refine ⟨mo, _, _, rfl, rfl, e7, (by show 1 < sizeLine; decide), ?_⟩
    have c4 := c4.put (o := .lst ([y3] ++ [y4])) e7
    generalize upd H7 mo (.lst ([y3] ++ [y4])) = H11 at w7 c4
    have c1 := c1.kn w7.k
    have c2 := c2.kn w7.k
    have c3 := c3.kn w7.k
    have em := w7.e
    have es := w7.k.lst nso es9
    have B11 := B9.kn w7.k w7.S w7.Tb
    have k11 := k9.trans w7.k
    have wq11 := wq9.mono w7.k
    have hl11 := KpN.tp B9.S w7.k _ _ hl9
    clear B9 k9 wq9 hl9 t10 S7 Tb7 kN7 e7 w7 S9 Tb9 hmo es9 nso
    refine ⟨fun σ H' => ∃ v4 v5 v6 v8, σ = [some (.ref st), some (.ref a), some (.ref ls), some (.ref lp), v4, v5, v6, none, v8, none, none, some x, none, none] ∧ Same H11 H', ?_, ?_⟩
    · have mid : ∀ v4 v5 v6 v8 H', Same H11 H' → ∃ v4' v5' v6' v8', [some (.ref st), some (.ref a), some (.ref ls), some (.ref lp), v4, v5, v6, none, v8, none, none, some x, none, none] = [some (.ref st), some (.ref a), some (.ref ls), some (.ref lp), v4', v5', v6', none, v8', none, none, some x, none, none] ∧ Same H11 H' := fun v4 v5 v6 v8 H' s' => ⟨_, _, _, _, rfl, s'⟩
      refine ⟨_, rfl, rfl, _, rfl, ?_⟩
      by_cases g : webV o = .good
      · have e0 := dg g
        subst e0
        rw [decide_eq_true rfl]
        have c1 := c1.nil g
        have c2 := c2.nil g
        subst c1
        subst c2
        have c3 := c3.one g
        have c4 := c4.one g
        refine iteT ⟨_, rfl, (by show 2 ≤ sizeLine; decide), fun z hz => ?_⟩
        have tz := Same.new (o := .lst [V.non, .non]) hz
        refine ⟨.list [.none, .none], .list [.none, .none], .lst (SqL.of (tz _ _ es)) (.cons .non (.cons .non .nil)), .lst (SqL.of upd_same) (.cons .non (.cons .non .nil)), by decide, by decide, _, rfl, ?_⟩
        rw [show PyData.eqv (.list [.none, .none]) (.list [.none, .none]) = true from by decide]
        refine iteF ⟨_, rfl, mo, rfl, ⟨_, SqL.of (tz _ _ em)⟩, fun D hD => ?_⟩
        have c3 := c3.kn (.same tz)
        have c4 := c4.kn (.same tz)
        have em := tz _ _ em
        refine lcP (walk_list (K := K) (a := mo) (xs := [y3, y4])) [y3, y4] (fun _ => false) (fun _ => V.int 1) rfl hD (fun H' s' => SqL.of (s' _ _ em)) (by show 2 ≤ 100000; decide) yAt_same ?_ ?_
        · rintro i x' e H13 H12 N R he s12 ⟨rfl, hx⟩ ky kn
          rw [he] at hx
          have hx : e = x' := Option.some.inj hx
          subst hx
          obtain ⟨aa, rfl, hxe, _⟩ : Er1 T.BadWait.C st lg H12 e := by
            match i, he with
            | 0, he => cases he; exact c3.kn (.same s12)
            | 1, he => cases he; exact c4.kn (.same s12)
            | i + 2, he => cases he
          exact ⟨rfl, _, rfl, .inr ⟨aa, T.BadWait.C, _, _, true, rfl, hxe, T.BadWait.e, .own _, kit_self, _, rfl, kn rfl _ fun _ _ e => e⟩⟩
        · intro H12 s12 e12
          refine ⟨(by show 0 ≤ sizeLine; decide), fun z2 hz2 => ?_⟩
          have t2 := Same.new (o := .lst []) hz2
          refine ⟨_, _, dp_nil (t2 _ _ e12), dp_nil upd_same, shaped_nil, shaped_nil, _, rfl, iteF ?_⟩
          exact mid _ _ _ _ _ ((tz.trans s12).trans t2)
      · have c1 := c1.two g
        have c2 := c2.two g
        have c3 := c3.two g
        have c4 := c4.two g
        obtain ⟨hdv, sx, yn, hin⟩ : dv ≠ .non ∧ ∃ sx, YN (webX (webV o)) sx ∧ ((flatV dv = true ∧ inV dv [V.str "no list", .str "ring"] = true ∧ webX (webV o) = .non) ∨ (flatV dv = true ∧ inV dv [V.str "no list", .str "ring"] = false ∧ dv = webX (webV o))) := by
          cases e : webV o with
          | good => exact absurd e g
          | whole =>
            refine ⟨?_, _, .non, .inl ?_⟩
            · rcases dw e with h | h <;> rw [h] <;> exact fun z => nomatch z
            · rcases dw e with h | h <;> rw [h] <;> exact ⟨rfl, by decide +kernel, rfl⟩
          | frame i =>
            rw [df i e]
            exact ⟨fun z => (nomatch z), _, .int i (by have := webV_frame e; omega), .inr ⟨rfl, rfl, rfl⟩⟩
        rw [decide_eq_false hdv]
        refine iteF ?_
        refine ⟨_, rfl, (by show 2 ≤ sizeLine; decide), fun t ht => ?_⟩
        have tt := Same.new (o := .tup [V.str "no list", .str "ring"]) ht
        refine ⟨t, _, rfl, .inr (SqT.of upd_same), by rcases hin with h | h <;> exact h.1, rfl, ?_⟩
        rw [if_neg Bool.false_ne_true]
        refine ⟨_, rfl, ?_⟩
        have es := tt _ _ es
        have em := tt _ _ em
        have c1 := c1.kn (.same tt)
        have c2 := c2.kn (.same tt)
        have c3 := c3.kn (.same tt)
        have c4 := c4.kn (.same tt)
        rcases hin with ⟨f1, f2, f3⟩ | ⟨f1, f2, f3⟩
        all_goals
          rw [f2]
          first
          | refine iteT ⟨_, sx, rfl, f3 ▸ yn, ?_⟩
          | refine iteF ⟨_, rfl, _, sx, rfl, f3 ▸ yn, ?_⟩
          refine ⟨_, rfl, _, rfl, so, mo, [y1, y2], [y3, y4], rfl, rfl, es, em, (by show 4 ≤ sizeLine; decide), fun r hr => ⟨r, rfl, ⟨_, SqL.of upd_same⟩, fun D hD => ?_⟩⟩
          have tr := Same.new (o := .lst ([y1, y2] ++ [y3, y4])) hr
          have er := new_at (o := .lst ([y1, y2] ++ [y3, y4])) hr
          have c1 := c1.kn (.same tr)
          have c2 := c2.kn (.same tr)
          have c3 := c3.kn (.same tr)
          have c4 := c4.kn (.same tr)
          refine lcP (walk_list (K := K) (a := r) (xs := [y1, y2] ++ [y3, y4])) [y1, y2, y3, y4] (fun _ => false) (fun _ => V.int 1) rfl hD (fun H' s' => SqL.of (s' _ _ er)) (by show 4 ≤ 100000; decide) yAt_same ?_ ?_
          · rintro i x' e H13 H12 N R he s12 ⟨rfl, hx⟩ ky kn
            have he' : ([y1, y2] ++ [y3, y4])[i]? = some e := he
            rw [he'] at hx
            have hx : e = x' := Option.some.inj hx
            subst hx
            obtain ⟨aa, d, rfl, hxe, hde, _⟩ : Er2 BW.C st lg (webX (webV o)) H12 e := by
              match i, he with
              | 0, he => cases he; exact c1.kn (.same s12)
              | 1, he => cases he; exact c2.kn (.same s12)
              | 2, he => cases he; exact c3.kn (.same s12)
              | 3, he => cases he; exact c4.kn (.same s12)
              | i + 4, he => cases he
            refine ⟨rfl, ?_⟩
            refine ⟨_, rfl, .inr ⟨aa, BW.C, d, _, _, _, true, rfl, hxe, hde, BW.x, .own _, kit_self, _, rfl, ?_⟩⟩
            refine iteF ⟨_, rfl, aa, d, _, rfl, hxe, hde, _, sx, rfl, yn, _, rfl, rfl, _, rfl, ?_⟩
            rw [decide_eq_true rfl]
            exact kn rfl _ fun _ _ e => e
          · intro H12 s12 e12
            refine ⟨(by show 0 ≤ sizeLine; decide), fun z2 hz2 => ?_⟩
            have t2 := Same.new (o := .lst []) hz2
            refine ⟨_, _, dp_nil (t2 _ _ e12), dp_nil upd_same, shaped_nil, shaped_nil, _, rfl, iteF ?_⟩
            exact mid _ _ _ _ _ (((tt.trans tr).trans s12).trans t2)
    · rintro σ H12 ⟨v4, v5, v6, v8, rfl, s12⟩
      have B12 := B11.same s12
      have k12 := k11.trans (.same s12)
      have hl12 := s12 _ _ hl11
      clear B11 k11 wq11 hl11 s12 c1 c2 c3 c4 es em dg df dw
      have G := B12.G
      refine ⟨_, rfl, _, rfl, (by show 5 ≤ sizeLine; decide), fun q hq => ?_⟩
      have tq := Same.new (o := .lst [V.non, .int (-1), .int 21, .bl true, .str "0"]) hq
      refine ⟨st, lg, cl, q, _, m + 10 + 1, rfl, upd_same, (B12.S.off hq).2, (by show 0 < 5; decide), (by show 5 ≤ 1000; decide), by omega, B12.S.same tq, fun od H13 hod S13 kp13 => ?_⟩
      have k1213 : Kp st lg H12 H13 := (Kp.same tq).trans kp13
      have B13 := B12.kp k1213 S13
      have k13 := k12.trans (.kp k1213)
      have hl13 := Tp.kp B12.S k1213 _ _ hl12
      have fod : Fl od ∧ within od 0 20 = false := by
        simp only [List.mem_cons, List.not_mem_nil, or_false] at hod
        rcases hod with h | h | h | h | h <;> subst h
        · exact ⟨.non, rfl⟩
        · exact ⟨.int _, rfl⟩
        · exact ⟨.int _, rfl⟩
        · exact ⟨.bl _, rfl⟩
        · exact ⟨.str "0" (by decide +kernel), rfl⟩
      obtain ⟨fod, wod⟩ := fod
      clear hod tq hq kp13 k1213 B12 k12 hl12 S13
      have wvn : ∀ {H H' : Hp} {m : Nat}, LB Pk Pt st lg cl a ls ws us rows m H → KpN st lg H H' → Wv H' (.ref a) rows := fun B k => ⟨a, ws, rfl, .inl (k.lst B.na B.ha), B.rl.tp (KpN.tp B.S k)⟩
      refine caught_any T BW T.BadWait (x := .non) False True False B13.Tb B13.S (fun H5 E5 Q5 e5 S5 r0 r1 r2 => ?_) (fun y1 H14 S14 Tb14 kN14 c1 => ?_)
      · obtain ⟨b, pl⟩ := fod.pl (K := K) (H := H5)
        exact ⟨_, rfl, _, rfl, .ref a, od, .non, osOf rows, b, none, rfl, G.of (wvn B13 (.ext e5)), pl, .no .non, fun ng => absurd G.web ng, fun _ => ⟨fun _ H' s' => r1 trivial H' s', fun h => by rw [wod] at h; cases h⟩⟩
      have B14 := B13.kn kN14 S14 Tb14
      have k14 := k13.trans kN14
      have hl14 := KpN.tp B13.S kN14 _ _ hl13
      clear B13 k13 hl13 kN14
      refine ⟨(by show 1 ≤ sizeLine; decide), fun so hso => ?_⟩
      have t6 := Same.new (o := .lst [y1]) hso
      refine ⟨_, rfl, .inl ⟨rfl, _, SqL.of upd_same⟩, ?_⟩
      refine caught_any T BW T.BadWait (x := .non) False True False (B14.same t6).Tb (B14.same t6).S (fun H7 E7 Q7 e7 S7 r0 r1 r2 => ?_) (fun y2 H7 S7 Tb7 kN7 c2 => ?_)
      · obtain ⟨b, pl⟩ := fod.pl (K := K) (H := H7)
        exact ⟨_, rfl, _, rfl, .ref a, od, .non, osOf rows, b, none, rfl, G.of (wvn (B14.same t6) (.ext e7)), pl, .no .non, fun ng => absurd G.web ng, fun _ => ⟨fun _ H' s' => r1 trivial H' s', fun h => by rw [wod] at h; cases h⟩⟩
      obtain ⟨e7, w7⟩ := two_of (y2 := y2) S14 hso S7 Tb7 kN7
      refine ⟨so, _, _, rfl, rfl, e7, (by show 1 < sizeLine; decide), ?_⟩
      have c2 := c2.put (o := .lst ([y1] ++ [y2])) e7
      generalize upd H7 so (.lst ([y1] ++ [y2])) = H15 at w7 c2
      have c1 := c1.kn w7.k
      have es := w7.e
      have B15 := B14.kn w7.k w7.S w7.Tb
      have k15 := k14.trans w7.k
      have hl15 := KpN.tp B14.S w7.k _ _ hl14
      clear B14 k14 hl14 t6 S7 Tb7 kN7 e7 w7 S14 Tb14 hso
      have c1 := c1.only
      have c2 := c2.only
      refine ⟨fun σ H' => (∃ v4 v5 v6 v8, σ = [some (.ref st), some (.ref a), some (.ref ls), some (.ref lp), v4, v5, v6, none, v8, none, none, some x, some od, none]) ∧ Same H15 H', ?_, ?_⟩
      · refine ⟨_, rfl, so, rfl, ⟨_, SqL.of es⟩, fun D hD => ?_⟩
        refine lcP (walk_list (K := K) (a := so) (xs := [y1, y2])) [y1, y2] (fun _ => false) (fun _ => V.int 1) rfl hD (fun H' s' => SqL.of (s' _ _ es)) (by show 2 ≤ 100000; decide) yAt_same ?_ ?_
        · rintro i x' e H17 H16 N R he s16 ⟨rfl, hx⟩ ky kn
          rw [he] at hx
          have hx : e = x' := Option.some.inj hx
          subst hx
          obtain ⟨aa, rfl, hxe, _⟩ : Er1 T.BadWait.C st lg H16 e := by
            match i, he with
            | 0, he => cases he; exact c1.kn (.same s16)
            | 1, he => cases he; exact c2.kn (.same s16)
            | i + 2, he => cases he
          exact ⟨rfl, _, rfl, .inr ⟨aa, T.BadWait.C, _, _, true, rfl, hxe, T.BadWait.e, .own _, kit_self, _, rfl, kn rfl _ fun _ _ e => e⟩⟩
        · intro H16 s16 e16
          refine ⟨(by show 0 ≤ sizeLine; decide), fun z2 hz2 => ?_⟩
          have t2 := Same.new (o := .lst []) hz2
          refine ⟨_, _, dp_nil (t2 _ _ e16), dp_nil upd_same, shaped_nil, shaped_nil, _, rfl, iteF ?_⟩
          exact ⟨⟨_, _, _, _, rfl⟩, s16.trans t2⟩
      · rintro σ H16 ⟨⟨v4, v5, v6, v8, rfl⟩, s16⟩
        have B16 := B15.same s16
        have k16 := k15.trans (.same s16)
        have hl16 := s16 _ _ hl15
        clear B15 k15 hl15 s16 c1 c2 es
        refine ⟨(by show 1 ≤ sizeLine; decide), fun p1 hp1 => ⟨(by show 2 ≤ sizeLine; decide), fun p2 hp2 => ⟨(by show 1 ≤ sizeLine; decide), fun p3 hp3 => ⟨(by show 1 ≤ sizeLine; decide), fun p4 hp4 => ⟨(by show 4 ≤ sizeLine; decide), fun l0 hl0 => ?_⟩⟩⟩⟩⟩
        have t1 := Same.new (o := .tup [V.int 0]) hp1
        have t2 := Same.new (o := .tup [V.int 0, .int 1]) hp2
        have t3 := Same.new (o := .tup [V.int 1]) hp3
        have t4 := Same.new (o := .tup [V.int 2]) hp4
        have t5 := Same.new (o := .lst [V.ref p1, .ref p2, .ref p3, .ref p4]) hl0
        have e1 := t5 _ _ (t4 _ _ (t3 _ _ (t2 _ _ (new_at (o := .tup [V.int 0]) hp1))))
        have e2 := t5 _ _ (t4 _ _ (t3 _ _ (new_at (o := .tup [V.int 0, .int 1]) hp2)))
        have e3 := t5 _ _ (t4 _ _ (new_at (o := .tup [V.int 1]) hp3))
        have e4 := t5 _ _ (new_at (o := .tup [V.int 2]) hp4)
        have e5 := new_at (o := .lst [V.ref p1, .ref p2, .ref p3, .ref p4]) hl0
        have t15 := t1.trans (t2.trans (t3.trans (t4.trans t5)))
        have r0 : RL NV _ [V.ref p1, .ref p2, .ref p3, .ref p4] [[0], [0, 1], [1], [2]] := (RL.one (f := NV) (a := [0]) ⟨p1, rfl, e1⟩).append ((RL.one (f := NV) (a := [0, 1]) ⟨p2, rfl, e2⟩).append ((RL.one (f := NV) (a := [1]) ⟨p3, rfl, e3⟩).append (RL.one (f := NV) (a := [2]) ⟨p4, rfl, e4⟩)))
        have B17 := B16.same t15
        generalize upd (upd (upd (upd (upd H16 p1 (.tup [V.int 0])) p2 (.tup [V.int 0, .int 1])) p3 (.tup [V.int 1])) p4 (.tup [V.int 2])) l0 (.lst [V.ref p1, .ref p2, .ref p3, .ref p4]) = H17 at e5 t15 r0 B17
        clear t1 t2 t3 t4 t5 e1 e2 e3 e4 hp1 hp2 hp3 hp4 hl0
        have hlen := B16.rl.1
        refine ⟨_, rfl, l0, rfl, ⟨_, SqL.of e5⟩, fun D hD => ?_⟩
        refine lcR (walk_list (K := K) (a := l0) (xs := [V.ref p1, .ref p2, .ref p3, .ref p4])) NV [[0], [0, 1], [1], [2]] (fun s => !(lotB rows.length s) || !(wholeB rows s)) id rfl hD (fun H' s' => SqL.of (s' _ _ e5)) (by show 4 < 100000; decide) yAt_same ?_ ?_
        · rintro i x' s H19 H18 N R hs s18 ⟨rfl, hx⟩ ky kn
          obtain ⟨p, s', rfl, es, hp⟩ := r0.get hx
          rw [hs] at es
          cases es
          have hp := s18 _ _ hp
          have B18 := B17.same s18
          have ls2 : s.length ≤ 2 := by
            have := List.mem_of_getElem? hs
            simp only [List.mem_cons, List.not_mem_nil, or_false] at this
            rcases this with h | h | h | h <;> rw [h] <;> decide
          refine ⟨rfl, _, rfl, _, rfl, a, ws, rfl, .inl (SqL.of B18.ha), .ref p, some (NV s), rows.length, by rw [hlen]; rfl, .nv hp (by omega), fun xs e => by cases e; rw [NV_len]; omega, fun H19 s19 => ⟨_, rfl, ?_⟩⟩
          rw [lotV_NV]
          cases c1 : lotB rows.length s with
          | false => exact iteT (iteT ⟨_, rfl, ky (by rw [c1]; rfl) _ _ s19 ⟨p, rfl, s19 _ _ hp⟩⟩)
          | true =>
            have B19 := B18.same s19
            refine iteF ⟨_, rfl, _, rfl, a, p, ws, rows, s, rfl, B19.ha, B19.rl, fun r hr => by have := G.l2 r hr; omega, s19 _ _ hp, by omega, (lotB_iff.mp c1).2, fun H20 s20 => ⟨_, rfl, ?_⟩⟩
            cases c2 : wholeB rows s with
            | false => exact iteT ⟨_, rfl, ky (by rw [c1, c2]; rfl) _ _ (s19.trans s20) ⟨p, rfl, s20 _ _ (s19 _ _ hp)⟩⟩
            | true => exact iteF (kn (by rw [c1, c2]; rfl) _ (s19.trans s20))
        intro H18 vs s18 e18 r18
        rw [List.map_id] at r18
        have B18 := B17.same s18
        have l18 : vs.length ≤ 4 := by
          rw [r18.1]
          exact Nat.le_trans (List.length_filter_le _ _) (by decide)
        have s1618 := t15.trans s18
        clear r0 B17 e5 t15 s18
        refine ⟨fun σ H' => (∃ v4 v5 v6 v8 r xs, σ = [some (.ref st), some (.ref a), some (.ref ls), some (.ref lp), v4, v5, v6, none, v8, some (.ref r), none, some x, some od, none] ∧ H' r = some (.lst xs) ∧ r ≠ lg ∧ 0 < xs.length ∧ xs.length ≤ 1000 ∧ ∀ y ∈ xs, BadS K rows st lg H' y) ∧ Same H18 H', ?_, ?_⟩
        · refine ⟨_, rfl, (by show 1 ≤ sizeLine; decide), fun q1 hq1 => ?_⟩
          have t1 := Same.new (o := .lst [V.int 0]) hq1
          refine ⟨_, rfl, a, ws, rfl, .inl (SqL.of (t1 _ _ B18.ha)), (by show 1 ≤ sizeLine; decide), fun q2 hq2 => ⟨(by show 2 ≤ sizeLine; decide), fun q3 hq3 => ⟨(by show 1 ≤ sizeLine; decide), fun q4 hq4 => ⟨_, rfl, (by show 1 ≤ sizeLine; decide), fun q5 hq5 => ⟨(by show 7 ≤ sizeLine; decide), fun q6 hq6 => ?_⟩⟩⟩⟩⟩
          have t2 := Same.new (o := .tup [V.int (ws.length : Nat)]) hq2
          have t3 := Same.new (o := .tup [V.int 0, .int 0]) hq3
          have t4 := Same.new (o := .tup [V.bl true]) hq4
          have t5 := Same.new (o := .tup [V.int (-1)]) hq5
          have t6 := Same.new (o := .lst [V.non, .ref q1, .ref q2, .ref q3, .ref q4, .ref q5, .str "0"]) hq6
          have t16 := t1.trans (t2.trans (t3.trans (t4.trans (t5.trans t6))))
          refine ⟨D, q6, vs, _, rfl, rfl, t16 _ _ e18, upd_same, Nat.le_trans (show vs.length + 7 ≤ 20 by omega) (by decide), fun r hr => ?_⟩
          have tr := Same.new (o := .lst (vs ++ [V.non, .ref q1, .ref q2, .ref q3, .ref q4, .ref q5, .str "0"])) hr
          have e1 := tr _ _ (t6 _ _ (t5 _ _ (t4 _ _ (t3 _ _ (t2 _ _ (new_at (o := .lst [V.int 0]) hq1))))))
          have e2 := tr _ _ (t6 _ _ (t5 _ _ (t4 _ _ (t3 _ _ (new_at (o := .tup [V.int (ws.length : Nat)]) hq2)))))
          have e3 := tr _ _ (t6 _ _ (t5 _ _ (t4 _ _ (new_at (o := .tup [V.int 0, .int 0]) hq3))))
          have e4 := tr _ _ (t6 _ _ (t5 _ _ (new_at (o := .tup [V.bl true]) hq4)))
          have e5 := tr _ _ (t6 _ _ (new_at (o := .tup [V.int (-1)]) hq5))
          have n1' := B18.S.off hq1
          have Sr := (B18.S.same t16).same tr
          refine ⟨⟨_, _, _, _, r, _, rfl, upd_same, ((B18.S.same t16).off hr).2, by rw [List.length_append]; show 0 < _ + 7; omega, by rw [List.length_append]; show _ + 7 ≤ _; omega, fun y hy => ?_⟩, t16.trans tr⟩
          rcases List.mem_append.mp hy with hy | hy
          · obtain ⟨iy, hiy⟩ := List.getElem?_of_mem hy
            obtain ⟨p, s, rfl, es, hp⟩ := r18.get hiy
            have hp := tr _ _ (t16 _ _ hp)
            have hf := List.mem_filter.mp (List.mem_of_getElem? es)
            refine ⟨some (NV s), .tup (off_tup Sr hp) hp (fl_nv s) ?_, ?_⟩
            · have := hf.1
              rw [NV_len]
              simp only [List.mem_cons, List.not_mem_nil, or_false] at this
              rcases this with h | h | h | h <;> rw [h] <;> decide
            · rw [lotV_NV, nats_NV]
              have := hf.2
              revert this
              cases lotB rows.length s <;> cases wholeB rows s <;> decide
          · simp only [List.mem_cons, List.not_mem_nil, or_false] at hy
            have out : ∀ i : Int, ¬ (0 ≤ i ∧ i ≤ (rows.length : Int) - 1) → within (.int i) 0 ((rows.length : Int) - 1) = false := fun i h => by
              show (decide ((0 : Int) ≤ i) && decide (i ≤ (rows.length : Int) - 1)) = false
              rw [Bool.and_eq_false_iff, decide_eq_false_iff_not, decide_eq_false_iff_not]
              omega
            have one : ∀ v, within v 0 ((rows.length : Int) - 1) = false → (lotV rows.length (some [v]) && wholeB rows (nats (some [v]))) = false := fun v h => by
              show ((insideB rows.length [v] && _) && _) = false
              show (((within v 0 ((rows.length : Int) - 1) && true) && _) && _) = false
              rw [h]
              rfl
            rcases hy with h | h | h | h | h | h | h <;> subst h
            · exact ⟨none, .flat .non, rfl⟩
            · exact ⟨none, .lst n1' e1, rfl⟩
            · exact ⟨_, .tup (off_tup Sr e2) e2 (off1 (.int _)) (by show 1 < 60; decide), one _ (out _ (by omega))⟩
            · refine ⟨_, .tup (off_tup Sr e3) e3 (off2 (.int _) (.int _)) (by decide), ?_⟩
              show ((insideB rows.length [V.int 0, .int 0] && ascB [0, 0]) && _) = false
              rw [show ascB [0, 0] = false from rfl, Bool.and_false, Bool.false_and]
            · exact ⟨_, .tup (off_tup Sr e4) e4 (off1 (.bl _)) (by decide), one _ rfl⟩
            · exact ⟨_, .tup (off_tup Sr e5) e5 (off1 (.int _)) (by decide), one _ (out _ (by omega))⟩
            · exact ⟨none, .flat (.str "0" (by decide +kernel)), rfl⟩
        · rintro σ H19 ⟨⟨v4, v5, v6, v8, r, xs, rfl, hr19, nr, x0, xl, bad⟩, s19⟩
          have B19 := B18.same s19
          have k19 := k16.trans (.same (s1618.trans s19))
          have hl19 := s19 _ _ (s1618 _ _ hl16)
          clear B18 B16 k16 hl16 s1618 s19 e18 r18
          refine ⟨_, rfl, _, rfl, st, lg, cl, r, xs, m + 10 + 1 + 1, rfl, hr19, nr, x0, xl, by omega, B19.S, fun y3 H20 hy S20 kp20 => ?_⟩
          obtain ⟨o3, rq3, bad3⟩ := bad _ hy
          have rq20 := rq3.mono (.kp kp20)
          have B20 := B19.kp kp20 S20
          have k20 := k19.trans (.kp kp20)
          have hl20 := Tp.kp B19.S kp20 _ _ hl19
          clear bad hr19 nr x0 xl hy rq3 B19 k19 hl19 kp20 S20
          refine caught_any T BW T.BadSet (x := .non) False True False B20.Tb B20.S (fun H5 E5 Q5 e5 S5 r0 r1 r2 => ?_) (fun y4 H21 S21 Tb21 kN21 c4 => ?_)
          · refine ⟨_, rfl, _, rfl, .ref a, .int 3, y3, osOf rows, true, o3, rfl, G.of (wvn B20 (.ext e5)), .int 3, (rq20.1 _ (.ext e5)), fun ng => absurd G.web ng, fun _ => ⟨fun h => ?_, fun _ => ⟨fun _ H' s' => r1 trivial H' s', fun h => ?_⟩⟩⟩
            · have : within (.int 3) 0 20 = true := rfl
              rw [this] at h
              cases h
            · rw [rowsO_of, bad3] at h
              cases h
          have B21 := B20.kn kN21 S21 Tb21
          have k21 := k20.trans kN21
          have hl21 := KpN.tp B20.S kN21 _ _ hl20
          obtain ⟨aa, rfl, hxe, _⟩ := c4.only
          clear B20 k20 hl20 kN21 rq20 bad3
          refine .inr ⟨aa, T.BadSet.C, _, _, true, rfl, hxe, T.BadSet.e, .own _, kit_self, _, rfl, iteF ?_⟩
          refine ⟨_, rfl, _, rfl, _, rfl, st, lg, cl, lp, ls, us, rows, line, m + 10 + 1 + 1 + 1, rfl, hl21, hord, B21.hls, B21.rls, B21.nls.1, B21.nls.2, n1, n5, by omega, B21.S, fun y5 o5 q5 H22 bl22 e22 S22 kp22 => ?_⟩
          refine ⟨q5, _, rfl, SqT.of e22, rfl, _, _, rfl, _, _, rfl, rfl, ?_⟩
          have B22 := B21.kp kp22 S22
          have k22 := k21.trans (.kp kp22)
          clear B21 k21 hl21 c4 hxe
          refine caught_any T BW T.BadOrder (x := .non) (inTime rows 20 o5 = true) (inTime rows 20 o5 = false) False B22.Tb B22.S (fun H5 E5 Q5 e5 S5 r0 r1 r2 => ?_) (fun y6 H23 S23 Tb23 kN23 c6 => ?_)
          · refine ⟨_, rfl, _, rfl, .ref a, .int 20, y5, osOf rows, true, o5, rfl, G.of (wvn B22 (.ext e5)), .int 20, (bl22.mono (.ext e5)).gn, fun ng => absurd G.web ng, fun _ => ⟨fun h => ?_, fun _ p' e => ⟨fun h H' s' => r1 ?_ H' s', fun h H' s' => r0 ?_ _ H' s'⟩⟩⟩
            · have : within (.int 20) 0 20 = true := rfl
              rw [this] at h
              cases h
            · cases e
              rw [rowsO_of] at h
              exact h
            · cases e
              rw [rowsO_of] at h
              exact h
          have fin := k H23 (S23.mono (show _ ≤ m + 30 by omega)) Tb23 (k22.trans kN23)
          refine ⟨_, rfl, _, rfl, ?_⟩
          cases c : inTime rows 20 o5 with
          | true =>
            rw [c] at c6
            have e6 : y6 = .non := by
              rcases c6 with h | h | h
              · exact h.2
              · cases h.1
              · exact h.1.elim
            subst e6
            refine iteT ⟨_, rfl, rfl, ?_⟩
            rw [decide_eq_true rfl]
            exact fin
          | false =>
            rw [c] at c6
            obtain ⟨ab, rfl, hye, _⟩ : Er1 T.BadOrder.C st lg H23 y6 := by
              rcases c6 with h | h | h
              · cases h.1
              · exact h.2
              · exact h.1.elim
            exact iteF ⟨_, rfl, .inr ⟨ab, T.BadOrder.C, _, _, true, rfl, hye, T.BadOrder.e, .own _, kit_self, fin⟩⟩
end
end K45
namespace K45
open PySem PySem.Spec PyProof.Rows L2 PySem.W LamX KA KW KU KL
open Evl (pss_cut tCut)
/-! ### the law -/
theorem FnG.w {P : Program} {w : World} {K : PySem.W.Frag} {mg : Str → Option Value} {base : Heap} {CX : CXT} {k : Nat} {f : Addr} {fd : FuncData} {ps : List Str} {sp : Sp} {fs : List Addr} {H0 : Hp} {h0 : Heap} (F : FnG P w K mg base CX k f fd ps sp) : FnW P w K mg base fs H0 h0 CX k f fd ps sp :=
  ⟨F.len, fun A outer s H args us vs Q E hr hg e0 _ _ b r h => F.run A outer s H args us vs Q E hr hg e0 b r h⟩
theorem since_self {Z : Cx} (h : Z.ex = []) : Since Z Z.fs Z.H_0 Z.s_0.heap := ⟨Un.kept fun _ _ z => z, fun _ hb => .inl hb, h⟩
theorem not_ahead {l : List Nat} (nd : l.Nodup) {t f : Nat} (h : l[t]? = some f) : f ∉ l.take t := fun q => by
  obtain ⟨j, hj⟩ := List.getElem?_of_mem q
  have lj := (List.getElem?_eq_some_iff.mp hj).1
  rw [List.length_take] at lj
  rw [List.getElem?_take_of_lt (by omega)] at hj
  obtain ⟨l1, e1⟩ := List.getElem?_eq_some_iff.mp hj
  obtain ⟨l2, e2⟩ := List.getElem?_eq_some_iff.mp h
  exact List.pairwise_iff_getElem.mp (List.nodup_iff_pairwise_ne.mp nd) j t l1 l2 (by omega) (e1.trans e2.symm)
theorem gn_of {rows : List (List Nat)} {line : List Nat} (od : Ord rows line) (n1 : 1 ≤ rows.length) (n5 : rows.length ≤ 5) : GN rows := by
  have lots : Lots rows := fun r hr => by
    obtain ⟨i, hi⟩ := List.getElem?_of_mem hr
    have il := (List.getElem?_eq_some_iff.mp hi).1
    have er : row rows i = r := by
      unfold row
      rw [List.getD_eq_getElem?_getD, hi]
      rfl
    rw [← er]
    exact lotB_iff.mpr ⟨od.asc i il, fun x hx => od.lt' il hx⟩
  refine ⟨n1, n5, lots, fun r hr => ?_, od.good n1 (by omega), line, mem_ords.mpr ⟨topB_iff.mp ⟨?_, od.lt⟩, od.len⟩⟩
  · have q := lotB_iff.mp (lots r hr)
    have := nodup_count (asc_nodup q.1) q.2
    omega
  · unfold topB
    rw [List.all_eq_true]
    intro t ht
    have e := List.getElem?_eq_getElem (List.mem_range.mp ht)
    rw [getD_at e, Bool.and_eq_true, all_inB]
    refine ⟨?_, od.lean t _ e⟩
    rw [Bool.eq_false_iff.mpr fun z => not_ahead od.nd e (inB_iff.mp z)]
    rfl
def netD (rows : List (List Nat)) : PyData := .list (rows.map lotD)
theorem net_sm {rows : List (List Nat)} (G : GN rows) : Sm 2055 2 (netD rows) := by
  refine sm_list (n := 410) (z := 1) (k := 5) (fun d hd => ?_) (by rw [List.length_map]; exact G.n5)
  obtain ⟨r, hr, rfl⟩ := List.mem_map.mp hd
  have q := lotB_iff.mp (G.lots r hr)
  exact sm_lot (G.l2 r hr) fun x hx => by have := q.2 x hx; have := G.n5; omega
theorem exs_in {rows : List (List Nat)} (G : GN rows) : 0 ≤ maxI (exs rows) ∧ maxI (exs rows) ≤ 1000 := by
  have ne : exs rows ≠ [] := fun e => by
    have l := exs_len (rows := rows)
    rw [e] at l
    have l : 0 = rows.length := l
    have := G.n1
    omega
  obtain ⟨a, _⟩ := maxI_spec _ ne
  obtain ⟨f, hf, e⟩ := List.mem_map.mp a
  have hf := List.mem_range.mp hf
  have h1 := excess_nn hf
  have h2 := clos_le (rows := rows) (fs := List.range (f + 1))
  have := G.n5
  rw [← e]
  refine ⟨h1, ?_⟩
  unfold excess
  omega
theorem firstIx_le (v : Int) : ∀ l : List Int, firstIx v l ≤ l.length
  | [] => Nat.le_refl _
  | x :: l => by
    rw [firstIx]
    split
    · exact Nat.zero_le _
    · have := firstIx_le v l
      rw [List.length_cons]
      omega
theorem spot_in {rows : List (List Nat)} (G : GN rows) : spot rows ≤ 5 := by
  have := firstIx_le (maxI (exs rows)) (exs rows)
  rw [exs_len] at this
  have := G.n5
  unfold spot
  omega
theorem ask_ww {K : PySem.W.Frag} {CB : Addr} {rows : List (List Nat)} (G : GN rows) {H : Hp} {x : V} {Q : VK} {E : XK} (w : Wv H x rows) (k : ∀ H', Same H H' → Q (.int (maxI (exs rows))) H') : spWebWait K CB [x] H Q E :=
  ⟨x, osOf rows, rfl, G.of w, fun z => absurd G.web z, fun _ => by rw [rowsO_of]; exact k⟩
theorem ask_cf {K : PySem.W.Frag} {CB : Addr} {rows : List (List Nat)} (G : GN rows) {H : Hp} {x : V} {Q : VK} {E : XK} (w : Wv H x rows) (k : ∀ H', Same H H' → Q (.int (spot rows : Nat)) H') : spCritical K CB [x] H Q E :=
  ⟨x, osOf rows, rfl, G.of w, fun z => absurd G.web z, fun _ => by rw [rowsO_of]; exact k⟩
def spLaw (K : PySem.W.Frag) (Pk Pt : Addr) : Sp := fun vs H Q _ => ∃ (a : Addr) (ns : List Int), vs = [.ref a] ∧ SqL K H a (ns.map V.int) ∧ ns.length ≤ 63 ∧ Tabs (tabs Pk Pt) H ∧ ∀ H', Q (.bl true) H'
section
variable {P : Program} {w : World} {K : PySem.W.Frag} {mg : Str → Option Value} {base : Heap} (T : Top K mg) (BW : BadWebT P w K mg T.reel.C)
include BW in
theorem ok_law {ck c Pk Pt : Addr} (nP : Pk ≠ Pt) (LK : LamT K "_law_kept_right" s__law_kept_right T._law_kept_right.a T._law_kept_right.d ck Pk) (TBK : TabB base mg ck Pk) (LT : LamT K "_law_refused_right" s__law_refused_right T._law_refused_right.a T._law_refused_right.d c Pt) (TB : TabB base mg c Pt) : FnG P w K mg base (L2.CX P w) 12 T.law.a T.law.d ["script"] (spLaw K Pk Pt) := by
  refine fnG_of T.law.f sc_law (fun vs H Q E h => ?_) (fun cdv A outer s0 H vs Q E hr hg h => ?_)
  · obtain ⟨a, ns, rfl, _⟩ := h
    rfl
  · obtain ⟨a0, ns, rfl, hS, hl, Tb, k⟩ := h
    refine ⟨_, (pss_cons (ps_set (i := 1) sc_law.nd rfl (by first | exact .inl rfl | exact .inr rfl) (pe_call (ok_begun T) (hr.mono (by decide)) (by rfl) T._law_begun.m T._law_begun.f.kp (bd__law_begun T) .nil passE (pa_cons (pv 0) pa_nil)))
      (pss_cons (ps_for (passes_of rfl) rfl (pi_range1 (by rfl) T.b_range (pa_cons (pe_op op_add pe_int (pe_callB (call_min2 rfl) (by rfl) T.b_min PyProof.Rows.boot_min (pa_cons (pe_op op_fdiv (pe_callB call_len_seq (by rfl) T.b_len PySem.boot_len (pa_cons (pv 0) pa_nil)) pe_int) (pa_cons pe_int pa_nil)))) pa_nil)) (pg_name (i := 2) sc_law.nd rfl (by first | exact .inl rfl | exact .inr rfl))
        (pss_cons (ps_set (i := 3) sc_law.nd rfl (by first | exact .inl rfl | exact .inr rfl) (pe_call (ok_net T) (hr.mono (by decide)) (by rfl) T._law_net.m T._law_net.f.kp (bd__law_net T) .nil passE (pa_cons (pv 1) (pa_cons pe_int pa_nil))))
      (pss_cons (ps_par (i := 4) (j := 5) rfl sc_law.nd rfl rfl (by decide) rfl rfl (pa_cons (pe_callB (show CallR _ _ (rRepr K) from call_repr hg hr) (by rfl) T.b_repr (by decide +kernel) (pa_cons (pv 3) pa_nil)) (pa_cons (pe_call (ok_orders T) (hr.mono (by decide)) (by rfl) T._law_orders.m T._law_orders.f.kp (bd__law_orders T) .nil passE (pa_cons (pv 3) pa_nil)) pa_nil)) (by rfl))
      (pss_cons (ps_asg (pe_call (ok_critical T) (hr.mono (by decide)) (by rfl) T._law_critical.m T._law_critical.f.kp (bd__law_critical T) .nil passE (pa_cons (pv 3) pa_nil)) (pg_tup rfl (pgs_cons (pg_name (i := 6) sc_law.nd rfl (by first | exact .inl rfl | exact .inr rfl)) (pgs_cons (pg_name (i := 7) sc_law.nd rfl (by first | exact .inl rfl | exact .inr rfl)) pgs_nil))))
      (pss_cons (ps_if (pt_cmpR op_ne (pv 7) (pe_callB (cr_min rfl) (by rfl) T.b_min (by decide +kernel) (pa_cons (pe_lc (own := [("line", 8)]) (g := (gName 8)) (tt := tYes) rfl sc_law.nd (pi_list (pv 5)) (blkOk_by (own := [("line", 8)]) (N := ["script", "state", "turn", "net", "shown", "lines", "spot_here", "due", "line"]) (sc := defScope s_law) (by decide +kernel)) (fun _ _ _ _ _ => pg_name (i := 8) sc_law.nd rfl (by first | exact .inl rfl | exact .inr rfl)) (fun _ _ _ _ _ => pts_nil) (fun _ _ _ _ _ => (pe_call (ok_lag T) (hr.mono (by decide)) (by rfl) T._law_lag.m T._law_lag.f.kp (bd__law_lag T) .nil passE (pa_cons (pv 8) pa_nil)))) pa_nil)) (nomark _)) (pss_one (ps_ret pe_bl)) pss_nil)
      (pss_cons (ps_if (pt_cmpR op_ne (pe_callB (show CallR _ _ (rRepr K) from call_repr hg hr) (by rfl) T.b_repr (by decide +kernel) (pa_cons (pe_lst (pa_cons (pe_call (ok_web_wait T BW) (hr.mono (by decide)) (by rfl) T.web_wait.m T.web_wait.f.kp (bd_web_wait T) .nil passE (pa_cons (pv 3) pa_nil)) (pa_cons (pe_kw (ok_web_wait T BW) (hr.mono (by decide)) (by rfl) T.web_wait.m T.web_wait.f.kp (KA.Fun.kw1 T.web_wait.f fun _ _ _ _ _ _ _ => rfl) passE (pk_cons (pe_callTy call_tuple_of (by rfl) T.b_tuple (by decide +kernel) (pa_cons (pv 3) pa_nil)) pk_nil)) pa_nil))) pa_nil)) (pe_callB (show CallR _ _ (rRepr K) from call_repr hg hr) (by rfl) T.b_repr (by decide +kernel) (pa_cons (pe_lst (pa_cons (pv 7) (pa_cons (pv 7) pa_nil))) pa_nil)) (nomark _)) (pss_one (ps_ret pe_bl)) pss_nil)
      (pss_cons (ps_if (pt_cmpR op_ne (pe_callB (show CallR _ _ (rRepr K) from call_repr hg hr) (by rfl) T.b_repr (by decide +kernel) (pa_cons (pe_lst (pa_cons (pe_call (ok_critical_frame T BW) (hr.mono (by decide)) (by rfl) T.critical_frame.m T.critical_frame.f.kp (bd_critical_frame T) .nil passE (pa_cons (pv 3) pa_nil)) (pa_cons (pe_kw (ok_critical_frame T BW) (hr.mono (by decide)) (by rfl) T.critical_frame.m T.critical_frame.f.kp (KA.Fun.kw1 T.critical_frame.f fun _ _ _ _ _ _ _ => rfl) passE (pk_cons (pv 3) pk_nil)) pa_nil))) pa_nil)) (pe_callB (show CallR _ _ (rRepr K) from call_repr hg hr) (by rfl) T.b_repr (by decide +kernel) (pa_cons (pe_lst (pa_cons (pv 6) (pa_cons (pv 6) pa_nil))) pa_nil)) (nomark _)) (pss_one (ps_ret pe_bl)) pss_nil)
      (pss_cons (ps_if (PW.pt (pw_or (pt_not (pt_val (pe_wcall (FnG.w (ok_kept_right T BW nP LK TBK)) (since_self rfl) (hr.mono (by decide)) hg (by rfl) T._law_kept_right.m T._law_kept_right.f.kp (bd__law_kept_right T) passE (pa_cons (pv 1) (pa_cons (pv 3) (pa_cons (pv 5) pa_nil)))))) (pw_or1 (pt_not (pt_val (pe_wcall (FnG.w (ok_refused T BW nP LT TB)) (since_self rfl) (hr.mono (by decide)) hg (by rfl) T._law_refused_right.m T._law_refused_right.f.kp (bd__law_refused_right T) passE (pa_cons (pv 1) (pa_cons (pv 3) (pa_cons (pv 5) pa_nil))))))))) (pss_one (ps_ret pe_bl)) pss_nil)
      (pss_one (ps_if (pt_cmpR op_ne (pe_callB (show CallR _ _ (rRepr K) from call_repr hg hr) (by rfl) T.b_repr (by decide +kernel) (pa_cons (pv 3) pa_nil)) (pv 4) (nomark _)) (pss_one (ps_ret pe_bl)) pss_nil))))))))))
      (pss_one (ps_ret pe_bl)))), ?_⟩
    refine ⟨_, rfl, a0, ns, rfl, hS, hl, fun st lg cl H1 S1 sm1 n1 n2 => ?_⟩
    have T1 := Tb.ext sm1
    clear Tb
    refine ⟨_, rfl, a0, _, rfl, .inl (sm1.seq hS), _, _, rfl, rfl, ⟨by decide, by decide⟩, _, _, rfl, _, _, rfl, rfl, _, rfl, ?_, ?_, for_range (n := _) (fun j σ H => StAt H st lg cl (200 * j) ∧ Tabs (tabs Pk Pt) H ∧ ∃ v2 v3 v4 v5 v6 v7, σ = [some (.ref a0), some (.ref st), v2, v3, v4, v5, v6, v7, none]) ⟨S1, T1, _, _, _, _, _, _, rfl⟩ ?_ fun σ H _ => k H⟩
    · simp only [List.length_map]
      split <;> omega
    · simp only [List.length_map]
      split <;> omega
    clear S1 T1 sm1 hS n1 n2 H1
    rintro j σ H1 hj ⟨S1, Tb1, v2, v3, v4, v5, v6, v7, rfl⟩
    have hj : j < 3 := by
      refine Nat.lt_of_lt_of_le hj ?_
      simp only [List.length_map]
      split <;> omega
    refine ⟨_, rfl, st, lg, cl, 200 * j, rfl, by omega, S1, fun a ws rows line H2 S2 kp2 na e2 r2 n1 n5 od => ?_⟩
    have noff := S1.off na
    have Tb2 := tabs_kp Tb1 S1 kp2
    have G := gn_of od n1 n5
    have l2w : ∀ r ∈ rows, r.length ≤ 1000 := fun r hr => by have := G.l2 r hr; omega
    clear S1 Tb1 kp2 na od line H1
    -- repr, the orders
    have ndp : ∀ H', H' a = some (.lst ws) → RL NV H' ws rows → Dp K H' (.ref a) (netD rows) := fun H' e r => .lst (SqL.of e) (dp_rl dp_lot r)
    obtain ⟨x1, x2, x3, x4⟩ := (net_sm G).repr (by decide) (by decide)
    refine ⟨_, rfl, _, _, rfl, ndp _ e2 r2, x1, x2, x3, x4, ?_⟩
    refine ⟨_, rfl, a, ws, rows, rfl, e2, r2, n5, l2w, fun ls us H3 s3 nls e3 r3 => ⟨_, _, rfl, ?_⟩⟩
    have B3 : LB Pk Pt st lg cl a ls ws us rows (200 * j + 100) H3 := ⟨S2.same s3, Tb2.ext s3, s3 _ _ e2, noff, r2.same s3, e3, S2.off nls, r3, G⟩
    clear S2 Tb2 e2 r2 nls e3 r3 s3
    refine ⟨_, rfl, a, ws, rows, rfl, B3.ha, B3.rl, n1, by omega, l2w, G.lots, fun q H4 s4 e4 => ?_⟩
    refine ⟨q, _, rfl, SqT.of e4, rfl, _, _, rfl, _, _, rfl, rfl, ?_⟩
    have B4 := B3.same s4
    clear B3 s4 e4
    have hws : ∀ {m : Nat} {H' : Hp}, LB Pk Pt st lg cl a ls ws us rows m H' → Dp K H' (.ref a) (netD rows) := fun B => ndp _ B.ha B.rl
    obtain ⟨l0, hl0⟩ := G.ord
    obtain ⟨b1, b2⟩ := best_lag G.lots n1 hl0
    have ol := ords_few n5
    refine ⟨_, rfl, _, rfl, ls, rfl, ⟨_, SqL.of B4.hls⟩, fun D hD => ?_⟩
    refine lcP (walk_list (K := K) (a := ls) (xs := us)) (ords rows) (fun _ => true) (fun l => V.int (lag l)) B4.rls.1 hD (fun H' s' => SqL.of (s' _ _ B4.hls)) (by omega) yAt_same ?_ ?_
    · rintro i x l H6 H5 N R he s5 ⟨rfl, hx⟩ hy hn
      obtain ⟨p, l', rfl, el, hp⟩ := B4.rls.get hx
      rw [he] at el
      cases el
      have hm := (mem_ords.mp (List.mem_of_getElem? he)).2
      refine ⟨rfl, ?_⟩
      dsimp only [tYes]
      rw [if_pos rfl]
      exact ⟨_, rfl, p, l, rfl, s5 _ _ hp, by omega, fun H' s' => hy rfl H' s'⟩
    intro H5 s5 e5
    rw [filter_yes] at e5
    have e5 : H5 D = some (.lst (((ords rows).map lag).map V.int)) := by
      rw [e5, List.map_map]
      rfl
    refine ⟨D, _, rfl, SqL.of e5, by rw [List.length_map]; exact List.length_pos_of_mem hl0, fun mn h1 h2 => ?_⟩
    have emn : mn = maxI (exs rows) := Int.le_antisymm (h2 _ b1) (b2 _ h1)
    subst emn
    refine ⟨rfl, _, rfl, ?_⟩
    rw [decide_eq_true rfl]
    refine iteF ?_
    have B5 := B4.same s5
    clear B4 s5 e5 h1 h2 hD
    -- the wait
    have wl : ∀ {m : Nat} {H' : Hp}, LB Pk Pt st lg cl a ls ws us rows m H' → Wv H' (.ref a) rows := fun B => B.wv
    refine ⟨_, rfl, ?_⟩
    dsimp only [tNil]
    refine ask_ww G B5.wv fun H6 s6 => ?_
    have B6 := B5.same s6
    refine ⟨_, rfl, a, _, rfl, .inl ⟨SqL.of B6.ha, fun tn htn => ?_⟩⟩
    have t7 := Same.new (o := .tup ws) htn
    have B7 := B6.same t7
    refine ⟨rfl, ?_⟩
    dsimp only [tNil]
    refine ask_ww G ⟨tn, ws, rfl, .inr upd_same, B7.rl⟩ fun H8 s8 => ?_
    have B8 := B7.same s8
    refine ⟨(by show 2 ≤ sizeLine; decide), fun q1 hq1 => ?_⟩
    have t9 := Same.new (o := .lst [V.int (maxI (exs rows)), .int (maxI (exs rows))]) hq1
    have B9 := B8.same t9
    have ei := exs_in G
    obtain ⟨y1, y2, y3, y4⟩ := (twoI_sm (i := maxI (exs rows)) (by omega) (by omega)).repr (by decide) (by decide)
    refine ⟨q1, _, rfl, twoI_dp upd_same, y1, y2, y3, y4, ?_⟩
    refine ⟨_, rfl, _, rfl, (by show 2 ≤ sizeLine; decide), fun q2 hq2 => ?_⟩
    have t10 := Same.new (o := .lst [V.int (maxI (exs rows)), .int (maxI (exs rows))]) hq2
    have B10 := B9.same t10
    refine ⟨q2, _, rfl, twoI_dp upd_same, y1, y2, y3, y4, rfl, _, rfl, ?_⟩
    rw [decide_eq_true rfl]
    refine iteF ?_
    generalize upd (upd H8 q1 (.lst [V.int (maxI (exs rows)), .int (maxI (exs rows))])) q2 (.lst [V.int (maxI (exs rows)), .int (maxI (exs rows))]) = H10 at B10
    clear B5 s6 B6 t7 htn B7 s8 B8 t9 hq1 B9 t10 hq2 y1 y2 y3 y4
    -- the frame
    refine ⟨_, rfl, ?_⟩
    dsimp only [tNil]
    refine ask_cf G B10.wv fun H11 s11 => ?_
    have B11 := B10.same s11
    refine ⟨_, rfl, rfl, ?_⟩
    dsimp only [tNil]
    refine ask_cf G B11.wv fun H12 s12 => ?_
    have B12 := B11.same s12
    refine ⟨(by show 2 ≤ sizeLine; decide), fun q1 hq1 => ?_⟩
    have t13 := Same.new (o := .lst [V.int (spot rows : Nat), .int (spot rows : Nat)]) hq1
    have B13 := B12.same t13
    have si := spot_in G
    obtain ⟨y1, y2, y3, y4⟩ := (twoI_sm (i := ((spot rows : Nat) : Int)) (by omega) (by omega)).repr (by decide) (by decide)
    refine ⟨q1, _, rfl, twoI_dp upd_same, y1, y2, y3, y4, ?_⟩
    refine ⟨_, rfl, _, rfl, (by show 2 ≤ sizeLine; decide), fun q2 hq2 => ?_⟩
    have t14 := Same.new (o := .lst [V.int (spot rows : Nat), .int (spot rows : Nat)]) hq2
    have B14 := B13.same t14
    refine ⟨q2, _, rfl, twoI_dp upd_same, y1, y2, y3, y4, rfl, _, rfl, ?_⟩
    rw [decide_eq_true rfl]
    refine iteF ?_
    generalize upd (upd H12 q1 (.lst [V.int (spot rows : Nat), .int (spot rows : Nat)])) q2 (.lst [V.int (spot rows : Nat), .int (spot rows : Nat)]) = H14 at B14
    clear B10 s11 B11 s12 B12 t13 hq1 B13 t14 hq2 y1 y2 y3 y4
    -- what is kept, what is refused
    refine ⟨_, rfl, _, rfl, _, rfl, st, lg, cl, a, ls, ws, us, rows, 200 * j + 100, rfl, by omega, B14, fun H15 S15 Tb15 k15 => ⟨_, rfl, iteF ?_⟩⟩
    have B15 := B14.kn k15 S15 Tb15
    refine ⟨_, rfl, _, rfl, _, rfl, st, lg, cl, a, ls, ws, us, rows, 200 * j + 100 + 9, rfl, by omega, B15, fun H16 S16 Tb16 k16 => ⟨_, rfl, iteF ?_⟩⟩
    have B16 := B15.kn k16 S16 Tb16
    refine ⟨_, rfl, _, _, rfl, hws B16, x1, x2, x3, x4, _, rfl, rfl, _, rfl, ?_⟩
    rw [decide_eq_true rfl]
    exact iteF ⟨S16.mono (by omega), Tb16, _, _, _, _, _, _, rfl⟩
end
end K45
namespace K45
open PySem PySem.Spec PyProof.Rows L2 PySem.W LamX KA KW KU KL
/-! ### what the head's heap says, put together -/
section
variable {K : PySem.W.Frag} {mg : Str → Option Value} {h : Heap}
theorem defT_of {x : Str} {st : Stmt} {f : Addr} {od an : Option Addr} {sl : Array (Option Value)} {oc kV dc pm cd ct : Value} (X : K.In h) (G : h.Ns mainGlobals mg)
    (a : PySem.W.nsIn K mainGlobals x = some (some (.ref f))) (l : K.lookup f = some ⟨oc, od, .func (PySem.W.fnOf x x (defArgs st) (defBody st) (defScope st) .none kV dc pm an cd ct), sl⟩) (c : PySem.W.codeIn K cd x = true) (k : PySem.W.keepIn K (.ref f) = true) :
    Nonempty (DefT K mg x st) := ⟨⟨f, _, fun_mk l c k, PySem.W.mg_of X G a⟩⟩
theorem lamT_of {x : Str} {st : Stmt} {f c Pt : Addr} {od an : Option Addr} {sl : Array (Option Value)} {oc kV dc pm ct : Value} (X : K.In h) (G : h.Ns mainGlobals mg) (T : DefT K mg x st)
    (a : PySem.W.nsIn K mainGlobals x = some (some (.ref f))) (l : K.lookup f = some ⟨oc, od, .func (PySem.W.fnOf x x (defArgs st) (defBody st) (defScope st) .none kV dc pm an (.ref c) ct), sl⟩) (cc : PySem.W.codeIn K (.ref c) x = true) :
    LamT K x st T.a T.d c Pt := by
  have e := (PySem.W.mg_of X G a).symm.trans T.m
  have e : f = T.a := Value.ref.inj (Option.some.inj e)
  obtain ⟨oc', od', kV', dc', pm', an', cd', ct', sl', ed, lk, hcd⟩ := T.f.ex
  rw [e] at l
  have e2 := l.symm.trans lk
  have e3 := congrArg Obj.data (Option.some.inj e2)
  have e4 := Data.func.inj e3
  exact ⟨oc, od, kV, dc, pm, an, ct, sl, e4.symm, by rw [← e4]; exact l, cc⟩
theorem reelT_of {C : Addr} (X : K.In h) (G : h.Ns mainGlobals mg) (a : PySem.W.nsIn K mainGlobals "ReelError" = some (some (.ref C))) (b : PySem.W.subIn K (.ref C) (.type "BaseException") = some true)
    (t : PySem.W.typeIn K (.ref C) = some (.type "type")) (d : PySem.W.hasDictIn K C = true) : ∃ R : ReelT K mg, R.C = C := ⟨⟨C, PySem.W.mg_of X G a, b, t, d⟩, rfl⟩
theorem excT_of {x : Str} {C R : Addr} (X : K.In h) (G : h.Ns mainGlobals mg) (a : PySem.W.nsIn K mainGlobals x = some (some (.ref C))) (q : PySem.W.excIn K C veB "ValueError.__new__" = true) (k : PySem.W.keepIn K (.ref C) = true)
    (b : PySem.W.subIn K (.ref C) (.type "BaseException") = some true) (t : PySem.W.typeIn K (.ref C) = some (.type "type")) (r : PySem.W.subIn K (.ref C) (.ref R) = some true)
    (e1 : PySem.W.findIn K (.ref C) "__getattribute__" = some (some (.builtin "BaseException.__getattribute__"))) (e2 : PySem.W.findIn K (.ref C) "__getattr__" = some none) (e3 : PySem.W.hasDictIn K C = true)
    (e4 : PySem.W.findIn K (.ref C) "__class__" = some (some (.builtin "object.__class__"))) (e5 : PySem.W.specialIn K (.builtin "object.__class__") "__get__" = some (some (.builtin "getset_descriptor.__get__")))
    (e6 : PySem.W.takesIn K (.builtin "object.__class__") = some true) (e7 : PySem.W.mroIn K C (.type "object") = some true) : Nonempty (ExcT K mg x R) :=
  ⟨⟨C, PySem.W.mg_of X G a, q, k, b, t, r, ⟨e1, e2, b, e3, e4, e5, e6, e7⟩⟩⟩
theorem cstT_of {x : Str} {n : Int} {t : Tok} (X : K.In h) (G : h.Ns mainGlobals mg) (a : PySem.W.nsIn K mainGlobals x = some (some (.int n t))) : CstT mg x n := ⟨t, PySem.W.mg_of X G a⟩
/-- the law, at the head's heap: two defs make lambdas -/
theorem law_at {l : PySem.W.OpenLaw} {w : World} {fa cr c Pt Pt2 : Addr} (T : Top K mg) (BW : BadWebT l.prog w K mg T.reel.C) (name : mg "law" = some (.ref fa)) (nP : Pt ≠ Pt2)
    (LT : LamT K "_law_kept_right" s__law_kept_right T._law_kept_right.a T._law_kept_right.d cr Pt) (ht : h.get? Pt = some { cls := .none, data := .fields #[] }) (hk : K.lookup Pt = none) (hc : PySem.W.CodeHd h cr Pt)
    (LT2 : LamT K "_law_refused_right" s__law_refused_right T._law_refused_right.a T._law_refused_right.d c Pt2) (ht2 : h.get? Pt2 = some { cls := .none, data := .fields #[] }) (hk2 : K.lookup Pt2 = none) (hc2 : PySem.W.CodeHd h c Pt2) : LawAtG l w K (L2.CX l.prog w) 12 63 "script" mg fa h := by
  have e : fa = T.law.a := Value.ref.inj (Option.some.inj (name.symm.trans T.law.m))
  subst e
  have both : ∀ {A : Addr × Addr → Prop}, A (cr, Pt) → A (c, Pt2) → ∀ p ∈ [(cr, Pt), (c, Pt2)], A p := fun q1 q2 p hp => by
    rcases List.mem_cons.mp hp with z | z
    · rw [z]
      exact q1
    · rw [List.mem_singleton.mp z]
      exact q2
  have m1 : (cr, Pt) ∈ [(cr, Pt), (c, Pt2)] := List.mem_cons_self
  have m2 : (c, Pt2) ∈ [(cr, Pt), (c, Pt2)] := List.mem_cons_of_mem _ List.mem_cons_self
  refine ⟨T.law.d, [(cr, Pt), (c, Pt2)], spLaw K Pt Pt2, ⟨both ht ht2, both hk hk2, both hc hc2⟩, fun s u => ?_, fun H a ns short t S => ?_, fun base _ _ tb => ok_law T BW nP LT (tb _ m1) LT2 (tb _ m2)⟩
  · obtain ⟨oc, od, kV, doc, pm, an, cdv, ct, osl, ed, lk, hcd⟩ := T.law.f.ex
    rw [ed]
    exact .of_eq rfl
  · refine ⟨a, ns, rfl, S, short, fun p hp => ?_, fun _ => rfl⟩
    rcases List.mem_cons.mp hp with z | z
    · rw [z]
      exact TabS.nil (t _ m1)
    · rw [List.mem_singleton.mp z]
      exact TabS.nil (t _ m2)
theorem calm_cx {P : Program} {w : World} {H : Hp} {s : Shared} {e : Value} {s' : Shared} (z : L2.CX P w [] H s (fun _ _ _ => False) e s') : False := by
  obtain ⟨_, _, _, _, _, _, _, _, _, _, _, _, f⟩ := z
  exact f
end
end K45
namespace K45
open PySem PySem.Spec PyProof.Rows L2 PySem.W LamX KA KW KU KL
section
variable {K : PySem.W.Frag} {mg : Str → Option Value} {h : Heap} {A : Prop}
theorem reel_use {C : Addr} (X : K.In h) (G : h.Ns mainGlobals mg) (a : PySem.W.nsIn K mainGlobals "ReelError" = some (some (.ref C))) (b : PySem.W.subIn K (.ref C) (.type "BaseException") = some true)
    (t : PySem.W.typeIn K (.ref C) = some (.type "type")) (d : PySem.W.hasDictIn K C = true) (n : ∀ R : ReelT K mg, R.C = C → A) : A := by
  obtain ⟨R, e⟩ := reelT_of X G a b t d
  exact n R e
theorem exc_use {x : Str} {C B : Addr} (X : K.In h) (G : h.Ns mainGlobals mg) (R : ReelT K mg) (eR : R.C = B) (a : PySem.W.nsIn K mainGlobals x = some (some (.ref C))) (q : PySem.W.excIn K C veB "ValueError.__new__" = true) (k : PySem.W.keepIn K (.ref C) = true)
    (b : PySem.W.subIn K (.ref C) (.type "BaseException") = some true) (t : PySem.W.typeIn K (.ref C) = some (.type "type")) (r : PySem.W.subIn K (.ref C) (.ref B) = some true)
    (e1 : PySem.W.findIn K (.ref C) "__getattribute__" = some (some (.builtin "BaseException.__getattribute__"))) (e2 : PySem.W.findIn K (.ref C) "__getattr__" = some none) (e3 : PySem.W.hasDictIn K C = true)
    (e4 : PySem.W.findIn K (.ref C) "__class__" = some (some (.builtin "object.__class__"))) (e5 : PySem.W.specialIn K (.builtin "object.__class__") "__get__" = some (some (.builtin "getset_descriptor.__get__")))
    (e6 : PySem.W.takesIn K (.builtin "object.__class__") = some true) (e7 : PySem.W.mroIn K C (.type "object") = some true) (n : ExcT K mg x R.C → A) : A := by
  rw [← eR] at r
  obtain ⟨D⟩ := excT_of X G a q k b t r e1 e2 e3 e4 e5 e6 e7
  exact n D
theorem def_use {x : Str} {st : Stmt} {f : Addr} {od an : Option Addr} {sl : Array (Option Value)} {oc kV dc pm cd ct : Value} (X : K.In h) (G : h.Ns mainGlobals mg)
    (a : PySem.W.nsIn K mainGlobals x = some (some (.ref f))) (l : K.lookup f = some ⟨oc, od, .func (PySem.W.fnOf x x (defArgs st) (defBody st) (defScope st) .none kV dc pm an cd ct), sl⟩) (c : PySem.W.codeIn K cd x = true) (k : PySem.W.keepIn K (.ref f) = true)
    (n : DefT K mg x st → A) : A := by
  obtain ⟨D⟩ := defT_of X G a l c k
  exact n D
theorem lam_use {x : Str} {st : Stmt} {f c Pt : Addr} {od an : Option Addr} {sl : Array (Option Value)} {oc kV dc pm ct : Value} (X : K.In h) (G : h.Ns mainGlobals mg) (T : DefT K mg x st) (t : h.get? Pt = some { cls := .none, data := .fields #[] })
    (a : PySem.W.nsIn K mainGlobals x = some (some (.ref f))) (l : K.lookup f = some ⟨oc, od, .func (PySem.W.fnOf x x (defArgs st) (defBody st) (defScope st) .none kV dc pm an (.ref c) ct), sl⟩) (cc : PySem.W.codeIn K (.ref c) x = true)
    (hk : K.lookup Pt = none) (hc : PySem.W.codeHdIn K c Pt = true) (n : LamT K x st T.a T.d c Pt → K.lookup Pt = none → PySem.W.CodeHd h c Pt → A) : A := n (lamT_of X G T a l cc) hk (PySem.W.codeHd_of_K X hc)
end
end K45
namespace K45
open PySem PySem.Spec PyProof.Rows L2 PySem.W LamX KA KW KU
open PySem.HandSPX (refsVE)
theorem say_none {P : Program} {w : World} {fI cda cc : Addr} {qual f z : Str} {j : Nat} {pc pn pf pj : Pos} (hd : f ≠ "__debug__") (h1 : z.length ≤ sizeLine) (h2 : (z ++ ("None" : Str)).length ≤ sizeLine) :
    Text P w fI cda cc qual f (.JoinedStr [.Constant (.str z) j pc, .FormattedValue (.Name f pn) (-1) none pf] pj) .none :=
  text_of hd (fun _ _ _ _ k => wpAny_formatField_none (k _ _)) h1 h2
theorem say_len {z : Str} {i : Int} (hz : z.length ≤ 1000) (hi : i.natAbs ≤ 1000000) : (z ++ (toString i : String)).length ≤ sizeLine := by
  have h : (PyData.shown (.int i)).length ≤ 13 := PyData.shown_int_le (Nat.lt_of_le_of_lt hi (by decide))
  have e : (z ++ ((toString i : String) : Str)).length = z.length + (Str.ofString (toString i)).length := Array.size_append
  have h2 : (Str.ofString (toString i)).length ≤ 13 := h
  rw [e]
  exact Nat.le_trans (show _ ≤ 1013 by omega) (by decide)
theorem say_log {i : Int} (hi : i.natAbs ≤ 1000000) : i.natAbs.log2 < 1920 := by
  rcases Nat.eq_zero_or_pos i.natAbs with z | z
  · rw [z]
    decide
  · exact Nat.lt_of_lt_of_le ((Nat.log2_lt (by omega)).mpr (Nat.lt_of_le_of_lt hi (by decide : 1000000 < 2 ^ 20))) (by decide)
section
variable {P : Program} {w : World} {K : PySem.W.Frag} {mg : Str → Option Value} {h : Heap} {A : Prop}
theorem badweb_use {C fI cda cc B : Addr} {e : Expr} (X : K.In h) (G : h.Ns mainGlobals mg) (R : ReelT K mg) (eR : R.C = B)
    (a : PySem.W.nsIn K mainGlobals "BadWeb" = some (some (.ref C))) (iC : PySem.W.findIn K (.ref C) "__init__" = some (some (.ref fI)))
    {oc : Value} {od : Option Addr} {doc pm : Value} {an : Option Addr} {ct : Value} {osl : Array (Option Value)} {r1 r2 p0 p1 p2 p3 pe q1 q2 q3 q4 : Pos}
    (lk : K.lookup fI = some ⟨oc, od, .func (ksFn "__init__" "BadWeb.__init__" (upArgs "at" r1 r2) (upBody "at" e p0 p1 p2 p3 pe q1 q2 q3 q4) (upScope "at") .none .none doc pm an (.ref cda) ct cc), osl⟩)
    (bd : ∀ a b : Value, bindArgs (ksFn "__init__" "BadWeb.__init__" (upArgs "at" r1 r2) (upBody "at" e p0 p1 p2 p3 pe q1 q2 q3 q4) (upScope "at") .none .none doc pm an (.ref cda) ct cc) ⟨[a, b], []⟩ = pure [(PySem.Str.ofString "self", a), (PySem.Str.ofString "at", b)])
    (sw : ∀ L : Addr, swapsWith (.Name "at" q3) (some (.Attribute (.Name "self" q1) "at" q2)) q4.line (ksEnv "BadWeb.__init__" (upScope "at") L fI (.ref cda) cc) = pure false)
    {pl : Sem Bool}
    (cl : ∀ L : Addr, eval (.Call (.Attribute (.Call (.Name "super" p0) [] [] p1) "__init__" p2) [e] [] p3) (ksEnv "BadWeb.__init__" (upScope "at") L fI (.ref cda) cc) = (do
        let o ← attributeBase (.Call (.Name "super" p0) [] [] p1) "__init__" (ksEnv "BadWeb.__init__" (upScope "at") L fI (.ref cda) cc) (eval (.Call (.Name "super" p0) [] [] p1) (ksEnv "BadWeb.__init__" (upScope "at") L fI (.ref cda) cc))
        standAt p2.atName
        let (g, first) ← holding [o] (getMethod o "__init__" pl)
        callWith p3 g first (backTo p3 (starEach [e] (ksEnv "BadWeb.__init__" (upScope "at") L fI (.ref cda) cc))) []))
    (star : ∀ env : Env, starEach [e] env = [(false, eval e env)])
    (sayN : Text P w fI cda cc "BadWeb.__init__" "at" e .none)
    (sayI : ∀ (i : Nat) (t : Tok), i ≤ 1000 → Text P w fI cda cc "BadWeb.__init__" "at" e (.int (i : Int) t))
    (code : PySem.W.codeIn K (.ref cda) "BadWeb.__init__" = true)
    {fcl : Value} {cdd : Option Addr} {vs : Array Value} {ccs : Array (Option Value)} {fl : Str} {tf : Tok}
    (f1 : K.lookup cda = some ⟨fcl, cdd, .fields vs, ccs⟩) (f2 : vs[2]? = some (.str fl tf)) (f3 : ((P.main.file : Str) == fl) = true)
    {ecl : Value} {cld : Option Addr} {csl : Array (Option Value)} (cell : K.lookup cc = some ⟨ecl, cld, .cell (some (.ref C)), csl⟩)
    {cd : ClassData} (c1 : PySem.W.clsIn K C = some cd) (c2 : refsVE cd.mro = true) (c3 : cd.hasDict = true)
    (self : PySem.W.mroIn K C (.ref C) = some true) (noSuper : PySem.W.nsIn K mainGlobals "super" = some none) (top : (P.main.scope.names.lookup ("super" : Str)).isSome = false) (third : PySem.W.nsIn K cStatics "thirdparty.any" = some none)
    (up : PySem.W.ks_superIn K C C "__init__" = some (some (.builtin "ValueError.__init__"))) (val : PySem.W.subIn K (.ref C) (.type "ValueError") = some true)
    (own : PySem.W.excInitIn K C [.type "ValueError", .type "Exception", .type "BaseException", .type "object"] "ValueError.__new__" = true)
    (set_ : PySem.W.findIn K (.ref C) "__setattr__" = some (some (.builtin "object.__setattr__"))) (noF : PySem.W.findIn K (.ref C) "at" = some none)
    {nm q : Str} {N : Addr} {bs bm : List Value} {sn : List Str} {sub : List Value} {ab : Bool} {col : Option Bool} {dd : Option Addr} {k0 k1 k2 k3 k5 : Option Value}
    (o1 : K.lookup C = some (excClassObj nm q C N bs bm true sn sub ab col dd k0 k1 k2 k3 k5 "ValueError.__new__")) (o2 : refsVE bm = true)
    (tC : PySem.W.typeIn K (.ref fI) = some (.type "function")) (ga : PySem.W.findIn K (.ref C) "__getattribute__" = some (some (.builtin "BaseException.__getattribute__"))) (gg : PySem.W.findIn K (.ref C) "__getattr__" = some none)
    (kC : PySem.W.keepIn K (.ref C) = true) (exC : PySem.W.subIn K (.ref C) (.type "BaseException") = some true) (tyC : PySem.W.typeIn K (.ref C) = some (.type "type")) (hdC : PySem.W.hasDictIn K C = true)
    (r : PySem.W.subIn K (.ref C) (.ref B) = some true)
    (e4 : PySem.W.findIn K (.ref C) "__class__" = some (some (.builtin "object.__class__"))) (e5 : PySem.W.specialIn K (.builtin "object.__class__") "__get__" = some (some (.builtin "getset_descriptor.__get__")))
    (e6 : PySem.W.takesIn K (.builtin "object.__class__") = some true) (e7 : PySem.W.mroIn K C (.type "object") = some true)
    (n : BadWebT P w K mg R.C → A) : A := by
  rw [← eR] at r
  exact n { C := C, fI := fI, cda := cda, cc := cc, e := e, g := PySem.W.mg_of X G a, u := { fn := ⟨oc, od, doc, pm, an, ct, osl, r1, r2, p0, p1, p2, p3, pe, q1, q2, q3, q4, lk, bd, sw, pl, cl⟩, star := star, code := code, file := ⟨fcl, cdd, vs, ccs, fl, tf, f1, f2, f3⟩, cell := ⟨ecl, cld, csl, cell⟩, cls := ⟨cd, c1, c2, c3⟩, self := self, noSuper := noSuper, top := top, third := third, up := up, val := val, own := own, «set» := set_, noF := noF, obj := ⟨nm, q, N, bs, bm, sn, sub, ab, col, dd, k0, k1, k2, k3, k5, o1, o2⟩, iC := iC, tC := tC, ga := ga, gg := gg, kC := kC, exC := exC, tyC := tyC, hdC := hdC, nf := by decide }, r := r, x := ⟨ga, gg, exC, hdC, e4, e5, e6, e7⟩, sayN := sayN, sayI := sayI }
end
end K45
open PySem PySem.W PyProof.Rows
set_option maxRecDepth 100000 in
set_option maxHeartbeats 0 in
theorem PySem.Challenge.cw_pricedreels_k45_webs_waits_and_kept_fram_holds : PySem.Challenge.rw_pricedreels_k45_webs_waits_and_kept_fram.Holds := by
  w_on; o_law; k_head; (case hw => w_witness2)
  k_fill
  refine KA.walk_ofG (l := PySem.Challenge.rw_pricedreels_k45_webs_waits_and_kept_fram) (k := 12) (n := 63) (x := "script") (CX := fun w => L2.CX PySem.Challenge.rw_pricedreels_k45_webs_waits_and_kept_fram.prog w) rfl (by decide) rfl ⟨rfl, by decide, by decide⟩ (fun w h Y => km_in_of Y) ?F (fun _ _ _ _ _ z => K45.calm_cx z)
  case F =>
    intro w mg fa h Y KX G hmg
    have tabs := km_tabs_of Y
    have one := tabs _ List.mem_cons_self
    have two := tabs _ (List.mem_cons_of_mem _ List.mem_cons_self)
    refine' K45.reel_use KX G ?ya ?yb ?yt ?yd ?_
    (case ya => k_is); (case yb => k_is); (case yt => k_is); (case yd => k_is)
    intro R eR
    refine' K45.badweb_use (P := (PySem.Challenge.rw_pricedreels_k45_webs_waits_and_kept_fram).prog) (w := w) KX G R eR ?ya ?yiC ?ylk ?ybd ?ysw ?ycl ?ystar ?ysayN ?ysayI ?ycode ?yf1 ?yf2 ?yf3 ?ycell ?yc1 ?yc2 ?yc3 ?yself ?ynoS ?ytop ?ythird ?yup ?yval ?yown ?yset ?ynoF ?yo1 ?yo2 ?ytC ?yga ?ygg ?ykC ?yexC ?ytyC ?yhdC ?yr ?ye4 ?ye5 ?ye6 ?ye7 ?_
    (case ya => k_is); (case yiC => k_is); (case ylk => k_is)
    (case ybd => intro a b; rfl)
    (case ysw => intro L; rfl)
    (case ycl => intro L; rfl)
    (case ystar => intro env; rfl)
    (case ysayN => exact K45.say_none (by decide) (by decide) (by decide))
    (case ysayI => intro i t hi; exact KU.text_int (by decide) (K45.say_log (by omega)) (by decide) (K45.say_len (by decide) (by omega)))
    (case ycode => k_is)
    (case yf1 => k_is); (case yf2 => rfl); (case yf3 => decide +kernel)
    (case ycell => k_is); (case yc1 => k_is); (case yc2 => decide +kernel); (case yc3 => rfl)
    (case yself => k_is); (case ynoS => k_is); (case ytop => kernel_rfl); (case ythird => k_is)
    (case yup => ks_is); (case yval => k_is); (case yown => kx_is); (case yset => k_is); (case ynoF => k_is)
    (case yo1 => k_is); (case yo2 => decide +kernel)
    (case ytC => k_is); (case yga => k_is); (case ygg => k_is); (case ykC => k_is); (case yexC => k_is); (case ytyC => k_is); (case yhdC => k_is); (case yr => k_is); (case ye4 => k_is); (case ye5 => k_is); (case ye6 => k_is); (case ye7 => k_is)
    intro BW
    refine' K45.exc_use (x := "BadOrder") KX G R eR ?ya ?yq ?yk ?yb ?yt ?yr ?ye1 ?ye2 ?ye3 ?ye4 ?ye5 ?ye6 ?ye7 ?_
    (case ya => k_is); (case yq => k_exc); (case yk => k_is); (case yb => k_is); (case yt => k_is); (case yr => k_is); (case ye1 => k_is); (case ye2 => k_is); (case ye3 => k_is); (case ye4 => k_is); (case ye5 => k_is); (case ye6 => k_is); (case ye7 => k_is)
    intro BadOrder
    refine' K45.exc_use (x := "BadSet") KX G R eR ?ya ?yq ?yk ?yb ?yt ?yr ?ye1 ?ye2 ?ye3 ?ye4 ?ye5 ?ye6 ?ye7 ?_
    (case ya => k_is); (case yq => k_exc); (case yk => k_is); (case yb => k_is); (case yt => k_is); (case yr => k_is); (case ye1 => k_is); (case ye2 => k_is); (case ye3 => k_is); (case ye4 => k_is); (case ye5 => k_is); (case ye6 => k_is); (case ye7 => k_is)
    intro BadSet
    refine' K45.exc_use (x := "BadWait") KX G R eR ?ya ?yq ?yk ?yb ?yt ?yr ?ye1 ?ye2 ?ye3 ?ye4 ?ye5 ?ye6 ?ye7 ?_
    (case ya => k_is); (case yq => k_exc); (case yk => k_is); (case yb => k_is); (case yt => k_is); (case yr => k_is); (case ye1 => k_is); (case ye2 => k_is); (case ye3 => k_is); (case ye4 => k_is); (case ye5 => k_is); (case ye6 => k_is); (case ye7 => k_is)
    intro BadWait
    refine' K45.def_use (x := "is_number") (st := K45.s_is_number) KX G ?ya ?yl ?yc ?yk ?_
    (case ya => k_is); (case yl => k_is); (case yc => k_is); (case yk => k_is)
    intro f_is_number
    refine' K45.def_use (x := "is_within") (st := K45.s_is_within) KX G ?ya ?yl ?yc ?yk ?_
    (case ya => k_is); (case yl => k_is); (case yc => k_is); (case yk => k_is)
    intro f_is_within
    refine' K45.def_use (x := "web_wait") (st := K45.s_web_wait) KX G ?ya ?yl ?yc ?yk ?_
    (case ya => k_is); (case yl => k_is); (case yc => k_is); (case yk => k_is)
    intro f_web_wait
    refine' K45.def_use (x := "critical_frame") (st := K45.s_critical_frame) KX G ?ya ?yl ?yc ?yk ?_
    (case ya => k_is); (case yl => k_is); (case yc => k_is); (case yk => k_is)
    intro f_critical_frame
    refine' K45.def_use (x := "kept") (st := K45.s_kept) KX G ?ya ?yl ?yc ?yk ?_
    (case ya => k_is); (case yl => k_is); (case yc => k_is); (case yk => k_is)
    intro f_kept
    refine' K45.def_use (x := "most_kept") (st := K45.s_most_kept) KX G ?ya ?yl ?yc ?yk ?_
    (case ya => k_is); (case yl => k_is); (case yc => k_is); (case yk => k_is)
    intro f_most_kept
    refine' K45.def_use (x := "check_web") (st := K45.s_check_web) KX G ?ya ?yl ?yc ?yk ?_
    (case ya => k_is); (case yl => k_is); (case yc => k_is); (case yk => k_is)
    intro f_check_web
    refine' K45.def_use (x := "check_wait") (st := K45.s_check_wait) KX G ?ya ?yl ?yc ?yk ?_
    (case ya => k_is); (case yl => k_is); (case yc => k_is); (case yk => k_is)
    intro f_check_wait
    refine' K45.def_use (x := "are_in") (st := K45.s_are_in) KX G ?ya ?yl ?yc ?yk ?_
    (case ya => k_is); (case yl => k_is); (case yc => k_is); (case yk => k_is)
    intro f_are_in
    refine' K45.def_use (x := "is_lot") (st := K45.s_is_lot) KX G ?ya ?yl ?yc ?yk ?_
    (case ya => k_is); (case yl => k_is); (case yc => k_is); (case yk => k_is)
    intro f_is_lot
    refine' K45.def_use (x := "is_whole") (st := K45.s_is_whole) KX G ?ya ?yl ?yc ?yk ?_
    (case ya => k_is); (case yl => k_is); (case yc => k_is); (case yk => k_is)
    intro f_is_whole
    refine' K45.def_use (x := "is_in_time") (st := K45.s_is_in_time) KX G ?ya ?yl ?yc ?yk ?_
    (case ya => k_is); (case yl => k_is); (case yc => k_is); (case yk => k_is)
    intro f_is_in_time
    refine' K45.def_use (x := "closed") (st := K45.s_closed) KX G ?ya ?yl ?yc ?yk ?_
    (case ya => k_is); (case yl => k_is); (case yc => k_is); (case yk => k_is)
    intro f_closed
    refine' K45.def_use (x := "excesses_of") (st := K45.s_excesses_of) KX G ?ya ?yl ?yc ?yk ?_
    (case ya => k_is); (case yl => k_is); (case yc => k_is); (case yk => k_is)
    intro f_excesses_of
    refine' K45.def_use (x := "kept_of") (st := K45.s_kept_of) KX G ?ya ?yl ?yc ?yk ?_
    (case ya => k_is); (case yl => k_is); (case yc => k_is); (case yk => k_is)
    intro f_kept_of
    refine' K45.def_use (x := "_law_begun") (st := K45.s__law_begun) KX G ?ya ?yl ?yc ?yk ?_
    (case ya => k_is); (case yl => k_is); (case yc => k_is); (case yk => k_is)
    intro f__law_begun
    refine' K45.def_use (x := "_law_draw") (st := K45.s__law_draw) KX G ?ya ?yl ?yc ?yk ?_
    (case ya => k_is); (case yl => k_is); (case yc => k_is); (case yk => k_is)
    intro f__law_draw
    refine' K45.def_use (x := "_law_pick") (st := K45.s__law_pick) KX G ?ya ?yl ?yc ?yk ?_
    (case ya => k_is); (case yl => k_is); (case yc => k_is); (case yk => k_is)
    intro f__law_pick
    refine' K45.def_use (x := "_law_mixed") (st := K45.s__law_mixed) KX G ?ya ?yl ?yc ?yk ?_
    (case ya => k_is); (case yl => k_is); (case yc => k_is); (case yk => k_is)
    intro f__law_mixed
    refine' K45.def_use (x := "_law_caught") (st := K45.s__law_caught) KX G ?ya ?yl ?yc ?yk ?_
    (case ya => k_is); (case yl => k_is); (case yc => k_is); (case yk => k_is)
    intro f__law_caught
    refine' K45.def_use (x := "_law_is_whole") (st := K45.s__law_is_whole) KX G ?ya ?yl ?yc ?yk ?_
    (case ya => k_is); (case yl => k_is); (case yc => k_is); (case yk => k_is)
    intro f__law_is_whole
    refine' K45.def_use (x := "_law_odd") (st := K45.s__law_odd) KX G ?ya ?yl ?yc ?yk ?_
    (case ya => k_is); (case yl => k_is); (case yc => k_is); (case yk => k_is)
    intro f__law_odd
    refine' K45.def_use (x := "_law_is_lot") (st := K45.s__law_is_lot) KX G ?ya ?yl ?yc ?yk ?_
    (case ya => k_is); (case yl => k_is); (case yc => k_is); (case yk => k_is)
    intro f__law_is_lot
    refine' K45.def_use (x := "_law_net") (st := K45.s__law_net) KX G ?ya ?yl ?yc ?yk ?_
    (case ya => k_is); (case yl => k_is); (case yc => k_is); (case yk => k_is)
    intro f__law_net
    refine' K45.def_use (x := "_law_is_shut") (st := K45.s__law_is_shut) KX G ?ya ?yl ?yc ?yk ?_
    (case ya => k_is); (case yl => k_is); (case yc => k_is); (case yk => k_is)
    intro f__law_is_shut
    refine' K45.def_use (x := "_law_shut_lots") (st := K45.s__law_shut_lots) KX G ?ya ?yl ?yc ?yk ?_
    (case ya => k_is); (case yl => k_is); (case yc => k_is); (case yk => k_is)
    intro f__law_shut_lots
    refine' K45.def_use (x := "_law_orders") (st := K45.s__law_orders) KX G ?ya ?yl ?yc ?yk ?_
    (case ya => k_is); (case yl => k_is); (case yc => k_is); (case yk => k_is)
    intro f__law_orders
    refine' K45.def_use (x := "_law_lag") (st := K45.s__law_lag) KX G ?ya ?yl ?yc ?yk ?_
    (case ya => k_is); (case yl => k_is); (case yc => k_is); (case yk => k_is)
    intro f__law_lag
    refine' K45.def_use (x := "_law_held") (st := K45.s__law_held) KX G ?ya ?yl ?yc ?yk ?_
    (case ya => k_is); (case yl => k_is); (case yc => k_is); (case yk => k_is)
    intro f__law_held
    refine' K45.def_use (x := "_law_most_held") (st := K45.s__law_most_held) KX G ?ya ?yl ?yc ?yk ?_
    (case ya => k_is); (case yl => k_is); (case yc => k_is); (case yk => k_is)
    intro f__law_most_held
    refine' K45.def_use (x := "_law_critical") (st := K45.s__law_critical) KX G ?ya ?yl ?yc ?yk ?_
    (case ya => k_is); (case yl => k_is); (case yc => k_is); (case yk => k_is)
    intro f__law_critical
    refine' K45.def_use (x := "_law_refused_net") (st := K45.s__law_refused_net) KX G ?ya ?yl ?yc ?yk ?_
    (case ya => k_is); (case yl => k_is); (case yc => k_is); (case yk => k_is)
    intro f__law_refused_net
    refine' K45.def_use (x := "_law_bent_net") (st := K45.s__law_bent_net) KX G ?ya ?yl ?yc ?yk ?_
    (case ya => k_is); (case yl => k_is); (case yc => k_is); (case yk => k_is)
    intro f__law_bent_net
    refine' K45.def_use (x := "_law_kept_right") (st := K45.s__law_kept_right) KX G ?ya ?yl ?yc ?yk ?_
    (case ya => k_is); (case yl => k_is); (case yc => k_is); (case yk => k_is)
    intro f__law_kept_right
    refine' K45.def_use (x := "_law_bent_line") (st := K45.s__law_bent_line) KX G ?ya ?yl ?yc ?yk ?_
    (case ya => k_is); (case yl => k_is); (case yc => k_is); (case yk => k_is)
    intro f__law_bent_line
    refine' K45.def_use (x := "_law_refused_right") (st := K45.s__law_refused_right) KX G ?ya ?yl ?yc ?yk ?_
    (case ya => k_is); (case yl => k_is); (case yc => k_is); (case yk => k_is)
    intro f__law_refused_right
    refine' K45.def_use (x := "law") (st := K45.s_law) KX G ?ya ?yl ?yc ?yk ?_
    (case ya => k_is); (case yl => k_is); (case yc => k_is); (case yk => k_is)
    intro f_law
    refine' K45.lam_use KX G f__law_kept_right two ?ya ?yl ?yc ?yh ?yj ?_
    (case ya => k_is); (case yl => k_is); (case yc => k_is); (case yh => kernel_rfl); (case yj => kernel_rfl)
    intro LT noT hd
    refine' K45.lam_use KX G f__law_refused_right one ?ya ?yl ?yc ?yh ?yj ?_
    (case ya => k_is); (case yl => k_is); (case yc => k_is); (case yh => kernel_rfl); (case yj => kernel_rfl)
    intro LT2 noT2 hd2
    have cMOST_FRAMES := K45.cstT_of (x := "MOST_FRAMES") (n := 10) KX G (by k_is)
    have cMOST_WAIT := K45.cstT_of (x := "MOST_WAIT") (n := 20) KX G (by k_is)
    have b_isinstance := PySem.W.mg_none_of (n := "isinstance") KX G (by k_is)
    have b_int := PySem.W.mg_none_of (n := "int") KX G (by k_is)
    have b_bool := PySem.W.mg_none_of (n := "bool") KX G (by k_is)
    have b_len := PySem.W.mg_none_of (n := "len") KX G (by k_is)
    have b_abs := PySem.W.mg_none_of (n := "abs") KX G (by k_is)
    have b_range := PySem.W.mg_none_of (n := "range") KX G (by k_is)
    have b_min := PySem.W.mg_none_of (n := "min") KX G (by k_is)
    have b_max := PySem.W.mg_none_of (n := "max") KX G (by k_is)
    have b_repr := PySem.W.mg_none_of (n := "repr") KX G (by k_is)
    have b_list := PySem.W.mg_none_of (n := "list") KX G (by k_is)
    have b_tuple := PySem.W.mg_none_of (n := "tuple") KX G (by k_is)
    have b_sorted := PySem.W.mg_none_of (n := "sorted") KX G (by k_is)
    have b_set := PySem.W.mg_none_of (n := "set") KX G (by k_is)
    have b_zip := PySem.W.mg_none_of (n := "zip") KX G (by k_is)
    have b_all := PySem.W.mg_none_of (n := "all") KX G (by k_is)
    have b_enumerate := PySem.W.mg_none_of (n := "enumerate") KX G (by k_is)
    have b_ValueError := PySem.W.mg_none_of (n := "ValueError") KX G (by k_is)
    exact K45.law_at (Pt := _) (Pt2 := _) { reel := R, BadOrder := BadOrder, BadSet := BadSet, BadWait := BadWait, is_number := f_is_number, is_within := f_is_within, web_wait := f_web_wait, critical_frame := f_critical_frame, kept := f_kept, most_kept := f_most_kept, check_web := f_check_web, check_wait := f_check_wait, are_in := f_are_in, is_lot := f_is_lot, is_whole := f_is_whole, is_in_time := f_is_in_time, closed := f_closed, excesses_of := f_excesses_of, kept_of := f_kept_of, _law_begun := f__law_begun, _law_draw := f__law_draw, _law_pick := f__law_pick, _law_mixed := f__law_mixed, _law_caught := f__law_caught, _law_is_whole := f__law_is_whole, _law_odd := f__law_odd, _law_is_lot := f__law_is_lot, _law_net := f__law_net, _law_is_shut := f__law_is_shut, _law_shut_lots := f__law_shut_lots, _law_orders := f__law_orders, _law_lag := f__law_lag, _law_held := f__law_held, _law_most_held := f__law_most_held, _law_critical := f__law_critical, _law_refused_net := f__law_refused_net, _law_bent_net := f__law_bent_net, _law_kept_right := f__law_kept_right, _law_bent_line := f__law_bent_line, _law_refused_right := f__law_refused_right, law := f_law, cMOST_FRAMES := cMOST_FRAMES, cMOST_WAIT := cMOST_WAIT, b_isinstance := b_isinstance, b_int := b_int, b_bool := b_bool, b_len := b_len, b_abs := b_abs, b_range := b_range, b_min := b_min, b_max := b_max, b_repr := b_repr, b_list := b_list, b_tuple := b_tuple, b_sorted := b_sorted, b_set := b_set, b_zip := b_zip, b_all := b_all, b_enumerate := b_enumerate, b_ValueError := b_ValueError } BW hmg (by decide) LT two noT hd LT2 one noT2 hd2
