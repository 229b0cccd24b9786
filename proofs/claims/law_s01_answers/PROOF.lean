import PyProof.Rows.All
import Wide.All
import OpenK.AllK
import Wide.FinOn
import Open.SpecLaws
import KE.OsGo
import HandS.ForSpec
import HandS.ForMost
import HandS.CallLocal
import HandS.Codes
import HandS.SortInts
import HandS.Flow
import HandS.Evl
import HandS.More
import HandS.SetFor
import HandS.Conv
import KE.KDictDisplayH
import PySem.Challenge.RW_deedhouse_s01_answers
set_option Elab.async false
set_option maxRecDepth 100000
set_option maxHeartbeats 4000000
set_option linter.all false
namespace DH
/-! ### lists of numbers in order -/
theorem perm_sorted : ∀ {l m : List Nat}, l.Perm m → l.Pairwise (· ≤ ·) → m.Pairwise (· ≤ ·) → l = m
  | [], m, h, _, _ => (List.nil_perm.mp h).symm
  | a :: l, [], h, _, _ => absurd h.symm (by simp)
  | a :: l, b :: m, h, hl, hm => by
    have h1 := List.pairwise_cons.mp hl
    have h2 := List.pairwise_cons.mp hm
    have e : a = b := by
      have ha : a ∈ b :: m := h.mem_iff.mp List.mem_cons_self
      have hb : b ∈ a :: l := h.mem_iff.mpr List.mem_cons_self
      have x1 : b ≤ a := by
        rcases List.mem_cons.mp ha with z | z
        · exact Nat.le_of_eq z.symm
        · exact h2.1 a z
      have x2 : a ≤ b := by
        rcases List.mem_cons.mp hb with z | z
        · exact Nat.le_of_eq z.symm
        · exact h1.1 b z
      omega
    subst e
    rw [perm_sorted h.cons_inv h1.2 h2.2]
theorem le_of_lt {l : List Nat} (h : l.Pairwise (· < ·)) : l.Pairwise (· ≤ ·) := h.imp fun h => Nat.le_of_lt h
theorem ins_mem (d x : Nat) : ∀ l : List Nat, x ∈ Vberan.insertNum d l ↔ x = d ∨ x ∈ l
  | [] => by simp [Vberan.insertNum]
  | a :: l => by
    unfold Vberan.insertNum
    split
    · simp
    · split
      · rename_i h
        subst h
        simp
      · rw [List.mem_cons, ins_mem d x l, List.mem_cons]
        constructor
        · rintro (h | h | h)
          · exact .inr (.inl h)
          · exact .inl h
          · exact .inr (.inr h)
        · rintro (h | h | h)
          · exact .inr (.inl h)
          · exact .inl h
          · exact .inr (.inr h)
theorem ins_sorted (d : Nat) : ∀ {l : List Nat}, l.Pairwise (· < ·) → (Vberan.insertNum d l).Pairwise (· < ·)
  | [], _ => by simp [Vberan.insertNum]
  | a :: l, h => by
    have h1 := List.pairwise_cons.mp h
    unfold Vberan.insertNum
    split
    · rename_i hd
      refine List.pairwise_cons.mpr ⟨fun x hx => ?_, h⟩
      rcases List.mem_cons.mp hx with z | z
      · rw [z]; exact hd
      · exact Nat.lt_trans hd (h1.1 x z)
    · split
      · exact h
      · rename_i hd he
        refine List.pairwise_cons.mpr ⟨fun x hx => ?_, ins_sorted d h1.2⟩
        rcases (ins_mem d x l).mp hx with z | z
        · rw [z]; omega
        · exact h1.1 x z
theorem ins_perm (d : Nat) : ∀ {l : List Nat}, d ∉ l → (Vberan.insertNum d l).Perm (l ++ [d])
  | [], _ => by simp [Vberan.insertNum]
  | a :: l, h => by
    unfold Vberan.insertNum
    split
    · exact (List.perm_append_singleton d (a :: l)).symm
    · split
      · rename_i he
        exact absurd (by rw [he]; exact List.mem_cons_self) h
      · exact (ins_perm d fun z => h (List.mem_cons_of_mem _ z)).cons a
theorem sorted_ins {d : Nat} {l m : List Nat} (hl : l.Pairwise (· < ·)) (hd : d ∉ l) (hp : m.Perm (l ++ [d])) (hm : m.Pairwise (· ≤ ·)) : m = Vberan.insertNum d l :=
  perm_sorted (hp.trans (ins_perm d hd).symm) hm (le_of_lt (ins_sorted d hl))
/-- two lists, each number once, in order, with the same members -/
theorem sorted_ext {l m : List Nat} (hl : l.Pairwise (· < ·)) (hm : m.Pairwise (· < ·)) (h : ∀ x, x ∈ l ↔ x ∈ m) : l = m := by
  have nd : ∀ {k : List Nat}, k.Pairwise (· < ·) → k.Nodup := fun h => h.imp fun h => Nat.ne_of_lt h
  exact perm_sorted ((List.perm_ext_iff_of_nodup (nd hl) (nd hm)).mpr h) (le_of_lt hl) (le_of_lt hm)
theorem range_sorted (n : Nat) : (List.range n).Pairwise (· < ·) := List.pairwise_lt_range
theorem nodup_lt : ∀ (n : Nat) (l : List Nat), l.Nodup → (∀ x ∈ l, x < n) → l.length ≤ n
  | 0, [], _, _ => Nat.le_refl _
  | 0, a :: _, _, h => absurd (h a List.mem_cons_self) (Nat.not_lt_zero a)
  | n + 1, l, nd, h => by
    have h1 := nodup_lt n (l.erase n) (nd.erase n) fun x hx => by
      have z := (nd.mem_erase_iff).mp hx
      have := h x z.2
      omega
    have h2 := List.length_erase (a := n) (l := l)
    split at h2 <;> omega
/-! ### the closure -/
section
variable (h : Vberan.House)
theorem mem_round (l : List Nat) (d : Nat) : d ∈ Vberan.round h l ↔ d < h.deeds.length ∧ (d ∈ l ∨ Vberan.met l (Vberan.deedAt h d).needs = true) := by
  unfold Vberan.round Vberan.numbers
  rw [List.mem_filter, List.mem_range]
  simp
theorem round_sorted (l : List Nat) : (Vberan.round h l).Pairwise (· < ·) := (range_sorted _).filter _
theorem met_mono {l m : List Nat} (hs : ∀ x ∈ l, x ∈ m) {n : List (List Nat)} (hm : Vberan.met l n = true) : Vberan.met m n = true := by
  unfold Vberan.met at hm ⊢
  rw [List.any_eq_true] at hm ⊢
  obtain ⟨s, h1, h2⟩ := hm
  refine ⟨s, h1, ?_⟩
  rw [List.all_eq_true] at h2 ⊢
  intro x hx
  have := h2 x hx
  rw [List.contains_iff_mem] at this ⊢
  exact hs x this
theorem met_congr {l m : List Nat} (hs : ∀ x, x ∈ l ↔ x ∈ m) (n : List (List Nat)) : Vberan.met l n = Vberan.met m n := by
  rw [Bool.eq_iff_iff]
  exact ⟨met_mono fun x hx => (hs x).mp hx, met_mono fun x hx => (hs x).mpr hx⟩
theorem rounds_fix {l : List Nat} (hf : Vberan.round h l = l) : ∀ n, Vberan.rounds h n l = l
  | 0 => rfl
  | n + 1 => by
    show Vberan.rounds h n (Vberan.round h l) = l
    rw [hf]
    exact rounds_fix hf n
theorem rounds_succ : ∀ (n : Nat) (l : List Nat), Vberan.rounds h (n + 1) l = Vberan.round h (Vberan.rounds h n l)
  | 0, _ => rfl
  | n + 1, l => rounds_succ n (Vberan.round h l)
/-- what one more turn brings: those not yet in whose needs are met -/
def fresh (r : List Nat) : List Nat := (List.range h.deeds.length).filter fun d => !r.contains d && Vberan.met r (Vberan.deedAt h d).needs
/-- r, in whatever order, is what k rounds bring -/
structure Reached (st r : List Nat) (k : Nat) : Prop where
  nd : r.Nodup
  lt : ∀ x ∈ r, x < h.deeds.length
  mem : ∀ x, x ∈ r ↔ x ∈ Vberan.rounds h k st
  srt : (Vberan.rounds h k st).Pairwise (· < ·)
  many : k ≤ r.length
theorem mem_fresh (r : List Nat) (x : Nat) : x ∈ fresh h r ↔ x < h.deeds.length ∧ x ∉ r ∧ Vberan.met r (Vberan.deedAt h x).needs = true := by
  unfold fresh
  rw [List.mem_filter, List.mem_range]
  simp
theorem Reached.step {st r : List Nat} {k : Nat} (q : Reached h st r k) (hne : fresh h r ≠ []) : Reached h st (r ++ fresh h r) (k + 1) := by
  have hm : ∀ x, x ∈ r ++ fresh h r ↔ x ∈ Vberan.rounds h (k + 1) st := fun x => by
    rw [rounds_succ, mem_round, List.mem_append, mem_fresh, ← q.mem, met_congr (fun x => (q.mem x).symm)]
    constructor
    · rintro (z | ⟨a, b, c⟩)
      · exact ⟨q.lt x z, .inl z⟩
      · exact ⟨a, .inr c⟩
    · rintro ⟨a, b | b⟩
      · exact .inl b
      · by_cases hx : x ∈ r
        · exact .inl hx
        · exact .inr ⟨a, hx, b⟩
  refine ⟨?_, fun x hx => ?_, hm, ?_, ?_⟩
  · rw [List.nodup_append]
    refine ⟨q.nd, ((range_sorted _).imp fun h => Nat.ne_of_lt h).filter _, fun a ha b hb e => ?_⟩
    subst e
    exact ((mem_fresh h r a).mp hb).2.1 ha
  · rcases List.mem_append.mp hx with z | z
    · exact q.lt x z
    · exact ((mem_fresh h r x).mp z).1
  · rw [rounds_succ]
    exact round_sorted h _
  · rw [List.length_append]
    have := q.many
    have := List.length_pos_iff.mpr hne
    omega
theorem Reached.done {st r m : List Nat} {k : Nat} (q : Reached h st r k) (he : fresh h r = []) (hp : m.Perm r) (hs : m.Pairwise (· ≤ ·)) : m = Vberan.closure h st := by
  have fix : Vberan.round h (Vberan.rounds h k st) = Vberan.rounds h k st := sorted_ext (round_sorted h _) q.srt fun x => by
    rw [mem_round, ← q.mem, met_congr (fun x => (q.mem x).symm)]
    constructor
    · rintro ⟨a, b | b⟩
      · exact b
      · by_cases hx : x ∈ r
        · exact hx
        · have : x ∈ fresh h r := (mem_fresh h r x).mpr ⟨a, hx, b⟩
          rw [he] at this
          cases this
    · exact fun z => ⟨q.lt x z, .inl z⟩
  have hk : k ≤ h.deeds.length := by
    have h1 := q.many
    have h2 : r.length ≤ h.deeds.length := by
      exact nodup_lt _ _ q.nd q.lt
    omega
  have e : Vberan.closure h st = Vberan.rounds h k st := by
    have split : ∀ (a b : Nat) (l : List Nat), Vberan.rounds h (a + b) l = Vberan.rounds h b (Vberan.rounds h a l) := fun a => by
      induction a with
      | zero => intro b l; rw [Nat.zero_add]; rfl
      | succ a ih => intro b l; rw [Nat.succ_add]; exact ih b (Vberan.round h l)
    unfold Vberan.closure
    have := split k (h.deeds.length - k) st
    rw [Nat.add_sub_cancel' hk] at this
    rw [this]
    exact rounds_fix h fix _
  rw [e]
  refine sorted_ext (l := m) ?_ q.srt fun x => by rw [← q.mem]; exact hp.mem_iff
  have nd : m.Nodup := hp.nodup_iff.mpr q.nd
  exact List.Pairwise.imp (fun {a b} (z : a ≤ b ∧ a ≠ b) => by omega) (List.Pairwise.and hs nd)
end
end DH
namespace DH
/-! ### houses and plays as they are to be -/
structure WfH (h : Vberan.House) : Prop where
  k5 : h.kinds ≤ 5
  fl : h.first.length = h.kinds
  n16 : h.deeds.length ≤ 16
  us : ∀ e ∈ h.deeds, e.uses.Pairwise (· < ·)
  ul : ∀ e ∈ h.deeds, ∀ u ∈ e.uses, u < h.kinds
  gl : ∀ e ∈ h.deeds, e.gives.length = h.kinds
  nl : ∀ e ∈ h.deeds, e.needs.length ≤ 41
  nm : ∀ e ∈ h.deeds, ∀ s ∈ e.needs, s.length ≤ 40
structure WfP (h : Vberan.House) (p : Vberan.Play) : Prop where
  ds : p.done.Pairwise (· < ·)
  dl : ∀ x ∈ p.done, x < h.deeds.length
  tl : p.things.length = h.kinds
theorem WfH.u5 {h : Vberan.House} (w : WfH h) {e : Vberan.Deed} (he : e ∈ h.deeds) : e.uses.length ≤ 5 :=
  Nat.le_trans (nodup_lt _ _ ((w.us e he).imp fun h => Nat.ne_of_lt h) (w.ul e he)) w.k5
theorem deedAt_of {h : Vberan.House} {d : Nat} {e : Vberan.Deed} (he : h.deeds[d]? = some e) : Vberan.deedAt h d = e := by
  unfold Vberan.deedAt
  rw [List.getD_eq_getElem?_getD, he]
  rfl
theorem deedAt_mem {h : Vberan.House} {d : Nat} (hd : d < h.deeds.length) : Vberan.deedAt h d ∈ h.deeds := by
  rw [deedAt_of (List.getElem?_eq_getElem hd)]
  exact List.getElem_mem hd
/-! ### sums -/
theorem sum_if {f : Nat → Nat} {c : Nat → Bool} : ∀ l : List Nat, (l.map fun k => if c k = true then f k else 0).sum = ((l.filter c).map f).sum
  | [] => rfl
  | a :: l => by
    rw [List.map_cons, List.sum_cons, sum_if l, List.filter_cons]
    by_cases h : c a = true
    · rw [if_pos h, if_pos h, List.map_cons, List.sum_cons]
    · rw [if_neg h, if_neg h, Nat.zero_add]
theorem sum_add {f g : Nat → Nat} : ∀ l : List Nat, (l.map fun k => f k + g k).sum = (l.map f).sum + (l.map g).sum
  | [] => rfl
  | a :: l => by
    rw [List.map_cons, List.map_cons, List.map_cons, List.sum_cons, List.sum_cons, List.sum_cons, sum_add l]
    omega
theorem sum_zero : ∀ l : List Nat, (l.map fun _ => (0 : Nat)).sum = 0
  | [] => rfl
  | a :: l => by
    rw [List.map_cons, List.sum_cons, sum_zero l]
theorem sum_swap {f : Nat → Nat → Nat} (m : List Nat) : ∀ l : List Nat, (l.map fun a => (m.map fun b => f a b).sum).sum = (m.map fun b => (l.map fun a => f a b).sum).sum
  | [] => (sum_zero m).symm
  | a :: l => by
    rw [List.map_cons, List.sum_cons, sum_swap m l, ← sum_add]
    rfl
theorem filter_own {ks : List Nat} {n : Nat} (hs : ks.Pairwise (· < ·)) (hl : ∀ k ∈ ks, k < n) : (List.range n).filter ks.contains = ks :=
  sorted_ext ((range_sorted n).filter _) hs fun x => by
    rw [List.mem_filter, List.mem_range, List.contains_iff_mem]
    exact ⟨fun h => h.2, fun h => ⟨hl x h, h⟩⟩
/-- the things counted kind by kind, giver by giver -/
def countL (h : Vberan.House) (ks gs : List Nat) : Nat := (ks.map fun k => h.first.getD k 0).sum + (gs.map fun g => (ks.map fun k => Vberan.givesOf h g k).sum).sum
theorem supply_count {h : Vberan.House} {ks : List Nat} (gs : List Nat) (hs : ks.Pairwise (· < ·)) (hl : ∀ k ∈ ks, k < h.kinds) : Vberan.supply h ks gs = countL h ks gs := by
  unfold Vberan.supply countL
  rw [sum_if, filter_own hs hl, sum_add]
  exact congrArg _ (sum_swap gs ks)
theorem take_sum {f : Nat → Nat} {l : List Nat} {i : Nat} {a : Nat} (h : l[i]? = some a) : ((l.take (i + 1)).map f).sum = ((l.take i).map f).sum + f a := by
  have e : l.take (i + 1) = l.take i ++ [a] := by
    rw [List.take_add_one, h]
    rfl
  rw [e, List.map_append, List.sum_append]
  simp
end DH
namespace DH
/-! ### the told ranks -/
section
variable (h : Vberan.House)
def rk : Nat → List (Option Nat)
  | 0 => (Vberan.numbers h).map fun _ => none
  | i + 1 => Vberan.rankRound h (i + 1) (rk i)
theorem ranksFrom_rk : ∀ f i, Vberan.ranksFrom h f (i + 1) (rk h i) = rk h (i + f)
  | 0, _ => rfl
  | f + 1, i => by
    show Vberan.ranksFrom h f (i + 1 + 1) (rk h (i + 1)) = _
    rw [ranksFrom_rk f (i + 1)]
    congr 1
    omega
theorem ranks_rk : Vberan.ranks h = rk h h.deeds.length := by
  have z := ranksFrom_rk h h.deeds.length 0
  simp only [Nat.zero_add] at z
  exact z
theorem numbers_len : (Vberan.numbers h).length = h.deeds.length := List.length_range
theorem round_len (k : Nat) (r : List (Option Nat)) : (Vberan.rankRound h k r).length = h.deeds.length := by
  unfold Vberan.rankRound
  rw [List.length_map, numbers_len]
theorem rk_len : ∀ i, (rk h i).length = h.deeds.length
  | 0 => by
    unfold rk
    rw [List.length_map, numbers_len]
  | i + 1 => round_len h _ _
def behindR (r : List (Option Nat)) : List Nat := (Vberan.numbers h).filter fun d => (r.getD d none).isSome
theorem round_at {k : Nat} {r : List (Option Nat)} {d : Nat} (hd : d < h.deeds.length) : (Vberan.rankRound h k r).getD d none = match r.getD d none with
    | some x => some x
    | none => if Vberan.sure h (behindR h r) d = true then some k else none := by
  unfold Vberan.rankRound
  rw [List.getD_eq_getElem?_getD, List.getElem?_map]
  unfold Vberan.numbers
  rw [List.getElem?_range hd]
  rfl
theorem rk_pos : ∀ (i d v : Nat), (rk h i).getD d none = some v → 0 < v
  | 0, d, v, e => by
    unfold rk at e
    rw [List.getD_eq_getElem?_getD, List.getElem?_map] at e
    cases q : (Vberan.numbers h)[d]? with
    | none => rw [q] at e; cases e
    | some x => rw [q] at e; cases e
  | i + 1, d, v, e => by
    by_cases hd : d < h.deeds.length
    · have z := round_at h (k := i + 1) (r := rk h i) hd
      rw [show rk h (i + 1) = Vberan.rankRound h (i + 1) (rk h i) from rfl, z] at e
      split at e
      · rename_i x hx
        cases e
        exact rk_pos i d _ hx
      · split at e
        · cases e
          exact Nat.succ_pos i
        · cases e
    · rw [List.getD_eq_getElem?_getD, List.getElem?_eq_none (by rw [rk_len]; omega)] at e
      cases e
def shown (r : List (Option Nat)) : List Nat := r.map fun x => x.getD 0
/-- the numbers as they stand within a round, i deeds gone through -/
def cur (r : List (Option Nat)) (k i : Nat) : List Nat := (List.range h.deeds.length).map fun d => if d < i then ((Vberan.rankRound h k r).getD d none).getD 0 else (r.getD d none).getD 0
theorem cur_len (r : List (Option Nat)) (k i : Nat) : (cur h r k i).length = h.deeds.length := by
  unfold cur
  rw [List.length_map, List.length_range]
theorem cur_at (r : List (Option Nat)) (k i : Nat) {d : Nat} (hd : d < h.deeds.length) : (cur h r k i)[d]? = some (if d < i then ((Vberan.rankRound h k r).getD d none).getD 0 else (r.getD d none).getD 0) := by
  unfold cur
  rw [List.getElem?_map, List.getElem?_range hd]
  rfl
theorem shown_of {r : List (Option Nat)} (hr : r.length = h.deeds.length) : shown r = (List.range h.deeds.length).map fun d => (r.getD d none).getD 0 := by
  refine List.ext_getElem? fun d => ?_
  unfold shown
  rw [List.getElem?_map, List.getElem?_map]
  by_cases hd : d < h.deeds.length
  · rw [List.getElem?_range hd]
    show _ = some ((r.getD d none).getD 0)
    rw [List.getD_eq_getElem?_getD, List.getElem?_eq_getElem (by rw [hr]; exact hd)]
    rfl
  · rw [List.getElem?_eq_none (by rw [hr]; omega), List.getElem?_eq_none (by rw [List.length_range]; omega)]
    rfl
theorem cur_zero {r : List (Option Nat)} (k : Nat) (hr : r.length = h.deeds.length) : cur h r k 0 = shown r := by
  rw [shown_of h hr]
  unfold cur
  exact List.map_congr_left fun d _ => if_neg (Nat.not_lt_zero d)
theorem cur_end (r : List (Option Nat)) (k : Nat) : cur h r k h.deeds.length = shown (Vberan.rankRound h k r) := by
  rw [shown_of h (round_len h k r)]
  unfold cur
  exact List.map_congr_left fun d hd => if_pos (List.mem_range.mp hd)
theorem cur_set {r : List (Option Nat)} {k i : Nat} (hi : i < h.deeds.length) (h1 : r.getD i none = none) (h2 : Vberan.sure h (behindR h r) i = true) : cur h r k (i + 1) = (cur h r k i).set i k := by
  refine List.ext_getElem? fun d => ?_
  by_cases hd : d < h.deeds.length
  · rw [cur_at h r k (i + 1) hd]
    by_cases e : i = d
    · subst e
      rw [List.getElem?_set_self (by rw [cur_len]; exact hi), if_pos (Nat.lt_succ_self i), round_at h hi, h1]
      dsimp only
      rw [if_pos h2]
      rfl
    · rw [List.getElem?_set_ne e, cur_at h r k i hd]
      by_cases hl : d < i
      · rw [if_pos hl, if_pos (by omega)]
      · rw [if_neg hl, if_neg (by omega)]
  · rw [List.getElem?_eq_none (by rw [cur_len]; omega), List.getElem?_eq_none (by rw [List.length_set, cur_len]; omega)]
theorem cur_keep {r : List (Option Nat)} {k i : Nat} (hi : i < h.deeds.length) (h1 : ¬ (r.getD i none = none ∧ Vberan.sure h (behindR h r) i = true)) : cur h r k (i + 1) = cur h r k i := by
  refine List.ext_getElem? fun d => ?_
  by_cases hd : d < h.deeds.length
  · rw [cur_at h r k (i + 1) hd, cur_at h r k i hd]
    by_cases e : i = d
    · subst e
      rw [if_pos (Nat.lt_succ_self i), if_neg (Nat.lt_irrefl i), round_at h hi]
      cases q : r.getD i none with
      | some x => rfl
      | none =>
        dsimp only
        rw [if_neg fun z => h1 ⟨q, z⟩]
    · by_cases hl : d < i
      · rw [if_pos hl, if_pos (by omega)]
      · rw [if_neg hl, if_neg (by omega)]
  · rw [List.getElem?_eq_none (by rw [cur_len]; omega), List.getElem?_eq_none (by rw [cur_len]; omega)]
end
end DH
namespace DH
/-! ### the calls, cut -/
inductive Item where
  | num (z : Int)
  | row (l : List Int)
/-- what's handed in with a call: its numbers, then its rows -/
def toCall (c : List (List Int)) : Int × List Item := match c with
  | (p :: xs) :: rows => (p, xs.map Item.num ++ rows.map Item.row)
  | _ => (0, [])
def eat : List Bool → List Int → Option (List Item × List Int)
  | [], r => some ([], r)
  | false :: _, [] => none
  | false :: s, x :: r => match eat s r with
    | none => none
    | some (i, t) => some (.num x :: i, t)
  | true :: s, r => match PyFlat.row r with
    | none => none
    | some (x, t) => match eat s t with
      | none => none
      | some (i, u) => some (.row x :: i, u)
theorem eat_rows : ∀ (k : Nat) (r : List Int) (xs : List (List Int)) (t : List Int), PyFlat.rows k r = some (xs, t) → eat (List.replicate k true) r = some (xs.map Item.row, t)
  | 0, r, xs, t, h => by
    unfold PyFlat.rows at h
    cases h
    rfl
  | k + 1, r, xs, t, h => by
    unfold PyFlat.rows at h
    rw [List.replicate_succ]
    unfold eat
    cases h1 : PyFlat.row r with
    | none => rw [h1] at h; cases h
    | some y =>
      obtain ⟨y, s⟩ := y
      rw [h1] at h
      dsimp only at h ⊢
      cases h2 : PyFlat.rows k s with
      | none => rw [h2] at h; cases h
      | some z =>
        obtain ⟨z, u⟩ := z
        rw [h2] at h
        dsimp only at h
        cases h
        rw [eat_rows k s z _ h2]
        rfl
theorem eat_nums : ∀ (n : Nat) (r : List Int) (s : List Bool) (i : List Item) (t : List Int), n ≤ r.length → eat s (r.drop n) = some (i, t) → eat (List.replicate n false ++ s) r = some ((r.take n).map Item.num ++ i, t)
  | 0, r, s, i, t, _, h => h
  | n + 1, [], s, i, t, hl, h => absurd hl (Nat.not_succ_le_zero n)
  | n + 1, x :: r, s, i, t, hl, h => by
    rw [List.replicate_succ, List.cons_append]
    unfold eat
    rw [eat_nums n r s i t (Nat.le_of_succ_le_succ hl) h]
    rfl
theorem call_eat {shape : Int → Option (Nat × Nat)} {p : Int} {r : List Int} {c : List (List Int)} {t : List Int} (h : PyFlat.call shape (p :: r) = some (c, t)) :
    ∃ n k i, shape p = some (n, k) ∧ eat (List.replicate n false ++ List.replicate k true) r = some (i, t) ∧ toCall c = (p, i) := by
  unfold PyFlat.call at h
  dsimp only at h
  cases h1 : shape p with
  | none => rw [h1] at h; cases h
  | some y =>
    obtain ⟨n, k⟩ := y
    rw [h1] at h
    dsimp only at h
    split at h
    · cases h
    · rename_i hn
      cases h2 : PyFlat.rows k (r.drop n) with
      | none => rw [h2] at h; cases h
      | some z =>
        obtain ⟨xs, u⟩ := z
        rw [h2] at h
        cases h
        exact ⟨n, k, _, rfl, eat_nums n r _ _ _ (by omega) (eat_rows k _ _ _ h2), rfl⟩
/-- what's eaten is shorter by a number at least where something is read -/
theorem eat_le : ∀ (s : List Bool) (r : List Int) (i : List Item) (t : List Int), eat s r = some (i, t) → t.length ≤ r.length
  | [], r, i, t, h => by cases h; exact Nat.le_refl _
  | false :: s, [], i, t, h => by cases h
  | false :: s, x :: r, i, t, h => by
    unfold eat at h
    cases h1 : eat s r with
    | none => rw [h1] at h; cases h
    | some y =>
      obtain ⟨j, u⟩ := y
      rw [h1] at h
      cases h
      exact Nat.le_succ_of_le (eat_le s r j t h1)
  | true :: s, r, i, t, h => by
    unfold eat at h
    cases h1 : PyFlat.row r with
    | none => rw [h1] at h; cases h
    | some y =>
      obtain ⟨x, u⟩ := y
      rw [h1] at h
      dsimp only at h
      cases h2 : eat s u with
      | none => rw [h2] at h; cases h
      | some z =>
        obtain ⟨j, w⟩ := z
        rw [h2] at h
        cases h
        have := eat_le s u j t h2
        have h3 : u.length ≤ r.length := by
          unfold PyFlat.row at h1
          cases r with
          | nil => cases h1
          | cons n r =>
            dsimp only at h1
            split at h1
            · cases h1
              rw [List.length_drop, List.length_cons]
              omega
            · cases h1
        omega
theorem calls_cons {shape : Int → Option (Nat × Nat)} {f : Nat} {p : Int} {r : List Int} {cs : List (List (List Int))} (h : PyFlat.calls shape f (p :: r) = some cs) :
    ∃ g c t cs', f = g + 1 ∧ PyFlat.call shape (p :: r) = some (c, t) ∧ PyFlat.calls shape g t = some cs' ∧ cs = c :: cs' := by
  cases f with
  | zero => cases h
  | succ g =>
    unfold PyFlat.calls at h
    cases h1 : PyFlat.call shape (p :: r) with
    | none => rw [h1] at h; cases h
    | some y =>
      obtain ⟨c, t⟩ := y
      rw [h1] at h
      dsimp only at h
      cases h2 : PyFlat.calls shape g t with
      | none => rw [h2] at h; cases h
      | some z =>
        rw [h2] at h
        cases h
        exact ⟨g, c, t, z, rfl, rfl, h2, rfl⟩
theorem calls_nil {shape : Int → Option (Nat × Nat)} {f : Nat} {cs : List (List (List Int))} (h : PyFlat.calls shape f [] = some cs) : cs = [] := by
  cases f <;> (unfold PyFlat.calls at h; cases h; rfl)
/-! ### needs, cut -/
def joinHead (c : List Nat) : List (List Nat) → List (List Nat)
  | [] => [c]
  | l :: q => (c ++ l) :: q
theorem split_ne (n : List Int) : ∃ l q, Vberan.splitNeeds n = l :: q := by
  cases n with
  | nil => exact ⟨[], [], rfl⟩
  | cons z r =>
    unfold Vberan.splitNeeds
    split
    · exact ⟨_, _, rfl⟩
    · split <;> exact ⟨_, _, rfl⟩
theorem join_nil (n : List Int) : joinHead [] (Vberan.splitNeeds n) = Vberan.splitNeeds n := by
  obtain ⟨l, q, e⟩ := split_ne n
  rw [e]
  rfl
theorem join_neg {z : Int} {r : List Int} (c : List Nat) (h : z < 0) : joinHead c (Vberan.splitNeeds (z :: r)) = c :: joinHead [] (Vberan.splitNeeds r) := by
  obtain ⟨l, q, e⟩ := split_ne r
  have e2 : Vberan.splitNeeds (z :: r) = [] :: (l :: q) := by
    rw [Vberan.splitNeeds, e]
    dsimp only
    rw [if_pos h]
  rw [e2, e]
  show (c ++ []) :: (l :: q) = c :: ([] ++ l) :: q
  rw [List.append_nil, List.nil_append]
theorem join_pos {z : Int} {r : List Int} (c : List Nat) (h : ¬ z < 0) : joinHead c (Vberan.splitNeeds (z :: r)) = joinHead (c ++ [z.toNat]) (Vberan.splitNeeds r) := by
  obtain ⟨l, q, e⟩ := split_ne r
  have e2 : Vberan.splitNeeds (z :: r) = (z.toNat :: l) :: q := by
    rw [Vberan.splitNeeds, e]
    dsimp only
    rw [if_neg h]
  rw [e2, e]
  show (c ++ z.toNat :: l) :: q = ((c ++ [z.toNat]) ++ l) :: q
  rw [List.append_assoc]
  rfl
theorem split_len : ∀ n : List Int, (Vberan.splitNeeds n).length ≤ n.length + 1 ∧ ∀ l ∈ Vberan.splitNeeds n, l.length ≤ n.length
  | [] => ⟨Nat.le_refl _, fun l hl => by
    rw [List.mem_singleton.mp (show l ∈ [[]] from hl)]
    exact Nat.le_refl _⟩
  | z :: r => by
    obtain ⟨i1, i2⟩ := split_len r
    obtain ⟨l, q, e⟩ := split_ne r
    rw [e] at i1 i2
    rw [List.length_cons] at i1
    have il := i2 l List.mem_cons_self
    by_cases hz : z < 0
    · have e2 : Vberan.splitNeeds (z :: r) = [] :: (l :: q) := by
        rw [Vberan.splitNeeds, e]
        exact if_pos hz
      rw [e2]
      refine ⟨by rw [List.length_cons, List.length_cons, List.length_cons]; omega, fun m hm => ?_⟩
      rw [List.length_cons]
      rcases List.mem_cons.mp hm with c | c
      · rw [c]; exact Nat.zero_le _
      · exact Nat.le_succ_of_le (i2 m c)
    · have e2 : Vberan.splitNeeds (z :: r) = (z.toNat :: l) :: q := by
        rw [Vberan.splitNeeds, e]
        exact if_neg hz
      rw [e2]
      refine ⟨by rw [List.length_cons, List.length_cons]; omega, fun m hm => ?_⟩
      rw [List.length_cons]
      rcases List.mem_cons.mp hm with c | c
      · rw [c, List.length_cons]; omega
      · exact Nat.le_succ_of_le (i2 m (List.mem_cons_of_mem _ c))
end DH
namespace DH
/-! ### rising -/
theorem rising_range : ∀ l : List Int, ((List.range' 1 (l.length - 1)).all fun i => decide (l.getD (i - 1) 0 < l.getD i 0)) = Vberan.rising l
  | [] => rfl
  | [_] => rfl
  | a :: b :: r => by
    have ih := rising_range (b :: r)
    have e1 : (a :: b :: r).length - 1 = (b :: r).length - 1 + 1 := by simp
    rw [e1, List.range'_succ, List.all_cons, Vberan.rising, ← ih]
    refine congr (congrArg _ rfl) ?_
    have e2 : List.range' (1 + 1) ((b :: r).length - 1) = (List.range' 1 ((b :: r).length - 1)).map (· + 1) := by
      rw [List.range'_eq_map_range, List.range'_eq_map_range, List.map_map]
      refine List.map_congr_left fun x _ => ?_
      show 1 + 1 + x = 1 + x + 1
      omega
    rw [e2, List.all_map]
    rw [Bool.eq_iff_iff, List.all_eq_true, List.all_eq_true]
    have key : ∀ x, x ∈ List.range' 1 ((b :: r).length - 1) → ((fun i => decide ((a :: b :: r).getD (i - 1) 0 < (a :: b :: r).getD i 0)) ∘ (· + 1)) x = decide ((b :: r).getD (x - 1) 0 < (b :: r).getD x 0) := fun x hx => by
      have hx1 : 1 ≤ x := (List.mem_range'_1.mp hx).1
      show decide ((a :: b :: r).getD (x + 1 - 1) 0 < (a :: b :: r).getD (x + 1) 0) = _
      obtain ⟨y, rfl⟩ : ∃ y, x = y + 1 := ⟨x - 1, by omega⟩
      rfl
    exact ⟨fun h x hx => (key x hx).symm.trans (h x hx), fun h x hx => (key x hx).trans (h x hx)⟩
/-! ### what is due -/
def refI (gs : List (Int × Bool)) : Int := match gs.find? fun x => x.2 with
  | some x => x.1
  | none => 0
theorem refI_nil : refI [] = 0 := rfl
theorem refI_t {r : Int} {g : Bool} {gs : List (Int × Bool)} (h : g = true) : refI ((r, g) :: gs) = r := by
  subst h
  rfl
theorem refI_f {r : Int} {g : Bool} {gs : List (Int × Bool)} (h : g = false) : refI ((r, g) :: gs) = refI gs := by
  subst h
  rfl
theorem guarded_ref {s : Vberan.State} {gs : List (Int × Bool)} {k : Unit → Vberan.State × List Int} (h : ∀ x ∈ gs, x.1 ≠ 0) : Vberan.guarded s gs k = if refI gs = 0 then k () else (s, [refI gs]) := by
  unfold Vberan.guarded refI
  cases e : gs.find? fun x => x.2 with
  | none => rfl
  | some x =>
    have := h x (List.mem_of_find?_eq_some e)
    dsimp only
    rw [if_neg this]
def gHouse (s : Vberan.State) (l : List Int) : List (Int × Bool) := [(-1, !(decide (l.length ≤ 5) && l.all fun n => Vberan.inr n 0 20)), (-5, s.house.isSome)]
def told3 (n u g : List Int) : Bool := decide (n.length ≤ 40) && (n.all (fun x => Vberan.inr x (-1) 15) && (decide (u.length ≤ 5) && (u.all (fun x => Vberan.inr x 0 4) && (Vberan.rising u && (decide (g.length ≤ 5) && g.all fun x => Vberan.inr x 0 9)))))
def gDeed (s : Vberan.State) (n u g : List Int) : List (Int × Bool) := [(-1, !told3 n u g), Vberan.none_ s, (-3, u.any fun k => decide (((Vberan.theHouse s).kinds : Int) ≤ k)), (-4, decide (Vberan.DEEDS ≤ (Vberan.theHouse s).deeds.length)), (-6, decide (g.length ≠ (Vberan.theHouse s).kinds)), (-7, !s.play.done.isEmpty)]
def gAct (s : Vberan.State) (d k : Int) : List (Int × Bool) := [(-1, !(Vberan.isDeed d && Vberan.inr k (-1) 4)), Vberan.none_ s, Vberan.noDeed s d, (-8, !(Vberan.choices (Vberan.theHouse s) s.play d.toNat).contains (Vberan.kindFits s k) || (decide (0 ≤ k) && decide (((Vberan.theHouse s).kinds : Int) ≤ k)))]
def gBare (s : Vberan.State) : List (Int × Bool) := [Vberan.none_ s]
def gAccepts (s : Vberan.State) (l : List Int) : List (Int × Bool) := [(-1, !(decide (l.length ≤ 16) && l.all fun n => Vberan.inr n 0 1000)), Vberan.none_ s]
def gSure (s : Vberan.State) (d : Int) (l : List Int) : List (Int × Bool) := [(-1, !(Vberan.isDeed d && (decide (l.length ≤ 16) && (l.all Vberan.isDeed && Vberan.rising l)))), Vberan.none_ s, (-3, (Vberan.noDeed s d).2 || l.any fun e => (Vberan.noDeed s e).2)]
/-! ### steps, told with -1 for no kind -/
def kindsI (ds : List Vberan.Deed) (p : Vberan.Play) (d : Nat) : List Int :=
  match ds[d]? with
  | none => []
  | some e => if (p.done.contains d || !Vberan.met p.done e.needs) = true then [] else if e.uses.length = 0 then [-1] else (e.uses.filter fun k => decide (0 < p.things.getD k 0)).map Int.ofNat
def stepsI (ds : List Vberan.Deed) (p : Vberan.Play) : List (Nat × Int) := (List.range ds.length).flatMap fun d => (kindsI ds p d).map fun k => (d, k)
theorem kindNum_lt {h : Vberan.House} {k : Nat} (hk : k < h.kinds) : Vberan.kindNum h k = (k : Int) := if_neg (by omega)
theorem choices_kinds {h : Vberan.House} {p : Vberan.Play} {d : Nat} (wf : WfH h) (hd : d < h.deeds.length) : (Vberan.choices h p d).map (Vberan.kindNum h) = kindsI h.deeds p d := by
  have he : h.deeds[d]? = some (Vberan.deedAt h d) := by
    rw [deedAt_of (List.getElem?_eq_getElem hd), List.getElem?_eq_getElem hd]
  have hm := deedAt_mem hd
  unfold Vberan.choices kindsI
  rw [he]
  dsimp only
  split
  · rfl
  · by_cases e : (Vberan.deedAt h d).uses = []
    · rw [e]
      show [Vberan.kindNum h h.kinds] = [-1]
      unfold Vberan.kindNum
      rw [if_pos rfl]
    · have e1 : (Vberan.deedAt h d).uses.isEmpty = false := by
        cases q : (Vberan.deedAt h d).uses with
        | nil => exact absurd q e
        | cons a b => rfl
      have e2 : ¬ (Vberan.deedAt h d).uses.length = 0 := fun z => e (List.eq_nil_of_length_eq_zero z)
      rw [e1, if_neg Bool.false_ne_true, if_neg e2, show (fun k => (Vberan.deedAt h d).uses.contains k && decide (1 ≤ Vberan.thing p k)) = (fun k => decide (1 ≤ Vberan.thing p k) && (Vberan.deedAt h d).uses.contains k) from funext fun k => Bool.and_comm _ _, ← List.filter_filter, filter_own]
      · refine List.map_congr_left fun k hk => ?_
        have := wf.ul _ hm k (List.mem_filter.mp hk).1
        rw [kindNum_lt this]
        rfl
      · exact (wf.us _ hm)
      · exact (wf.ul _ hm)
theorem steps_stepsI {h : Vberan.House} {p : Vberan.Play} (wf : WfH h) : (Vberan.steps h p).map (fun x => (x.1, Vberan.kindNum h x.2)) = stepsI h.deeds p := by
  unfold Vberan.steps stepsI Vberan.numbers
  rw [List.map_flatMap]
  have : ∀ d ∈ List.range h.deeds.length, ((Vberan.choices h p d).map fun k => (d, k)).map (fun x => (x.1, Vberan.kindNum h x.2)) = (kindsI h.deeds p d).map fun k => (d, k) := fun d hd => by
    rw [← choices_kinds wf (List.mem_range.mp hd), List.map_map, List.map_map]
    rfl
  unfold List.flatMap
  rw [List.map_congr_left this]
theorem stepNums_I {h : Vberan.House} (l : List (Nat × Nat)) : Vberan.stepNums h l = (l.map fun x => (x.1, Vberan.kindNum h x.2)).flatMap fun x : Nat × Int => [(x.1 : Int), x.2] := by
  unfold Vberan.stepNums
  rw [List.flatMap_map]
theorem mem_choices_lt {h : Vberan.House} {p : Vberan.Play} {d k : Nat} (hk : k ∈ Vberan.choices h p d) : k ≤ h.kinds := by
  unfold Vberan.choices at hk
  split at hk
  · cases hk
  · split at hk
    · rw [List.mem_singleton] at hk
      omega
    · have := List.mem_range.mp (List.mem_filter.mp hk).1
      omega
/-- whether a deed can be done with a kind, told either way -/
theorem fits_iff {s : Vberan.State} {h : Vberan.House} (hs : s.house = some h) (wf : WfH h) {d : Nat} (hd : d < h.deeds.length) {k : Int} (hk : -1 ≤ k) :
    (!(Vberan.choices (Vberan.theHouse s) s.play d).contains (Vberan.kindFits s k) || (decide (0 ≤ k) && decide (((Vberan.theHouse s).kinds : Int) ≤ k))) = !(kindsI h.deeds s.play d).contains k := by
  have et : Vberan.theHouse s = h := by
    unfold Vberan.theHouse
    rw [hs]
    rfl
  have ef : Vberan.kindFits s k = if k < 0 then h.kinds else k.toNat := by
    unfold Vberan.kindFits
    rw [et]
  rw [et, ef, ← choices_kinds wf hd, Bool.eq_iff_iff]
  simp only [Bool.or_eq_true, Bool.not_eq_true', Bool.and_eq_true, decide_eq_true_eq, ← Bool.not_eq_true, List.contains_iff_mem, List.mem_map]
  constructor
  · rintro hc ⟨c, hm, e⟩
    have hle := mem_choices_lt hm
    unfold Vberan.kindNum at e
    split at e
    · rename_i hcc
      subst e
      rcases hc with z | z
      · rw [if_pos (by decide), ← hcc] at z
        exact z hm
      · omega
    · subst e
      rcases hc with z | z
      · rw [if_neg (by omega), Int.toNat_natCast] at z
        exact z hm
      · omega
  · intro hc
    by_cases hlt : k < 0
    · left
      rw [if_pos hlt]
      intro hm
      refine hc ⟨h.kinds, hm, ?_⟩
      unfold Vberan.kindNum
      rw [if_pos rfl]
      omega
    · by_cases hb : (h.kinds : Int) ≤ k
      · right
        exact ⟨by omega, hb⟩
      · left
        rw [if_neg hlt]
        intro hm
        refine hc ⟨k.toNat, hm, ?_⟩
        rw [kindNum_lt (by omega), Int.toNat_of_nonneg (by omega)]
/-! ### a play after a step -/
def playThings (e : Vberan.Deed) (p : Vberan.Play) (k : Int) : List Nat :=
  let t := (p.things.zip e.gives).map fun x => x.1 + x.2
  if k = -1 then t else t.set k.toNat (t.getD k.toNat 0 - 1)
def playAfter (e : Vberan.Deed) (p : Vberan.Play) (d : Nat) (k : Int) : Vberan.Play := ⟨Vberan.insertNum d p.done, playThings e p k⟩
theorem zip_at {a b : List Nat} {i n : Nat} (ha : a.length = n) (hb : b.length = n) (hi : i < n) : ((a.zip b).map fun x => x.1 + x.2)[i]? = some (a.getD i 0 + b.getD i 0) := by
  have e1 : a[i]? = some (a.getD i 0) := by
    rw [List.getD_eq_getElem?_getD, List.getElem?_eq_getElem (by omega)]
    rfl
  have e2 : b[i]? = some (b.getD i 0) := by
    rw [List.getD_eq_getElem?_getD, List.getElem?_eq_getElem (by omega)]
    rfl
  have e3 : (a.zip b)[i]? = some (a.getD i 0, b.getD i 0) := List.getElem?_zip_eq_some.mpr ⟨e1, e2⟩
  rw [List.getElem?_map, e3]
  rfl
theorem after_doneWith {h : Vberan.House} {p : Vberan.Play} {d k : Nat} (wf : WfH h) (wp : WfP h p) (hd : d < h.deeds.length) (hk : k ∈ Vberan.choices h p d) :
    playAfter (Vberan.deedAt h d) p d (Vberan.kindNum h k) = Vberan.doneWith h p d k := by
  have hg := wf.gl _ (deedAt_mem hd)
  have hle := mem_choices_lt hk
  have key : playThings (Vberan.deedAt h d) p (Vberan.kindNum h k) = (List.range h.kinds).map fun j => Vberan.thing p j - (if j = k then 1 else 0) + Vberan.givesOf h d j := by
    refine List.ext_getElem? fun j => ?_
    have hz : ((p.things.zip (Vberan.deedAt h d).gives).map fun x => x.1 + x.2).length = h.kinds := by
      rw [List.length_map, List.length_zip, wp.tl, hg]
      omega
    have rhs : j < h.kinds → ((List.range h.kinds).map fun j => Vberan.thing p j - (if j = k then 1 else 0) + Vberan.givesOf h d j)[j]? = some (p.things.getD j 0 - (if j = k then 1 else 0) + (Vberan.deedAt h d).gives.getD j 0) := fun hj => by
      rw [List.getElem?_map, List.getElem?_range hj]
      rfl
    by_cases hj : j < h.kinds
    · rw [rhs hj]
      unfold playThings
      dsimp only
      by_cases hkk : k = h.kinds
      · have e1 : Vberan.kindNum h k = -1 := if_pos hkk
        rw [e1, if_pos rfl, zip_at wp.tl hg hj, if_neg (by omega)]
        rfl
      · have hkl : k < h.kinds := by omega
        have h1 : 1 ≤ p.things.getD k 0 := by
          unfold Vberan.choices at hk
          split at hk
          · cases hk
          · split at hk
            · rw [List.mem_singleton] at hk
              omega
            · have := (List.mem_filter.mp hk).2
              rw [Bool.and_eq_true, decide_eq_true_eq] at this
              exact this.2
        rw [kindNum_lt hkl, if_neg (by omega), Int.toNat_natCast]
        by_cases e : k = j
        · subst e
          rw [List.getElem?_set_self (by rw [hz]; exact hkl), if_pos rfl, List.getD_eq_getElem?_getD, zip_at wp.tl hg hkl]
          show some (p.things.getD k 0 + _ - 1) = some (p.things.getD k 0 - 1 + _)
          congr 1
          omega
        · rw [List.getElem?_set_ne e, zip_at wp.tl hg hj, if_neg (Ne.symm e)]
          rfl
    · rw [List.getElem?_eq_none (by
        unfold playThings
        dsimp only
        split
        · omega
        · rw [List.length_set]; omega), List.getElem?_eq_none (by rw [List.length_map, List.length_range]; omega)]
  unfold playAfter Vberan.doneWith
  rw [key]
theorem doneWith_wf {h : Vberan.House} {p : Vberan.Play} (wp : WfP h p) {d k : Nat} (hd : d < h.deeds.length) : WfP h (Vberan.doneWith h p d k) := by
  refine ⟨ins_sorted d wp.ds, fun x hx => ?_, ?_⟩
  · rcases (ins_mem d x p.done).mp hx with z | z
    · rw [z]; exact hd
    · exact wp.dl x z
  · show ((List.range h.kinds).map _).length = _
    rw [List.length_map, List.length_range]
end DH
namespace DH
/-! ### a call: its number, what's handed in with it, what may be due -/
def itemsOf : Vberan.Call → Int × List Item
  | .house l => (0, [.row l])
  | .deed n u g => (1, [.row n, .row u, .row g])
  | .act d k => (2, [.num d, .num k])
  | .again => (3, [])
  | .now => (4, [])
  | .can => (5, [])
  | .closure => (6, [])
  | .ranks => (7, [])
  | .accepts l => (8, [.row l])
  | .sure d l => (9, [.num d, .row l])
  | .served => (10, [])
  | .bound l => (11, [.row l])
  | .states => (12, [])
  | .dead => (13, [])
  | .way => (14, [])
  | .doom => (15, [])
  | .must d => (16, [.num d])
  | .look d => (17, [.num d])
  | .rivals d => (18, [.num d])
def Old : Vberan.Call → Prop
  | .house _ => True
  | .deed _ _ _ => True
  | .act _ _ => True
  | .again => True
  | .now => True
  | .can => True
  | .closure => True
  | .ranks => True
  | .accepts _ => True
  | .sure _ _ => True
  | _ => False
def gRow (s : Vberan.State) : List (Int × Bool) := [Vberan.none_ s, Vberan.tooMany s (Vberan.theHouse s)]
def gDeedNum (s : Vberan.State) (d : Int) : List (Int × Bool) := [(-1, !Vberan.isDeed d), Vberan.none_ s, Vberan.noDeed s d]
def gCall (s : Vberan.State) : Vberan.Call → List (Int × Bool)
  | .house l => gHouse s l
  | .deed n u g => gDeed s n u g
  | .act d k => gAct s d k
  | .accepts l => gAccepts s l
  | .sure d l => gSure s d l
  | .bound l => [(-1, !(decide (l.length ≤ 5) && (l.all (fun k => Vberan.inr k 0 4) && Vberan.rising l))), Vberan.none_ s, (-3, l.any fun k => decide (((Vberan.theHouse s).kinds : Int) ≤ k))]
  | .dead => gRow s
  | .way => gRow s
  | .doom => gRow s
  | .must d => [(-1, !Vberan.isDeed d), Vberan.none_ s, Vberan.noDeed s d, Vberan.tooMany s (Vberan.without (Vberan.theHouse s) d.toNat)]
  | .look d => gDeedNum s d
  | .rivals d => gDeedNum s d
  | _ => gBare s
theorem refI_zero {gs : List (Int × Bool)} (h : ∀ x ∈ gs, x.1 ≠ 0) (e : refI gs = 0) : ∀ x ∈ gs, x.2 = false := by
  unfold refI at e
  cases q : gs.find? fun x => x.2 with
  | some x =>
    rw [q] at e
    exact absurd e (h x (List.mem_of_find?_eq_some q))
  | none =>
    intro x hx
    have := List.find?_eq_none.mp q x hx
    simpa using this
theorem g_all (s : Vberan.State) (c : Vberan.Call) : ((gCall s c).all fun x => x.1 != 0) = true := by cases c <;> rfl
theorem g_ne (s : Vberan.State) (c : Vberan.Call) : ∀ x ∈ gCall s c, x.1 ≠ 0 := fun x hx => by
  have := List.all_eq_true.mp (g_all s c) x hx
  simpa using this
/-- what a call that isn't refused makes of the state, and tells behind the 0 -/
def nsOf (s : Vberan.State) : Vberan.Call → Vberan.State
  | .house l => ⟨some ⟨l.length, Vberan.nats l, []⟩, ⟨[], Vberan.nats l⟩⟩
  | .deed n u g => ⟨some { Vberan.theHouse s with deeds := (Vberan.theHouse s).deeds ++ [⟨Vberan.splitNeeds n, Vberan.nats u, Vberan.nats g⟩] }, s.play⟩
  | .act d k => { s with play := Vberan.doneWith (Vberan.theHouse s) s.play d.toNat (Vberan.kindFits s k) }
  | .again => { s with play := Vberan.fresh (Vberan.theHouse s) }
  | _ => s
/-- a way, told; 0 for none -/
def wayNums (s : Vberan.State) : Option (List (Nat × Nat)) → List Int
  | none => [0]
  | some l => 1 :: Vberan.stepNums (Vberan.theHouse s) l
def lookNums (x : Vberan.Deed) : List Int := (x.needs.length : Int) :: (x.needs.flatMap (fun l => (l.length : Int) :: Vberan.ints l) ++ ((x.uses.length : Int) :: (Vberan.ints x.uses ++ Vberan.ints x.gives)))
def anOf (s : Vberan.State) : Vberan.Call → List Int
  | .deed _ _ _ => [((Vberan.theHouse s).deeds.length : Int)]
  | .act d k => [if Vberan.ended (Vberan.doneWith (Vberan.theHouse s) s.play d.toNat (Vberan.kindFits s k)) = true then 1 else 0]
  | .now => (s.play.done.length : Int) :: (Vberan.ints s.play.done ++ Vberan.ints s.play.things)
  | .can => Vberan.stepNums (Vberan.theHouse s) (Vberan.steps (Vberan.theHouse s) s.play)
  | .closure => Vberan.ints (Vberan.closure (Vberan.theHouse s) s.play.done)
  | .ranks => (Vberan.ranks (Vberan.theHouse s)).map fun x => ((x.getD 0 : Nat) : Int)
  | .accepts l => [if Vberan.accepts (Vberan.theHouse s) (Vberan.nats l) = true then 1 else 0]
  | .sure d l => [if Vberan.sure (Vberan.theHouse s) (Vberan.nats l) d.toNat = true then 1 else 0]
  | .served => ((Vberan.served (Vberan.theHouse s)).length : Int) :: ((Vberan.served (Vberan.theHouse s)).flatMap (fun x => [(x.1 : Int), (x.2 : Int)]) ++ Vberan.ints (Vberan.poor (Vberan.theHouse s)))
  | .bound l => [(Vberan.bound (Vberan.theHouse s) (Vberan.nats l) : Int)]
  | .states => match Vberan.states (Vberan.theHouse s) s.play with
    | none => [0]
    | some l => [1, (l.length : Int), (((Vberan.good (Vberan.theHouse s) l).filter fun b => !b).length : Int)]
  | .dead => [if ((Vberan.good (Vberan.theHouse s) (Vberan.row s (Vberan.theHouse s))).headD false) = true then 0 else 1]
  | .way => wayNums s (Vberan.firstWay (Vberan.row s (Vberan.theHouse s)) ((Vberan.row s (Vberan.theHouse s)).map fun x => Vberan.ended x.play))
  | .doom => wayNums s (Vberan.firstWay (Vberan.row s (Vberan.theHouse s)) ((Vberan.good (Vberan.theHouse s) (Vberan.row s (Vberan.theHouse s))).map fun b => !b))
  | .must d => [if ((Vberan.row s (Vberan.without (Vberan.theHouse s) d.toNat)).any fun x => Vberan.ended x.play) = true then 0 else 1]
  | .look d => lookNums (Vberan.deedAt (Vberan.theHouse s) d.toNat)
  | .rivals d => [(Vberan.rivals (Vberan.theHouse s) d.toNat : Int), (Vberan.supply (Vberan.theHouse s) (Vberan.deedAt (Vberan.theHouse s) d.toNat).uses (Vberan.numbers (Vberan.theHouse s)) : Int)]
  | _ => []
theorem step_guarded (s : Vberan.State) (c : Vberan.Call) : Vberan.step s c = Vberan.guarded s (gCall s c) fun _ => (nsOf s c, 0 :: anOf s c) := by
  cases c <;> first
    | rfl
    | (unfold Vberan.step gCall
       refine congrArg (Vberan.guarded s _) (funext fun _ => ?_)
       simp only [nsOf, anOf, wayNums]
       split <;> rename_i hq <;> simp only [hq])
theorem step_is (s : Vberan.State) (c : Vberan.Call) : Vberan.step s c = if refI (gCall s c) = 0 then (nsOf s c, 0 :: anOf s c) else (s, [refI (gCall s c)]) := by
  rw [step_guarded]
  exact guarded_ref (g_ne s c)
/-! ### what isn't refused is as it's to be -/
theorem none_of_ref {s : Vberan.State} {gs : List (Int × Bool)} (h : ∀ x ∈ gs, x.2 = false) (hm : Vberan.none_ s ∈ gs) : ∃ x, s.house = some x := by
  have := h _ hm
  cases q : s.house with
  | none =>
    unfold Vberan.none_ at this
    rw [q] at this
    cases this
  | some x => exact ⟨x, rfl⟩
theorem inr_iff {n lo hi : Int} : Vberan.inr n lo hi = true ↔ lo ≤ n ∧ n ≤ hi := by
  unfold Vberan.inr
  rw [Bool.and_eq_true, decide_eq_true_eq, decide_eq_true_eq]
theorem all_inr {l : List Int} {lo hi : Int} (h : (l.all fun n => Vberan.inr n lo hi) = true) : ∀ z ∈ l, lo ≤ z ∧ z ≤ hi := fun z hz => inr_iff.mp (List.all_eq_true.mp h z hz)
structure DeedOk (n u g : List Int) : Prop where
  nl : n.length ≤ 40
  nr : ∀ z ∈ n, -1 ≤ z ∧ z ≤ 15
  ul : u.length ≤ 5
  ur : ∀ z ∈ u, 0 ≤ z ∧ z ≤ 4
  us : Vberan.rising u = true
  gl : g.length ≤ 5
  gr : ∀ z ∈ g, 0 ≤ z ∧ z ≤ 9
theorem told3_iff {n u g : List Int} (h : told3 n u g = true) : DeedOk n u g := by
  unfold told3 at h
  simp only [Bool.and_eq_true, decide_eq_true_eq] at h
  obtain ⟨h1, h2, h3, h4, h5, h6, h7⟩ := h
  exact ⟨h1, all_inr h2, h3, all_inr h4, h5, h6, all_inr h7⟩
theorem rising_pw : ∀ {l : List Int}, Vberan.rising l = true → l.Pairwise (· < ·)
  | [], _ => .nil
  | [_], _ => by simp
  | a :: b :: r, h => by
    unfold Vberan.rising at h
    rw [Bool.and_eq_true, decide_eq_true_eq] at h
    have ih := rising_pw h.2
    refine List.pairwise_cons.mpr ⟨fun x hx => ?_, ih⟩
    rcases List.mem_cons.mp hx with z | z
    · rw [z]; exact h.1
    · exact Int.lt_trans h.1 ((List.pairwise_cons.mp ih).1 x z)
theorem nats_pw {l : List Int} (h : l.Pairwise (· < ·)) (hp : ∀ z ∈ l, 0 ≤ z) : (Vberan.nats l).Pairwise (· < ·) := by
  unfold Vberan.nats
  rw [List.pairwise_map]
  exact List.Pairwise.imp_of_mem (fun {a b} ha hb hab => by
    have := hp a ha
    have := hp b hb
    omega) h
def WfS (s : Vberan.State) : Prop := ∀ h, s.house = some h → WfH h ∧ WfP h s.play
theorem theHouse_of {s : Vberan.State} {h : Vberan.House} (hs : s.house = some h) : Vberan.theHouse s = h := by
  unfold Vberan.theHouse
  rw [hs]
  rfl
theorem choices_of {s : Vberan.State} {h : Vberan.House} (hs : s.house = some h) {d k : Int} (hr : refI (gCall s (.act d k)) = 0) :
    0 ≤ d ∧ d.toNat < h.deeds.length ∧ Vberan.kindFits s k ∈ Vberan.choices h s.play d.toNat ∧ Vberan.kindNum h (Vberan.kindFits s k) = k := by
  have z := refI_zero (g_ne s (.act d k)) hr
  simp only [gCall, gAct, List.mem_cons, List.not_mem_nil, or_false, forall_eq_or_imp, forall_eq, theHouse_of hs] at z
  obtain ⟨z1, _, z3, z4⟩ := z
  rw [Bool.not_eq_false', Bool.and_eq_true] at z1
  have hd := inr_iff.mp z1.1
  have hk := inr_iff.mp z1.2
  have hdl : ¬ (h.deeds.length : Int) ≤ d := by
    unfold Vberan.noDeed at z3
    rw [theHouse_of hs] at z3
    exact of_decide_eq_false z3
  rw [Bool.or_eq_false_iff, Bool.not_eq_false', List.contains_iff_mem, Bool.and_eq_false_iff] at z4
  refine ⟨hd.1, by omega, z4.1, ?_⟩
  have hle := mem_choices_lt z4.1
  unfold Vberan.kindFits Vberan.kindNum at *
  rw [theHouse_of hs] at *
  by_cases hlt : k < 0
  · rw [if_pos hlt, if_pos rfl]
    omega
  · rw [if_neg hlt] at *
    rcases z4.2 with q | q
    · have := of_decide_eq_false q
      omega
    · have := of_decide_eq_false q
      rw [if_neg (by omega), Int.toNat_of_nonneg (by omega)]
theorem wfS_ns {s : Vberan.State} (w : WfS s) (c : Vberan.Call) (hr : refI (gCall s c) = 0) : WfS (nsOf s c) := by
  have z := refI_zero (g_ne s c) hr
  cases c with
  | house l =>
    simp only [gCall, gHouse, List.mem_cons, List.not_mem_nil, or_false, forall_eq_or_imp, forall_eq] at z
    obtain ⟨z1, _⟩ := z
    rw [Bool.not_eq_false', Bool.and_eq_true, decide_eq_true_eq] at z1
    intro h e
    cases e
    have ln : (Vberan.nats l).length = l.length := List.length_map _
    exact ⟨⟨z1.1, ln, by show 0 ≤ 16; omega, (fun e he => by cases he), (fun e he => by cases he), (fun e he => by cases he), (fun e he => by cases he), (fun e he => by cases he)⟩, ⟨.nil, (fun x hx => by cases hx), ln⟩⟩
  | deed n u g =>
    obtain ⟨h, hs⟩ := none_of_ref (s := s) z (by simp [gCall, gDeed])
    obtain ⟨wh, wp⟩ := w h hs
    simp only [gCall, gDeed, List.mem_cons, List.not_mem_nil, or_false, forall_eq_or_imp, forall_eq, theHouse_of hs] at z
    obtain ⟨z1, _, z3, z4, z6, _⟩ := z
    rw [Bool.not_eq_false'] at z1
    have ok := told3_iff z1
    have hu : ∀ x ∈ Vberan.nats u, x < h.kinds := fun x hx => by
      obtain ⟨y, hy, e⟩ := List.mem_map.mp hx
      have := List.any_eq_false.mp z3 y hy
      have h0 := (ok.ur y hy).1
      have : ¬ (h.kinds : Int) ≤ y := by simpa using this
      omega
    have hup : (Vberan.nats u).Pairwise (· < ·) := nats_pw (rising_pw ok.us) fun z hz => (ok.ur z hz).1
    have hg : (Vberan.nats g).length = h.kinds := by
      have : ¬ g.length ≠ h.kinds := of_decide_eq_false z6
      unfold Vberan.nats
      rw [List.length_map]
      omega
    have h16 : ¬ 16 ≤ h.deeds.length := of_decide_eq_false z4
    intro h' e
    have e' : h' = { h with deeds := h.deeds ++ [⟨Vberan.splitNeeds n, Vberan.nats u, Vberan.nats g⟩] } := by
      have : nsOf s (.deed n u g) = ⟨some { h with deeds := h.deeds ++ [⟨Vberan.splitNeeds n, Vberan.nats u, Vberan.nats g⟩] }, s.play⟩ := by
        unfold nsOf
        rw [theHouse_of hs]
      rw [this] at e
      exact (Option.some.inj e).symm
    subst e'
    refine ⟨⟨wh.k5, wh.fl, ?_, fun e he => ?_, fun e he => ?_, fun e he => ?_, fun e he => ?_, fun e he => ?_⟩, ⟨wp.ds, fun x hx => ?_, wp.tl⟩⟩
    · rw [List.length_append]
      show h.deeds.length + 1 ≤ 16
      omega
    · rcases List.mem_append.mp he with q | q
      · exact wh.us e q
      · rw [List.mem_singleton.mp q]; exact hup
    · rcases List.mem_append.mp he with q | q
      · exact wh.ul e q
      · rw [List.mem_singleton.mp q]; exact hu
    · rcases List.mem_append.mp he with q | q
      · exact wh.gl e q
      · rw [List.mem_singleton.mp q]; exact hg
    · rcases List.mem_append.mp he with q | q
      · exact wh.nl e q
      · rw [List.mem_singleton.mp q]
        exact Nat.le_trans (split_len n).1 (Nat.succ_le_succ ok.nl)
    · rcases List.mem_append.mp he with q | q
      · exact wh.nm e q
      · rw [List.mem_singleton.mp q]
        exact fun l hl => Nat.le_trans ((split_len n).2 l hl) ok.nl
    · have := wp.dl x hx
      rw [List.length_append]
      omega
  | act d k =>
    obtain ⟨h, hs⟩ := none_of_ref (s := s) z (by simp [gCall, gAct])
    obtain ⟨wh, wp⟩ := w h hs
    obtain ⟨h0, h1, h2, h3⟩ := choices_of hs hr
    intro h' e
    have e' : h' = h := Option.some.inj (e.symm.trans hs)
    subst e'
    refine ⟨wh, ?_⟩
    show WfP _ (Vberan.doneWith (Vberan.theHouse s) s.play d.toNat (Vberan.kindFits s k))
    rw [theHouse_of hs]
    exact doneWith_wf wp h1
  | again =>
    obtain ⟨h, hs⟩ := none_of_ref (s := s) z (by simp [gCall, gBare])
    obtain ⟨wh, wp⟩ := w h hs
    intro h' e
    have e' : h' = h := Option.some.inj (e.symm.trans hs)
    subst e'
    refine ⟨wh, ?_⟩
    show WfP _ (Vberan.fresh (Vberan.theHouse s))
    rw [theHouse_of hs]
    exact ⟨.nil, (fun x hx => by cases hx), wh.fl⟩
  | _ => exact w
end DH
namespace DH
/-! ### the calls as they're asked -/
theorem whole_id (c : List (List Int)) : PyVberan.whole c = c := by
  unfold PyVberan.whole
  split <;> rfl
theorem map_whole (cs : List (List (List Int))) : cs.map PyVberan.whole = cs := by
  rw [show PyVberan.whole = id from funext whole_id, List.map_id]
theorem asked_call {r : List (List Int)} (h : VberanNeutral.asked1 r = true) : ∃ c, VberanNeutral.callOf r = some c ∧ toCall r = itemsOf c := by
  unfold VberanNeutral.asked1 at h
  split at h <;> first | exact ⟨_, rfl, rfl⟩ | cases h
/-- the state behind calls -/
def after (s : Vberan.State) (cs : List (List (List Int))) : Vberan.State := cs.foldl (fun s c => (VberanNeutral.step s c).1) s
theorem played_snoc (c : List (List Int)) : ∀ (cs : List (List (List Int))) (s : Vberan.State), PyFlat.played VberanNeutral.step s (cs ++ [c]) = PyFlat.played VberanNeutral.step s cs ++ [(VberanNeutral.step (after s cs) c).2]
  | [], _ => rfl
  | d :: cs, s => by
    show (VberanNeutral.step s d).2 :: PyFlat.played VberanNeutral.step (VberanNeutral.step s d).1 (cs ++ [c]) = _
    rw [played_snoc c cs]
    rfl
theorem told_snoc (l : List (List Int)) (a : List Int) : PyFlat.told (l ++ [a]) = PyFlat.told l ++ ([(a.length : Int)] ++ a) := by
  unfold PyFlat.told
  rw [List.flatMap_append]
  simp
theorem after_snoc (c : List (List Int)) (cs : List (List (List Int))) (s : Vberan.State) : after s (cs ++ [c]) = (VberanNeutral.step (after s cs) c).1 := by
  unfold after
  rw [List.foldl_append]
  rfl
theorem step_call {s : Vberan.State} {r : List (List Int)} {c : Vberan.Call} (h : VberanNeutral.callOf r = some c) : VberanNeutral.step s r = Vberan.step s c := by
  unfold VberanNeutral.step
  rw [h]
structure Asked (l : List Int) (raw : List (List (List Int))) : Prop where
  cs : PyFlat.calls PyVberan.shape l.length l = some raw
  ok : ∀ r ∈ raw, VberanNeutral.asked1 r = true
  n60 : raw.length ≤ 60
  ans : PyVberan.answers l = PyFlat.told (PyFlat.played VberanNeutral.step VberanNeutral.start raw)
theorem asked_of {l : List Int} (h : PyVberan.answers_asked l = true) : ∃ raw, Asked l raw := by
  unfold PyVberan.answers_asked at h
  cases q : PyFlat.calls PyVberan.shape l.length l with
  | none => rw [q] at h; cases h
  | some raw =>
    rw [q] at h
    simp only [Bool.and_eq_true] at h
    obtain ⟨⟨⟨⟨_, h2⟩, _⟩, h4⟩, _⟩ := h
    rw [map_whole] at h4
    unfold VberanNeutral.asked at h4
    rw [Bool.and_eq_true, List.all_eq_true] at h4
    unfold PyFlat.atMost at h2
    refine ⟨raw, q, h4.1, of_decide_eq_true h2, ?_⟩
    unfold PyVberan.answers PyVberan.calls
    rw [q]
    show PyFlat.told (PyFlat.played _ _ (raw.map PyVberan.whole)) = _
    rw [map_whole]
end DH
namespace DH
/-! ### the row of plays, by what holds of it -/
theorem same_iff {a b : Vberan.Play} : Vberan.samePlay a b = true ↔ a = b := by
  unfold Vberan.samePlay
  rw [Bool.and_eq_true, beq_iff_eq, beq_iff_eq]
  cases a
  cases b
  simp
/-- one step more, if the play isn't in the row yet -/
def addSeen (h : Vberan.House) (s : Vberan.Seen) (i : Nat) (a : List Vberan.Seen) (x : Nat × Nat) : List Vberan.Seen :=
  if (a.any fun y => Vberan.samePlay y.play (Vberan.doneWith h s.play x.1 x.2)) = true then a else a ++ [⟨Vberan.doneWith h s.play x.1 x.2, s.steps + 1, i, x⟩]
theorem explore_succ (h : Vberan.House) (most f i : Nat) (l : List Vberan.Seen) : Vberan.explore h most (f + 1) i l = match l[i]? with
    | none => some l
    | some s => if most < l.length then none else Vberan.explore h most f (i + 1) ((Vberan.steps h s.play).foldl (addSeen h s i) l) := by
  rw [Vberan.explore]
  rfl
/-- d, k is a step from p -/
def IsStep (h : Vberan.House) (p : Vberan.Play) (x : Nat × Nat) : Prop := x ∈ Vberan.steps h p
theorem step_iff {h : Vberan.House} {p : Vberan.Play} {x : Nat × Nat} : IsStep h p x ↔ x.1 < h.deeds.length ∧ x.2 ∈ Vberan.choices h p x.1 := by
  unfold IsStep Vberan.steps Vberan.numbers
  rw [List.mem_flatMap]
  constructor
  · rintro ⟨d, hd, hx⟩
    obtain ⟨k, hk, rfl⟩ := List.mem_map.mp hx
    exact ⟨List.mem_range.mp hd, hk⟩
  · rintro ⟨h1, h2⟩
    exact ⟨x.1, List.mem_range.mpr h1, List.mem_map.mpr ⟨x.2, h2, rfl⟩⟩
theorem choices_new {h : Vberan.House} {p : Vberan.Play} {d k : Nat} (hk : k ∈ Vberan.choices h p d) : d ∉ p.done := fun hm => by
  unfold Vberan.choices at hk
  rw [if_pos (by rw [Bool.or_eq_true]; exact .inl (List.contains_iff_mem.mpr hm))] at hk
  cases hk
theorem ins_len {d : Nat} {l : List Nat} (hd : d ∉ l) : (Vberan.insertNum d l).length = l.length + 1 := by
  have := (ins_perm d hd).length_eq
  rw [List.length_append] at this
  exact this
theorem done_len {h : Vberan.House} {p : Vberan.Play} {x : Nat × Nat} (hx : IsStep h p x) : (Vberan.doneWith h p x.1 x.2).done.length = p.done.length + 1 :=
  ins_len (choices_new (step_iff.mp hx).2)
/-- each but the first came of one ahead of it -/
def Back (h : Vberan.House) (i : Nat) (l : List Vberan.Seen) : Prop := ∀ (k : Nat) y, l[k]? = some y → 0 < k → ∃ u, y.from_ < k ∧ y.from_ < i ∧ l[y.from_]? = some u ∧ IsStep h u.play y.step ∧ y.play = Vberan.doneWith h u.play y.step.1 y.step.2 ∧ y.steps = u.steps + 1
/-- what holds of a row as it's made: from a play p0, the first i gone through -/
structure RowInv (h : Vberan.House) (p0 : Vberan.Play) (i : Nat) (l : List Vberan.Seen) : Prop where
  head : ∃ t, l = ⟨p0, 0, 0, (0, 0)⟩ :: t
  wf : ∀ x ∈ l, WfP h x.play
  deep : ∀ x ∈ l, x.play.done.length = p0.done.length + x.steps
  ne : (l.map (·.play)).Nodup
  past : ∀ (j : Nat) s, l[j]? = some s → j < i → ∀ x, IsStep h s.play x → ∃ y ∈ l, y.play = Vberan.doneWith h s.play x.1 x.2
  back : Back h i l
theorem any_same {l : List Vberan.Seen} {p : Vberan.Play} : (l.any fun y => Vberan.samePlay y.play p) = true ↔ ∃ y ∈ l, y.play = p := by
  rw [List.any_eq_true]
  exact ⟨fun ⟨y, hy, e⟩ => ⟨y, hy, same_iff.mp e⟩, fun ⟨y, hy, e⟩ => ⟨y, hy, same_iff.mpr e⟩⟩
theorem get_app_left {α : Type} {l m : List α} {j : Nat} {x : α} (h : l[j]? = some x) : (l ++ m)[j]? = some x := by
  rw [List.getElem?_append_left (List.getElem?_eq_some_iff.mp h).1]
  exact h
/-- the steps of the i-th play, one after another -/
theorem fold_inv {h : Vberan.House} {p0 : Vberan.Play} {i : Nat} {l : List Vberan.Seen} {s : Vberan.Seen} (q : RowInv h p0 i l) (hs : l[i]? = some s) :
    ∀ (todo : List (Nat × Nat)), (∀ x ∈ todo, IsStep h s.play x) → ∀ (a : List Vberan.Seen) (did : Nat × Nat → Prop),
      ((∃ t, a = ⟨p0, 0, 0, (0, 0)⟩ :: t) ∧ (∀ x ∈ a, WfP h x.play) ∧ (∀ x ∈ a, x.play.done.length = p0.done.length + x.steps) ∧ (a.map (·.play)).Nodup ∧ (∃ m, a = l ++ m) ∧
        Back h (i + 1) (a) ∧
        ∀ x, did x → ∃ y ∈ a, y.play = Vberan.doneWith h s.play x.1 x.2) →
      (∃ t, todo.foldl (addSeen h s i) a = ⟨p0, 0, 0, (0, 0)⟩ :: t) ∧ (∀ x ∈ todo.foldl (addSeen h s i) a, WfP h x.play) ∧ (∀ x ∈ todo.foldl (addSeen h s i) a, x.play.done.length = p0.done.length + x.steps) ∧ ((todo.foldl (addSeen h s i) a).map (·.play)).Nodup ∧ (∃ m, todo.foldl (addSeen h s i) a = l ++ m) ∧
        Back h (i + 1) ((todo.foldl (addSeen h s i) a)) ∧
        ∀ x, did x ∨ x ∈ todo → ∃ y ∈ todo.foldl (addSeen h s i) a, y.play = Vberan.doneWith h s.play x.1 x.2
  | [], _, a, did, ⟨c1, c2, c3, c4, c5, c6, c7⟩ => ⟨c1, c2, c3, c4, c5, c6, fun x hx => c7 x (hx.resolve_right (by simp))⟩
  | x :: todo, ht, a, did, ⟨c1, c2, c3, c4, c5, c6, c7⟩ => by
    have hx := ht x List.mem_cons_self
    rw [List.foldl_cons]
    have next : (∃ t, addSeen h s i a x = ⟨p0, 0, 0, (0, 0)⟩ :: t) ∧ (∀ y ∈ addSeen h s i a x, WfP h y.play) ∧ (∀ y ∈ addSeen h s i a x, y.play.done.length = p0.done.length + y.steps) ∧ ((addSeen h s i a x).map (·.play)).Nodup ∧ (∃ m, addSeen h s i a x = l ++ m) ∧
        Back h (i + 1) ((addSeen h s i a x)) ∧
        ∀ z, (did z ∨ z = x) → ∃ y ∈ addSeen h s i a x, y.play = Vberan.doneWith h s.play z.1 z.2 := by
      unfold addSeen
      split
      · rename_i hin
        refine ⟨c1, c2, c3, c4, c5, c6, fun z hz => ?_⟩
        rcases hz with hz | hz
        · exact c7 z hz
        · rw [hz]
          exact any_same.mp hin
      · rename_i hin
        obtain ⟨t, ht1⟩ := c1
        obtain ⟨m, hm⟩ := c5
        have hsm : s ∈ l := List.mem_of_getElem? hs
        have hsa : a[i]? = some s := by
          rw [hm]
          exact get_app_left hs
        refine ⟨⟨t ++ [_], by rw [ht1]; rfl⟩, fun y hy => ?_, fun y hy => ?_, ?_, ⟨m ++ [_], by rw [hm, List.append_assoc]⟩, fun k y hk h0 => ?_, fun z hz => ?_⟩
        · rcases List.mem_append.mp hy with hy | hy
          · exact c2 y hy
          · rw [List.mem_singleton.mp hy]
            exact doneWith_wf (q.wf s hsm) (step_iff.mp hx).1
        · rcases List.mem_append.mp hy with hy | hy
          · exact c3 y hy
          · rw [List.mem_singleton.mp hy]
            show (Vberan.doneWith h s.play x.1 x.2).done.length = _
            rw [done_len hx, q.deep s hsm]
            show _ = p0.done.length + (s.steps + 1)
            omega
        · rw [List.map_append, List.nodup_append]
          refine ⟨c4, by simp, fun p hp r hr e => ?_⟩
          have er : r = Vberan.doneWith h s.play x.1 x.2 := by simpa using hr
          obtain ⟨y, hy, e2⟩ := List.mem_map.mp hp
          exact hin (any_same.mpr ⟨y, hy, e2.trans (e.trans er)⟩)
        · by_cases hlt : k < a.length
          · rw [List.getElem?_append_left hlt] at hk
            obtain ⟨s2, d1, d2, d3, d4⟩ := c6 k y hk h0
            exact ⟨s2, d1, d2, get_app_left d3, d4⟩
          · have hk2 := (List.getElem?_eq_some_iff.mp hk).1
            rw [List.length_append] at hk2
            have ek : k = a.length := by
              have : [(⟨Vberan.doneWith h s.play x.1 x.2, s.steps + 1, i, x⟩ : Vberan.Seen)].length = 1 := rfl
              omega
            subst ek
            rw [List.getElem?_append_right (Nat.le_refl _), Nat.sub_self] at hk
            cases (Option.some.inj hk)
            exact ⟨s, (List.getElem?_eq_some_iff.mp hsa).1, Nat.lt_succ_self i, get_app_left hsa, hx, rfl, rfl⟩
        · rcases hz with hz | hz
          · obtain ⟨y, hy, e⟩ := c7 z hz
            exact ⟨y, List.mem_append_left _ hy, e⟩
          · rw [hz]
            exact ⟨_, List.mem_append_right _ (List.mem_singleton.mpr rfl), rfl⟩
    obtain ⟨r1, r2, r3, r4, r5, r6, r7⟩ := fold_inv q hs todo (fun y hy => ht y (List.mem_cons_of_mem _ hy)) (addSeen h s i a x) (fun z => did z ∨ z = x) next
    refine ⟨r1, r2, r3, r4, r5, r6, fun z hz => r7 z ?_⟩
    rcases hz with hz | hz
    · exact .inl (.inl hz)
    · rcases List.mem_cons.mp hz with e | e
      · exact .inl (.inr e)
      · exact .inr e
theorem row_turn {h : Vberan.House} {p0 : Vberan.Play} {i : Nat} {l : List Vberan.Seen} {s : Vberan.Seen} (q : RowInv h p0 i l) (hs : l[i]? = some s) :
    RowInv h p0 (i + 1) ((Vberan.steps h s.play).foldl (addSeen h s i) l) ∧ ∃ m, (Vberan.steps h s.play).foldl (addSeen h s i) l = l ++ m := by
  obtain ⟨r1, r2, r3, r4, ⟨m, r5⟩, r6, r7⟩ := fold_inv q hs (Vberan.steps h s.play) (fun x hx => hx) l (fun _ => False)
    ⟨q.head, q.wf, q.deep, q.ne, ⟨[], by rw [List.append_nil]⟩, fun k y hk h0 => by
      obtain ⟨s2, d1, d2, d3⟩ := q.back k y hk h0
      exact ⟨s2, d1, by omega, d3⟩, fun x hx => hx.elim⟩
  refine ⟨⟨r1, r2, r3, r4, fun j s2 hj hlt x hx => ?_, r6⟩, m, r5⟩
  by_cases e : j = i
  · subst e
    rw [r5] at hj
    rw [get_app_left hs] at hj
    cases hj
    exact r7 x (.inr hx)
  · rw [r5] at hj
    have hjl : l[j]? = some s2 := by
      rw [List.getElem?_append_left] at hj
      · exact hj
      · have := (List.getElem?_eq_some_iff.mp hs).1
        omega
    obtain ⟨y, hy, e2⟩ := q.past j s2 hjl (by omega) x hx
    exact ⟨y, by rw [r5]; exact List.mem_append_left _ hy, e2⟩
theorem explore_row {h : Vberan.House} {p0 : Vberan.Play} {most : Nat} : ∀ (f i : Nat) (l r : List Vberan.Seen), RowInv h p0 i l → Vberan.explore h most f i l = some r → RowInv h p0 r.length r ∧ r.length ≤ most + (if most < l.length then l.length else 0) ∨ RowInv h p0 r.length r
  | 0, i, l, r, _, e => by cases e
  | f + 1, i, l, r, q, e => by
    rw [explore_succ] at e
    cases hs : l[i]? with
    | none =>
      rw [hs] at e
      cases e
      refine .inr ⟨q.head, q.wf, q.deep, q.ne, fun j s hj _ => q.past j s hj ?_, fun k y hk h0 => ?_⟩
      · have h1 := List.getElem?_eq_none_iff.mp hs
        have h2 := (List.getElem?_eq_some_iff.mp hj).1
        omega
      · obtain ⟨s, d1, d2, d3, d4⟩ := q.back k y hk h0
        exact ⟨s, d1, (List.getElem?_eq_some_iff.mp d3).1, d3, d4⟩
    | some s =>
      rw [hs] at e
      dsimp only at e
      split at e
      · cases e
      · exact .inr ((explore_row f (i + 1) _ r (row_turn q hs).1 e).elim (fun z => z.1) id)
theorem row_start {h : Vberan.House} {p : Vberan.Play} (wp : WfP h p) : RowInv h p 0 [⟨p, 0, 0, (0, 0)⟩] := by
  refine ⟨⟨[], rfl⟩, fun x hx => ?_, fun x hx => ?_, by simp, fun j s _ hj => absurd hj (Nat.not_lt_zero j), fun k y hk h0 => ?_⟩
  · rw [List.mem_singleton.mp hx]; exact wp
  · rw [List.mem_singleton.mp hx]; exact (Nat.add_zero _).symm
  · have := (List.getElem?_eq_some_iff.mp hk).1
    have e : [(⟨p, 0, 0, (0, 0)⟩ : Vberan.Seen)].length = 1 := rfl
    omega
theorem states_row {h : Vberan.House} {p : Vberan.Play} {l : List Vberan.Seen} (wp : WfP h p) (e : Vberan.states h p = some l) : RowInv h p l.length l :=
  (explore_row _ _ _ _ (row_start wp) e).elim (fun z => z.1) id
end DH
namespace DH
/-! ### the row as it's made, play by play -/
theorem addSeen_app (h : Vberan.House) (s : Vberan.Seen) (i : Nat) (a : List Vberan.Seen) (x : Nat × Nat) : ∃ m, addSeen h s i a x = a ++ m ∧ ∀ y ∈ m, y.from_ = i ∧ y.steps = s.steps + 1 := by
  unfold addSeen
  split
  · exact ⟨[], (List.append_nil _).symm, fun y hy => by cases hy⟩
  · exact ⟨_, rfl, fun y hy => by rw [List.mem_singleton.mp hy]; exact ⟨rfl, rfl⟩⟩
theorem fold_app (h : Vberan.House) (s : Vberan.Seen) (i : Nat) : ∀ (todo : List (Nat × Nat)) (a : List Vberan.Seen), ∃ m, todo.foldl (addSeen h s i) a = a ++ m ∧ ∀ y ∈ m, y.from_ = i ∧ y.steps = s.steps + 1
  | [], a => ⟨[], (List.append_nil _).symm, fun y hy => by cases hy⟩
  | x :: todo, a => by
    obtain ⟨m, e, hm⟩ := addSeen_app h s i a x
    obtain ⟨m2, e2, hm2⟩ := fold_app h s i todo (addSeen h s i a x)
    refine ⟨m ++ m2, ?_, fun y hy => ?_⟩
    · rw [List.foldl_cons, e2, e, List.append_assoc]
    · rcases List.mem_append.mp hy with z | z
      · exact hm y z
      · exact hm2 y z
def rowStep (h : Vberan.House) (i : Nat) (l : List Vberan.Seen) : List Vberan.Seen := match l[i]? with
  | none => l
  | some s => (Vberan.steps h s.play).foldl (addSeen h s i) l
/-- the row when the first i plays are gone through, however long it gets -/
def stage (h : Vberan.House) (p : Vberan.Play) : Nat → List Vberan.Seen
  | 0 => [⟨p, 0, 0, (0, 0)⟩]
  | i + 1 => rowStep h i (stage h p i)
theorem stage_some {h : Vberan.House} {p : Vberan.Play} {i : Nat} {s : Vberan.Seen} (e : (stage h p i)[i]? = some s) : stage h p (i + 1) = (Vberan.steps h s.play).foldl (addSeen h s i) (stage h p i) := by
  show rowStep h i (stage h p i) = _
  unfold rowStep
  rw [e]
theorem stage_none {h : Vberan.House} {p : Vberan.Play} {i : Nat} (e : (stage h p i)[i]? = none) : stage h p (i + 1) = stage h p i := by
  show rowStep h i (stage h p i) = _
  unfold rowStep
  rw [e]
theorem stage_app (h : Vberan.House) (p : Vberan.Play) (i : Nat) : ∃ m, stage h p (i + 1) = stage h p i ++ m ∧ ∀ y ∈ m, y.from_ = i := by
  cases e : (stage h p i)[i]? with
  | none => exact ⟨[], by rw [stage_none e, List.append_nil], fun y hy => by cases hy⟩
  | some s =>
    obtain ⟨m, e2, hm⟩ := fold_app h s i (Vberan.steps h s.play) (stage h p i)
    exact ⟨m, by rw [stage_some e, e2], fun y hy => (hm y hy).1⟩
theorem stage_le (h : Vberan.House) (p : Vberan.Play) {i : Nat} : ∀ k : Nat, ∃ m, stage h p (i + k) = stage h p i ++ m
  | 0 => ⟨[], (List.append_nil _).symm⟩
  | k + 1 => by
    obtain ⟨m, e⟩ := stage_le h p (i := i) k
    obtain ⟨m2, e2, _⟩ := stage_app h p (i + k)
    exact ⟨m ++ m2, by rw [← Nat.add_assoc, e2, e, List.append_assoc]⟩
theorem stage_end {h : Vberan.House} {p : Vberan.Play} {j : Nat} (e : (stage h p j).length ≤ j) : ∀ k, stage h p (j + k) = stage h p j
  | 0 => rfl
  | k + 1 => by
    have ih := stage_end e k
    rw [← Nat.add_assoc, stage_none, ih]
    rw [ih]
    exact List.getElem?_eq_none (by omega)
theorem explore_stage {h : Vberan.House} {p : Vberan.Play} {most : Nat} : ∀ (f i : Nat) (r : Option (List Vberan.Seen)), Vberan.explore h most f i (stage h p i) = r →
    (∃ j, i ≤ j ∧ r = some (stage h p j) ∧ (stage h p j).length ≤ j ∧ ∀ k, i ≤ k → k < j → (stage h p k).length ≤ most) ∨ (r = none ∧ ∃ j, i ≤ j ∧ most < (stage h p j).length) ∨ (r = none ∧ ∀ k, i ≤ k → k < i + f → k < (stage h p k).length ∧ (stage h p k).length ≤ most)
  | 0, i, r, e => .inr (.inr ⟨e.symm, fun k h1 h2 => by omega⟩)
  | f + 1, i, r, e => by
    rw [explore_succ] at e
    cases hs : (stage h p i)[i]? with
    | none =>
      rw [hs] at e
      exact .inl ⟨i, Nat.le_refl _, e.symm, List.getElem?_eq_none_iff.mp hs, fun k h1 h2 => by omega⟩
    | some s =>
      rw [hs] at e
      dsimp only at e
      have hl := (List.getElem?_eq_some_iff.mp hs).1
      split at e
      · rename_i hm
        exact .inr (.inl ⟨e.symm, i, Nat.le_refl _, hm⟩)
      · rename_i hm
        rw [← stage_some hs] at e
        rcases explore_stage f (i + 1) r e with ⟨j, h1, h2, h3, h4⟩ | ⟨h1, j, h2, h3⟩ | ⟨h1, h2⟩
        · refine .inl ⟨j, by omega, h2, h3, fun k k1 k2 => ?_⟩
          by_cases ek : k = i
          · rw [ek]; omega
          · exact h4 k (by omega) k2
        · exact .inr (.inl ⟨h1, j, by omega, h3⟩)
        · refine .inr (.inr ⟨h1, fun k k1 k2 => ?_⟩)
          by_cases ek : k = i
          · subst ek
            exact ⟨hl, by omega⟩
          · exact h2 k (by omega) (by omega)
theorem stage_bound {h : Vberan.House} {p : Vberan.Play} {j k : Nat} (e : (stage h p j).length ≤ j) : (stage h p k).length ≤ (stage h p j).length := by
  by_cases hk : k ≤ j
  · obtain ⟨m, em⟩ := stage_le h p (i := k) (j - k)
    rw [show k + (j - k) = j by omega] at em
    rw [em, List.length_append]
    omega
  · have := stage_end e (k - j)
    rw [show j + (k - j) = k by omega] at this
    rw [this]
    exact Nat.le_refl _
theorem stage_pos (h : Vberan.House) (p : Vberan.Play) (i : Nat) : 0 < (stage h p i).length := by
  obtain ⟨m, e⟩ := stage_le h p (i := 0) i
  rw [Nat.zero_add] at e
  rw [e, List.length_append]
  show 0 < 1 + _
  omega
/-- there's a row: the stage at which all are gone through -/
theorem states_of {h : Vberan.House} {p : Vberan.Play} {j : Nat} (e : (stage h p j).length ≤ j) (le : (stage h p j).length ≤ 200) : Vberan.states h p = some (stage h p j) := by
  unfold Vberan.states
  rcases explore_stage (most := Vberan.MOST) (Vberan.MOST + 2) 0 _ (rfl : Vberan.explore h Vberan.MOST (Vberan.MOST + 2) 0 (stage h p 0) = _) with ⟨i, _, h2, h3, _⟩ | ⟨_, i, _, h3⟩ | ⟨_, h2⟩
  · have x1 := stage_bound (k := i) e
    have x2 := stage_bound (k := j) h3
    rw [show [(⟨p, 0, 0, (0, 0)⟩ : Vberan.Seen)] = stage h p 0 from rfl, h2]
    refine congrArg some ?_
    by_cases hij : i ≤ j
    · have := stage_end h3 (j - i)
      rw [show i + (j - i) = j by omega] at this
      exact this.symm
    · have := stage_end e (i - j)
      rw [show j + (i - j) = i by omega] at this
      exact this
  · have := stage_bound (k := i) e
    have h3 : 200 < (stage h p i).length := h3
    omega
  · have h4 := h2 201 (by omega) (by decide)
    have h5 : (stage h p 201).length ≤ 200 := h4.2
    omega
theorem states_none {h : Vberan.House} {p : Vberan.Play} {i : Nat} (e : 200 < (stage h p i).length) : Vberan.states h p = none := by
  unfold Vberan.states
  rcases explore_stage (most := Vberan.MOST) (Vberan.MOST + 2) 0 _ (rfl : Vberan.explore h Vberan.MOST (Vberan.MOST + 2) 0 (stage h p 0) = _) with ⟨j, _, h2, h3, h4⟩ | ⟨h1, _⟩ | ⟨h1, _⟩
  · have x1 := stage_bound (k := i) h3
    have hj : 0 < j := Nat.lt_of_lt_of_le (stage_pos h p j) h3
    have h5 : (stage h p (j - 1)).length ≤ 200 := h4 (j - 1) (by omega) (by omega)
    have h6 : j ≤ (stage h p (j - 1)).length := by
      cases q : (stage h p (j - 1))[j - 1]? with
      | some s =>
        have := (List.getElem?_eq_some_iff.mp q).1
        omega
      | none =>
        have e2 := stage_none q
        rw [show j - 1 + 1 = j by omega] at e2
        rw [e2] at x1
        omega
    omega
  · exact h1
  · exact h1
theorem states_stage {h : Vberan.House} {p : Vberan.Play} {l : List Vberan.Seen} (e : Vberan.states h p = some l) : ∃ j, l = stage h p j ∧ l.length ≤ j ∧ l.length ≤ 200 := by
  have e0 := e
  unfold Vberan.states at e
  rcases explore_stage (most := Vberan.MOST) (Vberan.MOST + 2) 0 _ e with ⟨j, _, h2, h3, _⟩ | ⟨h1, _⟩ | ⟨h1, _⟩
  · have h2 := Option.some.inj h2
    refine ⟨j, h2, by rw [h2]; exact h3, ?_⟩
    by_cases hl : l.length ≤ 200
    · exact hl
    · rw [h2] at hl
      rw [states_none (i := j) (by omega)] at e0
      cases e0
  · cases h1
  · cases h1
theorem stage_row {h : Vberan.House} {p : Vberan.Play} (wp : WfP h p) : ∀ i, RowInv h p i (stage h p i)
  | 0 => row_start wp
  | i + 1 => by
    have q := stage_row wp i
    cases e : (stage h p i)[i]? with
    | some s =>
      rw [stage_some e]
      exact (row_turn q e).1
    | none =>
      rw [stage_none e]
      refine ⟨q.head, q.wf, q.deep, q.ne, fun j s hj hlt x hx => q.past j s hj ?_ x hx, fun k y hk h0 => ?_⟩
      · have h1 := List.getElem?_eq_none_iff.mp e
        have h2 := (List.getElem?_eq_some_iff.mp hj).1
        omega
      · obtain ⟨s2, d1, d2, d3⟩ := q.back k y hk h0
        exact ⟨s2, d1, by omega, d3⟩
/-! ### depths rise along the row: a step leads further on -/
theorem stage_from (h : Vberan.House) (p : Vberan.Play) : ∀ i, (∀ (j k : Nat) x y, (stage h p i)[j]? = some x → (stage h p i)[k]? = some y → j ≤ k → x.from_ ≤ y.from_) ∧ ∀ y ∈ stage h p i, y.from_ ≤ i
  | 0 => by
    have one : ∀ (j : Nat) x, (stage h p 0)[j]? = some x → x.from_ = 0 := fun j x e => by
      rw [List.mem_singleton.mp (List.mem_of_getElem? e : x ∈ [_])]
    exact ⟨fun j k x y hx hy _ => by rw [one j x hx]; exact Nat.zero_le _, fun y hy => by rw [List.mem_singleton.mp (show y ∈ [_] from hy)]; exact Nat.le_refl _⟩
  | i + 1 => by
    obtain ⟨ih1, ih2⟩ := stage_from h p i
    obtain ⟨m, e, hm⟩ := stage_app h p i
    rw [e]
    refine ⟨fun j k x y hx hy hjk => ?_, fun y hy => ?_⟩
    · by_cases hk : k < (stage h p i).length
      · rw [List.getElem?_append_left hk] at hy
        rw [List.getElem?_append_left (by omega)] at hx
        exact ih1 j k x y hx hy hjk
      · rw [List.getElem?_append_right (by omega)] at hy
        rw [hm y (List.mem_of_getElem? hy)]
        by_cases hj : j < (stage h p i).length
        · rw [List.getElem?_append_left hj] at hx
          exact ih2 x (List.mem_of_getElem? hx)
        · rw [List.getElem?_append_right (by omega)] at hx
          exact Nat.le_of_eq (hm x (List.mem_of_getElem? hx))
    · rcases List.mem_append.mp hy with z | z
      · exact Nat.le_succ_of_le (ih2 y z)
      · rw [hm y z]; exact Nat.le_succ i
theorem stage_deep {h : Vberan.House} {p : Vberan.Play} (wp : WfP h p) {i : Nat} : ∀ (k j : Nat) x y, (stage h p i)[j]? = some x → (stage h p i)[k]? = some y → j ≤ k → x.steps ≤ y.steps := by
  intro k
  induction k using Nat.strongRecOn with
  | ind k ih =>
    intro j x y hx hy hjk
    by_cases hj : j = 0
    · subst hj
      obtain ⟨t, e⟩ := (stage_row wp i).head
      rw [e] at hx
      cases (Option.some.inj hx)
      exact Nat.zero_le _
    · obtain ⟨u, u1, _, u2, _, _, u3⟩ := (stage_row wp i).back j x hx (by omega)
      obtain ⟨v, v1, _, v2, _, _, v3⟩ := (stage_row wp i).back k y hy (by omega)
      have := (stage_from h p i).1 j k x y hx hy hjk
      have := ih y.from_ v1 x.from_ u v u2 v2 this
      omega
/-- where a step from the j-th play leads -/
theorem step_on {h : Vberan.House} {p : Vberan.Play} (wp : WfP h p) {i j k : Nat} {s y : Vberan.Seen} {x : Nat × Nat} (hj : (stage h p i)[j]? = some s) (hx : IsStep h s.play x) (hk : (stage h p i)[k]? = some y) (e : y.play = Vberan.doneWith h s.play x.1 x.2) : j < k := by
  by_cases hjk : j < k
  · exact hjk
  · have h1 := stage_deep wp j k y s hk hj (by omega)
    have h2 := (stage_row wp i).deep s (List.mem_of_getElem? hj)
    have h3 := (stage_row wp i).deep y (List.mem_of_getElem? hk)
    rw [e, done_len hx] at h3
    omega
/-! ### who can come to the end -/
inductive CE (h : Vberan.House) (l : List Vberan.Seen) : Nat → Prop
  | here {i : Nat} {s : Vberan.Seen} : l[i]? = some s → Vberan.ended s.play = true → CE h l i
  | next {i j : Nat} {s y : Vberan.Seen} {x : Nat × Nat} : l[i]? = some s → IsStep h s.play x → l[j]? = some y → y.play = Vberan.doneWith h s.play x.1 x.2 → CE h l j → CE h l i
def oneOn (links : List (List Nat)) (b : List Bool) : List Bool := (links.zip b).map fun x => x.2 || x.1.any fun i => b.getD i false
theorem canEnd_succ (links : List (List Nat)) : ∀ (f : Nat) (b : List Bool), Vberan.canEnd links (f + 1) b = oneOn links (Vberan.canEnd links f b)
  | 0, b => rfl
  | f + 1, b => by
    show Vberan.canEnd links (f + 1) (oneOn links b) = oneOn links (Vberan.canEnd links f (oneOn links b))
    exact canEnd_succ links f (oneOn links b)
theorem oneOn_get {links : List (List Nat)} {b : List Bool} {i : Nat} {ks : List Nat} {t : Bool} (hk : links[i]? = some ks) (hb : b[i]? = some t) : (oneOn links b)[i]? = some (t || ks.any fun i => b.getD i false) := by
  unfold oneOn
  have e : (links.zip b)[i]? = some (ks, t) := List.getElem?_zip_eq_some.mpr ⟨hk, hb⟩
  rw [List.getElem?_map, e]
  rfl
theorem oneOn_len {links : List (List Nat)} {b : List Bool} (e : links.length = b.length) : (oneOn links b).length = b.length := by
  unfold oneOn
  rw [List.length_map, List.length_zip]
  omega
theorem canEnd_len {links : List (List Nat)} : ∀ (f : Nat) {b : List Bool}, links.length = b.length → (Vberan.canEnd links f b).length = b.length
  | 0, _, _ => rfl
  | f + 1, b, e => by
    rw [canEnd_succ, oneOn_len (by rw [canEnd_len f e]; exact e), canEnd_len f e]
theorem nodup_get {α : Type} {l : List α} (nd : l.Nodup) {i j : Nat} {hi : i < l.length} {hj : j < l.length} (e : l[i] = l[j]) : i = j := by
  have q := List.pairwise_iff_getElem.mp nd
  rcases Nat.lt_trichotomy i j with z | z | z
  · exact absurd e (q i j hi hj z)
  · exact z
  · exact absurd e.symm (q j i hj hi z)
/-- at which place of the row the play stands -/
theorem find_play {l : List Vberan.Seen} (nd : (l.map (·.play)).Nodup) {j : Nat} {y : Vberan.Seen} {p : Vberan.Play} (hj : l[j]? = some y) (e : y.play = p) : (l.findIdx fun z => Vberan.samePlay z.play p) = j := by
  have hlt := (List.getElem?_eq_some_iff.mp hj).1
  have hy := (List.getElem?_eq_some_iff.mp hj).2
  have h1 : (l.findIdx fun z => Vberan.samePlay z.play p) < l.length := List.findIdx_lt_length_of_exists ⟨y, List.mem_of_getElem? hj, same_iff.mpr e⟩
  have h2 := same_iff.mp (List.findIdx_getElem (w := h1))
  have h3 : (l.map (·.play))[l.findIdx fun z => Vberan.samePlay z.play p]'(by rw [List.length_map]; exact h1) = (l.map (·.play))[j]'(by rw [List.length_map]; exact hlt) := by
    rw [List.getElem_map, List.getElem_map, h2, hy, e]
  exact nodup_get nd h3
theorem good_len (h : Vberan.House) (l : List Vberan.Seen) : (Vberan.good h l).length = l.length := by
  unfold Vberan.good
  rw [canEnd_len _ (by unfold Vberan.linksOf; rw [List.length_map, List.length_map]), List.length_map]
section
variable {h : Vberan.House} {p : Vberan.Play} {l : List Vberan.Seen}
theorem links_get {i : Nat} {s : Vberan.Seen} (hi : l[i]? = some s) : (Vberan.linksOf h l)[i]? = some ((Vberan.steps h s.play).map fun y => l.findIdx fun z => Vberan.samePlay z.play (Vberan.doneWith h s.play y.1 y.2)) := by
  unfold Vberan.linksOf
  rw [List.getElem?_map, hi]
  rfl
theorem canEnd_CE (q : RowInv h p l.length l) : ∀ (f i : Nat), (Vberan.canEnd (Vberan.linksOf h l) f (l.map fun x => Vberan.ended x.play)).getD i false = true → CE h l i
  | 0, i, e => by
    have e : (l.map fun x => Vberan.ended x.play).getD i false = true := e
    rw [List.getD_eq_getElem?_getD, List.getElem?_map] at e
    cases hi : l[i]? with
    | none => rw [hi] at e; cases e
    | some s =>
      rw [hi] at e
      exact .here hi e
  | f + 1, i, e => by
    rw [canEnd_succ, List.getD_eq_getElem?_getD] at e
    have len : (Vberan.canEnd (Vberan.linksOf h l) f (l.map fun x => Vberan.ended x.play)).length = l.length := by
      rw [canEnd_len f (by unfold Vberan.linksOf; rw [List.length_map, List.length_map]), List.length_map]
    cases hi : l[i]? with
    | none =>
      have hle := List.getElem?_eq_none_iff.mp hi
      rw [List.getElem?_eq_none (by rw [oneOn_len (by rw [len]; unfold Vberan.linksOf; rw [List.length_map]), len]; exact hle)] at e
      cases e
    | some s =>
      have hlt := (List.getElem?_eq_some_iff.mp hi).1
      rw [oneOn_get (links_get hi) (List.getElem?_eq_getElem (by rw [len]; exact hlt))] at e
      have e : (_ || _) = true := e
      rw [Bool.or_eq_true] at e
      rcases e with e | e
      · refine canEnd_CE q f i ?_
        rw [List.getD_eq_getElem?_getD, List.getElem?_eq_getElem (by rw [len]; exact hlt), e]
        rfl
      · rw [List.any_eq_true] at e
        obtain ⟨j, hj, hgj⟩ := e
        obtain ⟨x, hx, ej⟩ := List.mem_map.mp hj
        obtain ⟨y, hy, ey⟩ := q.past i s hi hlt x hx
        obtain ⟨k, hk⟩ := List.getElem?_of_mem hy
        have := find_play q.ne hk ey
        rw [this] at ej
        subst ej
        exact .next hi hx hk ey (canEnd_CE q f _ hgj)
theorem CE_canEnd (q : RowInv h p l.length l) {i : Nat} (c : CE h l i) : ∀ (f : Nat) (s : Vberan.Seen), l[i]? = some s → h.deeds.length ≤ s.play.done.length + f → (Vberan.canEnd (Vberan.linksOf h l) f (l.map fun x => Vberan.ended x.play)).getD i false = true := by
  have len : ∀ f, (Vberan.canEnd (Vberan.linksOf h l) f (l.map fun x => Vberan.ended x.play)).length = l.length := fun f => by
    rw [canEnd_len f (by unfold Vberan.linksOf; rw [List.length_map, List.length_map]), List.length_map]
  have up : ∀ f i s, l[i]? = some s → (Vberan.canEnd (Vberan.linksOf h l) f (l.map fun x => Vberan.ended x.play)).getD i false = true → (Vberan.canEnd (Vberan.linksOf h l) (f + 1) (l.map fun x => Vberan.ended x.play)).getD i false = true := fun f i s hi e => by
    have hlt := (List.getElem?_eq_some_iff.mp hi).1
    rw [canEnd_succ, List.getD_eq_getElem?_getD, oneOn_get (links_get hi) (List.getElem?_eq_getElem (by rw [len]; exact hlt))]
    rw [List.getD_eq_getElem?_getD, List.getElem?_eq_getElem (by rw [len]; exact hlt)] at e
    rw [Option.getD_some] at e
    show (_ || _) = true
    rw [e, Bool.true_or]
  induction c with
  | @here i s hi he =>
    intro f s2 hi2 hle
    have base : (l.map fun x => Vberan.ended x.play).getD i false = true := by
      rw [List.getD_eq_getElem?_getD, List.getElem?_map, hi]
      exact he
    clear hi2 hle
    induction f with
    | zero => exact base
    | succ f ih => exact up f i s hi ih
  | @next i j s y x hi hx hj ey _ ih =>
    intro f s2 hi2 hf
    have es : s = s2 := Option.some.inj (hi.symm.trans hi2)
    subst es
    have wy := q.wf y (List.mem_of_getElem? hj)
    have hle := nodup_lt h.deeds.length y.play.done (wy.ds.imp fun h => Nat.ne_of_lt h) wy.dl
    have hd : y.play.done.length = s.play.done.length + 1 := by rw [ey, done_len hx]
    cases f with
    | zero => omega
    | succ f =>
      have hlt := (List.getElem?_eq_some_iff.mp hi).1
      have g := ih f y hj (by omega)
      rw [canEnd_succ, List.getD_eq_getElem?_getD, oneOn_get (links_get hi) (List.getElem?_eq_getElem (by rw [len]; exact hlt))]
      show (_ || _) = true
      rw [Bool.or_eq_true]
      refine .inr (List.any_eq_true.mpr ⟨j, List.mem_map.mpr ⟨x, hx, find_play q.ne hj ey⟩, g⟩)
/-- the told good ones are just those from which the end can be done -/
theorem good_iff (q : RowInv h p l.length l) {i : Nat} {s : Vberan.Seen} (hi : l[i]? = some s) : (Vberan.good h l).getD i false = true ↔ CE h l i :=
  ⟨canEnd_CE q _ i, fun c => CE_canEnd q c _ s hi (Nat.le_add_left _ _)⟩
theorem CE_turn (q : RowInv h p l.length l) {i : Nat} {s : Vberan.Seen} (hi : l[i]? = some s) : CE h l i ↔ Vberan.ended s.play = true ∨ ∃ x j y, IsStep h s.play x ∧ l[j]? = some y ∧ y.play = Vberan.doneWith h s.play x.1 x.2 ∧ CE h l j := by
  constructor
  · intro c
    cases c with
    | here hi2 he =>
      cases (Option.some.inj (hi.symm.trans hi2))
      exact .inl he
    | next hi2 hx hj ey c =>
      cases (Option.some.inj (hi.symm.trans hi2))
      exact .inr ⟨_, _, _, hx, hj, ey, c⟩
  · rintro (he | ⟨x, j, y, hx, hj, ey, c⟩)
    · exact .here hi he
    · exact .next hi hx hj ey c
/-- the first play of a row: all in it come of it -/
theorem CE_first (q : RowInv h p l.length l) : CE h l 0 ↔ ∃ y ∈ l, Vberan.ended y.play = true := by
  constructor
  · intro c
    generalize 0 = i at c
    induction c with
    | here hi he => exact ⟨_, List.mem_of_getElem? hi, he⟩
    | next _ _ _ _ _ ih => exact ih
  · rintro ⟨y, hy, he⟩
    obtain ⟨k, hk⟩ := List.getElem?_of_mem hy
    have c : CE h l k := .here hk he
    clear he hy
    revert y
    induction k using Nat.strongRecOn with
    | ind k ih =>
      intro y hk
      by_cases h0 : k = 0
      · subst h0; exact c
      · obtain ⟨u, u1, _, u2, u3, u4, _⟩ := q.back k y hk (by omega)
        exact ih y.from_ u1 (.next u2 u3 hk u4 c) u u2
/-! ### the told way -/
def way (l : List Vberan.Seen) (i : Nat) : List (Nat × Nat) := Vberan.wayTo l (l.length + 1) i []
theorem wayTo_acc (l : List Vberan.Seen) : ∀ (f i : Nat) (acc : List (Nat × Nat)), Vberan.wayTo l f i acc = Vberan.wayTo l f i [] ++ acc
  | 0, _, _ => rfl
  | f + 1, i, acc => by
    unfold Vberan.wayTo
    split
    · rfl
    · split
      · rfl
      · rw [wayTo_acc l f _ (_ :: acc), wayTo_acc l f _ [_], List.append_assoc]
        rfl
theorem wayTo_fuel (q : RowInv h p l.length l) : ∀ (f g i : Nat), i < f → i < g → Vberan.wayTo l f i [] = Vberan.wayTo l g i []
  | 0, _, _, h1, _ => absurd h1 (Nat.not_lt_zero _)
  | _, 0, _, _, h2 => absurd h2 (Nat.not_lt_zero _)
  | f + 1, g + 1, i, h1, h2 => by
    unfold Vberan.wayTo
    cases hi : l[i]? with
    | none => rfl
    | some s =>
      dsimp only
      split
      · rfl
      · rename_i hs
        have hi0 : 0 < i := by
          rcases Nat.eq_zero_or_pos i with z | z
          · subst z
            obtain ⟨t, e⟩ := q.head
            rw [e] at hi
            cases (Option.some.inj hi)
            exact absurd rfl hs
          · exact z
        obtain ⟨u, u1, _⟩ := q.back i s hi hi0
        rw [wayTo_acc l f, wayTo_acc l g, wayTo_fuel q f g s.from_ (by omega) (by omega)]
theorem way_first (q : RowInv h p l.length l) : way l 0 = [] := by
  obtain ⟨t, e⟩ := q.head
  unfold way Vberan.wayTo
  rw [e]
  rfl
theorem way_on (q : RowInv h p l.length l) {k : Nat} {y : Vberan.Seen} (hk : l[k]? = some y) (h0 : 0 < k) : way l k = way l y.from_ ++ [y.step] := by
  obtain ⟨u, u1, _, u2, _, _, u3⟩ := q.back k y hk h0
  have hlt := (List.getElem?_eq_some_iff.mp hk).1
  unfold way
  rw [Vberan.wayTo, hk]
  dsimp only
  rw [if_neg (by omega), wayTo_acc, wayTo_fuel q l.length (l.length + 1) y.from_ (by omega) (by omega)]
/-- the first play of which something is so -/
theorem firstWay_some {b : List Bool} {i : Nat} (hi : b[i]? = some true) (lo : ∀ j, j < i → b[j]? = some false) : Vberan.firstWay l b = some (way l i) := by
  have e : b.findIdx? id = some i := by
    have hlt := (List.getElem?_eq_some_iff.mp hi).1
    rw [List.findIdx?_eq_some_iff_getElem]
    refine ⟨hlt, (List.getElem?_eq_some_iff.mp hi).2, fun j hj => ?_⟩
    rw [(List.getElem?_eq_some_iff.mp (lo j hj)).2]
    decide
  unfold Vberan.firstWay way
  rw [e]
  rfl
theorem firstWay_none {b : List Bool} (lo : ∀ x ∈ b, x = false) : Vberan.firstWay l b = none := by
  have e : b.findIdx? id = none := List.findIdx?_eq_none_iff.mpr fun x hx => by rw [lo x hx]; rfl
  unfold Vberan.firstWay
  rw [e]
  rfl
end
/-! ### a house without a deed -/
section
variable {h : Vberan.House} {d : Nat}
theorem without_len : (Vberan.without h d).deeds.length = h.deeds.length := by
  unfold Vberan.without
  rw [List.length_map, List.length_zipIdx]
theorem without_at (e : Nat) : Vberan.deedAt (Vberan.without h d) e = if e = d ∧ e < h.deeds.length then { Vberan.deedAt h e with needs := [] } else Vberan.deedAt h e := by
  unfold Vberan.deedAt Vberan.without
  rw [List.getD_eq_getElem?_getD, List.getElem?_map, List.getElem?_zipIdx, List.getD_eq_getElem?_getD]
  cases q : h.deeds[e]? with
  | none =>
    have := List.getElem?_eq_none_iff.mp q
    rw [if_neg (by omega)]
    rfl
  | some x =>
    have hlt := (List.getElem?_eq_some_iff.mp q).1
    show (if 0 + e = d then { x with needs := [] } else x) = _
    rw [Nat.zero_add]
    by_cases hd : e = d
    · rw [if_pos hd, if_pos ⟨hd, hlt⟩]; rfl
    · rw [if_neg hd, if_neg (fun z => hd z.1)]; rfl
theorem without_gives (e k : Nat) : Vberan.givesOf (Vberan.without h d) e k = Vberan.givesOf h e k := by
  unfold Vberan.givesOf
  rw [without_at]
  split <;> rfl
theorem without_uses (e : Nat) : (Vberan.deedAt (Vberan.without h d) e).uses = (Vberan.deedAt h e).uses := by
  rw [without_at]
  split <;> rfl
theorem without_done (q : Vberan.Play) (e k : Nat) : Vberan.doneWith (Vberan.without h d) q e k = Vberan.doneWith h q e k := by
  unfold Vberan.doneWith
  have : (fun j => Vberan.thing q j - (if j = k then 1 else 0) + Vberan.givesOf (Vberan.without h d) e j) = fun j => Vberan.thing q j - (if j = k then 1 else 0) + Vberan.givesOf h e j := funext fun j => by rw [without_gives]
  rw [this]
  rfl
theorem without_choices (q : Vberan.Play) (e : Nat) (he : e < h.deeds.length) : Vberan.choices (Vberan.without h d) q e = if e = d then [] else Vberan.choices h q e := by
  by_cases hd : e = d
  · have ea : Vberan.deedAt (Vberan.without h d) e = { Vberan.deedAt h e with needs := [] } := by rw [without_at, if_pos ⟨hd, he⟩]
    rw [if_pos hd]
    unfold Vberan.choices
    rw [ea]
    exact if_pos (by rw [Bool.or_eq_true]; exact .inr rfl)
  · have ea : Vberan.deedAt (Vberan.without h d) e = Vberan.deedAt h e := by rw [without_at, if_neg (fun z => hd z.1)]
    rw [if_neg hd]
    unfold Vberan.choices
    rw [ea]
    rfl
theorem flatMap_ext {α β : Type} {f g : α → List β} : ∀ {l : List α}, (∀ x ∈ l, f x = g x) → l.flatMap f = l.flatMap g
  | [], _ => rfl
  | a :: l, e => by
    rw [List.flatMap_cons, List.flatMap_cons, e a List.mem_cons_self, flatMap_ext fun x hx => e x (List.mem_cons_of_mem _ hx)]
theorem without_steps (q : Vberan.Play) : Vberan.steps (Vberan.without h d) q = (Vberan.steps h q).filter fun x => x.1 != d := by
  unfold Vberan.steps Vberan.numbers
  rw [without_len, List.filter_flatMap]
  refine flatMap_ext fun e he => ?_
  rw [without_choices q e (List.mem_range.mp he), List.filter_map]
  by_cases hd : e = d
  · rw [if_pos hd, List.filter_eq_nil_iff.mpr (fun k _ => by simp [hd])]
    try rfl
  · rw [if_neg hd, List.filter_eq_self.mpr (fun k _ => by simp [hd])]
theorem without_wf (w : WfH h) : WfH (Vberan.without h d) := by
  have mem : ∀ e ∈ (Vberan.without h d).deeds, ∃ x ∈ h.deeds, e.uses = x.uses ∧ e.gives = x.gives ∧ (e.needs = x.needs ∨ e.needs = []) := fun e he => by
    unfold Vberan.without at he
    obtain ⟨x, hx, ex⟩ := List.mem_map.mp he
    have hx2 := List.fst_mem_of_mem_zipIdx hx
    refine ⟨x.1, hx2, ?_⟩
    rw [← ex]
    split
    · exact ⟨rfl, rfl, .inr rfl⟩
    · exact ⟨rfl, rfl, .inl rfl⟩
  refine ⟨w.k5, w.fl, by rw [without_len]; exact w.n16, fun e he => ?_, fun e he => ?_, fun e he => ?_, fun e he => ?_, fun e he => ?_⟩
  · obtain ⟨x, hx, e1, _⟩ := mem e he
    rw [e1]; exact w.us x hx
  · obtain ⟨x, hx, e1, _⟩ := mem e he
    rw [e1]; exact w.ul x hx
  · obtain ⟨x, hx, _, e2, _⟩ := mem e he
    rw [e2]; exact w.gl x hx
  · obtain ⟨x, hx, _, _, e3⟩ := mem e he
    rcases e3 with e3 | e3
    · rw [e3]; exact w.nl x hx
    · rw [e3]; exact Nat.zero_le _
  · obtain ⟨x, hx, _, _, e3⟩ := mem e he
    rcases e3 with e3 | e3
    · rw [e3]; exact w.nm x hx
    · rw [e3]; exact fun s hs => (by cases hs)
theorem without_wfp {q : Vberan.Play} (w : WfP h q) : WfP (Vberan.without h d) q := ⟨w.ds, by rw [without_len]; exact w.dl, w.tl⟩
end
end DH
namespace DH
/-! ### served: the row of kinds -/
def addReach (e : Nat) (a : List Vberan.Reach) (k : Nat) : List Vberan.Reach := if (a.any fun z => z.kind == k) = true then a else a ++ [⟨k, e⟩]
def movers (g : Vberan.Given) (k : Nat) : List Nat := (g.filter fun y => y.2 == k).map fun y => y.1
def reachOne (h : Vberan.House) (g : Vberan.Given) (k : Nat) (l : List Vberan.Reach) : List Vberan.Reach := (movers g k).foldl (fun a e => (Vberan.deedAt h e).uses.foldl (addReach e) a) l
def rturn (h : Vberan.House) (g : Vberan.Given) (i : Nat) (l : List Vberan.Reach) : List Vberan.Reach := match l[i]? with
  | none => l
  | some x => reachOne h g x.kind l
/-- the row of kinds when the first i kinds are gone through -/
def rstage (h : Vberan.House) (g : Vberan.Given) (d : Nat) : Nat → List Vberan.Reach
  | 0 => (Vberan.deedAt h d).uses.foldl (addReach d) []
  | i + 1 => rturn h g i (rstage h g d i)
theorem spread_succ (h : Vberan.House) (g : Vberan.Given) (f i : Nat) (l : List Vberan.Reach) : Vberan.spread h g (f + 1) i l = match l[i]? with
    | none => l
    | some x => Vberan.spread h g f (i + 1) (reachOne h g x.kind l) := by
  rw [Vberan.spread]
  rfl
theorem rstage_some {h : Vberan.House} {g : Vberan.Given} {d i : Nat} {x : Vberan.Reach} (e : (rstage h g d i)[i]? = some x) : rstage h g d (i + 1) = reachOne h g x.kind (rstage h g d i) := by
  show rturn h g i (rstage h g d i) = _
  unfold rturn
  rw [e]
theorem rstage_none {h : Vberan.House} {g : Vberan.Given} {d i : Nat} (e : (rstage h g d i)[i]? = none) : rstage h g d (i + 1) = rstage h g d i := by
  show rturn h g i (rstage h g d i) = _
  unfold rturn
  rw [e]
theorem rstage_end {h : Vberan.House} {g : Vberan.Given} {d j : Nat} (e : (rstage h g d j).length ≤ j) : ∀ k, rstage h g d (j + k) = rstage h g d j
  | 0 => rfl
  | k + 1 => by
    have ih := rstage_end e k
    rw [← Nat.add_assoc, rstage_none, ih]
    rw [ih]
    exact List.getElem?_eq_none (by omega)
theorem spread_stage {h : Vberan.House} {g : Vberan.Given} {d : Nat} : ∀ (f i : Nat), Vberan.spread h g f i (rstage h g d i) = rstage h g d (i + f)
  | 0, _ => rfl
  | f + 1, i => by
    rw [spread_succ]
    cases e : (rstage h g d i)[i]? with
    | none =>
      dsimp only
      exact (rstage_end (List.getElem?_eq_none_iff.mp e) (f + 1)).symm
    | some x =>
      dsimp only
      rw [← rstage_some e, spread_stage f (i + 1)]
      exact congrArg _ (by omega)
theorem reachOf_stage (h : Vberan.House) (g : Vberan.Given) (d : Nat) : Vberan.reachOf h g d = rstage h g d (h.kinds + 1) := by
  show Vberan.spread h g (h.kinds + 1) 0 (rstage h g d 0) = _
  rw [spread_stage, Nat.zero_add]
theorem uses_lt {h : Vberan.House} (w : WfH h) (e : Nat) : ∀ k ∈ (Vberan.deedAt h e).uses, k < h.kinds := fun k hk => by
  by_cases he : e < h.deeds.length
  · exact w.ul _ (deedAt_mem he) k hk
  · unfold Vberan.deedAt at hk
    rw [List.getD_eq_getElem?_getD, List.getElem?_eq_none (by omega)] at hk
    cases hk
/-- what holds of a row of kinds -/
structure ReachInv (h : Vberan.House) (g : Vberan.Given) (d i : Nat) (l : List Vberan.Reach) : Prop where
  lt : ∀ z ∈ l, z.kind < h.kinds
  nd : (l.map (·.kind)).Nodup
  back : ∀ (m : Nat) z, l[m]? = some z → z.kind ∈ (Vberan.deedAt h z.by_).uses ∧ (z.by_ = d ∨ ∃ (j : Nat) (x : Vberan.Reach), j < m ∧ j < i ∧ l[j]? = some x ∧ (z.by_, x.kind) ∈ g)
theorem any_kind {a : List Vberan.Reach} {k : Nat} : (a.any fun z => z.kind == k) = true ↔ ∃ z ∈ a, z.kind = k := by
  rw [List.any_eq_true]
  exact ⟨fun ⟨z, h1, h2⟩ => ⟨z, h1, eq_of_beq h2⟩, fun ⟨z, h1, h2⟩ => ⟨z, h1, by rw [h2]; exact beq_self_eq_true _⟩⟩
theorem addReach_app (e : Nat) (a : List Vberan.Reach) (k : Nat) : ∃ m, addReach e a k = a ++ m := by
  unfold addReach
  split
  · exact ⟨[], (List.append_nil _).symm⟩
  · exact ⟨_, rfl⟩
theorem addReach_inv {h : Vberan.House} {g : Vberan.Given} {d i e k : Nat} {a : List Vberan.Reach} (w : WfH h) (q : ReachInv h g d i a) (hk : k ∈ (Vberan.deedAt h e).uses) (he : e = d ∨ ∃ (j : Nat) (x : Vberan.Reach), j < i ∧ a[j]? = some x ∧ (e, x.kind) ∈ g) : ReachInv h g d i (addReach e a k) := by
  unfold addReach
  split
  · exact q
  · rename_i hn
    refine ⟨fun z hz => ?_, ?_, fun m z hz => ?_⟩
    · rcases List.mem_append.mp hz with hz | hz
      · exact q.lt z hz
      · rw [List.mem_singleton.mp hz]
        exact uses_lt w e k hk
    · rw [List.map_append, List.nodup_append]
      refine ⟨q.nd, by simp, fun r hr s hs er => ?_⟩
      have es : s = k := by simpa using hs
      obtain ⟨z, hz, ez⟩ := List.mem_map.mp hr
      exact hn (any_kind.mpr ⟨z, hz, ez.trans (er.trans es)⟩)
    · by_cases hm : m < a.length
      · rw [List.getElem?_append_left hm] at hz
        obtain ⟨h1, h2⟩ := q.back m z hz
        refine ⟨h1, h2.imp id fun ⟨j, x, j1, j2, j3, j4⟩ => ⟨j, x, j1, j2, ?_, j4⟩⟩
        exact get_app_left j3
      · rw [List.getElem?_append_right (by omega)] at hz
        have ez : z = ⟨k, e⟩ := List.mem_singleton.mp (List.mem_of_getElem? hz)
        subst ez
        refine ⟨hk, he.imp id fun ⟨j, x, j2, j3, j4⟩ => ⟨j, x, ?_, j2, get_app_left j3, j4⟩⟩
        have := (List.getElem?_eq_some_iff.mp j3).1
        omega
theorem addAll_inv {h : Vberan.House} {g : Vberan.Given} {d i e : Nat} (w : WfH h) : ∀ (ks : List Nat) (a : List Vberan.Reach), ReachInv h g d i a → (∀ k ∈ ks, k ∈ (Vberan.deedAt h e).uses) → (e = d ∨ ∃ (j : Nat) (x : Vberan.Reach), j < i ∧ a[j]? = some x ∧ (e, x.kind) ∈ g) →
    ReachInv h g d i (ks.foldl (addReach e) a) ∧ ∃ m, ks.foldl (addReach e) a = a ++ m
  | [], a, q, _, _ => ⟨q, [], (List.append_nil _).symm⟩
  | k :: ks, a, q, hk, he => by
    obtain ⟨m, em⟩ := addReach_app e a k
    obtain ⟨r, m2, em2⟩ := addAll_inv w ks (addReach e a k) (addReach_inv w q (hk k List.mem_cons_self) he) (fun x hx => hk x (List.mem_cons_of_mem _ hx)) (he.imp id fun ⟨j, x, j1, j2, j3⟩ => ⟨j, x, j1, by rw [em]; exact get_app_left j2, j3⟩)
    exact ⟨r, m ++ m2, by rw [List.foldl_cons, em2, em, List.append_assoc]⟩
theorem moved_inv {h : Vberan.House} {g : Vberan.Given} {d i : Nat} (w : WfH h) : ∀ (es : List Nat) (a : List Vberan.Reach), ReachInv h g d i a → (∀ e ∈ es, ∃ (j : Nat) (x : Vberan.Reach), j < i ∧ a[j]? = some x ∧ (e, x.kind) ∈ g) →
    ReachInv h g d i (es.foldl (fun a e => (Vberan.deedAt h e).uses.foldl (addReach e) a) a) ∧ ∃ m, es.foldl (fun a e => (Vberan.deedAt h e).uses.foldl (addReach e) a) a = a ++ m
  | [], a, q, _ => ⟨q, [], (List.append_nil _).symm⟩
  | e :: es, a, q, he => by
    obtain ⟨r, m, em⟩ := addAll_inv (e := e) w (Vberan.deedAt h e).uses a q (fun k hk => hk) (.inr (he e List.mem_cons_self))
    obtain ⟨r2, m2, em2⟩ := moved_inv w es _ r (fun x hx => by
      obtain ⟨j, y, j1, j2, j3⟩ := he x (List.mem_cons_of_mem _ hx)
      exact ⟨j, y, j1, by rw [em]; exact get_app_left j2, j3⟩)
    exact ⟨r2, m ++ m2, by rw [List.foldl_cons, em2, em, List.append_assoc]⟩
theorem mem_movers {g : Vberan.Given} {k e : Nat} : e ∈ movers g k ↔ (e, k) ∈ g := by
  unfold movers
  rw [List.mem_map]
  constructor
  · rintro ⟨y, hy, rfl⟩
    rw [List.mem_filter] at hy
    have := eq_of_beq hy.2
    rw [← this]
    exact hy.1
  · intro hm
    exact ⟨(e, k), List.mem_filter.mpr ⟨hm, beq_self_eq_true _⟩, rfl⟩
theorem rturn_inv {h : Vberan.House} {g : Vberan.Given} {d i : Nat} {l : List Vberan.Reach} {x : Vberan.Reach} (w : WfH h) (q : ReachInv h g d i l) (hx : l[i]? = some x) : ReachInv h g d (i + 1) (reachOne h g x.kind l) ∧ ∃ m, reachOne h g x.kind l = l ++ m :=
  moved_inv w _ l ⟨q.lt, q.nd, fun m z hz => ⟨(q.back m z hz).1, (q.back m z hz).2.imp id fun ⟨j, y, j1, j2, j3⟩ => ⟨j, y, j1, by omega, j3⟩⟩⟩ fun e he => ⟨i, x, Nat.lt_succ_self i, hx, mem_movers.mp he⟩
theorem rstage_inv {h : Vberan.House} {g : Vberan.Given} {d : Nat} (w : WfH h) : ∀ i, ReachInv h g d i (rstage h g d i)
  | 0 => (addAll_inv w _ [] ⟨fun z hz => (nomatch hz), List.nodup_nil, fun m z hz => (by cases hz)⟩ (fun k hk => hk) (.inl rfl)).1
  | i + 1 => by
    have q := rstage_inv (g := g) (d := d) w i
    cases e : (rstage h g d i)[i]? with
    | some x =>
      rw [rstage_some e]
      exact (rturn_inv w q e).1
    | none =>
      rw [rstage_none e]
      exact ⟨q.lt, q.nd, fun m z hz => ⟨(q.back m z hz).1, (q.back m z hz).2.imp id fun ⟨j, y, j1, j2, j3⟩ => ⟨j, y, j1, by omega, j3⟩⟩⟩
theorem reach_len {h : Vberan.House} {g : Vberan.Given} {d i : Nat} {l : List Vberan.Reach} (q : ReachInv h g d i l) : l.length ≤ h.kinds := by
  have := nodup_lt h.kinds (l.map (·.kind)) q.nd fun x hx => by
    obtain ⟨z, hz, rfl⟩ := List.mem_map.mp hx
    exact q.lt z hz
  rw [List.length_map] at this
  exact this
/-- gone through to the end: the row of kinds -/
theorem reachOf_of {h : Vberan.House} {g : Vberan.Given} {d j : Nat} (w : WfH h) (e : (rstage h g d j).length ≤ j) : Vberan.reachOf h g d = rstage h g d j := by
  rw [reachOf_stage]
  have e2 : (rstage h g d (h.kinds + 1)).length ≤ h.kinds + 1 := Nat.le_succ_of_le (reach_len (rstage_inv w _))
  by_cases hj : j ≤ h.kinds + 1
  · have := rstage_end e (h.kinds + 1 - j)
    rw [show j + (h.kinds + 1 - j) = h.kinds + 1 by omega] at this
    exact this
  · have := rstage_end e2 (j - (h.kinds + 1))
    rw [show h.kinds + 1 + (j - (h.kinds + 1)) = j by omega] at this
    exact this.symm
/-! ### served: given anew, back from a free kind -/
theorem find_kind {l : List Vberan.Reach} (nd : (l.map (·.kind)).Nodup) {m : Nat} {x : Vberan.Reach} (hx : l[m]? = some x) : (l.find? fun z => z.kind == x.kind) = some x := by
  cases e : l.find? fun z => z.kind == x.kind with
  | none =>
    have := List.find?_eq_none.mp e x (List.mem_of_getElem? hx)
    exact absurd (beq_self_eq_true _) this
  | some y =>
    have h1 := List.mem_of_find?_eq_some e
    have h2 : (y.kind == x.kind) = true := List.find?_some (p := fun z : Vberan.Reach => z.kind == x.kind) e
    have h2 := eq_of_beq h2
    obtain ⟨j, hj⟩ := List.getElem?_of_mem h1
    have a1 := (List.getElem?_eq_some_iff.mp hj).1
    have a2 := (List.getElem?_eq_some_iff.mp hx).1
    have b1 := (List.getElem?_eq_some_iff.mp hj).2
    have b2 := (List.getElem?_eq_some_iff.mp hx).2
    have := nodup_get nd (i := j) (j := m) (hi := by rw [List.length_map]; exact a1) (hj := by rw [List.length_map]; exact a2) (by rw [List.getElem_map, List.getElem_map, b1, b2]; exact h2)
    subst this
    exact congrArg some (Option.some.inj (hj.symm.trans hx))
theorem find_key {g : Vberan.Given} (nd : (g.map (·.1)).Nodup) {e k : Nat} (hm : (e, k) ∈ g) : (g.find? fun y => y.1 == e) = some (e, k) := by
  induction g with
  | nil => cases hm
  | cons y g ih =>
    rw [List.map_cons, List.nodup_cons] at nd
    rw [List.find?_cons]
    rcases List.mem_cons.mp hm with z | z
    · rw [← z]
      simp
    · have hne : (y.1 == e) = false := by
        rw [beq_eq_false_iff_ne]
        intro ey
        exact nd.1 (by rw [ey]; exact List.mem_map.mpr ⟨_, z, rfl⟩)
      rw [hne]
      exact ih nd.2 z
/-- the deed is given another kind -/
def give (g : Vberan.Given) (e k : Nat) : Vberan.Given := g.map fun z => if z.1 = e then (z.1, k) else z
theorem give_keys (g : Vberan.Given) (e k : Nat) : (give g e k).map (·.1) = g.map (·.1) := by
  unfold give
  rw [List.map_map]
  refine List.map_congr_left fun z _ => ?_
  show (if z.1 = e then (z.1, k) else z).1 = z.1
  split <;> rfl
structure ShiftInv (h : Vberan.House) (l : List Vberan.Reach) (d : Nat) (g : Vberan.Given) (m k : Nat) : Prop where
  at_ : ∃ x, l[m]? = some x ∧ x.kind = k
  back : ∀ (m' : Nat) (z : Vberan.Reach), m' ≤ m → l[m']? = some z → z.by_ = d ∨ ∃ (j : Nat) (x : Vberan.Reach), j < m' ∧ l[j]? = some x ∧ (z.by_, x.kind) ∈ g
  keys : (g.map (·.1)).Nodup
  nd : (l.map (·.kind)).Nodup
  lt : ∀ z ∈ l, z.kind < h.kinds
  gl : ∀ y ∈ g, y.2 < h.kinds
theorem shift_succ (l : List Vberan.Reach) (d f k : Nat) (g : Vberan.Given) : Vberan.shift l d (f + 1) k g = match l.find? fun x => x.kind == k with
    | none => g
    | some x => if x.by_ = d then g ++ [(d, k)] else match g.find? fun y => y.1 == x.by_ with
      | none => g
      | some y => Vberan.shift l d f y.2 (give g x.by_ k) := by
  rw [Vberan.shift]
  rfl
theorem shift_turn {h : Vberan.House} {l : List Vberan.Reach} {d : Nat} {g : Vberan.Given} {m k : Nat} (q : ShiftInv h l d g m k) : ∃ x, l[m]? = some x ∧ x.kind = k ∧ (x.by_ = d ∧ (∀ f, Vberan.shift l d (f + 1) k g = g ++ [(d, k)]) ∨
    x.by_ ≠ d ∧ ∃ (j : Nat) (k2 : Nat), j < m ∧ (x.by_, k2) ∈ g ∧ ShiftInv h l d (give g x.by_ k) j k2 ∧ ∀ f, Vberan.shift l d (f + 1) k g = Vberan.shift l d f k2 (give g x.by_ k)) := by
  obtain ⟨x, hx, ex⟩ := q.at_
  have hf : (l.find? fun z => z.kind == k) = some x := by rw [← ex]; exact find_kind q.nd hx
  refine ⟨x, hx, ex, ?_⟩
  by_cases hd : x.by_ = d
  · refine .inl ⟨hd, fun f => ?_⟩
    rw [shift_succ, hf]
    exact if_pos hd
  · refine .inr ⟨hd, ?_⟩
    obtain ⟨j, y, j1, j2, j3⟩ := (q.back m x (Nat.le_refl _) hx).resolve_left hd
    refine ⟨j, y.kind, j1, j3, ⟨⟨y, j2, rfl⟩, fun m' z hm hz => ?_, by rw [give_keys]; exact q.keys, q.nd, q.lt, fun u hu => ?_⟩, fun f => ?_⟩
    · by_cases hzd : z.by_ = d
      · exact .inl hzd
      · obtain ⟨j', y', c1, c2, c3⟩ := (q.back m' z (by omega) hz).resolve_left hzd
        refine .inr ⟨j', y', c1, c2, ?_⟩
        unfold give
        refine List.mem_map.mpr ⟨_, c3, ?_⟩
        by_cases hb : z.by_ = x.by_
        · exfalso
          have e1 := find_key q.keys j3
          have e2 := find_key q.keys c3
          rw [hb, e1] at e2
          have e3 : y.kind = y'.kind := congrArg Prod.snd (Option.some.inj e2)
          have a1 := (List.getElem?_eq_some_iff.mp j2)
          have a2 := (List.getElem?_eq_some_iff.mp c2)
          obtain ⟨a1, b1⟩ := a1
          obtain ⟨a2, b2⟩ := a2
          have := nodup_get q.nd (i := j) (j := j') (hi := by rw [List.length_map]; exact a1) (hj := by rw [List.length_map]; exact a2) (by rw [List.getElem_map, List.getElem_map, b1, b2]; exact e3)
          omega
        · exact if_neg hb
    · unfold give at hu
      obtain ⟨v, hv, ev⟩ := List.mem_map.mp hu
      rw [← ev]
      split
      · show k < _
        rw [← ex]
        exact q.lt x (List.mem_of_getElem? hx)
      · exact q.gl v hv
    · rw [shift_succ, hf]
      dsimp only
      rw [if_neg hd, find_key q.keys j3]
theorem shift_fuel {h : Vberan.House} {l : List Vberan.Reach} {d : Nat} : ∀ (m : Nat) {g : Vberan.Given} {k : Nat}, ShiftInv h l d g m k → ∀ f f', m < f → m < f' → Vberan.shift l d f k g = Vberan.shift l d f' k g := by
  intro m
  induction m using Nat.strongRecOn with
  | ind m ih =>
    intro g k q f f' h1 h2
    cases f with
    | zero => omega
    | succ f =>
      cases f' with
      | zero => omega
      | succ f' =>
        obtain ⟨x, _, _, ⟨_, e⟩ | ⟨_, j, k2, j1, _, q2, e⟩⟩ := shift_turn q
        · rw [e, e]
        · rw [e, e]
          exact ih j j1 q2 f f' (by omega) (by omega)
/-- the kind that's free goes to who came there, and so on -/
def shiftAll (l : List Vberan.Reach) (d k : Nat) (g : Vberan.Given) : Vberan.Given := Vberan.shift l d (l.length + 1) k g
section
variable {h : Vberan.House} {l : List Vberan.Reach} {d : Nat} {g : Vberan.Given} {m k : Nat}
theorem ShiftInv.mlt (q : ShiftInv h l d g m k) : m < l.length := by
  obtain ⟨x, hx, _⟩ := q.at_
  exact (List.getElem?_eq_some_iff.mp hx).1
theorem shiftAll_turn (q : ShiftInv h l d g m k) : ∃ x, l[m]? = some x ∧ x.kind = k ∧ (x.by_ = d ∧ shiftAll l d k g = g ++ [(d, k)] ∨
    x.by_ ≠ d ∧ ∃ (j : Nat) (k2 : Nat), j < m ∧ (x.by_, k2) ∈ g ∧ ShiftInv h l d (give g x.by_ k) j k2 ∧ shiftAll l d k g = shiftAll l d k2 (give g x.by_ k)) := by
  obtain ⟨x, hx, ex, ⟨h1, e⟩ | ⟨h1, j, k2, j1, j2, q2, e⟩⟩ := shift_turn q
  · exact ⟨x, hx, ex, .inl ⟨h1, e _⟩⟩
  · refine ⟨x, hx, ex, .inr ⟨h1, j, k2, j1, j2, q2, (e _).trans ?_⟩⟩
    have := q.mlt
    exact shift_fuel j q2 _ _ (by omega) (by omega)
theorem shift_all (q : ShiftInv h l d g m k) : Vberan.shift l d (h.kinds + 1) k g = shiftAll l d k g := by
  have h1 := q.mlt
  have h2 := nodup_lt h.kinds (l.map (·.kind)) q.nd fun x hx => by
    obtain ⟨z, hz, rfl⟩ := List.mem_map.mp hx
    exact q.lt z hz
  rw [List.length_map] at h2
  exact shift_fuel m q _ _ (by omega) (by omega)
theorem shiftAll_is (q : ShiftInv h l d g m k) : (shiftAll l d k g).map (·.1) = g.map (·.1) ++ [d] ∧ ∀ y ∈ shiftAll l d k g, y.2 < h.kinds := by
  revert g k
  induction m using Nat.strongRecOn with
  | ind m ih =>
    intro g k q
    obtain ⟨x, hx, ex, ⟨_, e⟩ | ⟨_, j, k2, j1, _, q2, e⟩⟩ := shiftAll_turn q
    · rw [e]
      refine ⟨by rw [List.map_append]; rfl, fun y hy => ?_⟩
      rcases List.mem_append.mp hy with z | z
      · exact q.gl y z
      · rw [List.mem_singleton.mp z]
        show k < _
        rw [← ex]
        exact q.lt x (List.mem_of_getElem? hx)
    · rw [e]
      have := ih j j1 q2
      rw [give_keys] at this
      exact this
end
/-! ### served: deed by deed -/
structure GInv (h : Vberan.House) (d : Nat) (g : Vberan.Given) : Prop where
  up : (g.map (·.1)).Pairwise (· < ·)
  lt : ∀ y ∈ g, y.1 < d
  kl : ∀ y ∈ g, y.2 < h.kinds
theorem GInv.nd {h : Vberan.House} {d : Nat} {g : Vberan.Given} (q : GInv h d g) : (g.map (·.1)).Nodup := q.up.imp fun h => Nat.ne_of_lt h
theorem GInv.more {h : Vberan.House} {d e : Nat} {g : Vberan.Given} (q : GInv h d g) (le : d ≤ e) : GInv h e g := ⟨q.up, fun y hy => Nat.lt_of_lt_of_le (q.lt y hy) le, q.kl⟩
theorem shift_start {h : Vberan.House} {d : Nat} {g : Vberan.Given} {m : Nat} {x : Vberan.Reach} (w : WfH h) (q : GInv h d g) (hx : (Vberan.reachOf h g d)[m]? = some x) : ShiftInv h (Vberan.reachOf h g d) d g m x.kind := by
  have r : ReachInv h g d (h.kinds + 1) (Vberan.reachOf h g d) := by rw [reachOf_stage]; exact rstage_inv w _
  exact ⟨⟨x, hx, rfl⟩, fun m' z _ hz => (r.back m' z hz).2.imp id fun ⟨j, y, j1, _, j3, j4⟩ => ⟨j, y, j1, j3, j4⟩, q.nd, r.nd, r.lt, q.kl⟩
/-- the first kind of which some are free -/
def freeAt (h : Vberan.House) (g : Vberan.Given) (l : List Vberan.Reach) : Option Vberan.Reach := l.find? fun x => decide (Vberan.usedOf g x.kind < Vberan.total h x.kind)
theorem serve_none {h : Vberan.House} {d : Nat} {g : Vberan.Given} (e : freeAt h g (Vberan.reachOf h g d) = none) : Vberan.serve h g d = none := by
  unfold Vberan.serve
  unfold freeAt at e
  dsimp only
  rw [e]
  rfl
theorem serve_some {h : Vberan.House} {d : Nat} {g : Vberan.Given} {x : Vberan.Reach} (w : WfH h) (q : GInv h d g) (e : freeAt h g (Vberan.reachOf h g d) = some x) : Vberan.serve h g d = some (shiftAll (Vberan.reachOf h g d) d x.kind g) ∧ ∃ m, ShiftInv h (Vberan.reachOf h g d) d g m x.kind := by
  obtain ⟨m, hm⟩ := List.getElem?_of_mem (List.mem_of_find?_eq_some e)
  have s := shift_start w q hm
  refine ⟨?_, m, s⟩
  unfold Vberan.serve
  unfold freeAt at e
  dsimp only
  rw [e]
  exact congrArg some (shift_all s)
theorem serve_inv {h : Vberan.House} {d : Nat} {g : Vberan.Given} (w : WfH h) (q : GInv h d g) : GInv h (d + 1) ((Vberan.serve h g d).getD g) := by
  cases e : freeAt h g (Vberan.reachOf h g d) with
  | none =>
    rw [serve_none e]
    exact q.more (Nat.le_succ d)
  | some x =>
    obtain ⟨e2, m, s⟩ := serve_some w q e
    rw [e2]
    obtain ⟨k1, k2⟩ := shiftAll_is s
    refine ⟨?_, fun y hy => ?_, k2⟩
    · rw [Option.getD_some, k1, List.pairwise_append]
      refine ⟨q.up, List.pairwise_singleton _ _, fun a ha b hb => ?_⟩
      obtain ⟨y, hy, rfl⟩ := List.mem_map.mp ha
      rw [List.mem_singleton.mp hb]
      exact q.lt y hy
    · have : y.1 ∈ (shiftAll (Vberan.reachOf h g d) d x.kind g).map (·.1) := List.mem_map.mpr ⟨y, hy, rfl⟩
      rw [k1] at this
      rcases List.mem_append.mp this with z | z
      · obtain ⟨u, hu, eu⟩ := List.mem_map.mp z
        rw [← eu]
        exact Nat.lt_succ_of_lt (q.lt u hu)
      · rw [List.mem_singleton.mp z]
        exact Nat.lt_succ_self d
/-- the deeds ahead of d are gone through -/
def servedTo (h : Vberan.House) (d : Nat) : Vberan.Given := Vberan.serveAll h ((List.range d).filter fun d => !(Vberan.deedAt h d).uses.isEmpty) []
theorem serveAll_app (h : Vberan.House) (d : Nat) : ∀ (l : List Nat) (g : Vberan.Given), Vberan.serveAll h (l ++ [d]) g = (Vberan.serve h (Vberan.serveAll h l g) d).getD (Vberan.serveAll h l g)
  | [], _ => rfl
  | a :: l, g => serveAll_app h d l _
theorem servedTo_succ (h : Vberan.House) (d : Nat) : servedTo h (d + 1) = if (Vberan.deedAt h d).uses.isEmpty = true then servedTo h d else (Vberan.serve h (servedTo h d) d).getD (servedTo h d) := by
  unfold servedTo
  rw [List.range_succ, List.filter_append]
  split
  · rename_i hu
    rw [List.filter_cons_of_neg (by rw [hu]; decide), List.filter_nil, List.append_nil]
  · rename_i hu
    rw [List.filter_cons_of_pos (by rw [Bool.not_eq_true] at hu; rw [hu]; rfl), List.filter_nil, serveAll_app]
theorem servedTo_inv {h : Vberan.House} (w : WfH h) : ∀ d, GInv h d (servedTo h d)
  | 0 => ⟨List.Pairwise.nil, fun y hy => (by cases hy), fun y hy => (by cases hy)⟩
  | d + 1 => by
    rw [servedTo_succ]
    split
    · exact (servedTo_inv w d).more (Nat.le_succ d)
    · exact serve_inv w (servedTo_inv w d)
theorem insertPair_last (x : Nat × Nat) : ∀ {g : Vberan.Given}, (∀ y ∈ g, y.1 < x.1) → Vberan.insertPair x g = g ++ [x]
  | [], _ => rfl
  | y :: g, h => by
    unfold Vberan.insertPair
    have := h y List.mem_cons_self
    rw [if_neg (by omega), insertPair_last x fun z hz => h z (List.mem_cons_of_mem _ hz)]
    rfl
theorem fold_pairs : ∀ (l a : Vberan.Given), ((a ++ l).map (·.1)).Pairwise (· < ·) → l.foldl (fun a x => Vberan.insertPair x a) a = a ++ l
  | [], a, _ => (List.append_nil a).symm
  | x :: l, a, h => by
    rw [List.foldl_cons, insertPair_last x, fold_pairs l (a ++ [x]) (by rw [List.append_assoc]; exact h), List.append_assoc]
    · rfl
    · intro y hy
      rw [List.map_append, List.pairwise_append] at h
      exact h.2.2 _ (List.mem_map.mpr ⟨y, hy, rfl⟩) _ (by rw [List.map_cons]; exact List.mem_cons_self)
theorem served_is {h : Vberan.House} (w : WfH h) : Vberan.served h = servedTo h h.deeds.length := by
  have q := servedTo_inv w h.deeds.length
  show (servedTo h h.deeds.length).foldl (fun a x => Vberan.insertPair x a) [] = _
  exact fold_pairs _ [] q.up
/-! ### the told set -/
theorem fold_ins {α : Type} (f : α → Nat) : ∀ (l : List α) (a : List Nat), a.Pairwise (· < ·) → (l.foldl (fun a x => Vberan.insertNum (f x) a) a).Pairwise (· < ·) ∧ ∀ k, k ∈ l.foldl (fun a x => Vberan.insertNum (f x) a) a ↔ k ∈ a ∨ ∃ x ∈ l, f x = k
  | [], a, h => ⟨h, fun k => by simp⟩
  | x :: l, a, h => by
    obtain ⟨h1, h2⟩ := fold_ins f l (Vberan.insertNum (f x) a) (ins_sorted _ h)
    refine ⟨h1, fun k => ?_⟩
    rw [List.foldl_cons, h2, ins_mem]
    constructor
    · rintro ((e | e) | ⟨y, hy, e⟩)
      · exact .inr ⟨x, List.mem_cons_self, e.symm⟩
      · exact .inl e
      · exact .inr ⟨y, List.mem_cons_of_mem _ hy, e⟩
    · rintro (e | ⟨y, hy, e⟩)
      · exact .inl (.inr e)
      · rcases List.mem_cons.mp hy with z | z
        · rw [z] at e; exact .inl (.inl e.symm)
        · exact .inr ⟨y, z, e⟩
theorem poor_fold (h : Vberan.House) (g : Vberan.Given) : ∀ (ds a : List Nat), a.Pairwise (· < ·) → (ds.foldl (fun a d => (Vberan.reachOf h g d).foldl (fun a x => Vberan.insertNum x.kind a) a) a).Pairwise (· < ·) ∧
    ∀ k, k ∈ ds.foldl (fun a d => (Vberan.reachOf h g d).foldl (fun a x => Vberan.insertNum x.kind a) a) a ↔ k ∈ a ∨ ∃ d ∈ ds, ∃ x ∈ Vberan.reachOf h g d, x.kind = k
  | [], a, s => ⟨s, fun k => by simp⟩
  | d :: ds, a, s => by
    obtain ⟨f1, f2⟩ := fold_ins (fun x : Vberan.Reach => x.kind) (Vberan.reachOf h g d) a s
    obtain ⟨h1, h2⟩ := poor_fold h g ds _ f1
    refine ⟨h1, fun k => ?_⟩
    rw [List.foldl_cons, h2, f2]
    constructor
    · rintro ((e | ⟨x, hx, e⟩) | ⟨y, hy, e⟩)
      · exact .inl e
      · exact .inr ⟨d, List.mem_cons_self, x, hx, e⟩
      · exact .inr ⟨y, List.mem_cons_of_mem _ hy, e⟩
    · rintro (e | ⟨y, hy, x, hx, e⟩)
      · exact .inl (.inl e)
      · rcases List.mem_cons.mp hy with z | z
        · rw [z] at hx; exact .inl (.inr ⟨x, hx, e⟩)
        · exact .inr ⟨y, z, x, hx, e⟩
theorem poor_is (h : Vberan.House) : (Vberan.poor h).Pairwise (· < ·) ∧ ∀ k, k ∈ Vberan.poor h ↔ ∃ d ∈ Vberan.users h, (∀ y ∈ Vberan.served h, y.1 ≠ d) ∧ ∃ x ∈ Vberan.reachOf h (Vberan.served h) d, x.kind = k := by
  obtain ⟨h1, h2⟩ := poor_fold h (Vberan.served h) ((Vberan.users h).filter fun d => !((Vberan.served h).any fun x => x.1 == d)) [] List.Pairwise.nil
  refine ⟨h1, fun k => (h2 k).trans ?_⟩
  constructor
  · rintro (e | ⟨d, hd, x, hx, e⟩)
    · cases e
    · rw [List.mem_filter] at hd
      refine ⟨d, hd.1, fun y hy ey => ?_, x, hx, e⟩
      have hd2 := hd.2
      rw [Bool.not_eq_true'] at hd2
      exact absurd (show (y.1 == d) = true by rw [ey]; exact beq_self_eq_true d) (List.any_eq_false.mp hd2 y hy)
  · rintro ⟨d, hd, hn, x, hx, e⟩
    refine .inr ⟨d, List.mem_filter.mpr ⟨hd, ?_⟩, x, hx, e⟩
    rw [Bool.not_eq_true', List.any_eq_false]
    intro y hy hb
    exact hn y hy (eq_of_beq hb)
/-! ### counted: how many are given a kind -/
theorem used_give {g : Vberan.Given} (nd : (g.map (·.1)).Nodup) {e k k2 : Nat} (hm : (e, k2) ∈ g) (j : Nat) : Vberan.usedOf (give g e k) j + (if k2 = j then 1 else 0) = Vberan.usedOf g j + (if k = j then 1 else 0) := by
  unfold Vberan.usedOf give
  induction g with
  | nil => cases hm
  | cons y g ih =>
    rw [List.map_cons, List.nodup_cons] at nd
    rw [List.map_cons, List.filter_cons, List.filter_cons]
    rcases List.mem_cons.mp hm with z | z
    · have rest : (g.map fun z => if z.1 = e then (z.1, k) else z) = g := by
        have : (g.map fun z => if z.1 = e then (z.1, k) else z) = g.map id := List.map_congr_left fun u hu => if_neg fun eu => nd.1 (by rw [← z]; show e ∈ _; rw [← eu]; exact List.mem_map.mpr ⟨u, hu, rfl⟩)
        rw [this, List.map_id]
      rw [rest, ← z, if_pos rfl]
      by_cases h1 : k = j <;> by_cases h2 : k2 = j <;> simp [h1, h2]
    · have hne : y.1 ≠ e := fun ey => nd.1 (by rw [ey]; exact List.mem_map.mpr ⟨_, z, rfl⟩)
      rw [if_neg hne]
      have := ih nd.2 z
      by_cases h1 : (y.2 == j) = true
      · rw [if_pos h1, if_pos h1, List.length_cons, List.length_cons]; omega
      · rw [if_neg h1, if_neg h1]; exact this
theorem used_app (g : Vberan.Given) (d k j : Nat) : Vberan.usedOf (g ++ [(d, k)]) j = Vberan.usedOf g j + (if k = j then 1 else 0) := by
  unfold Vberan.usedOf
  rw [List.filter_append, List.length_append, List.filter_cons]
  by_cases h1 : k = j <;> simp [h1]
theorem used_shift {h : Vberan.House} {l : List Vberan.Reach} {d : Nat} {m : Nat} : ∀ {g : Vberan.Given} {k : Nat}, ShiftInv h l d g m k → ∀ j, Vberan.usedOf (shiftAll l d k g) j = Vberan.usedOf g j + (if k = j then 1 else 0) := by
  induction m using Nat.strongRecOn with
  | ind m ih =>
    intro g k q j
    obtain ⟨x, hx, ex, ⟨_, e⟩ | ⟨_, i, k2, j1, j2, q2, e⟩⟩ := shiftAll_turn q
    · rw [e, used_app]
    · rw [e, ih i j1 q2 j]
      exact used_give q.keys j2 j
end DH
namespace DH
/-! ### givings, told deed by deed -/
theorem sorted_by {α : Type} (f : α → Nat) : ∀ {a b : List α}, a.Pairwise (fun x y => f x < f y) → b.Pairwise (fun x y => f x < f y) → (∀ x, x ∈ a ↔ x ∈ b) → a = b
  | [], [], _, _, _ => rfl
  | [], y :: b, _, _, h => absurd ((h y).mpr List.mem_cons_self) (by simp)
  | x :: a, [], _, _, h => absurd ((h x).mp List.mem_cons_self) (by simp)
  | x :: a, y :: b, ha, hb, h => by
    rw [List.pairwise_cons] at ha hb
    have e : x = y := by
      rcases List.mem_cons.mp ((h x).mp List.mem_cons_self) with e | e
      · exact e
      · rcases List.mem_cons.mp ((h y).mpr List.mem_cons_self) with e2 | e2
        · exact e2.symm
        · have h1 := hb.1 x e
          have h2 := ha.1 y e2
          omega
    subst e
    refine congrArg (x :: ·) (sorted_by f ha.2 hb.2 fun z => ⟨fun hz => ?_, fun hz => ?_⟩)
    · rcases List.mem_cons.mp ((h z).mp (List.mem_cons_of_mem _ hz)) with e | e
      · have := ha.1 z hz
        rw [e] at this
        omega
      · exact e
    · rcases List.mem_cons.mp ((h z).mpr (List.mem_cons_of_mem _ hz)) with e | e
      · have := hb.1 z hz
        rw [e] at this
        omega
      · exact e
def kindOf (g : Vberan.Given) (e : Nat) : Int := match g.find? fun y => y.1 == e with
  | some y => (y.2 : Int)
  | none => -1
def servL (n : Nat) (g : Vberan.Given) : List Int := (List.range n).map (kindOf g)
section
variable {h : Vberan.House} {g : Vberan.Given} {d e k n : Nat}
theorem kindOf_of (nd : (g.map (·.1)).Nodup) (hm : (e, k) ∈ g) : kindOf g e = (k : Int) := by
  unfold kindOf
  rw [find_key nd hm]
theorem kindOf_none (hn : ∀ y ∈ g, y.1 ≠ e) : kindOf g e = -1 := by
  unfold kindOf
  rw [List.find?_eq_none.mpr fun y hy hb => hn y hy (eq_of_beq hb)]
theorem kindOf_iff (nd : (g.map (·.1)).Nodup) : kindOf g e = (k : Int) ↔ (e, k) ∈ g := by
  refine ⟨fun hk => ?_, kindOf_of nd⟩
  unfold kindOf at hk
  cases q : g.find? fun y => y.1 == e with
  | none => rw [q] at hk; exact absurd hk (by show ¬ (-1 : Int) = _; omega)
  | some y =>
    rw [q] at hk
    have e1 : y.1 = e := eq_of_beq (List.find?_some (p := fun y : Nat × Nat => y.1 == e) q)
    have e2 : y.2 = k := Int.ofNat.inj hk
    rw [← e1, ← e2]
    exact List.mem_of_find?_eq_some q
theorem kindOf_neg : kindOf g e = -1 ↔ ∀ y ∈ g, y.1 ≠ e := by
  refine ⟨fun hk y hy ey => ?_, kindOf_none⟩
  unfold kindOf at hk
  cases q : g.find? fun y => y.1 == e with
  | none => exact absurd (show (y.1 == e) = true by rw [ey]; exact beq_self_eq_true e) (List.find?_eq_none.mp q y hy)
  | some y => rw [q] at hk; exact absurd hk (by show ¬ (y.2 : Int) = -1; omega)
theorem servL_len : (servL n g).length = n := by
  unfold servL
  rw [List.length_map, List.length_range]
theorem servL_get (he : e < n) : (servL n g)[e]? = some (kindOf g e) := by
  unfold servL
  rw [List.getElem?_map, List.getElem?_range he]
  rfl
theorem movers_is (q : GInv h d g) (hd : d ≤ n) (k : Nat) : movers g k = (List.range n).filter fun e => decide (kindOf g e = (k : Int)) := by
  refine sorted_ext ?_ ((range_sorted n).filter _) fun x => ?_
  · unfold movers
    exact List.Pairwise.sublist (List.filter_sublist.map _) q.up
  · rw [mem_movers, List.mem_filter, List.mem_range, decide_eq_true_eq, kindOf_iff q.nd]
    exact ⟨fun hm => ⟨Nat.lt_of_lt_of_le (q.lt _ hm) hd, hm⟩, fun hm => hm.2⟩
theorem count_movers : Vberan.usedOf g k = (movers g k).length := by
  unfold Vberan.usedOf movers
  rw [List.length_map]
theorem used_count (q : GInv h d g) (hd : d ≤ n) (k : Nat) : Vberan.usedOf g k = (servL n g).count (k : Int) := by
  rw [count_movers, movers_is q hd k]
  unfold servL
  rw [List.count_eq_countP, List.countP_map, List.countP_eq_length_filter]
  refine congrArg List.length (List.filter_congr fun x _ => ?_)
  show decide (kindOf g x = (k : Int)) = (kindOf g x == (k : Int))
  by_cases c : kindOf g x = (k : Int)
  · rw [decide_eq_true c, c, beq_self_eq_true]
  · rw [decide_eq_false c, beq_eq_false_iff_ne.mpr c]
theorem mem_give {x : Nat × Nat} (hx : x ∈ give g e k) : x = (e, k) ∧ (∃ k2, (e, k2) ∈ g) ∨ x ∈ g ∧ x.1 ≠ e := by
  unfold give at hx
  obtain ⟨z, hz, ez⟩ := List.mem_map.mp hx
  by_cases c : z.1 = e
  · rw [if_pos c] at ez
    refine .inl ⟨?_, z.2, ?_⟩
    · rw [← ez, c]
    · rw [← c]; exact hz
  · rw [if_neg c] at ez
    rw [← ez]
    exact .inr ⟨hz, c⟩
theorem give_mem {k2 : Nat} (hm : (e, k2) ∈ g) : (e, k) ∈ give g e k := List.mem_map.mpr ⟨(e, k2), hm, if_pos rfl⟩
theorem give_other {x : Nat × Nat} (hm : x ∈ g) (hn : x.1 ≠ e) : x ∈ give g e k := List.mem_map.mpr ⟨x, hm, if_neg hn⟩
theorem servL_give {k2 : Nat} (nd : (g.map (·.1)).Nodup) (hm : (e, k2) ∈ g) : servL n (give g e k) = (servL n g).set e (k : Int) := by
  have nd2 : ((give g e k).map (·.1)).Nodup := by rw [give_keys]; exact nd
  refine List.ext_getElem? fun j => ?_
  by_cases hj : j < n
  · rw [servL_get hj]
    by_cases c : e = j
    · subst c
      rw [List.getElem?_set_self (by rw [servL_len]; exact hj), kindOf_of nd2 (give_mem hm)]
    · rw [List.getElem?_set_ne c, servL_get hj]
      congr 1
      cases q : g.find? fun y => y.1 == j with
      | some y =>
        have e1 : y.1 = j := eq_of_beq (List.find?_some (p := fun y : Nat × Nat => y.1 == j) q)
        have hy : (j, y.2) ∈ g := by rw [← e1]; exact List.mem_of_find?_eq_some q
        rw [kindOf_of nd hy, kindOf_of nd2 (give_other hy (fun z => c z.symm))]
      | none =>
        have hn : ∀ y ∈ g, y.1 ≠ j := fun y hy ey => List.find?_eq_none.mp q y hy (by rw [ey]; exact beq_self_eq_true j)
        rw [kindOf_none hn, kindOf_none fun y hy => ?_]
        rcases mem_give hy with ⟨e1, _⟩ | ⟨e1, _⟩
        · rw [e1]; exact c
        · exact hn y e1
  · rw [List.getElem?_eq_none (by rw [servL_len]; omega), List.getElem?_eq_none (by rw [List.length_set, servL_len]; omega)]
theorem servL_app (nd : (g.map (·.1)).Nodup) (hn : ∀ y ∈ g, y.1 ≠ d) : servL n (g ++ [(d, k)]) = (servL n g).set d (k : Int) := by
  have nd2 : ((g ++ [(d, k)]).map (·.1)).Nodup := by
    rw [List.map_append, List.nodup_append]
    refine ⟨nd, by simp, fun a ha b hb => ?_⟩
    obtain ⟨y, hy, rfl⟩ := List.mem_map.mp ha
    have : b = d := by simpa using hb
    rw [this]
    exact hn y hy
  refine List.ext_getElem? fun j => ?_
  by_cases hj : j < n
  · rw [servL_get hj]
    by_cases c : d = j
    · subst c
      rw [List.getElem?_set_self (by rw [servL_len]; exact hj), kindOf_of nd2 (List.mem_append_right _ (List.mem_singleton.mpr rfl))]
    · rw [List.getElem?_set_ne c, servL_get hj]
      congr 1
      cases q : g.find? fun y => y.1 == j with
      | some y =>
        have e1 : y.1 = j := eq_of_beq (List.find?_some (p := fun y : Nat × Nat => y.1 == j) q)
        have hy : (j, y.2) ∈ g := by rw [← e1]; exact List.mem_of_find?_eq_some q
        rw [kindOf_of nd hy, kindOf_of nd2 (List.mem_append_left _ hy)]
      | none =>
        have hn : ∀ y ∈ g, y.1 ≠ j := fun y hy ey => List.find?_eq_none.mp q y hy (by rw [ey]; exact beq_self_eq_true j)
        rw [kindOf_none hn, kindOf_none fun y hy => ?_]
        rcases List.mem_append.mp hy with e1 | e1
        · exact hn y e1
        · rw [List.mem_singleton.mp e1]; exact c
  · rw [List.getElem?_eq_none (by rw [servL_len]; omega), List.getElem?_eq_none (by rw [List.length_set, servL_len]; omega)]
theorem serv_pairs (q : GInv h d g) (hd : d ≤ n) : (((List.range n).zip (servL n g)).filter fun x => decide (x.2 ≠ -1)) = g.map fun x => (x.1, (x.2 : Int)) := by
  have ez : (List.range n).zip (servL n g) = (List.range n).map fun e => (e, kindOf g e) := by
    unfold servL
    exact (List.map_prod_left_eq_zip (l := List.range n)).symm
  refine sorted_by (fun x : Nat × Int => x.1) (List.Pairwise.filter _ ?_) ?_ fun x => ?_
  · rw [ez, List.pairwise_map]
    exact range_sorted n
  · rw [List.pairwise_map]
    exact List.pairwise_map.mp q.up
  · rw [List.mem_filter, ez, List.mem_map, List.mem_map]
    constructor
    · rintro ⟨⟨e, he, rfl⟩, hx⟩
      have hx : kindOf g e ≠ -1 := of_decide_eq_true hx
      unfold kindOf at hx ⊢
      cases q2 : g.find? fun y => y.1 == e with
      | none => rw [q2] at hx; exact absurd rfl hx
      | some y =>
        have e1 : y.1 = e := eq_of_beq (List.find?_some (p := fun y : Nat × Nat => y.1 == e) q2)
        exact ⟨y, List.mem_of_find?_eq_some q2, by rw [e1]⟩
    · rintro ⟨y, hy, rfl⟩
      have hk := kindOf_of (e := y.1) (k := y.2) q.nd hy
      refine ⟨⟨y.1, List.mem_range.mpr (Nat.lt_of_lt_of_le (q.lt y hy) hd), by rw [hk]⟩, decide_eq_true ?_⟩
      show ¬ (y.2 : Int) = -1
      omega
theorem total_is (h : Vberan.House) (k : Nat) : Vberan.total h k = countL h [k] (List.range h.deeds.length) := by
  unfold Vberan.total countL Vberan.numbers
  simp
theorem countL_total (h : Vberan.House) (s : List Nat) : countL h s (List.range h.deeds.length) = (s.map (Vberan.total h)).sum := by
  unfold countL
  rw [show s.map (Vberan.total h) = s.map (fun k => h.first.getD k 0 + ((List.range h.deeds.length).map fun d => Vberan.givesOf h d k).sum) from rfl, sum_add]
  exact congrArg _ (sum_swap s (List.range h.deeds.length))
theorem bound_is (h : Vberan.House) (s : List Nat) : (h.deeds.filter fun e => e.uses.any fun k => !s.contains k).length + countL h s (List.range h.deeds.length) = Vberan.bound h s := by
  unfold Vberan.bound
  rw [countL_total]
  congr 1
  unfold Vberan.users Vberan.numbers
  rw [List.filter_filter]
  have e1 : h.deeds = (List.range h.deeds.length).map (Vberan.deedAt h) := by
    refine List.ext_getElem? fun j => ?_
    by_cases hj : j < h.deeds.length
    · rw [List.getElem?_map, List.getElem?_range hj]
      show _ = some (Vberan.deedAt h j)
      unfold Vberan.deedAt
      rw [List.getD_eq_getElem?_getD, List.getElem?_eq_getElem hj]
      rfl
    · rw [List.getElem?_eq_none (by omega), List.getElem?_eq_none (by rw [List.length_map, List.length_range]; omega)]
  have e2 : (h.deeds.filter fun e => e.uses.any fun k => !s.contains k).length = (((List.range h.deeds.length).map (Vberan.deedAt h)).filter fun e => e.uses.any fun k => !s.contains k).length := by rw [← e1]
  rw [e2, List.filter_map, List.length_map]
  refine congrArg List.length (List.filter_congr fun x _ => ?_)
  show ((Vberan.deedAt h x).uses.any fun k => !s.contains k) = (!((Vberan.deedAt h x).uses.all s.contains) && !(Vberan.deedAt h x).uses.isEmpty)
  cases (Vberan.deedAt h x).uses with
  | nil => rfl
  | cons a b =>
    have : (a :: b).isEmpty = false := rfl
    rw [this, Bool.not_false, Bool.and_true, List.any_eq_not_all_not]
    congr 2
    funext k
    rw [Bool.not_not]
theorem find_first {α : Type} {p : α → Bool} {x : α} : ∀ {l : List α} {i : Nat}, l[i]? = some x → p x = true → (∀ z ∈ l.take i, p z = false) → l.find? p = some x
  | [], i, hx, _, _ => by simp at hx
  | a :: l, 0, hx, hp, _ => by
    have e : a = x := by simpa using hx
    rw [List.find?_cons, e, hp]
  | a :: l, i + 1, hx, hp, hl => by
    rw [List.find?_cons, hl a (by simp)]
    exact find_first (l := l) (i := i) (by simpa using hx) hp fun z hz => hl z (by rw [List.take_succ_cons]; exact List.mem_cons_of_mem _ hz)
theorem find_nope {α : Type} {p : α → Bool} {l : List α} (hl : ∀ z ∈ l, p z = false) : l.find? p = none := List.find?_eq_none.mpr fun z hz hb => by rw [hl z hz] at hb; cases hb
/-- the told set -/
theorem poor_ext (w : WfH h) {m : List Nat} (hs : m.Pairwise (· < ·)) (hm : ∀ k, k ∈ m ↔ ∃ d, d < h.deeds.length ∧ kindOf (servedTo h h.deeds.length) d = -1 ∧ ∃ x ∈ Vberan.reachOf h (servedTo h h.deeds.length) d, x.kind = k) : m = Vberan.poor h := by
  obtain ⟨p1, p2⟩ := poor_is h
  refine sorted_ext hs p1 fun k => (hm k).trans (Iff.trans ?_ (p2 k).symm)
  rw [served_is w]
  constructor
  · rintro ⟨d, hd, hk, x, hx, e⟩
    refine ⟨d, List.mem_filter.mpr ⟨List.mem_range.mpr hd, ?_⟩, kindOf_neg.mp hk, x, hx, e⟩
    cases q : (Vberan.deedAt h d).uses with
    | cons a b => rfl
    | nil =>
      exfalso
      have : Vberan.reachOf h (servedTo h h.deeds.length) d = rstage h (servedTo h h.deeds.length) d 0 := reachOf_of w (by unfold rstage; rw [q]; exact Nat.le_refl _)
      rw [this] at hx
      unfold rstage at hx
      rw [q] at hx
      cases hx
  · rintro ⟨d, hd, hn, x, hx, e⟩
    exact ⟨d, List.mem_range.mp (List.mem_filter.mp hd).1, kindOf_neg.mpr hn, x, hx, e⟩
end
end DH
namespace DH
/-! ### a house without a deed, or with all its deeds -/
def hOut (h : Vberan.House) (lo : Int) : Vberan.House := if 0 ≤ lo then Vberan.without h lo.toNat else h
section
variable {h : Vberan.House} {lo : Int}
theorem hOut_kinds : (hOut h lo).kinds = h.kinds := by
  unfold hOut
  split <;> rfl
theorem hOut_num : Vberan.kindNum (hOut h lo) = Vberan.kindNum h := by
  funext k
  unfold Vberan.kindNum
  rw [hOut_kinds]
theorem hOut_done (q : Vberan.Play) (e k : Nat) : Vberan.doneWith (hOut h lo) q e k = Vberan.doneWith h q e k := by
  unfold hOut
  split
  · exact without_done q e k
  · rfl
theorem hOut_wf (w : WfH h) : WfH (hOut h lo) := by
  unfold hOut
  split
  · exact without_wf w
  · exact w
theorem hOut_wfp {q : Vberan.Play} (w : WfP h q) : WfP (hOut h lo) q := by
  unfold hOut
  split
  · exact without_wfp w
  · exact w
theorem hOut_steps (q : Vberan.Play) : Vberan.steps (hOut h lo) q = (Vberan.steps h q).filter fun x => decide ((x.1 : Int) ≠ lo) := by
  unfold hOut
  split
  · rename_i h0
    rw [without_steps]
    refine List.filter_congr fun x _ => ?_
    by_cases c : x.1 = lo.toNat
    · have : (x.1 : Int) = lo := by omega
      rw [decide_eq_false (fun z => z this), c]
      simp
    · have : (x.1 : Int) ≠ lo := by omega
      rw [decide_eq_true this]
      exact bne_iff_ne.mpr c
  · rename_i h0
    refine (List.filter_eq_self.mpr fun x _ => decide_eq_true ?_).symm
    omega
theorem hOut_add (s : Vberan.Seen) (i : Nat) : addSeen (hOut h lo) s i = addSeen h s i := by
  funext a x
  unfold addSeen
  rw [hOut_done]
end
/-! ### where steps lead -/
def LinksOn (h : Vberan.House) (l : List Vberan.Seen) (s : Vberan.Seen) (xs : List (Nat × Nat)) (ks : List Nat) : Prop :=
  (∀ k ∈ ks, ∃ x ∈ xs, ∃ y, l[k]? = some y ∧ y.play = Vberan.doneWith h s.play x.1 x.2) ∧ ∀ x ∈ xs, ∃ k ∈ ks, ∃ y, l[k]? = some y ∧ y.play = Vberan.doneWith h s.play x.1 x.2
section
variable {h : Vberan.House} {p : Vberan.Play} {l : List Vberan.Seen} {s y : Vberan.Seen} {xs : List (Nat × Nat)} {ks : List Nat}
theorem LinksOn.nil : LinksOn h l s [] [] := ⟨fun _ h => (nomatch h), fun _ h => (nomatch h)⟩
theorem LinksOn.grow (q : LinksOn h l s xs ks) (m : List Vberan.Seen) : LinksOn h (l ++ m) s xs ks :=
  ⟨fun k hk => (q.1 k hk).imp fun _ ⟨hx, y, e1, e2⟩ => ⟨hx, y, get_app_left e1, e2⟩, fun x hx => (q.2 x hx).imp fun _ ⟨hk, y, e1, e2⟩ => ⟨hk, y, get_app_left e1, e2⟩⟩
theorem LinksOn.snoc {k : Nat} {x : Nat × Nat} (q : LinksOn h l s xs ks) (hk : l[k]? = some y) (e : y.play = Vberan.doneWith h s.play x.1 x.2) : LinksOn h l s (xs ++ [x]) (ks ++ [k]) := by
  refine ⟨fun j hj => ?_, fun z hz => ?_⟩
  · rcases List.mem_append.mp hj with hj | hj
    · obtain ⟨z, hz, r⟩ := q.1 j hj
      exact ⟨z, List.mem_append_left _ hz, r⟩
    · rw [List.mem_singleton.mp hj]
      exact ⟨x, List.mem_append_right _ (List.mem_singleton.mpr rfl), y, hk, e⟩
  · rcases List.mem_append.mp hz with hz | hz
    · obtain ⟨j, hj, r⟩ := q.2 z hz
      exact ⟨j, List.mem_append_left _ hj, r⟩
    · rw [List.mem_singleton.mp hz]
      exact ⟨k, List.mem_append_right _ (List.mem_singleton.mpr rfl), y, hk, e⟩
/-- an entry of the row, as the program keeps it -/
structure En where
  play : Vberan.Play
  origin : Nat
  taken : Option (Nat × Int)
  onward : List Nat
structure FitsE (h : Vberan.House) (l : List Vberan.Seen) (es : List En) : Prop where
  len : es.length = l.length
  at_ : ∀ (j : Nat) (s : Vberan.Seen) (e : En), l[j]? = some s → es[j]? = some e → e.play = s.play ∧ e.origin = s.from_ ∧ (0 < j → e.taken = some (s.step.1, Vberan.kindNum h s.step.2)) ∧ LinksOn h l s (Vberan.steps h s.play) e.onward
theorem FitsE.get {es : List En} (q : FitsE h l es) {j : Nat} {e : En} (hj : es[j]? = some e) : ∃ s, l[j]? = some s ∧ e.play = s.play ∧ e.origin = s.from_ ∧ (0 < j → e.taken = some (s.step.1, Vberan.kindNum h s.step.2)) ∧ LinksOn h l s (Vberan.steps h s.play) e.onward := by
  have hlt : j < l.length := by
    rw [← q.len]
    exact (List.getElem?_eq_some_iff.mp hj).1
  exact ⟨l[j], List.getElem?_eq_getElem hlt, q.at_ j _ e (List.getElem?_eq_getElem hlt) hj⟩
theorem FitsE.of {es : List En} (q : FitsE h l es) {j : Nat} {s : Vberan.Seen} (hj : l[j]? = some s) : ∃ e, es[j]? = some e ∧ e.play = s.play ∧ e.origin = s.from_ ∧ (0 < j → e.taken = some (s.step.1, Vberan.kindNum h s.step.2)) ∧ LinksOn h l s (Vberan.steps h s.play) e.onward := by
  have hlt : j < es.length := by
    rw [q.len]
    exact (List.getElem?_eq_some_iff.mp hj).1
  exact ⟨es[j], List.getElem?_eq_getElem hlt, q.at_ j s _ hj (List.getElem?_eq_getElem hlt)⟩
/-! ### the dead ones -/
def endL (l : List Vberan.Seen) (j : Nat) : Bool := match l[j]? with
  | some s => Vberan.ended s.play
  | none => false
def goodAt (h : Vberan.House) (l : List Vberan.Seen) (j : Nat) : Bool := (Vberan.good h l).getD j false
def deadL (h : Vberan.House) (l : List Vberan.Seen) : List Nat := (List.range l.length).filter fun i => !goodAt h l i
def endsL (l : List Vberan.Seen) : List Nat := (List.range l.length).filter (endL l)
def liveL (h : Vberan.House) (l : List Vberan.Seen) (t : Nat) : List Bool := (List.range l.length).map fun j => if l.length ≤ j + t then goodAt h l j else endL l j
theorem good_turn (wp : WfP h p) (e : Vberan.states h p = some l) {i : Nat} (hi : l[i]? = some s) (ln : LinksOn h l s (Vberan.steps h s.play) ks) :
    goodAt h l i = (Vberan.ended s.play || ks.any (goodAt h l)) ∧ ∀ k ∈ ks, i < k ∧ k < l.length := by
  have q := states_row wp e
  obtain ⟨j, ej, _, _⟩ := states_stage e
  refine ⟨?_, fun k hk => ?_⟩
  · rw [Bool.eq_iff_iff, Bool.or_eq_true, List.any_eq_true]
    refine (good_iff q hi).trans ((CE_turn q hi).trans (or_congr Iff.rfl ?_))
    constructor
    · rintro ⟨x, m, y, hx, hm, ey, c⟩
      obtain ⟨k, hk, y2, hy2, e2⟩ := ln.2 x hx
      have : k = m := (find_play q.ne hy2 e2).symm.trans (find_play q.ne hm ey)
      exact ⟨k, hk, (good_iff q hy2).mpr (by rw [this]; exact c)⟩
    · rintro ⟨k, hk, c⟩
      obtain ⟨x, hx, y, hy, ey⟩ := ln.1 k hk
      exact ⟨x, k, y, hx, hy, ey, (good_iff q hy).mp c⟩
  · obtain ⟨x, hx, y, hy, ey⟩ := ln.1 k hk
    refine ⟨?_, (List.getElem?_eq_some_iff.mp hy).1⟩
    rw [ej] at hi hy
    exact step_on wp hi hx hy ey
theorem live_len (t : Nat) : (liveL h l t).length = l.length := by
  unfold liveL
  rw [List.length_map, List.length_range]
theorem live_get {t j : Nat} (hj : j < l.length) : (liveL h l t)[j]? = some (if l.length ≤ j + t then goodAt h l j else endL l j) := by
  unfold liveL
  rw [List.getElem?_map, List.getElem?_range hj]
  rfl
theorem live_zero : liveL h l 0 = l.map fun s => Vberan.ended s.play := by
  refine List.ext_getElem? fun j => ?_
  by_cases hj : j < l.length
  · rw [live_get hj, if_neg (by omega), List.getElem?_map, List.getElem?_eq_getElem hj]
    unfold endL
    rw [List.getElem?_eq_getElem hj]
    rfl
  · rw [List.getElem?_eq_none (by rw [live_len]; omega), List.getElem?_eq_none (by rw [List.length_map]; omega)]
theorem live_set {t : Nat} (ht : t < l.length) : (liveL h l t).set (l.length - 1 - t) (goodAt h l (l.length - 1 - t)) = liveL h l (t + 1) := by
  refine List.ext_getElem? fun j => ?_
  by_cases hj : j < l.length
  · rw [live_get hj]
    by_cases c : l.length - 1 - t = j
    · subst c
      rw [List.getElem?_set_self (by rw [live_len]; exact hj), if_pos (by omega)]
    · rw [List.getElem?_set_ne c, live_get hj]
      by_cases c2 : l.length ≤ j + t
      · rw [if_pos c2, if_pos (by omega)]
      · rw [if_neg c2, if_neg (by omega)]
  · rw [List.getElem?_eq_none (by rw [List.length_set, live_len]; omega), List.getElem?_eq_none (by rw [live_len]; omega)]
theorem live_same {t : Nat} (ht : t < l.length) (e : goodAt h l (l.length - 1 - t) = endL l (l.length - 1 - t)) : liveL h l t = liveL h l (t + 1) := by
  refine List.ext_getElem? fun j => ?_
  by_cases hj : j < l.length
  · rw [live_get hj, live_get hj]
    by_cases c : l.length - 1 - t = j
    · subst c
      rw [if_neg (by omega), if_pos (by omega), e]
    · by_cases c2 : l.length ≤ j + t
      · rw [if_pos c2, if_pos (by omega)]
      · rw [if_neg c2, if_neg (by omega)]
  · rw [List.getElem?_eq_none (by rw [live_len]; omega), List.getElem?_eq_none (by rw [live_len]; omega)]
theorem live_end : liveL h l l.length = (List.range l.length).map (goodAt h l) := by
  unfold liveL
  refine List.map_congr_left fun j _ => ?_
  rw [if_pos (Nat.le_add_left _ _)]
/-! ### what's told of a row -/
theorem good_list (h : Vberan.House) (l : List Vberan.Seen) : Vberan.good h l = (List.range l.length).map (goodAt h l) := by
  refine List.ext_getElem? fun j => ?_
  by_cases hj : j < l.length
  · rw [List.getElem?_map, List.getElem?_range hj]
    show _ = some ((Vberan.good h l).getD j false)
    rw [List.getD_eq_getElem?_getD, List.getElem?_eq_getElem (by rw [good_len]; exact hj)]
    rfl
  · rw [List.getElem?_eq_none (by rw [good_len]; omega), List.getElem?_eq_none (by rw [List.length_map, List.length_range]; omega)]
theorem dead_count (h : Vberan.House) (l : List Vberan.Seen) : ((Vberan.good h l).filter fun b => !b).length = (deadL h l).length := by
  unfold deadL
  rw [good_list, List.filter_map, List.length_map]
  rfl
theorem dead_first (q : RowInv h p l.length l) : (if ((deadL h l).contains 0) = true then (1 : Int) else 0) = if ((Vberan.good h l).headD false) = true then 0 else 1 := by
  have hl : 0 < l.length := by
    obtain ⟨t, e⟩ := q.head
    rw [e]
    exact Nat.succ_pos _
  have e1 : (Vberan.good h l).headD false = goodAt h l 0 := by
    unfold goodAt
    cases Vberan.good h l <;> rfl
  have e2 : (deadL h l).contains 0 = !goodAt h l 0 := by
    unfold deadL
    rw [Bool.eq_iff_iff, List.contains_iff_mem, List.mem_filter, List.mem_range]
    exact ⟨fun h => h.2, fun h => ⟨hl, h⟩⟩
  rw [e1, e2]
  cases goodAt h l 0 <;> rfl
theorem firstWay_head (b : List Bool) (f : Nat → Bool) (hf : ∀ j, j < l.length → b[j]? = some (f j)) (hb : b.length = l.length) : Vberan.firstWay l b = (((List.range l.length).filter f).head?).map (way l) := by
  rw [List.head?_filter]
  cases q : (List.range l.length).find? f with
  | none =>
    refine firstWay_none fun x hx => ?_
    obtain ⟨j, hj⟩ := List.getElem?_of_mem hx
    have hlt : j < l.length := by
      rw [← hb]
      exact (List.getElem?_eq_some_iff.mp hj).1
    have := List.find?_eq_none.mp q j (List.mem_range.mpr hlt)
    rw [hf j hlt] at hj
    rw [← Option.some.inj hj]
    exact Bool.eq_false_iff.mpr this
  | some i =>
    have hi := List.mem_range.mp (List.mem_of_find?_eq_some q)
    have hp : f i = true := List.find?_some q
    refine firstWay_some (by rw [hf i hi, hp]) fun j hj => ?_
    rw [hf j (by omega)]
    have := (List.find?_range_eq_some.mp q).2.2 j hj
    simpa using this
theorem way_ends : Vberan.firstWay l (l.map fun x => Vberan.ended x.play) = ((endsL l).head?).map (way l) :=
  firstWay_head _ (endL l) (fun j hj => by
    rw [List.getElem?_map, List.getElem?_eq_getElem hj]
    unfold endL
    rw [List.getElem?_eq_getElem hj]
    rfl) (List.length_map _)
theorem way_dead : Vberan.firstWay l ((Vberan.good h l).map fun b => !b) = ((deadL h l).head?).map (way l) :=
  firstWay_head _ (fun i => !goodAt h l i) (fun j hj => by
    rw [List.getElem?_map, good_list, List.getElem?_map, List.getElem?_range hj]
    rfl) (by rw [List.length_map, good_len])
theorem ends_none : (l.any fun x => Vberan.ended x.play) = !decide ((endsL l).length = 0) := by
  unfold endsL
  rw [Bool.eq_iff_iff, List.any_eq_true, Bool.not_eq_true', decide_eq_false_iff_not]
  constructor
  · rintro ⟨x, hx, e⟩ hz
    obtain ⟨j, hj⟩ := List.getElem?_of_mem hx
    have hm : j ∈ (List.range l.length).filter (endL l) := List.mem_filter.mpr ⟨List.mem_range.mpr (List.getElem?_eq_some_iff.mp hj).1, by unfold endL; rw [hj]; exact e⟩
    rw [List.eq_nil_of_length_eq_zero hz] at hm
    cases hm
  · intro hz
    cases q : (List.range l.length).filter (endL l) with
    | nil => rw [q] at hz; exact absurd rfl hz
    | cons a r =>
      have hm : a ∈ (List.range l.length).filter (endL l) := by rw [q]; exact List.mem_cons_self
      have h2 := (List.mem_filter.mp hm).2
      unfold endL at h2
      cases q2 : l[a]? with
      | none => rw [q2] at h2; cases h2
      | some s => rw [q2] at h2; exact ⟨s, List.mem_of_getElem? q2, h2⟩
theorem head_lt {f : Nat → Bool} {k : Nat} (e : ((List.range l.length).filter f).head? = some k) : k < l.length := by
  have hm := List.mem_of_head? e
  exact List.mem_range.mp (List.mem_filter.mp hm).1
theorem way_len (q : RowInv h p l.length l) : ∀ (k : Nat), k < l.length → (way l k).length ≤ k := by
  intro k
  induction k using Nat.strongRecOn with
  | ind k ih =>
    intro hk
    by_cases h0 : k = 0
    · subst h0
      rw [way_first q]
      exact Nat.le_refl _
    · have hy := List.getElem?_eq_getElem hk
      obtain ⟨u, u1, _⟩ := q.back k _ hy (by omega)
      rw [way_on q hy (by omega), List.length_append]
      have := ih _ u1 (by omega)
      show _ + 1 ≤ k
      omega
end
end DH
namespace DH
open PySem PySem.Spec PyProof.Rows L2
abbrev rLenS := Evl.rLenS
abbrev rListS := Evl.rListS
abbrev rTupS (K : PySem.W.Frag) : List V → Hp → VK → Prop := fun xs H Q => ∃ p ys, xs = [.ref p] ∧ ((SqL K H p ys ∧ ∀ l, H l = none → Q (.ref l) (upd H l (.tup ys))) ∨ (SqT K H p ys ∧ Q (.ref p) H))
abbrev Mg := Str → Option Value
def adr (mg : Mg) (x : Str) : Addr := match mg x with
  | some (.ref a) => a
  | _ => 0
def topS (i : Nat) : Stmt := PySem.Challenge.pw_deedhouse_s01_answers.main.body.getD i (.Pass ⟨0, 0, 0, 0⟩)
abbrev rAddI : R2 := rI0 fun i j => .int (i + j)
abbrev rSubI : R2 := rI0 fun i j => .int (i - j)
abbrev rMulI : R2 := rI CMul fun i j => .int (i * j)
abbrev rNeg : V → Hp → VK → Prop := rU fun i => .int (-i)
abbrev rLtI : R2 := rI0 fun i j => .bl (decide (i < j))
abbrev rLeI : R2 := rI0 fun i j => .bl (decide (i ≤ j))
abbrev rGtI : R2 := rI0 fun i j => .bl (decide (j < i))
abbrev rGeI : R2 := rI0 fun i j => .bl (decide (j ≤ i))
abbrev rIsN : R2 := fun x y H Q => y = .non ∧ Q (.bl (decide (x = .non))) H
abbrev rNotN : R2 := fun x y H Q => y = .non ∧ Q (.bl (!decide (x = .non))) H

/-! ### a dict of the text's top with numbers for keys -/
def KeysInt : List DictEntry → Prop
  | [] => True
  | e :: r => (∃ k t, e.key = .int k t ∧ e.hash = hashInt k) ∧ KeysInt r
theorem KeysInt.all : ∀ {l : List DictEntry}, KeysInt l → ∀ e ∈ l, ∃ k t, e.key = .int k t ∧ e.hash = hashInt k
  | _ :: _, ⟨h, _⟩, _, .head _ => h
  | _ :: _, ⟨_, r⟩, _, .tail _ m => r.all _ m
def KInt (K : PySem.W.Frag) (a : Addr) (k : Int) (v : V) : Prop :=
  ∃ es n u, K.lookup a = some ⟨.type "dict", none, .dict es n, #[]⟩ ∧ KeysInt es.toList ∧ findBy Value.isInt es k = some u ∧ RelV v u
def rIxKI (K : PySem.W.Frag) : R2 := fun x y H Q => ∃ p k v, x = .ref p ∧ y = .int k ∧ KInt K p k v ∧ Q v H
section
variable {X : Cx}
theorem ix_kint : IxR X (rIxKI X.K) := by
  intro value slice pins s σ H x y v u Q I rx ry h hs
  obtain ⟨p, k, r, rfl, rfl, ⟨es, n, u0, hl, hk, e, ru⟩, q⟩ := h
  obtain rfl : v = Value.ref p := rx
  obtain ⟨t, rfl⟩ := ry
  have hm : s.heap.MapOf (intKind X.prog X.w) p (fun k => findBy Value.isInt es k) :=
    ⟨_, es, n, I.kIn _ _ hl, ⟨rfl, rfl, rfl⟩, rfl, fun e he => by
      obtain ⟨k, t, e1, e2⟩ := hk.all e (Array.mem_toList_iff.mpr he)
      exact ⟨k, by rw [e1]; simp [intKind, Value.isInt], e2⟩, fun _ => rfl⟩
  exact tail_any hm.typeIs slot_dict_getitem.lookup (wpAny_getItem_of (knd := intKind X.prog X.w) (k := k) (by simp [intKind, Value.isInt]) hm e ⟨r, H, I.tok _, ru, q⟩) hs
theorem pe_mk0 {k j : Nat} {C : Addr} {x : Str} {sp : Sp} {p pos : Pos} (c : C8.Mak X.prog X.w X.K X.mg X.base k x C sp []) (hr : Room j X.A) (hk : k + 1 ≤ j) (hg : Gl X x)
    (hdb : (x == ("__debug__" : Str)) = false := by decide) :
    PE X (.Call (.Name x p) [] [] pos) (tMake C sp [] C8.E0 tNil) := by
  obtain ⟨f, fd, ps, ds, M, F, hm, b, d⟩ := c.ex
  exact pe_make0 M F (hr.mono hk) hg hm b d C8.pass0 hdb
/-- a local name that holds one of several defs, called: which one goes with which promise -/
def tCallS (i : Nat) (S : Addr → Sp → Prop) (t : TA) : TE := fun σ H Q => ∃ f sp, σ[i]? = some (some (.ref f)) ∧ S f sp ∧ t σ H fun vs H1 => sp vs H1 Q C8.E0
theorem pe_callS {k i : Nat} {x : Str} {p pos : Pos} {e : Expr} {es : List Expr} {t : TA} {S : Addr → Sp → Prop} (A : ∀ f sp, S f sp → Held X.prog X.w X.K X.mg X.base k f sp) (hr : Room k X.A) (hN : X.N[i]? = some x) (hv : Vis X.env.scope x) (ha : PA X (e :: es) t)
    (hdb : (x == ("__debug__" : Str)) = false := by decide) (hcd : (x == ("__classdict__" : Str)) = false := by decide)
    (he : starEach (e :: es) X.env = (false, eval e X.env) :: starEach es X.env := by rfl) (hpl : (backTo pos (starEach es X.env)).any (·.1) = false := by rfl) :
    PE X (.Call (.Name x p) (e :: es) [] pos) (tCallS i S t) :=
  ⟨fun pins s σ H Q I ⟨f, sp, hs, hS, ht⟩ => by
    obtain ⟨fd, ps, F, hk, hb⟩ := (A f sp hS).ex
    exact (pe_callL (i := i) (dvs := []) (E := C8.E0) F hr hN hv hk hb .nil C8.pass0 ha hdb hcd he hpl).run pins s σ H Q I ⟨hs, by simpa only [List.append_nil] using ht⟩⟩
theorem held_cal {P : Program} {w : World} {K : PySem.W.Frag} {mg : Mg} {base : Heap} {k j : Nat} {x : Str} {sp : Sp} (c : C8.Cal P w K mg base k x sp []) (h : k ≤ j) : Held P w K mg base j (adr mg x) sp := by
  obtain ⟨f, fd, ps, ds, F, hm, kp, b, d⟩ := c.ex
  have e : adr mg x = f := by
    unfold adr
    rw [hm]
  cases d
  rw [e]
  exact ⟨fd, ps, F.mono h, kp, b⟩
end
/-! ### a list takes what a tuple holds -/
section
variable {prog : Program} {w : World} {A : Around} {s : Shared} {Q : Value → Shared → Prop} {E : Value → Shared → Prop}
theorem ext_tup (l it : Addr) (res : Value) (c₀ : Nat) {o : Obj} {mine items : Array Value} {n : Nat} (hS : s.heap.get? l = some { cls := .type "list", data := .seq mine c₀ }) (ho : s.heap.get? it = some o) (hc : o.cls = .type "tuple") (hd : o.data = .seq items n)
    (hl : ¬ (!mine.isEmpty && Builtin.List.listTooLong (mine.size + items.size)) = true) (hR : Q res { s with heap := s.heap.update l (Obj.mapSeq (· ++ items)) }) (hsz : mine.size ≤ sizeLine) (hsz2 : mine.size + items.size ≤ sizeLine + 1) :
    wpAny (model prog w) A (Builtin.List.listExtendWith (.ref l) (.ref it) res) (fun fin s' => ∃ v, fin = .done (.ret v) ∧ Q v s') E s := by
  unfold Builtin.List.listExtendWith
  refine wpAny_bind (wpAny_typeOf ⟨o, ho, hc⟩ ?_)
  have h1 : (Builtin.List.listSameRef (.ref l) (.ref it) || Value.type "tuple" == Value.type "list" || Value.type "tuple" == Value.type "tuple") = true := by simp
  simp only [h1, if_true]
  refine wpAny_bind ?_
  unfold Builtin.List.listItems
  refine wpAny_bind (wpAny_seqItems ho hd (wpAny_pure ?_))
  refine wpAny_bind ?_
  refine wpAny_bind (wpAny_seqItems hS rfl (wpAny_pure ?_))
  rw [if_neg hl]
  show wpAny _ A (updateSeq l (· ++ items) >>= fun _ => ret res) _ _ s
  refine wpAny_bind (wpAny_updateSeq hS rfl (hz := hsz) (_hz' := by rw [Array.size_append]; exact hsz2) ?_)
  exact wpAny_pure ⟨res, rfl, hR⟩
end
def rExtT : V → List V → Hp → VK → Prop := fun x vs H Q => ∃ l b xs zs, x = .ref l ∧ vs = [.ref b] ∧ H l = some (.lst xs) ∧ H b = some (.tup zs) ∧ xs.length + zs.length ≤ sizeLine ∧ Q .non (upd H l (.lst (xs ++ zs)))
section
variable {X : Cx}
theorem mt_extT : MtR X "list.extend" rExtT := by
  intro pins s σ H x vs v us Q I rx rv h
  obtain ⟨l, b, xs, zs, rfl, rfl, hH, hB, hz, q⟩ := h
  cases rx
  obtain ⟨u, rfl, ru⟩ := rv.one
  cases ru
  obtain ⟨z, its, n, r, hl, e⟩ := I.lstM hH
  obtain ⟨_, its2, r2, o2, e2, c2, n2, d2⟩ := (show ObjOk X.prog X.w H s.heap b (.tup zs) from I.hok b _ hB)
  have l1 := r.length
  have l2 := r2.length
  have hsz : its.toArray.size + its2.toArray.size ≤ sizeLine := by rw [List.size_toArray, List.size_toArray]; omega
  have hlong : ¬ (!its.toArray.isEmpty && Builtin.List.listTooLong (its.toArray.size + its2.toArray.size)) = true := by
    rw [notLongL hsz, Bool.and_false]
    exact Bool.false_ne_true
  refine wpAny_call_entry F.slot_list_extend ⟨_, e, rfl⟩ F.entry_list_extend ?_ (F.args_list_extend_2 _ _)
  show wpAny _ _ (Builtin.List.listExtendWith (.ref l) (.ref b) .none) _ _ s
  refine ext_tup l b .none n e e2 c2 d2 hlong ?_ (by rw [List.size_toArray]; omega) (by omega)
  refine ⟨.non, _, I.lset (its' := its ++ its2) hH e (by simp) (r.append r2) ?_, rfl, q⟩
  rw [List.length_append]
  omega
/-! ### an error of a class without __init__, made of nothing -/
theorem pmk_own0 {x : Str} {p pos : Pos} {C : Addr} {bmB : List Value} {B newId initId : String} (F : ExcBaseFacts B newId initId bmB) (q : PySem.W.excIn X.K C bmB newId = true) (gC : X.mg x = some (.ref C)) (kC : PySem.W.keepIn X.K (.ref C) = true) (r : Raises X (.ref C)) (hg : Gl X x)
    (hdb : (x == ("__debug__" : Str)) = false := by decide) : PMk X (.Call (.Name x p) [] [] pos) (fun _ H Q => Q (.ref C) none H) := by
  intro pins s σ H Q I h
  refine wpAny_Call_Name_kw (ld_glob I hg gC ?_ hdb)
  refine PySem.W.callWith_K0 I.kIn kC ?_
  show wpAny _ _ (call (.ref C) []) _ _ _
  obtain ⟨bm, N, nm, qn, bs, hdct, sn, sub, ab, col, dd, k0, k1, k2, k3, k5, mN, hC, hN, hni, T⟩ := exc_obj I.kIn q
  refine wpAny_call_exc_subT F T hC hN hni (fun h' e hm => ?_) (by show 0 ≤ sizeLine; exact Nat.zero_le _)
  exact mk_of I hm r h (I.hok.gone hm.new)
/-! ### a dict just made is walked: nobody writes it from here on -/
def iKeysN (td : TE) : TI := fun σ H R => td σ H fun x H1 => ∃ d kvs, x = .ref d ∧ H1 d = some (.dK kvs) ∧ ∀ o, R (Itk d o kvs) (upd H1 d (.frz o (.dK kvs)))
theorem pi_keysN {tg e : Expr} {td : TE} (he : PE X e td) : PI X tg e (iKeysN td) := by
  refine ⟨fun pins s σ H R I h => ?_⟩
  refine thn (he.run pins s σ H _ I h) fun u s1 ⟨x, H1, I1, rx, d, kvs, ex, hd, q⟩ => ?_
  subst ex
  obtain rfl : u = Value.ref d := rx
  obtain ⟨o, I2⟩ := I1.lock hd trivial
  obtain ⟨hs, hgd, hx, es, ep, vs, hdt, hsz, kv, hm⟩ := I2.frzK upd_same
  refine iter_keys hs hgd hx hdt (pi_one (tk := s1.toks) I2 _ (turn_keys _ hdt) ⟨_, Heap.get?_push_size _ rfl, rfl, ?_⟩ (q o))
  rw [hsz] <;> rfl
end
/-! ### dicts by two tuples of numbers: what only this play has -/
abbrev NK := List Nat × List Nat
def nkey (k : NK) : NestedKey := .tup [.tup (k.1.map fun n : Nat => NestedKey.num (Int.ofNat n)), .tup (k.2.map fun n : Nat => NestedKey.num (Int.ofNat n))]
def nhash1 (l : List Nat) : Int := reduceHash (Builtin.Tuple.tupleHashOf (l.map fun n : Nat => hashInt (Int.ofNat n)))
def nhash (k : NK) : Int := reduceHash (Builtin.Tuple.tupleHashOf [nhash1 k.1, nhash1 k.2])
theorem hashes_num (w : World) : ∀ l : List Nat, NestedKey.hashes w (l.map fun n : Nat => NestedKey.num (Int.ofNat n)) = l.map fun n : Nat => hashInt (Int.ofNat n)
  | [] => by simp [NestedKey.hashes]
  | a :: l => by rw [List.map_cons, NestedKey.hashes, hashes_num w l, List.map_cons]; rfl
theorem hash_nkey (w : World) (k : NK) : (nkey k).hash w = nhash k := by
  unfold nkey nhash nhash1
  simp only [NestedKey.hash, NestedKey.hashes, hashes_num]
theorem nums_inj : ∀ {a b : List Nat}, a.map (fun n : Nat => NestedKey.num (Int.ofNat n)) = b.map (fun n : Nat => NestedKey.num (Int.ofNat n)) → a = b
  | [], [], _ => rfl
  | [], _ :: _, e => by simp at e
  | _ :: _, [], e => by simp at e
  | x :: xs, y :: ys, e => by
    rw [List.map_cons, List.map_cons] at e
    injection e with e1 e2
    injection e1 with e1
    rw [Int.ofNat.inj e1, nums_inj e2]
theorem nkey_inj {a b : NK} (e : nkey a = nkey b) : a = b := by
  unfold nkey at e
  injection e with e
  injection e with e1 e2
  injection e2 with e2 _
  injection e1 with e1
  injection e2 with e2
  exact Prod.ext (nums_inj e1) (nums_inj e2)
theorem depth_nums : ∀ l : List Nat, NestedKey.depthAll (l.map fun n : Nat => NestedKey.num (Int.ofNat n)) = 0
  | [] => by simp [NestedKey.depthAll]
  | a :: l => by rw [List.map_cons, NestedKey.depthAll, depth_nums l]; simp [NestedKey.depth]
theorem depth_nkey (k : NK) : (nkey k).depth ≤ 8 := by
  unfold nkey
  simp only [NestedKey.depth, NestedKey.depthAll, depth_nums]
  decide
/-- key, where its tuple lies, what's kept at it -/
abbrev NX := NK × Addr × Value
def nval (xs : List NX) : List (NestedKey × Addr × Value) := xs.map fun x => (nkey x.1, x.2.1, x.2.2)
/-- the dict's own object -/
def NDat (a : Addr) (xs : List NX) (h : Heap) : Prop := (a == sysModules) = false ∧ xs.length ≤ sizeLine ∧ ∃ (o : Obj) (es : Array DictEntry) (ep : Nat), h.get? a = some o ∧ o.ExactDict ∧ o.data = .dict es ep ∧
  es.toList = xs.map (fun x => ⟨nhash x.1, .ref x.2.1, x.2.2⟩) ∧ (xs.map (·.1)).Nodup
def ND (a : Addr) (xs : List NX) : HO := .ext (NDat a xs)
def KeyAt (H : Hp) (a : Addr) (k : NK) : Prop := ∃ b c, H a = some (.tup [.ref b, .ref c]) ∧ H b = some (.tup ((k.1.map Int.ofNat).map V.int)) ∧ H c = some (.tup ((k.2.map Int.ofNat).map V.int))
def KeysAt (H : Hp) (xs : List NX) : Prop := ∀ x ∈ xs, KeyAt H x.2.1 x.1
theorem KeyAt.up {H H' : Hp} {a : Addr} {k : NK} (e : ∀ b u, H b = some (.tup u) → H' b = some (.tup u)) (h : KeyAt H a k) : KeyAt H' a k := let ⟨b, c, h1, h2, h3⟩ := h; ⟨b, c, e _ _ h1, e _ _ h2, e _ _ h3⟩
theorem KeysAt.up {H H' : Hp} {l : List NX} (e : ∀ b u, H b = some (.tup u) → H' b = some (.tup u)) (h : KeysAt H l) : KeysAt H' l := fun x hx => (h x hx).up e
section
variable {P : Program} {w : World} {H : Hp} {h : Heap} {a : Addr} {l : List NX} {k : NK}
theorem nd_ok (x : NDat a l h) : ObjOk P w H h a (ND a l) := by
  refine ⟨x, ?_, fun h1 h2 y st => ?_⟩
  · obtain ⟨_, _, o, _, _, e, _⟩ := x
    exact ⟨o, e⟩
  · obtain ⟨y1, y2, o, es, ep, e, r⟩ := y
    exact ⟨y1, y2, o, es, ep, st _ e, r⟩
theorem nd_of (ok : HOk P w H h) (e : H a = some (ND a l)) : NDat a l h := (ok a _ e).1
theorem nums_is : ∀ {l : List Nat} {us : List Value}, Vals ((l.map Int.ofNat).map V.int) us → NestedAll h (l.map fun n : Nat => NestedKey.num (Int.ofNat n)) us
  | [], _, r => by rw [List.map_nil, List.map_nil] at r; cases r; exact .nil
  | n :: l, _, r => by
    rw [List.map_cons, List.map_cons] at r
    cases r with
    | cons r1 r2 =>
      obtain ⟨t, rfl⟩ := r1
      exact .cons (.int _ _) (nums_is r2)
theorem tup_at {b : Addr} {l : List Nat} (ok : HOk P w H h) (e : H b = some (.tup ((l.map Int.ofNat).map V.int))) : NestedIs h (.tup (l.map fun n : Nat => NestedKey.num (Int.ofNat n))) (.ref b) := by
  obtain ⟨_, its, r, o, h1, h2, n, h3⟩ := (show ObjOk P w H h b (.tup ((l.map Int.ofNat).map V.int)) from ok b _ e)
  exact .tup h1 h2 h3 (by simpa using nums_is r)
theorem nkey_at (ok : HOk P w H h) (e : KeyAt H a k) : (nestedKind P w).is h (nkey k) a := by
  obtain ⟨b, c, e1, e2, e3⟩ := e
  obtain ⟨_, its, r, o, h1, h2, n, h3⟩ := (show ObjOk P w H h a (.tup [.ref b, .ref c]) from ok a _ e1)
  refine ⟨.tup h1 h2 h3 ?_, depth_nkey k⟩
  cases r with
  | cons r1 r2 =>
    cases r2 with
    | cons r2 r3 =>
      cases r3
      cases r1
      cases r2
      exact .cons (tup_at ok e2) (.cons (tup_at ok e3) .nil)
theorem nval_keys (xs : List NX) : (nval xs).map (·.1) = (xs.map (·.1)).map nkey := by
  unfold nval
  rw [List.map_map, List.map_map]
  rfl
theorem nval_nodup : ∀ {l : List NK}, l.Nodup → (l.map nkey).Nodup := fun {l} h => List.Pairwise.map nkey (fun _ _ hne e => hne (nkey_inj e)) h
theorem nval_entry (P : Program) (w : World) (xs : List NX) : xs.map (fun x => (⟨nhash x.1, .ref x.2.1, x.2.2⟩ : DictEntry)) = (nval xs).map (entryOfKey (nestedKind P w)) := by
  unfold nval
  rw [List.map_map]
  refine List.map_congr_left fun x _ => ?_
  show _ = (⟨(nestedKind P w).hash (nkey x.1), .ref x.2.1, x.2.2⟩ : DictEntry)
  have e : (nestedKind P w).hash (nkey x.1) = nhash x.1 := hash_nkey w _
  rw [e]
theorem nd_dict (ok : HOk P w H h) (e : H a = some (ND a l)) (hk : KeysAt H l) : (a == sysModules) = false ∧ l.length ≤ sizeLine ∧ h.DictOfH (nestedKind P w) a (nval l) := by
  obtain ⟨h1, h2, o, es, ep, h4, h5, h6, h7, h8⟩ := nd_of ok e
  refine ⟨h1, h2, o, es, ep, h4, h5, h6, h7.trans (nval_entry P w l), fun x hx => ?_, ?_⟩
  · unfold nval at hx
    obtain ⟨y, hy, rfl⟩ := List.mem_map.mp hx
    exact nkey_at ok (hk _ hy)
  · rw [nval_keys]
    exact nval_nodup h8
theorem nd_back {xs : List NX} (h1 : (a == sysModules) = false) (h2 : xs.length ≤ sizeLine) (d : h.DictOfH (nestedKind P w) a (nval xs)) : NDat a xs h := by
  obtain ⟨o, es, ep, e1, e2, e3, e4, _, e5⟩ := d
  refine ⟨h1, h2, o, es, ep, e1, e2, e3, e4.trans (nval_entry P w xs).symm, ?_⟩
  rw [nval_keys] at e5
  exact List.Pairwise.of_map nkey (fun _ _ hne e => hne (congrArg nkey e)) e5
theorem at_nval (k : NK) : ∀ xs : List NX, atKey (nval xs) (nkey k) = atKey xs k
  | [] => rfl
  | x :: xs => by
    have ih := at_nval k xs
    by_cases e : x.1 = k
    · have e2 : nkey x.1 = nkey k := by rw [e]
      have a1 : atKey (nval (x :: xs)) (nkey k) = some x.2 := by simp [nval, atKey, e2]
      have a2 : atKey (x :: xs) k = some x.2 := by simp [atKey, e]
      rw [a1, a2]
    · have e2 : ¬ nkey x.1 = nkey k := fun z => e (nkey_inj z)
      have a1 : atKey (nval (x :: xs)) (nkey k) = atKey (nval xs) (nkey k) := by simp [nval, atKey, e2]
      have a2 : atKey (x :: xs) k = atKey xs k := by simp [atKey, e]
      rw [a1, a2, ih]
theorem at_none {xs : List NX} {k : NK} (h : ∀ x ∈ xs, x.1 ≠ k) : atKey xs k = none := by
  unfold atKey
  rw [List.find?_eq_none.mpr fun x hx => by simpa using h x hx]
  rfl
theorem at_some {xs : List NX} {k : NK} (h : ∃ x ∈ xs, x.1 = k) : (atKey xs k).isSome = true := by
  obtain ⟨x, hx, e⟩ := h
  unfold atKey
  rw [Option.isSome_map]
  exact List.find?_isSome.mpr ⟨x, hx, decide_eq_true e⟩
theorem at_mem {xs : List NX} {x : NX} (nd : (xs.map (·.1)).Nodup) (h : x ∈ xs) : atKey xs x.1 = some x.2 := by
  induction xs with
  | nil => cases h
  | cons y xs ih =>
    rw [List.map_cons, List.nodup_cons] at nd
    rcases List.mem_cons.mp h with e | e
    · subst e
      simp [atKey]
    · have hn : ¬ y.1 = x.1 := fun z => nd.1 (by rw [z]; exact List.mem_map_of_mem e)
      have a2 : atKey (y :: xs) x.1 = atKey xs x.1 := by simp [atKey, hn]
      rw [a2, ih nd.2 e]
end
/-- mark not in places -/
def tNDNotIn (ty td : TE) : TE := fun σ H Q => ty σ H fun y H1 => td σ H1 fun x H2 => ∃ a xs b k, x = .ref a ∧ H2 a = some (ND a xs) ∧ KeysAt H2 xs ∧ y = .ref b ∧ KeyAt H2 b k ∧ ((∃ z ∈ xs, z.1 = k) → Q (.bl false) H2) ∧ ((∀ z ∈ xs, z.1 ≠ k) → Q (.bl true) H2)
/-- places[mark] -/
def tNDGet (td ty : TE) : TE := fun σ H Q => td σ H fun x H1 => ty σ H1 fun y H2 => ∃ a xs b z v, x = .ref a ∧ H2 a = some (ND a xs) ∧ KeysAt H2 xs ∧ y = .ref b ∧ KeyAt H2 b z.1 ∧ z ∈ xs ∧ RelV v z.2.2 ∧ Q v H2
/-- places[mark] = e, where it isn't yet -/
def sNDPut (td ty tv : TE) : TS := fun D σ H => tv σ H fun v H1 => td σ H1 fun x H2 => ty σ H2 fun y H3 => ∃ a xs b k, x = .ref a ∧ H3 a = some (ND a xs) ∧ KeysAt H3 xs ∧ y = .ref b ∧ KeyAt H3 b k ∧ (∀ z ∈ xs, z.1 ≠ k) ∧ xs.length < sizeLine ∧
  ∀ u, RelV v u → D.nx σ (upd H3 a (ND a (xs ++ [(k, b, u)])))
/-- {mark: e} -/
def tND1 (tk tv : TE) : TE := fun σ H Q => ∀ p, H p = none → tk σ (upd H p (ND p [])) fun y H1 => tv σ H1 fun v H2 => ∃ b k, H2 p = some (ND p []) ∧ y = .ref b ∧ KeyAt H2 b k ∧ ∀ u, RelV v u → Q (.ref p) (upd H2 p (ND p [(k, b, u)]))
section
variable {X : Cx} {o i e value : Expr} {pos pos' : Pos} {td ty tv : TE}
theorem nd_type {pins : List (Addr × Obj)} {σ : L2.St} {H : Hp} {s : Shared} {a : Addr} {xs : List NX} (I : Inv X pins σ H s) (h : H a = some (ND a xs)) : s.TypeIs (.ref a) "dict" := by
  obtain ⟨_, _, o, _, _, e, ex, _⟩ := nd_of I.hok h
  exact ⟨o, e, ex.1⟩
theorem pc_ndnotin (hu : X.A.units + 200 < cLine) (hi : PE X i ty) (ho : PE X o td) : PC X .NotIn i o (tNDNotIn ty td) := by
  refine ⟨fun pins s σ H Q I h => ?_⟩
  refine thn (hi.run pins s σ H _ I h) fun iv s1 ⟨y, H1, I1, ry, q1⟩ => thn (ho.run pins s1 σ H1 _ I1 q1) fun u s2 ⟨x, H2, I2, rx, a, xs, b, k, ex, hx, hk, ey, hb, q2, q3⟩ => ?_
  subst ex ey
  obtain rfl : u = Value.ref a := rx
  obtain rfl : iv = Value.ref b := ry
  obtain ⟨hs, _, dd⟩ := nd_dict (P := X.prog) (w := X.w) I2.hok hx hk
  refine wpAny_notIn_heap (by show X.A.in1.units + 8 < cLine; show X.A.units + 1 + 8 < cLine; omega) (nkey_at I2.hok hb) hs dd ?_
  rw [at_nval]
  by_cases c : ∃ z ∈ xs, z.1 = k
  · rw [at_some c]
    exact ⟨.bl false, H2, I2.tok _, rfl, q2 c⟩
  · have c2 : ∀ z ∈ xs, z.1 ≠ k := fun z hz e => c ⟨z, hz, e⟩
    rw [at_none c2]
    exact ⟨.bl true, H2, I2.tok _, rfl, q3 c2⟩
theorem pe_ndget (hu : X.A.units + 200 < cLine) (ho : PE X o td) (hi : PE X i ty) (hs : NoSl i) : PE X (.Subscript o i pos) (tNDGet td ty) := by
  refine ⟨fun pins s σ H Q I h => ?_⟩
  refine subD_of PySem.F.slot_dict_getitem.lookup hs (thn (ho.run pins s σ H _ I h) fun u s1 ⟨x, H1, I1, rx, q1⟩ => thn (hi.run pins s1 σ H1 _ I1 q1) fun iv s2 ⟨y, H2, I2, ry, a, xs, b, z, v, ex, hx, hk, ey, hb, hz, rv, q2⟩ => ?_)
  subst ex ey
  obtain rfl : u = Value.ref a := rx
  obtain rfl : iv = Value.ref b := ry
  obtain ⟨_, _, dd⟩ := nd_dict (P := X.prog) (w := X.w) I2.hok hx hk
  have nd : (xs.map (·.1)).Nodup := by
    obtain ⟨_, _, _, _, _, _, _, _, _, n⟩ := nd_of I2.hok hx
    exact n
  refine ⟨nd_type I2 hx, wpAny_getItem_heap (p := z.2) (by show X.A.in1.units + 8 < cLine; show X.A.units + 1 + 8 < cLine; omega) (nkey_at I2.hok hb) dd (by rw [at_nval]; exact at_mem nd hz) ⟨v, H2, I2.tok _, rv, q2⟩⟩
theorem nd_put {pins : List (Addr × Obj)} {σ : L2.St} {H : Hp} {s : Shared} {a b : Addr} {xs : List NX} {k : NK} {u : Value} {h' : Heap} {t' : Nat} (I : Inv X pins σ H s) (hx : H a = some (ND a xs)) (hn : ∀ z ∈ xs, z.1 ≠ k) (hz : xs.length < sizeLine) (hs : (a == sysModules) = false)
    (dd : h'.DictOfH (nestedKind X.prog X.w) a (storedH (nval xs) (nkey k) b u)) (sb : Heap.SameBut a s.heap h') : Inv X pins σ (upd H a (ND a (xs ++ [(k, b, u)]))) { s with heap := h', toks := t' } := by
  have e : storedH (nval xs) (nkey k) b u = nval (xs ++ [(k, b, u)]) := by
    unfold storedH
    rw [at_nval, at_none hn]
    unfold nval
    rw [List.map_append]
    rfl
  rw [e] at dd
  have he : ∃ q, h'.get? a = some q := let ⟨q, _, _, hq, _⟩ := dd; ⟨q, hq⟩
  exact d_write I (by rw [hx]; exact True.intro) sb he (nd_ok (nd_back hs (by rw [List.length_append, List.length_singleton]; omega) dd))
theorem ps_ndput (hu : X.A.units + 200 < cLine) (ho : PE X o td) (hi : PE X i ty) (hv : PE X value tv) (hs : swapsWith value (some (.Subscript o i pos')) pos.line X.env = pure false) :
    PS X (.Assign [.Subscript o i pos'] value pos) (sNDPut td ty tv) := by
  refine ⟨fun pins s σ H D I h => ?_⟩
  refine wpAny_Assign_Subscript (thn (hv.run pins s σ H _ I h) fun r s1 ⟨v, H1, I1, rv, q1⟩ => thn (ho.run pins s1 σ H1 _ I1 q1) fun u s2 ⟨x, H2, I2, rx, q2⟩ => thn (hi.run pins s2 σ H2 _ I2 q2) fun iv s3 ⟨y, H3, I3, ry, a, xs, b, k, ex, hx, hk, ey, hb, hn, hz, q3⟩ => ?_) hs
  subst ex ey
  obtain rfl : u = Value.ref a := rx
  obtain rfl : iv = Value.ref b := ry
  obtain ⟨h0, _, dd⟩ := nd_dict (P := X.prog) (w := X.w) I3.hok hx hk
  refine wpAny_setItem_heap (hsz := by unfold nval; rw [List.length_map]; omega) (by show X.A.in1.units + 8 < cLine; show X.A.units + 1 + 8 < cLine; omega) (nkey_at I3.hok hb) dd fun h' dd' sb => ?_
  exact ⟨σ, _, nd_put I3 hx hn hz h0 dd' sb, q3 r rv⟩
theorem nd_empty {P : Program} {w : World} {H : Hp} (h : Heap) (hb : sysModules < h.objs.size) : ObjOk P w H (h.push { cls := .type "dict", data := .dict #[] }) h.objs.size (ND h.objs.size []) :=
  nd_ok ⟨beq_eq_false_iff_ne.mpr (Ne.symm (Nat.ne_of_lt hb)), Nat.zero_le _, _, #[], 0, Heap.get?_push_size _ rfl, ⟨rfl, rfl, rfl⟩, rfl, rfl, List.nodup_nil⟩
theorem pe_nd1 {tk : TE} (hu : X.A.units + 200 < cLine) (hk : PE X i tk) (hv : PE X value tv) : PE X (.Dict [some i] [value] pos) (tND1 tk tv) := by
  refine ⟨fun pins s σ H Q I q => ?_⟩
  have hn := I.hok.fresh (Nat.le_refl s.heap.objs.size)
  have I1 := I.laid (a := s.heap.objs.size) (o := ND s.heap.objs.size []) (h' := s.heap.push { cls := .type "dict", data := .dict #[] }) (t' := s.toks) (fun _ _ q => Heap.get?_push_of_some _ q) (Nat.le_refl _) (nd_empty s.heap I.big)
  rw [arm_eval_Dict, zip_pairTrees [some i] [value] X.env pos rfl rfl, dictDisplay_pairs (pairTrees [some i] [value] X.env pos) (fun e => nomatch e) (by show 1 < 17; decide)]
  refine wpAny_bind (wpAny_standAt (wpAny_bind (wpAny_subDictH (knd := nestedKind X.prog X.w) (Q := fun d s' => wpAny (model X.prog X.w) X.A (pure (Value.ref d)) (EP X pins σ Q) X.xe s') (by show X.A.units + 8 < cLine; omega) (by show 1 ≤ 15; decide) ?_)))
  refine pairTrees_cons_walk (thn (hk.run pins _ σ _ _ I1 (q _ hn)) fun iv s1 ⟨y, H1, I2, ry, q1⟩ => thn (hv.run pins s1 σ H1 _ I2 q1) fun r s2 ⟨v, H2, I3, rv, b, k, hx, ey, hb, q2⟩ => pairTrees_nil_walk ?_)
  subst ey
  obtain rfl : iv = Value.ref b := ry
  obtain ⟨h0, _, dd⟩ := nd_dict (P := X.prog) (w := X.w) I3.hok hx (fun _ hz => nomatch hz)
  refine ⟨[(nkey k, b, r)], ⟨rfl, rfl, nkey_at I3.hok hb, trivial⟩, dd, fun h' tk' dd' sb => wpAny_pure ?_⟩
  exact ⟨.ref s.heap.objs.size, _, nd_put (xs := []) I3 hx (fun _ hz => nomatch hz) (by show 0 < sizeLine; decide) h0 dd' sb, rfl, q2 r rv⟩
end
/-! ### defs that may raise -/
structure CalX (P : Program) (w : World) (K : PySem.W.Frag) (mg : Str → Option Value) (base : Heap) (k : Nat) (x : Str) (sp : Sp) : Prop where
  ex : ∃ (f : Addr) (fd : FuncData) (ps : List Str), FnOk P w K mg base (L2.CX P w) k f fd ps sp ∧ mg x = some (.ref f) ∧ PySem.W.keepIn K (.ref f) = true ∧ Binds K fd ps []
structure HeldX (P : Program) (w : World) (K : PySem.W.Frag) (mg : Str → Option Value) (base : Heap) (k : Nat) (f : Addr) (sp : Sp) : Prop where
  ex : ∃ (fd : FuncData) (ps : List Str), FnOk P w K mg base (L2.CX P w) k f fd ps sp ∧ PySem.W.keepIn K (.ref f) = true ∧ Binds K fd ps []
section
variable {P : Program} {w : World} {K : PySem.W.Frag} {mg : Str → Option Value} {base : Heap}
theorem lift0 {k : Nat} {f : Addr} {fd : FuncData} {ps : List Str} {sp : Sp} (F : FnOk P w K mg base C8.CX0 k f fd ps sp) : FnOk P w K mg base (L2.CX P w) k f fd ps sp :=
  ⟨F.len, fun A outer s H args us vs Q E hr e0 hb r h => codeAny_mono (F.run A outer s H args us vs Q E hr e0 hb r h) fun r s' hq => by
    cases r with
    | error e => exact (show False from hq).elim
    | ok fl => cases fl <;> exact hq⟩
theorem calX0 {x : Str} {st : Stmt} {f : Addr} {fd : FuncData} {N ps : List Str} {k : Nat} {sp : Sp} (F : C8.Def K mg x st f fd) (b : Binds K fd ps []) (S : FnScope N ps (C8.fnScope st)) (len : ∀ vs H Q E, sp vs H Q E → vs.length = ps.length)
    (hbody : ∀ (cdv : Value) (A : Around) (outer : List Env) (s : Shared) (H : Hp) (vs : List V) (Q : VK) (E : XK), Room k (A.deeper (envOfC x (C8.fnScope st) s.heap.objs.size f cdv)) → sp vs H Q E →
      ∃ t, PSs (cxOf (L2.CX P w) P w K mg base N x (C8.fnScope st) f cdv A outer s H E) (C8.fnBody st) t ∧ t { nx := fun _ H' => Q .non H', rt := Q } (start N vs) H) : CalX P w K mg base (k + 1) x sp := by
  have hm := F.mgf
  have kp := F.kp
  obtain ⟨oc, od, dV, kV, doc, pm, an, cdv, ct, osl, rfl, lk, hcd⟩ := F.fn.ex
  exact ⟨f, _, ps, fn_of lk hcd S len fun A outer s H vs Q E hr hsp => hbody cdv A outer s H vs Q E hr hsp, hm, kp, b⟩
theorem heldX_cal {k j : Nat} {x : Str} {sp : Sp} (c : C8.Cal P w K mg base k x sp []) (h : k ≤ j) : HeldX P w K mg base j (adr mg x) sp := by
  obtain ⟨f, fd, ps, ds, F, hm, kp, b, d⟩ := c.ex
  have e : adr mg x = f := by
    unfold adr
    rw [hm]
  cases d
  rw [e]
  exact ⟨fd, ps, lift0 (F.mono h), kp, b⟩
theorem heldX_calX {k j : Nat} {x : Str} {sp : Sp} (c : CalX P w K mg base k x sp) (h : k ≤ j) : HeldX P w K mg base j (adr mg x) sp := by
  obtain ⟨f, fd, ps, F, hm, kp, b⟩ := c.ex
  have e : adr mg x = f := by
    unfold adr
    rw [hm]
  rw [e]
  exact ⟨fd, ps, F.mono h, kp, b⟩
end
section
variable {X : Cx} {k j i : Nat} {x : Str} {sp : Sp} {p pos : Pos} {e : Expr} {es : List Expr} {t : TA} {W : WX} {E : XK}
/-- called by a def that lets out what the callee does -/
theorem pe_cX (c : CalX X.prog X.w X.K X.mg X.base k x sp) (hr : Room j X.A) (hk : k ≤ j) (tk : Takes X W) (hW : ∀ cls d σ H, E cls d H → W cls d σ H) (hg : Gl X x) (ha : PA X (e :: es) t)
    (hdb : (x == ("__debug__" : Str)) = false := by decide) (he : starEach (e :: es) X.env = (false, eval e X.env) :: starEach es X.env := by rfl) (hpl : (backTo pos (starEach es X.env)).any (·.1) = false := by rfl) :
    PE X (.Call (.Name x p) (e :: es) [] pos) (tCall sp [] E t) := by
  obtain ⟨f, fd, ps, F, hm, kp, b⟩ := c.ex
  exact pe_call F (hr.mono hk) hg hm kp b .nil (passes_call tk hW) ha hdb he hpl
/-- called in a try -/
theorem pe_cT (c : CalX X.prog X.w X.K X.mg X.base k x sp) (hr : Room j X.A) (hk : k ≤ j) (tk : Takes X W) (hg : Gl X x) (ha : PA X (e :: es) t)
    (hdb : (x == ("__debug__" : Str)) = false := by decide) (he : starEach (e :: es) X.env = (false, eval e X.env) :: starEach es X.env := by rfl) (hpl : (backTo pos (starEach es X.env)).any (·.1) = false := by rfl) :
    PE X (.Call (.Name x p) (e :: es) [] pos) (L2.tCallS sp (WE W) t) := by
  obtain ⟨f, fd, ps, F, hm, kp, b⟩ := c.ex
  exact L2.pe_callS F (hr.mono hk) hg hm kp b (fun σ => passAt tk σ) ha hdb he hpl
/-- a local name that holds one of several defs, called in a try -/
def tDynS (i : Nat) (S : Addr → Sp → Prop) (E : L2.St → XK) (t : TA) : TE := fun σ H Q => ∃ f sp, σ[i]? = some (some (.ref f)) ∧ S f sp ∧ t σ H fun vs H1 => sp vs H1 Q (E σ)
theorem pe_dynS {S : Addr → Sp → Prop} (A : ∀ f sp, S f sp → HeldX X.prog X.w X.K X.mg X.base k f sp) (hr : Room k X.A) (hN : X.N[i]? = some x) (hv : Vis X.env.scope x) (tk : Takes X W) (ha : PA X (e :: es) t)
    (hdb : (x == ("__debug__" : Str)) = false := by decide) (hcd : (x == ("__classdict__" : Str)) = false := by decide)
    (he : starEach (e :: es) X.env = (false, eval e X.env) :: starEach es X.env := by rfl) (hpl : (backTo pos (starEach es X.env)).any (·.1) = false := by rfl) : PE X (.Call (.Name x p) (e :: es) [] pos) (tDynS i S (WE W) t) := by
  refine ⟨fun pins s σ H Q I h => ?_⟩
  obtain ⟨f, sp, hs, hS, ht⟩ := h
  obtain ⟨fd, ps, F, hk, hb⟩ := (A f sp hS).ex
  refine wpAny_Call_Name_kw (thn ((pe_var (pos := p) hN hv hdb hcd).run pins s σ H (fun v H1 => v = .ref f ∧ H1 = H) I ⟨.ref f, hs, rfl, rfl⟩) fun u s1 ⟨v, H1, I1, r1, q1⟩ => ?_)
  obtain ⟨rfl, rfl⟩ := q1
  cases r1
  refine PySem.W.callWith_K (h₀ := X.base) I.ok.mod.kin hk (thn (ha.run pos pins s1 σ _ _ I1 ht) fun us s2 ⟨vs, H2, I2, r, q⟩ => ⟨I2.kIn, ?_⟩) he hpl
  exact run_fnS (E := WE W) F hr hb (passAt tk σ) I2 r q
end
/-- what the top holds of an error class of the text, over Exception -/
structure ExcC (K : PySem.W.Frag) (mg : Mg) (x : Str) : Prop where
  g : mg x = some (.ref (adr mg x))
  xi : PySem.W.excIn K (adr mg x) [.type "Exception", .type "BaseException", .type "object"] "Exception.__new__" = true
  k : PySem.W.keepIn K (.ref (adr mg x)) = true
  b : PySem.W.subIn K (.ref (adr mg x)) (.type "BaseException") = some true
  t : PySem.W.typeIn K (.ref (adr mg x)) = some (.type "type")
  e : PySem.W.exmOne K (.ref (adr mg x)) (.ref (adr mg x)) = some true
abbrev rLenD : List V → Hp → VK → Prop := fun xs H Q => ∃ a kvs, xs = [V.ref a] ∧ H a = some (.dK kvs) ∧ Q (.int kvs.length) H
abbrev rListDk : List V → Hp → VK → Prop := fun xs H Q => ∃ (a : Addr) (kvs : List (Key × V)), xs = [.ref a] ∧ Rd H a (.dK kvs) ∧ ∀ p, H p = none → Q (.ref p) (upd H p (.lst (kvs.map fun kv => kV kv.1)))
abbrev rSortDk : List V → Hp → VK → Prop := fun xs H Q => ∃ (a : Addr) (kvs : List (Key × V)) (ks : List Int), xs = [.ref a] ∧ Rd H a (.dK kvs) ∧ kvs.map (·.1) = ks.map Sum.inl ∧ ks.length < 64 ∧ ∀ (ys : List Int) (p : Addr), ys.Perm ks → ys.Pairwise (· ≤ ·) → H p = none → Q (.ref p) (upd H p (.lst (ys.map V.int)))
def tTry (K : PySem.W.Frag) (c : Value) (tb : WX → TS) (ts : Addr → Value → Option Addr → TS) : TS := fun D σ H => tb (wOnly K c ts (fun _ _ _ _ => False) D) D σ H
def tRaise (E : XK) (c : Value) : TS := fun _ _ H => E c none H
theorem hu2_of {k : Nat} {A : Around} (hr : Room k A) : A.units + 200 < cLine := by
  have := hr.un
  omega
structure Top (K : PySem.W.Frag) (mg : Mg) : Prop where
  b_all : mg "all" = none
  b_any : mg "any" = none
  b_enumerate : mg "enumerate" = none
  b_len : mg "len" = none
  b_list : mg "list" = none
  b_range : mg "range" = none
  b_sorted : mg "sorted" = none
  b_sum : mg "sum" = none
  b_tuple : mg "tuple" = none
  b_zip : mg "zip" = none
  g_NO_KIND : ∃ u, mg "NO_KIND" = some u ∧ RelV (.int (-1)) u
  g_END : ∃ u, mg "END" = some u ∧ RelV (.int (0)) u
  g_NONE_DUE : ∃ u, mg "NONE_DUE" = some u ∧ RelV (.int (0)) u
  g_NOT_AS_TOLD : ∃ u, mg "NOT_AS_TOLD" = some u ∧ RelV (.int (-1)) u
  g_NO_HOUSE : ∃ u, mg "NO_HOUSE" = some u ∧ RelV (.int (-2)) u
  g_NO_SUCH : ∃ u, mg "NO_SUCH" = some u ∧ RelV (.int (-3)) u
  g_DEEDS_FULL : ∃ u, mg "DEEDS_FULL" = some u ∧ RelV (.int (-4)) u
  g_HOUSE_STANDS : ∃ u, mg "HOUSE_STANDS" = some u ∧ RelV (.int (-5)) u
  g_NOT_AS_MANY_AS_KINDS : ∃ u, mg "NOT_AS_MANY_AS_KINDS" = some u ∧ RelV (.int (-6)) u
  g_PLAY_BEGUN : ∃ u, mg "PLAY_BEGUN" = some u ∧ RelV (.int (-7)) u
  g_CANNOT_BE_DONE : ∃ u, mg "CANNOT_BE_DONE" = some u ∧ RelV (.int (-8)) u
  g_NO_ROW : ∃ u, mg "NO_ROW" = some u ∧ RelV (.int (-9)) u
  g_MOST_DEEDS : ∃ u, mg "MOST_DEEDS" = some u ∧ RelV (.int (16)) u
  g_MOST_KINDS : ∃ u, mg "MOST_KINDS" = some u ∧ RelV (.int (5)) u
  g_LAST_DEED : ∃ u, mg "LAST_DEED" = some u ∧ RelV (.int (15)) u
  g_LAST_KIND : ∃ u, mg "LAST_KIND" = some u ∧ RelV (.int (4)) u
  g_MOST_PLAYS : ∃ u, mg "MOST_PLAYS" = some u ∧ RelV (.int (200)) u
  g_NO_DEED : ∃ u, mg "NO_DEED" = some u ∧ RelV (.int (-1)) u
  g_CALLS : ∃ u, mg "CALLS" = some u ∧ RelV (.ref (adr mg "CALLS")) u
  g_REFUSALS : ∃ u, mg "REFUSALS" = some u ∧ RelV (.ref (adr mg "REFUSALS")) u
  g_SHAPES : ∃ u, mg "SHAPES" = some u ∧ RelV (.ref (adr mg "SHAPES")) u
  x_NoRow : ExcC K mg "NoRow"
  c_Deed : Cls K (adr mg "Deed")
  n_Deed_needs : NoAttr K (adr mg "Deed") "needs"
  n_Deed_uses : NoAttr K (adr mg "Deed") "uses"
  n_Deed_gives : NoAttr K (adr mg "Deed") "gives"
  c_Play : Cls K (adr mg "Play")
  n_Play_done : NoAttr K (adr mg "Play") "done"
  n_Play_things : NoAttr K (adr mg "Play") "things"
  c_House : Cls K (adr mg "House")
  n_House_first : NoAttr K (adr mg "House") "first"
  n_House_deeds : NoAttr K (adr mg "House") "deeds"
  n_House_play : NoAttr K (adr mg "House") "play"
  c_Line : Cls K (adr mg "Line")
  n_Line_house : NoAttr K (adr mg "Line") "house"
  c_Entry : Cls K (adr mg "Entry")
  n_Entry_play : NoAttr K (adr mg "Entry") "play"
  n_Entry_origin : NoAttr K (adr mg "Entry") "origin"
  n_Entry_taken : NoAttr K (adr mg "Entry") "taken"
  n_Entry_onward : NoAttr K (adr mg "Entry") "onward"
abbrev s_Deed_init : Stmt := inClass (topS 1) 0
abbrev N_Deed_init : List Str := ["self", "needs", "uses", "gives"]
abbrev P_Deed_init : List Str := ["self", "needs", "uses", "gives"]
theorem sc_Deed_init : FnScope N_Deed_init P_Deed_init (C8.fnScope s_Deed_init) := ⟨rfl, rfl, rfl, by decide +kernel, rfl, by decide +kernel, by decide +kernel⟩
abbrev s_Play_init : Stmt := inClass (topS 2) 0
abbrev N_Play_init : List Str := ["self", "done", "things"]
abbrev P_Play_init : List Str := ["self", "done", "things"]
theorem sc_Play_init : FnScope N_Play_init P_Play_init (C8.fnScope s_Play_init) := ⟨rfl, rfl, rfl, by decide +kernel, rfl, by decide +kernel, by decide +kernel⟩
abbrev s_House_init : Stmt := inClass (topS 3) 0
abbrev N_House_init : List Str := ["self", "first"]
abbrev P_House_init : List Str := ["self", "first"]
theorem sc_House_init : FnScope N_House_init P_House_init (C8.fnScope s_House_init) := ⟨rfl, rfl, rfl, by decide +kernel, rfl, by decide +kernel, by decide +kernel⟩
abbrev s_Line_init : Stmt := inClass (topS 4) 0
abbrev N_Line_init : List Str := ["self"]
abbrev P_Line_init : List Str := ["self"]
theorem sc_Line_init : FnScope N_Line_init P_Line_init (C8.fnScope s_Line_init) := ⟨rfl, rfl, rfl, by decide +kernel, rfl, by decide +kernel, by decide +kernel⟩
abbrev s_is_end_done : Stmt := topS 8
abbrev N_is_end_done : List Str := ["play"]
abbrev P_is_end_done : List Str := ["play"]
theorem sc_is_end_done : FnScope N_is_end_done P_is_end_done (C8.fnScope s_is_end_done) := ⟨rfl, rfl, rfl, by decide +kernel, rfl, by decide +kernel, by decide +kernel⟩
abbrev s_holds_all : Stmt := topS 9
abbrev N_holds_all : List Str := ["behind", "wanted", "d"]
abbrev P_holds_all : List Str := ["behind", "wanted"]
theorem sc_holds_all : FnScope N_holds_all P_holds_all (C8.fnScope s_holds_all) := ⟨rfl, rfl, rfl, by decide +kernel, rfl, by decide +kernel, by decide +kernel⟩
abbrev s_are_met : Stmt := topS 10
abbrev N_are_met : List Str := ["needs", "behind", "wanted"]
abbrev P_are_met : List Str := ["needs", "behind"]
theorem sc_are_met : FnScope N_are_met P_are_met (C8.fnScope s_are_met) := ⟨rfl, rfl, rfl, by decide +kernel, rfl, by decide +kernel, by decide +kernel⟩
abbrev s_kinds_for : Stmt := topS 11
abbrev N_kinds_for : List Str := ["deeds", "play", "d", "deed", "kind"]
abbrev P_kinds_for : List Str := ["deeds", "play", "d"]
theorem sc_kinds_for : FnScope N_kinds_for P_kinds_for (C8.fnScope s_kinds_for) := ⟨rfl, rfl, rfl, by decide +kernel, rfl, by decide +kernel, by decide +kernel⟩
abbrev s_all_steps : Stmt := topS 12
abbrev N_all_steps : List Str := ["deeds", "play", "steps", "d", "kind"]
abbrev P_all_steps : List Str := ["deeds", "play"]
theorem sc_all_steps : FnScope N_all_steps P_all_steps (C8.fnScope s_all_steps) := ⟨rfl, rfl, rfl, by decide +kernel, rfl, by decide +kernel, by decide +kernel⟩
abbrev s_play_after : Stmt := topS 13
abbrev N_play_after : List Str := ["deeds", "play", "d", "kind", "things", "had", "given"]
abbrev P_play_after : List Str := ["deeds", "play", "d", "kind"]
theorem sc_play_after : FnScope N_play_after P_play_after (C8.fnScope s_play_after) := ⟨rfl, rfl, rfl, by decide +kernel, rfl, by decide +kernel, by decide +kernel⟩
abbrev s_closure_of : Stmt := topS 14
abbrev N_closure_of : List Str := ["deeds", "start", "reached", "grows", "fresh", "d"]
abbrev P_closure_of : List Str := ["deeds", "start"]
theorem sc_closure_of : FnScope N_closure_of P_closure_of (C8.fnScope s_closure_of) := ⟨rfl, rfl, rfl, by decide +kernel, rfl, by decide +kernel, by decide +kernel⟩
abbrev s_share_a_kind : Stmt := topS 16
abbrev N_share_a_kind : List Str := ["some", "others", "kind"]
abbrev P_share_a_kind : List Str := ["some", "others"]
theorem sc_share_a_kind : FnScope N_share_a_kind P_share_a_kind (C8.fnScope s_share_a_kind) := ⟨rfl, rfl, rfl, by decide +kernel, rfl, by decide +kernel, by decide +kernel⟩
abbrev s_rivals_of : Stmt := topS 17
abbrev N_rivals_of : List Str := ["deeds", "d", "uses", "other"]
abbrev P_rivals_of : List Str := ["deeds", "d"]
theorem sc_rivals_of : FnScope N_rivals_of P_rivals_of (C8.fnScope s_rivals_of) := ⟨rfl, rfl, rfl, by decide +kernel, rfl, by decide +kernel, by decide +kernel⟩
abbrev s_count_things : Stmt := topS 18
abbrev N_count_things : List Str := ["house", "kinds", "givers", "count", "giver", "kind"]
abbrev P_count_things : List Str := ["house", "kinds", "givers"]
theorem sc_count_things : FnScope N_count_things P_count_things (C8.fnScope s_count_things) := ⟨rfl, rfl, rfl, by decide +kernel, rfl, by decide +kernel, by decide +kernel⟩
abbrev s_is_sure : Stmt := topS 19
abbrev N_is_sure : List Str := ["house", "d", "behind", "deed"]
abbrev P_is_sure : List Str := ["house", "d", "behind"]
theorem sc_is_sure : FnScope N_is_sure P_is_sure (C8.fnScope s_is_sure) := ⟨rfl, rfl, rfl, by decide +kernel, rfl, by decide +kernel, by decide +kernel⟩
abbrev s_told_ranks : Stmt := topS 20
abbrev N_told_ranks : List Str := ["house", "size", "ranks", "rank", "behind", "d"]
abbrev P_told_ranks : List Str := ["house"]
theorem sc_told_ranks : FnScope N_told_ranks P_told_ranks (C8.fnScope s_told_ranks) := ⟨rfl, rfl, rfl, by decide +kernel, rfl, by decide +kernel, by decide +kernel⟩
abbrev s_are_accepted : Stmt := topS 21
abbrev N_are_accepted : List Str := ["house", "ranks", "d", "rank", "lesser", "other"]
abbrev P_are_accepted : List Str := ["house", "ranks"]
theorem sc_are_accepted : FnScope N_are_accepted P_are_accepted (C8.fnScope s_are_accepted) := ⟨rfl, rfl, rfl, by decide +kernel, rfl, by decide +kernel, by decide +kernel⟩
abbrev s_cut_calls : Stmt := topS 24
abbrev N_cut_calls : List Str := ["calls", "cut", "at", "number", "given", "shape", "end"]
abbrev P_cut_calls : List Str := ["calls"]
theorem sc_cut_calls : FnScope N_cut_calls P_cut_calls (C8.fnScope s_cut_calls) := ⟨rfl, rfl, rfl, by decide +kernel, rfl, by decide +kernel, by decide +kernel⟩
abbrev s_cut_needs : Stmt := topS 25
abbrev N_cut_needs : List Str := ["numbers", "sets", "number"]
abbrev P_cut_needs : List Str := ["numbers"]
theorem sc_cut_needs : FnScope N_cut_needs P_cut_needs (C8.fnScope s_cut_needs) := ⟨rfl, rfl, rfl, by decide +kernel, rfl, by decide +kernel, by decide +kernel⟩
abbrev s_is_list_within : Stmt := topS 41
abbrev N_is_list_within : List Str := ["numbers", "longest", "least", "most", "number"]
abbrev P_is_list_within : List Str := ["numbers", "longest", "least", "most"]
theorem sc_is_list_within : FnScope N_is_list_within P_is_list_within (C8.fnScope s_is_list_within) := ⟨rfl, rfl, rfl, by decide +kernel, rfl, by decide +kernel, by decide +kernel⟩
abbrev s_is_rising : Stmt := topS 42
abbrev N_is_rising : List Str := ["numbers", "at"]
abbrev P_is_rising : List Str := ["numbers"]
theorem sc_is_rising : FnScope N_is_rising P_is_rising (C8.fnScope s_is_rising) := ⟨rfl, rfl, rfl, by decide +kernel, rfl, by decide +kernel, by decide +kernel⟩
abbrev s_is_deed_number : Stmt := topS 43
abbrev N_is_deed_number : List Str := ["number"]
abbrev P_is_deed_number : List Str := ["number"]
theorem sc_is_deed_number : FnScope N_is_deed_number P_is_deed_number (C8.fnScope s_is_deed_number) := ⟨rfl, rfl, rfl, by decide +kernel, rfl, by decide +kernel, by decide +kernel⟩
abbrev s_refuse_house : Stmt := topS 44
abbrev N_refuse_house : List Str := ["house", "given"]
abbrev P_refuse_house : List Str := ["house", "given"]
theorem sc_refuse_house : FnScope N_refuse_house P_refuse_house (C8.fnScope s_refuse_house) := ⟨rfl, rfl, rfl, by decide +kernel, rfl, by decide +kernel, by decide +kernel⟩
abbrev s_is_deed_as_told : Stmt := topS 45
abbrev N_is_deed_as_told : List Str := ["needs", "uses", "gives"]
abbrev P_is_deed_as_told : List Str := ["needs", "uses", "gives"]
theorem sc_is_deed_as_told : FnScope N_is_deed_as_told P_is_deed_as_told (C8.fnScope s_is_deed_as_told) := ⟨rfl, rfl, rfl, by decide +kernel, rfl, by decide +kernel, by decide +kernel⟩
abbrev s_refuse_deed : Stmt := topS 46
abbrev N_refuse_deed : List Str := ["house", "given", "uses", "gives", "kinds", "kind"]
abbrev P_refuse_deed : List Str := ["house", "given"]
theorem sc_refuse_deed : FnScope N_refuse_deed P_refuse_deed (C8.fnScope s_refuse_deed) := ⟨rfl, rfl, rfl, by decide +kernel, rfl, by decide +kernel, by decide +kernel⟩
abbrev s_refuse_act : Stmt := topS 47
abbrev N_refuse_act : List Str := ["house", "given", "d", "kind"]
abbrev P_refuse_act : List Str := ["house", "given"]
theorem sc_refuse_act : FnScope N_refuse_act P_refuse_act (C8.fnScope s_refuse_act) := ⟨rfl, rfl, rfl, by decide +kernel, rfl, by decide +kernel, by decide +kernel⟩
abbrev s_refuse_bare : Stmt := topS 48
abbrev N_refuse_bare : List Str := ["house", "given"]
abbrev P_refuse_bare : List Str := ["house", "given"]
theorem sc_refuse_bare : FnScope N_refuse_bare P_refuse_bare (C8.fnScope s_refuse_bare) := ⟨rfl, rfl, rfl, by decide +kernel, rfl, by decide +kernel, by decide +kernel⟩
abbrev s_refuse_accepts : Stmt := topS 49
abbrev N_refuse_accepts : List Str := ["house", "given"]
abbrev P_refuse_accepts : List Str := ["house", "given"]
theorem sc_refuse_accepts : FnScope N_refuse_accepts P_refuse_accepts (C8.fnScope s_refuse_accepts) := ⟨rfl, rfl, rfl, by decide +kernel, rfl, by decide +kernel, by decide +kernel⟩
abbrev s_refuse_sure : Stmt := topS 50
abbrev N_refuse_sure : List Str := ["house", "given", "d", "behind", "number"]
abbrev P_refuse_sure : List Str := ["house", "given"]
theorem sc_refuse_sure : FnScope N_refuse_sure P_refuse_sure (C8.fnScope s_refuse_sure) := ⟨rfl, rfl, rfl, by decide +kernel, rfl, by decide +kernel, by decide +kernel⟩
abbrev s_refuse_bound : Stmt := topS 51
abbrev N_refuse_bound : List Str := ["house", "given", "kinds", "kind"]
abbrev P_refuse_bound : List Str := ["house", "given"]
theorem sc_refuse_bound : FnScope N_refuse_bound P_refuse_bound (C8.fnScope s_refuse_bound) := ⟨rfl, rfl, rfl, by decide +kernel, rfl, by decide +kernel, by decide +kernel⟩
abbrev s_refuse_deed_number : Stmt := topS 52
abbrev N_refuse_deed_number : List Str := ["house", "given", "d"]
abbrev P_refuse_deed_number : List Str := ["house", "given"]
theorem sc_refuse_deed_number : FnScope N_refuse_deed_number P_refuse_deed_number (C8.fnScope s_refuse_deed_number) := ⟨rfl, rfl, rfl, by decide +kernel, rfl, by decide +kernel, by decide +kernel⟩
abbrev s_refusal_of : Stmt := topS 54
abbrev N_refusal_of : List Str := ["house", "number", "given", "refuse"]
abbrev P_refusal_of : List Str := ["house", "number", "given"]
theorem sc_refusal_of : FnScope N_refusal_of P_refusal_of (C8.fnScope s_refusal_of) := ⟨rfl, rfl, rfl, by decide +kernel, rfl, by decide +kernel, by decide +kernel⟩
abbrev s_count_all : Stmt := topS 56
abbrev N_count_all : List Str := ["house", "kinds"]
abbrev P_count_all : List Str := ["house", "kinds"]
theorem sc_count_all : FnScope N_count_all P_count_all (C8.fnScope s_count_all) := ⟨rfl, rfl, rfl, by decide +kernel, rfl, by decide +kernel, by decide +kernel⟩
abbrev s_put_in : Stmt := topS 57
abbrev N_put_in : List Str := ["row", "deeds", "d", "kind"]
abbrev P_put_in : List Str := ["row", "deeds", "d"]
theorem sc_put_in : FnScope N_put_in P_put_in (C8.fnScope s_put_in) := ⟨rfl, rfl, rfl, by decide +kernel, rfl, by decide +kernel, by decide +kernel⟩
abbrev s_row_of_kinds : Stmt := topS 58
abbrev N_row_of_kinds : List Str := ["deeds", "serving", "d", "row", "at", "kind", "other"]
abbrev P_row_of_kinds : List Str := ["deeds", "serving", "d"]
theorem sc_row_of_kinds : FnScope N_row_of_kinds P_row_of_kinds (C8.fnScope s_row_of_kinds) := ⟨rfl, rfl, rfl, by decide +kernel, rfl, by decide +kernel, by decide +kernel⟩
abbrev s_first_free : Stmt := topS 59
abbrev N_first_free : List Str := ["row", "serving", "things", "kind"]
abbrev P_first_free : List Str := ["row", "serving", "things"]
theorem sc_first_free : FnScope N_first_free P_first_free (C8.fnScope s_first_free) := ⟨rfl, rfl, rfl, by decide +kernel, rfl, by decide +kernel, by decide +kernel⟩
abbrev s_hand_on : Stmt := topS 60
abbrev N_hand_on : List Str := ["row", "serving", "kind", "d", "before"]
abbrev P_hand_on : List Str := ["row", "serving", "kind"]
theorem sc_hand_on : FnScope N_hand_on P_hand_on (C8.fnScope s_hand_on) := ⟨rfl, rfl, rfl, by decide +kernel, rfl, by decide +kernel, by decide +kernel⟩
abbrev s_told_giving_out : Stmt := topS 61
abbrev N_told_giving_out : List Str := ["house", "deeds", "things", "serving", "d", "row", "kind"]
abbrev P_told_giving_out : List Str := ["house"]
theorem sc_told_giving_out : FnScope N_told_giving_out P_told_giving_out (C8.fnScope s_told_giving_out) := ⟨rfl, rfl, rfl, by decide +kernel, rfl, by decide +kernel, by decide +kernel⟩
abbrev s_told_set : Stmt := topS 62
abbrev N_told_set : List Str := ["house", "serving", "kinds", "d", "kind"]
abbrev P_told_set : List Str := ["house", "serving"]
theorem sc_told_set : FnScope N_told_set P_told_set (C8.fnScope s_told_set) := ⟨rfl, rfl, rfl, by decide +kernel, rfl, by decide +kernel, by decide +kernel⟩
abbrev s_uses_another : Stmt := topS 63
abbrev N_uses_another : List Str := ["deed", "kinds", "kind"]
abbrev P_uses_another : List Str := ["deed", "kinds"]
theorem sc_uses_another : FnScope N_uses_another P_uses_another (C8.fnScope s_uses_another) := ⟨rfl, rfl, rfl, by decide +kernel, rfl, by decide +kernel, by decide +kernel⟩
abbrev s_bound_of : Stmt := topS 64
abbrev N_bound_of : List Str := ["house", "kinds", "users", "deed"]
abbrev P_bound_of : List Str := ["house", "kinds"]
theorem sc_bound_of : FnScope N_bound_of P_bound_of (C8.fnScope s_bound_of) := ⟨rfl, rfl, rfl, by decide +kernel, rfl, by decide +kernel, by decide +kernel⟩
abbrev s_Entry_init : Stmt := inClass (topS 69) 0
abbrev N_Entry_init : List Str := ["self", "play", "origin", "taken"]
abbrev P_Entry_init : List Str := ["self", "play", "origin", "taken"]
theorem sc_Entry_init : FnScope N_Entry_init P_Entry_init (C8.fnScope s_Entry_init) := ⟨rfl, rfl, rfl, by decide +kernel, rfl, by decide +kernel, by decide +kernel⟩
abbrev s_mark_of : Stmt := topS 70
abbrev N_mark_of : List Str := ["play"]
abbrev P_mark_of : List Str := ["play"]
theorem sc_mark_of : FnScope N_mark_of P_mark_of (C8.fnScope s_mark_of) := ⟨rfl, rfl, rfl, by decide +kernel, rfl, by decide +kernel, by decide +kernel⟩
abbrev s_row_from : Stmt := topS 71
abbrev N_row_from : List Str := ["house", "left_out", "deeds", "row", "places", "at", "entry", "d", "kind", "play", "mark"]
abbrev P_row_from : List Str := ["house", "left_out"]
theorem sc_row_from : FnScope N_row_from P_row_from (C8.fnScope s_row_from) := ⟨rfl, rfl, rfl, by decide +kernel, rfl, by decide +kernel, by decide +kernel⟩
abbrev s_places_with_end : Stmt := topS 72
abbrev N_places_with_end : List Str := ["row", "at", "entry"]
abbrev P_places_with_end : List Str := ["row"]
theorem sc_places_with_end : FnScope N_places_with_end P_places_with_end (C8.fnScope s_places_with_end) := ⟨rfl, rfl, rfl, by decide +kernel, rfl, by decide +kernel, by decide +kernel⟩
abbrev s_places_of_dead : Stmt := topS 73
abbrev N_places_of_dead : List Str := ["row", "lives", "at", "entry", "place"]
abbrev P_places_of_dead : List Str := ["row"]
theorem sc_places_of_dead : FnScope N_places_of_dead P_places_of_dead (C8.fnScope s_places_of_dead) := ⟨rfl, rfl, rfl, by decide +kernel, rfl, by decide +kernel, by decide +kernel⟩
abbrev s_steps_to : Stmt := topS 74
abbrev N_steps_to : List Str := ["row", "place", "steps"]
abbrev P_steps_to : List Str := ["row", "place"]
theorem sc_steps_to : FnScope N_steps_to P_steps_to (C8.fnScope s_steps_to) := ⟨rfl, rfl, rfl, by decide +kernel, rfl, by decide +kernel, by decide +kernel⟩
abbrev s_as_number : Stmt := topS 76
abbrev N_as_number : List Str := ["truth"]
abbrev P_as_number : List Str := ["truth"]
theorem sc_as_number : FnScope N_as_number P_as_number (C8.fnScope s_as_number) := ⟨rfl, rfl, rfl, by decide +kernel, rfl, by decide +kernel, by decide +kernel⟩
abbrev s_flat : Stmt := topS 77
abbrev N_flat : List Str := ["pairs", "numbers", "pair"]
abbrev P_flat : List Str := ["pairs"]
theorem sc_flat : FnScope N_flat P_flat (C8.fnScope s_flat) := ⟨rfl, rfl, rfl, by decide +kernel, rfl, by decide +kernel, by decide +kernel⟩
abbrev s_do_house : Stmt := topS 78
abbrev N_do_house : List Str := ["line", "given"]
abbrev P_do_house : List Str := ["line", "given"]
theorem sc_do_house : FnScope N_do_house P_do_house (C8.fnScope s_do_house) := ⟨rfl, rfl, rfl, by decide +kernel, rfl, by decide +kernel, by decide +kernel⟩
abbrev s_do_deed : Stmt := topS 79
abbrev N_do_deed : List Str := ["line", "given", "deeds"]
abbrev P_do_deed : List Str := ["line", "given"]
theorem sc_do_deed : FnScope N_do_deed P_do_deed (C8.fnScope s_do_deed) := ⟨rfl, rfl, rfl, by decide +kernel, rfl, by decide +kernel, by decide +kernel⟩
abbrev s_do_act : Stmt := topS 80
abbrev N_do_act : List Str := ["line", "given", "house"]
abbrev P_do_act : List Str := ["line", "given"]
theorem sc_do_act : FnScope N_do_act P_do_act (C8.fnScope s_do_act) := ⟨rfl, rfl, rfl, by decide +kernel, rfl, by decide +kernel, by decide +kernel⟩
abbrev s_do_again : Stmt := topS 81
abbrev N_do_again : List Str := ["line", "given", "house"]
abbrev P_do_again : List Str := ["line", "given"]
theorem sc_do_again : FnScope N_do_again P_do_again (C8.fnScope s_do_again) := ⟨rfl, rfl, rfl, by decide +kernel, rfl, by decide +kernel, by decide +kernel⟩
abbrev s_tell_now : Stmt := topS 82
abbrev N_tell_now : List Str := ["line", "given", "play"]
abbrev P_tell_now : List Str := ["line", "given"]
theorem sc_tell_now : FnScope N_tell_now P_tell_now (C8.fnScope s_tell_now) := ⟨rfl, rfl, rfl, by decide +kernel, rfl, by decide +kernel, by decide +kernel⟩
abbrev s_tell_can : Stmt := topS 83
abbrev N_tell_can : List Str := ["line", "given", "house"]
abbrev P_tell_can : List Str := ["line", "given"]
theorem sc_tell_can : FnScope N_tell_can P_tell_can (C8.fnScope s_tell_can) := ⟨rfl, rfl, rfl, by decide +kernel, rfl, by decide +kernel, by decide +kernel⟩
abbrev s_tell_closure : Stmt := topS 84
abbrev N_tell_closure : List Str := ["line", "given", "house"]
abbrev P_tell_closure : List Str := ["line", "given"]
theorem sc_tell_closure : FnScope N_tell_closure P_tell_closure (C8.fnScope s_tell_closure) := ⟨rfl, rfl, rfl, by decide +kernel, rfl, by decide +kernel, by decide +kernel⟩
abbrev s_tell_ranks : Stmt := topS 85
abbrev N_tell_ranks : List Str := ["line", "given"]
abbrev P_tell_ranks : List Str := ["line", "given"]
theorem sc_tell_ranks : FnScope N_tell_ranks P_tell_ranks (C8.fnScope s_tell_ranks) := ⟨rfl, rfl, rfl, by decide +kernel, rfl, by decide +kernel, by decide +kernel⟩
abbrev s_tell_accepts : Stmt := topS 86
abbrev N_tell_accepts : List Str := ["line", "given"]
abbrev P_tell_accepts : List Str := ["line", "given"]
theorem sc_tell_accepts : FnScope N_tell_accepts P_tell_accepts (C8.fnScope s_tell_accepts) := ⟨rfl, rfl, rfl, by decide +kernel, rfl, by decide +kernel, by decide +kernel⟩
abbrev s_tell_sure : Stmt := topS 87
abbrev N_tell_sure : List Str := ["line", "given"]
abbrev P_tell_sure : List Str := ["line", "given"]
theorem sc_tell_sure : FnScope N_tell_sure P_tell_sure (C8.fnScope s_tell_sure) := ⟨rfl, rfl, rfl, by decide +kernel, rfl, by decide +kernel, by decide +kernel⟩
abbrev s_tell_served : Stmt := topS 88
abbrev N_tell_served : List Str := ["line", "given", "house", "serving", "pairs", "d", "kind"]
abbrev P_tell_served : List Str := ["line", "given"]
theorem sc_tell_served : FnScope N_tell_served P_tell_served (C8.fnScope s_tell_served) := ⟨rfl, rfl, rfl, by decide +kernel, rfl, by decide +kernel, by decide +kernel⟩
abbrev s_tell_bound : Stmt := topS 89
abbrev N_tell_bound : List Str := ["line", "given"]
abbrev P_tell_bound : List Str := ["line", "given"]
theorem sc_tell_bound : FnScope N_tell_bound P_tell_bound (C8.fnScope s_tell_bound) := ⟨rfl, rfl, rfl, by decide +kernel, rfl, by decide +kernel, by decide +kernel⟩
abbrev s_tell_states : Stmt := topS 90
abbrev N_tell_states : List Str := ["line", "given", "row"]
abbrev P_tell_states : List Str := ["line", "given"]
theorem sc_tell_states : FnScope N_tell_states P_tell_states (C8.fnScope s_tell_states) := ⟨rfl, rfl, rfl, by decide +kernel, rfl, by decide +kernel, by decide +kernel⟩
abbrev s_tell_dead : Stmt := topS 91
abbrev N_tell_dead : List Str := ["line", "given", "row"]
abbrev P_tell_dead : List Str := ["line", "given"]
theorem sc_tell_dead : FnScope N_tell_dead P_tell_dead (C8.fnScope s_tell_dead) := ⟨rfl, rfl, rfl, by decide +kernel, rfl, by decide +kernel, by decide +kernel⟩
abbrev s_told_way : Stmt := topS 92
abbrev N_told_way : List Str := ["row", "places"]
abbrev P_told_way : List Str := ["row", "places"]
theorem sc_told_way : FnScope N_told_way P_told_way (C8.fnScope s_told_way) := ⟨rfl, rfl, rfl, by decide +kernel, rfl, by decide +kernel, by decide +kernel⟩
abbrev s_tell_way : Stmt := topS 93
abbrev N_tell_way : List Str := ["line", "given", "row"]
abbrev P_tell_way : List Str := ["line", "given"]
theorem sc_tell_way : FnScope N_tell_way P_tell_way (C8.fnScope s_tell_way) := ⟨rfl, rfl, rfl, by decide +kernel, rfl, by decide +kernel, by decide +kernel⟩
abbrev s_tell_doom : Stmt := topS 94
abbrev N_tell_doom : List Str := ["line", "given", "row"]
abbrev P_tell_doom : List Str := ["line", "given"]
theorem sc_tell_doom : FnScope N_tell_doom P_tell_doom (C8.fnScope s_tell_doom) := ⟨rfl, rfl, rfl, by decide +kernel, rfl, by decide +kernel, by decide +kernel⟩
abbrev s_tell_must : Stmt := topS 95
abbrev N_tell_must : List Str := ["line", "given", "row"]
abbrev P_tell_must : List Str := ["line", "given"]
theorem sc_tell_must : FnScope N_tell_must P_tell_must (C8.fnScope s_tell_must) := ⟨rfl, rfl, rfl, by decide +kernel, rfl, by decide +kernel, by decide +kernel⟩
abbrev s_tell_look : Stmt := topS 96
abbrev N_tell_look : List Str := ["line", "given", "deed", "told", "wanted"]
abbrev P_tell_look : List Str := ["line", "given"]
theorem sc_tell_look : FnScope N_tell_look P_tell_look (C8.fnScope s_tell_look) := ⟨rfl, rfl, rfl, by decide +kernel, rfl, by decide +kernel, by decide +kernel⟩
abbrev s_tell_rivals : Stmt := topS 97
abbrev N_tell_rivals : List Str := ["line", "given", "house", "d"]
abbrev P_tell_rivals : List Str := ["line", "given"]
theorem sc_tell_rivals : FnScope N_tell_rivals P_tell_rivals (C8.fnScope s_tell_rivals) := ⟨rfl, rfl, rfl, by decide +kernel, rfl, by decide +kernel, by decide +kernel⟩
abbrev s_answer_call : Stmt := topS 99
abbrev N_answer_call : List Str := ["line", "number", "given", "refusal", "call", "told"]
abbrev P_answer_call : List Str := ["line", "number", "given"]
theorem sc_answer_call : FnScope N_answer_call P_answer_call (C8.fnScope s_answer_call) := ⟨rfl, rfl, rfl, by decide +kernel, rfl, by decide +kernel, by decide +kernel⟩
abbrev s_answers : Stmt := topS 100
abbrev N_answers : List Str := ["calls", "line", "told", "number", "given", "answer"]
abbrev P_answers : List Str := ["calls"]
theorem sc_answers : FnScope N_answers P_answers (C8.fnScope s_answers) := ⟨rfl, rfl, rfl, by decide +kernel, rfl, by decide +kernel, by decide +kernel⟩
def t_Deed_init (K : PySem.W.Frag) (mg : Mg) : TS :=
  (tSeq (sFld K (tVar 0) (tVar 1) "needs")
    (tSeq (sFld K (tVar 0) (tVar 2) "uses")
    (sFld K (tVar 0) (tVar 3) "gives")))
def t_Play_init (K : PySem.W.Frag) (mg : Mg) : TS :=
  (tSeq (sFld K (tVar 0) (tVar 1) "done")
    (sFld K (tVar 0) (tVar 2) "things"))
def t_House_init (K : PySem.W.Frag) (mg : Mg) (sp_Play_init : Sp) : TS :=
  (tSeq (sFld K (tVar 0) (tVar 1) "first")
    (tSeq (sFld K (tVar 0) (tLst tNil) "deeds")
    (sFld K (tVar 0) (tMake (adr mg "Play") sp_Play_init [] C8.E0 (tCons (tLst tNil) (tCons (tVar 1) tNil))) "play")))
def t_Line_init (K : PySem.W.Frag) (mg : Mg) : TS :=
  (sFld K (tVar 0) (tC .non) "house")
def t_is_end_done (K : PySem.W.Frag) (mg : Mg) : TS :=
  (tRet (tOp (rIn K false) (tC (.int (0))) (tFld K (tVar 0) "done")))
def t_holds_all (K : PySem.W.Frag) (mg : Mg) : TS :=
  (tSeq (tFor (iList K (tVar 1)) (gName 2) (tIfS (tTest (tOp (rIn K true) (tVar 2) (tVar 0))) (tRet (tC (.bl false))) tNext))
    (tRet (tC (.bl true))))
def t_are_met (K : PySem.W.Frag) (mg : Mg) (sp_holds_all : Sp) : TS :=
  (tSeq (tFor (iList K (tVar 0)) (gName 2) (tIfS (tB (tCall sp_holds_all [] C8.E0 (tCons (tVar 1) (tCons (tVar 2) tNil)))) (tRet (tC (.bl true))) tNext))
    (tRet (tC (.bl false))))
def t_kinds_for (K : PySem.W.Frag) (mg : Mg) (sp_are_met : Sp) : TS :=
  (tSeq (tAsg (tOp (rIxL K) (tVar 0) (tVar 2)) (gName 3))
    (tSeq (tIfS (tOr (tTest (tOp (rIn K false) (tVar 2) (tFld K (tVar 1) "done"))) (tNot (tB (tCall sp_are_met [] C8.E0 (tCons (tFld K (tVar 3) "needs") (tCons (tFld K (tVar 1) "done") tNil)))))) (tRet (tLst tNil)) tNext)
    (tSeq (tIfS (tTest (tOp rEq (tCB (rLenS K) (tCons (tFld K (tVar 3) "uses") tNil)) (tC (.int 0)))) (tRet (tLst (tCons (tC (.int (-1))) tNil))) tNext)
    (tRet (tLc (iList K (tFld K (tVar 3) "uses")) (gName 4) (tTest (tOp rGtI (tOp (rIxL K) (tFld K (tVar 1) "things") (tVar 4)) (tC (.int 0)))) (tVar 4) [4])))))
def t_all_steps (K : PySem.W.Frag) (mg : Mg) (sp_kinds_for : Sp) : TS :=
  (tSeq (tAsg (tLst tNil) (gName 2))
    (tSeq (tFor (iRng1 (tCons (tCB (rLenS K) (tCons (tVar 0) tNil)) tNil)) (gName 3) (tFor (iList K (tCall sp_kinds_for [] C8.E0 (tCons (tVar 0) (tCons (tVar 1) (tCons (tVar 3) tNil))))) (gName 4) (tDrop (tBM K "list" rAppend (tVar 2) (tCons (tTup (tCons (tVar 3) (tCons (tVar 4) tNil))) tNil)))))
    (tRet (tVar 2))))
def t_play_after (K : PySem.W.Frag) (mg : Mg) (sp_Play_init : Sp) : TS :=
  (tSeq (tAsg (tLc (iZip K (tCons (tFld K (tVar 1) "things") (tCons (tFld K (tOp (rIxL K) (tVar 0) (tVar 2)) "gives") tNil))) (gTup K 2 (gCons (gName 5) (gCons (gName 6) gNil))) tYes (tOp rAddI (tVar 5) (tVar 6)) [5, 6]) (gName 4))
    (tSeq (tIfS (tTest (tOp rNe (tVar 3) (tC (.int (-1))))) (tAsg (tOp rSubI (tOp (rIxL K) (tVar 4) (tVar 3)) (tC (.int 1))) (gSub (tVar 4) (tVar 3) rSetL)) tNext)
    (tRet (tMake (adr mg "Play") sp_Play_init [] C8.E0 (tCons (tCB (rSortedI K) (tCons (tOp rCat (tFld K (tVar 1) "done") (tLst (tCons (tVar 2) tNil))) tNil)) (tCons (tVar 4) tNil))))))
def t_closure_of (K : PySem.W.Frag) (mg : Mg) (sp_are_met : Sp) : TS :=
  (tSeq (tAsg (tCB (rListS K) (tCons (tVar 1) tNil)) (gName 2))
    (tSeq (tAsg (tC (.bl true)) (gName 3))
    (tSeq (tWhile (tB (tVar 3)) (tSeq (tAsg (tLc (iRng1 (tCons (tCB (rLenS K) (tCons (tVar 0) tNil)) tNil)) (gName 5) (tAnd (tTest (tOp (rIn K true) (tVar 5) (tVar 2))) (tB (tCall sp_are_met [] C8.E0 (tCons (tFld K (tOp (rIxL K) (tVar 0) (tVar 5)) "needs") (tCons (tVar 2) tNil))))) (tVar 5) [5]) (gName 4))
    (tSeq (tAsg (tOp rCat (tVar 2) (tVar 4)) (gName 2))
    (tAsg (tOp rGtI (tCB (rLenS K) (tCons (tVar 4) tNil)) (tC (.int 0))) (gName 3)))))
    (tRet (tCB (rSortedI K) (tCons (tVar 2) tNil))))))
def t_share_a_kind (K : PySem.W.Frag) (mg : Mg) : TS :=
  (tRet (tCB (rAny K) (tCons (tLc (iList K (tVar 0)) (gName 2) tYes (tOp (rIn K false) (tVar 2) (tVar 1)) [2]) tNil)))
def t_rivals_of (K : PySem.W.Frag) (mg : Mg) (sp_share_a_kind : Sp) : TS :=
  (tSeq (tAsg (tFld K (tOp (rIxL K) (tVar 0) (tVar 1)) "uses") (gName 2))
    (tRet (tLc (iRng1 (tCons (tCB (rLenS K) (tCons (tVar 0) tNil)) tNil)) (gName 3) (tAnd (tTest (tOp rNe (tVar 3) (tVar 1))) (tB (tCall sp_share_a_kind [] C8.E0 (tCons (tFld K (tOp (rIxL K) (tVar 0) (tVar 3)) "uses") (tCons (tVar 2) tNil))))) (tVar 3) [3])))
def t_count_things (K : PySem.W.Frag) (mg : Mg) : TS :=
  (tSeq (tAsg (tCB (rSum K) (tCons (tLc (iList K (tVar 1)) (gName 5) tYes (tOp (rIxL K) (tFld K (tVar 0) "first") (tVar 5)) [5]) tNil)) (gName 3))
    (tSeq (tFor (iList K (tVar 2)) (gName 4) (tAsg (tOp rAddI (tVar 3) (tCB (rSum K) (tCons (tLc (iList K (tVar 1)) (gName 5) tYes (tOp (rIxL K) (tFld K (tOp (rIxL K) (tFld K (tVar 0) "deeds") (tVar 4)) "gives") (tVar 5)) [5]) tNil))) (gName 3)))
    (tRet (tVar 3))))
def t_is_sure (K : PySem.W.Frag) (mg : Mg) (sp_are_met sp_count_things sp_rivals_of : Sp) : TS :=
  (tSeq (tAsg (tOp (rIxL K) (tFld K (tVar 0) "deeds") (tVar 1)) (gName 3))
    (tSeq (tIfS (tNot (tB (tCall sp_are_met [] C8.E0 (tCons (tFld K (tVar 3) "needs") (tCons (tVar 2) tNil))))) (tRet (tC (.bl false))) tNext)
    (tSeq (tIfS (tTest (tOp rEq (tCB (rLenS K) (tCons (tFld K (tVar 3) "uses") tNil)) (tC (.int 0)))) (tRet (tC (.bl true))) tNext)
    (tRet (tOp rGtI (tCall sp_count_things [] C8.E0 (tCons (tVar 0) (tCons (tFld K (tVar 3) "uses") (tCons (tVar 2) tNil)))) (tCB (rLenS K) (tCons (tCall sp_rivals_of [] C8.E0 (tCons (tFld K (tVar 0) "deeds") (tCons (tVar 1) tNil))) tNil)))))))
def t_told_ranks (K : PySem.W.Frag) (mg : Mg) (sp_is_sure : Sp) : TS :=
  (tSeq (tAsg (tCB (rLenS K) (tCons (tFld K (tVar 0) "deeds") tNil)) (gName 1))
    (tSeq (tAsg (tOp rRep (tLst (tCons (tC (.int 0)) tNil)) (tVar 1)) (gName 2))
    (tSeq (tFor (iRng2 (tCons (tC (.int 1)) (tCons (tOp rAddI (tVar 1) (tC (.int 1))) tNil))) (gName 3) (tSeq (tAsg (tLc (iRng1 (tCons (tVar 1) tNil)) (gName 5) (tTest (tOp rGtI (tOp (rIxL K) (tVar 2) (tVar 5)) (tC (.int 0)))) (tVar 5) [5]) (gName 4))
    (tFor (iRng1 (tCons (tVar 1) tNil)) (gName 5) (tIfS (tAnd (tTest (tOp rEq (tOp (rIxL K) (tVar 2) (tVar 5)) (tC (.int 0)))) (tB (tCall sp_is_sure [] C8.E0 (tCons (tVar 0) (tCons (tVar 5) (tCons (tVar 4) tNil)))))) (tAsg (tVar 3) (gSub (tVar 2) (tVar 5) rSetL)) tNext))))
    (tRet (tVar 2)))))
def t_are_accepted (K : PySem.W.Frag) (mg : Mg) (sp_is_sure : Sp) : TS :=
  (tSeq (tIfS (tTest (tOp rNe (tCB (rLenS K) (tCons (tVar 1) tNil)) (tCB (rLenS K) (tCons (tFld K (tVar 0) "deeds") tNil)))) (tRet (tC (.bl false))) tNext)
    (tSeq (tFor (iEnum K (tCons (tVar 1) tNil)) (gTup K 2 (gCons (gName 2) (gCons (gName 3) gNil))) (tSeq (tAsg (tLc (iRng1 (tCons (tCB (rLenS K) (tCons (tVar 1) tNil)) tNil)) (gName 5) (tTest (tOp rLtI (tOp (rIxL K) (tVar 1) (tVar 5)) (tVar 3))) (tVar 5) [5]) (gName 4))
    (tIfS (tNot (tB (tCall sp_is_sure [] C8.E0 (tCons (tVar 0) (tCons (tVar 2) (tCons (tVar 4) tNil)))))) (tRet (tC (.bl false))) tNext)))
    (tRet (tC (.bl true)))))
def t_cut_calls (K : PySem.W.Frag) (mg : Mg) : TS :=
  (tSeq (tAsg (tLst tNil) (gName 1))
    (tSeq (tAsg (tC (.int 0)) (gName 2))
    (tSeq (tWhile (tTest (tOp rLtI (tVar 2) (tCB (rLenS K) (tCons (tVar 0) tNil)))) (tSeq (tAsg (tOp (rIxL K) (tVar 0) (tVar 2)) (gName 3))
    (tSeq (tAsg (tOp rAddI (tVar 2) (tC (.int 1))) (gName 2))
    (tSeq (tAsg (tLst tNil) (gName 4))
    (tSeq (tFor (iTup K (tOp (rIxKI K) (tC (.ref (adr mg "SHAPES"))) (tVar 3))) (gName 5) (tSeq (tAsg (tOp rAddI (tVar 2) (tC (.int 1))) (gName 6))
    (tSeq (tIfS (tTest (tOp rEq (tVar 5) (tC (.str "row")))) (tSeq (tAsg (tOp rAddI (tVar 6) (tOp (rIxL K) (tVar 0) (tVar 2))) (gName 6))
    (tDrop (tBM K "list" rAppend (tVar 4) (tCons (tSl (rSlL K) (tVar 0) (tPart (tOp rAddI (tVar 2) (tC (.int 1)))) (tPart (tVar 6))) tNil)))) (tDrop (tBM K "list" rAppend (tVar 4) (tCons (tOp (rIxL K) (tVar 0) (tVar 2)) tNil))))
    (tAsg (tVar 6) (gName 2)))))
    (tDrop (tBM K "list" rAppend (tVar 1) (tCons (tTup (tCons (tVar 3) (tCons (tVar 4) tNil))) tNil))))))))
    (tRet (tVar 1)))))
def t_cut_needs (K : PySem.W.Frag) (mg : Mg) : TS :=
  (tSeq (tAsg (tLst (tCons (tLst tNil) tNil)) (gName 1))
    (tSeq (tFor (iList K (tVar 0)) (gName 2) (tIfS (tTest (tOp rEq (tVar 2) (tUn rNeg (tC (.int 1))))) (tDrop (tBM K "list" rAppend (tVar 1) (tCons (tLst tNil) tNil))) (tDrop (tBM K "list" rAppend (tOp (rIxL K) (tVar 1) (tUn rNeg (tC (.int 1)))) (tCons (tVar 2) tNil)))))
    (tRet (tVar 1))))
def t_is_list_within (K : PySem.W.Frag) (mg : Mg) : TS :=
  (tRet (tAndV (tOp rLeI (tCB (rLenS K) (tCons (tVar 0) tNil)) (tVar 1)) (tCB (rAll K) (tCons (tLc (iList K (tVar 0)) (gName 4) tYes (tChain rLeI rLeI (tVar 2) (tVar 4) (tVar 3)) [4]) tNil))))
def t_is_rising (K : PySem.W.Frag) (mg : Mg) : TS :=
  (tRet (tCB (rAll K) (tCons (tLc (iRng2 (tCons (tC (.int 1)) (tCons (tCB (rLenS K) (tCons (tVar 0) tNil)) tNil))) (gName 1) tYes (tOp rLtI (tOp (rIxL K) (tVar 0) (tOp rSubI (tVar 1) (tC (.int 1)))) (tOp (rIxL K) (tVar 0) (tVar 1))) [1]) tNil)))
def t_is_deed_number (K : PySem.W.Frag) (mg : Mg) : TS :=
  (tRet (tChain rLeI rLeI (tC (.int 0)) (tVar 0) (tC (.int (15)))))
def t_refuse_house (K : PySem.W.Frag) (mg : Mg) (sp_is_list_within : Sp) : TS :=
  (tSeq (tIfS (tNot (tB (tCall sp_is_list_within [] C8.E0 (tCons (tOp (rIxL K) (tVar 1) (tC (.int 0))) (tCons (tC (.int (5))) (tCons (tC (.int 0)) (tCons (tC (.int 20)) tNil))))))) (tRet (tC (.int (-1)))) tNext)
    (tSeq (tIfS (tTest (tOp rNotN (tVar 0) (tC .non))) (tRet (tC (.int (-5)))) tNext)
    (tRet (tC (.int (0))))))
def t_is_deed_as_told (K : PySem.W.Frag) (mg : Mg) (sp_is_list_within sp_is_rising : Sp) : TS :=
  (tSeq (tIfS (tNot (tB (tCall sp_is_list_within [] C8.E0 (tCons (tVar 0) (tCons (tC (.int 40)) (tCons (tUn rNeg (tC (.int 1))) (tCons (tC (.int (15))) tNil))))))) (tRet (tC (.bl false))) tNext)
    (tSeq (tIfS (tOr (tNot (tB (tCall sp_is_list_within [] C8.E0 (tCons (tVar 1) (tCons (tC (.int (5))) (tCons (tC (.int 0)) (tCons (tC (.int (4))) tNil))))))) (tNot (tB (tCall sp_is_rising [] C8.E0 (tCons (tVar 1) tNil))))) (tRet (tC (.bl false))) tNext)
    (tRet (tCall sp_is_list_within [] C8.E0 (tCons (tVar 2) (tCons (tC (.int (5))) (tCons (tC (.int 0)) (tCons (tC (.int 9)) tNil))))))))
def t_refuse_deed (K : PySem.W.Frag) (mg : Mg) (sp_is_deed_as_told : Sp) : TS :=
  (tSeq (tAsg (tOp (rIxL K) (tVar 1) (tC (.int 1))) (gName 2))
    (tSeq (tAsg (tOp (rIxL K) (tVar 1) (tC (.int 2))) (gName 3))
    (tSeq (tIfS (tNot (tB (tCall sp_is_deed_as_told [] C8.E0 (tCons (tOp (rIxL K) (tVar 1) (tC (.int 0))) (tCons (tVar 2) (tCons (tVar 3) tNil)))))) (tRet (tC (.int (-1)))) tNext)
    (tSeq (tIfS (tTest (tOp rIsN (tVar 0) (tC .non))) (tRet (tC (.int (-2)))) tNext)
    (tSeq (tAsg (tCB (rLenS K) (tCons (tFld K (tVar 0) "first") tNil)) (gName 4))
    (tSeq (tIfS (tB (tCB (rAny K) (tCons (tLc (iList K (tVar 2)) (gName 5) tYes (tOp rGeI (tVar 5) (tVar 4)) [5]) tNil))) (tRet (tC (.int (-3)))) tNext)
    (tSeq (tIfS (tTest (tOp rEq (tCB (rLenS K) (tCons (tFld K (tVar 0) "deeds") tNil)) (tC (.int (16))))) (tRet (tC (.int (-4)))) tNext)
    (tSeq (tIfS (tTest (tOp rNe (tCB (rLenS K) (tCons (tVar 3) tNil)) (tVar 4))) (tRet (tC (.int (-6)))) tNext)
    (tSeq (tIfS (tTest (tOp rGtI (tCB (rLenS K) (tCons (tFld K (tFld K (tVar 0) "play") "done") tNil)) (tC (.int 0)))) (tRet (tC (.int (-7)))) tNext)
    (tRet (tC (.int (0)))))))))))))
def t_refuse_act (K : PySem.W.Frag) (mg : Mg) (sp_is_deed_number sp_kinds_for : Sp) : TS :=
  (tSeq (tAsg (tOp (rIxL K) (tVar 1) (tC (.int 0))) (gName 2))
    (tSeq (tAsg (tOp (rIxL K) (tVar 1) (tC (.int 1))) (gName 3))
    (tSeq (tIfS (tOr (tNot (tB (tCall sp_is_deed_number [] C8.E0 (tCons (tVar 2) tNil)))) (tNot (tTest (tChain rLeI rLeI (tUn rNeg (tC (.int 1))) (tVar 3) (tC (.int (4))))))) (tRet (tC (.int (-1)))) tNext)
    (tSeq (tIfS (tTest (tOp rIsN (tVar 0) (tC .non))) (tRet (tC (.int (-2)))) tNext)
    (tSeq (tIfS (tTest (tOp rGeI (tVar 2) (tCB (rLenS K) (tCons (tFld K (tVar 0) "deeds") tNil)))) (tRet (tC (.int (-3)))) tNext)
    (tSeq (tIfS (tTest (tOp (rIn K true) (tVar 3) (tCall sp_kinds_for [] C8.E0 (tCons (tFld K (tVar 0) "deeds") (tCons (tFld K (tVar 0) "play") (tCons (tVar 2) tNil)))))) (tRet (tC (.int (-8)))) tNext)
    (tRet (tC (.int (0))))))))))
def t_refuse_bare (K : PySem.W.Frag) (mg : Mg) : TS :=
  (tSeq (tIfS (tTest (tOp rIsN (tVar 0) (tC .non))) (tRet (tC (.int (-2)))) tNext)
    (tRet (tC (.int (0)))))
def t_refuse_accepts (K : PySem.W.Frag) (mg : Mg) (sp_is_list_within sp_refuse_bare : Sp) : TS :=
  (tSeq (tIfS (tNot (tB (tCall sp_is_list_within [] C8.E0 (tCons (tOp (rIxL K) (tVar 1) (tC (.int 0))) (tCons (tC (.int (16))) (tCons (tC (.int 0)) (tCons (tC (.int 1000)) tNil))))))) (tRet (tC (.int (-1)))) tNext)
    (tRet (tCall sp_refuse_bare [] C8.E0 (tCons (tVar 0) (tCons (tVar 1) tNil)))))
def t_refuse_sure (K : PySem.W.Frag) (mg : Mg) (sp_is_deed_number sp_is_list_within sp_is_rising : Sp) : TS :=
  (tSeq (tAsg (tOp (rIxL K) (tVar 1) (tC (.int 0))) (gName 2))
    (tSeq (tAsg (tOp (rIxL K) (tVar 1) (tC (.int 1))) (gName 3))
    (tSeq (tIfS (tNot (tB (tCall sp_is_deed_number [] C8.E0 (tCons (tVar 2) tNil)))) (tRet (tC (.int (-1)))) tNext)
    (tSeq (tIfS (tOr (tNot (tB (tCall sp_is_list_within [] C8.E0 (tCons (tVar 3) (tCons (tC (.int (16))) (tCons (tC (.int 0)) (tCons (tC (.int (15))) tNil))))))) (tNot (tB (tCall sp_is_rising [] C8.E0 (tCons (tVar 3) tNil))))) (tRet (tC (.int (-1)))) tNext)
    (tSeq (tIfS (tTest (tOp rIsN (tVar 0) (tC .non))) (tRet (tC (.int (-2)))) tNext)
    (tSeq (tIfS (tB (tCB (rAny K) (tCons (tLc (iList K (tOp rCat (tLst (tCons (tVar 2) tNil)) (tVar 3))) (gName 4) tYes (tOp rGeI (tVar 4) (tCB (rLenS K) (tCons (tFld K (tVar 0) "deeds") tNil))) [4]) tNil))) (tRet (tC (.int (-3)))) tNext)
    (tRet (tC (.int (0))))))))))
def t_refuse_bound (K : PySem.W.Frag) (mg : Mg) (sp_is_list_within sp_is_rising : Sp) : TS :=
  (tSeq (tAsg (tOp (rIxL K) (tVar 1) (tC (.int 0))) (gName 2))
    (tSeq (tIfS (tOr (tNot (tB (tCall sp_is_list_within [] C8.E0 (tCons (tVar 2) (tCons (tC (.int (5))) (tCons (tC (.int 0)) (tCons (tC (.int (4))) tNil))))))) (tNot (tB (tCall sp_is_rising [] C8.E0 (tCons (tVar 2) tNil))))) (tRet (tC (.int (-1)))) tNext)
    (tSeq (tIfS (tTest (tOp rIsN (tVar 0) (tC .non))) (tRet (tC (.int (-2)))) tNext)
    (tSeq (tIfS (tB (tCB (rAny K) (tCons (tLc (iList K (tVar 2)) (gName 3) tYes (tOp rGeI (tVar 3) (tCB (rLenS K) (tCons (tFld K (tVar 0) "first") tNil))) [3]) tNil))) (tRet (tC (.int (-3)))) tNext)
    (tRet (tC (.int (0))))))))
def t_refuse_deed_number (K : PySem.W.Frag) (mg : Mg) (sp_is_deed_number : Sp) : TS :=
  (tSeq (tAsg (tOp (rIxL K) (tVar 1) (tC (.int 0))) (gName 2))
    (tSeq (tIfS (tNot (tB (tCall sp_is_deed_number [] C8.E0 (tCons (tVar 2) tNil)))) (tRet (tC (.int (-1)))) tNext)
    (tSeq (tIfS (tTest (tOp rIsN (tVar 0) (tC .non))) (tRet (tC (.int (-2)))) tNext)
    (tSeq (tIfS (tTest (tOp rGeI (tVar 2) (tCB (rLenS K) (tCons (tFld K (tVar 0) "deeds") tNil)))) (tRet (tC (.int (-3)))) tNext)
    (tRet (tC (.int (0))))))))
def t_refusal_of (K : PySem.W.Frag) (mg : Mg) (dyn_refuse : Addr → Sp → Prop) : TS :=
  (tSeq (tAsg (tOp (rIxKI K) (tC (.ref (adr mg "REFUSALS"))) (tVar 1)) (gName 3))
    (tRet (tCallS 3 dyn_refuse (tCons (tVar 0) (tCons (tVar 2) tNil)))))
def t_count_all (K : PySem.W.Frag) (mg : Mg) (sp_count_things : Sp) : TS :=
  (tRet (tCall sp_count_things [] C8.E0 (tCons (tVar 0) (tCons (tVar 1) (tCons (tLstRg (tRg1 (tCB (rLenS K) (tCons (tFld K (tVar 0) "deeds") tNil)))) tNil)))))
def t_put_in (K : PySem.W.Frag) (mg : Mg) : TS :=
  (tFor (iList K (tFld K (tOp (rIxL K) (tVar 1) (tVar 2)) "uses")) (gName 3) (tIfS (tB (tDNotIn (tVar 3) (tVar 0))) (sDPut (tVar 0) (tVar 3) (tVar 2)) tNext))
def t_row_of_kinds (K : PySem.W.Frag) (mg : Mg) (sp_put_in : Sp) : TS :=
  (tSeq (tAsg tDNewK (gName 3))
    (tSeq (tDrop (tCall sp_put_in [] C8.E0 (tCons (tVar 3) (tCons (tVar 0) (tCons (tVar 2) tNil)))))
    (tSeq (tAsg (tC (.int 0)) (gName 4))
    (tSeq (tWhile (tTest (tOp rLtI (tVar 4) (tCB rLenD (tCons (tVar 3) tNil)))) (tSeq (tAsg (tOp (rIxL K) (tCB rListDk (tCons (tVar 3) tNil)) (tVar 4)) (gName 5))
    (tSeq (tFor (iRng1 (tCons (tCB (rLenS K) (tCons (tVar 0) tNil)) tNil)) (gName 6) (tIfS (tTest (tOp rEq (tOp (rIxL K) (tVar 1) (tVar 6)) (tVar 5))) (tDrop (tCall sp_put_in [] C8.E0 (tCons (tVar 3) (tCons (tVar 0) (tCons (tVar 6) tNil))))) tNext))
    (tAsg (tOp rAddI (tVar 4) (tC (.int 1))) (gName 4)))))
    (tRet (tVar 3))))))
def t_first_free (K : PySem.W.Frag) (mg : Mg) : TS :=
  (tSeq (tLock (tFor (iKeys (tVar 0)) (gName 3) (tIfS (tTest (tOp rGtI (tOp (rIxL K) (tVar 2) (tVar 3)) (tBM K "list" (rCntI K) (tVar 1) (tCons (tVar 3) tNil)))) (tRet (tVar 3)) tNext)))
    (tRet (tC (.int (-1)))))
def t_hand_on (K : PySem.W.Frag) (mg : Mg) : TS :=
  (tWhile (tTest (tOp rNe (tVar 2) (tC (.int (-1))))) (tSeq (tAsg (tDGet (tVar 0) (tVar 2)) (gName 3))
    (tSeq (tAsg (tOp (rIxL K) (tVar 1) (tVar 3)) (gName 4))
    (tSeq (tAsg (tVar 2) (gSub (tVar 1) (tVar 3) rSetL))
    (tAsg (tVar 4) (gName 2))))))
def t_told_giving_out (K : PySem.W.Frag) (mg : Mg) (sp_count_all sp_first_free sp_hand_on sp_row_of_kinds : Sp) : TS :=
  (tSeq (tAsg (tFld K (tVar 0) "deeds") (gName 1))
    (tSeq (tAsg (tLc (iRng1 (tCons (tCB (rLenS K) (tCons (tFld K (tVar 0) "first") tNil)) tNil)) (gName 6) tYes (tCall sp_count_all [] C8.E0 (tCons (tVar 0) (tCons (tLst (tCons (tVar 6) tNil)) tNil))) [6]) (gName 2))
    (tSeq (tAsg (tOp rRep (tLst (tCons (tC (.int (-1))) tNil)) (tCB (rLenS K) (tCons (tVar 1) tNil))) (gName 3))
    (tSeq (tFor (iRng1 (tCons (tCB (rLenS K) (tCons (tVar 1) tNil)) tNil)) (gName 4) (tSeq (tAsg (tCall sp_row_of_kinds [] C8.E0 (tCons (tVar 1) (tCons (tVar 3) (tCons (tVar 4) tNil)))) (gName 5))
    (tDrop (tCall sp_hand_on [] C8.E0 (tCons (tVar 5) (tCons (tVar 3) (tCons (tCall sp_first_free [] C8.E0 (tCons (tVar 5) (tCons (tVar 3) (tCons (tVar 2) tNil)))) tNil)))))))
    (tRet (tVar 3))))))
def t_told_set (K : PySem.W.Frag) (mg : Mg) (sp_row_of_kinds : Sp) : TS :=
  (tSeq (tAsg tDNewK (gName 2))
    (tSeq (tFor (iRng1 (tCons (tCB (rLenS K) (tCons (tFld K (tVar 0) "deeds") tNil)) tNil)) (gName 3) (tIfS (tTest (tOp rEq (tOp (rIxL K) (tVar 1) (tVar 3)) (tC (.int (-1))))) (tFor (iKeysN (tCall sp_row_of_kinds [] C8.E0 (tCons (tFld K (tVar 0) "deeds") (tCons (tVar 1) (tCons (tVar 3) tNil))))) (gName 4) (sDPut (tVar 2) (tVar 4) (tC (.bl true)))) tNext))
    (tRet (tCB rSortDk (tCons (tVar 2) tNil)))))
def t_uses_another (K : PySem.W.Frag) (mg : Mg) : TS :=
  (tRet (tCB (rAny K) (tCons (tLc (iList K (tFld K (tVar 0) "uses")) (gName 2) tYes (tOp (rIn K true) (tVar 2) (tVar 1)) [2]) tNil)))
def t_bound_of (K : PySem.W.Frag) (mg : Mg) (sp_count_all sp_uses_another : Sp) : TS :=
  (tSeq (tAsg (tLc (iList K (tFld K (tVar 0) "deeds")) (gName 3) (tB (tCall sp_uses_another [] C8.E0 (tCons (tVar 3) (tCons (tVar 1) tNil)))) (tVar 3) [3]) (gName 2))
    (tRet (tOp rAddI (tCB (rLenS K) (tCons (tVar 2) tNil)) (tCall sp_count_all [] C8.E0 (tCons (tVar 0) (tCons (tVar 1) tNil))))))
def t_Entry_init (K : PySem.W.Frag) (mg : Mg) : TS :=
  (tSeq (sFld K (tVar 0) (tVar 1) "play")
    (tSeq (sFld K (tVar 0) (tVar 2) "origin")
    (tSeq (sFld K (tVar 0) (tVar 3) "taken")
    (sFld K (tVar 0) (tLst tNil) "onward"))))
def t_mark_of (K : PySem.W.Frag) (mg : Mg) : TS :=
  (tRet (tTup (tCons (tCB (rTupS K) (tCons (tFld K (tVar 0) "done") tNil)) (tCons (tCB (rTupS K) (tCons (tFld K (tVar 0) "things") tNil)) tNil))))
def t_row_from (K : PySem.W.Frag) (mg : Mg) (E : XK) (sp_all_steps sp_mark_of sp_play_after sp_Entry_init : Sp) : TS :=
  (tSeq (tAsg (tFld K (tVar 0) "deeds") (gName 2))
    (tSeq (tAsg (tLst (tCons (tMake (adr mg "Entry") sp_Entry_init [] C8.E0 (tCons (tFld K (tVar 0) "play") (tCons (tC (.int 0)) (tCons (tC .non) tNil)))) tNil)) (gName 3))
    (tSeq (tAsg (tND1 (tCall sp_mark_of [] C8.E0 (tCons (tFld K (tVar 0) "play") tNil)) (tC (.int 0))) (gName 4))
    (tSeq (tAsg (tC (.int 0)) (gName 5))
    (tSeq (tWhile (tTest (tOp rLtI (tVar 5) (tCB (rLenS K) (tCons (tVar 3) tNil)))) (tSeq (tAsg (tOp (rIxL K) (tVar 3) (tVar 5)) (gName 6))
    (tSeq (tFor (iList K (tCall sp_all_steps [] C8.E0 (tCons (tVar 2) (tCons (tFld K (tVar 6) "play") tNil)))) (gTup K 2 (gCons (gName 7) (gCons (gName 8) gNil))) (tIfS (tTest (tOp rNe (tVar 7) (tVar 1))) (tSeq (tAsg (tCall sp_play_after [] C8.E0 (tCons (tVar 2) (tCons (tFld K (tVar 6) "play") (tCons (tVar 7) (tCons (tVar 8) tNil))))) (gName 9))
    (tSeq (tAsg (tCall sp_mark_of [] C8.E0 (tCons (tVar 9) tNil)) (gName 10))
    (tSeq (tIfS (tB (tNDNotIn (tVar 10) (tVar 4))) (tSeq (sNDPut (tVar 4) (tVar 10) (tCB (rLenS K) (tCons (tVar 3) tNil)))
    (tDrop (tBM K "list" rAppend (tVar 3) (tCons (tMake (adr mg "Entry") sp_Entry_init [] C8.E0 (tCons (tVar 9) (tCons (tVar 5) (tCons (tTup (tCons (tVar 7) (tCons (tVar 8) tNil))) tNil)))) tNil)))) tNext)
    (tDrop (tBM K "list" rAppend (tFld K (tVar 6) "onward") (tCons (tNDGet (tVar 4) (tVar 10)) tNil)))))) tNext))
    (tSeq (tIfS (tTest (tOp rGtI (tCB (rLenS K) (tCons (tVar 3) tNil)) (tC (.int (200))))) (tRaise E (.ref (adr mg "NoRow"))) tNext)
    (tAsg (tOp rAddI (tVar 5) (tC (.int 1))) (gName 5))))))
    (tRet (tVar 3)))))))
def t_places_with_end (K : PySem.W.Frag) (mg : Mg) (sp_is_end_done : Sp) : TS :=
  (tRet (tLc (iEnum K (tCons (tVar 0) tNil)) (gTup K 2 (gCons (gName 1) (gCons (gName 2) gNil))) (tB (tCall sp_is_end_done [] C8.E0 (tCons (tFld K (tVar 2) "play") tNil))) (tVar 1) [1, 2]))
def t_places_of_dead (K : PySem.W.Frag) (mg : Mg) (sp_is_end_done : Sp) : TS :=
  (tSeq (tAsg (tLc (iList K (tVar 0)) (gName 3) tYes (tCall sp_is_end_done [] C8.E0 (tCons (tFld K (tVar 3) "play") tNil)) [3]) (gName 1))
    (tSeq (tFor (iRng3 (tCons (tOp rSubI (tCB (rLenS K) (tCons (tVar 0) tNil)) (tC (.int 1))) (tCons (tUn rNeg (tC (.int 1))) (tCons (tUn rNeg (tC (.int 1))) tNil)))) (gName 2) (tIfS (tB (tCB (rAny K) (tCons (tLc (iList K (tFld K (tOp (rIxL K) (tVar 0) (tVar 2)) "onward")) (gName 4) tYes (tOp (rIxL K) (tVar 1) (tVar 4)) [4]) tNil))) (tAsg (tC (.bl true)) (gSub (tVar 1) (tVar 2) rSetL)) tNext))
    (tRet (tLc (iRng1 (tCons (tCB (rLenS K) (tCons (tVar 0) tNil)) tNil)) (gName 2) (tNot (tB (tOp (rIxL K) (tVar 1) (tVar 2)))) (tVar 2) [2]))))
def t_steps_to (K : PySem.W.Frag) (mg : Mg) : TS :=
  (tSeq (tAsg (tLst tNil) (gName 2))
    (tSeq (tWhile (tTest (tOp rGtI (tVar 1) (tC (.int 0)))) (tSeq (tDrop (tBM K "list" rAppend (tVar 2) (tCons (tFld K (tOp (rIxL K) (tVar 0) (tVar 1)) "taken") tNil)))
    (tAsg (tFld K (tOp (rIxL K) (tVar 0) (tVar 1)) "origin") (gName 1))))
    (tSeq (tDrop (tBM0 K "list" rReverse (tVar 2)))
    (tRet (tVar 2)))))
def t_as_number (K : PySem.W.Frag) (mg : Mg) : TS :=
  (tSeq (tIfS (tB (tVar 0)) (tRet (tC (.int 1))) tNext)
    (tRet (tC (.int 0))))
def t_flat (K : PySem.W.Frag) (mg : Mg) : TS :=
  (tSeq (tAsg (tLst tNil) (gName 1))
    (tSeq (tFor (iList K (tVar 0)) (gName 2) (tDrop (tBM K "list" rExtT (tVar 1) (tCons (tVar 2) tNil))))
    (tRet (tVar 1))))
def t_do_house (K : PySem.W.Frag) (mg : Mg) (sp_House_init : Sp) : TS :=
  (tSeq (sFld K (tVar 0) (tMake (adr mg "House") sp_House_init [] C8.E0 (tCons (tOp (rIxL K) (tVar 1) (tC (.int 0))) tNil)) "house")
    (tRet (tLst tNil)))
def t_do_deed (K : PySem.W.Frag) (mg : Mg) (sp_cut_needs sp_Deed_init : Sp) : TS :=
  (tSeq (tAsg (tFld K (tFld K (tVar 0) "house") "deeds") (gName 2))
    (tSeq (tDrop (tBM K "list" rAppend (tVar 2) (tCons (tMake (adr mg "Deed") sp_Deed_init [] C8.E0 (tCons (tCall sp_cut_needs [] C8.E0 (tCons (tOp (rIxL K) (tVar 1) (tC (.int 0))) tNil)) (tCons (tOp (rIxL K) (tVar 1) (tC (.int 1))) (tCons (tOp (rIxL K) (tVar 1) (tC (.int 2))) tNil)))) tNil)))
    (tRet (tLst (tCons (tOp rSubI (tCB (rLenS K) (tCons (tVar 2) tNil)) (tC (.int 1))) tNil)))))
def t_do_act (K : PySem.W.Frag) (mg : Mg) (sp_as_number sp_is_end_done sp_play_after : Sp) : TS :=
  (tSeq (tAsg (tFld K (tVar 0) "house") (gName 2))
    (tSeq (sFld K (tVar 2) (tCall sp_play_after [] C8.E0 (tCons (tFld K (tVar 2) "deeds") (tCons (tFld K (tVar 2) "play") (tCons (tOp (rIxL K) (tVar 1) (tC (.int 0))) (tCons (tOp (rIxL K) (tVar 1) (tC (.int 1))) tNil))))) "play")
    (tRet (tLst (tCons (tCall sp_as_number [] C8.E0 (tCons (tCall sp_is_end_done [] C8.E0 (tCons (tFld K (tVar 2) "play") tNil)) tNil)) tNil)))))
def t_do_again (K : PySem.W.Frag) (mg : Mg) (sp_Play_init : Sp) : TS :=
  (tSeq (tAsg (tFld K (tVar 0) "house") (gName 2))
    (tSeq (sFld K (tVar 2) (tMake (adr mg "Play") sp_Play_init [] C8.E0 (tCons (tLst tNil) (tCons (tFld K (tVar 2) "first") tNil))) "play")
    (tRet (tLst tNil))))
def t_tell_now (K : PySem.W.Frag) (mg : Mg) : TS :=
  (tSeq (tAsg (tFld K (tFld K (tVar 0) "house") "play") (gName 2))
    (tRet (tOp rCat (tOp rCat (tLst (tCons (tCB (rLenS K) (tCons (tFld K (tVar 2) "done") tNil)) tNil)) (tFld K (tVar 2) "done")) (tFld K (tVar 2) "things"))))
def t_tell_can (K : PySem.W.Frag) (mg : Mg) (sp_all_steps sp_flat : Sp) : TS :=
  (tSeq (tAsg (tFld K (tVar 0) "house") (gName 2))
    (tRet (tCall sp_flat [] C8.E0 (tCons (tCall sp_all_steps [] C8.E0 (tCons (tFld K (tVar 2) "deeds") (tCons (tFld K (tVar 2) "play") tNil))) tNil))))
def t_tell_closure (K : PySem.W.Frag) (mg : Mg) (sp_closure_of : Sp) : TS :=
  (tSeq (tAsg (tFld K (tVar 0) "house") (gName 2))
    (tRet (tCall sp_closure_of [] C8.E0 (tCons (tFld K (tVar 2) "deeds") (tCons (tFld K (tFld K (tVar 2) "play") "done") tNil)))))
def t_tell_ranks (K : PySem.W.Frag) (mg : Mg) (sp_told_ranks : Sp) : TS :=
  (tRet (tCall sp_told_ranks [] C8.E0 (tCons (tFld K (tVar 0) "house") tNil)))
def t_tell_accepts (K : PySem.W.Frag) (mg : Mg) (sp_are_accepted sp_as_number : Sp) : TS :=
  (tRet (tLst (tCons (tCall sp_as_number [] C8.E0 (tCons (tCall sp_are_accepted [] C8.E0 (tCons (tFld K (tVar 0) "house") (tCons (tOp (rIxL K) (tVar 1) (tC (.int 0))) tNil))) tNil)) tNil)))
def t_tell_sure (K : PySem.W.Frag) (mg : Mg) (sp_as_number sp_is_sure : Sp) : TS :=
  (tRet (tLst (tCons (tCall sp_as_number [] C8.E0 (tCons (tCall sp_is_sure [] C8.E0 (tCons (tFld K (tVar 0) "house") (tCons (tOp (rIxL K) (tVar 1) (tC (.int 0))) (tCons (tOp (rIxL K) (tVar 1) (tC (.int 1))) tNil)))) tNil)) tNil)))
def t_tell_served (K : PySem.W.Frag) (mg : Mg) (sp_flat sp_told_giving_out sp_told_set : Sp) : TS :=
  (tSeq (tAsg (tFld K (tVar 0) "house") (gName 2))
    (tSeq (tAsg (tCall sp_told_giving_out [] C8.E0 (tCons (tVar 2) tNil)) (gName 3))
    (tSeq (tAsg (tLc (iEnum K (tCons (tVar 3) tNil)) (gTup K 2 (gCons (gName 5) (gCons (gName 6) gNil))) (tTest (tOp rNe (tVar 6) (tC (.int (-1))))) (tTup (tCons (tVar 5) (tCons (tVar 6) tNil))) [5, 6]) (gName 4))
    (tRet (tOp rCat (tOp rCat (tLst (tCons (tCB (rLenS K) (tCons (tVar 4) tNil)) tNil)) (tCall sp_flat [] C8.E0 (tCons (tVar 4) tNil))) (tCall sp_told_set [] C8.E0 (tCons (tVar 2) (tCons (tVar 3) tNil))))))))
def t_tell_bound (K : PySem.W.Frag) (mg : Mg) (sp_bound_of : Sp) : TS :=
  (tRet (tLst (tCons (tCall sp_bound_of [] C8.E0 (tCons (tFld K (tVar 0) "house") (tCons (tOp (rIxL K) (tVar 1) (tC (.int 0))) tNil))) tNil)))
def t_tell_states (K : PySem.W.Frag) (mg : Mg) (sp_places_of_dead sp_row_from : Sp) : TS :=
  (tSeq (tTry K (.ref (adr mg "NoRow")) (fun W => (tAsg (L2.tCallS sp_row_from (WE W) (tCons (tFld K (tVar 0) "house") (tCons (tC (.int (-1))) tNil))) (gName 2))) (fun _ _ _ => (tRet (tLst (tCons (tC (.int 0)) tNil)))))
    (tRet (tLst (tCons (tC (.int 1)) (tCons (tCB (rLenS K) (tCons (tVar 2) tNil)) (tCons (tCB (rLenS K) (tCons (tCall sp_places_of_dead [] C8.E0 (tCons (tVar 2) tNil)) tNil)) tNil))))))
def t_tell_dead (K : PySem.W.Frag) (mg : Mg) (E : XK) (sp_as_number sp_places_of_dead sp_row_from : Sp) : TS :=
  (tSeq (tAsg (tCall sp_row_from [] E (tCons (tFld K (tVar 0) "house") (tCons (tC (.int (-1))) tNil))) (gName 2))
    (tRet (tLst (tCons (tCall sp_as_number [] C8.E0 (tCons (tOp (rIn K false) (tC (.int 0)) (tCall sp_places_of_dead [] C8.E0 (tCons (tVar 2) tNil))) tNil)) tNil))))
def t_told_way (K : PySem.W.Frag) (mg : Mg) (sp_flat sp_steps_to : Sp) : TS :=
  (tSeq (tIfS (tTest (tOp rEq (tCB (rLenS K) (tCons (tVar 1) tNil)) (tC (.int 0)))) (tRet (tLst (tCons (tC (.int 0)) tNil))) tNext)
    (tRet (tOp rCat (tLst (tCons (tC (.int 1)) tNil)) (tCall sp_flat [] C8.E0 (tCons (tCall sp_steps_to [] C8.E0 (tCons (tVar 0) (tCons (tOp (rIxL K) (tVar 1) (tC (.int 0))) tNil))) tNil)))))
def t_tell_way (K : PySem.W.Frag) (mg : Mg) (E : XK) (sp_places_with_end sp_row_from sp_told_way : Sp) : TS :=
  (tSeq (tAsg (tCall sp_row_from [] E (tCons (tFld K (tVar 0) "house") (tCons (tC (.int (-1))) tNil))) (gName 2))
    (tRet (tCall sp_told_way [] C8.E0 (tCons (tVar 2) (tCons (tCall sp_places_with_end [] C8.E0 (tCons (tVar 2) tNil)) tNil)))))
def t_tell_doom (K : PySem.W.Frag) (mg : Mg) (E : XK) (sp_places_of_dead sp_row_from sp_told_way : Sp) : TS :=
  (tSeq (tAsg (tCall sp_row_from [] E (tCons (tFld K (tVar 0) "house") (tCons (tC (.int (-1))) tNil))) (gName 2))
    (tRet (tCall sp_told_way [] C8.E0 (tCons (tVar 2) (tCons (tCall sp_places_of_dead [] C8.E0 (tCons (tVar 2) tNil)) tNil)))))
def t_tell_must (K : PySem.W.Frag) (mg : Mg) (E : XK) (sp_as_number sp_places_with_end sp_row_from : Sp) : TS :=
  (tSeq (tAsg (tCall sp_row_from [] E (tCons (tFld K (tVar 0) "house") (tCons (tOp (rIxL K) (tVar 1) (tC (.int 0))) tNil))) (gName 2))
    (tRet (tLst (tCons (tCall sp_as_number [] C8.E0 (tCons (tOp rEq (tCB (rLenS K) (tCons (tCall sp_places_with_end [] C8.E0 (tCons (tVar 2) tNil)) tNil)) (tC (.int 0))) tNil)) tNil))))
def t_tell_look (K : PySem.W.Frag) (mg : Mg) : TS :=
  (tSeq (tAsg (tOp (rIxL K) (tFld K (tFld K (tVar 0) "house") "deeds") (tOp (rIxL K) (tVar 1) (tC (.int 0)))) (gName 2))
    (tSeq (tAsg (tLst (tCons (tCB (rLenS K) (tCons (tFld K (tVar 2) "needs") tNil)) tNil)) (gName 3))
    (tSeq (tFor (iList K (tFld K (tVar 2) "needs")) (gName 4) (tSeq (tDrop (tBM K "list" rAppend (tVar 3) (tCons (tCB (rLenS K) (tCons (tVar 4) tNil)) tNil)))
    (tDrop (tBM K "list" rExtend (tVar 3) (tCons (tVar 4) tNil)))))
    (tRet (tOp rCat (tOp rCat (tOp rCat (tVar 3) (tLst (tCons (tCB (rLenS K) (tCons (tFld K (tVar 2) "uses") tNil)) tNil))) (tFld K (tVar 2) "uses")) (tFld K (tVar 2) "gives"))))))
def t_tell_rivals (K : PySem.W.Frag) (mg : Mg) (sp_count_all sp_rivals_of : Sp) : TS :=
  (tSeq (tAsg (tFld K (tVar 0) "house") (gName 2))
    (tSeq (tAsg (tOp (rIxL K) (tVar 1) (tC (.int 0))) (gName 3))
    (tRet (tLst (tCons (tCB (rLenS K) (tCons (tCall sp_rivals_of [] C8.E0 (tCons (tFld K (tVar 2) "deeds") (tCons (tVar 3) tNil))) tNil)) (tCons (tCall sp_count_all [] C8.E0 (tCons (tVar 2) (tCons (tFld K (tOp (rIxL K) (tFld K (tVar 2) "deeds") (tVar 3)) "uses") tNil))) tNil))))))
def t_answer_call (K : PySem.W.Frag) (mg : Mg) (sp_refusal_of : Sp) (dyn_call : Addr → Sp → Prop) : TS :=
  (tSeq (tAsg (tCall sp_refusal_of [] C8.E0 (tCons (tFld K (tVar 0) "house") (tCons (tVar 1) (tCons (tVar 2) tNil)))) (gName 3))
    (tSeq (tIfS (tTest (tOp rNe (tVar 3) (tC (.int (0))))) (tRet (tLst (tCons (tVar 3) tNil))) tNext)
    (tSeq (tAsg (tOp (rIxKI K) (tC (.ref (adr mg "CALLS"))) (tVar 1)) (gName 4))
    (tSeq (tTry K (.ref (adr mg "NoRow")) (fun W => (tAsg (tDynS 4 dyn_call (WE W) (tCons (tVar 0) (tCons (tVar 2) tNil))) (gName 5))) (fun _ _ _ => (tRet (tLst (tCons (tC (.int (-9))) tNil)))))
    (tRet (tOp rCat (tLst (tCons (tC (.int 0)) tNil)) (tVar 5)))))))
def t_answers (K : PySem.W.Frag) (mg : Mg) (sp_answer_call sp_cut_calls sp_Line_init : Sp) : TS :=
  (tSeq (tAsg (tMake (adr mg "Line") sp_Line_init [] C8.E0 tNil) (gName 1))
    (tSeq (tAsg (tLst tNil) (gName 2))
    (tSeq (tFor (iList K (tCall sp_cut_calls [] C8.E0 (tCons (tVar 0) tNil))) (gTup K 2 (gCons (gName 3) (gCons (gName 4) gNil))) (tSeq (tAsg (tCall sp_answer_call [] C8.E0 (tCons (tVar 1) (tCons (tVar 3) (tCons (tVar 4) tNil)))) (gName 5))
    (tSeq (tDrop (tBM K "list" rAppend (tVar 2) (tCons (tCB (rLenS K) (tCons (tVar 5) tNil)) tNil)))
    (tDrop (tBM K "list" rExtend (tVar 2) (tCons (tVar 5) tNil))))))
    (tRet (tVar 2)))))
end DH
namespace DH
open PySem PySem.Spec PyProof.Rows L2
/-! ### data and heaps: G is what is known and stands still, H the heap; R a v G: v stands for a in G -/
abbrev Rel (α : Type) := α → V → Hp → Prop
class Mono {α : Type} (R : Rel α) : Prop where
  up : ∀ {a : α} {v : V} {H H' : Hp}, Same H H' → R a v H → R a v H'
def RI : Rel Int := fun i v _ => v = .int i
def RN : Rel Nat := fun n v _ => v = .int (n : Int)
def RB : Rel Bool := fun b v _ => v = .bl b
instance : Mono RI := ⟨fun _ h => h⟩
instance : Mono RN := ⟨fun _ h => h⟩
instance : Mono RB := ⟨fun _ h => h⟩
/-- item by item -/
def All2 {α : Type} (R : Rel α) (H : Hp) : List α → List V → Prop
  | [], [] => True
  | a :: l, x :: xs => R a x H ∧ All2 R H l xs
  | _, _ => False
section
variable {α β : Type} {R : Rel α} {H H' : Hp}
theorem All2.nil : All2 R H [] [] := trivial
theorem All2.cons {a : α} {l : List α} {x : V} {xs : List V} (h : R a x H) (t : All2 R H l xs) : All2 R H (a :: l) (x :: xs) := ⟨h, t⟩
theorem All2.up [Mono R] (e : Same H H') : ∀ {l : List α} {xs : List V}, All2 R H l xs → All2 R H' l xs
  | [], [], _ => trivial
  | _ :: _, _ :: _, ⟨h, t⟩ => ⟨Mono.up e h, All2.up e t⟩
  | [], _ :: _, h => h.elim
  | _ :: _, [], h => h.elim
theorem All2.len : ∀ {l : List α} {xs : List V}, All2 R H l xs → xs.length = l.length
  | [], [], _ => rfl
  | _ :: _, _ :: _, ⟨_, t⟩ => congrArg (· + 1) (All2.len t)
  | [], _ :: _, h => h.elim
  | _ :: _, [], h => h.elim
theorem All2.app : ∀ {l m : List α} {xs ys : List V}, All2 R H l xs → All2 R H m ys → All2 R H (l ++ m) (xs ++ ys)
  | [], _, [], _, _, q => q
  | _ :: _, _, _ :: _, _, ⟨h, t⟩, q => ⟨h, All2.app t q⟩
  | [], _, _ :: _, _, h, _ => h.elim
  | _ :: _, _, [], _, h, _ => h.elim
theorem All2.one {a : α} {x : V} (h : R a x H) : All2 R H [a] [x] := ⟨h, trivial⟩
theorem All2.get : ∀ {l : List α} {xs : List V} {i : Nat} {x : V}, All2 R H l xs → xs[i]? = some x → ∃ a, l[i]? = some a ∧ R a x H
  | [], [], i, x, _, e => by simp at e
  | a :: _, _ :: _, 0, x, ⟨h, _⟩, e => ⟨a, rfl, by cases (Option.some.inj e); exact h⟩
  | _ :: l, _ :: xs, i + 1, x, ⟨_, t⟩, e => All2.get (l := l) (xs := xs) (i := i) t e
  | [], _ :: _, _, _, h, _ => h.elim
  | _ :: _, [], _, _, h, _ => h.elim
theorem All2.at : ∀ {l : List α} {xs : List V} {i : Nat} {a : α}, All2 R H l xs → l[i]? = some a → ∃ x, xs[i]? = some x ∧ R a x H
  | [], [], i, a, _, e => by simp at e
  | _ :: _, x :: _, 0, a, ⟨h, _⟩, e => ⟨x, rfl, by cases (Option.some.inj e); exact h⟩
  | _ :: l, _ :: xs, i + 1, a, ⟨_, t⟩, e => All2.at (l := l) (xs := xs) (i := i) t e
  | [], _ :: _, _, _, h, _ => h.elim
  | _ :: _, [], _, _, h, _ => h.elim
theorem All2.take : ∀ (n : Nat) {l : List α} {xs : List V}, All2 R H l xs → All2 R H (l.take n) (xs.take n)
  | 0, _, _, _ => trivial
  | _ + 1, [], [], _ => trivial
  | n + 1, _ :: _, _ :: _, ⟨h, t⟩ => ⟨h, All2.take n t⟩
  | _ + 1, [], _ :: _, h => h.elim
  | _ + 1, _ :: _, [], h => h.elim
theorem All2.drop : ∀ (n : Nat) {l : List α} {xs : List V}, All2 R H l xs → All2 R H (l.drop n) (xs.drop n)
  | 0, _, _, h => h
  | _ + 1, [], [], _ => trivial
  | n + 1, _ :: _, _ :: _, ⟨_, t⟩ => All2.drop n t
  | _ + 1, [], _ :: _, h => h.elim
  | _ + 1, _ :: _, [], h => h.elim
theorem All2.set {a : α} {x : V} (q : R a x H) : ∀ (i : Nat) {l : List α} {xs : List V}, All2 R H l xs → All2 R H (l.set i a) (xs.set i x)
  | _, [], [], _ => trivial
  | 0, _ :: _, _ :: _, ⟨_, t⟩ => ⟨q, t⟩
  | i + 1, _ :: _, _ :: _, ⟨h, t⟩ => ⟨h, All2.set q i t⟩
  | _, [], _ :: _, h => h.elim
  | _, _ :: _, [], h => h.elim
theorem all2_int : ∀ {l : List Int} {xs : List V}, All2 RI H l xs ↔ xs = l.map V.int
  | [], [] => ⟨fun _ => rfl, fun _ => trivial⟩
  | [], _ :: _ => ⟨fun h => h.elim, fun h => by cases h⟩
  | _ :: _, [] => ⟨fun h => h.elim, fun h => by cases h⟩
  | a :: l, x :: xs => ⟨fun ⟨h, t⟩ => by rw [show x = V.int a from h, all2_int.mp t]; rfl, fun h => by
    have e := List.cons.inj h
    exact ⟨e.1, all2_int.mpr e.2⟩⟩
theorem all2_nat : ∀ {l : List Nat} {xs : List V}, All2 RN H l xs ↔ xs = (l.map Int.ofNat).map V.int
  | [], [] => ⟨fun _ => rfl, fun _ => trivial⟩
  | [], _ :: _ => ⟨fun h => h.elim, fun h => by cases h⟩
  | _ :: _, [] => ⟨fun h => h.elim, fun h => by cases h⟩
  | a :: l, x :: xs => ⟨fun ⟨h, t⟩ => by rw [show x = V.int (a : Int) from h, all2_nat.mp t]; rfl, fun h => by
    have e := List.cons.inj h
    exact ⟨e.1, all2_nat.mpr e.2⟩⟩
theorem all2_bool : ∀ {l : List Bool} {xs : List V}, All2 RB H l xs ↔ xs = l.map V.bl
  | [], [] => ⟨fun _ => rfl, fun _ => trivial⟩
  | [], _ :: _ => ⟨fun h => h.elim, fun h => by cases h⟩
  | _ :: _, [] => ⟨fun h => h.elim, fun h => by cases h⟩
  | a :: l, x :: xs => ⟨fun ⟨h, t⟩ => by rw [show x = V.bl a from h, all2_bool.mp t]; rfl, fun h => by
    have e := List.cons.inj h
    exact ⟨e.1, all2_bool.mpr e.2⟩⟩
end
/-- lists have at most so many items -/
abbrev LIM : Nat := 40000
def RL {α : Type} (R : Rel α) : Rel (List α) := fun l v H => ∃ p xs, v = .ref p ∧ H p = some (.lst xs) ∧ xs.length ≤ LIM ∧ All2 R H l xs
def RP {α β : Type} (R : Rel α) (S : Rel β) : Rel (α × β) := fun a v H => ∃ p x y, v = .ref p ∧ H p = some (.tup [x, y]) ∧ R a.1 x H ∧ S a.2 y H
instance {α : Type} {R : Rel α} [Mono R] : Mono (RL R) := ⟨fun e ⟨p, xs, ev, hp, hl, h⟩ => ⟨p, xs, ev, e _ _ hp, hl, h.up e⟩⟩
instance {α β : Type} {R : Rel α} {S : Rel β} [Mono R] [Mono S] : Mono (RP R S) := ⟨fun e ⟨p, x, y, ev, hp, h1, h2⟩ => ⟨p, x, y, ev, e _ _ hp, Mono.up e h1, Mono.up e h2⟩⟩
theorem RL.len {α : Type} {R : Rel α} {l : List α} {v : V} {H : Hp} : RL R l v H → l.length ≤ LIM := fun ⟨_, _, _, _, hl, h⟩ => by
  rw [← h.len]
  exact hl

/-- what is known grew by new objects alone, the heap too -/
structure Grow (G H G2 H2 : Hp) : Prop where
  gg : Same G G2
  gh : Same G2 H2
  hh : Same H H2
  fr : ∀ b o, G2 b = some o → G b = none → H b = none
section
variable {G H G1 H1 G2 H2 : Hp}
theorem Grow.refl (s : Same G H) : Grow G H G H := ⟨Same.refl _, s, Same.refl _, fun b o h n => by rw [n] at h; cases h⟩
theorem Grow.trans (a : Grow G H G1 H1) (b : Grow G1 H1 G2 H2) : Grow G H G2 H2 := ⟨a.gg.trans b.gg, b.gh, a.hh.trans b.hh, fun c o h n => by
  cases q : G1 c with
  | some u => exact a.fr c u q n
  | none => exact a.hh.free (b.fr c o h q)⟩
theorem Grow.out (a : Grow G H G2 H2) {p : Addr} {o : HO} (h : H p = some o) (n : G p = none) : G2 p = none := by
  cases q : G2 p with
  | none => rfl
  | some u =>
    have z := a.fr p u q n
    rw [h] at z
    cases z
theorem _root_.L2.Same.new {p : Addr} {o : HO} (h : H p = none) : Same H (upd H p o) := fun b u e => by
  rw [upd_ne (ne_of_none e h)]
  exact e
/-- an object that G doesn't know may change -/
theorem _root_.L2.Same.mut {p : Addr} {o : HO} (e : Same G H) (h : G p = none) : Same G (upd H p o) := fun b u q => by
  rw [upd_ne (ne_of_none q h)]
  exact e b u q
theorem _root_.L2.Same.both {p : Addr} {o : HO} (e : Same G H) : Same (upd G p o) (upd H p o) := fun b u q => by
  by_cases hb : b = p
  · subst hb
    rw [upd_same] at q ⊢
    exact q
  · rw [upd_ne hb] at q ⊢
    exact e b u q
/-- a new object is known -/
theorem Grow.new {p : Addr} {o : HO} (s : Same G H) (h : H p = none) : Grow G H (upd G p o) (upd H p o) := ⟨Same.new (s.free h), s.both, Same.new h, fun b u q n => by
  by_cases hb : b = p
  · subst hb
    exact h
  · rw [upd_ne hb, n] at q
    cases q⟩
/-- a new object that isn't known -/
theorem Grow.hid {p : Addr} {o : HO} (s : Same G H) (h : H p = none) : Grow G H G (upd H p o) := ⟨Same.refl _, s.mut (s.free h), Same.new h, fun b u q n => by
  rw [n] at q
  cases q⟩
/-- what was hidden is known from here on -/
theorem Grow.show_ {p : Addr} {o : HO} (a : Grow G H G2 H2) (n : H p = none) (h : H2 p = some o) : Grow G H (upd G2 p o) H2 := by
  refine ⟨fun b u q => ?_, fun b u q => ?_, a.hh, fun b u q m => ?_⟩
  · by_cases hb : b = p
    · subst hb
      have z := (a.gg.trans a.gh) b u q
      rw [upd_same, ← h, z]
    · rw [upd_ne hb]
      exact a.gg b u q
  · by_cases hb : b = p
    · subst hb
      rw [upd_same] at q
      rw [h]
      exact q
    · rw [upd_ne hb] at q
      exact a.gh b u q
  · by_cases hb : b = p
    · subst hb
      exact n
    · rw [upd_ne hb] at q
      exact a.fr b u q m
end

/-! ### what an expression gives -/
def Ev {α : Type} (te : TE) (σ : L2.St) (G : Hp) (R : Rel α) (a : α) : Prop :=
  ∀ G1 H1, Same G G1 → Same G1 H1 → ∀ Q : VK, (∀ v G2 H2, Grow G1 H1 G2 H2 → R a v G2 → Q v H2) → te σ H1 Q
def EvT (tt : TT) (σ : L2.St) (G : Hp) (b : Bool) : Prop :=
  ∀ G1 H1, Same G G1 → Same G1 H1 → ∀ Q : Bool → Hp → Prop, (∀ G2 H2, Grow G1 H1 G2 H2 → Q b H2) → tt σ H1 Q
/-- a new list, itself not yet known -/
def EvF {α : Type} (te : TE) (σ : L2.St) (G : Hp) (R : Rel α) (l : List α) : Prop :=
  ∀ G1 H1, Same G G1 → Same G1 H1 → ∀ Q : VK, (∀ p xs G2 H2, Grow G1 H1 G2 H2 → H1 p = none → G2 p = none → H2 p = some (.lst xs) → xs.length ≤ LIM → All2 R G2 l xs → Q (.ref p) H2) → te σ H1 Q
def EvA (ta : TA) (σ : L2.St) (G : Hp) (P : List V → Hp → Prop) : Prop :=
  ∀ G1 H1, Same G G1 → Same G1 H1 → ∀ Q : List V → Hp → Prop, (∀ vs G2 H2, Grow G1 H1 G2 H2 → P vs G2 → Q vs H2) → ta σ H1 Q
def Ret {β : Type} (R : Rel β) (b : β) (G H : Hp) (Q : VK) : Prop := ∀ v G2 H2, Grow G H G2 H2 → R b v G2 → Q v H2
def RetF {β : Type} (R : Rel β) (l : List β) (G H : Hp) (Q : VK) : Prop := ∀ p xs G2 H2, Grow G H G2 H2 → H p = none → G2 p = none → H2 p = some (.lst xs) → xs.length ≤ LIM → All2 R G2 l xs → Q (.ref p) H2
theorem Ret.fresh {β : Type} {R : Rel β} [Mono R] {l : List β} {G H : Hp} {Q : VK} (k : Ret (RL R) l G H Q) : RetF R l G H Q := fun p xs G2 H2 w n g e hl h =>
  k _ _ _ (w.show_ n e) ⟨p, xs, rfl, upd_same, hl, h.up (Same.new g)⟩

section
variable {α β γ : Type} {K : PySem.W.Frag} {σ : L2.St} {G G' H : Hp} {ta tb te tl : TE} {t u : TT} {R : Rel α} {S : Rel β} {W : Rel γ} {a : α} {b : β} {c : γ} {x y v : V}
theorem Ev.up (e : Same G G') (h : Ev te σ G R a) : Ev te σ G' R a := fun G1 H1 g => h G1 H1 (e.trans g)
theorem EvT.up {k : Bool} (e : Same G G') (h : EvT t σ G k) : EvT t σ G' k := fun G1 H1 g => h G1 H1 (e.trans g)
theorem EvF.up {l : List α} (e : Same G G') (h : EvF te σ G R l) : EvF te σ G' R l := fun G1 H1 g => h G1 H1 (e.trans g)
theorem EvF.ev [Mono R] {l : List α} (h : EvF te σ G R l) : Ev te σ G (RL R) l := fun G1 H1 g s Q q => h G1 H1 g s Q (Ret.fresh q)
theorem ev_is {a' : α} (h : Ev te σ G R a) (e : a = a') : Ev te σ G R a' := e ▸ h
theorem et_is {k k' : Bool} (h : EvT t σ G k) (e : k = k') : EvT t σ G k' := e ▸ h
theorem ef_is {l l' : List α} (h : EvF te σ G R l) (e : l = l') : EvF te σ G R l' := e ▸ h
theorem ev_var [Mono R] {i : Nat} (h : σ[i]? = some (some v)) (r : R a v G) : Ev (tVar i) σ G R a := fun G1 H1 g s _ q => ⟨v, h, q v G1 H1 (Grow.refl s) (Mono.up g r)⟩
theorem ev_int {i : Int} : Ev (tC (.int i)) σ G RI i := fun G1 H1 _ s _ q => q _ G1 H1 (Grow.refl s) rfl
theorem ev_nat {n : Nat} {i : Int} (e : i = (n : Int)) : Ev (tC (.int i)) σ G RN n := fun G1 H1 _ s _ q => q _ G1 H1 (Grow.refl s) (by rw [e]; exact rfl)
theorem ev_bl {k : Bool} : Ev (tC (.bl k)) σ G RB k := fun G1 H1 _ s _ q => q _ G1 H1 (Grow.refl s) rfl
/-- a whole number that is a count -/
theorem ev_n2i {n : Nat} (h : Ev te σ G RN n) : Ev te σ G RI (n : Int) := h
theorem ev_i2n {n : Nat} (h : Ev te σ G RI (n : Int)) : Ev te σ G RN n := h
theorem ev_bin [Mono R] {r : R2} (ha : Ev ta σ G R a) (hb : Ev tb σ G S b)
    (hr : ∀ x y G1 H1, Same G G1 → Same G1 H1 → R a x G1 → S b y G1 → ∀ Q : VK, Ret W c G1 H1 Q → r x y H1 Q) : Ev (tOp r ta tb) σ G W c := fun G1 H1 g s _ q =>
  ha G1 H1 g s _ fun x G2 H2 w1 rx => hb G2 H2 (g.trans w1.gg) w1.gh _ fun y G3 H3 w2 ry => hr x y G3 H3 ((g.trans w1.gg).trans w2.gg) w2.gh (Mono.up w2.gg rx) ry _ fun v G4 H4 w3 rv => q v G4 H4 ((w1.trans w2).trans w3) rv
theorem ev_binF [Mono R] {r : R2} {l : List γ} (ha : Ev ta σ G R a) (hb : Ev tb σ G S b)
    (hr : ∀ x y G1 H1, Same G G1 → Same G1 H1 → R a x G1 → S b y G1 → ∀ Q : VK, RetF W l G1 H1 Q → r x y H1 Q) : EvF (tOp r ta tb) σ G W l := fun G1 H1 g s _ q =>
  ha G1 H1 g s _ fun x G2 H2 w1 rx => hb G2 H2 (g.trans w1.gg) w1.gh _ fun y G3 H3 w2 ry => hr x y G3 H3 ((g.trans w1.gg).trans w2.gg) w2.gh (Mono.up w2.gg rx) ry _ fun p xs G4 H4 w3 n m e hl h => q p xs G4 H4 ((w1.trans w2).trans w3) ((w1.trans w2).hh.free n) m e hl h
theorem ev_ii {W : Rel γ} {g : Int → Int → V} {i j : Int} (ha : Ev ta σ G RI i) (hb : Ev tb σ G RI j) (hw : ∀ G, W c (g i j) G) : Ev (tOp (rI0 g) ta tb) σ G W c :=
  ev_bin ha hb fun x y G1 H1 _ s rx ry Q q => ⟨i, j, rx, ry, q _ G1 H1 (Grow.refl s) (hw G1)⟩
theorem ev_add {i j : Int} (ha : Ev ta σ G RI i) (hb : Ev tb σ G RI j) : Ev (tOp rAddI ta tb) σ G RI (i + j) := ev_ii ha hb fun _ => rfl
theorem ev_sub {i j : Int} (ha : Ev ta σ G RI i) (hb : Ev tb σ G RI j) : Ev (tOp rSubI ta tb) σ G RI (i - j) := ev_ii ha hb fun _ => rfl
theorem ev_neg {i : Int} (ha : Ev ta σ G RI i) : Ev (tUn rNeg ta) σ G RI (-i) := fun G1 H1 g s _ q => ha G1 H1 g s _ fun x G2 H2 w r => ⟨i, r, q _ G2 H2 w rfl⟩
theorem ev_addN {i j : Nat} (ha : Ev ta σ G RN i) (hb : Ev tb σ G RN j) : Ev (tOp rAddI ta tb) σ G RN (i + j) := ev_ii (c := i + j) ha hb fun _ => by
  show V.int ((i : Int) + (j : Int)) = V.int ((i + j : Nat) : Int)
  rw [Int.natCast_add]
theorem ev_lt {i j : Int} (ha : Ev ta σ G RI i) (hb : Ev tb σ G RI j) : Ev (tOp rLtI ta tb) σ G RB (decide (i < j)) := ev_ii ha hb fun _ => rfl
theorem ev_le {i j : Int} (ha : Ev ta σ G RI i) (hb : Ev tb σ G RI j) : Ev (tOp rLeI ta tb) σ G RB (decide (i ≤ j)) := ev_ii ha hb fun _ => rfl
theorem ev_gt {i j : Int} (ha : Ev ta σ G RI i) (hb : Ev tb σ G RI j) : Ev (tOp rGtI ta tb) σ G RB (decide (j < i)) := ev_ii ha hb fun _ => rfl
theorem ev_ge {i j : Int} (ha : Ev ta σ G RI i) (hb : Ev tb σ G RI j) : Ev (tOp rGeI ta tb) σ G RB (decide (j ≤ i)) := ev_ii ha hb fun _ => rfl
theorem ev_eq {i j : Int} (ha : Ev ta σ G RI i) (hb : Ev tb σ G RI j) : Ev (tOp rEq ta tb) σ G RB (decide (i = j)) :=
  ev_bin ha hb fun x y G1 H1 _ s rx ry Q q => ⟨by rw [show x = V.int i from rx, show y = V.int j from ry]; rfl, q _ G1 H1 (Grow.refl s) (by
    rw [show x = V.int i from rx, show y = V.int j from ry]
    exact congrArg V.bl (by by_cases h : i = j <;> simp [h]))⟩
theorem ev_ne {i j : Int} (ha : Ev ta σ G RI i) (hb : Ev tb σ G RI j) : Ev (tOp rNe ta tb) σ G RB (decide (i ≠ j)) :=
  ev_bin ha hb fun x y G1 H1 _ s rx ry Q q => ⟨by rw [show x = V.int i from rx, show y = V.int j from ry]; rfl, q _ G1 H1 (Grow.refl s) (by
    rw [show x = V.int i from rx, show y = V.int j from ry]
    exact congrArg V.bl (by by_cases h : i = j <;> simp [h]))⟩
theorem ev_chain {r r' : R2} {tc : TE} {k k' : Bool} [Mono R] [Mono S] (ha : Ev ta σ G R a) (hb : Ev tb σ G S b) (hc : k = true → Ev tc σ G W c)
    (h1 : ∀ x y G1 H1, R a x G1 → S b y G1 → ∀ Q : VK, Q (.bl k) H1 → r x y H1 Q) (h2 : ∀ x y G1 H1, S b x G1 → W c y G1 → ∀ Q : VK, Q (.bl k') H1 → r' x y H1 Q) : Ev (tChain r r' ta tb tc) σ G RB (k && k') := fun G1 H1 g s _ q =>
  ha G1 H1 g s _ fun x G2 H2 w1 rx => hb G2 H2 (g.trans w1.gg) w1.gh _ fun y G3 H3 w2 ry => h1 x y G3 H3 (Mono.up w2.gg rx) ry _ ⟨k, rfl, by
    cases k with
    | true => exact hc rfl G3 H3 ((g.trans w1.gg).trans w2.gg) w2.gh _ fun z G4 H4 w3 rz => h2 y z G4 H4 (Mono.up w3.gg ry) rz _ (q _ G4 H4 ((w1.trans w2).trans w3) rfl)
    | false => exact q _ G3 H3 (w1.trans w2) rfl⟩
/-- lo <= n <= hi -/
theorem ev_within {tc : TE} {i j k : Int} (ha : Ev ta σ G RI i) (hb : Ev tb σ G RI j) (hc : Ev tc σ G RI k) : Ev (tChain rLeI rLeI ta tb tc) σ G RB (decide (i ≤ j) && decide (j ≤ k)) :=
  ev_chain ha hb (fun _ => hc) (fun _ _ _ _ rx ry _ q => ⟨i, j, rx, ry, q⟩) (fun _ _ _ _ rx ry _ q => ⟨j, k, rx, ry, q⟩)
theorem et_test {k : Bool} (h : Ev te σ G RB k) : EvT (tTest te) σ G k := fun G1 H1 g s _ q => h G1 H1 g s _ fun _ G2 H2 w r => ⟨k, r, q G2 H2 w⟩
theorem et_B {k : Bool} (h : Ev te σ G RB k) : EvT (tB te) σ G k := fun G1 H1 g s _ q => h G1 H1 g s _ fun _ G2 H2 w r => ⟨k, r, q G2 H2 w⟩
theorem et_yes : EvT tYes σ G true := fun G1 H1 _ s _ q => q G1 H1 (Grow.refl s)
theorem et_not {k : Bool} (h : EvT t σ G k) : EvT (tNot t) σ G (!k) := fun G1 H1 g s _ q => h G1 H1 g s _ fun G2 H2 w => q G2 H2 w
theorem et_and {k l : Bool} (h1 : EvT t σ G k) (h2 : k = true → EvT u σ G l) : EvT (tAnd t u) σ G (k && l) := fun G1 H1 g s _ q => h1 G1 H1 g s _ fun G2 H2 w => by
  cases k with
  | true => exact h2 rfl G2 H2 (g.trans w.gg) w.gh _ fun G3 H3 w2 => q G3 H3 (w.trans w2)
  | false => exact q G2 H2 w
theorem et_or {k l : Bool} (h1 : EvT t σ G k) (h2 : k = false → EvT u σ G l) : EvT (tOr t u) σ G (k || l) := fun G1 H1 g s _ q => h1 G1 H1 g s _ fun G2 H2 w => by
  cases k with
  | true => exact q G2 H2 w
  | false => exact h2 rfl G2 H2 (g.trans w.gg) w.gh _ fun G3 H3 w2 => q G3 H3 (w.trans w2)
theorem ev_andV {k l : Bool} (h1 : Ev ta σ G RB k) (h2 : k = true → Ev tb σ G RB l) : Ev (tAndV ta tb) σ G RB (k && l) := fun G1 H1 g s _ q => h1 G1 H1 g s _ fun x G2 H2 w rx => ⟨k, rx, by
  cases k with
  | true => exact h2 rfl G2 H2 (g.trans w.gg) w.gh _ fun v G3 H3 w2 r => q v G3 H3 (w.trans w2) r
  | false => exact q _ G2 H2 w rfl⟩
theorem ev_orV {k l : Bool} (h1 : Ev ta σ G RB k) (h2 : k = false → Ev tb σ G RB l) : Ev (tOrV ta tb) σ G RB (k || l) := fun G1 H1 g s _ q => h1 G1 H1 g s _ fun x G2 H2 w rx => ⟨k, rx, by
  cases k with
  | true => exact q _ G2 H2 w rfl
  | false => exact h2 rfl G2 H2 (g.trans w.gg) w.gh _ fun v G3 H3 w2 r => q v G3 H3 (w.trans w2) r⟩
theorem ev_ifE {k : Bool} (h : EvT t σ G k) (h1 : k = true → Ev ta σ G R a) (h2 : k = false → Ev tb σ G R a) : Ev (tIf t ta tb) σ G R a := fun G1 H1 g s _ q => h G1 H1 g s _ fun G2 H2 w => by
  cases k with
  | true => exact h1 rfl G2 H2 (g.trans w.gg) w.gh _ fun v G3 H3 w2 r => q v G3 H3 (w.trans w2) r
  | false => exact h2 rfl G2 H2 (g.trans w.gg) w.gh _ fun v G3 H3 w2 r => q v G3 H3 (w.trans w2) r
/-- o.f -/
theorem ev_fld {f : Str} (h : Ev te σ G R a) (k : ∀ v G1, Same G G1 → R a v G1 → ∃ p C dx fs u, v = .ref p ∧ G1 p = some (.ins C dx fs) ∧ Cls K C ∧ NoAttr K C f ∧ fs.lookup f = some u ∧ S b u G1) : Ev (tFld K te f) σ G S b := fun G1 H1 g s _ q =>
  h G1 H1 g s _ fun v G2 H2 w r => by
    obtain ⟨p, C, dx, fs, u, e, hp, hc, hn, hl, hu⟩ := k v G2 (g.trans w.gg) r
    exact ⟨p, C, dx, fs, u, e, w.gh _ _ hp, hc, hn, hl, q u G2 H2 w hu⟩
/-- arguments -/
theorem ea_nil : EvA tNil σ G (fun vs _ => vs = []) := fun G1 H1 _ s _ q => q [] G1 H1 (Grow.refl s) rfl
theorem ea_cons [Mono R] {tr : TA} {P : List V → Hp → Prop} (h : Ev te σ G R a) (hr : EvA tr σ G P) : EvA (tCons te tr) σ G (fun vs G => ∃ x r, vs = x :: r ∧ R a x G ∧ P r G) := fun G1 H1 g s _ q =>
  h G1 H1 g s _ fun x G2 H2 w rx => hr G2 H2 (g.trans w.gg) w.gh _ fun vs G3 H3 w2 p => q (x :: vs) G3 H3 (w.trans w2) ⟨x, vs, rfl, Mono.up w2.gg rx, p⟩
theorem ea_one [Mono R] (h : Ev te σ G R a) : EvA (tCons te tNil) σ G (fun vs G => ∃ x, vs = [x] ∧ R a x G) := fun G1 H1 g s _ q =>
  h G1 H1 g s _ fun x G2 H2 w rx => q [x] G2 H2 w ⟨x, rfl, rx⟩
theorem ev_call1 {sp : Sp} {E : XK} [Mono R] (h1 : Ev ta σ G R a) (hs : ∀ x G1 H1 Q, Same G G1 → Same G1 H1 → R a x G1 → Ret W c G1 H1 Q → sp [x] H1 Q E) : Ev (tCall sp [] E (tCons ta tNil)) σ G W c := fun G1 H1 g s Q q =>
  h1 G1 H1 g s _ fun x G2 H2 w rx => hs x G2 H2 Q (g.trans w.gg) w.gh rx fun v G3 H3 w3 r => q v G3 H3 (w.trans w3) r
theorem ev_call2 {sp : Sp} {E : XK} [Mono R] [Mono S] (h1 : Ev ta σ G R a) (h2 : Ev tb σ G S b) (hs : ∀ x y G1 H1 Q, Same G G1 → Same G1 H1 → R a x G1 → S b y G1 → Ret W c G1 H1 Q → sp [x, y] H1 Q E) : Ev (tCall sp [] E (tCons ta (tCons tb tNil))) σ G W c := fun G1 H1 g s Q q =>
  h1 G1 H1 g s _ fun x G2 H2 w rx => h2 G2 H2 (g.trans w.gg) w.gh _ fun y G3 H3 w3 ry => hs x y G3 H3 Q ((g.trans w.gg).trans w3.gg) w3.gh (Mono.up w3.gg rx) ry fun v G4 H4 w4 r => q v G4 H4 ((w.trans w3).trans w4) r
theorem ev_call3 {δ : Type} {D : Rel δ} {d : δ} {td : TE} {sp : Sp} {E : XK} [Mono R] [Mono S] [Mono D] (h1 : Ev ta σ G R a) (h2 : Ev tb σ G S b) (h3 : Ev td σ G D d)
    (hs : ∀ x y z G1 H1 Q, Same G G1 → Same G1 H1 → R a x G1 → S b y G1 → D d z G1 → Ret W c G1 H1 Q → sp [x, y, z] H1 Q E) : Ev (tCall sp [] E (tCons ta (tCons tb (tCons td tNil)))) σ G W c := fun G1 H1 g s Q q =>
  h1 G1 H1 g s _ fun x G2 H2 w rx => h2 G2 H2 (g.trans w.gg) w.gh _ fun y G3 H3 w3 ry => h3 G3 H3 ((g.trans w.gg).trans w3.gg) w3.gh _ fun z G4 H4 w4 rz =>
    hs x y z G4 H4 Q (((g.trans w.gg).trans w3.gg).trans w4.gg) w4.gh (Mono.up (w3.gg.trans w4.gg) rx) (Mono.up w4.gg ry) rz fun v G5 H5 w5 r => q v G5 H5 (((w.trans w3).trans w4).trans w5) r
theorem ev_call4 {δ ε : Type} {D : Rel δ} {d : δ} {td tf : TE} {F : Rel ε} {e : ε} {sp : Sp} {E : XK} [Mono R] [Mono S] [Mono D] [Mono F] (h1 : Ev ta σ G R a) (h2 : Ev tb σ G S b) (h3 : Ev td σ G D d) (h4 : Ev tf σ G F e)
    (hs : ∀ x y z u G1 H1 Q, Same G G1 → Same G1 H1 → R a x G1 → S b y G1 → D d z G1 → F e u G1 → Ret W c G1 H1 Q → sp [x, y, z, u] H1 Q E) : Ev (tCall sp [] E (tCons ta (tCons tb (tCons td (tCons tf tNil))))) σ G W c := fun G1 H1 g s Q q =>
  h1 G1 H1 g s _ fun x G2 H2 w rx => h2 G2 H2 (g.trans w.gg) w.gh _ fun y G3 H3 w3 ry => h3 G3 H3 ((g.trans w.gg).trans w3.gg) w3.gh _ fun z G4 H4 w4 rz => h4 G4 H4 (((g.trans w.gg).trans w3.gg).trans w4.gg) w4.gh _ fun u G5 H5 w5 ru =>
    hs x y z u G5 H5 Q ((((g.trans w.gg).trans w3.gg).trans w4.gg).trans w5.gg) w5.gh (Mono.up ((w3.gg.trans w4.gg).trans w5.gg) rx) (Mono.up (w4.gg.trans w5.gg) ry) (Mono.up w5.gg rz) ru fun v G6 H6 w6 r => q v G6 H6 ((((w.trans w3).trans w4).trans w5).trans w6) r
/-- len, sum, any, all, in, xs[i] -/
theorem ev_len [Mono R] {l : List α} (h : Ev te σ G (RL R) l) : Ev (tCB (rLenS K) (tCons te tNil)) σ G RN l.length := fun G1 H1 g s _ q =>
  h G1 H1 g s _ fun v G2 H2 w ⟨p, xs, e, hp, hl, ha⟩ => ⟨p, xs, by rw [e], .inl (SqL.of (w.gh _ _ hp)), q _ G2 H2 w (by rw [ha.len]; exact rfl)⟩
theorem ev_sumI {l : List Int} (h : Ev te σ G (RL RI) l) : Ev (tCB (rSum K) (tCons te tNil)) σ G RI l.sum := fun G1 H1 g s _ q =>
  h G1 H1 g s _ fun v G2 H2 w ⟨p, xs, e, hp, hl, ha⟩ => ⟨p, l, by rw [e], SqL.of (by rw [← all2_int.mp ha]; exact w.gh _ _ hp), q _ G2 H2 w rfl⟩
theorem sum_nat : ∀ l : List Nat, (l.map Int.ofNat).sum = ((l.sum : Nat) : Int)
  | [] => rfl
  | a :: l => by
    rw [List.map_cons, List.sum_cons, List.sum_cons, sum_nat l]
    show (a : Int) + _ = _
    rw [Int.natCast_add]
theorem ev_sumN {l : List Nat} (h : Ev te σ G (RL RN) l) : Ev (tCB (rSum K) (tCons te tNil)) σ G RN l.sum := fun G1 H1 g s _ q =>
  h G1 H1 g s _ fun v G2 H2 w ⟨p, xs, e, hp, hl, ha⟩ => ⟨p, l.map Int.ofNat, by rw [e], SqL.of (by rw [← all2_nat.mp ha]; exact w.gh _ _ hp), q _ G2 H2 w (by rw [sum_nat]; exact rfl)⟩
theorem ev_any {l : List Bool} (h : Ev te σ G (RL RB) l) : Ev (tCB (rAny K) (tCons te tNil)) σ G RB (l.any id) := fun G1 H1 g s _ q =>
  h G1 H1 g s _ fun v G2 H2 w ⟨p, xs, e, hp, hl, ha⟩ => ⟨p, l, by rw [e], SqL.of (by rw [← all2_bool.mp ha]; exact w.gh _ _ hp), q _ G2 H2 w rfl⟩
theorem ev_all {l : List Bool} (h : Ev te σ G (RL RB) l) : Ev (tCB (rAll K) (tCons te tNil)) σ G RB (l.all id) := fun G1 H1 g s _ q =>
  h G1 H1 g s _ fun v G2 H2 w ⟨p, xs, e, hp, hl, ha⟩ => ⟨p, l, by rw [e], SqL.of (by rw [← all2_bool.mp ha]; exact w.gh _ _ hp), q _ G2 H2 w rfl⟩
theorem inV_int (i : Int) : ∀ l : List Int, inV (.int i) (l.map V.int) = l.contains i
  | [] => rfl
  | a :: l => by
    have ih := inV_int i l
    unfold inV at ih ⊢
    rw [List.map_cons, List.any_cons, List.contains_cons, ih]
    have e : eqV (V.int a) (V.int i) = (a == i) := rfl
    rw [e, BEq.comm]
theorem flat_ints (l : List Int) : (l.map V.int).all flatV = true := List.all_eq_true.mpr fun x hx => by
  obtain ⟨i, _, e⟩ := List.mem_map.mp hx
  subst e
  rfl
theorem contains_nat (n : Nat) : ∀ l : List Nat, (l.map Int.ofNat).contains (n : Int) = l.contains n
  | [] => rfl
  | a :: l => by
    rw [List.map_cons, List.contains_cons, List.contains_cons, contains_nat n l]
    have e : ((n : Int) == Int.ofNat a) = (n == a) := by
      by_cases h : n = a
      · subst h
        simp
      · have h2 : ¬ (n : Int) = Int.ofNat a := fun z => h (Int.ofNat.inj z)
        rw [beq_eq_false_iff_ne.mpr h, beq_eq_false_iff_ne.mpr h2]
    rw [e]
theorem ev_inI {neg : Bool} {i : Int} {l : List Int} (h1 : Ev ta σ G RI i) (h2 : Ev tb σ G (RL RI) l) : Ev (tOp (rIn K neg) ta tb) σ G RB (if neg then !l.contains i else l.contains i) :=
  ev_bin h1 h2 fun x y G1 H1 _ s rx ⟨p, xs, e, hp, hl, ha⟩ Q q => ⟨p, xs, e, .inl (SqL.of (s _ _ hp)), by rw [show x = V.int i from rx]; rfl, by rw [all2_int.mp ha]; exact flat_ints l, q _ G1 H1 (Grow.refl s) (by
    rw [show x = V.int i from rx, all2_int.mp ha, inV_int]
    exact rfl)⟩
theorem ev_inN {neg : Bool} {n : Nat} {l : List Nat} (h1 : Ev ta σ G RN n) (h2 : Ev tb σ G (RL RN) l) : Ev (tOp (rIn K neg) ta tb) σ G RB (if neg then !l.contains n else l.contains n) :=
  ev_bin h1 h2 fun x y G1 H1 _ s rx ⟨p, xs, e, hp, hl, ha⟩ Q q => ⟨p, xs, e, .inl (SqL.of (s _ _ hp)), by rw [show x = V.int (n : Int) from rx]; rfl, by rw [all2_nat.mp ha]; exact flat_ints _, q _ G1 H1 (Grow.refl s) (by
    rw [show x = V.int (n : Int) from rx, all2_nat.mp ha, inV_int, contains_nat]
    exact rfl)⟩
theorem ev_isI {i : Int} {l : List Int} (h1 : Ev ta σ G RI i) (h2 : Ev tb σ G (RL RI) l) : Ev (tOp (rIn K false) ta tb) σ G RB (l.contains i) := ev_inI (neg := false) h1 h2
theorem ev_niI {i : Int} {l : List Int} (h1 : Ev ta σ G RI i) (h2 : Ev tb σ G (RL RI) l) : Ev (tOp (rIn K true) ta tb) σ G RB (!l.contains i) := ev_inI (neg := true) h1 h2
theorem ev_isN {n : Nat} {l : List Nat} (h1 : Ev ta σ G RN n) (h2 : Ev tb σ G (RL RN) l) : Ev (tOp (rIn K false) ta tb) σ G RB (l.contains n) := ev_inN (neg := false) h1 h2
theorem ev_niN {n : Nat} {l : List Nat} (h1 : Ev ta σ G RN n) (h2 : Ev tb σ G (RL RN) l) : Ev (tOp (rIn K true) ta tb) σ G RB (!l.contains n) := ev_inN (neg := true) h1 h2
theorem ev_ix [Mono R] {l : List α} {n : Nat} (h1 : Ev ta σ G (RL R) l) (h2 : Ev tb σ G RN n) (e : l[n]? = some a) : Ev (tOp (rIxL K) ta tb) σ G R a :=
  ev_bin h1 h2 fun x y G1 H1 _ s ⟨p, xs, ex, hp, hl, ha⟩ ry Q q => by
    obtain ⟨v, hv, rv⟩ := ha.at e
    exact ⟨p, xs, (n : Int), v, ex, ry, SqL.of (s _ _ hp), atI_nat hv, q v G1 H1 (Grow.refl s) rv⟩
theorem ef_list [Mono R] {l : List α} (h : Ev te σ G (RL R) l) : EvF (tCB (rListS K) (tCons te tNil)) σ G R l := fun G1 H1 g s _ q =>
  h G1 H1 g s _ fun v G2 H2 w ⟨p, xs, e, hp, hl, ha⟩ => ⟨p, xs, by rw [e], .inl (SqL.of (w.gh _ _ hp)), fun l hn => q l xs G2 _ (w.trans (Grow.hid w.gh hn)) (w.hh.free hn) (w.gh.free hn) upd_same hl ha⟩
theorem ef_nil : EvF (tLst tNil) σ G R ([] : List α) := fun G1 H1 g s _ q => ⟨by decide, fun p hn => q p [] G1 _ (Grow.hid s hn) hn (s.free hn) upd_same (by decide) trivial⟩
theorem ef_one [Mono R] (h : Ev te σ G R a) : EvF (tLst (tCons te tNil)) σ G R [a] := fun G1 H1 g s _ q =>
  h G1 H1 g s _ fun v G2 H2 w r => ⟨by show 1 ≤ sizeLine; decide, fun p hn => q p [v] G2 _ (w.trans (Grow.hid w.gh hn)) (w.hh.free hn) (w.gh.free hn) upd_same (by show 1 ≤ LIM; decide) (All2.one r)⟩
theorem lim_line {n : Nat} (h : n ≤ 100000) : n ≤ sizeLine := Nat.le_trans h (by decide)
theorem ef_cat [Mono R] {l m : List α} (h1 : Ev ta σ G (RL R) l) (h2 : Ev tb σ G (RL R) m) (hz : l.length + m.length ≤ LIM) : EvF (tOp rCat ta tb) σ G R (l ++ m) :=
  ev_binF h1 h2 fun x y G1 H1 _ s ⟨p, xs, ex, hp, hl, ha⟩ ⟨r, ys, ey, hr, hm, hb⟩ Q q => ⟨p, r, xs, ys, ex, ey, s _ _ hp, s _ _ hr, lim_line (by
    rw [ha.len, hb.len]
    exact Nat.le_trans hz (by decide)), fun o hn => q o _ G1 _ (Grow.hid s hn) hn (s.free hn) upd_same (by
    rw [List.length_append, ha.len, hb.len]
    exact hz) (ha.app hb)⟩
end
end DH
namespace DH
open PySem PySem.Spec PyProof.Rows L2
/-! ### what is walked -/
structure Walk {α : Type} (J : It) (l : List α) (R : Rel α) (G : Hp) : Prop where
  go : ∀ i H, i < l.length → Same G H → J.go i H
  stop : ∀ H, Same G H → J.stop l.length H
  yld : ∀ i a G1 H x H', l[i]? = some a → Same G G1 → Same G1 H → J.yld i H x H' → ∃ G2, Grow G1 H G2 H' ∧ R a x G2
def Src {α : Type} (wi : TI) (σ : L2.St) (G : Hp) (R : Rel α) (l : List α) : Prop :=
  ∀ G1 H1, Same G G1 → Same G1 H1 → ∀ Q : It → Hp → Prop, (∀ J G2 H2, Grow G1 H1 G2 H2 → Walk J l R G2 → Q J H2) → wi σ H1 Q
theorem Grow.mutd {G H G2 H2 : Hp} {p : Addr} {o : HO} (w : Grow G H G2 H2) (h : H p = none) (n : G2 p = none) : Grow G H G2 (upd H2 p o) :=
  ⟨w.gg, w.gh.mut n, w.hh.mut h, w.fr⟩
section
variable {α β : Type} {K : PySem.W.Frag} {σ : L2.St} {G : Hp} {ta tb tl : TE} {R : Rel α} {S : Rel β}
theorem src_list [Mono R] {l : List α} (h : Ev tl σ G (RL R) l) : Src (iList K tl) σ G R l := fun G1 H1 g s Q q =>
  h G1 H1 g s _ fun v G2 H2 w ⟨p, xs, e, hp, _, ha⟩ => ⟨p, e, ⟨xs, SqL.of (w.gh _ _ hp)⟩, q _ G2 H2 w
    ⟨fun i H hi s2 => by
        have hl : i < xs.length := by rw [ha.len]; exact hi
        exact ⟨xs, xs[i], SqL.of (s2 _ _ hp), by simp [hl]⟩,
      fun H s2 => ⟨xs, SqL.of (s2 _ _ hp), Nat.le_of_eq ha.len⟩,
      fun i a G3 H x H' ea g3 s3 ⟨eh, y⟩ => by
        obtain ⟨x2, ex, rx⟩ := ha.at ea
        have e2 := y xs (SqL.of (s3 _ _ (g3 _ _ hp)))
        rw [ex] at e2
        cases e2
        subst eh
        exact ⟨G3, Grow.refl s3, Mono.up g3 rx⟩⟩⟩
theorem src_range {n : Nat} (h : Ev ta σ G RN n) (hn : n ≤ LIM) : Src (iRng1 (tCons ta tNil)) σ G RN (List.range n) := fun G1 H1 g s Q q =>
  h G1 H1 g s _ fun v G2 H2 w r => ⟨(n : Int), by rw [show v = V.int (n : Int) from r], by omega, by
    have : n ≤ 40000 := hn
    omega, q _ G2 H2 w
    ⟨fun i H hi _ => by
        have hi2 : i < n := by rw [List.length_range] at hi; exact hi
        exact hi2,
      fun H _ => by
        rw [List.length_range]
        exact Nat.le_refl n,
      fun i a G3 H x H' ea _ s3 ⟨eh, y⟩ => by
        have hi : i < n := by
          have z := (List.getElem?_eq_some_iff.mp ea).1
          rw [List.length_range] at z
          exact z
        rw [List.getElem?_range hi] at ea
        cases ea
        subst eh
        exact ⟨G3, Grow.refl s3, by rw [y]; exact congrArg V.int (Int.zero_add _)⟩⟩⟩
theorem src_range2 {a b : Nat} (h1 : Ev ta σ G RN a) (h2 : Ev tb σ G RN b) (ha : a ≤ LIM) (hb : b ≤ LIM) : Src (iRng2 (tCons ta (tCons tb tNil))) σ G RN (List.range' a (b - a)) := fun G1 H1 g s Q q =>
  h1 G1 H1 g s _ fun v G2 H2 w r => h2 G2 H2 (g.trans w.gg) w.gh _ fun u G3 H3 w2 ru => ⟨(a : Int), (b : Int), by rw [show v = V.int (a : Int) from r, show u = V.int (b : Int) from ru], by
    have z1 : a ≤ 40000 := ha
    have z2 : b ≤ 40000 := hb
    omega, q _ G3 H3 (w.trans w2) (by
    have e : ((b : Int) - (a : Int)).toNat = b - a := by omega
    rw [e]
    exact ⟨fun i H hi _ => by
        have hi2 : i < b - a := by rw [List.length_range'] at hi; exact hi
        exact hi2,
      fun H _ => by
        rw [List.length_range']
        exact Nat.le_refl (b - a),
      fun i c G3 H x H' ea _ s3 ⟨eh, y⟩ => by
        have hi : i < b - a := by
          have z := (List.getElem?_eq_some_iff.mp ea).1
          rw [List.length_range'] at z
          exact z
        rw [List.getElem?_range' hi] at ea
        cases ea
        subst eh
        exact ⟨G3, Grow.refl s3, by rw [y]; exact congrArg V.int (by omega)⟩⟩)⟩
theorem src_zip [Mono R] [Mono S] {l : List α} {m : List β} (h1 : Ev ta σ G (RL R) l) (h2 : Ev tb σ G (RL S) m) : Src (iZip K (tCons ta (tCons tb tNil))) σ G (RP R S) (l.zip m) := fun G1 H1 g s Q q =>
  h1 G1 H1 g s _ fun v G2 H2 w ⟨p, xs, e, hp, hl, ha⟩ => h2 G2 H2 (g.trans w.gg) w.gh _ fun u G3 H3 w2 ⟨r, ys, eu, hr, hm, hb⟩ => ⟨p, r, xs, ys, by rw [e, eu], SqL.of (w2.gh _ _ (w2.gg _ _ hp)), SqL.of (w2.gh _ _ hr), q _ G3 H3 (w.trans w2)
    ⟨fun i H hi s2 => by
        rw [List.length_zip] at hi
        have z1 : i < xs.length := by rw [ha.len]; omega
        have z2 : i < ys.length := by rw [hb.len]; omega
        exact ⟨xs, ys, xs[i], ys[i], SqL.of (s2 _ _ (w2.gg _ _ hp)), SqL.of (s2 _ _ hr), by simp [z1], by simp [z2]⟩,
      fun H s2 => ⟨xs, ys, SqL.of (s2 _ _ (w2.gg _ _ hp)), SqL.of (s2 _ _ hr), by
        rw [List.length_zip, ha.len, hb.len]
        omega⟩,
      fun i c G4 H x H' ec g4 s4 ⟨T, y, z, ex, hT, eh, yl, yr⟩ => by
        obtain ⟨c1, c2⟩ := List.getElem?_zip_eq_some.mp ec
        obtain ⟨y2, ey, ry⟩ := ha.at c1
        obtain ⟨z2, ez, rz⟩ := hb.at c2
        have e1 := yl xs (SqL.of (s4 _ _ (g4 _ _ (w2.gg _ _ hp))))
        have e2 := yr ys (SqL.of (s4 _ _ (g4 _ _ hr)))
        rw [ey] at e1
        rw [ez] at e2
        cases e1
        cases e2
        subst eh
        exact ⟨_, Grow.new s4 hT, T, _, _, ex, upd_same, Mono.up ((w2.gg.trans g4).trans (Same.new (s4.free hT))) ry, Mono.up (g4.trans (Same.new (s4.free hT))) rz⟩⟩⟩
theorem src_enum [Mono R] {l : List α} (h : Ev ta σ G (RL R) l) : Src (iEnum K (tCons ta tNil)) σ G (RP RN R) ((List.range l.length).zip l) := fun G1 H1 g s Q q =>
  h G1 H1 g s _ fun v G2 H2 w ⟨p, xs, e, hp, _, ha⟩ => ⟨p, xs, by rw [e], SqL.of (w.gh _ _ hp), q _ G2 H2 w
    ⟨fun i H hi s2 => by
        rw [List.length_zip, List.length_range] at hi
        have hl : i < xs.length := by rw [ha.len]; omega
        exact ⟨xs, xs[i], SqL.of (s2 _ _ hp), by simp [hl]⟩,
      fun H s2 => ⟨xs, SqL.of (s2 _ _ hp), by
        rw [List.length_zip, List.length_range, ha.len]
        omega⟩,
      fun i a G3 H x H' ea g3 s3 ⟨T, y, ex, hT, eh, yl⟩ => by
        obtain ⟨c1, c2⟩ := List.getElem?_zip_eq_some.mp ea
        obtain ⟨y2, ey, ry⟩ := ha.at c2
        have e1 := yl xs (SqL.of (s3 _ _ (g3 _ _ hp)))
        rw [ey] at e1
        cases e1
        have hi : i < l.length := (List.getElem?_eq_some_iff.mp c2).1
        rw [List.getElem?_range hi] at c1
        subst eh
        exact ⟨_, Grow.new s3 hT, T, _, _, ex, upd_same, by
          have z : i = a.1 := Option.some.inj c1
          rw [z]
          exact rfl, Mono.up (g3.trans (Same.new (s3.free hT))) ry⟩⟩⟩
end
/-! ### what a target holds -/
def Hit {α : Type} (g : TG) (R : Rel α) (P : α → L2.St → L2.St → Hp → Prop) : Prop :=
  ∀ a x σ G1 H1 (Q : L2.St → Hp → Prop), R a x G1 → Same G1 H1 → (∀ σ2, P a σ σ2 G1 → Q σ2 H1) → g x σ H1 Q
theorem hit_name {α : Type} {R : Rel α} {j : Nat} : Hit (gName j) R (fun a σ σ2 G => ∃ x, R a x G ∧ σ2 = σ.set j (some x)) := fun _ x _ _ _ _ r _ q => q _ ⟨x, r, rfl⟩
theorem hit_pair {α β : Type} {K : PySem.W.Frag} {R : Rel α} {S : Rel β} {i j : Nat} : Hit (gTup K 2 (gCons (gName i) (gCons (gName j) gNil))) (RP R S) (fun a σ σ2 G => ∃ y z, R a.1 y G ∧ S a.2 z G ∧ σ2 = (σ.set i (some y)).set j (some z)) :=
  fun _ _ _ _ _ _ ⟨p, y, z, e, hp, r1, r2⟩ s q => ⟨p, [y, z], e, SqT.of (s _ _ hp), rfl, y, [z], rfl, z, [], rfl, rfl, q _ ⟨y, z, r1, r2, rfl⟩⟩
theorem take_more {α : Type} : ∀ {l : List α} {i : Nat} {x : α}, l[i]? = some x → l.take (i + 1) = l.take i ++ [x]
  | [], i, x, h => by simp at h
  | a :: l, 0, x, h => by
    cases (Option.some.inj h)
    rfl
  | a :: l, i + 1, x, h => congrArg (a :: ·) (take_more (l := l) (i := i) (x := x) h)
section
variable {α β : Type} {K : PySem.W.Frag} {σ : L2.St} {G : Hp} {wi : TI} {g : TG} {tt : TT} {te tl : TE} {vs : List Nat} {RA : Rel α} {R : Rel β} {P : α → L2.St → L2.St → Hp → Prop} {l : List α}
/-- a comprehension -/
theorem ef_lcG [Mono R] (f : α → Bool) (m : α → β) (hs : Src wi σ G RA l) (hh : Hit g RA P) (hw : ∀ a σ2 G, P a (wipe σ vs) σ2 G → wipe σ2 vs = wipe σ vs)
    (ht : ∀ a σ2 G1, a ∈ l → Same G G1 → P a (wipe σ vs) σ2 G1 → EvT tt σ2 G1 (f a)) (he : ∀ a σ2 G1, a ∈ l → f a = true → Same G G1 → P a (wipe σ vs) σ2 G1 → Ev te σ2 G1 R (m a))
    (hz : l.length ≤ LIM) : EvF (tLc wi g tt te vs) σ G R ((l.filter f).map m) := fun G1 H1 gg s Q q =>
  hs G1 H1 gg s _ fun J G2 H2 w W D hD => by
    refine ⟨fun i k H => k = l.length - i ∧ i ≤ l.length ∧ ∃ G3 acc, Grow G2 H2 G3 H ∧ G3 D = none ∧ H D = some (.lst acc) ∧ acc.length ≤ i ∧ All2 R G3 (((l.take i).filter f).map m) acc,
      ⟨l.length, by simp, Nat.zero_le _, G2, [], Grow.hid w.gh hD, w.gh.free hD, upd_same, Nat.le_refl _, trivial⟩, ?_⟩
    rintro i k H ⟨rfl, hi, G3, acc, w3, n3, h3, l3, a3⟩
    by_cases hlt : i < l.length
    · refine .inr ⟨W.go i H hlt (w3.gg.trans w3.gh), fun H' => i + 1 ≤ l.length ∧ ∃ G3 acc, Grow G2 H2 G3 H' ∧ G3 D = none ∧ H' D = some (.lst acc) ∧ acc.length ≤ i + 1 ∧ All2 R G3 (((l.take (i + 1)).filter f).map m) acc, fun H' ⟨z, r⟩ => ⟨l.length - (i + 1), by omega, rfl, z, r⟩, fun x H' y => ?_⟩
      have ha : l[i]? = some l[i] := List.getElem?_eq_getElem hlt
      have hm : l[i] ∈ l := List.getElem_mem hlt
      obtain ⟨G4, w4, rx⟩ := W.yld i l[i] G3 H x H' ha w3.gg w3.gh y
      have et : (l.take (i + 1)).filter f = (l.take i).filter f ++ (if f l[i] = true then [l[i]] else []) := by
        rw [take_more ha, List.filter_append, List.filter_cons, List.filter_nil]
      refine hh l[i] x (wipe σ vs) G4 H' _ rx w4.gh fun σ2 p2 => ⟨hw _ _ _ p2, ?_⟩
      refine ht l[i] σ2 G4 hm ((gg.trans w.gg).trans (w3.gg.trans w4.gg)) p2 G4 H' (Same.refl _) w4.gh _ fun G5 H5 w5 => ?_
      have n4 := w4.out h3 n3
      have h4 := w4.hh _ _ h3
      have n5 := w5.out h4 n4
      have h5 := w5.hh _ _ h4
      cases hf : f l[i] with
      | false =>
        show i + 1 ≤ l.length ∧ _
        refine ⟨hlt, G5, acc, (w3.trans w4).trans w5, n5, h5, Nat.le_succ_of_le l3, ?_⟩
        rw [et, hf, if_neg (by decide), List.append_nil]
        exact a3.up (w4.gg.trans w5.gg)
      | true =>
        show te σ2 H5 _
        refine he l[i] σ2 G4 hm hf ((gg.trans w.gg).trans (w3.gg.trans w4.gg)) p2 G5 H5 w5.gg w5.gh _ fun y G6 H6 w6 ry => ?_
        have n6 := w6.out h5 n5
        have h6 := w6.hh _ _ h5
        refine ⟨acc, h6, Nat.lt_of_le_of_lt (Nat.le_trans l3 (Nat.le_trans hi hz)) (by decide), hlt, G6, acc ++ [y], (((w3.trans w4).trans w5).trans w6).mutd hD n6, n6, upd_same, by
          rw [List.length_append]
          exact Nat.add_le_add l3 (Nat.le_refl 1), ?_⟩
        rw [et, hf, if_pos rfl, List.map_append]
        exact (a3.up ((w4.gg.trans w5.gg).trans w6.gg)).app (All2.one ry)
    · have e : i = l.length := by omega
      subst e
      refine .inl ⟨W.stop H (w3.gg.trans w3.gh), ?_⟩
      rw [List.take_length] at a3
      exact q D acc G3 H (w.trans w3) (w.hh.free hD) n3 h3 (Nat.le_trans l3 hz) a3
/-- over a list or a range, the target a name -/
theorem ef_lc [Mono RA] [Mono R] {j : Nat} (f : α → Bool) (m : α → β) (hs : Src wi σ G RA l) (hz : l.length ≤ LIM) (hw : ∀ x, wipe ((wipe σ vs).set j (some x)) vs = wipe σ vs)
    (ht : ∀ a x G1, a ∈ l → Same G G1 → RA a x G1 → EvT tt ((wipe σ vs).set j (some x)) G1 (f a)) (he : ∀ a x G1, a ∈ l → f a = true → Same G G1 → RA a x G1 → Ev te ((wipe σ vs).set j (some x)) G1 R (m a)) :
    EvF (tLc wi (gName j) tt te vs) σ G R ((l.filter f).map m) :=
  ef_lcG f m hs hit_name (fun a σ2 G ⟨x, _, e⟩ => by rw [e]; exact hw x) (fun a σ2 G1 hm g ⟨x, r, e⟩ => by rw [e]; exact ht a x G1 hm g r) (fun a σ2 G1 hm hf g ⟨x, r, e⟩ => by rw [e]; exact he a x G1 hm hf g r) hz
/-- .. without a test -/
theorem ef_map [Mono RA] [Mono R] {j : Nat} (m : α → β) (hs : Src wi σ G RA l) (hz : l.length ≤ LIM) (hw : ∀ x, wipe ((wipe σ vs).set j (some x)) vs = wipe σ vs)
    (he : ∀ a x G1, a ∈ l → Same G G1 → RA a x G1 → Ev te ((wipe σ vs).set j (some x)) G1 R (m a)) :
    EvF (tLc wi (gName j) tYes te vs) σ G R (l.map m) :=
  ef_is (ef_lc (fun _ => true) m hs hz hw (fun _ _ _ _ _ _ => et_yes) (fun a x G1 hm _ g r => he a x G1 hm g r)) (by rw [List.filter_eq_self.mpr (fun _ _ => rfl)])
end
/-! ### statements -/
section
variable {α β : Type} {K : PySem.W.Frag} {σ : L2.St} {G H : Hp} {te ta tb : TE} {t : TT} {tu tz tw : TS} {R : Rel α} {S : Rel β} {a : α} {D : Ends} {i : Nat}
theorem s_asg (s : Same G H) (h : Ev te σ G R a) (k : ∀ v G2 H2, Grow G H G2 H2 → R a v G2 → D.nx (σ.set i (some v)) H2) : tAsg te (gName i) D σ H := h G H (Same.refl _) s _ k
theorem q_asg (s : Same G H) (h : Ev te σ G R a) (k : ∀ v G2 H2, Grow G H G2 H2 → R a v G2 → tz D (σ.set i (some v)) H2) : tSeq (tAsg te (gName i)) tz D σ H := h G H (Same.refl _) s _ k
theorem q_asgF {l : List α} (s : Same G H) (h : EvF te σ G R l) (k : ∀ p xs G2 H2, Grow G H G2 H2 → H p = none → G2 p = none → H2 p = some (.lst xs) → xs.length ≤ LIM → All2 R G2 l xs → tz D (σ.set i (some (.ref p))) H2) : tSeq (tAsg te (gName i)) tz D σ H := h G H (Same.refl _) s _ k
theorem s_ret (s : Same G H) (h : Ev te σ G R a) (k : Ret R a G H D.rt) : tRet te D σ H := h G H (Same.refl _) s _ k
theorem s_retF {l : List α} (s : Same G H) (h : EvF te σ G R l) (k : RetF R l G H D.rt) : tRet te D σ H := h G H (Same.refl _) s _ k
theorem s_if {b : Bool} (s : Same G H) (h : EvT t σ G b) (h1 : b = true → ∀ G2 H2, Grow G H G2 H2 → tu D σ H2) (h2 : b = false → ∀ G2 H2, Grow G H G2 H2 → tw D σ H2) : tIfS t tu tw D σ H := h G H (Same.refl _) s _ fun G2 H2 w => by
  cases b with
  | true => exact h1 rfl G2 H2 w
  | false => exact h2 rfl G2 H2 w
theorem q_if {b : Bool} (s : Same G H) (h : EvT t σ G b) (h1 : b = true → ∀ G2 H2, Grow G H G2 H2 → tu { D with nx := tz D } σ H2) (h2 : b = false → ∀ G2 H2, Grow G H G2 H2 → tw { D with nx := tz D } σ H2) : tSeq (tIfS t tu tw) tz D σ H := s_if (D := { D with nx := tz D }) s h h1 h2
/-- an if that returns -/
theorem q_when {b : Bool} (s : Same G H) (h : EvT t σ G b) (h1 : b = true → ∀ G2 H2, Grow G H G2 H2 → tu { D with nx := tz D } σ H2) (h2 : b = false → ∀ G2 H2, Grow G H G2 H2 → tz D σ H2) : tSeq (tIfS t tu tNext) tz D σ H := s_if (D := { D with nx := tz D }) s h h1 h2
theorem Ret.go {G2 H2 : Hp} {Q : VK} (k : Ret R a G H Q) (w : Grow G H G2 H2) : Ret R a G2 H2 Q := fun v G3 H3 w3 r => k v G3 H3 (w.trans w3) r
/-- l.append(e), l not known -/
theorem q_app {p : Addr} {xs : List V} (s : Same G H) (hs : σ[i]? = some (some (.ref p))) (hp : H p = some (.lst xs)) (hz : xs.length < 100000) (n : G p = none) (h : Ev te σ G R a)
    (k : ∀ v G2 H2, Grow G H G2 H2 → G2 p = none → R a v G2 → Same G2 (upd H2 p (.lst (xs ++ [v]))) → tz D σ (upd H2 p (.lst (xs ++ [v])))) : tSeq (tDrop (tBM K "list" rAppend (tVar i) (tCons te tNil))) tz D σ H :=
  ⟨_, hs, Or.inl ⟨rfl, _, SqL.of hp⟩, h G H (Same.refl _) s _ fun v G2 H2 w r => ⟨p, xs, v, rfl, rfl, w.hh _ _ hp, Nat.lt_of_lt_of_le hz (by decide), k v G2 H2 w (w.out hp n) r (w.gh.mut (w.out hp n))⟩⟩
theorem s_app {p : Addr} {xs : List V} (s : Same G H) (hs : σ[i]? = some (some (.ref p))) (hp : H p = some (.lst xs)) (hz : xs.length < 100000) (n : G p = none) (h : Ev te σ G R a)
    (k : ∀ v G2 H2, Grow G H G2 H2 → G2 p = none → R a v G2 → Same G2 (upd H2 p (.lst (xs ++ [v]))) → D.nx σ (upd H2 p (.lst (xs ++ [v])))) : tDrop (tBM K "list" rAppend (tVar i) (tCons te tNil)) D σ H :=
  ⟨_, hs, Or.inl ⟨rfl, _, SqL.of hp⟩, h G H (Same.refl _) s _ fun v G2 H2 w r => ⟨p, xs, v, rfl, rfl, w.hh _ _ hp, Nat.lt_of_lt_of_le hz (by decide), k v G2 H2 w (w.out hp n) r (w.gh.mut (w.out hp n))⟩⟩
/-- l[i] = e, l not known -/
theorem s_setL {p : Addr} {xs : List V} {j : Nat} (s : Same G H) (hs : σ[i]? = some (some (.ref p))) (hp : H p = some (.lst xs)) (n : G p = none) (h : Ev te σ G R a) (hi : Ev tb σ G RN j) (hj : j < xs.length)
    (k : ∀ v G2 H2, Grow G H G2 H2 → G2 p = none → R a v G2 → Same G2 (upd H2 p (.lst (xs.set j v))) → D.nx σ (upd H2 p (.lst (xs.set j v)))) [Mono R] : tAsg te (gSub (tVar i) tb rSetL) D σ H :=
  h G H (Same.refl _) s _ fun v G2 H2 w r => ⟨_, hs, hi G2 H2 w.gg w.gh _ fun y G3 H3 w2 ry => ⟨p, xs, (j : Int), j, rfl, ry, w2.hh _ _ (w.hh _ _ hp), by
    unfold ixN
    rw [if_pos (by omega), if_pos (by omega)]
    exact congrArg some (Int.toNat_natCast j), k v G3 H3 (w.trans w2) ((w.trans w2).out hp n) (Mono.up w2.gg r) ((w.trans w2).gh.mut ((w.trans w2).out hp n))⟩⟩
/-- a loop: Pv by the turn, the slots, what is known, the heap; G0, H0: from where all has grown -/
theorem s_for {G0 H0 : Hp} {wi : TI} {g : TG} {P : α → L2.St → L2.St → Hp → Prop} {l : List α} (s : Grow G0 H0 G H) (hs : Src wi σ G R l) (hh : Hit g R P) (Pv : Nat → L2.St → Hp → Hp → Prop) (h0 : ∀ G2 H2, Grow G H G2 H2 → Pv 0 σ G2 H2)
    (hst : ∀ i a σ1 G1 H1, l[i]? = some a → Same G G1 → Grow G0 H0 G1 H1 → Pv i σ1 G1 H1 → ∀ G2 H2 σ2, Grow G1 H1 G2 H2 → P a σ1 σ2 G2 →
      tu { D with nx := fun σ' H' => ∃ G', Same G1 G' ∧ Grow G0 H0 G' H' ∧ Pv (i + 1) σ' G' H', ct := fun σ' H' => ∃ G', Same G1 G' ∧ Grow G0 H0 G' H' ∧ Pv (i + 1) σ' G' H', bk := D.nx } σ2 H2)
    (hd : ∀ σ1 G1 H1, Same G G1 → Grow G0 H0 G1 H1 → Pv l.length σ1 G1 H1 → D.nx σ1 H1) : tFor wi g tu D σ H :=
  hs G H (Same.refl _) s.gh _ fun J G2 H2 w W => by
    refine ⟨fun i k σ' H' => k = l.length - i ∧ i ≤ l.length ∧ ∃ G', Same G2 G' ∧ Grow G0 H0 G' H' ∧ Pv i σ' G' H', ⟨l.length, by simp, Nat.zero_le _, G2, Same.refl _, s.trans w, h0 G2 H2 w⟩, ?_⟩
    rintro i k σ1 H1 ⟨rfl, hi, G1, g1, s1, p1⟩
    by_cases hlt : i < l.length
    · refine .inr ⟨W.go i H1 hlt (g1.trans s1.gh), fun σ' H' => ∃ G', Same G1 G' ∧ Grow G0 H0 G' H' ∧ Pv (i + 1) σ' G' H', fun σ' H' ⟨G', a1, a2, a3⟩ => ⟨l.length - (i + 1), by omega, rfl, hlt, G', g1.trans a1, a2, a3⟩, fun x H' y => ?_⟩
      have ha : l[i]? = some l[i] := List.getElem?_eq_getElem hlt
      obtain ⟨G3, w3, rx⟩ := W.yld i l[i] G1 H1 x H' ha g1 s1.gh y
      exact hh l[i] x σ1 G3 H' _ rx w3.gh fun σ2 p2 => hst i l[i] σ1 G1 H1 ha (w.gg.trans g1) s1 p1 G3 H' σ2 w3 p2
    · have e : i = l.length := by omega
      subst e
      exact .inl ⟨W.stop H1 (g1.trans s1.gh), hd σ1 G1 H1 (w.gg.trans g1) s1 p1⟩
theorem q_for {G0 H0 : Hp} {wi : TI} {g : TG} {P : α → L2.St → L2.St → Hp → Prop} {l : List α} (s : Grow G0 H0 G H) (hs : Src wi σ G R l) (hh : Hit g R P) (Pv : Nat → L2.St → Hp → Hp → Prop) (h0 : ∀ G2 H2, Grow G H G2 H2 → Pv 0 σ G2 H2)
    (hst : ∀ i a σ1 G1 H1, l[i]? = some a → Same G G1 → Grow G0 H0 G1 H1 → Pv i σ1 G1 H1 → ∀ G2 H2 σ2, Grow G1 H1 G2 H2 → P a σ1 σ2 G2 →
      tu { D with nx := fun σ' H' => ∃ G', Same G1 G' ∧ Grow G0 H0 G' H' ∧ Pv (i + 1) σ' G' H', ct := fun σ' H' => ∃ G', Same G1 G' ∧ Grow G0 H0 G' H' ∧ Pv (i + 1) σ' G' H', bk := tz D } σ2 H2)
    (hd : ∀ σ1 G1 H1, Same G G1 → Grow G0 H0 G1 H1 → Pv l.length σ1 G1 H1 → tz D σ1 H1) : tSeq (tFor wi g tu) tz D σ H := s_for (D := { D with nx := tz D }) s hs hh Pv h0 hst hd
/-- while, by a measure -/
theorem s_while {G0 H0 : Hp} {c : TT} (Pv : Nat → L2.St → Hp → Hp → Prop) (m0 : Nat) (s : Grow G0 H0 G H) (h0 : Pv m0 σ G H)
    (hs : ∀ m σ1 G1 H1, Same G G1 → Grow G0 H0 G1 H1 → Pv m σ1 G1 H1 → ∃ b, EvT c σ1 G1 b ∧ (b = true → ∀ G2 H2, Grow G1 H1 G2 H2 → tu { D with nx := fun σ' H' => ∃ G' m', m' < m ∧ Same G1 G' ∧ Grow G0 H0 G' H' ∧ Pv m' σ' G' H', ct := fun σ' H' => ∃ G' m', m' < m ∧ Same G1 G' ∧ Grow G0 H0 G' H' ∧ Pv m' σ' G' H', bk := D.nx } σ1 H2) ∧
      (b = false → ∀ G2 H2, Grow G1 H1 G2 H2 → D.nx σ1 H2)) : tWhile c tu D σ H := by
  refine ⟨fun m σ' H' => ∃ G', Same G G' ∧ Grow G0 H0 G' H' ∧ Pv m σ' G' H', ⟨m0, G, Same.refl _, s, h0⟩, ?_⟩
  rintro m σ1 H1 ⟨G1, g1, s1, p1⟩
  obtain ⟨b, hc, k1, k2⟩ := hs m σ1 G1 H1 g1 s1 p1
  refine hc G1 H1 (Same.refl _) s1.gh _ fun G2 H2 w => ?_
  cases b with
  | true => exact ⟨_, fun σ' H' ⟨G', m', l, a1, a2, a3⟩ => ⟨m', l, G', g1.trans a1, a2, a3⟩, k1 rfl G2 H2 w⟩
  | false => exact k2 rfl G2 H2 w
theorem q_while {G0 H0 : Hp} {c : TT} (Pv : Nat → L2.St → Hp → Hp → Prop) (m0 : Nat) (s : Grow G0 H0 G H) (h0 : Pv m0 σ G H)
    (hs : ∀ m σ1 G1 H1, Same G G1 → Grow G0 H0 G1 H1 → Pv m σ1 G1 H1 → ∃ b, EvT c σ1 G1 b ∧ (b = true → ∀ G2 H2, Grow G1 H1 G2 H2 → tu { D with nx := fun σ' H' => ∃ G' m', m' < m ∧ Same G1 G' ∧ Grow G0 H0 G' H' ∧ Pv m' σ' G' H', ct := fun σ' H' => ∃ G' m', m' < m ∧ Same G1 G' ∧ Grow G0 H0 G' H' ∧ Pv m' σ' G' H', bk := tz D } σ1 H2) ∧
      (b = false → ∀ G2 H2, Grow G1 H1 G2 H2 → tz D σ1 H2)) : tSeq (tWhile c tu) tz D σ H := s_while (D := { D with nx := tz D }) Pv m0 s h0 hs
/-- a list that was built is handed back -/
theorem s_retB {G0 H0 : Hp} {p : Addr} {xs : List V} {l : List α} (s : Grow G0 H0 G H) (n : H0 p = none) (hs : σ[i]? = some (some (.ref p))) (hp : H p = some (.lst xs)) (hz : xs.length ≤ LIM) (g : G p = none) (h : All2 R G l xs) (k : RetF R l G0 H0 D.rt) : tRet (tVar i) D σ H :=
  ⟨_, hs, k p xs G H s n g hp hz h⟩
end
end DH
namespace DH
open PySem PySem.Spec PyProof.Rows L2
/-! ### the objects -/
theorem lk_here {k : Str} {v : V} {r : List (Str × V)} : List.lookup k ((k, v) :: r) = some v := by
  simp only [List.lookup, beq_self_eq_true k]
theorem lk_past {k g : Str} {v : V} {r : List (Str × V)} (h : (k == g) = false) : List.lookup k ((g, v) :: r) = List.lookup k r := by
  simp only [List.lookup, h]
theorem lk_2 {k g : Str} {u v : V} {r : List (Str × V)} (h : (k == g) = false) : List.lookup k ((g, u) :: (k, v) :: r) = some v := (lk_past h).trans lk_here
theorem lk_3 {k g f : Str} {u w v : V} {r : List (Str × V)} (h : (k == g) = false) (h2 : (k == f) = false) : List.lookup k ((g, u) :: (f, w) :: (k, v) :: r) = some v := (lk_past h).trans (lk_2 h2)
def fDeed (n u g : V) : List (Str × V) := [("needs", n), ("uses", u), ("gives", g)]
def fPlay (d t : V) : List (Str × V) := [("done", d), ("things", t)]
def fHouse (f d p : V) : List (Str × V) := [("first", f), ("deeds", d), ("play", p)]
def RDeed (mg : Mg) : Rel Vberan.Deed := fun d v H => ∃ p dx n u g, v = .ref p ∧ H p = some (.ins (adr mg "Deed") dx (fDeed n u g)) ∧ RL (RL RN) d.needs n H ∧ RL RN d.uses u H ∧ RL RN d.gives g H
def RPlay (mg : Mg) : Rel Vberan.Play := fun a v H => ∃ p dx d t, v = .ref p ∧ H p = some (.ins (adr mg "Play") dx (fPlay d t)) ∧ RL RN a.done d H ∧ RL RN a.things t H
def RHouse (mg : Mg) : Rel (Vberan.House × Vberan.Play) := fun a v H => ∃ p dx f d y, v = .ref p ∧ H p = some (.ins (adr mg "House") dx (fHouse f d y)) ∧ RL RN a.1.first f H ∧ RL (RDeed mg) a.1.deeds d H ∧ RPlay mg a.2 y H
instance (mg : Mg) : Mono (RDeed mg) := ⟨fun e ⟨p, dx, n, u, g, ev, hp, h1, h2, h3⟩ => ⟨p, dx, n, u, g, ev, e _ _ hp, Mono.up e h1, Mono.up e h2, Mono.up e h3⟩⟩
instance (mg : Mg) : Mono (RPlay mg) := ⟨fun e ⟨p, dx, d, t, ev, hp, h1, h2⟩ => ⟨p, dx, d, t, ev, e _ _ hp, Mono.up e h1, Mono.up e h2⟩⟩
instance (mg : Mg) : Mono (RHouse mg) := ⟨fun e ⟨p, dx, f, d, y, ev, hp, h1, h2, h3⟩ => ⟨p, dx, f, d, y, ev, e _ _ hp, Mono.up e h1, Mono.up e h2, Mono.up e h3⟩⟩
section
variable {K : PySem.W.Frag} {mg : Mg} {σ : L2.St} {G : Hp} {te : TE}
theorem ev_needs (T : Top K mg) {d : Vberan.Deed} (h : Ev te σ G (RDeed mg) d) : Ev (tFld K te "needs") σ G (RL (RL RN)) d.needs :=
  ev_fld h fun v G1 _ ⟨p, dx, n, u, g, ev, hp, h1, h2, h3⟩ => ⟨p, _, dx, _, n, ev, hp, T.c_Deed, T.n_Deed_needs, lk_here, h1⟩
theorem ev_uses (T : Top K mg) {d : Vberan.Deed} (h : Ev te σ G (RDeed mg) d) : Ev (tFld K te "uses") σ G (RL RN) d.uses :=
  ev_fld h fun v G1 _ ⟨p, dx, n, u, g, ev, hp, h1, h2, h3⟩ => ⟨p, _, dx, _, u, ev, hp, T.c_Deed, T.n_Deed_uses, lk_2 (by decide +kernel), h2⟩
theorem ev_gives (T : Top K mg) {d : Vberan.Deed} (h : Ev te σ G (RDeed mg) d) : Ev (tFld K te "gives") σ G (RL RN) d.gives :=
  ev_fld h fun v G1 _ ⟨p, dx, n, u, g, ev, hp, h1, h2, h3⟩ => ⟨p, _, dx, _, g, ev, hp, T.c_Deed, T.n_Deed_gives, lk_3 (by decide +kernel) (by decide +kernel), h3⟩
theorem ev_done (T : Top K mg) {d : Vberan.Play} (h : Ev te σ G (RPlay mg) d) : Ev (tFld K te "done") σ G (RL RN) d.done :=
  ev_fld h fun v G1 _ ⟨p, dx, n, u, ev, hp, h1, h2⟩ => ⟨p, _, dx, _, n, ev, hp, T.c_Play, T.n_Play_done, lk_here, h1⟩
theorem ev_things (T : Top K mg) {d : Vberan.Play} (h : Ev te σ G (RPlay mg) d) : Ev (tFld K te "things") σ G (RL RN) d.things :=
  ev_fld h fun v G1 _ ⟨p, dx, n, u, ev, hp, h1, h2⟩ => ⟨p, _, dx, _, u, ev, hp, T.c_Play, T.n_Play_things, lk_2 (by decide +kernel), h2⟩
theorem ev_first (T : Top K mg) {d : Vberan.House × Vberan.Play} (h : Ev te σ G (RHouse mg) d) : Ev (tFld K te "first") σ G (RL RN) d.1.first :=
  ev_fld h fun v G1 _ ⟨p, dx, n, u, g, ev, hp, h1, h2, h3⟩ => ⟨p, _, dx, _, n, ev, hp, T.c_House, T.n_House_first, lk_here, h1⟩
theorem ev_deeds (T : Top K mg) {d : Vberan.House × Vberan.Play} (h : Ev te σ G (RHouse mg) d) : Ev (tFld K te "deeds") σ G (RL (RDeed mg)) d.1.deeds :=
  ev_fld h fun v G1 _ ⟨p, dx, n, u, g, ev, hp, h1, h2, h3⟩ => ⟨p, _, dx, _, u, ev, hp, T.c_House, T.n_House_deeds, lk_2 (by decide +kernel), h2⟩
theorem ev_play (T : Top K mg) {d : Vberan.House × Vberan.Play} (h : Ev te σ G (RHouse mg) d) : Ev (tFld K te "play") σ G (RPlay mg) d.2 :=
  ev_fld h fun v G1 _ ⟨p, dx, n, u, g, ev, hp, h1, h2, h3⟩ => ⟨p, _, dx, _, g, ev, hp, T.c_House, T.n_House_play, lk_3 (by decide +kernel) (by decide +kernel), h3⟩
end
/-! ### promises and bodies: needs, steps -/
def sp_holds_all : Sp := fun vs H Q _ => ∃ G b w x y, Same G H ∧ vs = [x, y] ∧ RL RN b x G ∧ RL RN w y G ∧ Ret RB (w.all b.contains) G H Q
def sp_is_end_done (mg : Mg) : Sp := fun vs H Q _ => ∃ G p x, Same G H ∧ vs = [x] ∧ RPlay mg p x G ∧ Ret RB (Vberan.ended p) G H Q
def sp_are_met : Sp := fun vs H Q _ => ∃ G n b x y, Same G H ∧ vs = [x, y] ∧ RL (RL RN) n x G ∧ RL RN b y G ∧ Ret RB (Vberan.met b n) G H Q
def FitsD (e : Vberan.Deed) (k : Nat) : Prop := (∀ u ∈ e.uses, u < k) ∧ e.gives.length = k
def sp_kinds_for (mg : Mg) : Sp := fun vs H Q _ => ∃ G ds p d x y z, Same G H ∧ vs = [x, y, z] ∧ RL (RDeed mg) ds x G ∧ RPlay mg p y G ∧ RN d z G ∧ d < ds.length ∧ (∀ e ∈ ds, FitsD e p.things.length) ∧ Ret (RL RI) (kindsI ds p d) G H Q
def sp_all_steps (mg : Mg) : Sp := fun vs H Q _ => ∃ G ds p x y, Same G H ∧ vs = [x, y] ∧ RL (RDeed mg) ds x G ∧ RPlay mg p y G ∧ (∀ e ∈ ds, FitsD e p.things.length) ∧ ds.length ≤ 16 ∧ (∀ e ∈ ds, e.uses.length ≤ 5) ∧ Ret (RL (RP RN RI)) (stepsI ds p) G H Q
section
variable {K : PySem.W.Frag} {mg : Mg} {vs : List V} {H : Hp} {Q : VK} {E : XK}
theorem all_id {α : Type} (f : α → Bool) (l : List α) : (l.map f).all id = l.all f := by
  rw [List.all_map]
  rfl
theorem any_id {α : Type} (f : α → Bool) (l : List α) : (l.map f).any id = l.any f := by
  rw [List.any_map]
  rfl
theorem pure_holds_all (T : Top K mg) (h : sp_holds_all vs H Q E) : t_holds_all K mg { nx := fun _ H' => Q .non H', rt := Q } (start N_holds_all vs) H := by
  obtain ⟨G, b, w, x, y, s, rfl, rx, ry, k⟩ := h
  refine q_for (Grow.refl s) (src_list (ev_var rfl ry)) hit_name (fun i σ' G' H' => ∃ d, σ' = [some x, some y, d] ∧ (w.take i).all b.contains = true) (fun _ _ _ => ⟨none, rfl, rfl⟩) ?_ ?_
  · rintro i a σ1 G1 H1 hi g1 s1 ⟨d, rfl, q⟩ G2 H2 σ2 w2 ⟨v, rv, rfl⟩
    refine s_if w2.gh (et_test (ev_niN (ev_var rfl rv) (ev_var rfl (Mono.up (g1.trans w2.gg) rx)))) (fun hb G3 H3 w3 => ?_) (fun hb G3 H3 w3 => ?_)
    · refine s_ret w3.gh (ev_is ev_bl ?_) (k.go ((s1.trans w2).trans w3))
      rw [Bool.not_eq_true'] at hb
      exact (List.all_eq_false.mpr ⟨a, List.mem_of_getElem? hi, by rw [hb]; decide⟩).symm
    · rw [Bool.not_eq_false'] at hb
      exact ⟨G3, w2.gg.trans w3.gg, (s1.trans w2).trans w3, some v, rfl, by rw [take_more hi, List.all_append, q, List.all_cons, hb]; rfl⟩
  · rintro σ1 G1 H1 g1 s1 ⟨d, rfl, q⟩
    rw [List.take_length] at q
    exact s_ret s1.gh (ev_is ev_bl q.symm) (k.go s1)
theorem pure_are_met (T : Top K mg) (h : sp_are_met vs H Q E) : t_are_met K mg sp_holds_all { nx := fun _ H' => Q .non H', rt := Q } (start N_are_met vs) H := by
  obtain ⟨G, n, b, x, y, s, rfl, rx, ry, k⟩ := h
  refine q_for (Grow.refl s) (src_list (ev_var rfl rx)) hit_name (fun i σ' G' H' => ∃ d, σ' = [some x, some y, d] ∧ ((n.take i).any fun w => w.all b.contains) = false) (fun _ _ _ => ⟨none, rfl, rfl⟩) ?_ ?_
  · rintro i a σ1 G1 H1 hi g1 s1 ⟨d, rfl, q⟩ G2 H2 σ2 w2 ⟨v, rv, rfl⟩
    refine s_if w2.gh (et_B (ev_call2 (W := RB) (c := a.all b.contains) (ev_var rfl (Mono.up (g1.trans w2.gg) ry)) (ev_var rfl rv) fun x y G1 H1 Q _ s rx ry k => ⟨G1, _, _, x, y, s, rfl, rx, ry, k⟩)) (fun hb G3 H3 w3 => ?_) (fun hb G3 H3 w3 => ?_)
    · refine s_ret w3.gh (ev_is ev_bl ?_) (k.go ((s1.trans w2).trans w3))
      exact (List.any_eq_true.mpr ⟨a, List.mem_of_getElem? hi, hb⟩).symm
    · exact ⟨G3, w2.gg.trans w3.gg, (s1.trans w2).trans w3, some v, rfl, by rw [take_more hi, List.any_append, q, List.any_cons, hb]; rfl⟩
  · rintro σ1 G1 H1 g1 s1 ⟨d, rfl, q⟩
    rw [List.take_length] at q
    exact s_ret s1.gh (ev_is ev_bl q.symm) (k.go s1)
theorem pure_is_end_done (T : Top K mg) (h : sp_is_end_done mg vs H Q E) : t_is_end_done K mg { nx := fun _ H' => Q .non H', rt := Q } (start N_is_end_done vs) H := by
  obtain ⟨G, p, x, s, rfl, rx, k⟩ := h
  exact s_ret s (ev_isN (n := 0) (ev_nat rfl) (ev_done T (ev_var rfl rx))) k
theorem ev_end {σ : L2.St} {G : Hp} {te : TE} {p : Vberan.Play} (h : Ev te σ G (RPlay mg) p) : Ev (tCall (sp_is_end_done mg) [] C8.E0 (tCons te tNil)) σ G RB (Vberan.ended p) := ev_call1 h fun x G1 H1 Q _ s rx k => ⟨G1, p, x, s, rfl, rx, k⟩
theorem ev_met {σ : L2.St} {G : Hp} {ta tb : TE} {n : List (List Nat)} {b : List Nat} (h1 : Ev ta σ G (RL (RL RN)) n) (h2 : Ev tb σ G (RL RN) b) : Ev (tCall sp_are_met [] C8.E0 (tCons ta (tCons tb tNil))) σ G RB (Vberan.met b n) :=
  ev_call2 h1 h2 fun x y G1 H1 Q _ s rx ry k => ⟨G1, _, _, x, y, s, rfl, rx, ry, k⟩
theorem getD_of {α : Type} {l : List α} {i : Nat} {a d : α} (h : l[i]? = some a) : l.getD i d = a := by
  rw [List.getD_eq_getElem?_getD, h]
  rfl
theorem pure_kinds_for (T : Top K mg) (h : sp_kinds_for mg vs H Q E) : t_kinds_for K mg sp_are_met { nx := fun _ H' => Q .non H', rt := Q } (start N_kinds_for vs) H := by
  obtain ⟨G, ds, p, d, x, y, z, s, rfl, rx, ry, rz, hd, hf, k⟩ := h
  have e0 : ds[d]? = some ds[d] := List.getElem?_eq_getElem hd
  have hm : ds[d] ∈ ds := List.getElem_mem hd
  unfold kindsI at k
  rw [e0] at k
  dsimp only at k
  refine q_asg s (ev_ix (ev_var rfl rx) (ev_var rfl rz) e0) fun v G2 H2 w rv => ?_
  have ry2 := Mono.up w.gg ry
  refine q_when w.gh (et_or (et_test (ev_isN (ev_var rfl rz) (ev_done T (ev_var rfl ry2)))) fun _ => et_not (et_B (ev_met (ev_needs T (ev_var rfl rv)) (ev_done T (ev_var rfl ry2))))) (fun hb G3 H3 w3 => ?_) (fun hb G3 H3 w3 => ?_)
  · refine s_ret w3.gh (ef_nil (R := RI)).ev ?_
    rw [if_pos hb] at k
    exact k.go (w.trans w3)
  · rw [if_neg (by rw [show (p.done.contains d || !Vberan.met p.done ds[d].needs) = false from hb]; decide)] at k
    have rv3 := Mono.up w3.gg rv
    have ry3 := Mono.up w3.gg ry2
    refine q_when w3.gh (et_test (ev_eq (ev_n2i (ev_len (ev_uses T (ev_var rfl rv3)))) ev_int)) (fun hb G4 H4 w4 => ?_) (fun hb G4 H4 w4 => ?_)
    · have hl : ds[d].uses.length = 0 := by
        have := of_decide_eq_true hb
        omega
      rw [if_pos hl] at k
      refine s_ret w4.gh (ef_one (R := RI) ?_).ev (k.go ((w.trans w3).trans w4))
      intro G5 H5 g5 s5 Q5 q5
      exact q5 _ G5 H5 (Grow.refl s5) rfl
    · have hl : ¬ ds[d].uses.length = 0 := fun e => by
        have := of_decide_eq_false hb
        omega
      rw [if_neg hl] at k
      have rv4 := Mono.up w4.gg rv3
      have ry4 := Mono.up w4.gg ry3
      obtain ⟨_, _, _, uv, _, _, _, _, ru, _⟩ := id rv4
      refine s_ret w4.gh (ef_lc (fun k => decide (0 < p.things.getD k 0)) Int.ofNat (src_list (ev_uses T (ev_var rfl rv4))) ru.len (fun _ => rfl) (fun a v G1 ha g r => ?_) (fun a v G1 _ _ g r => ?_)).ev (k.go ((w.trans w3).trans w4))
      · have ha2 : a < p.things.length := (hf _ hm).1 a ha
        have ea : p.things[a]? = some p.things[a] := List.getElem?_eq_getElem ha2
        refine et_is (et_test (ev_gt (ev_n2i (ev_ix (ev_things T (ev_var rfl (Mono.up g ry4))) (ev_var rfl r) ea)) ev_int)) ?_
        rw [getD_of ea]
        exact decide_eq_decide.mpr (by omega)
      · exact ev_var rfl (show RI (Int.ofNat a) v G1 from r)
end
end DH
namespace DH
open PySem PySem.Spec PyProof.Rows L2
/-! ### more words -/
section
variable {α β : Type} {K : PySem.W.Frag} {σ : L2.St} {G : Hp} {te ta tb : TE} {R : Rel α}
theorem map_ofNat_toNat : ∀ l : List Nat, (l.map Int.ofNat).map Int.toNat = l
  | [] => rfl
  | a :: l => congrArg (a :: ·) (map_ofNat_toNat l)
theorem ef_sortedN {l m : List Nat} (h : Ev te σ G (RL RN) l) (hm : ∀ m' : List Nat, m'.Perm l → m'.Pairwise (· ≤ ·) → m' = m) : EvF (tCB (rSortedI K) (tCons te tNil)) σ G RN m := fun G1 H1 g s Q q =>
  h G1 H1 g s _ fun v G2 H2 w ⟨p, xs, e, hp, hl, ha⟩ => ⟨p, l.map Int.ofNat, by rw [e], SqL.of (by rw [← all2_nat.mp ha]; exact w.gh _ _ hp), fun ns o hP hS hn => by
    have hpos : ∀ z ∈ ns, ∃ n : Nat, z = (n : Int) := fun z hz => by
      obtain ⟨n, _, e⟩ := List.mem_map.mp (hP.mem_iff.mp hz)
      exact ⟨n, e.symm⟩
    have e1 : (ns.map Int.toNat).map Int.ofNat = ns := by
      rw [List.map_map]
      conv => rhs; rw [← List.map_id ns]
      refine List.map_congr_left fun z hz => ?_
      obtain ⟨n, rfl⟩ := hpos z hz
      rfl
    have e2 : ns.map Int.toNat = m := hm _ (by
      have z := hP.map Int.toNat
      rw [map_ofNat_toNat] at z
      exact z) (by
      rw [List.pairwise_map]
      exact hS.imp fun {a b} hab => Int.toNat_le_toNat hab)
    have hz : (ns.map V.int).length ≤ LIM := by
      rw [List.length_map, hP.length_eq, List.length_map, ← ha.len]
      exact hl
    refine q o (ns.map V.int) G2 _ (w.trans (Grow.hid w.gh hn)) (w.hh.free hn) (w.gh.free hn) upd_same hz ?_
    rw [← e1, e2]
    exact all2_nat.mpr rfl⟩
theorem flat_len {f : Nat → List α} {c : Nat} (h : ∀ d, (f d).length ≤ c) : ∀ i, ((List.range i).flatMap f).length ≤ c * i
  | 0 => by simp
  | i + 1 => by
    rw [List.range_succ, List.flatMap_append, List.length_append]
    have := flat_len h i
    have h2 : ([i].flatMap f).length = (f i).length := by simp
    rw [h2, Nat.mul_succ]
    exact Nat.add_le_add this (h i)
theorem all2_nil {H : Hp} {xs : List V} (h : All2 R H [] xs) : xs = [] := List.eq_nil_of_length_eq_zero h.len
end
section
variable {K : PySem.W.Frag} {mg : Mg} {vs : List V} {H : Hp} {Q : VK} {E : XK}
theorem ev_kinds {σ : L2.St} {G : Hp} {ta tb tc : TE} {ds : List Vberan.Deed} {p : Vberan.Play} {d : Nat} (h1 : Ev ta σ G (RL (RDeed mg)) ds) (h2 : Ev tb σ G (RPlay mg) p) (h3 : Ev tc σ G RN d) (hd : d < ds.length) (hf : ∀ e ∈ ds, FitsD e p.things.length) :
    Ev (tCall (sp_kinds_for mg) [] C8.E0 (tCons ta (tCons tb (tCons tc tNil)))) σ G (RL RI) (kindsI ds p d) :=
  ev_call3 h1 h2 h3 fun x y z G1 H1 Q _ s rx ry rz k => ⟨G1, _, _, _, x, y, z, s, rfl, rx, ry, rz, hd, hf, k⟩
theorem kindsI_len {ds : List Vberan.Deed} {p : Vberan.Play} (h : ∀ e ∈ ds, e.uses.length ≤ 5) (d : Nat) : (kindsI ds p d).length ≤ 5 := by
  unfold kindsI
  split
  · exact Nat.zero_le _
  · rename_i e he
    have hm := h e (List.mem_of_getElem? he)
    split
    · exact Nat.zero_le _
    · split
      · show 1 ≤ 5
        decide
      · rw [List.length_map]
        exact Nat.le_trans (List.length_filter_le _ _) hm
theorem pure_all_steps (T : Top K mg) (h : sp_all_steps mg vs H Q E) : t_all_steps K mg (sp_kinds_for mg) { nx := fun _ H' => Q .non H', rt := Q } (start N_all_steps vs) H := by
  obtain ⟨G, ds, p, x, y, s, rfl, rx, ry, hf, h16, h5, k⟩ := h
  have hk : ∀ d, ((kindsI ds p d).map fun k => (d, k)).length ≤ 5 := fun d => by
    rw [List.length_map]
    exact kindsI_len h5 d
  refine q_asgF s (ef_nil (R := RP RN RI)) fun l xs G2 H2 w hn g2 h2 hl a2 => ?_
  rw [all2_nil a2] at h2
  refine q_for w (src_range (ev_len (ev_var rfl (Mono.up w.gg rx))) (Nat.le_trans h16 (by decide))) hit_name
    (fun i σ' G' H' => ∃ a b xs, σ' = [some x, some y, some (.ref l), a, b] ∧ G' l = none ∧ H' l = some (.lst xs) ∧ All2 (RP RN RI) G' ((List.range i).flatMap fun d => (kindsI ds p d).map fun k => (d, k)) xs)
    (fun G3 H3 w3 => ⟨none, none, [], rfl, w3.out h2 g2, w3.hh _ _ h2, trivial⟩) ?_ ?_
  · rintro i d σ1 G1 H1 hid g1 s1 ⟨a, b, xs, rfl, n1, h1, a1⟩ G3 H3 σ2 w3 ⟨v, rv, rfl⟩
    have hi : i < ds.length := by
      have z := (List.getElem?_eq_some_iff.mp hid).1
      rw [List.length_range] at z
      exact z
    rw [List.getElem?_range hi] at hid
    cases hid
    have gx := w.gg.trans (g1.trans w3.gg)
    refine s_for (s1.trans w3) (src_list (ev_kinds (ev_var rfl (Mono.up gx rx)) (ev_var rfl (Mono.up gx ry)) (ev_var rfl rv) hi hf)) hit_name
      (fun j σ' G' H' => ∃ b xs, σ' = [some x, some y, some (.ref l), some v, b] ∧ G' l = none ∧ H' l = some (.lst xs) ∧ All2 (RP RN RI) G' (((List.range i).flatMap fun d => (kindsI ds p d).map fun k => (d, k)) ++ ((kindsI ds p i).take j).map fun k => (i, k)) xs)
      (fun G4 H4 w4 => ⟨b, xs, rfl, (w3.trans w4).out h1 n1, (w3.trans w4).hh _ _ h1, by
        rw [List.take_zero, List.map_nil, List.append_nil]
        exact a1.up (w3.gg.trans w4.gg)⟩) ?_ ?_
    · rintro j c σ3 G4 H4 hjc g4 s4 ⟨b2, ys, rfl, n4, h4, a4⟩ G5 H5 σ4 w5 ⟨u, ru, rfl⟩
      have rv5 : RN i v G5 := rv
      have hys : ys.length < 100000 := by
        rw [a4.len, List.length_append, List.length_map, List.length_take]
        have z1 := flat_len hk i
        have z2 := kindsI_len (p := p) h5 i
        omega
      refine s_app (R := RP RN RI) (a := (i, c)) w5.gh rfl (w5.hh _ _ h4) hys (w5.out h4 n4) (fun G6 H6 g6 s6 Q6 q6 => ?_) (fun z G6 H6 w6 n6 rz s6 => ⟨G6, w5.gg.trans w6.gg, ((s4.trans w5).trans w6).mutd hn n6, u, ys ++ [z], rfl, n6, upd_same, ?_⟩)
      · exact ⟨v, rfl, u, rfl, (by decide : 2 ≤ sizeLine), fun t ht => q6 _ _ _ (Grow.new s6 ht) ⟨t, v, u, rfl, upd_same, rv5, show RI c u _ from ru⟩⟩
      · rw [take_more hjc, List.map_append, ← List.append_assoc]
        exact (a4.up (w5.gg.trans w6.gg)).app (All2.one rz)
    · rintro σ3 G4 H4 g4 s4 ⟨b2, ys, rfl, n4, h4, a4⟩
      refine ⟨G4, w3.gg.trans g4, s4, some v, b2, ys, rfl, n4, h4, ?_⟩
      rw [List.take_length] at a4
      rw [List.range_succ, List.flatMap_append]
      have e : [i].flatMap (fun d => (kindsI ds p d).map fun k => (d, k)) = (kindsI ds p i).map fun k => (i, k) := by simp
      rw [e]
      exact a4
  · rintro σ1 G1 H1 g1 s1 ⟨a, b, xs, rfl, n1, h1, a1⟩
    rw [List.length_range] at a1
    have hlen : xs.length ≤ LIM := by
      rw [a1.len]
      have z := flat_len hk ds.length
      have : 5 * ds.length ≤ 40000 := by omega
      exact Nat.le_trans z this
    exact s_retB s1 hn rfl h1 hlen n1 a1 k.fresh
end
end DH
namespace DH
open PySem PySem.Spec PyProof.Rows L2
/-! ### new data alone: what a def made, whatever else is known -/
def pick (F H : Hp) (S : List Addr) : Hp := fun b => if b ∈ S then H b else F b
theorem Grow.pick {F H H2 : Hp} {S : List Addr} (s : Same F H) (hh : Same H H2) (n : ∀ b ∈ S, H b = none) : Grow F H (pick F H2 S) H2 := by
  refine ⟨fun b o h => ?_, fun b o h => ?_, hh, fun b o h e => ?_⟩
  · unfold DH.pick
    by_cases hb : b ∈ S
    · have z := s b o h
      rw [n b hb] at z
      cases z
    · rw [if_neg hb]
      exact h
  · unfold DH.pick at h
    by_cases hb : b ∈ S
    · rw [if_pos hb] at h
      exact h
    · rw [if_neg hb] at h
      exact hh b o (s b o h)
  · unfold DH.pick at h
    by_cases hb : b ∈ S
    · exact n b hb
    · rw [if_neg hb, e] at h
      cases h
theorem pick_in {F H : Hp} {S : List Addr} {b : Addr} (h : b ∈ S) : pick F H S b = H b := if_pos h
def MkPlay (mg : Mg) (p dx : Addr) (d t : V) (H' : Hp) : Prop := H' p = some (.ins (adr mg "Play") dx (fPlay d t))
def sp_Play_init (mg : Mg) : Sp := fun vs H Q _ => ∃ p dx d t, vs = [.ref p, d, t] ∧ H p = some (.ins (adr mg "Play") dx []) ∧ ∀ H', MkPlay mg p dx d t H' → (∀ b o, H b = some o → b ≠ p → H' b = some o) → Q .non H'
theorem put_here {f : Str} {v x : V} {r : List (Str × V)} : putF f v ((f, x) :: r) = (f, v) :: r := if_pos rfl
theorem put_past {f g : Str} {v x : V} {r : List (Str × V)} (h : ¬ g = f) : putF f v ((g, x) :: r) = (g, x) :: putF f v r := if_neg h
section
variable {K : PySem.W.Frag} {mg : Mg} {vs : List V} {H : Hp} {Q : VK} {E : XK}
theorem pure_Play_init (T : Top K mg) (h : sp_Play_init mg vs H Q E) : t_Play_init K mg { nx := fun _ H' => Q .non H', rt := Q } (start N_Play_init vs) H := by
  obtain ⟨p, dx, d, t, rfl, hp, k⟩ := h
  refine ⟨d, rfl, .ref p, rfl, p, adr mg "Play", dx, [], rfl, hp, T.c_Play, T.n_Play_done, (by decide : 0 < 1000), ?_⟩
  refine ⟨t, rfl, .ref p, rfl, p, adr mg "Play", dx, _, rfl, upd_same, T.c_Play, T.n_Play_things, (by decide : 1 < 1000), ?_⟩
  refine k _ (Eq.trans upd_same (congrArg (fun q => some (HO.ins (adr mg "Play") dx q)) ?_)) fun b o e hb => by
    rw [upd_ne hb, upd_ne hb]
    exact e
  exact put_past (by decide +kernel)
/-- a play is made -/
theorem made_play {vd vt : V} {G1 H1 : Hp} {Q : VK} {ta : TA} {σ : L2.St} {G : Hp} (h : EvA ta σ G (fun vs _ => vs = [vd, vt])) (g : Same G G1) (s : Same G1 H1)
    (k : ∀ x dx H3, H1 x = none → Same H1 H3 → H3 x = some (.ins (adr mg "Play") dx (fPlay vd vt)) → Q (.ref x) H3) : tMake (adr mg "Play") (sp_Play_init mg) [] C8.E0 ta σ H1 Q :=
  h G1 H1 g s _ fun vs G2 H2 w e x dx nx nd ne => ⟨x, dx, vd, vt, by rw [e]; rfl, upd_same, fun H3 J kp => ⟨rfl, k x dx H3 (w.hh.free nx) (w.hh.trans fun b o q => kp b o (by rw [upd_ne (ne_of_none q nx), upd_ne (ne_of_none q nd)]; exact q) (ne_of_none q nx)) J⟩⟩
end
def sp_play_after (mg : Mg) : Sp := fun vs H Q _ => ∃ G F ds e p d k x y z u, Same G H ∧ Same F H ∧ vs = [x, y, z, u] ∧ RL (RDeed mg) ds x G ∧ RPlay mg p y G ∧ RN d z G ∧ RI k u G ∧ ds[d]? = some e ∧
  e.gives.length = p.things.length ∧ p.done.Pairwise (· < ·) ∧ d ∉ p.done ∧ p.done.length ≤ 100 ∧ p.things.length ≤ 100 ∧ (k = -1 ∨ (0 ≤ k ∧ k.toNat < p.things.length ∧ 0 < p.things.getD k.toNat 0)) ∧ Ret (RPlay mg) (playAfter e p d k) F H Q
section
variable {K : PySem.W.Frag} {mg : Mg} {vs : List V} {H : Hp} {Q : VK} {E : XK}
theorem getD_lt {l : List Nat} {i : Nat} (h : i < l.length) : l[i]? = some (l.getD i 0) := by
  rw [List.getD_eq_getElem?_getD, List.getElem?_eq_getElem h]
  rfl
theorem zip_get {a b : List Nat} {i : Nat} (ha : i < a.length) (hb : i < b.length) : ((a.zip b).map fun x => x.1 + x.2).getD i 0 = a.getD i 0 + b.getD i 0 := by
  have e : (a.zip b)[i]? = some (a.getD i 0, b.getD i 0) := List.getElem?_zip_eq_some.mpr ⟨getD_lt ha, getD_lt hb⟩
  rw [List.getD_eq_getElem?_getD, List.getElem?_map, e]
  rfl
theorem pure_play_after (T : Top K mg) (h : sp_play_after mg vs H Q E) : t_play_after K mg (sp_Play_init mg) { nx := fun _ H' => Q .non H', rt := Q } (start N_play_after vs) H := by
  obtain ⟨G, F, ds, e, p, d, k, x, y, z, u, s, sF, rfl, rx, ry, rz, ru, he, hg, hs, hd, hl1, hl2, hk, kk⟩ := h
  have hz : (p.things.zip e.gives).length = p.things.length := by
    rw [List.length_zip, hg]
    omega
  refine q_asgF s (ef_lcG (R := RN) (fun _ => true) (fun x => x.1 + x.2) (src_zip (ev_things T (ev_var rfl ry)) (ev_gives T (ev_ix (ev_var rfl rx) (ev_var rfl rz) he))) hit_pair ?_ (fun _ _ _ _ _ _ => et_yes) ?_ ?_) fun l xs G2 H2 w hn g2 h2 hxl a2 => ?_
  · rintro a σ2 G1 ⟨v1, v2, _, _, rfl⟩
    rfl
  · rintro a σ2 G1 _ _ g ⟨v1, v2, r1, r2, rfl⟩
    exact ev_addN (ev_var rfl r1) (ev_var rfl r2)
  · rw [hz]
    exact Nat.le_trans hl2 (by decide)
  rw [List.filter_eq_self.mpr (fun _ _ => rfl)] at a2
  have exs := all2_nat.mp a2
  have ht : ((p.things.zip e.gives).map fun x => x.1 + x.2).length = p.things.length := by rw [List.length_map, hz]
  -- what stands behind the if: the list at l holds the things
  have fin : ∀ (ys : List V) H3, Same H H3 → Same G2 H3 → H3 l = some (.lst ys) → All2 RN G2 (playThings e p k) ys → tRet (tMake (adr mg "Play") (sp_Play_init mg) [] C8.E0 (tCons (tCB (rSortedI K) (tCons (tOp rCat (tFld K (tVar 1) "done") (tLst (tCons (tVar 2) tNil))) tNil)) (tCons (tVar 4) tNil)))
      { nx := fun _ H' => Q .non H', rt := Q } [some x, some y, some z, some u, some (.ref l), none, none] H3 := fun ys H3 hh s3 h3 a3 => by
    have ry2 := Mono.up w.gg ry
    have hdone : Ev (tFld K (tVar 1) "done") [some x, some y, some z, some u, some (.ref l), none, none] G2 (RL RN) p.done := ev_done T (ev_var rfl ry2)
    have hcat : EvF (tOp rCat (tFld K (tVar 1) "done") (tLst (tCons (tVar 2) tNil))) [some x, some y, some z, some u, some (.ref l), none, none] G2 RN (p.done ++ [d]) :=
      ef_cat hdone (ef_one (R := RN) (ev_var rfl (show RN d z G2 from rz))).ev (by
        show p.done.length + 1 ≤ 40000
        omega)
    have hsort : EvF (tCB (rSortedI K) (tCons (tOp rCat (tFld K (tVar 1) "done") (tLst (tCons (tVar 2) tNil))) tNil)) [some x, some y, some z, some u, some (.ref l), none, none] G2 RN (Vberan.insertNum d p.done) :=
      ef_sortedN hcat.ev fun m hp hm => sorted_ins hs hd hp hm
    refine hsort G2 H3 (Same.refl _) s3 _ fun q qs G4 H4 w4 qn qg q4 ql qa => ?_
    have h4 := w4.hh _ _ h3
    refine made_play (mg := mg) (G := G4) (G1 := G4) (σ := [some x, some y, some z, some u, some (.ref l), none, none]) (vd := .ref q) (vt := .ref l) (ta := fun σ H Q => Q [.ref q, .ref l] H) (fun G5 H5 g5 s5 Q5 q5 => q5 _ G5 H5 (Grow.refl s5) rfl) (Same.refl _) w4.gh (fun x' dx H6 nx h46 h6 => ?_) |> fun t => ⟨_, rfl, t⟩
    have hh6 : Same H H6 := hh.trans (w4.hh.trans h46)
    refine kk (.ref x') (pick F H6 [l, q, x']) H6 (Grow.pick sF hh6 fun b hb => ?_) ⟨x', dx, .ref q, .ref l, rfl, ?_, ⟨q, qs, rfl, ?_, ql, ?_⟩, ⟨l, ys, rfl, ?_, ?_, ?_⟩⟩
    · rcases List.mem_cons.mp hb with z | hb
      · rw [z]; exact hn
      · rcases List.mem_cons.mp hb with z | hb
        · rw [z]; exact hh.free qn
        · rcases List.mem_cons.mp hb with z | hb
          · rw [z]; exact (hh.trans w4.hh).free nx
          · cases hb
    · rw [pick_in (by simp)]; exact h6
    · rw [pick_in (by simp)]; exact h46 _ _ q4
    · exact all2_nat.mpr (all2_nat.mp qa)
    · rw [pick_in (by simp)]; exact h46 _ _ h4
    · rw [a3.len]
      unfold playThings
      dsimp only
      split
      · rw [ht]; exact Nat.le_trans hl2 (by decide)
      · rw [List.length_set, ht]; exact Nat.le_trans hl2 (by decide)
    · exact all2_nat.mpr (all2_nat.mp a3)
  refine q_when w.gh (et_test (ev_ne (ev_var rfl (show RI k u G2 from ru)) ev_int)) (fun hb G3 H3 w3 => ?_) (fun hb G3 H3 w3 => ?_)
  · have hk1 : k ≠ -1 := of_decide_eq_true hb
    obtain ⟨k0, kl, kp⟩ := hk.resolve_left hk1
    have kn : k = ((k.toNat : Nat) : Int) := by omega
    have hv := zip_get (b := e.gives) kl (by rw [hg]; exact kl)
    have g3 := w3.out h2 g2
    have h3 := w3.hh _ _ h2
    -- things[k] - 1, the list at l being read
    have hG : Same (upd G3 l (.lst xs)) H3 := fun b o q => by
      by_cases hb : b = l
      · subst hb
        rw [upd_same] at q
        rw [h3]
        exact q
      · rw [upd_ne hb] at q
        exact w3.gh b o q
    have rl : RL RN ((p.things.zip e.gives).map fun x => x.1 + x.2) (.ref l) (upd G3 l (.lst xs)) := ⟨l, xs, rfl, upd_same, hxl, all2_nat.mpr exs⟩
    have hval : Ev (tOp rSubI (tOp (rIxL K) (tVar 4) (tVar 3)) (tC (.int 1))) [some x, some y, some z, some u, some (.ref l), none, none] (upd G3 l (.lst xs)) RN (((p.things.zip e.gives).map fun x => x.1 + x.2).getD k.toNat 0 - 1) := by
      have a1 := ev_sub (ev_n2i (ev_ix (K := K) (σ := [some x, some y, some z, some u, some (.ref l), none, none]) (ta := tVar 4) (tb := tVar 3) (ev_var rfl rl) (ev_var (R := RN) rfl (show RN k.toNat u _ from by rw [show u = V.int k from ru, kn]; exact rfl)) (getD_lt (by rw [ht]; exact kl)))) (ev_int (i := 1))
      refine ev_i2n (ev_is a1 ?_)
      rw [hv]
      omega
    refine hval (upd G3 l (.lst xs)) H3 (Same.refl _) hG _ fun v G4 H4 w4 rv => ?_
    refine ⟨_, rfl, u, rfl, l, xs, k, k.toNat, rfl, ru, w4.hh _ _ h3, ?_, ?_⟩
    · unfold ixN
      rw [if_pos k0, if_pos (by rw [exs, List.length_map, List.length_map, ht]; omega)]
    · refine fin _ _ ((w.hh.trans (w3.hh.trans w4.hh)).mut hn) ((w3.gg.trans (w3.gh.trans w4.hh)).mut (w3.gg.free g3)) upd_same ?_
      unfold playThings
      dsimp only
      rw [if_neg hk1]
      exact a2.set (show RN (((p.things.zip e.gives).map fun x => x.1 + x.2).getD k.toNat 0 - 1) v G2 from rv) k.toNat
  · have hk1 : k = -1 := by
      have := of_decide_eq_false hb
      omega
    refine fin xs H3 (w.hh.trans w3.hh) (w3.gg.trans w3.gh) (w3.hh _ _ h2) ?_
    unfold playThings
    dsimp only
    rw [if_pos hk1]
    exact a2
end
end DH
namespace DH
open PySem PySem.Spec PyProof.Rows L2
def sp_closure_of (mg : Mg) : Sp := fun vs H Q _ => ∃ G h st x y, Same G H ∧ vs = [x, y] ∧ RL (RDeed mg) h.deeds x G ∧ RL RN st y G ∧ h.deeds.length ≤ 100 ∧ st.Pairwise (· < ·) ∧ (∀ d ∈ st, d < h.deeds.length) ∧ Ret (RL RN) (Vberan.closure h st) G H Q
def sp_share_a_kind : Sp := fun vs H Q _ => ∃ G a b x y, Same G H ∧ vs = [x, y] ∧ RL RN a x G ∧ RL RN b y G ∧ Ret RB (Vberan.meets a b) G H Q
def rivalsL (h : Vberan.House) (d : Nat) : List Nat := (Vberan.numbers h).filter fun e => e != d && Vberan.meets (Vberan.deedAt h e).uses (Vberan.deedAt h d).uses
def sp_rivals_of (mg : Mg) : Sp := fun vs H Q _ => ∃ G h d x y, Same G H ∧ vs = [x, y] ∧ RL (RDeed mg) h.deeds x G ∧ RN d y G ∧ d < h.deeds.length ∧ h.deeds.length ≤ 100 ∧ Ret (RL RN) (rivalsL h d) G H Q
def sp_count_things (mg : Mg) : Sp := fun vs H Q _ => ∃ G h pl ks gs x y z, Same G H ∧ vs = [x, y, z] ∧ RHouse mg (h, pl) x G ∧ RL RN ks y G ∧ RL RN gs z G ∧ WfH h ∧ (∀ k ∈ ks, k < h.kinds) ∧ (∀ g ∈ gs, g < h.deeds.length) ∧ Ret RN (countL h ks gs) G H Q
def sp_is_sure (mg : Mg) : Sp := fun vs H Q _ => ∃ G h pl d l x y z, Same G H ∧ vs = [x, y, z] ∧ RHouse mg (h, pl) x G ∧ RN d y G ∧ RL RN l z G ∧ WfH h ∧ d < h.deeds.length ∧ (∀ g ∈ l, g < h.deeds.length) ∧ Ret RB (Vberan.sure h l d) G H Q
section
variable {K : PySem.W.Frag} {mg : Mg} {vs : List V} {H : Hp} {Q : VK} {E : XK}
theorem deedAt_get {h : Vberan.House} {d : Nat} (hd : d < h.deeds.length) : h.deeds[d]? = some (Vberan.deedAt h d) := by
  rw [deedAt_of (List.getElem?_eq_getElem hd), List.getElem?_eq_getElem hd]
theorem mem_range_lt {n d : Nat} (h : d ∈ List.range n) : d < n := List.mem_range.mp h
theorem fresh_len (h : Vberan.House) (r : List Nat) : (fresh h r).length ≤ h.deeds.length := by
  have := List.length_filter_le (fun d => !r.contains d && Vberan.met r (Vberan.deedAt h d).needs) (List.range h.deeds.length)
  rw [List.length_range] at this
  exact this
theorem Reached.len {h : Vberan.House} {st r : List Nat} {k : Nat} (q : Reached h st r k) : r.length ≤ h.deeds.length := nodup_lt _ _ q.nd q.lt
theorem fresh_step {h : Vberan.House} {st r : List Nat} {k : Nat} (q : Reached h st r k) : ∃ k', Reached h st (r ++ fresh h r) k' := by
  by_cases e : fresh h r = []
  · exact ⟨k, by rw [e, List.append_nil]; exact q⟩
  · exact ⟨k + 1, q.step h e⟩
theorem pure_closure_of (T : Top K mg) (h : sp_closure_of mg vs H Q E) : t_closure_of K mg sp_are_met { nx := fun _ H' => Q .non H', rt := Q } (start N_closure_of vs) H := by
  obtain ⟨G, h, st, x, y, s, rfl, rx, ry, hn, hs, hl, kk⟩ := h
  have q0 : Reached h st st 0 := ⟨hs.imp fun h => Nat.ne_of_lt h, hl, fun _ => Iff.rfl, hs, Nat.zero_le _⟩
  refine q_asg s (ef_list (ev_var rfl ry)).ev fun v G2 H2 w rv => ?_
  refine q_asg w.gh (ev_bl (k := true)) fun b G3 H3 w3 rb => ?_
  cases (show b = V.bl true from rb)
  refine q_while (fun m σ' G' H' => ∃ k r v g f d, σ' = [some x, some y, some v, some (.bl g), f, d] ∧ Reached h st r k ∧ RL RN r v G' ∧ (g = false → fresh h r = []) ∧ m = h.deeds.length - r.length + (if g = true then 1 else 0)) _ (w.trans w3)
    ⟨0, st, v, true, none, none, rfl, q0, Mono.up w3.gg rv, (fun z => Bool.noConfusion z), rfl⟩ ?_
  rintro m σ1 G1 H1 g1 s1 ⟨k, r, v, g, f, d, rfl, q, rr, hg, rfl⟩
  refine ⟨g, et_B (ev_var (R := RB) rfl rfl), fun hb G4 H4 w4 => ?_, fun hb G4 H4 w4 => ?_⟩
  · subst hb
    have rx4 := Mono.up ((w.gg.trans w3.gg).trans (g1.trans w4.gg)) rx
    have rr4 := Mono.up w4.gg rr
    have fl := fresh_len h r
    refine q_asg w4.gh (ef_is (ef_lc (R := RN) (fun d => !r.contains d && Vberan.met r (Vberan.deedAt h d).needs) id (src_range (ev_len (ev_var rfl rx4)) (Nat.le_trans hn (by decide))) (by rw [List.length_range]; exact Nat.le_trans hn (by decide)) (fun _ => rfl)
      (fun a z G5 ha g r5 => et_and (et_test (ev_niN (ev_var rfl r5) (ev_var rfl (Mono.up g rr4)))) fun _ => et_B (ev_met (ev_needs T (ev_ix (ev_var rfl (Mono.up g rx4)) (ev_var rfl r5) (deedAt_get (mem_range_lt ha)))) (ev_var rfl (Mono.up g rr4))))
      (fun a z G5 _ _ g r5 => ev_var rfl r5)) (List.map_id _)).ev fun u G5 H5 w5 ru => ?_
    have ru' : RL RN (fresh h r) u G5 := ru
    have hz : r.length + (fresh h r).length ≤ LIM := by
      have := q.len
      show _ ≤ 40000
      omega
    refine q_asg w5.gh (ef_cat (ev_var rfl (Mono.up w5.gg rr4)) (ev_var rfl ru') hz).ev fun v2 G6 H6 w6 rv2 => ?_
    refine s_asg w6.gh (ev_gt (ev_n2i (ev_len (ev_var rfl (Mono.up w6.gg ru')))) ev_int) fun b2 G7 H7 w7 rb2 => ?_
    obtain ⟨k', q'⟩ := fresh_step q
    cases (show b2 = V.bl _ from rb2)
    refine ⟨G7, _, ?_, w4.gg.trans (w5.gg.trans (w6.gg.trans w7.gg)), (((s1.trans w4).trans w5).trans w6).trans w7, k', r ++ fresh h r, v2, _, some u, d, rfl, q', Mono.up w7.gg rv2, fun hf => ?_, rfl⟩
    · have q1 := q'.len
      rw [List.length_append] at q1 ⊢
      by_cases hp : (0 : Int) < ((fresh h r).length : Int)
      · rw [if_pos (decide_eq_true hp), if_pos rfl]
        omega
      · rw [if_neg (by rw [decide_eq_false hp]; decide), if_pos rfl]
        omega
    · have e : fresh h r = [] := by
        have := of_decide_eq_false hf
        exact List.eq_nil_of_length_eq_zero (by omega)
      rw [e, List.append_nil, e]
  · subst hb
    exact s_ret w4.gh (ef_sortedN (m := Vberan.closure h st) (ev_var rfl (Mono.up w4.gg rr)) fun m hp hm => q.done h (hg rfl) hp hm).ev (kk.go (s1.trans w4))
theorem pure_share_a_kind (T : Top K mg) (h : sp_share_a_kind vs H Q E) : t_share_a_kind K mg { nx := fun _ H' => Q .non H', rt := Q } (start N_share_a_kind vs) H := by
  obtain ⟨G, a, b, x, y, s, rfl, rx, ry, k⟩ := h
  refine s_ret s (ev_is (ev_any (ef_map (R := RB) (fun d => b.contains d) (src_list (ev_var rfl rx)) rx.len (fun _ => rfl) fun a v G1 _ g r => ?_).ev) (any_id (fun d => b.contains d) a)) (show Ret RB (a.any fun d => b.contains d) G H Q from k)
  exact ev_isN (ev_var rfl r) (ev_var rfl (Mono.up g ry))
theorem pure_rivals_of (T : Top K mg) (h : sp_rivals_of mg vs H Q E) : t_rivals_of K mg sp_share_a_kind { nx := fun _ H' => Q .non H', rt := Q } (start N_rivals_of vs) H := by
  obtain ⟨G, h, d, x, y, s, rfl, rx, ry, hd, hn, kk⟩ := h
  refine q_asg s (ev_uses T (ev_ix (ev_var rfl rx) (ev_var rfl ry) (deedAt_get hd))) fun v G2 H2 w rv => ?_
  have rx2 := Mono.up w.gg rx
  refine s_ret w.gh (ef_is (ef_lc (R := RN) (fun e => e != d && Vberan.meets (Vberan.deedAt h e).uses (Vberan.deedAt h d).uses) id (src_range (ev_len (ev_var rfl rx2)) (Nat.le_trans hn (by decide))) (by rw [List.length_range]; exact Nat.le_trans hn (by decide)) (fun _ => rfl)
      (fun a z G5 ha g r5 => et_and (et_is (et_test (ev_ne (ev_n2i (ev_var rfl r5)) (ev_n2i (ev_var rfl (show RN d y G5 from ry))))) ?_) fun _ => et_B (ev_call2 (ev_uses T (ev_ix (ev_var rfl (Mono.up g rx2)) (ev_var rfl r5) (deedAt_get (mem_range_lt ha)))) (ev_var rfl (Mono.up g rv)) fun x y G1 H1 Q _ s rx ry k => ⟨G1, _, _, x, y, s, rfl, rx, ry, k⟩))
      (fun a z G5 _ _ g r5 => ev_var rfl r5)) (List.map_id _)).ev (kk.go w)
  by_cases e : a = d
  · subst e
    simp
  · have : ((a : Int) ≠ (d : Int)) := fun z => e (Int.ofNat.inj z)
    exact (decide_eq_true this).trans (bne_iff_ne.mpr e).symm
theorem pure_count_things (T : Top K mg) (h : sp_count_things mg vs H Q E) : t_count_things K mg { nx := fun _ H' => Q .non H', rt := Q } (start N_count_things vs) H := by
  obtain ⟨G, h, pl, ks, gs, x, y, z, s, rfl, rx, ry, rz, wf, hk, hg, kk⟩ := h
  refine q_asg s (ev_sumN (ef_map (R := RN) (fun k => h.first.getD k 0) (src_list (ev_var rfl ry)) ry.len (fun _ => rfl) fun a v G1 ha g r => ?_).ev) fun v G2 H2 w rv => ?_
  · exact ev_ix (ev_first T (ev_var rfl (Mono.up g rx))) (ev_var rfl r) (getD_lt (by rw [wf.fl]; exact hk a ha))
  refine q_for w (src_list (ev_var rfl (Mono.up w.gg rz))) hit_name (fun i σ' G' H' => ∃ v g k, σ' = [some x, some y, some z, some v, g, k] ∧ RN ((ks.map fun k => h.first.getD k 0).sum + ((gs.take i).map fun g => (ks.map fun k => Vberan.givesOf h g k).sum).sum) v G')
    (fun G3 H3 w3 => ⟨v, none, none, rfl, by rw [List.take_zero]; exact rv⟩) ?_ ?_
  · rintro i g σ1 G1 H1 hi g1 s1 ⟨v, a, b, rfl, r1⟩ G3 H3 σ2 w3 ⟨u, ru, rfl⟩
    have gx := w.gg.trans (g1.trans w3.gg)
    have hgl : g < h.deeds.length := hg g (List.mem_of_getElem? hi)
    refine s_asg w3.gh (ev_addN (ev_var rfl (show RN _ v G3 from r1)) (ev_sumN (ef_map (R := RN) (fun k => Vberan.givesOf h g k) (src_list (ev_var rfl (Mono.up gx ry))) ry.len (fun _ => rfl) fun a v G1 ha gg r => ?_).ev)) fun v2 G4 H4 w4 rv2 => ⟨G4, w3.gg.trans w4.gg, (s1.trans w3).trans w4, v2, some u, b, rfl, ?_⟩
    · exact ev_ix (ev_gives T (ev_ix (ev_deeds T (ev_var rfl (Mono.up (gx.trans gg) rx))) (ev_var rfl (show RN g u G1 from ru)) (deedAt_get (h := h) hgl))) (ev_var rfl r) (getD_lt (by rw [wf.gl _ (deedAt_mem hgl)]; exact hk a ha))
    · rw [take_sum hi, ← Nat.add_assoc]
      exact rv2
  · rintro σ1 G1 H1 g1 s1 ⟨v, a, b, rfl, r1⟩
    rw [List.take_length] at r1
    exact s_ret s1.gh (ev_var rfl r1) (kk.go s1)
theorem pure_is_sure (T : Top K mg) (h : sp_is_sure mg vs H Q E) : t_is_sure K mg sp_are_met (sp_count_things mg) (sp_rivals_of mg) { nx := fun _ H' => Q .non H', rt := Q } (start N_is_sure vs) H := by
  obtain ⟨G, h, pl, d, l, x, y, z, s, rfl, rx, ry, rz, wf, hd, hl, kk⟩ := h
  have hm := deedAt_mem hd
  refine q_asg s (ev_ix (ev_deeds T (ev_var rfl rx)) (ev_var rfl ry) (deedAt_get (h := h) hd)) fun v G2 H2 w rv => ?_
  refine q_when w.gh (et_not (et_B (ev_met (ev_needs T (ev_var rfl rv)) (ev_var rfl (Mono.up w.gg rz))))) (fun hb G3 H3 w3 => ?_) (fun hb G3 H3 w3 => ?_)
  · refine s_ret w3.gh (ev_is ev_bl ?_) (kk.go (w.trans w3))
    unfold Vberan.sure
    rw [Bool.not_eq_true'] at hb
    rw [hb, Bool.false_and]
  · rw [Bool.not_eq_false'] at hb
    refine q_when w3.gh (et_test (ev_eq (ev_n2i (ev_len (ev_uses T (ev_var rfl (Mono.up w3.gg rv))))) ev_int)) (fun hc G4 H4 w4 => ?_) (fun hc G4 H4 w4 => ?_)
    · refine s_ret w4.gh (ev_is ev_bl ?_) (kk.go ((w.trans w3).trans w4))
      have e : (Vberan.deedAt h d).uses = [] := List.eq_nil_of_length_eq_zero (by
        have z := of_decide_eq_true hc
        omega)
      unfold Vberan.sure
      rw [hb, e]
      rfl
    · have gx := (w.gg.trans w3.gg).trans w4.gg
      have rx4 := Mono.up gx rx
      have ne : (Vberan.deedAt h d).uses ≠ [] := fun e => by
        rw [e] at hc
        cases hc
      refine s_ret w4.gh (ev_is (ev_gt (ev_n2i (ev_call3 (W := RN) (c := countL h (Vberan.deedAt h d).uses l) (ev_var rfl rx4) (ev_uses T (ev_var rfl (Mono.up (w3.gg.trans w4.gg) rv))) (ev_var rfl (Mono.up gx rz)) fun x y z G1 H1 Q _ s rx ry rz k => ⟨G1, h, pl, _, _, x, y, z, s, rfl, rx, ry, rz, wf, wf.ul _ hm, hl, k⟩))
        (ev_n2i (ev_len (R := RN) (ev_call2 (ev_deeds T (ev_var rfl rx4)) (ev_var rfl (show RN d y G4 from ry)) fun x y G1 H1 Q _ s rx ry k => ⟨G1, h, d, x, y, s, rfl, rx, ry, hd, Nat.le_trans wf.n16 (by decide), k⟩)))) ?_) (kk.go ((w.trans w3).trans w4))
      unfold Vberan.sure
      rw [hb, Bool.true_and, supply_count _ (wf.us _ hm) (wf.ul _ hm)]
      have e1 : (Vberan.deedAt h d).uses.isEmpty = false := by
        cases q : (Vberan.deedAt h d).uses with
        | nil => exact absurd q ne
        | cons a b => rfl
      rw [e1, Bool.false_or]
      exact decide_eq_decide.mpr (by
        show ((rivalsL h d).length : Int) < (countL h (Vberan.deedAt h d).uses l : Int) ↔ Vberan.rivals h d < countL h (Vberan.deedAt h d).uses l
        rw [Int.ofNat_lt]
        exact Iff.rfl)
end
end DH
namespace DH
open PySem PySem.Spec PyProof.Rows L2
def sp_told_ranks (mg : Mg) : Sp := fun vs H Q _ => ∃ G h pl x, Same G H ∧ vs = [x] ∧ RHouse mg (h, pl) x G ∧ WfH h ∧ Ret (RL RN) (shown (Vberan.ranks h)) G H Q
def sp_are_accepted (mg : Mg) : Sp := fun vs H Q _ => ∃ G h pl r x y, Same G H ∧ vs = [x, y] ∧ RHouse mg (h, pl) x G ∧ RL RN r y G ∧ WfH h ∧ Ret RB (Vberan.accepts h r) G H Q
section
variable {α : Type} {K : PySem.W.Frag} {mg : Mg} {σ : L2.St} {G H : Hp} {te tb : TE} {t : TT} {tz : TS} {D : Ends} {i : Nat} {R : Rel α}
theorem Grow.stay {H2 : Hp} (s : Same G H) (hh : Same H H2) : Grow G H G H2 := ⟨Same.refl _, s.trans hh, hh, fun b o h n => by rw [n] at h; cases h⟩
theorem rep_one (v : V) : ∀ n : Nat, (List.replicate n [v]).flatten = List.replicate n v
  | 0 => rfl
  | n + 1 => by
    rw [List.replicate_succ, List.flatten_cons, rep_one v n, List.replicate_succ]
    rfl
theorem All2.rep {a : α} {v : V} (r : R a v G) : ∀ n : Nat, All2 R G (List.replicate n a) (List.replicate n v)
  | 0 => trivial
  | n + 1 => ⟨r, All2.rep r n⟩
/-- [a] * n -/
theorem ef_rep [Mono R] {ta : TE} {a : α} {n : Nat} (h1 : EvF ta σ G R [a]) (h2 : Ev tb σ G RN n) (hn : n ≤ LIM) : EvF (tOp rRep ta tb) σ G R (List.replicate n a) := fun G1 H1 g s _ q =>
  h1 G1 H1 g s _ fun l xs G2 H2 w ln _ hl hz ha => h2 G2 H2 (g.trans w.gg) w.gh _ fun y G3 H3 w3 ry => by
    obtain ⟨x, hx, rx⟩ := ha.at (i := 0) rfl
    have ex : xs = [x] := by
      cases xs with
      | nil => cases hx
      | cons z r =>
        have hl2 := ha.len
        have hr : r = [] := List.eq_nil_of_length_eq_zero (by simpa using hl2)
        subst hr
        exact congrArg (fun v => [v]) (Option.some.inj hx)
    subst ex
    have hn2 : n ≤ 40000 := hn
    refine ⟨l, (n : Int), [x], rfl, ry, w3.hh _ _ hl, by omega, by omega, ?_, fun p hp => ?_⟩
    · show 1 * (n : Int).toNat ≤ sizeLine
      exact Nat.le_trans (by omega : 1 * (n : Int).toNat ≤ 40000) (by decide)
    · rw [Int.toNat_natCast, rep_one]
      exact q p _ G3 _ ((w.trans w3).trans (Grow.hid w3.gh hp)) ((w.trans w3).hh.free hp) (w3.gh.free hp) upd_same (by rw [List.length_replicate]; exact hn) (All2.rep (Mono.up w3.gg rx) n)
/-- what is known, a list besides -/
theorem Same.seen {p : Addr} {o : HO} (s : Same G H) (h : H p = some o) : Same (upd G p o) H := fun b u q => by
  by_cases hb : b = p
  · subst hb
    rw [upd_same] at q
    rw [h]
    exact q
  · rw [upd_ne hb] at q
    exact s b u q
/-- a new list of numbers, made while the list at p is read -/
theorem q_asgS {p : Addr} {xs : List V} {l : List Nat} (s : Same G H) (n : G p = none) (hp : H p = some (.lst xs)) (h : EvF te σ (upd G p (.lst xs)) RN l)
    (k : ∀ q G2 H2, Grow G H G2 H2 → G2 p = none → RL RN l (.ref q) G2 → tz D (σ.set i (some (.ref q))) H2) : tSeq (tAsg te (gName i)) tz D σ H :=
  h (upd G p (.lst xs)) H (Same.refl _) (Same.seen s hp) _ fun q ys G2 H2 w hn _ h2 hl ha => by
    have w2 : Grow G H (upd G q (.lst ys)) H2 := (Grow.stay s w.hh).show_ hn h2
    exact k q _ H2 w2 (w2.out hp n) ⟨q, ys, rfl, upd_same, hl, all2_nat.mpr (all2_nat.mp ha)⟩
theorem et_seen {p : Addr} {xs : List V} {b : Bool} (s : Same G H) (hp : H p = some (.lst xs)) (h : EvT t σ (upd G p (.lst xs)) b) {Q : Bool → Hp → Prop} (k : ∀ H2, Grow G H G H2 → Q b H2) : t σ H Q :=
  h (upd G p (.lst xs)) H (Same.refl _) (Same.seen s hp) _ fun _ H2 w => k H2 (Grow.stay s w.hh)
theorem ev_sure {σ : L2.St} {ta tb tc : TE} {h : Vberan.House} {pl : Vberan.Play} {d : Nat} {l : List Nat} (h1 : Ev ta σ G (RHouse mg) (h, pl)) (h2 : Ev tb σ G RN d) (h3 : Ev tc σ G (RL RN) l) (wf : WfH h) (hd : d < h.deeds.length) (hl : ∀ g ∈ l, g < h.deeds.length) :
    Ev (tCall (sp_is_sure mg) [] C8.E0 (tCons ta (tCons tb (tCons tc tNil)))) σ G RB (Vberan.sure h l d) :=
  ev_call3 h1 h2 h3 fun x y z G1 H1 Q _ s rx ry rz k => ⟨G1, h, pl, d, l, x, y, z, s, rfl, rx, ry, rz, wf, hd, hl, k⟩
end
section
variable {K : PySem.W.Frag} {mg : Mg} {vs : List V} {H : Hp} {Q : VK} {E : XK}
theorem beh_lt {h : Vberan.House} {r : List (Option Nat)} : ∀ g ∈ behindR h r, g < h.deeds.length := fun g hg => List.mem_range.mp (List.mem_filter.mp hg).1
theorem pure_told_ranks (T : Top K mg) (h : sp_told_ranks mg vs H Q E) : t_told_ranks K mg (sp_is_sure mg) { nx := fun _ H' => Q .non H', rt := Q } (start N_told_ranks vs) H := by
  obtain ⟨G, h, pl, x, s, rfl, rx, wf, kk⟩ := h
  have n16 := wf.n16
  refine q_asg s (ev_len (ev_deeds T (ev_var rfl rx))) fun v G2 H2 w rv0 => ?_
  have rv : RN h.deeds.length v G2 := rv0
  refine q_asgF w.gh (ef_rep (R := RN) (a := 0) (ef_one (ev_nat (i := 0) rfl)) (ev_var rfl rv) (by show _ ≤ 40000; omega)) fun p xs G3 H3 w3 hp gp h3 hl ha => ?_
  have eys : xs = ((cur h (rk h 0) 1 0).map Int.ofNat).map V.int := by
    rw [cur_zero h 1 (rk_len h 0), all2_nat.mp ha]
    unfold shown rk Vberan.numbers
    rw [List.map_map, List.map_map, List.map_map, List.map_map, List.map_replicate]
    refine (List.eq_replicate_iff.mpr ⟨?_, fun b hb => ?_⟩).symm
    · rw [List.length_map, List.length_range]
    · obtain ⟨_, _, e⟩ := List.mem_map.mp hb
      exact e.symm
  rw [eys] at h3
  have w4 : Grow G H G3 H3 := w.trans w3
  have hp0 : H p = none := w.hh.free hp
  have gx3 := w.gg.trans w3.gg
  refine q_for w4 (src_range2 (a := 1) (b := h.deeds.length + 1) (ev_nat rfl) (ev_addN (ev_var rfl (show RN h.deeds.length v G3 from rv)) (ev_nat rfl)) (by decide) (by show _ ≤ 40000; omega)) hit_name
    (fun i σ' G' H' => ∃ a b c, σ' = [some x, some v, some (.ref p), a, b, c] ∧ G' p = none ∧ H' p = some (.lst (((shown (rk h i)).map Int.ofNat).map V.int)))
    (fun G5 H5 w5 => ⟨none, none, none, rfl, w5.out h3 gp, w5.hh _ _ (by rw [h3, cur_zero h 1 (rk_len h 0)])⟩) ?_ ?_
  · rintro i k σ1 G1 H1 hik g1 s1 ⟨a, b, c, rfl, n1, h1⟩ G5 H5 σ2 w5 ⟨u, ru, rfl⟩
    have hi : i < h.deeds.length := by
      have z := (List.getElem?_eq_some_iff.mp hik).1
      rw [List.length_range'] at z
      omega
    have ek : k = i + 1 := by
      rw [List.getElem?_range' (by omega)] at hik
      have := Option.some.inj hik
      omega
    subst ek
    have n5 := w5.out h1 n1
    have h5 := w5.hh _ _ h1
    have gx5 : Same G G5 := gx3.trans (g1.trans w5.gg)
    have lenS : (shown (rk h i)).length = h.deeds.length := by
      unfold shown
      rw [List.length_map, rk_len]
    have rp : RL RN (shown (rk h i)) (.ref p) (upd G5 p (.lst (((shown (rk h i)).map Int.ofNat).map V.int))) := ⟨p, _, rfl, upd_same, by rw [List.length_map, List.length_map, lenS]; show _ ≤ 40000; omega, all2_nat.mpr rfl⟩
    refine q_asgS (l := behindR h (rk h i)) w5.gh n5 h5 (ef_is (ef_lc (R := RN) (fun d => ((rk h i).getD d none).isSome) id (src_range (ev_var rfl (show RN h.deeds.length v _ from rv)) (by show _ ≤ 40000; omega)) (by rw [List.length_range]; show _ ≤ 40000; omega) (fun _ => rfl)
      (fun a z G6 ha g r6 => et_is (et_test (ev_gt (ev_n2i (ev_ix (ev_var rfl (Mono.up g rp)) (ev_var rfl r6) (getD_lt (by rw [lenS]; exact mem_range_lt ha)))) ev_int)) ?_)
      (fun a z G6 _ _ g r6 => ev_var rfl r6)) (List.map_id _)) fun q2 G6 H6 w6 n6 rq => ?_
    · have e : (shown (rk h i)).getD a 0 = ((rk h i).getD a none).getD 0 := by
        unfold shown
        rw [List.getD_eq_getElem?_getD, List.getElem?_map, List.getD_eq_getElem?_getD]
        cases (rk h i)[a]? with
        | none => rfl
        | some o => rfl
      rw [e]
      cases q : (rk h i).getD a none with
      | none => rfl
      | some y => exact decide_eq_true (by
          have := rk_pos h i a y q
          show (0 : Int) < (y : Int)
          omega)
    have h6 := w6.hh _ _ h5
    rw [← cur_zero h (i + 1) (rk_len h i)] at h6
    have gx6 := gx5.trans w6.gg
    refine s_for ((s1.trans w5).trans w6) (src_range (ev_var rfl (show RN h.deeds.length v _ from rv)) (by show _ ≤ 40000; omega)) hit_name
      (fun j σ' G' H' => ∃ c, σ' = [some x, some v, some (.ref p), some u, some (.ref q2), c] ∧ G' p = none ∧ H' p = some (.lst (((cur h (rk h i) (i + 1) j).map Int.ofNat).map V.int)))
      (fun G7 H7 w7 => ⟨c, rfl, w7.out h6 n6, w7.hh _ _ h6⟩) ?_ ?_
    · rintro j d σ3 G7 H7 hjd g7 s7 ⟨c, rfl, n7, h7⟩ G8 H8 σ4 w8 ⟨u2, ru2, rfl⟩
      have hj : j < h.deeds.length := by
        have z := (List.getElem?_eq_some_iff.mp hjd).1
        rw [List.length_range] at z
        exact z
      rw [List.getElem?_range hj] at hjd
      cases hjd
      have n8 := w8.out h7 n7
      have h8 := w8.hh _ _ h7
      have gx8 := gx6.trans (g7.trans w8.gg)
      have rc : RL RN (cur h (rk h i) (i + 1) j) (.ref p) (upd G8 p (.lst (((cur h (rk h i) (i + 1) j).map Int.ofNat).map V.int))) := ⟨p, _, rfl, upd_same, by rw [List.length_map, List.length_map, cur_len]; show _ ≤ 40000; omega, all2_nat.mpr rfl⟩
      have gn : Same G8 (upd G8 p (.lst (((cur h (rk h i) (i + 1) j).map Int.ofNat).map V.int))) := Same.new n8
      have cj : (cur h (rk h i) (i + 1) j).getD j 0 = ((rk h i).getD j none).getD 0 := by
        rw [List.getD_eq_getElem?_getD, cur_at h (rk h i) (i + 1) j hj, if_neg (Nat.lt_irrefl j)]
        rfl
      refine et_seen (b := decide ((rk h i).getD j none = none) && Vberan.sure h (behindR h (rk h i)) j) w8.gh h8 (et_is (et_and (et_test (ev_eq (ev_n2i (ev_ix (ev_var rfl rc) (ev_var rfl (show RN j u2 _ from ru2)) (getD_lt (by rw [cur_len]; exact hj)))) ev_int)) fun _ =>
        et_B (ev_sure (ev_var rfl (Mono.up (gx8.trans gn) rx)) (ev_var rfl (show RN j u2 _ from ru2)) (ev_var rfl (Mono.up ((g7.trans w8.gg).trans gn) rq)) wf hj beh_lt)) ?_) fun H9 w9 => ?_
      · rw [cj]
        congr 1
        cases q : (rk h i).getD j none with
        | none => rfl
        | some y =>
          have := rk_pos h i j y q
          exact (decide_eq_false (show ¬ (y : Int) = 0 by omega)).trans (decide_eq_false fun z => by cases z).symm
      have h9 := w9.hh _ _ h8
      by_cases hc : (rk h i).getD j none = none ∧ Vberan.sure h (behindR h (rk h i)) j = true
      · have e : (decide ((rk h i).getD j none = none) && Vberan.sure h (behindR h (rk h i)) j) = true := by rw [decide_eq_true hc.1, hc.2]; rfl
        rw [if_pos e]
        refine s_setL (i := 2) (R := RN) (a := i + 1) (j := j) w9.gh rfl h9 n8 (ev_var rfl (show RN (i + 1) u G8 from ru)) (ev_var rfl (show RN j u2 G8 from ru2)) (by rw [List.length_map, List.length_map, cur_len]; exact hj) fun z G10 H10 w10 n10 rz s10 => ⟨G10, w8.gg.trans w10.gg, ((s7.trans w8).trans (w9.trans w10)).mutd hp0 n10, some u2, rfl, n10, ?_⟩
        rw [upd_same, cur_set h hj hc.1 hc.2, show z = V.int ((i + 1 : Nat) : Int) from rz]
        rw [List.map_set, List.map_set]
        rfl
      · have e : (decide ((rk h i).getD j none = none) && Vberan.sure h (behindR h (rk h i)) j) = false := by
          rw [Bool.and_eq_false_iff]
          by_cases h1 : (rk h i).getD j none = none
          · right
            cases q : Vberan.sure h (behindR h (rk h i)) j with
            | false => rfl
            | true => exact absurd ⟨h1, q⟩ hc
          · left
            exact decide_eq_false h1
        rw [e, if_neg Bool.false_ne_true]
        exact ⟨G8, w8.gg, (s7.trans w8).trans w9, some u2, rfl, n8, by rw [h9, cur_keep h hj hc]⟩
    · rintro σ3 G7 H7 g7 s7 ⟨c, rfl, n7, h7⟩
      rw [List.length_range, cur_end] at h7
      exact ⟨G7, w5.gg.trans (w6.gg.trans g7), s7, some u, some (.ref q2), c, rfl, n7, h7⟩
  · rintro σ1 G1 H1 g1 s1 ⟨a, b, c, rfl, n1, h1⟩
    rw [List.length_range', Nat.add_sub_cancel, ← ranks_rk] at h1
    exact s_retB s1 hp0 rfl h1 (by
      rw [List.length_map, List.length_map]
      unfold shown
      rw [List.length_map, ranks_rk, rk_len]
      show _ ≤ 40000
      omega) n1 (all2_nat.mpr rfl) kk.fresh
theorem nats_rel {l : List Int} {v : V} {H : Hp} (h : RL RI l v H) (hp : ∀ x ∈ l, 0 ≤ x) : RL RN (Vberan.nats l) v H := by
  obtain ⟨p, xs, e, hp2, hl, ha⟩ := h
  refine ⟨p, xs, e, hp2, hl, all2_nat.mpr ?_⟩
  rw [all2_int.mp ha]
  unfold Vberan.nats
  have e2 : (l.map Int.toNat).map Int.ofNat = (l.map fun z => Int.ofNat z.toNat) := List.map_map
  rw [e2]
  refine congrArg (List.map V.int) ?_
  conv => lhs; rw [← List.map_id l]
  exact List.map_congr_left fun z hz => (Int.toNat_of_nonneg (hp z hz)).symm
/-- what accepts asks of one deed -/
def lesser (h : Vberan.House) (r : List Nat) (d : Nat) : List Nat := (Vberan.numbers h).filter fun e => decide (r.getD e 0 < r.getD d 0)
theorem pure_are_accepted (T : Top K mg) (h : sp_are_accepted mg vs H Q E) : t_are_accepted K mg (sp_is_sure mg) { nx := fun _ H' => Q .non H', rt := Q } (start N_are_accepted vs) H := by
  obtain ⟨G, h, pl, r, x, y, s, rfl, rx, ry, wf, kk⟩ := h
  have n16 := wf.n16
  refine q_when s (et_test (ev_ne (ev_n2i (ev_len (ev_var rfl ry))) (ev_n2i (ev_len (ev_deeds T (ev_var rfl rx)))))) (fun hb G2 H2 w => ?_) (fun hb G2 H2 w => ?_)
  · refine s_ret w.gh (ev_is ev_bl ?_) (kk.go w)
    have z : ¬ (r.length : Int) = (h.deeds.length : Int) := of_decide_eq_true hb
    have : (r.length == h.deeds.length) = false := beq_eq_false_iff_ne.mpr (by omega)
    unfold Vberan.accepts
    rw [this, Bool.false_and]
  · have z : ¬ ¬ (r.length : Int) = (h.deeds.length : Int) := of_decide_eq_false hb
    have hlen : r.length = h.deeds.length := by omega
    have ea : Vberan.accepts h r = (Vberan.numbers h).all fun d => Vberan.sure h (lesser h r d) d := by
      unfold Vberan.accepts
      rw [hlen, beq_self_eq_true, Bool.true_and]
      rfl
    have rx2 := Mono.up w.gg rx
    have ry2 := Mono.up w.gg ry
    refine q_for w (src_enum (ev_var rfl ry2)) hit_pair (fun i σ' G' H' => ∃ a b c d, σ' = [some x, some y, a, b, c, d] ∧ (∀ d, d < i → Vberan.sure h (lesser h r d) d = true)) (fun G3 H3 w3 => ⟨none, none, none, none, rfl, fun d z => absurd z (Nat.not_lt_zero d)⟩) ?_ ?_
    · rintro i a σ1 G1 H1 hi g1 s1 ⟨a1, b1, c1, d1, rfl, q1⟩ G3 H3 σ2 w3 ⟨v1, v2, r1, r2, rfl⟩
      obtain ⟨e1, e2⟩ := List.getElem?_zip_eq_some.mp hi
      have hir : i < r.length := (List.getElem?_eq_some_iff.mp e2).1
      rw [List.getElem?_range hir] at e1
      have ei : i = a.1 := Option.some.inj e1
      rw [← ei] at r1
      have er : r.getD i 0 = a.2 := getD_of e2
      rw [← er] at r2
      have gx := g1.trans w3.gg
      refine q_asg w3.gh (ef_is (ef_lc (R := RN) (fun e => decide (r.getD e 0 < r.getD i 0)) id (src_range (ev_len (ev_var rfl (Mono.up gx ry2))) ry.len) (by rw [List.length_range]; exact ry.len) (fun _ => rfl)
        (fun a z G6 ha g r6 => et_is (et_test (ev_lt (ev_n2i (ev_ix (ev_var rfl (Mono.up (gx.trans g) ry2)) (ev_var rfl r6) (getD_lt (mem_range_lt ha)))) (ev_n2i (ev_var rfl (Mono.up g r2))))) (decide_eq_decide.mpr Int.ofNat_lt))
        (fun a z G6 _ _ g r6 => ev_var rfl r6)) (show _ = lesser h r i from by rw [List.map_id, hlen]; rfl)).ev fun q G4 H4 w4 rq => ?_
      have hid : i < h.deeds.length := by omega
      refine s_if w4.gh (et_not (et_B (ev_sure (ev_var rfl (Mono.up (gx.trans w4.gg) rx2)) (ev_var rfl (Mono.up w4.gg r1)) (ev_var rfl rq) wf hid fun g hg => List.mem_range.mp (List.mem_filter.mp hg).1))) (fun hs G5 H5 w5 => ?_) (fun hs G5 H5 w5 => ?_)
      · refine s_ret w5.gh (ev_is ev_bl ?_) (kk.go (((s1.trans w3).trans w4).trans w5))
        rw [ea]
        refine (List.all_eq_false.mpr ⟨i, List.mem_range.mpr hid, ?_⟩).symm
        rw [Bool.not_eq_true'] at hs
        rw [hs]
        exact Bool.false_ne_true
      · rw [Bool.not_eq_false'] at hs
        exact ⟨G5, w3.gg.trans (w4.gg.trans w5.gg), ((s1.trans w3).trans w4).trans w5, some v1, some v2, some q, d1, rfl, fun d hd => by
          by_cases e : d = i
          · rw [e]; exact hs
          · exact q1 d (by omega)⟩
    · rintro σ1 G1 H1 g1 s1 ⟨a1, b1, c1, d1, rfl, q1⟩
      refine s_ret s1.gh (ev_is ev_bl ?_) (kk.go s1)
      rw [ea]
      refine (List.all_eq_true.mpr fun d hd => q1 d ?_).symm
      rw [List.length_zip, List.length_range]
      have := List.mem_range.mp hd
      omega
end
end DH
namespace DH
open PySem PySem.Spec PyProof.Rows L2
/-! ### a list of numbers that may stand locked -/
def RS (K : PySem.W.Frag) : Rel (List Int) := fun l v H => ∃ a, v = .ref a ∧ SqL K H a (l.map V.int)
def RT {α : Type} (K : PySem.W.Frag) (R : Rel α) : Rel (List α) := fun l v H => ∃ a xs, v = .ref a ∧ SqT K H a xs ∧ All2 R H l xs
theorem _root_.L2.Same.tup {K : PySem.W.Frag} {H H' : Hp} {a : Addr} {xs : List V} (e : Same H H') (h : SqT K H a xs) : SqT K H' a xs := by
  rcases h with (h | ⟨o, h⟩) | h
  · exact .inl (.inl (e _ _ h))
  · exact .inl (.inr ⟨o, e _ _ h⟩)
  · exact .inr h
instance (K : PySem.W.Frag) : Mono (RS K) := ⟨fun e ⟨a, ev, h⟩ => ⟨a, ev, Same.seq e h⟩⟩
instance {α : Type} (K : PySem.W.Frag) (R : Rel α) [Mono R] : Mono (RT K R) := ⟨fun e ⟨a, xs, ev, h, ha⟩ => ⟨a, xs, ev, e.tup h, ha.up e⟩⟩
def RItem : Rel Item := fun i v H => match i with
  | .num z => RI z v H
  | .row l => RL RI l v H
instance : Mono RItem := ⟨fun {a v H H'} e h => match a, h with
  | .num _, h => h
  | .row _, h => Mono.up (R := RL RI) e h⟩
abbrev RCall : Rel (Int × List Item) := RP RI (RL RItem)
/-- the names of a call's parts -/
def RSh : Rel Bool := fun b v _ => v = .str (if b = true then "row" else "number")
instance : Mono RSh := ⟨fun _ h => h⟩
section
variable {α : Type} {K : PySem.W.Frag} {σ : L2.St} {G : Hp} {te ta tb tl : TE} {R : Rel α}
theorem src_tup [Mono R] {l : List α} (h : Ev tl σ G (RT K R) l) : Src (iTup K tl) σ G R l := fun G1 H1 g s Q q =>
  h G1 H1 g s _ fun v G2 H2 w ⟨p, xs, e, hp, ha⟩ => ⟨p, e, ⟨xs, w.gh.tup hp⟩, q _ G2 H2 w
    ⟨fun i H hi s2 => by
        have hl : i < xs.length := by rw [ha.len]; exact hi
        exact ⟨xs, xs[i], s2.tup hp, by simp [hl]⟩,
      fun H s2 => ⟨xs, s2.tup hp, Nat.le_of_eq ha.len⟩,
      fun i a G3 H x H' ea g3 s3 ⟨eh, y⟩ => by
        obtain ⟨x2, ex, rx⟩ := ha.at ea
        have e2 := y xs ((g3.trans s3).tup hp)
        rw [ex] at e2
        cases e2
        subst eh
        exact ⟨G3, Grow.refl s3, Mono.up g3 rx⟩⟩⟩
theorem ev_lenS {l : List Int} (h : Ev te σ G (RS K) l) : Ev (tCB (rLenS K) (tCons te tNil)) σ G RN l.length := fun G1 H1 g s _ q =>
  h G1 H1 g s _ fun v G2 H2 w ⟨p, e, hp⟩ => ⟨p, _, by rw [e], .inl (w.gh.seq hp), q _ G2 H2 w (by rw [List.length_map]; exact rfl)⟩
theorem ev_ixS {l : List Int} {n : Nat} {z : Int} (h1 : Ev ta σ G (RS K) l) (h2 : Ev tb σ G RN n) (e : l[n]? = some z) : Ev (tOp (rIxL K) ta tb) σ G RI z :=
  ev_bin h1 h2 fun x y G1 H1 _ s ⟨p, ex, hp⟩ ry Q q => ⟨p, _, (n : Int), .int z, ex, ry, s.seq hp, atI_nat (by rw [List.getElem?_map, e]; rfl), q _ G1 H1 (Grow.refl s) rfl⟩
theorem cutV_ints (l : List Int) {i j : Nat} (hi : i ≤ j) (hj : j ≤ l.length) : cutV (l.map V.int) (some (i : Int)) (some (j : Int)) = (((l.drop i).take (j - i)).map V.int) := by
  unfold cutV
  rw [HT.sIx_nat, HT.sIx_nat, List.length_map, Nat.min_eq_left hj, Nat.min_eq_left (Nat.le_trans hi hj), ← List.map_drop, ← List.map_take]
theorem ef_sliceS {l : List Int} {i j : Nat} (h : Ev te σ G (RS K) l) (h1 : Ev ta σ G RN i) (h2 : Ev tb σ G RN j) (hi : i ≤ j) (hj : j ≤ l.length) (hz : l.length ≤ LIM) : EvF (tSl (rSlL K) te (tPart ta) (tPart tb)) σ G RI ((l.drop i).take (j - i)) := fun G1 H1 g s _ q =>
  h G1 H1 g s _ fun v G2 H2 w ⟨p, e, hp⟩ => h1 G2 H2 (g.trans w.gg) w.gh _ fun x G3 H3 w3 rx => ⟨(i : Int), rx, h2 G3 H3 ((g.trans w.gg).trans w3.gg) w3.gh _ fun y G4 H4 w4 ry => ⟨(j : Int), ry, p, _, e, (w4.gh.trans (Same.refl _)).seq ((w3.gg.trans w4.gg).seq hp), fun o ho => by
    rw [cutV_ints l hi hj]
    exact q o _ G4 _ (((w.trans w3).trans w4).trans (Grow.hid w4.gh ho)) (((w.trans w3).trans w4).hh.free ho) (w4.gh.free ho) upd_same (by
      rw [List.length_map, List.length_take, List.length_drop]
      exact Nat.le_trans (Nat.min_le_right _ _) (Nat.le_trans (Nat.sub_le _ _) hz)) (all2_int.mpr rfl)⟩⟩
theorem ev_row {b : Bool} (h : Ev te σ G RSh b) : Ev (tOp rEq te (tC (.str "row"))) σ G RB b := fun G1 H1 g s _ q =>
  h G1 H1 g s _ fun v G2 H2 w r => ⟨by rw [show v = V.str _ from r]; rfl, q _ G2 H2 w (by
    rw [show v = V.str _ from r]
    cases b with
    | true => exact congrArg V.bl (decide_eq_true rfl)
    | false => exact congrArg V.bl (decide_eq_false (by decide +kernel)))⟩
end
/-- the shapes that the text's top tells -/
def Shapes (K : PySem.W.Frag) (mg : Mg) : Prop := ∀ p n k, PyVberan.shape p = some (n, k) → ∃ t, KInt K (adr mg "SHAPES") p (.ref t) ∧ ∀ G, RT K RSh (List.replicate n false ++ List.replicate k true) (.ref t) G
def sp_cut_calls (K : PySem.W.Frag) : Sp := fun vs H Q _ => ∃ G l raw x, Same G H ∧ vs = [x] ∧ RS K l x G ∧ l.length ≤ 20000 ∧ PyFlat.calls PyVberan.shape l.length l = some raw ∧ Ret (RL RCall) (raw.map toCall) G H Q
section
variable {K : PySem.W.Frag} {mg : Mg} {vs : List V} {H : Hp} {Q : VK} {E : XK}
theorem drop_cons {α : Type} {l r : List α} {i : Nat} {x : α} (h : l.drop i = x :: r) : l[i]? = some x ∧ l.drop (i + 1) = r ∧ i < l.length := by
  have hi : i < l.length := by
    rcases Nat.lt_or_ge i l.length with z | z
    · exact z
    · rw [List.drop_eq_nil_of_le z] at h
      cases h
  rw [List.drop_eq_getElem_cons hi] at h
  have e := List.cons.inj h
  exact ⟨by rw [List.getElem?_eq_getElem hi, e.1], e.2, hi⟩
theorem row_drop {l : List Int} {i : Nat} {x : List Int} {t : List Int} (h : PyFlat.row (l.drop i) = some (x, t)) :
    ∃ n : Nat, l[i]? = some (n : Int) ∧ i + 1 + n ≤ l.length ∧ x = (l.drop (i + 1)).take (i + 1 + n - (i + 1)) ∧ l.drop (i + 1 + n) = t := by
  cases hd : l.drop i with
  | nil => rw [hd] at h; cases h
  | cons z r =>
    rw [hd] at h
    obtain ⟨h1, h2, h3⟩ := drop_cons hd
    unfold PyFlat.row at h
    dsimp only at h
    split at h
    · rename_i hc
      cases h
      have hl : r.length = l.length - (i + 1) := by rw [← h2, List.length_drop]
      refine ⟨z.toNat, by rw [h1, Int.toNat_of_nonneg hc.1], by omega, ?_, ?_⟩
      · rw [h2]
        congr 1
        omega
      · rw [← h2, List.drop_drop]
    · cases h
theorem pure_cut_calls (T : Top K mg) (SH : Shapes K mg) (h : sp_cut_calls K vs H Q E) : t_cut_calls K mg { nx := fun _ H' => Q .non H', rt := Q } (start N_cut_calls vs) H := by
  obtain ⟨G, l, raw, x, s, rfl, rx, hl, hraw, kk⟩ := h
  have hLIM : l.length ≤ LIM := Nat.le_trans hl (by decide)
  refine q_asgF s (ef_nil (R := RCall)) fun c xs G2 H2 w hc g2 h2 hxl a2 => ?_
  rw [all2_nil a2] at h2
  refine q_asg w.gh (ev_nat (i := 0) (n := 0) rfl) fun v G3 H3 w3 rv => ?_
  refine q_while (G0 := G) (H0 := H) (fun m σ' G' H' => ∃ i f rest done cs a b d e v xs, σ' = [some x, some (.ref c), some v, a, b, d, e] ∧ RN i v G' ∧ l.drop i = rest ∧ PyFlat.calls PyVberan.shape f rest = some cs ∧ raw = done ++ cs ∧ done.length ≤ i ∧ i ≤ l.length ∧
      G' c = none ∧ H' c = some (.lst xs) ∧ All2 RCall G' (done.map toCall) xs ∧ m = l.length - i) _ (w.trans w3)
    ⟨0, l.length, l, [], raw, none, none, none, none, v, [], rfl, rv, rfl, hraw, rfl, Nat.le_refl _, Nat.zero_le _, w3.out h2 g2, w3.hh _ _ h2, trivial, rfl⟩ ?_
  rintro m σ1 G1 H1 g1 s1 ⟨i, f, rest, done, cs, a, b, d, e, v, xs, rfl, rv, hr, hcs, hd, hdi, hil, n1, h1, a1, rfl⟩
  have rx1 := Mono.up ((w.gg.trans w3.gg).trans g1) rx
  refine ⟨decide ((i : Int) < (l.length : Int)), et_test (ev_lt (ev_n2i (ev_var rfl rv)) (ev_n2i (ev_lenS (ev_var rfl rx1)))), fun hb G4 H4 w4 => ?_, fun hb G4 H4 w4 => ?_⟩
  · have hi : i < l.length := by
      have := of_decide_eq_true hb
      omega
    cases hrest : rest with
    | nil =>
      rw [hrest] at hr
      have := List.drop_eq_nil_iff.mp hr
      omega
    | cons p r =>
      rw [hrest] at hr hcs
      obtain ⟨e1, e2, _⟩ := drop_cons hr
      obtain ⟨f', call, t, cs', rfl, hcall, hcs', rfl⟩ := calls_cons hcs
      obtain ⟨n, k, items, hsh, heat, hto⟩ := call_eat hcall
      obtain ⟨tu, hk, htu⟩ := SH p n k hsh
      have n4 := w4.out h1 n1
      have h4 := w4.hh _ _ h1
      have rx4 := Mono.up w4.gg rx1
      have rv4 : RN i v G4 := rv
      refine q_asg w4.gh (ev_ixS (ev_var rfl rx4) (ev_var rfl rv4) e1) fun u G5 H5 w5 ru => ?_
      refine q_asg w5.gh (ev_addN (ev_var rfl (show RN i v G5 from rv)) (ev_nat (i := 1) (n := 1) rfl)) fun v6 G6 H6 w6 rv6 => ?_
      refine q_asgF w6.gh (ef_nil (R := RItem)) fun gl ys G7 H7 w7 hg g7 h7 hyl a7 => ?_
      rw [all2_nil a7] at h7
      have w47 := ((w4.trans w5).trans w6).trans w7
      have sE := s1.trans w47
      have hg0 : H gl = none := (s1.trans ((w4.trans w5).trans w6)).hh.free hg
      have n7 := w47.out h1 n1
      have h17 := w47.hh _ _ h1
      have gne : gl ≠ c := fun z => by
        have q := ((w4.trans w5).trans w6).hh _ _ h1
        rw [z, q] at hg
        cases hg
      refine q_for (G0 := G) (H0 := H) (R := RSh) (l := List.replicate n false ++ List.replicate k true) sE (src_tup (fun G8 H8 g8 s8 Q8 q8 => ⟨u, rfl, adr mg "SHAPES", p, .ref tu, rfl, ru, hk, q8 (.ref tu) G8 H8 (Grow.refl s8) (htu G8)⟩)) hit_name
        (fun j σ' G' H' => ∃ i' v' sh en pre suf ys, σ' = [some x, some (.ref c), some v', some u, some (.ref gl), sh, en] ∧ RN i' v' G' ∧ i < i' ∧ i' ≤ l.length ∧ eat ((List.replicate n false ++ List.replicate k true).drop j) (l.drop i') = some (suf, t) ∧ items = pre ++ suf ∧ pre.length ≤ i' ∧
          G' c = none ∧ H' c = some (.lst xs) ∧ G' gl = none ∧ H' gl = some (.lst ys) ∧ All2 RItem G' pre ys)
        (fun G8 H8 w8 => ⟨i + 1, v6, d, e, [], items, [], rfl, rv6, Nat.lt_succ_self i, hi, by rw [List.drop_zero, e2]; exact heat, rfl, Nat.zero_le _, w8.out h17 n7, w8.hh _ _ h17, w8.out h7 g7, w8.hh _ _ h7, trivial⟩) ?_ ?_
      · rintro j sh σ3 G8 H8 hj g8 s8 ⟨i', v', sh0, en0, pre, suf, ys, rfl, rv', hi1, hi2, heat', hit, hpl, nc, hcx, ng, hgx, ap⟩ G9 H9 σ4 w9 ⟨vsh, rsh, rfl⟩
        have hdj : (List.replicate n false ++ List.replicate k true).drop j = sh :: (List.replicate n false ++ List.replicate k true).drop (j + 1) := by
          have hlt := (List.getElem?_eq_some_iff.mp hj).1
          rw [List.drop_eq_getElem_cons hlt, (List.getElem?_eq_some_iff.mp hj).2]
        rw [hdj] at heat'
        have gx9 := (w.gg.trans w3.gg).trans (g1.trans (w47.gg.trans (g8.trans w9.gg)))
        have rx9 := Mono.up gx9 rx
        have nc9 := w9.out hcx nc
        have hc9 := w9.hh _ _ hcx
        have ng9 := w9.out hgx ng
        have hg9 := w9.hh _ _ hgx
        have ap9 := ap.up w9.gg
        have hyz : ys.length < 100000 := by
          rw [ap.len]
          omega
        refine q_asg w9.gh (ev_addN (ev_var rfl (show RN i' v' G9 from rv')) (ev_nat (i := 1) (n := 1) rfl)) fun v10 G10 H10 w10 rv10 => ?_
        have nc10 := w10.out hc9 nc9
        have hc10 := w10.hh _ _ hc9
        have ng10 := w10.out hg9 ng9
        have hg10 := w10.hh _ _ hg9
        have sT := (s8.trans w9).trans w10
        refine q_if w10.gh (et_test (ev_row (b := sh) (ev_var rfl (show RSh sh vsh G10 from rsh)))) (fun hsh1 G11 H11 w11 => ?_) (fun hsh1 G11 H11 w11 => ?_)
        · subst hsh1
          unfold eat at heat'
          cases hrow : PyFlat.row (l.drop i') with
          | none => rw [hrow] at heat'; cases heat'
          | some y =>
            obtain ⟨rw_, t'⟩ := y
            rw [hrow] at heat'
            dsimp only at heat'
            cases hrest2 : eat ((List.replicate n false ++ List.replicate k true).drop (j + 1)) t' with
            | none => rw [hrest2] at heat'; cases heat'
            | some z =>
              obtain ⟨suf', t2⟩ := z
              rw [hrest2] at heat'
              cases heat'
              obtain ⟨cnt, hc1, hc2, hc3, hc4⟩ := row_drop hrow
              have nc11 := w11.out hc10 nc10
              have hc11 := w11.hh _ _ hc10
              have ng11 := w11.out hg10 ng10
              have hg11 := w11.hh _ _ hg10
              have rx11 := Mono.up (w10.gg.trans w11.gg) rx9
              refine q_asg w11.gh (ev_addN (j := cnt) (ev_var rfl (show RN (i' + 1) v10 G11 from rv10)) (ev_i2n (ev_ixS (ev_var rfl rx11) (ev_var rfl (show RN i' v' G11 from rv')) hc1))) fun v12 G12 H12 w12 rv12 => ?_
              have rx12 := Mono.up w12.gg rx11
              refine s_app (i := 4) (R := RItem) (a := .row rw_) w12.gh rfl (w12.hh _ _ hg11) hyz (w12.out hg11 ng11) ?_ fun z G13 H13 w13 n13 rz s13 => ?_
              · rw [hc3]
                exact (ef_sliceS (ev_var rfl rx12) (ev_addN (ev_var rfl (show RN i' v' G12 from rv')) (ev_nat (i := 1) (n := 1) rfl)) (ev_var rfl (show RN (i' + 1 + cnt) v12 G12 from rv12)) (Nat.le_add_right _ _) hc2 hLIM).ev
              · refine s_asg (R := RN) (a := i' + 1 + cnt) s13 (ev_var rfl (show RN (i' + 1 + cnt) v12 G13 from rv12)) fun v14 G14 H14 w14 rv14 => ?_
                refine ⟨G14, w9.gg.trans (w10.gg.trans (w11.gg.trans (w12.gg.trans (w13.gg.trans w14.gg)))), (((((s8.trans w9).trans w10).trans w11).trans w12).trans w13).mutd hg0 n13 |>.trans w14, i' + 1 + cnt, v14, some vsh, some v12, pre ++ [.row rw_], suf', ys ++ [z], rfl, rv14, by omega, hc2, by rw [hc4]; exact hrest2, by rw [List.append_assoc]; exact hit, by rw [List.length_append]; exact (by show pre.length + 1 ≤ _; omega), ?_, ?_, ?_, ?_, ?_⟩
                · exact w14.out (by rw [upd_ne (Ne.symm gne)]; exact w13.hh _ _ (w12.hh _ _ hc11)) (w13.out (w12.hh _ _ hc11) (w12.out hc11 nc11))
                · exact w14.hh _ _ (by rw [upd_ne (Ne.symm gne)]; exact w13.hh _ _ (w12.hh _ _ hc11))
                · exact w14.out upd_same n13
                · exact w14.hh _ _ upd_same
                · exact (ap9.up (w10.gg.trans (w11.gg.trans (w12.gg.trans (w13.gg.trans w14.gg))))).app (All2.one (Mono.up w14.gg rz))
        · subst hsh1
          cases hdr : l.drop i' with
          | nil => rw [hdr] at heat'; cases heat'
          | cons zz r' =>
            rw [hdr] at heat'
            unfold eat at heat'
            obtain ⟨hc1, hc2, hc3⟩ := drop_cons hdr
            cases hrest2 : eat ((List.replicate n false ++ List.replicate k true).drop (j + 1)) r' with
            | none => rw [hrest2] at heat'; cases heat'
            | some z =>
              obtain ⟨suf', t2⟩ := z
              rw [hrest2] at heat'
              cases heat'
              have nc11 := w11.out hc10 nc10
              have hc11 := w11.hh _ _ hc10
              have ng11 := w11.out hg10 ng10
              have hg11 := w11.hh _ _ hg10
              have rx11 := Mono.up (w10.gg.trans w11.gg) rx9
              refine s_app (i := 4) (R := RItem) (a := .num zz) w11.gh rfl hg11 hyz ng11 (ev_ixS (ev_var rfl rx11) (ev_var rfl (show RN i' v' G11 from rv')) hc1) fun z G13 H13 w13 n13 rz s13 => ?_
              refine s_asg (R := RN) (a := i' + 1) s13 (ev_var rfl (show RN (i' + 1) v10 G13 from rv10)) fun v14 G14 H14 w14 rv14 => ?_
              refine ⟨G14, w9.gg.trans (w10.gg.trans (w11.gg.trans (w13.gg.trans w14.gg))), ((((s8.trans w9).trans w10).trans w11).trans w13).mutd hg0 n13 |>.trans w14, i' + 1, v14, some vsh, some v10, pre ++ [.num zz], suf', ys ++ [z], rfl, rv14, by omega, by omega, by rw [hc2]; exact hrest2, by rw [List.append_assoc]; exact hit, by rw [List.length_append]; exact (by show pre.length + 1 ≤ _; omega), ?_, ?_, ?_, ?_, ?_⟩
              · exact w14.out (by rw [upd_ne (Ne.symm gne)]; exact w13.hh _ _ hc11) (w13.out hc11 nc11)
              · exact w14.hh _ _ (by rw [upd_ne (Ne.symm gne)]; exact w13.hh _ _ hc11)
              · exact w14.out upd_same n13
              · exact w14.hh _ _ upd_same
              · exact (ap9.up (w10.gg.trans (w11.gg.trans (w13.gg.trans w14.gg)))).app (All2.one (Mono.up w14.gg rz))
      · rintro σ3 G8 H8 g8 s8 ⟨i', v', sh0, en0, pre, suf, ys, rfl, rv', hi1, hi2, heat', hit, hpl, nc, hcx, ng, hgx, ap⟩
        rw [List.drop_length] at heat'
        unfold eat at heat'
        have e3 := Option.some.inj heat'
        have es : suf = [] := (congrArg Prod.fst e3).symm
        have et : l.drop i' = t := congrArg Prod.snd e3
        subst es
        rw [List.append_nil] at hit
        subst hit
        have gs : Same G8 (upd G8 gl (.lst ys)) := Same.new ng
        have sg := s8.show_ hg0 hgx
        have ncg : upd G8 gl (.lst ys) c = none := by rw [upd_ne (Ne.symm gne)]; exact nc
        have rgl : RL RItem items (.ref gl) (upd G8 gl (.lst ys)) := ⟨gl, ys, rfl, upd_same, by rw [ap.len]; show _ ≤ 40000; omega, ap.up gs⟩
        have hxz : xs.length < 100000 := by
          rw [a1.len, List.length_map]
          omega
        refine s_app (i := 1) (R := RCall) (a := (p, items)) sg.gh rfl hcx hxz ncg (fun G9 H9 g9 s9 Q9 q9 => ?_) fun z G10 H10 w10 n10 rz s10 => ?_
        · exact ⟨u, rfl, .ref gl, rfl, (by decide : 2 ≤ sizeLine), fun t ht => q9 _ _ _ (Grow.new s9 ht) ⟨t, u, .ref gl, rfl, upd_same, show RI p u _ from ru, Mono.up (g9.trans (Same.new (s9.free ht))) rgl⟩⟩
        · refine ⟨G10, l.length - i', by omega, w47.gg.trans (g8.trans (gs.trans w10.gg)), (sg.trans w10).mutd hc n10, i', f', t, done ++ [call], cs', some u, some (.ref gl), sh0, en0, v', xs ++ [z], rfl, rv', et, hcs', by rw [List.append_assoc]; exact hd, ?_, hi2, n10, upd_same, ?_, rfl⟩
          · rw [List.length_append]
            show done.length + 1 ≤ i'
            omega
          · rw [List.map_append]
            refine ((a1.up (w47.gg.trans (g8.trans (gs.trans w10.gg))))).app (All2.one ?_)
            rw [hto]
            exact rz
  · have hi : ¬ i < l.length := by
      have := of_decide_eq_false hb
      omega
    rw [List.drop_eq_nil_of_le (by omega)] at hr
    subst hr
    have ecs := calls_nil hcs
    subst ecs
    rw [List.append_nil] at hd
    subst hd
    refine s_retB (s1.trans w4) hc rfl (w4.hh _ _ h1) ?_ (w4.out h1 n1) (a1.up w4.gg) kk.fresh
    rw [a1.len, List.length_map]
    show _ ≤ 40000
    omega
end
end DH
namespace DH
open PySem PySem.Spec PyProof.Rows L2
/-! ### needs -/
def Nest (H : Hp) : List Addr → List (List Nat) → Prop
  | [], [] => True
  | q :: S, l :: m => H q = some (.lst ((l.map Int.ofNat).map V.int)) ∧ Nest H S m
  | _, _ => False
theorem Nest.len {H : Hp} : ∀ {S : List Addr} {m : List (List Nat)}, Nest H S m → S.length = m.length
  | [], [], _ => rfl
  | _ :: _, _ :: _, ⟨_, t⟩ => congrArg (· + 1) t.len
  | [], _ :: _, h => h.elim
  | _ :: _, [], h => h.elim
theorem Nest.same {H H' : Hp} (e : ∀ b o, H b = some o → H' b = some o) : ∀ {S : List Addr} {m : List (List Nat)}, Nest H S m → Nest H' S m
  | [], [], _ => trivial
  | _ :: _, _ :: _, ⟨h, t⟩ => ⟨e _ _ h, t.same e⟩
  | [], _ :: _, h => h.elim
  | _ :: _, [], h => h.elim
theorem Nest.app {H : Hp} : ∀ {S T : List Addr} {m n : List (List Nat)}, Nest H S m → Nest H T n → Nest H (S ++ T) (m ++ n)
  | [], _, [], _, _, q => q
  | _ :: _, _, _ :: _, _, ⟨h, t⟩, q => ⟨h, t.app q⟩
  | [], _, _ :: _, _, h, _ => h.elim
  | _ :: _, _, [], _, h, _ => h.elim
/-- one list changes, which is none of these -/
theorem Nest.past {H : Hp} {p : Addr} {o : HO} : ∀ {S : List Addr} {m : List (List Nat)}, p ∉ S → Nest H S m → Nest (upd H p o) S m
  | [], [], _, _ => trivial
  | q :: _, _ :: _, n, ⟨h, t⟩ => ⟨by rw [upd_ne (fun e => n (by rw [e]; exact List.mem_cons_self))]; exact h, t.past fun z => n (List.mem_cons_of_mem _ z)⟩
  | [], _ :: _, _, h => h.elim
  | _ :: _, [], _, h => h.elim
theorem Nest.all2 {F H : Hp} {T : List Addr} : ∀ {S : List Addr} {m : List (List Nat)}, Nest H S m → (∀ l ∈ m, l.length ≤ LIM) → (∀ b ∈ S, b ∈ T) → All2 (RL RN) (pick F H T) m (S.map V.ref)
  | [], [], _, _, _ => trivial
  | q :: _, l :: _, ⟨h, t⟩, hl, hs => ⟨⟨q, _, rfl, by rw [pick_in (hs q List.mem_cons_self)]; exact h, by rw [List.length_map, List.length_map]; exact hl l List.mem_cons_self, all2_nat.mpr rfl⟩,
    t.all2 (fun l hl2 => hl l (List.mem_cons_of_mem _ hl2)) fun b hb => hs b (List.mem_cons_of_mem _ hb)⟩
  | [], _ :: _, h, _, _ => h.elim
  | _ :: _, [], h, _, _ => h.elim
theorem Nest.last {H : Hp} {q : Addr} {c : List Nat} : ∀ {S : List Addr} {m : List (List Nat)}, Nest H (S ++ [q]) (m ++ [c]) → S.length = m.length → H q = some (.lst ((c.map Int.ofNat).map V.int)) ∧ Nest H S m
  | [], [], h, _ => ⟨h.1, trivial⟩
  | [], _ :: _, _, e => by cases e
  | _ :: _, [], _, e => by cases e
  | _ :: _, _ :: _, h, e => ⟨(Nest.last h.2 (Nat.succ.inj e)).1, h.1, (Nest.last h.2 (Nat.succ.inj e)).2⟩
/-- new since H0, not known, there -/
def Live (H0 G H : Hp) (S : List Addr) : Prop := ∀ b ∈ S, H0 b = none ∧ G b = none ∧ ∃ o, H b = some o
theorem Live.grow {H0 G H G2 H2 : Hp} {S : List Addr} (h : Live H0 G H S) (w : Grow G H G2 H2) : Live H0 G2 H2 S := fun b hb => by
  obtain ⟨h1, h2, o, h3⟩ := h b hb
  exact ⟨h1, w.out h3 h2, o, w.hh _ _ h3⟩
theorem Live.upd {H0 G H : Hp} {S : List Addr} {p : Addr} {o : HO} (h : Live H0 G H S) : Live H0 G (upd H p o) S := fun b hb => by
  obtain ⟨h1, h2, u, h3⟩ := h b hb
  by_cases e : b = p
  · exact ⟨h1, h2, o, by rw [e, upd_same]⟩
  · exact ⟨h1, h2, u, by rw [upd_ne e]; exact h3⟩
theorem Live.out {H0 G H : Hp} {S : List Addr} {r : Addr} (h : Live H0 G H S) (hr : H r = none) : r ∉ S := fun e => by
  obtain ⟨_, _, o, h3⟩ := h r e
  rw [hr] at h3
  cases h3
section
variable {α : Type} {K : PySem.W.Frag} {σ : L2.St} {G H : Hp} {te : TE} {tz : TS} {R : Rel α} {D : Ends} {i : Nat}
theorem q_asg_ll {l : List α} (s : Same G H) (h : EvF te σ G R l) (k : ∀ q xs p G2 H2, Grow G H G2 H2 → H q = none → G2 q = none → H2 q = some (.lst xs) → All2 R G2 l xs → H2 p = none → tz D (σ.set i (some (.ref p))) (upd H2 p (.lst [.ref q]))) :
    tSeq (tAsg (tLst (tCons te tNil)) (gName i)) tz D σ H := h G H (Same.refl _) s _ fun q xs G2 H2 w hq gq h2 _ ha => ⟨(by decide : 1 ≤ sizeLine), fun p hp => k q xs p G2 H2 w hq gq h2 ha hp⟩
theorem s_appF {p : Addr} {xs : List V} {l : List α} (s : Same G H) (hs : σ[i]? = some (some (.ref p))) (hp : H p = some (.lst xs)) (hz : xs.length < 100000) (h : EvF te σ G R l)
    (k : ∀ q ys G2 H2, Grow G H G2 H2 → H q = none → G2 q = none → H2 q = some (.lst ys) → All2 R G2 l ys → D.nx σ (upd H2 p (.lst (xs ++ [.ref q])))) : tDrop (tBM K "list" rAppend (tVar i) (tCons te tNil)) D σ H :=
  ⟨_, hs, Or.inl ⟨rfl, _, SqL.of hp⟩, h G H (Same.refl _) s _ fun q ys G2 H2 w hq gq h2 _ ha => ⟨p, xs, .ref q, rfl, rfl, w.hh _ _ hp, Nat.lt_of_lt_of_le hz (by decide), k q ys G2 H2 w hq gq h2 ha⟩⟩
end
def sp_cut_needs : Sp := fun vs H Q _ => ∃ G F n x, Same G H ∧ Same F H ∧ vs = [x] ∧ RL RI n x G ∧ (∀ z ∈ n, -1 ≤ z) ∧ n.length ≤ 1000 ∧ Ret (RL (RL RN)) (Vberan.splitNeeds n) F H Q
section
variable {K : PySem.W.Frag} {mg : Mg} {vs : List V} {H : Hp} {Q : VK} {E : XK}
theorem drop_last {α : Type} {l : List α} : l.drop l.length = [] := List.drop_eq_nil_of_le (Nat.le_refl _)
theorem pure_cut_needs (T : Top K mg) (h : sp_cut_needs vs H Q E) : t_cut_needs K mg { nx := fun _ H' => Q .non H', rt := Q } (start N_cut_needs vs) H := by
  obtain ⟨G, F, n, x, s, sF, rfl, rx, hn, hl, kk⟩ := h
  refine q_asg_ll s (ef_nil (α := Nat) (R := RN)) fun q ys p G2 H2 w hq g2 h2 a2 hp => ?_
  rw [all2_nil a2] at h2
  have hp0 : H p = none := w.hh.free hp
  have gp : G2 p = none := w.gh.free hp
  have qp : q ≠ p := fun e => by rw [e, hp] at h2; cases h2
  have w2 : Grow G H G2 (upd H2 p (.lst [.ref q])) := (w.trans (Grow.hid w.gh hp))
  have live0 : Live H G2 (upd H2 p (.lst [.ref q])) (p :: ([] ++ [q])) := fun b hb => by
    rcases List.mem_cons.mp hb with e | hb
    · rw [e]
      exact ⟨hp0, gp, _, upd_same⟩
    · have e : b = q := by simpa using hb
      rw [e]
      exact ⟨hq, g2, _, by rw [upd_ne qp]; exact h2⟩
  refine q_for (G0 := G) (H0 := H) w2 (src_list (ev_var rfl (Mono.up w.gg rx))) hit_name
    (fun i σ' G' H' => ∃ S q done c v, σ' = [some x, some (.ref p), v] ∧ done ++ joinHead c (Vberan.splitNeeds (n.drop i)) = Vberan.splitNeeds n ∧ (p :: (S ++ [q])).Nodup ∧ Live H G' H' (p :: (S ++ [q])) ∧
      H' p = some (.lst ((S ++ [q]).map V.ref)) ∧ Nest H' (S ++ [q]) (done ++ [c]) ∧ S.length + c.length ≤ i ∧ ∀ l ∈ done, l.length ≤ i)
    (fun G3 H3 w3 => ⟨[], q, [], [], none, rfl, by rw [List.drop_zero]; exact join_nil _, ?_, live0.grow w3, w3.hh _ _ upd_same, ⟨w3.hh _ _ (by rw [upd_ne qp]; exact h2), trivial⟩, Nat.le_refl _, fun l hl => by cases hl⟩) ?_ ?_
  · exact List.nodup_cons.mpr ⟨by simpa using Ne.symm qp, by simp⟩
  · rintro i z σ1 G1 H1 hi g1 s1 ⟨S, q, done, c, v, rfl, hj, nd, live, hP, hN, hlen, hld⟩ G3 H3 σ2 w3 ⟨u, ru, rfl⟩
    have hin : i < n.length := (List.getElem?_eq_some_iff.mp hi).1
    rw [show n.drop i = z :: n.drop (i + 1) from by rw [List.drop_eq_getElem_cons hin, (List.getElem?_eq_some_iff.mp hi).2]] at hj
    have hz := hn z (List.mem_of_getElem? hi)
    have hpS : p ∉ S ++ [q] := (List.nodup_cons.mp nd).1
    have ndS := (List.nodup_cons.mp nd).2
    have hqS : q ∉ S := fun e => (List.nodup_append.mp ndS).2.2 q e q (by simp) rfl
    refine s_if w3.gh (et_test (ev_eq (ev_var rfl (show RI z u G3 from ru)) (ev_neg (ev_int (i := 1))))) (fun hb G4 H4 w4 => ?_) (fun hb G4 H4 w4 => ?_)
    · have ez : z = -1 := of_decide_eq_true hb
      have w34 := w3.trans w4
      have live4 := live.grow w34
      have hP4 := w34.hh _ _ hP
      have hN4 := hN.same w34.hh
      refine s_appF (i := 1) w4.gh rfl hP4 ?_ (ef_nil (α := Nat) (R := RN)) fun r ys G5 H5 w5 hr g5 h5 a5 => ?_
      · rw [List.length_map, List.length_append]
        show S.length + 1 < 100000
        omega
      rw [all2_nil a5] at h5
      have hrl := live4.out hr
      have hrp : r ≠ p := fun e => hrl (by rw [e]; exact List.mem_cons_self)
      have hrS : r ∉ S ++ [q] := fun e => hrl (List.mem_cons_of_mem _ e)
      have live5 := live4.grow w5
      refine ⟨G5, w34.gg.trans w5.gg, ((s1.trans w34).trans w5).mutd hp0 (live5 p List.mem_cons_self).2.1, S ++ [q], r, done ++ [c], [], some u, rfl, ?_, ?_, Live.upd fun b hb => ?_, ?_, ?_, ?_, ?_⟩
      · rw [List.append_assoc]
        rw [join_neg c (by omega)] at hj
        exact hj
      · refine List.nodup_cons.mpr ⟨fun e => ?_, List.nodup_append.mpr ⟨ndS, by simp, fun a ha b hb e => ?_⟩⟩
        · rcases List.mem_append.mp e with e | e
          · exact hpS e
          · exact hrp (List.mem_singleton.mp e).symm
        · have e2 : b = r := by simpa using hb
          rw [e, e2] at ha
          exact hrS ha
      · by_cases e : b = r
        · rw [e]
          exact ⟨((s1.trans w34)).hh.free hr, g5, _, h5⟩
        · refine live5 b ?_
          rcases List.mem_cons.mp hb with z1 | z1
          · rw [z1]; exact List.mem_cons_self
          · rcases List.mem_append.mp z1 with z2 | z2
            · exact List.mem_cons_of_mem _ z2
            · exact absurd (by simpa using z2) e
      · rw [upd_same]
        simp
      · refine Nest.past (fun e => ?_) ((hN4.same w5.hh).app ⟨h5, trivial⟩)
        rcases List.mem_append.mp e with e | e
        · exact hpS e
        · exact hrp (List.mem_singleton.mp e).symm
      · rw [List.length_append]
        show S.length + 1 + 0 ≤ i + 1
        omega
      · intro l hl
        rcases List.mem_append.mp hl with z1 | z1
        · exact Nat.le_succ_of_le (hld l z1)
        · have e : l = c := by simpa using z1
          rw [e]
          omega
    · have ez : ¬ z < 0 := by
        have := of_decide_eq_false hb
        omega
      have w34 := w3.trans w4
      have live4 := live.grow w34
      have hP4 := w34.hh _ _ hP
      have hN4 := hN.same w34.hh
      have hSl : S.length = done.length := by
        have := hN4.len
        rw [List.length_append, List.length_append] at this
        exact Nat.succ.inj this
      obtain ⟨hq4, hS4⟩ := hN4.last hSl
      have hqp : p ≠ q := fun e => hpS (by rw [e]; simp)
      have lq := live4 q (List.mem_cons_of_mem _ (by simp))
      have hat : atI ((S ++ [q]).map V.ref) (-1) = some (.ref q) := by
        rw [List.map_append]
        exact atI_last _ _
      refine ⟨_, rfl, 1, rfl, p, (S ++ [q]).map V.ref, -1, .ref q, rfl, rfl, SqL.of hP4, hat, Or.inl ⟨rfl, _, SqL.of hq4⟩, u, rfl, q, _, u, rfl, rfl, hq4, ?_, G4, w34.gg, (s1.trans w34).mutd lq.1 lq.2.1, S, q, done, c ++ [z.toNat], some u, rfl, ?_, nd, live4.upd, ?_, ?_, ?_, fun l hl => Nat.le_succ_of_le (hld l hl)⟩
      · rw [List.length_map, List.length_map]
        exact Nat.lt_of_le_of_lt (by omega : c.length ≤ 1000) (by decide)
      · rw [join_pos c ez] at hj
        exact hj
      · rw [upd_ne hqp]
        exact hP4
      · refine Nest.app (Nest.past hqS hS4) ⟨?_, trivial⟩
        rw [upd_same, List.map_append, List.map_append, show u = V.int z from ru]
        show some (HO.lst (_ ++ [V.int z])) = some (HO.lst (_ ++ [V.int ((z.toNat : Nat) : Int)]))
        rw [Int.toNat_of_nonneg (by omega)]
      · rw [List.length_append]
        show S.length + (c.length + 1) ≤ i + 1
        omega
  · rintro σ1 G1 H1 g1 s1 ⟨S, q, done, c, v, rfl, hj, nd, live, hP, hN, hlen, hld⟩
    rw [drop_last] at hj
    refine ⟨_, rfl, kk (.ref p) (pick F H1 (p :: (S ++ [q]))) H1 (Grow.pick sF s1.hh fun b hb => (live b hb).1) ⟨p, _, rfl, by rw [pick_in List.mem_cons_self]; exact hP, ?_, ?_⟩⟩
    · rw [List.length_map, List.length_append]
      show S.length + 1 ≤ 40000
      omega
    · have e : joinHead c (Vberan.splitNeeds []) = [c] := by
        show [c ++ []] = [c]
        rw [List.append_nil]
      rw [e] at hj
      rw [← hj]
      refine hN.all2 (fun l hl => ?_) fun b hb => List.mem_cons_of_mem _ hb
      rcases List.mem_append.mp hl with z | z
      · exact Nat.le_trans (hld l z) (by show _ ≤ 40000; omega)
      · rw [List.mem_singleton.mp z]
        show _ ≤ 40000
        omega
end
end DH
namespace DH
open PySem PySem.Spec PyProof.Rows L2
/-! ### what is due -/
def RHs (mg : Mg) : Rel Vberan.State := fun s v H => match s.house with
  | none => v = .non
  | some h => RHouse mg (h, s.play) v H
instance (mg : Mg) : Mono (RHs mg) := ⟨fun {a v H H'} e h => by
  unfold RHs at h ⊢
  cases q : a.house with
  | none => rw [q] at h; exact h
  | some x => rw [q] at h; exact Mono.up (R := RHouse mg) e h⟩
abbrev RG : Rel (List Item) := RL RItem
def sp_is_list_within : Sp := fun vs H Q _ => ∃ G l m a b x y z u, Same G H ∧ vs = [x, y, z, u] ∧ RL RI l x G ∧ RI m y G ∧ RI a z G ∧ RI b u G ∧ Ret RB (decide ((l.length : Int) ≤ m) && l.all fun n => Vberan.inr n a b) G H Q
def sp_is_rising : Sp := fun vs H Q _ => ∃ G l x, Same G H ∧ vs = [x] ∧ RL RI l x G ∧ Ret RB (Vberan.rising l) G H Q
def sp_is_deed_number : Sp := fun vs H Q _ => ∃ G d x, Same G H ∧ vs = [x] ∧ RI d x G ∧ Ret RB (Vberan.isDeed d) G H Q
def sp_is_deed_as_told : Sp := fun vs H Q _ => ∃ G n u g x y z, Same G H ∧ vs = [x, y, z] ∧ RL RI n x G ∧ RL RI u y G ∧ RL RI g z G ∧ Ret RB (told3 n u g) G H Q
/-- a refusal's promise: the call's items, what's due -/
def spRef (mg : Mg) (it : List Item → Prop) (g : Vberan.State → List Item → List (Int × Bool)) : Sp := fun vs H Q _ => ∃ G s i x y, Same G H ∧ vs = [x, y] ∧ RHs mg s x G ∧ RG i y G ∧ it i ∧ WfS s ∧ Ret RI (refI (g s i)) G H Q
section
variable {K : PySem.W.Frag} {mg : Mg} {σ : L2.St} {G : Hp} {te ta tb tc td : TE}
theorem ev_row_of {l : List Int} (h : Ev te σ G RItem (.row l)) : Ev te σ G (RL RI) l := h
theorem ev_num_of {z : Int} (h : Ev te σ G RItem (.num z)) : Ev te σ G RI z := h
theorem ev_arg {i : List Item} {a : Item} {n : Nat} {k : Int} (h : Ev ta σ G RG i) (e : i[n]? = some a) (hk : k = (n : Int)) : Ev (tOp (rIxL K) ta (tC (.int k))) σ G RItem a := ev_ix h (ev_nat hk) e
theorem ev_lw {l : List Int} {m a b : Int} (h1 : Ev ta σ G (RL RI) l) (h2 : Ev tb σ G RI m) (h3 : Ev tc σ G RI a) (h4 : Ev td σ G RI b) : Ev (tCall sp_is_list_within [] C8.E0 (tCons ta (tCons tb (tCons tc (tCons td tNil))))) σ G RB (decide ((l.length : Int) ≤ m) && l.all fun n => Vberan.inr n a b) :=
  ev_call4 h1 h2 h3 h4 fun x y z u G1 H1 Q _ s rx ry rz ru k => ⟨G1, l, m, a, b, x, y, z, u, s, rfl, rx, ry, rz, ru, k⟩
theorem ev_rise {l : List Int} (h : Ev ta σ G (RL RI) l) : Ev (tCall sp_is_rising [] C8.E0 (tCons ta tNil)) σ G RB (Vberan.rising l) := ev_call1 h fun x G1 H1 Q _ s rx k => ⟨G1, l, x, s, rfl, rx, k⟩
theorem ev_deedn {d : Int} (h : Ev ta σ G RI d) : Ev (tCall sp_is_deed_number [] C8.E0 (tCons ta tNil)) σ G RB (Vberan.isDeed d) := ev_call1 h fun x G1 H1 Q _ s rx k => ⟨G1, d, x, s, rfl, rx, k⟩
theorem ev_told3 {n u g : List Int} (h1 : Ev ta σ G (RL RI) n) (h2 : Ev tb σ G (RL RI) u) (h3 : Ev tc σ G (RL RI) g) : Ev (tCall sp_is_deed_as_told [] C8.E0 (tCons ta (tCons tb (tCons tc tNil)))) σ G RB (told3 n u g) :=
  ev_call3 h1 h2 h3 fun x y z G1 H1 Q _ s rx ry rz k => ⟨G1, n, u, g, x, y, z, s, rfl, rx, ry, rz, k⟩
theorem et_isNone {s : Vberan.State} (h : Ev te σ G (RHs mg) s) : EvT (tTest (tOp rIsN te (tC .non))) σ G s.house.isNone := fun G1 H1 g sm _ q => h G1 H1 g sm _ fun v G2 H2 w r => ⟨rfl, _, rfl, by
  have e : decide (v = V.non) = s.house.isNone := by
    unfold RHs at r
    cases hx : s.house with
    | none => rw [hx] at r; exact decide_eq_true r
    | some x =>
      rw [hx] at r
      obtain ⟨p, _, _, _, _, e, _⟩ := r
      rw [e]
      rfl
  rw [e]
  exact q G2 H2 w⟩
theorem et_notNone {s : Vberan.State} (h : Ev te σ G (RHs mg) s) : EvT (tTest (tOp rNotN te (tC .non))) σ G s.house.isSome := fun G1 H1 g sm _ q => h G1 H1 g sm _ fun v G2 H2 w r => ⟨rfl, _, rfl, by
  have e : (!decide (v = V.non)) = s.house.isSome := by
    unfold RHs at r
    cases hx : s.house with
    | none => rw [hx] at r; rw [show v = V.non from r]; rfl
    | some x =>
      rw [hx] at r
      obtain ⟨p, _, _, _, _, e, _⟩ := r
      rw [e]
      rfl
  rw [e]
  exact q G2 H2 w⟩
theorem house_of {s : Vberan.State} {h : Vberan.House} {v : V} {H : Hp} (hs : s.house = some h) (r : RHs mg s v H) : RHouse mg (h, s.play) v H := by
  unfold RHs at r
  rw [hs] at r
  exact r
theorem some_of {s : Vberan.State} (h : s.house.isNone = false) : ∃ x, s.house = some x := by
  cases q : s.house with
  | none => rw [q] at h; cases h
  | some x => exact ⟨x, rfl⟩
end
section
variable {K : PySem.W.Frag} {mg : Mg} {vs : List V} {H : Hp} {Q : VK} {E : XK}
theorem pure_is_list_within (T : Top K mg) (h : sp_is_list_within vs H Q E) : t_is_list_within K mg { nx := fun _ H' => Q .non H', rt := Q } (start N_is_list_within vs) H := by
  obtain ⟨G, l, m, a, b, x, y, z, u, s, rfl, rx, ry, rz, ru, k⟩ := h
  refine s_ret s (ev_andV (ev_le (ev_n2i (ev_len (ev_var rfl rx))) (ev_var rfl ry)) fun _ => ev_is (ev_all (ef_map (R := RB) (fun n => Vberan.inr n a b) (src_list (ev_var rfl rx)) rx.len (fun _ => rfl) fun c v G1 _ g r => ?_).ev) (all_id _ _)) k
  exact ev_within (ev_var rfl (show RI a z G1 from rz)) (ev_var rfl r) (ev_var rfl (show RI b u G1 from ru))
theorem pure_is_rising (T : Top K mg) (h : sp_is_rising vs H Q E) : t_is_rising K mg { nx := fun _ H' => Q .non H', rt := Q } (start N_is_rising vs) H := by
  obtain ⟨G, l, x, s, rfl, rx, k⟩ := h
  refine s_ret s (ev_is (ev_all (ef_map (R := RB) (fun i => decide (l.getD (i - 1) 0 < l.getD i 0)) (src_range2 (a := 1) (ev_nat rfl) (ev_len (ev_var rfl rx)) (by decide) rx.len) (by rw [List.length_range']; exact Nat.le_trans (Nat.sub_le _ _) rx.len) (fun _ => rfl) fun i v G1 hi g r => ?_).ev) ((all_id _ _).trans (rising_range l))) k
  have h1 := List.mem_range'_1.mp hi
  have e1 : l[i - 1]? = some (l.getD (i - 1) 0) := by
    rw [List.getD_eq_getElem?_getD, List.getElem?_eq_getElem (by omega)]
    rfl
  have e2 : l[i]? = some (l.getD i 0) := by
    rw [List.getD_eq_getElem?_getD, List.getElem?_eq_getElem (by omega)]
    rfl
  refine ev_lt (ev_ix (ev_var rfl (Mono.up g rx)) (ev_i2n (n := i - 1) (ev_is (ev_sub (ev_n2i (ev_var rfl r)) (ev_int (i := 1))) ?_)) e1) (ev_ix (ev_var rfl (Mono.up g rx)) (ev_var rfl r) e2)
  omega
theorem pure_is_deed_number (T : Top K mg) (h : sp_is_deed_number vs H Q E) : t_is_deed_number K mg { nx := fun _ H' => Q .non H', rt := Q } (start N_is_deed_number vs) H := by
  obtain ⟨G, d, x, s, rfl, rx, k⟩ := h
  exact s_ret s (ev_within ev_int (ev_var rfl rx) ev_int) k
theorem pure_is_deed_as_told (T : Top K mg) (h : sp_is_deed_as_told vs H Q E) : t_is_deed_as_told K mg sp_is_list_within sp_is_rising { nx := fun _ H' => Q .non H', rt := Q } (start N_is_deed_as_told vs) H := by
  obtain ⟨G, n, u, g, x, y, z, s, rfl, rx, ry, rz, k⟩ := h
  have e : told3 n u g = ((decide ((n.length : Int) ≤ 40) && n.all fun c => Vberan.inr c (-1) 15) && ((decide ((u.length : Int) ≤ 5) && u.all fun c => Vberan.inr c 0 4) && Vberan.rising u) && (decide ((g.length : Int) ≤ 5) && g.all fun c => Vberan.inr c 0 9)) := by
    have e40 : decide ((n.length : Int) ≤ 40) = decide (n.length ≤ 40) := decide_eq_decide.mpr (by omega)
    have e5 : decide ((u.length : Int) ≤ 5) = decide (u.length ≤ 5) := decide_eq_decide.mpr (by omega)
    have e5' : decide ((g.length : Int) ≤ 5) = decide (g.length ≤ 5) := decide_eq_decide.mpr (by omega)
    rw [e40, e5, e5']
    unfold told3
    simp only [Bool.and_assoc]
  rw [e] at k
  refine q_when s (et_not (et_B (ev_lw (ev_var rfl rx) ev_int (ev_neg ev_int) ev_int))) (fun hb G2 H2 w => ?_) (fun hb G2 H2 w => ?_)
  · refine s_ret w.gh (ev_is ev_bl ?_) (k.go w)
    rw [Bool.not_eq_true'] at hb
    rw [hb, Bool.false_and, Bool.false_and]
  · rw [Bool.not_eq_false'] at hb
    have ry2 := Mono.up w.gg ry
    refine q_when w.gh (et_or (et_not (et_B (ev_lw (ev_var rfl ry2) ev_int ev_int ev_int))) fun _ => et_not (et_B (ev_rise (ev_var rfl ry2)))) (fun hc G3 H3 w3 => ?_) (fun hc G3 H3 w3 => ?_)
    · refine s_ret w3.gh (ev_is ev_bl ?_) (k.go (w.trans w3))
      rw [← Bool.not_and, Bool.not_eq_true'] at hc
      rw [hb, hc]
      rfl
    · rw [← Bool.not_and, Bool.not_eq_false'] at hc
      refine s_ret w3.gh (ev_is (ev_lw (ev_var rfl (Mono.up (w.gg.trans w3.gg) rz)) ev_int ev_int ev_int) ?_) (k.go (w.trans w3))
      rw [hb, hc]
      rfl
def sp_refuse_house (mg : Mg) : Sp := spRef mg (fun i => ∃ l, i = [.row l]) fun s i => match i with | [.row l] => gHouse s l | _ => []
def sp_refuse_deed (mg : Mg) : Sp := spRef mg (fun i => ∃ n u g, i = [.row n, .row u, .row g]) fun s i => match i with | [.row n, .row u, .row g] => gDeed s n u g | _ => []
def sp_refuse_act (mg : Mg) : Sp := spRef mg (fun i => ∃ d k, i = [.num d, .num k]) fun s i => match i with | [.num d, .num k] => gAct s d k | _ => []
def sp_refuse_bare (mg : Mg) : Sp := spRef mg (fun _ => True) fun s _ => gBare s
def sp_refuse_accepts (mg : Mg) : Sp := spRef mg (fun i => ∃ l, i = [.row l]) fun s i => match i with | [.row l] => gAccepts s l | _ => []
def sp_refuse_sure (mg : Mg) : Sp := spRef mg (fun i => ∃ d l, i = [.num d, .row l]) fun s i => match i with | [.num d, .row l] => gSure s d l | _ => []
theorem pure_refuse_house (T : Top K mg) (h : sp_refuse_house mg vs H Q E) : t_refuse_house K mg sp_is_list_within { nx := fun _ H' => Q .non H', rt := Q } (start N_refuse_house vs) H := by
  obtain ⟨G, s, i, x, y, sm, rfl, rx, ry, ⟨l, rfl⟩, wf, k⟩ := h
  have k : Ret RI (refI (gHouse s l)) G H Q := k
  have e5 : decide ((l.length : Int) ≤ 5) = decide (l.length ≤ 5) := decide_eq_decide.mpr (by omega)
  refine q_when sm (et_not (et_B (ev_lw (ev_row_of (ev_arg (n := 0) (ev_var rfl ry) rfl rfl)) ev_int ev_int ev_int))) (fun hb G2 H2 w => ?_) (fun hb G2 H2 w => ?_)
  · rw [e5] at hb
    exact s_ret w.gh (ev_is ev_int (refI_t hb).symm) (k.go w)
  · rw [e5] at hb
    unfold gHouse at k
    rw [refI_f hb] at k
    refine q_when w.gh (et_notNone (ev_var rfl (Mono.up w.gg rx))) (fun hc G3 H3 w3 => ?_) (fun hc G3 H3 w3 => ?_)
    · exact s_ret w3.gh (ev_is ev_int (refI_t hc).symm) (k.go (w.trans w3))
    · rw [refI_f hc] at k
      exact s_ret w3.gh ev_int (k.go (w.trans w3))
theorem pure_refuse_bare (T : Top K mg) (h : sp_refuse_bare mg vs H Q E) : t_refuse_bare K mg { nx := fun _ H' => Q .non H', rt := Q } (start N_refuse_bare vs) H := by
  obtain ⟨G, s, i, x, y, sm, rfl, rx, ry, _, wf, k⟩ := h
  have k : Ret RI (refI (gBare s)) G H Q := k
  refine q_when sm (et_isNone (ev_var rfl rx)) (fun hc G3 H3 w3 => ?_) (fun hc G3 H3 w3 => ?_)
  · exact s_ret w3.gh (ev_is ev_int (refI_t hc).symm) (k.go w3)
  · unfold gBare Vberan.none_ at k
    rw [refI_f hc] at k
    exact s_ret w3.gh ev_int (k.go w3)
theorem pure_refuse_accepts (T : Top K mg) (h : sp_refuse_accepts mg vs H Q E) : t_refuse_accepts K mg sp_is_list_within (sp_refuse_bare mg) { nx := fun _ H' => Q .non H', rt := Q } (start N_refuse_accepts vs) H := by
  obtain ⟨G, s, i, x, y, sm, rfl, rx, ry, ⟨l, rfl⟩, wf, k⟩ := h
  have k : Ret RI (refI (gAccepts s l)) G H Q := k
  have e5 : decide ((l.length : Int) ≤ 16) = decide (l.length ≤ 16) := decide_eq_decide.mpr (by omega)
  refine q_when sm (et_not (et_B (ev_lw (ev_row_of (ev_arg (n := 0) (ev_var rfl ry) rfl rfl)) ev_int ev_int ev_int))) (fun hb G2 H2 w => ?_) (fun hb G2 H2 w => ?_)
  · rw [e5] at hb
    exact s_ret w.gh (ev_is ev_int (refI_t hb).symm) (k.go w)
  · rw [e5] at hb
    unfold gAccepts at k
    rw [refI_f hb] at k
    refine s_ret w.gh (ev_call2 (W := RI) (c := refI (gBare s)) (ev_var rfl (Mono.up w.gg rx)) (ev_var rfl (Mono.up w.gg ry)) fun x y G1 H1 Q _ s1 rx ry k => ⟨G1, s, _, x, y, s1, rfl, rx, ry, trivial, wf, k⟩) (k.go w)
theorem pure_refuse_act (T : Top K mg) (h : sp_refuse_act mg vs H Q E) : t_refuse_act K mg sp_is_deed_number (sp_kinds_for mg) { nx := fun _ H' => Q .non H', rt := Q } (start N_refuse_act vs) H := by
  obtain ⟨G, s, i, x, y, sm, rfl, rx, ry, ⟨d, kd, rfl⟩, wf, k⟩ := h
  have k : Ret RI (refI (gAct s d kd)) G H Q := k
  refine q_asg sm (ev_num_of (ev_arg (n := 0) (ev_var rfl ry) rfl rfl)) fun v G2 H2 w rv => ?_
  refine q_asg w.gh (ev_num_of (ev_arg (n := 1) (ev_var rfl (Mono.up w.gg ry)) rfl rfl)) fun u G3 H3 w3 ru => ?_
  have rv3 : RI d v G3 := rv
  refine q_when w3.gh (et_or (et_not (et_B (ev_deedn (ev_var rfl rv3)))) fun _ => et_not (et_test (ev_within (ev_neg ev_int) (ev_var rfl ru) ev_int))) (fun hb G4 H4 w4 => ?_) (fun hb G4 H4 w4 => ?_)
  · rw [← Bool.not_and] at hb
    exact s_ret w4.gh (ev_is ev_int (refI_t hb).symm) (k.go ((w.trans w3).trans w4))
  · rw [← Bool.not_and] at hb
    unfold gAct at k
    rw [refI_f (g := !(Vberan.isDeed d && Vberan.inr kd (-1) 4)) hb] at k
    have hb2 := (Bool.and_eq_true _ _).mp ((Bool.not_eq_false' _).mp hb) |> fun z => z
    obtain ⟨hd, hk⟩ := hb2
    have hd0 : 0 ≤ d := by
      unfold Vberan.isDeed Vberan.inr at hd
      rw [Bool.and_eq_true, decide_eq_true_eq, decide_eq_true_eq] at hd
      exact hd.1
    have hk0 : -1 ≤ kd := by
      have : (decide (-1 ≤ kd) && decide (kd ≤ 4)) = true := hk
      rw [Bool.and_eq_true, decide_eq_true_eq] at this
      exact this.1
    have rx4 := Mono.up ((w.gg.trans w3.gg).trans w4.gg) rx
    refine q_when w4.gh (et_isNone (ev_var rfl rx4)) (fun hc G5 H5 w5 => ?_) (fun hc G5 H5 w5 => ?_)
    · exact s_ret w5.gh (ev_is ev_int (refI_t hc).symm) (k.go (((w.trans w3).trans w4).trans w5))
    · rw [show Vberan.none_ s = (-2, s.house.isNone) from rfl, refI_f hc] at k
      obtain ⟨h, hs⟩ := some_of hc
      obtain ⟨wh, wp⟩ := wf h hs
      have rx5 := house_of hs (Mono.up w5.gg rx4)
      have ec : decide ((h.deeds.length : Int) ≤ d) = (Vberan.noDeed s d).2 := by
        unfold Vberan.noDeed
        rw [theHouse_of hs]
      refine q_when w5.gh (et_test (ev_ge (ev_var rfl (show RI d v G5 from rv)) (ev_n2i (ev_len (ev_deeds T (ev_var rfl rx5)))))) (fun hg G6 H6 w6 => ?_) (fun hg G6 H6 w6 => ?_)
      · exact s_ret w6.gh (ev_is ev_int (refI_t (ec.symm.trans hg)).symm) (k.go ((((w.trans w3).trans w4).trans w5).trans w6))
      · rw [show Vberan.noDeed s d = (-3, (Vberan.noDeed s d).2) from rfl, refI_f (ec.symm.trans hg)] at k
        have hg2 : ¬ (h.deeds.length : Int) ≤ d := of_decide_eq_false hg
        have rx6 := Mono.up w6.gg rx5
        have rd : RN d.toNat v G6 := by
          show v = V.int ((d.toNat : Nat) : Int)
          rw [Int.toNat_of_nonneg hd0]
          exact rv
        have hdl : d.toNat < h.deeds.length := by omega
        have ef := fits_iff hs wh hdl hk0
        refine q_when w6.gh (et_test (ev_niI (ev_var rfl (show RI kd u G6 from ru)) (ev_kinds (ev_deeds T (ev_var rfl rx6)) (ev_play T (ev_var rfl rx6)) (ev_var rfl rd) hdl fun e he => ⟨fun u hu => by rw [wp.tl]; exact wh.ul e he u hu, by rw [wp.tl]; exact wh.gl e he⟩))) (fun hj G7 H7 w7 => ?_) (fun hj G7 H7 w7 => ?_)
        · exact s_ret w7.gh (ev_is ev_int (refI_t (ef.trans hj)).symm) (k.go (((((w.trans w3).trans w4).trans w5).trans w6).trans w7))
        · rw [refI_f (ef.trans hj)] at k
          exact s_ret w7.gh ev_int (k.go (((((w.trans w3).trans w4).trans w5).trans w6).trans w7))
end
end DH
namespace DH
open PySem PySem.Spec PyProof.Rows L2
section
variable {K : PySem.W.Frag} {mg : Mg} {vs : List V} {H : Hp} {Q : VK} {E : XK}
theorem nat_len_ge {a b : Nat} : decide ((a : Int) = (b : Int)) = decide (a = b) := decide_eq_decide.mpr (by omega)
theorem pure_refuse_deed (T : Top K mg) (h : sp_refuse_deed mg vs H Q E) : t_refuse_deed K mg sp_is_deed_as_told { nx := fun _ H' => Q .non H', rt := Q } (start N_refuse_deed vs) H := by
  obtain ⟨G, s, i, x, y, sm, rfl, rx, ry, ⟨n, u, g, rfl⟩, wf, k⟩ := h
  have k : Ret RI (refI (gDeed s n u g)) G H Q := k
  refine q_asg sm (ev_row_of (ev_arg (n := 1) (ev_var rfl ry) rfl rfl)) fun v1 G1 H1 w1 r1 => ?_
  refine q_asg w1.gh (ev_row_of (ev_arg (n := 2) (ev_var rfl (Mono.up w1.gg ry)) rfl rfl)) fun v2 G2 H2 w2 r2 => ?_
  have w := w1.trans w2
  have ry2 := Mono.up w.gg ry
  have r12 := Mono.up w2.gg r1
  refine q_when w2.gh (et_not (et_B (ev_told3 (ev_row_of (ev_arg (n := 0) (ev_var rfl ry2) rfl rfl)) (ev_var rfl r12) (ev_var rfl r2)))) (fun hb G3 H3 w3 => ?_) (fun hb G3 H3 w3 => ?_)
  · exact s_ret w3.gh (ev_is ev_int (refI_t hb).symm) (k.go (w.trans w3))
  unfold gDeed at k
  rw [refI_f hb] at k
  have rx3 := Mono.up (w.gg.trans w3.gg) rx
  refine q_when w3.gh (et_isNone (ev_var rfl rx3)) (fun hc G4 H4 w4 => ?_) (fun hc G4 H4 w4 => ?_)
  · exact s_ret w4.gh (ev_is ev_int (refI_t hc).symm) (k.go ((w.trans w3).trans w4))
  rw [show Vberan.none_ s = (-2, s.house.isNone) from rfl, refI_f hc] at k
  obtain ⟨h, hs⟩ := some_of hc
  obtain ⟨wh, wp⟩ := wf h hs
  rw [theHouse_of hs] at k
  have rx4 := house_of hs (Mono.up w4.gg rx3)
  refine q_asg w4.gh (ev_is (ev_len (ev_first T (ev_var rfl rx4))) (a' := h.kinds) wh.fl) fun v5 G5 H5 w5 r5 => ?_
  have w05 := ((w.trans w3).trans w4).trans w5
  have r15 := Mono.up ((w3.gg.trans w4.gg).trans w5.gg) r12
  have rx5 := Mono.up w5.gg rx4
  refine q_when w5.gh (et_is (et_B (ev_any (ef_map (R := RB) (fun k => decide ((h.kinds : Int) ≤ k)) (src_list (ev_var rfl r15)) r15.len (fun _ => rfl) fun a z G6 _ g6 r6 => ev_ge (ev_var rfl r6) (ev_n2i (ev_var rfl (show RN h.kinds v5 G6 from r5)))).ev)) (any_id _ _)) (fun hd G6 H6 w6 => ?_) (fun hd G6 H6 w6 => ?_)
  · exact s_ret w6.gh (ev_is ev_int (refI_t hd).symm) (k.go (w05.trans w6))
  rw [refI_f hd] at k
  have rx6 := Mono.up w6.gg rx5
  have e16 : decide ((h.deeds.length : Int) = 16) = decide (Vberan.DEEDS ≤ h.deeds.length) := by
    have := wh.n16
    unfold Vberan.DEEDS
    exact decide_eq_decide.mpr (by omega)
  refine q_when w6.gh (et_is (et_test (ev_eq (ev_n2i (ev_len (ev_deeds T (ev_var rfl rx6)))) ev_int)) e16) (fun he G7 H7 w7 => ?_) (fun he G7 H7 w7 => ?_)
  · exact s_ret w7.gh (ev_is ev_int (refI_t he).symm) (k.go ((w05.trans w6).trans w7))
  rw [refI_f he] at k
  have r27 := Mono.up ((((w3.gg.trans w4.gg).trans w5.gg).trans w6.gg).trans w7.gg) r2
  have eg : decide ((g.length : Int) ≠ (h.kinds : Int)) = decide (g.length ≠ h.kinds) := decide_eq_decide.mpr (by omega)
  refine q_when w7.gh (et_is (et_test (ev_ne (ev_n2i (ev_len (ev_var rfl r27))) (ev_n2i (ev_var rfl (show RN h.kinds v5 G7 from r5))))) eg) (fun hf G8 H8 w8 => ?_) (fun hf G8 H8 w8 => ?_)
  · exact s_ret w8.gh (ev_is ev_int (refI_t hf).symm) (k.go (((w05.trans w6).trans w7).trans w8))
  rw [refI_f hf] at k
  have rx8 := Mono.up (w7.gg.trans w8.gg) rx6
  have ep : decide ((0 : Int) < (s.play.done.length : Int)) = !s.play.done.isEmpty := by
    cases s.play.done with
    | nil => rfl
    | cons a b => exact decide_eq_true (by show (0 : Int) < ((b.length + 1 : Nat) : Int); omega)
  refine q_when w8.gh (et_is (et_test (ev_gt (ev_n2i (ev_len (ev_done T (ev_play T (ev_var rfl rx8))))) ev_int)) ep) (fun hg G9 H9 w9 => ?_) (fun hg G9 H9 w9 => ?_)
  · exact s_ret w9.gh (ev_is ev_int (refI_t hg).symm) (k.go ((((w05.trans w6).trans w7).trans w8).trans w9))
  · rw [refI_f hg] at k
    exact s_ret w9.gh ev_int (k.go ((((w05.trans w6).trans w7).trans w8).trans w9))
theorem pure_refuse_sure (T : Top K mg) (h : sp_refuse_sure mg vs H Q E) : t_refuse_sure K mg sp_is_deed_number sp_is_list_within sp_is_rising { nx := fun _ H' => Q .non H', rt := Q } (start N_refuse_sure vs) H := by
  obtain ⟨G, s, i, x, y, sm, rfl, rx, ry, ⟨d, l, rfl⟩, wf, k⟩ := h
  have k : Ret RI (refI (gSure s d l)) G H Q := k
  refine q_asg sm (ev_num_of (ev_arg (n := 0) (ev_var rfl ry) rfl rfl)) fun v1 G1 H1 w1 r1 => ?_
  refine q_asg w1.gh (ev_row_of (ev_arg (n := 1) (ev_var rfl (Mono.up w1.gg ry)) rfl rfl)) fun v2 G2 H2 w2 r2 => ?_
  have w := w1.trans w2
  have rd : ∀ G', RI d v1 G' := fun _ => r1
  refine q_when w2.gh (et_not (et_B (ev_deedn (ev_var rfl (rd G2))))) (fun hb G3 H3 w3 => ?_) (fun hb G3 H3 w3 => ?_)
  · rw [Bool.not_eq_true'] at hb
    exact s_ret w3.gh (ev_is ev_int (refI_t (by rw [hb]; rfl)).symm) (k.go (w.trans w3))
  rw [Bool.not_eq_false'] at hb
  have r23 := Mono.up w3.gg r2
  have e16 : ((decide ((l.length : Int) ≤ 16) && l.all fun n => Vberan.inr n 0 15) && Vberan.rising l) = (Vberan.isDeed d && (decide (l.length ≤ 16) && (l.all Vberan.isDeed && Vberan.rising l))) := by
    rw [hb, Bool.true_and, show decide ((l.length : Int) ≤ 16) = decide (l.length ≤ 16) from decide_eq_decide.mpr (by omega), Bool.and_assoc]
    rfl
  refine q_when w3.gh (et_or (et_not (et_B (ev_lw (ev_var rfl r23) ev_int ev_int ev_int))) fun _ => et_not (et_B (ev_rise (ev_var rfl r23)))) (fun hc G4 H4 w4 => ?_) (fun hc G4 H4 w4 => ?_)
  · rw [← Bool.not_and, e16] at hc
    exact s_ret w4.gh (ev_is ev_int (refI_t hc).symm) (k.go ((w.trans w3).trans w4))
  rw [← Bool.not_and, e16] at hc
  unfold gSure at k
  rw [refI_f hc] at k
  have w04 := (w.trans w3).trans w4
  have rx4 := Mono.up w04.gg rx
  refine q_when w4.gh (et_isNone (ev_var rfl rx4)) (fun hd G5 H5 w5 => ?_) (fun hd G5 H5 w5 => ?_)
  · exact s_ret w5.gh (ev_is ev_int (refI_t hd).symm) (k.go (w04.trans w5))
  rw [show Vberan.none_ s = (-2, s.house.isNone) from rfl, refI_f hd] at k
  obtain ⟨h, hs⟩ := some_of hd
  have rx5 := house_of hs (Mono.up w5.gg rx4)
  have r25 := Mono.up (w4.gg.trans w5.gg) r23
  have ea : ((d :: l).any fun e => decide ((h.deeds.length : Int) ≤ e)) = ((Vberan.noDeed s d).2 || l.any fun e => (Vberan.noDeed s e).2) := by
    unfold Vberan.noDeed
    rw [theHouse_of hs]
    rfl
  have hz : 1 + l.length ≤ LIM := by
    rw [Bool.not_eq_false', Bool.and_eq_true, Bool.and_eq_true] at hc
    have := of_decide_eq_true hc.2.1
    show _ ≤ 40000
    omega
  refine q_when w5.gh (et_is (et_B (ev_any (ef_map (R := RB) (fun e => decide ((h.deeds.length : Int) ≤ e)) (src_list (ef_cat (l := [d]) (ef_one (ev_var rfl (rd G5))).ev (ev_var rfl r25) hz).ev) (by rw [List.length_append]; exact hz) (fun _ => rfl) fun a z G6 _ g6 r6 => ev_ge (ev_var rfl r6) (ev_n2i (ev_len (ev_deeds T (ev_var rfl (Mono.up g6 rx5)))))).ev)) ((any_id _ _).trans ea)) (fun he G6 H6 w6 => ?_) (fun he G6 H6 w6 => ?_)
  · exact s_ret w6.gh (ev_is ev_int (refI_t he).symm) (k.go ((w04.trans w5).trans w6))
  · rw [refI_f he] at k
    exact s_ret w6.gh ev_int (k.go ((w04.trans w5).trans w6))
def gBound (s : Vberan.State) (l : List Int) : List (Int × Bool) := [(-1, !(decide (l.length ≤ 5) && (l.all (fun k => Vberan.inr k 0 4) && Vberan.rising l))), Vberan.none_ s, (-3, l.any fun k => decide (((Vberan.theHouse s).kinds : Int) ≤ k))]
def sp_refuse_bound (mg : Mg) : Sp := spRef mg (fun i => ∃ l, i = [.row l]) fun s i => match i with | [.row l] => gBound s l | _ => []
def sp_refuse_deed_number (mg : Mg) : Sp := spRef mg (fun i => ∃ d, i = [.num d]) fun s i => match i with | [.num d] => gDeedNum s d | _ => []
theorem pure_refuse_bound (T : Top K mg) (h : sp_refuse_bound mg vs H Q E) : t_refuse_bound K mg sp_is_list_within sp_is_rising { nx := fun _ H' => Q .non H', rt := Q } (start N_refuse_bound vs) H := by
  obtain ⟨G, s, i, x, y, sm, rfl, rx, ry, ⟨l, rfl⟩, wf, k⟩ := h
  have k : Ret RI (refI (gBound s l)) G H Q := k
  refine q_asg sm (ev_row_of (ev_arg (n := 0) (ev_var rfl ry) rfl rfl)) fun v2 G2 H2 w r2 => ?_
  have e5 : ((decide ((l.length : Int) ≤ 5) && l.all fun n => Vberan.inr n 0 4) && Vberan.rising l) = (decide (l.length ≤ 5) && (l.all (fun k => Vberan.inr k 0 4) && Vberan.rising l)) := by
    rw [show decide ((l.length : Int) ≤ 5) = decide (l.length ≤ 5) from decide_eq_decide.mpr (by omega), Bool.and_assoc]
  refine q_when w.gh (et_or (et_not (et_B (ev_lw (ev_var rfl r2) ev_int ev_int ev_int))) fun _ => et_not (et_B (ev_rise (ev_var rfl r2)))) (fun hc G4 H4 w4 => ?_) (fun hc G4 H4 w4 => ?_)
  · rw [← Bool.not_and, e5] at hc
    exact s_ret w4.gh (ev_is ev_int (refI_t hc).symm) (k.go (w.trans w4))
  rw [← Bool.not_and, e5] at hc
  unfold gBound at k
  rw [refI_f hc] at k
  have w04 := w.trans w4
  have rx4 := Mono.up w04.gg rx
  refine q_when w4.gh (et_isNone (ev_var rfl rx4)) (fun hd G5 H5 w5 => ?_) (fun hd G5 H5 w5 => ?_)
  · exact s_ret w5.gh (ev_is ev_int (refI_t hd).symm) (k.go (w04.trans w5))
  rw [show Vberan.none_ s = (-2, s.house.isNone) from rfl, refI_f hd] at k
  obtain ⟨h, hs⟩ := some_of hd
  have rx5 := house_of hs (Mono.up w5.gg rx4)
  have r25 := Mono.up (w4.gg.trans w5.gg) r2
  have ea : (l.any fun e => decide ((h.first.length : Int) ≤ e)) = l.any fun k => decide (((Vberan.theHouse s).kinds : Int) ≤ k) := by
    rw [theHouse_of hs, (wf h hs).1.fl]
  refine q_when w5.gh (et_is (et_B (ev_any (ef_map (R := RB) (fun e => decide ((h.first.length : Int) ≤ e)) (src_list (ev_var rfl r25)) r25.len (fun _ => rfl) fun a z G6 _ g6 r6 => ev_ge (ev_var rfl r6) (ev_n2i (ev_len (ev_first T (ev_var rfl (Mono.up g6 rx5)))))).ev)) ((any_id _ _).trans ea)) (fun he G6 H6 w6 => ?_) (fun he G6 H6 w6 => ?_)
  · exact s_ret w6.gh (ev_is ev_int (refI_t he).symm) (k.go ((w04.trans w5).trans w6))
  · rw [refI_f he] at k
    exact s_ret w6.gh ev_int (k.go ((w04.trans w5).trans w6))
theorem pure_refuse_deed_number (T : Top K mg) (h : sp_refuse_deed_number mg vs H Q E) : t_refuse_deed_number K mg sp_is_deed_number { nx := fun _ H' => Q .non H', rt := Q } (start N_refuse_deed_number vs) H := by
  obtain ⟨G, s, i, x, y, sm, rfl, rx, ry, ⟨d, rfl⟩, wf, k⟩ := h
  have k : Ret RI (refI (gDeedNum s d)) G H Q := k
  refine q_asg sm (ev_num_of (ev_arg (n := 0) (ev_var rfl ry) rfl rfl)) fun v1 G1 H1 w r1 => ?_
  have rd : ∀ G', RI d v1 G' := fun _ => r1
  refine q_when w.gh (et_not (et_B (ev_deedn (ev_var rfl (rd G1))))) (fun hb G3 H3 w3 => ?_) (fun hb G3 H3 w3 => ?_)
  · exact s_ret w3.gh (ev_is ev_int (refI_t hb).symm) (k.go (w.trans w3))
  unfold gDeedNum at k
  rw [refI_f hb] at k
  have w03 := w.trans w3
  have rx3 := Mono.up w03.gg rx
  refine q_when w3.gh (et_isNone (ev_var rfl rx3)) (fun hd G5 H5 w5 => ?_) (fun hd G5 H5 w5 => ?_)
  · exact s_ret w5.gh (ev_is ev_int (refI_t hd).symm) (k.go (w03.trans w5))
  rw [show Vberan.none_ s = (-2, s.house.isNone) from rfl, refI_f hd] at k
  obtain ⟨h, hs⟩ := some_of hd
  have rx5 := house_of hs (Mono.up w5.gg rx3)
  have ea : decide ((h.deeds.length : Int) ≤ d) = (Vberan.noDeed s d).2 := by
    unfold Vberan.noDeed
    rw [theHouse_of hs]
  refine q_when w5.gh (et_is (et_test (ev_ge (ev_var rfl (rd G5)) (ev_n2i (ev_len (ev_deeds T (ev_var rfl rx5)))))) ea) (fun he G6 H6 w6 => ?_) (fun he G6 H6 w6 => ?_)
  · exact s_ret w6.gh (ev_is ev_int (show -3 = refI (Vberan.noDeed s d :: []) from (refI_t (r := -3) he).symm)) (k.go ((w03.trans w5).trans w6))
  · rw [show refI [Vberan.noDeed s d] = refI [] from refI_f (r := -3) he] at k
    exact s_ret w6.gh ev_int (k.go ((w03.trans w5).trans w6))
end
end DH
namespace DH
open PySem PySem.Spec PyProof.Rows L2
/-! ### a value or None -/
/-- what R stands for is never None -/
class NotNon {α : Type} (R : Rel α) : Prop where
  nn : ∀ {a : α} {v : V} {H : Hp}, R a v H → v ≠ .non
instance : NotNon RI := ⟨fun h e => by rw [show _ = _ from h] at e; cases e⟩
instance : NotNon RN := ⟨fun h e => by rw [show _ = _ from h] at e; cases e⟩
instance {α : Type} {R : Rel α} : NotNon (RL R) := ⟨fun ⟨_, _, e, _⟩ z => by rw [e] at z; cases z⟩
def RO {α : Type} (R : Rel α) : Rel (Option α) := fun o v H => match o with
  | none => v = .non
  | some a => R a v H
instance {α : Type} {R : Rel α} [Mono R] : Mono (RO R) := ⟨fun {o v H H'} e h => by
  cases o with
  | none => exact h
  | some a => exact Mono.up (R := R) e h⟩
section
variable {α β : Type} {K : PySem.W.Frag} {σ : L2.St} {G H : Hp} {te td ty ta tb : TE} {R : Rel α} {S : Rel β} {a : α} {b : β} {D : Ends} {tz : TS}
theorem ev_none : Ev (tC .non) σ G (RO R) (none : Option α) := fun G1 H1 _ s _ q => q _ G1 H1 (Grow.refl s) rfl
theorem ev_some (h : Ev te σ G R a) : Ev te σ G (RO R) (some a) := h
theorem ev_isNoneO [NotNon R] {o : Option α} (h : Ev te σ G (RO R) o) : Ev (tOp rIsN te (tC .non)) σ G RB o.isNone := fun G1 H1 g sm _ q => h G1 H1 g sm _ fun v G2 H2 w r => ⟨rfl, q _ G2 H2 w (by
  cases o with
  | none => rw [show v = .non from r]; rfl
  | some a =>
    have := NotNon.nn (R := R) r
    show V.bl (decide (v = .non)) = _
    rw [decide_eq_false this]
    rfl)⟩
theorem ev_notNoneO [NotNon R] {o : Option α} (h : Ev te σ G (RO R) o) : Ev (tOp rNotN te (tC .non)) σ G RB o.isSome := fun G1 H1 g sm _ q => h G1 H1 g sm _ fun v G2 H2 w r => ⟨rfl, q _ G2 H2 w (by
  cases o with
  | none => rw [show v = .non from r]; rfl
  | some a =>
    have := NotNon.nn (R := R) r
    show V.bl (!decide (v = .non)) = _
    rw [decide_eq_false this]
    rfl)⟩
/-! ### dicts: the entries in their order -/
def look {ι β : Type} [DecidableEq ι] (l : List (ι × β)) (i : ι) : Option β := (l.find? fun y => decide (y.1 = i)).map (·.2)
def put {ι β : Type} [DecidableEq ι] (l : List (ι × β)) (i : ι) (b : β) : List (ι × β) := if (l.any fun y => decide (y.1 = i)) = true then l.map (fun y => if y.1 = i then (y.1, b) else y) else l ++ [(i, b)]
def AllE {ι κ β : Type} (e : ι → κ) (S : Rel β) (H : Hp) : List (ι × β) → List (κ × V) → Prop
  | [], [] => True
  | y :: l, z :: r => z.1 = e y.1 ∧ S y.2 z.2 H ∧ AllE e S H l r
  | _, _ => False
theorem AllE.up {ι κ : Type} {e : ι → κ} [Mono S] {H' : Hp} (g : Same H H') : ∀ {l : List (ι × β)} {r : List (κ × V)}, AllE e S H l r → AllE e S H' l r
  | [], [], _ => trivial
  | _ :: _, _ :: _, ⟨h1, h2, h3⟩ => ⟨h1, Mono.up (R := S) g h2, AllE.up g h3⟩
  | [], _ :: _, h => h.elim
  | _ :: _, [], h => h.elim
theorem AllE.len {ι κ : Type} {e : ι → κ} : ∀ {l : List (ι × β)} {r : List (κ × V)}, AllE e S H l r → r.length = l.length
  | [], [], _ => rfl
  | _ :: _, _ :: _, ⟨_, _, h3⟩ => congrArg (· + 1) (AllE.len h3)
  | [], _ :: _, h => h.elim
  | _ :: _, [], h => h.elim
theorem AllE.look {ι κ : Type} [DecidableEq ι] [DecidableEq κ] {e : ι → κ} (inj : ∀ i j, e i = e j → i = j) (i : ι) : ∀ {l : List (ι × β)} {r : List (κ × V)}, AllE e S H l r →
    (DH.look l i = none ∧ valV r (e i) = none) ∨ ∃ b x, DH.look l i = some b ∧ valV r (e i) = some x ∧ S b x H
  | [], [], _ => .inl ⟨rfl, rfl⟩
  | y :: l, z :: r, ⟨h1, h2, h3⟩ => by
    unfold DH.look valV
    rw [List.find?_cons, List.find?_cons]
    by_cases q : y.1 = i
    · have q2 : z.1 = e i := by rw [h1, q]
      rw [decide_eq_true q, decide_eq_true q2]
      exact .inr ⟨y.2, z.2, rfl, rfl, h2⟩
    · have q2 : ¬ z.1 = e i := fun c => q (inj _ _ (h1.symm.trans c))
      rw [decide_eq_false q, decide_eq_false q2]
      exact AllE.look inj i h3
  | [], _ :: _, h => h.elim
  | _ :: _, [], h => h.elim
theorem AllE.any {ι κ : Type} [DecidableEq ι] [DecidableEq κ] {e : ι → κ} (inj : ∀ i j, e i = e j → i = j) (i : ι) : ∀ {l : List (ι × β)} {r : List (κ × V)}, AllE e S H l r → (r.any fun z => decide (z.1 = e i)) = l.any fun y => decide (y.1 = i)
  | [], [], _ => rfl
  | y :: l, z :: r, ⟨h1, _, h3⟩ => by
    rw [List.any_cons, List.any_cons, AllE.any inj i h3]
    congr 1
    exact decide_eq_decide.mpr ⟨fun c => inj _ _ (h1.symm.trans c), fun c => by rw [h1, c]⟩
  | [], _ :: _, h => h.elim
  | _ :: _, [], h => h.elim
theorem AllE.app {ι κ : Type} {e : ι → κ} {i : ι} {b : β} {x : V} (hb : S b x H) : ∀ {l : List (ι × β)} {r : List (κ × V)}, AllE e S H l r → AllE e S H (l ++ [(i, b)]) (r ++ [(e i, x)])
  | [], [], _ => ⟨rfl, hb, trivial⟩
  | _ :: _, _ :: _, ⟨h1, h2, h3⟩ => ⟨h1, h2, AllE.app hb h3⟩
  | [], _ :: _, h => h.elim
  | _ :: _, [], h => h.elim
theorem AllE.map {ι κ : Type} [DecidableEq ι] [DecidableEq κ] {e : ι → κ} (inj : ∀ i j, e i = e j → i = j) {i : ι} {b : β} {x : V} (hb : S b x H) : ∀ {l : List (ι × β)} {r : List (κ × V)}, AllE e S H l r →
    AllE e S H (l.map fun y => if y.1 = i then (y.1, b) else y) (r.map fun z => if z.1 = e i then (z.1, x) else z)
  | [], [], _ => trivial
  | y :: l, z :: r, ⟨h1, h2, h3⟩ => by
    have ih := AllE.map (i := i) inj hb h3
    rw [List.map_cons, List.map_cons]
    by_cases q : y.1 = i
    · rw [if_pos q, if_pos (show z.1 = e i by rw [h1, q])]
      exact ⟨h1, hb, ih⟩
    · rw [if_neg q, if_neg (fun c : z.1 = e i => q (inj _ _ (h1.symm.trans c)))]
      exact ⟨h1, h2, ih⟩
  | [], _ :: _, h => h.elim
  | _ :: _, [], h => h.elim
theorem AllE.put {ι κ : Type} [DecidableEq ι] [DecidableEq κ] {e : ι → κ} (inj : ∀ i j, e i = e j → i = j) {i : ι} {b : β} {x : V} (hb : S b x H) {l : List (ι × β)} {r : List (κ × V)} (h : AllE e S H l r) : AllE e S H (DH.put l i b) (putK r (e i) x) := by
  have := AllE.any inj i h
  unfold DH.put putK
  by_cases q : (l.any fun y => decide (y.1 = i)) = true
  · rw [if_pos q, if_pos (this.trans q)]
    exact AllE.map (i := i) inj hb h
  · rw [if_neg q, if_neg (fun c => q (this.symm.trans c))]
    exact AllE.app hb h
/-- keys that are numbers -/
abbrev kI : Int → Key := Sum.inl
/-- keys that are tuples of numbers -/
def kT (t : List Int) : List Key := t.map Sum.inl
theorem kI_inj : ∀ i j, kI i = kI j → i = j := fun _ _ e => Sum.inl.inj e
theorem kT_inj : ∀ i j, kT i = kT j → i = j := fun i j e => (List.map_inj_right (fun _ _ h => Sum.inl.inj h)).mp e
def RDI {β : Type} (S : Rel β) : Rel (List (Int × β)) := fun l v H => ∃ p kvs, v = .ref p ∧ H p = some (.dK kvs) ∧ kvs.length ≤ LIM ∧ AllE kI S H l kvs
def RDT {β : Type} (S : Rel β) : Rel (List (List Int × β)) := fun l v H => ∃ p kvs, v = .ref p ∧ H p = some (.dT kvs) ∧ kvs.length ≤ LIM ∧ AllE kT S H l kvs
/-- a tuple of numbers -/
def RTI : Rel (List Int) := fun t v H => ∃ p, v = .ref p ∧ H p = some (.tup (t.map V.int))
instance {β : Type} {S : Rel β} [Mono S] : Mono (RDI S) := ⟨fun e ⟨p, k, h1, h2, h3, h4⟩ => ⟨p, k, h1, e _ _ h2, h3, h4.up e⟩⟩
instance {β : Type} {S : Rel β} [Mono S] : Mono (RDT S) := ⟨fun e ⟨p, k, h1, h2, h3, h4⟩ => ⟨p, k, h1, e _ _ h2, h3, h4.up e⟩⟩
instance : Mono RTI := ⟨fun e ⟨p, h1, h2⟩ => ⟨p, h1, e _ _ h2⟩⟩
theorem kT_vals (t : List Int) : (kT t).map kV = t.map V.int := by
  unfold kT
  rw [List.map_map]
  rfl
theorem ev_dgetI [Mono S] {l : List (Int × β)} {i : Int} (h1 : Ev td σ G (RDI S) l) (h2 : Ev ty σ G RI i) (e : look l i = some b) : Ev (tDGet td ty) σ G S b :=
  fun G1 H1 g s _ q => h1 G1 H1 g s _ fun x G2 H2 w r => h2 G2 H2 (g.trans w.gg) w.gh _ fun y G3 H3 w2 ry => by
    obtain ⟨p, kvs, rfl, hp, _, ha⟩ := Mono.up (R := RDI S) w2.gg r
    rcases ha.look kI_inj i with ⟨c, _⟩ | ⟨b2, z, c, c2, c3⟩
    · rw [e] at c; cases c
    · rw [e] at c
      cases (Option.some.inj c)
      exact ⟨p, z, rfl, .inl ⟨kvs, kI i, .inl (w2.gh _ _ hp), ry, c2.symm⟩, q z G3 H3 (w.trans w2) c3⟩
theorem ev_dgetT [Mono S] {l : List (List Int × β)} {i : List Int} (h1 : Ev td σ G (RDT S) l) (h2 : Ev ty σ G RTI i) (e : look l i = some b) : Ev (tDGet td ty) σ G S b :=
  fun G1 H1 g s _ q => h1 G1 H1 g s _ fun x G2 H2 w r => h2 G2 H2 (g.trans w.gg) w.gh _ fun y G3 H3 w2 ⟨c0, ey, hc0⟩ => by
    obtain ⟨p, kvs, rfl, hp, _, ha⟩ := Mono.up (R := RDT S) w2.gg r
    rcases ha.look kT_inj i with ⟨c, _⟩ | ⟨b2, z, c, c2, c3⟩
    · rw [e] at c; cases c
    · rw [e] at c
      cases (Option.some.inj c)
      exact ⟨p, z, rfl, .inr ⟨kvs, kT i, c0, .inl (w2.gh _ _ hp), ey, by rw [kT_vals]; exact w2.gh _ _ hc0, c2.symm⟩, q z G3 H3 (w.trans w2) c3⟩
theorem AllE.is {ι κ : Type} [DecidableEq ι] [DecidableEq κ] {e : ι → κ} (inj : ∀ i j, e i = e j → i = j) (i : ι) {l : List (ι × β)} {r : List (κ × V)} (h : AllE e S H l r) : (valV r (e i)).isSome = (DH.look l i).isSome := by
  rcases h.look inj i with ⟨c1, c2⟩ | ⟨b, x, c1, c2, _⟩ <;> rw [c1, c2] <;> rfl
theorem ev_dinI {l : List (Int × β)} {i : Int} [Mono S] (h2 : Ev ty σ G RI i) (h1 : Ev td σ G (RDI S) l) : Ev (tDIn ty td) σ G RB (look l i).isSome :=
  fun G1 H1 g s _ q => h2 G1 H1 g s _ fun y G2 H2 w ry => h1 G2 H2 (g.trans w.gg) w.gh _ fun x G3 H3 w2 r => by
    obtain ⟨p, kvs, rfl, hp, _, ha⟩ := r
    exact ⟨p, _, rfl, .inl ⟨kvs, kI i, .inl (w2.gh _ _ hp), ry, rfl⟩, q _ G3 H3 (w.trans w2) (by rw [ha.is kI_inj i]; exact rfl)⟩
theorem ev_dniI {l : List (Int × β)} {i : Int} [Mono S] (h2 : Ev ty σ G RI i) (h1 : Ev td σ G (RDI S) l) : Ev (tDNotIn ty td) σ G RB (!(look l i).isSome) :=
  fun G1 H1 g s _ q => h2 G1 H1 g s _ fun y G2 H2 w ry => h1 G2 H2 (g.trans w.gg) w.gh _ fun x G3 H3 w2 r => by
    obtain ⟨p, kvs, rfl, hp, _, ha⟩ := r
    exact ⟨p, _, rfl, .inl ⟨kvs, kI i, .inl (w2.gh _ _ hp), ry, rfl⟩, q _ G3 H3 (w.trans w2) (by rw [ha.is kI_inj i]; exact rfl)⟩
theorem ev_dinT {l : List (List Int × β)} {i : List Int} [Mono S] (h2 : Ev ty σ G RTI i) (h1 : Ev td σ G (RDT S) l) : Ev (tDIn ty td) σ G RB (look l i).isSome :=
  fun G1 H1 g s _ q => h2 G1 H1 g s _ fun y G2 H2 w ry => h1 G2 H2 (g.trans w.gg) w.gh _ fun x G3 H3 w2 r => by
    obtain ⟨p, kvs, rfl, hp, _, ha⟩ := r
    obtain ⟨c0, ey, hc0⟩ := Mono.up (R := RTI) w2.gg ry
    exact ⟨p, _, rfl, .inr ⟨kvs, kT i, c0, .inl (w2.gh _ _ hp), ey, by rw [kT_vals]; exact w2.gh _ _ hc0, rfl⟩, q _ G3 H3 (w.trans w2) (by rw [ha.is kT_inj i]; exact rfl)⟩
theorem ev_dniT {l : List (List Int × β)} {i : List Int} [Mono S] (h2 : Ev ty σ G RTI i) (h1 : Ev td σ G (RDT S) l) : Ev (tDNotIn ty td) σ G RB (!(look l i).isSome) :=
  fun G1 H1 g s _ q => h2 G1 H1 g s _ fun y G2 H2 w ry => h1 G2 H2 (g.trans w.gg) w.gh _ fun x G3 H3 w2 r => by
    obtain ⟨p, kvs, rfl, hp, _, ha⟩ := r
    obtain ⟨c0, ey, hc0⟩ := Mono.up (R := RTI) w2.gg ry
    exact ⟨p, _, rfl, .inr ⟨kvs, kT i, c0, .inl (w2.gh _ _ hp), ey, by rw [kT_vals]; exact w2.gh _ _ hc0, rfl⟩, q _ G3 H3 (w.trans w2) (by rw [ha.is kT_inj i]; exact rfl)⟩
/-- d = {}, not known -/
theorem q_newD {i : Nat} (s : Same G H) (k : ∀ p H2, H p = none → G p = none → Grow G H G H2 → H2 p = some (.dK []) → tz D (σ.set i (some (.ref p))) H2) : tSeq (tAsg tDNewK (gName i)) tz D σ H :=
  fun p hp => k p _ hp (s.free hp) (Grow.hid s hp) upd_same
theorem q_newT {i : Nat} (s : Same G H) (k : ∀ p H2, H p = none → G p = none → Grow G H G H2 → H2 p = some (.dT []) → tz D (σ.set i (some (.ref p))) H2) : tSeq (tAsg tDNewT (gName i)) tz D σ H :=
  fun p hp => k p _ hp (s.free hp) (Grow.hid s hp) upd_same
/-- d[k] = e, d not known -/
theorem s_putI [Mono S] {i : Nat} {p : Addr} {kvs : List (Key × V)} {l : List (Int × β)} {j : Int} (s : Same G H) (hs : σ[i]? = some (some (.ref p))) (hp : H p = some (.dK kvs)) (n : G p = none) (ha : AllE kI S G l kvs) (hz : kvs.length < 100000)
    (h : Ev te σ G S b) (hi : Ev tb σ G RI j)
    (k : ∀ G2 H2 kv2, Grow G H G2 H2 → G2 p = none → AllE kI S G2 (put l j b) kv2 → Same G2 (upd H2 p (.dK kv2)) → D.nx σ (upd H2 p (.dK kv2))) : sDPut (tVar i) tb te D σ H :=
  h G H (Same.refl _) s _ fun v G2 H2 w r => ⟨_, hs, hi G2 H2 w.gg w.gh _ fun y G3 H3 w2 ry => ⟨p, _, rfl, .inl ⟨kvs, kI j, w2.hh _ _ (w.hh _ _ hp), ry, Nat.lt_of_lt_of_le hz (by decide), rfl⟩,
    k G3 H3 _ (w.trans w2) ((w.trans w2).out hp n) (AllE.put kI_inj (Mono.up w2.gg r) (ha.up (w.trans w2).gg)) ((w.trans w2).gh.mut ((w.trans w2).out hp n))⟩⟩
theorem s_putT [Mono S] {i : Nat} {p : Addr} {kvs : List (List Key × V)} {l : List (List Int × β)} {j : List Int} (s : Same G H) (hs : σ[i]? = some (some (.ref p))) (hp : H p = some (.dT kvs)) (n : G p = none) (ha : AllE kT S G l kvs) (hz : kvs.length < 100000)
    (h : Ev te σ G S b) (hi : Ev tb σ G RTI j)
    (k : ∀ G2 H2 kv2, Grow G H G2 H2 → G2 p = none → AllE kT S G2 (put l j b) kv2 → Same G2 (upd H2 p (.dT kv2)) → D.nx σ (upd H2 p (.dT kv2))) : sDPut (tVar i) tb te D σ H :=
  h G H (Same.refl _) s _ fun v G2 H2 w r => ⟨_, hs, hi G2 H2 w.gg w.gh _ fun y G3 H3 w2 ry => by
    obtain ⟨c0, ey, hc0⟩ := ry
    exact ⟨p, _, rfl, .inr ⟨kvs, kT j, c0, w2.hh _ _ (w.hh _ _ hp), ey, by rw [kT_vals]; exact w2.gh _ _ hc0, Nat.lt_of_lt_of_le hz (by decide), rfl⟩,
      k G3 H3 _ (w.trans w2) ((w.trans w2).out hp n) (AllE.put kT_inj (Mono.up w2.gg r) (ha.up (w.trans w2).gg)) ((w.trans w2).gh.mut ((w.trans w2).out hp n))⟩⟩
/-! what's stored, looked up -/
theorem look_put {ι : Type} [DecidableEq ι] (l : List (ι × β)) (i j : ι) (b : β) : look (put l i b) j = if j = i then some b else look l j := by
  unfold put
  split
  · rename_i hin
    unfold look
    induction l with
    | nil => cases hin
    | cons y l ih =>
      rw [List.map_cons, List.find?_cons, List.find?_cons]
      by_cases h1 : y.1 = i
      · rw [if_pos h1]
        by_cases h2 : j = i
        · rw [if_pos h2, decide_eq_true (show y.1 = j by rw [h1, h2])]
          rfl
        · rw [if_neg h2, decide_eq_false (show ¬ y.1 = j from fun c => h2 (c.symm.trans h1))]
          by_cases h3 : (l.any fun y => decide (y.1 = i)) = true
          · have := ih h3
            rw [if_neg h2] at this
            exact this
          · have e : (l.map fun y => if y.1 = i then (y.1, b) else y) = l := by
              have : (l.map fun y => if y.1 = i then (y.1, b) else y) = l.map id := List.map_congr_left fun u hu => if_neg fun c => h3 (List.any_eq_true.mpr ⟨u, hu, decide_eq_true c⟩)
              rw [this, List.map_id]
            rw [e]
      · rw [if_neg h1]
        have h3 : (l.any fun y => decide (y.1 = i)) = true := by
          rw [List.any_cons, decide_eq_false h1, Bool.false_or] at hin
          exact hin
        by_cases h2 : y.1 = j
        · rw [decide_eq_true h2, if_neg (fun c : j = i => h1 (h2.trans c))]
        · rw [decide_eq_false h2]
          exact ih h3
  · rename_i hn
    unfold look
    rw [List.find?_append]
    by_cases h2 : j = i
    · subst h2
      have : (l.find? fun y => decide (y.1 = j)) = none := List.find?_eq_none.mpr fun u hu c => hn (List.any_eq_true.mpr ⟨u, hu, c⟩)
      rw [this, if_pos rfl]
      simp
    · rw [if_neg h2]
      have : ([(i, b)].find? fun y => decide (y.1 = j)) = none := by
        rw [List.find?_cons, decide_eq_false (fun c : i = j => h2 c.symm)]
        rfl
      rw [this, Option.or_none]
/-- tuple(l) of a list of numbers -/
theorem ev_tupI {l : List Int} (h : Ev te σ G (RL RI) l) : Ev (tCB (rTupS K) (tCons te tNil)) σ G RTI l := fun G1 H1 g s _ q =>
  h G1 H1 g s _ fun v G2 H2 w ⟨p, xs, ev, hp, _, ha⟩ => by
    subst ev
    refine ⟨p, xs, rfl, .inl ⟨.of (w.gh _ _ hp), fun t ht => q _ _ _ (w.trans (Grow.new w.gh ht)) ⟨t, rfl, ?_⟩⟩⟩
    rw [all2_int.mp ha]
    exact upd_same
end
end DH
namespace DH
open PySem PySem.Spec PyProof.Rows L2
/-! ### pairs, flat -/
def sp_flat : Sp := fun vs H Q _ => ∃ G l x, Same G H ∧ vs = [x] ∧ RL (RP RN RI) l x G ∧ l.length ≤ 10000 ∧ Ret (RL RI) (l.flatMap fun x => [(x.1 : Int), x.2]) G H Q
theorem flat2_len (l : List (Nat × Int)) : (l.flatMap fun x => [(x.1 : Int), x.2]).length = 2 * l.length := by
  induction l with
  | nil => rfl
  | cons a l ih => rw [List.flatMap_cons, List.length_append, ih]; show 2 + 2 * l.length = 2 * (l.length + 1); omega
section
variable {K : PySem.W.Frag} {mg : Mg} {vs : List V} {H : Hp} {Q : VK} {E : XK}
theorem pure_flat (T : Top K mg) (h : sp_flat vs H Q E) : t_flat K mg { nx := fun _ H' => Q .non H', rt := Q } (start N_flat vs) H := by
  obtain ⟨G, l, x, s, rfl, rx, hl, k⟩ := h
  refine q_asgF s (ef_nil (R := RI)) fun p xs G2 H2 w hp g2 h2 hl2 a2 => ?_
  rw [all2_nil a2] at h2
  refine q_for w (src_list (ev_var rfl (Mono.up w.gg rx))) hit_name
    (fun i σ' G' H' => ∃ a xs, σ' = [some x, some (.ref p), a] ∧ G' p = none ∧ H' p = some (.lst xs) ∧ All2 RI G' ((l.take i).flatMap fun x => [(x.1 : Int), x.2]) xs)
    (fun G3 H3 w3 => ⟨none, [], rfl, w3.out h2 g2, w3.hh _ _ h2, trivial⟩) ?_ ?_
  · rintro i c σ1 G1 H1 hi g1 s1 ⟨a, xs, rfl, n1, h1, a1⟩ G3 H3 σ2 w3 ⟨v, ⟨q, y, z, ev, hq, r1, r2⟩, rfl⟩
    subst ev
    have hxl : xs.length ≤ 20000 := by
      rw [a1.len, flat2_len, List.length_take]
      omega
    have h3 := w3.hh _ _ h1
    have hq3 := w3.gh _ _ hq
    have e : [c].flatMap (fun x : Nat × Int => [(x.1 : Int), x.2]) = [(c.1 : Int), c.2] := rfl
    refine ⟨.ref p, rfl, Or.inl ⟨rfl, _, SqL.of h3⟩, .ref q, rfl, p, q, xs, [y, z], rfl, rfl, h3, hq3, ?_, ?_⟩
    · show xs.length + 2 ≤ sizeLine
      exact Nat.le_trans (by omega : _ ≤ 100000) (by decide)
    refine ⟨G3, w3.gg, (s1.trans w3).mutd hp (w3.out h1 n1), some (.ref q), xs ++ [y, z], rfl, w3.out h1 n1, upd_same, ?_⟩
    rw [take_more hi, List.flatMap_append, e]
    exact (a1.up w3.gg).app ⟨r1, r2, trivial⟩
  · rintro σ1 G1 H1 g1 s1 ⟨a, xs, rfl, n1, h1, a1⟩
    rw [List.take_length] at a1
    refine s_retB s1 hp rfl h1 ?_ n1 a1 k.fresh
    rw [a1.len, flat2_len]
    show _ ≤ 40000
    omega
theorem ev_flat {σ : L2.St} {G : Hp} {te : TE} {l : List (Nat × Int)} (h : Ev te σ G (RL (RP RN RI)) l) (hl : l.length ≤ 10000) : Ev (tCall sp_flat [] C8.E0 (tCons te tNil)) σ G (RL RI) (l.flatMap fun x => [(x.1 : Int), x.2]) :=
  ev_call1 h fun x G1 H1 Q _ s rx k => ⟨G1, l, x, s, rfl, rx, hl, k⟩
end
end DH
namespace DH
open PySem PySem.Spec PyProof.Rows L2
/-! ### the line as it stands: F what stands still, M the house and its list of deeds -/
def fLine (h : V) : List (Str × V) := [("house", h)]
def HsAt (mg : Mg) (F H : Hp) (M : List Addr) (s : Vberan.State) (hv : V) : Prop := match s.house with
  | none => hv = .non ∧ M = []
  | some h => ∃ a dx f d y ds, hv = .ref a ∧ M = [a, d] ∧ H a = some (.ins (adr mg "House") dx (fHouse f (.ref d) y)) ∧ F a = none ∧ H d = some (.lst ds) ∧ F d = none ∧ ds.length ≤ LIM ∧ All2 (RDeed mg) F h.deeds ds ∧ RL RN h.first f F ∧ RPlay mg s.play y F
structure StAt (mg : Mg) (F H : Hp) (L : Addr) (M : List Addr) (s : Vberan.State) : Prop where
  sm : Same F H
  fl : F L = none
  at_ : ∃ dl hv, H L = some (.ins (adr mg "Line") dl (fLine hv)) ∧ HsAt mg F H M s hv
def RLine (mg : Mg) : Rel Vberan.State := fun s v H => ∃ p dl hv, v = .ref p ∧ H p = some (.ins (adr mg "Line") dl (fLine hv)) ∧ RHs mg s hv H
instance (mg : Mg) : Mono (RLine mg) := ⟨fun e ⟨p, dl, hv, ev, hp, r⟩ => ⟨p, dl, hv, ev, e _ _ hp, Mono.up e r⟩⟩
/-- an answer: the state behind it, the numbers -/
def SpRes (mg : Mg) (F H : Hp) (L : Addr) (M : List Addr) (s : Vberan.State) (ans : List Int) (Q : VK) : Prop :=
  ∀ v F2 H2 M2, Same F F2 → (∀ b o, F2 b = some o → F b = none → H b = none) → (∀ b o, H b = some o → b ≠ L → b ∉ M → H2 b = some o) → ((∀ b ∈ M2, b ∈ M ∨ H b = none) ∧ ∀ b ∈ M, b ∈ M2) → StAt mg F2 H2 L M2 s → RL RI ans v H2 → Q v H2
def spDo (mg : Mg) (it : Vberan.State → List Item → Prop) (ns : Vberan.State → List Item → Vberan.State) (an : Vberan.State → List Item → List Int) : Sp := fun vs H Q _ => ∃ F L M s i y, vs = [.ref L, y] ∧ StAt mg F H L M s ∧ RG i y F ∧ it s i ∧ WfS s ∧ SpRes mg F H L M (ns s i) (an s i) Q
section
variable {K : PySem.W.Frag} {mg : Mg} {F H H2 : Hp} {L : Addr} {M : List Addr} {s : Vberan.State} {ans : List Int} {Q : VK} {E : XK} {vs : List V}
theorem StAt.line (h : StAt mg F H L M s) : RLine mg s (.ref L) H := by
  obtain ⟨dl, hv, hL, hs⟩ := h.at_
  refine ⟨L, dl, hv, rfl, hL, ?_⟩
  unfold HsAt at hs
  unfold RHs
  cases q : s.house with
  | none => rw [q] at hs; exact hs.1
  | some x =>
    rw [q] at hs
    obtain ⟨a, dx, f, d, y, ds, e, _, ha, _, hd, _, hl, h1, h2, h3⟩ := hs
    exact ⟨a, dx, f, .ref d, y, e, ha, Mono.up h.sm h2, ⟨d, ds, rfl, hd, hl, h1.up h.sm⟩, Mono.up h.sm h3⟩
theorem HsAt.up {hv : V} (h : HsAt mg F H M s hv) (e : Same H H2) : HsAt mg F H2 M s hv := by
  unfold HsAt at h ⊢
  cases q : s.house with
  | none => rw [q] at h; exact h
  | some x =>
    rw [q] at h
    obtain ⟨a, dx, f, d, y, ds, e1, e2, ha, fa, hd, fd, r⟩ := h
    exact ⟨a, dx, f, d, y, ds, e1, e2, e _ _ ha, fa, e _ _ hd, fd, r⟩
theorem StAt.up (h : StAt mg F H L M s) (e : Same H H2) : StAt mg F H2 L M s := by
  obtain ⟨dl, hv, hL, hs⟩ := h.at_
  exact ⟨h.sm.trans e, h.fl, dl, hv, e _ _ hL, hs.up e⟩
/-- nothing changes but that there's more -/
theorem SpRes.pure (k : SpRes mg F H L M s ans Q) (h : StAt mg F H L M s) : Ret (RL RI) ans H H Q := fun v G2 H2 w r =>
  k v F H2 M (Same.refl _) (fun b o h n => by rw [n] at h; cases h) (fun b o e _ _ => w.hh _ _ e) ⟨fun b hb => .inl hb, fun b hb => hb⟩ (h.up w.hh) (Mono.up w.gh r)
section
variable {σ : L2.St} {G : Hp} {te : TE}
theorem ev_lh (T : Top K mg) (h : Ev te σ G (RLine mg) s) : Ev (tFld K te "house") σ G (RHs mg) s :=
  ev_fld h fun v G1 _ ⟨p, dl, hv, ev, hp, r⟩ => ⟨p, _, dl, _, hv, ev, hp, T.c_Line, T.n_Line_house, lk_here, r⟩
theorem ev_hs {h : Vberan.House} (e : s.house = some h) (k : Ev te σ G (RHs mg) s) : Ev te σ G (RHouse mg) (h, s.play) := fun G1 H1 g sm Q q => k G1 H1 g sm Q fun v G2 H2 w r => q v G2 H2 w (house_of e r)
end
def sp_as_number : Sp := fun vs H Q _ => ∃ G b x, Same G H ∧ vs = [x] ∧ RB b x G ∧ Ret RI (if b = true then 1 else 0) G H Q
theorem pure_as_number (T : Top K mg) (h : sp_as_number vs H Q E) : t_as_number K mg { nx := fun _ H' => Q .non H', rt := Q } (start N_as_number vs) H := by
  obtain ⟨G, b, x, sm, rfl, rx, k⟩ := h
  refine q_when sm (et_B (ev_var rfl rx)) (fun hb G2 H2 w => ?_) (fun hb G2 H2 w => ?_)
  · subst hb
    exact s_ret w.gh ev_int (k.go w)
  · subst hb
    exact s_ret w.gh ev_int (k.go w)
theorem ev_num {σ : L2.St} {G : Hp} {te : TE} {b : Bool} (h : Ev te σ G RB b) : Ev (tCall sp_as_number [] C8.E0 (tCons te tNil)) σ G RI (if b = true then 1 else 0) := ev_call1 h fun x G1 H1 Q _ s rx k => ⟨G1, b, x, s, rfl, rx, k⟩
theorem ints_rel {l : List Nat} {v : V} {H : Hp} (h : RL RN l v H) : RL RI (Vberan.ints l) v H := by
  obtain ⟨p, xs, e, hp, hl, ha⟩ := h
  exact ⟨p, xs, e, hp, hl, all2_int.mpr (all2_nat.mp ha)⟩
theorem ev_ints {σ : L2.St} {G : Hp} {te : TE} {l : List Nat} (h : Ev te σ G (RL RN) l) : Ev te σ G (RL RI) (Vberan.ints l) := fun G1 H1 g sm Q q => h G1 H1 g sm Q fun v G2 H2 w r => q v G2 H2 w (ints_rel r)
/-! ### the calls that only tell -/
def bareIt (s : Vberan.State) (i : List Item) : Prop := i = [] ∧ ∃ h, s.house = some h
def nowL (p : Vberan.Play) : List Int := (p.done.length : Int) :: (Vberan.ints p.done ++ Vberan.ints p.things)
def sp_tell_now (mg : Mg) : Sp := spDo mg bareIt (fun s _ => s) fun s _ => nowL s.play
def sp_tell_closure (mg : Mg) : Sp := spDo mg bareIt (fun s _ => s) fun s _ => Vberan.ints (Vberan.closure (Vberan.theHouse s) s.play.done)
def sp_tell_ranks (mg : Mg) : Sp := spDo mg bareIt (fun s _ => s) fun s _ => Vberan.ints (shown (Vberan.ranks (Vberan.theHouse s)))
def sp_tell_can (mg : Mg) : Sp := spDo mg bareIt (fun s _ => s) fun s _ => (stepsI (Vberan.theHouse s).deeds s.play).flatMap fun x => [(x.1 : Int), x.2]
def sp_tell_accepts (mg : Mg) : Sp := spDo mg (fun s i => (∃ l, i = [.row l] ∧ ∀ z ∈ l, 0 ≤ z) ∧ ∃ h, s.house = some h) (fun s _ => s) fun s i => match i with | [.row l] => [if Vberan.accepts (Vberan.theHouse s) (Vberan.nats l) = true then 1 else 0] | _ => []
def sp_tell_sure (mg : Mg) : Sp := spDo mg (fun s i => (∃ d l, i = [.num d, .row l] ∧ 0 ≤ d ∧ d < (Vberan.theHouse s).deeds.length ∧ (∀ z ∈ l, 0 ≤ z ∧ z < (Vberan.theHouse s).deeds.length)) ∧ ∃ h, s.house = some h) (fun s _ => s) fun s i => match i with
  | [.num d, .row l] => [if Vberan.sure (Vberan.theHouse s) (Vberan.nats l) d.toNat = true then 1 else 0]
  | _ => []
theorem WfP.dlen {h : Vberan.House} {p : Vberan.Play} (wh : WfH h) (wp : WfP h p) : p.done.length ≤ 16 :=
  Nat.le_trans (nodup_lt _ _ (wp.ds.imp fun h => Nat.ne_of_lt h) wp.dl) wh.n16
theorem pure_tell_now (T : Top K mg) (h : sp_tell_now mg vs H Q E) : t_tell_now K mg { nx := fun _ H' => Q .non H', rt := Q } (start N_tell_now vs) H := by
  obtain ⟨F, L, M, s, i, y, rfl, st, ry, ⟨rfl, h, hs⟩, wf, k⟩ := h
  obtain ⟨wh, wp⟩ := wf h hs
  have k := k.pure st
  refine q_asg (Same.refl _) (ev_play T (ev_hs hs (ev_lh T (ev_var rfl st.line)))) fun v G2 H2 w rv => ?_
  have hd := wp.dlen wh
  have ht : s.play.things.length ≤ 5 := by rw [wp.tl]; exact wh.k5
  have e : nowL s.play = ([(s.play.done.length : Int)] ++ Vberan.ints s.play.done) ++ Vberan.ints s.play.things := by
    unfold nowL
    rw [List.append_assoc]
    rfl
  refine s_ret w.gh (ev_is (ef_cat (R := RI) (ef_cat (R := RI) (ef_one (ev_n2i (ev_len (ev_done T (ev_var rfl rv))))).ev (ev_ints (ev_done T (ev_var rfl rv))) ?_).ev (ev_ints (ev_things T (ev_var rfl rv))) ?_).ev e.symm) (k.go w)
  · unfold Vberan.ints
    rw [List.length_map]
    show 1 + s.play.done.length ≤ 40000
    omega
  · unfold Vberan.ints
    rw [List.length_append, List.length_map, List.length_map]
    show 1 + s.play.done.length + s.play.things.length ≤ 40000
    omega
theorem pure_tell_closure (T : Top K mg) (h : sp_tell_closure mg vs H Q E) : t_tell_closure K mg (sp_closure_of mg) { nx := fun _ H' => Q .non H', rt := Q } (start N_tell_closure vs) H := by
  obtain ⟨F, L, M, s, i, y, rfl, st, ry, ⟨rfl, h, hs⟩, wf, k⟩ := h
  obtain ⟨wh, wp⟩ := wf h hs
  have k : Ret (RL RI) (Vberan.ints (Vberan.closure (Vberan.theHouse s) s.play.done)) H H Q := k.pure st
  rw [theHouse_of hs] at k
  refine q_asg (Same.refl _) (ev_hs hs (ev_lh T (ev_var rfl st.line))) fun v G2 H2 w rv => ?_
  exact s_ret w.gh (ev_ints (ev_call2 (W := RL RN) (c := Vberan.closure h s.play.done) (ev_deeds T (ev_var rfl rv)) (ev_done T (ev_play T (ev_var rfl rv))) fun x y G1 H1 Q _ sm rx ry k => ⟨G1, h, s.play.done, x, y, sm, rfl, rx, ry, Nat.le_trans wh.n16 (by decide), wp.ds, wp.dl, k⟩)) (k.go w)
theorem pure_tell_ranks (T : Top K mg) (h : sp_tell_ranks mg vs H Q E) : t_tell_ranks K mg (sp_told_ranks mg) { nx := fun _ H' => Q .non H', rt := Q } (start N_tell_ranks vs) H := by
  obtain ⟨F, L, M, s, i, y, rfl, st, ry, ⟨rfl, h, hs⟩, wf, k⟩ := h
  obtain ⟨wh, wp⟩ := wf h hs
  have k : Ret (RL RI) (Vberan.ints (shown (Vberan.ranks (Vberan.theHouse s)))) H H Q := k.pure st
  rw [theHouse_of hs] at k
  exact s_ret (Same.refl _) (ev_ints (ev_call1 (W := RL RN) (c := shown (Vberan.ranks h)) (ev_hs hs (ev_lh T (ev_var rfl st.line))) fun x G1 H1 Q _ sm rx k => ⟨G1, h, s.play, x, sm, rfl, rx, wh, k⟩)) k
theorem pure_tell_accepts (T : Top K mg) (h : sp_tell_accepts mg vs H Q E) : t_tell_accepts K mg (sp_are_accepted mg) sp_as_number { nx := fun _ H' => Q .non H', rt := Q } (start N_tell_accepts vs) H := by
  obtain ⟨F, L, M, s, i, y, rfl, st, ry, ⟨⟨l, rfl, hl⟩, h, hs⟩, wf, k⟩ := h
  obtain ⟨wh, wp⟩ := wf h hs
  have k : Ret (RL RI) [if Vberan.accepts (Vberan.theHouse s) (Vberan.nats l) = true then 1 else 0] H H Q := k.pure st
  rw [theHouse_of hs] at k
  have rH : RG [.row l] y H := Mono.up st.sm ry
  refine s_ret (Same.refl _) (ef_one (ev_num (ev_call2 (W := RB) (c := Vberan.accepts h (Vberan.nats l)) (ev_hs hs (ev_lh T (ev_var rfl st.line))) (ev_row_of (ev_arg (n := 0) (ev_var rfl rH) rfl rfl)) fun x y G1 H1 Q _ sm rx ry k => ⟨G1, h, s.play, Vberan.nats l, x, y, sm, rfl, rx, nats_rel ry hl, wh, k⟩))).ev k
theorem pure_tell_sure (T : Top K mg) (h : sp_tell_sure mg vs H Q E) : t_tell_sure K mg sp_as_number (sp_is_sure mg) { nx := fun _ H' => Q .non H', rt := Q } (start N_tell_sure vs) H := by
  obtain ⟨F, L, M, s, i, y, rfl, st, ry, ⟨⟨d, l, rfl, hd0, hd1, hl⟩, h, hs⟩, wf, k⟩ := h
  obtain ⟨wh, wp⟩ := wf h hs
  have k : Ret (RL RI) [if Vberan.sure (Vberan.theHouse s) (Vberan.nats l) d.toNat = true then 1 else 0] H H Q := k.pure st
  rw [theHouse_of hs] at k hd1 hl
  have rH : RG [.num d, .row l] y H := Mono.up st.sm ry
  have rd : Ev (tOp (rIxL K) (tVar 1) (tC (.int 0))) [some (.ref L), some y] H RN d.toNat := ev_i2n (ev_is (ev_num_of (ev_arg (n := 0) (ev_var rfl rH) rfl rfl)) (Int.toNat_of_nonneg hd0).symm)
  refine s_ret (Same.refl _) (ef_one (ev_num (ev_call3 (W := RB) (c := Vberan.sure h (Vberan.nats l) d.toNat) (ev_hs hs (ev_lh T (ev_var rfl st.line))) rd (ev_row_of (ev_arg (n := 1) (ev_var rfl rH) rfl rfl)) fun x y z G1 H1 Q _ sm rx ry rz k => ⟨G1, h, s.play, d.toNat, Vberan.nats l, x, y, z, sm, rfl, rx, ry, nats_rel rz (fun z hz => (hl z hz).1), wh, by omega, fun g hg => ?_, k⟩))).ev k
  obtain ⟨z, hz, e⟩ := List.mem_map.mp hg
  have := hl z hz
  omega
theorem stepsI_len {h : Vberan.House} {p : Vberan.Play} (wh : WfH h) : (stepsI h.deeds p).length ≤ 80 := by
  have hk : ∀ d, ((kindsI h.deeds p d).map fun k => (d, k)).length ≤ 5 := fun d => by
    rw [List.length_map]
    exact kindsI_len (fun e he => wh.u5 he) d
  have := flat_len hk h.deeds.length
  have n16 := wh.n16
  unfold stepsI
  omega
theorem pure_tell_can (T : Top K mg) (h : sp_tell_can mg vs H Q E) : t_tell_can K mg (sp_all_steps mg) sp_flat { nx := fun _ H' => Q .non H', rt := Q } (start N_tell_can vs) H := by
  obtain ⟨F, L, M, s, i, y, rfl, st, ry, ⟨rfl, h, hs⟩, wf, k⟩ := h
  obtain ⟨wh, wp⟩ := wf h hs
  have k : Ret (RL RI) ((stepsI (Vberan.theHouse s).deeds s.play).flatMap fun x => [(x.1 : Int), x.2]) H H Q := k.pure st
  rw [theHouse_of hs] at k
  refine q_asg (Same.refl _) (ev_hs hs (ev_lh T (ev_var rfl st.line))) fun v G2 H2 w rv => ?_
  exact s_ret w.gh (ev_flat (ev_call2 (W := RL (RP RN RI)) (c := stepsI h.deeds s.play) (ev_deeds T (ev_var rfl rv)) (ev_play T (ev_var rfl rv)) fun x y G1 H1 Q _ sm rx ry k => ⟨G1, h.deeds, s.play, x, y, sm, rfl, rx, ry, fun e he => ⟨fun u hu => by rw [wp.tl]; exact wh.ul e he u hu, by rw [wp.tl]; exact wh.gl e he⟩, wh.n16, fun e he => wh.u5 he, k⟩) (Nat.le_trans (stepsI_len wh) (by decide))) (k.go w)
end
end DH
namespace DH
open PySem PySem.Spec PyProof.Rows L2
/-! ### the calls that change something -/
section
variable {K : PySem.W.Frag} {mg : Mg} {F H H2 : Hp} {L : Addr} {M : List Addr} {s : Vberan.State} {ans : List Int} {Q : VK} {E : XK} {vs : List V}
def sp_House_init (mg : Mg) : Sp := fun vs H Q _ => ∃ p dx f, vs = [.ref p, f] ∧ H p = some (.ins (adr mg "House") dx []) ∧ ∀ H' d y e dy, H' p = some (.ins (adr mg "House") dx (fHouse f (.ref d) (.ref y))) → H' d = some (.lst []) → MkPlay mg y dy (.ref e) f H' → H' e = some (.lst []) → d ≠ e →
  H d = none → H y = none → H e = none → (∀ b o, H b = some o → b ≠ p → H' b = some o) → Q .non H'
def sp_Deed_init (mg : Mg) : Sp := fun vs H Q _ => ∃ p dx n u g, vs = [.ref p, n, u, g] ∧ H p = some (.ins (adr mg "Deed") dx []) ∧ ∀ H', H' p = some (.ins (adr mg "Deed") dx (fDeed n u g)) → (∀ b o, H b = some o → b ≠ p → H' b = some o) → Q .non H'
def sp_Line_init (mg : Mg) : Sp := fun vs H Q _ => ∃ p dx, vs = [.ref p] ∧ H p = some (.ins (adr mg "Line") dx []) ∧ ∀ H', H' p = some (.ins (adr mg "Line") dx (fLine .non)) → (∀ b o, H b = some o → b ≠ p → H' b = some o) → Q .non H'
theorem putD (n u g : V) : putF "gives" g (putF "uses" u (putF "needs" n [])) = fDeed n u g := by
  have e1 : putF "uses" u (putF "needs" n []) = ([("needs", n), ("uses", u)] : List (Str × V)) := put_past (by decide +kernel)
  rw [e1]
  exact (put_past (by decide +kernel)).trans (congrArg _ (put_past (by decide +kernel)))
theorem putH (f d p : V) : putF "play" p (putF "deeds" d (putF "first" f [])) = fHouse f d p := by
  have e1 : putF "deeds" d (putF "first" f []) = ([("first", f), ("deeds", d)] : List (Str × V)) := put_past (by decide +kernel)
  rw [e1]
  exact (put_past (by decide +kernel)).trans (congrArg _ (put_past (by decide +kernel)))
theorem putH3 (f d y p : V) : putF "play" p (fHouse f d y) = fHouse f d p := by
  exact (put_past (by decide +kernel)).trans (congrArg _ ((put_past (by decide +kernel)).trans (congrArg _ put_here)))
theorem putL (h v : V) : putF "house" v (fLine h) = fLine v := put_here
theorem pure_Line_init (T : Top K mg) (h : sp_Line_init mg vs H Q E) : t_Line_init K mg { nx := fun _ H' => Q .non H', rt := Q } (start N_Line_init vs) H := by
  obtain ⟨p, dx, rfl, hp, k⟩ := h
  exact ⟨_, rfl, p, adr mg "Line", dx, [], rfl, hp, T.c_Line, T.n_Line_house, (by decide : 0 < 1000), k _ upd_same fun b o e hb => by
    rw [upd_ne hb]
    exact e⟩
theorem pure_Deed_init (T : Top K mg) (h : sp_Deed_init mg vs H Q E) : t_Deed_init K mg { nx := fun _ H' => Q .non H', rt := Q } (start N_Deed_init vs) H := by
  obtain ⟨p, dx, n, u, g, rfl, hp, k⟩ := h
  refine ⟨n, rfl, .ref p, rfl, p, adr mg "Deed", dx, [], rfl, hp, T.c_Deed, T.n_Deed_needs, (by decide : 0 < 1000), ?_⟩
  refine ⟨u, rfl, .ref p, rfl, p, adr mg "Deed", dx, _, rfl, upd_same, T.c_Deed, T.n_Deed_uses, (by decide : 1 < 1000), ?_⟩
  refine ⟨g, rfl, .ref p, rfl, p, adr mg "Deed", dx, _, rfl, upd_same, T.c_Deed, T.n_Deed_gives, ?_, ?_⟩
  · have e1 : putF "uses" u (putF "needs" n []) = ([("needs", n), ("uses", u)] : List (Str × V)) := put_past (by decide +kernel)
    rw [e1]
    exact (by decide : 2 < 1000)
  · refine k _ (by rw [upd_same, putD]) fun b o e hb => by
      rw [upd_ne hb, upd_ne hb, upd_ne hb]
      exact e
theorem pure_House_init (T : Top K mg) (h : sp_House_init mg vs H Q E) : t_House_init K mg (sp_Play_init mg) { nx := fun _ H' => Q .non H', rt := Q } (start N_House_init vs) H := by
  obtain ⟨p, dx, f, rfl, hp, k⟩ := h
  refine ⟨f, rfl, .ref p, rfl, p, adr mg "House", dx, [], rfl, hp, T.c_House, T.n_House_first, (by decide : 0 < 1000), ?_⟩
  refine ⟨(by decide : 0 ≤ sizeLine), fun d hd => ?_⟩
  have dp : p ≠ d := fun e => by rw [← e, upd_same] at hd; cases hd
  refine ⟨.ref p, rfl, p, adr mg "House", dx, _, rfl, (upd_ne dp).trans upd_same, T.c_House, T.n_House_deeds, (by decide : 1 < 1000), ?_⟩
  refine ⟨(by decide : 0 ≤ sizeLine), fun e he => ⟨f, rfl, fun y dy ny nd ne => ⟨y, dy, .ref e, f, rfl, upd_same, fun H5 J kp => ⟨rfl, ?_⟩⟩⟩⟩
  have ep : p ≠ e := fun z => by rw [← z, upd_same] at he; cases he
  have ed : d ≠ e := fun z => by rw [← z, upd_ne (Ne.symm dp), upd_same] at he; cases he
  have yp : p ≠ y := fun z => by rw [← z, upd_ne ep, upd_same] at ny; cases ny
  have ye : e ≠ y := fun z => by rw [← z, upd_same] at ny; cases ny
  have yd : d ≠ y := fun z => by rw [← z, upd_ne ed, upd_ne (Ne.symm dp), upd_same] at ny; cases ny
  have keep : ∀ b o, (upd (upd (upd (upd H p (.ins (adr mg "House") dx (putF "first" f []))) d (.lst [])) p (.ins (adr mg "House") dx (putF "deeds" (.ref d) (putF "first" f [])))) e (.lst [])) b = some o → H5 b = some o := fun b o q =>
    kp b o (by rw [upd_ne (ne_of_none q ny), upd_ne (ne_of_none q nd)]; exact q) (ne_of_none q ny)
  have hp5 := keep p _ (by rw [upd_ne ep, upd_same])
  refine ⟨.ref p, rfl, p, adr mg "House", dx, _, rfl, hp5, T.c_House, T.n_House_play, ?_, ?_⟩
  · have e1 : putF "deeds" (.ref d) (putF "first" f []) = ([("first", f), ("deeds", .ref d)] : List (Str × V)) := put_past (by decide +kernel)
    rw [e1]
    exact (by decide : 2 < 1000)
  · have hd0 : H d = none := by
      rw [upd_ne (Ne.symm dp)] at hd
      exact hd
    refine k _ d y e dy (by rw [upd_same, putH]) ?_ ?_ ?_ ed hd0 ?_ ?_ fun b o q hb => ?_
    · rw [upd_ne (Ne.symm dp)]
      exact keep d _ (by rw [upd_ne ed, upd_ne (Ne.symm dp), upd_same])
    · show upd H5 p _ y = _
      rw [upd_ne (Ne.symm yp)]
      exact J
    · rw [upd_ne (Ne.symm ep)]
      exact keep e _ upd_same
    · rw [upd_ne (Ne.symm ye), upd_ne (Ne.symm yp), upd_ne (Ne.symm yd), upd_ne (Ne.symm yp)] at ny
      exact ny
    · rw [upd_ne (Ne.symm ep), upd_ne (Ne.symm ed), upd_ne (Ne.symm ep)] at he
      exact he
    · rw [upd_ne hb]
      refine keep b o ?_
      rw [upd_ne (ne_of_none q (by
        rw [upd_ne (Ne.symm ep), upd_ne (Ne.symm ed), upd_ne (Ne.symm ep)] at he
        exact he)), upd_ne hb, upd_ne (ne_of_none q hd0), upd_ne hb]
      exact q
def sp_do_house (mg : Mg) : Sp := spDo mg (fun s i => (∃ l, i = [.row l] ∧ l.length ≤ 5 ∧ ∀ z ∈ l, 0 ≤ z) ∧ s.house = none) (fun s i => match i with | [.row l] => ⟨some ⟨l.length, Vberan.nats l, []⟩, ⟨[], Vberan.nats l⟩⟩ | _ => s) fun _ _ => []
theorem pure_do_house (T : Top K mg) (h : sp_do_house mg vs H Q E) : t_do_house K mg (sp_House_init mg) { nx := fun _ H' => Q .non H', rt := Q } (start N_do_house vs) H := by
  obtain ⟨F, L, M, s, i, y0, rfl, st, ry, ⟨⟨l, rfl, hl5, hl⟩, hs⟩, wf, k⟩ := h
  have k : SpRes mg F H L M ⟨some ⟨l.length, Vberan.nats l, []⟩, ⟨[], Vberan.nats l⟩⟩ [] Q := k
  have hM : M = [] := by
    obtain ⟨dl, hv, _, hh⟩ := st.at_
    unfold HsAt at hh
    rw [hs] at hh
    exact hh.2
  subst hM
  obtain ⟨dl, hv, hL, hh⟩ := st.at_
  have e0 : Ev (tOp (rIxL K) (tVar 1) (tC (.int 0))) [some (.ref L), some y0] F (RL RI) l := ev_row_of (ev_arg (n := 0) (ev_var rfl ry) rfl rfl)
  refine e0 F H (Same.refl _) st.sm _ fun f F1 H1 w1 rf x dx nx nd ne => ⟨x, dx, f, rfl, upd_same, fun H' d y e dy hx hd hy he de nd0 ny0 ne0 kp => ⟨rfl, ?_⟩⟩
  have keep : ∀ b o, H1 b = some o → H' b = some o := fun b o q => kp b o (by rw [upd_ne (ne_of_none q nx), upd_ne (ne_of_none q nd)]; exact q) (ne_of_none q nx)
  have old : ∀ {b : Addr}, (upd (upd H1 dx (.own x)) x (.ins (adr mg "House") dx [])) b = none → H1 b = none := fun {b} q => by
    cases z : H1 b with
    | none => rfl
    | some o => rw [upd_ne (ne_of_none z nx), upd_ne (ne_of_none z nd), z] at q; cases q
  have hL1 := w1.hh _ _ hL
  have hL' := keep _ _ hL1
  refine ⟨.ref L, rfl, L, adr mg "Line", dl, fLine hv, rfl, hL', T.c_Line, T.n_Line_house, (by decide : 1 < 1000), ?_⟩
  rw [putL]
  have xL : x ≠ L := fun z => by rw [z, hL1] at nx; cases nx
  have dL : d ≠ L := fun z => by have := old nd0; rw [z, hL1] at this; cases this
  have yL : y ≠ L := fun z => by have := old ny0; rw [z, hL1] at this; cases this
  have eL : e ≠ L := fun z => by have := old ne0; rw [z, hL1] at this; cases this
  have dx' : d ≠ x := fun z => by rw [z, upd_same] at nd0; cases nd0
  have yx : y ≠ x := fun z => by rw [z, upd_same] at ny0; cases ny0
  have ex : e ≠ x := fun z => by rw [z, upd_same] at ne0; cases ne0
  have yd : y ≠ d := fun z => by
    have q : H' y = some (.ins (adr mg "Play") dy (fPlay (.ref e) f)) := hy
    rw [z, hd] at q
    cases q
  have ye : y ≠ e := fun z => by
    have q : H' y = some (.ins (adr mg "Play") dy (fPlay (.ref e) f)) := hy
    rw [z, he] at q
    cases q
  refine ⟨(by decide : 0 ≤ sizeLine), fun r hr => ?_⟩
  have rL : r ≠ L := fun z => by rw [z, upd_same] at hr; cases hr
  rw [upd_ne rL] at hr
  have up' : ∀ {b : Addr} {o : HO}, b ≠ L → H' b = some o → (upd (upd H' L (.ins (adr mg "Line") dl (fLine (.ref x)))) r (.lst [])) b = some o := fun {b o} hb q => by
    rw [upd_ne (ne_of_none q hr), upd_ne hb]
    exact q
  have hF1 : F1 L = none := w1.out hL st.fl
  have hH1 : ∀ {b : Addr}, H1 b = none → H b = none := fun q => w1.hh.free q
  have gF : ∀ b ∈ [y, e], H1 b = none := fun b hb => by
    rcases List.mem_cons.mp hb with z | hb
    · rw [z]; exact old ny0
    · rw [List.mem_singleton.mp hb]; exact old ne0
  have w2 : Grow F1 H1 (pick F1 H' [y, e]) H' := Grow.pick w1.gh keep gF
  have pn : ∀ {b : Addr}, b ∉ [y, e] → F1 b = none → pick F1 H' [y, e] b = none := fun hb q => by
    unfold pick
    rw [if_neg hb]
    exact q
  have sm2 : Same (pick F1 H' [y, e]) (upd (upd H' L (.ins (adr mg "Line") dl (fLine (.ref x)))) r (.lst [])) := by
    have hLp : pick F1 H' [y, e] L = none := pn (by simp [Ne.symm yL, Ne.symm eL]) hF1
    exact (w2.gh.mut hLp).trans (Same.new (by rw [upd_ne rL]; exact hr))
  refine k (.ref r) (pick F1 H' [y, e]) _ [x, d] (w1.gg.trans w2.gg) (fun b o q n => (w1.trans w2).fr b o q n) (fun b o q hb _ => up' hb (keep b o (w1.hh _ _ q))) ⟨fun b hb => .inr ?_, fun b hb => by cases hb⟩ ⟨sm2, pn (by simp [Ne.symm yL, Ne.symm eL]) hF1, dl, .ref x, ?_, ?_⟩ ⟨r, [], rfl, upd_same, by decide, trivial⟩
  · rcases List.mem_cons.mp hb with z | hb
    · rw [z]; exact hH1 nx
    · rw [List.mem_singleton.mp hb]; exact hH1 (old nd0)
  · rw [upd_ne (Ne.symm rL), upd_same]
  · show HsAt mg _ _ _ _ _
    unfold HsAt
    refine ⟨x, dx, f, d, .ref y, [], rfl, rfl, up' xL hx, pn (by simp [Ne.symm yx, Ne.symm ex]) (w1.gh.free nx), up' dL hd, pn (by simp [Ne.symm yd, de]) (w1.gh.free (old nd0)), by decide, trivial, ?_, ?_⟩
    · exact Mono.up w2.gg (nats_rel rf hl)
    · exact ⟨y, dy, .ref e, f, rfl, by rw [pick_in (by simp)]; exact hy, ⟨e, [], rfl, by rw [pick_in (by simp)]; exact he, by decide, trivial⟩, Mono.up w2.gg (nats_rel rf hl)⟩
end
end DH
namespace DH
open PySem PySem.Spec PyProof.Rows L2
section
variable {K : PySem.W.Frag} {mg : Mg} {F H H2 : Hp} {L : Addr} {M : List Addr} {s : Vberan.State} {ans : List Int} {Q : VK} {E : XK} {vs : List V}
/-- the house, taken apart -/
theorem StAt.open_ {h : Vberan.House} (st : StAt mg F H L M s) (hs : s.house = some h) : ∃ dl a dx f d y ds, H L = some (.ins (adr mg "Line") dl (fLine (.ref a))) ∧ M = [a, d] ∧ H a = some (.ins (adr mg "House") dx (fHouse f (.ref d) y)) ∧ F a = none ∧ H d = some (.lst ds) ∧ F d = none ∧ ds.length ≤ LIM ∧ All2 (RDeed mg) F h.deeds ds ∧ RL RN h.first f F ∧ RPlay mg s.play y F := by
  obtain ⟨dl, hv, hL, hh⟩ := st.at_
  unfold HsAt at hh
  rw [hs] at hh
  obtain ⟨a, dx, f, d, y, ds, rfl, e2, r⟩ := hh
  exact ⟨dl, a, dx, f, d, y, ds, hL, e2, r⟩
def deedSt (s : Vberan.State) (n u g : List Int) : Vberan.State := ⟨some { Vberan.theHouse s with deeds := (Vberan.theHouse s).deeds ++ [⟨Vberan.splitNeeds n, Vberan.nats u, Vberan.nats g⟩] }, s.play⟩
def sp_do_deed (mg : Mg) : Sp := spDo mg (fun s i => (∃ n u g, i = [.row n, .row u, .row g] ∧ (∀ z ∈ n, -1 ≤ z) ∧ n.length ≤ 1000 ∧ (∀ z ∈ u, 0 ≤ z) ∧ (∀ z ∈ g, 0 ≤ z)) ∧ ∃ h, s.house = some h ∧ h.deeds.length ≤ 1000)
  (fun s i => match i with | [.row n, .row u, .row g] => deedSt s n u g | _ => s) fun s _ => [((Vberan.theHouse s).deeds.length : Int)]
theorem pure_do_deed (T : Top K mg) (h : sp_do_deed mg vs H Q E) : t_do_deed K mg sp_cut_needs (sp_Deed_init mg) { nx := fun _ H' => Q .non H', rt := Q } (start N_do_deed vs) H := by
  obtain ⟨F, L, M, s, i, y0, rfl, st, ry, ⟨⟨n, u, g, rfl, hn, hnl, hu, hg⟩, h, hs, hdl⟩, wf, k⟩ := h
  have k : SpRes mg F H L M (deedSt s n u g) [((Vberan.theHouse s).deeds.length : Int)] Q := k
  unfold deedSt at k
  rw [theHouse_of hs] at k
  obtain ⟨dl, a, dx, f, d, y, ds, hL, rfl, ha, fa, hd, fd, hz, hds, hf, hp⟩ := st.open_ hs
  refine ⟨.ref L, rfl, L, _, dl, _, .ref a, rfl, hL, T.c_Line, T.n_Line_house, lk_here, a, _, dx, _, .ref d, rfl, ha, T.c_House, T.n_House_deeds, lk_2 (by decide +kernel), ?_⟩
  refine ⟨.ref d, rfl, Or.inl ⟨rfl, _, SqL.of hd⟩, ?_⟩
  have e0 : Ev (tOp (rIxL K) (tVar 1) (tC (.int 0))) [some (.ref L), some y0, some (.ref d)] F (RL RI) n := ev_row_of (ev_arg (n := 0) (ev_var rfl ry) rfl rfl)
  have e1 : Ev (tOp (rIxL K) (tVar 1) (tC (.int 1))) [some (.ref L), some y0, some (.ref d)] F (RL RI) u := ev_row_of (ev_arg (n := 1) (ev_var rfl ry) rfl rfl)
  have e2 : Ev (tOp (rIxL K) (tVar 1) (tC (.int 2))) [some (.ref L), some y0, some (.ref d)] F (RL RI) g := ev_row_of (ev_arg (n := 2) (ev_var rfl ry) rfl rfl)
  refine e0 F H (Same.refl _) st.sm _ fun v0 F1 H1 w1 r0 => ⟨F1, F1, n, v0, w1.gh, w1.gh, rfl, r0, hn, hnl, fun vn F2 H2 w2 rn => ?_⟩
  refine e1 F2 H2 (w1.gg.trans w2.gg) w2.gh _ fun v1 F3 H3 w3 r1 => e2 F3 H3 ((w1.gg.trans w2.gg).trans w3.gg) w3.gh _ fun v2 F4 H4 w4 r2 => ?_
  intro x dxx nx nd ne
  refine ⟨x, dxx, vn, v1, v2, rfl, upd_same, fun H5 hx kp => ⟨rfl, ?_⟩⟩
  have w04 := ((w1.trans w2).trans w3).trans w4
  have keep : Same H4 H5 := fun b o q => kp b o (by rw [upd_ne (ne_of_none q nx), upd_ne (ne_of_none q nd)]; exact q) (ne_of_none q nx)
  have hd5 := keep _ _ (w04.hh _ _ hd)
  have ha5 := keep _ _ (w04.hh _ _ ha)
  have hL5 := keep _ _ (w04.hh _ _ hL)
  have w5 : Grow F4 H4 (upd F4 x (.ins (adr mg "Deed") dxx (fDeed vn v1 v2))) H5 := (Grow.stay w04.gh keep).show_ nx hx
  have w05 := w04.trans w5
  have rD : RDeed mg ⟨Vberan.splitNeeds n, Vberan.nats u, Vberan.nats g⟩ (.ref x) (upd F4 x (.ins (adr mg "Deed") dxx (fDeed vn v1 v2))) :=
    ⟨x, dxx, vn, v1, v2, rfl, upd_same, Mono.up ((w3.gg.trans w4.gg).trans w5.gg) rn, Mono.up (w4.gg.trans w5.gg) (nats_rel r1 hu), Mono.up w5.gg (nats_rel r2 hg)⟩
  have hdsl : ds.length ≤ 1000 := by rw [hds.len]; exact hdl
  refine ⟨d, ds, .ref x, rfl, rfl, hd5, Nat.lt_of_le_of_lt hdsl (by decide), ?_⟩
  have dL : L ≠ d := ne_of hL hd (by intro z; cases z)
  have da : a ≠ d := ne_of ha hd (by intro z; cases z)
  refine ⟨.ref d, rfl, d, ds ++ [.ref x], rfl, .inl (SqL.of upd_same), ((ds ++ [V.ref x]).length : Int), 1, rfl, rfl, (by decide : 1 ≤ sizeLine), fun r hr => ?_⟩
  have rd : r ≠ d := fun z => by rw [z, upd_same] at hr; cases hr
  rw [upd_ne rd] at hr
  have up' : ∀ {b : Addr} {o : HO}, b ≠ d → H5 b = some o → (upd (upd H5 d (.lst (ds ++ [.ref x]))) r (.lst [.int (((ds ++ [V.ref x]).length : Int) - 1)])) b = some o := fun {b o} hb q => by
    rw [upd_ne (ne_of_none q hr), upd_ne hb]
    exact q
  have fd5 := w05.out hd fd
  have fa5 := w05.out ha fa
  have fL5 := w05.out hL st.fl
  refine k (.ref r) _ _ [a, d] w05.gg w05.fr (fun b o q _ hb => up' (fun z => hb (by rw [z]; simp)) (w05.hh _ _ q)) ⟨fun b hb => .inl hb, fun b hb => hb⟩ ⟨(w05.gh.mut fd5).trans (Same.new (by rw [upd_ne rd]; exact hr)), fL5, dl, .ref a, up' dL hL5, ?_⟩ ⟨r, _, rfl, upd_same, (by decide : 1 ≤ LIM), ?_, trivial⟩
  · show HsAt mg _ _ _ _ _
    unfold HsAt
    refine ⟨a, dx, f, d, y, ds ++ [.ref x], rfl, rfl, up' da ha5, fa5, by rw [upd_ne (Ne.symm rd), upd_same], fd5, ?_, (hds.up w05.gg).app (All2.one rD), Mono.up w05.gg hf, Mono.up w05.gg hp⟩
    rw [List.length_append]
    show ds.length + 1 ≤ 40000
    omega
  · show V.int _ = V.int _
    rw [List.length_append, hds.len]
    refine congrArg V.int ?_
    show ((h.deeds.length + 1 : Nat) : Int) - 1 = _
    omega
def actSt (s : Vberan.State) (d k : Int) : Vberan.State := { s with play := Vberan.doneWith (Vberan.theHouse s) s.play d.toNat (Vberan.kindFits s k) }
def sp_do_act (mg : Mg) : Sp := spDo mg (fun s i => ∃ d c h, s.house = some h ∧ d < h.deeds.length ∧ c ∈ Vberan.choices h s.play d ∧ i = [.num (d : Int), .num (Vberan.kindNum h c)])
  (fun s i => match i with | [.num d, .num k] => actSt s d k | _ => s) fun s i => match i with | [.num d, .num k] => [if Vberan.ended (actSt s d k).play = true then 1 else 0] | _ => []
theorem kindFits_num {h : Vberan.House} {c : Nat} (hs : s.house = some h) (hc : c ≤ h.kinds) : Vberan.kindFits s (Vberan.kindNum h c) = c := by
  unfold Vberan.kindFits Vberan.kindNum
  rw [theHouse_of hs]
  by_cases e : c = h.kinds
  · rw [if_pos e, if_pos (by decide)]
    exact e.symm
  · rw [if_neg e, if_neg (by omega), Int.toNat_natCast]
theorem choices_pos {h : Vberan.House} {p : Vberan.Play} {d c : Nat} (hc : c ∈ Vberan.choices h p d) : d ∉ p.done ∧ (Vberan.kindNum h c = -1 ∨ (0 ≤ Vberan.kindNum h c ∧ (Vberan.kindNum h c).toNat < h.kinds ∧ 0 < p.things.getD (Vberan.kindNum h c).toNat 0)) := by
  unfold Vberan.choices at hc
  split at hc
  · cases hc
  · rename_i h1
    refine ⟨fun z => h1 ?_, ?_⟩
    · rw [Bool.or_eq_true]
      left
      exact List.contains_iff_mem.mpr z
    · split at hc
      · rw [List.mem_singleton] at hc
        left
        exact if_pos hc
      · have h2 := List.mem_filter.mp hc
        have h3 := List.mem_range.mp h2.1
        have h4 := h2.2
        rw [Bool.and_eq_true, decide_eq_true_eq] at h4
        right
        rw [kindNum_lt h3, Int.toNat_natCast]
        exact ⟨by omega, h3, h4.2⟩
theorem pure_do_act (T : Top K mg) (h : sp_do_act mg vs H Q E) : t_do_act K mg sp_as_number (sp_is_end_done mg) (sp_play_after mg) { nx := fun _ H' => Q .non H', rt := Q } (start N_do_act vs) H := by
  obtain ⟨F, L, M, s, i, y0, rfl, st, ry, ⟨dn, c, h, hs, hdn, hc, rfl⟩, wf, k⟩ := h
  obtain ⟨wh, wp⟩ := wf h hs
  have k : SpRes mg F H L M (actSt s (dn : Int) (Vberan.kindNum h c)) [if Vberan.ended (actSt s (dn : Int) (Vberan.kindNum h c)).play = true then 1 else 0] Q := k
  have es : actSt s (dn : Int) (Vberan.kindNum h c) = { s with play := Vberan.doneWith h s.play dn c } := by
    unfold actSt
    rw [theHouse_of hs, kindFits_num hs (mem_choices_lt hc), Int.toNat_natCast]
  rw [es, ← after_doneWith wh wp hdn hc] at k
  obtain ⟨dl, a, dx, f, d, y, ds, hL, rfl, ha, fa, hd, fd, hz, hds, hf, hp⟩ := st.open_ hs
  have rH := house_of hs (show RHs mg s (.ref a) H from by
    obtain ⟨p, dl2, hv, e, hq, r⟩ := st.line
    cases e
    rw [hL] at hq
    cases hq
    exact r)
  have ryH := Mono.up st.sm ry
  obtain ⟨hnd, hkk⟩ := choices_pos hc
  refine ⟨.ref L, rfl, L, _, dl, _, .ref a, rfl, hL, T.c_Line, T.n_Line_house, lk_here, ?_⟩
  dsimp only [tSeq, tAsg, gName, sFld, tCall, tCons]
  refine (ev_deeds T (ev_var (i := 2) (σ := [some (.ref L), some y0, some (.ref a)]) rfl rH)) H H (Same.refl _) (Same.refl _) _ fun x1 G1 H1 w1 r1 => ?_
  refine (ev_play T (ev_var (i := 2) (σ := [some (.ref L), some y0, some (.ref a)]) rfl rH)) G1 H1 w1.gg w1.gh _ fun x2 G2 H2 w2 r2 => ?_
  refine (ev_num_of (ev_arg (K := K) (n := 0) (ta := tVar 1) (k := 0) (ev_var (σ := [some (.ref L), some y0, some (.ref a)]) rfl ryH) rfl rfl)) G2 H2 (w1.trans w2).gg w2.gh _ fun x3 G3 H3 w3 r3 => ?_
  refine (ev_num_of (ev_arg (K := K) (n := 1) (ta := tVar 1) (k := 1) (ev_var (σ := [some (.ref L), some y0, some (.ref a)]) rfl ryH) rfl rfl)) G3 H3 ((w1.trans w2).trans w3).gg w3.gh _ fun x4 G4 H4 w4 r4 => ?_
  have w04 := ((w1.trans w2).trans w3).trans w4
  refine ⟨G4, F, h.deeds, Vberan.deedAt h dn, s.play, dn, Vberan.kindNum h c, x1, x2, x3, x4, w04.gh, st.sm.trans w04.hh, rfl, Mono.up ((w2.gg.trans w3.gg).trans w4.gg) r1, Mono.up (w3.gg.trans w4.gg) r2, r3, r4, deedAt_get hdn, (wh.gl _ (deedAt_mem hdn)).trans wp.tl.symm, wp.ds, hnd, Nat.le_trans (wp.dlen wh) (by decide), ?_, ?_, fun v F5 H5 w5 rv => ?_⟩
  · rw [wp.tl]
    exact Nat.le_trans wh.k5 (by decide)
  · rw [wp.tl]
    exact hkk
  have hh5 := w04.hh.trans w5.hh
  have ha5 := hh5 _ _ ha
  have hL5 := hh5 _ _ hL
  have hd5 := hh5 _ _ hd
  have fa5 := w5.out (w04.hh _ _ ha) fa
  have fd5 := w5.out (w04.hh _ _ hd) fd
  have fL5 := w5.out (w04.hh _ _ hL) st.fl
  refine ⟨.ref a, rfl, a, _, dx, _, rfl, ha5, T.c_House, T.n_House_play, (by show 3 < 1000; decide), ?_⟩
  rw [putH3]
  have aL : L ≠ a := ne_of hL ha (by
    intro z
    injection z with _ _ z3
    exact absurd (congrArg List.length z3) (by simp [fLine, fHouse]))
  have ad : d ≠ a := Ne.symm (ne_of ha hd (by intro z; cases z))
  have sm6 : Same F5 (upd H5 a (.ins (adr mg "House") dx (fHouse f (.ref d) v))) := w5.gh.mut fa5
  have rH6 : RHouse mg (h, playAfter (Vberan.deedAt h dn) s.play dn (Vberan.kindNum h c)) (.ref a) (upd H5 a (.ins (adr mg "House") dx (fHouse f (.ref d) v))) :=
    ⟨a, dx, f, .ref d, v, rfl, upd_same, Mono.up (w5.gg.trans sm6) hf, ⟨d, ds, rfl, by rw [upd_ne ad]; exact hd5, hz, hds.up (w5.gg.trans sm6)⟩, Mono.up sm6 rv⟩
  refine (ef_one (R := RI) (ev_num (ev_end (ev_play T (ev_var (i := 2) (σ := [some (.ref L), some y0, some (.ref a)]) rfl rH6))))).ev _ _ (Same.refl _) (Same.refl _) _ fun r G7 H7 w7 rr => ?_
  refine k r F5 H7 [a, d] w5.gg (fun b o q n => w04.hh.free (w5.fr b o q n)) (fun b o q _ hb => w7.hh _ _ (by rw [upd_ne (fun z => hb (by rw [z]; simp))]; exact hh5 _ _ q)) ⟨fun b hb => .inl hb, fun b hb => hb⟩ ⟨sm6.trans w7.hh, fL5, dl, .ref a, w7.hh _ _ (by rw [upd_ne aL]; exact hL5), ?_⟩ (Mono.up w7.gh rr)
  show HsAt mg _ _ _ _ _
  unfold HsAt
  rw [hs]
  exact ⟨a, dx, f, d, v, ds, rfl, rfl, w7.hh _ _ upd_same, fa5, w7.hh _ _ (by rw [upd_ne ad]; exact hd5), fd5, hz, hds.up w5.gg, Mono.up w5.gg hf, rv⟩
def sp_do_again (mg : Mg) : Sp := spDo mg bareIt (fun s _ => { s with play := Vberan.fresh (Vberan.theHouse s) }) fun _ _ => []
theorem pure_do_again (T : Top K mg) (h : sp_do_again mg vs H Q E) : t_do_again K mg (sp_Play_init mg) { nx := fun _ H' => Q .non H', rt := Q } (start N_do_again vs) H := by
  obtain ⟨F, L, M, s, i, y0, rfl, st, ry, ⟨rfl, h, hs⟩, wf, k⟩ := h
  have k : SpRes mg F H L M { s with play := Vberan.fresh (Vberan.theHouse s) } [] Q := k
  rw [theHouse_of hs] at k
  obtain ⟨dl, a, dx, f, d, y, ds, hL, rfl, ha, fa, hd, fd, hz, hds, hf, hp⟩ := st.open_ hs
  refine ⟨.ref L, rfl, L, _, dl, _, .ref a, rfl, hL, T.c_Line, T.n_Line_house, lk_here, ?_⟩
  refine ⟨(by decide : 0 ≤ sizeLine), fun e he => ⟨.ref a, rfl, a, adr mg "House", dx, fHouse f (.ref d) y, f, rfl, ?_, T.c_House, T.n_House_first, lk_here, fun x dxx nx nd ne => ⟨x, dxx, .ref e, f, rfl, upd_same, fun H5 J kp => ⟨rfl, ?_⟩⟩⟩⟩
  · rw [upd_ne (ne_of_none ha he)]
    exact ha
  have h1 : ∀ b o, H b = some o → (upd H e (.lst [])) b = some o := fun b o q => by
    rw [upd_ne (ne_of_none q he)]
    exact q
  have keep0 : Same (upd H e (.lst [])) H5 := fun b o q => kp b o (by rw [upd_ne (ne_of_none q nx), upd_ne (ne_of_none q nd)]; exact q) (ne_of_none q nx)
  have keep : Same H H5 := fun b o q => keep0 b o (h1 b o q)
  have he5 := keep0 e _ upd_same
  have nx0 : H x = none := by
    cases q : H x with
    | none => rfl
    | some o => rw [h1 x o q] at nx; cases nx
  have w5 : Grow F H (pick F H5 [x, e]) H5 := Grow.pick st.sm keep fun b hb => by
    rcases List.mem_cons.mp hb with z | hb
    · rw [z]; exact nx0
    · rw [List.mem_singleton.mp hb]; exact he
  have hx5 : H5 x = some (.ins (adr mg "Play") dxx (fPlay (.ref e) f)) := J
  have ha5 := keep _ _ ha
  have hL5 := keep _ _ hL
  have hd5 := keep _ _ hd
  have fa5 := w5.out ha fa
  have fd5 := w5.out hd fd
  have fL5 := w5.out hL st.fl
  refine ⟨.ref a, rfl, a, _, dx, _, rfl, ha5, T.c_House, T.n_House_play, (by show 3 < 1000; decide), ?_⟩
  rw [putH3]
  have aL : L ≠ a := ne_of hL ha (by
    intro z
    injection z with _ _ z3
    exact absurd (congrArg List.length z3) (by simp [fLine, fHouse]))
  have ad : d ≠ a := Ne.symm (ne_of ha hd (by intro z; cases z))
  have sm6 : Same (pick F H5 [x, e]) (upd H5 a (.ins (adr mg "House") dx (fHouse f (.ref d) (.ref x)))) := w5.gh.mut fa5
  refine ⟨(by decide : 0 ≤ sizeLine), fun r hr => ?_⟩
  have ra : r ≠ a := fun z => by rw [z, upd_same] at hr; cases hr
  have up' : ∀ {b : Addr} {o : HO}, (upd H5 a (.ins (adr mg "House") dx (fHouse f (.ref d) (.ref x)))) b = some o → (upd (upd H5 a (.ins (adr mg "House") dx (fHouse f (.ref d) (.ref x)))) r (.lst [])) b = some o := fun {b o} q => by
    rw [upd_ne (ne_of_none q hr)]
    exact q
  refine k (.ref r) (pick F H5 [x, e]) _ [a, d] w5.gg w5.fr (fun b o q _ hb => up' (by rw [upd_ne (fun z => hb (by rw [z]; simp))]; exact keep _ _ q)) ⟨fun b hb => .inl hb, fun b hb => hb⟩ ⟨sm6.trans (Same.new hr), fL5, dl, .ref a, up' (by rw [upd_ne aL]; exact hL5), ?_⟩ ⟨r, [], rfl, upd_same, by decide, trivial⟩
  show HsAt mg _ _ _ _ _
  unfold HsAt
  rw [hs]
  exact ⟨a, dx, f, d, .ref x, ds, rfl, rfl, up' upd_same, fa5, up' (by rw [upd_ne ad]; exact hd5), fd5, hz, hds.up w5.gg, Mono.up w5.gg hf, ⟨x, dxx, .ref e, f, rfl, by rw [pick_in (by simp)]; exact hx5, ⟨e, [], rfl, by rw [pick_in (by simp)]; exact he5, by decide, trivial⟩, Mono.up w5.gg hf⟩⟩
end
end DH
namespace DH
open PySem PySem.Spec PyProof.Rows L2
/-! ### a thing that a callee changes: hidden from what's known -/
def hide (H : Hp) (p : Addr) : Hp := fun b => if b = p then none else H b
section
variable {α β : Type} {K : PySem.W.Frag} {mg : Mg} {σ : L2.St} {G G0 H0 H G2 H2 : Hp} {te ta tb : TE} {t : TT} {tu tz : TS} {R : Rel α} {p : Addr} {o u : HO} {D : Ends} {i : Nat} {a : α}
theorem hide_p : hide H p p = none := if_pos rfl
theorem hide_ne {b : Addr} (h : b ≠ p) : hide H p b = H b := if_neg h
theorem Grow.hidden (s : Same G H) (n : G p = none) : Grow G (hide H p) G H :=
  ⟨Same.refl _, s, fun b o e => by
    by_cases c : b = p
    · rw [c, hide_p] at e; cases e
    · rw [hide_ne c] at e; exact e, fun b o h n => by rw [n] at h; cases h⟩
theorem Grow.thru (w : Grow G0 H0 G H) (n : H0 p = none) (w2 : Grow G (hide H p) G2 H2) : Grow G0 H0 G2 H2 :=
  ⟨w.gg.trans w2.gg, w2.gh, fun b o e => by
    have c : b ≠ p := fun z => by rw [z, n] at e; cases e
    exact w2.hh b o (by rw [hide_ne c]; exact w.hh b o e), fun b o h m => by
    cases q : G b with
    | some v => exact w.fr b v q m
    | none =>
      by_cases c : b = p
      · rw [c]; exact n
      · have z := w2.fr b o h q
        rw [hide_ne c] at z
        exact w.hh.free z⟩
theorem et_seenO {b : Bool} (s : Same G H) (hp : H p = some o) (h : EvT t σ (upd G p o) b) {Q : Bool → Hp → Prop} (k : ∀ H2, Grow G H G H2 → Q b H2) : t σ H Q :=
  h (upd G p o) H (Same.refl _) (Same.seen s hp) _ fun _ H2 w => k H2 (Grow.stay s w.hh)
/-- a number, got while the thing at p is read -/
theorem q_asgI {z : Int} (s : Same G H) (hp : H p = some o) (h : Ev te σ (upd G p o) RI z) (k : ∀ H2, Grow G H G H2 → tz D (σ.set i (some (.int z))) H2) : tSeq (tAsg te (gName i)) tz D σ H :=
  h (upd G p o) H (Same.refl _) (Same.seen s hp) _ fun v _ H2 w r => by
    cases (show v = V.int z from r)
    exact k H2 (Grow.stay s w.hh)
theorem s_whileC {c : TT} (Pv : Nat → L2.St → Hp → Hp → Prop) (m0 : Nat) (s : Grow G0 H0 G H) (h0 : Pv m0 σ G H)
    (hs : ∀ m σ1 G1 H1, Same G G1 → Grow G0 H0 G1 H1 → Pv m σ1 G1 H1 → ∃ b, (∀ Q : Bool → Hp → Prop, (∀ H2, Grow G1 H1 G1 H2 → Q b H2) → c σ1 H1 Q) ∧
      (b = true → ∀ H2, Grow G1 H1 G1 H2 → tu { D with nx := fun σ' H' => ∃ G' m', m' < m ∧ Same G1 G' ∧ Grow G0 H0 G' H' ∧ Pv m' σ' G' H', ct := fun σ' H' => ∃ G' m', m' < m ∧ Same G1 G' ∧ Grow G0 H0 G' H' ∧ Pv m' σ' G' H', bk := D.nx } σ1 H2) ∧
      (b = false → ∀ H2, Grow G1 H1 G1 H2 → D.nx σ1 H2)) : tWhile c tu D σ H := by
  refine ⟨fun m σ' H' => ∃ G', Same G G' ∧ Grow G0 H0 G' H' ∧ Pv m σ' G' H', ⟨m0, G, Same.refl _, s, h0⟩, ?_⟩
  rintro m σ1 H1 ⟨G1, g1, s1, p1⟩
  obtain ⟨b, hc, k1, k2⟩ := hs m σ1 G1 H1 g1 s1 p1
  refine hc _ fun H2 w => ?_
  cases b with
  | true => exact ⟨_, fun σ' H' ⟨G', m', l, a1, a2, a3⟩ => ⟨m', l, G', g1.trans a1, a2, a3⟩, k1 rfl H2 w⟩
  | false => exact k2 rfl H2 w
theorem q_whileC {c : TT} (Pv : Nat → L2.St → Hp → Hp → Prop) (m0 : Nat) (s : Grow G0 H0 G H) (h0 : Pv m0 σ G H)
    (hs : ∀ m σ1 G1 H1, Same G G1 → Grow G0 H0 G1 H1 → Pv m σ1 G1 H1 → ∃ b, (∀ Q : Bool → Hp → Prop, (∀ H2, Grow G1 H1 G1 H2 → Q b H2) → c σ1 H1 Q) ∧
      (b = true → ∀ H2, Grow G1 H1 G1 H2 → tu { D with nx := fun σ' H' => ∃ G' m', m' < m ∧ Same G1 G' ∧ Grow G0 H0 G' H' ∧ Pv m' σ' G' H', ct := fun σ' H' => ∃ G' m', m' < m ∧ Same G1 G' ∧ Grow G0 H0 G' H' ∧ Pv m' σ' G' H', bk := tz D } σ1 H2) ∧
      (b = false → ∀ H2, Grow G1 H1 G1 H2 → tz D σ1 H2)) : tSeq (tWhile c tu) tz D σ H := s_whileC (D := { D with nx := tz D }) Pv m0 s h0 hs
/-- list(range(n)) -/
theorem ef_lrange {n : Nat} (h : Ev te σ G RN n) (hn : n ≤ LIM) : EvF (tLstRg (tRg1 te)) σ G RN (List.range n) := fun G1 H1 g s Q q =>
  h G1 H1 g s _ fun v G2 H2 w r => ⟨(n : Int), r, by
    have : n ≤ 40000 := hn
    refine RgOk.of_le ?_ ?_ ?_ ?_ <;> omega, fun p hp => q p _ G2 _ (w.trans (Grow.hid w.gh hp)) (w.hh.free hp) (w.gh.free hp) upd_same (by
    rw [rgV_length]
    have : n ≤ 40000 := hn
    show _ ≤ 40000
    omega) (all2_nat.mpr (by
    unfold rgV
    rw [List.map_map, show ((n : Int) - 0).toNat = n by omega]
    refine List.map_congr_left fun x _ => ?_
    show V.int (0 + (x : Int)) = V.int (x : Int)
    rw [Int.zero_add]))⟩
/-- l.count(k) -/
theorem ev_count {l : List Int} {k : Int} (h1 : Ev ta σ G (RL RI) l) (h2 : Ev tb σ G RI k) : Ev (tBM K "list" (rCntI K) ta (tCons tb tNil)) σ G RN (l.count k) := fun G1 H1 g s Q q =>
  h1 G1 H1 g s _ fun v G2 H2 w ⟨p, xs, e, hp, _, ha⟩ => by
    subst e
    refine ⟨Or.inl ⟨rfl, _, SqL.of (w.gh _ _ hp)⟩, h2 G2 H2 (g.trans w.gg) w.gh _ fun x G3 H3 w3 rx => ⟨p, l, k, rfl, congrArg (fun z => [z]) rx, ?_, q _ G3 H3 (w.trans w3) rfl⟩⟩
    rw [← all2_int.mp ha]
    exact SqL.of (w3.gh _ _ (w3.gg _ _ hp))
/-- [.. for a dict's keys] -/
theorem ef_listD {S : Rel β} [Mono S] {l : List (Int × β)} (h : Ev te σ G (RDI S) l) : EvF (tCB rListDk (tCons te tNil)) σ G RI (l.map (·.1)) := fun G1 H1 g s Q q =>
  h G1 H1 g s _ fun v G2 H2 w ⟨p, kvs, e, hp, hl, ha⟩ => by
    subst e
    have key : ∀ {l : List (Int × β)} {kvs : List (Key × V)}, AllE kI S G2 l kvs → kvs.map (fun kv => kV kv.1) = (l.map (·.1)).map V.int := by
      intro l
      induction l with
      | nil => intro kvs h; cases kvs with
        | nil => rfl
        | cons _ _ => exact h.elim
      | cons y l ih => intro kvs h; cases kvs with
        | nil => exact h.elim
        | cons z r =>
          obtain ⟨h1, _, h3⟩ := h
          rw [List.map_cons, List.map_cons, List.map_cons, ih h3, h1] <;> rfl
    refine ⟨p, kvs, rfl, .inl (w.gh _ _ hp), fun r hr => q r _ G2 _ (w.trans (Grow.hid w.gh hr)) (w.hh.free hr) (w.gh.free hr) upd_same (by rw [List.length_map]; exact hl) (all2_int.mpr (key ha))⟩
theorem ev_lenD {S : Rel β} [Mono S] {l : List (Int × β)} (h : Ev te σ G (RDI S) l) : Ev (tCB rLenD (tCons te tNil)) σ G RN l.length := fun G1 H1 g s Q q =>
  h G1 H1 g s _ fun v G2 H2 w ⟨p, kvs, e, hp, hl, ha⟩ => ⟨p, kvs, by rw [e], w.gh _ _ hp, q _ G2 H2 w (by rw [ha.len]; exact rfl)⟩
theorem AllE.free {ι κ : Type} {e : ι → κ} {S : Rel β} (hS : ∀ b x H H', S b x H → S b x H') : ∀ {l : List (ι × β)} {r : List (κ × V)}, AllE e S G l r → AllE e S H l r
  | [], [], _ => trivial
  | _ :: _, _ :: _, ⟨h1, h2, h3⟩ => ⟨h1, hS _ _ _ _ h2, AllE.free hS h3⟩
  | [], _ :: _, h => h.elim
  | _ :: _, [], h => h.elim
end
/-- a new dict of numbers, not yet known -/
def RetD (l : List (Int × Nat)) (G H : Hp) (Q : VK) : Prop := ∀ p kvs G2 H2, Grow G H G2 H2 → H p = none → G2 p = none → H2 p = some (.dK kvs) → kvs.length ≤ LIM → AllE kI RN G2 l kvs → Q (.ref p) H2
theorem rn_free : ∀ (b : Nat) (x : V) (H H' : Hp), RN b x H → RN b x H' := fun _ _ _ _ h => h
theorem rb_free : ∀ (b : Bool) (x : V) (H H' : Hp), RB b x H → RB b x H' := fun _ _ _ _ h => h
/-! ### the row of kinds, as a dict -/
def putAll (e : Nat) (l : List (Int × Nat)) (ks : List Nat) : List (Int × Nat) := ks.foldl (fun a (k : Nat) => if (look a (k : Int)).isSome = true then a else put a (k : Int) e) l
def dR (l : List Vberan.Reach) : List (Int × Nat) := l.map fun z => ((z.kind : Int), z.by_)
theorem look_any {β : Type} (l : List (Int × β)) (i : Int) : (look l i).isSome = l.any fun y => decide (y.1 = i) := by
  unfold look
  rw [Option.isSome_map]
  induction l with
  | nil => rfl
  | cons y l ih =>
    rw [List.find?_cons, List.any_cons]
    cases decide (y.1 = i) with
    | true => rfl
    | false => rw [Bool.false_or]; exact ih
theorem putAll_len (e : Nat) : ∀ (ks : List Nat) (l : List (Int × Nat)), (putAll e l ks).length ≤ l.length + ks.length
  | [], l => Nat.le_refl _
  | k :: ks, l => by
    show (putAll e (if (look l (k : Int)).isSome = true then l else put l (k : Int) e) ks).length ≤ _
    have ih := putAll_len e ks (if (look l (k : Int)).isSome = true then l else put l (k : Int) e)
    have : (if (look l (k : Int)).isSome = true then l else put l (k : Int) e).length ≤ l.length + 1 := by
      split
      · omega
      · unfold put
        split
        · rw [List.length_map]; omega
        · rw [List.length_append]; exact Nat.le_refl _
    rw [List.length_cons]
    omega
theorem putAll_more {e : Nat} {l : List (Int × Nat)} {ks : List Nat} {i k : Nat} (h : ks[i]? = some k) : putAll e l (ks.take (i + 1)) = if (look (putAll e l (ks.take i)) (k : Int)).isSome = true then putAll e l (ks.take i) else put (putAll e l (ks.take i)) (k : Int) e := by
  unfold putAll
  rw [take_more h, List.foldl_append]
  rfl
theorem look_dR (a : List Vberan.Reach) (k : Nat) : (look (dR a) (k : Int)).isSome = a.any fun z => z.kind == k := by
  rw [look_any]
  unfold dR
  rw [List.any_map]
  refine congrArg (List.any a) (funext fun z => ?_)
  show decide ((z.kind : Int) = (k : Int)) = (z.kind == k)
  by_cases c : z.kind = k
  · rw [c, beq_self_eq_true, decide_eq_true rfl]
  · rw [beq_eq_false_iff_ne.mpr c]
    exact decide_eq_false (fun q => c (Int.ofNat.inj q))
theorem putAll_dR (e : Nat) : ∀ (ks : List Nat) (a : List Vberan.Reach), putAll e (dR a) ks = dR (ks.foldl (addReach e) a)
  | [], _ => rfl
  | k :: ks, a => by
    have step : (if (look (dR a) (k : Int)).isSome = true then dR a else put (dR a) (k : Int) e) = dR (addReach e a k) := by
      unfold addReach
      rw [look_dR]
      by_cases c : (a.any fun z => z.kind == k) = true
      · rw [if_pos c, if_pos c]
      · rw [if_neg c, if_neg c]
        unfold put
        rw [← look_any, look_dR, if_neg c]
        unfold dR
        rw [List.map_append]
        rfl
    show putAll e (if (look (dR a) (k : Int)).isSome = true then dR a else put (dR a) (k : Int) e) ks = dR ((k :: ks).foldl (addReach e) a)
    rw [step, putAll_dR e ks, List.foldl_cons]
def sp_put_in (mg : Mg) : Sp := fun vs H Q _ => ∃ G ds e l p kvs d y z, vs = [.ref p, y, z] ∧ Same G H ∧ G p = none ∧ H p = some (.dK kvs) ∧ kvs.length ≤ 500 ∧ AllE kI RN G l kvs ∧ RL (RDeed mg) ds y G ∧ RN d z G ∧ ds[d]? = some e ∧ e.uses.length ≤ 100 ∧
  ∀ G2 H2 kv2, Grow G (hide H p) G2 H2 → G2 p = none → H2 p = some (.dK kv2) → AllE kI RN G2 (putAll d l e.uses) kv2 → Q .non H2
def sp_row_of_kinds (mg : Mg) : Sp := fun vs H Q _ => ∃ G h g d x y z, vs = [x, y, z] ∧ Same G H ∧ RL (RDeed mg) h.deeds x G ∧ RL RI (servL h.deeds.length g) y G ∧ RN d z G ∧ d < h.deeds.length ∧ WfH h ∧ GInv h h.deeds.length g ∧ RetD (dR (Vberan.reachOf h g d)) G H Q
section
variable {K : PySem.W.Frag} {mg : Mg} {vs : List V} {H : Hp} {Q : VK} {E : XK}
theorem pure_put_in (T : Top K mg) (h : sp_put_in mg vs H Q E) : t_put_in K mg { nx := fun _ H' => Q .non H', rt := Q } (start N_put_in vs) H := by
  obtain ⟨G, ds, e, l, p, kvs, d, y, z, rfl, s, n, hp, hl, ha, ry, rz, he, hu, k⟩ := h
  have hll : l.length = kvs.length := ha.len.symm
  refine s_for (G0 := G) (H0 := hide H p) (Grow.hidden s n) (src_list (ev_uses T (ev_ix (ev_var rfl ry) (ev_var rfl rz) he))) hit_name
    (fun i σ' G' H' => ∃ a kv, σ' = [some (.ref p), some y, some z, a] ∧ G' p = none ∧ H' p = some (.dK kv) ∧ AllE kI RN G' (putAll d l (e.uses.take i)) kv)
    (fun G2 H2 w2 => ⟨none, kvs, rfl, w2.out hp n, w2.hh _ _ hp, by rw [List.take_zero]; exact ha.free rn_free⟩) ?_ ?_
  · rintro i c σ1 G1 H1 hi g1 s1 ⟨a, kv, rfl, n1, h1, a1⟩ G2 H2 σ2 w2 ⟨v, rv, rfl⟩
    have n2 := w2.out h1 n1
    have h2 := w2.hh _ _ h1
    have a2 : AllE kI RN G2 (putAll d l (e.uses.take i)) kv := a1.up w2.gg
    have hkv : kv.length ≤ 700 := by
      rw [a1.len]
      have q1 := putAll_len d (e.uses.take i) l
      have q2 : (e.uses.take i).length ≤ e.uses.length := by rw [List.length_take]; omega
      omega
    have rd : RDI RN (putAll d l (e.uses.take i)) (.ref p) (upd G2 p (.dK kv)) := ⟨p, kv, rfl, upd_same, by show kv.length ≤ 40000; omega, a2.up (Same.new n2)⟩
    have pm := putAll_more (e := d) (l := l) hi
    refine et_seenO (b := !(look (putAll d l (e.uses.take i)) (c : Int)).isSome) w2.gh h2 (et_B (ev_dniI (ev_n2i (ev_var rfl (show RN c v _ from rv))) (ev_var rfl rd))) fun H3 w3 => ?_
    have h3 := w3.hh _ _ h2
    by_cases q : (look (putAll d l (e.uses.take i)) (c : Int)).isSome = true
    · rw [if_pos q] at pm
      rw [q]
      rw [if_neg (by decide)]
      exact ⟨G2, w2.gg, (s1.trans w2).trans w3, some v, kv, rfl, n2, h3, by rw [pm]; exact a2⟩
    · rw [if_neg q] at pm
      have q2 : (look (putAll d l (e.uses.take i)) (c : Int)).isSome = false := Bool.eq_false_iff.mpr q
      rw [q2, if_pos (by decide)]
      refine s_putI (i := 0) (S := RN) (b := d) (j := (c : Int)) w3.gh rfl h3 n2 a2 (by omega) (ev_var rfl (show RN d z G2 from rz)) (ev_n2i (ev_var rfl (show RN c v G2 from rv))) fun G4 H4 kv2 w4 n4 a4 s4 => ?_
      exact ⟨G4, w2.gg.trans w4.gg, ((s1.trans w2).trans (w3.trans w4)).mutd hide_p n4, some v, kv2, rfl, n4, upd_same, by rw [pm]; exact a4⟩
  · rintro σ1 G1 H1 g1 s1 ⟨a, kv, rfl, n1, h1, a1⟩
    rw [List.take_length] at a1
    exact k G1 H1 kv s1 n1 h1 a1
theorem filter_more {p : Nat → Bool} {F : List Vberan.Reach → Nat → List Vberan.Reach} {i : Nat} {l : List Vberan.Reach} : ((List.range (i + 1)).filter p).foldl F l = if p i = true then F (((List.range i).filter p).foldl F l) i else ((List.range i).filter p).foldl F l := by
  rw [List.range_succ, List.filter_append, List.foldl_append]
  by_cases c : p i = true
  · rw [if_pos c, List.filter_cons, if_pos c]
    rfl
  · rw [if_neg c, List.filter_cons, if_neg c]
    rfl
theorem pure_row_of_kinds (T : Top K mg) (h : sp_row_of_kinds mg vs H Q E) : t_row_of_kinds K mg (sp_put_in mg) { nx := fun _ H' => Q .non H', rt := Q } (start N_row_of_kinds vs) H := by
  obtain ⟨G, h, g, d, x, y, z, rfl, s, rx, ry, rz, hd, wf, gi, k⟩ := h
  have n16 := wf.n16
  refine q_newD s fun p H2 hp gp w h2 => ?_
  have rx2 := Mono.up w.gg rx
  have hu5 : ∀ e, e < h.deeds.length → (Vberan.deedAt h e).uses.length ≤ 5 := fun e he => wf.u5 (deedAt_mem he)
  refine ⟨.ref p, rfl, x, rfl, z, rfl, G, h.deeds, Vberan.deedAt h d, [], p, [], d, x, z, rfl, w.gh, gp, h2, by decide, trivial, rx, rz, deedAt_get hd, Nat.le_trans (hu5 d hd) (by decide), fun G3 H3 kv3 w3 n3 h3 a3 => ?_⟩
  have w03 : Grow G H G3 H3 := w.thru hp w3
  have a3 : AllE kI RN G3 (dR (rstage h g d 0)) kv3 := by
    have e0 : putAll d [] (Vberan.deedAt h d).uses = dR (rstage h g d 0) := putAll_dR d _ []
    rw [← e0]
    exact a3
  refine q_asg w3.gh (ev_nat (n := 0) rfl) fun v0 G4 H4 w4 r0 => ?_
  cases (show v0 = V.int ((0 : Nat) : Int) from r0)
  refine q_whileC (G0 := G) (H0 := H) (fun m σ' G' H' => ∃ (i : Nat) (a5 a6 : Option V) (kvs : List (Key × V)), σ' = [some x, some y, some z, some (.ref p), some (.int (i : Int)), a5, a6] ∧ G' p = none ∧ H' p = some (.dK kvs) ∧ AllE kI RN G' (dR (rstage h g d i)) kvs ∧ m = 6 - i)
    6 (w03.trans w4) ⟨0, none, none, kv3, rfl, w4.out h3 n3, w4.hh _ _ h3, a3.up w4.gg, rfl⟩ ?_
  rintro m σ1 G1 H1 g1 s1 ⟨i, a5, a6, kvs, rfl, n1, h1, a1, rfl⟩
  have ri := rstage_inv (g := g) (d := d) wf i
  have hlen : (rstage h g d i).length ≤ 5 := Nat.le_trans (reach_len ri) wf.k5
  have hkl : kvs.length ≤ 5 := by
    rw [a1.len]
    unfold dR
    rw [List.length_map]
    exact hlen
  have rd : RDI RN (dR (rstage h g d i)) (.ref p) (upd G1 p (.dK kvs)) := ⟨p, kvs, rfl, upd_same, by show kvs.length ≤ 40000; omega, a1.up (Same.new n1)⟩
  have el : (dR (rstage h g d i)).length = (rstage h g d i).length := List.length_map _
  have hv : RN i (.int (i : Int)) (upd G1 p (.dK kvs)) := rfl
  refine ⟨decide (i < (rstage h g d i).length), fun Q2 k2 => et_seenO s1.gh h1 (et_is (et_test (ev_lt (ev_n2i (ev_var (i := 4) rfl hv)) (ev_n2i (ev_lenD (ev_var (i := 3) rfl rd))))) (by rw [el]; exact decide_eq_decide.mpr (by omega))) k2, fun hb H2 w2 => ?_, fun hb H2 w2 => ?_⟩
  · have hi : i < (rstage h g d i).length := of_decide_eq_true hb
    have hxi : (rstage h g d i)[i]? = some (rstage h g d i)[i] := List.getElem?_eq_getElem hi
    generalize (rstage h g d i)[i] = xr at hxi
    have h2' := w2.hh _ _ h1
    have g01 : Same G G1 := w03.gg.trans (w4.gg.trans g1)
    refine q_asgI (z := (xr.kind : Int)) w2.gh h2' (ev_ix (l := (dR (rstage h g d i)).map (·.1)) (ef_listD (ev_var (i := 3) rfl rd)).ev (ev_var (i := 4) rfl hv) (by
      unfold dR
      rw [List.map_map, List.getElem?_map, hxi]
      rfl)) fun H3 w3' => ?_
    have h3' := w3'.hh _ _ h2'
    have hk : ∀ (c : Nat), kindOf g c = (xr.kind : Int) → True := fun _ _ => trivial
    refine q_for (G0 := G) (H0 := H) ((s1.trans w2).trans w3') (src_range (ev_len (ev_var rfl (Mono.up g01 rx))) (by show _ ≤ 40000; omega)) hit_name
      (fun j σ' G' H' => ∃ (a6 : Option V) (kv : List (Key × V)), σ' = [some x, some y, some z, some (.ref p), some (.int (i : Int)), some (.int (xr.kind : Int)), a6] ∧ G' p = none ∧ H' p = some (.dK kv) ∧
        AllE kI RN G' (dR (((List.range j).filter fun e => decide (kindOf g e = (xr.kind : Int))).foldl (fun a e => (Vberan.deedAt h e).uses.foldl (addReach e) a) (rstage h g d i))) kv ∧ kv.length ≤ 5 + 5 * j)
      (fun G5 H5 w5 => ⟨a6, kvs, rfl, w5.out h3' n1, w5.hh _ _ h3', a1.up w5.gg, by omega⟩) ?_ ?_
    · rintro j c σ3 G5 H5 hjc g5 s5 ⟨b6, kv, rfl, n5, h5, a5', l5⟩ G6 H6 σ4 w6 ⟨u, ru, rfl⟩
      have hj : j < h.deeds.length := by
        have q := (List.getElem?_eq_some_iff.mp hjc).1
        rw [List.length_range] at q
        exact q
      rw [List.getElem?_range hj] at hjc
      cases hjc
      have g06 : Same G G6 := g01.trans (g5.trans w6.gg)
      have n6 := w6.out h5 n5
      have h6 := w6.hh _ _ h5
      have ru' : ∀ G', RN j u G' := fun _ => ru
      refine s_if w6.gh (et_test (ev_eq (i := kindOf g j) (j := (xr.kind : Int)) (ev_ix (ev_var rfl (Mono.up g06 ry)) (ev_var rfl (ru' G6)) (servL_get hj)) (ev_var (R := RI) rfl rfl))) (fun hc G7 H7 w7 => ?_) (fun hc G7 H7 w7 => ?_)
      · have n7 := w7.out h6 n6
        have h7 := w7.hh _ _ h6
        have a7 := a5'.up (w6.gg.trans w7.gg)
        refine ⟨.ref p, rfl, x, rfl, u, rfl, G7, h.deeds, Vberan.deedAt h j, _, p, kv, j, x, u, rfl, w7.gh, n7, h7, by omega, a7, Mono.up (g06.trans w7.gg) rx, ru' G7, deedAt_get hj, Nat.le_trans (hu5 j hj) (by decide), fun G8 H8 kv8 w8 n8 h8 a8 => ?_⟩
        have s7 : Grow G H G7 H7 := (s5.trans w6).trans w7
        have ll := a8.len
        have lp := putAll_len j (Vberan.deedAt h j).uses (dR (((List.range j).filter fun e => decide (kindOf g e = (xr.kind : Int))).foldl (fun a e => (Vberan.deedAt h e).uses.foldl (addReach e) a) (rstage h g d i)))
        have l7 := a7.len
        have := hu5 j hj
        refine ⟨G8, (w6.gg.trans w7.gg).trans w8.gg, s7.thru hp w8, some u, kv8, rfl, n8, h8, ?_, by omega⟩
        rw [filter_more, if_pos hc]
        rw [putAll_dR] at a8
        exact a8
      · have n7 := w7.out h6 n6
        have h7 := w7.hh _ _ h6
        refine ⟨G7, w6.gg.trans w7.gg, (s5.trans w6).trans w7, some u, kv, rfl, n7, h7, ?_, by omega⟩
        rw [filter_more, if_neg (by rw [show decide (kindOf g j = (xr.kind : Int)) = false from hc]; decide)]
        exact a5'.up (w6.gg.trans w7.gg)
    · rintro σ3 G5 H5 g5 s5 ⟨b6, kv, rfl, n5, h5, a5', l5⟩
      rw [List.length_range] at a5'
      have er : rstage h g d (i + 1) = ((List.range h.deeds.length).filter fun e => decide (kindOf g e = (xr.kind : Int))).foldl (fun a e => (Vberan.deedAt h e).uses.foldl (addReach e) a) (rstage h g d i) := by
        rw [rstage_some hxi]
        unfold reachOne
        rw [movers_is gi (Nat.le_refl _)]
      rw [← er] at a5'
      refine s_asg s5.gh (ev_addN (i := i) (j := 1) (ev_var (R := RN) rfl rfl) (ev_nat rfl)) fun v9 G9 H9 w9 r9 => ?_
      cases (show v9 = V.int ((i + 1 : Nat) : Int) from r9)
      exact ⟨G9, _, by omega, g5.trans w9.gg, s5.trans w9, i + 1, _, _, kv, rfl, w9.out h5 n5, w9.hh _ _ h5, a5'.up w9.gg, rfl⟩
  · have hi : ¬ i < (rstage h g d i).length := of_decide_eq_false hb
    have er := reachOf_of (g := g) (d := d) wf (j := i) (by omega)
    refine ⟨.ref p, rfl, k p kvs G1 H2 (s1.trans w2) hp n1 (w2.hh _ _ h1) (by show kvs.length ≤ 40000; omega) ?_⟩
    rw [er]
    exact a1
end
end DH
namespace DH
open PySem PySem.Spec PyProof.Rows L2
/-! ### served: who is served by what -/
def sp_count_all (mg : Mg) : Sp := fun vs H Q _ => ∃ G h pl ks x y, Same G H ∧ vs = [x, y] ∧ RHouse mg (h, pl) x G ∧ RL RN ks y G ∧ WfH h ∧ (∀ k ∈ ks, k < h.kinds) ∧ Ret RN (countL h ks (List.range h.deeds.length)) G H Q
def sp_uses_another (mg : Mg) : Sp := fun vs H Q _ => ∃ G e ks x y, Same G H ∧ vs = [x, y] ∧ RDeed mg e x G ∧ RL RN ks y G ∧ Ret RB (e.uses.any fun k => !ks.contains k) G H Q
def sp_bound_of (mg : Mg) : Sp := fun vs H Q _ => ∃ G h pl ks x y, Same G H ∧ vs = [x, y] ∧ RHouse mg (h, pl) x G ∧ RL RN ks y G ∧ WfH h ∧ (∀ k ∈ ks, k < h.kinds) ∧ Ret RN (Vberan.bound h ks) G H Q
def freeI (sl : List Int) (ts : List Nat) (l : List Vberan.Reach) : Int := match l.find? fun x => decide (sl.count (x.kind : Int) < ts.getD x.kind 0) with
  | some x => (x.kind : Int)
  | none => -1
def sp_first_free : Sp := fun vs H Q _ => ∃ G l p kvs sl ts y z, vs = [.ref p, y, z] ∧ Same G H ∧ G p = none ∧ H p = some (.dK kvs) ∧ AllE kI RN G (dR l) kvs ∧ RL RI sl y G ∧ RL RN ts z G ∧ (∀ x ∈ l, x.kind < ts.length) ∧ (∀ H2, Grow G H G H2 → Q (.int (freeI sl ts l)) H2)
/-- from k on back to the deed that it's for -/
def HandOk (h : Vberan.House) (l : List Vberan.Reach) (d n : Nat) (g : Vberan.Given) (k : Int) (t : Vberan.Given) (m : Nat) : Prop := (k = -1 ∧ g = t ∧ m = 0) ∨
  ∃ (kk j : Nat), k = (kk : Int) ∧ m = j + 1 ∧ ShiftInv h l d g j kk ∧ shiftAll l d kk g = t ∧ (∀ y ∈ g, y.1 < n ∧ y.1 ≠ d)
def sp_hand_on : Sp := fun vs H Q _ => ∃ G h l d n g t k m s x z, vs = [x, .ref s, z] ∧ Same G H ∧ RDI RN (dR l) x G ∧ G s = none ∧ H s = some (.lst ((servL n g).map V.int)) ∧ RI k z G ∧ d < n ∧ n ≤ 16 ∧ HandOk h l d n g k t m ∧
  ∀ G2 H2, Grow G (hide H s) G2 H2 → G2 s = none → H2 s = some (.lst ((servL n t).map V.int)) → Q .non H2
def sp_told_giving_out (mg : Mg) : Sp := fun vs H Q _ => ∃ G h pl x, Same G H ∧ vs = [x] ∧ RHouse mg (h, pl) x G ∧ WfH h ∧ Ret (RL RI) (servL h.deeds.length (Vberan.served h)) G H Q
def sp_told_set (mg : Mg) : Sp := fun vs H Q _ => ∃ G h pl x y, Same G H ∧ vs = [x, y] ∧ RHouse mg (h, pl) x G ∧ RL RI (servL h.deeds.length (Vberan.served h)) y G ∧ WfH h ∧ Ret (RL RN) (Vberan.poor h) G H Q
section
variable {K : PySem.W.Frag} {mg : Mg} {vs : List V} {H : Hp} {Q : VK} {E : XK}
theorem ev_countT {σ : L2.St} {G : Hp} {ta tb tc : TE} {h : Vberan.House} {pl : Vberan.Play} {ks gs : List Nat} (h1 : Ev ta σ G (RHouse mg) (h, pl)) (h2 : Ev tb σ G (RL RN) ks) (h3 : Ev tc σ G (RL RN) gs) (wf : WfH h) (hk : ∀ k ∈ ks, k < h.kinds) (hg : ∀ g ∈ gs, g < h.deeds.length) :
    Ev (tCall (sp_count_things mg) [] C8.E0 (tCons ta (tCons tb (tCons tc tNil)))) σ G RN (countL h ks gs) := ev_call3 h1 h2 h3 fun x y z G1 H1 Q _ s rx ry rz k => ⟨G1, h, pl, ks, gs, x, y, z, s, rfl, rx, ry, rz, wf, hk, hg, k⟩
theorem pure_count_all (T : Top K mg) (h : sp_count_all mg vs H Q E) : t_count_all K mg (sp_count_things mg) { nx := fun _ H' => Q .non H', rt := Q } (start N_count_all vs) H := by
  obtain ⟨G, h, pl, ks, x, y, s, rfl, rx, ry, wf, hk, k⟩ := h
  exact s_ret s (ev_countT (ev_var rfl rx) (ev_var rfl ry) (ef_lrange (ev_len (ev_deeds T (ev_var rfl rx))) (by have := wf.n16; show h.deeds.length ≤ 40000; omega)).ev wf hk fun g hg => List.mem_range.mp hg) k
theorem ev_countA {σ : L2.St} {G : Hp} {ta tb : TE} {h : Vberan.House} {pl : Vberan.Play} {ks : List Nat} (h1 : Ev ta σ G (RHouse mg) (h, pl)) (h2 : Ev tb σ G (RL RN) ks) (wf : WfH h) (hk : ∀ k ∈ ks, k < h.kinds) :
    Ev (tCall (sp_count_all mg) [] C8.E0 (tCons ta (tCons tb tNil))) σ G RN (countL h ks (List.range h.deeds.length)) := ev_call2 h1 h2 fun x y G1 H1 Q _ s rx ry k => ⟨G1, h, pl, ks, x, y, s, rfl, rx, ry, wf, hk, k⟩
theorem pure_uses_another (T : Top K mg) (h : sp_uses_another mg vs H Q E) : t_uses_another K mg { nx := fun _ H' => Q .non H', rt := Q } (start N_uses_another vs) H := by
  obtain ⟨G, e, ks, x, y, s, rfl, rx, ry, k⟩ := h
  refine s_ret s (ev_is (ev_any (ef_map (R := RB) (fun c => !ks.contains c) (src_list (ev_uses T (ev_var rfl rx))) ?_ (fun _ => rfl) fun a v G1 _ g r => ?_).ev) (any_id (fun c => !ks.contains c) e.uses)) k
  · obtain ⟨p, dx, n, u, g, _, _, _, ru, _⟩ := rx
    exact ru.len
  · exact ev_niN (ev_var rfl r) (ev_var rfl (Mono.up g ry))
theorem pure_bound_of (T : Top K mg) (h : sp_bound_of mg vs H Q E) : t_bound_of K mg (sp_count_all mg) (sp_uses_another mg) { nx := fun _ H' => Q .non H', rt := Q } (start N_bound_of vs) H := by
  obtain ⟨G, h, pl, ks, x, y, s, rfl, rx, ry, wf, hk, k⟩ := h
  have n16 := wf.n16
  refine q_asg s (ef_lc (R := RDeed mg) (fun e => e.uses.any fun k => !ks.contains k) id (src_list (ev_deeds T (ev_var rfl rx))) (by show h.deeds.length ≤ 40000; omega) (fun _ => rfl)
    (fun a v G1 _ g r => et_B (ev_call2 (W := RB) (c := a.uses.any fun k => !ks.contains k) (ev_var rfl r) (ev_var rfl (Mono.up g ry)) fun x y G1 H1 Q _ s rx ry k => ⟨G1, a, ks, x, y, s, rfl, rx, ry, k⟩))
    (fun a v G1 _ _ g r => ev_var rfl r)).ev fun v G2 H2 w rv => ?_
  rw [List.map_id] at rv
  exact s_ret w.gh (ev_is (ev_addN (ev_len (ev_var rfl rv)) (ev_countA (ev_var rfl (Mono.up w.gg rx)) (ev_var rfl (Mono.up w.gg ry)) wf hk)) (bound_is h ks)) (k.go w)
/-! a dict that is locked -/
theorem unlock {G H H2 : Hp} {p : Addr} {u f : HO} (s : Same G H) (n : G p = none) (hp : H p = some u) (w : Same (upd H p f) H2) : Grow G H G (upd H2 p u) := Grow.stay s fun b o e => by
  by_cases c : b = p
  · subst c
    rw [hp] at e
    rw [upd_same]
    exact e
  · rw [upd_ne c]
    exact w b o (by rw [upd_ne c]; exact e)
theorem dR_get {l : List Vberan.Reach} {kvs : List (Key × V)} {G : Hp} : AllE kI RN G (dR l) kvs → kvs.length = l.length ∧ ∀ (i : Nat) (z : Vberan.Reach), l[i]? = some z → ∃ v : V, kvs[i]? = some (kI (z.kind : Int), v) := by
  intro h
  refine ⟨by rw [h.len]; exact List.length_map _, ?_⟩
  revert kvs
  induction l with
  | nil => intro kvs h i z e; simp at e
  | cons a l ih =>
    intro kvs h i z e
    cases kvs with
    | nil => exact h.elim
    | cons q r =>
      obtain ⟨h1, _, h3⟩ := h
      cases i with
      | zero =>
        have e : a = z := by simpa using e
        rw [← e]
        exact ⟨q.2, by show some q = _; rw [← show q.1 = kI (a.kind : Int) from h1]⟩
      | succ i => exact ih h3 i z (by simpa using e)
theorem src_keysF {σ : L2.St} {G : Hp} {td : TE} {p : Addr} {od : Obj} {kvs : List (Key × V)} {l : List Vberan.Reach} (h : Ev td σ G (fun (_ : Unit) v _ => v = .ref p) ()) (hp : G p = some (.frz od (.dK kvs))) (ha : AllE kI RN G (dR l) kvs) : Src (iKeys td) σ G RI (l.map fun x => (x.kind : Int)) := fun G1 H1 g s Q q =>
  h G1 H1 g s _ fun v G2 H2 w ev => by
    obtain ⟨hl, hg⟩ := dR_get ha
    refine ⟨p, od, ev, .inl ⟨kvs, w.gh _ _ ((g.trans w.gg) _ _ hp), q _ G2 H2 w ⟨fun i H hi s2 => ⟨s2 _ _ ((g.trans w.gg) _ _ hp), ?_⟩, fun H s2 => ⟨s2 _ _ ((g.trans w.gg) _ _ hp), ?_⟩, fun i a G3 H x H' ea g3 s3 ⟨eh, k, v, ek, ex⟩ => ?_⟩⟩⟩
    · rw [List.length_map] at hi
      omega
    · rw [List.length_map]
      omega
    · subst eh
      rw [List.getElem?_map] at ea
      cases q2 : l[i]? with
      | none => rw [q2] at ea; cases ea
      | some z =>
        rw [q2] at ea
        obtain ⟨v2, e2⟩ := hg i z q2
        rw [e2] at ek
        cases (Option.some.inj ek)
        refine ⟨G3, Grow.refl s3, ?_⟩
        rw [ex]
        exact congrArg V.int (Option.some.inj ea)
theorem pure_first_free (T : Top K mg) (h : sp_first_free vs H Q E) : t_first_free K mg { nx := fun _ H' => Q .non H', rt := Q } (start N_first_free vs) H := by
  obtain ⟨G, l, p, kvs, sl, ts, y, z, rfl, s, n, hp, ha, ry, rz, hk, k⟩ := h
  refine ⟨p, .dK kvs, hp, trivial, fun od => ?_⟩
  have s' : Same (upd G p (.frz od (.dK kvs))) (upd H p (.frz od (.dK kvs))) := s.both
  have gn : Same G (upd G p (.frz od (.dK kvs))) := Same.new n
  refine s_for (Grow.refl s') (src_keysF (l := l) (fun G1 H1 g s2 Q q => ⟨.ref p, rfl, q _ G1 H1 (Grow.refl s2) rfl⟩) upd_same (ha.up gn)) hit_name
    (fun i σ' G' H' => ∃ a, σ' = [some (.ref p), some y, some z, a] ∧ ∀ x ∈ l.take i, decide (sl.count (x.kind : Int) < ts.getD x.kind 0) = false) (fun _ _ _ => ⟨none, rfl, fun x hx => by rw [List.take_zero] at hx; cases hx⟩) ?_ ?_
  · rintro i c σ1 G1 H1 hi g1 s1 ⟨a, rfl, q⟩ G2 H2 σ2 w2 ⟨v, rv, rfl⟩
    rw [List.getElem?_map] at hi
    cases hx : l[i]? with
    | none => rw [hx] at hi; cases hi
    | some x =>
      rw [hx] at hi
      cases (Option.some.inj hi)
      have g2 := gn.trans (g1.trans w2.gg)
      have hkx := hk x (List.mem_of_getElem? hx)
      refine s_if w2.gh (et_test (ev_gt (ev_n2i (ev_ix (ev_var rfl (Mono.up g2 rz)) (ev_var (R := RN) (a := x.kind) rfl rv) (getD_lt hkx))) (ev_n2i (ev_count (k := (x.kind : Int)) (ev_var rfl (Mono.up g2 ry)) (ev_var rfl rv))))) (fun hb G3 H3 w3 => ?_) (fun hb G3 H3 w3 => ?_)
      · have hb := of_decide_eq_true hb
        have e : freeI sl ts l = (x.kind : Int) := by
          unfold freeI
          rw [find_first hx (decide_eq_true (by omega)) q]
        refine s_ret w3.gh (ev_var (R := RI) (a := (x.kind : Int)) rfl rv) fun v4 G4 H4 w4 r4 => ?_
        cases (show v4 = V.int (x.kind : Int) from r4)
        have ww := ((s1.trans w2).trans w3).trans w4
        refine ⟨ww.hh _ _ upd_same, ?_⟩
        rw [← e]
        exact k _ (unlock s n hp ww.hh)
      · have hb := of_decide_eq_false hb
        refine ⟨G3, w2.gg.trans w3.gg, (s1.trans w2).trans w3, some v, rfl, fun u hu => ?_⟩
        rw [take_more hx] at hu
        rcases List.mem_append.mp hu with hu | hu
        · exact q u hu
        · rw [List.mem_singleton.mp hu]
          exact decide_eq_false (by omega)
  · rintro σ1 G1 H1 g1 s1 ⟨a, rfl, q⟩
    rw [List.length_map, List.take_length] at q
    refine ⟨s1.hh _ _ upd_same, ?_⟩
    have e : freeI sl ts l = -1 := by
      unfold freeI
      rw [find_nope q]
    show Q (.int (-1)) _
    rw [← e]
    exact k _ (unlock s n hp s1.hh)
theorem look_kind {l : List Vberan.Reach} (nd : (l.map (·.kind)).Nodup) {m : Nat} {x : Vberan.Reach} (hx : l[m]? = some x) : look (dR l) (x.kind : Int) = some x.by_ := by
  have e := find_kind nd hx
  unfold look dR
  rw [List.find?_map]
  have e2 : ((fun y : Int × Nat => decide (y.1 = (x.kind : Int))) ∘ fun z : Vberan.Reach => ((z.kind : Int), z.by_)) = fun z => z.kind == x.kind := by
    funext z
    show decide ((z.kind : Int) = (x.kind : Int)) = (z.kind == x.kind)
    by_cases c : z.kind = x.kind
    · rw [c, beq_self_eq_true, decide_eq_true rfl]
    · rw [beq_eq_false_iff_ne.mpr c]
      exact decide_eq_false (fun q => c (Int.ofNat.inj q))
  rw [e2, e]
  rfl
theorem pure_hand_on (T : Top K mg) (h : sp_hand_on vs H Q E) : t_hand_on K mg { nx := fun _ H' => Q .non H', rt := Q } (start N_hand_on vs) H := by
  obtain ⟨G, h, l, d, n, g, t, k, m, s, x, z, rfl, sm, rx, gs, hs, rz, hd, hn16, ok, kk⟩ := h
  cases (show z = V.int k from rz)
  refine s_while (G0 := G) (H0 := hide H s) (fun m' σ' G' H' => ∃ g' k' a b, σ' = [some x, some (.ref s), some (.int k'), a, b] ∧ G' s = none ∧ H' s = some (.lst ((servL n g').map V.int)) ∧ HandOk h l d n g' k' t m') m (Grow.hidden sm gs) ⟨g, k, none, none, rfl, gs, hs, ok⟩ ?_
  rintro m1 σ1 G1 H1 g1 s1 ⟨g', k', a, b, rfl, n1, h1, ok1⟩
  refine ⟨decide (k' ≠ -1), et_test (ev_ne (ev_var (R := RI) rfl rfl) ev_int), fun hb G2 H2 w2 => ?_, fun hb G2 H2 w2 => ?_⟩
  · have hb : k' ≠ -1 := of_decide_eq_true hb
    rcases ok1 with ⟨e, _, _⟩ | ⟨kk', j, rfl, rfl, sh, et, hg⟩
    · exact absurd e hb
    · obtain ⟨xr, hx, ek, alt⟩ := shiftAll_turn sh
      have n2 := w2.out h1 n1
      have h2 := w2.hh _ _ h1
      have hby : xr.by_ < n := by
        rcases alt with ⟨e, _⟩ | ⟨_, _, k2, _, hm, _⟩
        · rw [e]; exact hd
        · exact (hg _ hm).1
      refine q_asg w2.gh (ev_dgetI (b := xr.by_) (ev_var rfl (Mono.up (g1.trans w2.gg) rx)) (ev_var (R := RI) (a := (kk' : Int)) rfl rfl) (by rw [← ek]; exact look_kind sh.nd hx)) fun v3 G3 H3 w3 r3 => ?_
      cases (show v3 = V.int (xr.by_ : Int) from r3)
      have n3 := w3.out h2 n2
      have h3 := w3.hh _ _ h2
      have rs : RL RI (servL n g') (.ref s) (upd G3 s (.lst ((servL n g').map V.int))) := ⟨s, _, rfl, upd_same, by
        rw [List.length_map]
        unfold servL
        rw [List.length_map, List.length_range]
        show n ≤ 40000
        omega, all2_int.mpr rfl⟩
      refine q_asgI (z := kindOf g' xr.by_) w3.gh h3 (ev_ix (ev_var (i := 1) rfl rs) (ev_var (i := 3) (R := RN) (a := xr.by_) rfl rfl) (servL_get hby)) fun H4 w4 => ?_
      have h4 := w4.hh _ _ h3
      refine s_setL (i := 1) (R := RI) (a := (kk' : Int)) (j := xr.by_) w4.gh rfl h4 n3 (ev_var (i := 2) (R := RI) rfl rfl) (ev_var (i := 3) (R := RN) rfl rfl) (by rw [List.length_map, servL_len]; exact hby) fun v5 G5 H5 w5 n5 r5 s5 => ?_
      cases (show v5 = V.int (kk' : Int) from r5)
      refine s_asg s5 (ev_var (i := 4) (R := RI) (a := kindOf g' xr.by_) rfl rfl) fun v6 G6 H6 w6 r6 => ?_
      cases (show v6 = V.int (kindOf g' xr.by_) from r6)
      have wall : Grow G (hide H s) G6 H6 := ((((s1.trans w2).trans w3).trans w4).trans w5 |>.mutd hide_p n5).trans w6
      have n6 := w6.out upd_same n5
      have h6 := w6.hh s _ upd_same
      rcases alt with ⟨eb, e2⟩ | ⟨nb, j2, k2, j1, hm, sh2, e2⟩
      · have hno : ∀ y ∈ g', y.1 ≠ d := fun y hy => (hg y hy).2
        refine ⟨G6, 0, by omega, (w2.gg.trans w3.gg).trans (w5.gg.trans w6.gg), wall, g' ++ [(d, kk')], kindOf g' xr.by_, _, _, rfl, n6, ?_, .inl ⟨by rw [eb]; exact kindOf_none hno, by rw [← e2]; exact et, rfl⟩⟩
        rw [h6, servL_app sh.keys hno, List.map_set, eb]
      · refine ⟨G6, j2 + 1, by omega, (w2.gg.trans w3.gg).trans (w5.gg.trans w6.gg), wall, give g' xr.by_ kk', kindOf g' xr.by_, _, _, rfl, n6, ?_, .inr ⟨k2, j2, kindOf_of sh.keys hm, rfl, sh2, by rw [← e2]; exact et, fun y hy => ?_⟩⟩
        · rw [h6, servL_give sh.keys hm, List.map_set]
        · rcases mem_give hy with ⟨e1, _⟩ | ⟨e1, _⟩
          · rw [e1]
            exact ⟨hby, nb⟩
          · exact hg y e1
  · have hb : k' = -1 := by
      have := of_decide_eq_false hb
      exact Decidable.not_not.mp this
    rcases ok1 with ⟨_, e, _⟩ | ⟨kk', j, e, _⟩
    · rw [e] at h1
      exact kk G2 H2 (s1.trans w2) (w2.out h1 n1) (w2.hh _ _ h1)
    · omega
end
end DH
namespace DH
open PySem PySem.Spec PyProof.Rows L2
/-! ### the told giving out, the told set -/
theorem find_congr {α : Type} {p q : α → Bool} : ∀ {l : List α}, (∀ z ∈ l, p z = q z) → l.find? p = l.find? q
  | [], _ => rfl
  | a :: l, h => by
    rw [List.find?_cons, List.find?_cons, h a List.mem_cons_self, find_congr fun z hz => h z (List.mem_cons_of_mem _ hz)]
theorem servL_nil (n : Nat) : servL n [] = List.replicate n (-1) := by
  refine List.eq_replicate_iff.mpr ⟨servL_len, fun b hb => ?_⟩
  unfold servL at hb
  obtain ⟨e, _, rfl⟩ := List.mem_map.mp hb
  rfl
theorem reach_row {h : Vberan.House} (wf : WfH h) (g : Vberan.Given) (d : Nat) : ReachInv h g d (h.kinds + 1) (Vberan.reachOf h g d) := by
  rw [reachOf_stage]
  exact rstage_inv wf _
theorem hand_start {h : Vberan.House} (wf : WfH h) {d : Nat} (hd : d < h.deeds.length) {ts : List Nat} (ht : ts = (List.range h.kinds).map (Vberan.total h)) :
    ∃ m, HandOk h (Vberan.reachOf h (servedTo h d) d) d h.deeds.length (servedTo h d) (freeI (servL h.deeds.length (servedTo h d)) ts (Vberan.reachOf h (servedTo h d) d)) (servedTo h (d + 1)) m := by
  have gi := servedTo_inv wf d
  have rr := reach_row wf (servedTo h d) d
  have e : (Vberan.reachOf h (servedTo h d) d).find? (fun x => decide ((servL h.deeds.length (servedTo h d)).count (x.kind : Int) < ts.getD x.kind 0)) = freeAt h (servedTo h d) (Vberan.reachOf h (servedTo h d) d) := by
    unfold freeAt
    refine find_congr fun z hz => ?_
    have hk := rr.lt z hz
    have e1 : ts.getD z.kind 0 = Vberan.total h z.kind := by
      rw [ht, List.getD_eq_getElem?_getD, List.getElem?_map, List.getElem?_range hk]
      rfl
    rw [e1, used_count gi (Nat.le_of_lt hd)]
  unfold freeI
  rw [e]
  have es := servedTo_succ h d
  cases q : freeAt h (servedTo h d) (Vberan.reachOf h (servedTo h d) d) with
  | none =>
    rw [serve_none q] at es
    refine ⟨0, .inl ⟨rfl, ?_, rfl⟩⟩
    rw [es]
    split <;> rfl
  | some x =>
    obtain ⟨e2, m, sh⟩ := serve_some wf gi q
    have hne : ¬ (Vberan.deedAt h d).uses.isEmpty = true := fun z => by
      have zu : (Vberan.deedAt h d).uses = [] := List.isEmpty_iff.mp z
      have : Vberan.reachOf h (servedTo h d) d = rstage h (servedTo h d) d 0 := reachOf_of wf (by unfold rstage; rw [zu]; exact Nat.le_refl _)
      unfold freeAt at q
      have hm := List.mem_of_find?_eq_some q
      rw [this] at hm
      unfold rstage at hm
      rw [zu] at hm
      cases hm
    rw [if_neg hne, e2] at es
    exact ⟨m + 1, .inr ⟨x.kind, m, rfl, rfl, sh, by rw [es]; rfl, fun y hy => ⟨Nat.lt_trans (gi.lt y hy) hd, Nat.ne_of_lt (gi.lt y hy)⟩⟩⟩
/-- a dict just made, walked -/
theorem src_keysN {σ : L2.St} {G : Hp} {td : TE} {l : List Vberan.Reach} (h : ∀ G1 H1, Same G G1 → Same G1 H1 → ∀ Q, RetD (dR l) G1 H1 Q → td σ H1 Q) : Src (iKeysN td) σ G RI (l.map fun x => (x.kind : Int)) := fun G1 H1 g s Q q =>
  h G1 H1 g s _ fun p kvs G2 H2 w hn gn hp _ ha => by
    obtain ⟨hl, hg⟩ := dR_get ha
    refine ⟨p, kvs, rfl, hp, fun od => q _ (upd G2 p (.frz od (.dK kvs))) _ ((w.mutd hn gn).show_ hn upd_same) ⟨fun i H hi s2 => ⟨s2 _ _ upd_same, ?_⟩, fun H s2 => ⟨s2 _ _ upd_same, ?_⟩, fun i a G3 H x H' ea g3 s3 ⟨eh, k, v, ek, ex⟩ => ?_⟩⟩
    · rw [List.length_map] at hi
      omega
    · rw [List.length_map]
      omega
    · subst eh
      rw [List.getElem?_map] at ea
      cases q2 : l[i]? with
      | none => rw [q2] at ea; cases ea
      | some z =>
        rw [q2] at ea
        obtain ⟨v2, e2⟩ := hg i z q2
        rw [e2] at ek
        cases (Option.some.inj ek)
        refine ⟨G3, Grow.refl s3, ?_⟩
        rw [ex]
        exact congrArg V.int (Option.some.inj ea)
def tt (ks : List Nat) : List (Int × Bool) := ks.map fun k : Nat => ((k : Int), true)
theorem put_tt (ks : List Nat) (k : Nat) : put (tt ks) (k : Int) true = tt (if k ∈ ks then ks else ks ++ [k]) := by
  have ha : ((tt ks).any fun y => decide (y.1 = (k : Int))) = decide (k ∈ ks) := by
    unfold tt
    rw [List.any_map, Bool.eq_iff_iff, List.any_eq_true, decide_eq_true_eq]
    constructor
    · rintro ⟨x, hx, e⟩
      have e : (x : Int) = (k : Int) := of_decide_eq_true e
      rw [← Int.ofNat.inj e]
      exact hx
    · exact fun hk => ⟨k, hk, decide_eq_true rfl⟩
  unfold put
  rw [ha]
  by_cases c : k ∈ ks
  · rw [if_pos (decide_eq_true c), if_pos c]
    unfold tt
    rw [List.map_map]
    refine List.map_congr_left fun x _ => ?_
    show (if (x : Int) = (k : Int) then ((x : Int), true) else ((x : Int), true)) = _
    split <;> rfl
  · rw [if_neg (by rw [decide_eq_false c]; decide), if_neg c]
    unfold tt
    rw [List.map_append]
    rfl
theorem tt_keys {ks : List Nat} {kvs : List (Key × V)} {G : Hp} : AllE kI RB G (tt ks) kvs → kvs.map (·.1) = (ks.map Int.ofNat).map Sum.inl := by
  revert kvs
  induction ks with
  | nil => intro kvs h; cases kvs with
    | nil => rfl
    | cons _ _ => exact h.elim
  | cons a ks ih => intro kvs h; cases kvs with
    | nil => exact h.elim
    | cons q r =>
      obtain ⟨h1, _, h3⟩ := h
      rw [List.map_cons, ih h3, h1] <;> rfl
section
variable {K : PySem.W.Frag} {mg : Mg} {vs : List V} {H : Hp} {Q : VK} {E : XK}
theorem pure_told_giving_out (T : Top K mg) (h : sp_told_giving_out mg vs H Q E) : t_told_giving_out K mg (sp_count_all mg) sp_first_free sp_hand_on (sp_row_of_kinds mg) { nx := fun _ H' => Q .non H', rt := Q } (start N_told_giving_out vs) H := by
  obtain ⟨G, h, pl, x, s, rfl, rx, wf, k⟩ := h
  have n16 := wf.n16
  refine q_asg s (ev_deeds T (ev_var rfl rx)) fun v1 G1 H1 w1 r1 => ?_
  have rx1 := Mono.up w1.gg rx
  refine q_asg w1.gh (ef_map (R := RN) (Vberan.total h) (src_range (ev_len (ev_first T (ev_var rfl rx1))) (by show h.first.length ≤ 40000; rw [wf.fl]; have := wf.k5; omega)) (by rw [List.length_range]; show h.first.length ≤ 40000; rw [wf.fl]; have := wf.k5; omega) (fun _ => rfl)
    fun a v G2 ha g r => ev_is (ev_countA (ev_var rfl (Mono.up g rx1)) (ef_one (ev_var rfl r)).ev wf fun k hk => by rw [List.mem_singleton.mp hk, ← wf.fl]; exact List.mem_range.mp ha) (total_is h a).symm).ev fun v2 G2 H2 w2 r2 => ?_
  have r2 : RL RN ((List.range h.kinds).map (Vberan.total h)) v2 G2 := by
    have e : (h, pl).1.first.length = h.kinds := wf.fl
    rw [e] at r2
    exact r2
  have w02 := w1.trans w2
  refine q_asgF w2.gh (ef_rep (R := RI) (a := -1) (ef_one ev_int) (ev_len (ev_var rfl (Mono.up w2.gg r1))) (by show h.deeds.length ≤ 40000; omega)) fun p xs G3 H3 w3 hp gp h3 hl ha => ?_
  have e3 : xs = (servL h.deeds.length (servedTo h 0)).map V.int := by
    have e0 : servedTo h 0 = [] := rfl
    rw [e0, servL_nil]
    exact all2_int.mp ha
  rw [e3] at h3
  have w03 := w02.trans w3
  have hp0 : H p = none := w02.hh.free hp
  refine q_for (G0 := G) (H0 := H) w03 (src_range (ev_len (ev_var rfl (Mono.up (w2.gg.trans w3.gg) r1))) (by show h.deeds.length ≤ 40000; omega)) hit_name
    (fun i σ' G' H' => ∃ a b c, σ' = [some x, some v1, some v2, some (.ref p), a, b, c] ∧ G' p = none ∧ H' p = some (.lst ((servL h.deeds.length (servedTo h i)).map V.int)))
    (fun G4 H4 w4 => ⟨none, none, none, rfl, w4.out h3 gp, w4.hh _ _ h3⟩) ?_ ?_
  · rintro i c σ1 G4 H4 hic g4 s4 ⟨a, b, cc, rfl, n4, h4⟩ G5 H5 σ2 w5 ⟨u, ru, rfl⟩
    have hi : i < h.deeds.length := by
      have q := (List.getElem?_eq_some_iff.mp hic).1
      rw [List.length_range] at q
      exact q
    rw [List.getElem?_range hi] at hic
    cases hic
    have g5 : Same G G5 := w03.gg.trans (g4.trans w5.gg)
    have n5 := w5.out h4 n4
    have h5 := w5.hh _ _ h4
    have r15 : RL (RDeed mg) h.deeds v1 G5 := Mono.up (w2.gg.trans (w3.gg.trans (g4.trans w5.gg))) r1
    have r25 : RL RN ((List.range h.kinds).map (Vberan.total h)) v2 G5 := Mono.up (w3.gg.trans (g4.trans w5.gg)) r2
    have gn : Same G5 (upd G5 p (.lst ((servL h.deeds.length (servedTo h i)).map V.int))) := Same.new n5
    have rs : RL RI (servL h.deeds.length (servedTo h i)) (.ref p) (upd G5 p (.lst ((servL h.deeds.length (servedTo h i)).map V.int))) := ⟨p, _, rfl, upd_same, by rw [List.length_map, servL_len]; show _ ≤ 40000; omega, all2_int.mpr rfl⟩
    have gi : GInv h h.deeds.length (servedTo h i) := (servedTo_inv wf i).more (Nat.le_of_lt hi)
    have rr := reach_row wf (servedTo h i) i
    refine ⟨v1, rfl, .ref p, rfl, u, rfl, upd G5 p _, h, servedTo h i, i, v1, .ref p, u, rfl, Same.seen w5.gh h5, Mono.up gn r15, rs, ru, hi, wf, gi, fun q kvs G6 H6 w6 hq _ hq6 hl6 a6 => ?_⟩
    have h6 := w6.hh _ _ h5
    have qp : q ≠ p := fun e => by rw [e, h5] at hq; cases hq
    have gq := w5.gh.free hq
    have s6 : Same G5 H6 := w5.gh.trans w6.hh
    obtain ⟨m, ok⟩ := hand_start wf hi (ts := (List.range h.kinds).map (Vberan.total h)) rfl
    refine ⟨.ref q, rfl, .ref p, rfl, .ref q, rfl, .ref p, rfl, v2, rfl, upd G5 p _, Vberan.reachOf h (servedTo h i) i, q, kvs, _, _, .ref p, v2, rfl, Same.seen s6 h6, by rw [upd_ne qp]; exact gq, hq6, a6.free rn_free, rs, Mono.up gn r25, fun z hz => by rw [List.length_map, List.length_range]; exact rr.lt z hz, fun H7 w7 => ?_⟩
    have hq7 := w7.hh _ _ hq6
    have h7 := w7.hh _ _ h6
    have s7 : Same G5 H7 := s6.trans w7.hh
    have w07 : Grow G H G5 H7 := ((s4.trans w5).trans (Grow.stay w5.gh w6.hh)).trans (Grow.stay s6 w7.hh)
    have hq0 : H q = none := (s4.trans w5).hh.free hq
    have w07' : Grow G H (upd G5 q (.dK kvs)) H7 := w07.show_ hq0 hq7
    refine ⟨upd G5 q (.dK kvs), h, Vberan.reachOf h (servedTo h i) i, i, h.deeds.length, servedTo h i, servedTo h (i + 1), _, m, p, .ref q, _, rfl, w07'.gh, ⟨q, kvs, rfl, upd_same, hl6, a6.free rn_free⟩, by rw [upd_ne (Ne.symm qp)]; exact n5, h7, rfl, hi, n16, ok, fun G8 H8 w8 n8 h8 => ?_⟩
    exact ⟨G8, w5.gg.trans ((Same.new gq).trans w8.gg), w07'.thru hp0 w8, some u, some (.ref q), cc, rfl, n8, h8⟩
  · rintro σ1 G4 H4 g4 s4 ⟨a, b, c, rfl, n4, h4⟩
    rw [List.length_range] at h4
    rw [← served_is wf] at h4
    exact s_retB (l := servL h.deeds.length (Vberan.served h)) s4 hp0 rfl h4 (by rw [List.length_map, servL_len]; show _ ≤ 40000; omega) n4 (all2_int.mpr rfl) k.fresh
theorem pure_told_set (T : Top K mg) (h : sp_told_set mg vs H Q E) : t_told_set K mg (sp_row_of_kinds mg) { nx := fun _ H' => Q .non H', rt := Q } (start N_told_set vs) H := by
  obtain ⟨G, h, pl, x, y, s, rfl, rx, ry, wf, k⟩ := h
  have n16 := wf.n16
  have gi : GInv h h.deeds.length (Vberan.served h) := by
    rw [served_is wf]
    exact servedTo_inv wf _
  refine q_newD s fun p H2 hp gp w h2 => ?_
  refine q_for (G0 := G) (H0 := H) w (src_range (ev_len (ev_deeds T (ev_var rfl (Mono.up w.gg rx)))) (by show h.deeds.length ≤ 40000; omega)) hit_name
    (fun i σ' G' H' => ∃ (a b : Option V) (ks : List Nat) (kvs : List (Key × V)), σ' = [some x, some y, some (.ref p), a, b] ∧ G' p = none ∧ H' p = some (.dK kvs) ∧ AllE kI RB G' (tt ks) kvs ∧ ks.Nodup ∧ (∀ c ∈ ks, c < h.kinds) ∧
      ∀ c, c ∈ ks ↔ ∃ d, d < i ∧ kindOf (Vberan.served h) d = -1 ∧ ∃ z ∈ Vberan.reachOf h (Vberan.served h) d, z.kind = c)
    (fun G3 H3 w3 => ⟨none, none, [], [], rfl, w3.out h2 gp, w3.hh _ _ h2, trivial, List.nodup_nil, (fun c hc => nomatch hc), fun c => ⟨fun hc => (nomatch hc), fun ⟨d, hd, _⟩ => absurd hd (Nat.not_lt_zero d)⟩⟩) ?_ ?_
  · rintro i c σ1 G3 H3 hic g3 s3 ⟨a, b, ks, kvs, rfl, n3, h3, a3, nd3, lt3, mem3⟩ G4 H4 σ2 w4 ⟨u, ru, rfl⟩
    have hi : i < h.deeds.length := by
      have q := (List.getElem?_eq_some_iff.mp hic).1
      rw [List.length_range] at q
      exact q
    rw [List.getElem?_range hi] at hic
    cases hic
    have g4 : Same G G4 := w.gg.trans (g3.trans w4.gg)
    have ru' : ∀ G', RN i u G' := fun _ => ru
    have rr := reach_row wf (Vberan.served h) i
    refine s_if w4.gh (et_test (ev_eq (i := kindOf (Vberan.served h) i) (j := -1) (ev_ix (ev_var rfl (Mono.up g4 ry)) (ev_var rfl (ru' G4)) (servL_get hi)) ev_int)) (fun hb G5 H5 w5 => ?_) (fun hb G5 H5 w5 => ?_)
    · have hb : kindOf (Vberan.served h) i = -1 := of_decide_eq_true hb
      have h5 := (w4.trans w5).hh _ _ h3
      have n5 := (w4.trans w5).out h3 n3
      have g5 := g4.trans w5.gg
      refine s_for (G0 := G) (H0 := H) ((s3.trans w4).trans w5) (src_keysN (l := Vberan.reachOf h (Vberan.served h) i) fun G6 H6 g6 s6 Q6 q6 => by
          dsimp only [tCall, tCons]
          exact ev_deeds T (ev_var (i := 0) rfl (Mono.up g5 rx)) G6 H6 g6 s6 _ fun vd G7 H7 w7 rd => ⟨y, rfl, u, rfl, G7, h, Vberan.served h, i, vd, y, u, rfl, w7.gh, rd, Mono.up (g5.trans (g6.trans w7.gg)) ry, ru' G7, hi, wf, gi, fun q kv G8 H8 w8 hq gq hq8 hl8 a8 => q6 q kv G8 H8 (w7.trans w8) (w7.hh.free hq) gq hq8 hl8 a8⟩) hit_name
        (fun j σ' G' H' => ∃ (b : Option V) (ks' : List Nat) (kvs : List (Key × V)), σ' = [some x, some y, some (.ref p), some u, b] ∧ G' p = none ∧ H' p = some (.dK kvs) ∧ AllE kI RB G' (tt ks') kvs ∧ ks'.Nodup ∧ (∀ c ∈ ks', c < h.kinds) ∧
          ∀ c, c ∈ ks' ↔ c ∈ ks ∨ ∃ z ∈ (Vberan.reachOf h (Vberan.served h) i).take j, z.kind = c)
        (fun G6 H6 w6 => ⟨b, ks, kvs, rfl, w6.out h5 n5, w6.hh _ _ h5, a3.up ((w4.trans w5).gg.trans w6.gg), nd3, lt3, fun c => ⟨.inl, fun z => z.resolve_right fun ⟨z, hz, _⟩ => by rw [List.take_zero] at hz; cases hz⟩⟩) ?_ ?_
      · rintro j cz σ3 G6 H6 hj g6 s6 ⟨b2, ks', kvs', rfl, n6, h6, a6, nd6, lt6, mem6⟩ G7 H7 σ4 w7 ⟨v, rv, rfl⟩
        rw [List.getElem?_map] at hj
        cases hz : (Vberan.reachOf h (Vberan.served h) i)[j]? with
        | none => rw [hz] at hj; cases hj
        | some z =>
          rw [hz] at hj
          cases (Option.some.inj hj)
          have kl : kvs'.length ≤ 5 := by
            rw [a6.len]
            unfold tt
            rw [List.length_map]
            exact Nat.le_trans (nodup_lt h.kinds ks' nd6 lt6) wf.k5
          refine s_putI (i := 2) (S := RB) (b := true) (j := (z.kind : Int)) w7.gh rfl (w7.hh _ _ h6) (w7.out h6 n6) (a6.up w7.gg) (by omega) ev_bl (ev_var (R := RI) (a := (z.kind : Int)) rfl rv) fun G8 H8 kv8 w8 n8 a8 s8 => ?_
          rw [put_tt] at a8
          refine ⟨G8, w7.gg.trans w8.gg, ((s6.trans w7).trans w8).mutd hp n8, some v, _, kv8, rfl, n8, upd_same, a8, ?_, ?_, fun c => ?_⟩
          · split
            · exact nd6
            · rename_i hn
              rw [List.nodup_append]
              exact ⟨nd6, by simp, fun a ha b hb e => hn (by rw [← List.mem_singleton.mp hb, ← e]; exact ha)⟩
          · intro c hc
            split at hc
            · exact lt6 c hc
            · rcases List.mem_append.mp hc with hc | hc
              · exact lt6 c hc
              · rw [List.mem_singleton.mp hc]
                exact rr.lt z (List.mem_of_getElem? hz)
          · rw [take_more hz]
            constructor
            · intro hc
              have : c ∈ ks' ∨ c = z.kind := by
                split at hc
                · exact .inl hc
                · rcases List.mem_append.mp hc with hc | hc
                  · exact .inl hc
                  · exact .inr (List.mem_singleton.mp hc)
              rcases this with q | q
              · rcases (mem6 c).mp q with q | ⟨z2, hz2, e⟩
                · exact .inl q
                · exact .inr ⟨z2, List.mem_append_left _ hz2, e⟩
              · exact .inr ⟨z, List.mem_append_right _ (List.mem_singleton.mpr rfl), q.symm⟩
            · intro hc
              have : c ∈ ks' ∨ c = z.kind := by
                rcases hc with q | ⟨z2, hz2, e⟩
                · exact .inl ((mem6 c).mpr (.inl q))
                · rcases List.mem_append.mp hz2 with q | q
                  · exact .inl ((mem6 c).mpr (.inr ⟨z2, q, e⟩))
                  · rw [List.mem_singleton.mp q] at e
                    exact .inr e.symm
              split
              · rename_i hin
                rcases this with q | q
                · exact q
                · rw [q]; exact hin
              · rcases this with q | q
                · exact List.mem_append_left _ q
                · exact List.mem_append_right _ (List.mem_singleton.mpr q)
      · rintro σ3 G6 H6 g6 s6 ⟨b2, ks', kvs', rfl, n6, h6, a6, nd6, lt6, mem6⟩
        rw [List.length_map, List.take_length] at mem6
        refine ⟨G6, w4.gg.trans (w5.gg.trans g6), s6, some u, b2, ks', kvs', rfl, n6, h6, a6, nd6, lt6, fun c => (mem6 c).trans ?_⟩
        constructor
        · rintro (q | ⟨z, hz, e⟩)
          · obtain ⟨d, hd, r⟩ := (mem3 c).mp q
            exact ⟨d, Nat.lt_succ_of_lt hd, r⟩
          · exact ⟨i, Nat.lt_succ_self i, hb, z, hz, e⟩
        · rintro ⟨d, hd, hk, z, hz, e⟩
          rcases Nat.lt_succ_iff_lt_or_eq.mp hd with q | q
          · exact .inl ((mem3 c).mpr ⟨d, q, hk, z, hz, e⟩)
          · rw [q] at hz
            exact .inr ⟨z, hz, e⟩
    · have hb : ¬ kindOf (Vberan.served h) i = -1 := of_decide_eq_false hb
      refine ⟨G5, w4.gg.trans w5.gg, (s3.trans w4).trans w5, some u, b, ks, kvs, rfl, (w4.trans w5).out h3 n3, (w4.trans w5).hh _ _ h3, a3.up (w4.trans w5).gg, nd3, lt3, fun c => (mem3 c).trans ?_⟩
      constructor
      · rintro ⟨d, hd, r⟩
        exact ⟨d, Nat.lt_succ_of_lt hd, r⟩
      · rintro ⟨d, hd, hk, r⟩
        rcases Nat.lt_succ_iff_lt_or_eq.mp hd with q | q
        · exact ⟨d, q, hk, r⟩
        · rw [q] at hk
          exact absurd hk hb
  · rintro σ1 G3 H3 g3 s3 ⟨a, b, ks, kvs, rfl, n3, h3, a3, nd3, lt3, mem3⟩
    rw [List.length_range] at mem3
    have kl : ks.length ≤ 5 := Nat.le_trans (nodup_lt h.kinds ks nd3 lt3) wf.k5
    refine ⟨.ref p, rfl, p, kvs, ks.map Int.ofNat, rfl, .inl h3, tt_keys a3, by rw [List.length_map]; omega, fun ns r hP hS hr => ?_⟩
    have hpos : ∀ z ∈ ns, ∃ n : Nat, z = (n : Int) := fun z hz => by
      obtain ⟨n, _, e⟩ := List.mem_map.mp (hP.mem_iff.mp hz)
      exact ⟨n, e.symm⟩
    have e1 : (ns.map Int.toNat).map Int.ofNat = ns := by
      rw [List.map_map]
      conv => rhs; rw [← List.map_id ns]
      refine List.map_congr_left fun z hz => ?_
      obtain ⟨n, rfl⟩ := hpos z hz
      rfl
    have hperm : (ns.map Int.toNat).Perm ks := by
      have z := hP.map Int.toNat
      rw [map_ofNat_toNat] at z
      exact z
    have hle : (ns.map Int.toNat).Pairwise (· ≤ ·) := by
      rw [List.pairwise_map]
      exact hS.imp fun {a b} hab => Int.toNat_le_toNat hab
    have hnd : (ns.map Int.toNat).Nodup := hperm.nodup_iff.mpr nd3
    have hlt : (ns.map Int.toNat).Pairwise (· < ·) := (hle.and hnd).imp fun ⟨h1, h2⟩ => Nat.lt_of_le_of_ne h1 h2
    have e2 : ns.map Int.toNat = Vberan.poor h := poor_ext wf hlt fun c => by
      rw [hperm.mem_iff, mem3 c, served_is wf]
    refine k.go s3 (.ref r) (upd G3 r (.lst (ns.map V.int))) _ (Grow.new s3.gh hr) ⟨r, ns.map V.int, rfl, upd_same, ?_, ?_⟩
    · rw [List.length_map, hP.length_eq, List.length_map]
      show _ ≤ 40000
      omega
    · rw [← e1, e2]
      exact all2_nat.mpr rfl
end
end DH
namespace DH
open PySem PySem.Spec PyProof.Rows L2
/-! ### the row's entries -/
def fEntry (a b c d : V) : List (Str × V) := [("play", a), ("origin", b), ("taken", c), ("onward", d)]
theorem lk_4 {k g f e : Str} {u w z v : V} {r : List (Str × V)} (h : (k == g) = false) (h2 : (k == f) = false) (h3 : (k == e) = false) : List.lookup k ((g, u) :: (f, w) :: (e, z) :: (k, v) :: r) = some v := (lk_past h).trans (lk_3 h2 h3)
def REntry (mg : Mg) : Rel En := fun e v H => ∃ p dx a b c d, v = .ref p ∧ H p = some (.ins (adr mg "Entry") dx (fEntry a b c d)) ∧ RPlay mg e.play a H ∧ RN e.origin b H ∧ RO (RP RN RI) e.taken c H ∧ RL RN e.onward d H
/-- .. its list of places not known -/
structure E0 where
  play : Vberan.Play
  origin : Nat
  taken : Option (Nat × Int)
  o : Addr
def RE0 (mg : Mg) : Rel E0 := fun e v H => ∃ p dx a b c, v = .ref p ∧ H p = some (.ins (adr mg "Entry") dx (fEntry a b c (.ref e.o))) ∧ RPlay mg e.play a H ∧ RN e.origin b H ∧ RO (RP RN RI) e.taken c H
instance (mg : Mg) : Mono (REntry mg) := ⟨fun e ⟨p, dx, a, b, c, d, ev, hp, h1, h2, h3, h4⟩ => ⟨p, dx, a, b, c, d, ev, e _ _ hp, Mono.up e h1, h2, Mono.up e h3, Mono.up e h4⟩⟩
instance (mg : Mg) : Mono (RE0 mg) := ⟨fun e ⟨p, dx, a, b, c, ev, hp, h1, h2, h3⟩ => ⟨p, dx, a, b, c, ev, e _ _ hp, Mono.up e h1, h2, Mono.up e h3⟩⟩
section
variable {K : PySem.W.Frag} {mg : Mg} {σ : L2.St} {G : Hp} {te : TE} {e : En}
theorem ev_eplay (T : Top K mg) (h : Ev te σ G (REntry mg) e) : Ev (tFld K te "play") σ G (RPlay mg) e.play :=
  ev_fld h fun v G1 _ ⟨p, dx, a, b, c, d, ev, hp, h1, h2, h3, h4⟩ => ⟨p, _, dx, _, a, ev, hp, T.c_Entry, T.n_Entry_play, lk_here, h1⟩
theorem ev_eorigin (T : Top K mg) (h : Ev te σ G (REntry mg) e) : Ev (tFld K te "origin") σ G RN e.origin :=
  ev_fld h fun v G1 _ ⟨p, dx, a, b, c, d, ev, hp, h1, h2, h3, h4⟩ => ⟨p, _, dx, _, b, ev, hp, T.c_Entry, T.n_Entry_origin, lk_2 (by decide +kernel), h2⟩
theorem ev_etaken (T : Top K mg) (h : Ev te σ G (REntry mg) e) : Ev (tFld K te "taken") σ G (RO (RP RN RI)) e.taken :=
  ev_fld h fun v G1 _ ⟨p, dx, a, b, c, d, ev, hp, h1, h2, h3, h4⟩ => ⟨p, _, dx, _, c, ev, hp, T.c_Entry, T.n_Entry_taken, lk_3 (by decide +kernel) (by decide +kernel), h3⟩
theorem ev_eonward (T : Top K mg) (h : Ev te σ G (REntry mg) e) : Ev (tFld K te "onward") σ G (RL RN) e.onward :=
  ev_fld h fun v G1 _ ⟨p, dx, a, b, c, d, ev, hp, h1, h2, h3, h4⟩ => ⟨p, _, dx, _, d, ev, hp, T.c_Entry, T.n_Entry_onward, lk_4 (by decide +kernel) (by decide +kernel) (by decide +kernel), h4⟩
theorem ev_eplay0 (T : Top K mg) {e : E0} (h : Ev te σ G (RE0 mg) e) : Ev (tFld K te "play") σ G (RPlay mg) e.play :=
  ev_fld h fun v G1 _ ⟨p, dx, a, b, c, ev, hp, h1, h2, h3⟩ => ⟨p, _, dx, _, a, ev, hp, T.c_Entry, T.n_Entry_play, lk_here, h1⟩
end
def sp_Entry_init (mg : Mg) : Sp := fun vs H Q _ => ∃ p dx a b c, vs = [.ref p, a, b, c] ∧ H p = some (.ins (adr mg "Entry") dx []) ∧ ∀ H' o, H' p = some (.ins (adr mg "Entry") dx (fEntry a b c (.ref o))) → H' o = some (.lst []) → H o = none → o ≠ p → (∀ b u, H b = some u → b ≠ p → H' b = some u) → Q .non H'
/-- what only this play has -/
def RMk : Rel NK := fun k v H => ∃ b, v = .ref b ∧ KeyAt H b k
instance : Mono RMk := ⟨fun e ⟨b, h1, h2⟩ => ⟨b, h1, h2.up fun c u q => e c _ q⟩⟩
def markOf (p : Vberan.Play) : NK := (p.done, p.things)
def sp_mark_of (mg : Mg) : Sp := fun vs H Q _ => ∃ G p x, Same G H ∧ vs = [x] ∧ RPlay mg p x G ∧ Ret RMk (markOf p) G H Q
section
variable {K : PySem.W.Frag} {mg : Mg} {vs : List V} {H : Hp} {Q : VK} {E : XK}
theorem putE (a b c d : V) : putF "onward" d (putF "taken" c (putF "origin" b (putF "play" a []))) = fEntry a b c d := by
  have e1 : putF "origin" b (putF "play" a []) = ([("play", a), ("origin", b)] : List (Str × V)) := put_past (by decide +kernel)
  have e2 : putF "taken" c ([("play", a), ("origin", b)] : List (Str × V)) = ([("play", a), ("origin", b), ("taken", c)] : List (Str × V)) := (put_past (by decide +kernel)).trans (congrArg _ (put_past (by decide +kernel)))
  rw [e1, e2]
  exact (put_past (by decide +kernel)).trans (congrArg _ ((put_past (by decide +kernel)).trans (congrArg _ (put_past (by decide +kernel)))))
theorem pure_Entry_init (T : Top K mg) (h : sp_Entry_init mg vs H Q E) : t_Entry_init K mg { nx := fun _ H' => Q .non H', rt := Q } (start N_Entry_init vs) H := by
  obtain ⟨p, dx, a, b, c, rfl, hp, k⟩ := h
  have e1 : putF "origin" b (putF "play" a []) = ([("play", a), ("origin", b)] : List (Str × V)) := put_past (by decide +kernel)
  have e2 : putF "taken" c (putF "origin" b (putF "play" a [])) = ([("play", a), ("origin", b), ("taken", c)] : List (Str × V)) := by
    rw [e1]
    exact (put_past (by decide +kernel)).trans (congrArg _ (put_past (by decide +kernel)))
  refine ⟨a, rfl, .ref p, rfl, p, adr mg "Entry", dx, [], rfl, hp, T.c_Entry, T.n_Entry_play, (by decide : 0 < 1000), ?_⟩
  refine ⟨b, rfl, .ref p, rfl, p, adr mg "Entry", dx, _, rfl, upd_same, T.c_Entry, T.n_Entry_origin, (by decide : 1 < 1000), ?_⟩
  refine ⟨c, rfl, .ref p, rfl, p, adr mg "Entry", dx, _, rfl, upd_same, T.c_Entry, T.n_Entry_taken, by rw [e1]; exact (by decide : 2 < 1000), ?_⟩
  refine ⟨(by decide : 0 ≤ sizeLine), fun o ho => ?_⟩
  have po : p ≠ o := fun z => by rw [← z, upd_same] at ho; cases ho
  refine ⟨.ref p, rfl, p, adr mg "Entry", dx, _, rfl, (upd_ne po).trans upd_same, T.c_Entry, T.n_Entry_onward, by rw [e2]; exact (by decide : 3 < 1000), ?_⟩
  have ho0 : H o = none := by
    rw [upd_ne (Ne.symm po), upd_ne (Ne.symm po), upd_ne (Ne.symm po)] at ho
    exact ho
  refine k _ o (by rw [upd_same, putE]) (by rw [upd_ne (Ne.symm po), upd_same]) ho0 (Ne.symm po) fun b u q hb => ?_
  rw [upd_ne hb, upd_ne (ne_of_none q ho0), upd_ne hb, upd_ne hb, upd_ne hb]
  exact q
/-- an entry is made -/
theorem mk_entry (H1 : Hp) (a b c : V) (Q : VK) (k : ∀ x dx o H3, H1 x = none → H1 o = none → x ≠ o → Same H1 H3 → H3 x = some (.ins (adr mg "Entry") dx (fEntry a b c (.ref o))) → H3 o = some (.lst []) → Q (.ref x) H3) :
    ∀ x dx, H1 x = none → H1 dx = none → dx ≠ x → sp_Entry_init mg [.ref x, a, b, c] (upd (upd H1 dx (.own x)) x (.ins (adr mg "Entry") dx [])) (fun v H2 => v = .non ∧ Q (.ref x) H2) C8.E0 := fun x dx nx nd ne => by
  refine ⟨x, dx, a, b, c, rfl, upd_same, fun H3 o hx ho no ox kp => ⟨rfl, k x dx o H3 nx ?_ (Ne.symm ox) (fun b u q => kp b u ?_ (ne_of_none q nx)) hx ho⟩⟩
  · cases q : H1 o with
    | none => rfl
    | some u => rw [upd_ne ox, upd_ne (ne_of_none q nd), q] at no; cases no
  · rw [upd_ne (ne_of_none q nx), upd_ne (ne_of_none q nd)]
    exact q
theorem ev_tup2 {α β : Type} {R : Rel α} {S : Rel β} [Mono R] [Mono S] {σ : L2.St} {G : Hp} {ta tb : TE} {a : α} {b : β} (h1 : Ev ta σ G R a) (h2 : Ev tb σ G S b) : Ev (tTup (tCons ta (tCons tb tNil))) σ G (RP R S) (a, b) := fun G1 H1 g s Q q =>
  h1 G1 H1 g s _ fun x G2 H2 w rx => h2 G2 H2 (g.trans w.gg) w.gh _ fun y G3 H3 w3 ry => ⟨(by decide : 2 ≤ sizeLine), fun t ht => q _ _ _ ((w.trans w3).trans (Grow.new w3.gh ht)) ⟨t, x, y, rfl, upd_same, Mono.up (w3.gg.trans (Same.new (w3.gh.free ht))) rx, Mono.up (Same.new (w3.gh.free ht)) ry⟩⟩
theorem pure_mark_of (T : Top K mg) (h : sp_mark_of mg vs H Q E) : t_mark_of K mg { nx := fun _ H' => Q .non H', rt := Q } (start N_mark_of vs) H := by
  obtain ⟨G, p, x, s, rfl, rx, k⟩ := h
  refine s_ret s (ev_tup2 (ev_tupI (ev_ints (ev_done T (ev_var rfl rx)))) (ev_tupI (ev_ints (ev_things T (ev_var rfl rx))))) fun v G2 H2 w ⟨q, a, b, ev, hq, ⟨c, ea, hc⟩, ⟨d, eb, hd⟩⟩ => k v G2 H2 w ⟨q, ev, c, d, ?_, hc, hd⟩
  rw [hq, show a = V.ref c from ea, show b = V.ref d from eb]
theorem ev_mark {σ : L2.St} {G : Hp} {te : TE} {p : Vberan.Play} (h : Ev te σ G (RPlay mg) p) : Ev (tCall (sp_mark_of mg) [] C8.E0 (tCons te tNil)) σ G RMk (markOf p) := ev_call1 h fun x G1 H1 Q _ s rx k => ⟨G1, p, x, s, rfl, rx, k⟩
end
def sp_places_with_end (mg : Mg) : Sp := fun vs H Q _ => ∃ G h l es x, Same G H ∧ vs = [x] ∧ RL (REntry mg) es x G ∧ FitsE h l es ∧ l.length ≤ 300 ∧ Ret (RL RN) (endsL l) G H Q
def sp_places_of_dead (mg : Mg) : Sp := fun vs H Q _ => ∃ G h pl l es x, Same G H ∧ vs = [x] ∧ RL (REntry mg) es x G ∧ FitsE h l es ∧ WfP h pl ∧ Vberan.states h pl = some l ∧ Ret (RL RN) (deadL h l) G H Q
def wayI (h : Vberan.House) (l : List Vberan.Seen) (k : Nat) : List (Nat × Int) := (way l k).map fun x => (x.1, Vberan.kindNum h x.2)
def sp_steps_to (mg : Mg) : Sp := fun vs H Q _ => ∃ G h pl l es k x y, Same G H ∧ vs = [x, y] ∧ RL (REntry mg) es x G ∧ FitsE h l es ∧ WfP h pl ∧ Vberan.states h pl = some l ∧ RN k y G ∧ k < l.length ∧ Ret (RL (RP RN RI)) (wayI h l k) G H Q
def wayT (h : Vberan.House) (l : List Vberan.Seen) : Option Nat → List Int
  | none => [0]
  | some k => 1 :: (wayI h l k).flatMap fun x => [(x.1 : Int), x.2]
def sp_told_way (mg : Mg) : Sp := fun vs H Q _ => ∃ G h pl l es ps x y, Same G H ∧ vs = [x, y] ∧ RL (REntry mg) es x G ∧ FitsE h l es ∧ WfP h pl ∧ Vberan.states h pl = some l ∧ RL RN ps y G ∧ (∀ k ∈ ps, k < l.length) ∧ Ret (RL RI) (wayT h l ps.head?) G H Q
theorem zip_filter_map {β : Type} (f : β → Bool) (g : Nat → Bool) (n : Nat) : ∀ (m : Nat) (l : List β), l.length = n → (∀ (j : Nat) b, l[j]? = some b → f b = g (m + j)) → (((List.range' m n).zip l).filter fun x => f x.2).map (·.1) = (List.range' m n).filter g := by
  induction n with
  | zero => intro m l hl _; rfl
  | succ n ih =>
    intro m l hl h
    cases l with
    | nil => cases hl
    | cons b l =>
      rw [List.range'_succ, List.zip_cons_cons, List.filter_cons, List.filter_cons]
      have e : f b = g m := h 0 b rfl
      have ih2 := ih (m + 1) l (by simpa using hl) fun j b hb => by
        rw [show m + 1 + j = m + (j + 1) by omega]
        exact h (j + 1) b (by simpa using hb)
      by_cases c : g m = true
      · rw [if_pos c]
        simp only [e, c, if_true, List.map_cons]
        rw [ih2]
      · rw [if_neg c]
        simp only [e, c]
        exact ih2
section
variable {K : PySem.W.Frag} {mg : Mg} {vs : List V} {H : Hp} {Q : VK} {E : XK}
theorem pure_places_with_end (T : Top K mg) (h : sp_places_with_end mg vs H Q E) : t_places_with_end K mg (sp_is_end_done mg) { nx := fun _ H' => Q .non H', rt := Q } (start N_places_with_end vs) H := by
  obtain ⟨G, h, l, es, x, s, rfl, rx, ft, hl, k⟩ := h
  have hz : ((List.range es.length).zip es).length = es.length := by
    rw [List.length_zip, List.length_range]
    omega
  refine s_ret s (ef_is (ef_lcG (R := RN) (fun x : Nat × En => Vberan.ended x.2.play) (fun x => x.1) (src_enum (ev_var rfl rx)) hit_pair ?_ ?_ ?_ ?_) ?_).ev k
  · rintro a σ2 G1 ⟨v1, v2, _, _, rfl⟩
    rfl
  · rintro a σ2 G1 _ g ⟨v1, v2, r1, r2, rfl⟩
    exact et_B (ev_end (ev_eplay T (ev_var rfl r2)))
  · rintro a σ2 G1 _ _ g ⟨v1, v2, r1, r2, rfl⟩
    exact ev_var rfl r1
  · rw [hz, ft.len]
    show _ ≤ 40000
    omega
  · unfold endsL
    rw [List.range_eq_range', List.range_eq_range', ← ft.len]
    refine zip_filter_map (fun e : En => Vberan.ended e.play) (endL l) es.length 0 es rfl fun j e hj => ?_
    obtain ⟨sn, hs, ep, _⟩ := ft.get hj
    unfold endL
    rw [Nat.zero_add, hs, ep]
theorem pure_places_of_dead (T : Top K mg) (h : sp_places_of_dead mg vs H Q E) : t_places_of_dead K mg (sp_is_end_done mg) { nx := fun _ H' => Q .non H', rt := Q } (start N_places_of_dead vs) H := by
  obtain ⟨G, h, pl, l, es, x, s, rfl, rx, ft, wp, e, k⟩ := h
  have hl200 : l.length ≤ 200 := by
    obtain ⟨_, _, _, z⟩ := states_stage e
    exact z
  have el := ft.len
  have e0 : (es.map fun z => Vberan.ended z.play) = liveL h l 0 := by
    rw [live_zero]
    refine List.ext_getElem? fun j => ?_
    rw [List.getElem?_map, List.getElem?_map]
    cases q : l[j]? with
    | none => rw [List.getElem?_eq_none (by rw [el]; exact List.getElem?_eq_none_iff.mp q)]; rfl
    | some sn =>
      obtain ⟨en, he, ep, _⟩ := ft.of q
      rw [he]
      exact congrArg some (congrArg Vberan.ended ep)
  refine q_asgF s (ef_is (ef_map (R := RB) (fun z : En => Vberan.ended z.play) (src_list (ev_var rfl rx)) rx.len (fun _ => rfl) fun a v G1 _ g r => ev_end (ev_eplay T (ev_var rfl r))) e0) fun p xs G2 H2 w hp gp h2 hx a2 => ?_
  rw [all2_bool.mp a2] at h2
  refine q_for (G0 := G) (H0 := H) (R := RI) (l := (List.range l.length).map fun t : Nat => ((l.length : Int) - 1 - (t : Int))) w ?_ hit_name
    (fun t σ' G' H' => ∃ a b c, σ' = [some x, some (.ref p), a, b, c] ∧ G' p = none ∧ H' p = some (.lst ((liveL h l t).map V.bl)))
    (fun G3 H3 w3 => ⟨none, none, none, rfl, w3.out h2 gp, w3.hh _ _ h2⟩) ?_ ?_
  · intro G3 H3 g3 s3 Q3 q3
    refine (ev_sub (ev_n2i (ev_len (ev_var (i := 0) rfl (Mono.up w.gg rx)))) (ev_int (i := 1))) G3 H3 g3 s3 _ fun v G4 H4 w4 rv => ?_
    have rv : v = .int ((es.length : Int) - 1) := rv
    refine ⟨1, rfl, 1, rfl, (es.length : Int) - 1, -1, -1, l.length, by rw [rv], ?_, ?_⟩
    · have q := RgC.neg (i := (es.length : Int) - 1) (j := -1) (by omega) (by omega) (by omega) (by omega)
      have : ((es.length : Int) - 1 - -1).toNat = l.length := by omega
      rw [this] at q
      exact q
    · refine q3 _ G4 H4 w4 ⟨fun i H hi _ => ?_, fun H _ => ?_, fun i a G5 H x H' ea _ s5 ⟨eh, ex⟩ => ?_⟩
      · rw [List.length_map, List.length_range] at hi
        exact hi
      · rw [List.length_map, List.length_range]
        exact Nat.le_refl _
      · have hi : i < l.length := by
          have z := (List.getElem?_eq_some_iff.mp ea).1
          rw [List.length_map, List.length_range] at z
          exact z
        rw [List.getElem?_map, List.getElem?_range hi] at ea
        subst eh
        refine ⟨G5, Grow.refl s5, ?_⟩
        have ea2 : (l.length : Int) - 1 - (i : Int) = a := Option.some.inj ea
        rw [ex]
        show V.int _ = V.int a
        refine congrArg V.int ?_
        omega
  · rintro t a σ1 G3 H3 hta g3 s3 ⟨b1, b2, b3, rfl, n3, h3⟩ G4 H4 σ2 w4 ⟨u, ru, rfl⟩
    have ht : t < l.length := by
      have z := (List.getElem?_eq_some_iff.mp hta).1
      rw [List.length_map, List.length_range] at z
      exact z
    rw [List.getElem?_map, List.getElem?_range ht] at hta
    have ea : a = ((l.length - 1 - t : Nat) : Int) := by
      have ea2 : (l.length : Int) - 1 - (t : Int) = a := Option.some.inj hta
      omega
    have hat : l.length - 1 - t < l.length := by omega
    generalize hj : l.length - 1 - t = at_ at ea hat
    have ru : ∀ G', RN at_ u G' := fun _ => by
      show u = V.int (at_ : Int)
      rw [← ea]
      exact ru
    obtain ⟨sn, hsn⟩ : ∃ sn, l[at_]? = some sn := ⟨_, List.getElem?_eq_getElem hat⟩
    obtain ⟨en, hen, ep, _, _, ln⟩ := ft.of hsn
    obtain ⟨gt, gk⟩ := good_turn wp e hsn ln
    have g4 : Same G G4 := w.gg.trans (g3.trans w4.gg)
    have n4 := w4.out h3 n3
    have h4 := w4.hh _ _ h3
    have gn : Same G4 (upd G4 p (.lst ((liveL h l t).map V.bl))) := Same.new n4
    have rs : RL RB (liveL h l t) (.ref p) (upd G4 p (.lst ((liveL h l t).map V.bl))) := ⟨p, _, rfl, upd_same, by rw [List.length_map, live_len]; show _ ≤ 40000; omega, all2_bool.mpr rfl⟩
    have ronl : en.onward.length ≤ LIM := by
      obtain ⟨q, xs2, _, _, _, ha⟩ := rx
      obtain ⟨y, _, ry⟩ := ha.at hen
      obtain ⟨_, _, _, _, _, _, _, _, _, _, _, r⟩ := ry
      exact r.len
    have endE : endL l at_ = Vberan.ended sn.play := by
      unfold endL
      rw [hsn]
    refine et_seenO (b := en.onward.any (goodAt h l)) w4.gh h4 (et_B (ev_is (ev_any (ef_map (R := RB) (fun k => goodAt h l k) (src_list (ev_eonward T (ev_ix (ev_var (i := 0) rfl (Mono.up (g4.trans gn) rx)) (ev_var (i := 2) rfl (ru _)) hen))) ronl (fun _ => rfl) fun c v G5 hc g5 r5 => ?_).ev) (any_id (fun k => goodAt h l k) en.onward))) fun H5 w5 => ?_
    · obtain ⟨k1, k2⟩ := gk c hc
      exact ev_ix (ev_var (i := 1) rfl (Mono.up g5 rs)) (ev_var rfl r5) (by rw [live_get k2, if_pos (by omega)])
    · have h5 := w5.hh _ _ h4
      by_cases c : en.onward.any (goodAt h l) = true
      · rw [if_pos c]
        refine s_setL (i := 1) (R := RB) (a := true) (j := at_) w5.gh rfl h5 n4 ev_bl (ev_var (i := 2) rfl (ru G4)) (by rw [List.length_map, live_len]; exact hat) fun z G6 H6 w6 n6 rz s6 => ⟨G6, w4.gg.trans w6.gg, ((s3.trans w4).trans (w5.trans w6)).mutd hp n6, some u, b2, b3, rfl, n6, ?_⟩
        rw [upd_same, ← live_set ht, hj, gt, c, Bool.or_true, show z = V.bl true from rz, List.map_set]
      · rw [if_neg c]
        have c2 : en.onward.any (goodAt h l) = false := Bool.eq_false_iff.mpr c
        refine ⟨G4, w4.gg, (s3.trans w4).trans w5, some u, b2, b3, rfl, n4, ?_⟩
        rw [h5, live_same ht (by rw [hj, gt, c2, Bool.or_false, endE])]
  · rintro σ1 G3 H3 g3 s3 ⟨b1, b2, b3, rfl, n3, h3⟩
    rw [List.length_map, List.length_range, live_end] at h3
    have g3' : Same G G3 := w.gg.trans g3
    have gn : Same G3 (upd G3 p (.lst (((List.range l.length).map (goodAt h l)).map V.bl))) := Same.new n3
    have rs : RL RB ((List.range l.length).map (goodAt h l)) (.ref p) (upd G3 p (.lst (((List.range l.length).map (goodAt h l)).map V.bl))) := ⟨p, _, rfl, upd_same, by rw [List.length_map, List.length_map, List.length_range]; show _ ≤ 40000; omega, all2_bool.mpr rfl⟩
    refine (ef_is (ef_lc (σ := [some x, some (.ref p), b1, b2, b3]) (j := 2) (vs := [2]) (R := RN) (fun i => !goodAt h l i) id (src_range (ev_len (ev_var (i := 0) rfl (Mono.up (g3'.trans gn) rx))) (by rw [el]; show _ ≤ 40000; omega)) (by rw [List.length_range, el]; show _ ≤ 40000; omega) (fun _ => rfl)
      (fun a z G5 ha g r5 => et_not (et_B (ev_ix (ev_var (i := 1) rfl (Mono.up g rs)) (ev_var rfl r5) (by
        have : a < l.length := by
          rw [← el]
          exact List.mem_range.mp ha
        rw [List.getElem?_map, List.getElem?_range this]
        rfl))))
      (fun a z G5 _ _ g r5 => ev_var rfl r5)) (show _ = deadL h l from by rw [List.map_id, el]; rfl)) (upd G3 p (.lst (((List.range l.length).map (goodAt h l)).map V.bl))) H3 (Same.refl _) (Same.seen s3.gh h3) _ fun q ys G4 H4 w4 hq g4 h4 hyl a4 => ?_
    have w5 : Grow G3 H3 (upd G3 q (.lst ys)) H4 := (Grow.stay s3.gh w4.hh).show_ hq h4
    exact k.go s3 (.ref q) _ H4 w5 ⟨q, ys, rfl, upd_same, hyl, all2_nat.mpr (all2_nat.mp a4)⟩
end
end DH
namespace DH
open PySem PySem.Spec PyProof.Rows L2
/-! ### the told way -/
section
variable {K : PySem.W.Frag} {mg : Mg} {vs : List V} {H : Hp} {Q : VK} {E : XK}
theorem wayI_len {h : Vberan.House} {l : List Vberan.Seen} {p : Vberan.Play} (q : RowInv h p l.length l) {k : Nat} (hk : k < l.length) : (wayI h l k).length ≤ k := by
  unfold wayI
  rw [List.length_map]
  exact way_len q k hk
theorem pure_steps_to (T : Top K mg) (h : sp_steps_to mg vs H Q E) : t_steps_to K mg { nx := fun _ H' => Q .non H', rt := Q } (start N_steps_to vs) H := by
  obtain ⟨G, h, pl, l, es, k0, x, y, s, rfl, rx, ft, wp, e, ry, hk0, kk⟩ := h
  have q := states_row wp e
  have hl200 : l.length ≤ 200 := by
    obtain ⟨_, _, _, z⟩ := states_stage e
    exact z
  cases (show y = V.int (k0 : Int) from ry)
  refine q_asgF s (ef_nil (R := RP RN RI)) fun p xs G2 H2 w hp gp h2 hx a2 => ?_
  rw [all2_nil a2] at h2
  refine q_while (G0 := G) (H0 := H) (fun m σ' G' H' => ∃ (k : Nat) (acc : List (Nat × Int)) (xs : List V), σ' = [some x, some (.int (k : Int)), some (.ref p)] ∧ G' p = none ∧ H' p = some (.lst xs) ∧ All2 (RP RN RI) G' acc xs ∧ k < l.length ∧ wayI h l k ++ acc.reverse = wayI h l k0 ∧ acc.length + k ≤ k0 ∧ m = k)
    k0 w ⟨k0, [], [], rfl, gp, h2, trivial, hk0, by rw [List.reverse_nil, List.append_nil], by show 0 + k0 ≤ k0; omega, rfl⟩ ?_
  rintro m σ1 G1 H1 g1 s1 ⟨k, acc, xs, rfl, n1, h1, a1, hk, ew, hle, rfl⟩
  refine ⟨decide ((0 : Int) < (m : Int)), et_test (ev_gt (ev_n2i (ev_var (R := RN) (a := m) rfl rfl)) ev_int), fun hb G3 H3 w3 => ?_, fun hb G3 H3 w3 => ?_⟩
  · have h0 : 0 < m := by
      have := of_decide_eq_true hb
      omega
    obtain ⟨sn, hsn⟩ : ∃ sn, l[m]? = some sn := ⟨_, List.getElem?_eq_getElem hk⟩
    obtain ⟨en, hen, _, eo, et, _⟩ := ft.of hsn
    have et := et h0
    have g3 : Same G G3 := w.gg.trans (g1.trans w3.gg)
    have hxl : xs.length < 100000 := by
      rw [a1.len]
      omega
    refine q_app (i := 2) (R := RP RN RI) (a := (sn.step.1, Vberan.kindNum h sn.step.2)) w3.gh rfl (w3.hh _ _ h1) hxl (w3.out h1 n1) ?_ fun v G4 H4 w4 n4 rv s4 => ?_
    · have ev := ev_etaken T (ev_ix (K := K) (σ := [some x, some (.int (m : Int)), some (.ref p)]) (ta := tVar 0) (tb := tVar 1) (ev_var rfl (Mono.up g3 rx)) (ev_var (R := RN) (a := m) rfl rfl) hen)
      rw [et] at ev
      exact ev
    · have w14 : Grow G H G4 (upd H4 p (.lst (xs ++ [v]))) := ((s1.trans w3).trans w4).mutd hp n4
      refine s_asg s4 (ev_eorigin T (ev_ix (ev_var (i := 0) rfl (Mono.up (g3.trans w4.gg) rx)) (ev_var (i := 1) (R := RN) (a := m) rfl rfl) hen)) fun v5 G5 H5 w5 r5 => ?_
      cases (show v5 = V.int (en.origin : Int) from r5)
      obtain ⟨u, u1, _, u2, _⟩ := q.back m sn hsn h0
      rw [eo]
      refine ⟨G5, sn.from_, u1, (w3.gg.trans w4.gg).trans w5.gg, w14.trans w5, sn.from_, acc ++ [(sn.step.1, Vberan.kindNum h sn.step.2)], xs ++ [v], rfl, w5.out upd_same n4, w5.hh _ _ upd_same, (a1.up ((w3.gg.trans w4.gg).trans w5.gg)).app (All2.one (Mono.up w5.gg rv)), by omega, ?_, by rw [List.length_append]; show acc.length + 1 + sn.from_ ≤ k0; omega, rfl⟩
      rw [← ew]
      unfold wayI
      rw [way_on q hsn h0, List.map_append, List.reverse_append, List.append_assoc]
      rfl
  · have h0 : m = 0 := by
      have := of_decide_eq_false hb
      omega
    subst h0
    have h3 := w3.hh _ _ h1
    refine ⟨.ref p, rfl, Or.inl ⟨rfl, _, SqL.of h3⟩, p, xs, rfl, rfl, h3, ?_⟩
    have er : acc.reverse = wayI h l k0 := by
      rw [← ew]
      unfold wayI
      rw [way_first q]
      rfl
    have arev : All2 (RP RN RI) G3 acc.reverse xs.reverse := by
      have rev : ∀ {l : List (Nat × Int)} {ys : List V}, All2 (RP RN RI) G3 l ys → All2 (RP RN RI) G3 l.reverse ys.reverse := by
        intro l
        induction l with
        | nil => intro ys h; rw [all2_nil h]; trivial
        | cons a l ih => intro ys h; cases ys with
          | nil => exact h.elim
          | cons y ys =>
            obtain ⟨h1, h2⟩ := h
            rw [List.reverse_cons, List.reverse_cons]
            exact (ih h2).app (All2.one h1)
      exact rev (a1.up w3.gg)
    rw [er] at arev
    exact s_retB ((s1.trans w3).mutd hp (w3.out h1 n1)) hp rfl upd_same (by rw [List.length_reverse, a1.len]; show _ ≤ 40000; omega) (w3.out h1 n1) arev kk.fresh
theorem pure_told_way (T : Top K mg) (h : sp_told_way mg vs H Q E) : t_told_way K mg sp_flat (sp_steps_to mg) { nx := fun _ H' => Q .non H', rt := Q } (start N_told_way vs) H := by
  obtain ⟨G, h, pl, l, es, ps, x, y, s, rfl, rx, ft, wp, e, ry, hps, kk⟩ := h
  have q := states_row wp e
  have hl200 : l.length ≤ 200 := by
    obtain ⟨_, _, _, z⟩ := states_stage e
    exact z
  refine q_when s (et_test (ev_eq (ev_n2i (ev_len (ev_var rfl ry))) ev_int)) (fun hb G2 H2 w => ?_) (fun hb G2 H2 w => ?_)
  · have hb := of_decide_eq_true hb
    have e0 : ps = [] := List.eq_nil_of_length_eq_zero (by omega)
    subst e0
    exact s_ret w.gh (ef_one (R := RI) ev_int).ev (kk.go w)
  · have hb := of_decide_eq_false hb
    cases ps with
    | nil => exact absurd rfl hb
    | cons k ps =>
      have hk := hps k List.mem_cons_self
      have hw := wayI_len (h := h) q hk
      refine s_ret w.gh (ef_cat (l := [1]) (ef_one (R := RI) ev_int).ev (ev_flat (l := wayI h l k) (ev_call2 (W := RL (RP RN RI)) (c := wayI h l k) (ev_var rfl (Mono.up w.gg rx)) (ev_ix (ev_var rfl (Mono.up w.gg ry)) (ev_nat (n := 0) rfl) (show (k :: ps)[0]? = some k from rfl)) fun x y G1 H1 Q _ s rx ry kq => ⟨G1, h, pl, l, es, k, x, y, s, rfl, rx, ft, wp, e, ry, hk, kq⟩) (by omega)) ?_).ev (kk.go w)
      rw [flat2_len]
      show 1 + 2 * (wayI h l k).length ≤ 40000
      omega
end
end DH
namespace DH
open PySem PySem.Spec PyProof.Rows L2
/-! ### the row as it's made -/
def PlOk (a : List Vberan.Seen) (nx : List NX) : Prop := nx.length = a.length ∧ ∀ (j : Nat) (z : NX) (s : Vberan.Seen), nx[j]? = some z → a[j]? = some s → z.1 = markOf s.play ∧ ∃ t, z.2.2 = .int (j : Int) t
theorem markOf_inj {p q : Vberan.Play} (e : markOf p = markOf q) : p = q := by
  cases p
  cases q
  unfold markOf at e
  cases (Prod.mk.inj e).1
  cases (Prod.mk.inj e).2
  rfl
theorem PlOk.has {a : List Vberan.Seen} {nx : List NX} (h : PlOk a nx) (p : Vberan.Play) : (∃ z ∈ nx, z.1 = markOf p) ↔ (a.any fun y => Vberan.samePlay y.play p) = true := by
  rw [any_same]
  constructor
  · rintro ⟨z, hz, e⟩
    obtain ⟨j, hj⟩ := List.getElem?_of_mem hz
    have hlt : j < a.length := by
      rw [← h.1]
      exact (List.getElem?_eq_some_iff.mp hj).1
    have ha := List.getElem?_eq_getElem hlt
    obtain ⟨e1, _⟩ := h.2 j z _ hj ha
    exact ⟨_, List.mem_of_getElem? ha, markOf_inj (e1.symm.trans e)⟩
  · rintro ⟨y, hy, e⟩
    obtain ⟨j, hj⟩ := List.getElem?_of_mem hy
    have hlt : j < nx.length := by
      rw [h.1]
      exact (List.getElem?_eq_some_iff.mp hj).1
    have hn := List.getElem?_eq_getElem hlt
    obtain ⟨e1, _⟩ := h.2 j _ y hn hj
    exact ⟨_, List.mem_of_getElem? hn, by rw [e1, e]⟩
theorem PlOk.at_ {a : List Vberan.Seen} {nx : List NX} (h : PlOk a nx) {j : Nat} {y : Vberan.Seen} (hj : a[j]? = some y) : ∃ z ∈ nx, z.1 = markOf y.play ∧ ∃ t, z.2.2 = .int (j : Int) t := by
  have hlt : j < nx.length := by
    rw [h.1]
    exact (List.getElem?_eq_some_iff.mp hj).1
  have hn := List.getElem?_eq_getElem hlt
  exact ⟨_, List.mem_of_getElem? hn, h.2 j _ y hn hj⟩
theorem get_snoc {α : Type} {l : List α} {a b : α} {j : Nat} (h : (l ++ [a])[j]? = some b) : (j < l.length ∧ l[j]? = some b) ∨ (j = l.length ∧ b = a) := by
  by_cases c : j < l.length
  · rw [List.getElem?_append_left c] at h
    exact .inl ⟨c, h⟩
  · rw [List.getElem?_append_right (by omega)] at h
    have hlt := (List.getElem?_eq_some_iff.mp h).1
    have e1 : ([a] : List α).length = 1 := rfl
    have e2 : j - l.length = 0 := by omega
    rw [e2] at h
    exact .inr ⟨by omega, (Option.some.inj h).symm⟩
theorem PlOk.snoc {a : List Vberan.Seen} {nx : List NX} (h : PlOk a nx) {y : Vberan.Seen} {b : Addr} {t : Tok} : PlOk (a ++ [y]) (nx ++ [(markOf y.play, b, .int (a.length : Int) t)]) := by
  refine ⟨by rw [List.length_append, List.length_append, h.1]; rfl, fun j z s hz hs => ?_⟩
  rcases get_snoc hz with ⟨c, hz⟩ | ⟨c, rfl⟩
  · rcases get_snoc hs with ⟨c2, hs⟩ | ⟨c2, _⟩
    · exact h.2 j z s hz hs
    · rw [h.1] at c
      omega
  · rcases get_snoc hs with ⟨c2, _⟩ | ⟨c2, rfl⟩
    · rw [h.1] at c
      omega
    · exact ⟨rfl, t, by rw [c2]⟩
structure RS0 (mg : Mg) (h' : Vberan.House) (H0 G H : Hp) (r p : Addr) (a : List Vberan.Seen) (X : Nat → Vberan.Seen → List (Nat × Nat)) (xs : List V) (e0s : List E0) (on : List (List Nat)) (nx : List NX) : Prop where
  hr : H r = some (.lst xs)
  gr : G r = none
  xr : All2 (RE0 mg) G e0s xs
  hp : H p = some (ND p nx)
  gp : G p = none
  keys : ∀ z ∈ nx, RMk z.1 (.ref z.2.1) G
  pl : PlOk a nx
  el : e0s.length = a.length
  ol : on.length = a.length
  at_ : ∀ (j : Nat) (s : Vberan.Seen) (e : E0), a[j]? = some s → e0s[j]? = some e → e.play = s.play ∧ e.origin = s.from_ ∧ (0 < j → e.taken = some (s.step.1, Vberan.kindNum h' s.step.2))
  lk : ∀ (j : Nat) (s : Vberan.Seen) (ks : List Nat), a[j]? = some s → on[j]? = some ks → LinksOn h' a s (X j s) ks ∧ ks.length = (X j s).length
  oh : ∀ (j : Nat) (e : E0) (ks : List Nat), e0s[j]? = some e → on[j]? = some ks → H e.o = some (.lst ((ks.map Int.ofNat).map V.int))
  nd : (e0s.map (·.o)).Nodup
  of_ : ∀ b ∈ e0s.map (·.o), H0 b = none ∧ G b = none ∧ b ≠ r ∧ b ≠ p
section
variable {mg : Mg} {h' : Vberan.House} {H0 G H G2 H2 : Hp} {r p : Addr} {a : List Vberan.Seen} {X Y : Nat → Vberan.Seen → List (Nat × Nat)} {xs : List V} {e0s : List E0} {on : List (List Nat)} {nx : List NX}
theorem RS0.olds (q : RS0 mg h' H0 G H r p a X xs e0s on nx) : ∀ b ∈ e0s.map (·.o), ∃ u, H b = some u := fun b hb => by
  obtain ⟨e, he, rfl⟩ := List.mem_map.mp hb
  obtain ⟨j, hj⟩ := List.getElem?_of_mem he
  have hlt : j < on.length := by
    rw [q.ol, ← q.el]
    exact (List.getElem?_eq_some_iff.mp hj).1
  exact ⟨_, q.oh j e _ hj (List.getElem?_eq_getElem hlt)⟩
theorem RS0.up (q : RS0 mg h' H0 G H r p a X xs e0s on nx) (w : Grow G H G2 H2) : RS0 mg h' H0 G2 H2 r p a X xs e0s on nx :=
  ⟨w.hh _ _ q.hr, w.out q.hr q.gr, q.xr.up w.gg, w.hh _ _ q.hp, w.out q.hp q.gp, fun z hz => Mono.up w.gg (q.keys z hz), q.pl, q.el, q.ol, q.at_, q.lk, fun j e ks h1 h2 => w.hh _ _ (q.oh j e ks h1 h2), q.nd, fun b hb => by
    obtain ⟨u, hu⟩ := q.olds b hb
    obtain ⟨h1, h2, h3⟩ := q.of_ b hb
    exact ⟨h1, w.out hu h2, h3⟩⟩
theorem RS0.swap (q : RS0 mg h' H0 G H r p a X xs e0s on nx) (e : ∀ (j : Nat) s, a[j]? = some s → X j s = Y j s) : RS0 mg h' H0 G H r p a Y xs e0s on nx :=
  ⟨q.hr, q.gr, q.xr, q.hp, q.gp, q.keys, q.pl, q.el, q.ol, q.at_, fun j s ks h1 h2 => by rw [← e j s h1]; exact q.lk j s ks h1 h2, q.oh, q.nd, q.of_⟩
theorem RS0.xlen (q : RS0 mg h' H0 G H r p a X xs e0s on nx) : xs.length = a.length := by rw [q.xr.len, q.el]
/-- one more play -/
theorem RS0.more {y : Vberan.Seen} {x o b : Addr} {t : Tok} {en : E0} (q : RS0 mg h' H0 G H r p a X xs e0s on nx) (s2 : Same G G2)
    (kp : ∀ c u, H c = some u → c ≠ r → c ≠ p → H2 c = some u) (hr : H2 r = some (.lst (xs ++ [.ref x]))) (hp : H2 p = some (ND p (nx ++ [(markOf y.play, b, .int (a.length : Int) t)]))) (gr : G2 r = none) (gp : G2 p = none)
    (re : RE0 mg en (.ref x) G2) (eo : en.o = o) (e1 : en.play = y.play) (e2 : en.origin = y.from_) (e3 : en.taken = some (y.step.1, Vberan.kindNum h' y.step.2)) (km : RMk (markOf y.play) (.ref b) G2) (ho : H2 o = some (.lst [])) (no : H o = none) (h0 : H0 o = none) (g2 : G2 o = none)
    (gold : ∀ c ∈ e0s.map (·.o), G2 c = none) (hX : X a.length y = []) : RS0 mg h' H0 G2 H2 r p (a ++ [y]) X (xs ++ [.ref x]) (e0s ++ [en]) (on ++ [[]]) (nx ++ [(markOf y.play, b, .int (a.length : Int) t)]) := by
  have oe : o ∉ e0s.map (·.o) := fun hm => by
    obtain ⟨u, hu⟩ := q.olds o hm
    rw [no] at hu
    cases hu
  have o_r : o ≠ r := fun z => by rw [z, q.hr] at no; cases no
  have o_p : o ≠ p := fun z => by rw [z, q.hp] at no; cases no
  refine ⟨hr, gr, (q.xr.up s2).app (All2.one re), hp, gp, fun z hz => ?_, q.pl.snoc, by rw [List.length_append, List.length_append, q.el]; rfl, by rw [List.length_append, List.length_append, q.ol]; rfl, fun j s e hs he => ?_, fun j s ks hs hk => ?_, fun j e ks he hk => ?_, ?_, fun c hc => ?_⟩
  · rcases List.mem_append.mp hz with hz | hz
    · exact Mono.up s2 (q.keys z hz)
    · rw [List.mem_singleton.mp hz]
      exact km
  · rcases get_snoc hs with ⟨c, hs⟩ | ⟨c, rfl⟩
    · rcases get_snoc he with ⟨c2, he⟩ | ⟨c2, _⟩
      · exact q.at_ j s e hs he
      · rw [q.el] at c2
        omega
    · rcases get_snoc he with ⟨c2, he⟩ | ⟨c2, rfl⟩
      · rw [q.el] at c2
        omega
      · exact ⟨e1, e2, fun _ => e3⟩
  · rcases get_snoc hs with ⟨c, hs⟩ | ⟨c, rfl⟩
    · rcases get_snoc hk with ⟨c2, hk⟩ | ⟨c2, _⟩
      · obtain ⟨l1, l2⟩ := q.lk j s ks hs hk
        exact ⟨l1.grow _, l2⟩
      · rw [q.ol] at c2
        omega
    · rcases get_snoc hk with ⟨c2, hk⟩ | ⟨c2, rfl⟩
      · rw [q.ol] at c2
        omega
      · rw [c, hX]
        exact ⟨LinksOn.nil, rfl⟩
  · rcases get_snoc he with ⟨c, he⟩ | ⟨c, rfl⟩
    · rcases get_snoc hk with ⟨c2, hk⟩ | ⟨c2, _⟩
      · obtain ⟨_, _, h3, h4⟩ := q.of_ e.o (List.mem_map.mpr ⟨e, List.mem_of_getElem? he, rfl⟩)
        exact kp _ _ (q.oh j e ks he hk) h3 h4
      · rw [q.el] at c
        rw [q.ol] at c2
        omega
    · rcases get_snoc hk with ⟨c2, hk⟩ | ⟨c2, rfl⟩
      · rw [q.el] at c
        rw [q.ol] at c2
        omega
      · rw [eo]
        exact ho
  · rw [List.map_append, List.nodup_append]
    refine ⟨q.nd, by simp, fun c hc d hd e => ?_⟩
    have : d = o := by
      rw [List.mem_singleton.mp hd]
      exact eo
    exact oe (by rw [← this, ← e]; exact hc)
  · rw [List.map_append] at hc
    rcases List.mem_append.mp hc with hc2 | hc2
    · obtain ⟨z1, _, z3⟩ := q.of_ c hc2
      exact ⟨z1, gold c hc2, z3⟩
    · have : c = o := by
        rw [List.mem_singleton.mp hc2]
        exact eo
      rw [this]
      exact ⟨h0, g2, o_r, o_p⟩
/-- one more place told -/
theorem RS0.link {i k : Nat} {s y : Vberan.Seen} {x : Nat × Nat} {e : E0} {ks : List Nat} (q : RS0 mg h' H0 G H r p a X xs e0s on nx) (hs : a[i]? = some s) (he : e0s[i]? = some e) (hk : on[i]? = some ks) (hy : a[k]? = some y) (ey : y.play = Vberan.doneWith h' s.play x.1 x.2)
    (hY : Y i s = X i s ++ [x]) (hN : ∀ (j : Nat) z, j ≠ i → a[j]? = some z → Y j z = X j z) :
    RS0 mg h' H0 G (upd H e.o (.lst (((ks ++ [k]).map Int.ofNat).map V.int))) r p a Y xs e0s (on.set i (ks ++ [k])) nx := by
  have hm : e.o ∈ e0s.map (·.o) := List.mem_map.mpr ⟨e, List.mem_of_getElem? he, rfl⟩
  obtain ⟨_, _, h3, h4⟩ := q.of_ e.o hm
  have io : i < on.length := (List.getElem?_eq_some_iff.mp hk).1
  refine ⟨by rw [upd_ne (Ne.symm h3)]; exact q.hr, q.gr, q.xr, by rw [upd_ne (Ne.symm h4)]; exact q.hp, q.gp, q.keys, q.pl, q.el, by rw [List.length_set]; exact q.ol, q.at_, fun j z js hz hj => ?_, fun j f js hf hj => ?_, q.nd, q.of_⟩
  · by_cases c : i = j
    · subst c
      rw [List.getElem?_set_self io] at hj
      cases (Option.some.inj hj)
      cases (Option.some.inj (hs.symm.trans hz))
      obtain ⟨l1, l2⟩ := q.lk i s ks hs hk
      rw [hY]
      exact ⟨l1.snoc hy ey, by rw [List.length_append, List.length_append, l2]; rfl⟩
    · rw [List.getElem?_set_ne c] at hj
      rw [hN j z (fun z => c z.symm) hz]
      exact q.lk j z js hz hj
  · by_cases c : i = j
    · subst c
      rw [List.getElem?_set_self io] at hj
      cases (Option.some.inj hj)
      cases (Option.some.inj (he.symm.trans hf))
      exact upd_same
    · rw [List.getElem?_set_ne c] at hj
      have : f.o ≠ e.o := fun z => by
        refine c ((List.getElem?_inj (i := i) (j := j) (by rw [List.length_map]; exact (List.getElem?_eq_some_iff.mp he).1) q.nd).mp ?_)
        rw [List.getElem?_map, List.getElem?_map, he, hf]
        exact congrArg some z.symm
      rw [upd_ne this]
      exact q.oh j f js hf hj
/-- what was hidden, shown at the end -/
theorem Grow.pickd {G0 : Hp} {S : List Addr} (w : Grow G0 H0 G H) (n : ∀ b ∈ S, H0 b = none) : Grow G0 H0 (DH.pick G H S) H := by
  refine ⟨fun b u h => ?_, fun b u h => ?_, w.hh, fun b u h m => ?_⟩
  · unfold DH.pick
    by_cases c : b ∈ S
    · rw [if_pos c]
      exact w.gh _ _ (w.gg _ _ h)
    · rw [if_neg c]
      exact w.gg _ _ h
  · unfold DH.pick at h
    by_cases c : b ∈ S
    · rw [if_pos c] at h
      exact h
    · rw [if_neg c] at h
      exact w.gh _ _ h
  · unfold DH.pick at h
    by_cases c : b ∈ S
    · exact n b c
    · rw [if_neg c] at h
      exact w.fr b u h m
theorem Same.picked {S : List Addr} (s : Same G H) : Same G (DH.pick G H S) := fun b u h => by
  unfold DH.pick
  by_cases c : b ∈ S
  · rw [if_pos c]
    exact s _ _ h
  · rw [if_neg c]
    exact h
theorem all2_en : ∀ {e0s : List E0} {on : List (List Nat)} {xs : List V}, All2 (RE0 mg) G e0s xs → on.length = e0s.length → (∀ (j : Nat) (e : E0) (ks : List Nat), e0s[j]? = some e → on[j]? = some ks → RL RN ks (.ref e.o) G) →
    All2 (REntry mg) G (List.zipWith (fun e ks => (⟨e.play, e.origin, e.taken, ks⟩ : En)) e0s on) xs
  | [], on, [], _, hl, _ => by
    cases on with
    | nil => trivial
    | cons _ _ => cases hl
  | e :: e0s, [], _, _, hl, _ => by cases hl
  | e :: e0s, ks :: on, v :: xs, ⟨⟨p, dx, a, b, c, ev, hp, h1, h2, h3⟩, t⟩, hl, h => ⟨⟨p, dx, a, b, c, .ref e.o, ev, hp, h1, h2, h3, h 0 e ks rfl rfl⟩, all2_en t (by simpa using hl) fun j f js hf hj => h (j + 1) f js hf hj⟩
  | [], _, _ :: _, h, _, _ => h.elim
  | _ :: _, _ :: _, [], h, _, _ => h.elim
theorem RS0.fits (q : RS0 mg h' H0 G H r p a X xs e0s on nx) (hX : ∀ (j : Nat) s, a[j]? = some s → X j s = Vberan.steps h' s.play) : FitsE h' a (List.zipWith (fun e ks => (⟨e.play, e.origin, e.taken, ks⟩ : En)) e0s on) := by
  refine ⟨by rw [List.length_zipWith, q.el, q.ol, Nat.min_self], fun j s e hs he => ?_⟩
  rw [List.getElem?_zipWith] at he
  cases h1 : e0s[j]? with
  | none => rw [h1] at he; cases he
  | some f =>
    cases h2 : on[j]? with
    | none => rw [h1, h2] at he; cases he
    | some ks =>
      rw [h1, h2] at he
      cases (Option.some.inj he)
      obtain ⟨e1, e2, e3⟩ := q.at_ j s f hs h1
      obtain ⟨l1, _⟩ := q.lk j s ks hs h2
      rw [hX j s hs] at l1
      exact ⟨e1, e2, e3, l1⟩
theorem RS0.rows {G0 : Hp} (q : RS0 mg h' H0 G H r p a X xs e0s on nx) (s : Same G H) (hl : a.length ≤ 1000) (hX : ∀ (j : Nat) s, a[j]? = some s → (X j s).length ≤ 1000) :
    RL (REntry mg) (List.zipWith (fun e ks => (⟨e.play, e.origin, e.taken, ks⟩ : En)) e0s on) (.ref r) (pick G H (r :: e0s.map (·.o))) := by
  refine ⟨r, xs, rfl, (pick_in (List.mem_cons_self)).trans q.hr, by rw [q.xlen]; show _ ≤ 40000; omega, all2_en (q.xr.up (Same.picked s)) (by rw [q.ol, q.el]) fun j e ks he hk => ⟨e.o, _, rfl, (pick_in (List.mem_cons_of_mem _ (List.mem_map.mpr ⟨e, List.mem_of_getElem? he, rfl⟩))).trans (q.oh j e ks he hk), ?_, all2_nat.mpr rfl⟩⟩
  have hlt : j < a.length := by
    rw [← q.ol]
    exact (List.getElem?_eq_some_iff.mp hk).1
  have ha := List.getElem?_eq_getElem hlt
  obtain ⟨_, l2⟩ := q.lk j _ ks ha hk
  have := hX j _ ha
  rw [List.length_map, List.length_map, l2]
  show _ ≤ 40000
  omega
end
end DH
namespace DH
open PySem PySem.Spec PyProof.Rows L2
/-! ### row_from -/
def inT (h : Vberan.House) (lo : Int) (s : Vberan.Seen) (t : Nat) : List (Nat × Nat) := ((Vberan.steps h s.play).take t).filter fun x => decide ((x.1 : Int) ≠ lo)
def Xo (h : Vberan.House) (lo : Int) (i : Nat) : Nat → Vberan.Seen → List (Nat × Nat) := fun j s => if j < i then Vberan.steps (hOut h lo) s.play else []
def Xi (h : Vberan.House) (lo : Int) (i t : Nat) : Nat → Vberan.Seen → List (Nat × Nat) := fun j s => if j < i then Vberan.steps (hOut h lo) s.play else if j = i then inT h lo s t else []
def rowT (h : Vberan.House) (lo : Int) (pl : Vberan.Play) (s : Vberan.Seen) (i t : Nat) : List Vberan.Seen := (inT h lo s t).foldl (addSeen h s i) (stage (hOut h lo) pl i)
section
variable {h : Vberan.House} {lo : Int} {pl : Vberan.Play} {s : Vberan.Seen} {i t : Nat} {x : Nat × Nat}
theorem inT_more (e : (Vberan.steps h s.play)[t]? = some x) : inT h lo s (t + 1) = inT h lo s t ++ (if (x.1 : Int) ≠ lo then [x] else []) := by
  unfold inT
  rw [take_more e, List.filter_append, List.filter_cons]
  by_cases c : (x.1 : Int) ≠ lo
  · rw [if_pos c, decide_eq_true c]
    rfl
  · rw [if_neg c, decide_eq_false c]
    rfl
theorem rowT_more (e : (Vberan.steps h s.play)[t]? = some x) : rowT h lo pl s i (t + 1) = if (x.1 : Int) ≠ lo then addSeen h s i (rowT h lo pl s i t) x else rowT h lo pl s i t := by
  unfold rowT
  rw [inT_more e, List.foldl_append]
  by_cases c : (x.1 : Int) ≠ lo
  · rw [if_pos c, if_pos c]
    rfl
  · rw [if_neg c, if_neg c]
    rfl
theorem inT_all : inT h lo s (Vberan.steps h s.play).length = Vberan.steps (hOut h lo) s.play := by
  unfold inT
  rw [List.take_length, hOut_steps]
theorem rowT_all (e : (stage (hOut h lo) pl i)[i]? = some s) : rowT h lo pl s i (Vberan.steps h s.play).length = stage (hOut h lo) pl (i + 1) := by
  unfold rowT
  rw [inT_all, stage_some e, hOut_add]
theorem rowT_zero : rowT h lo pl s i 0 = stage (hOut h lo) pl i := by
  unfold rowT inT
  rw [List.take_zero]
  rfl
theorem rowT_at (e : (stage (hOut h lo) pl i)[i]? = some s) (t : Nat) : (rowT h lo pl s i t)[i]? = some s := by
  unfold rowT
  obtain ⟨m, em, _⟩ := fold_app h s i (inT h lo s t) (stage (hOut h lo) pl i)
  rw [em]
  exact get_app_left e
theorem fold_len (h : Vberan.House) (s : Vberan.Seen) (i : Nat) : ∀ (xs : List (Nat × Nat)) (a : List Vberan.Seen), (xs.foldl (addSeen h s i) a).length ≤ a.length + xs.length
  | [], _ => Nat.le_refl _
  | x :: xs, a => by
    have ih := fold_len h s i xs (addSeen h s i a x)
    have : (addSeen h s i a x).length ≤ a.length + 1 := by
      unfold addSeen
      split
      · omega
      · rw [List.length_append]; exact Nat.le_refl _
    rw [List.foldl_cons, List.length_cons]
    omega
theorem inT_len (t : Nat) : (inT h lo s t).length ≤ t := by
  unfold inT
  refine Nat.le_trans (List.length_filter_le _ _) ?_
  rw [List.length_take]
  omega
theorem rowT_len (t : Nat) : (rowT h lo pl s i t).length ≤ (stage (hOut h lo) pl i).length + t := by
  unfold rowT
  have h1 := fold_len h s i (inT h lo s t) (stage (hOut h lo) pl i)
  have h2 := inT_len (h := h) (lo := lo) (s := s) t
  omega
theorem addSeen_has (h : Vberan.House) (s : Vberan.Seen) (i : Nat) (a : List Vberan.Seen) (x : Nat × Nat) : ∃ (k : Nat) (y : Vberan.Seen), (addSeen h s i a x)[k]? = some y ∧ y.play = Vberan.doneWith h s.play x.1 x.2 := by
  unfold addSeen
  split
  · rename_i c
    obtain ⟨y, hy, e⟩ := any_same.mp c
    obtain ⟨k, hk⟩ := List.getElem?_of_mem hy
    exact ⟨k, y, hk, e⟩
  · exact ⟨a.length, _, by rw [List.getElem?_append_right (Nat.le_refl _), Nat.sub_self]; rfl, rfl⟩
end
/-! readings, opened -/
section
variable {K : PySem.W.Frag} {mg : Mg} {σ : L2.St} {G H : Hp} {te ta tb tc tk tv : TE} {tu tz : TS} {D : Ends} {Q : VK} {C : Addr} {sp : Sp} {i j m : Nat} {r p b : Addr} {xs : List V} {nx : List NX}
theorem q_lst1 (h : te σ H fun x H1 => [x].length ≤ sizeLine ∧ ∀ p, H1 p = none → tz D (σ.set i (some (.ref p))) (upd H1 p (.lst [x]))) : tSeq (tAsg (tLst (tCons te tNil)) (gName i)) tz D σ H := h
theorem t_make3 (h : ta σ H fun x1 H1 => tb σ H1 fun x2 H2 => tc σ H2 fun x3 H3 => ∀ x dx, H3 x = none → H3 dx = none → dx ≠ x → sp [.ref x, x1, x2, x3] (upd (upd H3 dx (.own x)) x (.ins C dx [])) (fun v H4 => v = .non ∧ Q (.ref x) H4) C8.E0) :
    tMake C sp [] C8.E0 (tCons ta (tCons tb (tCons tc tNil))) σ H Q := h
theorem q_nd1 (h : ∀ p, H p = none → tk σ (upd H p (ND p [])) fun y H1 => tv σ H1 fun v H2 => ∃ b k, H2 p = some (ND p []) ∧ y = .ref b ∧ KeyAt H2 b k ∧ ∀ u, RelV v u → tz D (σ.set i (some (.ref p))) (upd H2 p (ND p [(k, b, u)]))) :
    tSeq (tAsg (tND1 tk tv) (gName i)) tz D σ H := h
theorem q_ixH {n : Nat} {v : V} (hs : σ[j]? = some (some (.ref r))) (hi : σ[m]? = some (some (.int (n : Int)))) (hr : H r = some (.lst xs)) (hv : xs[n]? = some v) (k : tz D (σ.set i (some v)) H) : tSeq (tAsg (tOp (rIxL K) (tVar j) (tVar m)) (gName i)) tz D σ H :=
  ⟨_, hs, _, hi, r, xs, (n : Int), v, rfl, rfl, SqL.of hr, atI_nat hv, k⟩
theorem q_ndnot {k : NK} (hj : σ[j]? = some (some (.ref b))) (hm : σ[m]? = some (some (.ref p))) (hp : H p = some (ND p nx)) (hk : KeysAt H nx) (hb : KeyAt H b k) (k1 : (∃ z ∈ nx, z.1 = k) → tz D σ H) (k2 : (∀ z ∈ nx, z.1 ≠ k) → tu { D with nx := tz D } σ H) :
    tSeq (tIfS (tB (tNDNotIn (tVar j) (tVar m))) tu tNext) tz D σ H := ⟨_, hj, _, hm, p, nx, b, k, rfl, hp, hk, rfl, hb, fun c => ⟨false, rfl, k1 c⟩, fun c => ⟨true, rfl, k2 c⟩⟩
theorem q_ndput {k : NK} (h3 : σ[m]? = some (some (.ref r))) (hr : H r = some (.lst xs)) (hi : σ[i]? = some (some (.ref p))) (hj : σ[j]? = some (some (.ref b))) (hp : H p = some (ND p nx)) (hk : KeysAt H nx) (hb : KeyAt H b k) (hn : ∀ z ∈ nx, z.1 ≠ k) (hz : nx.length < sizeLine)
    (kk : ∀ t, tz D σ (upd H p (ND p (nx ++ [(k, b, .int (xs.length : Int) t)])))) : tSeq (sNDPut (tVar i) (tVar j) (tCB (rLenS K) (tCons (tVar m) tNil))) tz D σ H :=
  ⟨_, h3, r, xs, rfl, .inl (SqL.of hr), _, hi, _, hj, p, nx, b, k, rfl, hp, hk, rfl, hb, hn, hz, fun u ⟨t, e⟩ => by rw [e]; exact kk t⟩
theorem go_row0 {a : V} {H1 : Hp} (k : ∀ x dx o H3, H1 x = none → H1 o = none → x ≠ o → Same H1 H3 → H3 x = some (.ins (adr mg "Entry") dx (fEntry a (.int 0) .non (.ref o))) → H3 o = some (.lst []) → ∀ r, H3 r = none → tz D (σ.set i (some (.ref r))) (upd H3 r (.lst [.ref x]))) :
    tC (.int 0) σ H1 (fun b H2 => tC .non σ H2 (fun c H3 => ∀ x dx, H3 x = none → H3 dx = none → dx ≠ x → sp_Entry_init mg [.ref x, a, b, c] (upd (upd H3 dx (.own x)) x (.ins (adr mg "Entry") dx [])) (fun v H4 => v = .non ∧ ([V.ref x].length ≤ sizeLine ∧ ∀ p, H4 p = none → tz D (σ.set i (some (.ref p))) (upd H4 p (.lst [.ref x])))) C8.E0)) :=
  mk_entry (mg := mg) H1 a (.int 0) .non (fun v H4 => [v].length ≤ sizeLine ∧ ∀ p, H4 p = none → tz D (σ.set i (some (.ref p))) (upd H4 p (.lst [v]))) fun x dx o H3 n1 n2 n3 s h1 h2 => ⟨(by show 1 ≤ sizeLine; decide), k x dx o H3 n1 n2 n3 s h1 h2⟩
theorem s_appE {j9 j5 j7 j8 : Nat} {a b c7 c8 : V} (hs : σ[i]? = some (some (.ref r))) (hr : H r = some (.lst xs)) (h9 : σ[j9]? = some (some a)) (h5 : σ[j5]? = some (some b)) (h7 : σ[j7]? = some (some c7)) (h8 : σ[j8]? = some (some c8)) (hz : xs.length < sizeLine)
    (k : ∀ tp, H tp = none → ∀ x dx o H3, (upd H tp (.tup [c7, c8])) x = none → (upd H tp (.tup [c7, c8])) o = none → x ≠ o → Same (upd H tp (.tup [c7, c8])) H3 → H3 x = some (.ins (adr mg "Entry") dx (fEntry a b (.ref tp) (.ref o))) → H3 o = some (.lst []) → D.nx σ (upd H3 r (.lst (xs ++ [.ref x])))) :
    tDrop (tBM K "list" rAppend (tVar i) (tCons (tMake (adr mg "Entry") (sp_Entry_init mg) [] C8.E0 (tCons (tVar j9) (tCons (tVar j5) (tCons (tTup (tCons (tVar j7) (tCons (tVar j8) tNil))) tNil)))) tNil)) D σ H :=
  ⟨_, hs, Or.inl ⟨rfl, _, SqL.of hr⟩, _, h9, _, h5, _, h7, _, h8, (by show 2 ≤ sizeLine; decide), fun tp ht => mk_entry (mg := mg) (upd H tp (.tup [c7, c8])) a b (.ref tp) (fun v H4 => rAppend (.ref r) [v] H4 (fun _ H5 => D.nx σ H5)) fun x dx o H3 n1 n2 n3 s3 hx ho =>
    ⟨r, xs, .ref x, rfl, rfl, s3 _ _ (by rw [upd_ne (ne_of_none hr ht)]; exact hr), hz, k tp ht x dx o H3 n1 n2 n3 s3 hx ho⟩⟩
theorem s_onw (T : Top K mg) {j4 j10 : Nat} {pe dx o : Addr} {a b' c : V} {ys : List V} {z : NX} {v : V} (hs : σ[i]? = some (some (.ref pe))) (hpe : H pe = some (.ins (adr mg "Entry") dx (fEntry a b' c (.ref o)))) (ho : H o = some (.lst ys)) (h4 : σ[j4]? = some (some (.ref p))) (h10 : σ[j10]? = some (some (.ref b)))
    (hp : H p = some (ND p nx)) (hk : KeysAt H nx) (hb : KeyAt H b z.1) (hz : z ∈ nx) (rv : RelV v z.2.2) (hl : ys.length < sizeLine) (k : D.nx σ (upd H o (.lst (ys ++ [v])))) :
    tDrop (tBM K "list" rAppend (tFld K (tVar i) "onward") (tCons (tNDGet (tVar j4) (tVar j10)) tNil)) D σ H :=
  ⟨_, hs, pe, _, dx, _, .ref o, rfl, hpe, T.c_Entry, T.n_Entry_onward, lk_4 (by decide +kernel) (by decide +kernel) (by decide +kernel), Or.inl ⟨rfl, _, SqL.of ho⟩, _, h4, _, h10, p, nx, b, z, v, rfl, hp, hk, rfl, hb, hz, rv, o, ys, v, rfl, rfl, ho, hl, k⟩
end
def sp_row_from (mg : Mg) : Sp := fun vs H Q E => ∃ G h pl lo x y, Same G H ∧ vs = [x, y] ∧ RHouse mg (h, pl) x G ∧ RI lo y G ∧ WfH h ∧ WfP h pl ∧ (Vberan.states (hOut h lo) pl = none → ∀ H2, Same H H2 → E (.ref (adr mg "NoRow")) none H2) ∧
  (∀ l es, Vberan.states (hOut h lo) pl = some l → FitsE (hOut h lo) l es → Ret (RL (REntry mg)) es G H Q)
section
variable {K : PySem.W.Frag} {mg : Mg} {vs : List V} {H : Hp} {Q : VK} {E : XK}
theorem fits_h {h : Vberan.House} {pl : Vberan.Play} (wh : WfH h) (wp : WfP h pl) : ∀ e ∈ h.deeds, FitsD e pl.things.length := fun e he => ⟨fun u hu => by rw [wp.tl]; exact wh.ul e he u hu, by rw [wp.tl]; exact wh.gl e he⟩
theorem wfp_back {h : Vberan.House} {lo : Int} {q : Vberan.Play} (w : WfP (hOut h lo) q) : WfP h q := by
  have e : (hOut h lo).deeds.length = h.deeds.length := by
    unfold hOut
    split
    · exact without_len
    · rfl
  exact ⟨w.ds, fun x hx => by rw [← e]; exact w.dl x hx, by rw [w.tl]; exact hOut_kinds⟩
theorem keysH {G H : Hp} {nx : List NX} (s : Same G H) (h : ∀ z ∈ nx, RMk z.1 (.ref z.2.1) G) : KeysAt H nx := fun z hz => by
  obtain ⟨b, e, k⟩ := h z hz
  cases e
  exact k.up fun c u q => s c _ q
theorem pure_row_from (T : Top K mg) (h : sp_row_from mg vs H Q E) : t_row_from K mg E (sp_all_steps mg) (sp_mark_of mg) (sp_play_after mg) (sp_Entry_init mg) { nx := fun _ H' => Q .non H', rt := Q } (start N_row_from vs) H := by
  obtain ⟨G, h, pl, lo, x, y, sm, rfl, rx, ry, wh, wp, kE, kQ⟩ := h
  cases (show y = V.int lo from ry)
  have wh' : WfH (hOut h lo) := hOut_wf wh
  have wp' : WfP (hOut h lo) pl := hOut_wfp wp
  refine q_asg sm (ev_deeds T (ev_var rfl rx)) fun v2 G1 H1 w1 r2 => ?_
  have rx1 := Mono.up w1.gg rx
  refine q_lst1 (t_make3 (ev_play T (ev_var (i := 0) rfl rx1) G1 H1 (Same.refl _) w1.gh _ fun vp G2 H2 w2 rp => ?_))
  refine go_row0 (mg := mg) fun x0 dx0 o0 H3 nx0 no0 xo0 s3 hx0 ho0 r hr => ?_
  have w02 := w1.trans w2
  have w3 : Grow G H (upd G2 x0 (.ins (adr mg "Entry") dx0 (fEntry vp (.int 0) .non (.ref o0)))) H3 := (w02.trans (Grow.stay w2.gh s3)).show_ (w02.hh.free nx0) hx0
  have g2x : Same G2 (upd G2 x0 (.ins (adr mg "Entry") dx0 (fEntry vp (.int 0) .non (.ref o0)))) := Same.new (w2.gh.free nx0)
  have hr0 : H r = none := w3.hh.free hr
  have ho00 : H o0 = none := w02.hh.free no0
  have ro : r ≠ o0 := fun z => by rw [z, ho0] at hr; cases hr
  have rp3 := Mono.up g2x rp
  have gr3 := w3.gh.free hr
  have go3 : (upd G2 x0 (.ins (adr mg "Entry") dx0 (fEntry vp (.int 0) .non (.ref o0)))) o0 = none := by
    rw [upd_ne (Ne.symm xo0)]
    exact w2.gh.free no0
  generalize hG3 : (upd G2 x0 (.ins (adr mg "Entry") dx0 (fEntry vp (.int 0) .non (.ref o0)))) = G3 at w3 g2x rp3 gr3 go3
  have hx3 : G3 x0 = some (.ins (adr mg "Entry") dx0 (fEntry vp (.int 0) .non (.ref o0))) := by rw [← hG3, upd_same]
  have w4 : Grow G H G3 (upd H3 r (.lst [.ref x0])) := w3.mutd hr0 gr3
  have h4r : (upd H3 r (.lst [.ref x0])) r = some (.lst [.ref x0]) := upd_same
  have h4o : (upd H3 r (.lst [.ref x0])) o0 = some (.lst []) := by rw [upd_ne (Ne.symm ro)]; exact ho0
  generalize (upd H3 r (.lst [.ref x0])) = H4 at w4 h4r h4o
  refine q_nd1 fun p hp => ?_
  have hp0 : H p = none := w4.hh.free hp
  have gp3 := w4.gh.free hp
  have w5 : Grow G H G3 (upd H4 p (ND p [])) := w4.mutd hp0 gp3
  have pr : p ≠ r := fun z => by rw [z, h4r] at hp; cases hp
  have po : p ≠ o0 := fun z => by rw [z, h4o] at hp; cases hp
  refine ev_mark (ev_play T (ev_var (i := 0) rfl (Mono.up w4.gg rx))) G3 _ (Same.refl _) w5.gh _ fun vm G5 H5 w5' rm => ?_
  obtain ⟨b0, rfl, kb0⟩ := rm
  have w05 := w5.trans w5'
  refine ⟨b0, markOf pl, w5'.hh _ _ upd_same, rfl, kb0.up fun c u q => w5'.gh c _ q, fun u0 ⟨t0, hu0⟩ => ?_⟩
  subst hu0
  have gp5 := w5'.out upd_same gp3
  have gr5 : G5 r = none := w5'.out (by rw [upd_ne (Ne.symm pr)]; exact h4r) gr3
  have go5 : G5 o0 = none := w5'.out (by rw [upd_ne (Ne.symm po)]; exact h4o) go3
  have w6 : Grow G H G5 (upd H5 p (ND p [(markOf pl, b0, .int 0 t0)])) := w05.mutd hp0 gp5
  have rs0 : RS0 mg (hOut h lo) H G5 (upd H5 p (ND p [(markOf pl, b0, .int 0 t0)])) r p (stage (hOut h lo) pl 0) (Xo h lo 0) [.ref x0] [⟨pl, 0, none, o0⟩] [[]] [(markOf pl, b0, .int 0 t0)] := by
    refine ⟨?_, gr5, ⟨⟨x0, dx0, vp, .int 0, .non, rfl, w5'.gg _ _ hx3, Mono.up w5'.gg rp3, rfl, rfl⟩, trivial⟩, upd_same, gp5, fun z hz => ?_, ⟨rfl, fun j z s hz hs => ?_⟩, rfl, rfl, fun j s e hs he => ?_, fun j s ks hs hk => ?_, fun j e ks he hk => ?_, by simp, fun b hb => ?_⟩
    · rw [upd_ne (Ne.symm pr)]
      exact w5'.hh _ _ (by rw [upd_ne (Ne.symm pr)]; exact h4r)
    · rw [List.mem_singleton.mp hz]
      exact ⟨b0, rfl, kb0⟩
    · cases j with
      | zero =>
        cases (Option.some.inj hz)
        cases (Option.some.inj hs)
        exact ⟨rfl, t0, rfl⟩
      | succ j => cases hz
    · cases j with
      | zero =>
        cases (Option.some.inj he)
        cases (Option.some.inj hs)
        exact ⟨rfl, rfl, fun z => absurd z (Nat.lt_irrefl 0)⟩
      | succ j => cases he
    · cases j with
      | zero =>
        cases (Option.some.inj hk)
        exact ⟨LinksOn.nil, rfl⟩
      | succ j => cases hk
    · cases j with
      | zero =>
        cases (Option.some.inj he)
        cases (Option.some.inj hk)
        rw [upd_ne (Ne.symm po)]
        exact w5'.hh _ _ (by rw [upd_ne (Ne.symm po)]; exact h4o)
      | succ j => cases he
    · have hb : b = o0 := by simpa using hb
      rw [hb]
      exact ⟨ho00, go5, Ne.symm ro, Ne.symm po⟩
  refine q_asg w6.gh (ev_nat (n := 0) rfl) fun v5 G6 H6 w6' r5 => ?_
  cases (show v5 = V.int ((0 : Nat) : Int) from r5)
  refine q_whileC (G0 := G) (H0 := H) (fun m σ' G' H' => ∃ (i : Nat) (a6 a7 a8 a9 a10 : Option V) (xs : List V) (e0s : List E0) (on : List (List Nat)) (nx : List NX), σ' = [some x, some (.int lo), some v2, some (.ref r), some (.ref p), some (.int (i : Int)), a6, a7, a8, a9, a10] ∧
      RS0 mg (hOut h lo) H G' H' r p (stage (hOut h lo) pl i) (Xo h lo i) xs e0s on nx ∧ (stage (hOut h lo) pl i).length ≤ 200 ∧ m = 201 - i)
    201 (w6.trans w6') ⟨0, none, none, none, none, none, _, _, _, _, rfl, rs0.up w6', (by show 1 ≤ 200; decide), rfl⟩ ?_
  rintro m σ1 G7 H7 g7 s7 ⟨i, a6, a7, a8, a9, a10, xs, e0s, on, nx, rfl, q, hlen, rfl⟩
  have g07 : Same G G7 := (w6.trans w6').gg.trans g7
  have rrow : RL (RE0 mg) e0s (.ref r) (upd G7 r (.lst xs)) := ⟨r, xs, rfl, upd_same, by rw [q.xlen]; show _ ≤ 40000; omega, q.xr.up (Same.new q.gr)⟩
  refine ⟨decide (i < (stage (hOut h lo) pl i).length), fun Q2 k2 => et_seenO s7.gh q.hr (et_is (et_test (ev_lt (ev_n2i (ev_var (i := 5) (R := RN) (a := i) rfl rfl)) (ev_n2i (ev_len (ev_var (i := 3) rfl rrow))))) (by rw [q.el]; exact decide_eq_decide.mpr (by omega))) k2, fun hb H8 w8 => ?_, fun hb H8 w8 => ?_⟩
  · have hi : i < (stage (hOut h lo) pl i).length := of_decide_eq_true hb
    have q8 := q.up w8
    have s8 := s7.trans w8
    obtain ⟨s, hs⟩ : ∃ s, (stage (hOut h lo) pl i)[i]? = some s := ⟨_, List.getElem?_eq_getElem hi⟩
    have ws : WfP h s.play := wfp_back ((stage_row wp' i).wf s (List.mem_of_getElem? hs))
    obtain ⟨en, hen⟩ : ∃ e, e0s[i]? = some e := ⟨_, List.getElem?_eq_getElem (by rw [q.el]; exact hi)⟩
    obtain ⟨v6, hv6, re6⟩ := q8.xr.at hen
    have ep : en.play = s.play := (q8.at_ i s en hs hen).1
    refine q_ixH (j := 3) (m := 5) (n := i) rfl rfl q8.hr hv6 ?_
    have hst := steps_stepsI (h := h) (p := s.play) wh
    have hT80 := stepsI_len (p := s.play) wh
    have hlenT : (Vberan.steps h s.play).length = (stepsI h.deeds s.play).length := by
      rw [← hst, List.length_map]
    refine q_for (G0 := G) (H0 := H) s8 (src_list (ev_call2 (W := RL (RP RN RI)) (c := stepsI h.deeds s.play) (ev_var (i := 2) rfl (Mono.up ((w2.gg.trans (g2x.trans (w5'.gg.trans w6'.gg))).trans (g7.trans w8.gg)) r2)) (ev_is (ev_eplay0 T (ev_var (i := 6) rfl re6)) ep) fun x y G1 H1 Q _ sm rx ry k => ⟨G1, h.deeds, s.play, x, y, sm, rfl, rx, ry, fits_h wh ws, wh.n16, fun e he => wh.u5 he, k⟩)) hit_pair
      (fun t σ' G' H' => ∃ (a7 a8 a9 a10 : Option V) (xs : List V) (e0s : List E0) (on : List (List Nat)) (nx : List NX), σ' = [some x, some (.int lo), some v2, some (.ref r), some (.ref p), some (.int (i : Int)), some v6, a7, a8, a9, a10] ∧
        RS0 mg (hOut h lo) H G' H' r p (rowT h lo pl s i t) (Xi h lo i t) xs e0s on nx ∧ xs[i]? = some v6)
      (fun G9 H9 w9 => ⟨a7, a8, a9, a10, xs, e0s, on, nx, rfl, ?_, hv6⟩) ?_ ?_
    · rw [rowT_zero]
      refine (q8.up w9).swap fun j z _ => ?_
      unfold Xo Xi inT
      rw [List.take_zero]
      by_cases c : j < i
      · rw [if_pos c, if_pos c]
      · rw [if_neg c, if_neg c]
        split <;> rfl
    · rintro t c σ3 G9 H9 htc g9 s9 ⟨b7, b8, b9, b10, xs9, e09, on9, nx9, rfl, q9, hv9⟩ G10 H10 σ4 w10 ⟨v7, v8, r7, r8, rfl⟩
      obtain ⟨xx, hxx, rfl⟩ : ∃ xx, (Vberan.steps h s.play)[t]? = some xx ∧ c = (xx.1, Vberan.kindNum h xx.2) := by
        rw [← hst, List.getElem?_map] at htc
        cases q0 : (Vberan.steps h s.play)[t]? with
        | none => rw [q0] at htc; cases htc
        | some z => rw [q0] at htc; exact ⟨z, rfl, (Option.some.inj htc).symm⟩
      have hstep : IsStep h s.play xx := List.mem_of_getElem? hxx
      obtain ⟨hd, hc⟩ := step_iff.mp hstep
      obtain ⟨hnd, hkk⟩ := choices_pos hc
      have ht80 : t < 80 := by
        have := (List.getElem?_eq_some_iff.mp hxx).1
        omega
      have hlenR : (rowT h lo pl s i t).length ≤ 300 := by
        have := rowT_len (h := h) (lo := lo) (pl := pl) (s := s) (i := i) t
        omega
      refine s_if w10.gh (et_test (ev_ne (ev_n2i (ev_var (i := 7) rfl r7)) (ev_var (i := 1) (R := RI) (a := lo) rfl rfl))) (fun hb G11 H11 w11 => ?_) (fun hb G11 H11 w11 => ?_)
      · have hb : (xx.1 : Int) ≠ lo := of_decide_eq_true hb
        have q11 := (q9.up w10).up w11
        have s11 := (s9.trans w10).trans w11
        have g11 : Same G9 G11 := w10.gg.trans w11.gg
        have r7' : ∀ G', RN xx.1 v7 G' := fun _ => r7
        have r8' : ∀ G', RI (Vberan.kindNum h xx.2) v8 G' := fun _ => r8
        refine q_asg w11.gh (ev_call4 (W := RPlay mg) (c := Vberan.doneWith h s.play xx.1 xx.2) (ev_var (i := 2) rfl (Mono.up (((w2.gg.trans (g2x.trans (w5'.gg.trans w6'.gg))).trans (g7.trans w8.gg)).trans (g9.trans g11)) r2)) (ev_is (ev_eplay0 T (ev_var (i := 6) rfl (Mono.up (g9.trans g11) re6))) ep) (ev_var (i := 7) rfl (r7' G11)) (ev_var (i := 8) rfl (r8' G11))
          fun x y z u Ga Ha Qa _ sa rxa rya rza rua ka => ⟨Ga, Ga, h.deeds, Vberan.deedAt h xx.1, s.play, xx.1, Vberan.kindNum h xx.2, x, y, z, u, sa, sa, rfl, rxa, rya, rza, rua, deedAt_get hd, (wh.gl _ (deedAt_mem hd)).trans ws.tl.symm, ws.ds, hnd, Nat.le_trans (ws.dlen wh) (by decide), by rw [ws.tl]; exact Nat.le_trans wh.k5 (by decide), by rw [ws.tl]; exact hkk, by rw [after_doneWith wh ws hd hc]; exact ka⟩) fun v9 G12 H12 w12 r9 => ?_
        refine q_asg w12.gh (ev_mark (ev_var (i := 9) rfl r9)) fun v10 G13 H13 w13 rm => ?_
        have hnp : ∃ np, Vberan.doneWith h s.play xx.1 xx.2 = np := ⟨_, rfl⟩
        obtain ⟨np, enp⟩ := hnp
        rw [enp] at r9 rm
        obtain ⟨b, rfl, kb⟩ := rm
        have q13 := (q11.up w12).up w13
        have s13 := (s11.trans w12).trans w13
        have g13 : Same G9 G13 := g11.trans (w12.gg.trans w13.gg)
        have km13 : RMk (markOf np) (.ref b) G13 := ⟨b, rfl, kb⟩
        have kbH : KeyAt H13 b (markOf np) := kb.up fun c u q => w13.gh c _ q
        have erow := rowT_more (lo := lo) (pl := pl) (i := i) hxx
        rw [if_pos hb] at erow
        have fin : ∀ (Gf Hf : Hp) (xsf : List V) (e0f : List E0) (onf : List (List Nat)) (nxf : List NX), Same G13 Gf → Grow G H Gf Hf → RS0 mg (hOut h lo) H Gf Hf r p (rowT h lo pl s i (t + 1)) (Xi h lo i t) xsf e0f onf nxf → xsf[i]? = some v6 → RMk (markOf np) (.ref b) Gf →
            ∃ (pe dx o : Addr) (a b' c : V) (ys : List V) (z : NX) (v : V), v6 = .ref pe ∧ Hf pe = some (.ins (adr mg "Entry") dx (fEntry a b' c (.ref o))) ∧ Hf o = some (.lst ys) ∧ Hf p = some (ND p nxf) ∧ KeysAt Hf nxf ∧ KeyAt Hf b z.1 ∧ z ∈ nxf ∧ RelV v z.2.2 ∧ ys.length < sizeLine ∧ Grow G H Gf (upd Hf o (.lst (ys ++ [v]))) ∧
              ∃ on', RS0 mg (hOut h lo) H Gf (upd Hf o (.lst (ys ++ [v]))) r p (rowT h lo pl s i (t + 1)) (Xi h lo i (t + 1)) xsf e0f on' nxf := by
          intro Gf Hf xsf e0f onf nxf gf wf qf hvf kmf
          obtain ⟨k, y, hy, ey⟩ := addSeen_has h s i (rowT h lo pl s i t) xx
          rw [← erow] at hy
          have hs' := rowT_at (pl := pl) hs (t + 1)
          have hil : i < (rowT h lo pl s i (t + 1)).length := (List.getElem?_eq_some_iff.mp hs').1
          obtain ⟨e, he⟩ : ∃ e, e0f[i]? = some e := ⟨_, List.getElem?_eq_getElem (by rw [qf.el]; exact hil)⟩
          obtain ⟨ks, hk⟩ : ∃ ks, onf[i]? = some ks := ⟨_, List.getElem?_eq_getElem (by rw [qf.ol]; exact hil)⟩
          obtain ⟨v', hv', re'⟩ := qf.xr.at he
          rw [hvf] at hv'
          cases (Option.some.inj hv')
          obtain ⟨pe, dx, a, b', c, ev, hpe, _⟩ := re'
          obtain ⟨z, hz, ez, tk, etk⟩ := qf.pl.at_ hy
          obtain ⟨h0, hg, _⟩ := qf.of_ e.o (List.mem_map.mpr ⟨e, List.mem_of_getElem? he, rfl⟩)
          obtain ⟨_, hl2⟩ := qf.lk i s ks hs' hk
          have hXi : Xi h lo i t i s = inT h lo s t := by
            unfold Xi
            rw [if_neg (Nat.lt_irrefl i), if_pos rfl]
          refine ⟨pe, dx, e.o, a, b', c, _, z, .int (k : Int), ev, wf.gh _ _ hpe, qf.oh i e ks he hk, qf.hp, keysH wf.gh qf.keys, ?_, hz, ⟨tk, etk⟩, ?_, wf.mutd h0 hg, onf.set i (ks ++ [k]), ?_⟩
          · rw [ez, ey, enp]
            obtain ⟨b2, e2, k2⟩ := kmf
            cases e2
            exact k2.up fun c u q => wf.gh c _ q
          · rw [List.length_map, List.length_map, hl2, hXi]
            have := inT_len (h := h) (lo := lo) (s := s) t
            exact Nat.lt_of_le_of_lt (by omega : _ ≤ 1000) (by decide)
          · have qq := qf.link (Y := Xi h lo i (t + 1)) hs' he hk hy (x := xx) (by rw [hOut_done]; exact ey) (by
              rw [hXi]
              unfold Xi
              rw [if_neg (Nat.lt_irrefl i), if_pos rfl, inT_more hxx, if_pos hb]) fun j z2 hj _ => by
                unfold Xi
                by_cases c1 : j < i
                · rw [if_pos c1, if_pos c1]
                · rw [if_neg c1, if_neg c1, if_neg hj, if_neg hj]
            rw [List.map_append, List.map_append] at qq
            exact qq
        refine q_ndnot (j := 10) (m := 4) (b := b) (p := p) (k := markOf np) rfl rfl q13.hp (keysH w13.gh q13.keys) kbH (fun hin => ?_) (fun hnin => ?_)
        · have hany := (q13.pl.has np).mp hin
          have er2 : rowT h lo pl s i (t + 1) = rowT h lo pl s i t := by
            rw [erow]
            unfold addSeen
            rw [enp, if_pos hany]
          obtain ⟨pe, dx, o, a, b', c, ys, z, v, rfl, hpe, ho, hp', hk', hb', hz, rv, hl, wl, on', ql⟩ := fin G13 H13 xs9 e09 on9 nx9 (Same.refl _) s13 (by rw [er2]; exact q13) hv9 km13
          refine s_onw T (i := 6) (j4 := 4) (j10 := 10) rfl hpe ho rfl rfl hp' hk' hb' hz rv hl ?_
          exact ⟨G13, g13, wl, some v7, some v8, some v9, some (.ref b), xs9, e09, on', nx9, rfl, ql, hv9⟩
        · have hany : ¬ ((rowT h lo pl s i t).any fun y => Vberan.samePlay y.play np) = true := fun z => by
            obtain ⟨z1, z2, z3⟩ := (q13.pl.has np).mpr z
            exact hnin z1 z2 z3
          have er2 : rowT h lo pl s i (t + 1) = rowT h lo pl s i t ++ [⟨np, s.steps + 1, i, xx⟩] := by
            rw [erow]
            unfold addSeen
            rw [enp, if_neg hany]
          have hxl := q13.xlen
          have hnl := q13.pl.1
          refine q_ndput (m := 3) (i := 4) (j := 10) (k := markOf np) rfl q13.hr rfl rfl q13.hp (keysH w13.gh q13.keys) kbH hnin (Nat.lt_of_le_of_lt (by omega : _ ≤ 1000) (by decide)) fun tk => ?_
          have rp' : r ≠ p := fun z => by
            have := q13.hr
            rw [z, q13.hp] at this
            cases this
          have w14 : Grow G H G13 (upd H13 p (ND p (nx9 ++ [(markOf np, b, .int (xs9.length : Int) tk)]))) := s13.mutd hp0 q13.gp
          have hr14 : (upd H13 p (ND p (nx9 ++ [(markOf np, b, .int (xs9.length : Int) tk)]))) r = some (.lst xs9) := by
            rw [upd_ne rp']
            exact q13.hr
          refine s_appE (mg := mg) (i := 3) (j9 := 9) (j5 := 5) (j7 := 7) (j8 := 8) rfl hr14 rfl rfl rfl rfl (Nat.lt_of_le_of_lt (by omega : _ ≤ 1000) (by decide)) fun tp htp x' dx' o' H15 nx' no' xo' s15 hx' ho' => ?_
          have wT := w14.trans (Grow.new (o := .tup [v7, v8]) w14.gh htp)
          have wE := (wT.trans (Grow.stay wT.gh s15)).show_ (wT.hh.free nx') hx'
          -- what stands in the heap ahead of all this is elsewhere
          have old : ∀ c u, H13 c = some u → c ≠ p → c ≠ tp ∧ c ≠ x' ∧ c ≠ o' ∧ H15 c = some u := fun c u hcu hcp => by
            have h14 : (upd H13 p (ND p (nx9 ++ [(markOf np, b, .int (xs9.length : Int) tk)]))) c = some u := by
              rw [upd_ne hcp]
              exact hcu
            have c1 : c ≠ tp := ne_of_none h14 htp
            have h14' : (upd (upd H13 p (ND p (nx9 ++ [(markOf np, b, .int (xs9.length : Int) tk)]))) tp (.tup [v7, v8])) c = some u := by
              rw [upd_ne c1]
              exact h14
            exact ⟨c1, ne_of_none h14' nx', ne_of_none h14' no', s15 _ _ h14'⟩
          have hp14 : (upd H13 p (ND p (nx9 ++ [(markOf np, b, .int (xs9.length : Int) tk)]))) p = some (ND p (nx9 ++ [(markOf np, b, .int (xs9.length : Int) tk)])) := upd_same
          have ptp : p ≠ tp := ne_of_none hp14 htp
          have hp14' : (upd (upd H13 p (ND p (nx9 ++ [(markOf np, b, .int (xs9.length : Int) tk)]))) tp (.tup [v7, v8])) p = some (ND p (nx9 ++ [(markOf np, b, .int (xs9.length : Int) tk)])) := by
            rw [upd_ne ptp]
            exact hp14
          have px' : p ≠ x' := ne_of_none hp14' nx'
          have po' : p ≠ o' := ne_of_none hp14' no'
          obtain ⟨rtp, rx', ro', hr15⟩ := old r _ q13.hr rp'
          have tx' : tp ≠ x' := ne_of_none (H := upd (upd H13 p (ND p (nx9 ++ [(markOf np, b, .int (xs9.length : Int) tk)]))) tp (.tup [v7, v8])) upd_same nx'
          have to' : tp ≠ o' := ne_of_none (H := upd (upd H13 p (ND p (nx9 ++ [(markOf np, b, .int (xs9.length : Int) tk)]))) tp (.tup [v7, v8])) upd_same no'
          have s13g : Same G13 (upd (upd G13 tp (.tup [v7, v8])) x' (.ins (adr mg "Entry") dx' (fEntry v9 (.int (i : Int)) (.ref tp) (.ref o')))) := (Same.new (w14.gh.free htp)).trans (Same.new (wT.gh.free nx'))
          have gnone : ∀ c, G13 c = none → c ≠ tp → c ≠ x' → (upd (upd G13 tp (.tup [v7, v8])) x' (.ins (adr mg "Entry") dx' (fEntry v9 (.int (i : Int)) (.ref tp) (.ref o')))) c = none := fun c h1 h2 h3 => by
            rw [upd_ne h3, upd_ne h2]
            exact h1
          have no13 : H13 o' = none := by
            cases z : H13 o' with
            | none => rfl
            | some u => exact absurd rfl (old o' u z (Ne.symm po')).2.2.1
          have gx : (upd (upd G13 tp (.tup [v7, v8])) x' (.ins (adr mg "Entry") dx' (fEntry v9 (.int (i : Int)) (.ref tp) (.ref o')))) x' = some (.ins (adr mg "Entry") dx' (fEntry v9 (.int (i : Int)) (.ref tp) (.ref o'))) := upd_same
          have gt : (upd (upd G13 tp (.tup [v7, v8])) x' (.ins (adr mg "Entry") dx' (fEntry v9 (.int (i : Int)) (.ref tp) (.ref o')))) tp = some (.tup [v7, v8]) := by
            rw [upd_ne tx', upd_same]
          have wR : Grow G H (upd (upd G13 tp (.tup [v7, v8])) x' (.ins (adr mg "Entry") dx' (fEntry v9 (.int (i : Int)) (.ref tp) (.ref o')))) (upd H15 r (.lst (xs9 ++ [.ref x']))) := wE.mutd hr0 (gnone r q13.gr rtp rx')
          have go' := gnone o' (w13.gh.free no13) (Ne.symm to') (Ne.symm xo')
          have gp' := gnone p q13.gp ptp px'
          have gr' := gnone r q13.gr rtp rx'
          generalize (upd (upd G13 tp (.tup [v7, v8])) x' (.ins (adr mg "Entry") dx' (fEntry v9 (.int (i : Int)) (.ref tp) (.ref o')))) = Gx at wE s13g gnone gx gt wR go' gp' gr'
          have qm : RS0 mg (hOut h lo) H Gx (upd H15 r (.lst (xs9 ++ [.ref x']))) r p (rowT h lo pl s i t ++ [⟨np, s.steps + 1, i, xx⟩]) (Xi h lo i t) (xs9 ++ [.ref x']) (e09 ++ [⟨np, i, some (xx.1, Vberan.kindNum h xx.2), o'⟩]) (on9 ++ [[]]) (nx9 ++ [(markOf np, b, .int ((rowT h lo pl s i t).length : Int) tk)]) := by
            refine q13.more (y := ⟨np, s.steps + 1, i, xx⟩) (o := o') s13g (fun c u hcu hcr hcp => ?_) upd_same ?_ gr' gp' ⟨x', dx', v9, .int (i : Int), .ref tp, rfl, gx, Mono.up ((w13.gg).trans s13g) r9, rfl, ⟨tp, v7, v8, rfl, gt, r7' Gx, r8' Gx⟩⟩ rfl rfl rfl (by rw [hOut_num]) (Mono.up s13g km13) ?_ no13 (wT.hh.free no') go' (fun c hc => ?_) ?_
            · rw [upd_ne hcr]
              exact (old c u hcu hcp).2.2.2
            · rw [upd_ne (Ne.symm rp'), ← hxl]
              exact s15 _ _ hp14'
            · rw [upd_ne (Ne.symm ro')]
              exact ho'
            · obtain ⟨u, hu⟩ := q13.olds c hc
              obtain ⟨_, hg, _, hcp⟩ := q13.of_ c hc
              obtain ⟨c1, c2, _⟩ := old c u hu hcp
              exact gnone c hg c1 c2
            · have hil : i < (rowT h lo pl s i t).length := (List.getElem?_eq_some_iff.mp (rowT_at hs t)).1
              unfold Xi
              rw [if_neg (by omega), if_neg (by omega)]
          rw [← er2] at qm
          have hv' : (xs9 ++ [V.ref x'])[i]? = some v6 := get_app_left hv9
          obtain ⟨pe, dx, o, a, b', c, ys, z, v, rfl, hpe, ho, hp', hk', hb', hz, rv, hl, wl, on', ql⟩ := fin Gx _ _ _ _ _ s13g wR qm hv' (Mono.up s13g km13)
          refine s_onw T (i := 6) (j4 := 4) (j10 := 10) rfl hpe ho rfl rfl hp' hk' hb' hz rv hl ?_
          exact ⟨Gx, g13.trans s13g, wl, some v7, some v8, some v9, some (.ref b), _, _, on', _, rfl, ql, hv'⟩
      · have hbn : ¬ (xx.1 : Int) ≠ lo := of_decide_eq_false hb
        have er2 := rowT_more (lo := lo) (pl := pl) (i := i) hxx
        rw [if_neg hbn] at er2
        refine ⟨G11, w10.gg.trans w11.gg, (s9.trans w10).trans w11, some v7, some v8, b9, b10, xs9, e09, on9, nx9, rfl, ?_, hv9⟩
        rw [er2]
        refine ((q9.up w10).up w11).swap fun j z hz => ?_
        unfold Xi
        by_cases c1 : j < i
        · rw [if_pos c1, if_pos c1]
        · rw [if_neg c1, if_neg c1]
          by_cases c2 : j = i
          · subst c2
            rw [rowT_at hs t] at hz
            cases (Option.some.inj hz)
            rw [if_pos rfl, if_pos rfl, inT_more hxx, if_neg hbn, List.append_nil]
          · rw [if_neg c2, if_neg c2]
    · rintro σ3 G9 H9 g9 s9 ⟨b7, b8, b9, b10, xs9, e09, on9, nx9, rfl, q9, hv9⟩
      rw [← hlenT, rowT_all hs] at q9
      have q9 := q9.swap (Y := Xo h lo (i + 1)) fun j z hz => by
        unfold Xi Xo
        by_cases c : j < i
        · rw [if_pos c, if_pos (by omega)]
        · rw [if_neg c]
          by_cases c2 : j = i
          · subst c2
            obtain ⟨m2, em, _⟩ := stage_app (hOut h lo) pl j
            have : z = s := by
              rw [em, get_app_left hs] at hz
              exact (Option.some.inj hz).symm
            rw [if_pos rfl, if_pos (by omega), this, inT_all]
          · rw [if_neg c2, if_neg (by omega)]
      have hl9 : (stage (hOut h lo) pl (i + 1)).length ≤ 300 := by
        rw [← rowT_all hs]
        have := rowT_len (h := h) (lo := lo) (pl := pl) (s := s) (i := i) (Vberan.steps h s.play).length
        omega
      have rr9 : RL (RE0 mg) e09 (.ref r) (upd G9 r (.lst xs9)) := ⟨r, xs9, rfl, upd_same, by rw [q9.xlen]; show _ ≤ 40000; omega, q9.xr.up (Same.new q9.gr)⟩
      refine et_seenO (b := decide (200 < (stage (hOut h lo) pl (i + 1)).length)) s9.gh q9.hr (et_is (et_test (ev_gt (ev_n2i (ev_len (ev_var (i := 3) rfl rr9))) (ev_int (i := 200)))) (by rw [q9.el]; exact decide_eq_decide.mpr (by omega))) fun H10 w10 => ?_
      by_cases c : 200 < (stage (hOut h lo) pl (i + 1)).length
      · rw [if_pos (decide_eq_true c)]
        exact kE (states_none c) _ (s9.trans w10).hh
      · rw [if_neg (by rw [decide_eq_false c]; decide)]
        have s10 := s9.trans w10
        refine s_asg s10.gh (ev_addN (i := i) (j := 1) (ev_var (i := 5) (R := RN) (a := i) rfl rfl) (ev_nat rfl)) fun v11 G11 H11 w11 r11 => ?_
        cases (show v11 = V.int ((i + 1 : Nat) : Int) from r11)
        exact ⟨G11, _, by omega, (w8.gg.trans g9).trans (w10.gg.trans w11.gg), s10.trans w11, i + 1, _, _, _, _, _, _, _, _, _, rfl, (q9.up w10).up w11, by omega, rfl⟩
  · have hi : ¬ i < (stage (hOut h lo) pl i).length := of_decide_eq_false hb
    have est := states_of (h := hOut h lo) (p := pl) (j := i) (by omega) hlen
    have q8 := q.up w8
    have hX : ∀ (j : Nat) (z : Vberan.Seen), (stage (hOut h lo) pl i)[j]? = some z → Xo h lo i j z = Vberan.steps (hOut h lo) z.play := fun j z hz => by
      unfold Xo
      rw [if_pos]
      have := (List.getElem?_eq_some_iff.mp hz).1
      omega
    refine ⟨.ref r, rfl, kQ _ _ est (q8.fits hX) (.ref r) _ _ ((s7.trans w8).pickd fun b hb => ?_) (q8.rows (G0 := G) w8.gh (by omega) fun j z hz => ?_)⟩
    · rcases List.mem_cons.mp hb with e | hb
      · rw [e]; exact hr0
      · exact (q8.of_ b hb).1
    · rw [hX j z hz]
      have ws : WfP (hOut h lo) z.play := (stage_row wp' i).wf z (List.mem_of_getElem? hz)
      have e1 := steps_stepsI (h := hOut h lo) (p := z.play) wh'
      have e2 := stepsI_len (p := z.play) wh'
      rw [← e1, List.length_map] at e2
      omega
end
end DH
namespace DH
open PySem PySem.Spec PyProof.Rows L2
/-! ### the calls that tell of the givings and of the row -/
def spDoX (mg : Mg) (it : Vberan.State → List Item → Prop) (many : Vberan.State → List Item → Bool) (an : Vberan.State → List Item → List Int) : Sp := fun vs H Q E => ∃ F L M s i y, vs = [.ref L, y] ∧ StAt mg F H L M s ∧ RG i y F ∧ it s i ∧ WfS s ∧
  (many s i = true → ∀ H2, Same H H2 → E (.ref (adr mg "NoRow")) none H2) ∧ (many s i = false → SpRes mg F H L M s (an s i) Q)
def manyH (s : Vberan.State) (h : Vberan.House) : Bool := (Vberan.states h s.play).isNone
def oneD (s : Vberan.State) (i : List Item) : Prop := (∃ d, i = [.num d] ∧ 0 ≤ d ∧ d < (Vberan.theHouse s).deeds.length) ∧ ∃ h, s.house = some h
def numOf (i : List Item) : Nat := match i with | [.num d] => d.toNat | _ => 0
def sp_tell_served (mg : Mg) : Sp := spDo mg bareIt (fun s _ => s) fun s _ => anOf s .served
def sp_tell_bound (mg : Mg) : Sp := spDo mg (fun s i => (∃ l, i = [.row l] ∧ ∀ z ∈ l, 0 ≤ z ∧ z < (Vberan.theHouse s).kinds) ∧ ∃ h, s.house = some h) (fun s _ => s) fun s i => match i with | [.row l] => anOf s (.bound l) | _ => []
def sp_tell_states (mg : Mg) : Sp := spDo mg bareIt (fun s _ => s) fun s _ => anOf s .states
def sp_tell_dead (mg : Mg) : Sp := spDoX mg bareIt (fun s _ => manyH s (Vberan.theHouse s)) fun s _ => anOf s .dead
def sp_tell_way (mg : Mg) : Sp := spDoX mg bareIt (fun s _ => manyH s (Vberan.theHouse s)) fun s _ => anOf s .way
def sp_tell_doom (mg : Mg) : Sp := spDoX mg bareIt (fun s _ => manyH s (Vberan.theHouse s)) fun s _ => anOf s .doom
def sp_tell_must (mg : Mg) : Sp := spDoX mg oneD (fun s i => manyH s (Vberan.without (Vberan.theHouse s) (numOf i))) fun s i => anOf s (.must (numOf i))
def sp_tell_look (mg : Mg) : Sp := spDo mg oneD (fun s _ => s) fun s i => anOf s (.look (numOf i))
def sp_tell_rivals (mg : Mg) : Sp := spDo mg oneD (fun s _ => s) fun s i => anOf s (.rivals (numOf i))
theorem SpRes.pureX {mg : Mg} {F H : Hp} {L : Addr} {M : List Addr} {s : Vberan.State} {ans : List Int} {Q : VK} (k : SpRes mg F H L M s ans Q) (h : StAt mg F H L M s) : Ret (RL RI) ans H H Q := k.pure h
section
variable {K : PySem.W.Frag} {mg : Mg} {vs : List V} {H : Hp} {Q : VK} {E : XK}
theorem hOut_no (h : Vberan.House) : hOut h (-1) = h := if_neg (by decide)
theorem hOut_d (h : Vberan.House) {d : Int} (h0 : 0 ≤ d) : hOut h d = Vberan.without h d.toNat := if_pos h0
theorem q_row {σ : L2.St} {G : Hp} {ta tb : TE} {tz : TS} {D : Ends} {i : Nat} {h : Vberan.House} {pl : Vberan.Play} {lo : Int} (s : Same G H) (h1 : Ev ta σ G (RHouse mg) (h, pl)) (h2 : Ev tb σ G RI lo) (wh : WfH h) (wp : WfP h pl)
    (kE : Vberan.states (hOut h lo) pl = none → ∀ H2, Same H H2 → E (.ref (adr mg "NoRow")) none H2)
    (k : ∀ l es v G2 H2, Vberan.states (hOut h lo) pl = some l → FitsE (hOut h lo) l es → Grow G H G2 H2 → RL (REntry mg) es v G2 → tz D (σ.set i (some v)) H2) :
    tSeq (tAsg (tCall (sp_row_from mg) [] E (tCons ta (tCons tb tNil))) (gName i)) tz D σ H :=
  h1 G H (Same.refl _) s _ fun x G1 H1 w1 r1 => h2 G1 H1 w1.gg w1.gh _ fun y G2 H2 w2 r2 => ⟨G2, h, pl, lo, x, y, w2.gh, rfl, Mono.up w2.gg r1, r2, wh, wp, fun e H3 s3 => kE e H3 ((w1.trans w2).hh.trans s3), fun l es e f v G3 H3 w3 r3 => k l es v G3 H3 e f ((w1.trans w2).trans w3) r3⟩
/-- .. in a try -/
theorem q_rowT (T : Top K mg) {σ : L2.St} {G : Hp} {ta tb : TE} {tz tu : TS} {D : Ends} {i : Nat} {h : Vberan.House} {pl : Vberan.Play} {lo : Int} (s : Same G H) (h1 : Ev ta σ G (RHouse mg) (h, pl)) (h2 : Ev tb σ G RI lo) (wh : WfH h) (wp : WfP h pl)
    (kE : Vberan.states (hOut h lo) pl = none → ∀ H2, Same H H2 → tu { D with nx := tz D } σ H2)
    (k : ∀ l es v G2 H2, Vberan.states (hOut h lo) pl = some l → FitsE (hOut h lo) l es → Grow G H G2 H2 → RL (REntry mg) es v G2 → tz D (σ.set i (some v)) H2) :
    tSeq (tTry K (.ref (adr mg "NoRow")) (fun W => (tAsg (L2.tCallS (sp_row_from mg) (WE W) (tCons ta (tCons tb tNil))) (gName i))) (fun _ _ _ => tu)) tz D σ H :=
  h1 G H (Same.refl _) s _ fun x G1 H1 w1 r1 => h2 G1 H1 w1.gg w1.gh _ fun y G2 H2 w2 r2 => ⟨G2, h, pl, lo, x, y, w2.gh, rfl, Mono.up w2.gg r1, r2, wh, wp, fun e H3 s3 => ⟨true, T.x_NoRow.e, fun _ a ha => kE e H3 ((w1.trans w2).hh.trans s3), fun q => Bool.noConfusion q⟩, fun l es e f v G3 H3 w3 r3 => k l es v G3 H3 e f ((w1.trans w2).trans w3) r3⟩
theorem ev_deads {σ : L2.St} {G : Hp} {te : TE} {h : Vberan.House} {pl : Vberan.Play} {l : List Vberan.Seen} {es : List En} (h1 : Ev te σ G (RL (REntry mg)) es) (ft : FitsE h l es) (wp : WfP h pl) (e : Vberan.states h pl = some l) : Ev (tCall (sp_places_of_dead mg) [] C8.E0 (tCons te tNil)) σ G (RL RN) (deadL h l) :=
  ev_call1 h1 fun x G1 H1 Q _ s rx k => ⟨G1, h, pl, l, es, x, s, rfl, rx, ft, wp, e, k⟩
theorem ev_ends {σ : L2.St} {G : Hp} {te : TE} {h : Vberan.House} {l : List Vberan.Seen} {es : List En} (h1 : Ev te σ G (RL (REntry mg)) es) (ft : FitsE h l es) (hl : l.length ≤ 300) : Ev (tCall (sp_places_with_end mg) [] C8.E0 (tCons te tNil)) σ G (RL RN) (endsL l) :=
  ev_call1 h1 fun x G1 H1 Q _ s rx k => ⟨G1, h, l, es, x, s, rfl, rx, ft, hl, k⟩
theorem ev_toldway {σ : L2.St} {G : Hp} {ta tb : TE} {h : Vberan.House} {pl : Vberan.Play} {l : List Vberan.Seen} {es : List En} {ps : List Nat} (h1 : Ev ta σ G (RL (REntry mg)) es) (h2 : Ev tb σ G (RL RN) ps) (ft : FitsE h l es) (wp : WfP h pl) (e : Vberan.states h pl = some l) (hps : ∀ k ∈ ps, k < l.length) :
    Ev (tCall (sp_told_way mg) [] C8.E0 (tCons ta (tCons tb tNil))) σ G (RL RI) (wayT h l ps.head?) :=
  ev_call2 h1 h2 fun x y G1 H1 Q _ s rx ry k => ⟨G1, h, pl, l, es, ps, x, y, s, rfl, rx, ft, wp, e, ry, hps, k⟩
theorem row_len {h : Vberan.House} {pl : Vberan.Play} {l : List Vberan.Seen} (e : Vberan.states h pl = some l) : l.length ≤ 200 := by
  obtain ⟨_, _, _, z⟩ := states_stage e
  exact z
theorem ef_two {α : Type} {R : Rel α} [Mono R] {σ : L2.St} {G : Hp} {ta tb : TE} {a b : α} (h1 : Ev ta σ G R a) (h2 : Ev tb σ G R b) : EvF (tLst (tCons ta (tCons tb tNil))) σ G R [a, b] := fun G1 H1 g s _ q =>
  h1 G1 H1 g s _ fun x G2 H2 w r => h2 G2 H2 (g.trans w.gg) w.gh _ fun y G3 H3 w3 r3 => ⟨by show 2 ≤ sizeLine; decide, fun p hn => q p [x, y] G3 _ ((w.trans w3).trans (Grow.hid w3.gh hn)) ((w.trans w3).hh.free hn) (w3.gh.free hn) upd_same (by show 2 ≤ LIM; decide) ⟨Mono.up w3.gg r, r3, trivial⟩⟩
theorem ef_three {α : Type} {R : Rel α} [Mono R] {σ : L2.St} {G : Hp} {ta tb tc : TE} {a b c : α} (h1 : Ev ta σ G R a) (h2 : Ev tb σ G R b) (h3 : Ev tc σ G R c) : EvF (tLst (tCons ta (tCons tb (tCons tc tNil)))) σ G R [a, b, c] := fun G1 H1 g s _ q =>
  h1 G1 H1 g s _ fun x G2 H2 w r => h2 G2 H2 (g.trans w.gg) w.gh _ fun y G3 H3 w3 r3 => h3 G3 H3 ((g.trans w.gg).trans w3.gg) w3.gh _ fun z G4 H4 w4 r4 => ⟨by show 3 ≤ sizeLine; decide, fun p hn => q p [x, y, z] G4 _ (((w.trans w3).trans w4).trans (Grow.hid w4.gh hn)) (((w.trans w3).trans w4).hh.free hn) (w4.gh.free hn) upd_same (by show 3 ≤ LIM; decide) ⟨Mono.up (w3.gg.trans w4.gg) r, Mono.up w4.gg r3, r4, trivial⟩⟩
theorem pure_tell_states (T : Top K mg) (h : sp_tell_states mg vs H Q E) : t_tell_states K mg (sp_places_of_dead mg) (sp_row_from mg) { nx := fun _ H' => Q .non H', rt := Q } (start N_tell_states vs) H := by
  obtain ⟨F, L, M, s, i, y, rfl, st, ry, ⟨rfl, h, hs⟩, wf, k⟩ := h
  obtain ⟨wh, wp⟩ := wf h hs
  have k : Ret (RL RI) (anOf s .states) H H Q := k.pure st
  unfold anOf at k
  rw [theHouse_of hs] at k
  refine q_rowT T (Same.refl _) (ev_hs hs (ev_lh T (ev_var rfl st.line))) (ev_int (i := -1)) wh wp (fun e H2 s2 => ?_) fun l es v G2 H2 e ft w rv => ?_
  · rw [hOut_no] at e
    rw [e] at k
    exact s_ret (G := H) s2 (ef_one (R := RI) ev_int).ev (k.go (Grow.stay (Same.refl _) s2))
  · rw [hOut_no] at e ft
    rw [e] at k
    dsimp only at k
    rw [dead_count, ← ft.len] at k
    exact s_ret w.gh (ef_three (R := RI) ev_int (ev_n2i (ev_len (ev_var rfl rv))) (ev_n2i (ev_len (ev_deads (ev_var rfl rv) ft wp e)))).ev (k.go w)
theorem row_of {s : Vberan.State} {h : Vberan.House} {l : List Vberan.Seen} (e : Vberan.states h s.play = some l) : Vberan.row s h = l := by
  unfold Vberan.row
  rw [e]
  rfl
theorem many_no {s : Vberan.State} {h : Vberan.House} {l : List Vberan.Seen} (e : Vberan.states h s.play = some l) : manyH s h = false := by
  unfold manyH
  rw [e]
  rfl
theorem many_yes {s : Vberan.State} {h : Vberan.House} (e : Vberan.states h s.play = none) : manyH s h = true := by
  unfold manyH
  rw [e]
  rfl
theorem pure_tell_dead (T : Top K mg) (h : sp_tell_dead mg vs H Q E) : t_tell_dead K mg E sp_as_number (sp_places_of_dead mg) (sp_row_from mg) { nx := fun _ H' => Q .non H', rt := Q } (start N_tell_dead vs) H := by
  obtain ⟨F, L, M, s, i, y, rfl, st, ry, ⟨rfl, h, hs⟩, wf, kE, k⟩ := h
  obtain ⟨wh, wp⟩ := wf h hs
  dsimp only at kE k
  rw [theHouse_of hs] at kE k
  refine q_row (Same.refl _) (ev_hs hs (ev_lh T (ev_var rfl st.line))) (ev_int (i := -1)) wh wp (fun e H2 s2 => kE (many_yes (by rw [hOut_no] at e; exact e)) H2 s2) fun l es v G2 H2 e ft w rv => ?_
  rw [hOut_no] at e ft
  have k : Ret (RL RI) (anOf s .dead) H H Q := (k (many_no e)).pure st
  unfold anOf at k
  rw [theHouse_of hs, row_of e] at k
  rw [← dead_first (states_row wp e)] at k
  exact s_ret w.gh (ef_one (ev_num (ev_isN (n := 0) (ev_nat rfl) (ev_deads (ev_var rfl rv) ft wp e)))).ev (k.go w)
theorem wayNums_T {s : Vberan.State} {h : Vberan.House} (hs : s.house = some h) (l : List Vberan.Seen) (o : Option Nat) : wayNums s (o.map (way l)) = wayT h l o := by
  cases o with
  | none => rfl
  | some k =>
    show 1 :: Vberan.stepNums (Vberan.theHouse s) (way l k) = 1 :: _
    rw [theHouse_of hs, stepNums_I]
    rfl
theorem filter_lt {l : List Vberan.Seen} {f : Nat → Bool} : ∀ k ∈ (List.range l.length).filter f, k < l.length := fun k hk => List.mem_range.mp (List.mem_filter.mp hk).1
theorem pure_tell_way (T : Top K mg) (h : sp_tell_way mg vs H Q E) : t_tell_way K mg E (sp_places_with_end mg) (sp_row_from mg) (sp_told_way mg) { nx := fun _ H' => Q .non H', rt := Q } (start N_tell_way vs) H := by
  obtain ⟨F, L, M, s, i, y, rfl, st, ry, ⟨rfl, h, hs⟩, wf, kE, k⟩ := h
  obtain ⟨wh, wp⟩ := wf h hs
  dsimp only at kE k
  rw [theHouse_of hs] at kE k
  refine q_row (Same.refl _) (ev_hs hs (ev_lh T (ev_var rfl st.line))) (ev_int (i := -1)) wh wp (fun e H2 s2 => kE (many_yes (by rw [hOut_no] at e; exact e)) H2 s2) fun l es v G2 H2 e ft w rv => ?_
  rw [hOut_no] at e ft
  have k : Ret (RL RI) (anOf s .way) H H Q := (k (many_no e)).pure st
  unfold anOf at k
  rw [theHouse_of hs, row_of e, way_ends, wayNums_T hs] at k
  have := row_len e
  exact s_ret w.gh (ev_toldway (ev_var rfl rv) (ev_ends (ev_var rfl rv) ft (by omega)) ft wp e filter_lt) (k.go w)
theorem pure_tell_doom (T : Top K mg) (h : sp_tell_doom mg vs H Q E) : t_tell_doom K mg E (sp_places_of_dead mg) (sp_row_from mg) (sp_told_way mg) { nx := fun _ H' => Q .non H', rt := Q } (start N_tell_doom vs) H := by
  obtain ⟨F, L, M, s, i, y, rfl, st, ry, ⟨rfl, h, hs⟩, wf, kE, k⟩ := h
  obtain ⟨wh, wp⟩ := wf h hs
  dsimp only at kE k
  rw [theHouse_of hs] at kE k
  refine q_row (Same.refl _) (ev_hs hs (ev_lh T (ev_var rfl st.line))) (ev_int (i := -1)) wh wp (fun e H2 s2 => kE (many_yes (by rw [hOut_no] at e; exact e)) H2 s2) fun l es v G2 H2 e ft w rv => ?_
  rw [hOut_no] at e ft
  have k : Ret (RL RI) (anOf s .doom) H H Q := (k (many_no e)).pure st
  unfold anOf at k
  rw [theHouse_of hs, row_of e, way_dead, wayNums_T hs] at k
  exact s_ret w.gh (ev_toldway (ev_var rfl rv) (ev_deads (ev_var rfl rv) ft wp e) ft wp e filter_lt) (k.go w)
theorem ev_dn {σ : L2.St} {G : Hp} {ta : TE} {d : Int} (h : Ev ta σ G RG [.num d]) (h0 : 0 ≤ d) : Ev (tOp (rIxL K) ta (tC (.int 0))) σ G RN d.toNat := ev_i2n (ev_is (ev_num_of (ev_arg (n := 0) h rfl rfl)) (Int.toNat_of_nonneg h0).symm)
theorem pure_tell_must (T : Top K mg) (h : sp_tell_must mg vs H Q E) : t_tell_must K mg E sp_as_number (sp_places_with_end mg) (sp_row_from mg) { nx := fun _ H' => Q .non H', rt := Q } (start N_tell_must vs) H := by
  obtain ⟨F, L, M, s, i, y, rfl, st, ry, ⟨⟨d, rfl, hd0, hd⟩, h, hs⟩, wf, kE, k⟩ := h
  obtain ⟨wh, wp⟩ := wf h hs
  have en : numOf [.num d] = d.toNat := rfl
  dsimp only at kE k
  rw [theHouse_of hs, en] at kE k
  have rH : RG [.num d] y H := Mono.up st.sm ry
  refine q_row (lo := d) (Same.refl _) (ev_hs hs (ev_lh T (ev_var rfl st.line))) (ev_num_of (ev_arg (n := 0) (ev_var rfl rH) rfl rfl)) wh wp (fun e H2 s2 => kE (many_yes (by rw [hOut_d h hd0] at e; exact e)) H2 s2) fun l es v G2 H2 e ft w rv => ?_
  have ef := e
  rw [hOut_d h hd0] at e
  have k : Ret (RL RI) (anOf s (.must (d.toNat : Int))) H H Q := (k (many_no e)).pure st
  unfold anOf at k
  dsimp only at k
  rw [theHouse_of hs, Int.toNat_natCast, row_of e, ends_none] at k
  have hl := row_len e
  have ek : (if (!decide ((endsL l).length = 0)) = true then (0 : Int) else 1) = if decide (((endsL l).length : Int) = 0) = true then 1 else 0 := by
    by_cases c : (endsL l).length = 0
    · rw [decide_eq_true c, if_neg (by decide), if_pos (decide_eq_true (by omega))]
    · rw [decide_eq_false c, if_pos (by decide), if_neg (by rw [decide_eq_false (by omega)]; decide)]
  rw [ek] at k
  exact s_ret w.gh (ef_one (ev_num (ev_eq (ev_n2i (ev_len (ev_ends (ev_var rfl rv) ft (by omega)))) ev_int))).ev (k.go w)
theorem pure_tell_bound (T : Top K mg) (h : sp_tell_bound mg vs H Q E) : t_tell_bound K mg (sp_bound_of mg) { nx := fun _ H' => Q .non H', rt := Q } (start N_tell_bound vs) H := by
  obtain ⟨F, L, M, s, i, y, rfl, st, ry, ⟨⟨l, rfl, hl⟩, h, hs⟩, wf, k⟩ := h
  obtain ⟨wh, wp⟩ := wf h hs
  have k : Ret (RL RI) (anOf s (.bound l)) H H Q := k.pure st
  unfold anOf at k
  rw [theHouse_of hs] at k hl
  have rH : RG [.row l] y H := Mono.up st.sm ry
  refine s_ret (Same.refl _) (ef_one (ev_n2i (ev_call2 (W := RN) (c := Vberan.bound h (Vberan.nats l)) (ev_hs hs (ev_lh T (ev_var rfl st.line))) (ev_row_of (ev_arg (n := 0) (ev_var rfl rH) rfl rfl)) fun x y G1 H1 Q _ sm rx ry k => ⟨G1, h, s.play, Vberan.nats l, x, y, sm, rfl, rx, nats_rel ry (fun z hz => (hl z hz).1), wh, fun c hc => ?_, k⟩))).ev k
  obtain ⟨z, hz, e⟩ := List.mem_map.mp hc
  have := hl z hz
  omega
theorem pure_tell_rivals (T : Top K mg) (h : sp_tell_rivals mg vs H Q E) : t_tell_rivals K mg (sp_count_all mg) (sp_rivals_of mg) { nx := fun _ H' => Q .non H', rt := Q } (start N_tell_rivals vs) H := by
  obtain ⟨F, L, M, s, i, y, rfl, st, ry, ⟨⟨d, rfl, hd0, hd⟩, h, hs⟩, wf, k⟩ := h
  obtain ⟨wh, wp⟩ := wf h hs
  have k : Ret (RL RI) (anOf s (.rivals (d.toNat : Int))) H H Q := k.pure st
  unfold anOf at k
  dsimp only at k
  rw [theHouse_of hs] at hd
  rw [theHouse_of hs, Int.toNat_natCast] at k
  have hdn : d.toNat < h.deeds.length := by omega
  have hm := deedAt_mem hdn
  have es : Vberan.supply h (Vberan.deedAt h d.toNat).uses (Vberan.numbers h) = countL h (Vberan.deedAt h d.toNat).uses (List.range h.deeds.length) := supply_count _ (wh.us _ hm) (wh.ul _ hm)
  rw [es] at k
  have rH : RG [.num d] y H := Mono.up st.sm ry
  refine q_asg (Same.refl _) (ev_hs hs (ev_lh T (ev_var rfl st.line))) fun v G2 H2 w rv => ?_
  refine q_asg w.gh (ev_dn (ev_var rfl (Mono.up w.gg rH)) hd0) fun v3 G3 H3 w3 r3 => ?_
  have rv3 := Mono.up w3.gg rv
  exact s_ret w3.gh (ef_two (R := RI) (ev_n2i (ev_len (R := RN) (l := rivalsL h d.toNat) (ev_call2 (ev_deeds T (ev_var rfl rv3)) (ev_var rfl r3) fun x y G1 H1 Q _ s rx ry k => ⟨G1, h, d.toNat, x, y, s, rfl, rx, ry, hdn, Nat.le_trans wh.n16 (by decide), k⟩)))
    (ev_n2i (ev_countA (ev_var rfl rv3) (ev_uses T (ev_ix (ev_deeds T (ev_var rfl rv3)) (ev_var rfl r3) (deedAt_get (h := h) hdn))) wh (wh.ul _ hm)))).ev (k.go (w.trans w3))
theorem pairs_nat (g : Vberan.Given) : (g.map fun x => (x.1, (x.2 : Int))).flatMap (fun x : Nat × Int => [(x.1 : Int), x.2]) = g.flatMap fun x => [(x.1 : Int), (x.2 : Int)] := by
  rw [List.flatMap_map]
theorem served_len {h : Vberan.House} (wh : WfH h) : (Vberan.served h).length ≤ 16 := by
  have gi : GInv h h.deeds.length (Vberan.served h) := by
    rw [served_is wh]
    exact servedTo_inv wh _
  have := nodup_lt h.deeds.length ((Vberan.served h).map (·.1)) gi.nd fun x hx => by
    obtain ⟨y, hy, rfl⟩ := List.mem_map.mp hx
    exact gi.lt y hy
  rw [List.length_map] at this
  exact Nat.le_trans this wh.n16
theorem pure_tell_served (T : Top K mg) (h : sp_tell_served mg vs H Q E) : t_tell_served K mg sp_flat (sp_told_giving_out mg) (sp_told_set mg) { nx := fun _ H' => Q .non H', rt := Q } (start N_tell_served vs) H := by
  obtain ⟨F, L, M, s, i, y, rfl, st, ry, ⟨rfl, h, hs⟩, wf, k⟩ := h
  obtain ⟨wh, wp⟩ := wf h hs
  have k : Ret (RL RI) (anOf s .served) H H Q := k.pure st
  unfold anOf at k
  rw [theHouse_of hs] at k
  have n16 := wh.n16
  have gi : GInv h h.deeds.length (Vberan.served h) := by
    rw [served_is wh]
    exact servedTo_inv wh _
  have hs16 := served_len wh
  refine q_asg (Same.refl _) (ev_hs hs (ev_lh T (ev_var rfl st.line))) fun v G2 H2 w rv => ?_
  refine q_asg w.gh (ev_call1 (W := RL RI) (c := servL h.deeds.length (Vberan.served h)) (ev_var rfl rv) fun x G1 H1 Q _ s rx k => ⟨G1, h, _, x, s, rfl, rx, wh, k⟩) fun v3 G3 H3 w3 r3 => ?_
  refine q_asg w3.gh (ef_is (ef_lcG (R := RP RN RI) (fun x : Nat × Int => decide (x.2 ≠ -1)) id (src_enum (ev_var rfl r3)) hit_pair ?_ ?_ ?_ ?_) (l' := (Vberan.served h).map fun x => (x.1, (x.2 : Int))) ?_).ev fun v4 G4 H4 w4 r4 => ?_
  · rintro a σ2 G1 ⟨v1, v2, _, _, rfl⟩
    rfl
  · rintro a σ2 G1 _ g ⟨v1, v2, r1, r2, rfl⟩
    exact et_test (ev_ne (ev_var rfl r2) ev_int)
  · rintro a σ2 G1 _ _ g ⟨v1, v2, r1, r2, rfl⟩
    exact ev_tup2 (ev_var rfl r1) (ev_var rfl r2)
  · rw [List.length_zip, List.length_range, servL_len]
    show _ ≤ 40000
    omega
  · rw [List.map_id, servL_len]
    exact serv_pairs gi (Nat.le_refl _)
  · have hfl := flat2_len ((Vberan.served h).map fun x => (x.1, (x.2 : Int)))
    rw [List.length_map] at hfl
    have hpl : (Vberan.poor h).length ≤ 5 := by
      obtain ⟨p1, p2⟩ := poor_is h
      refine Nat.le_trans (nodup_lt h.kinds (Vberan.poor h) (p1.imp fun h => Nat.ne_of_lt h) fun c hc => ?_) wh.k5
      obtain ⟨d, _, _, x, hx, e⟩ := (p2 c).mp hc
      rw [← e]
      exact (reach_row wh _ _).lt x hx
    rw [← pairs_nat] at k
    refine s_ret w4.gh (ev_is (ef_cat (R := RI) (ef_cat (R := RI) (ef_one (ev_n2i (ev_len (ev_var rfl r4)))).ev (ev_flat (ev_var rfl r4) (by rw [List.length_map]; omega)) ?_).ev (ev_ints (ev_call2 (W := RL RN) (c := Vberan.poor h) (ev_var rfl (Mono.up (w3.gg.trans w4.gg) rv)) (ev_var rfl (Mono.up w4.gg r3)) fun x y G1 H1 Q _ sm rx ry k => ⟨G1, h, _, x, y, sm, rfl, rx, ry, wh, k⟩)) ?_).ev ?_) (k.go ((w.trans w3).trans w4))
    · rw [hfl]
      show 1 + _ ≤ 40000
      omega
    · unfold Vberan.ints
      rw [List.length_append, hfl, List.length_map, List.length_map]
      show 1 + _ + (Vberan.poor h).length ≤ 40000
      omega
    · rw [List.length_map, List.append_assoc]
      rfl
theorem needs_len {ns : List (List Nat)} (h1 : ∀ l ∈ ns, l.length ≤ 40) : ∀ i, ((ns.take i).flatMap fun l : List Nat => (l.length : Int) :: Vberan.ints l).length ≤ 41 * ns.length := by
  have key : ∀ ns : List (List Nat), (∀ l ∈ ns, l.length ≤ 40) → (ns.flatMap fun l : List Nat => (l.length : Int) :: Vberan.ints l).length ≤ 41 * ns.length := by
    intro ns
    induction ns with
    | nil => intro _; exact Nat.le_refl _
    | cons a ns ih =>
      intro h
      have := ih fun l hl => h l (List.mem_cons_of_mem _ hl)
      have ha := h a List.mem_cons_self
      rw [List.flatMap_cons, List.length_append, List.length_cons, List.length_cons]
      unfold Vberan.ints
      rw [List.length_map]
      unfold Vberan.ints at this
      omega
  intro i
  refine Nat.le_trans (key (ns.take i) fun l hl => h1 l (List.mem_of_mem_take hl)) ?_
  rw [List.length_take]
  omega
theorem pure_tell_look (T : Top K mg) (h : sp_tell_look mg vs H Q E) : t_tell_look K mg { nx := fun _ H' => Q .non H', rt := Q } (start N_tell_look vs) H := by
  obtain ⟨F, L, M, s, i, y, rfl, st, ry, ⟨⟨d, rfl, hd0, hd⟩, h, hs⟩, wf, k⟩ := h
  obtain ⟨wh, wp⟩ := wf h hs
  have k : Ret (RL RI) (anOf s (.look (d.toNat : Int))) H H Q := k.pure st
  unfold anOf at k
  dsimp only at k
  rw [theHouse_of hs] at hd
  rw [theHouse_of hs, Int.toNat_natCast] at k
  have hdn : d.toNat < h.deeds.length := by omega
  have hm := deedAt_mem hdn
  have hnl := wh.nl _ hm
  have hnm := wh.nm _ hm
  have hu5 := wh.u5 hm
  have hg5 := wh.gl _ hm
  have k5 := wh.k5
  have rH : RG [.num d] y H := Mono.up st.sm ry
  have he := deedAt_get (h := h) hdn
  generalize Vberan.deedAt h d.toNat = e at hm hnl hnm hu5 hg5 k he
  refine q_asg (Same.refl _) (ev_ix (ev_deeds T (ev_hs hs (ev_lh T (ev_var rfl st.line)))) (ev_dn (ev_var rfl rH) hd0) he) fun v G2 H2 w rv => ?_
  refine q_asgF w.gh (ef_one (R := RI) (ev_n2i (ev_len (ev_needs T (ev_var rfl rv))))) fun p xs G3 H3 w3 hp gp h3 hl a3 => ?_
  have hp0 := w.hh.free hp
  refine q_for (G0 := H) (H0 := H) (w.trans w3) (src_list (ev_needs T (ev_var rfl (Mono.up w3.gg rv)))) hit_name
    (fun i σ' G' H' => ∃ a xs, σ' = [some (.ref L), some y, some v, some (.ref p), a] ∧ G' p = none ∧ H' p = some (.lst xs) ∧ All2 RI G' ((e.needs.length : Int) :: (e.needs.take i).flatMap fun l : List Nat => (l.length : Int) :: Vberan.ints l) xs)
    (fun G4 H4 w4 => ⟨none, xs, rfl, w4.out h3 gp, w4.hh _ _ h3, by rw [List.take_zero]; exact a3.up w4.gg⟩) ?_ ?_
  · rintro i c σ1 G4 H4 hi g4 s4 ⟨a, ys, rfl, n4, h4, a4⟩ G5 H5 σ2 w5 ⟨v4, r4, rfl⟩
    have hyl : ys.length ≤ 2000 := by
      rw [a4.len, List.length_cons]
      have := needs_len hnm i
      omega
    have hc40 := hnm c (List.mem_of_getElem? hi)
    refine q_app (i := 3) (R := RI) (a := (c.length : Int)) w5.gh rfl (w5.hh _ _ h4) (by omega) (w5.out h4 n4) (ev_n2i (ev_len (ev_var rfl r4))) fun z G6 H6 w6 n6 rz s6 => ?_
    obtain ⟨q, zs, rfl, hq, hql, ha⟩ := Mono.up w6.gg r4
    have hz40 : zs.length ≤ 40 := by
      rw [ha.len]
      exact hc40
    refine ⟨.ref p, rfl, Or.inl ⟨rfl, _, SqL.of upd_same⟩, .ref q, rfl, p, q, ys ++ [z], zs, rfl, rfl, upd_same, s6 _ _ hq, ?_, ?_⟩
    · rw [List.length_append]
      exact Nat.le_trans (by show ys.length + 1 + zs.length ≤ 100000; omega) (by decide)
    · refine ⟨G6, w5.gg.trans w6.gg, ((((s4.trans w5).trans w6).mutd hp0 n6).mutd hp0 n6), some (.ref q), (ys ++ [z]) ++ zs, rfl, n6, upd_same, ?_⟩
      have e1 : [c].flatMap (fun l : List Nat => (l.length : Int) :: Vberan.ints l) = [(c.length : Int)] ++ Vberan.ints c := by
        rw [List.flatMap_cons, List.flatMap_nil, List.append_nil]
        rfl
      have e2 : (e.needs.length : Int) :: (e.needs.take (i + 1)).flatMap (fun l : List Nat => (l.length : Int) :: Vberan.ints l) = (((e.needs.length : Int) :: (e.needs.take i).flatMap fun l : List Nat => (l.length : Int) :: Vberan.ints l) ++ [(c.length : Int)]) ++ Vberan.ints c := by
        rw [take_more hi, List.flatMap_append, e1, ← List.append_assoc]
        rfl
      rw [e2]
      exact ((a4.up (w5.gg.trans w6.gg)).app (All2.one rz)).app (all2_int.mpr (all2_nat.mp ha))
  · rintro σ1 G1 H1 g1 s1 ⟨a, ys, rfl, n1, h1, a1⟩
    rw [List.take_length] at a1
    have hyl : ys.length ≤ 2000 := by
      rw [a1.len, List.length_cons]
      have := needs_len hnm e.needs.length
      rw [List.take_length] at this
      omega
    have w' := s1.show_ hp0 h1
    have rt : RL RI ((e.needs.length : Int) :: e.needs.flatMap fun l : List Nat => (l.length : Int) :: Vberan.ints l) (.ref p) (upd G1 p (.lst ys)) := ⟨p, ys, rfl, upd_same, by show _ ≤ 40000; omega, a1.up (Same.new n1)⟩
    have rv' := Mono.up ((w3.gg.trans g1).trans (Same.new (o := .lst ys) n1)) rv
    have lt := rt.len
    have hlt : ((e.needs.length : Int) :: e.needs.flatMap fun l : List Nat => (l.length : Int) :: Vberan.ints l).length ≤ 2000 := by
      rw [← a1.len]
      exact hyl
    generalize eL : ((e.needs.length : Int) :: e.needs.flatMap fun l : List Nat => (l.length : Int) :: Vberan.ints l) = L0 at rt hlt
    refine s_ret w'.gh (ev_is (ef_cat (R := RI) (ef_cat (R := RI) (ef_cat (R := RI) (ev_var (i := 3) rfl rt) (ef_one (ev_n2i (ev_len (ev_uses T (ev_var rfl rv'))))).ev ?_).ev (ev_ints (ev_uses T (ev_var rfl rv'))) ?_).ev (ev_ints (ev_gives T (ev_var rfl rv'))) ?_).ev ?_) (k.go w')
    · show L0.length + 1 ≤ 40000
      omega
    · unfold Vberan.ints
      rw [List.length_append, List.length_map]
      show L0.length + 1 + e.uses.length ≤ 40000
      omega
    · unfold Vberan.ints
      rw [List.length_append, List.length_append, List.length_map, List.length_map]
      show L0.length + 1 + e.uses.length + e.gives.length ≤ 40000
      omega
    · rw [← eL]
      unfold lookNums
      rw [List.append_assoc, List.append_assoc]
      rfl
end
end DH
namespace DH
open PySem PySem.Spec PyProof.Rows L2
/-! ### which def a call's number stands for -/
def refTab : List (Int × Str) := [(0, "refuse_house"), (1, "refuse_deed"), (2, "refuse_act"), (3, "refuse_bare"), (4, "refuse_bare"), (5, "refuse_bare"), (6, "refuse_bare"), (7, "refuse_bare"), (8, "refuse_accepts"), (9, "refuse_sure"), (10, "refuse_bare"), (11, "refuse_bound"), (12, "refuse_bare"), (13, "refuse_bare"), (14, "refuse_bare"), (15, "refuse_bare"), (16, "refuse_deed_number"), (17, "refuse_deed_number"), (18, "refuse_deed_number")]
def callTab : List (Int × Str) := [(0, "do_house"), (1, "do_deed"), (2, "do_act"), (3, "do_again"), (4, "tell_now"), (5, "tell_can"), (6, "tell_closure"), (7, "tell_ranks"), (8, "tell_accepts"), (9, "tell_sure"), (10, "tell_served"), (11, "tell_bound"), (12, "tell_states"), (13, "tell_dead"), (14, "tell_way"), (15, "tell_doom"), (16, "tell_must"), (17, "tell_look"), (18, "tell_rivals")]
structure Dicts (K : PySem.W.Frag) (mg : Mg) : Prop where
  shapes : Shapes K mg
  refs : ∀ e ∈ refTab, KInt K (adr mg "REFUSALS") e.1 (.ref (adr mg e.2))
  calls : ∀ e ∈ callTab, KInt K (adr mg "CALLS") e.1 (.ref (adr mg e.2))
def dynR (mg : Mg) (f : Addr) (sp : Sp) : Prop := (f, sp) ∈ [(adr mg "refuse_house", sp_refuse_house mg), (adr mg "refuse_deed", sp_refuse_deed mg), (adr mg "refuse_act", sp_refuse_act mg), (adr mg "refuse_bare", sp_refuse_bare mg), (adr mg "refuse_accepts", sp_refuse_accepts mg), (adr mg "refuse_sure", sp_refuse_sure mg), (adr mg "refuse_bound", sp_refuse_bound mg), (adr mg "refuse_deed_number", sp_refuse_deed_number mg)]
def dynC (mg : Mg) (f : Addr) (sp : Sp) : Prop := (f, sp) ∈ [(adr mg "do_house", sp_do_house mg), (adr mg "do_deed", sp_do_deed mg), (adr mg "do_act", sp_do_act mg), (adr mg "do_again", sp_do_again mg), (adr mg "tell_now", sp_tell_now mg), (adr mg "tell_can", sp_tell_can mg), (adr mg "tell_closure", sp_tell_closure mg), (adr mg "tell_ranks", sp_tell_ranks mg), (adr mg "tell_accepts", sp_tell_accepts mg), (adr mg "tell_sure", sp_tell_sure mg), (adr mg "tell_served", sp_tell_served mg), (adr mg "tell_bound", sp_tell_bound mg), (adr mg "tell_states", sp_tell_states mg), (adr mg "tell_dead", sp_tell_dead mg), (adr mg "tell_way", sp_tell_way mg), (adr mg "tell_doom", sp_tell_doom mg), (adr mg "tell_must", sp_tell_must mg), (adr mg "tell_look", sp_tell_look mg), (adr mg "tell_rivals", sp_tell_rivals mg)]
theorem in_tab {α : Type} {l : List α} {a : α} (i : Nat) (h : l[i]? = some a) : a ∈ l := List.mem_of_getElem? h
/-- what's due of a call ahead of the row -/
def gPre (s : Vberan.State) : Vberan.Call → List (Int × Bool)
  | .house l => gHouse s l
  | .deed n u g => gDeed s n u g
  | .act d k => gAct s d k
  | .accepts l => gAccepts s l
  | .sure d l => gSure s d l
  | .bound l => gBound s l
  | .must d => gDeedNum s d
  | .look d => gDeedNum s d
  | .rivals d => gDeedNum s d
  | _ => gBare s
def manyC (s : Vberan.State) : Vberan.Call → Bool
  | .dead => manyH s (Vberan.theHouse s)
  | .way => manyH s (Vberan.theHouse s)
  | .doom => manyH s (Vberan.theHouse s)
  | .must d => manyH s (Vberan.without (Vberan.theHouse s) d.toNat)
  | _ => false
theorem refI_app {a b : List (Int × Bool)} (h : ∀ x ∈ a, x.1 ≠ 0) : refI (a ++ b) = if refI a = 0 then refI b else refI a := by
  unfold refI
  rw [List.find?_append]
  cases q : a.find? fun x => x.2 with
  | none => rfl
  | some x =>
    have := h x (List.mem_of_find?_eq_some q)
    dsimp only [Option.some_or]
    rw [if_neg this]
theorem pre_ne (s : Vberan.State) (c : Vberan.Call) : ∀ x ∈ gPre s c, x.1 ≠ 0 := fun x hx => by
  have : ((gPre s c).all fun x => x.1 != 0) = true := by cases c <;> rfl
  have := List.all_eq_true.mp this x hx
  simpa using this
theorem pre_is (s : Vberan.State) (c : Vberan.Call) : refI (gCall s c) = if refI (gPre s c) = 0 then (if manyC s c = true then -9 else 0) else refI (gPre s c) := by
  have key : ∀ m : Bool, refI [((-9 : Int), m)] = if m = true then -9 else 0 := fun m => by cases m <;> rfl
  have none_ : gCall s c = gPre s c → manyC s c = false → refI (gCall s c) = if refI (gPre s c) = 0 then (if manyC s c = true then -9 else 0) else refI (gPre s c) := fun h1 h2 => by
    rw [h1, h2, if_neg Bool.false_ne_true]
    split
    · rename_i h; exact h
    · rfl
  have some_ : ∀ h', gCall s c = gPre s c ++ [Vberan.tooMany s h'] → manyC s c = manyH s h' → refI (gCall s c) = if refI (gPre s c) = 0 then (if manyC s c = true then -9 else 0) else refI (gPre s c) := fun h' h1 h2 => by
    rw [h1, refI_app (pre_ne s c), h2]
    show (if _ then refI [((-9 : Int), manyH s h')] else _) = _
    rw [key]
  cases c with
  | dead => exact some_ _ rfl rfl
  | way => exact some_ _ rfl rfl
  | doom => exact some_ _ rfl rfl
  | must d => exact some_ _ rfl rfl
  | _ => exact none_ rfl rfl
def sp_refusal_of (mg : Mg) : Sp := fun vs H Q _ => ∃ G s c x y z, Same G H ∧ vs = [x, y, z] ∧ RHs mg s x G ∧ RI (itemsOf c).1 y G ∧ RG (itemsOf c).2 z G ∧ WfS s ∧ Ret RI (refI (gPre s c)) G H Q
/-- an answer, in a new list -/
def SpAns (mg : Mg) (F H : Hp) (L : Addr) (M : List Addr) (s : Vberan.State) (ans : List Int) (Q : VK) : Prop :=
  ∀ q F2 H2 M2, H q = none → Same F F2 → (∀ b o, F2 b = some o → F b = none → H b = none) → (∀ b o, H b = some o → b ≠ L → b ∉ M → H2 b = some o) → (∀ b ∈ M2, b ∈ M ∨ H b = none) → StAt mg F2 H2 L M2 s → F2 q = none → q ≠ L → q ∉ M2 →
    H2 q = some (.lst (ans.map V.int)) → ans.length ≤ 40001 → Q (.ref q) H2
def sp_answer_call (mg : Mg) : Sp := fun vs H Q _ => ∃ F L M s c y z, vs = [.ref L, y, z] ∧ StAt mg F H L M s ∧ RI (itemsOf c).1 y F ∧ RG (itemsOf c).2 z F ∧ WfS s ∧ SpAns mg F H L M (Vberan.step s c).1 (Vberan.step s c).2 Q
section
variable {K : PySem.W.Frag} {mg : Mg} {vs : List V} {H : Hp} {Q : VK} {E : XK}
theorem pure_refusal_of (T : Top K mg) (D : Dicts K mg) (h : sp_refusal_of mg vs H Q E) : t_refusal_of K mg (dynR mg) { nx := fun _ H' => Q .non H', rt := Q } (start N_refusal_of vs) H := by
  obtain ⟨G, s, c, x, y, z, sm, rfl, rx, ry, rz, wf, k⟩ := h
  cases c with
  | house l => exact ⟨y, rfl, _, 0, _, rfl, ry, D.refs _ (in_tab 0 rfl), _, sp_refuse_house mg, rfl, in_tab 0 rfl, x, rfl, z, rfl, G, s, _, x, z, sm, rfl, rx, rz, ⟨l, rfl⟩, wf, k⟩
  | deed n u g => exact ⟨y, rfl, _, 1, _, rfl, ry, D.refs _ (in_tab 1 rfl), _, sp_refuse_deed mg, rfl, in_tab 1 rfl, x, rfl, z, rfl, G, s, _, x, z, sm, rfl, rx, rz, ⟨n, u, g, rfl⟩, wf, k⟩
  | act d kd => exact ⟨y, rfl, _, 2, _, rfl, ry, D.refs _ (in_tab 2 rfl), _, sp_refuse_act mg, rfl, in_tab 2 rfl, x, rfl, z, rfl, G, s, _, x, z, sm, rfl, rx, rz, ⟨d, kd, rfl⟩, wf, k⟩
  | again => exact ⟨y, rfl, _, 3, _, rfl, ry, D.refs _ (in_tab 3 rfl), _, sp_refuse_bare mg, rfl, in_tab 3 rfl, x, rfl, z, rfl, G, s, _, x, z, sm, rfl, rx, rz, trivial, wf, k⟩
  | now => exact ⟨y, rfl, _, 4, _, rfl, ry, D.refs _ (in_tab 4 rfl), _, sp_refuse_bare mg, rfl, in_tab 3 rfl, x, rfl, z, rfl, G, s, _, x, z, sm, rfl, rx, rz, trivial, wf, k⟩
  | can => exact ⟨y, rfl, _, 5, _, rfl, ry, D.refs _ (in_tab 5 rfl), _, sp_refuse_bare mg, rfl, in_tab 3 rfl, x, rfl, z, rfl, G, s, _, x, z, sm, rfl, rx, rz, trivial, wf, k⟩
  | closure => exact ⟨y, rfl, _, 6, _, rfl, ry, D.refs _ (in_tab 6 rfl), _, sp_refuse_bare mg, rfl, in_tab 3 rfl, x, rfl, z, rfl, G, s, _, x, z, sm, rfl, rx, rz, trivial, wf, k⟩
  | ranks => exact ⟨y, rfl, _, 7, _, rfl, ry, D.refs _ (in_tab 7 rfl), _, sp_refuse_bare mg, rfl, in_tab 3 rfl, x, rfl, z, rfl, G, s, _, x, z, sm, rfl, rx, rz, trivial, wf, k⟩
  | accepts l => exact ⟨y, rfl, _, 8, _, rfl, ry, D.refs _ (in_tab 8 rfl), _, sp_refuse_accepts mg, rfl, in_tab 4 rfl, x, rfl, z, rfl, G, s, _, x, z, sm, rfl, rx, rz, ⟨l, rfl⟩, wf, k⟩
  | sure d l => exact ⟨y, rfl, _, 9, _, rfl, ry, D.refs _ (in_tab 9 rfl), _, sp_refuse_sure mg, rfl, in_tab 5 rfl, x, rfl, z, rfl, G, s, _, x, z, sm, rfl, rx, rz, ⟨d, l, rfl⟩, wf, k⟩
  | served => exact ⟨y, rfl, _, 10, _, rfl, ry, D.refs _ (in_tab 10 rfl), _, sp_refuse_bare mg, rfl, in_tab 3 rfl, x, rfl, z, rfl, G, s, _, x, z, sm, rfl, rx, rz, trivial, wf, k⟩
  | bound l => exact ⟨y, rfl, _, 11, _, rfl, ry, D.refs _ (in_tab 11 rfl), _, sp_refuse_bound mg, rfl, in_tab 6 rfl, x, rfl, z, rfl, G, s, _, x, z, sm, rfl, rx, rz, ⟨l, rfl⟩, wf, k⟩
  | states => exact ⟨y, rfl, _, 12, _, rfl, ry, D.refs _ (in_tab 12 rfl), _, sp_refuse_bare mg, rfl, in_tab 3 rfl, x, rfl, z, rfl, G, s, _, x, z, sm, rfl, rx, rz, trivial, wf, k⟩
  | dead => exact ⟨y, rfl, _, 13, _, rfl, ry, D.refs _ (in_tab 13 rfl), _, sp_refuse_bare mg, rfl, in_tab 3 rfl, x, rfl, z, rfl, G, s, _, x, z, sm, rfl, rx, rz, trivial, wf, k⟩
  | way => exact ⟨y, rfl, _, 14, _, rfl, ry, D.refs _ (in_tab 14 rfl), _, sp_refuse_bare mg, rfl, in_tab 3 rfl, x, rfl, z, rfl, G, s, _, x, z, sm, rfl, rx, rz, trivial, wf, k⟩
  | doom => exact ⟨y, rfl, _, 15, _, rfl, ry, D.refs _ (in_tab 15 rfl), _, sp_refuse_bare mg, rfl, in_tab 3 rfl, x, rfl, z, rfl, G, s, _, x, z, sm, rfl, rx, rz, trivial, wf, k⟩
  | must d => exact ⟨y, rfl, _, 16, _, rfl, ry, D.refs _ (in_tab 16 rfl), _, sp_refuse_deed_number mg, rfl, in_tab 7 rfl, x, rfl, z, rfl, G, s, _, x, z, sm, rfl, rx, rz, ⟨d, rfl⟩, wf, k⟩
  | look d => exact ⟨y, rfl, _, 17, _, rfl, ry, D.refs _ (in_tab 17 rfl), _, sp_refuse_deed_number mg, rfl, in_tab 7 rfl, x, rfl, z, rfl, G, s, _, x, z, sm, rfl, rx, rz, ⟨d, rfl⟩, wf, k⟩
  | rivals d => exact ⟨y, rfl, _, 18, _, rfl, ry, D.refs _ (in_tab 18 rfl), _, sp_refuse_deed_number mg, rfl, in_tab 7 rfl, x, rfl, z, rfl, G, s, _, x, z, sm, rfl, rx, rz, ⟨d, rfl⟩, wf, k⟩
/-- a call that isn't refused: which def, that its promise's asking is met -/
theorem deed_ok {s : Vberan.State} {h : Vberan.House} {d : Int} (hs : s.house = some h) (zz : ∀ x ∈ gDeedNum s d, x.2 = false) : 0 ≤ d ∧ d < (Vberan.theHouse s).deeds.length := by
  have z1 := zz (-1, !Vberan.isDeed d) (by simp [gDeedNum])
  have z3 := zz (Vberan.noDeed s d) (by simp [gDeedNum])
  have z1 : (!Vberan.isDeed d) = false := z1
  rw [Bool.not_eq_false'] at z1
  have hd := inr_iff.mp z1
  unfold Vberan.noDeed at z3
  have : ¬ ((Vberan.theHouse s).deeds.length : Int) ≤ d := of_decide_eq_false z3
  omega
theorem do_found (D : Dicts K mg) {s : Vberan.State} {c : Vberan.Call} (wf : WfS s) (hp : refI (gPre s c) = 0) :
    ∃ x sp, KInt K (adr mg "CALLS") (itemsOf c).1 (.ref (adr mg x)) ∧ dynC mg (adr mg x) sp ∧ ∀ H F L M z Q E, StAt mg F H L M s → RG (itemsOf c).2 z F → (manyC s c = true → ∀ H2, Same H H2 → E (.ref (adr mg "NoRow")) none H2) → (manyC s c = false → SpRes mg F H L M (nsOf s c) (anOf s c) Q) → sp [.ref L, z] H Q E := by
  have zz := refI_zero (pre_ne s c) hp
  cases c with
  | house l =>
    refine ⟨_, sp_do_house mg, D.calls _ (in_tab 0 rfl), in_tab 0 rfl, fun H F L M z Q E st rz kE kk => ⟨F, L, M, s, _, z, rfl, st, rz, ⟨⟨l, rfl, ?_⟩, ?_⟩, wf, kk rfl⟩⟩
    · have := zz _ (List.mem_cons_self)
      rw [Bool.not_eq_false', Bool.and_eq_true, decide_eq_true_eq] at this
      exact ⟨this.1, fun x hx => (all_inr this.2 x hx).1⟩
    · have := zz (-5, s.house.isSome) (by simp [gPre, gHouse])
      cases q : s.house with
      | none => rfl
      | some x => rw [q] at this; cases this
  | deed n u g =>
    obtain ⟨h, hs⟩ := none_of_ref (s := s) zz (by simp [gPre, gDeed])
    have := zz _ (List.mem_cons_self)
    rw [Bool.not_eq_false'] at this
    have ok := told3_iff this
    refine ⟨_, sp_do_deed mg, D.calls _ (in_tab 1 rfl), in_tab 1 rfl, fun H F L M z Q E st rz kE kk => ⟨F, L, M, s, _, z, rfl, st, rz, ⟨⟨n, u, g, rfl, fun x hx => (ok.nr x hx).1, by have := ok.nl; omega, fun x hx => (ok.ur x hx).1, fun x hx => (ok.gr x hx).1⟩, h, hs, by have := (wf h hs).1.n16; omega⟩, wf, kk rfl⟩⟩
  | act d kd =>
    obtain ⟨h, hs⟩ := none_of_ref (s := s) zz (by simp [gPre, gAct])
    obtain ⟨h0, h1, h2, h3⟩ := choices_of hs (show refI (gCall s (.act d kd)) = 0 from hp)
    refine ⟨_, sp_do_act mg, D.calls _ (in_tab 2 rfl), in_tab 2 rfl, fun H F L M z Q E st rz kE kk => ⟨F, L, M, s, _, z, rfl, st, rz, ⟨d.toNat, Vberan.kindFits s kd, h, hs, h1, h2, ?_⟩, wf, kk rfl⟩⟩
    show [Item.num d, Item.num kd] = _
    rw [h3, Int.toNat_of_nonneg h0]
  | again =>
    obtain ⟨h, hs⟩ := none_of_ref (s := s) zz (by simp [gPre, gBare])
    exact ⟨_, sp_do_again mg, D.calls _ (in_tab 3 rfl), in_tab 3 rfl, fun H F L M z Q E st rz kE kk => ⟨F, L, M, s, _, z, rfl, st, rz, ⟨rfl, h, hs⟩, wf, kk rfl⟩⟩
  | now =>
    obtain ⟨h, hs⟩ := none_of_ref (s := s) zz (by simp [gPre, gBare])
    exact ⟨_, sp_tell_now mg, D.calls _ (in_tab 4 rfl), in_tab 4 rfl, fun H F L M z Q E st rz kE kk => ⟨F, L, M, s, _, z, rfl, st, rz, ⟨rfl, h, hs⟩, wf, kk rfl⟩⟩
  | can =>
    obtain ⟨h, hs⟩ := none_of_ref (s := s) zz (by simp [gPre, gBare])
    refine ⟨_, sp_tell_can mg, D.calls _ (in_tab 5 rfl), in_tab 5 rfl, fun H F L M z Q E st rz kE kk => ⟨F, L, M, s, _, z, rfl, st, rz, ⟨rfl, h, hs⟩, wf, ?_⟩⟩
    have k := kk rfl
    have e : anOf s .can = (stepsI (Vberan.theHouse s).deeds s.play).flatMap fun x => [(x.1 : Int), x.2] := by
      show Vberan.stepNums _ _ = _
      rw [theHouse_of hs, stepNums_I, steps_stepsI (wf h hs).1]
    rw [e] at k
    exact k
  | closure =>
    obtain ⟨h, hs⟩ := none_of_ref (s := s) zz (by simp [gPre, gBare])
    exact ⟨_, sp_tell_closure mg, D.calls _ (in_tab 6 rfl), in_tab 6 rfl, fun H F L M z Q E st rz kE kk => ⟨F, L, M, s, _, z, rfl, st, rz, ⟨rfl, h, hs⟩, wf, kk rfl⟩⟩
  | ranks =>
    obtain ⟨h, hs⟩ := none_of_ref (s := s) zz (by simp [gPre, gBare])
    refine ⟨_, sp_tell_ranks mg, D.calls _ (in_tab 7 rfl), in_tab 7 rfl, fun H F L M z Q E st rz kE kk => ⟨F, L, M, s, _, z, rfl, st, rz, ⟨rfl, h, hs⟩, wf, ?_⟩⟩
    have k := kk rfl
    have e : anOf s .ranks = Vberan.ints (shown (Vberan.ranks (Vberan.theHouse s))) := by
      unfold Vberan.ints shown
      rw [List.map_map]
      rfl
    rw [e] at k
    exact k
  | accepts l =>
    obtain ⟨h, hs⟩ := none_of_ref (s := s) zz (by simp [gPre, gAccepts])
    have := zz _ (List.mem_cons_self)
    rw [Bool.not_eq_false', Bool.and_eq_true] at this
    exact ⟨_, sp_tell_accepts mg, D.calls _ (in_tab 8 rfl), in_tab 8 rfl, fun H F L M z Q E st rz kE kk => ⟨F, L, M, s, _, z, rfl, st, rz, ⟨⟨l, rfl, fun x hx => (all_inr this.2 x hx).1⟩, h, hs⟩, wf, kk rfl⟩⟩
  | sure d l =>
    obtain ⟨h, hs⟩ := none_of_ref (s := s) zz (by simp [gPre, gSure])
    have z1 := zz _ (List.mem_cons_self)
    rw [Bool.not_eq_false', Bool.and_eq_true, Bool.and_eq_true, Bool.and_eq_true] at z1
    have z3 := zz (-3, (Vberan.noDeed s d).2 || l.any fun e => (Vberan.noDeed s e).2) (by simp [gPre, gSure])
    have z3 : ((Vberan.noDeed s d).2 || l.any fun e => (Vberan.noDeed s e).2) = false := z3
    rw [Bool.or_eq_false_iff, List.any_eq_false] at z3
    unfold Vberan.noDeed at z3
    rw [theHouse_of hs] at z3
    have hd := inr_iff.mp z1.1
    have hd2 : ¬ (h.deeds.length : Int) ≤ d := of_decide_eq_false z3.1
    refine ⟨_, sp_tell_sure mg, D.calls _ (in_tab 9 rfl), in_tab 9 rfl, fun H F L M z Q E st rz kE kk => ⟨F, L, M, s, _, z, rfl, st, rz, ⟨⟨d, l, rfl, hd.1, by rw [theHouse_of hs]; omega, fun x hx => ⟨(inr_iff.mp (List.all_eq_true.mp z1.2.2.1 x hx)).1, ?_⟩⟩, h, hs⟩, wf, kk rfl⟩⟩
    rw [theHouse_of hs]
    have q := z3.2 x hx
    have : ¬ (h.deeds.length : Int) ≤ x := by simpa using q
    omega
  | served =>
    obtain ⟨h, hs⟩ := none_of_ref (s := s) zz (by simp [gPre, gBare])
    exact ⟨_, sp_tell_served mg, D.calls _ (in_tab 10 rfl), in_tab 10 rfl, fun H F L M z Q E st rz kE kk => ⟨F, L, M, s, _, z, rfl, st, rz, ⟨rfl, h, hs⟩, wf, kk rfl⟩⟩
  | bound l =>
    obtain ⟨h, hs⟩ := none_of_ref (s := s) zz (by simp [gPre, gBound])
    have z1 := zz _ (List.mem_cons_self)
    rw [Bool.not_eq_false', Bool.and_eq_true, Bool.and_eq_true] at z1
    have z3 := zz (-3, l.any fun k => decide (((Vberan.theHouse s).kinds : Int) ≤ k)) (by simp [gPre, gBound])
    have z3 : (l.any fun k => decide (((Vberan.theHouse s).kinds : Int) ≤ k)) = false := z3
    rw [List.any_eq_false] at z3
    refine ⟨_, sp_tell_bound mg, D.calls _ (in_tab 11 rfl), in_tab 11 rfl, fun H F L M z Q E st rz kE kk => ⟨F, L, M, s, _, z, rfl, st, rz, ⟨⟨l, rfl, fun x hx => ⟨(inr_iff.mp (List.all_eq_true.mp z1.2.1 x hx)).1, ?_⟩⟩, h, hs⟩, wf, kk rfl⟩⟩
    have q := z3 x hx
    have : ¬ ((Vberan.theHouse s).kinds : Int) ≤ x := by simpa using q
    omega
  | states =>
    obtain ⟨h, hs⟩ := none_of_ref (s := s) zz (by simp [gPre, gBare])
    exact ⟨_, sp_tell_states mg, D.calls _ (in_tab 12 rfl), in_tab 12 rfl, fun H F L M z Q E st rz kE kk => ⟨F, L, M, s, _, z, rfl, st, rz, ⟨rfl, h, hs⟩, wf, kk rfl⟩⟩
  | dead =>
    obtain ⟨h, hs⟩ := none_of_ref (s := s) zz (by simp [gPre, gBare])
    exact ⟨_, sp_tell_dead mg, D.calls _ (in_tab 13 rfl), in_tab 13 rfl, fun H F L M z Q E st rz kE kk => ⟨F, L, M, s, _, z, rfl, st, rz, ⟨rfl, h, hs⟩, wf, kE, kk⟩⟩
  | way =>
    obtain ⟨h, hs⟩ := none_of_ref (s := s) zz (by simp [gPre, gBare])
    exact ⟨_, sp_tell_way mg, D.calls _ (in_tab 14 rfl), in_tab 14 rfl, fun H F L M z Q E st rz kE kk => ⟨F, L, M, s, _, z, rfl, st, rz, ⟨rfl, h, hs⟩, wf, kE, kk⟩⟩
  | doom =>
    obtain ⟨h, hs⟩ := none_of_ref (s := s) zz (by simp [gPre, gBare])
    exact ⟨_, sp_tell_doom mg, D.calls _ (in_tab 15 rfl), in_tab 15 rfl, fun H F L M z Q E st rz kE kk => ⟨F, L, M, s, _, z, rfl, st, rz, ⟨rfl, h, hs⟩, wf, kE, kk⟩⟩
  | must d =>
    obtain ⟨h, hs⟩ := none_of_ref (s := s) zz (by simp [gPre, gDeedNum])
    obtain ⟨h0, h1⟩ := deed_ok hs zz
    refine ⟨_, sp_tell_must mg, D.calls _ (in_tab 16 rfl), in_tab 16 rfl, fun H F L M z Q E st rz kE kk => ⟨F, L, M, s, _, z, rfl, st, rz, ⟨⟨d, rfl, h0, h1⟩, h, hs⟩, wf, ?_⟩⟩
    have ed : ((numOf [.num d] : Nat) : Int) = d := Int.toNat_of_nonneg h0
    refine ⟨fun hm => kE hm, fun hm => ?_⟩
    have k := kk hm
    show SpRes mg F H L M s (anOf s (.must (numOf [.num d] : Nat))) Q
    rw [ed]
    exact k
  | look d =>
    obtain ⟨h, hs⟩ := none_of_ref (s := s) zz (by simp [gPre, gDeedNum])
    obtain ⟨h0, h1⟩ := deed_ok hs zz
    refine ⟨_, sp_tell_look mg, D.calls _ (in_tab 17 rfl), in_tab 17 rfl, fun H F L M z Q E st rz kE kk => ⟨F, L, M, s, _, z, rfl, st, rz, ⟨⟨d, rfl, h0, h1⟩, h, hs⟩, wf, ?_⟩⟩
    have ed : ((numOf [.num d] : Nat) : Int) = d := Int.toNat_of_nonneg h0
    show SpRes mg F H L M s (anOf s (.look (numOf [.num d] : Nat))) Q
    rw [ed]
    exact kk rfl
  | rivals d =>
    obtain ⟨h, hs⟩ := none_of_ref (s := s) zz (by simp [gPre, gDeedNum])
    obtain ⟨h0, h1⟩ := deed_ok hs zz
    refine ⟨_, sp_tell_rivals mg, D.calls _ (in_tab 18 rfl), in_tab 18 rfl, fun H F L M z Q E st rz kE kk => ⟨F, L, M, s, _, z, rfl, st, rz, ⟨⟨d, rfl, h0, h1⟩, h, hs⟩, wf, ?_⟩⟩
    have ed : ((numOf [.num d] : Nat) : Int) = d := Int.toNat_of_nonneg h0
    show SpRes mg F H L M s (anOf s (.rivals (numOf [.num d] : Nat))) Q
    rw [ed]
    exact kk rfl
theorem Grow.of_same (H H2 : Hp) (e : Same H H2) : Grow H H H H2 := ⟨Same.refl _, e, e, fun b o h n => by rw [n] at h; cases h⟩
theorem StAt.M_there {F : Hp} {L : Addr} {M : List Addr} {s : Vberan.State} (st : StAt mg F H L M s) : ∀ b ∈ L :: M, F b = none ∧ ∃ o, H b = some o := by
  obtain ⟨dl, hv, hL, hs⟩ := st.at_
  intro b hb
  rcases List.mem_cons.mp hb with e | hb
  · rw [e]; exact ⟨st.fl, _, hL⟩
  · unfold HsAt at hs
    cases q : s.house with
    | none => rw [q] at hs; rw [hs.2] at hb; cases hb
    | some h =>
      rw [q] at hs
      obtain ⟨a, dx, f, d, y, ds, _, eM, ha, fa, hd, fd, _⟩ := hs
      rw [eM] at hb
      rcases List.mem_cons.mp hb with e | hb
      · rw [e]; exact ⟨fa, _, ha⟩
      · rw [List.mem_singleton.mp hb]; exact ⟨fd, _, hd⟩
theorem pure_answer_call (T : Top K mg) (D : Dicts K mg) (h : sp_answer_call mg vs H Q E) : t_answer_call K mg (sp_refusal_of mg) (dynC mg) { nx := fun _ H' => Q .non H', rt := Q } (start N_answer_call vs) H := by
  obtain ⟨F, L, M, s, c, y, z, rfl, st, ry, rz, wf, k⟩ := h
  have there := st.M_there
  have ryH : RI (itemsOf c).1 y H := ry
  have rzH : RG (itemsOf c).2 z H := Mono.up st.sm rz
  refine q_asg (Same.refl _) (ev_call3 (W := RI) (c := refI (gPre s c)) (ev_lh T (ev_var rfl st.line)) (ev_var rfl ryH) (ev_var rfl rzH) fun x y z G1 H1 Q _ sm rx ry rz k => ⟨G1, s, c, x, y, z, sm, rfl, rx, ry, rz, wf, k⟩) fun v G2 H2 w rv => ?_
  rw [step_is s c, pre_is] at k
  -- a refusal alone, in a new list
  have alone : ∀ (H5 : Hp) (r : Int) (σ : L2.St) (te : TE) (G5 : Hp), Same H H5 → Same G5 H5 → Ev te σ G5 RI r → SpAns mg F H L M s [r] Q → tRet (tLst (tCons te tNil)) { nx := fun _ H' => Q .non H', rt := Q } σ H5 := fun H5 r σ te G5 sH s5 hr k => by
    refine s_retF s5 (ef_one (R := RI) hr) fun q xs G4 H4 w4 hq g4 h4 hl a4 => ?_
    have sH4 := sH.trans w4.hh
    have hq0 := sH.free hq
    have nq : ∀ b ∈ L :: M, q ≠ b := fun b hb e => by
      obtain ⟨_, o, ho⟩ := there b hb
      rw [e, sH b o ho] at hq
      cases hq
    exact k q F H4 M hq0 (Same.refl _) (fun b o h n => by rw [n] at h; cases h) (fun b o e _ _ => sH4 b o e) (fun b hb => .inl hb) (st.up sH4) (st.sm.free hq0) (nq L List.mem_cons_self) (fun hm => nq q (List.mem_cons_of_mem _ hm) rfl) (by rw [h4, all2_int.mp a4]) (by show 1 ≤ 40001; decide)
  refine q_when w.gh (et_test (ev_ne (ev_var rfl rv) ev_int)) (fun hb G3 H3 w3 => ?_) (fun hb G3 H3 w3 => ?_)
  · have hb : refI (gPre s c) ≠ 0 := of_decide_eq_true hb
    rw [if_neg hb, if_neg hb] at k
    exact alone H3 _ _ _ G3 (w.hh.trans w3.hh) w3.gh (ev_var rfl (show RI _ v G3 from rv)) k
  · have hb : refI (gPre s c) = 0 := by
      have := of_decide_eq_false hb
      exact Decidable.not_not.mp this
    rw [if_pos hb] at k
    have sHH : Same H H3 := w.hh.trans w3.hh
    have st3 := st.up sHH
    obtain ⟨x2, sp2, hk2, hd2, go2⟩ := do_found (K := K) D wf hb
    refine ⟨y, rfl, adr mg "CALLS", (itemsOf c).1, .ref (adr mg x2), rfl, ry, hk2, ?_⟩
    refine ⟨adr mg x2, sp2, rfl, hd2, .ref L, rfl, z, rfl, ?_⟩
    refine go2 _ F L M z _ _ st3 rz (fun hm H5 s5 => ⟨true, T.x_NoRow.e, fun _ a ha => ?_, fun q => Bool.noConfusion q⟩) fun hm v5 F5 H5 M5 gF fr kp mM st5 rv5 => ?_
    · rw [hm, if_pos rfl] at k
      exact alone H5 (-9) _ _ H3 (sHH.trans s5) s5 ev_int k
    · rw [hm, if_neg Bool.false_ne_true, if_pos rfl] at k
      obtain ⟨q5, xs5, rfl, hq5, hl5, ha5⟩ := rv5
      refine ⟨(by decide : 1 ≤ sizeLine), fun l hl => ⟨.ref q5, rfl, l, q5, [.int 0], xs5, rfl, rfl, upd_same, by rw [upd_ne (ne_of_none hq5 hl)]; exact hq5, lim_line (by show 1 + xs5.length ≤ 100000; have : xs5.length ≤ 40000 := hl5; omega), fun p hp => ?_⟩⟩
      have there5 := st5.M_there
      have pl : p ≠ l := fun e => by rw [e, upd_same] at hp; cases hp
      have hp5 : H5 p = none := by
        rw [upd_ne pl] at hp
        exact hp
      have pM : ∀ b ∈ L :: M5, p ≠ b := fun b hb e => by
        obtain ⟨_, o, ho⟩ := there5 b hb
        rw [e, ho] at hp5
        cases hp5
      have up7 : Same H5 (upd (upd H5 l (.lst [.int 0])) p (.lst ([.int 0] ++ xs5))) := (Same.new hl).trans (Same.new hp)
      have kp' : ∀ b o, H b = some o → b ≠ L → b ∉ M → (upd (upd H5 l (.lst [.int 0])) p (.lst ([.int 0] ++ xs5))) b = some o := fun b o e h1 h2 => up7 _ _ (kp b o (sHH b o e) h1 h2)
      have hp0 : H p = none := by
        cases q : H p with
        | none => rfl
        | some o =>
          by_cases e1 : p ∈ L :: M
          · exfalso
            rcases List.mem_cons.mp e1 with z1 | z1
            · exact pM L List.mem_cons_self z1
            · exact pM p (List.mem_cons_of_mem _ (mM.2 p z1)) rfl
          · have := kp p o (sHH p o q) (fun e => e1 (by rw [e]; exact List.mem_cons_self)) (fun e => e1 (List.mem_cons_of_mem _ e))
            rw [hp5] at this
            cases this
      refine k p F5 _ M5 hp0 gF (fun b o e n => sHH.free (fr b o e n)) kp' (fun b hb => (mM.1 b hb).imp id sHH.free) (st5.up up7) (st5.sm.free hp5) (pM L List.mem_cons_self) (fun hm => pM p (List.mem_cons_of_mem _ hm) rfl) ?_ ?_
      · rw [upd_same, all2_int.mp ha5]
        rfl
      · have e1 := ha5.len
        have e2 : xs5.length ≤ 40000 := hl5
        show (anOf s c).length + 1 ≤ 40001
        omega
end
end DH
namespace DH
open PySem PySem.Spec PyProof.Rows L2
/-- the whole: what's asked comes in, what's due goes out -/
def sp_answers (K : PySem.W.Frag) : Sp := fun vs H Q _ => ∃ G a l raw, vs = [.ref a] ∧ Same G H ∧ RS K l (.ref a) G ∧ l.length ≤ 20000 ∧ Asked l raw ∧ ∀ H' p, H' p = some (.lst ((PyVberan.answers l).map V.int)) → Q (.ref p) H'
section
variable {K : PySem.W.Frag} {mg : Mg} {vs : List V} {H : Hp} {Q : VK} {E : XK}
theorem wfS_start : WfS VberanNeutral.start := fun h e => by cases e
theorem wfS_step {s : Vberan.State} (w : WfS s) (c : Vberan.Call) : WfS (Vberan.step s c).1 := by
  rw [step_is s c]
  by_cases h : refI (gCall s c) = 0
  · rw [if_pos h]
    exact wfS_ns w c h
  · rw [if_neg h]
    exact w
theorem told_len : ∀ {l : List (List Int)}, (∀ a ∈ l, a.length ≤ 40001) → (PyFlat.told l).length ≤ l.length * 40002
  | [], _ => Nat.le_refl _
  | a :: l, h => by
    have ih := told_len (l := l) fun b hb => h b (List.mem_cons_of_mem _ hb)
    have ha := h a List.mem_cons_self
    unfold PyFlat.told at ih ⊢
    rw [List.flatMap_cons, List.length_append, List.length_cons, List.length_cons]
    omega
theorem pure_answers (T : Top K mg) (D : Dicts K mg) (h : sp_answers K vs H Q E) : t_answers K mg (sp_answer_call mg) (sp_cut_calls K) (sp_Line_init mg) { nx := fun _ H' => Q .non H', rt := Q } (start N_answers vs) H := by
  obtain ⟨G, a, l, raw, rfl, sm, rx, hl, ask, k⟩ := h
  -- line = Line()
  intro L dL nL nd ne
  refine ⟨L, dL, rfl, upd_same, fun H1 hL kp => ⟨rfl, ?_⟩⟩
  have s1 : Same H H1 := fun b o q => kp b o (by rw [upd_ne (ne_of_none q nL), upd_ne (ne_of_none q nd)]; exact q) (ne_of_none q nL)
  have gL : G L = none := sm.free nL
  -- told = []
  refine ⟨(by decide : 0 ≤ sizeLine), fun p hp => ?_⟩
  have hp0 : H p = none := s1.free hp
  have pL : p ≠ L := fun e => by rw [e, hL] at hp; cases hp
  have gp : G p = none := sm.free hp0
  have w0 : Grow G H G (upd H1 p (.lst [])) := (Grow.stay sm s1).mutd hp0 gp
  have st0 : StAt mg G (upd H1 p (.lst [])) L [] VberanNeutral.start := ⟨w0.gh, gL, dL, .non, by rw [upd_ne (Ne.symm pL)]; exact hL, rfl, rfl⟩
  dsimp only [tSeq]
  refine s_for (G0 := G) (H0 := H) (σ := [some (.ref a), some (.ref L), some (.ref p), none, none, none]) w0 (src_list (ev_call1 (W := RL RCall) (c := raw.map toCall) (ev_var rfl rx) fun x G1 H1 Q _ sm rx k => ⟨G1, l, raw, x, sm, rfl, rx, hl, ask.cs, k⟩)) hit_pair
    (fun i σ' G' H' => ∃ M a3 a4 a5, σ' = [some (.ref a), some (.ref L), some (.ref p), a3, a4, a5] ∧ StAt mg G' H' L M (after VberanNeutral.start (raw.take i)) ∧ WfS (after VberanNeutral.start (raw.take i)) ∧ G' p = none ∧ p ∉ M ∧ (∀ b ∈ M, H b = none) ∧
      H' p = some (.lst ((PyFlat.told (PyFlat.played VberanNeutral.step VberanNeutral.start (raw.take i))).map V.int)) ∧ (PyFlat.told (PyFlat.played VberanNeutral.step VberanNeutral.start (raw.take i))).length ≤ i * 40002)
    (fun G3 H3 w3 => ⟨[], none, none, none, rfl, ?_, by rw [List.take_zero]; exact wfS_start, w3.out upd_same gp, (by simp), (fun b hb => by cases hb), w3.hh _ _ upd_same, by rw [List.take_zero]; exact Nat.zero_le _⟩) ?_ ?_
  · rw [List.take_zero]
    exact ⟨w3.gh, w3.out (st0.M_there L List.mem_cons_self).2.choose_spec gL, dL, .non, w3.hh _ _ (by rw [upd_ne (Ne.symm pL)]; exact hL), rfl, rfl⟩
  · rintro i c σ1 G1 H1 hi g1 w1 ⟨M, a3, a4, a5, rfl, st, wf, n1, pM, hM, h1, hlen⟩ G3 H3 σ2 w3 ⟨v1, v2, r1, r2, rfl⟩
    rw [List.getElem?_map] at hi
    cases hr : raw[i]? with
    | none => rw [hr] at hi; cases hi
    | some r =>
      rw [hr] at hi
      have ec : toCall r = c := Option.some.inj hi
      have hrm : r ∈ raw := List.mem_of_getElem? hr
      obtain ⟨cl, hcl, hto⟩ := asked_call (ask.ok r hrm)
      rw [← ec, hto] at r1 r2
      have st3 : StAt mg G3 H3 L M (after VberanNeutral.start (raw.take i)) := by
        obtain ⟨dl, hv, hLx, hs⟩ := st.at_
        refine ⟨w3.gh, w3.out hLx st.fl, dl, hv, w3.hh _ _ hLx, ?_⟩
        unfold HsAt at hs ⊢
        cases q : (after VberanNeutral.start (raw.take i)).house with
        | none => rw [q] at hs; exact hs
        | some h =>
          rw [q] at hs
          obtain ⟨x1, dx, f, d, y, ds, e1, e2, ha, fa, hd, fd, hz, h1, h2, h3⟩ := hs
          exact ⟨x1, dx, f, d, y, ds, e1, e2, w3.hh _ _ ha, w3.out ha fa, w3.hh _ _ hd, w3.out hd fd, hz, h1.up w3.gg, Mono.up w3.gg h2, Mono.up w3.gg h3⟩
      refine ⟨.ref L, rfl, v1, rfl, v2, rfl, G3, L, M, _, cl, v1, v2, rfl, st3, r1, r2, wf, fun q F4 H4 M4 hq gF fr kp mM st4 fq qL qM hq4 hql => ?_⟩
      have hp3 := w3.hh _ _ h1
      have hp4 := kp p _ hp3 pL pM
      have pq : p ≠ q := fun e => by rw [← e, hp3] at hq; cases hq
      have h60 := ask.n60
      have hi60 : i < raw.length := (List.getElem?_eq_some_iff.mp hr).1
      have hbig : (PyFlat.told (PyFlat.played VberanNeutral.step VberanNeutral.start (raw.take i))).length ≤ 60 * 40002 := Nat.le_trans hlen (Nat.mul_le_mul_right _ (by omega))
      refine ⟨.ref p, rfl, Or.inl ⟨rfl, _, SqL.of hp4⟩, .ref q, rfl, q, _, rfl, .inl (SqL.of hq4), p, _, .int _, rfl, rfl, hp4, ?_, ?_⟩
      · rw [List.length_map]
        exact Nat.lt_of_le_of_lt hbig (by decide)
      refine ⟨.ref p, rfl, Or.inl ⟨rfl, _, SqL.of upd_same⟩, .ref q, rfl, p, q, _, _, rfl, rfl, upd_same, by rw [upd_ne (Ne.symm pq)]; exact hq4, ?_, ?_⟩
      · rw [List.length_append, List.length_map, List.length_map]
        exact Nat.le_trans (by show _ + 1 + _ ≤ 60 * 40002 + 1 + 40001; omega) (by decide : 60 * 40002 + 1 + 40001 ≤ sizeLine)
      have et : raw.take (i + 1) = raw.take i ++ [r] := take_more hr
      have estep := step_call (s := after VberanNeutral.start (raw.take i)) hcl
      have wG : Grow G1 H1 F4 H4 → True := fun _ => trivial
      have fp : F4 p = none := by
        cases q2 : F4 p with
        | none => rfl
        | some o =>
          have := fr p o q2 (w3.out h1 n1)
          rw [hp3] at this
          cases this
      have pM4 : p ∉ M4 := fun hm => by
        rcases mM p hm with z | z
        · exact pM z
        · rw [hp3] at z; cases z
      have hM4 : ∀ b ∈ M4, H b = none := fun b hb => by
        rcases mM b hb with z | z
        · exact hM b z
        · exact (w1.trans w3).hh.free z
      -- all that was there at the start still is
      have keepH : Same H (upd (upd H4 p (.lst (((PyFlat.told (PyFlat.played VberanNeutral.step VberanNeutral.start (raw.take i))).map V.int) ++ [.int ((((Vberan.step (after VberanNeutral.start (raw.take i)) cl).2.map V.int).length : Nat) : Int)]))) p
          (.lst ((((PyFlat.told (PyFlat.played VberanNeutral.step VberanNeutral.start (raw.take i))).map V.int) ++ [.int ((((Vberan.step (after VberanNeutral.start (raw.take i)) cl).2.map V.int).length : Nat) : Int)]) ++ ((Vberan.step (after VberanNeutral.start (raw.take i)) cl).2.map V.int)))) := fun b o e => by
        have e3 := (w1.trans w3).hh b o e
        have hbL : b ≠ L := fun z => by rw [z, nL] at e; cases e
        have hbM : b ∉ M := fun z => by rw [hM b z] at e; cases e
        have hbp : b ≠ p := fun z => by rw [z, hp0] at e; cases e
        rw [upd_ne hbp, upd_ne hbp]
        exact kp b o e3 hbL hbM
      have smF : Same F4 (upd (upd H4 p (.lst (((PyFlat.told (PyFlat.played VberanNeutral.step VberanNeutral.start (raw.take i))).map V.int) ++ [.int ((((Vberan.step (after VberanNeutral.start (raw.take i)) cl).2.map V.int).length : Nat) : Int)]))) p
          (.lst ((((PyFlat.told (PyFlat.played VberanNeutral.step VberanNeutral.start (raw.take i))).map V.int) ++ [.int ((((Vberan.step (after VberanNeutral.start (raw.take i)) cl).2.map V.int).length : Nat) : Int)]) ++ ((Vberan.step (after VberanNeutral.start (raw.take i)) cl).2.map V.int)))) := (st4.sm.mut fp).mut fp
      refine ⟨F4, w3.gg.trans gF, ⟨((w1.trans w3).gg).trans gF, smF, keepH, fun b o e n => ?_⟩, M4, some v1, some v2, some (.ref q), rfl, ?_, ?_, fp, pM4, hM4, ?_, ?_⟩
      · cases q3 : G3 b with
        | some o3 => exact (w1.trans w3).fr b o3 q3 n
        | none => exact (w1.trans w3).hh.free (fr b o e q3)
      · rw [et, after_snoc, estep]
        obtain ⟨dl, hv, hLx, hs⟩ := st4.at_
        refine ⟨smF, st4.fl, dl, hv, by rw [upd_ne (Ne.symm pL), upd_ne (Ne.symm pL)]; exact hLx, ?_⟩
        unfold HsAt at hs ⊢
        cases q5 : (Vberan.step (after VberanNeutral.start (raw.take i)) cl).1.house with
        | none => rw [q5] at hs; exact hs
        | some h =>
          rw [q5] at hs
          obtain ⟨x1, dx, f, d, y, ds, e1, e2, ha, fa, hd, fd, hz, h1, h2, h3⟩ := hs
          have hx1 : x1 ≠ p := fun z => pM4 (by rw [e2, z]; simp)
          have hd1 : d ≠ p := fun z => pM4 (by rw [e2, z]; simp)
          exact ⟨x1, dx, f, d, y, ds, e1, e2, by rw [upd_ne hx1, upd_ne hx1]; exact ha, fa, by rw [upd_ne hd1, upd_ne hd1]; exact hd, fd, hz, h1, h2, h3⟩
      · rw [et, after_snoc, estep]
        exact wfS_step wf cl
      · rw [upd_same, et, played_snoc, told_snoc, estep, List.map_append, List.map_append, List.length_map, List.append_assoc]
        rfl
      · rw [et, played_snoc, told_snoc, estep, List.length_append, List.length_append]
        show _ + (1 + (Vberan.step (after VberanNeutral.start (raw.take i)) cl).2.length) ≤ (i + 1) * 40002
        omega
  · rintro σ1 G1 H1 g1 w1 ⟨M, a3, a4, a5, rfl, st, wf, n1, pM, hM, h1, hlen⟩
    rw [List.length_map, List.take_length, ← ask.ans] at h1
    exact ⟨.ref p, rfl, k H1 p h1⟩
end
end DH
namespace DH
open PySem PySem.Spec PyProof.Rows L2
section
variable {P : Program} {w : World} {K : PySem.W.Frag} {mg : Mg} {base : Heap}
theorem tie_Deed_init (T : Top K mg) {cdv : Value} {A : Around} {outer : List Env} {s : Shared} {H : Hp} {E : XK} {f : Addr}
    (hr : Room 0 (A.deeper (envOfC "Deed.__init__" (C8.fnScope s_Deed_init) s.heap.objs.size f cdv))) :
    PSs (cxOf C8.CX0 P w K mg base N_Deed_init "Deed.__init__" (C8.fnScope s_Deed_init) f cdv A outer s H E).nox (C8.fnBody s_Deed_init) (t_Deed_init K mg) :=
  (pss_cons (ps_fld (pv 0) (pv 1) rfl)
    (pss_cons (ps_fld (pv 0) (pv 2) rfl)
    (pss_one (ps_fld (pv 0) (pv 3) rfl))))
theorem tie_Play_init (T : Top K mg) {cdv : Value} {A : Around} {outer : List Env} {s : Shared} {H : Hp} {E : XK} {f : Addr}
    (hr : Room 0 (A.deeper (envOfC "Play.__init__" (C8.fnScope s_Play_init) s.heap.objs.size f cdv))) :
    PSs (cxOf C8.CX0 P w K mg base N_Play_init "Play.__init__" (C8.fnScope s_Play_init) f cdv A outer s H E).nox (C8.fnBody s_Play_init) (t_Play_init K mg) :=
  (pss_cons (ps_fld (pv 0) (pv 1) rfl)
    (pss_one (ps_fld (pv 0) (pv 2) rfl)))
theorem tie_House_init (T : Top K mg) {sp_Play_init : Sp} (M_Play : C8.Mak P w K mg base 1 "Play" (adr mg "Play") sp_Play_init []) {cdv : Value} {A : Around} {outer : List Env} {s : Shared} {H : Hp} {E : XK} {f : Addr}
    (hr : Room 2 (A.deeper (envOfC "House.__init__" (C8.fnScope s_House_init) s.heap.objs.size f cdv))) :
    PSs (cxOf C8.CX0 P w K mg base N_House_init "House.__init__" (C8.fnScope s_House_init) f cdv A outer s H E).nox (C8.fnBody s_House_init) (t_House_init K mg sp_Play_init) :=
  (pss_cons (ps_fld (pv 0) (pv 1) rfl)
    (pss_cons (ps_fld (pv 0) (pe_lst pa_nil) rfl)
    (pss_one (ps_fld (pv 0) (C8.pe_mk M_Play hr (by decide) (by rfl) (pa_cons (pe_lst pa_nil) (pa_cons (pv 1) pa_nil))) rfl))))
theorem tie_Line_init (T : Top K mg) {cdv : Value} {A : Around} {outer : List Env} {s : Shared} {H : Hp} {E : XK} {f : Addr}
    (hr : Room 0 (A.deeper (envOfC "Line.__init__" (C8.fnScope s_Line_init) s.heap.objs.size f cdv))) :
    PSs (cxOf C8.CX0 P w K mg base N_Line_init "Line.__init__" (C8.fnScope s_Line_init) f cdv A outer s H E).nox (C8.fnBody s_Line_init) (t_Line_init K mg) :=
  (pss_one (ps_fld (pv 0) pe_non rfl))
theorem tie_is_end_done (T : Top K mg) {cdv : Value} {A : Around} {outer : List Env} {s : Shared} {H : Hp} {E : XK} {f : Addr}
    (hr : Room 0 (A.deeper (envOfC "is_end_done" (C8.fnScope s_is_end_done) s.heap.objs.size f cdv))) :
    PSs (cxOf C8.CX0 P w K mg base N_is_end_done "is_end_done" (C8.fnScope s_is_end_done) f cdv A outer s H E).nox (C8.fnBody s_is_end_done) (t_is_end_done K mg) :=
  (pss_one (ps_ret (pe_cmpR op_in_seq (C8.pe_gc (by rfl) T.g_END) (pe_fld (pv 0) rfl) (by rfl))))
theorem tie_holds_all (T : Top K mg) {cdv : Value} {A : Around} {outer : List Env} {s : Shared} {H : Hp} {E : XK} {f : Addr}
    (hr : Room 0 (A.deeper (envOfC "holds_all" (C8.fnScope s_holds_all) s.heap.objs.size f cdv))) :
    PSs (cxOf C8.CX0 P w K mg base N_holds_all "holds_all" (C8.fnScope s_holds_all) f cdv A outer s H E).nox (C8.fnBody s_holds_all) (t_holds_all K mg) :=
  (pss_cons (ps_for PassesOwn.never rfl (pi_list (pv 1)) (pg_name (i := 2) sc_holds_all.nd rfl (Or.inl rfl)) (pss_one (ps_if (pt_cmpR op_notIn_seq (pv 2) (pv 0) (by rfl)) (pss_one (ps_ret pe_bl)) pss_nil)))
    (pss_one (ps_ret pe_bl)))
theorem tie_are_met (T : Top K mg) {sp_holds_all : Sp} (C_holds_all : C8.Cal P w K mg base 1 "holds_all" sp_holds_all []) {cdv : Value} {A : Around} {outer : List Env} {s : Shared} {H : Hp} {E : XK} {f : Addr}
    (hr : Room 1 (A.deeper (envOfC "are_met" (C8.fnScope s_are_met) s.heap.objs.size f cdv))) :
    PSs (cxOf C8.CX0 P w K mg base N_are_met "are_met" (C8.fnScope s_are_met) f cdv A outer s H E).nox (C8.fnBody s_are_met) (t_are_met K mg sp_holds_all) :=
  (pss_cons (ps_for PassesOwn.never rfl (pi_list (pv 0)) (pg_name (i := 2) sc_are_met.nd rfl (Or.inl rfl)) (pss_one (ps_if (pt_val (C8.pe_c C_holds_all hr (by decide) (by rfl) (pa_cons (pv 1) (pa_cons (pv 2) pa_nil)))) (pss_one (ps_ret pe_bl)) pss_nil)))
    (pss_one (ps_ret pe_bl)))
theorem tie_kinds_for (T : Top K mg) {sp_are_met : Sp} (C_are_met : C8.Cal P w K mg base 2 "are_met" sp_are_met []) {cdv : Value} {A : Around} {outer : List Env} {s : Shared} {H : Hp} {E : XK} {f : Addr}
    (hr : Room 2 (A.deeper (envOfC "kinds_for" (C8.fnScope s_kinds_for) s.heap.objs.size f cdv))) :
    PSs (cxOf C8.CX0 P w K mg base N_kinds_for "kinds_for" (C8.fnScope s_kinds_for) f cdv A outer s H E).nox (C8.fnBody s_kinds_for) (t_kinds_for K mg sp_are_met) :=
  (pss_cons (ps_set (i := 3) sc_kinds_for.nd rfl (Or.inl rfl) (pe_ix ix_list (pv 0) (pv 2) (fun _ _ => rfl)))
    (pss_cons (ps_if (PW.pt (pw_or (pt_cmpR op_in_seq (pv 2) (pe_fld (pv 1) rfl) (by rfl)) (pw_or1 (pt_not (pt_val (C8.pe_c C_are_met hr (by decide) (by rfl) (pa_cons (pe_fld (pv 3) rfl) (pa_cons (pe_fld (pv 1) rfl) pa_nil)))))))) (pss_one (ps_ret (pe_lst pa_nil))) pss_nil)
    (pss_cons (ps_if (pt_cmpR op_eq (pe_callB call_len_seq (by rfl) T.b_len PySem.boot_len (pa_cons (pe_fld (pv 3) rfl) pa_nil)) pe_int (nomark _)) (pss_one (ps_ret (pe_lst (pa_cons (C8.pe_gc (by rfl) T.g_NO_KIND) pa_nil)))) pss_nil)
    (pss_one (ps_ret (pe_lc (own := [("kind", 4)]) (g := (gName 4)) (tt := (tTest (tOp rGtI (tOp (rIxL K) (tFld K (tVar 1) "things") (tVar 4)) (tC (.int 0))))) rfl sc_kinds_for.nd (pi_list (pe_fld (pv 3) rfl)) (blkOk_by (N := N_kinds_for) (sc := C8.fnScope s_kinds_for) (by decide +kernel)) (fun _ _ _ _ _ => (pg_name (i := 4) sc_kinds_for.nd rfl (Or.inl rfl))) (fun _ _ _ _ _ => (pts_one (pt_cmpR op_gt (pe_ix ix_list (pe_fld (pv 1) rfl) (pv 4) (fun _ _ => rfl)) pe_int (nomark _)))) (fun _ _ _ _ _ => (pv 4))))))))
theorem tie_all_steps (T : Top K mg) {sp_kinds_for : Sp} (C_kinds_for : C8.Cal P w K mg base 3 "kinds_for" sp_kinds_for []) {cdv : Value} {A : Around} {outer : List Env} {s : Shared} {H : Hp} {E : XK} {f : Addr}
    (hr : Room 3 (A.deeper (envOfC "all_steps" (C8.fnScope s_all_steps) s.heap.objs.size f cdv))) :
    PSs (cxOf C8.CX0 P w K mg base N_all_steps "all_steps" (C8.fnScope s_all_steps) f cdv A outer s H E).nox (C8.fnBody s_all_steps) (t_all_steps K mg sp_kinds_for) :=
  (pss_cons (ps_set (i := 2) sc_all_steps.nd rfl (Or.inl rfl) (pe_lst pa_nil))
    (pss_cons (ps_for PassesOwn.never rfl (pi_range1 (by rfl) T.b_range (pa_cons (pe_callB call_len_seq (by rfl) T.b_len PySem.boot_len (pa_cons (pv 0) pa_nil)) pa_nil)) (pg_name (i := 3) sc_all_steps.nd rfl (Or.inl rfl)) (pss_one (ps_for PassesOwn.never rfl (pi_list (C8.pe_c C_kinds_for hr (by decide) (by rfl) (pa_cons (pv 0) (pa_cons (pv 1) (pa_cons (pv 3) pa_nil))))) (pg_name (i := 4) sc_all_steps.nd rfl (Or.inl rfl)) (pss_one (ps_expr (pe_bm PySem.F.plainAttrs_list PySem.F.slot_list_append PySem.F.type_list_append mt_append (pv 2) (pa_cons (pe_tup (pa_cons (pv 3) (pa_cons (pv 4) pa_nil))) pa_nil)))))))
    (pss_one (ps_ret (pv 2)))))
theorem tie_play_after (T : Top K mg) {sp_Play_init : Sp} (M_Play : C8.Mak P w K mg base 1 "Play" (adr mg "Play") sp_Play_init []) {cdv : Value} {A : Around} {outer : List Env} {s : Shared} {H : Hp} {E : XK} {f : Addr}
    (hr : Room 2 (A.deeper (envOfC "play_after" (C8.fnScope s_play_after) s.heap.objs.size f cdv))) :
    PSs (cxOf C8.CX0 P w K mg base N_play_after "play_after" (C8.fnScope s_play_after) f cdv A outer s H E).nox (C8.fnBody s_play_after) (t_play_after K mg sp_Play_init) :=
  (pss_cons (ps_setLc (i := 4) (own := [("had", 5), ("given", 6)]) (g := (gTup K 2 (gCons (gName 5) (gCons (gName 6) gNil)))) (tt := tYes) rfl sc_play_after.nd rfl rfl (sw_true rfl rfl rfl (by decide +kernel)) (pi_zip (by rfl) T.b_zip (pa_cons (pe_fld (pv 1) rfl) (pa_cons (pe_fld (pe_ix ix_list (pv 0) (pv 2) (fun _ _ => rfl)) rfl) pa_nil))) (blkOk_by (N := N_play_after) (sc := C8.fnScope s_play_after) (by decide +kernel)) (fun _ _ _ _ _ => (pg_tup rfl (pgs_cons (pg_name (i := 5) sc_play_after.nd rfl (Or.inl rfl)) (pgs_cons (pg_name (i := 6) sc_play_after.nd rfl (Or.inl rfl)) pgs_nil)))) (fun _ _ _ _ _ => pts_nil) (fun _ _ _ _ _ => (pe_op op_add (pv 5) (pv 6))))
    (pss_cons (ps_if (pt_cmpR op_ne (pv 3) (C8.pe_gc (by rfl) T.g_NO_KIND) (nomark _)) (pss_one (ps_asg (pe_op op_sub (pe_ix ix_list (pv 4) (pv 3) (fun _ _ => rfl)) pe_int) (pg_sub (pv 4) (pv 3) set_list))) pss_nil)
    (pss_one (ps_ret (C8.pe_mk M_Play hr (by decide) (by rfl) (pa_cons (pe_callB cr_sortedI (by rfl) T.b_sorted PyProof.Rows.boot_sorted (pa_cons (pe_op op_cat (pe_fld (pv 1) rfl) (pe_lst (pa_cons (pv 2) pa_nil))) pa_nil)) (pa_cons (pv 4) pa_nil)))))))
theorem tie_closure_of (T : Top K mg) {sp_are_met : Sp} (C_are_met : C8.Cal P w K mg base 2 "are_met" sp_are_met []) {cdv : Value} {A : Around} {outer : List Env} {s : Shared} {H : Hp} {E : XK} {f : Addr}
    (hr : Room 2 (A.deeper (envOfC "closure_of" (C8.fnScope s_closure_of) s.heap.objs.size f cdv))) :
    PSs (cxOf C8.CX0 P w K mg base N_closure_of "closure_of" (C8.fnScope s_closure_of) f cdv A outer s H E).nox (C8.fnBody s_closure_of) (t_closure_of K mg sp_are_met) :=
  (pss_cons (ps_set (i := 2) sc_closure_of.nd rfl (Or.inr rfl) (pe_callTy call_list_of (by rfl) T.b_list PyProof.Rows.boot_list (pa_cons (pv 1) pa_nil)))
    (pss_cons (ps_set (i := 3) sc_closure_of.nd rfl (Or.inl rfl) pe_bl)
    (pss_cons (ps_while PassesOwn.never (pt_val (pv 3)) (pss_cons (ps_setLc (i := 4) (own := [("d", 5)]) (g := (gName 5)) (tt := (tAnd (tTest (tOp (rIn K true) (tVar 5) (tVar 2))) (tB (tCall sp_are_met [] C8.E0 (tCons (tFld K (tOp (rIxL K) (tVar 0) (tVar 5)) "needs") (tCons (tVar 2) tNil)))))) rfl sc_closure_of.nd rfl rfl (sw_true rfl rfl rfl (by decide +kernel)) (pi_range1 (by rfl) T.b_range (pa_cons (pe_callB call_len_seq (by rfl) T.b_len PySem.boot_len (pa_cons (pv 0) pa_nil)) pa_nil)) (blkOk_by (N := N_closure_of) (sc := C8.fnScope s_closure_of) (by decide +kernel)) (fun _ _ _ _ _ => (pg_name (i := 5) sc_closure_of.nd rfl (Or.inl rfl))) (fun _ _ _ _ _ => (pts_one (PW.pt (pw_and (pt_cmpR op_notIn_seq (pv 5) (pv 2) (by rfl)) (pw_and1 (pt_val (C8.pe_c C_are_met hr (by decide) (by rfl) (pa_cons (pe_fld (pe_ix ix_list (pv 0) (pv 5) (fun _ _ => rfl)) rfl) (pa_cons (pv 2) pa_nil))))))))) (fun _ _ _ _ _ => (pv 5)))
    (pss_cons (ps_set (i := 2) sc_closure_of.nd rfl (Or.inr rfl) (pe_op op_cat (pv 2) (pv 4)))
    (pss_one (ps_set (i := 3) sc_closure_of.nd rfl (Or.inl rfl) (pe_cmpR op_gt (pe_callB call_len_seq (by rfl) T.b_len PySem.boot_len (pa_cons (pv 4) pa_nil)) pe_int (nomark _)))))))
    (pss_one (ps_ret (pe_callB cr_sortedI (by rfl) T.b_sorted PyProof.Rows.boot_sorted (pa_cons (pv 2) pa_nil)))))))
theorem tie_share_a_kind (T : Top K mg) {cdv : Value} {A : Around} {outer : List Env} {s : Shared} {H : Hp} {E : XK} {f : Addr}
    (hr : Room 0 (A.deeper (envOfC "share_a_kind" (C8.fnScope s_share_a_kind) s.heap.objs.size f cdv))) :
    PSs (cxOf C8.CX0 P w K mg base N_share_a_kind "share_a_kind" (C8.fnScope s_share_a_kind) f cdv A outer s H E).nox (C8.fnBody s_share_a_kind) (t_share_a_kind K mg) :=
  (pss_one (ps_ret (pe_callB (cr_any rfl) (by rfl) T.b_any PyProof.Rows.boot_any (pa_cons (pe_lc (own := [("kind", 2)]) (g := (gName 2)) (tt := tYes) rfl sc_share_a_kind.nd (pi_list (pv 0)) (blkOk_by (N := N_share_a_kind) (sc := C8.fnScope s_share_a_kind) (by decide +kernel)) (fun _ _ _ _ _ => (pg_name (i := 2) sc_share_a_kind.nd rfl (Or.inl rfl))) (fun _ _ _ _ _ => pts_nil) (fun _ _ _ _ _ => (pe_cmpR op_in_seq (pv 2) (pv 1) (by rfl)))) pa_nil))))
theorem tie_rivals_of (T : Top K mg) {sp_share_a_kind : Sp} (C_share_a_kind : C8.Cal P w K mg base 1 "share_a_kind" sp_share_a_kind []) {cdv : Value} {A : Around} {outer : List Env} {s : Shared} {H : Hp} {E : XK} {f : Addr}
    (hr : Room 1 (A.deeper (envOfC "rivals_of" (C8.fnScope s_rivals_of) s.heap.objs.size f cdv))) :
    PSs (cxOf C8.CX0 P w K mg base N_rivals_of "rivals_of" (C8.fnScope s_rivals_of) f cdv A outer s H E).nox (C8.fnBody s_rivals_of) (t_rivals_of K mg sp_share_a_kind) :=
  (pss_cons (ps_set (i := 2) sc_rivals_of.nd rfl (Or.inr rfl) (pe_fld (pe_ix ix_list (pv 0) (pv 1) (fun _ _ => rfl)) rfl))
    (pss_one (ps_ret (pe_lc (own := [("other", 3)]) (g := (gName 3)) (tt := (tAnd (tTest (tOp rNe (tVar 3) (tVar 1))) (tB (tCall sp_share_a_kind [] C8.E0 (tCons (tFld K (tOp (rIxL K) (tVar 0) (tVar 3)) "uses") (tCons (tVar 2) tNil)))))) rfl sc_rivals_of.nd (pi_range1 (by rfl) T.b_range (pa_cons (pe_callB call_len_seq (by rfl) T.b_len PySem.boot_len (pa_cons (pv 0) pa_nil)) pa_nil)) (blkOk_by (N := N_rivals_of) (sc := C8.fnScope s_rivals_of) (by decide +kernel)) (fun _ _ _ _ _ => (pg_name (i := 3) sc_rivals_of.nd rfl (Or.inl rfl))) (fun _ _ _ _ _ => (pts_one (PW.pt (pw_and (pt_cmpR op_ne (pv 3) (pv 1) (nomark _)) (pw_and1 (pt_val (C8.pe_c C_share_a_kind hr (by decide) (by rfl) (pa_cons (pe_fld (pe_ix ix_list (pv 0) (pv 3) (fun _ _ => rfl)) rfl) (pa_cons (pv 2) pa_nil))))))))) (fun _ _ _ _ _ => (pv 3))))))
theorem tie_count_things (T : Top K mg) {cdv : Value} {A : Around} {outer : List Env} {s : Shared} {H : Hp} {E : XK} {f : Addr}
    (hr : Room 0 (A.deeper (envOfC "count_things" (C8.fnScope s_count_things) s.heap.objs.size f cdv))) :
    PSs (cxOf C8.CX0 P w K mg base N_count_things "count_things" (C8.fnScope s_count_things) f cdv A outer s H E).nox (C8.fnBody s_count_things) (t_count_things K mg) :=
  (pss_cons (ps_set (i := 3) sc_count_things.nd rfl (Or.inl rfl) (pe_callB (cr_sum rfl) (by rfl) T.b_sum PyProof.Rows.boot_sum (pa_cons (pe_lc (own := [("kind", 5)]) (g := (gName 5)) (tt := tYes) rfl sc_count_things.nd (pi_list (pv 1)) (blkOk_by (N := N_count_things) (sc := C8.fnScope s_count_things) (by decide +kernel)) (fun _ _ _ _ _ => (pg_name (i := 5) sc_count_things.nd rfl (Or.inl rfl))) (fun _ _ _ _ _ => pts_nil) (fun _ _ _ _ _ => (pe_ix ix_list (pe_fld (pv 0) rfl) (pv 5) (fun _ _ => rfl)))) pa_nil)))
    (pss_cons (ps_for PassesOwn.never rfl (pi_list (pv 2)) (pg_name (i := 4) sc_count_things.nd rfl (Or.inr rfl)) (pss_one (ps_set (i := 3) sc_count_things.nd rfl (Or.inl rfl) (pe_op op_add (pv 3) (pe_callB (cr_sum rfl) (by rfl) T.b_sum PyProof.Rows.boot_sum (pa_cons (pe_lc (own := [("kind", 5)]) (g := (gName 5)) (tt := tYes) rfl sc_count_things.nd (pi_list (pv 1)) (blkOk_by (N := N_count_things) (sc := C8.fnScope s_count_things) (by decide +kernel)) (fun _ _ _ _ _ => (pg_name (i := 5) sc_count_things.nd rfl (Or.inl rfl))) (fun _ _ _ _ _ => pts_nil) (fun _ _ _ _ _ => (pe_ix ix_list (pe_fld (pe_ix ix_list (pe_fld (pv 0) rfl) (pv 4) (fun _ _ => rfl)) rfl) (pv 5) (fun _ _ => rfl)))) pa_nil))))))
    (pss_one (ps_ret (pv 3)))))
theorem tie_is_sure (T : Top K mg) {sp_are_met sp_count_things sp_rivals_of : Sp} (C_are_met : C8.Cal P w K mg base 2 "are_met" sp_are_met []) (C_count_things : C8.Cal P w K mg base 1 "count_things" sp_count_things []) (C_rivals_of : C8.Cal P w K mg base 2 "rivals_of" sp_rivals_of []) {cdv : Value} {A : Around} {outer : List Env} {s : Shared} {H : Hp} {E : XK} {f : Addr}
    (hr : Room 2 (A.deeper (envOfC "is_sure" (C8.fnScope s_is_sure) s.heap.objs.size f cdv))) :
    PSs (cxOf C8.CX0 P w K mg base N_is_sure "is_sure" (C8.fnScope s_is_sure) f cdv A outer s H E).nox (C8.fnBody s_is_sure) (t_is_sure K mg sp_are_met sp_count_things sp_rivals_of) :=
  (pss_cons (ps_set (i := 3) sc_is_sure.nd rfl (Or.inl rfl) (pe_ix ix_list (pe_fld (pv 0) rfl) (pv 1) (fun _ _ => rfl)))
    (pss_cons (ps_if (pt_not (pt_val (C8.pe_c C_are_met hr (by decide) (by rfl) (pa_cons (pe_fld (pv 3) rfl) (pa_cons (pv 2) pa_nil))))) (pss_one (ps_ret pe_bl)) pss_nil)
    (pss_cons (ps_if (pt_cmpR op_eq (pe_callB call_len_seq (by rfl) T.b_len PySem.boot_len (pa_cons (pe_fld (pv 3) rfl) pa_nil)) pe_int (nomark _)) (pss_one (ps_ret pe_bl)) pss_nil)
    (pss_one (ps_ret (pe_cmpR op_gt (C8.pe_c C_count_things hr (by decide) (by rfl) (pa_cons (pv 0) (pa_cons (pe_fld (pv 3) rfl) (pa_cons (pv 2) pa_nil)))) (pe_callB call_len_seq (by rfl) T.b_len PySem.boot_len (pa_cons (C8.pe_c C_rivals_of hr (by decide) (by rfl) (pa_cons (pe_fld (pv 0) rfl) (pa_cons (pv 1) pa_nil))) pa_nil)) (nomark _)))))))
theorem tie_told_ranks (T : Top K mg) {sp_is_sure : Sp} (C_is_sure : C8.Cal P w K mg base 3 "is_sure" sp_is_sure []) {cdv : Value} {A : Around} {outer : List Env} {s : Shared} {H : Hp} {E : XK} {f : Addr}
    (hr : Room 3 (A.deeper (envOfC "told_ranks" (C8.fnScope s_told_ranks) s.heap.objs.size f cdv))) :
    PSs (cxOf C8.CX0 P w K mg base N_told_ranks "told_ranks" (C8.fnScope s_told_ranks) f cdv A outer s H E).nox (C8.fnBody s_told_ranks) (t_told_ranks K mg sp_is_sure) :=
  (pss_cons (ps_set (i := 1) sc_told_ranks.nd rfl (Or.inl rfl) (pe_callB call_len_seq (by rfl) T.b_len PySem.boot_len (pa_cons (pe_fld (pv 0) rfl) pa_nil)))
    (pss_cons (ps_set (i := 2) sc_told_ranks.nd rfl (Or.inr rfl) (pe_op op_rep (pe_lst (pa_cons pe_int pa_nil)) (pv 1)))
    (pss_cons (ps_for PassesOwn.never rfl (pi_range2 (by rfl) T.b_range (pa_cons pe_int (pa_cons (pe_op op_add (pv 1) pe_int) pa_nil))) (pg_name (i := 3) sc_told_ranks.nd rfl (Or.inl rfl)) (pss_cons (ps_setLc (i := 4) (own := [("d", 5)]) (g := (gName 5)) (tt := (tTest (tOp rGtI (tOp (rIxL K) (tVar 2) (tVar 5)) (tC (.int 0))))) rfl sc_told_ranks.nd rfl rfl (sw_true rfl rfl rfl (by decide +kernel)) (pi_range1 (by rfl) T.b_range (pa_cons (pv 1) pa_nil)) (blkOk_by (N := N_told_ranks) (sc := C8.fnScope s_told_ranks) (by decide +kernel)) (fun _ _ _ _ _ => (pg_name (i := 5) sc_told_ranks.nd rfl (Or.inl rfl))) (fun _ _ _ _ _ => (pts_one (pt_cmpR op_gt (pe_ix ix_list (pv 2) (pv 5) (fun _ _ => rfl)) pe_int (nomark _)))) (fun _ _ _ _ _ => (pv 5)))
    (pss_one (ps_for PassesOwn.never rfl (pi_range1 (by rfl) T.b_range (pa_cons (pv 1) pa_nil)) (pg_name (i := 5) sc_told_ranks.nd rfl (Or.inl rfl)) (pss_one (ps_if (PW.pt (pw_and (pt_cmpR op_eq (pe_ix ix_list (pv 2) (pv 5) (fun _ _ => rfl)) pe_int (nomark _)) (pw_and1 (pt_val (C8.pe_c C_is_sure hr (by decide) (by rfl) (pa_cons (pv 0) (pa_cons (pv 5) (pa_cons (pv 4) pa_nil)))))))) (pss_one (ps_asg (pv 3) (pg_sub (pv 2) (pv 5) set_list))) pss_nil))))))
    (pss_one (ps_ret (pv 2))))))
theorem tie_are_accepted (T : Top K mg) {sp_is_sure : Sp} (C_is_sure : C8.Cal P w K mg base 3 "is_sure" sp_is_sure []) {cdv : Value} {A : Around} {outer : List Env} {s : Shared} {H : Hp} {E : XK} {f : Addr}
    (hr : Room 3 (A.deeper (envOfC "are_accepted" (C8.fnScope s_are_accepted) s.heap.objs.size f cdv))) :
    PSs (cxOf C8.CX0 P w K mg base N_are_accepted "are_accepted" (C8.fnScope s_are_accepted) f cdv A outer s H E).nox (C8.fnBody s_are_accepted) (t_are_accepted K mg sp_is_sure) :=
  (pss_cons (ps_if (pt_cmpR op_ne (pe_callB call_len_seq (by rfl) T.b_len PySem.boot_len (pa_cons (pv 1) pa_nil)) (pe_callB call_len_seq (by rfl) T.b_len PySem.boot_len (pa_cons (pe_fld (pv 0) rfl) pa_nil)) (nomark _)) (pss_one (ps_ret pe_bl)) pss_nil)
    (pss_cons (ps_for PassesOwn.never rfl (pi_enum (by rfl) T.b_enumerate (pa_cons (pv 1) pa_nil)) (pg_tup rfl (pgs_cons (pg_name (i := 2) sc_are_accepted.nd rfl (Or.inl rfl)) (pgs_cons (pg_name (i := 3) sc_are_accepted.nd rfl (Or.inr rfl)) pgs_nil))) (pss_cons (ps_setLc (i := 4) (own := [("other", 5)]) (g := (gName 5)) (tt := (tTest (tOp rLtI (tOp (rIxL K) (tVar 1) (tVar 5)) (tVar 3)))) rfl sc_are_accepted.nd rfl rfl (sw_true rfl rfl rfl (by decide +kernel)) (pi_range1 (by rfl) T.b_range (pa_cons (pe_callB call_len_seq (by rfl) T.b_len PySem.boot_len (pa_cons (pv 1) pa_nil)) pa_nil)) (blkOk_by (N := N_are_accepted) (sc := C8.fnScope s_are_accepted) (by decide +kernel)) (fun _ _ _ _ _ => (pg_name (i := 5) sc_are_accepted.nd rfl (Or.inl rfl))) (fun _ _ _ _ _ => (pts_one (pt_cmpR op_lt (pe_ix ix_list (pv 1) (pv 5) (fun _ _ => rfl)) (pv 3) (nomark _)))) (fun _ _ _ _ _ => (pv 5)))
    (pss_one (ps_if (pt_not (pt_val (C8.pe_c C_is_sure hr (by decide) (by rfl) (pa_cons (pv 0) (pa_cons (pv 2) (pa_cons (pv 4) pa_nil)))))) (pss_one (ps_ret pe_bl)) pss_nil))))
    (pss_one (ps_ret pe_bl))))
theorem tie_cut_calls (T : Top K mg) {cdv : Value} {A : Around} {outer : List Env} {s : Shared} {H : Hp} {E : XK} {f : Addr}
    (hr : Room 0 (A.deeper (envOfC "cut_calls" (C8.fnScope s_cut_calls) s.heap.objs.size f cdv))) :
    PSs (cxOf C8.CX0 P w K mg base N_cut_calls "cut_calls" (C8.fnScope s_cut_calls) f cdv A outer s H E).nox (C8.fnBody s_cut_calls) (t_cut_calls K mg) :=
  (pss_cons (ps_set (i := 1) sc_cut_calls.nd rfl (Or.inl rfl) (pe_lst pa_nil))
    (pss_cons (ps_set (i := 2) sc_cut_calls.nd rfl (Or.inl rfl) pe_int)
    (pss_cons (ps_while PassesOwn.never (pt_cmpR op_lt (pv 2) (pe_callB call_len_seq (by rfl) T.b_len PySem.boot_len (pa_cons (pv 0) pa_nil)) (nomark _)) (pss_cons (ps_set (i := 3) sc_cut_calls.nd rfl (Or.inl rfl) (pe_ix ix_list (pv 0) (pv 2) (fun _ _ => rfl)))
    (pss_cons (ps_set (i := 2) sc_cut_calls.nd rfl (Or.inl rfl) (pe_op op_add (pv 2) pe_int))
    (pss_cons (ps_set (i := 4) sc_cut_calls.nd rfl (Or.inl rfl) (pe_lst pa_nil))
    (pss_cons (ps_for PassesOwn.never rfl (pi_tup (pe_ix ix_kint (C8.pe_gc (by rfl) T.g_SHAPES) (pv 3) (fun _ _ => rfl))) (pg_name (i := 5) sc_cut_calls.nd rfl (Or.inl rfl)) (pss_cons (ps_set (i := 6) sc_cut_calls.nd rfl (Or.inl rfl) (pe_op op_add (pv 2) pe_int))
    (pss_cons (ps_if (pt_cmpR op_eq (pv 5) pe_str (nomark _)) (pss_cons (ps_set (i := 6) sc_cut_calls.nd rfl (Or.inl rfl) (pe_op op_add (pv 6) (pe_ix ix_list (pv 0) (pv 2) (fun _ _ => rfl))))
    (pss_one (ps_expr (pe_bm PySem.F.plainAttrs_list PySem.F.slot_list_append PySem.F.type_list_append mt_append (pv 4) (pa_cons (pe_slice sl_list (pv 0) (po_some (pe_op op_add (pv 2) pe_int)) (po_some (pv 6))) pa_nil))))) (pss_one (ps_expr (pe_bm PySem.F.plainAttrs_list PySem.F.slot_list_append PySem.F.type_list_append mt_append (pv 4) (pa_cons (pe_ix ix_list (pv 0) (pv 2) (fun _ _ => rfl)) pa_nil)))))
    (pss_one (ps_set (i := 2) sc_cut_calls.nd rfl (Or.inl rfl) (pv 6))))))
    (pss_one (ps_expr (pe_bm PySem.F.plainAttrs_list PySem.F.slot_list_append PySem.F.type_list_append mt_append (pv 1) (pa_cons (pe_tup (pa_cons (pv 3) (pa_cons (pv 4) pa_nil))) pa_nil)))))))))
    (pss_one (ps_ret (pv 1))))))
theorem tie_cut_needs (T : Top K mg) {cdv : Value} {A : Around} {outer : List Env} {s : Shared} {H : Hp} {E : XK} {f : Addr}
    (hr : Room 0 (A.deeper (envOfC "cut_needs" (C8.fnScope s_cut_needs) s.heap.objs.size f cdv))) :
    PSs (cxOf C8.CX0 P w K mg base N_cut_needs "cut_needs" (C8.fnScope s_cut_needs) f cdv A outer s H E).nox (C8.fnBody s_cut_needs) (t_cut_needs K mg) :=
  (pss_cons (ps_set (i := 1) sc_cut_needs.nd rfl (Or.inl rfl) (pe_lst (pa_cons (pe_lst pa_nil) pa_nil)))
    (pss_cons (ps_for PassesOwn.never rfl (pi_list (pv 0)) (pg_name (i := 2) sc_cut_needs.nd rfl (Or.inl rfl)) (pss_one (ps_if (pt_cmpR op_eq (pv 2) (pe_un un_neg pe_int) (nomark _)) (pss_one (ps_expr (pe_bm PySem.F.plainAttrs_list PySem.F.slot_list_append PySem.F.type_list_append mt_append (pv 1) (pa_cons (pe_lst pa_nil) pa_nil)))) (pss_one (ps_expr (pe_bm PySem.F.plainAttrs_list PySem.F.slot_list_append PySem.F.type_list_append mt_append (pe_ix ix_list (pv 1) (pe_un un_neg pe_int) (fun _ _ => rfl)) (pa_cons (pv 2) pa_nil)))))))
    (pss_one (ps_ret (pv 1)))))
theorem tie_is_list_within (T : Top K mg) {cdv : Value} {A : Around} {outer : List Env} {s : Shared} {H : Hp} {E : XK} {f : Addr}
    (hr : Room 0 (A.deeper (envOfC "is_list_within" (C8.fnScope s_is_list_within) s.heap.objs.size f cdv))) :
    PSs (cxOf C8.CX0 P w K mg base N_is_list_within "is_list_within" (C8.fnScope s_is_list_within) f cdv A outer s H E).nox (C8.fnBody s_is_list_within) (t_is_list_within K mg) :=
  (pss_one (ps_ret (pe_and (pe_cmpR op_le (pe_callB call_len_seq (by rfl) T.b_len PySem.boot_len (pa_cons (pv 0) pa_nil)) (pv 1) (nomark _)) (pe_one (pe_callB (cr_all rfl) (by rfl) T.b_all PyProof.Rows.boot_all (pa_cons (pe_lc (own := [("number", 4)]) (g := (gName 4)) (tt := tYes) rfl sc_is_list_within.nd (pi_list (pv 0)) (blkOk_by (N := N_is_list_within) (sc := C8.fnScope s_is_list_within) (by decide +kernel)) (fun _ _ _ _ _ => (pg_name (i := 4) sc_is_list_within.nd rfl (Or.inl rfl))) (fun _ _ _ _ _ => pts_nil) (fun _ _ _ _ _ => (pe_chain op_le op_le (pv 2) (pv 4) (pv 3)))) pa_nil))))))
theorem tie_is_rising (T : Top K mg) {cdv : Value} {A : Around} {outer : List Env} {s : Shared} {H : Hp} {E : XK} {f : Addr}
    (hr : Room 0 (A.deeper (envOfC "is_rising" (C8.fnScope s_is_rising) s.heap.objs.size f cdv))) :
    PSs (cxOf C8.CX0 P w K mg base N_is_rising "is_rising" (C8.fnScope s_is_rising) f cdv A outer s H E).nox (C8.fnBody s_is_rising) (t_is_rising K mg) :=
  (pss_one (ps_ret (pe_callB (cr_all rfl) (by rfl) T.b_all PyProof.Rows.boot_all (pa_cons (pe_lc (own := [("at", 1)]) (g := (gName 1)) (tt := tYes) rfl sc_is_rising.nd (pi_range2 (by rfl) T.b_range (pa_cons pe_int (pa_cons (pe_callB call_len_seq (by rfl) T.b_len PySem.boot_len (pa_cons (pv 0) pa_nil)) pa_nil))) (blkOk_by (N := N_is_rising) (sc := C8.fnScope s_is_rising) (by decide +kernel)) (fun _ _ _ _ _ => (pg_name (i := 1) sc_is_rising.nd rfl (Or.inl rfl))) (fun _ _ _ _ _ => pts_nil) (fun _ _ _ _ _ => (pe_cmpR op_lt (pe_ix ix_list (pv 0) (pe_op op_sub (pv 1) pe_int) (fun _ _ => rfl)) (pe_ix ix_list (pv 0) (pv 1) (fun _ _ => rfl)) (nomark _)))) pa_nil))))
theorem tie_is_deed_number (T : Top K mg) {cdv : Value} {A : Around} {outer : List Env} {s : Shared} {H : Hp} {E : XK} {f : Addr}
    (hr : Room 0 (A.deeper (envOfC "is_deed_number" (C8.fnScope s_is_deed_number) s.heap.objs.size f cdv))) :
    PSs (cxOf C8.CX0 P w K mg base N_is_deed_number "is_deed_number" (C8.fnScope s_is_deed_number) f cdv A outer s H E).nox (C8.fnBody s_is_deed_number) (t_is_deed_number K mg) :=
  (pss_one (ps_ret (pe_chain op_le op_le pe_int (pv 0) (C8.pe_gc (by rfl) T.g_LAST_DEED))))
theorem tie_refuse_house (T : Top K mg) {sp_is_list_within : Sp} (C_is_list_within : C8.Cal P w K mg base 1 "is_list_within" sp_is_list_within []) {cdv : Value} {A : Around} {outer : List Env} {s : Shared} {H : Hp} {E : XK} {f : Addr}
    (hr : Room 1 (A.deeper (envOfC "refuse_house" (C8.fnScope s_refuse_house) s.heap.objs.size f cdv))) :
    PSs (cxOf C8.CX0 P w K mg base N_refuse_house "refuse_house" (C8.fnScope s_refuse_house) f cdv A outer s H E).nox (C8.fnBody s_refuse_house) (t_refuse_house K mg sp_is_list_within) :=
  (pss_cons (ps_if (pt_not (pt_val (C8.pe_c C_is_list_within hr (by decide) (by rfl) (pa_cons (pe_ix ix_list (pv 1) pe_int (fun _ _ => rfl)) (pa_cons (C8.pe_gc (by rfl) T.g_MOST_KINDS) (pa_cons pe_int (pa_cons pe_int pa_nil))))))) (pss_one (ps_ret (C8.pe_gc (by rfl) T.g_NOT_AS_TOLD))) pss_nil)
    (pss_cons (ps_if (pt_cmpR op_notN (pv 0) pe_non (nomark _)) (pss_one (ps_ret (C8.pe_gc (by rfl) T.g_HOUSE_STANDS))) pss_nil)
    (pss_one (ps_ret (C8.pe_gc (by rfl) T.g_NONE_DUE)))))
theorem tie_is_deed_as_told (T : Top K mg) {sp_is_list_within sp_is_rising : Sp} (C_is_list_within : C8.Cal P w K mg base 1 "is_list_within" sp_is_list_within []) (C_is_rising : C8.Cal P w K mg base 1 "is_rising" sp_is_rising []) {cdv : Value} {A : Around} {outer : List Env} {s : Shared} {H : Hp} {E : XK} {f : Addr}
    (hr : Room 1 (A.deeper (envOfC "is_deed_as_told" (C8.fnScope s_is_deed_as_told) s.heap.objs.size f cdv))) :
    PSs (cxOf C8.CX0 P w K mg base N_is_deed_as_told "is_deed_as_told" (C8.fnScope s_is_deed_as_told) f cdv A outer s H E).nox (C8.fnBody s_is_deed_as_told) (t_is_deed_as_told K mg sp_is_list_within sp_is_rising) :=
  (pss_cons (ps_if (pt_not (pt_val (C8.pe_c C_is_list_within hr (by decide) (by rfl) (pa_cons (pv 0) (pa_cons pe_int (pa_cons (pe_un un_neg pe_int) (pa_cons (C8.pe_gc (by rfl) T.g_LAST_DEED) pa_nil))))))) (pss_one (ps_ret pe_bl)) pss_nil)
    (pss_cons (ps_if (PW.pt (pw_or (pt_not (pt_val (C8.pe_c C_is_list_within hr (by decide) (by rfl) (pa_cons (pv 1) (pa_cons (C8.pe_gc (by rfl) T.g_MOST_KINDS) (pa_cons pe_int (pa_cons (C8.pe_gc (by rfl) T.g_LAST_KIND) pa_nil))))))) (pw_or1 (pt_not (pt_val (C8.pe_c C_is_rising hr (by decide) (by rfl) (pa_cons (pv 1) pa_nil))))))) (pss_one (ps_ret pe_bl)) pss_nil)
    (pss_one (ps_ret (C8.pe_c C_is_list_within hr (by decide) (by rfl) (pa_cons (pv 2) (pa_cons (C8.pe_gc (by rfl) T.g_MOST_KINDS) (pa_cons pe_int (pa_cons pe_int pa_nil)))))))))
theorem tie_refuse_deed (T : Top K mg) {sp_is_deed_as_told : Sp} (C_is_deed_as_told : C8.Cal P w K mg base 2 "is_deed_as_told" sp_is_deed_as_told []) {cdv : Value} {A : Around} {outer : List Env} {s : Shared} {H : Hp} {E : XK} {f : Addr}
    (hr : Room 2 (A.deeper (envOfC "refuse_deed" (C8.fnScope s_refuse_deed) s.heap.objs.size f cdv))) :
    PSs (cxOf C8.CX0 P w K mg base N_refuse_deed "refuse_deed" (C8.fnScope s_refuse_deed) f cdv A outer s H E).nox (C8.fnBody s_refuse_deed) (t_refuse_deed K mg sp_is_deed_as_told) :=
  (pss_cons (ps_set (i := 2) sc_refuse_deed.nd rfl (Or.inl rfl) (pe_ix ix_list (pv 1) pe_int (fun _ _ => rfl)))
    (pss_cons (ps_set (i := 3) sc_refuse_deed.nd rfl (Or.inl rfl) (pe_ix ix_list (pv 1) pe_int (fun _ _ => rfl)))
    (pss_cons (ps_if (pt_not (pt_val (C8.pe_c C_is_deed_as_told hr (by decide) (by rfl) (pa_cons (pe_ix ix_list (pv 1) pe_int (fun _ _ => rfl)) (pa_cons (pv 2) (pa_cons (pv 3) pa_nil)))))) (pss_one (ps_ret (C8.pe_gc (by rfl) T.g_NOT_AS_TOLD))) pss_nil)
    (pss_cons (ps_if (pt_cmpR op_isN (pv 0) pe_non (nomark _)) (pss_one (ps_ret (C8.pe_gc (by rfl) T.g_NO_HOUSE))) pss_nil)
    (pss_cons (ps_set (i := 4) sc_refuse_deed.nd rfl (Or.inr rfl) (pe_callB call_len_seq (by rfl) T.b_len PySem.boot_len (pa_cons (pe_fld (pv 0) rfl) pa_nil)))
    (pss_cons (ps_if (pt_val (pe_callB (cr_any rfl) (by rfl) T.b_any PyProof.Rows.boot_any (pa_cons (pe_lc (own := [("kind", 5)]) (g := (gName 5)) (tt := tYes) rfl sc_refuse_deed.nd (pi_list (pv 2)) (blkOk_by (N := N_refuse_deed) (sc := C8.fnScope s_refuse_deed) (by decide +kernel)) (fun _ _ _ _ _ => (pg_name (i := 5) sc_refuse_deed.nd rfl (Or.inl rfl))) (fun _ _ _ _ _ => pts_nil) (fun _ _ _ _ _ => (pe_cmpR op_ge (pv 5) (pv 4) (nomark _)))) pa_nil))) (pss_one (ps_ret (C8.pe_gc (by rfl) T.g_NO_SUCH))) pss_nil)
    (pss_cons (ps_if (pt_cmpR op_eq (pe_callB call_len_seq (by rfl) T.b_len PySem.boot_len (pa_cons (pe_fld (pv 0) rfl) pa_nil)) (C8.pe_gc (by rfl) T.g_MOST_DEEDS) (nomark _)) (pss_one (ps_ret (C8.pe_gc (by rfl) T.g_DEEDS_FULL))) pss_nil)
    (pss_cons (ps_if (pt_cmpR op_ne (pe_callB call_len_seq (by rfl) T.b_len PySem.boot_len (pa_cons (pv 3) pa_nil)) (pv 4) (nomark _)) (pss_one (ps_ret (C8.pe_gc (by rfl) T.g_NOT_AS_MANY_AS_KINDS))) pss_nil)
    (pss_cons (ps_if (pt_cmpR op_gt (pe_callB call_len_seq (by rfl) T.b_len PySem.boot_len (pa_cons (pe_fld (pe_fld (pv 0) rfl) rfl) pa_nil)) pe_int (nomark _)) (pss_one (ps_ret (C8.pe_gc (by rfl) T.g_PLAY_BEGUN))) pss_nil)
    (pss_one (ps_ret (C8.pe_gc (by rfl) T.g_NONE_DUE))))))))))))
theorem tie_refuse_act (T : Top K mg) {sp_is_deed_number sp_kinds_for : Sp} (C_is_deed_number : C8.Cal P w K mg base 1 "is_deed_number" sp_is_deed_number []) (C_kinds_for : C8.Cal P w K mg base 3 "kinds_for" sp_kinds_for []) {cdv : Value} {A : Around} {outer : List Env} {s : Shared} {H : Hp} {E : XK} {f : Addr}
    (hr : Room 3 (A.deeper (envOfC "refuse_act" (C8.fnScope s_refuse_act) s.heap.objs.size f cdv))) :
    PSs (cxOf C8.CX0 P w K mg base N_refuse_act "refuse_act" (C8.fnScope s_refuse_act) f cdv A outer s H E).nox (C8.fnBody s_refuse_act) (t_refuse_act K mg sp_is_deed_number sp_kinds_for) :=
  (pss_cons (ps_set (i := 2) sc_refuse_act.nd rfl (Or.inl rfl) (pe_ix ix_list (pv 1) pe_int (fun _ _ => rfl)))
    (pss_cons (ps_set (i := 3) sc_refuse_act.nd rfl (Or.inl rfl) (pe_ix ix_list (pv 1) pe_int (fun _ _ => rfl)))
    (pss_cons (ps_if (PW.pt (pw_or (pt_not (pt_val (C8.pe_c C_is_deed_number hr (by decide) (by rfl) (pa_cons (pv 2) pa_nil)))) (pw_or1 (pt_not (pt_chain op_le op_le (pe_un un_neg pe_int) (pv 3) (C8.pe_gc (by rfl) T.g_LAST_KIND)))))) (pss_one (ps_ret (C8.pe_gc (by rfl) T.g_NOT_AS_TOLD))) pss_nil)
    (pss_cons (ps_if (pt_cmpR op_isN (pv 0) pe_non (nomark _)) (pss_one (ps_ret (C8.pe_gc (by rfl) T.g_NO_HOUSE))) pss_nil)
    (pss_cons (ps_if (pt_cmpR op_ge (pv 2) (pe_callB call_len_seq (by rfl) T.b_len PySem.boot_len (pa_cons (pe_fld (pv 0) rfl) pa_nil)) (nomark _)) (pss_one (ps_ret (C8.pe_gc (by rfl) T.g_NO_SUCH))) pss_nil)
    (pss_cons (ps_if (pt_cmpR op_notIn_seq (pv 3) (C8.pe_c C_kinds_for hr (by decide) (by rfl) (pa_cons (pe_fld (pv 0) rfl) (pa_cons (pe_fld (pv 0) rfl) (pa_cons (pv 2) pa_nil)))) (by rfl)) (pss_one (ps_ret (C8.pe_gc (by rfl) T.g_CANNOT_BE_DONE))) pss_nil)
    (pss_one (ps_ret (C8.pe_gc (by rfl) T.g_NONE_DUE)))))))))
theorem tie_refuse_bare (T : Top K mg) {cdv : Value} {A : Around} {outer : List Env} {s : Shared} {H : Hp} {E : XK} {f : Addr}
    (hr : Room 0 (A.deeper (envOfC "refuse_bare" (C8.fnScope s_refuse_bare) s.heap.objs.size f cdv))) :
    PSs (cxOf C8.CX0 P w K mg base N_refuse_bare "refuse_bare" (C8.fnScope s_refuse_bare) f cdv A outer s H E).nox (C8.fnBody s_refuse_bare) (t_refuse_bare K mg) :=
  (pss_cons (ps_if (pt_cmpR op_isN (pv 0) pe_non (nomark _)) (pss_one (ps_ret (C8.pe_gc (by rfl) T.g_NO_HOUSE))) pss_nil)
    (pss_one (ps_ret (C8.pe_gc (by rfl) T.g_NONE_DUE))))
theorem tie_refuse_accepts (T : Top K mg) {sp_is_list_within sp_refuse_bare : Sp} (C_is_list_within : C8.Cal P w K mg base 1 "is_list_within" sp_is_list_within []) (C_refuse_bare : C8.Cal P w K mg base 1 "refuse_bare" sp_refuse_bare []) {cdv : Value} {A : Around} {outer : List Env} {s : Shared} {H : Hp} {E : XK} {f : Addr}
    (hr : Room 1 (A.deeper (envOfC "refuse_accepts" (C8.fnScope s_refuse_accepts) s.heap.objs.size f cdv))) :
    PSs (cxOf C8.CX0 P w K mg base N_refuse_accepts "refuse_accepts" (C8.fnScope s_refuse_accepts) f cdv A outer s H E).nox (C8.fnBody s_refuse_accepts) (t_refuse_accepts K mg sp_is_list_within sp_refuse_bare) :=
  (pss_cons (ps_if (pt_not (pt_val (C8.pe_c C_is_list_within hr (by decide) (by rfl) (pa_cons (pe_ix ix_list (pv 1) pe_int (fun _ _ => rfl)) (pa_cons (C8.pe_gc (by rfl) T.g_MOST_DEEDS) (pa_cons pe_int (pa_cons pe_int pa_nil))))))) (pss_one (ps_ret (C8.pe_gc (by rfl) T.g_NOT_AS_TOLD))) pss_nil)
    (pss_one (ps_ret (C8.pe_c C_refuse_bare hr (by decide) (by rfl) (pa_cons (pv 0) (pa_cons (pv 1) pa_nil))))))
theorem tie_refuse_sure (T : Top K mg) {sp_is_deed_number sp_is_list_within sp_is_rising : Sp} (C_is_deed_number : C8.Cal P w K mg base 1 "is_deed_number" sp_is_deed_number []) (C_is_list_within : C8.Cal P w K mg base 1 "is_list_within" sp_is_list_within []) (C_is_rising : C8.Cal P w K mg base 1 "is_rising" sp_is_rising []) {cdv : Value} {A : Around} {outer : List Env} {s : Shared} {H : Hp} {E : XK} {f : Addr}
    (hr : Room 1 (A.deeper (envOfC "refuse_sure" (C8.fnScope s_refuse_sure) s.heap.objs.size f cdv))) :
    PSs (cxOf C8.CX0 P w K mg base N_refuse_sure "refuse_sure" (C8.fnScope s_refuse_sure) f cdv A outer s H E).nox (C8.fnBody s_refuse_sure) (t_refuse_sure K mg sp_is_deed_number sp_is_list_within sp_is_rising) :=
  (pss_cons (ps_set (i := 2) sc_refuse_sure.nd rfl (Or.inl rfl) (pe_ix ix_list (pv 1) pe_int (fun _ _ => rfl)))
    (pss_cons (ps_set (i := 3) sc_refuse_sure.nd rfl (Or.inl rfl) (pe_ix ix_list (pv 1) pe_int (fun _ _ => rfl)))
    (pss_cons (ps_if (pt_not (pt_val (C8.pe_c C_is_deed_number hr (by decide) (by rfl) (pa_cons (pv 2) pa_nil)))) (pss_one (ps_ret (C8.pe_gc (by rfl) T.g_NOT_AS_TOLD))) pss_nil)
    (pss_cons (ps_if (PW.pt (pw_or (pt_not (pt_val (C8.pe_c C_is_list_within hr (by decide) (by rfl) (pa_cons (pv 3) (pa_cons (C8.pe_gc (by rfl) T.g_MOST_DEEDS) (pa_cons pe_int (pa_cons (C8.pe_gc (by rfl) T.g_LAST_DEED) pa_nil))))))) (pw_or1 (pt_not (pt_val (C8.pe_c C_is_rising hr (by decide) (by rfl) (pa_cons (pv 3) pa_nil))))))) (pss_one (ps_ret (C8.pe_gc (by rfl) T.g_NOT_AS_TOLD))) pss_nil)
    (pss_cons (ps_if (pt_cmpR op_isN (pv 0) pe_non (nomark _)) (pss_one (ps_ret (C8.pe_gc (by rfl) T.g_NO_HOUSE))) pss_nil)
    (pss_cons (ps_if (pt_val (pe_callB (cr_any rfl) (by rfl) T.b_any PyProof.Rows.boot_any (pa_cons (pe_lc (own := [("number", 4)]) (g := (gName 4)) (tt := tYes) rfl sc_refuse_sure.nd (pi_list (pe_op op_cat (pe_lst (pa_cons (pv 2) pa_nil)) (pv 3))) (blkOk_by (N := N_refuse_sure) (sc := C8.fnScope s_refuse_sure) (by decide +kernel)) (fun _ _ _ _ _ => (pg_name (i := 4) sc_refuse_sure.nd rfl (Or.inl rfl))) (fun _ _ _ _ _ => pts_nil) (fun _ _ _ _ _ => (pe_cmpR op_ge (pv 4) (pe_callB call_len_seq (by rfl) T.b_len PySem.boot_len (pa_cons (pe_fld (pv 0) rfl) pa_nil)) (nomark _)))) pa_nil))) (pss_one (ps_ret (C8.pe_gc (by rfl) T.g_NO_SUCH))) pss_nil)
    (pss_one (ps_ret (C8.pe_gc (by rfl) T.g_NONE_DUE)))))))))
theorem tie_refuse_bound (T : Top K mg) {sp_is_list_within sp_is_rising : Sp} (C_is_list_within : C8.Cal P w K mg base 1 "is_list_within" sp_is_list_within []) (C_is_rising : C8.Cal P w K mg base 1 "is_rising" sp_is_rising []) {cdv : Value} {A : Around} {outer : List Env} {s : Shared} {H : Hp} {E : XK} {f : Addr}
    (hr : Room 1 (A.deeper (envOfC "refuse_bound" (C8.fnScope s_refuse_bound) s.heap.objs.size f cdv))) :
    PSs (cxOf C8.CX0 P w K mg base N_refuse_bound "refuse_bound" (C8.fnScope s_refuse_bound) f cdv A outer s H E).nox (C8.fnBody s_refuse_bound) (t_refuse_bound K mg sp_is_list_within sp_is_rising) :=
  (pss_cons (ps_set (i := 2) sc_refuse_bound.nd rfl (Or.inl rfl) (pe_ix ix_list (pv 1) pe_int (fun _ _ => rfl)))
    (pss_cons (ps_if (PW.pt (pw_or (pt_not (pt_val (C8.pe_c C_is_list_within hr (by decide) (by rfl) (pa_cons (pv 2) (pa_cons (C8.pe_gc (by rfl) T.g_MOST_KINDS) (pa_cons pe_int (pa_cons (C8.pe_gc (by rfl) T.g_LAST_KIND) pa_nil))))))) (pw_or1 (pt_not (pt_val (C8.pe_c C_is_rising hr (by decide) (by rfl) (pa_cons (pv 2) pa_nil))))))) (pss_one (ps_ret (C8.pe_gc (by rfl) T.g_NOT_AS_TOLD))) pss_nil)
    (pss_cons (ps_if (pt_cmpR op_isN (pv 0) pe_non (nomark _)) (pss_one (ps_ret (C8.pe_gc (by rfl) T.g_NO_HOUSE))) pss_nil)
    (pss_cons (ps_if (pt_val (pe_callB (cr_any rfl) (by rfl) T.b_any PyProof.Rows.boot_any (pa_cons (pe_lc (own := [("kind", 3)]) (g := (gName 3)) (tt := tYes) rfl sc_refuse_bound.nd (pi_list (pv 2)) (blkOk_by (N := N_refuse_bound) (sc := C8.fnScope s_refuse_bound) (by decide +kernel)) (fun _ _ _ _ _ => (pg_name (i := 3) sc_refuse_bound.nd rfl (Or.inl rfl))) (fun _ _ _ _ _ => pts_nil) (fun _ _ _ _ _ => (pe_cmpR op_ge (pv 3) (pe_callB call_len_seq (by rfl) T.b_len PySem.boot_len (pa_cons (pe_fld (pv 0) rfl) pa_nil)) (nomark _)))) pa_nil))) (pss_one (ps_ret (C8.pe_gc (by rfl) T.g_NO_SUCH))) pss_nil)
    (pss_one (ps_ret (C8.pe_gc (by rfl) T.g_NONE_DUE)))))))
theorem tie_refuse_deed_number (T : Top K mg) {sp_is_deed_number : Sp} (C_is_deed_number : C8.Cal P w K mg base 1 "is_deed_number" sp_is_deed_number []) {cdv : Value} {A : Around} {outer : List Env} {s : Shared} {H : Hp} {E : XK} {f : Addr}
    (hr : Room 1 (A.deeper (envOfC "refuse_deed_number" (C8.fnScope s_refuse_deed_number) s.heap.objs.size f cdv))) :
    PSs (cxOf C8.CX0 P w K mg base N_refuse_deed_number "refuse_deed_number" (C8.fnScope s_refuse_deed_number) f cdv A outer s H E).nox (C8.fnBody s_refuse_deed_number) (t_refuse_deed_number K mg sp_is_deed_number) :=
  (pss_cons (ps_set (i := 2) sc_refuse_deed_number.nd rfl (Or.inl rfl) (pe_ix ix_list (pv 1) pe_int (fun _ _ => rfl)))
    (pss_cons (ps_if (pt_not (pt_val (C8.pe_c C_is_deed_number hr (by decide) (by rfl) (pa_cons (pv 2) pa_nil)))) (pss_one (ps_ret (C8.pe_gc (by rfl) T.g_NOT_AS_TOLD))) pss_nil)
    (pss_cons (ps_if (pt_cmpR op_isN (pv 0) pe_non (nomark _)) (pss_one (ps_ret (C8.pe_gc (by rfl) T.g_NO_HOUSE))) pss_nil)
    (pss_cons (ps_if (pt_cmpR op_ge (pv 2) (pe_callB call_len_seq (by rfl) T.b_len PySem.boot_len (pa_cons (pe_fld (pv 0) rfl) pa_nil)) (nomark _)) (pss_one (ps_ret (C8.pe_gc (by rfl) T.g_NO_SUCH))) pss_nil)
    (pss_one (ps_ret (C8.pe_gc (by rfl) T.g_NONE_DUE)))))))
theorem tie_refusal_of (T : Top K mg) {dyn_refuse : Addr → Sp → Prop} (D_refuse : ∀ f sp, dyn_refuse f sp → Held P w K mg base 4 f sp) {cdv : Value} {A : Around} {outer : List Env} {s : Shared} {H : Hp} {E : XK} {f : Addr}
    (hr : Room 4 (A.deeper (envOfC "refusal_of" (C8.fnScope s_refusal_of) s.heap.objs.size f cdv))) :
    PSs (cxOf C8.CX0 P w K mg base N_refusal_of "refusal_of" (C8.fnScope s_refusal_of) f cdv A outer s H E).nox (C8.fnBody s_refusal_of) (t_refusal_of K mg dyn_refuse) :=
  (pss_cons (ps_set (i := 3) sc_refusal_of.nd rfl (Or.inl rfl) (pe_ix ix_kint (C8.pe_gc (by rfl) T.g_REFUSALS) (pv 1) (fun _ _ => rfl)))
    (pss_one (ps_ret (pe_callS D_refuse (hr.mono (by decide : 4 ≤ 4)) (by rfl) (Or.inl rfl) (pa_cons (pv 0) (pa_cons (pv 2) pa_nil))))))
theorem tie_count_all (T : Top K mg) {sp_count_things : Sp} (C_count_things : C8.Cal P w K mg base 1 "count_things" sp_count_things []) {cdv : Value} {A : Around} {outer : List Env} {s : Shared} {H : Hp} {E : XK} {f : Addr}
    (hr : Room 1 (A.deeper (envOfC "count_all" (C8.fnScope s_count_all) s.heap.objs.size f cdv))) :
    PSs (cxOf C8.CX0 P w K mg base N_count_all "count_all" (C8.fnScope s_count_all) f cdv A outer s H E).nox (C8.fnBody s_count_all) (t_count_all K mg sp_count_things) :=
  (pss_one (ps_ret (C8.pe_c C_count_things hr (by decide) (by rfl) (pa_cons (pv 0) (pa_cons (pv 1) (pa_cons (pe_listRg rfl (by rfl) T.b_list (prg_1 (by rfl) T.b_range (pe_callB call_len_seq (by rfl) T.b_len PySem.boot_len (pa_cons (pe_fld (pv 0) rfl) pa_nil)))) pa_nil))))))
theorem tie_put_in (T : Top K mg) {cdv : Value} {A : Around} {outer : List Env} {s : Shared} {H : Hp} {E : XK} {f : Addr}
    (hr : Room 0 (A.deeper (envOfC "put_in" (C8.fnScope s_put_in) s.heap.objs.size f cdv))) :
    PSs (cxOf C8.CX0 P w K mg base N_put_in "put_in" (C8.fnScope s_put_in) f cdv A outer s H E).nox (C8.fnBody s_put_in) (t_put_in K mg) := have hu := hu_of hr;
  (pss_one (ps_for PassesOwn.never rfl (pi_list (pe_fld (pe_ix ix_list (pv 1) (pv 2) (fun _ _ => rfl)) rfl)) (pg_name (i := 3) sc_put_in.nd rfl (Or.inl rfl)) (pss_one (ps_if (pt_cmp (pc_dnotin hu (pv 3) (pv 0))) (pss_one (ps_dput hu (pv 0) (pv 3) (pv 2) rfl)) pss_nil))))
theorem tie_row_of_kinds (T : Top K mg) {sp_put_in : Sp} (C_put_in : C8.Cal P w K mg base 1 "put_in" sp_put_in []) {cdv : Value} {A : Around} {outer : List Env} {s : Shared} {H : Hp} {E : XK} {f : Addr}
    (hr : Room 1 (A.deeper (envOfC "row_of_kinds" (C8.fnScope s_row_of_kinds) s.heap.objs.size f cdv))) :
    PSs (cxOf C8.CX0 P w K mg base N_row_of_kinds "row_of_kinds" (C8.fnScope s_row_of_kinds) f cdv A outer s H E).nox (C8.fnBody s_row_of_kinds) (t_row_of_kinds K mg sp_put_in) :=
  (pss_cons (ps_set (i := 3) sc_row_of_kinds.nd rfl (Or.inl rfl) pe_dnewK)
    (pss_cons (ps_expr (C8.pe_c C_put_in hr (by decide) (by rfl) (pa_cons (pv 3) (pa_cons (pv 0) (pa_cons (pv 2) pa_nil)))))
    (pss_cons (ps_set (i := 4) sc_row_of_kinds.nd rfl (Or.inl rfl) pe_int)
    (pss_cons (ps_while PassesOwn.never (pt_cmpR op_lt (pv 4) (pe_callB call_lenD (by rfl) T.b_len PySem.boot_len (pa_cons (pv 3) pa_nil)) (nomark _)) (pss_cons (ps_set (i := 5) sc_row_of_kinds.nd rfl (Or.inl rfl) (pe_ix ix_list (pe_callTy (call_listD rfl) (by rfl) T.b_list PyProof.Rows.boot_list (pa_cons (pv 3) pa_nil)) (pv 4) (fun _ _ => rfl)))
    (pss_cons (ps_for PassesOwn.never rfl (pi_range1 (by rfl) T.b_range (pa_cons (pe_callB call_len_seq (by rfl) T.b_len PySem.boot_len (pa_cons (pv 0) pa_nil)) pa_nil)) (pg_name (i := 6) sc_row_of_kinds.nd rfl (Or.inl rfl)) (pss_one (ps_if (pt_cmpR op_eq (pe_ix ix_list (pv 1) (pv 6) (fun _ _ => rfl)) (pv 5) (nomark _)) (pss_one (ps_expr (C8.pe_c C_put_in hr (by decide) (by rfl) (pa_cons (pv 3) (pa_cons (pv 0) (pa_cons (pv 6) pa_nil)))))) pss_nil)))
    (pss_one (ps_set (i := 4) sc_row_of_kinds.nd rfl (Or.inl rfl) (pe_op op_add (pv 4) pe_int))))))
    (pss_one (ps_ret (pv 3)))))))
theorem tie_first_free (T : Top K mg) {cdv : Value} {A : Around} {outer : List Env} {s : Shared} {H : Hp} {E : XK} {f : Addr}
    (hr : Room 0 (A.deeper (envOfC "first_free" (C8.fnScope s_first_free) s.heap.objs.size f cdv))) :
    PSs (cxOf C8.CX0 P w K mg base N_first_free "first_free" (C8.fnScope s_first_free) f cdv A outer s H E).nox (C8.fnBody s_first_free) (t_first_free K mg) :=
  (pss_cons (ps_lock (ps_for PassesOwn.never rfl (pi_keys (pv 0)) (pg_name (i := 3) sc_first_free.nd rfl (Or.inl rfl)) (pss_one (ps_if (pt_cmpR op_gt (pe_ix ix_list (pv 2) (pv 3) (fun _ _ => rfl)) (pe_bm PySem.F.plainAttrs_list PySem.F.slot_list_count PySem.F.type_list_count mt_lcount (pv 1) (pa_cons (pv 3) pa_nil)) (nomark _)) (pss_one (ps_ret (pv 3))) pss_nil))))
    (pss_one (ps_ret (C8.pe_gc (by rfl) T.g_NO_KIND))))
theorem tie_hand_on (T : Top K mg) {cdv : Value} {A : Around} {outer : List Env} {s : Shared} {H : Hp} {E : XK} {f : Addr}
    (hr : Room 0 (A.deeper (envOfC "hand_on" (C8.fnScope s_hand_on) s.heap.objs.size f cdv))) :
    PSs (cxOf C8.CX0 P w K mg base N_hand_on "hand_on" (C8.fnScope s_hand_on) f cdv A outer s H E).nox (C8.fnBody s_hand_on) (t_hand_on K mg) := have hu := hu_of hr;
  (pss_one (ps_while PassesOwn.never (pt_cmpR op_ne (pv 2) (C8.pe_gc (by rfl) T.g_NO_KIND) (nomark _)) (pss_cons (ps_set (i := 3) sc_hand_on.nd rfl (Or.inl rfl) (pe_dget hu (pv 0) (pv 2) (fun _ _ => rfl)))
    (pss_cons (ps_set (i := 4) sc_hand_on.nd rfl (Or.inl rfl) (pe_ix ix_list (pv 1) (pv 3) (fun _ _ => rfl)))
    (pss_cons (ps_asg (pv 2) (pg_sub (pv 1) (pv 3) set_list))
    (pss_one (ps_set (i := 2) sc_hand_on.nd rfl (Or.inl rfl) (pv 4))))))))
theorem tie_told_giving_out (T : Top K mg) {sp_count_all sp_first_free sp_hand_on sp_row_of_kinds : Sp} (C_count_all : C8.Cal P w K mg base 2 "count_all" sp_count_all []) (C_first_free : C8.Cal P w K mg base 1 "first_free" sp_first_free []) (C_hand_on : C8.Cal P w K mg base 1 "hand_on" sp_hand_on []) (C_row_of_kinds : C8.Cal P w K mg base 2 "row_of_kinds" sp_row_of_kinds []) {cdv : Value} {A : Around} {outer : List Env} {s : Shared} {H : Hp} {E : XK} {f : Addr}
    (hr : Room 2 (A.deeper (envOfC "told_giving_out" (C8.fnScope s_told_giving_out) s.heap.objs.size f cdv))) :
    PSs (cxOf C8.CX0 P w K mg base N_told_giving_out "told_giving_out" (C8.fnScope s_told_giving_out) f cdv A outer s H E).nox (C8.fnBody s_told_giving_out) (t_told_giving_out K mg sp_count_all sp_first_free sp_hand_on sp_row_of_kinds) :=
  (pss_cons (ps_set (i := 1) sc_told_giving_out.nd rfl (Or.inl rfl) (pe_fld (pv 0) rfl))
    (pss_cons (ps_setLc (i := 2) (own := [("kind", 6)]) (g := (gName 6)) (tt := tYes) rfl sc_told_giving_out.nd rfl rfl (sw_true rfl rfl rfl (by decide +kernel)) (pi_range1 (by rfl) T.b_range (pa_cons (pe_callB call_len_seq (by rfl) T.b_len PySem.boot_len (pa_cons (pe_fld (pv 0) rfl) pa_nil)) pa_nil)) (blkOk_by (N := N_told_giving_out) (sc := C8.fnScope s_told_giving_out) (by decide +kernel)) (fun _ _ _ _ _ => (pg_name (i := 6) sc_told_giving_out.nd rfl (Or.inl rfl))) (fun _ _ _ _ _ => pts_nil) (fun _ _ _ _ _ => (C8.pe_c C_count_all hr (by decide) (by rfl) (pa_cons (pv 0) (pa_cons (pe_lst (pa_cons (pv 6) pa_nil)) pa_nil)))))
    (pss_cons (ps_set (i := 3) sc_told_giving_out.nd rfl (Or.inl rfl) (pe_op op_rep (pe_lst (pa_cons (C8.pe_gc (by rfl) T.g_NO_KIND) pa_nil)) (pe_callB call_len_seq (by rfl) T.b_len PySem.boot_len (pa_cons (pv 1) pa_nil))))
    (pss_cons (ps_for PassesOwn.never rfl (pi_range1 (by rfl) T.b_range (pa_cons (pe_callB call_len_seq (by rfl) T.b_len PySem.boot_len (pa_cons (pv 1) pa_nil)) pa_nil)) (pg_name (i := 4) sc_told_giving_out.nd rfl (Or.inl rfl)) (pss_cons (ps_set (i := 5) sc_told_giving_out.nd rfl (Or.inl rfl) (C8.pe_c C_row_of_kinds hr (by decide) (by rfl) (pa_cons (pv 1) (pa_cons (pv 3) (pa_cons (pv 4) pa_nil)))))
    (pss_one (ps_expr (C8.pe_c C_hand_on hr (by decide) (by rfl) (pa_cons (pv 5) (pa_cons (pv 3) (pa_cons (C8.pe_c C_first_free hr (by decide) (by rfl) (pa_cons (pv 5) (pa_cons (pv 3) (pa_cons (pv 2) pa_nil)))) pa_nil))))))))
    (pss_one (ps_ret (pv 3)))))))
theorem tie_told_set (T : Top K mg) {sp_row_of_kinds : Sp} (C_row_of_kinds : C8.Cal P w K mg base 2 "row_of_kinds" sp_row_of_kinds []) {cdv : Value} {A : Around} {outer : List Env} {s : Shared} {H : Hp} {E : XK} {f : Addr}
    (hr : Room 2 (A.deeper (envOfC "told_set" (C8.fnScope s_told_set) s.heap.objs.size f cdv))) :
    PSs (cxOf C8.CX0 P w K mg base N_told_set "told_set" (C8.fnScope s_told_set) f cdv A outer s H E).nox (C8.fnBody s_told_set) (t_told_set K mg sp_row_of_kinds) := have hu := hu_of hr;
  (pss_cons (ps_set (i := 2) sc_told_set.nd rfl (Or.inl rfl) pe_dnewK)
    (pss_cons (ps_for PassesOwn.never rfl (pi_range1 (by rfl) T.b_range (pa_cons (pe_callB call_len_seq (by rfl) T.b_len PySem.boot_len (pa_cons (pe_fld (pv 0) rfl) pa_nil)) pa_nil)) (pg_name (i := 3) sc_told_set.nd rfl (Or.inl rfl)) (pss_one (ps_if (pt_cmpR op_eq (pe_ix ix_list (pv 1) (pv 3) (fun _ _ => rfl)) (C8.pe_gc (by rfl) T.g_NO_KIND) (nomark _)) (pss_one (ps_for PassesOwn.never rfl (pi_keysN (C8.pe_c C_row_of_kinds hr (by decide) (by rfl) (pa_cons (pe_fld (pv 0) rfl) (pa_cons (pv 1) (pa_cons (pv 3) pa_nil))))) (pg_name (i := 4) sc_told_set.nd rfl (Or.inl rfl)) (pss_one (ps_dput hu (pv 2) (pv 4) pe_bl rfl)))) pss_nil)))
    (pss_one (ps_ret (pe_callB (call_sortedDI rfl) (by rfl) T.b_sorted PyProof.Rows.boot_sorted (pa_cons (pv 2) pa_nil))))))
theorem tie_uses_another (T : Top K mg) {cdv : Value} {A : Around} {outer : List Env} {s : Shared} {H : Hp} {E : XK} {f : Addr}
    (hr : Room 0 (A.deeper (envOfC "uses_another" (C8.fnScope s_uses_another) s.heap.objs.size f cdv))) :
    PSs (cxOf C8.CX0 P w K mg base N_uses_another "uses_another" (C8.fnScope s_uses_another) f cdv A outer s H E).nox (C8.fnBody s_uses_another) (t_uses_another K mg) :=
  (pss_one (ps_ret (pe_callB (cr_any rfl) (by rfl) T.b_any PyProof.Rows.boot_any (pa_cons (pe_lc (own := [("kind", 2)]) (g := (gName 2)) (tt := tYes) rfl sc_uses_another.nd (pi_list (pe_fld (pv 0) rfl)) (blkOk_by (N := N_uses_another) (sc := C8.fnScope s_uses_another) (by decide +kernel)) (fun _ _ _ _ _ => (pg_name (i := 2) sc_uses_another.nd rfl (Or.inl rfl))) (fun _ _ _ _ _ => pts_nil) (fun _ _ _ _ _ => (pe_cmpR op_notIn_seq (pv 2) (pv 1) (by rfl)))) pa_nil))))
theorem tie_bound_of (T : Top K mg) {sp_count_all sp_uses_another : Sp} (C_count_all : C8.Cal P w K mg base 2 "count_all" sp_count_all []) (C_uses_another : C8.Cal P w K mg base 1 "uses_another" sp_uses_another []) {cdv : Value} {A : Around} {outer : List Env} {s : Shared} {H : Hp} {E : XK} {f : Addr}
    (hr : Room 2 (A.deeper (envOfC "bound_of" (C8.fnScope s_bound_of) s.heap.objs.size f cdv))) :
    PSs (cxOf C8.CX0 P w K mg base N_bound_of "bound_of" (C8.fnScope s_bound_of) f cdv A outer s H E).nox (C8.fnBody s_bound_of) (t_bound_of K mg sp_count_all sp_uses_another) :=
  (pss_cons (ps_setLc (i := 2) (own := [("deed", 3)]) (g := (gName 3)) (tt := (tB (tCall sp_uses_another [] C8.E0 (tCons (tVar 3) (tCons (tVar 1) tNil))))) rfl sc_bound_of.nd rfl rfl (sw_true rfl rfl rfl (by decide +kernel)) (pi_list (pe_fld (pv 0) rfl)) (blkOk_by (N := N_bound_of) (sc := C8.fnScope s_bound_of) (by decide +kernel)) (fun _ _ _ _ _ => (pg_name (i := 3) sc_bound_of.nd rfl (Or.inl rfl))) (fun _ _ _ _ _ => (pts_one (pt_val (C8.pe_c C_uses_another hr (by decide) (by rfl) (pa_cons (pv 3) (pa_cons (pv 1) pa_nil)))))) (fun _ _ _ _ _ => (pv 3)))
    (pss_one (ps_ret (pe_op op_add (pe_callB call_len_seq (by rfl) T.b_len PySem.boot_len (pa_cons (pv 2) pa_nil)) (C8.pe_c C_count_all hr (by decide) (by rfl) (pa_cons (pv 0) (pa_cons (pv 1) pa_nil)))))))
theorem tie_Entry_init (T : Top K mg) {cdv : Value} {A : Around} {outer : List Env} {s : Shared} {H : Hp} {E : XK} {f : Addr}
    (hr : Room 0 (A.deeper (envOfC "Entry.__init__" (C8.fnScope s_Entry_init) s.heap.objs.size f cdv))) :
    PSs (cxOf C8.CX0 P w K mg base N_Entry_init "Entry.__init__" (C8.fnScope s_Entry_init) f cdv A outer s H E).nox (C8.fnBody s_Entry_init) (t_Entry_init K mg) :=
  (pss_cons (ps_fld (pv 0) (pv 1) rfl)
    (pss_cons (ps_fld (pv 0) (pv 2) rfl)
    (pss_cons (ps_fld (pv 0) (pv 3) rfl)
    (pss_one (ps_fld (pv 0) (pe_lst pa_nil) rfl)))))
theorem tie_mark_of (T : Top K mg) {cdv : Value} {A : Around} {outer : List Env} {s : Shared} {H : Hp} {E : XK} {f : Addr}
    (hr : Room 0 (A.deeper (envOfC "mark_of" (C8.fnScope s_mark_of) s.heap.objs.size f cdv))) :
    PSs (cxOf C8.CX0 P w K mg base N_mark_of "mark_of" (C8.fnScope s_mark_of) f cdv A outer s H E).nox (C8.fnBody s_mark_of) (t_mark_of K mg) :=
  (pss_one (ps_ret (pe_tup (pa_cons (pe_callTy call_tuple_of (by rfl) T.b_tuple (by decide +kernel) (pa_cons (pe_fld (pv 0) rfl) pa_nil)) (pa_cons (pe_callTy call_tuple_of (by rfl) T.b_tuple (by decide +kernel) (pa_cons (pe_fld (pv 0) rfl) pa_nil)) pa_nil)))))
theorem tie_row_from (T : Top K mg) {sp_all_steps sp_mark_of sp_play_after sp_Entry_init : Sp} (C_all_steps : C8.Cal P w K mg base 4 "all_steps" sp_all_steps []) (C_mark_of : C8.Cal P w K mg base 1 "mark_of" sp_mark_of []) (C_play_after : C8.Cal P w K mg base 3 "play_after" sp_play_after []) (M_Entry : C8.Mak P w K mg base 1 "Entry" (adr mg "Entry") sp_Entry_init []) {cdv : Value} {A : Around} {outer : List Env} {s : Shared} {H : Hp} {E : XK} {f : Addr}
    (hr : Room 4 (A.deeper (envOfC "row_from" (C8.fnScope s_row_from) s.heap.objs.size f cdv))) :
    PSs (cxOf (L2.CX P w) P w K mg base N_row_from "row_from" (C8.fnScope s_row_from) f cdv A outer s H E) (C8.fnBody s_row_from) (t_row_from K mg E sp_all_steps sp_mark_of sp_play_after sp_Entry_init) := have hu2 := hu2_of hr;
  (pss_cons (ps_set (i := 2) sc_row_from.nd rfl (Or.inl rfl) (pe_fld (pv 0) rfl))
    (pss_cons (ps_set (i := 3) sc_row_from.nd rfl (Or.inl rfl) (pe_lst (pa_cons (C8.pe_mk M_Entry hr (by decide) (by rfl) (pa_cons (pe_fld (pv 0) rfl) (pa_cons pe_int (pa_cons pe_non pa_nil)))) pa_nil)))
    (pss_cons (ps_set (i := 4) sc_row_from.nd rfl (Or.inl rfl) (pe_nd1 hu2 (C8.pe_c C_mark_of hr (by decide) (by rfl) (pa_cons (pe_fld (pv 0) rfl) pa_nil)) pe_int))
    (pss_cons (ps_set (i := 5) sc_row_from.nd rfl (Or.inl rfl) pe_int)
    (pss_cons (ps_while (passes_of rfl) (pt_cmpR op_lt (pv 5) (pe_callB call_len_seq (by rfl) T.b_len PySem.boot_len (pa_cons (pv 3) pa_nil)) (nomark _)) (pss_cons (ps_set (i := 6) sc_row_from.nd rfl (Or.inl rfl) (pe_ix ix_list (pv 3) (pv 5) (fun _ _ => rfl)))
    (pss_cons (ps_for (passes_of rfl) rfl (pi_list (C8.pe_c C_all_steps hr (by decide) (by rfl) (pa_cons (pv 2) (pa_cons (pe_fld (pv 6) rfl) pa_nil)))) (pg_tup rfl (pgs_cons (pg_name (i := 7) sc_row_from.nd rfl (Or.inl rfl)) (pgs_cons (pg_name (i := 8) sc_row_from.nd rfl (Or.inl rfl)) pgs_nil))) (pss_one (ps_if (pt_cmpR op_ne (pv 7) (pv 1) (nomark _)) (pss_cons (ps_set (i := 9) sc_row_from.nd rfl (Or.inl rfl) (C8.pe_c C_play_after hr (by decide) (by rfl) (pa_cons (pv 2) (pa_cons (pe_fld (pv 6) rfl) (pa_cons (pv 7) (pa_cons (pv 8) pa_nil))))))
    (pss_cons (ps_set (i := 10) sc_row_from.nd rfl (Or.inl rfl) (C8.pe_c C_mark_of hr (by decide) (by rfl) (pa_cons (pv 9) pa_nil)))
    (pss_cons (ps_if (pt_cmp (pc_ndnotin hu2 (pv 10) (pv 4))) (pss_cons (ps_ndput hu2 (pv 4) (pv 10) (pe_callB call_len_seq (by rfl) T.b_len PySem.boot_len (pa_cons (pv 3) pa_nil)) rfl)
    (pss_one (ps_expr (pe_bm PySem.F.plainAttrs_list PySem.F.slot_list_append PySem.F.type_list_append mt_append (pv 3) (pa_cons (C8.pe_mk M_Entry hr (by decide) (by rfl) (pa_cons (pv 9) (pa_cons (pv 5) (pa_cons (pe_tup (pa_cons (pv 7) (pa_cons (pv 8) pa_nil))) pa_nil)))) pa_nil))))) pss_nil)
    (pss_one (ps_expr (pe_bm PySem.F.plainAttrs_list PySem.F.slot_list_append PySem.F.type_list_append mt_append (pe_fld (pv 6) rfl) (pa_cons (pe_ndget hu2 (pv 4) (pv 10) (fun _ _ => rfl)) pa_nil))))))) pss_nil)))
    (pss_cons (ps_if (pt_cmpR op_gt (pe_callB call_len_seq (by rfl) T.b_len PySem.boot_len (pa_cons (pv 3) pa_nil)) (C8.pe_gc (by rfl) T.g_MOST_PLAYS) (nomark _)) (pss_one (ps_raise rfl (takes_of rfl rfl rfl rfl) (pmk_own0 PySem.F.excBase_Exception T.x_NoRow.xi T.x_NoRow.g T.x_NoRow.k (raises_own T.x_NoRow.b T.x_NoRow.t) (by exact rfl)))) pss_nil)
    (pss_one (ps_set (i := 5) sc_row_from.nd rfl (Or.inl rfl) (pe_op op_add (pv 5) pe_int)))))))
    (pss_one (ps_ret (pv 3))))))))
theorem tie_places_with_end (T : Top K mg) {sp_is_end_done : Sp} (C_is_end_done : C8.Cal P w K mg base 1 "is_end_done" sp_is_end_done []) {cdv : Value} {A : Around} {outer : List Env} {s : Shared} {H : Hp} {E : XK} {f : Addr}
    (hr : Room 1 (A.deeper (envOfC "places_with_end" (C8.fnScope s_places_with_end) s.heap.objs.size f cdv))) :
    PSs (cxOf C8.CX0 P w K mg base N_places_with_end "places_with_end" (C8.fnScope s_places_with_end) f cdv A outer s H E).nox (C8.fnBody s_places_with_end) (t_places_with_end K mg sp_is_end_done) :=
  (pss_one (ps_ret (pe_lc (own := [("at", 1), ("entry", 2)]) (g := (gTup K 2 (gCons (gName 1) (gCons (gName 2) gNil)))) (tt := (tB (tCall sp_is_end_done [] C8.E0 (tCons (tFld K (tVar 2) "play") tNil)))) rfl sc_places_with_end.nd (pi_enum (by rfl) T.b_enumerate (pa_cons (pv 0) pa_nil)) (blkOk_by (N := N_places_with_end) (sc := C8.fnScope s_places_with_end) (by decide +kernel)) (fun _ _ _ _ _ => (pg_tup rfl (pgs_cons (pg_name (i := 1) sc_places_with_end.nd rfl (Or.inl rfl)) (pgs_cons (pg_name (i := 2) sc_places_with_end.nd rfl (Or.inl rfl)) pgs_nil)))) (fun _ _ _ _ _ => (pts_one (pt_val (C8.pe_c C_is_end_done hr (by decide) (by rfl) (pa_cons (pe_fld (pv 2) rfl) pa_nil))))) (fun _ _ _ _ _ => (pv 1)))))
theorem tie_places_of_dead (T : Top K mg) {sp_is_end_done : Sp} (C_is_end_done : C8.Cal P w K mg base 1 "is_end_done" sp_is_end_done []) {cdv : Value} {A : Around} {outer : List Env} {s : Shared} {H : Hp} {E : XK} {f : Addr}
    (hr : Room 1 (A.deeper (envOfC "places_of_dead" (C8.fnScope s_places_of_dead) s.heap.objs.size f cdv))) :
    PSs (cxOf C8.CX0 P w K mg base N_places_of_dead "places_of_dead" (C8.fnScope s_places_of_dead) f cdv A outer s H E).nox (C8.fnBody s_places_of_dead) (t_places_of_dead K mg sp_is_end_done) :=
  (pss_cons (ps_set (i := 1) sc_places_of_dead.nd rfl (Or.inr rfl) (pe_lc (own := [("entry", 3)]) (g := (gName 3)) (tt := tYes) rfl sc_places_of_dead.nd (pi_list (pv 0)) (blkOk_by (N := N_places_of_dead) (sc := C8.fnScope s_places_of_dead) (by decide +kernel)) (fun _ _ _ _ _ => (pg_name (i := 3) sc_places_of_dead.nd rfl (Or.inl rfl))) (fun _ _ _ _ _ => pts_nil) (fun _ _ _ _ _ => (C8.pe_c C_is_end_done hr (by decide) (by rfl) (pa_cons (pe_fld (pv 3) rfl) pa_nil)))))
    (pss_cons (ps_for PassesOwn.never rfl (pi_range3 (by rfl) T.b_range (pa_cons (pe_op op_sub (pe_callB call_len_seq (by rfl) T.b_len PySem.boot_len (pa_cons (pv 0) pa_nil)) pe_int) (pa_cons (pe_un un_neg pe_int) (pa_cons (pe_un un_neg pe_int) pa_nil)))) (pg_name (i := 2) sc_places_of_dead.nd rfl (Or.inl rfl)) (pss_one (ps_if (pt_val (pe_callB (cr_any rfl) (by rfl) T.b_any PyProof.Rows.boot_any (pa_cons (pe_lc (own := [("place", 4)]) (g := (gName 4)) (tt := tYes) rfl sc_places_of_dead.nd (pi_list (pe_fld (pe_ix ix_list (pv 0) (pv 2) (fun _ _ => rfl)) rfl)) (blkOk_by (N := N_places_of_dead) (sc := C8.fnScope s_places_of_dead) (by decide +kernel)) (fun _ _ _ _ _ => (pg_name (i := 4) sc_places_of_dead.nd rfl (Or.inl rfl))) (fun _ _ _ _ _ => pts_nil) (fun _ _ _ _ _ => (pe_ix ix_list (pv 1) (pv 4) (fun _ _ => rfl)))) pa_nil))) (pss_one (ps_asg pe_bl (pg_sub (pv 1) (pv 2) set_list))) pss_nil)))
    (pss_one (ps_ret (pe_lc (own := [("at", 2)]) (g := (gName 2)) (tt := (tNot (tB (tOp (rIxL K) (tVar 1) (tVar 2))))) rfl sc_places_of_dead.nd (pi_range1 (by rfl) T.b_range (pa_cons (pe_callB call_len_seq (by rfl) T.b_len PySem.boot_len (pa_cons (pv 0) pa_nil)) pa_nil)) (blkOk_by (N := N_places_of_dead) (sc := C8.fnScope s_places_of_dead) (by decide +kernel)) (fun _ _ _ _ _ => (pg_name (i := 2) sc_places_of_dead.nd rfl (Or.inl rfl))) (fun _ _ _ _ _ => (pts_one (pt_not (pt_val (pe_ix ix_list (pv 1) (pv 2) (fun _ _ => rfl)))))) (fun _ _ _ _ _ => (pv 2)))))))
theorem tie_steps_to (T : Top K mg) {cdv : Value} {A : Around} {outer : List Env} {s : Shared} {H : Hp} {E : XK} {f : Addr}
    (hr : Room 0 (A.deeper (envOfC "steps_to" (C8.fnScope s_steps_to) s.heap.objs.size f cdv))) :
    PSs (cxOf C8.CX0 P w K mg base N_steps_to "steps_to" (C8.fnScope s_steps_to) f cdv A outer s H E).nox (C8.fnBody s_steps_to) (t_steps_to K mg) :=
  (pss_cons (ps_set (i := 2) sc_steps_to.nd rfl (Or.inl rfl) (pe_lst pa_nil))
    (pss_cons (ps_while PassesOwn.never (pt_cmpR op_gt (pv 1) pe_int (nomark _)) (pss_cons (ps_expr (pe_bm PySem.F.plainAttrs_list PySem.F.slot_list_append PySem.F.type_list_append mt_append (pv 2) (pa_cons (pe_fld (pe_ix ix_list (pv 0) (pv 1) (fun _ _ => rfl)) rfl) pa_nil)))
    (pss_one (ps_set (i := 1) sc_steps_to.nd rfl (Or.inl rfl) (pe_fld (pe_ix ix_list (pv 0) (pv 1) (fun _ _ => rfl)) rfl)))))
    (pss_cons (ps_expr (pe_bm0 PySem.F.plainAttrs_list PySem.F.slot_list_reverse PySem.F.type_list_reverse mt_reverse (pv 2)))
    (pss_one (ps_ret (pv 2))))))
theorem tie_as_number (T : Top K mg) {cdv : Value} {A : Around} {outer : List Env} {s : Shared} {H : Hp} {E : XK} {f : Addr}
    (hr : Room 0 (A.deeper (envOfC "as_number" (C8.fnScope s_as_number) s.heap.objs.size f cdv))) :
    PSs (cxOf C8.CX0 P w K mg base N_as_number "as_number" (C8.fnScope s_as_number) f cdv A outer s H E).nox (C8.fnBody s_as_number) (t_as_number K mg) :=
  (pss_cons (ps_if (pt_val (pv 0)) (pss_one (ps_ret pe_int)) pss_nil)
    (pss_one (ps_ret pe_int)))
theorem tie_flat (T : Top K mg) {cdv : Value} {A : Around} {outer : List Env} {s : Shared} {H : Hp} {E : XK} {f : Addr}
    (hr : Room 0 (A.deeper (envOfC "flat" (C8.fnScope s_flat) s.heap.objs.size f cdv))) :
    PSs (cxOf C8.CX0 P w K mg base N_flat "flat" (C8.fnScope s_flat) f cdv A outer s H E).nox (C8.fnBody s_flat) (t_flat K mg) :=
  (pss_cons (ps_set (i := 1) sc_flat.nd rfl (Or.inl rfl) (pe_lst pa_nil))
    (pss_cons (ps_for PassesOwn.never rfl (pi_list (pv 0)) (pg_name (i := 2) sc_flat.nd rfl (Or.inl rfl)) (pss_one (ps_expr (pe_bm PySem.F.plainAttrs_list PySem.F.slot_list_extend PySem.F.type_list_extend mt_extT (pv 1) (pa_cons (pv 2) pa_nil)))))
    (pss_one (ps_ret (pv 1)))))
theorem tie_do_house (T : Top K mg) {sp_House_init : Sp} (M_House : C8.Mak P w K mg base 3 "House" (adr mg "House") sp_House_init []) {cdv : Value} {A : Around} {outer : List Env} {s : Shared} {H : Hp} {E : XK} {f : Addr}
    (hr : Room 4 (A.deeper (envOfC "do_house" (C8.fnScope s_do_house) s.heap.objs.size f cdv))) :
    PSs (cxOf C8.CX0 P w K mg base N_do_house "do_house" (C8.fnScope s_do_house) f cdv A outer s H E).nox (C8.fnBody s_do_house) (t_do_house K mg sp_House_init) :=
  (pss_cons (ps_fld (pv 0) (C8.pe_mk M_House hr (by decide) (by rfl) (pa_cons (pe_ix ix_list (pv 1) pe_int (fun _ _ => rfl)) pa_nil)) rfl)
    (pss_one (ps_ret (pe_lst pa_nil))))
theorem tie_do_deed (T : Top K mg) {sp_cut_needs sp_Deed_init : Sp} (C_cut_needs : C8.Cal P w K mg base 1 "cut_needs" sp_cut_needs []) (M_Deed : C8.Mak P w K mg base 1 "Deed" (adr mg "Deed") sp_Deed_init []) {cdv : Value} {A : Around} {outer : List Env} {s : Shared} {H : Hp} {E : XK} {f : Addr}
    (hr : Room 2 (A.deeper (envOfC "do_deed" (C8.fnScope s_do_deed) s.heap.objs.size f cdv))) :
    PSs (cxOf C8.CX0 P w K mg base N_do_deed "do_deed" (C8.fnScope s_do_deed) f cdv A outer s H E).nox (C8.fnBody s_do_deed) (t_do_deed K mg sp_cut_needs sp_Deed_init) :=
  (pss_cons (ps_set (i := 2) sc_do_deed.nd rfl (Or.inl rfl) (pe_fld (pe_fld (pv 0) rfl) rfl))
    (pss_cons (ps_expr (pe_bm PySem.F.plainAttrs_list PySem.F.slot_list_append PySem.F.type_list_append mt_append (pv 2) (pa_cons (C8.pe_mk M_Deed hr (by decide) (by rfl) (pa_cons (C8.pe_c C_cut_needs hr (by decide) (by rfl) (pa_cons (pe_ix ix_list (pv 1) pe_int (fun _ _ => rfl)) pa_nil)) (pa_cons (pe_ix ix_list (pv 1) pe_int (fun _ _ => rfl)) (pa_cons (pe_ix ix_list (pv 1) pe_int (fun _ _ => rfl)) pa_nil)))) pa_nil)))
    (pss_one (ps_ret (pe_lst (pa_cons (pe_op op_sub (pe_callB call_len_seq (by rfl) T.b_len PySem.boot_len (pa_cons (pv 2) pa_nil)) pe_int) pa_nil))))))
theorem tie_do_act (T : Top K mg) {sp_as_number sp_is_end_done sp_play_after : Sp} (C_as_number : C8.Cal P w K mg base 1 "as_number" sp_as_number []) (C_is_end_done : C8.Cal P w K mg base 1 "is_end_done" sp_is_end_done []) (C_play_after : C8.Cal P w K mg base 3 "play_after" sp_play_after []) {cdv : Value} {A : Around} {outer : List Env} {s : Shared} {H : Hp} {E : XK} {f : Addr}
    (hr : Room 3 (A.deeper (envOfC "do_act" (C8.fnScope s_do_act) s.heap.objs.size f cdv))) :
    PSs (cxOf C8.CX0 P w K mg base N_do_act "do_act" (C8.fnScope s_do_act) f cdv A outer s H E).nox (C8.fnBody s_do_act) (t_do_act K mg sp_as_number sp_is_end_done sp_play_after) :=
  (pss_cons (ps_set (i := 2) sc_do_act.nd rfl (Or.inl rfl) (pe_fld (pv 0) rfl))
    (pss_cons (ps_fld (pv 2) (C8.pe_c C_play_after hr (by decide) (by rfl) (pa_cons (pe_fld (pv 2) rfl) (pa_cons (pe_fld (pv 2) rfl) (pa_cons (pe_ix ix_list (pv 1) pe_int (fun _ _ => rfl)) (pa_cons (pe_ix ix_list (pv 1) pe_int (fun _ _ => rfl)) pa_nil))))) rfl)
    (pss_one (ps_ret (pe_lst (pa_cons (C8.pe_c C_as_number hr (by decide) (by rfl) (pa_cons (C8.pe_c C_is_end_done hr (by decide) (by rfl) (pa_cons (pe_fld (pv 2) rfl) pa_nil)) pa_nil)) pa_nil))))))
theorem tie_do_again (T : Top K mg) {sp_Play_init : Sp} (M_Play : C8.Mak P w K mg base 1 "Play" (adr mg "Play") sp_Play_init []) {cdv : Value} {A : Around} {outer : List Env} {s : Shared} {H : Hp} {E : XK} {f : Addr}
    (hr : Room 2 (A.deeper (envOfC "do_again" (C8.fnScope s_do_again) s.heap.objs.size f cdv))) :
    PSs (cxOf C8.CX0 P w K mg base N_do_again "do_again" (C8.fnScope s_do_again) f cdv A outer s H E).nox (C8.fnBody s_do_again) (t_do_again K mg sp_Play_init) :=
  (pss_cons (ps_set (i := 2) sc_do_again.nd rfl (Or.inl rfl) (pe_fld (pv 0) rfl))
    (pss_cons (ps_fld (pv 2) (C8.pe_mk M_Play hr (by decide) (by rfl) (pa_cons (pe_lst pa_nil) (pa_cons (pe_fld (pv 2) rfl) pa_nil))) rfl)
    (pss_one (ps_ret (pe_lst pa_nil)))))
theorem tie_tell_now (T : Top K mg) {cdv : Value} {A : Around} {outer : List Env} {s : Shared} {H : Hp} {E : XK} {f : Addr}
    (hr : Room 0 (A.deeper (envOfC "tell_now" (C8.fnScope s_tell_now) s.heap.objs.size f cdv))) :
    PSs (cxOf C8.CX0 P w K mg base N_tell_now "tell_now" (C8.fnScope s_tell_now) f cdv A outer s H E).nox (C8.fnBody s_tell_now) (t_tell_now K mg) :=
  (pss_cons (ps_set (i := 2) sc_tell_now.nd rfl (Or.inl rfl) (pe_fld (pe_fld (pv 0) rfl) rfl))
    (pss_one (ps_ret (pe_op op_cat (pe_op op_cat (pe_lst (pa_cons (pe_callB call_len_seq (by rfl) T.b_len PySem.boot_len (pa_cons (pe_fld (pv 2) rfl) pa_nil)) pa_nil)) (pe_fld (pv 2) rfl)) (pe_fld (pv 2) rfl)))))
theorem tie_tell_can (T : Top K mg) {sp_all_steps sp_flat : Sp} (C_all_steps : C8.Cal P w K mg base 4 "all_steps" sp_all_steps []) (C_flat : C8.Cal P w K mg base 1 "flat" sp_flat []) {cdv : Value} {A : Around} {outer : List Env} {s : Shared} {H : Hp} {E : XK} {f : Addr}
    (hr : Room 4 (A.deeper (envOfC "tell_can" (C8.fnScope s_tell_can) s.heap.objs.size f cdv))) :
    PSs (cxOf C8.CX0 P w K mg base N_tell_can "tell_can" (C8.fnScope s_tell_can) f cdv A outer s H E).nox (C8.fnBody s_tell_can) (t_tell_can K mg sp_all_steps sp_flat) :=
  (pss_cons (ps_set (i := 2) sc_tell_can.nd rfl (Or.inl rfl) (pe_fld (pv 0) rfl))
    (pss_one (ps_ret (C8.pe_c C_flat hr (by decide) (by rfl) (pa_cons (C8.pe_c C_all_steps hr (by decide) (by rfl) (pa_cons (pe_fld (pv 2) rfl) (pa_cons (pe_fld (pv 2) rfl) pa_nil))) pa_nil)))))
theorem tie_tell_closure (T : Top K mg) {sp_closure_of : Sp} (C_closure_of : C8.Cal P w K mg base 3 "closure_of" sp_closure_of []) {cdv : Value} {A : Around} {outer : List Env} {s : Shared} {H : Hp} {E : XK} {f : Addr}
    (hr : Room 3 (A.deeper (envOfC "tell_closure" (C8.fnScope s_tell_closure) s.heap.objs.size f cdv))) :
    PSs (cxOf C8.CX0 P w K mg base N_tell_closure "tell_closure" (C8.fnScope s_tell_closure) f cdv A outer s H E).nox (C8.fnBody s_tell_closure) (t_tell_closure K mg sp_closure_of) :=
  (pss_cons (ps_set (i := 2) sc_tell_closure.nd rfl (Or.inl rfl) (pe_fld (pv 0) rfl))
    (pss_one (ps_ret (C8.pe_c C_closure_of hr (by decide) (by rfl) (pa_cons (pe_fld (pv 2) rfl) (pa_cons (pe_fld (pe_fld (pv 2) rfl) rfl) pa_nil))))))
theorem tie_tell_ranks (T : Top K mg) {sp_told_ranks : Sp} (C_told_ranks : C8.Cal P w K mg base 4 "told_ranks" sp_told_ranks []) {cdv : Value} {A : Around} {outer : List Env} {s : Shared} {H : Hp} {E : XK} {f : Addr}
    (hr : Room 4 (A.deeper (envOfC "tell_ranks" (C8.fnScope s_tell_ranks) s.heap.objs.size f cdv))) :
    PSs (cxOf C8.CX0 P w K mg base N_tell_ranks "tell_ranks" (C8.fnScope s_tell_ranks) f cdv A outer s H E).nox (C8.fnBody s_tell_ranks) (t_tell_ranks K mg sp_told_ranks) :=
  (pss_one (ps_ret (C8.pe_c C_told_ranks hr (by decide) (by rfl) (pa_cons (pe_fld (pv 0) rfl) pa_nil))))
theorem tie_tell_accepts (T : Top K mg) {sp_are_accepted sp_as_number : Sp} (C_are_accepted : C8.Cal P w K mg base 4 "are_accepted" sp_are_accepted []) (C_as_number : C8.Cal P w K mg base 1 "as_number" sp_as_number []) {cdv : Value} {A : Around} {outer : List Env} {s : Shared} {H : Hp} {E : XK} {f : Addr}
    (hr : Room 4 (A.deeper (envOfC "tell_accepts" (C8.fnScope s_tell_accepts) s.heap.objs.size f cdv))) :
    PSs (cxOf C8.CX0 P w K mg base N_tell_accepts "tell_accepts" (C8.fnScope s_tell_accepts) f cdv A outer s H E).nox (C8.fnBody s_tell_accepts) (t_tell_accepts K mg sp_are_accepted sp_as_number) :=
  (pss_one (ps_ret (pe_lst (pa_cons (C8.pe_c C_as_number hr (by decide) (by rfl) (pa_cons (C8.pe_c C_are_accepted hr (by decide) (by rfl) (pa_cons (pe_fld (pv 0) rfl) (pa_cons (pe_ix ix_list (pv 1) pe_int (fun _ _ => rfl)) pa_nil))) pa_nil)) pa_nil))))
theorem tie_tell_sure (T : Top K mg) {sp_as_number sp_is_sure : Sp} (C_as_number : C8.Cal P w K mg base 1 "as_number" sp_as_number []) (C_is_sure : C8.Cal P w K mg base 3 "is_sure" sp_is_sure []) {cdv : Value} {A : Around} {outer : List Env} {s : Shared} {H : Hp} {E : XK} {f : Addr}
    (hr : Room 3 (A.deeper (envOfC "tell_sure" (C8.fnScope s_tell_sure) s.heap.objs.size f cdv))) :
    PSs (cxOf C8.CX0 P w K mg base N_tell_sure "tell_sure" (C8.fnScope s_tell_sure) f cdv A outer s H E).nox (C8.fnBody s_tell_sure) (t_tell_sure K mg sp_as_number sp_is_sure) :=
  (pss_one (ps_ret (pe_lst (pa_cons (C8.pe_c C_as_number hr (by decide) (by rfl) (pa_cons (C8.pe_c C_is_sure hr (by decide) (by rfl) (pa_cons (pe_fld (pv 0) rfl) (pa_cons (pe_ix ix_list (pv 1) pe_int (fun _ _ => rfl)) (pa_cons (pe_ix ix_list (pv 1) pe_int (fun _ _ => rfl)) pa_nil)))) pa_nil)) pa_nil))))
theorem tie_tell_served (T : Top K mg) {sp_flat sp_told_giving_out sp_told_set : Sp} (C_flat : C8.Cal P w K mg base 1 "flat" sp_flat []) (C_told_giving_out : C8.Cal P w K mg base 3 "told_giving_out" sp_told_giving_out []) (C_told_set : C8.Cal P w K mg base 3 "told_set" sp_told_set []) {cdv : Value} {A : Around} {outer : List Env} {s : Shared} {H : Hp} {E : XK} {f : Addr}
    (hr : Room 3 (A.deeper (envOfC "tell_served" (C8.fnScope s_tell_served) s.heap.objs.size f cdv))) :
    PSs (cxOf C8.CX0 P w K mg base N_tell_served "tell_served" (C8.fnScope s_tell_served) f cdv A outer s H E).nox (C8.fnBody s_tell_served) (t_tell_served K mg sp_flat sp_told_giving_out sp_told_set) :=
  (pss_cons (ps_set (i := 2) sc_tell_served.nd rfl (Or.inl rfl) (pe_fld (pv 0) rfl))
    (pss_cons (ps_set (i := 3) sc_tell_served.nd rfl (Or.inl rfl) (C8.pe_c C_told_giving_out hr (by decide) (by rfl) (pa_cons (pv 2) pa_nil)))
    (pss_cons (ps_setLc (i := 4) (own := [("d", 5), ("kind", 6)]) (g := (gTup K 2 (gCons (gName 5) (gCons (gName 6) gNil)))) (tt := (tTest (tOp rNe (tVar 6) (tC (.int (-1)))))) rfl sc_tell_served.nd rfl rfl (sw_true rfl rfl rfl (by decide +kernel)) (pi_enum (by rfl) T.b_enumerate (pa_cons (pv 3) pa_nil)) (blkOk_by (N := N_tell_served) (sc := C8.fnScope s_tell_served) (by decide +kernel)) (fun _ _ _ _ _ => (pg_tup rfl (pgs_cons (pg_name (i := 5) sc_tell_served.nd rfl (Or.inl rfl)) (pgs_cons (pg_name (i := 6) sc_tell_served.nd rfl (Or.inl rfl)) pgs_nil)))) (fun _ _ _ _ _ => (pts_one (pt_cmpR op_ne (pv 6) (C8.pe_gc (by rfl) T.g_NO_KIND) (nomark _)))) (fun _ _ _ _ _ => (pe_tup (pa_cons (pv 5) (pa_cons (pv 6) pa_nil)))))
    (pss_one (ps_ret (pe_op op_cat (pe_op op_cat (pe_lst (pa_cons (pe_callB call_len_seq (by rfl) T.b_len PySem.boot_len (pa_cons (pv 4) pa_nil)) pa_nil)) (C8.pe_c C_flat hr (by decide) (by rfl) (pa_cons (pv 4) pa_nil))) (C8.pe_c C_told_set hr (by decide) (by rfl) (pa_cons (pv 2) (pa_cons (pv 3) pa_nil)))))))))
theorem tie_tell_bound (T : Top K mg) {sp_bound_of : Sp} (C_bound_of : C8.Cal P w K mg base 3 "bound_of" sp_bound_of []) {cdv : Value} {A : Around} {outer : List Env} {s : Shared} {H : Hp} {E : XK} {f : Addr}
    (hr : Room 3 (A.deeper (envOfC "tell_bound" (C8.fnScope s_tell_bound) s.heap.objs.size f cdv))) :
    PSs (cxOf C8.CX0 P w K mg base N_tell_bound "tell_bound" (C8.fnScope s_tell_bound) f cdv A outer s H E).nox (C8.fnBody s_tell_bound) (t_tell_bound K mg sp_bound_of) :=
  (pss_one (ps_ret (pe_lst (pa_cons (C8.pe_c C_bound_of hr (by decide) (by rfl) (pa_cons (pe_fld (pv 0) rfl) (pa_cons (pe_ix ix_list (pv 1) pe_int (fun _ _ => rfl)) pa_nil))) pa_nil))))
theorem tie_tell_states (T : Top K mg) {sp_places_of_dead sp_row_from : Sp} (C_places_of_dead : C8.Cal P w K mg base 2 "places_of_dead" sp_places_of_dead []) (X_row_from : CalX P w K mg base 5 "row_from" sp_row_from) {cdv : Value} {A : Around} {outer : List Env} {s : Shared} {H : Hp} {E : XK} {f : Addr}
    (hr : Room 5 (A.deeper (envOfC "tell_states" (C8.fnScope s_tell_states) s.heap.objs.size f cdv))) :
    PSs (cxOf C8.CX0 P w K mg base N_tell_states "tell_states" (C8.fnScope s_tell_states) f cdv A outer s H E).nox (C8.fnBody s_tell_states) (t_tell_states K mg sp_places_of_dead sp_row_from) :=
  (pss_cons (ps_try_only (tb := fun W => (tAsg (L2.tCallS sp_row_from (WE W) (tCons (tFld K (tVar 0) "house") (tCons (tC (.int (-1))) tNil))) (gName 2))) (ts := fun _ _ _ => (tRet (tLst (tCons (tC (.int 0)) tNil)))) (Wout := fun _ _ _ _ => False) rfl rfl ⟨(by rfl), by decide, Or.inl T.x_NoRow.g⟩ takes0 (fun W pn xe tk _ => (pss_one (ps_set (i := 2) sc_tell_states.nd rfl (Or.inl rfl) (pe_cT X_row_from hr (by decide) tk (by rfl) (pa_cons (pe_fld (pv 0) rfl) (pa_cons (C8.pe_gc (by rfl) T.g_NO_DEED) pa_nil)))))) (fun _ _ _ _ _ _ _ => (pss_one (ps_ret (pe_lst (pa_cons pe_int pa_nil))))))
    (pss_one (ps_ret (pe_lst (pa_cons pe_int (pa_cons (pe_callB call_len_seq (by rfl) T.b_len PySem.boot_len (pa_cons (pv 2) pa_nil)) (pa_cons (pe_callB call_len_seq (by rfl) T.b_len PySem.boot_len (pa_cons (C8.pe_c C_places_of_dead hr (by decide) (by rfl) (pa_cons (pv 2) pa_nil)) pa_nil)) pa_nil)))))))
theorem tie_tell_dead (T : Top K mg) {sp_as_number sp_places_of_dead sp_row_from : Sp} (C_as_number : C8.Cal P w K mg base 1 "as_number" sp_as_number []) (C_places_of_dead : C8.Cal P w K mg base 2 "places_of_dead" sp_places_of_dead []) (X_row_from : CalX P w K mg base 5 "row_from" sp_row_from) {cdv : Value} {A : Around} {outer : List Env} {s : Shared} {H : Hp} {E : XK} {f : Addr}
    (hr : Room 5 (A.deeper (envOfC "tell_dead" (C8.fnScope s_tell_dead) s.heap.objs.size f cdv))) :
    PSs (cxOf (L2.CX P w) P w K mg base N_tell_dead "tell_dead" (C8.fnScope s_tell_dead) f cdv A outer s H E) (C8.fnBody s_tell_dead) (t_tell_dead K mg E sp_as_number sp_places_of_dead sp_row_from) :=
  (pss_cons (ps_set (i := 2) sc_tell_dead.nd rfl (Or.inl rfl) (pe_cX X_row_from hr (by decide) (takes_of rfl rfl rfl rfl) (fun _ _ _ _ h => h) (by rfl) (pa_cons (pe_fld (pv 0) rfl) (pa_cons (C8.pe_gc (by rfl) T.g_NO_DEED) pa_nil))))
    (pss_one (ps_ret (pe_lst (pa_cons (C8.pe_c C_as_number hr (by decide) (by rfl) (pa_cons (pe_cmpR op_in_seq pe_int (C8.pe_c C_places_of_dead hr (by decide) (by rfl) (pa_cons (pv 2) pa_nil)) (by rfl)) pa_nil)) pa_nil)))))
theorem tie_told_way (T : Top K mg) {sp_flat sp_steps_to : Sp} (C_flat : C8.Cal P w K mg base 1 "flat" sp_flat []) (C_steps_to : C8.Cal P w K mg base 1 "steps_to" sp_steps_to []) {cdv : Value} {A : Around} {outer : List Env} {s : Shared} {H : Hp} {E : XK} {f : Addr}
    (hr : Room 1 (A.deeper (envOfC "told_way" (C8.fnScope s_told_way) s.heap.objs.size f cdv))) :
    PSs (cxOf C8.CX0 P w K mg base N_told_way "told_way" (C8.fnScope s_told_way) f cdv A outer s H E).nox (C8.fnBody s_told_way) (t_told_way K mg sp_flat sp_steps_to) :=
  (pss_cons (ps_if (pt_cmpR op_eq (pe_callB call_len_seq (by rfl) T.b_len PySem.boot_len (pa_cons (pv 1) pa_nil)) pe_int (nomark _)) (pss_one (ps_ret (pe_lst (pa_cons pe_int pa_nil)))) pss_nil)
    (pss_one (ps_ret (pe_op op_cat (pe_lst (pa_cons pe_int pa_nil)) (C8.pe_c C_flat hr (by decide) (by rfl) (pa_cons (C8.pe_c C_steps_to hr (by decide) (by rfl) (pa_cons (pv 0) (pa_cons (pe_ix ix_list (pv 1) pe_int (fun _ _ => rfl)) pa_nil))) pa_nil))))))
theorem tie_tell_way (T : Top K mg) {sp_places_with_end sp_row_from sp_told_way : Sp} (C_places_with_end : C8.Cal P w K mg base 2 "places_with_end" sp_places_with_end []) (X_row_from : CalX P w K mg base 5 "row_from" sp_row_from) (C_told_way : C8.Cal P w K mg base 2 "told_way" sp_told_way []) {cdv : Value} {A : Around} {outer : List Env} {s : Shared} {H : Hp} {E : XK} {f : Addr}
    (hr : Room 5 (A.deeper (envOfC "tell_way" (C8.fnScope s_tell_way) s.heap.objs.size f cdv))) :
    PSs (cxOf (L2.CX P w) P w K mg base N_tell_way "tell_way" (C8.fnScope s_tell_way) f cdv A outer s H E) (C8.fnBody s_tell_way) (t_tell_way K mg E sp_places_with_end sp_row_from sp_told_way) :=
  (pss_cons (ps_set (i := 2) sc_tell_way.nd rfl (Or.inl rfl) (pe_cX X_row_from hr (by decide) (takes_of rfl rfl rfl rfl) (fun _ _ _ _ h => h) (by rfl) (pa_cons (pe_fld (pv 0) rfl) (pa_cons (C8.pe_gc (by rfl) T.g_NO_DEED) pa_nil))))
    (pss_one (ps_ret (C8.pe_c C_told_way hr (by decide) (by rfl) (pa_cons (pv 2) (pa_cons (C8.pe_c C_places_with_end hr (by decide) (by rfl) (pa_cons (pv 2) pa_nil)) pa_nil))))))
theorem tie_tell_doom (T : Top K mg) {sp_places_of_dead sp_row_from sp_told_way : Sp} (C_places_of_dead : C8.Cal P w K mg base 2 "places_of_dead" sp_places_of_dead []) (X_row_from : CalX P w K mg base 5 "row_from" sp_row_from) (C_told_way : C8.Cal P w K mg base 2 "told_way" sp_told_way []) {cdv : Value} {A : Around} {outer : List Env} {s : Shared} {H : Hp} {E : XK} {f : Addr}
    (hr : Room 5 (A.deeper (envOfC "tell_doom" (C8.fnScope s_tell_doom) s.heap.objs.size f cdv))) :
    PSs (cxOf (L2.CX P w) P w K mg base N_tell_doom "tell_doom" (C8.fnScope s_tell_doom) f cdv A outer s H E) (C8.fnBody s_tell_doom) (t_tell_doom K mg E sp_places_of_dead sp_row_from sp_told_way) :=
  (pss_cons (ps_set (i := 2) sc_tell_doom.nd rfl (Or.inl rfl) (pe_cX X_row_from hr (by decide) (takes_of rfl rfl rfl rfl) (fun _ _ _ _ h => h) (by rfl) (pa_cons (pe_fld (pv 0) rfl) (pa_cons (C8.pe_gc (by rfl) T.g_NO_DEED) pa_nil))))
    (pss_one (ps_ret (C8.pe_c C_told_way hr (by decide) (by rfl) (pa_cons (pv 2) (pa_cons (C8.pe_c C_places_of_dead hr (by decide) (by rfl) (pa_cons (pv 2) pa_nil)) pa_nil))))))
theorem tie_tell_must (T : Top K mg) {sp_as_number sp_places_with_end sp_row_from : Sp} (C_as_number : C8.Cal P w K mg base 1 "as_number" sp_as_number []) (C_places_with_end : C8.Cal P w K mg base 2 "places_with_end" sp_places_with_end []) (X_row_from : CalX P w K mg base 5 "row_from" sp_row_from) {cdv : Value} {A : Around} {outer : List Env} {s : Shared} {H : Hp} {E : XK} {f : Addr}
    (hr : Room 5 (A.deeper (envOfC "tell_must" (C8.fnScope s_tell_must) s.heap.objs.size f cdv))) :
    PSs (cxOf (L2.CX P w) P w K mg base N_tell_must "tell_must" (C8.fnScope s_tell_must) f cdv A outer s H E) (C8.fnBody s_tell_must) (t_tell_must K mg E sp_as_number sp_places_with_end sp_row_from) :=
  (pss_cons (ps_set (i := 2) sc_tell_must.nd rfl (Or.inl rfl) (pe_cX X_row_from hr (by decide) (takes_of rfl rfl rfl rfl) (fun _ _ _ _ h => h) (by rfl) (pa_cons (pe_fld (pv 0) rfl) (pa_cons (pe_ix ix_list (pv 1) pe_int (fun _ _ => rfl)) pa_nil))))
    (pss_one (ps_ret (pe_lst (pa_cons (C8.pe_c C_as_number hr (by decide) (by rfl) (pa_cons (pe_cmpR op_eq (pe_callB call_len_seq (by rfl) T.b_len PySem.boot_len (pa_cons (C8.pe_c C_places_with_end hr (by decide) (by rfl) (pa_cons (pv 2) pa_nil)) pa_nil)) pe_int (nomark _)) pa_nil)) pa_nil)))))
theorem tie_tell_look (T : Top K mg) {cdv : Value} {A : Around} {outer : List Env} {s : Shared} {H : Hp} {E : XK} {f : Addr}
    (hr : Room 0 (A.deeper (envOfC "tell_look" (C8.fnScope s_tell_look) s.heap.objs.size f cdv))) :
    PSs (cxOf C8.CX0 P w K mg base N_tell_look "tell_look" (C8.fnScope s_tell_look) f cdv A outer s H E).nox (C8.fnBody s_tell_look) (t_tell_look K mg) :=
  (pss_cons (ps_set (i := 2) sc_tell_look.nd rfl (Or.inl rfl) (pe_ix ix_list (pe_fld (pe_fld (pv 0) rfl) rfl) (pe_ix ix_list (pv 1) pe_int (fun _ _ => rfl)) (fun _ _ => rfl)))
    (pss_cons (ps_set (i := 3) sc_tell_look.nd rfl (Or.inl rfl) (pe_lst (pa_cons (pe_callB call_len_seq (by rfl) T.b_len PySem.boot_len (pa_cons (pe_fld (pv 2) rfl) pa_nil)) pa_nil)))
    (pss_cons (ps_for PassesOwn.never rfl (pi_list (pe_fld (pv 2) rfl)) (pg_name (i := 4) sc_tell_look.nd rfl (Or.inl rfl)) (pss_cons (ps_expr (pe_bm PySem.F.plainAttrs_list PySem.F.slot_list_append PySem.F.type_list_append mt_append (pv 3) (pa_cons (pe_callB call_len_seq (by rfl) T.b_len PySem.boot_len (pa_cons (pv 4) pa_nil)) pa_nil)))
    (pss_one (ps_expr (pe_bm PySem.F.plainAttrs_list PySem.F.slot_list_extend PySem.F.type_list_extend mt_extend (pv 3) (pa_cons (pv 4) pa_nil))))))
    (pss_one (ps_ret (pe_op op_cat (pe_op op_cat (pe_op op_cat (pv 3) (pe_lst (pa_cons (pe_callB call_len_seq (by rfl) T.b_len PySem.boot_len (pa_cons (pe_fld (pv 2) rfl) pa_nil)) pa_nil))) (pe_fld (pv 2) rfl)) (pe_fld (pv 2) rfl)))))))
theorem tie_tell_rivals (T : Top K mg) {sp_count_all sp_rivals_of : Sp} (C_count_all : C8.Cal P w K mg base 2 "count_all" sp_count_all []) (C_rivals_of : C8.Cal P w K mg base 2 "rivals_of" sp_rivals_of []) {cdv : Value} {A : Around} {outer : List Env} {s : Shared} {H : Hp} {E : XK} {f : Addr}
    (hr : Room 2 (A.deeper (envOfC "tell_rivals" (C8.fnScope s_tell_rivals) s.heap.objs.size f cdv))) :
    PSs (cxOf C8.CX0 P w K mg base N_tell_rivals "tell_rivals" (C8.fnScope s_tell_rivals) f cdv A outer s H E).nox (C8.fnBody s_tell_rivals) (t_tell_rivals K mg sp_count_all sp_rivals_of) :=
  (pss_cons (ps_set (i := 2) sc_tell_rivals.nd rfl (Or.inl rfl) (pe_fld (pv 0) rfl))
    (pss_cons (ps_set (i := 3) sc_tell_rivals.nd rfl (Or.inl rfl) (pe_ix ix_list (pv 1) pe_int (fun _ _ => rfl)))
    (pss_one (ps_ret (pe_lst (pa_cons (pe_callB call_len_seq (by rfl) T.b_len PySem.boot_len (pa_cons (C8.pe_c C_rivals_of hr (by decide) (by rfl) (pa_cons (pe_fld (pv 2) rfl) (pa_cons (pv 3) pa_nil))) pa_nil)) (pa_cons (C8.pe_c C_count_all hr (by decide) (by rfl) (pa_cons (pv 2) (pa_cons (pe_fld (pe_ix ix_list (pe_fld (pv 2) rfl) (pv 3) (fun _ _ => rfl)) rfl) pa_nil))) pa_nil)))))))
theorem tie_answer_call (T : Top K mg) {sp_refusal_of : Sp} {dyn_call : Addr → Sp → Prop} (C_refusal_of : C8.Cal P w K mg base 5 "refusal_of" sp_refusal_of []) (D_call : ∀ f sp, dyn_call f sp → HeldX P w K mg base 6 f sp) {cdv : Value} {A : Around} {outer : List Env} {s : Shared} {H : Hp} {E : XK} {f : Addr}
    (hr : Room 6 (A.deeper (envOfC "answer_call" (C8.fnScope s_answer_call) s.heap.objs.size f cdv))) :
    PSs (cxOf C8.CX0 P w K mg base N_answer_call "answer_call" (C8.fnScope s_answer_call) f cdv A outer s H E).nox (C8.fnBody s_answer_call) (t_answer_call K mg sp_refusal_of dyn_call) :=
  (pss_cons (ps_set (i := 3) sc_answer_call.nd rfl (Or.inl rfl) (C8.pe_c C_refusal_of hr (by decide) (by rfl) (pa_cons (pe_fld (pv 0) rfl) (pa_cons (pv 1) (pa_cons (pv 2) pa_nil)))))
    (pss_cons (ps_if (pt_cmpR op_ne (pv 3) (C8.pe_gc (by rfl) T.g_NONE_DUE) (nomark _)) (pss_one (ps_ret (pe_lst (pa_cons (pv 3) pa_nil)))) pss_nil)
    (pss_cons (ps_set (i := 4) sc_answer_call.nd rfl (Or.inl rfl) (pe_ix ix_kint (C8.pe_gc (by rfl) T.g_CALLS) (pv 1) (fun _ _ => rfl)))
    (pss_cons (ps_try_only (tb := fun W => (tAsg (tDynS 4 dyn_call (WE W) (tCons (tVar 0) (tCons (tVar 2) tNil))) (gName 5))) (ts := fun _ _ _ => (tRet (tLst (tCons (tC (.int (-9))) tNil)))) (Wout := fun _ _ _ _ => False) rfl rfl ⟨(by rfl), by decide, Or.inl T.x_NoRow.g⟩ takes0 (fun W pn xe tk _ => (pss_one (ps_set (i := 5) sc_answer_call.nd rfl (Or.inl rfl) (pe_dynS D_call (hr.mono (by decide : 6 ≤ 6)) (by rfl) (Or.inl rfl) tk (pa_cons (pv 0) (pa_cons (pv 2) pa_nil)))))) (fun _ _ _ _ _ _ _ => (pss_one (ps_ret (pe_lst (pa_cons (C8.pe_gc (by rfl) T.g_NO_ROW) pa_nil))))))
    (pss_one (ps_ret (pe_op op_cat (pe_lst (pa_cons pe_int pa_nil)) (pv 5))))))))
theorem tie_answers (T : Top K mg) {sp_answer_call sp_cut_calls sp_Line_init : Sp} (C_answer_call : C8.Cal P w K mg base 7 "answer_call" sp_answer_call []) (C_cut_calls : C8.Cal P w K mg base 1 "cut_calls" sp_cut_calls []) (M_Line : C8.Mak P w K mg base 1 "Line" (adr mg "Line") sp_Line_init []) {cdv : Value} {A : Around} {outer : List Env} {s : Shared} {H : Hp} {E : XK} {f : Addr}
    (hr : Room 7 (A.deeper (envOfC "answers" (C8.fnScope s_answers) s.heap.objs.size f cdv))) :
    PSs (cxOf C8.CX0 P w K mg base N_answers "answers" (C8.fnScope s_answers) f cdv A outer s H E).nox (C8.fnBody s_answers) (t_answers K mg sp_answer_call sp_cut_calls sp_Line_init) :=
  (pss_cons (ps_set (i := 1) sc_answers.nd rfl (Or.inl rfl) (pe_mk0 M_Line hr (by decide) (by rfl)))
    (pss_cons (ps_set (i := 2) sc_answers.nd rfl (Or.inl rfl) (pe_lst pa_nil))
    (pss_cons (ps_for PassesOwn.never rfl (pi_list (C8.pe_c C_cut_calls hr (by decide) (by rfl) (pa_cons (pv 0) pa_nil))) (pg_tup rfl (pgs_cons (pg_name (i := 3) sc_answers.nd rfl (Or.inl rfl)) (pgs_cons (pg_name (i := 4) sc_answers.nd rfl (Or.inl rfl)) pgs_nil))) (pss_cons (ps_set (i := 5) sc_answers.nd rfl (Or.inl rfl) (C8.pe_c C_answer_call hr (by decide) (by rfl) (pa_cons (pv 1) (pa_cons (pv 3) (pa_cons (pv 4) pa_nil)))))
    (pss_cons (ps_expr (pe_bm PySem.F.plainAttrs_list PySem.F.slot_list_append PySem.F.type_list_append mt_append (pv 2) (pa_cons (pe_callB call_len_seq (by rfl) T.b_len PySem.boot_len (pa_cons (pv 5) pa_nil)) pa_nil)))
    (pss_one (ps_expr (pe_bm PySem.F.plainAttrs_list PySem.F.slot_list_extend PySem.F.type_list_extend mt_extend (pv 2) (pa_cons (pv 5) pa_nil)))))))
    (pss_one (ps_ret (pv 2))))))
end
section
variable {P : Program} {w : World} {K : PySem.W.Frag} {mg : Mg} {base : Heap}
theorem mak_Deed (T : Top K mg) (d : ∃ f fd, Mk K (adr mg "Deed") f ∧ C8.Fun K "__init__" "Deed.__init__" s_Deed_init f fd ∧ Binds K fd P_Deed_init []) (hm : mg "Deed" = some (.ref (adr mg "Deed"))) :
    C8.Mak P w K mg base 1 "Deed" (adr mg "Deed") (sp_Deed_init mg) [] := by
  obtain ⟨f, fd, M, F, b⟩ := d
  refine C8.mak0 (k := 0) M hm F b .nil sc_Deed_init (fun vs H Q E h => by
    first | (obtain ⟨_, rfl, _⟩ := h; rfl) | (obtain ⟨_, _, rfl, _⟩ := h; rfl) | (obtain ⟨_, _, _, rfl, _⟩ := h; rfl) | (obtain ⟨_, _, _, _, rfl, _⟩ := h; rfl) | (obtain ⟨_, _, _, _, _, rfl, _⟩ := h; rfl) | (obtain ⟨_, _, _, _, _, _, rfl, _⟩ := h; rfl) | (obtain ⟨_, _, _, _, _, _, _, rfl, _⟩ := h; rfl) | (obtain ⟨_, _, _, _, _, _, _, _, rfl, _⟩ := h; rfl) | (obtain ⟨_, _, _, _, _, _, _, _, _, rfl, _⟩ := h; rfl) | (obtain ⟨_, _, _, _, _, _, _, _, _, _, rfl, _⟩ := h; rfl) | (obtain ⟨_, _, _, _, _, _, _, _, _, _, _, rfl, _⟩ := h; rfl) | (obtain ⟨_, _, _, _, _, _, _, _, _, _, _, _, rfl, _⟩ := h; rfl) | (obtain ⟨_, _, _, _, _, _, _, _, _, _, _, _, _, rfl, _⟩ := h; rfl) | (obtain ⟨_, _, _, _, _, _, _, _, _, _, _, _, _, _, rfl, _⟩ := h; rfl) | (obtain ⟨_, _, _, _, _, _, _, _, _, _, _, _, _, _, _, rfl, _⟩ := h; rfl) | (obtain ⟨_, _, _, _, _, _, _, _, _, _, _, _, _, _, _, _, rfl, _⟩ := h; rfl)) (fun cdv A outer s H vs Q E hr h => ⟨_, tie_Deed_init T hr, pure_Deed_init T h⟩)
theorem mak_Play (T : Top K mg) (d : ∃ f fd, Mk K (adr mg "Play") f ∧ C8.Fun K "__init__" "Play.__init__" s_Play_init f fd ∧ Binds K fd P_Play_init []) (hm : mg "Play" = some (.ref (adr mg "Play"))) :
    C8.Mak P w K mg base 1 "Play" (adr mg "Play") (sp_Play_init mg) [] := by
  obtain ⟨f, fd, M, F, b⟩ := d
  refine C8.mak0 (k := 0) M hm F b .nil sc_Play_init (fun vs H Q E h => by
    first | (obtain ⟨_, rfl, _⟩ := h; rfl) | (obtain ⟨_, _, rfl, _⟩ := h; rfl) | (obtain ⟨_, _, _, rfl, _⟩ := h; rfl) | (obtain ⟨_, _, _, _, rfl, _⟩ := h; rfl) | (obtain ⟨_, _, _, _, _, rfl, _⟩ := h; rfl) | (obtain ⟨_, _, _, _, _, _, rfl, _⟩ := h; rfl) | (obtain ⟨_, _, _, _, _, _, _, rfl, _⟩ := h; rfl) | (obtain ⟨_, _, _, _, _, _, _, _, rfl, _⟩ := h; rfl) | (obtain ⟨_, _, _, _, _, _, _, _, _, rfl, _⟩ := h; rfl) | (obtain ⟨_, _, _, _, _, _, _, _, _, _, rfl, _⟩ := h; rfl) | (obtain ⟨_, _, _, _, _, _, _, _, _, _, _, rfl, _⟩ := h; rfl) | (obtain ⟨_, _, _, _, _, _, _, _, _, _, _, _, rfl, _⟩ := h; rfl) | (obtain ⟨_, _, _, _, _, _, _, _, _, _, _, _, _, rfl, _⟩ := h; rfl) | (obtain ⟨_, _, _, _, _, _, _, _, _, _, _, _, _, _, rfl, _⟩ := h; rfl) | (obtain ⟨_, _, _, _, _, _, _, _, _, _, _, _, _, _, _, rfl, _⟩ := h; rfl) | (obtain ⟨_, _, _, _, _, _, _, _, _, _, _, _, _, _, _, _, rfl, _⟩ := h; rfl)) (fun cdv A outer s H vs Q E hr h => ⟨_, tie_Play_init T hr, pure_Play_init T h⟩)
theorem mak_House (T : Top K mg) (d : ∃ f fd, Mk K (adr mg "House") f ∧ C8.Fun K "__init__" "House.__init__" s_House_init f fd ∧ Binds K fd P_House_init []) (hm : mg "House" = some (.ref (adr mg "House"))) (M_Play : C8.Mak P w K mg base 1 "Play" (adr mg "Play") (sp_Play_init mg) []) :
    C8.Mak P w K mg base 3 "House" (adr mg "House") (sp_House_init mg) [] := by
  obtain ⟨f, fd, M, F, b⟩ := d
  refine C8.mak0 (k := 2) M hm F b .nil sc_House_init (fun vs H Q E h => by
    first | (obtain ⟨_, rfl, _⟩ := h; rfl) | (obtain ⟨_, _, rfl, _⟩ := h; rfl) | (obtain ⟨_, _, _, rfl, _⟩ := h; rfl) | (obtain ⟨_, _, _, _, rfl, _⟩ := h; rfl) | (obtain ⟨_, _, _, _, _, rfl, _⟩ := h; rfl) | (obtain ⟨_, _, _, _, _, _, rfl, _⟩ := h; rfl) | (obtain ⟨_, _, _, _, _, _, _, rfl, _⟩ := h; rfl) | (obtain ⟨_, _, _, _, _, _, _, _, rfl, _⟩ := h; rfl) | (obtain ⟨_, _, _, _, _, _, _, _, _, rfl, _⟩ := h; rfl) | (obtain ⟨_, _, _, _, _, _, _, _, _, _, rfl, _⟩ := h; rfl) | (obtain ⟨_, _, _, _, _, _, _, _, _, _, _, rfl, _⟩ := h; rfl) | (obtain ⟨_, _, _, _, _, _, _, _, _, _, _, _, rfl, _⟩ := h; rfl) | (obtain ⟨_, _, _, _, _, _, _, _, _, _, _, _, _, rfl, _⟩ := h; rfl) | (obtain ⟨_, _, _, _, _, _, _, _, _, _, _, _, _, _, rfl, _⟩ := h; rfl) | (obtain ⟨_, _, _, _, _, _, _, _, _, _, _, _, _, _, _, rfl, _⟩ := h; rfl) | (obtain ⟨_, _, _, _, _, _, _, _, _, _, _, _, _, _, _, _, rfl, _⟩ := h; rfl)) (fun cdv A outer s H vs Q E hr h => ⟨_, tie_House_init T M_Play hr, pure_House_init T h⟩)
theorem mak_Line (T : Top K mg) (d : ∃ f fd, Mk K (adr mg "Line") f ∧ C8.Fun K "__init__" "Line.__init__" s_Line_init f fd ∧ Binds K fd P_Line_init []) (hm : mg "Line" = some (.ref (adr mg "Line"))) :
    C8.Mak P w K mg base 1 "Line" (adr mg "Line") (sp_Line_init mg) [] := by
  obtain ⟨f, fd, M, F, b⟩ := d
  refine C8.mak0 (k := 0) M hm F b .nil sc_Line_init (fun vs H Q E h => by
    first | (obtain ⟨_, rfl, _⟩ := h; rfl) | (obtain ⟨_, _, rfl, _⟩ := h; rfl) | (obtain ⟨_, _, _, rfl, _⟩ := h; rfl) | (obtain ⟨_, _, _, _, rfl, _⟩ := h; rfl) | (obtain ⟨_, _, _, _, _, rfl, _⟩ := h; rfl) | (obtain ⟨_, _, _, _, _, _, rfl, _⟩ := h; rfl) | (obtain ⟨_, _, _, _, _, _, _, rfl, _⟩ := h; rfl) | (obtain ⟨_, _, _, _, _, _, _, _, rfl, _⟩ := h; rfl) | (obtain ⟨_, _, _, _, _, _, _, _, _, rfl, _⟩ := h; rfl) | (obtain ⟨_, _, _, _, _, _, _, _, _, _, rfl, _⟩ := h; rfl) | (obtain ⟨_, _, _, _, _, _, _, _, _, _, _, rfl, _⟩ := h; rfl) | (obtain ⟨_, _, _, _, _, _, _, _, _, _, _, _, rfl, _⟩ := h; rfl) | (obtain ⟨_, _, _, _, _, _, _, _, _, _, _, _, _, rfl, _⟩ := h; rfl) | (obtain ⟨_, _, _, _, _, _, _, _, _, _, _, _, _, _, rfl, _⟩ := h; rfl) | (obtain ⟨_, _, _, _, _, _, _, _, _, _, _, _, _, _, _, rfl, _⟩ := h; rfl) | (obtain ⟨_, _, _, _, _, _, _, _, _, _, _, _, _, _, _, _, rfl, _⟩ := h; rfl)) (fun cdv A outer s H vs Q E hr h => ⟨_, tie_Line_init T hr, pure_Line_init T h⟩)
theorem cal_is_end_done (T : Top K mg) (d : ∃ f fd, C8.Def K mg "is_end_done" s_is_end_done f fd ∧ Binds K fd P_is_end_done []) :
    C8.Cal P w K mg base 1 "is_end_done" (sp_is_end_done mg) [] := by
  obtain ⟨f, fd, F, b⟩ := d
  refine C8.cal0 (k := 0) F b .nil sc_is_end_done (fun vs H Q E h => by
    first | (obtain ⟨_, rfl, _⟩ := h; rfl) | (obtain ⟨_, _, rfl, _⟩ := h; rfl) | (obtain ⟨_, _, _, rfl, _⟩ := h; rfl) | (obtain ⟨_, _, _, _, rfl, _⟩ := h; rfl) | (obtain ⟨_, _, _, _, _, rfl, _⟩ := h; rfl) | (obtain ⟨_, _, _, _, _, _, rfl, _⟩ := h; rfl) | (obtain ⟨_, _, _, _, _, _, _, rfl, _⟩ := h; rfl) | (obtain ⟨_, _, _, _, _, _, _, _, rfl, _⟩ := h; rfl) | (obtain ⟨_, _, _, _, _, _, _, _, _, rfl, _⟩ := h; rfl) | (obtain ⟨_, _, _, _, _, _, _, _, _, _, rfl, _⟩ := h; rfl) | (obtain ⟨_, _, _, _, _, _, _, _, _, _, _, rfl, _⟩ := h; rfl) | (obtain ⟨_, _, _, _, _, _, _, _, _, _, _, _, rfl, _⟩ := h; rfl) | (obtain ⟨_, _, _, _, _, _, _, _, _, _, _, _, _, rfl, _⟩ := h; rfl) | (obtain ⟨_, _, _, _, _, _, _, _, _, _, _, _, _, _, rfl, _⟩ := h; rfl) | (obtain ⟨_, _, _, _, _, _, _, _, _, _, _, _, _, _, _, rfl, _⟩ := h; rfl) | (obtain ⟨_, _, _, _, _, _, _, _, _, _, _, _, _, _, _, _, rfl, _⟩ := h; rfl)) (fun cdv A outer s H vs Q E hr h => ⟨_, tie_is_end_done T hr, pure_is_end_done T h⟩)
theorem cal_holds_all (T : Top K mg) (d : ∃ f fd, C8.Def K mg "holds_all" s_holds_all f fd ∧ Binds K fd P_holds_all []) :
    C8.Cal P w K mg base 1 "holds_all" (sp_holds_all) [] := by
  obtain ⟨f, fd, F, b⟩ := d
  refine C8.cal0 (k := 0) F b .nil sc_holds_all (fun vs H Q E h => by
    first | (obtain ⟨_, rfl, _⟩ := h; rfl) | (obtain ⟨_, _, rfl, _⟩ := h; rfl) | (obtain ⟨_, _, _, rfl, _⟩ := h; rfl) | (obtain ⟨_, _, _, _, rfl, _⟩ := h; rfl) | (obtain ⟨_, _, _, _, _, rfl, _⟩ := h; rfl) | (obtain ⟨_, _, _, _, _, _, rfl, _⟩ := h; rfl) | (obtain ⟨_, _, _, _, _, _, _, rfl, _⟩ := h; rfl) | (obtain ⟨_, _, _, _, _, _, _, _, rfl, _⟩ := h; rfl) | (obtain ⟨_, _, _, _, _, _, _, _, _, rfl, _⟩ := h; rfl) | (obtain ⟨_, _, _, _, _, _, _, _, _, _, rfl, _⟩ := h; rfl) | (obtain ⟨_, _, _, _, _, _, _, _, _, _, _, rfl, _⟩ := h; rfl) | (obtain ⟨_, _, _, _, _, _, _, _, _, _, _, _, rfl, _⟩ := h; rfl) | (obtain ⟨_, _, _, _, _, _, _, _, _, _, _, _, _, rfl, _⟩ := h; rfl) | (obtain ⟨_, _, _, _, _, _, _, _, _, _, _, _, _, _, rfl, _⟩ := h; rfl) | (obtain ⟨_, _, _, _, _, _, _, _, _, _, _, _, _, _, _, rfl, _⟩ := h; rfl) | (obtain ⟨_, _, _, _, _, _, _, _, _, _, _, _, _, _, _, _, rfl, _⟩ := h; rfl)) (fun cdv A outer s H vs Q E hr h => ⟨_, tie_holds_all T hr, pure_holds_all T h⟩)
theorem cal_are_met (T : Top K mg) (d : ∃ f fd, C8.Def K mg "are_met" s_are_met f fd ∧ Binds K fd P_are_met []) (C_holds_all : C8.Cal P w K mg base 1 "holds_all" (sp_holds_all) []) :
    C8.Cal P w K mg base 2 "are_met" (sp_are_met) [] := by
  obtain ⟨f, fd, F, b⟩ := d
  refine C8.cal0 (k := 1) F b .nil sc_are_met (fun vs H Q E h => by
    first | (obtain ⟨_, rfl, _⟩ := h; rfl) | (obtain ⟨_, _, rfl, _⟩ := h; rfl) | (obtain ⟨_, _, _, rfl, _⟩ := h; rfl) | (obtain ⟨_, _, _, _, rfl, _⟩ := h; rfl) | (obtain ⟨_, _, _, _, _, rfl, _⟩ := h; rfl) | (obtain ⟨_, _, _, _, _, _, rfl, _⟩ := h; rfl) | (obtain ⟨_, _, _, _, _, _, _, rfl, _⟩ := h; rfl) | (obtain ⟨_, _, _, _, _, _, _, _, rfl, _⟩ := h; rfl) | (obtain ⟨_, _, _, _, _, _, _, _, _, rfl, _⟩ := h; rfl) | (obtain ⟨_, _, _, _, _, _, _, _, _, _, rfl, _⟩ := h; rfl) | (obtain ⟨_, _, _, _, _, _, _, _, _, _, _, rfl, _⟩ := h; rfl) | (obtain ⟨_, _, _, _, _, _, _, _, _, _, _, _, rfl, _⟩ := h; rfl) | (obtain ⟨_, _, _, _, _, _, _, _, _, _, _, _, _, rfl, _⟩ := h; rfl) | (obtain ⟨_, _, _, _, _, _, _, _, _, _, _, _, _, _, rfl, _⟩ := h; rfl) | (obtain ⟨_, _, _, _, _, _, _, _, _, _, _, _, _, _, _, rfl, _⟩ := h; rfl) | (obtain ⟨_, _, _, _, _, _, _, _, _, _, _, _, _, _, _, _, rfl, _⟩ := h; rfl)) (fun cdv A outer s H vs Q E hr h => ⟨_, tie_are_met T C_holds_all hr, pure_are_met T h⟩)
theorem cal_kinds_for (T : Top K mg) (d : ∃ f fd, C8.Def K mg "kinds_for" s_kinds_for f fd ∧ Binds K fd P_kinds_for []) (C_are_met : C8.Cal P w K mg base 2 "are_met" (sp_are_met) []) :
    C8.Cal P w K mg base 3 "kinds_for" (sp_kinds_for mg) [] := by
  obtain ⟨f, fd, F, b⟩ := d
  refine C8.cal0 (k := 2) F b .nil sc_kinds_for (fun vs H Q E h => by
    first | (obtain ⟨_, rfl, _⟩ := h; rfl) | (obtain ⟨_, _, rfl, _⟩ := h; rfl) | (obtain ⟨_, _, _, rfl, _⟩ := h; rfl) | (obtain ⟨_, _, _, _, rfl, _⟩ := h; rfl) | (obtain ⟨_, _, _, _, _, rfl, _⟩ := h; rfl) | (obtain ⟨_, _, _, _, _, _, rfl, _⟩ := h; rfl) | (obtain ⟨_, _, _, _, _, _, _, rfl, _⟩ := h; rfl) | (obtain ⟨_, _, _, _, _, _, _, _, rfl, _⟩ := h; rfl) | (obtain ⟨_, _, _, _, _, _, _, _, _, rfl, _⟩ := h; rfl) | (obtain ⟨_, _, _, _, _, _, _, _, _, _, rfl, _⟩ := h; rfl) | (obtain ⟨_, _, _, _, _, _, _, _, _, _, _, rfl, _⟩ := h; rfl) | (obtain ⟨_, _, _, _, _, _, _, _, _, _, _, _, rfl, _⟩ := h; rfl) | (obtain ⟨_, _, _, _, _, _, _, _, _, _, _, _, _, rfl, _⟩ := h; rfl) | (obtain ⟨_, _, _, _, _, _, _, _, _, _, _, _, _, _, rfl, _⟩ := h; rfl) | (obtain ⟨_, _, _, _, _, _, _, _, _, _, _, _, _, _, _, rfl, _⟩ := h; rfl) | (obtain ⟨_, _, _, _, _, _, _, _, _, _, _, _, _, _, _, _, rfl, _⟩ := h; rfl)) (fun cdv A outer s H vs Q E hr h => ⟨_, tie_kinds_for T C_are_met hr, pure_kinds_for T h⟩)
theorem cal_all_steps (T : Top K mg) (d : ∃ f fd, C8.Def K mg "all_steps" s_all_steps f fd ∧ Binds K fd P_all_steps []) (C_kinds_for : C8.Cal P w K mg base 3 "kinds_for" (sp_kinds_for mg) []) :
    C8.Cal P w K mg base 4 "all_steps" (sp_all_steps mg) [] := by
  obtain ⟨f, fd, F, b⟩ := d
  refine C8.cal0 (k := 3) F b .nil sc_all_steps (fun vs H Q E h => by
    first | (obtain ⟨_, rfl, _⟩ := h; rfl) | (obtain ⟨_, _, rfl, _⟩ := h; rfl) | (obtain ⟨_, _, _, rfl, _⟩ := h; rfl) | (obtain ⟨_, _, _, _, rfl, _⟩ := h; rfl) | (obtain ⟨_, _, _, _, _, rfl, _⟩ := h; rfl) | (obtain ⟨_, _, _, _, _, _, rfl, _⟩ := h; rfl) | (obtain ⟨_, _, _, _, _, _, _, rfl, _⟩ := h; rfl) | (obtain ⟨_, _, _, _, _, _, _, _, rfl, _⟩ := h; rfl) | (obtain ⟨_, _, _, _, _, _, _, _, _, rfl, _⟩ := h; rfl) | (obtain ⟨_, _, _, _, _, _, _, _, _, _, rfl, _⟩ := h; rfl) | (obtain ⟨_, _, _, _, _, _, _, _, _, _, _, rfl, _⟩ := h; rfl) | (obtain ⟨_, _, _, _, _, _, _, _, _, _, _, _, rfl, _⟩ := h; rfl) | (obtain ⟨_, _, _, _, _, _, _, _, _, _, _, _, _, rfl, _⟩ := h; rfl) | (obtain ⟨_, _, _, _, _, _, _, _, _, _, _, _, _, _, rfl, _⟩ := h; rfl) | (obtain ⟨_, _, _, _, _, _, _, _, _, _, _, _, _, _, _, rfl, _⟩ := h; rfl) | (obtain ⟨_, _, _, _, _, _, _, _, _, _, _, _, _, _, _, _, rfl, _⟩ := h; rfl)) (fun cdv A outer s H vs Q E hr h => ⟨_, tie_all_steps T C_kinds_for hr, pure_all_steps T h⟩)
theorem cal_play_after (T : Top K mg) (d : ∃ f fd, C8.Def K mg "play_after" s_play_after f fd ∧ Binds K fd P_play_after []) (M_Play : C8.Mak P w K mg base 1 "Play" (adr mg "Play") (sp_Play_init mg) []) :
    C8.Cal P w K mg base 3 "play_after" (sp_play_after mg) [] := by
  obtain ⟨f, fd, F, b⟩ := d
  refine C8.cal0 (k := 2) F b .nil sc_play_after (fun vs H Q E h => by
    first | (obtain ⟨_, rfl, _⟩ := h; rfl) | (obtain ⟨_, _, rfl, _⟩ := h; rfl) | (obtain ⟨_, _, _, rfl, _⟩ := h; rfl) | (obtain ⟨_, _, _, _, rfl, _⟩ := h; rfl) | (obtain ⟨_, _, _, _, _, rfl, _⟩ := h; rfl) | (obtain ⟨_, _, _, _, _, _, rfl, _⟩ := h; rfl) | (obtain ⟨_, _, _, _, _, _, _, rfl, _⟩ := h; rfl) | (obtain ⟨_, _, _, _, _, _, _, _, rfl, _⟩ := h; rfl) | (obtain ⟨_, _, _, _, _, _, _, _, _, rfl, _⟩ := h; rfl) | (obtain ⟨_, _, _, _, _, _, _, _, _, _, rfl, _⟩ := h; rfl) | (obtain ⟨_, _, _, _, _, _, _, _, _, _, _, rfl, _⟩ := h; rfl) | (obtain ⟨_, _, _, _, _, _, _, _, _, _, _, _, rfl, _⟩ := h; rfl) | (obtain ⟨_, _, _, _, _, _, _, _, _, _, _, _, _, rfl, _⟩ := h; rfl) | (obtain ⟨_, _, _, _, _, _, _, _, _, _, _, _, _, _, rfl, _⟩ := h; rfl) | (obtain ⟨_, _, _, _, _, _, _, _, _, _, _, _, _, _, _, rfl, _⟩ := h; rfl) | (obtain ⟨_, _, _, _, _, _, _, _, _, _, _, _, _, _, _, _, rfl, _⟩ := h; rfl)) (fun cdv A outer s H vs Q E hr h => ⟨_, tie_play_after T M_Play hr, pure_play_after T h⟩)
theorem cal_closure_of (T : Top K mg) (d : ∃ f fd, C8.Def K mg "closure_of" s_closure_of f fd ∧ Binds K fd P_closure_of []) (C_are_met : C8.Cal P w K mg base 2 "are_met" (sp_are_met) []) :
    C8.Cal P w K mg base 3 "closure_of" (sp_closure_of mg) [] := by
  obtain ⟨f, fd, F, b⟩ := d
  refine C8.cal0 (k := 2) F b .nil sc_closure_of (fun vs H Q E h => by
    first | (obtain ⟨_, rfl, _⟩ := h; rfl) | (obtain ⟨_, _, rfl, _⟩ := h; rfl) | (obtain ⟨_, _, _, rfl, _⟩ := h; rfl) | (obtain ⟨_, _, _, _, rfl, _⟩ := h; rfl) | (obtain ⟨_, _, _, _, _, rfl, _⟩ := h; rfl) | (obtain ⟨_, _, _, _, _, _, rfl, _⟩ := h; rfl) | (obtain ⟨_, _, _, _, _, _, _, rfl, _⟩ := h; rfl) | (obtain ⟨_, _, _, _, _, _, _, _, rfl, _⟩ := h; rfl) | (obtain ⟨_, _, _, _, _, _, _, _, _, rfl, _⟩ := h; rfl) | (obtain ⟨_, _, _, _, _, _, _, _, _, _, rfl, _⟩ := h; rfl) | (obtain ⟨_, _, _, _, _, _, _, _, _, _, _, rfl, _⟩ := h; rfl) | (obtain ⟨_, _, _, _, _, _, _, _, _, _, _, _, rfl, _⟩ := h; rfl) | (obtain ⟨_, _, _, _, _, _, _, _, _, _, _, _, _, rfl, _⟩ := h; rfl) | (obtain ⟨_, _, _, _, _, _, _, _, _, _, _, _, _, _, rfl, _⟩ := h; rfl) | (obtain ⟨_, _, _, _, _, _, _, _, _, _, _, _, _, _, _, rfl, _⟩ := h; rfl) | (obtain ⟨_, _, _, _, _, _, _, _, _, _, _, _, _, _, _, _, rfl, _⟩ := h; rfl)) (fun cdv A outer s H vs Q E hr h => ⟨_, tie_closure_of T C_are_met hr, pure_closure_of T h⟩)
theorem cal_share_a_kind (T : Top K mg) (d : ∃ f fd, C8.Def K mg "share_a_kind" s_share_a_kind f fd ∧ Binds K fd P_share_a_kind []) :
    C8.Cal P w K mg base 1 "share_a_kind" (sp_share_a_kind) [] := by
  obtain ⟨f, fd, F, b⟩ := d
  refine C8.cal0 (k := 0) F b .nil sc_share_a_kind (fun vs H Q E h => by
    first | (obtain ⟨_, rfl, _⟩ := h; rfl) | (obtain ⟨_, _, rfl, _⟩ := h; rfl) | (obtain ⟨_, _, _, rfl, _⟩ := h; rfl) | (obtain ⟨_, _, _, _, rfl, _⟩ := h; rfl) | (obtain ⟨_, _, _, _, _, rfl, _⟩ := h; rfl) | (obtain ⟨_, _, _, _, _, _, rfl, _⟩ := h; rfl) | (obtain ⟨_, _, _, _, _, _, _, rfl, _⟩ := h; rfl) | (obtain ⟨_, _, _, _, _, _, _, _, rfl, _⟩ := h; rfl) | (obtain ⟨_, _, _, _, _, _, _, _, _, rfl, _⟩ := h; rfl) | (obtain ⟨_, _, _, _, _, _, _, _, _, _, rfl, _⟩ := h; rfl) | (obtain ⟨_, _, _, _, _, _, _, _, _, _, _, rfl, _⟩ := h; rfl) | (obtain ⟨_, _, _, _, _, _, _, _, _, _, _, _, rfl, _⟩ := h; rfl) | (obtain ⟨_, _, _, _, _, _, _, _, _, _, _, _, _, rfl, _⟩ := h; rfl) | (obtain ⟨_, _, _, _, _, _, _, _, _, _, _, _, _, _, rfl, _⟩ := h; rfl) | (obtain ⟨_, _, _, _, _, _, _, _, _, _, _, _, _, _, _, rfl, _⟩ := h; rfl) | (obtain ⟨_, _, _, _, _, _, _, _, _, _, _, _, _, _, _, _, rfl, _⟩ := h; rfl)) (fun cdv A outer s H vs Q E hr h => ⟨_, tie_share_a_kind T hr, pure_share_a_kind T h⟩)
theorem cal_rivals_of (T : Top K mg) (d : ∃ f fd, C8.Def K mg "rivals_of" s_rivals_of f fd ∧ Binds K fd P_rivals_of []) (C_share_a_kind : C8.Cal P w K mg base 1 "share_a_kind" (sp_share_a_kind) []) :
    C8.Cal P w K mg base 2 "rivals_of" (sp_rivals_of mg) [] := by
  obtain ⟨f, fd, F, b⟩ := d
  refine C8.cal0 (k := 1) F b .nil sc_rivals_of (fun vs H Q E h => by
    first | (obtain ⟨_, rfl, _⟩ := h; rfl) | (obtain ⟨_, _, rfl, _⟩ := h; rfl) | (obtain ⟨_, _, _, rfl, _⟩ := h; rfl) | (obtain ⟨_, _, _, _, rfl, _⟩ := h; rfl) | (obtain ⟨_, _, _, _, _, rfl, _⟩ := h; rfl) | (obtain ⟨_, _, _, _, _, _, rfl, _⟩ := h; rfl) | (obtain ⟨_, _, _, _, _, _, _, rfl, _⟩ := h; rfl) | (obtain ⟨_, _, _, _, _, _, _, _, rfl, _⟩ := h; rfl) | (obtain ⟨_, _, _, _, _, _, _, _, _, rfl, _⟩ := h; rfl) | (obtain ⟨_, _, _, _, _, _, _, _, _, _, rfl, _⟩ := h; rfl) | (obtain ⟨_, _, _, _, _, _, _, _, _, _, _, rfl, _⟩ := h; rfl) | (obtain ⟨_, _, _, _, _, _, _, _, _, _, _, _, rfl, _⟩ := h; rfl) | (obtain ⟨_, _, _, _, _, _, _, _, _, _, _, _, _, rfl, _⟩ := h; rfl) | (obtain ⟨_, _, _, _, _, _, _, _, _, _, _, _, _, _, rfl, _⟩ := h; rfl) | (obtain ⟨_, _, _, _, _, _, _, _, _, _, _, _, _, _, _, rfl, _⟩ := h; rfl) | (obtain ⟨_, _, _, _, _, _, _, _, _, _, _, _, _, _, _, _, rfl, _⟩ := h; rfl)) (fun cdv A outer s H vs Q E hr h => ⟨_, tie_rivals_of T C_share_a_kind hr, pure_rivals_of T h⟩)
theorem cal_count_things (T : Top K mg) (d : ∃ f fd, C8.Def K mg "count_things" s_count_things f fd ∧ Binds K fd P_count_things []) :
    C8.Cal P w K mg base 1 "count_things" (sp_count_things mg) [] := by
  obtain ⟨f, fd, F, b⟩ := d
  refine C8.cal0 (k := 0) F b .nil sc_count_things (fun vs H Q E h => by
    first | (obtain ⟨_, rfl, _⟩ := h; rfl) | (obtain ⟨_, _, rfl, _⟩ := h; rfl) | (obtain ⟨_, _, _, rfl, _⟩ := h; rfl) | (obtain ⟨_, _, _, _, rfl, _⟩ := h; rfl) | (obtain ⟨_, _, _, _, _, rfl, _⟩ := h; rfl) | (obtain ⟨_, _, _, _, _, _, rfl, _⟩ := h; rfl) | (obtain ⟨_, _, _, _, _, _, _, rfl, _⟩ := h; rfl) | (obtain ⟨_, _, _, _, _, _, _, _, rfl, _⟩ := h; rfl) | (obtain ⟨_, _, _, _, _, _, _, _, _, rfl, _⟩ := h; rfl) | (obtain ⟨_, _, _, _, _, _, _, _, _, _, rfl, _⟩ := h; rfl) | (obtain ⟨_, _, _, _, _, _, _, _, _, _, _, rfl, _⟩ := h; rfl) | (obtain ⟨_, _, _, _, _, _, _, _, _, _, _, _, rfl, _⟩ := h; rfl) | (obtain ⟨_, _, _, _, _, _, _, _, _, _, _, _, _, rfl, _⟩ := h; rfl) | (obtain ⟨_, _, _, _, _, _, _, _, _, _, _, _, _, _, rfl, _⟩ := h; rfl) | (obtain ⟨_, _, _, _, _, _, _, _, _, _, _, _, _, _, _, rfl, _⟩ := h; rfl) | (obtain ⟨_, _, _, _, _, _, _, _, _, _, _, _, _, _, _, _, rfl, _⟩ := h; rfl)) (fun cdv A outer s H vs Q E hr h => ⟨_, tie_count_things T hr, pure_count_things T h⟩)
theorem cal_is_sure (T : Top K mg) (d : ∃ f fd, C8.Def K mg "is_sure" s_is_sure f fd ∧ Binds K fd P_is_sure []) (C_are_met : C8.Cal P w K mg base 2 "are_met" (sp_are_met) []) (C_count_things : C8.Cal P w K mg base 1 "count_things" (sp_count_things mg) []) (C_rivals_of : C8.Cal P w K mg base 2 "rivals_of" (sp_rivals_of mg) []) :
    C8.Cal P w K mg base 3 "is_sure" (sp_is_sure mg) [] := by
  obtain ⟨f, fd, F, b⟩ := d
  refine C8.cal0 (k := 2) F b .nil sc_is_sure (fun vs H Q E h => by
    first | (obtain ⟨_, rfl, _⟩ := h; rfl) | (obtain ⟨_, _, rfl, _⟩ := h; rfl) | (obtain ⟨_, _, _, rfl, _⟩ := h; rfl) | (obtain ⟨_, _, _, _, rfl, _⟩ := h; rfl) | (obtain ⟨_, _, _, _, _, rfl, _⟩ := h; rfl) | (obtain ⟨_, _, _, _, _, _, rfl, _⟩ := h; rfl) | (obtain ⟨_, _, _, _, _, _, _, rfl, _⟩ := h; rfl) | (obtain ⟨_, _, _, _, _, _, _, _, rfl, _⟩ := h; rfl) | (obtain ⟨_, _, _, _, _, _, _, _, _, rfl, _⟩ := h; rfl) | (obtain ⟨_, _, _, _, _, _, _, _, _, _, rfl, _⟩ := h; rfl) | (obtain ⟨_, _, _, _, _, _, _, _, _, _, _, rfl, _⟩ := h; rfl) | (obtain ⟨_, _, _, _, _, _, _, _, _, _, _, _, rfl, _⟩ := h; rfl) | (obtain ⟨_, _, _, _, _, _, _, _, _, _, _, _, _, rfl, _⟩ := h; rfl) | (obtain ⟨_, _, _, _, _, _, _, _, _, _, _, _, _, _, rfl, _⟩ := h; rfl) | (obtain ⟨_, _, _, _, _, _, _, _, _, _, _, _, _, _, _, rfl, _⟩ := h; rfl) | (obtain ⟨_, _, _, _, _, _, _, _, _, _, _, _, _, _, _, _, rfl, _⟩ := h; rfl)) (fun cdv A outer s H vs Q E hr h => ⟨_, tie_is_sure T C_are_met C_count_things C_rivals_of hr, pure_is_sure T h⟩)
theorem cal_told_ranks (T : Top K mg) (d : ∃ f fd, C8.Def K mg "told_ranks" s_told_ranks f fd ∧ Binds K fd P_told_ranks []) (C_is_sure : C8.Cal P w K mg base 3 "is_sure" (sp_is_sure mg) []) :
    C8.Cal P w K mg base 4 "told_ranks" (sp_told_ranks mg) [] := by
  obtain ⟨f, fd, F, b⟩ := d
  refine C8.cal0 (k := 3) F b .nil sc_told_ranks (fun vs H Q E h => by
    first | (obtain ⟨_, rfl, _⟩ := h; rfl) | (obtain ⟨_, _, rfl, _⟩ := h; rfl) | (obtain ⟨_, _, _, rfl, _⟩ := h; rfl) | (obtain ⟨_, _, _, _, rfl, _⟩ := h; rfl) | (obtain ⟨_, _, _, _, _, rfl, _⟩ := h; rfl) | (obtain ⟨_, _, _, _, _, _, rfl, _⟩ := h; rfl) | (obtain ⟨_, _, _, _, _, _, _, rfl, _⟩ := h; rfl) | (obtain ⟨_, _, _, _, _, _, _, _, rfl, _⟩ := h; rfl) | (obtain ⟨_, _, _, _, _, _, _, _, _, rfl, _⟩ := h; rfl) | (obtain ⟨_, _, _, _, _, _, _, _, _, _, rfl, _⟩ := h; rfl) | (obtain ⟨_, _, _, _, _, _, _, _, _, _, _, rfl, _⟩ := h; rfl) | (obtain ⟨_, _, _, _, _, _, _, _, _, _, _, _, rfl, _⟩ := h; rfl) | (obtain ⟨_, _, _, _, _, _, _, _, _, _, _, _, _, rfl, _⟩ := h; rfl) | (obtain ⟨_, _, _, _, _, _, _, _, _, _, _, _, _, _, rfl, _⟩ := h; rfl) | (obtain ⟨_, _, _, _, _, _, _, _, _, _, _, _, _, _, _, rfl, _⟩ := h; rfl) | (obtain ⟨_, _, _, _, _, _, _, _, _, _, _, _, _, _, _, _, rfl, _⟩ := h; rfl)) (fun cdv A outer s H vs Q E hr h => ⟨_, tie_told_ranks T C_is_sure hr, pure_told_ranks T h⟩)
theorem cal_are_accepted (T : Top K mg) (d : ∃ f fd, C8.Def K mg "are_accepted" s_are_accepted f fd ∧ Binds K fd P_are_accepted []) (C_is_sure : C8.Cal P w K mg base 3 "is_sure" (sp_is_sure mg) []) :
    C8.Cal P w K mg base 4 "are_accepted" (sp_are_accepted mg) [] := by
  obtain ⟨f, fd, F, b⟩ := d
  refine C8.cal0 (k := 3) F b .nil sc_are_accepted (fun vs H Q E h => by
    first | (obtain ⟨_, rfl, _⟩ := h; rfl) | (obtain ⟨_, _, rfl, _⟩ := h; rfl) | (obtain ⟨_, _, _, rfl, _⟩ := h; rfl) | (obtain ⟨_, _, _, _, rfl, _⟩ := h; rfl) | (obtain ⟨_, _, _, _, _, rfl, _⟩ := h; rfl) | (obtain ⟨_, _, _, _, _, _, rfl, _⟩ := h; rfl) | (obtain ⟨_, _, _, _, _, _, _, rfl, _⟩ := h; rfl) | (obtain ⟨_, _, _, _, _, _, _, _, rfl, _⟩ := h; rfl) | (obtain ⟨_, _, _, _, _, _, _, _, _, rfl, _⟩ := h; rfl) | (obtain ⟨_, _, _, _, _, _, _, _, _, _, rfl, _⟩ := h; rfl) | (obtain ⟨_, _, _, _, _, _, _, _, _, _, _, rfl, _⟩ := h; rfl) | (obtain ⟨_, _, _, _, _, _, _, _, _, _, _, _, rfl, _⟩ := h; rfl) | (obtain ⟨_, _, _, _, _, _, _, _, _, _, _, _, _, rfl, _⟩ := h; rfl) | (obtain ⟨_, _, _, _, _, _, _, _, _, _, _, _, _, _, rfl, _⟩ := h; rfl) | (obtain ⟨_, _, _, _, _, _, _, _, _, _, _, _, _, _, _, rfl, _⟩ := h; rfl) | (obtain ⟨_, _, _, _, _, _, _, _, _, _, _, _, _, _, _, _, rfl, _⟩ := h; rfl)) (fun cdv A outer s H vs Q E hr h => ⟨_, tie_are_accepted T C_is_sure hr, pure_are_accepted T h⟩)
theorem cal_cut_calls (T : Top K mg) (D : Dicts K mg) (d : ∃ f fd, C8.Def K mg "cut_calls" s_cut_calls f fd ∧ Binds K fd P_cut_calls []) :
    C8.Cal P w K mg base 1 "cut_calls" (sp_cut_calls K) [] := by
  obtain ⟨f, fd, F, b⟩ := d
  refine C8.cal0 (k := 0) F b .nil sc_cut_calls (fun vs H Q E h => by
    first | (obtain ⟨_, rfl, _⟩ := h; rfl) | (obtain ⟨_, _, rfl, _⟩ := h; rfl) | (obtain ⟨_, _, _, rfl, _⟩ := h; rfl) | (obtain ⟨_, _, _, _, rfl, _⟩ := h; rfl) | (obtain ⟨_, _, _, _, _, rfl, _⟩ := h; rfl) | (obtain ⟨_, _, _, _, _, _, rfl, _⟩ := h; rfl) | (obtain ⟨_, _, _, _, _, _, _, rfl, _⟩ := h; rfl) | (obtain ⟨_, _, _, _, _, _, _, _, rfl, _⟩ := h; rfl) | (obtain ⟨_, _, _, _, _, _, _, _, _, rfl, _⟩ := h; rfl) | (obtain ⟨_, _, _, _, _, _, _, _, _, _, rfl, _⟩ := h; rfl) | (obtain ⟨_, _, _, _, _, _, _, _, _, _, _, rfl, _⟩ := h; rfl) | (obtain ⟨_, _, _, _, _, _, _, _, _, _, _, _, rfl, _⟩ := h; rfl) | (obtain ⟨_, _, _, _, _, _, _, _, _, _, _, _, _, rfl, _⟩ := h; rfl) | (obtain ⟨_, _, _, _, _, _, _, _, _, _, _, _, _, _, rfl, _⟩ := h; rfl) | (obtain ⟨_, _, _, _, _, _, _, _, _, _, _, _, _, _, _, rfl, _⟩ := h; rfl) | (obtain ⟨_, _, _, _, _, _, _, _, _, _, _, _, _, _, _, _, rfl, _⟩ := h; rfl)) (fun cdv A outer s H vs Q E hr h => ⟨_, tie_cut_calls T hr, pure_cut_calls T D.shapes h⟩)
theorem cal_cut_needs (T : Top K mg) (d : ∃ f fd, C8.Def K mg "cut_needs" s_cut_needs f fd ∧ Binds K fd P_cut_needs []) :
    C8.Cal P w K mg base 1 "cut_needs" (sp_cut_needs) [] := by
  obtain ⟨f, fd, F, b⟩ := d
  refine C8.cal0 (k := 0) F b .nil sc_cut_needs (fun vs H Q E h => by
    first | (obtain ⟨_, rfl, _⟩ := h; rfl) | (obtain ⟨_, _, rfl, _⟩ := h; rfl) | (obtain ⟨_, _, _, rfl, _⟩ := h; rfl) | (obtain ⟨_, _, _, _, rfl, _⟩ := h; rfl) | (obtain ⟨_, _, _, _, _, rfl, _⟩ := h; rfl) | (obtain ⟨_, _, _, _, _, _, rfl, _⟩ := h; rfl) | (obtain ⟨_, _, _, _, _, _, _, rfl, _⟩ := h; rfl) | (obtain ⟨_, _, _, _, _, _, _, _, rfl, _⟩ := h; rfl) | (obtain ⟨_, _, _, _, _, _, _, _, _, rfl, _⟩ := h; rfl) | (obtain ⟨_, _, _, _, _, _, _, _, _, _, rfl, _⟩ := h; rfl) | (obtain ⟨_, _, _, _, _, _, _, _, _, _, _, rfl, _⟩ := h; rfl) | (obtain ⟨_, _, _, _, _, _, _, _, _, _, _, _, rfl, _⟩ := h; rfl) | (obtain ⟨_, _, _, _, _, _, _, _, _, _, _, _, _, rfl, _⟩ := h; rfl) | (obtain ⟨_, _, _, _, _, _, _, _, _, _, _, _, _, _, rfl, _⟩ := h; rfl) | (obtain ⟨_, _, _, _, _, _, _, _, _, _, _, _, _, _, _, rfl, _⟩ := h; rfl) | (obtain ⟨_, _, _, _, _, _, _, _, _, _, _, _, _, _, _, _, rfl, _⟩ := h; rfl)) (fun cdv A outer s H vs Q E hr h => ⟨_, tie_cut_needs T hr, pure_cut_needs T h⟩)
theorem cal_is_list_within (T : Top K mg) (d : ∃ f fd, C8.Def K mg "is_list_within" s_is_list_within f fd ∧ Binds K fd P_is_list_within []) :
    C8.Cal P w K mg base 1 "is_list_within" (sp_is_list_within) [] := by
  obtain ⟨f, fd, F, b⟩ := d
  refine C8.cal0 (k := 0) F b .nil sc_is_list_within (fun vs H Q E h => by
    first | (obtain ⟨_, rfl, _⟩ := h; rfl) | (obtain ⟨_, _, rfl, _⟩ := h; rfl) | (obtain ⟨_, _, _, rfl, _⟩ := h; rfl) | (obtain ⟨_, _, _, _, rfl, _⟩ := h; rfl) | (obtain ⟨_, _, _, _, _, rfl, _⟩ := h; rfl) | (obtain ⟨_, _, _, _, _, _, rfl, _⟩ := h; rfl) | (obtain ⟨_, _, _, _, _, _, _, rfl, _⟩ := h; rfl) | (obtain ⟨_, _, _, _, _, _, _, _, rfl, _⟩ := h; rfl) | (obtain ⟨_, _, _, _, _, _, _, _, _, rfl, _⟩ := h; rfl) | (obtain ⟨_, _, _, _, _, _, _, _, _, _, rfl, _⟩ := h; rfl) | (obtain ⟨_, _, _, _, _, _, _, _, _, _, _, rfl, _⟩ := h; rfl) | (obtain ⟨_, _, _, _, _, _, _, _, _, _, _, _, rfl, _⟩ := h; rfl) | (obtain ⟨_, _, _, _, _, _, _, _, _, _, _, _, _, rfl, _⟩ := h; rfl) | (obtain ⟨_, _, _, _, _, _, _, _, _, _, _, _, _, _, rfl, _⟩ := h; rfl) | (obtain ⟨_, _, _, _, _, _, _, _, _, _, _, _, _, _, _, rfl, _⟩ := h; rfl) | (obtain ⟨_, _, _, _, _, _, _, _, _, _, _, _, _, _, _, _, rfl, _⟩ := h; rfl)) (fun cdv A outer s H vs Q E hr h => ⟨_, tie_is_list_within T hr, pure_is_list_within T h⟩)
theorem cal_is_rising (T : Top K mg) (d : ∃ f fd, C8.Def K mg "is_rising" s_is_rising f fd ∧ Binds K fd P_is_rising []) :
    C8.Cal P w K mg base 1 "is_rising" (sp_is_rising) [] := by
  obtain ⟨f, fd, F, b⟩ := d
  refine C8.cal0 (k := 0) F b .nil sc_is_rising (fun vs H Q E h => by
    first | (obtain ⟨_, rfl, _⟩ := h; rfl) | (obtain ⟨_, _, rfl, _⟩ := h; rfl) | (obtain ⟨_, _, _, rfl, _⟩ := h; rfl) | (obtain ⟨_, _, _, _, rfl, _⟩ := h; rfl) | (obtain ⟨_, _, _, _, _, rfl, _⟩ := h; rfl) | (obtain ⟨_, _, _, _, _, _, rfl, _⟩ := h; rfl) | (obtain ⟨_, _, _, _, _, _, _, rfl, _⟩ := h; rfl) | (obtain ⟨_, _, _, _, _, _, _, _, rfl, _⟩ := h; rfl) | (obtain ⟨_, _, _, _, _, _, _, _, _, rfl, _⟩ := h; rfl) | (obtain ⟨_, _, _, _, _, _, _, _, _, _, rfl, _⟩ := h; rfl) | (obtain ⟨_, _, _, _, _, _, _, _, _, _, _, rfl, _⟩ := h; rfl) | (obtain ⟨_, _, _, _, _, _, _, _, _, _, _, _, rfl, _⟩ := h; rfl) | (obtain ⟨_, _, _, _, _, _, _, _, _, _, _, _, _, rfl, _⟩ := h; rfl) | (obtain ⟨_, _, _, _, _, _, _, _, _, _, _, _, _, _, rfl, _⟩ := h; rfl) | (obtain ⟨_, _, _, _, _, _, _, _, _, _, _, _, _, _, _, rfl, _⟩ := h; rfl) | (obtain ⟨_, _, _, _, _, _, _, _, _, _, _, _, _, _, _, _, rfl, _⟩ := h; rfl)) (fun cdv A outer s H vs Q E hr h => ⟨_, tie_is_rising T hr, pure_is_rising T h⟩)
theorem cal_is_deed_number (T : Top K mg) (d : ∃ f fd, C8.Def K mg "is_deed_number" s_is_deed_number f fd ∧ Binds K fd P_is_deed_number []) :
    C8.Cal P w K mg base 1 "is_deed_number" (sp_is_deed_number) [] := by
  obtain ⟨f, fd, F, b⟩ := d
  refine C8.cal0 (k := 0) F b .nil sc_is_deed_number (fun vs H Q E h => by
    first | (obtain ⟨_, rfl, _⟩ := h; rfl) | (obtain ⟨_, _, rfl, _⟩ := h; rfl) | (obtain ⟨_, _, _, rfl, _⟩ := h; rfl) | (obtain ⟨_, _, _, _, rfl, _⟩ := h; rfl) | (obtain ⟨_, _, _, _, _, rfl, _⟩ := h; rfl) | (obtain ⟨_, _, _, _, _, _, rfl, _⟩ := h; rfl) | (obtain ⟨_, _, _, _, _, _, _, rfl, _⟩ := h; rfl) | (obtain ⟨_, _, _, _, _, _, _, _, rfl, _⟩ := h; rfl) | (obtain ⟨_, _, _, _, _, _, _, _, _, rfl, _⟩ := h; rfl) | (obtain ⟨_, _, _, _, _, _, _, _, _, _, rfl, _⟩ := h; rfl) | (obtain ⟨_, _, _, _, _, _, _, _, _, _, _, rfl, _⟩ := h; rfl) | (obtain ⟨_, _, _, _, _, _, _, _, _, _, _, _, rfl, _⟩ := h; rfl) | (obtain ⟨_, _, _, _, _, _, _, _, _, _, _, _, _, rfl, _⟩ := h; rfl) | (obtain ⟨_, _, _, _, _, _, _, _, _, _, _, _, _, _, rfl, _⟩ := h; rfl) | (obtain ⟨_, _, _, _, _, _, _, _, _, _, _, _, _, _, _, rfl, _⟩ := h; rfl) | (obtain ⟨_, _, _, _, _, _, _, _, _, _, _, _, _, _, _, _, rfl, _⟩ := h; rfl)) (fun cdv A outer s H vs Q E hr h => ⟨_, tie_is_deed_number T hr, pure_is_deed_number T h⟩)
theorem cal_refuse_house (T : Top K mg) (d : ∃ f fd, C8.Def K mg "refuse_house" s_refuse_house f fd ∧ Binds K fd P_refuse_house []) (C_is_list_within : C8.Cal P w K mg base 1 "is_list_within" (sp_is_list_within) []) :
    C8.Cal P w K mg base 2 "refuse_house" (sp_refuse_house mg) [] := by
  obtain ⟨f, fd, F, b⟩ := d
  refine C8.cal0 (k := 1) F b .nil sc_refuse_house (fun vs H Q E h => by
    first | (obtain ⟨_, rfl, _⟩ := h; rfl) | (obtain ⟨_, _, rfl, _⟩ := h; rfl) | (obtain ⟨_, _, _, rfl, _⟩ := h; rfl) | (obtain ⟨_, _, _, _, rfl, _⟩ := h; rfl) | (obtain ⟨_, _, _, _, _, rfl, _⟩ := h; rfl) | (obtain ⟨_, _, _, _, _, _, rfl, _⟩ := h; rfl) | (obtain ⟨_, _, _, _, _, _, _, rfl, _⟩ := h; rfl) | (obtain ⟨_, _, _, _, _, _, _, _, rfl, _⟩ := h; rfl) | (obtain ⟨_, _, _, _, _, _, _, _, _, rfl, _⟩ := h; rfl) | (obtain ⟨_, _, _, _, _, _, _, _, _, _, rfl, _⟩ := h; rfl) | (obtain ⟨_, _, _, _, _, _, _, _, _, _, _, rfl, _⟩ := h; rfl) | (obtain ⟨_, _, _, _, _, _, _, _, _, _, _, _, rfl, _⟩ := h; rfl) | (obtain ⟨_, _, _, _, _, _, _, _, _, _, _, _, _, rfl, _⟩ := h; rfl) | (obtain ⟨_, _, _, _, _, _, _, _, _, _, _, _, _, _, rfl, _⟩ := h; rfl) | (obtain ⟨_, _, _, _, _, _, _, _, _, _, _, _, _, _, _, rfl, _⟩ := h; rfl) | (obtain ⟨_, _, _, _, _, _, _, _, _, _, _, _, _, _, _, _, rfl, _⟩ := h; rfl)) (fun cdv A outer s H vs Q E hr h => ⟨_, tie_refuse_house T C_is_list_within hr, pure_refuse_house T h⟩)
theorem cal_is_deed_as_told (T : Top K mg) (d : ∃ f fd, C8.Def K mg "is_deed_as_told" s_is_deed_as_told f fd ∧ Binds K fd P_is_deed_as_told []) (C_is_list_within : C8.Cal P w K mg base 1 "is_list_within" (sp_is_list_within) []) (C_is_rising : C8.Cal P w K mg base 1 "is_rising" (sp_is_rising) []) :
    C8.Cal P w K mg base 2 "is_deed_as_told" (sp_is_deed_as_told) [] := by
  obtain ⟨f, fd, F, b⟩ := d
  refine C8.cal0 (k := 1) F b .nil sc_is_deed_as_told (fun vs H Q E h => by
    first | (obtain ⟨_, rfl, _⟩ := h; rfl) | (obtain ⟨_, _, rfl, _⟩ := h; rfl) | (obtain ⟨_, _, _, rfl, _⟩ := h; rfl) | (obtain ⟨_, _, _, _, rfl, _⟩ := h; rfl) | (obtain ⟨_, _, _, _, _, rfl, _⟩ := h; rfl) | (obtain ⟨_, _, _, _, _, _, rfl, _⟩ := h; rfl) | (obtain ⟨_, _, _, _, _, _, _, rfl, _⟩ := h; rfl) | (obtain ⟨_, _, _, _, _, _, _, _, rfl, _⟩ := h; rfl) | (obtain ⟨_, _, _, _, _, _, _, _, _, rfl, _⟩ := h; rfl) | (obtain ⟨_, _, _, _, _, _, _, _, _, _, rfl, _⟩ := h; rfl) | (obtain ⟨_, _, _, _, _, _, _, _, _, _, _, rfl, _⟩ := h; rfl) | (obtain ⟨_, _, _, _, _, _, _, _, _, _, _, _, rfl, _⟩ := h; rfl) | (obtain ⟨_, _, _, _, _, _, _, _, _, _, _, _, _, rfl, _⟩ := h; rfl) | (obtain ⟨_, _, _, _, _, _, _, _, _, _, _, _, _, _, rfl, _⟩ := h; rfl) | (obtain ⟨_, _, _, _, _, _, _, _, _, _, _, _, _, _, _, rfl, _⟩ := h; rfl) | (obtain ⟨_, _, _, _, _, _, _, _, _, _, _, _, _, _, _, _, rfl, _⟩ := h; rfl)) (fun cdv A outer s H vs Q E hr h => ⟨_, tie_is_deed_as_told T C_is_list_within C_is_rising hr, pure_is_deed_as_told T h⟩)
theorem cal_refuse_deed (T : Top K mg) (d : ∃ f fd, C8.Def K mg "refuse_deed" s_refuse_deed f fd ∧ Binds K fd P_refuse_deed []) (C_is_deed_as_told : C8.Cal P w K mg base 2 "is_deed_as_told" (sp_is_deed_as_told) []) :
    C8.Cal P w K mg base 3 "refuse_deed" (sp_refuse_deed mg) [] := by
  obtain ⟨f, fd, F, b⟩ := d
  refine C8.cal0 (k := 2) F b .nil sc_refuse_deed (fun vs H Q E h => by
    first | (obtain ⟨_, rfl, _⟩ := h; rfl) | (obtain ⟨_, _, rfl, _⟩ := h; rfl) | (obtain ⟨_, _, _, rfl, _⟩ := h; rfl) | (obtain ⟨_, _, _, _, rfl, _⟩ := h; rfl) | (obtain ⟨_, _, _, _, _, rfl, _⟩ := h; rfl) | (obtain ⟨_, _, _, _, _, _, rfl, _⟩ := h; rfl) | (obtain ⟨_, _, _, _, _, _, _, rfl, _⟩ := h; rfl) | (obtain ⟨_, _, _, _, _, _, _, _, rfl, _⟩ := h; rfl) | (obtain ⟨_, _, _, _, _, _, _, _, _, rfl, _⟩ := h; rfl) | (obtain ⟨_, _, _, _, _, _, _, _, _, _, rfl, _⟩ := h; rfl) | (obtain ⟨_, _, _, _, _, _, _, _, _, _, _, rfl, _⟩ := h; rfl) | (obtain ⟨_, _, _, _, _, _, _, _, _, _, _, _, rfl, _⟩ := h; rfl) | (obtain ⟨_, _, _, _, _, _, _, _, _, _, _, _, _, rfl, _⟩ := h; rfl) | (obtain ⟨_, _, _, _, _, _, _, _, _, _, _, _, _, _, rfl, _⟩ := h; rfl) | (obtain ⟨_, _, _, _, _, _, _, _, _, _, _, _, _, _, _, rfl, _⟩ := h; rfl) | (obtain ⟨_, _, _, _, _, _, _, _, _, _, _, _, _, _, _, _, rfl, _⟩ := h; rfl)) (fun cdv A outer s H vs Q E hr h => ⟨_, tie_refuse_deed T C_is_deed_as_told hr, pure_refuse_deed T h⟩)
theorem cal_refuse_act (T : Top K mg) (d : ∃ f fd, C8.Def K mg "refuse_act" s_refuse_act f fd ∧ Binds K fd P_refuse_act []) (C_is_deed_number : C8.Cal P w K mg base 1 "is_deed_number" (sp_is_deed_number) []) (C_kinds_for : C8.Cal P w K mg base 3 "kinds_for" (sp_kinds_for mg) []) :
    C8.Cal P w K mg base 4 "refuse_act" (sp_refuse_act mg) [] := by
  obtain ⟨f, fd, F, b⟩ := d
  refine C8.cal0 (k := 3) F b .nil sc_refuse_act (fun vs H Q E h => by
    first | (obtain ⟨_, rfl, _⟩ := h; rfl) | (obtain ⟨_, _, rfl, _⟩ := h; rfl) | (obtain ⟨_, _, _, rfl, _⟩ := h; rfl) | (obtain ⟨_, _, _, _, rfl, _⟩ := h; rfl) | (obtain ⟨_, _, _, _, _, rfl, _⟩ := h; rfl) | (obtain ⟨_, _, _, _, _, _, rfl, _⟩ := h; rfl) | (obtain ⟨_, _, _, _, _, _, _, rfl, _⟩ := h; rfl) | (obtain ⟨_, _, _, _, _, _, _, _, rfl, _⟩ := h; rfl) | (obtain ⟨_, _, _, _, _, _, _, _, _, rfl, _⟩ := h; rfl) | (obtain ⟨_, _, _, _, _, _, _, _, _, _, rfl, _⟩ := h; rfl) | (obtain ⟨_, _, _, _, _, _, _, _, _, _, _, rfl, _⟩ := h; rfl) | (obtain ⟨_, _, _, _, _, _, _, _, _, _, _, _, rfl, _⟩ := h; rfl) | (obtain ⟨_, _, _, _, _, _, _, _, _, _, _, _, _, rfl, _⟩ := h; rfl) | (obtain ⟨_, _, _, _, _, _, _, _, _, _, _, _, _, _, rfl, _⟩ := h; rfl) | (obtain ⟨_, _, _, _, _, _, _, _, _, _, _, _, _, _, _, rfl, _⟩ := h; rfl) | (obtain ⟨_, _, _, _, _, _, _, _, _, _, _, _, _, _, _, _, rfl, _⟩ := h; rfl)) (fun cdv A outer s H vs Q E hr h => ⟨_, tie_refuse_act T C_is_deed_number C_kinds_for hr, pure_refuse_act T h⟩)
theorem cal_refuse_bare (T : Top K mg) (d : ∃ f fd, C8.Def K mg "refuse_bare" s_refuse_bare f fd ∧ Binds K fd P_refuse_bare []) :
    C8.Cal P w K mg base 1 "refuse_bare" (sp_refuse_bare mg) [] := by
  obtain ⟨f, fd, F, b⟩ := d
  refine C8.cal0 (k := 0) F b .nil sc_refuse_bare (fun vs H Q E h => by
    first | (obtain ⟨_, rfl, _⟩ := h; rfl) | (obtain ⟨_, _, rfl, _⟩ := h; rfl) | (obtain ⟨_, _, _, rfl, _⟩ := h; rfl) | (obtain ⟨_, _, _, _, rfl, _⟩ := h; rfl) | (obtain ⟨_, _, _, _, _, rfl, _⟩ := h; rfl) | (obtain ⟨_, _, _, _, _, _, rfl, _⟩ := h; rfl) | (obtain ⟨_, _, _, _, _, _, _, rfl, _⟩ := h; rfl) | (obtain ⟨_, _, _, _, _, _, _, _, rfl, _⟩ := h; rfl) | (obtain ⟨_, _, _, _, _, _, _, _, _, rfl, _⟩ := h; rfl) | (obtain ⟨_, _, _, _, _, _, _, _, _, _, rfl, _⟩ := h; rfl) | (obtain ⟨_, _, _, _, _, _, _, _, _, _, _, rfl, _⟩ := h; rfl) | (obtain ⟨_, _, _, _, _, _, _, _, _, _, _, _, rfl, _⟩ := h; rfl) | (obtain ⟨_, _, _, _, _, _, _, _, _, _, _, _, _, rfl, _⟩ := h; rfl) | (obtain ⟨_, _, _, _, _, _, _, _, _, _, _, _, _, _, rfl, _⟩ := h; rfl) | (obtain ⟨_, _, _, _, _, _, _, _, _, _, _, _, _, _, _, rfl, _⟩ := h; rfl) | (obtain ⟨_, _, _, _, _, _, _, _, _, _, _, _, _, _, _, _, rfl, _⟩ := h; rfl)) (fun cdv A outer s H vs Q E hr h => ⟨_, tie_refuse_bare T hr, pure_refuse_bare T h⟩)
theorem cal_refuse_accepts (T : Top K mg) (d : ∃ f fd, C8.Def K mg "refuse_accepts" s_refuse_accepts f fd ∧ Binds K fd P_refuse_accepts []) (C_is_list_within : C8.Cal P w K mg base 1 "is_list_within" (sp_is_list_within) []) (C_refuse_bare : C8.Cal P w K mg base 1 "refuse_bare" (sp_refuse_bare mg) []) :
    C8.Cal P w K mg base 2 "refuse_accepts" (sp_refuse_accepts mg) [] := by
  obtain ⟨f, fd, F, b⟩ := d
  refine C8.cal0 (k := 1) F b .nil sc_refuse_accepts (fun vs H Q E h => by
    first | (obtain ⟨_, rfl, _⟩ := h; rfl) | (obtain ⟨_, _, rfl, _⟩ := h; rfl) | (obtain ⟨_, _, _, rfl, _⟩ := h; rfl) | (obtain ⟨_, _, _, _, rfl, _⟩ := h; rfl) | (obtain ⟨_, _, _, _, _, rfl, _⟩ := h; rfl) | (obtain ⟨_, _, _, _, _, _, rfl, _⟩ := h; rfl) | (obtain ⟨_, _, _, _, _, _, _, rfl, _⟩ := h; rfl) | (obtain ⟨_, _, _, _, _, _, _, _, rfl, _⟩ := h; rfl) | (obtain ⟨_, _, _, _, _, _, _, _, _, rfl, _⟩ := h; rfl) | (obtain ⟨_, _, _, _, _, _, _, _, _, _, rfl, _⟩ := h; rfl) | (obtain ⟨_, _, _, _, _, _, _, _, _, _, _, rfl, _⟩ := h; rfl) | (obtain ⟨_, _, _, _, _, _, _, _, _, _, _, _, rfl, _⟩ := h; rfl) | (obtain ⟨_, _, _, _, _, _, _, _, _, _, _, _, _, rfl, _⟩ := h; rfl) | (obtain ⟨_, _, _, _, _, _, _, _, _, _, _, _, _, _, rfl, _⟩ := h; rfl) | (obtain ⟨_, _, _, _, _, _, _, _, _, _, _, _, _, _, _, rfl, _⟩ := h; rfl) | (obtain ⟨_, _, _, _, _, _, _, _, _, _, _, _, _, _, _, _, rfl, _⟩ := h; rfl)) (fun cdv A outer s H vs Q E hr h => ⟨_, tie_refuse_accepts T C_is_list_within C_refuse_bare hr, pure_refuse_accepts T h⟩)
theorem cal_refuse_sure (T : Top K mg) (d : ∃ f fd, C8.Def K mg "refuse_sure" s_refuse_sure f fd ∧ Binds K fd P_refuse_sure []) (C_is_deed_number : C8.Cal P w K mg base 1 "is_deed_number" (sp_is_deed_number) []) (C_is_list_within : C8.Cal P w K mg base 1 "is_list_within" (sp_is_list_within) []) (C_is_rising : C8.Cal P w K mg base 1 "is_rising" (sp_is_rising) []) :
    C8.Cal P w K mg base 2 "refuse_sure" (sp_refuse_sure mg) [] := by
  obtain ⟨f, fd, F, b⟩ := d
  refine C8.cal0 (k := 1) F b .nil sc_refuse_sure (fun vs H Q E h => by
    first | (obtain ⟨_, rfl, _⟩ := h; rfl) | (obtain ⟨_, _, rfl, _⟩ := h; rfl) | (obtain ⟨_, _, _, rfl, _⟩ := h; rfl) | (obtain ⟨_, _, _, _, rfl, _⟩ := h; rfl) | (obtain ⟨_, _, _, _, _, rfl, _⟩ := h; rfl) | (obtain ⟨_, _, _, _, _, _, rfl, _⟩ := h; rfl) | (obtain ⟨_, _, _, _, _, _, _, rfl, _⟩ := h; rfl) | (obtain ⟨_, _, _, _, _, _, _, _, rfl, _⟩ := h; rfl) | (obtain ⟨_, _, _, _, _, _, _, _, _, rfl, _⟩ := h; rfl) | (obtain ⟨_, _, _, _, _, _, _, _, _, _, rfl, _⟩ := h; rfl) | (obtain ⟨_, _, _, _, _, _, _, _, _, _, _, rfl, _⟩ := h; rfl) | (obtain ⟨_, _, _, _, _, _, _, _, _, _, _, _, rfl, _⟩ := h; rfl) | (obtain ⟨_, _, _, _, _, _, _, _, _, _, _, _, _, rfl, _⟩ := h; rfl) | (obtain ⟨_, _, _, _, _, _, _, _, _, _, _, _, _, _, rfl, _⟩ := h; rfl) | (obtain ⟨_, _, _, _, _, _, _, _, _, _, _, _, _, _, _, rfl, _⟩ := h; rfl) | (obtain ⟨_, _, _, _, _, _, _, _, _, _, _, _, _, _, _, _, rfl, _⟩ := h; rfl)) (fun cdv A outer s H vs Q E hr h => ⟨_, tie_refuse_sure T C_is_deed_number C_is_list_within C_is_rising hr, pure_refuse_sure T h⟩)
theorem cal_refuse_bound (T : Top K mg) (d : ∃ f fd, C8.Def K mg "refuse_bound" s_refuse_bound f fd ∧ Binds K fd P_refuse_bound []) (C_is_list_within : C8.Cal P w K mg base 1 "is_list_within" (sp_is_list_within) []) (C_is_rising : C8.Cal P w K mg base 1 "is_rising" (sp_is_rising) []) :
    C8.Cal P w K mg base 2 "refuse_bound" (sp_refuse_bound mg) [] := by
  obtain ⟨f, fd, F, b⟩ := d
  refine C8.cal0 (k := 1) F b .nil sc_refuse_bound (fun vs H Q E h => by
    first | (obtain ⟨_, rfl, _⟩ := h; rfl) | (obtain ⟨_, _, rfl, _⟩ := h; rfl) | (obtain ⟨_, _, _, rfl, _⟩ := h; rfl) | (obtain ⟨_, _, _, _, rfl, _⟩ := h; rfl) | (obtain ⟨_, _, _, _, _, rfl, _⟩ := h; rfl) | (obtain ⟨_, _, _, _, _, _, rfl, _⟩ := h; rfl) | (obtain ⟨_, _, _, _, _, _, _, rfl, _⟩ := h; rfl) | (obtain ⟨_, _, _, _, _, _, _, _, rfl, _⟩ := h; rfl) | (obtain ⟨_, _, _, _, _, _, _, _, _, rfl, _⟩ := h; rfl) | (obtain ⟨_, _, _, _, _, _, _, _, _, _, rfl, _⟩ := h; rfl) | (obtain ⟨_, _, _, _, _, _, _, _, _, _, _, rfl, _⟩ := h; rfl) | (obtain ⟨_, _, _, _, _, _, _, _, _, _, _, _, rfl, _⟩ := h; rfl) | (obtain ⟨_, _, _, _, _, _, _, _, _, _, _, _, _, rfl, _⟩ := h; rfl) | (obtain ⟨_, _, _, _, _, _, _, _, _, _, _, _, _, _, rfl, _⟩ := h; rfl) | (obtain ⟨_, _, _, _, _, _, _, _, _, _, _, _, _, _, _, rfl, _⟩ := h; rfl) | (obtain ⟨_, _, _, _, _, _, _, _, _, _, _, _, _, _, _, _, rfl, _⟩ := h; rfl)) (fun cdv A outer s H vs Q E hr h => ⟨_, tie_refuse_bound T C_is_list_within C_is_rising hr, pure_refuse_bound T h⟩)
theorem cal_refuse_deed_number (T : Top K mg) (d : ∃ f fd, C8.Def K mg "refuse_deed_number" s_refuse_deed_number f fd ∧ Binds K fd P_refuse_deed_number []) (C_is_deed_number : C8.Cal P w K mg base 1 "is_deed_number" (sp_is_deed_number) []) :
    C8.Cal P w K mg base 2 "refuse_deed_number" (sp_refuse_deed_number mg) [] := by
  obtain ⟨f, fd, F, b⟩ := d
  refine C8.cal0 (k := 1) F b .nil sc_refuse_deed_number (fun vs H Q E h => by
    first | (obtain ⟨_, rfl, _⟩ := h; rfl) | (obtain ⟨_, _, rfl, _⟩ := h; rfl) | (obtain ⟨_, _, _, rfl, _⟩ := h; rfl) | (obtain ⟨_, _, _, _, rfl, _⟩ := h; rfl) | (obtain ⟨_, _, _, _, _, rfl, _⟩ := h; rfl) | (obtain ⟨_, _, _, _, _, _, rfl, _⟩ := h; rfl) | (obtain ⟨_, _, _, _, _, _, _, rfl, _⟩ := h; rfl) | (obtain ⟨_, _, _, _, _, _, _, _, rfl, _⟩ := h; rfl) | (obtain ⟨_, _, _, _, _, _, _, _, _, rfl, _⟩ := h; rfl) | (obtain ⟨_, _, _, _, _, _, _, _, _, _, rfl, _⟩ := h; rfl) | (obtain ⟨_, _, _, _, _, _, _, _, _, _, _, rfl, _⟩ := h; rfl) | (obtain ⟨_, _, _, _, _, _, _, _, _, _, _, _, rfl, _⟩ := h; rfl) | (obtain ⟨_, _, _, _, _, _, _, _, _, _, _, _, _, rfl, _⟩ := h; rfl) | (obtain ⟨_, _, _, _, _, _, _, _, _, _, _, _, _, _, rfl, _⟩ := h; rfl) | (obtain ⟨_, _, _, _, _, _, _, _, _, _, _, _, _, _, _, rfl, _⟩ := h; rfl) | (obtain ⟨_, _, _, _, _, _, _, _, _, _, _, _, _, _, _, _, rfl, _⟩ := h; rfl)) (fun cdv A outer s H vs Q E hr h => ⟨_, tie_refuse_deed_number T C_is_deed_number hr, pure_refuse_deed_number T h⟩)
theorem cal_refusal_of (T : Top K mg) (D : Dicts K mg) (d : ∃ f fd, C8.Def K mg "refusal_of" s_refusal_of f fd ∧ Binds K fd P_refusal_of []) (D_refuse : ∀ f sp, (dynR mg) f sp → Held P w K mg base 4 f sp) :
    C8.Cal P w K mg base 5 "refusal_of" (sp_refusal_of mg) [] := by
  obtain ⟨f, fd, F, b⟩ := d
  refine C8.cal0 (k := 4) F b .nil sc_refusal_of (fun vs H Q E h => by
    first | (obtain ⟨_, rfl, _⟩ := h; rfl) | (obtain ⟨_, _, rfl, _⟩ := h; rfl) | (obtain ⟨_, _, _, rfl, _⟩ := h; rfl) | (obtain ⟨_, _, _, _, rfl, _⟩ := h; rfl) | (obtain ⟨_, _, _, _, _, rfl, _⟩ := h; rfl) | (obtain ⟨_, _, _, _, _, _, rfl, _⟩ := h; rfl) | (obtain ⟨_, _, _, _, _, _, _, rfl, _⟩ := h; rfl) | (obtain ⟨_, _, _, _, _, _, _, _, rfl, _⟩ := h; rfl) | (obtain ⟨_, _, _, _, _, _, _, _, _, rfl, _⟩ := h; rfl) | (obtain ⟨_, _, _, _, _, _, _, _, _, _, rfl, _⟩ := h; rfl) | (obtain ⟨_, _, _, _, _, _, _, _, _, _, _, rfl, _⟩ := h; rfl) | (obtain ⟨_, _, _, _, _, _, _, _, _, _, _, _, rfl, _⟩ := h; rfl) | (obtain ⟨_, _, _, _, _, _, _, _, _, _, _, _, _, rfl, _⟩ := h; rfl) | (obtain ⟨_, _, _, _, _, _, _, _, _, _, _, _, _, _, rfl, _⟩ := h; rfl) | (obtain ⟨_, _, _, _, _, _, _, _, _, _, _, _, _, _, _, rfl, _⟩ := h; rfl) | (obtain ⟨_, _, _, _, _, _, _, _, _, _, _, _, _, _, _, _, rfl, _⟩ := h; rfl)) (fun cdv A outer s H vs Q E hr h => ⟨_, tie_refusal_of T D_refuse hr, pure_refusal_of T D h⟩)
theorem cal_count_all (T : Top K mg) (d : ∃ f fd, C8.Def K mg "count_all" s_count_all f fd ∧ Binds K fd P_count_all []) (C_count_things : C8.Cal P w K mg base 1 "count_things" (sp_count_things mg) []) :
    C8.Cal P w K mg base 2 "count_all" (sp_count_all mg) [] := by
  obtain ⟨f, fd, F, b⟩ := d
  refine C8.cal0 (k := 1) F b .nil sc_count_all (fun vs H Q E h => by
    first | (obtain ⟨_, rfl, _⟩ := h; rfl) | (obtain ⟨_, _, rfl, _⟩ := h; rfl) | (obtain ⟨_, _, _, rfl, _⟩ := h; rfl) | (obtain ⟨_, _, _, _, rfl, _⟩ := h; rfl) | (obtain ⟨_, _, _, _, _, rfl, _⟩ := h; rfl) | (obtain ⟨_, _, _, _, _, _, rfl, _⟩ := h; rfl) | (obtain ⟨_, _, _, _, _, _, _, rfl, _⟩ := h; rfl) | (obtain ⟨_, _, _, _, _, _, _, _, rfl, _⟩ := h; rfl) | (obtain ⟨_, _, _, _, _, _, _, _, _, rfl, _⟩ := h; rfl) | (obtain ⟨_, _, _, _, _, _, _, _, _, _, rfl, _⟩ := h; rfl) | (obtain ⟨_, _, _, _, _, _, _, _, _, _, _, rfl, _⟩ := h; rfl) | (obtain ⟨_, _, _, _, _, _, _, _, _, _, _, _, rfl, _⟩ := h; rfl) | (obtain ⟨_, _, _, _, _, _, _, _, _, _, _, _, _, rfl, _⟩ := h; rfl) | (obtain ⟨_, _, _, _, _, _, _, _, _, _, _, _, _, _, rfl, _⟩ := h; rfl) | (obtain ⟨_, _, _, _, _, _, _, _, _, _, _, _, _, _, _, rfl, _⟩ := h; rfl) | (obtain ⟨_, _, _, _, _, _, _, _, _, _, _, _, _, _, _, _, rfl, _⟩ := h; rfl)) (fun cdv A outer s H vs Q E hr h => ⟨_, tie_count_all T C_count_things hr, pure_count_all T h⟩)
theorem cal_put_in (T : Top K mg) (d : ∃ f fd, C8.Def K mg "put_in" s_put_in f fd ∧ Binds K fd P_put_in []) :
    C8.Cal P w K mg base 1 "put_in" (sp_put_in mg) [] := by
  obtain ⟨f, fd, F, b⟩ := d
  refine C8.cal0 (k := 0) F b .nil sc_put_in (fun vs H Q E h => by
    first | (obtain ⟨_, rfl, _⟩ := h; rfl) | (obtain ⟨_, _, rfl, _⟩ := h; rfl) | (obtain ⟨_, _, _, rfl, _⟩ := h; rfl) | (obtain ⟨_, _, _, _, rfl, _⟩ := h; rfl) | (obtain ⟨_, _, _, _, _, rfl, _⟩ := h; rfl) | (obtain ⟨_, _, _, _, _, _, rfl, _⟩ := h; rfl) | (obtain ⟨_, _, _, _, _, _, _, rfl, _⟩ := h; rfl) | (obtain ⟨_, _, _, _, _, _, _, _, rfl, _⟩ := h; rfl) | (obtain ⟨_, _, _, _, _, _, _, _, _, rfl, _⟩ := h; rfl) | (obtain ⟨_, _, _, _, _, _, _, _, _, _, rfl, _⟩ := h; rfl) | (obtain ⟨_, _, _, _, _, _, _, _, _, _, _, rfl, _⟩ := h; rfl) | (obtain ⟨_, _, _, _, _, _, _, _, _, _, _, _, rfl, _⟩ := h; rfl) | (obtain ⟨_, _, _, _, _, _, _, _, _, _, _, _, _, rfl, _⟩ := h; rfl) | (obtain ⟨_, _, _, _, _, _, _, _, _, _, _, _, _, _, rfl, _⟩ := h; rfl) | (obtain ⟨_, _, _, _, _, _, _, _, _, _, _, _, _, _, _, rfl, _⟩ := h; rfl) | (obtain ⟨_, _, _, _, _, _, _, _, _, _, _, _, _, _, _, _, rfl, _⟩ := h; rfl)) (fun cdv A outer s H vs Q E hr h => ⟨_, tie_put_in T hr, pure_put_in T h⟩)
theorem cal_row_of_kinds (T : Top K mg) (d : ∃ f fd, C8.Def K mg "row_of_kinds" s_row_of_kinds f fd ∧ Binds K fd P_row_of_kinds []) (C_put_in : C8.Cal P w K mg base 1 "put_in" (sp_put_in mg) []) :
    C8.Cal P w K mg base 2 "row_of_kinds" (sp_row_of_kinds mg) [] := by
  obtain ⟨f, fd, F, b⟩ := d
  refine C8.cal0 (k := 1) F b .nil sc_row_of_kinds (fun vs H Q E h => by
    first | (obtain ⟨_, rfl, _⟩ := h; rfl) | (obtain ⟨_, _, rfl, _⟩ := h; rfl) | (obtain ⟨_, _, _, rfl, _⟩ := h; rfl) | (obtain ⟨_, _, _, _, rfl, _⟩ := h; rfl) | (obtain ⟨_, _, _, _, _, rfl, _⟩ := h; rfl) | (obtain ⟨_, _, _, _, _, _, rfl, _⟩ := h; rfl) | (obtain ⟨_, _, _, _, _, _, _, rfl, _⟩ := h; rfl) | (obtain ⟨_, _, _, _, _, _, _, _, rfl, _⟩ := h; rfl) | (obtain ⟨_, _, _, _, _, _, _, _, _, rfl, _⟩ := h; rfl) | (obtain ⟨_, _, _, _, _, _, _, _, _, _, rfl, _⟩ := h; rfl) | (obtain ⟨_, _, _, _, _, _, _, _, _, _, _, rfl, _⟩ := h; rfl) | (obtain ⟨_, _, _, _, _, _, _, _, _, _, _, _, rfl, _⟩ := h; rfl) | (obtain ⟨_, _, _, _, _, _, _, _, _, _, _, _, _, rfl, _⟩ := h; rfl) | (obtain ⟨_, _, _, _, _, _, _, _, _, _, _, _, _, _, rfl, _⟩ := h; rfl) | (obtain ⟨_, _, _, _, _, _, _, _, _, _, _, _, _, _, _, rfl, _⟩ := h; rfl) | (obtain ⟨_, _, _, _, _, _, _, _, _, _, _, _, _, _, _, _, rfl, _⟩ := h; rfl)) (fun cdv A outer s H vs Q E hr h => ⟨_, tie_row_of_kinds T C_put_in hr, pure_row_of_kinds T h⟩)
theorem cal_first_free (T : Top K mg) (d : ∃ f fd, C8.Def K mg "first_free" s_first_free f fd ∧ Binds K fd P_first_free []) :
    C8.Cal P w K mg base 1 "first_free" (sp_first_free) [] := by
  obtain ⟨f, fd, F, b⟩ := d
  refine C8.cal0 (k := 0) F b .nil sc_first_free (fun vs H Q E h => by
    first | (obtain ⟨_, rfl, _⟩ := h; rfl) | (obtain ⟨_, _, rfl, _⟩ := h; rfl) | (obtain ⟨_, _, _, rfl, _⟩ := h; rfl) | (obtain ⟨_, _, _, _, rfl, _⟩ := h; rfl) | (obtain ⟨_, _, _, _, _, rfl, _⟩ := h; rfl) | (obtain ⟨_, _, _, _, _, _, rfl, _⟩ := h; rfl) | (obtain ⟨_, _, _, _, _, _, _, rfl, _⟩ := h; rfl) | (obtain ⟨_, _, _, _, _, _, _, _, rfl, _⟩ := h; rfl) | (obtain ⟨_, _, _, _, _, _, _, _, _, rfl, _⟩ := h; rfl) | (obtain ⟨_, _, _, _, _, _, _, _, _, _, rfl, _⟩ := h; rfl) | (obtain ⟨_, _, _, _, _, _, _, _, _, _, _, rfl, _⟩ := h; rfl) | (obtain ⟨_, _, _, _, _, _, _, _, _, _, _, _, rfl, _⟩ := h; rfl) | (obtain ⟨_, _, _, _, _, _, _, _, _, _, _, _, _, rfl, _⟩ := h; rfl) | (obtain ⟨_, _, _, _, _, _, _, _, _, _, _, _, _, _, rfl, _⟩ := h; rfl) | (obtain ⟨_, _, _, _, _, _, _, _, _, _, _, _, _, _, _, rfl, _⟩ := h; rfl) | (obtain ⟨_, _, _, _, _, _, _, _, _, _, _, _, _, _, _, _, rfl, _⟩ := h; rfl)) (fun cdv A outer s H vs Q E hr h => ⟨_, tie_first_free T hr, pure_first_free T h⟩)
theorem cal_hand_on (T : Top K mg) (d : ∃ f fd, C8.Def K mg "hand_on" s_hand_on f fd ∧ Binds K fd P_hand_on []) :
    C8.Cal P w K mg base 1 "hand_on" (sp_hand_on) [] := by
  obtain ⟨f, fd, F, b⟩ := d
  refine C8.cal0 (k := 0) F b .nil sc_hand_on (fun vs H Q E h => by
    first | (obtain ⟨_, rfl, _⟩ := h; rfl) | (obtain ⟨_, _, rfl, _⟩ := h; rfl) | (obtain ⟨_, _, _, rfl, _⟩ := h; rfl) | (obtain ⟨_, _, _, _, rfl, _⟩ := h; rfl) | (obtain ⟨_, _, _, _, _, rfl, _⟩ := h; rfl) | (obtain ⟨_, _, _, _, _, _, rfl, _⟩ := h; rfl) | (obtain ⟨_, _, _, _, _, _, _, rfl, _⟩ := h; rfl) | (obtain ⟨_, _, _, _, _, _, _, _, rfl, _⟩ := h; rfl) | (obtain ⟨_, _, _, _, _, _, _, _, _, rfl, _⟩ := h; rfl) | (obtain ⟨_, _, _, _, _, _, _, _, _, _, rfl, _⟩ := h; rfl) | (obtain ⟨_, _, _, _, _, _, _, _, _, _, _, rfl, _⟩ := h; rfl) | (obtain ⟨_, _, _, _, _, _, _, _, _, _, _, _, rfl, _⟩ := h; rfl) | (obtain ⟨_, _, _, _, _, _, _, _, _, _, _, _, _, rfl, _⟩ := h; rfl) | (obtain ⟨_, _, _, _, _, _, _, _, _, _, _, _, _, _, rfl, _⟩ := h; rfl) | (obtain ⟨_, _, _, _, _, _, _, _, _, _, _, _, _, _, _, rfl, _⟩ := h; rfl) | (obtain ⟨_, _, _, _, _, _, _, _, _, _, _, _, _, _, _, _, rfl, _⟩ := h; rfl)) (fun cdv A outer s H vs Q E hr h => ⟨_, tie_hand_on T hr, pure_hand_on T h⟩)
theorem cal_told_giving_out (T : Top K mg) (d : ∃ f fd, C8.Def K mg "told_giving_out" s_told_giving_out f fd ∧ Binds K fd P_told_giving_out []) (C_count_all : C8.Cal P w K mg base 2 "count_all" (sp_count_all mg) []) (C_first_free : C8.Cal P w K mg base 1 "first_free" (sp_first_free) []) (C_hand_on : C8.Cal P w K mg base 1 "hand_on" (sp_hand_on) []) (C_row_of_kinds : C8.Cal P w K mg base 2 "row_of_kinds" (sp_row_of_kinds mg) []) :
    C8.Cal P w K mg base 3 "told_giving_out" (sp_told_giving_out mg) [] := by
  obtain ⟨f, fd, F, b⟩ := d
  refine C8.cal0 (k := 2) F b .nil sc_told_giving_out (fun vs H Q E h => by
    first | (obtain ⟨_, rfl, _⟩ := h; rfl) | (obtain ⟨_, _, rfl, _⟩ := h; rfl) | (obtain ⟨_, _, _, rfl, _⟩ := h; rfl) | (obtain ⟨_, _, _, _, rfl, _⟩ := h; rfl) | (obtain ⟨_, _, _, _, _, rfl, _⟩ := h; rfl) | (obtain ⟨_, _, _, _, _, _, rfl, _⟩ := h; rfl) | (obtain ⟨_, _, _, _, _, _, _, rfl, _⟩ := h; rfl) | (obtain ⟨_, _, _, _, _, _, _, _, rfl, _⟩ := h; rfl) | (obtain ⟨_, _, _, _, _, _, _, _, _, rfl, _⟩ := h; rfl) | (obtain ⟨_, _, _, _, _, _, _, _, _, _, rfl, _⟩ := h; rfl) | (obtain ⟨_, _, _, _, _, _, _, _, _, _, _, rfl, _⟩ := h; rfl) | (obtain ⟨_, _, _, _, _, _, _, _, _, _, _, _, rfl, _⟩ := h; rfl) | (obtain ⟨_, _, _, _, _, _, _, _, _, _, _, _, _, rfl, _⟩ := h; rfl) | (obtain ⟨_, _, _, _, _, _, _, _, _, _, _, _, _, _, rfl, _⟩ := h; rfl) | (obtain ⟨_, _, _, _, _, _, _, _, _, _, _, _, _, _, _, rfl, _⟩ := h; rfl) | (obtain ⟨_, _, _, _, _, _, _, _, _, _, _, _, _, _, _, _, rfl, _⟩ := h; rfl)) (fun cdv A outer s H vs Q E hr h => ⟨_, tie_told_giving_out T C_count_all C_first_free C_hand_on C_row_of_kinds hr, pure_told_giving_out T h⟩)
theorem cal_told_set (T : Top K mg) (d : ∃ f fd, C8.Def K mg "told_set" s_told_set f fd ∧ Binds K fd P_told_set []) (C_row_of_kinds : C8.Cal P w K mg base 2 "row_of_kinds" (sp_row_of_kinds mg) []) :
    C8.Cal P w K mg base 3 "told_set" (sp_told_set mg) [] := by
  obtain ⟨f, fd, F, b⟩ := d
  refine C8.cal0 (k := 2) F b .nil sc_told_set (fun vs H Q E h => by
    first | (obtain ⟨_, rfl, _⟩ := h; rfl) | (obtain ⟨_, _, rfl, _⟩ := h; rfl) | (obtain ⟨_, _, _, rfl, _⟩ := h; rfl) | (obtain ⟨_, _, _, _, rfl, _⟩ := h; rfl) | (obtain ⟨_, _, _, _, _, rfl, _⟩ := h; rfl) | (obtain ⟨_, _, _, _, _, _, rfl, _⟩ := h; rfl) | (obtain ⟨_, _, _, _, _, _, _, rfl, _⟩ := h; rfl) | (obtain ⟨_, _, _, _, _, _, _, _, rfl, _⟩ := h; rfl) | (obtain ⟨_, _, _, _, _, _, _, _, _, rfl, _⟩ := h; rfl) | (obtain ⟨_, _, _, _, _, _, _, _, _, _, rfl, _⟩ := h; rfl) | (obtain ⟨_, _, _, _, _, _, _, _, _, _, _, rfl, _⟩ := h; rfl) | (obtain ⟨_, _, _, _, _, _, _, _, _, _, _, _, rfl, _⟩ := h; rfl) | (obtain ⟨_, _, _, _, _, _, _, _, _, _, _, _, _, rfl, _⟩ := h; rfl) | (obtain ⟨_, _, _, _, _, _, _, _, _, _, _, _, _, _, rfl, _⟩ := h; rfl) | (obtain ⟨_, _, _, _, _, _, _, _, _, _, _, _, _, _, _, rfl, _⟩ := h; rfl) | (obtain ⟨_, _, _, _, _, _, _, _, _, _, _, _, _, _, _, _, rfl, _⟩ := h; rfl)) (fun cdv A outer s H vs Q E hr h => ⟨_, tie_told_set T C_row_of_kinds hr, pure_told_set T h⟩)
theorem cal_uses_another (T : Top K mg) (d : ∃ f fd, C8.Def K mg "uses_another" s_uses_another f fd ∧ Binds K fd P_uses_another []) :
    C8.Cal P w K mg base 1 "uses_another" (sp_uses_another mg) [] := by
  obtain ⟨f, fd, F, b⟩ := d
  refine C8.cal0 (k := 0) F b .nil sc_uses_another (fun vs H Q E h => by
    first | (obtain ⟨_, rfl, _⟩ := h; rfl) | (obtain ⟨_, _, rfl, _⟩ := h; rfl) | (obtain ⟨_, _, _, rfl, _⟩ := h; rfl) | (obtain ⟨_, _, _, _, rfl, _⟩ := h; rfl) | (obtain ⟨_, _, _, _, _, rfl, _⟩ := h; rfl) | (obtain ⟨_, _, _, _, _, _, rfl, _⟩ := h; rfl) | (obtain ⟨_, _, _, _, _, _, _, rfl, _⟩ := h; rfl) | (obtain ⟨_, _, _, _, _, _, _, _, rfl, _⟩ := h; rfl) | (obtain ⟨_, _, _, _, _, _, _, _, _, rfl, _⟩ := h; rfl) | (obtain ⟨_, _, _, _, _, _, _, _, _, _, rfl, _⟩ := h; rfl) | (obtain ⟨_, _, _, _, _, _, _, _, _, _, _, rfl, _⟩ := h; rfl) | (obtain ⟨_, _, _, _, _, _, _, _, _, _, _, _, rfl, _⟩ := h; rfl) | (obtain ⟨_, _, _, _, _, _, _, _, _, _, _, _, _, rfl, _⟩ := h; rfl) | (obtain ⟨_, _, _, _, _, _, _, _, _, _, _, _, _, _, rfl, _⟩ := h; rfl) | (obtain ⟨_, _, _, _, _, _, _, _, _, _, _, _, _, _, _, rfl, _⟩ := h; rfl) | (obtain ⟨_, _, _, _, _, _, _, _, _, _, _, _, _, _, _, _, rfl, _⟩ := h; rfl)) (fun cdv A outer s H vs Q E hr h => ⟨_, tie_uses_another T hr, pure_uses_another T h⟩)
theorem cal_bound_of (T : Top K mg) (d : ∃ f fd, C8.Def K mg "bound_of" s_bound_of f fd ∧ Binds K fd P_bound_of []) (C_count_all : C8.Cal P w K mg base 2 "count_all" (sp_count_all mg) []) (C_uses_another : C8.Cal P w K mg base 1 "uses_another" (sp_uses_another mg) []) :
    C8.Cal P w K mg base 3 "bound_of" (sp_bound_of mg) [] := by
  obtain ⟨f, fd, F, b⟩ := d
  refine C8.cal0 (k := 2) F b .nil sc_bound_of (fun vs H Q E h => by
    first | (obtain ⟨_, rfl, _⟩ := h; rfl) | (obtain ⟨_, _, rfl, _⟩ := h; rfl) | (obtain ⟨_, _, _, rfl, _⟩ := h; rfl) | (obtain ⟨_, _, _, _, rfl, _⟩ := h; rfl) | (obtain ⟨_, _, _, _, _, rfl, _⟩ := h; rfl) | (obtain ⟨_, _, _, _, _, _, rfl, _⟩ := h; rfl) | (obtain ⟨_, _, _, _, _, _, _, rfl, _⟩ := h; rfl) | (obtain ⟨_, _, _, _, _, _, _, _, rfl, _⟩ := h; rfl) | (obtain ⟨_, _, _, _, _, _, _, _, _, rfl, _⟩ := h; rfl) | (obtain ⟨_, _, _, _, _, _, _, _, _, _, rfl, _⟩ := h; rfl) | (obtain ⟨_, _, _, _, _, _, _, _, _, _, _, rfl, _⟩ := h; rfl) | (obtain ⟨_, _, _, _, _, _, _, _, _, _, _, _, rfl, _⟩ := h; rfl) | (obtain ⟨_, _, _, _, _, _, _, _, _, _, _, _, _, rfl, _⟩ := h; rfl) | (obtain ⟨_, _, _, _, _, _, _, _, _, _, _, _, _, _, rfl, _⟩ := h; rfl) | (obtain ⟨_, _, _, _, _, _, _, _, _, _, _, _, _, _, _, rfl, _⟩ := h; rfl) | (obtain ⟨_, _, _, _, _, _, _, _, _, _, _, _, _, _, _, _, rfl, _⟩ := h; rfl)) (fun cdv A outer s H vs Q E hr h => ⟨_, tie_bound_of T C_count_all C_uses_another hr, pure_bound_of T h⟩)
theorem mak_Entry (T : Top K mg) (d : ∃ f fd, Mk K (adr mg "Entry") f ∧ C8.Fun K "__init__" "Entry.__init__" s_Entry_init f fd ∧ Binds K fd P_Entry_init []) (hm : mg "Entry" = some (.ref (adr mg "Entry"))) :
    C8.Mak P w K mg base 1 "Entry" (adr mg "Entry") (sp_Entry_init mg) [] := by
  obtain ⟨f, fd, M, F, b⟩ := d
  refine C8.mak0 (k := 0) M hm F b .nil sc_Entry_init (fun vs H Q E h => by
    first | (obtain ⟨_, rfl, _⟩ := h; rfl) | (obtain ⟨_, _, rfl, _⟩ := h; rfl) | (obtain ⟨_, _, _, rfl, _⟩ := h; rfl) | (obtain ⟨_, _, _, _, rfl, _⟩ := h; rfl) | (obtain ⟨_, _, _, _, _, rfl, _⟩ := h; rfl) | (obtain ⟨_, _, _, _, _, _, rfl, _⟩ := h; rfl) | (obtain ⟨_, _, _, _, _, _, _, rfl, _⟩ := h; rfl) | (obtain ⟨_, _, _, _, _, _, _, _, rfl, _⟩ := h; rfl) | (obtain ⟨_, _, _, _, _, _, _, _, _, rfl, _⟩ := h; rfl) | (obtain ⟨_, _, _, _, _, _, _, _, _, _, rfl, _⟩ := h; rfl) | (obtain ⟨_, _, _, _, _, _, _, _, _, _, _, rfl, _⟩ := h; rfl) | (obtain ⟨_, _, _, _, _, _, _, _, _, _, _, _, rfl, _⟩ := h; rfl) | (obtain ⟨_, _, _, _, _, _, _, _, _, _, _, _, _, rfl, _⟩ := h; rfl) | (obtain ⟨_, _, _, _, _, _, _, _, _, _, _, _, _, _, rfl, _⟩ := h; rfl) | (obtain ⟨_, _, _, _, _, _, _, _, _, _, _, _, _, _, _, rfl, _⟩ := h; rfl) | (obtain ⟨_, _, _, _, _, _, _, _, _, _, _, _, _, _, _, _, rfl, _⟩ := h; rfl)) (fun cdv A outer s H vs Q E hr h => ⟨_, tie_Entry_init T hr, pure_Entry_init T h⟩)
theorem cal_mark_of (T : Top K mg) (d : ∃ f fd, C8.Def K mg "mark_of" s_mark_of f fd ∧ Binds K fd P_mark_of []) :
    C8.Cal P w K mg base 1 "mark_of" (sp_mark_of mg) [] := by
  obtain ⟨f, fd, F, b⟩ := d
  refine C8.cal0 (k := 0) F b .nil sc_mark_of (fun vs H Q E h => by
    first | (obtain ⟨_, rfl, _⟩ := h; rfl) | (obtain ⟨_, _, rfl, _⟩ := h; rfl) | (obtain ⟨_, _, _, rfl, _⟩ := h; rfl) | (obtain ⟨_, _, _, _, rfl, _⟩ := h; rfl) | (obtain ⟨_, _, _, _, _, rfl, _⟩ := h; rfl) | (obtain ⟨_, _, _, _, _, _, rfl, _⟩ := h; rfl) | (obtain ⟨_, _, _, _, _, _, _, rfl, _⟩ := h; rfl) | (obtain ⟨_, _, _, _, _, _, _, _, rfl, _⟩ := h; rfl) | (obtain ⟨_, _, _, _, _, _, _, _, _, rfl, _⟩ := h; rfl) | (obtain ⟨_, _, _, _, _, _, _, _, _, _, rfl, _⟩ := h; rfl) | (obtain ⟨_, _, _, _, _, _, _, _, _, _, _, rfl, _⟩ := h; rfl) | (obtain ⟨_, _, _, _, _, _, _, _, _, _, _, _, rfl, _⟩ := h; rfl) | (obtain ⟨_, _, _, _, _, _, _, _, _, _, _, _, _, rfl, _⟩ := h; rfl) | (obtain ⟨_, _, _, _, _, _, _, _, _, _, _, _, _, _, rfl, _⟩ := h; rfl) | (obtain ⟨_, _, _, _, _, _, _, _, _, _, _, _, _, _, _, rfl, _⟩ := h; rfl) | (obtain ⟨_, _, _, _, _, _, _, _, _, _, _, _, _, _, _, _, rfl, _⟩ := h; rfl)) (fun cdv A outer s H vs Q E hr h => ⟨_, tie_mark_of T hr, pure_mark_of T h⟩)
theorem cal_row_from (T : Top K mg) (d : ∃ f fd, C8.Def K mg "row_from" s_row_from f fd ∧ Binds K fd P_row_from []) (C_all_steps : C8.Cal P w K mg base 4 "all_steps" (sp_all_steps mg) []) (C_mark_of : C8.Cal P w K mg base 1 "mark_of" (sp_mark_of mg) []) (C_play_after : C8.Cal P w K mg base 3 "play_after" (sp_play_after mg) []) (M_Entry : C8.Mak P w K mg base 1 "Entry" (adr mg "Entry") (sp_Entry_init mg) []) :
    CalX P w K mg base 5 "row_from" (sp_row_from mg) := by
  obtain ⟨f, fd, F, b⟩ := d
  refine calX0 (k := 4) F b sc_row_from (fun vs H Q E h => by
    first | (obtain ⟨_, rfl, _⟩ := h; rfl) | (obtain ⟨_, _, rfl, _⟩ := h; rfl) | (obtain ⟨_, _, _, rfl, _⟩ := h; rfl) | (obtain ⟨_, _, _, _, rfl, _⟩ := h; rfl) | (obtain ⟨_, _, _, _, _, rfl, _⟩ := h; rfl) | (obtain ⟨_, _, _, _, _, _, rfl, _⟩ := h; rfl) | (obtain ⟨_, _, _, _, _, _, _, rfl, _⟩ := h; rfl) | (obtain ⟨_, _, _, _, _, _, _, _, rfl, _⟩ := h; rfl) | (obtain ⟨_, _, _, _, _, _, _, _, _, rfl, _⟩ := h; rfl) | (obtain ⟨_, _, _, _, _, _, _, _, _, _, rfl, _⟩ := h; rfl) | (obtain ⟨_, _, _, _, _, _, _, _, _, _, _, rfl, _⟩ := h; rfl) | (obtain ⟨_, _, _, _, _, _, _, _, _, _, _, _, rfl, _⟩ := h; rfl) | (obtain ⟨_, _, _, _, _, _, _, _, _, _, _, _, _, rfl, _⟩ := h; rfl) | (obtain ⟨_, _, _, _, _, _, _, _, _, _, _, _, _, _, rfl, _⟩ := h; rfl) | (obtain ⟨_, _, _, _, _, _, _, _, _, _, _, _, _, _, _, rfl, _⟩ := h; rfl) | (obtain ⟨_, _, _, _, _, _, _, _, _, _, _, _, _, _, _, _, rfl, _⟩ := h; rfl)) (fun cdv A outer s H vs Q E hr h => ⟨_, tie_row_from T C_all_steps C_mark_of C_play_after M_Entry hr, pure_row_from T h⟩)
theorem cal_places_with_end (T : Top K mg) (d : ∃ f fd, C8.Def K mg "places_with_end" s_places_with_end f fd ∧ Binds K fd P_places_with_end []) (C_is_end_done : C8.Cal P w K mg base 1 "is_end_done" (sp_is_end_done mg) []) :
    C8.Cal P w K mg base 2 "places_with_end" (sp_places_with_end mg) [] := by
  obtain ⟨f, fd, F, b⟩ := d
  refine C8.cal0 (k := 1) F b .nil sc_places_with_end (fun vs H Q E h => by
    first | (obtain ⟨_, rfl, _⟩ := h; rfl) | (obtain ⟨_, _, rfl, _⟩ := h; rfl) | (obtain ⟨_, _, _, rfl, _⟩ := h; rfl) | (obtain ⟨_, _, _, _, rfl, _⟩ := h; rfl) | (obtain ⟨_, _, _, _, _, rfl, _⟩ := h; rfl) | (obtain ⟨_, _, _, _, _, _, rfl, _⟩ := h; rfl) | (obtain ⟨_, _, _, _, _, _, _, rfl, _⟩ := h; rfl) | (obtain ⟨_, _, _, _, _, _, _, _, rfl, _⟩ := h; rfl) | (obtain ⟨_, _, _, _, _, _, _, _, _, rfl, _⟩ := h; rfl) | (obtain ⟨_, _, _, _, _, _, _, _, _, _, rfl, _⟩ := h; rfl) | (obtain ⟨_, _, _, _, _, _, _, _, _, _, _, rfl, _⟩ := h; rfl) | (obtain ⟨_, _, _, _, _, _, _, _, _, _, _, _, rfl, _⟩ := h; rfl) | (obtain ⟨_, _, _, _, _, _, _, _, _, _, _, _, _, rfl, _⟩ := h; rfl) | (obtain ⟨_, _, _, _, _, _, _, _, _, _, _, _, _, _, rfl, _⟩ := h; rfl) | (obtain ⟨_, _, _, _, _, _, _, _, _, _, _, _, _, _, _, rfl, _⟩ := h; rfl) | (obtain ⟨_, _, _, _, _, _, _, _, _, _, _, _, _, _, _, _, rfl, _⟩ := h; rfl)) (fun cdv A outer s H vs Q E hr h => ⟨_, tie_places_with_end T C_is_end_done hr, pure_places_with_end T h⟩)
theorem cal_places_of_dead (T : Top K mg) (d : ∃ f fd, C8.Def K mg "places_of_dead" s_places_of_dead f fd ∧ Binds K fd P_places_of_dead []) (C_is_end_done : C8.Cal P w K mg base 1 "is_end_done" (sp_is_end_done mg) []) :
    C8.Cal P w K mg base 2 "places_of_dead" (sp_places_of_dead mg) [] := by
  obtain ⟨f, fd, F, b⟩ := d
  refine C8.cal0 (k := 1) F b .nil sc_places_of_dead (fun vs H Q E h => by
    first | (obtain ⟨_, rfl, _⟩ := h; rfl) | (obtain ⟨_, _, rfl, _⟩ := h; rfl) | (obtain ⟨_, _, _, rfl, _⟩ := h; rfl) | (obtain ⟨_, _, _, _, rfl, _⟩ := h; rfl) | (obtain ⟨_, _, _, _, _, rfl, _⟩ := h; rfl) | (obtain ⟨_, _, _, _, _, _, rfl, _⟩ := h; rfl) | (obtain ⟨_, _, _, _, _, _, _, rfl, _⟩ := h; rfl) | (obtain ⟨_, _, _, _, _, _, _, _, rfl, _⟩ := h; rfl) | (obtain ⟨_, _, _, _, _, _, _, _, _, rfl, _⟩ := h; rfl) | (obtain ⟨_, _, _, _, _, _, _, _, _, _, rfl, _⟩ := h; rfl) | (obtain ⟨_, _, _, _, _, _, _, _, _, _, _, rfl, _⟩ := h; rfl) | (obtain ⟨_, _, _, _, _, _, _, _, _, _, _, _, rfl, _⟩ := h; rfl) | (obtain ⟨_, _, _, _, _, _, _, _, _, _, _, _, _, rfl, _⟩ := h; rfl) | (obtain ⟨_, _, _, _, _, _, _, _, _, _, _, _, _, _, rfl, _⟩ := h; rfl) | (obtain ⟨_, _, _, _, _, _, _, _, _, _, _, _, _, _, _, rfl, _⟩ := h; rfl) | (obtain ⟨_, _, _, _, _, _, _, _, _, _, _, _, _, _, _, _, rfl, _⟩ := h; rfl)) (fun cdv A outer s H vs Q E hr h => ⟨_, tie_places_of_dead T C_is_end_done hr, pure_places_of_dead T h⟩)
theorem cal_steps_to (T : Top K mg) (d : ∃ f fd, C8.Def K mg "steps_to" s_steps_to f fd ∧ Binds K fd P_steps_to []) :
    C8.Cal P w K mg base 1 "steps_to" (sp_steps_to mg) [] := by
  obtain ⟨f, fd, F, b⟩ := d
  refine C8.cal0 (k := 0) F b .nil sc_steps_to (fun vs H Q E h => by
    first | (obtain ⟨_, rfl, _⟩ := h; rfl) | (obtain ⟨_, _, rfl, _⟩ := h; rfl) | (obtain ⟨_, _, _, rfl, _⟩ := h; rfl) | (obtain ⟨_, _, _, _, rfl, _⟩ := h; rfl) | (obtain ⟨_, _, _, _, _, rfl, _⟩ := h; rfl) | (obtain ⟨_, _, _, _, _, _, rfl, _⟩ := h; rfl) | (obtain ⟨_, _, _, _, _, _, _, rfl, _⟩ := h; rfl) | (obtain ⟨_, _, _, _, _, _, _, _, rfl, _⟩ := h; rfl) | (obtain ⟨_, _, _, _, _, _, _, _, _, rfl, _⟩ := h; rfl) | (obtain ⟨_, _, _, _, _, _, _, _, _, _, rfl, _⟩ := h; rfl) | (obtain ⟨_, _, _, _, _, _, _, _, _, _, _, rfl, _⟩ := h; rfl) | (obtain ⟨_, _, _, _, _, _, _, _, _, _, _, _, rfl, _⟩ := h; rfl) | (obtain ⟨_, _, _, _, _, _, _, _, _, _, _, _, _, rfl, _⟩ := h; rfl) | (obtain ⟨_, _, _, _, _, _, _, _, _, _, _, _, _, _, rfl, _⟩ := h; rfl) | (obtain ⟨_, _, _, _, _, _, _, _, _, _, _, _, _, _, _, rfl, _⟩ := h; rfl) | (obtain ⟨_, _, _, _, _, _, _, _, _, _, _, _, _, _, _, _, rfl, _⟩ := h; rfl)) (fun cdv A outer s H vs Q E hr h => ⟨_, tie_steps_to T hr, pure_steps_to T h⟩)
theorem cal_as_number (T : Top K mg) (d : ∃ f fd, C8.Def K mg "as_number" s_as_number f fd ∧ Binds K fd P_as_number []) :
    C8.Cal P w K mg base 1 "as_number" (sp_as_number) [] := by
  obtain ⟨f, fd, F, b⟩ := d
  refine C8.cal0 (k := 0) F b .nil sc_as_number (fun vs H Q E h => by
    first | (obtain ⟨_, rfl, _⟩ := h; rfl) | (obtain ⟨_, _, rfl, _⟩ := h; rfl) | (obtain ⟨_, _, _, rfl, _⟩ := h; rfl) | (obtain ⟨_, _, _, _, rfl, _⟩ := h; rfl) | (obtain ⟨_, _, _, _, _, rfl, _⟩ := h; rfl) | (obtain ⟨_, _, _, _, _, _, rfl, _⟩ := h; rfl) | (obtain ⟨_, _, _, _, _, _, _, rfl, _⟩ := h; rfl) | (obtain ⟨_, _, _, _, _, _, _, _, rfl, _⟩ := h; rfl) | (obtain ⟨_, _, _, _, _, _, _, _, _, rfl, _⟩ := h; rfl) | (obtain ⟨_, _, _, _, _, _, _, _, _, _, rfl, _⟩ := h; rfl) | (obtain ⟨_, _, _, _, _, _, _, _, _, _, _, rfl, _⟩ := h; rfl) | (obtain ⟨_, _, _, _, _, _, _, _, _, _, _, _, rfl, _⟩ := h; rfl) | (obtain ⟨_, _, _, _, _, _, _, _, _, _, _, _, _, rfl, _⟩ := h; rfl) | (obtain ⟨_, _, _, _, _, _, _, _, _, _, _, _, _, _, rfl, _⟩ := h; rfl) | (obtain ⟨_, _, _, _, _, _, _, _, _, _, _, _, _, _, _, rfl, _⟩ := h; rfl) | (obtain ⟨_, _, _, _, _, _, _, _, _, _, _, _, _, _, _, _, rfl, _⟩ := h; rfl)) (fun cdv A outer s H vs Q E hr h => ⟨_, tie_as_number T hr, pure_as_number T h⟩)
theorem cal_flat (T : Top K mg) (d : ∃ f fd, C8.Def K mg "flat" s_flat f fd ∧ Binds K fd P_flat []) :
    C8.Cal P w K mg base 1 "flat" (sp_flat) [] := by
  obtain ⟨f, fd, F, b⟩ := d
  refine C8.cal0 (k := 0) F b .nil sc_flat (fun vs H Q E h => by
    first | (obtain ⟨_, rfl, _⟩ := h; rfl) | (obtain ⟨_, _, rfl, _⟩ := h; rfl) | (obtain ⟨_, _, _, rfl, _⟩ := h; rfl) | (obtain ⟨_, _, _, _, rfl, _⟩ := h; rfl) | (obtain ⟨_, _, _, _, _, rfl, _⟩ := h; rfl) | (obtain ⟨_, _, _, _, _, _, rfl, _⟩ := h; rfl) | (obtain ⟨_, _, _, _, _, _, _, rfl, _⟩ := h; rfl) | (obtain ⟨_, _, _, _, _, _, _, _, rfl, _⟩ := h; rfl) | (obtain ⟨_, _, _, _, _, _, _, _, _, rfl, _⟩ := h; rfl) | (obtain ⟨_, _, _, _, _, _, _, _, _, _, rfl, _⟩ := h; rfl) | (obtain ⟨_, _, _, _, _, _, _, _, _, _, _, rfl, _⟩ := h; rfl) | (obtain ⟨_, _, _, _, _, _, _, _, _, _, _, _, rfl, _⟩ := h; rfl) | (obtain ⟨_, _, _, _, _, _, _, _, _, _, _, _, _, rfl, _⟩ := h; rfl) | (obtain ⟨_, _, _, _, _, _, _, _, _, _, _, _, _, _, rfl, _⟩ := h; rfl) | (obtain ⟨_, _, _, _, _, _, _, _, _, _, _, _, _, _, _, rfl, _⟩ := h; rfl) | (obtain ⟨_, _, _, _, _, _, _, _, _, _, _, _, _, _, _, _, rfl, _⟩ := h; rfl)) (fun cdv A outer s H vs Q E hr h => ⟨_, tie_flat T hr, pure_flat T h⟩)
theorem cal_do_house (T : Top K mg) (d : ∃ f fd, C8.Def K mg "do_house" s_do_house f fd ∧ Binds K fd P_do_house []) (M_House : C8.Mak P w K mg base 3 "House" (adr mg "House") (sp_House_init mg) []) :
    C8.Cal P w K mg base 5 "do_house" (sp_do_house mg) [] := by
  obtain ⟨f, fd, F, b⟩ := d
  refine C8.cal0 (k := 4) F b .nil sc_do_house (fun vs H Q E h => by
    first | (obtain ⟨_, rfl, _⟩ := h; rfl) | (obtain ⟨_, _, rfl, _⟩ := h; rfl) | (obtain ⟨_, _, _, rfl, _⟩ := h; rfl) | (obtain ⟨_, _, _, _, rfl, _⟩ := h; rfl) | (obtain ⟨_, _, _, _, _, rfl, _⟩ := h; rfl) | (obtain ⟨_, _, _, _, _, _, rfl, _⟩ := h; rfl) | (obtain ⟨_, _, _, _, _, _, _, rfl, _⟩ := h; rfl) | (obtain ⟨_, _, _, _, _, _, _, _, rfl, _⟩ := h; rfl) | (obtain ⟨_, _, _, _, _, _, _, _, _, rfl, _⟩ := h; rfl) | (obtain ⟨_, _, _, _, _, _, _, _, _, _, rfl, _⟩ := h; rfl) | (obtain ⟨_, _, _, _, _, _, _, _, _, _, _, rfl, _⟩ := h; rfl) | (obtain ⟨_, _, _, _, _, _, _, _, _, _, _, _, rfl, _⟩ := h; rfl) | (obtain ⟨_, _, _, _, _, _, _, _, _, _, _, _, _, rfl, _⟩ := h; rfl) | (obtain ⟨_, _, _, _, _, _, _, _, _, _, _, _, _, _, rfl, _⟩ := h; rfl) | (obtain ⟨_, _, _, _, _, _, _, _, _, _, _, _, _, _, _, rfl, _⟩ := h; rfl) | (obtain ⟨_, _, _, _, _, _, _, _, _, _, _, _, _, _, _, _, rfl, _⟩ := h; rfl)) (fun cdv A outer s H vs Q E hr h => ⟨_, tie_do_house T M_House hr, pure_do_house T h⟩)
theorem cal_do_deed (T : Top K mg) (d : ∃ f fd, C8.Def K mg "do_deed" s_do_deed f fd ∧ Binds K fd P_do_deed []) (C_cut_needs : C8.Cal P w K mg base 1 "cut_needs" (sp_cut_needs) []) (M_Deed : C8.Mak P w K mg base 1 "Deed" (adr mg "Deed") (sp_Deed_init mg) []) :
    C8.Cal P w K mg base 3 "do_deed" (sp_do_deed mg) [] := by
  obtain ⟨f, fd, F, b⟩ := d
  refine C8.cal0 (k := 2) F b .nil sc_do_deed (fun vs H Q E h => by
    first | (obtain ⟨_, rfl, _⟩ := h; rfl) | (obtain ⟨_, _, rfl, _⟩ := h; rfl) | (obtain ⟨_, _, _, rfl, _⟩ := h; rfl) | (obtain ⟨_, _, _, _, rfl, _⟩ := h; rfl) | (obtain ⟨_, _, _, _, _, rfl, _⟩ := h; rfl) | (obtain ⟨_, _, _, _, _, _, rfl, _⟩ := h; rfl) | (obtain ⟨_, _, _, _, _, _, _, rfl, _⟩ := h; rfl) | (obtain ⟨_, _, _, _, _, _, _, _, rfl, _⟩ := h; rfl) | (obtain ⟨_, _, _, _, _, _, _, _, _, rfl, _⟩ := h; rfl) | (obtain ⟨_, _, _, _, _, _, _, _, _, _, rfl, _⟩ := h; rfl) | (obtain ⟨_, _, _, _, _, _, _, _, _, _, _, rfl, _⟩ := h; rfl) | (obtain ⟨_, _, _, _, _, _, _, _, _, _, _, _, rfl, _⟩ := h; rfl) | (obtain ⟨_, _, _, _, _, _, _, _, _, _, _, _, _, rfl, _⟩ := h; rfl) | (obtain ⟨_, _, _, _, _, _, _, _, _, _, _, _, _, _, rfl, _⟩ := h; rfl) | (obtain ⟨_, _, _, _, _, _, _, _, _, _, _, _, _, _, _, rfl, _⟩ := h; rfl) | (obtain ⟨_, _, _, _, _, _, _, _, _, _, _, _, _, _, _, _, rfl, _⟩ := h; rfl)) (fun cdv A outer s H vs Q E hr h => ⟨_, tie_do_deed T C_cut_needs M_Deed hr, pure_do_deed T h⟩)
theorem cal_do_act (T : Top K mg) (d : ∃ f fd, C8.Def K mg "do_act" s_do_act f fd ∧ Binds K fd P_do_act []) (C_as_number : C8.Cal P w K mg base 1 "as_number" (sp_as_number) []) (C_is_end_done : C8.Cal P w K mg base 1 "is_end_done" (sp_is_end_done mg) []) (C_play_after : C8.Cal P w K mg base 3 "play_after" (sp_play_after mg) []) :
    C8.Cal P w K mg base 4 "do_act" (sp_do_act mg) [] := by
  obtain ⟨f, fd, F, b⟩ := d
  refine C8.cal0 (k := 3) F b .nil sc_do_act (fun vs H Q E h => by
    first | (obtain ⟨_, rfl, _⟩ := h; rfl) | (obtain ⟨_, _, rfl, _⟩ := h; rfl) | (obtain ⟨_, _, _, rfl, _⟩ := h; rfl) | (obtain ⟨_, _, _, _, rfl, _⟩ := h; rfl) | (obtain ⟨_, _, _, _, _, rfl, _⟩ := h; rfl) | (obtain ⟨_, _, _, _, _, _, rfl, _⟩ := h; rfl) | (obtain ⟨_, _, _, _, _, _, _, rfl, _⟩ := h; rfl) | (obtain ⟨_, _, _, _, _, _, _, _, rfl, _⟩ := h; rfl) | (obtain ⟨_, _, _, _, _, _, _, _, _, rfl, _⟩ := h; rfl) | (obtain ⟨_, _, _, _, _, _, _, _, _, _, rfl, _⟩ := h; rfl) | (obtain ⟨_, _, _, _, _, _, _, _, _, _, _, rfl, _⟩ := h; rfl) | (obtain ⟨_, _, _, _, _, _, _, _, _, _, _, _, rfl, _⟩ := h; rfl) | (obtain ⟨_, _, _, _, _, _, _, _, _, _, _, _, _, rfl, _⟩ := h; rfl) | (obtain ⟨_, _, _, _, _, _, _, _, _, _, _, _, _, _, rfl, _⟩ := h; rfl) | (obtain ⟨_, _, _, _, _, _, _, _, _, _, _, _, _, _, _, rfl, _⟩ := h; rfl) | (obtain ⟨_, _, _, _, _, _, _, _, _, _, _, _, _, _, _, _, rfl, _⟩ := h; rfl)) (fun cdv A outer s H vs Q E hr h => ⟨_, tie_do_act T C_as_number C_is_end_done C_play_after hr, pure_do_act T h⟩)
theorem cal_do_again (T : Top K mg) (d : ∃ f fd, C8.Def K mg "do_again" s_do_again f fd ∧ Binds K fd P_do_again []) (M_Play : C8.Mak P w K mg base 1 "Play" (adr mg "Play") (sp_Play_init mg) []) :
    C8.Cal P w K mg base 3 "do_again" (sp_do_again mg) [] := by
  obtain ⟨f, fd, F, b⟩ := d
  refine C8.cal0 (k := 2) F b .nil sc_do_again (fun vs H Q E h => by
    first | (obtain ⟨_, rfl, _⟩ := h; rfl) | (obtain ⟨_, _, rfl, _⟩ := h; rfl) | (obtain ⟨_, _, _, rfl, _⟩ := h; rfl) | (obtain ⟨_, _, _, _, rfl, _⟩ := h; rfl) | (obtain ⟨_, _, _, _, _, rfl, _⟩ := h; rfl) | (obtain ⟨_, _, _, _, _, _, rfl, _⟩ := h; rfl) | (obtain ⟨_, _, _, _, _, _, _, rfl, _⟩ := h; rfl) | (obtain ⟨_, _, _, _, _, _, _, _, rfl, _⟩ := h; rfl) | (obtain ⟨_, _, _, _, _, _, _, _, _, rfl, _⟩ := h; rfl) | (obtain ⟨_, _, _, _, _, _, _, _, _, _, rfl, _⟩ := h; rfl) | (obtain ⟨_, _, _, _, _, _, _, _, _, _, _, rfl, _⟩ := h; rfl) | (obtain ⟨_, _, _, _, _, _, _, _, _, _, _, _, rfl, _⟩ := h; rfl) | (obtain ⟨_, _, _, _, _, _, _, _, _, _, _, _, _, rfl, _⟩ := h; rfl) | (obtain ⟨_, _, _, _, _, _, _, _, _, _, _, _, _, _, rfl, _⟩ := h; rfl) | (obtain ⟨_, _, _, _, _, _, _, _, _, _, _, _, _, _, _, rfl, _⟩ := h; rfl) | (obtain ⟨_, _, _, _, _, _, _, _, _, _, _, _, _, _, _, _, rfl, _⟩ := h; rfl)) (fun cdv A outer s H vs Q E hr h => ⟨_, tie_do_again T M_Play hr, pure_do_again T h⟩)
theorem cal_tell_now (T : Top K mg) (d : ∃ f fd, C8.Def K mg "tell_now" s_tell_now f fd ∧ Binds K fd P_tell_now []) :
    C8.Cal P w K mg base 1 "tell_now" (sp_tell_now mg) [] := by
  obtain ⟨f, fd, F, b⟩ := d
  refine C8.cal0 (k := 0) F b .nil sc_tell_now (fun vs H Q E h => by
    first | (obtain ⟨_, rfl, _⟩ := h; rfl) | (obtain ⟨_, _, rfl, _⟩ := h; rfl) | (obtain ⟨_, _, _, rfl, _⟩ := h; rfl) | (obtain ⟨_, _, _, _, rfl, _⟩ := h; rfl) | (obtain ⟨_, _, _, _, _, rfl, _⟩ := h; rfl) | (obtain ⟨_, _, _, _, _, _, rfl, _⟩ := h; rfl) | (obtain ⟨_, _, _, _, _, _, _, rfl, _⟩ := h; rfl) | (obtain ⟨_, _, _, _, _, _, _, _, rfl, _⟩ := h; rfl) | (obtain ⟨_, _, _, _, _, _, _, _, _, rfl, _⟩ := h; rfl) | (obtain ⟨_, _, _, _, _, _, _, _, _, _, rfl, _⟩ := h; rfl) | (obtain ⟨_, _, _, _, _, _, _, _, _, _, _, rfl, _⟩ := h; rfl) | (obtain ⟨_, _, _, _, _, _, _, _, _, _, _, _, rfl, _⟩ := h; rfl) | (obtain ⟨_, _, _, _, _, _, _, _, _, _, _, _, _, rfl, _⟩ := h; rfl) | (obtain ⟨_, _, _, _, _, _, _, _, _, _, _, _, _, _, rfl, _⟩ := h; rfl) | (obtain ⟨_, _, _, _, _, _, _, _, _, _, _, _, _, _, _, rfl, _⟩ := h; rfl) | (obtain ⟨_, _, _, _, _, _, _, _, _, _, _, _, _, _, _, _, rfl, _⟩ := h; rfl)) (fun cdv A outer s H vs Q E hr h => ⟨_, tie_tell_now T hr, pure_tell_now T h⟩)
theorem cal_tell_can (T : Top K mg) (d : ∃ f fd, C8.Def K mg "tell_can" s_tell_can f fd ∧ Binds K fd P_tell_can []) (C_all_steps : C8.Cal P w K mg base 4 "all_steps" (sp_all_steps mg) []) (C_flat : C8.Cal P w K mg base 1 "flat" (sp_flat) []) :
    C8.Cal P w K mg base 5 "tell_can" (sp_tell_can mg) [] := by
  obtain ⟨f, fd, F, b⟩ := d
  refine C8.cal0 (k := 4) F b .nil sc_tell_can (fun vs H Q E h => by
    first | (obtain ⟨_, rfl, _⟩ := h; rfl) | (obtain ⟨_, _, rfl, _⟩ := h; rfl) | (obtain ⟨_, _, _, rfl, _⟩ := h; rfl) | (obtain ⟨_, _, _, _, rfl, _⟩ := h; rfl) | (obtain ⟨_, _, _, _, _, rfl, _⟩ := h; rfl) | (obtain ⟨_, _, _, _, _, _, rfl, _⟩ := h; rfl) | (obtain ⟨_, _, _, _, _, _, _, rfl, _⟩ := h; rfl) | (obtain ⟨_, _, _, _, _, _, _, _, rfl, _⟩ := h; rfl) | (obtain ⟨_, _, _, _, _, _, _, _, _, rfl, _⟩ := h; rfl) | (obtain ⟨_, _, _, _, _, _, _, _, _, _, rfl, _⟩ := h; rfl) | (obtain ⟨_, _, _, _, _, _, _, _, _, _, _, rfl, _⟩ := h; rfl) | (obtain ⟨_, _, _, _, _, _, _, _, _, _, _, _, rfl, _⟩ := h; rfl) | (obtain ⟨_, _, _, _, _, _, _, _, _, _, _, _, _, rfl, _⟩ := h; rfl) | (obtain ⟨_, _, _, _, _, _, _, _, _, _, _, _, _, _, rfl, _⟩ := h; rfl) | (obtain ⟨_, _, _, _, _, _, _, _, _, _, _, _, _, _, _, rfl, _⟩ := h; rfl) | (obtain ⟨_, _, _, _, _, _, _, _, _, _, _, _, _, _, _, _, rfl, _⟩ := h; rfl)) (fun cdv A outer s H vs Q E hr h => ⟨_, tie_tell_can T C_all_steps C_flat hr, pure_tell_can T h⟩)
theorem cal_tell_closure (T : Top K mg) (d : ∃ f fd, C8.Def K mg "tell_closure" s_tell_closure f fd ∧ Binds K fd P_tell_closure []) (C_closure_of : C8.Cal P w K mg base 3 "closure_of" (sp_closure_of mg) []) :
    C8.Cal P w K mg base 4 "tell_closure" (sp_tell_closure mg) [] := by
  obtain ⟨f, fd, F, b⟩ := d
  refine C8.cal0 (k := 3) F b .nil sc_tell_closure (fun vs H Q E h => by
    first | (obtain ⟨_, rfl, _⟩ := h; rfl) | (obtain ⟨_, _, rfl, _⟩ := h; rfl) | (obtain ⟨_, _, _, rfl, _⟩ := h; rfl) | (obtain ⟨_, _, _, _, rfl, _⟩ := h; rfl) | (obtain ⟨_, _, _, _, _, rfl, _⟩ := h; rfl) | (obtain ⟨_, _, _, _, _, _, rfl, _⟩ := h; rfl) | (obtain ⟨_, _, _, _, _, _, _, rfl, _⟩ := h; rfl) | (obtain ⟨_, _, _, _, _, _, _, _, rfl, _⟩ := h; rfl) | (obtain ⟨_, _, _, _, _, _, _, _, _, rfl, _⟩ := h; rfl) | (obtain ⟨_, _, _, _, _, _, _, _, _, _, rfl, _⟩ := h; rfl) | (obtain ⟨_, _, _, _, _, _, _, _, _, _, _, rfl, _⟩ := h; rfl) | (obtain ⟨_, _, _, _, _, _, _, _, _, _, _, _, rfl, _⟩ := h; rfl) | (obtain ⟨_, _, _, _, _, _, _, _, _, _, _, _, _, rfl, _⟩ := h; rfl) | (obtain ⟨_, _, _, _, _, _, _, _, _, _, _, _, _, _, rfl, _⟩ := h; rfl) | (obtain ⟨_, _, _, _, _, _, _, _, _, _, _, _, _, _, _, rfl, _⟩ := h; rfl) | (obtain ⟨_, _, _, _, _, _, _, _, _, _, _, _, _, _, _, _, rfl, _⟩ := h; rfl)) (fun cdv A outer s H vs Q E hr h => ⟨_, tie_tell_closure T C_closure_of hr, pure_tell_closure T h⟩)
theorem cal_tell_ranks (T : Top K mg) (d : ∃ f fd, C8.Def K mg "tell_ranks" s_tell_ranks f fd ∧ Binds K fd P_tell_ranks []) (C_told_ranks : C8.Cal P w K mg base 4 "told_ranks" (sp_told_ranks mg) []) :
    C8.Cal P w K mg base 5 "tell_ranks" (sp_tell_ranks mg) [] := by
  obtain ⟨f, fd, F, b⟩ := d
  refine C8.cal0 (k := 4) F b .nil sc_tell_ranks (fun vs H Q E h => by
    first | (obtain ⟨_, rfl, _⟩ := h; rfl) | (obtain ⟨_, _, rfl, _⟩ := h; rfl) | (obtain ⟨_, _, _, rfl, _⟩ := h; rfl) | (obtain ⟨_, _, _, _, rfl, _⟩ := h; rfl) | (obtain ⟨_, _, _, _, _, rfl, _⟩ := h; rfl) | (obtain ⟨_, _, _, _, _, _, rfl, _⟩ := h; rfl) | (obtain ⟨_, _, _, _, _, _, _, rfl, _⟩ := h; rfl) | (obtain ⟨_, _, _, _, _, _, _, _, rfl, _⟩ := h; rfl) | (obtain ⟨_, _, _, _, _, _, _, _, _, rfl, _⟩ := h; rfl) | (obtain ⟨_, _, _, _, _, _, _, _, _, _, rfl, _⟩ := h; rfl) | (obtain ⟨_, _, _, _, _, _, _, _, _, _, _, rfl, _⟩ := h; rfl) | (obtain ⟨_, _, _, _, _, _, _, _, _, _, _, _, rfl, _⟩ := h; rfl) | (obtain ⟨_, _, _, _, _, _, _, _, _, _, _, _, _, rfl, _⟩ := h; rfl) | (obtain ⟨_, _, _, _, _, _, _, _, _, _, _, _, _, _, rfl, _⟩ := h; rfl) | (obtain ⟨_, _, _, _, _, _, _, _, _, _, _, _, _, _, _, rfl, _⟩ := h; rfl) | (obtain ⟨_, _, _, _, _, _, _, _, _, _, _, _, _, _, _, _, rfl, _⟩ := h; rfl)) (fun cdv A outer s H vs Q E hr h => ⟨_, tie_tell_ranks T C_told_ranks hr, pure_tell_ranks T h⟩)
theorem cal_tell_accepts (T : Top K mg) (d : ∃ f fd, C8.Def K mg "tell_accepts" s_tell_accepts f fd ∧ Binds K fd P_tell_accepts []) (C_are_accepted : C8.Cal P w K mg base 4 "are_accepted" (sp_are_accepted mg) []) (C_as_number : C8.Cal P w K mg base 1 "as_number" (sp_as_number) []) :
    C8.Cal P w K mg base 5 "tell_accepts" (sp_tell_accepts mg) [] := by
  obtain ⟨f, fd, F, b⟩ := d
  refine C8.cal0 (k := 4) F b .nil sc_tell_accepts (fun vs H Q E h => by
    first | (obtain ⟨_, rfl, _⟩ := h; rfl) | (obtain ⟨_, _, rfl, _⟩ := h; rfl) | (obtain ⟨_, _, _, rfl, _⟩ := h; rfl) | (obtain ⟨_, _, _, _, rfl, _⟩ := h; rfl) | (obtain ⟨_, _, _, _, _, rfl, _⟩ := h; rfl) | (obtain ⟨_, _, _, _, _, _, rfl, _⟩ := h; rfl) | (obtain ⟨_, _, _, _, _, _, _, rfl, _⟩ := h; rfl) | (obtain ⟨_, _, _, _, _, _, _, _, rfl, _⟩ := h; rfl) | (obtain ⟨_, _, _, _, _, _, _, _, _, rfl, _⟩ := h; rfl) | (obtain ⟨_, _, _, _, _, _, _, _, _, _, rfl, _⟩ := h; rfl) | (obtain ⟨_, _, _, _, _, _, _, _, _, _, _, rfl, _⟩ := h; rfl) | (obtain ⟨_, _, _, _, _, _, _, _, _, _, _, _, rfl, _⟩ := h; rfl) | (obtain ⟨_, _, _, _, _, _, _, _, _, _, _, _, _, rfl, _⟩ := h; rfl) | (obtain ⟨_, _, _, _, _, _, _, _, _, _, _, _, _, _, rfl, _⟩ := h; rfl) | (obtain ⟨_, _, _, _, _, _, _, _, _, _, _, _, _, _, _, rfl, _⟩ := h; rfl) | (obtain ⟨_, _, _, _, _, _, _, _, _, _, _, _, _, _, _, _, rfl, _⟩ := h; rfl)) (fun cdv A outer s H vs Q E hr h => ⟨_, tie_tell_accepts T C_are_accepted C_as_number hr, pure_tell_accepts T h⟩)
theorem cal_tell_sure (T : Top K mg) (d : ∃ f fd, C8.Def K mg "tell_sure" s_tell_sure f fd ∧ Binds K fd P_tell_sure []) (C_as_number : C8.Cal P w K mg base 1 "as_number" (sp_as_number) []) (C_is_sure : C8.Cal P w K mg base 3 "is_sure" (sp_is_sure mg) []) :
    C8.Cal P w K mg base 4 "tell_sure" (sp_tell_sure mg) [] := by
  obtain ⟨f, fd, F, b⟩ := d
  refine C8.cal0 (k := 3) F b .nil sc_tell_sure (fun vs H Q E h => by
    first | (obtain ⟨_, rfl, _⟩ := h; rfl) | (obtain ⟨_, _, rfl, _⟩ := h; rfl) | (obtain ⟨_, _, _, rfl, _⟩ := h; rfl) | (obtain ⟨_, _, _, _, rfl, _⟩ := h; rfl) | (obtain ⟨_, _, _, _, _, rfl, _⟩ := h; rfl) | (obtain ⟨_, _, _, _, _, _, rfl, _⟩ := h; rfl) | (obtain ⟨_, _, _, _, _, _, _, rfl, _⟩ := h; rfl) | (obtain ⟨_, _, _, _, _, _, _, _, rfl, _⟩ := h; rfl) | (obtain ⟨_, _, _, _, _, _, _, _, _, rfl, _⟩ := h; rfl) | (obtain ⟨_, _, _, _, _, _, _, _, _, _, rfl, _⟩ := h; rfl) | (obtain ⟨_, _, _, _, _, _, _, _, _, _, _, rfl, _⟩ := h; rfl) | (obtain ⟨_, _, _, _, _, _, _, _, _, _, _, _, rfl, _⟩ := h; rfl) | (obtain ⟨_, _, _, _, _, _, _, _, _, _, _, _, _, rfl, _⟩ := h; rfl) | (obtain ⟨_, _, _, _, _, _, _, _, _, _, _, _, _, _, rfl, _⟩ := h; rfl) | (obtain ⟨_, _, _, _, _, _, _, _, _, _, _, _, _, _, _, rfl, _⟩ := h; rfl) | (obtain ⟨_, _, _, _, _, _, _, _, _, _, _, _, _, _, _, _, rfl, _⟩ := h; rfl)) (fun cdv A outer s H vs Q E hr h => ⟨_, tie_tell_sure T C_as_number C_is_sure hr, pure_tell_sure T h⟩)
theorem cal_tell_served (T : Top K mg) (d : ∃ f fd, C8.Def K mg "tell_served" s_tell_served f fd ∧ Binds K fd P_tell_served []) (C_flat : C8.Cal P w K mg base 1 "flat" (sp_flat) []) (C_told_giving_out : C8.Cal P w K mg base 3 "told_giving_out" (sp_told_giving_out mg) []) (C_told_set : C8.Cal P w K mg base 3 "told_set" (sp_told_set mg) []) :
    C8.Cal P w K mg base 4 "tell_served" (sp_tell_served mg) [] := by
  obtain ⟨f, fd, F, b⟩ := d
  refine C8.cal0 (k := 3) F b .nil sc_tell_served (fun vs H Q E h => by
    first | (obtain ⟨_, rfl, _⟩ := h; rfl) | (obtain ⟨_, _, rfl, _⟩ := h; rfl) | (obtain ⟨_, _, _, rfl, _⟩ := h; rfl) | (obtain ⟨_, _, _, _, rfl, _⟩ := h; rfl) | (obtain ⟨_, _, _, _, _, rfl, _⟩ := h; rfl) | (obtain ⟨_, _, _, _, _, _, rfl, _⟩ := h; rfl) | (obtain ⟨_, _, _, _, _, _, _, rfl, _⟩ := h; rfl) | (obtain ⟨_, _, _, _, _, _, _, _, rfl, _⟩ := h; rfl) | (obtain ⟨_, _, _, _, _, _, _, _, _, rfl, _⟩ := h; rfl) | (obtain ⟨_, _, _, _, _, _, _, _, _, _, rfl, _⟩ := h; rfl) | (obtain ⟨_, _, _, _, _, _, _, _, _, _, _, rfl, _⟩ := h; rfl) | (obtain ⟨_, _, _, _, _, _, _, _, _, _, _, _, rfl, _⟩ := h; rfl) | (obtain ⟨_, _, _, _, _, _, _, _, _, _, _, _, _, rfl, _⟩ := h; rfl) | (obtain ⟨_, _, _, _, _, _, _, _, _, _, _, _, _, _, rfl, _⟩ := h; rfl) | (obtain ⟨_, _, _, _, _, _, _, _, _, _, _, _, _, _, _, rfl, _⟩ := h; rfl) | (obtain ⟨_, _, _, _, _, _, _, _, _, _, _, _, _, _, _, _, rfl, _⟩ := h; rfl)) (fun cdv A outer s H vs Q E hr h => ⟨_, tie_tell_served T C_flat C_told_giving_out C_told_set hr, pure_tell_served T h⟩)
theorem cal_tell_bound (T : Top K mg) (d : ∃ f fd, C8.Def K mg "tell_bound" s_tell_bound f fd ∧ Binds K fd P_tell_bound []) (C_bound_of : C8.Cal P w K mg base 3 "bound_of" (sp_bound_of mg) []) :
    C8.Cal P w K mg base 4 "tell_bound" (sp_tell_bound mg) [] := by
  obtain ⟨f, fd, F, b⟩ := d
  refine C8.cal0 (k := 3) F b .nil sc_tell_bound (fun vs H Q E h => by
    first | (obtain ⟨_, rfl, _⟩ := h; rfl) | (obtain ⟨_, _, rfl, _⟩ := h; rfl) | (obtain ⟨_, _, _, rfl, _⟩ := h; rfl) | (obtain ⟨_, _, _, _, rfl, _⟩ := h; rfl) | (obtain ⟨_, _, _, _, _, rfl, _⟩ := h; rfl) | (obtain ⟨_, _, _, _, _, _, rfl, _⟩ := h; rfl) | (obtain ⟨_, _, _, _, _, _, _, rfl, _⟩ := h; rfl) | (obtain ⟨_, _, _, _, _, _, _, _, rfl, _⟩ := h; rfl) | (obtain ⟨_, _, _, _, _, _, _, _, _, rfl, _⟩ := h; rfl) | (obtain ⟨_, _, _, _, _, _, _, _, _, _, rfl, _⟩ := h; rfl) | (obtain ⟨_, _, _, _, _, _, _, _, _, _, _, rfl, _⟩ := h; rfl) | (obtain ⟨_, _, _, _, _, _, _, _, _, _, _, _, rfl, _⟩ := h; rfl) | (obtain ⟨_, _, _, _, _, _, _, _, _, _, _, _, _, rfl, _⟩ := h; rfl) | (obtain ⟨_, _, _, _, _, _, _, _, _, _, _, _, _, _, rfl, _⟩ := h; rfl) | (obtain ⟨_, _, _, _, _, _, _, _, _, _, _, _, _, _, _, rfl, _⟩ := h; rfl) | (obtain ⟨_, _, _, _, _, _, _, _, _, _, _, _, _, _, _, _, rfl, _⟩ := h; rfl)) (fun cdv A outer s H vs Q E hr h => ⟨_, tie_tell_bound T C_bound_of hr, pure_tell_bound T h⟩)
theorem cal_tell_states (T : Top K mg) (d : ∃ f fd, C8.Def K mg "tell_states" s_tell_states f fd ∧ Binds K fd P_tell_states []) (C_places_of_dead : C8.Cal P w K mg base 2 "places_of_dead" (sp_places_of_dead mg) []) (X_row_from : CalX P w K mg base 5 "row_from" (sp_row_from mg)) :
    C8.Cal P w K mg base 6 "tell_states" (sp_tell_states mg) [] := by
  obtain ⟨f, fd, F, b⟩ := d
  refine C8.cal0 (k := 5) F b .nil sc_tell_states (fun vs H Q E h => by
    first | (obtain ⟨_, rfl, _⟩ := h; rfl) | (obtain ⟨_, _, rfl, _⟩ := h; rfl) | (obtain ⟨_, _, _, rfl, _⟩ := h; rfl) | (obtain ⟨_, _, _, _, rfl, _⟩ := h; rfl) | (obtain ⟨_, _, _, _, _, rfl, _⟩ := h; rfl) | (obtain ⟨_, _, _, _, _, _, rfl, _⟩ := h; rfl) | (obtain ⟨_, _, _, _, _, _, _, rfl, _⟩ := h; rfl) | (obtain ⟨_, _, _, _, _, _, _, _, rfl, _⟩ := h; rfl) | (obtain ⟨_, _, _, _, _, _, _, _, _, rfl, _⟩ := h; rfl) | (obtain ⟨_, _, _, _, _, _, _, _, _, _, rfl, _⟩ := h; rfl) | (obtain ⟨_, _, _, _, _, _, _, _, _, _, _, rfl, _⟩ := h; rfl) | (obtain ⟨_, _, _, _, _, _, _, _, _, _, _, _, rfl, _⟩ := h; rfl) | (obtain ⟨_, _, _, _, _, _, _, _, _, _, _, _, _, rfl, _⟩ := h; rfl) | (obtain ⟨_, _, _, _, _, _, _, _, _, _, _, _, _, _, rfl, _⟩ := h; rfl) | (obtain ⟨_, _, _, _, _, _, _, _, _, _, _, _, _, _, _, rfl, _⟩ := h; rfl) | (obtain ⟨_, _, _, _, _, _, _, _, _, _, _, _, _, _, _, _, rfl, _⟩ := h; rfl)) (fun cdv A outer s H vs Q E hr h => ⟨_, tie_tell_states T C_places_of_dead X_row_from hr, pure_tell_states T h⟩)
theorem cal_tell_dead (T : Top K mg) (d : ∃ f fd, C8.Def K mg "tell_dead" s_tell_dead f fd ∧ Binds K fd P_tell_dead []) (C_as_number : C8.Cal P w K mg base 1 "as_number" (sp_as_number) []) (C_places_of_dead : C8.Cal P w K mg base 2 "places_of_dead" (sp_places_of_dead mg) []) (X_row_from : CalX P w K mg base 5 "row_from" (sp_row_from mg)) :
    CalX P w K mg base 6 "tell_dead" (sp_tell_dead mg) := by
  obtain ⟨f, fd, F, b⟩ := d
  refine calX0 (k := 5) F b sc_tell_dead (fun vs H Q E h => by
    first | (obtain ⟨_, rfl, _⟩ := h; rfl) | (obtain ⟨_, _, rfl, _⟩ := h; rfl) | (obtain ⟨_, _, _, rfl, _⟩ := h; rfl) | (obtain ⟨_, _, _, _, rfl, _⟩ := h; rfl) | (obtain ⟨_, _, _, _, _, rfl, _⟩ := h; rfl) | (obtain ⟨_, _, _, _, _, _, rfl, _⟩ := h; rfl) | (obtain ⟨_, _, _, _, _, _, _, rfl, _⟩ := h; rfl) | (obtain ⟨_, _, _, _, _, _, _, _, rfl, _⟩ := h; rfl) | (obtain ⟨_, _, _, _, _, _, _, _, _, rfl, _⟩ := h; rfl) | (obtain ⟨_, _, _, _, _, _, _, _, _, _, rfl, _⟩ := h; rfl) | (obtain ⟨_, _, _, _, _, _, _, _, _, _, _, rfl, _⟩ := h; rfl) | (obtain ⟨_, _, _, _, _, _, _, _, _, _, _, _, rfl, _⟩ := h; rfl) | (obtain ⟨_, _, _, _, _, _, _, _, _, _, _, _, _, rfl, _⟩ := h; rfl) | (obtain ⟨_, _, _, _, _, _, _, _, _, _, _, _, _, _, rfl, _⟩ := h; rfl) | (obtain ⟨_, _, _, _, _, _, _, _, _, _, _, _, _, _, _, rfl, _⟩ := h; rfl) | (obtain ⟨_, _, _, _, _, _, _, _, _, _, _, _, _, _, _, _, rfl, _⟩ := h; rfl)) (fun cdv A outer s H vs Q E hr h => ⟨_, tie_tell_dead T C_as_number C_places_of_dead X_row_from hr, pure_tell_dead T h⟩)
theorem cal_told_way (T : Top K mg) (d : ∃ f fd, C8.Def K mg "told_way" s_told_way f fd ∧ Binds K fd P_told_way []) (C_flat : C8.Cal P w K mg base 1 "flat" (sp_flat) []) (C_steps_to : C8.Cal P w K mg base 1 "steps_to" (sp_steps_to mg) []) :
    C8.Cal P w K mg base 2 "told_way" (sp_told_way mg) [] := by
  obtain ⟨f, fd, F, b⟩ := d
  refine C8.cal0 (k := 1) F b .nil sc_told_way (fun vs H Q E h => by
    first | (obtain ⟨_, rfl, _⟩ := h; rfl) | (obtain ⟨_, _, rfl, _⟩ := h; rfl) | (obtain ⟨_, _, _, rfl, _⟩ := h; rfl) | (obtain ⟨_, _, _, _, rfl, _⟩ := h; rfl) | (obtain ⟨_, _, _, _, _, rfl, _⟩ := h; rfl) | (obtain ⟨_, _, _, _, _, _, rfl, _⟩ := h; rfl) | (obtain ⟨_, _, _, _, _, _, _, rfl, _⟩ := h; rfl) | (obtain ⟨_, _, _, _, _, _, _, _, rfl, _⟩ := h; rfl) | (obtain ⟨_, _, _, _, _, _, _, _, _, rfl, _⟩ := h; rfl) | (obtain ⟨_, _, _, _, _, _, _, _, _, _, rfl, _⟩ := h; rfl) | (obtain ⟨_, _, _, _, _, _, _, _, _, _, _, rfl, _⟩ := h; rfl) | (obtain ⟨_, _, _, _, _, _, _, _, _, _, _, _, rfl, _⟩ := h; rfl) | (obtain ⟨_, _, _, _, _, _, _, _, _, _, _, _, _, rfl, _⟩ := h; rfl) | (obtain ⟨_, _, _, _, _, _, _, _, _, _, _, _, _, _, rfl, _⟩ := h; rfl) | (obtain ⟨_, _, _, _, _, _, _, _, _, _, _, _, _, _, _, rfl, _⟩ := h; rfl) | (obtain ⟨_, _, _, _, _, _, _, _, _, _, _, _, _, _, _, _, rfl, _⟩ := h; rfl)) (fun cdv A outer s H vs Q E hr h => ⟨_, tie_told_way T C_flat C_steps_to hr, pure_told_way T h⟩)
theorem cal_tell_way (T : Top K mg) (d : ∃ f fd, C8.Def K mg "tell_way" s_tell_way f fd ∧ Binds K fd P_tell_way []) (C_places_with_end : C8.Cal P w K mg base 2 "places_with_end" (sp_places_with_end mg) []) (X_row_from : CalX P w K mg base 5 "row_from" (sp_row_from mg)) (C_told_way : C8.Cal P w K mg base 2 "told_way" (sp_told_way mg) []) :
    CalX P w K mg base 6 "tell_way" (sp_tell_way mg) := by
  obtain ⟨f, fd, F, b⟩ := d
  refine calX0 (k := 5) F b sc_tell_way (fun vs H Q E h => by
    first | (obtain ⟨_, rfl, _⟩ := h; rfl) | (obtain ⟨_, _, rfl, _⟩ := h; rfl) | (obtain ⟨_, _, _, rfl, _⟩ := h; rfl) | (obtain ⟨_, _, _, _, rfl, _⟩ := h; rfl) | (obtain ⟨_, _, _, _, _, rfl, _⟩ := h; rfl) | (obtain ⟨_, _, _, _, _, _, rfl, _⟩ := h; rfl) | (obtain ⟨_, _, _, _, _, _, _, rfl, _⟩ := h; rfl) | (obtain ⟨_, _, _, _, _, _, _, _, rfl, _⟩ := h; rfl) | (obtain ⟨_, _, _, _, _, _, _, _, _, rfl, _⟩ := h; rfl) | (obtain ⟨_, _, _, _, _, _, _, _, _, _, rfl, _⟩ := h; rfl) | (obtain ⟨_, _, _, _, _, _, _, _, _, _, _, rfl, _⟩ := h; rfl) | (obtain ⟨_, _, _, _, _, _, _, _, _, _, _, _, rfl, _⟩ := h; rfl) | (obtain ⟨_, _, _, _, _, _, _, _, _, _, _, _, _, rfl, _⟩ := h; rfl) | (obtain ⟨_, _, _, _, _, _, _, _, _, _, _, _, _, _, rfl, _⟩ := h; rfl) | (obtain ⟨_, _, _, _, _, _, _, _, _, _, _, _, _, _, _, rfl, _⟩ := h; rfl) | (obtain ⟨_, _, _, _, _, _, _, _, _, _, _, _, _, _, _, _, rfl, _⟩ := h; rfl)) (fun cdv A outer s H vs Q E hr h => ⟨_, tie_tell_way T C_places_with_end X_row_from C_told_way hr, pure_tell_way T h⟩)
theorem cal_tell_doom (T : Top K mg) (d : ∃ f fd, C8.Def K mg "tell_doom" s_tell_doom f fd ∧ Binds K fd P_tell_doom []) (C_places_of_dead : C8.Cal P w K mg base 2 "places_of_dead" (sp_places_of_dead mg) []) (X_row_from : CalX P w K mg base 5 "row_from" (sp_row_from mg)) (C_told_way : C8.Cal P w K mg base 2 "told_way" (sp_told_way mg) []) :
    CalX P w K mg base 6 "tell_doom" (sp_tell_doom mg) := by
  obtain ⟨f, fd, F, b⟩ := d
  refine calX0 (k := 5) F b sc_tell_doom (fun vs H Q E h => by
    first | (obtain ⟨_, rfl, _⟩ := h; rfl) | (obtain ⟨_, _, rfl, _⟩ := h; rfl) | (obtain ⟨_, _, _, rfl, _⟩ := h; rfl) | (obtain ⟨_, _, _, _, rfl, _⟩ := h; rfl) | (obtain ⟨_, _, _, _, _, rfl, _⟩ := h; rfl) | (obtain ⟨_, _, _, _, _, _, rfl, _⟩ := h; rfl) | (obtain ⟨_, _, _, _, _, _, _, rfl, _⟩ := h; rfl) | (obtain ⟨_, _, _, _, _, _, _, _, rfl, _⟩ := h; rfl) | (obtain ⟨_, _, _, _, _, _, _, _, _, rfl, _⟩ := h; rfl) | (obtain ⟨_, _, _, _, _, _, _, _, _, _, rfl, _⟩ := h; rfl) | (obtain ⟨_, _, _, _, _, _, _, _, _, _, _, rfl, _⟩ := h; rfl) | (obtain ⟨_, _, _, _, _, _, _, _, _, _, _, _, rfl, _⟩ := h; rfl) | (obtain ⟨_, _, _, _, _, _, _, _, _, _, _, _, _, rfl, _⟩ := h; rfl) | (obtain ⟨_, _, _, _, _, _, _, _, _, _, _, _, _, _, rfl, _⟩ := h; rfl) | (obtain ⟨_, _, _, _, _, _, _, _, _, _, _, _, _, _, _, rfl, _⟩ := h; rfl) | (obtain ⟨_, _, _, _, _, _, _, _, _, _, _, _, _, _, _, _, rfl, _⟩ := h; rfl)) (fun cdv A outer s H vs Q E hr h => ⟨_, tie_tell_doom T C_places_of_dead X_row_from C_told_way hr, pure_tell_doom T h⟩)
theorem cal_tell_must (T : Top K mg) (d : ∃ f fd, C8.Def K mg "tell_must" s_tell_must f fd ∧ Binds K fd P_tell_must []) (C_as_number : C8.Cal P w K mg base 1 "as_number" (sp_as_number) []) (C_places_with_end : C8.Cal P w K mg base 2 "places_with_end" (sp_places_with_end mg) []) (X_row_from : CalX P w K mg base 5 "row_from" (sp_row_from mg)) :
    CalX P w K mg base 6 "tell_must" (sp_tell_must mg) := by
  obtain ⟨f, fd, F, b⟩ := d
  refine calX0 (k := 5) F b sc_tell_must (fun vs H Q E h => by
    first | (obtain ⟨_, rfl, _⟩ := h; rfl) | (obtain ⟨_, _, rfl, _⟩ := h; rfl) | (obtain ⟨_, _, _, rfl, _⟩ := h; rfl) | (obtain ⟨_, _, _, _, rfl, _⟩ := h; rfl) | (obtain ⟨_, _, _, _, _, rfl, _⟩ := h; rfl) | (obtain ⟨_, _, _, _, _, _, rfl, _⟩ := h; rfl) | (obtain ⟨_, _, _, _, _, _, _, rfl, _⟩ := h; rfl) | (obtain ⟨_, _, _, _, _, _, _, _, rfl, _⟩ := h; rfl) | (obtain ⟨_, _, _, _, _, _, _, _, _, rfl, _⟩ := h; rfl) | (obtain ⟨_, _, _, _, _, _, _, _, _, _, rfl, _⟩ := h; rfl) | (obtain ⟨_, _, _, _, _, _, _, _, _, _, _, rfl, _⟩ := h; rfl) | (obtain ⟨_, _, _, _, _, _, _, _, _, _, _, _, rfl, _⟩ := h; rfl) | (obtain ⟨_, _, _, _, _, _, _, _, _, _, _, _, _, rfl, _⟩ := h; rfl) | (obtain ⟨_, _, _, _, _, _, _, _, _, _, _, _, _, _, rfl, _⟩ := h; rfl) | (obtain ⟨_, _, _, _, _, _, _, _, _, _, _, _, _, _, _, rfl, _⟩ := h; rfl) | (obtain ⟨_, _, _, _, _, _, _, _, _, _, _, _, _, _, _, _, rfl, _⟩ := h; rfl)) (fun cdv A outer s H vs Q E hr h => ⟨_, tie_tell_must T C_as_number C_places_with_end X_row_from hr, pure_tell_must T h⟩)
theorem cal_tell_look (T : Top K mg) (d : ∃ f fd, C8.Def K mg "tell_look" s_tell_look f fd ∧ Binds K fd P_tell_look []) :
    C8.Cal P w K mg base 1 "tell_look" (sp_tell_look mg) [] := by
  obtain ⟨f, fd, F, b⟩ := d
  refine C8.cal0 (k := 0) F b .nil sc_tell_look (fun vs H Q E h => by
    first | (obtain ⟨_, rfl, _⟩ := h; rfl) | (obtain ⟨_, _, rfl, _⟩ := h; rfl) | (obtain ⟨_, _, _, rfl, _⟩ := h; rfl) | (obtain ⟨_, _, _, _, rfl, _⟩ := h; rfl) | (obtain ⟨_, _, _, _, _, rfl, _⟩ := h; rfl) | (obtain ⟨_, _, _, _, _, _, rfl, _⟩ := h; rfl) | (obtain ⟨_, _, _, _, _, _, _, rfl, _⟩ := h; rfl) | (obtain ⟨_, _, _, _, _, _, _, _, rfl, _⟩ := h; rfl) | (obtain ⟨_, _, _, _, _, _, _, _, _, rfl, _⟩ := h; rfl) | (obtain ⟨_, _, _, _, _, _, _, _, _, _, rfl, _⟩ := h; rfl) | (obtain ⟨_, _, _, _, _, _, _, _, _, _, _, rfl, _⟩ := h; rfl) | (obtain ⟨_, _, _, _, _, _, _, _, _, _, _, _, rfl, _⟩ := h; rfl) | (obtain ⟨_, _, _, _, _, _, _, _, _, _, _, _, _, rfl, _⟩ := h; rfl) | (obtain ⟨_, _, _, _, _, _, _, _, _, _, _, _, _, _, rfl, _⟩ := h; rfl) | (obtain ⟨_, _, _, _, _, _, _, _, _, _, _, _, _, _, _, rfl, _⟩ := h; rfl) | (obtain ⟨_, _, _, _, _, _, _, _, _, _, _, _, _, _, _, _, rfl, _⟩ := h; rfl)) (fun cdv A outer s H vs Q E hr h => ⟨_, tie_tell_look T hr, pure_tell_look T h⟩)
theorem cal_tell_rivals (T : Top K mg) (d : ∃ f fd, C8.Def K mg "tell_rivals" s_tell_rivals f fd ∧ Binds K fd P_tell_rivals []) (C_count_all : C8.Cal P w K mg base 2 "count_all" (sp_count_all mg) []) (C_rivals_of : C8.Cal P w K mg base 2 "rivals_of" (sp_rivals_of mg) []) :
    C8.Cal P w K mg base 3 "tell_rivals" (sp_tell_rivals mg) [] := by
  obtain ⟨f, fd, F, b⟩ := d
  refine C8.cal0 (k := 2) F b .nil sc_tell_rivals (fun vs H Q E h => by
    first | (obtain ⟨_, rfl, _⟩ := h; rfl) | (obtain ⟨_, _, rfl, _⟩ := h; rfl) | (obtain ⟨_, _, _, rfl, _⟩ := h; rfl) | (obtain ⟨_, _, _, _, rfl, _⟩ := h; rfl) | (obtain ⟨_, _, _, _, _, rfl, _⟩ := h; rfl) | (obtain ⟨_, _, _, _, _, _, rfl, _⟩ := h; rfl) | (obtain ⟨_, _, _, _, _, _, _, rfl, _⟩ := h; rfl) | (obtain ⟨_, _, _, _, _, _, _, _, rfl, _⟩ := h; rfl) | (obtain ⟨_, _, _, _, _, _, _, _, _, rfl, _⟩ := h; rfl) | (obtain ⟨_, _, _, _, _, _, _, _, _, _, rfl, _⟩ := h; rfl) | (obtain ⟨_, _, _, _, _, _, _, _, _, _, _, rfl, _⟩ := h; rfl) | (obtain ⟨_, _, _, _, _, _, _, _, _, _, _, _, rfl, _⟩ := h; rfl) | (obtain ⟨_, _, _, _, _, _, _, _, _, _, _, _, _, rfl, _⟩ := h; rfl) | (obtain ⟨_, _, _, _, _, _, _, _, _, _, _, _, _, _, rfl, _⟩ := h; rfl) | (obtain ⟨_, _, _, _, _, _, _, _, _, _, _, _, _, _, _, rfl, _⟩ := h; rfl) | (obtain ⟨_, _, _, _, _, _, _, _, _, _, _, _, _, _, _, _, rfl, _⟩ := h; rfl)) (fun cdv A outer s H vs Q E hr h => ⟨_, tie_tell_rivals T C_count_all C_rivals_of hr, pure_tell_rivals T h⟩)
theorem cal_answer_call (T : Top K mg) (D : Dicts K mg) (d : ∃ f fd, C8.Def K mg "answer_call" s_answer_call f fd ∧ Binds K fd P_answer_call []) (C_refusal_of : C8.Cal P w K mg base 5 "refusal_of" (sp_refusal_of mg) []) (D_call : ∀ f sp, (dynC mg) f sp → HeldX P w K mg base 6 f sp) :
    C8.Cal P w K mg base 7 "answer_call" (sp_answer_call mg) [] := by
  obtain ⟨f, fd, F, b⟩ := d
  refine C8.cal0 (k := 6) F b .nil sc_answer_call (fun vs H Q E h => by
    first | (obtain ⟨_, rfl, _⟩ := h; rfl) | (obtain ⟨_, _, rfl, _⟩ := h; rfl) | (obtain ⟨_, _, _, rfl, _⟩ := h; rfl) | (obtain ⟨_, _, _, _, rfl, _⟩ := h; rfl) | (obtain ⟨_, _, _, _, _, rfl, _⟩ := h; rfl) | (obtain ⟨_, _, _, _, _, _, rfl, _⟩ := h; rfl) | (obtain ⟨_, _, _, _, _, _, _, rfl, _⟩ := h; rfl) | (obtain ⟨_, _, _, _, _, _, _, _, rfl, _⟩ := h; rfl) | (obtain ⟨_, _, _, _, _, _, _, _, _, rfl, _⟩ := h; rfl) | (obtain ⟨_, _, _, _, _, _, _, _, _, _, rfl, _⟩ := h; rfl) | (obtain ⟨_, _, _, _, _, _, _, _, _, _, _, rfl, _⟩ := h; rfl) | (obtain ⟨_, _, _, _, _, _, _, _, _, _, _, _, rfl, _⟩ := h; rfl) | (obtain ⟨_, _, _, _, _, _, _, _, _, _, _, _, _, rfl, _⟩ := h; rfl) | (obtain ⟨_, _, _, _, _, _, _, _, _, _, _, _, _, _, rfl, _⟩ := h; rfl) | (obtain ⟨_, _, _, _, _, _, _, _, _, _, _, _, _, _, _, rfl, _⟩ := h; rfl) | (obtain ⟨_, _, _, _, _, _, _, _, _, _, _, _, _, _, _, _, rfl, _⟩ := h; rfl)) (fun cdv A outer s H vs Q E hr h => ⟨_, tie_answer_call T C_refusal_of D_call hr, pure_answer_call T D h⟩)
theorem cal_answers (T : Top K mg) (D : Dicts K mg) (d : ∃ f fd, C8.Def K mg "answers" s_answers f fd ∧ Binds K fd P_answers []) (C_answer_call : C8.Cal P w K mg base 7 "answer_call" (sp_answer_call mg) []) (C_cut_calls : C8.Cal P w K mg base 1 "cut_calls" (sp_cut_calls K) []) (M_Line : C8.Mak P w K mg base 1 "Line" (adr mg "Line") (sp_Line_init mg) []) :
    C8.Cal P w K mg base 8 "answers" (sp_answers K) [] := by
  obtain ⟨f, fd, F, b⟩ := d
  refine C8.cal0 (k := 7) F b .nil sc_answers (fun vs H Q E h => by
    first | (obtain ⟨_, rfl, _⟩ := h; rfl) | (obtain ⟨_, _, rfl, _⟩ := h; rfl) | (obtain ⟨_, _, _, rfl, _⟩ := h; rfl) | (obtain ⟨_, _, _, _, rfl, _⟩ := h; rfl) | (obtain ⟨_, _, _, _, _, rfl, _⟩ := h; rfl) | (obtain ⟨_, _, _, _, _, _, rfl, _⟩ := h; rfl) | (obtain ⟨_, _, _, _, _, _, _, rfl, _⟩ := h; rfl) | (obtain ⟨_, _, _, _, _, _, _, _, rfl, _⟩ := h; rfl) | (obtain ⟨_, _, _, _, _, _, _, _, _, rfl, _⟩ := h; rfl) | (obtain ⟨_, _, _, _, _, _, _, _, _, _, rfl, _⟩ := h; rfl) | (obtain ⟨_, _, _, _, _, _, _, _, _, _, _, rfl, _⟩ := h; rfl) | (obtain ⟨_, _, _, _, _, _, _, _, _, _, _, _, rfl, _⟩ := h; rfl) | (obtain ⟨_, _, _, _, _, _, _, _, _, _, _, _, _, rfl, _⟩ := h; rfl) | (obtain ⟨_, _, _, _, _, _, _, _, _, _, _, _, _, _, rfl, _⟩ := h; rfl) | (obtain ⟨_, _, _, _, _, _, _, _, _, _, _, _, _, _, _, rfl, _⟩ := h; rfl) | (obtain ⟨_, _, _, _, _, _, _, _, _, _, _, _, _, _, _, _, rfl, _⟩ := h; rfl)) (fun cdv A outer s H vs Q E hr h => ⟨_, tie_answers T C_answer_call C_cut_calls M_Line hr, pure_answers T D h⟩)
/-- every def as it stands -/
structure Defs (K : PySem.W.Frag) (mg : Mg) : Prop where
  d_Deed_init : ∃ f fd, Mk K (adr mg "Deed") f ∧ C8.Fun K "__init__" "Deed.__init__" s_Deed_init f fd ∧ Binds K fd P_Deed_init []
  m_Deed_init : mg "Deed" = some (.ref (adr mg "Deed"))
  d_Play_init : ∃ f fd, Mk K (adr mg "Play") f ∧ C8.Fun K "__init__" "Play.__init__" s_Play_init f fd ∧ Binds K fd P_Play_init []
  m_Play_init : mg "Play" = some (.ref (adr mg "Play"))
  d_House_init : ∃ f fd, Mk K (adr mg "House") f ∧ C8.Fun K "__init__" "House.__init__" s_House_init f fd ∧ Binds K fd P_House_init []
  m_House_init : mg "House" = some (.ref (adr mg "House"))
  d_Line_init : ∃ f fd, Mk K (adr mg "Line") f ∧ C8.Fun K "__init__" "Line.__init__" s_Line_init f fd ∧ Binds K fd P_Line_init []
  m_Line_init : mg "Line" = some (.ref (adr mg "Line"))
  d_is_end_done : ∃ f fd, C8.Def K mg "is_end_done" s_is_end_done f fd ∧ Binds K fd P_is_end_done []
  d_holds_all : ∃ f fd, C8.Def K mg "holds_all" s_holds_all f fd ∧ Binds K fd P_holds_all []
  d_are_met : ∃ f fd, C8.Def K mg "are_met" s_are_met f fd ∧ Binds K fd P_are_met []
  d_kinds_for : ∃ f fd, C8.Def K mg "kinds_for" s_kinds_for f fd ∧ Binds K fd P_kinds_for []
  d_all_steps : ∃ f fd, C8.Def K mg "all_steps" s_all_steps f fd ∧ Binds K fd P_all_steps []
  d_play_after : ∃ f fd, C8.Def K mg "play_after" s_play_after f fd ∧ Binds K fd P_play_after []
  d_closure_of : ∃ f fd, C8.Def K mg "closure_of" s_closure_of f fd ∧ Binds K fd P_closure_of []
  d_share_a_kind : ∃ f fd, C8.Def K mg "share_a_kind" s_share_a_kind f fd ∧ Binds K fd P_share_a_kind []
  d_rivals_of : ∃ f fd, C8.Def K mg "rivals_of" s_rivals_of f fd ∧ Binds K fd P_rivals_of []
  d_count_things : ∃ f fd, C8.Def K mg "count_things" s_count_things f fd ∧ Binds K fd P_count_things []
  d_is_sure : ∃ f fd, C8.Def K mg "is_sure" s_is_sure f fd ∧ Binds K fd P_is_sure []
  d_told_ranks : ∃ f fd, C8.Def K mg "told_ranks" s_told_ranks f fd ∧ Binds K fd P_told_ranks []
  d_are_accepted : ∃ f fd, C8.Def K mg "are_accepted" s_are_accepted f fd ∧ Binds K fd P_are_accepted []
  d_cut_calls : ∃ f fd, C8.Def K mg "cut_calls" s_cut_calls f fd ∧ Binds K fd P_cut_calls []
  d_cut_needs : ∃ f fd, C8.Def K mg "cut_needs" s_cut_needs f fd ∧ Binds K fd P_cut_needs []
  d_is_list_within : ∃ f fd, C8.Def K mg "is_list_within" s_is_list_within f fd ∧ Binds K fd P_is_list_within []
  d_is_rising : ∃ f fd, C8.Def K mg "is_rising" s_is_rising f fd ∧ Binds K fd P_is_rising []
  d_is_deed_number : ∃ f fd, C8.Def K mg "is_deed_number" s_is_deed_number f fd ∧ Binds K fd P_is_deed_number []
  d_refuse_house : ∃ f fd, C8.Def K mg "refuse_house" s_refuse_house f fd ∧ Binds K fd P_refuse_house []
  d_is_deed_as_told : ∃ f fd, C8.Def K mg "is_deed_as_told" s_is_deed_as_told f fd ∧ Binds K fd P_is_deed_as_told []
  d_refuse_deed : ∃ f fd, C8.Def K mg "refuse_deed" s_refuse_deed f fd ∧ Binds K fd P_refuse_deed []
  d_refuse_act : ∃ f fd, C8.Def K mg "refuse_act" s_refuse_act f fd ∧ Binds K fd P_refuse_act []
  d_refuse_bare : ∃ f fd, C8.Def K mg "refuse_bare" s_refuse_bare f fd ∧ Binds K fd P_refuse_bare []
  d_refuse_accepts : ∃ f fd, C8.Def K mg "refuse_accepts" s_refuse_accepts f fd ∧ Binds K fd P_refuse_accepts []
  d_refuse_sure : ∃ f fd, C8.Def K mg "refuse_sure" s_refuse_sure f fd ∧ Binds K fd P_refuse_sure []
  d_refuse_bound : ∃ f fd, C8.Def K mg "refuse_bound" s_refuse_bound f fd ∧ Binds K fd P_refuse_bound []
  d_refuse_deed_number : ∃ f fd, C8.Def K mg "refuse_deed_number" s_refuse_deed_number f fd ∧ Binds K fd P_refuse_deed_number []
  d_refusal_of : ∃ f fd, C8.Def K mg "refusal_of" s_refusal_of f fd ∧ Binds K fd P_refusal_of []
  d_count_all : ∃ f fd, C8.Def K mg "count_all" s_count_all f fd ∧ Binds K fd P_count_all []
  d_put_in : ∃ f fd, C8.Def K mg "put_in" s_put_in f fd ∧ Binds K fd P_put_in []
  d_row_of_kinds : ∃ f fd, C8.Def K mg "row_of_kinds" s_row_of_kinds f fd ∧ Binds K fd P_row_of_kinds []
  d_first_free : ∃ f fd, C8.Def K mg "first_free" s_first_free f fd ∧ Binds K fd P_first_free []
  d_hand_on : ∃ f fd, C8.Def K mg "hand_on" s_hand_on f fd ∧ Binds K fd P_hand_on []
  d_told_giving_out : ∃ f fd, C8.Def K mg "told_giving_out" s_told_giving_out f fd ∧ Binds K fd P_told_giving_out []
  d_told_set : ∃ f fd, C8.Def K mg "told_set" s_told_set f fd ∧ Binds K fd P_told_set []
  d_uses_another : ∃ f fd, C8.Def K mg "uses_another" s_uses_another f fd ∧ Binds K fd P_uses_another []
  d_bound_of : ∃ f fd, C8.Def K mg "bound_of" s_bound_of f fd ∧ Binds K fd P_bound_of []
  d_Entry_init : ∃ f fd, Mk K (adr mg "Entry") f ∧ C8.Fun K "__init__" "Entry.__init__" s_Entry_init f fd ∧ Binds K fd P_Entry_init []
  m_Entry_init : mg "Entry" = some (.ref (adr mg "Entry"))
  d_mark_of : ∃ f fd, C8.Def K mg "mark_of" s_mark_of f fd ∧ Binds K fd P_mark_of []
  d_row_from : ∃ f fd, C8.Def K mg "row_from" s_row_from f fd ∧ Binds K fd P_row_from []
  d_places_with_end : ∃ f fd, C8.Def K mg "places_with_end" s_places_with_end f fd ∧ Binds K fd P_places_with_end []
  d_places_of_dead : ∃ f fd, C8.Def K mg "places_of_dead" s_places_of_dead f fd ∧ Binds K fd P_places_of_dead []
  d_steps_to : ∃ f fd, C8.Def K mg "steps_to" s_steps_to f fd ∧ Binds K fd P_steps_to []
  d_as_number : ∃ f fd, C8.Def K mg "as_number" s_as_number f fd ∧ Binds K fd P_as_number []
  d_flat : ∃ f fd, C8.Def K mg "flat" s_flat f fd ∧ Binds K fd P_flat []
  d_do_house : ∃ f fd, C8.Def K mg "do_house" s_do_house f fd ∧ Binds K fd P_do_house []
  d_do_deed : ∃ f fd, C8.Def K mg "do_deed" s_do_deed f fd ∧ Binds K fd P_do_deed []
  d_do_act : ∃ f fd, C8.Def K mg "do_act" s_do_act f fd ∧ Binds K fd P_do_act []
  d_do_again : ∃ f fd, C8.Def K mg "do_again" s_do_again f fd ∧ Binds K fd P_do_again []
  d_tell_now : ∃ f fd, C8.Def K mg "tell_now" s_tell_now f fd ∧ Binds K fd P_tell_now []
  d_tell_can : ∃ f fd, C8.Def K mg "tell_can" s_tell_can f fd ∧ Binds K fd P_tell_can []
  d_tell_closure : ∃ f fd, C8.Def K mg "tell_closure" s_tell_closure f fd ∧ Binds K fd P_tell_closure []
  d_tell_ranks : ∃ f fd, C8.Def K mg "tell_ranks" s_tell_ranks f fd ∧ Binds K fd P_tell_ranks []
  d_tell_accepts : ∃ f fd, C8.Def K mg "tell_accepts" s_tell_accepts f fd ∧ Binds K fd P_tell_accepts []
  d_tell_sure : ∃ f fd, C8.Def K mg "tell_sure" s_tell_sure f fd ∧ Binds K fd P_tell_sure []
  d_tell_served : ∃ f fd, C8.Def K mg "tell_served" s_tell_served f fd ∧ Binds K fd P_tell_served []
  d_tell_bound : ∃ f fd, C8.Def K mg "tell_bound" s_tell_bound f fd ∧ Binds K fd P_tell_bound []
  d_tell_states : ∃ f fd, C8.Def K mg "tell_states" s_tell_states f fd ∧ Binds K fd P_tell_states []
  d_tell_dead : ∃ f fd, C8.Def K mg "tell_dead" s_tell_dead f fd ∧ Binds K fd P_tell_dead []
  d_told_way : ∃ f fd, C8.Def K mg "told_way" s_told_way f fd ∧ Binds K fd P_told_way []
  d_tell_way : ∃ f fd, C8.Def K mg "tell_way" s_tell_way f fd ∧ Binds K fd P_tell_way []
  d_tell_doom : ∃ f fd, C8.Def K mg "tell_doom" s_tell_doom f fd ∧ Binds K fd P_tell_doom []
  d_tell_must : ∃ f fd, C8.Def K mg "tell_must" s_tell_must f fd ∧ Binds K fd P_tell_must []
  d_tell_look : ∃ f fd, C8.Def K mg "tell_look" s_tell_look f fd ∧ Binds K fd P_tell_look []
  d_tell_rivals : ∃ f fd, C8.Def K mg "tell_rivals" s_tell_rivals f fd ∧ Binds K fd P_tell_rivals []
  d_answer_call : ∃ f fd, C8.Def K mg "answer_call" s_answer_call f fd ∧ Binds K fd P_answer_call []
  d_answers : ∃ f fd, C8.Def K mg "answers" s_answers f fd ∧ Binds K fd P_answers []
theorem chain (T : Top K mg) (D : Dicts K mg) (W : Defs K mg) : C8.Cal P w K mg base 7 "answer_call" (sp_answer_call mg) [] ∧ C8.Cal P w K mg base 1 "cut_calls" (sp_cut_calls K) [] ∧ C8.Mak P w K mg base 1 "Line" (adr mg "Line") (sp_Line_init mg) [] := by
  have M_Deed := mak_Deed (P := P) (w := w) (base := base) T W.d_Deed_init W.m_Deed_init
  have M_Play := mak_Play (P := P) (w := w) (base := base) T W.d_Play_init W.m_Play_init
  have M_House := mak_House (P := P) (w := w) (base := base) T W.d_House_init W.m_House_init M_Play
  have M_Line := mak_Line (P := P) (w := w) (base := base) T W.d_Line_init W.m_Line_init
  have C_is_end_done := cal_is_end_done (P := P) (w := w) (base := base) T W.d_is_end_done
  have C_holds_all := cal_holds_all (P := P) (w := w) (base := base) T W.d_holds_all
  have C_are_met := cal_are_met (P := P) (w := w) (base := base) T W.d_are_met C_holds_all
  have C_kinds_for := cal_kinds_for (P := P) (w := w) (base := base) T W.d_kinds_for C_are_met
  have C_all_steps := cal_all_steps (P := P) (w := w) (base := base) T W.d_all_steps C_kinds_for
  have C_play_after := cal_play_after (P := P) (w := w) (base := base) T W.d_play_after M_Play
  have C_closure_of := cal_closure_of (P := P) (w := w) (base := base) T W.d_closure_of C_are_met
  have C_share_a_kind := cal_share_a_kind (P := P) (w := w) (base := base) T W.d_share_a_kind
  have C_rivals_of := cal_rivals_of (P := P) (w := w) (base := base) T W.d_rivals_of C_share_a_kind
  have C_count_things := cal_count_things (P := P) (w := w) (base := base) T W.d_count_things
  have C_is_sure := cal_is_sure (P := P) (w := w) (base := base) T W.d_is_sure C_are_met C_count_things C_rivals_of
  have C_told_ranks := cal_told_ranks (P := P) (w := w) (base := base) T W.d_told_ranks C_is_sure
  have C_are_accepted := cal_are_accepted (P := P) (w := w) (base := base) T W.d_are_accepted C_is_sure
  have C_cut_calls := cal_cut_calls (P := P) (w := w) (base := base) T D W.d_cut_calls
  have C_cut_needs := cal_cut_needs (P := P) (w := w) (base := base) T W.d_cut_needs
  have C_is_list_within := cal_is_list_within (P := P) (w := w) (base := base) T W.d_is_list_within
  have C_is_rising := cal_is_rising (P := P) (w := w) (base := base) T W.d_is_rising
  have C_is_deed_number := cal_is_deed_number (P := P) (w := w) (base := base) T W.d_is_deed_number
  have C_refuse_house := cal_refuse_house (P := P) (w := w) (base := base) T W.d_refuse_house C_is_list_within
  have C_is_deed_as_told := cal_is_deed_as_told (P := P) (w := w) (base := base) T W.d_is_deed_as_told C_is_list_within C_is_rising
  have C_refuse_deed := cal_refuse_deed (P := P) (w := w) (base := base) T W.d_refuse_deed C_is_deed_as_told
  have C_refuse_act := cal_refuse_act (P := P) (w := w) (base := base) T W.d_refuse_act C_is_deed_number C_kinds_for
  have C_refuse_bare := cal_refuse_bare (P := P) (w := w) (base := base) T W.d_refuse_bare
  have C_refuse_accepts := cal_refuse_accepts (P := P) (w := w) (base := base) T W.d_refuse_accepts C_is_list_within C_refuse_bare
  have C_refuse_sure := cal_refuse_sure (P := P) (w := w) (base := base) T W.d_refuse_sure C_is_deed_number C_is_list_within C_is_rising
  have C_refuse_bound := cal_refuse_bound (P := P) (w := w) (base := base) T W.d_refuse_bound C_is_list_within C_is_rising
  have C_refuse_deed_number := cal_refuse_deed_number (P := P) (w := w) (base := base) T W.d_refuse_deed_number C_is_deed_number
  have D_refuse : ∀ f sp, (dynR mg) f sp → Held P w K mg base 4 f sp := fun f sp h => by
    unfold dynR at h
    simp only [List.mem_cons, List.not_mem_nil, or_false] at h
    rcases h with h | h | h | h | h | h | h | h
    · cases h; exact held_cal C_refuse_house (by decide)
    · cases h; exact held_cal C_refuse_deed (by decide)
    · cases h; exact held_cal C_refuse_act (by decide)
    · cases h; exact held_cal C_refuse_bare (by decide)
    · cases h; exact held_cal C_refuse_accepts (by decide)
    · cases h; exact held_cal C_refuse_sure (by decide)
    · cases h; exact held_cal C_refuse_bound (by decide)
    · cases h; exact held_cal C_refuse_deed_number (by decide)
  have C_refusal_of := cal_refusal_of (P := P) (w := w) (base := base) T D W.d_refusal_of D_refuse
  have C_count_all := cal_count_all (P := P) (w := w) (base := base) T W.d_count_all C_count_things
  have C_put_in := cal_put_in (P := P) (w := w) (base := base) T W.d_put_in
  have C_row_of_kinds := cal_row_of_kinds (P := P) (w := w) (base := base) T W.d_row_of_kinds C_put_in
  have C_first_free := cal_first_free (P := P) (w := w) (base := base) T W.d_first_free
  have C_hand_on := cal_hand_on (P := P) (w := w) (base := base) T W.d_hand_on
  have C_told_giving_out := cal_told_giving_out (P := P) (w := w) (base := base) T W.d_told_giving_out C_count_all C_first_free C_hand_on C_row_of_kinds
  have C_told_set := cal_told_set (P := P) (w := w) (base := base) T W.d_told_set C_row_of_kinds
  have C_uses_another := cal_uses_another (P := P) (w := w) (base := base) T W.d_uses_another
  have C_bound_of := cal_bound_of (P := P) (w := w) (base := base) T W.d_bound_of C_count_all C_uses_another
  have M_Entry := mak_Entry (P := P) (w := w) (base := base) T W.d_Entry_init W.m_Entry_init
  have C_mark_of := cal_mark_of (P := P) (w := w) (base := base) T W.d_mark_of
  have X_row_from := cal_row_from (P := P) (w := w) (base := base) T W.d_row_from C_all_steps C_mark_of C_play_after M_Entry
  have C_places_with_end := cal_places_with_end (P := P) (w := w) (base := base) T W.d_places_with_end C_is_end_done
  have C_places_of_dead := cal_places_of_dead (P := P) (w := w) (base := base) T W.d_places_of_dead C_is_end_done
  have C_steps_to := cal_steps_to (P := P) (w := w) (base := base) T W.d_steps_to
  have C_as_number := cal_as_number (P := P) (w := w) (base := base) T W.d_as_number
  have C_flat := cal_flat (P := P) (w := w) (base := base) T W.d_flat
  have C_do_house := cal_do_house (P := P) (w := w) (base := base) T W.d_do_house M_House
  have C_do_deed := cal_do_deed (P := P) (w := w) (base := base) T W.d_do_deed C_cut_needs M_Deed
  have C_do_act := cal_do_act (P := P) (w := w) (base := base) T W.d_do_act C_as_number C_is_end_done C_play_after
  have C_do_again := cal_do_again (P := P) (w := w) (base := base) T W.d_do_again M_Play
  have C_tell_now := cal_tell_now (P := P) (w := w) (base := base) T W.d_tell_now
  have C_tell_can := cal_tell_can (P := P) (w := w) (base := base) T W.d_tell_can C_all_steps C_flat
  have C_tell_closure := cal_tell_closure (P := P) (w := w) (base := base) T W.d_tell_closure C_closure_of
  have C_tell_ranks := cal_tell_ranks (P := P) (w := w) (base := base) T W.d_tell_ranks C_told_ranks
  have C_tell_accepts := cal_tell_accepts (P := P) (w := w) (base := base) T W.d_tell_accepts C_are_accepted C_as_number
  have C_tell_sure := cal_tell_sure (P := P) (w := w) (base := base) T W.d_tell_sure C_as_number C_is_sure
  have C_tell_served := cal_tell_served (P := P) (w := w) (base := base) T W.d_tell_served C_flat C_told_giving_out C_told_set
  have C_tell_bound := cal_tell_bound (P := P) (w := w) (base := base) T W.d_tell_bound C_bound_of
  have C_tell_states := cal_tell_states (P := P) (w := w) (base := base) T W.d_tell_states C_places_of_dead X_row_from
  have X_tell_dead := cal_tell_dead (P := P) (w := w) (base := base) T W.d_tell_dead C_as_number C_places_of_dead X_row_from
  have C_told_way := cal_told_way (P := P) (w := w) (base := base) T W.d_told_way C_flat C_steps_to
  have X_tell_way := cal_tell_way (P := P) (w := w) (base := base) T W.d_tell_way C_places_with_end X_row_from C_told_way
  have X_tell_doom := cal_tell_doom (P := P) (w := w) (base := base) T W.d_tell_doom C_places_of_dead X_row_from C_told_way
  have X_tell_must := cal_tell_must (P := P) (w := w) (base := base) T W.d_tell_must C_as_number C_places_with_end X_row_from
  have C_tell_look := cal_tell_look (P := P) (w := w) (base := base) T W.d_tell_look
  have C_tell_rivals := cal_tell_rivals (P := P) (w := w) (base := base) T W.d_tell_rivals C_count_all C_rivals_of
  have D_call : ∀ f sp, (dynC mg) f sp → HeldX P w K mg base 6 f sp := fun f sp h => by
    unfold dynC at h
    simp only [List.mem_cons, List.not_mem_nil, or_false] at h
    rcases h with h | h | h | h | h | h | h | h | h | h | h | h | h | h | h | h | h | h | h
    · cases h; exact heldX_cal C_do_house (by decide)
    · cases h; exact heldX_cal C_do_deed (by decide)
    · cases h; exact heldX_cal C_do_act (by decide)
    · cases h; exact heldX_cal C_do_again (by decide)
    · cases h; exact heldX_cal C_tell_now (by decide)
    · cases h; exact heldX_cal C_tell_can (by decide)
    · cases h; exact heldX_cal C_tell_closure (by decide)
    · cases h; exact heldX_cal C_tell_ranks (by decide)
    · cases h; exact heldX_cal C_tell_accepts (by decide)
    · cases h; exact heldX_cal C_tell_sure (by decide)
    · cases h; exact heldX_cal C_tell_served (by decide)
    · cases h; exact heldX_cal C_tell_bound (by decide)
    · cases h; exact heldX_cal C_tell_states (by decide)
    · cases h; exact heldX_calX X_tell_dead (by decide)
    · cases h; exact heldX_calX X_tell_way (by decide)
    · cases h; exact heldX_calX X_tell_doom (by decide)
    · cases h; exact heldX_calX X_tell_must (by decide)
    · cases h; exact heldX_cal C_tell_look (by decide)
    · cases h; exact heldX_cal C_tell_rivals (by decide)
  have C_answer_call := cal_answer_call (P := P) (w := w) (base := base) T D W.d_answer_call C_refusal_of D_call
  exact ⟨C_answer_call, C_cut_calls, M_Line⟩
end
theorem adr_of {mg : Mg} {x : Str} {a : Addr} (h : mg x = some (.ref a)) : adr mg x = a := by
  unfold adr
  rw [h]
theorem mk_def {K : PySem.W.Frag} {h : Heap} {mg : Mg} {x : Str} {st : Stmt} {ps : List Str} {f : Addr} {oc : Value} {od an : Option Addr} {osl : Array (Option Value)} {kV doc pm cdv ct : Value} (X : K.In h) (G : h.Ns mainGlobals mg)
    (a : PySem.W.nsIn K mainGlobals x = some (some (.ref f))) (l : K.lookup f = some ⟨oc, od, .func (PySem.W.fnOf x x (C8.fnArgs st) (C8.fnBody st) (C8.fnScope st) .none kV doc pm an cdv ct), osl⟩)
    (c : PySem.W.codeIn K cdv x = true) (k : PySem.W.keepIn K (.ref f) = true)
    (hb : ∀ (kV doc pm : Value) (an : Option Addr) (cdv ct : Value) (us : List Value), us.length = ps.length → bindArgs (PySem.W.fnOf x x (C8.fnArgs st) (C8.fnBody st) (C8.fnScope st) .none kV doc pm an cdv ct) ⟨us, []⟩ = pure (ps.zip us)) :
    ∃ f fd, C8.Def K mg x st f fd ∧ Binds K fd ps [] := by
  have F : C8.Fun K x x st f (PySem.W.fnOf x x (C8.fnArgs st) (C8.fnBody st) (C8.fnScope st) .none kV doc pm an cdv ct) := ⟨oc, od, .none, kV, doc, pm, an, cdv, ct, osl, rfl, l, c⟩
  exact ⟨f, _, ⟨F, PySem.W.mg_of X G a, k⟩, F.binds rfl hb⟩
theorem mk_init {K : PySem.W.Frag} {h : Heap} {mg : Mg} {x q : Str} {st : Stmt} {ps : List Str} {C f : Addr} {oc : Value} {od an : Option Addr} {osl : Array (Option Value)} {kV doc pm cdv ct : Value} (X : K.In h) (G : h.Ns mainGlobals mg)
    (aC : PySem.W.nsIn K mainGlobals x = some (some (.ref C))) (mk : PySem.W.makesIn K C = true) (a : PySem.W.findIn K (.ref C) "__init__" = some (some (.ref f))) (i : PySem.W.isFn K (.ref f) = true) (kc : PySem.W.keepIn K (.ref C) = true)
    (l : K.lookup f = some ⟨oc, od, .func (PySem.W.fnOf "__init__" q (C8.fnArgs st) (C8.fnBody st) (C8.fnScope st) .none kV doc pm an cdv ct), osl⟩)
    (c : PySem.W.codeIn K cdv q = true)
    (hb : ∀ (kV doc pm : Value) (an : Option Addr) (cdv ct : Value) (us : List Value), us.length = ps.length → bindArgs (PySem.W.fnOf "__init__" q (C8.fnArgs st) (C8.fnBody st) (C8.fnScope st) .none kV doc pm an cdv ct) ⟨us, []⟩ = pure (ps.zip us)) :
    ∃ f fd, Mk K (adr mg x) f ∧ C8.Fun K "__init__" q st f fd ∧ Binds K fd ps [] := by
  rw [adr_of (PySem.W.mg_of X G aC)]
  have F : C8.Fun K "__init__" q st f (PySem.W.fnOf "__init__" q (C8.fnArgs st) (C8.fnBody st) (C8.fnScope st) .none kV doc pm an cdv ct) := ⟨oc, od, .none, kV, doc, pm, an, cdv, ct, osl, rfl, l, c⟩
  exact ⟨f, _, ⟨mk, a, i, kc⟩, F, F.binds rfl hb⟩
theorem mk_cls {K : PySem.W.Frag} {h : Heap} {mg : Mg} {x : Str} {C : Addr} (X : K.In h) (G : h.Ns mainGlobals mg) (aC : PySem.W.nsIn K mainGlobals x = some (some (.ref C)))
    (pg : PySem.W.plainGet K C Str.empty = true) (hd : PySem.W.hasDictIn K C = true) (po : PySem.W.plainOver K C = true) (sa : PySem.W.findIn K (.ref C) "__setattr__" = some (some (.builtin "object.__setattr__"))) : Cls K (adr mg x) := by
  rw [adr_of (PySem.W.mg_of X G aC)]
  exact ⟨pg, hd, po, sa⟩
theorem mk_no {K : PySem.W.Frag} {h : Heap} {mg : Mg} {x f : Str} {C : Addr} (X : K.In h) (G : h.Ns mainGlobals mg) (aC : PySem.W.nsIn K mainGlobals x = some (some (.ref C))) (n : PySem.W.findIn K (.ref C) f = some none) : NoAttr K (adr mg x) f := by
  rw [adr_of (PySem.W.mg_of X G aC)]
  exact n
theorem mk_glob {K : PySem.W.Frag} {h : Heap} {mg : Mg} {x : Str} {u : Value} {v : V} (X : K.In h) (G : h.Ns mainGlobals mg) (a : PySem.W.nsIn K mainGlobals x = some (some u)) (r : RelV v u) : ∃ u, mg x = some u ∧ RelV v u := ⟨u, PySem.W.mg_of X G a, r⟩
theorem exm_self {K : PySem.W.Frag} {S : Addr} (h1 : PySem.W.subIn K (.ref S) (.type "BaseException") = some true) (h2 : PySem.W.isClsIn K S = true) (h3 : PySem.W.typeIn K (.ref S) = some (.type "type")) (h4 : PySem.W.subIn K (.ref S) (.ref S) = some true) :
    PySem.W.exmOne K (.ref S) (.ref S) = some true := by
  have e1 : (PySem.W.subIn K (.ref S) (.type "BaseException") == some true) = true := by rw [h1] <;> rfl
  have e2 : ((PySem.W.clsIn K S).isSome && PySem.W.typeIn K (.ref S) == some (.type "type")) = true := by
    have h2' : (PySem.W.clsIn K S).isSome = true := h2
    rw [h2', h3] <;> rfl
  show (if (PySem.W.subIn K (.ref S) (.type "BaseException") == some true) = true then (if ((PySem.W.clsIn K S).isSome && PySem.W.typeIn K (.ref S) == some (.type "type")) = true then PySem.W.subIn K (.ref S) (.ref S) else none) else none) = some true
  rw [if_pos e1, if_pos e2]
  exact h4
theorem mk_exc {K : PySem.W.Frag} {h : Heap} {mg : Mg} {x : Str} {C : Addr} (X : K.In h) (G : h.Ns mainGlobals mg) (aC : PySem.W.nsIn K mainGlobals x = some (some (.ref C)))
    (xi : PySem.W.excIn K C [.type "Exception", .type "BaseException", .type "object"] "Exception.__new__" = true) (k : PySem.W.keepIn K (.ref C) = true) (b : PySem.W.subIn K (.ref C) (.type "BaseException") = some true) (t : PySem.W.typeIn K (.ref C) = some (.type "type"))
    (i : PySem.W.isClsIn K C = true) (s : PySem.W.subIn K (.ref C) (.ref C) = some true) : ExcC K mg x := by
  have e := adr_of (PySem.W.mg_of X G aC)
  have g := PySem.W.mg_of X G aC
  rw [← e] at xi k b t i s
  exact ⟨by rw [e]; exact g, xi, k, b, t, exm_self b i t s⟩
theorem mk_addr {K : PySem.W.Frag} {h : Heap} {mg : Mg} {x : Str} {C : Addr} (X : K.In h) (G : h.Ns mainGlobals mg) (a : PySem.W.nsIn K mainGlobals x = some (some (.ref C))) : mg x = some (.ref (adr mg x)) := by
  rw [adr_of (PySem.W.mg_of X G a)]
  exact PySem.W.mg_of X G a
theorem mk_kint {K : PySem.W.Frag} {h : Heap} {mg : Mg} {D y : Str} {d : Addr} {f : Addr} {k : Int} {es : Array DictEntry} {n : Nat} (X : K.In h) (G : h.Ns mainGlobals mg) (aD : PySem.W.nsIn K mainGlobals D = some (some (.ref d))) (aY : PySem.W.nsIn K mainGlobals y = some (some (.ref f)))
    (l : K.lookup d = some ⟨.type "dict", none, .dict es n, #[]⟩) (hk : KeysInt es.toList) (hf : findBy Value.isInt es k = some (.ref f)) : KInt K (adr mg D) k (.ref (adr mg y)) := by
  rw [adr_of (PySem.W.mg_of X G aD), adr_of (PySem.W.mg_of X G aY)]
  exact ⟨es, n, .ref f, l, hk, hf, rfl⟩
end DH
namespace DH
open PySem PySem.Spec PyProof.Rows L2
theorem mk_main {K : PySem.W.Frag} {h : Heap} {mg : Mg} {x : Str} {st : Stmt} {ps : List Str} {f : Addr} {oc : Value} {od an : Option Addr} {osl : Array (Option Value)} {kV doc pm cdv ct : Value} (X : K.In h) (G : h.Ns mainGlobals mg)
    (a : PySem.W.nsIn K mainGlobals x = some (some (.ref f))) (l : K.lookup f = some ⟨oc, od, .func (PySem.W.fnOf x x (C8.fnArgs st) (C8.fnBody st) (C8.fnScope st) .none kV doc pm an cdv ct), osl⟩)
    (c : PySem.W.codeIn K cdv x = true) (k : PySem.W.keepIn K (.ref f) = true)
    (hb : ∀ (kV doc pm : Value) (an : Option Addr) (cdv ct : Value) (us : List Value), us.length = ps.length → bindArgs (PySem.W.fnOf x x (C8.fnArgs st) (C8.fnBody st) (C8.fnScope st) .none kV doc pm an cdv ct) ⟨us, []⟩ = pure (ps.zip us)) :
    ∃ f fd, mg x = some (.ref f) ∧ C8.Fun K x x st f fd ∧ ∀ us : List Value, us.length = ps.length → bindArgs fd ⟨us, []⟩ = pure (ps.zip us) :=
  ⟨f, _, PySem.W.mg_of X G a, ⟨oc, od, .none, kV, doc, pm, an, cdv, ct, osl, rfl, l, c⟩, fun us hl => hb kV doc pm an cdv ct us hl⟩
theorem mk_shape {K : PySem.W.Frag} {h : Heap} {mg : Mg} {d t : Addr} {p : Int} {es : Array DictEntry} {n m : Nat} {its : Array Value} {dd : Option Addr} {sl : Array (Option Value)} {bs : List Bool} (X : K.In h) (G : h.Ns mainGlobals mg) (aD : PySem.W.nsIn K mainGlobals "SHAPES" = some (some (.ref d)))
    (l : K.lookup d = some ⟨.type "dict", none, .dict es n, #[]⟩) (hk : KeysInt es.toList) (hf : findBy Value.isInt es p = some (.ref t)) (lt : K.lookup t = some ⟨.type "tuple", dd, .seq its m, sl⟩) (hz : its.size ≤ sizeLine)
    (hv : Vals (bs.map fun b => V.str (if b = true then "row" else "number")) its.toList) : ∃ t, KInt K (adr mg "SHAPES") p (.ref t) ∧ ∀ G, RT K RSh bs (.ref t) G := by
  rw [adr_of (PySem.W.mg_of X G aD)]
  refine ⟨t, ⟨es, n, .ref t, l, hk, hf, rfl⟩, fun G2 => ⟨t, _, rfl, .inr ⟨_, its, m, lt, rfl, rfl, hz, hv⟩, ?_⟩⟩
  have : ∀ bs : List Bool, All2 RSh G2 bs (bs.map fun b => V.str (if b = true then "row" else "number")) := fun bs => by
    induction bs with
    | nil => trivial
    | cons b bs ih => exact ⟨rfl, ih⟩
  exact this bs
section
variable {P : Program} {w : World} {K : PySem.W.Frag} {mg : Mg}
theorem fin_ {h : Heap} {fa : Addr} (KX : K.In h) (G : h.Ns mainGlobals mg) (hmg : mg "answers" = some (.ref fa)) (W : Defs K mg) (T : Top K mg) (D : Dicts K mg)
    (Mn : ∃ f fd, mg "answers" = some (.ref f) ∧ C8.Fun K "answers" "answers" s_answers f fd ∧ ∀ us : List Value, us.length = P_answers.length → bindArgs fd ⟨us, []⟩ = pure (P_answers.zip us)) :
    ∃ fd : FuncData, (∀ (s : Shared) (us : List Value), us.length = (["calls"] : List Str).length → BindsTo s fd ⟨us, []⟩ ((["calls"] : List Str).zip us)) ∧ ∀ base : Heap, K.In base → base.Ns mainGlobals mg → FnOk P w K mg base C8.CX0 8 fa fd ["calls"] (sp_answers K) := by
  obtain ⟨f, fd, hm, F, hb⟩ := Mn
  have e := hmg.symm.trans hm
  cases e
  refine ⟨fd, fun s us hu => .of_eq (hb us hu), fun base _ _ => ?_⟩
  obtain ⟨C_answer_call, C_cut_calls, M_Line⟩ := chain (P := P) (w := w) (base := base) T D W
  exact C8.fn0 F sc_answers (fun vs H Q E h => by obtain ⟨_, _, _, _, rfl, _⟩ := h; rfl) (fun cdv A outer s H vs Q E hr h => ⟨_, tie_answers T C_answer_call C_cut_calls M_Line hr, pure_answers T D h⟩)
end
end DH
set_option maxRecDepth 100000
set_option maxHeartbeats 8000000
open PySem PySem.W PyProof.Rows DH
theorem PySem.Challenge.cw_deedhouse_s01_answers_holds : PySem.Challenge.rw_deedhouse_s01_answers.Holds := by
  w_on; k_headS; (case hw => exact ⟨[.list [.int 4]], by decide +kernel, by decide +kernel⟩)
  k_fillS
  refine L2.walk_specK (r := PySem.Challenge.rw_deedhouse_s01_answers) (k := 8) (CX := C8.CX0) (ps := ["calls"]) (sp := fun K => DH.sp_answers K) (by decide +kernel) rfl rfl ⟨rfl, by decide, by decide⟩ (fun w h Y => PySem.W.kIn_of Y) ?F ?S (fun _ _ _ _ z => z)
  case F =>
    intro w mg fa h Y KX G hmg
    refine' DH.fin_ KX G hmg ?W ?T ?D ?Mn
    case W =>
      refine ⟨?_, ?_, ?_, ?_, ?_, ?_, ?_, ?_, ?_, ?_, ?_, ?_, ?_, ?_, ?_, ?_, ?_, ?_, ?_, ?_, ?_, ?_, ?_, ?_, ?_, ?_, ?_, ?_, ?_, ?_, ?_, ?_, ?_, ?_, ?_, ?_, ?_, ?_, ?_, ?_, ?_, ?_, ?_, ?_, ?_, ?_, ?_, ?_, ?_, ?_, ?_, ?_, ?_, ?_, ?_, ?_, ?_, ?_, ?_, ?_, ?_, ?_, ?_, ?_, ?_, ?_, ?_, ?_, ?_, ?_, ?_, ?_, ?_, ?_, ?_, ?_⟩
      · refine' mk_init KX G ?aC ?mk ?a ?i ?kc ?l ?c (fun _ _ _ _ _ _ us hl => match us, hl with | [_, _, _, _], _ => rfl)
        (case aC => k_is); (case mk => k_is); (case a => k_is); (case i => k_is); (case kc => k_is); (case l => k_is); (case c => k_is)
      · refine' mk_addr KX G ?a
        (case a => k_is)
      · refine' mk_init KX G ?aC ?mk ?a ?i ?kc ?l ?c (fun _ _ _ _ _ _ us hl => match us, hl with | [_, _, _], _ => rfl)
        (case aC => k_is); (case mk => k_is); (case a => k_is); (case i => k_is); (case kc => k_is); (case l => k_is); (case c => k_is)
      · refine' mk_addr KX G ?a
        (case a => k_is)
      · refine' mk_init KX G ?aC ?mk ?a ?i ?kc ?l ?c (fun _ _ _ _ _ _ us hl => match us, hl with | [_, _], _ => rfl)
        (case aC => k_is); (case mk => k_is); (case a => k_is); (case i => k_is); (case kc => k_is); (case l => k_is); (case c => k_is)
      · refine' mk_addr KX G ?a
        (case a => k_is)
      · refine' mk_init KX G ?aC ?mk ?a ?i ?kc ?l ?c (fun _ _ _ _ _ _ us hl => match us, hl with | [_], _ => rfl)
        (case aC => k_is); (case mk => k_is); (case a => k_is); (case i => k_is); (case kc => k_is); (case l => k_is); (case c => k_is)
      · refine' mk_addr KX G ?a
        (case a => k_is)
      · refine' mk_def KX G ?a ?l ?c ?k (fun _ _ _ _ _ _ us hl => match us, hl with | [_], _ => rfl)
        (case a => k_is); (case l => k_is); (case c => k_is); (case k => k_is)
      · refine' mk_def KX G ?a ?l ?c ?k (fun _ _ _ _ _ _ us hl => match us, hl with | [_, _], _ => rfl)
        (case a => k_is); (case l => k_is); (case c => k_is); (case k => k_is)
      · refine' mk_def KX G ?a ?l ?c ?k (fun _ _ _ _ _ _ us hl => match us, hl with | [_, _], _ => rfl)
        (case a => k_is); (case l => k_is); (case c => k_is); (case k => k_is)
      · refine' mk_def KX G ?a ?l ?c ?k (fun _ _ _ _ _ _ us hl => match us, hl with | [_, _, _], _ => rfl)
        (case a => k_is); (case l => k_is); (case c => k_is); (case k => k_is)
      · refine' mk_def KX G ?a ?l ?c ?k (fun _ _ _ _ _ _ us hl => match us, hl with | [_, _], _ => rfl)
        (case a => k_is); (case l => k_is); (case c => k_is); (case k => k_is)
      · refine' mk_def KX G ?a ?l ?c ?k (fun _ _ _ _ _ _ us hl => match us, hl with | [_, _, _, _], _ => rfl)
        (case a => k_is); (case l => k_is); (case c => k_is); (case k => k_is)
      · refine' mk_def KX G ?a ?l ?c ?k (fun _ _ _ _ _ _ us hl => match us, hl with | [_, _], _ => rfl)
        (case a => k_is); (case l => k_is); (case c => k_is); (case k => k_is)
      · refine' mk_def KX G ?a ?l ?c ?k (fun _ _ _ _ _ _ us hl => match us, hl with | [_, _], _ => rfl)
        (case a => k_is); (case l => k_is); (case c => k_is); (case k => k_is)
      · refine' mk_def KX G ?a ?l ?c ?k (fun _ _ _ _ _ _ us hl => match us, hl with | [_, _], _ => rfl)
        (case a => k_is); (case l => k_is); (case c => k_is); (case k => k_is)
      · refine' mk_def KX G ?a ?l ?c ?k (fun _ _ _ _ _ _ us hl => match us, hl with | [_, _, _], _ => rfl)
        (case a => k_is); (case l => k_is); (case c => k_is); (case k => k_is)
      · refine' mk_def KX G ?a ?l ?c ?k (fun _ _ _ _ _ _ us hl => match us, hl with | [_, _, _], _ => rfl)
        (case a => k_is); (case l => k_is); (case c => k_is); (case k => k_is)
      · refine' mk_def KX G ?a ?l ?c ?k (fun _ _ _ _ _ _ us hl => match us, hl with | [_], _ => rfl)
        (case a => k_is); (case l => k_is); (case c => k_is); (case k => k_is)
      · refine' mk_def KX G ?a ?l ?c ?k (fun _ _ _ _ _ _ us hl => match us, hl with | [_, _], _ => rfl)
        (case a => k_is); (case l => k_is); (case c => k_is); (case k => k_is)
      · refine' mk_def KX G ?a ?l ?c ?k (fun _ _ _ _ _ _ us hl => match us, hl with | [_], _ => rfl)
        (case a => k_is); (case l => k_is); (case c => k_is); (case k => k_is)
      · refine' mk_def KX G ?a ?l ?c ?k (fun _ _ _ _ _ _ us hl => match us, hl with | [_], _ => rfl)
        (case a => k_is); (case l => k_is); (case c => k_is); (case k => k_is)
      · refine' mk_def KX G ?a ?l ?c ?k (fun _ _ _ _ _ _ us hl => match us, hl with | [_, _, _, _], _ => rfl)
        (case a => k_is); (case l => k_is); (case c => k_is); (case k => k_is)
      · refine' mk_def KX G ?a ?l ?c ?k (fun _ _ _ _ _ _ us hl => match us, hl with | [_], _ => rfl)
        (case a => k_is); (case l => k_is); (case c => k_is); (case k => k_is)
      · refine' mk_def KX G ?a ?l ?c ?k (fun _ _ _ _ _ _ us hl => match us, hl with | [_], _ => rfl)
        (case a => k_is); (case l => k_is); (case c => k_is); (case k => k_is)
      · refine' mk_def KX G ?a ?l ?c ?k (fun _ _ _ _ _ _ us hl => match us, hl with | [_, _], _ => rfl)
        (case a => k_is); (case l => k_is); (case c => k_is); (case k => k_is)
      · refine' mk_def KX G ?a ?l ?c ?k (fun _ _ _ _ _ _ us hl => match us, hl with | [_, _, _], _ => rfl)
        (case a => k_is); (case l => k_is); (case c => k_is); (case k => k_is)
      · refine' mk_def KX G ?a ?l ?c ?k (fun _ _ _ _ _ _ us hl => match us, hl with | [_, _], _ => rfl)
        (case a => k_is); (case l => k_is); (case c => k_is); (case k => k_is)
      · refine' mk_def KX G ?a ?l ?c ?k (fun _ _ _ _ _ _ us hl => match us, hl with | [_, _], _ => rfl)
        (case a => k_is); (case l => k_is); (case c => k_is); (case k => k_is)
      · refine' mk_def KX G ?a ?l ?c ?k (fun _ _ _ _ _ _ us hl => match us, hl with | [_, _], _ => rfl)
        (case a => k_is); (case l => k_is); (case c => k_is); (case k => k_is)
      · refine' mk_def KX G ?a ?l ?c ?k (fun _ _ _ _ _ _ us hl => match us, hl with | [_, _], _ => rfl)
        (case a => k_is); (case l => k_is); (case c => k_is); (case k => k_is)
      · refine' mk_def KX G ?a ?l ?c ?k (fun _ _ _ _ _ _ us hl => match us, hl with | [_, _], _ => rfl)
        (case a => k_is); (case l => k_is); (case c => k_is); (case k => k_is)
      · refine' mk_def KX G ?a ?l ?c ?k (fun _ _ _ _ _ _ us hl => match us, hl with | [_, _], _ => rfl)
        (case a => k_is); (case l => k_is); (case c => k_is); (case k => k_is)
      · refine' mk_def KX G ?a ?l ?c ?k (fun _ _ _ _ _ _ us hl => match us, hl with | [_, _], _ => rfl)
        (case a => k_is); (case l => k_is); (case c => k_is); (case k => k_is)
      · refine' mk_def KX G ?a ?l ?c ?k (fun _ _ _ _ _ _ us hl => match us, hl with | [_, _, _], _ => rfl)
        (case a => k_is); (case l => k_is); (case c => k_is); (case k => k_is)
      · refine' mk_def KX G ?a ?l ?c ?k (fun _ _ _ _ _ _ us hl => match us, hl with | [_, _], _ => rfl)
        (case a => k_is); (case l => k_is); (case c => k_is); (case k => k_is)
      · refine' mk_def KX G ?a ?l ?c ?k (fun _ _ _ _ _ _ us hl => match us, hl with | [_, _, _], _ => rfl)
        (case a => k_is); (case l => k_is); (case c => k_is); (case k => k_is)
      · refine' mk_def KX G ?a ?l ?c ?k (fun _ _ _ _ _ _ us hl => match us, hl with | [_, _, _], _ => rfl)
        (case a => k_is); (case l => k_is); (case c => k_is); (case k => k_is)
      · refine' mk_def KX G ?a ?l ?c ?k (fun _ _ _ _ _ _ us hl => match us, hl with | [_, _, _], _ => rfl)
        (case a => k_is); (case l => k_is); (case c => k_is); (case k => k_is)
      · refine' mk_def KX G ?a ?l ?c ?k (fun _ _ _ _ _ _ us hl => match us, hl with | [_, _, _], _ => rfl)
        (case a => k_is); (case l => k_is); (case c => k_is); (case k => k_is)
      · refine' mk_def KX G ?a ?l ?c ?k (fun _ _ _ _ _ _ us hl => match us, hl with | [_], _ => rfl)
        (case a => k_is); (case l => k_is); (case c => k_is); (case k => k_is)
      · refine' mk_def KX G ?a ?l ?c ?k (fun _ _ _ _ _ _ us hl => match us, hl with | [_, _], _ => rfl)
        (case a => k_is); (case l => k_is); (case c => k_is); (case k => k_is)
      · refine' mk_def KX G ?a ?l ?c ?k (fun _ _ _ _ _ _ us hl => match us, hl with | [_, _], _ => rfl)
        (case a => k_is); (case l => k_is); (case c => k_is); (case k => k_is)
      · refine' mk_def KX G ?a ?l ?c ?k (fun _ _ _ _ _ _ us hl => match us, hl with | [_, _], _ => rfl)
        (case a => k_is); (case l => k_is); (case c => k_is); (case k => k_is)
      · refine' mk_init KX G ?aC ?mk ?a ?i ?kc ?l ?c (fun _ _ _ _ _ _ us hl => match us, hl with | [_, _, _, _], _ => rfl)
        (case aC => k_is); (case mk => k_is); (case a => k_is); (case i => k_is); (case kc => k_is); (case l => k_is); (case c => k_is)
      · refine' mk_addr KX G ?a
        (case a => k_is)
      · refine' mk_def KX G ?a ?l ?c ?k (fun _ _ _ _ _ _ us hl => match us, hl with | [_], _ => rfl)
        (case a => k_is); (case l => k_is); (case c => k_is); (case k => k_is)
      · refine' mk_def KX G ?a ?l ?c ?k (fun _ _ _ _ _ _ us hl => match us, hl with | [_, _], _ => rfl)
        (case a => k_is); (case l => k_is); (case c => k_is); (case k => k_is)
      · refine' mk_def KX G ?a ?l ?c ?k (fun _ _ _ _ _ _ us hl => match us, hl with | [_], _ => rfl)
        (case a => k_is); (case l => k_is); (case c => k_is); (case k => k_is)
      · refine' mk_def KX G ?a ?l ?c ?k (fun _ _ _ _ _ _ us hl => match us, hl with | [_], _ => rfl)
        (case a => k_is); (case l => k_is); (case c => k_is); (case k => k_is)
      · refine' mk_def KX G ?a ?l ?c ?k (fun _ _ _ _ _ _ us hl => match us, hl with | [_, _], _ => rfl)
        (case a => k_is); (case l => k_is); (case c => k_is); (case k => k_is)
      · refine' mk_def KX G ?a ?l ?c ?k (fun _ _ _ _ _ _ us hl => match us, hl with | [_], _ => rfl)
        (case a => k_is); (case l => k_is); (case c => k_is); (case k => k_is)
      · refine' mk_def KX G ?a ?l ?c ?k (fun _ _ _ _ _ _ us hl => match us, hl with | [_], _ => rfl)
        (case a => k_is); (case l => k_is); (case c => k_is); (case k => k_is)
      · refine' mk_def KX G ?a ?l ?c ?k (fun _ _ _ _ _ _ us hl => match us, hl with | [_, _], _ => rfl)
        (case a => k_is); (case l => k_is); (case c => k_is); (case k => k_is)
      · refine' mk_def KX G ?a ?l ?c ?k (fun _ _ _ _ _ _ us hl => match us, hl with | [_, _], _ => rfl)
        (case a => k_is); (case l => k_is); (case c => k_is); (case k => k_is)
      · refine' mk_def KX G ?a ?l ?c ?k (fun _ _ _ _ _ _ us hl => match us, hl with | [_, _], _ => rfl)
        (case a => k_is); (case l => k_is); (case c => k_is); (case k => k_is)
      · refine' mk_def KX G ?a ?l ?c ?k (fun _ _ _ _ _ _ us hl => match us, hl with | [_, _], _ => rfl)
        (case a => k_is); (case l => k_is); (case c => k_is); (case k => k_is)
      · refine' mk_def KX G ?a ?l ?c ?k (fun _ _ _ _ _ _ us hl => match us, hl with | [_, _], _ => rfl)
        (case a => k_is); (case l => k_is); (case c => k_is); (case k => k_is)
      · refine' mk_def KX G ?a ?l ?c ?k (fun _ _ _ _ _ _ us hl => match us, hl with | [_, _], _ => rfl)
        (case a => k_is); (case l => k_is); (case c => k_is); (case k => k_is)
      · refine' mk_def KX G ?a ?l ?c ?k (fun _ _ _ _ _ _ us hl => match us, hl with | [_, _], _ => rfl)
        (case a => k_is); (case l => k_is); (case c => k_is); (case k => k_is)
      · refine' mk_def KX G ?a ?l ?c ?k (fun _ _ _ _ _ _ us hl => match us, hl with | [_, _], _ => rfl)
        (case a => k_is); (case l => k_is); (case c => k_is); (case k => k_is)
      · refine' mk_def KX G ?a ?l ?c ?k (fun _ _ _ _ _ _ us hl => match us, hl with | [_, _], _ => rfl)
        (case a => k_is); (case l => k_is); (case c => k_is); (case k => k_is)
      · refine' mk_def KX G ?a ?l ?c ?k (fun _ _ _ _ _ _ us hl => match us, hl with | [_, _], _ => rfl)
        (case a => k_is); (case l => k_is); (case c => k_is); (case k => k_is)
      · refine' mk_def KX G ?a ?l ?c ?k (fun _ _ _ _ _ _ us hl => match us, hl with | [_, _], _ => rfl)
        (case a => k_is); (case l => k_is); (case c => k_is); (case k => k_is)
      · refine' mk_def KX G ?a ?l ?c ?k (fun _ _ _ _ _ _ us hl => match us, hl with | [_, _], _ => rfl)
        (case a => k_is); (case l => k_is); (case c => k_is); (case k => k_is)
      · refine' mk_def KX G ?a ?l ?c ?k (fun _ _ _ _ _ _ us hl => match us, hl with | [_, _], _ => rfl)
        (case a => k_is); (case l => k_is); (case c => k_is); (case k => k_is)
      · refine' mk_def KX G ?a ?l ?c ?k (fun _ _ _ _ _ _ us hl => match us, hl with | [_, _], _ => rfl)
        (case a => k_is); (case l => k_is); (case c => k_is); (case k => k_is)
      · refine' mk_def KX G ?a ?l ?c ?k (fun _ _ _ _ _ _ us hl => match us, hl with | [_, _], _ => rfl)
        (case a => k_is); (case l => k_is); (case c => k_is); (case k => k_is)
      · refine' mk_def KX G ?a ?l ?c ?k (fun _ _ _ _ _ _ us hl => match us, hl with | [_, _], _ => rfl)
        (case a => k_is); (case l => k_is); (case c => k_is); (case k => k_is)
      · refine' mk_def KX G ?a ?l ?c ?k (fun _ _ _ _ _ _ us hl => match us, hl with | [_, _], _ => rfl)
        (case a => k_is); (case l => k_is); (case c => k_is); (case k => k_is)
      · refine' mk_def KX G ?a ?l ?c ?k (fun _ _ _ _ _ _ us hl => match us, hl with | [_, _], _ => rfl)
        (case a => k_is); (case l => k_is); (case c => k_is); (case k => k_is)
      · refine' mk_def KX G ?a ?l ?c ?k (fun _ _ _ _ _ _ us hl => match us, hl with | [_, _], _ => rfl)
        (case a => k_is); (case l => k_is); (case c => k_is); (case k => k_is)
      · refine' mk_def KX G ?a ?l ?c ?k (fun _ _ _ _ _ _ us hl => match us, hl with | [_, _], _ => rfl)
        (case a => k_is); (case l => k_is); (case c => k_is); (case k => k_is)
      · refine' mk_def KX G ?a ?l ?c ?k (fun _ _ _ _ _ _ us hl => match us, hl with | [_, _, _], _ => rfl)
        (case a => k_is); (case l => k_is); (case c => k_is); (case k => k_is)
      · refine' mk_def KX G ?a ?l ?c ?k (fun _ _ _ _ _ _ us hl => match us, hl with | [_], _ => rfl)
        (case a => k_is); (case l => k_is); (case c => k_is); (case k => k_is)
    case T =>
      refine ⟨?_, ?_, ?_, ?_, ?_, ?_, ?_, ?_, ?_, ?_, ?_, ?_, ?_, ?_, ?_, ?_, ?_, ?_, ?_, ?_, ?_, ?_, ?_, ?_, ?_, ?_, ?_, ?_, ?_, ?_, ?_, ?_, ?_, ?_, ?_, ?_, ?_, ?_, ?_, ?_, ?_, ?_, ?_, ?_, ?_, ?_, ?_, ?_, ?_, ?_⟩
      · exact PySem.W.mg_none_of KX G (by k_is)
      · exact PySem.W.mg_none_of KX G (by k_is)
      · exact PySem.W.mg_none_of KX G (by k_is)
      · exact PySem.W.mg_none_of KX G (by k_is)
      · exact PySem.W.mg_none_of KX G (by k_is)
      · exact PySem.W.mg_none_of KX G (by k_is)
      · exact PySem.W.mg_none_of KX G (by k_is)
      · exact PySem.W.mg_none_of KX G (by k_is)
      · exact PySem.W.mg_none_of KX G (by k_is)
      · exact PySem.W.mg_none_of KX G (by k_is)
      · refine' mk_glob KX G ?a ?r
        (case a => k_is); (case r => exact ⟨_, rfl⟩)
      · refine' mk_glob KX G ?a ?r
        (case a => k_is); (case r => exact ⟨_, rfl⟩)
      · refine' mk_glob KX G ?a ?r
        (case a => k_is); (case r => exact ⟨_, rfl⟩)
      · refine' mk_glob KX G ?a ?r
        (case a => k_is); (case r => exact ⟨_, rfl⟩)
      · refine' mk_glob KX G ?a ?r
        (case a => k_is); (case r => exact ⟨_, rfl⟩)
      · refine' mk_glob KX G ?a ?r
        (case a => k_is); (case r => exact ⟨_, rfl⟩)
      · refine' mk_glob KX G ?a ?r
        (case a => k_is); (case r => exact ⟨_, rfl⟩)
      · refine' mk_glob KX G ?a ?r
        (case a => k_is); (case r => exact ⟨_, rfl⟩)
      · refine' mk_glob KX G ?a ?r
        (case a => k_is); (case r => exact ⟨_, rfl⟩)
      · refine' mk_glob KX G ?a ?r
        (case a => k_is); (case r => exact ⟨_, rfl⟩)
      · refine' mk_glob KX G ?a ?r
        (case a => k_is); (case r => exact ⟨_, rfl⟩)
      · refine' mk_glob KX G ?a ?r
        (case a => k_is); (case r => exact ⟨_, rfl⟩)
      · refine' mk_glob KX G ?a ?r
        (case a => k_is); (case r => exact ⟨_, rfl⟩)
      · refine' mk_glob KX G ?a ?r
        (case a => k_is); (case r => exact ⟨_, rfl⟩)
      · refine' mk_glob KX G ?a ?r
        (case a => k_is); (case r => exact ⟨_, rfl⟩)
      · refine' mk_glob KX G ?a ?r
        (case a => k_is); (case r => exact ⟨_, rfl⟩)
      · refine' mk_glob KX G ?a ?r
        (case a => k_is); (case r => exact ⟨_, rfl⟩)
      · refine' mk_glob KX G ?a ?r
        (case a => k_is); (case r => exact ⟨_, rfl⟩)
      · refine' ⟨_, mk_addr KX G ?a, rfl⟩
        (case a => k_is)
      · refine' ⟨_, mk_addr KX G ?a, rfl⟩
        (case a => k_is)
      · refine' ⟨_, mk_addr KX G ?a, rfl⟩
        (case a => k_is)
      · refine' mk_exc KX G ?a ?xi ?k ?b ?t ?i ?s
        (case a => k_is); (case xi => k_exc); (case k => k_is); (case b => k_is); (case t => k_is); (case i => k_is); (case s => first | rfl | k_is)
      · refine' mk_cls KX G ?a ?pg ?hd ?po ?sa
        (case a => k_is); (case pg => k_is); (case hd => k_is); (case po => k_is); (case sa => k_is)
      · refine' mk_no KX G ?a ?n
        (case a => k_is); (case n => k_is)
      · refine' mk_no KX G ?a ?n
        (case a => k_is); (case n => k_is)
      · refine' mk_no KX G ?a ?n
        (case a => k_is); (case n => k_is)
      · refine' mk_cls KX G ?a ?pg ?hd ?po ?sa
        (case a => k_is); (case pg => k_is); (case hd => k_is); (case po => k_is); (case sa => k_is)
      · refine' mk_no KX G ?a ?n
        (case a => k_is); (case n => k_is)
      · refine' mk_no KX G ?a ?n
        (case a => k_is); (case n => k_is)
      · refine' mk_cls KX G ?a ?pg ?hd ?po ?sa
        (case a => k_is); (case pg => k_is); (case hd => k_is); (case po => k_is); (case sa => k_is)
      · refine' mk_no KX G ?a ?n
        (case a => k_is); (case n => k_is)
      · refine' mk_no KX G ?a ?n
        (case a => k_is); (case n => k_is)
      · refine' mk_no KX G ?a ?n
        (case a => k_is); (case n => k_is)
      · refine' mk_cls KX G ?a ?pg ?hd ?po ?sa
        (case a => k_is); (case pg => k_is); (case hd => k_is); (case po => k_is); (case sa => k_is)
      · refine' mk_no KX G ?a ?n
        (case a => k_is); (case n => k_is)
      · refine' mk_cls KX G ?a ?pg ?hd ?po ?sa
        (case a => k_is); (case pg => k_is); (case hd => k_is); (case po => k_is); (case sa => k_is)
      · refine' mk_no KX G ?a ?n
        (case a => k_is); (case n => k_is)
      · refine' mk_no KX G ?a ?n
        (case a => k_is); (case n => k_is)
      · refine' mk_no KX G ?a ?n
        (case a => k_is); (case n => k_is)
      · refine' mk_no KX G ?a ?n
        (case a => k_is); (case n => k_is)

    case D =>
      refine ⟨?_, ?_, ?_⟩
      · intro p n k hsh
        by_cases e0 : p = 0
        · subst e0; cases hsh
          refine' DH.mk_shape KX G ?aD ?l ?hk ?hf ?lt ?hz ?hv
          (case aD => k_is); (case l => k_is); (case hk => exact ⟨⟨_, _, rfl, rfl⟩, ⟨⟨_, _, rfl, rfl⟩, ⟨⟨_, _, rfl, rfl⟩, ⟨⟨_, _, rfl, rfl⟩, ⟨⟨_, _, rfl, rfl⟩, ⟨⟨_, _, rfl, rfl⟩, ⟨⟨_, _, rfl, rfl⟩, ⟨⟨_, _, rfl, rfl⟩, ⟨⟨_, _, rfl, rfl⟩, ⟨⟨_, _, rfl, rfl⟩, ⟨⟨_, _, rfl, rfl⟩, ⟨⟨_, _, rfl, rfl⟩, ⟨⟨_, _, rfl, rfl⟩, ⟨⟨_, _, rfl, rfl⟩, ⟨⟨_, _, rfl, rfl⟩, ⟨⟨_, _, rfl, rfl⟩, ⟨⟨_, _, rfl, rfl⟩, ⟨⟨_, _, rfl, rfl⟩, ⟨⟨_, _, rfl, rfl⟩, trivial⟩⟩⟩⟩⟩⟩⟩⟩⟩⟩⟩⟩⟩⟩⟩⟩⟩⟩⟩); (case hf => rfl); (case lt => k_is); (case hz => decide); (case hv => exact .cons ⟨_, rfl⟩ .nil)
        by_cases e1 : p = 1
        · subst e1; cases hsh
          refine' DH.mk_shape KX G ?aD ?l ?hk ?hf ?lt ?hz ?hv
          (case aD => k_is); (case l => k_is); (case hk => exact ⟨⟨_, _, rfl, rfl⟩, ⟨⟨_, _, rfl, rfl⟩, ⟨⟨_, _, rfl, rfl⟩, ⟨⟨_, _, rfl, rfl⟩, ⟨⟨_, _, rfl, rfl⟩, ⟨⟨_, _, rfl, rfl⟩, ⟨⟨_, _, rfl, rfl⟩, ⟨⟨_, _, rfl, rfl⟩, ⟨⟨_, _, rfl, rfl⟩, ⟨⟨_, _, rfl, rfl⟩, ⟨⟨_, _, rfl, rfl⟩, ⟨⟨_, _, rfl, rfl⟩, ⟨⟨_, _, rfl, rfl⟩, ⟨⟨_, _, rfl, rfl⟩, ⟨⟨_, _, rfl, rfl⟩, ⟨⟨_, _, rfl, rfl⟩, ⟨⟨_, _, rfl, rfl⟩, ⟨⟨_, _, rfl, rfl⟩, ⟨⟨_, _, rfl, rfl⟩, trivial⟩⟩⟩⟩⟩⟩⟩⟩⟩⟩⟩⟩⟩⟩⟩⟩⟩⟩⟩); (case hf => rfl); (case lt => k_is); (case hz => decide); (case hv => exact .cons ⟨_, rfl⟩ (.cons ⟨_, rfl⟩ (.cons ⟨_, rfl⟩ .nil)))
        by_cases e2 : p = 2
        · subst e2; cases hsh
          refine' DH.mk_shape KX G ?aD ?l ?hk ?hf ?lt ?hz ?hv
          (case aD => k_is); (case l => k_is); (case hk => exact ⟨⟨_, _, rfl, rfl⟩, ⟨⟨_, _, rfl, rfl⟩, ⟨⟨_, _, rfl, rfl⟩, ⟨⟨_, _, rfl, rfl⟩, ⟨⟨_, _, rfl, rfl⟩, ⟨⟨_, _, rfl, rfl⟩, ⟨⟨_, _, rfl, rfl⟩, ⟨⟨_, _, rfl, rfl⟩, ⟨⟨_, _, rfl, rfl⟩, ⟨⟨_, _, rfl, rfl⟩, ⟨⟨_, _, rfl, rfl⟩, ⟨⟨_, _, rfl, rfl⟩, ⟨⟨_, _, rfl, rfl⟩, ⟨⟨_, _, rfl, rfl⟩, ⟨⟨_, _, rfl, rfl⟩, ⟨⟨_, _, rfl, rfl⟩, ⟨⟨_, _, rfl, rfl⟩, ⟨⟨_, _, rfl, rfl⟩, ⟨⟨_, _, rfl, rfl⟩, trivial⟩⟩⟩⟩⟩⟩⟩⟩⟩⟩⟩⟩⟩⟩⟩⟩⟩⟩⟩); (case hf => rfl); (case lt => k_is); (case hz => decide); (case hv => exact .cons ⟨_, rfl⟩ (.cons ⟨_, rfl⟩ .nil))
        by_cases e3 : p = 3
        · subst e3; cases hsh
          refine' DH.mk_shape KX G ?aD ?l ?hk ?hf ?lt ?hz ?hv
          (case aD => k_is); (case l => k_is); (case hk => exact ⟨⟨_, _, rfl, rfl⟩, ⟨⟨_, _, rfl, rfl⟩, ⟨⟨_, _, rfl, rfl⟩, ⟨⟨_, _, rfl, rfl⟩, ⟨⟨_, _, rfl, rfl⟩, ⟨⟨_, _, rfl, rfl⟩, ⟨⟨_, _, rfl, rfl⟩, ⟨⟨_, _, rfl, rfl⟩, ⟨⟨_, _, rfl, rfl⟩, ⟨⟨_, _, rfl, rfl⟩, ⟨⟨_, _, rfl, rfl⟩, ⟨⟨_, _, rfl, rfl⟩, ⟨⟨_, _, rfl, rfl⟩, ⟨⟨_, _, rfl, rfl⟩, ⟨⟨_, _, rfl, rfl⟩, ⟨⟨_, _, rfl, rfl⟩, ⟨⟨_, _, rfl, rfl⟩, ⟨⟨_, _, rfl, rfl⟩, ⟨⟨_, _, rfl, rfl⟩, trivial⟩⟩⟩⟩⟩⟩⟩⟩⟩⟩⟩⟩⟩⟩⟩⟩⟩⟩⟩); (case hf => rfl); (case lt => k_is); (case hz => decide); (case hv => exact .nil)
        by_cases e4 : p = 4
        · subst e4; cases hsh
          refine' DH.mk_shape KX G ?aD ?l ?hk ?hf ?lt ?hz ?hv
          (case aD => k_is); (case l => k_is); (case hk => exact ⟨⟨_, _, rfl, rfl⟩, ⟨⟨_, _, rfl, rfl⟩, ⟨⟨_, _, rfl, rfl⟩, ⟨⟨_, _, rfl, rfl⟩, ⟨⟨_, _, rfl, rfl⟩, ⟨⟨_, _, rfl, rfl⟩, ⟨⟨_, _, rfl, rfl⟩, ⟨⟨_, _, rfl, rfl⟩, ⟨⟨_, _, rfl, rfl⟩, ⟨⟨_, _, rfl, rfl⟩, ⟨⟨_, _, rfl, rfl⟩, ⟨⟨_, _, rfl, rfl⟩, ⟨⟨_, _, rfl, rfl⟩, ⟨⟨_, _, rfl, rfl⟩, ⟨⟨_, _, rfl, rfl⟩, ⟨⟨_, _, rfl, rfl⟩, ⟨⟨_, _, rfl, rfl⟩, ⟨⟨_, _, rfl, rfl⟩, ⟨⟨_, _, rfl, rfl⟩, trivial⟩⟩⟩⟩⟩⟩⟩⟩⟩⟩⟩⟩⟩⟩⟩⟩⟩⟩⟩); (case hf => rfl); (case lt => k_is); (case hz => decide); (case hv => exact .nil)
        by_cases e5 : p = 5
        · subst e5; cases hsh
          refine' DH.mk_shape KX G ?aD ?l ?hk ?hf ?lt ?hz ?hv
          (case aD => k_is); (case l => k_is); (case hk => exact ⟨⟨_, _, rfl, rfl⟩, ⟨⟨_, _, rfl, rfl⟩, ⟨⟨_, _, rfl, rfl⟩, ⟨⟨_, _, rfl, rfl⟩, ⟨⟨_, _, rfl, rfl⟩, ⟨⟨_, _, rfl, rfl⟩, ⟨⟨_, _, rfl, rfl⟩, ⟨⟨_, _, rfl, rfl⟩, ⟨⟨_, _, rfl, rfl⟩, ⟨⟨_, _, rfl, rfl⟩, ⟨⟨_, _, rfl, rfl⟩, ⟨⟨_, _, rfl, rfl⟩, ⟨⟨_, _, rfl, rfl⟩, ⟨⟨_, _, rfl, rfl⟩, ⟨⟨_, _, rfl, rfl⟩, ⟨⟨_, _, rfl, rfl⟩, ⟨⟨_, _, rfl, rfl⟩, ⟨⟨_, _, rfl, rfl⟩, ⟨⟨_, _, rfl, rfl⟩, trivial⟩⟩⟩⟩⟩⟩⟩⟩⟩⟩⟩⟩⟩⟩⟩⟩⟩⟩⟩); (case hf => rfl); (case lt => k_is); (case hz => decide); (case hv => exact .nil)
        by_cases e6 : p = 6
        · subst e6; cases hsh
          refine' DH.mk_shape KX G ?aD ?l ?hk ?hf ?lt ?hz ?hv
          (case aD => k_is); (case l => k_is); (case hk => exact ⟨⟨_, _, rfl, rfl⟩, ⟨⟨_, _, rfl, rfl⟩, ⟨⟨_, _, rfl, rfl⟩, ⟨⟨_, _, rfl, rfl⟩, ⟨⟨_, _, rfl, rfl⟩, ⟨⟨_, _, rfl, rfl⟩, ⟨⟨_, _, rfl, rfl⟩, ⟨⟨_, _, rfl, rfl⟩, ⟨⟨_, _, rfl, rfl⟩, ⟨⟨_, _, rfl, rfl⟩, ⟨⟨_, _, rfl, rfl⟩, ⟨⟨_, _, rfl, rfl⟩, ⟨⟨_, _, rfl, rfl⟩, ⟨⟨_, _, rfl, rfl⟩, ⟨⟨_, _, rfl, rfl⟩, ⟨⟨_, _, rfl, rfl⟩, ⟨⟨_, _, rfl, rfl⟩, ⟨⟨_, _, rfl, rfl⟩, ⟨⟨_, _, rfl, rfl⟩, trivial⟩⟩⟩⟩⟩⟩⟩⟩⟩⟩⟩⟩⟩⟩⟩⟩⟩⟩⟩); (case hf => rfl); (case lt => k_is); (case hz => decide); (case hv => exact .nil)
        by_cases e7 : p = 7
        · subst e7; cases hsh
          refine' DH.mk_shape KX G ?aD ?l ?hk ?hf ?lt ?hz ?hv
          (case aD => k_is); (case l => k_is); (case hk => exact ⟨⟨_, _, rfl, rfl⟩, ⟨⟨_, _, rfl, rfl⟩, ⟨⟨_, _, rfl, rfl⟩, ⟨⟨_, _, rfl, rfl⟩, ⟨⟨_, _, rfl, rfl⟩, ⟨⟨_, _, rfl, rfl⟩, ⟨⟨_, _, rfl, rfl⟩, ⟨⟨_, _, rfl, rfl⟩, ⟨⟨_, _, rfl, rfl⟩, ⟨⟨_, _, rfl, rfl⟩, ⟨⟨_, _, rfl, rfl⟩, ⟨⟨_, _, rfl, rfl⟩, ⟨⟨_, _, rfl, rfl⟩, ⟨⟨_, _, rfl, rfl⟩, ⟨⟨_, _, rfl, rfl⟩, ⟨⟨_, _, rfl, rfl⟩, ⟨⟨_, _, rfl, rfl⟩, ⟨⟨_, _, rfl, rfl⟩, ⟨⟨_, _, rfl, rfl⟩, trivial⟩⟩⟩⟩⟩⟩⟩⟩⟩⟩⟩⟩⟩⟩⟩⟩⟩⟩⟩); (case hf => rfl); (case lt => k_is); (case hz => decide); (case hv => exact .nil)
        by_cases e8 : p = 8
        · subst e8; cases hsh
          refine' DH.mk_shape KX G ?aD ?l ?hk ?hf ?lt ?hz ?hv
          (case aD => k_is); (case l => k_is); (case hk => exact ⟨⟨_, _, rfl, rfl⟩, ⟨⟨_, _, rfl, rfl⟩, ⟨⟨_, _, rfl, rfl⟩, ⟨⟨_, _, rfl, rfl⟩, ⟨⟨_, _, rfl, rfl⟩, ⟨⟨_, _, rfl, rfl⟩, ⟨⟨_, _, rfl, rfl⟩, ⟨⟨_, _, rfl, rfl⟩, ⟨⟨_, _, rfl, rfl⟩, ⟨⟨_, _, rfl, rfl⟩, ⟨⟨_, _, rfl, rfl⟩, ⟨⟨_, _, rfl, rfl⟩, ⟨⟨_, _, rfl, rfl⟩, ⟨⟨_, _, rfl, rfl⟩, ⟨⟨_, _, rfl, rfl⟩, ⟨⟨_, _, rfl, rfl⟩, ⟨⟨_, _, rfl, rfl⟩, ⟨⟨_, _, rfl, rfl⟩, ⟨⟨_, _, rfl, rfl⟩, trivial⟩⟩⟩⟩⟩⟩⟩⟩⟩⟩⟩⟩⟩⟩⟩⟩⟩⟩⟩); (case hf => rfl); (case lt => k_is); (case hz => decide); (case hv => exact .cons ⟨_, rfl⟩ .nil)
        by_cases e9 : p = 9
        · subst e9; cases hsh
          refine' DH.mk_shape KX G ?aD ?l ?hk ?hf ?lt ?hz ?hv
          (case aD => k_is); (case l => k_is); (case hk => exact ⟨⟨_, _, rfl, rfl⟩, ⟨⟨_, _, rfl, rfl⟩, ⟨⟨_, _, rfl, rfl⟩, ⟨⟨_, _, rfl, rfl⟩, ⟨⟨_, _, rfl, rfl⟩, ⟨⟨_, _, rfl, rfl⟩, ⟨⟨_, _, rfl, rfl⟩, ⟨⟨_, _, rfl, rfl⟩, ⟨⟨_, _, rfl, rfl⟩, ⟨⟨_, _, rfl, rfl⟩, ⟨⟨_, _, rfl, rfl⟩, ⟨⟨_, _, rfl, rfl⟩, ⟨⟨_, _, rfl, rfl⟩, ⟨⟨_, _, rfl, rfl⟩, ⟨⟨_, _, rfl, rfl⟩, ⟨⟨_, _, rfl, rfl⟩, ⟨⟨_, _, rfl, rfl⟩, ⟨⟨_, _, rfl, rfl⟩, ⟨⟨_, _, rfl, rfl⟩, trivial⟩⟩⟩⟩⟩⟩⟩⟩⟩⟩⟩⟩⟩⟩⟩⟩⟩⟩⟩); (case hf => rfl); (case lt => k_is); (case hz => decide); (case hv => exact .cons ⟨_, rfl⟩ (.cons ⟨_, rfl⟩ .nil))
        by_cases e10 : p = 10
        · subst e10; cases hsh
          refine' DH.mk_shape KX G ?aD ?l ?hk ?hf ?lt ?hz ?hv
          (case aD => k_is); (case l => k_is); (case hk => exact ⟨⟨_, _, rfl, rfl⟩, ⟨⟨_, _, rfl, rfl⟩, ⟨⟨_, _, rfl, rfl⟩, ⟨⟨_, _, rfl, rfl⟩, ⟨⟨_, _, rfl, rfl⟩, ⟨⟨_, _, rfl, rfl⟩, ⟨⟨_, _, rfl, rfl⟩, ⟨⟨_, _, rfl, rfl⟩, ⟨⟨_, _, rfl, rfl⟩, ⟨⟨_, _, rfl, rfl⟩, ⟨⟨_, _, rfl, rfl⟩, ⟨⟨_, _, rfl, rfl⟩, ⟨⟨_, _, rfl, rfl⟩, ⟨⟨_, _, rfl, rfl⟩, ⟨⟨_, _, rfl, rfl⟩, ⟨⟨_, _, rfl, rfl⟩, ⟨⟨_, _, rfl, rfl⟩, ⟨⟨_, _, rfl, rfl⟩, ⟨⟨_, _, rfl, rfl⟩, trivial⟩⟩⟩⟩⟩⟩⟩⟩⟩⟩⟩⟩⟩⟩⟩⟩⟩⟩⟩); (case hf => rfl); (case lt => k_is); (case hz => decide); (case hv => exact .nil)
        by_cases e11 : p = 11
        · subst e11; cases hsh
          refine' DH.mk_shape KX G ?aD ?l ?hk ?hf ?lt ?hz ?hv
          (case aD => k_is); (case l => k_is); (case hk => exact ⟨⟨_, _, rfl, rfl⟩, ⟨⟨_, _, rfl, rfl⟩, ⟨⟨_, _, rfl, rfl⟩, ⟨⟨_, _, rfl, rfl⟩, ⟨⟨_, _, rfl, rfl⟩, ⟨⟨_, _, rfl, rfl⟩, ⟨⟨_, _, rfl, rfl⟩, ⟨⟨_, _, rfl, rfl⟩, ⟨⟨_, _, rfl, rfl⟩, ⟨⟨_, _, rfl, rfl⟩, ⟨⟨_, _, rfl, rfl⟩, ⟨⟨_, _, rfl, rfl⟩, ⟨⟨_, _, rfl, rfl⟩, ⟨⟨_, _, rfl, rfl⟩, ⟨⟨_, _, rfl, rfl⟩, ⟨⟨_, _, rfl, rfl⟩, ⟨⟨_, _, rfl, rfl⟩, ⟨⟨_, _, rfl, rfl⟩, ⟨⟨_, _, rfl, rfl⟩, trivial⟩⟩⟩⟩⟩⟩⟩⟩⟩⟩⟩⟩⟩⟩⟩⟩⟩⟩⟩); (case hf => rfl); (case lt => k_is); (case hz => decide); (case hv => exact .cons ⟨_, rfl⟩ .nil)
        by_cases e12 : p = 12
        · subst e12; cases hsh
          refine' DH.mk_shape KX G ?aD ?l ?hk ?hf ?lt ?hz ?hv
          (case aD => k_is); (case l => k_is); (case hk => exact ⟨⟨_, _, rfl, rfl⟩, ⟨⟨_, _, rfl, rfl⟩, ⟨⟨_, _, rfl, rfl⟩, ⟨⟨_, _, rfl, rfl⟩, ⟨⟨_, _, rfl, rfl⟩, ⟨⟨_, _, rfl, rfl⟩, ⟨⟨_, _, rfl, rfl⟩, ⟨⟨_, _, rfl, rfl⟩, ⟨⟨_, _, rfl, rfl⟩, ⟨⟨_, _, rfl, rfl⟩, ⟨⟨_, _, rfl, rfl⟩, ⟨⟨_, _, rfl, rfl⟩, ⟨⟨_, _, rfl, rfl⟩, ⟨⟨_, _, rfl, rfl⟩, ⟨⟨_, _, rfl, rfl⟩, ⟨⟨_, _, rfl, rfl⟩, ⟨⟨_, _, rfl, rfl⟩, ⟨⟨_, _, rfl, rfl⟩, ⟨⟨_, _, rfl, rfl⟩, trivial⟩⟩⟩⟩⟩⟩⟩⟩⟩⟩⟩⟩⟩⟩⟩⟩⟩⟩⟩); (case hf => rfl); (case lt => k_is); (case hz => decide); (case hv => exact .nil)
        by_cases e13 : p = 13
        · subst e13; cases hsh
          refine' DH.mk_shape KX G ?aD ?l ?hk ?hf ?lt ?hz ?hv
          (case aD => k_is); (case l => k_is); (case hk => exact ⟨⟨_, _, rfl, rfl⟩, ⟨⟨_, _, rfl, rfl⟩, ⟨⟨_, _, rfl, rfl⟩, ⟨⟨_, _, rfl, rfl⟩, ⟨⟨_, _, rfl, rfl⟩, ⟨⟨_, _, rfl, rfl⟩, ⟨⟨_, _, rfl, rfl⟩, ⟨⟨_, _, rfl, rfl⟩, ⟨⟨_, _, rfl, rfl⟩, ⟨⟨_, _, rfl, rfl⟩, ⟨⟨_, _, rfl, rfl⟩, ⟨⟨_, _, rfl, rfl⟩, ⟨⟨_, _, rfl, rfl⟩, ⟨⟨_, _, rfl, rfl⟩, ⟨⟨_, _, rfl, rfl⟩, ⟨⟨_, _, rfl, rfl⟩, ⟨⟨_, _, rfl, rfl⟩, ⟨⟨_, _, rfl, rfl⟩, ⟨⟨_, _, rfl, rfl⟩, trivial⟩⟩⟩⟩⟩⟩⟩⟩⟩⟩⟩⟩⟩⟩⟩⟩⟩⟩⟩); (case hf => rfl); (case lt => k_is); (case hz => decide); (case hv => exact .nil)
        by_cases e14 : p = 14
        · subst e14; cases hsh
          refine' DH.mk_shape KX G ?aD ?l ?hk ?hf ?lt ?hz ?hv
          (case aD => k_is); (case l => k_is); (case hk => exact ⟨⟨_, _, rfl, rfl⟩, ⟨⟨_, _, rfl, rfl⟩, ⟨⟨_, _, rfl, rfl⟩, ⟨⟨_, _, rfl, rfl⟩, ⟨⟨_, _, rfl, rfl⟩, ⟨⟨_, _, rfl, rfl⟩, ⟨⟨_, _, rfl, rfl⟩, ⟨⟨_, _, rfl, rfl⟩, ⟨⟨_, _, rfl, rfl⟩, ⟨⟨_, _, rfl, rfl⟩, ⟨⟨_, _, rfl, rfl⟩, ⟨⟨_, _, rfl, rfl⟩, ⟨⟨_, _, rfl, rfl⟩, ⟨⟨_, _, rfl, rfl⟩, ⟨⟨_, _, rfl, rfl⟩, ⟨⟨_, _, rfl, rfl⟩, ⟨⟨_, _, rfl, rfl⟩, ⟨⟨_, _, rfl, rfl⟩, ⟨⟨_, _, rfl, rfl⟩, trivial⟩⟩⟩⟩⟩⟩⟩⟩⟩⟩⟩⟩⟩⟩⟩⟩⟩⟩⟩); (case hf => rfl); (case lt => k_is); (case hz => decide); (case hv => exact .nil)
        by_cases e15 : p = 15
        · subst e15; cases hsh
          refine' DH.mk_shape KX G ?aD ?l ?hk ?hf ?lt ?hz ?hv
          (case aD => k_is); (case l => k_is); (case hk => exact ⟨⟨_, _, rfl, rfl⟩, ⟨⟨_, _, rfl, rfl⟩, ⟨⟨_, _, rfl, rfl⟩, ⟨⟨_, _, rfl, rfl⟩, ⟨⟨_, _, rfl, rfl⟩, ⟨⟨_, _, rfl, rfl⟩, ⟨⟨_, _, rfl, rfl⟩, ⟨⟨_, _, rfl, rfl⟩, ⟨⟨_, _, rfl, rfl⟩, ⟨⟨_, _, rfl, rfl⟩, ⟨⟨_, _, rfl, rfl⟩, ⟨⟨_, _, rfl, rfl⟩, ⟨⟨_, _, rfl, rfl⟩, ⟨⟨_, _, rfl, rfl⟩, ⟨⟨_, _, rfl, rfl⟩, ⟨⟨_, _, rfl, rfl⟩, ⟨⟨_, _, rfl, rfl⟩, ⟨⟨_, _, rfl, rfl⟩, ⟨⟨_, _, rfl, rfl⟩, trivial⟩⟩⟩⟩⟩⟩⟩⟩⟩⟩⟩⟩⟩⟩⟩⟩⟩⟩⟩); (case hf => rfl); (case lt => k_is); (case hz => decide); (case hv => exact .nil)
        by_cases e16 : p = 16
        · subst e16; cases hsh
          refine' DH.mk_shape KX G ?aD ?l ?hk ?hf ?lt ?hz ?hv
          (case aD => k_is); (case l => k_is); (case hk => exact ⟨⟨_, _, rfl, rfl⟩, ⟨⟨_, _, rfl, rfl⟩, ⟨⟨_, _, rfl, rfl⟩, ⟨⟨_, _, rfl, rfl⟩, ⟨⟨_, _, rfl, rfl⟩, ⟨⟨_, _, rfl, rfl⟩, ⟨⟨_, _, rfl, rfl⟩, ⟨⟨_, _, rfl, rfl⟩, ⟨⟨_, _, rfl, rfl⟩, ⟨⟨_, _, rfl, rfl⟩, ⟨⟨_, _, rfl, rfl⟩, ⟨⟨_, _, rfl, rfl⟩, ⟨⟨_, _, rfl, rfl⟩, ⟨⟨_, _, rfl, rfl⟩, ⟨⟨_, _, rfl, rfl⟩, ⟨⟨_, _, rfl, rfl⟩, ⟨⟨_, _, rfl, rfl⟩, ⟨⟨_, _, rfl, rfl⟩, ⟨⟨_, _, rfl, rfl⟩, trivial⟩⟩⟩⟩⟩⟩⟩⟩⟩⟩⟩⟩⟩⟩⟩⟩⟩⟩⟩); (case hf => rfl); (case lt => k_is); (case hz => decide); (case hv => exact .cons ⟨_, rfl⟩ .nil)
        by_cases e17 : p = 17
        · subst e17; cases hsh
          refine' DH.mk_shape KX G ?aD ?l ?hk ?hf ?lt ?hz ?hv
          (case aD => k_is); (case l => k_is); (case hk => exact ⟨⟨_, _, rfl, rfl⟩, ⟨⟨_, _, rfl, rfl⟩, ⟨⟨_, _, rfl, rfl⟩, ⟨⟨_, _, rfl, rfl⟩, ⟨⟨_, _, rfl, rfl⟩, ⟨⟨_, _, rfl, rfl⟩, ⟨⟨_, _, rfl, rfl⟩, ⟨⟨_, _, rfl, rfl⟩, ⟨⟨_, _, rfl, rfl⟩, ⟨⟨_, _, rfl, rfl⟩, ⟨⟨_, _, rfl, rfl⟩, ⟨⟨_, _, rfl, rfl⟩, ⟨⟨_, _, rfl, rfl⟩, ⟨⟨_, _, rfl, rfl⟩, ⟨⟨_, _, rfl, rfl⟩, ⟨⟨_, _, rfl, rfl⟩, ⟨⟨_, _, rfl, rfl⟩, ⟨⟨_, _, rfl, rfl⟩, ⟨⟨_, _, rfl, rfl⟩, trivial⟩⟩⟩⟩⟩⟩⟩⟩⟩⟩⟩⟩⟩⟩⟩⟩⟩⟩⟩); (case hf => rfl); (case lt => k_is); (case hz => decide); (case hv => exact .cons ⟨_, rfl⟩ .nil)
        by_cases e18 : p = 18
        · subst e18; cases hsh
          refine' DH.mk_shape KX G ?aD ?l ?hk ?hf ?lt ?hz ?hv
          (case aD => k_is); (case l => k_is); (case hk => exact ⟨⟨_, _, rfl, rfl⟩, ⟨⟨_, _, rfl, rfl⟩, ⟨⟨_, _, rfl, rfl⟩, ⟨⟨_, _, rfl, rfl⟩, ⟨⟨_, _, rfl, rfl⟩, ⟨⟨_, _, rfl, rfl⟩, ⟨⟨_, _, rfl, rfl⟩, ⟨⟨_, _, rfl, rfl⟩, ⟨⟨_, _, rfl, rfl⟩, ⟨⟨_, _, rfl, rfl⟩, ⟨⟨_, _, rfl, rfl⟩, ⟨⟨_, _, rfl, rfl⟩, ⟨⟨_, _, rfl, rfl⟩, ⟨⟨_, _, rfl, rfl⟩, ⟨⟨_, _, rfl, rfl⟩, ⟨⟨_, _, rfl, rfl⟩, ⟨⟨_, _, rfl, rfl⟩, ⟨⟨_, _, rfl, rfl⟩, ⟨⟨_, _, rfl, rfl⟩, trivial⟩⟩⟩⟩⟩⟩⟩⟩⟩⟩⟩⟩⟩⟩⟩⟩⟩⟩⟩); (case hf => rfl); (case lt => k_is); (case hz => decide); (case hv => exact .cons ⟨_, rfl⟩ .nil)
        exfalso; unfold PyVberan.shape at hsh; rw [if_neg e0, if_neg e1, if_neg e2, if_neg e3, if_neg e4, if_neg e5, if_neg e6, if_neg e7, if_neg e8, if_neg e9, if_neg e10, if_neg e11, if_neg e12, if_neg e13, if_neg e14, if_neg e15, if_neg e16, if_neg e17, if_neg e18] at hsh; cases hsh
      · intro e he
        simp only [DH.refTab, List.mem_cons, List.not_mem_nil, or_false] at he
        rcases he with he | he | he | he | he | he | he | he | he | he | he | he | he | he | he | he | he | he | he
        all_goals (subst he; (refine' DH.mk_kint KX G ?aD ?aY ?l ?hk ?hf); (case aD => k_is); (case aY => k_is); (case l => k_is); (case hk => exact ⟨⟨_, _, rfl, rfl⟩, ⟨⟨_, _, rfl, rfl⟩, ⟨⟨_, _, rfl, rfl⟩, ⟨⟨_, _, rfl, rfl⟩, ⟨⟨_, _, rfl, rfl⟩, ⟨⟨_, _, rfl, rfl⟩, ⟨⟨_, _, rfl, rfl⟩, ⟨⟨_, _, rfl, rfl⟩, ⟨⟨_, _, rfl, rfl⟩, ⟨⟨_, _, rfl, rfl⟩, ⟨⟨_, _, rfl, rfl⟩, ⟨⟨_, _, rfl, rfl⟩, ⟨⟨_, _, rfl, rfl⟩, ⟨⟨_, _, rfl, rfl⟩, ⟨⟨_, _, rfl, rfl⟩, ⟨⟨_, _, rfl, rfl⟩, ⟨⟨_, _, rfl, rfl⟩, ⟨⟨_, _, rfl, rfl⟩, ⟨⟨_, _, rfl, rfl⟩, trivial⟩⟩⟩⟩⟩⟩⟩⟩⟩⟩⟩⟩⟩⟩⟩⟩⟩⟩⟩); (case hf => rfl))
      · intro e he
        simp only [DH.callTab, List.mem_cons, List.not_mem_nil, or_false] at he
        rcases he with he | he | he | he | he | he | he | he | he | he | he | he | he | he | he | he | he | he | he
        all_goals (subst he; (refine' DH.mk_kint KX G ?aD ?aY ?l ?hk ?hf); (case aD => k_is); (case aY => k_is); (case l => k_is); (case hk => exact ⟨⟨_, _, rfl, rfl⟩, ⟨⟨_, _, rfl, rfl⟩, ⟨⟨_, _, rfl, rfl⟩, ⟨⟨_, _, rfl, rfl⟩, ⟨⟨_, _, rfl, rfl⟩, ⟨⟨_, _, rfl, rfl⟩, ⟨⟨_, _, rfl, rfl⟩, ⟨⟨_, _, rfl, rfl⟩, ⟨⟨_, _, rfl, rfl⟩, ⟨⟨_, _, rfl, rfl⟩, ⟨⟨_, _, rfl, rfl⟩, ⟨⟨_, _, rfl, rfl⟩, ⟨⟨_, _, rfl, rfl⟩, ⟨⟨_, _, rfl, rfl⟩, ⟨⟨_, _, rfl, rfl⟩, ⟨⟨_, _, rfl, rfl⟩, ⟨⟨_, _, rfl, rfl⟩, ⟨⟨_, _, rfl, rfl⟩, ⟨⟨_, _, rfl, rfl⟩, trivial⟩⟩⟩⟩⟩⟩⟩⟩⟩⟩⟩⟩⟩⟩⟩⟩⟩⟩⟩); (case hf => rfl))
    case Mn =>
      refine' DH.mk_main KX G ?a ?l ?c ?k (fun _ _ _ _ _ _ us hl => match us, hl with | [_], _ => rfl)
      (case a => k_is); (case l => k_is); (case c => k_is); (case k => k_is)
  case S =>
    intro K H xs a hO hwi hask hx
    cases hx with
    | cons h1 h2 =>
      cases h2
      cases h1 with
      | lst hs ha =>
        have e := L2.ints_dw a.1 _ ha
        subst e
        have q : ((Codec.inLen 0 17000 a.1 && a.1.all (Codec.inInt (-1000000000000000000) 1000000000000000000)) && true) = true := hwi
        rw [Bool.and_eq_true, Bool.and_eq_true] at q
        have q2 := (Codec.inNat_iff.mp q.1.1).2
        obtain ⟨raw, ask⟩ := DH.asked_of (l := a.1) hask
        exact ⟨H, _, a.1, raw, rfl, fun _ _ h => h, ⟨_, rfl, hs⟩, by omega, ask, fun H' p hp => .lst (L2.SqL.of hp) (L2.dw_ints _)⟩
