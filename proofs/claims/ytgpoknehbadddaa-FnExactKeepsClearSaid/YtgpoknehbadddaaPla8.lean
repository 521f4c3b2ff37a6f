/- Plain mathematics for the laws on polygons: turned and reversed lists, sums of areas, hulls of more points. -/
import Derived.Test.YtgpoknehbadddaaDc8
import Derived.Test.YtgpoknehbadddaaBx8
namespace Go.Proofs.Ytgpoknehbadddaa
set_option maxRecDepth 100000
/-- The list that begins with its second point. -/
def trn : List P2 → List P2
  | [] => []
  | p :: qs => qs ++ [p]
theorem trn_len (ps : List P2) : (trn ps).length = ps.length := by cases ps <;> simp [trn]
theorem trn_cor {ps : List P2} {k : Nat} (hk : k < ps.length) : cor (trn ps) k = cor ps (nx ps k) := by
  cases ps with
  | nil => simp at hk
  | cons p qs =>
    simp only [List.length_cons] at hk
    unfold trn Go.Proofs.Ytgpoknehbadddaa.cor nx
    rw [List.getD_eq_getElem?_getD, List.getD_eq_getElem?_getD]
    by_cases h : k < qs.length
    · rw [List.getElem?_append_left h, List.length_cons, Nat.mod_eq_of_lt (by omega), List.getElem?_cons_succ]
    · have e : k = qs.length := by omega
      subst e
      simp
theorem trn_nx (ps : List P2) (k : Nat) : nx (trn ps) k = nx ps k := by unfold nx; rw [trn_len]
theorem nx_inj {ps : List P2} {j k : Nat} (hj : j < ps.length) (hk : k < ps.length) (e : nx ps j = nx ps k) : j = k := by
  rcases nx_cases hj with ⟨_, a⟩ | ⟨_, a⟩ <;> rcases nx_cases hk with ⟨_, b⟩ | ⟨_, b⟩ <;> omega
theorem Edg.trn {ps : List P2} (h : Edg ps) : Edg (trn ps) := by
  intro k j hk hj h1 h2
  rw [trn_len] at hk hj
  have e : (k + 1) % (Go.Proofs.Ytgpoknehbadddaa.trn ps).length = nx ps k := trn_nx ps k
  rw [e] at h2 ⊢
  rw [trn_cor hk, trn_cor hj, trn_cor (nx_lt hk)]
  exact h (nx ps k) (nx ps j) (nx_lt hk) (nx_lt hj) (fun q => h1 (nx_inj hj hk q)) (fun q => h2 (nx_inj hj (nx_lt hk) q))
theorem trn_mem {ps : List P2} {p : P2} (h : p ∈ trn ps) : p ∈ ps := by
  cases ps with
  | nil => exact h
  | cons q qs =>
    unfold trn at h
    rcases List.mem_append.1 h with k | k
    · exact List.mem_cons_of_mem _ k
    · rw [List.mem_singleton.1 k]; exact List.mem_cons_self
theorem okCvx.trn {ps : List P2} (h : okCvx ps) : okCvx (trn ps) :=
  ⟨by rw [trn_len]; exact h.1, by rw [trn_len]; exact h.2.1, fun p hp => h.2.2.1 p (trn_mem hp), h.2.2.2.trn⟩
theorem ins_trn {ps : List P2} (p : P2) : Ins (trn ps) p ↔ Ins ps p := by
  constructor
  · intro h k hk
    obtain ⟨a, ha, e⟩ := pv_ex hk
    have q := h a (by rw [trn_len]; exact ha)
    have e2 : (a + 1) % (trn ps).length = k := (trn_nx ps a).trans e
    rw [e2, trn_cor ha, trn_cor hk, e] at q
    exact q
  · intro h k hk
    rw [trn_len] at hk
    have e2 : (k + 1) % (trn ps).length = nx ps k := trn_nx ps k
    rw [e2, trn_cor hk, trn_cor (nx_lt hk)]
    exact h (nx ps k) (nx_lt hk)
theorem fan_trn {ps : List P2} (o : P2) : ∀ m, m + 1 < ps.length → fan (trn ps) o m = fan ps o (m + 1) - cr o (cor ps 0) (cor ps 1) := by
  intro m
  induction m with
  | zero => intro _; unfold fan; simp [fan]
  | succ m ih =>
    intro h
    have e1 : nx ps m = m + 1 := Nat.mod_eq_of_lt (by omega)
    have e2 : nx ps (m + 1) = m + 1 + 1 := Nat.mod_eq_of_lt (by omega)
    have k := ih (by omega)
    show fan (trn ps) o m + cr o (cor (trn ps) m) (cor (trn ps) (m + 1)) = fan ps o (m + 1) + cr o (cor ps (m + 1)) (cor ps (m + 1 + 1)) - _
    rw [trn_cor (by omega), trn_cor (by omega), e1, e2, k]
    omega
theorem loop_trn {ps : List P2} (o : P2) (h : 2 ≤ ps.length) : loopSum (trn ps) o = loopSum ps o := by
  obtain ⟨n, hn⟩ : ∃ n, ps.length = n + 2 := ⟨ps.length - 2, by omega⟩
  unfold loopSum
  rw [trn_len, hn]
  show fan (trn ps) o n + cr o (cor (trn ps) n) (cor (trn ps) (n + 1)) + cr o (cor (trn ps) (n + 1)) (cor (trn ps) 0) = fan ps o (n + 1) + cr o (cor ps (n + 1)) (cor ps 0)
  have e1 : nx ps n = n + 1 := Nat.mod_eq_of_lt (by omega)
  have e2 : nx ps (n + 1) = 0 := by unfold nx; rw [hn]; exact Nat.mod_self _
  have e3 : nx ps 0 = 1 := Nat.mod_eq_of_lt (by omega)
  rw [trn_cor (by omega), trn_cor (by omega), trn_cor (by omega), e1, e2, e3, fan_trn o n (by omega)]
  omega
theorem da_trn {ps : List P2} (h : okCvx ps) : daV (trn ps) = daV ps := by
  rw [daV_yes h, daV_yes h.trn]; exact loop_trn _ (by have := h.1; omega)
/-- Without the first corner. -/
theorem tail_cor (ps : List P2) (k : Nat) : cor ps.tail k = cor ps (k + 1) := by cases ps <;> simp [cor]
theorem fan_tail (ps : List P2) (o : P2) : ∀ m, fan ps.tail o m = fan ps o (m + 1) - cr o (cor ps 0) (cor ps 1) := by
  intro m
  induction m with
  | zero => unfold fan; simp [fan]
  | succ m ih =>
    show fan ps.tail o m + cr o (cor ps.tail m) (cor ps.tail (m + 1)) = fan ps o (m + 1) + cr o (cor ps (m + 1)) (cor ps (m + 1 + 1)) - _
    rw [tail_cor, tail_cor, ih]; omega
theorem Ccw.tail {ps : List P2} (h : Ccw ps) : Ccw ps.tail := by
  intro i j k h1 h2 h3
  rw [List.length_tail] at h3
  rw [tail_cor, tail_cor, tail_cor]
  exact h (i + 1) (j + 1) (k + 1) (by omega) (by omega) (by omega)
theorem okCvx.tail {ps : List P2} (h : okCvx ps) (h4 : 4 ≤ ps.length) : okCvx ps.tail :=
  ⟨by rw [List.length_tail]; omega, by rw [List.length_tail]; have := h.2.1; omega, fun p hp => h.2.2.1 p (List.mem_of_mem_tail hp), h.ccw.tail.edg⟩
theorem da_tail {ps : List P2} (h : okCvx ps) (h4 : 4 ≤ ps.length) : daV ps.tail < daV ps := by
  rw [daV_yes h, daV_yes (h.tail h4), loopSum_move ps _ (cor ps 1), loopSum_move ps.tail _ (cor ps 1)]
  obtain ⟨n, hn⟩ : ∃ n, ps.length = n + 2 := ⟨ps.length - 2, by omega⟩
  unfold loopSum
  rw [List.length_tail, hn]
  show fan ps.tail (cor ps 1) n + cr (cor ps 1) (cor ps.tail n) (cor ps.tail 0) < fan ps (cor ps 1) (n + 1) + cr (cor ps 1) (cor ps (n + 1)) (cor ps 0)
  rw [fan_tail, tail_cor, tail_cor]
  have k := h.ccw 0 1 (n + 1) (by omega) (by omega) (by omega)
  have e1 : cr (cor ps 1) (cor ps (n + 1)) (cor ps (0 + 1)) = 0 := cr_same3 _ _
  have e2 : cr (cor ps 1) (cor ps 0) (cor ps 1) = 0 := cr_same3 _ _
  have e3 := cr_cyc (cor ps 0) (cor ps 1) (cor ps (n + 1))
  omega
theorem da_pos {ps : List P2} (h : okCvx ps) : 0 < daV ps := by rw [daV_yes h]; exact h.ccw.area h.1 _
theorem da_nonneg (ps : List P2) : 0 ≤ daV ps := by
  by_cases h : okCvx ps
  · exact Int.le_of_lt (da_pos h)
  · rw [daV_no h]; omega
theorem rev_not {ps : List P2} (h : okCvx ps) : ¬ okCvx ps.reverse := by
  intro k
  have n := h.1
  have a := h.ccw (ps.length - 3) (ps.length - 2) (ps.length - 1) (by omega) (by omega) (by omega)
  have b := k.ccw 0 1 2 (by omega) (by omega) (by rw [List.length_reverse]; omega)
  rw [cor_rev (by omega), cor_rev (by omega), cor_rev (by omega)] at b
  have e := cr_cyc2 (cor ps (ps.length - 2)) (cor ps (ps.length - 3)) (cor ps (ps.length - 1))
  have e2 := cr_swap (cor ps (ps.length - 3)) (cor ps (ps.length - 2)) (cor ps (ps.length - 1))
  rw [show ps.length - 1 - 0 = ps.length - 1 by omega, show ps.length - 1 - 1 = ps.length - 2 by omega, show ps.length - 1 - 2 = ps.length - 3 by omega] at b
  omega
/-- The sum of the areas, each positive. -/
def sumA (ps : List P2) (o : P2) : Nat → Int
  | 0 => 0
  | m + 1 => sumA ps o m + max (cr o (cor ps m) (cor ps (nx ps m))) (- cr o (cor ps m) (cor ps (nx ps m)))
theorem sumA_eq (ps : List P2) (o : P2) : ∀ m, sumE ps o m ≤ sumA ps o m ∧ (sumA ps o m = sumE ps o m ↔ ∀ k, k < m → 0 ≤ cr o (cor ps k) (cor ps (nx ps k))) := by
  intro m
  induction m with
  | zero => exact ⟨Int.le_refl _, fun _ k hk => absurd hk (Nat.not_lt_zero _), fun _ => rfl⟩
  | succ m ih =>
    obtain ⟨i1, i2⟩ := ih
    unfold sumA sumE
    refine ⟨by omega, fun h k hk => ?_, fun h => ?_⟩
    · by_cases e : k = m
      · subst e; omega
      · exact i2.1 (by omega) k (by omega)
    · have := i2.2 fun k hk => h k (by omega)
      have := h m (by omega)
      omega
theorem ins_area {ps : List P2} (h : okCvx ps) (p : P2) : Ins ps p ↔ sumA ps p ps.length = daV ps := by
  have e : daV ps = sumE ps p ps.length := by rw [daV_yes h, sumE_loop p (by have := h.1; omega)]; exact loopSum_move _ _ _
  rw [e, (sumA_eq ps p ps.length).2]
  constructor
  · intro q k hk
    have := q k hk
    rw [← cr_cyc2] at this
    exact this
  · intro q k hk
    have := q k hk
    rw [cr_cyc2] at this
    exact this
theorem ins_corner {ps : List P2} (h : okCvx ps) {k : Nat} (hk : k < ps.length) : Ins ps (cor ps k) := h.ccw.corner hk
/-- Sums of numbers. -/
def sm (g : Nat → Int) : Nat → Int
  | 0 => 0
  | m + 1 => sm g m + g m
theorem sm_same {f g : Nat → Int} : ∀ m, (∀ i, i < m → f i = g i) → sm f m = sm g m
  | 0, _ => rfl
  | m + 1, h => by unfold sm; rw [sm_same m fun i hi => h i (by omega), h m (by omega)]
theorem sm_nonneg {g : Nat → Int} : ∀ m, (∀ i, i < m → 0 ≤ g i) → 0 ≤ sm g m
  | 0, _ => Int.le_refl _
  | m + 1, h => by have := sm_nonneg m fun i hi => h i (by omega); have := h m (by omega); unfold sm; omega
theorem sm_set (g : Nat → Int) (j : Nat) : ∀ m, j < m → sm g m = sm (fun i => if i = j then 0 else g i) m + g j
  | 0, h => by omega
  | m + 1, h => by
    unfold sm
    by_cases e : m = j
    · subst e
      rw [if_pos rfl, sm_same (f := fun i => if i = m then 0 else g i) (g := g) m fun i hi => if_neg (by omega)]
      omega
    · rw [sm_set g j m (by omega), if_neg e]; omega
theorem sm_inj (f : Nat → Int) (m : Nat) (J : Nat → Nat) : ∀ (n : Nat) (g : Nat → Int), (∀ i, i < m → 0 ≤ g i) → (∀ k, k < n → 0 < f k → J k < m ∧ g (J k) = f k) →
    (∀ k l, k < n → l < n → 0 < f k → 0 < f l → J k = J l → k = l) → sm f n ≤ sm g m
  | 0, g, hg, _, _ => sm_nonneg m hg
  | n + 1, g, hg, h1, h2 => by
    show sm f n + f n ≤ _
    by_cases q : 0 < f n
    · obtain ⟨a, b⟩ := h1 n (by omega) q
      have ih := sm_inj f m J n (fun i => if i = J n then 0 else g i) (fun i hi => by split; omega; exact hg i hi)
        (fun k hk hf => by
          obtain ⟨c, d⟩ := h1 k (by omega) hf
          refine ⟨c, ?_⟩
          rw [if_neg (fun e => by have := h2 k n (by omega) (by omega) hf q e; omega)]
          exact d) (fun k l hk hl => h2 k l (by omega) (by omega))
      rw [sm_set g (J n) m a, b]
      omega
    · have := sm_inj f m J n g hg (fun k hk => h1 k (by omega)) (fun k l hk hl => h2 k l (by omega) (by omega))
      omega
theorem sumE_sm (ps : List P2) (o : P2) : ∀ m, sumE ps o m = sm (fun k => cr o (cor ps k) (cor ps (nx ps k))) m
  | 0 => rfl
  | m + 1 => by unfold sumE sm; rw [sumE_sm ps o m]
/-- A point of an edge with the old points and a new one to its left is extreme still. -/
theorem ext_more {S S' : List P2} {a b c p : P2} (he : Ext S c) (hS : ∀ q ∈ S', q ∈ S ∨ q = p) (h0 : cr a b c = 0) (hl : ∀ q ∈ S, 0 ≤ cr a b q) (hp : 0 < cr a b p) : Ext S' c := by
  obtain ⟨u, hu⟩ := he
  obtain ⟨N, hN⟩ : ∃ N : Int, max (lin u c p) (- lin u c p) + 1 = N := ⟨_, rfl⟩
  have lr : ∀ q, lin (N * (-(b.2 - a.2)) + u.1, N * (b.1 - a.1) + u.2) c q = N * (cr a b q - cr a b c) + lin u c q := fun q => by unfold lin cr; grind
  refine ⟨(N * (-(b.2 - a.2)) + u.1, N * (b.1 - a.1) + u.2), fun q hq hne => ?_⟩
  rw [lr, h0, Int.sub_zero]
  rcases hS q hq with h | h
  · have k1 := hu q h hne
    have k2 : 0 ≤ N * cr a b q := Int.mul_nonneg (by omega) (hl q h)
    omega
  · subst h
    have k2 : N * 1 ≤ N * cr a b q := Int.mul_le_mul_of_nonneg_left (by omega) (by omega)
    omega
/-- An edge of the old hull that a new point is left of is an edge of the new hull. -/
theorem far_edge {S S' P H : List P2} {p : P2} (hP : Hull S P) (hH : Hull S' H) (h1 : ∀ q ∈ S, q ∈ S') (h2 : ∀ q ∈ S', q ∈ S ∨ q = p) {k : Nat} (hk : k < P.length) (hf : 0 < cr p (cor P k) (cor P (nx P k))) :
    ∃ j, j < H.length ∧ cor H j = cor P k ∧ cor H (nx H j) = cor P (nx P k) := by
  have hf' : 0 < cr (cor P k) (cor P (nx P k)) p := by rw [cr_cyc2] at hf; exact hf
  have hn := nx_lt hk
  have hl : ∀ q ∈ S, 0 ≤ cr (cor P k) (cor P (nx P k)) q := fun q hq => hP.ins q hq k hk
  have hl' : ∀ q ∈ S', 0 ≤ cr (cor P k) (cor P (nx P k)) q := fun q hq => by
    rcases h2 q hq with h | h
    · exact hl q h
    · rw [h]; omega
  obtain ⟨i, hi, ei⟩ := mem_cor (hH.has (h1 _ (hP.sub _ (cor_mem hk))) (ext_more (hP.ext hk) h2 (cr_same3 _ _) hl hf'))
  obtain ⟨j, hj, ej⟩ := mem_cor (hH.has (h1 _ (hP.sub _ (cor_mem hn))) (ext_more (hP.ext hn) h2 (cr_same2 _ _) hl hf'))
  refine ⟨i, hi, ei, ?_⟩
  by_cases e : j = nx H i
  · rw [← e, ej]
  · exfalso
    have hji : j ≠ i := fun q => by
      subst q
      rw [ei] at ej
      exact nx_ne hk (by have := hP.len; omega) (hP.ccw.inj hP.len hn hk ej.symm)
    have a1 := hH.ccw.edg i j hi hj hji e
    have a2 := hl' _ (hH.sub _ (cor_mem (nx_lt hi)))
    have a3 := cr_swap2 (cor P k) (cor P (nx P k)) (cor H (nx H i))
    rw [ei, ej] at a1
    have a4 : 0 < cr (cor P k) (cor H (nx H i)) (cor P (nx P k)) := a1
    omega
theorem hull_area {S S' P H : List P2} {p : P2} (hP : Hull S P) (hH : Hull S' H) (h1 : ∀ q ∈ S, q ∈ S') (h2 : ∀ q ∈ S', q ∈ S ∨ q = p) (h3 : p ∈ S') (o : P2) : loopSum P o ≤ loopSum H o := by
  rw [loopSum_move P o p, loopSum_move H o p, ← sumE_loop p (by have := hP.len; omega), ← sumE_loop p (by have := hH.len; omega), sumE_sm, sumE_sm]
  have hex : ∀ k, ∃ j, k < P.length → 0 < cr p (cor P k) (cor P (nx P k)) → (j < H.length ∧ cor H j = cor P k ∧ cor H (nx H j) = cor P (nx P k)) := fun k => by
    by_cases hk : k < P.length
    · by_cases hf : 0 < cr p (cor P k) (cor P (nx P k))
      · obtain ⟨j, hj⟩ := far_edge hP hH h1 h2 hk hf
        exact ⟨j, fun _ _ => hj⟩
      · exact ⟨0, fun _ h => absurd h hf⟩
    · exact ⟨0, fun h => absurd h hk⟩
  obtain ⟨J, hJ⟩ := Classical.skolem.1 hex
  refine sm_inj _ _ J _ _ (fun i hi => ?_) (fun k hk hf => ?_) (fun k l hk hl f1 f2 e => ?_)
  · have := hH.ins p h3 i hi
    rw [← cr_cyc2] at this
    exact this
  · obtain ⟨a, b, c⟩ := hJ k hk hf
    exact ⟨a, by rw [b, c]⟩
  · have a := (hJ k hk f1).2.1
    have b := (hJ l hl f2).2.1
    exact hP.ccw.inj hP.len hk hl (by rw [← a, ← b, e])
theorem hul_cases {ps : List P2} (h : hulV ps ≠ []) : (ps.length ≤ 16 ∧ okPts ps) ∧ Hull ps (hulV ps) ∧ ∀ p ∈ ps, le2 (cor (hulV ps) 0) p := by
  by_cases q : ps.length ≤ 16 ∧ okPts ps
  · rcases hulV_is q.1 q.2 with k | k
    · exact absurd k.1 h
    · exact ⟨q, k⟩
  · exact absurd (hulV_out q) h
theorem hul_cvx {ps : List P2} (h : hulV ps ≠ []) (h8 : (hulV ps).length ≤ 8) : okCvx (hulV ps) := by
  obtain ⟨⟨_, hk⟩, hh, _⟩ := hul_cases h
  exact ⟨hh.len, h8, fun p hp => hk p (hh.sub p hp), hh.ccw.edg⟩
/-- The hull of the hull. -/
theorem hul_hul {ps : List P2} (h : hulV ps ≠ []) (h8 : (hulV ps).length ≤ 8) : hulV (hulV ps) = hulV ps := by
  obtain ⟨⟨_, hk⟩, hh, hl⟩ := hul_cases h
  refine (hulV_eq (by omega) (fun p hp => hk p (hh.sub p hp)) (.inr ⟨⟨hh.ccw, hh.len, fun p hp => hp, fun p hp => hh.ins p (hh.sub p hp)⟩, fun p hp => hl p (hh.sub p hp)⟩)).symm
theorem hul_ins {ps : List P2} (h : hulV ps ≠ []) {p : P2} (hp : p ∈ ps) : Ins (hulV ps) p := (hul_cases h).2.1.ins p hp
theorem hul_area {ps : List P2} (h : hulV ps ≠ []) (h8 : (hulV ps).length ≤ 8) : daV (hulV ps.dropLast) ≤ daV (hulV ps) := by
  have hc := hul_cvx h h8
  by_cases k : okCvx (hulV ps.dropLast)
  · have h' : hulV ps.dropLast ≠ [] := fun e => by have := k.1; rw [e] at this; simp at this
    obtain ⟨_, hP, _⟩ := hul_cases h'
    obtain ⟨_, hH, _⟩ := hul_cases h
    have hne : ps ≠ [] := fun e => h (by rw [e]; exact hulV_nil)
    rw [daV_yes k, daV_yes hc]
    have es := List.dropLast_concat_getLast hne
    refine hull_area (p := ps.getLast hne) hP hH (fun q hq => List.dropLast_subset _ hq) (fun q hq => ?_) (List.getLast_mem hne) _
    rw [← es] at hq
    rcases List.mem_append.1 hq with a | a
    · exact .inl a
    · exact .inr (List.mem_singleton.1 a)
  · rw [daV_no k]; exact da_nonneg _
/-- Meeting and hitting in the law's words. -/
theorem hit_swap (ps : List P2) (p q : P2) : Hit ps p q ↔ Hit ps q p := by
  have key : ∀ p q, Hit ps p q → Hit ps q p := fun p q h => by
    rcases h with (h | h) | ⟨k, hk, h⟩
    · exact .inl (.inr h)
    · exact .inl (.inl h)
    · exact .inr ⟨k, hk, h.swap⟩
  exact ⟨key p q, key q p⟩
theorem cm_symm (ps qs : List P2) : cmV ps qs ↔ cmV qs ps := by
  unfold cmV
  constructor
  · rintro ⟨a, b, c⟩; exact ⟨b, a, (cmeet_symm a.ccw a.1 b.ccw b.1).1 c⟩
  · rintro ⟨a, b, c⟩; exact ⟨b, a, (cmeet_symm a.ccw a.1 b.ccw b.1).1 c⟩
theorem cm_self {ps : List P2} (h : okCvx ps) : cmV ps ps := ⟨h, h, cmeet_self h.ccw h.1⟩
theorem cm_corner {ps qs : List P2} (ha : okCvx ps) (hb : okCvx qs) {k : Nat} (hk : k < ps.length) (h : Ins qs (cor ps k)) : cmV ps qs := ⟨ha, hb, cmeet_corner hk h⟩
end Go.Proofs.Ytgpoknehbadddaa
