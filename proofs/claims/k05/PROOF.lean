import PyProof.Rows.All
import Wide.All
import OpenK.AllK
import Wide.FinOn
import HandS.ForMost
import HandS.ForExc
import HandS.Walk
import HandS.IsInst
import HandS.Style
import HandS.FStr
import HandS.RaiseMore
import HandS.Conv
import HandS.Wide
import PyProof.DictMoreH
import HandS.ExcIs
import PySem.Challenge.RW_tiehalves_k05_refused
set_option Elab.async false
set_option linter.all false
set_option maxRecDepth 100000
set_option maxHeartbeats 4000000
namespace TH
/-! ### counting -/
abbrev Tie := Nat × Nat
def tch (v : Nat) (t : Tie) : Bool := t.1 == v || t.2 == v
def far (t : Tie) (v : Nat) : Nat := if v = t.1 then t.2 else t.1
def tget (ts : List Tie) (k : Nat) : Tie := ts.getD k (0, 0)
def tiesAt (v : Nat) (ts : List Tie) : List Nat := (List.range ts.length).filter fun k => tch v (tget ts k)
def Ok (n : Nat) (ts : List Tie) : Prop := ∀ t ∈ ts, t.1 < t.2 ∧ t.2 < n

def cnt (p : Nat → Bool) : Nat → Nat
  | 0 => 0
  | n + 1 => cnt p n + (if p n then 1 else 0)
def isum (f : Nat → Int) : Nat → Int
  | 0 => 0
  | n + 1 => isum f n + f n

theorem cnt_congr {p q : Nat → Bool} : ∀ {n : Nat}, (∀ k, k < n → p k = q k) → cnt p n = cnt q n
  | 0, _ => rfl
  | n + 1, h => by
    have h1 := cnt_congr (n := n) fun k hk => h k (by omega)
    have h2 := h n (by omega)
    simp only [cnt, h1, h2]
theorem cnt_zero {p : Nat → Bool} : ∀ {n : Nat}, cnt p n = 0 ↔ ∀ k, k < n → p k = false
  | 0 => ⟨fun _ k hk => absurd hk (by omega), fun _ => rfl⟩
  | n + 1 => by
    have ih := cnt_zero (p := p) (n := n)
    constructor
    · intro h k hk
      simp only [cnt] at h
      by_cases e : k = n
      · subst e
        cases q : p k with
        | false => rfl
        | true => rw [q] at h; simp at h
      · exact ih.mp (by omega) k (by omega)
    · intro h
      have h1 := ih.mpr fun k hk => h k (by omega)
      have h2 := h n (by omega)
      simp only [cnt, h1, h2]
      simp
theorem cnt_le {p : Nat → Bool} : ∀ {n : Nat}, cnt p n ≤ n
  | 0 => Nat.le_refl _
  | n + 1 => by
    have := cnt_le (p := p) (n := n)
    simp only [cnt]
    split <;> omega
/-- p and q part at i alone, where p is true -/
theorem cnt_drop {p q : Nat → Bool} {i : Nat} : ∀ {n : Nat}, i < n → p i = true → q i = false → (∀ k, k < n → k ≠ i → p k = q k) → cnt p n = cnt q n + 1
  | 0, h, _, _, _ => absurd h (by omega)
  | n + 1, h, h1, h2, h3 => by
    simp only [cnt]
    by_cases e : i = n
    · subst e
      rw [h1, h2, cnt_congr (n := i) (p := p) (q := q) fun k hk => h3 k (by omega) (by omega)]
      simp
    · have := cnt_drop (n := n) (by omega) h1 h2 fun k hk => h3 k (by omega)
      rw [this, h3 n (by omega) (by omega)]
      omega
theorem cnt_pos {p : Nat → Bool} {n : Nat} (h : cnt p n ≠ 0) : ∃ k, k < n ∧ p k = true := by
  have h1 : ¬ ∀ k, k < n → p k = false := fun q => h (cnt_zero.mpr q)
  by_cases e : ∃ k, k < n ∧ p k = true
  · exact e
  · exact absurd (fun k hk => by
      cases q : p k with
      | false => rfl
      | true => exact absurd ⟨k, hk, q⟩ e) h1
theorem cnt_filter {p : Nat → Bool} : ∀ {n : Nat}, ((List.range n).filter p).length = cnt p n
  | 0 => rfl
  | n + 1 => by
    rw [List.range_succ, List.filter_append, List.length_append, cnt_filter (n := n)]
    simp only [cnt, List.filter_cons, List.filter_nil]
    split <;> simp
theorem isum_congr {f g : Nat → Int} : ∀ {n : Nat}, (∀ k, k < n → f k = g k) → isum f n = isum g n
  | 0, _ => rfl
  | n + 1, h => by
    have h1 := isum_congr (n := n) fun k hk => h k (by omega)
    have h2 := h n (by omega)
    simp only [isum, h1, h2]
theorem isum_set {f g : Nat → Int} {i : Nat} : ∀ {n : Nat}, i < n → (∀ k, k < n → k ≠ i → f k = g k) → isum g n = isum f n - f i + g i
  | 0, h, _ => absurd h (by omega)
  | n + 1, h, h3 => by
    simp only [isum]
    by_cases e : i = n
    · subst e
      rw [isum_congr (n := i) (f := f) (g := g) fun k hk => h3 k (by omega) (by omega)]
      omega
    · have := isum_set (n := n) (by omega) fun k hk => h3 k (by omega)
      rw [this, h3 n (by omega) (by omega)]
      omega
theorem isum_zero {f : Nat → Int} : ∀ {n : Nat}, (∀ k, k < n → f k = 0) → isum f n = 0
  | 0, _ => rfl
  | n + 1, h => by
    have h1 := isum_zero (n := n) fun k hk => h k (by omega)
    simp only [isum, h1, h n (by omega)]
    rfl

/-! ### ties -/
theorem mem_tiesAt {v k : Nat} {ts : List Tie} : k ∈ tiesAt v ts ↔ k < ts.length ∧ tch v (tget ts k) = true := by
  unfold tiesAt
  rw [List.mem_filter, List.mem_range]
theorem tget_mem {ts : List Tie} {k : Nat} (h : k < ts.length) : tget ts k ∈ ts := by
  unfold tget
  rw [List.getD_eq_getElem?_getD, List.getElem?_eq_getElem h]
  exact List.getElem_mem h
theorem tget_getElem? {ts : List Tie} {k : Nat} (h : k < ts.length) : ts[k]? = some (tget ts k) := by
  unfold tget
  rw [List.getD_eq_getElem?_getD, List.getElem?_eq_getElem h]
  rfl
theorem Ok.get {n : Nat} {ts : List Tie} (ok : Ok n ts) {k : Nat} (h : k < ts.length) : (tget ts k).1 < (tget ts k).2 ∧ (tget ts k).2 < n := ok _ (tget_mem h)
theorem tch_iff {v : Nat} {t : Tie} : tch v t = true ↔ t.1 = v ∨ t.2 = v := by
  unfold tch
  rw [Bool.or_eq_true, beq_iff_eq, beq_iff_eq]
theorem far_ne {v : Nat} {t : Tie} (h : t.1 < t.2) (h2 : tch v t = true) : far t v ≠ v := by
  rw [tch_iff] at h2
  unfold far
  split <;> omega
theorem far_tch {v : Nat} {t : Tie} : tch (far t v) t = true := by
  rw [tch_iff]
  unfold far
  split <;> simp
theorem far_far {v : Nat} {t : Tie} (h : t.1 < t.2) (h2 : tch v t = true) : far t (far t v) = v := by
  rw [tch_iff] at h2
  unfold far
  split
  · split <;> omega
  · split <;> omega
theorem tch_two {v w : Nat} {t : Tie} (h : t.1 < t.2) (h2 : tch v t = true) : tch w t = true ↔ w = v ∨ w = far t v := by
  rw [tch_iff] at *
  unfold far
  split <;> omega
/-- closed: alike at both ends of each tie -/
def Closed (ts : List Tie) (c : Nat → Bool) : Prop := ∀ t ∈ ts, c t.1 = c t.2
theorem Closed.far {ts : List Tie} {c : Nat → Bool} (h : Closed ts c) {k v : Nat} (hk : k < ts.length) (h2 : tch v (tget ts k) = true) : c (TH.far (tget ts k) v) = c v := by
  have := h _ (tget_mem hk)
  rw [tch_iff] at h2
  unfold TH.far
  split
  · rename_i e
    rw [e]; exact this.symm
  · rcases h2 with h2 | h2
    · exact absurd h2.symm (by assumption)
    · rw [← h2]; exact this
end TH
namespace TH
/-! ### one tie taken -/
def ug (u : List Bool) (k : Nat) : Bool := u.getD k true
def takeTie : List Nat → List Bool → Option Nat × List Nat × List Bool
  | [], u => (none, [], u)
  | k :: r, u => if ug u k then takeTie r u else (some k, r, u.set k true)
theorem ug_lt {u : List Bool} {k : Nat} (h : ug u k = false) : k < u.length := by
  unfold ug at h
  rw [List.getD_eq_getElem?_getD] at h
  by_cases q : k < u.length
  · exact q
  · rw [List.getElem?_eq_none (by omega)] at h
    simp at h
theorem ug_set {u : List Bool} {k j : Nat} (h : k < u.length) : ug (u.set k true) j = if j = k then true else ug u j := by
  unfold ug
  rw [List.getD_eq_getElem?_getD, List.getD_eq_getElem?_getD, List.getElem?_set]
  by_cases e : j = k
  · subst e
    rw [if_pos rfl, if_pos h, if_pos rfl]
    rfl
  · rw [if_neg (fun q => e q.symm), if_neg e]
theorem takeTie_spec : ∀ (r : List Nat) (u : List Bool),
    (∀ r' u', takeTie r u = (none, r', u') → r' = [] ∧ u' = u ∧ ∀ k ∈ r, ug u k = true) ∧
    (∀ k r' u', takeTie r u = (some k, r', u') → k ∈ r ∧ ug u k = false ∧ u' = u.set k true ∧ (∀ j ∈ r', j ∈ r) ∧ ∀ j ∈ r, ug u j = false → j = k ∨ j ∈ r')
  | [], u => by
    constructor
    · intro r' u' h
      simp only [takeTie, Prod.mk.injEq] at h
      exact ⟨h.2.1.symm, h.2.2.symm, fun k hk => absurd hk (by simp)⟩
    · intro k r' u' h
      simp [takeTie] at h
  | k :: r, u => by
    have ih := takeTie_spec r u
    unfold takeTie
    by_cases q : ug u k = true
    · simp only [if_pos q]
      constructor
      · intro r' u' h
        obtain ⟨h1, h2, h3⟩ := ih.1 r' u' h
        refine ⟨h1, h2, fun j hj => ?_⟩
        rcases List.mem_cons.mp hj with e | e
        · rw [e]; exact q
        · exact h3 j e
      · intro j r' u' h
        obtain ⟨h1, h2, h3, h4, h5⟩ := ih.2 j r' u' h
        refine ⟨List.mem_cons_of_mem _ h1, h2, h3, fun x hx => List.mem_cons_of_mem _ (h4 x hx), fun x hx hu => ?_⟩
        rcases List.mem_cons.mp hx with e | e
        · rw [e, q] at hu; cases hu
        · exact h5 x e hu
    · simp only [if_neg q]
      constructor
      · intro r' u' h
        simp at h
      · intro j r' u' h
        simp only [Prod.mk.injEq, Option.some.injEq] at h
        obtain ⟨h1, h2, h3⟩ := h
        subst h1 h2 h3
        refine ⟨List.mem_cons_self, by simpa using q, rfl, fun x hx => List.mem_cons_of_mem _ hx, fun x hx _ => ?_⟩
        exact List.mem_cons.mp hx

/-! ### a round -/
structure RS where
  rows : List (List Nat)
  used : List Bool
  path : List (Nat × Option Nat)
  done : List Nat
def rowAt (rows : List (List Nat)) (v : Nat) : List Nat := rows.getD v []
def roundStep (ts : List Tie) (s : RS) : RS :=
  match s.path with
  | [] => s
  | (v, came) :: rest =>
    match takeTie (rowAt s.rows v) s.used with
    | (some k, row, used) => { rows := s.rows.set v row, used := used, path := (far (tget ts k) v, some k) :: s.path, done := s.done }
    | (none, row, used) => { rows := s.rows.set v row, used := used, path := rest, done := s.done ++ came.toList }
def unused (u : List Bool) : Nat := cnt (fun k => !ug u k) u.length
def rMeas (s : RS) : Nat := 2 * unused s.used + s.path.length
theorem unused_set {u : List Bool} {k : Nat} (h : ug u k = false) : unused u = unused (u.set k true) + 1 := by
  have hk := ug_lt h
  unfold unused
  rw [List.length_set]
  refine cnt_drop hk (by rw [h]; rfl) (by rw [ug_set hk, if_pos rfl]; rfl) fun j _ hj => ?_
  rw [ug_set hk, if_neg hj]
theorem rMeas_lt (ts : List Tie) (s : RS) (h : s.path ≠ []) : rMeas (roundStep ts s) < rMeas s := by
  obtain ⟨rows, used, path, done⟩ := s
  cases path with
  | nil => exact absurd rfl h
  | cons p rest =>
    obtain ⟨v, came⟩ := p
    unfold roundStep
    have sp := takeTie_spec (rowAt rows v) used
    rcases e : takeTie (rowAt rows v) used with ⟨o, row, u⟩
    cases o with
    | none =>
      obtain ⟨_, h2, _⟩ := sp.1 row u e
      simp only [e, rMeas, List.length_cons, h2]
      omega
    | some k =>
      obtain ⟨_, h2, h3, _⟩ := sp.2 k row u e
      have := unused_set h2
      simp only [e, rMeas, List.length_cons, h3]
      omega
def iter {α : Type} (f : α → α) : Nat → α → α
  | 0, s => s
  | n + 1, s => iter f n (f s)
def roundRun (ts : List Tie) (s : RS) : RS := iter (roundStep ts) (rMeas s) s
theorem iter_fix {ts : List Tie} {s : RS} (h : s.path = []) : ∀ n, iter (roundStep ts) n s = s
  | 0 => rfl
  | n + 1 => by
    have e : roundStep ts s = s := by unfold roundStep; rw [h]
    show iter (roundStep ts) n (roundStep ts s) = s
    rw [e]
    exact iter_fix h n
theorem iter_more {ts : List Tie} : ∀ (n m : Nat) (s : RS), rMeas s ≤ n → n ≤ m → iter (roundStep ts) n s = iter (roundStep ts) m s ∧ (iter (roundStep ts) n s).path = []
  | 0, m, s, h, _ => by
    have hp : s.path = [] := by
      unfold rMeas at h
      exact List.length_eq_zero_iff.mp (by omega)
    exact ⟨(iter_fix hp m).symm, hp⟩
  | n + 1, m, s, h, hm => by
    by_cases hp : s.path = []
    · rw [iter_fix hp, iter_fix hp]
      exact ⟨rfl, hp⟩
    · obtain ⟨m', rfl⟩ : ∃ m', m = m' + 1 := ⟨m - 1, by omega⟩
      have := rMeas_lt ts s hp
      exact iter_more n m' (roundStep ts s) (by omega) (by omega)
theorem roundRun_step (ts : List Tie) (s : RS) (h : s.path ≠ []) : roundRun ts (roundStep ts s) = roundRun ts s := by
  unfold roundRun
  have h1 := rMeas_lt ts s h
  obtain ⟨m, hm⟩ : ∃ m, rMeas s = m + 1 := ⟨rMeas s - 1, by omega⟩
  rw [hm]
  show _ = iter (roundStep ts) m (roundStep ts s)
  exact (iter_more _ m _ (Nat.le_refl _) (by omega)).1
theorem roundRun_end (ts : List Tie) (s : RS) (h : s.path = []) : roundRun ts s = s := iter_fix h _
theorem roundRun_path (ts : List Tie) (s : RS) : (roundRun ts s).path = [] := (iter_more _ _ s (Nat.le_refl _) (Nat.le_refl _)).2
end TH
namespace TH
def udeg (ts : List Tie) (u : List Bool) (v : Nat) : Nat := cnt (fun k => tch v (tget ts k) && !ug u k) ts.length
def IsWalk (ts : List Tie) : Nat → List Nat → Nat → Prop
  | a, [], b => a = b
  | a, d :: ds, b => d < ts.length ∧ tch a (tget ts d) = true ∧ IsWalk ts (far (tget ts d) a) ds b
theorem IsWalk.snoc {ts : List Tie} : ∀ {a : Nat} {ds : List Nat} {b k : Nat}, IsWalk ts a ds b → k < ts.length → tch b (tget ts k) = true → IsWalk ts a (ds ++ [k]) (far (tget ts k) b)
  | a, [], b, k, h, h1, h2 => by
    have e : a = b := h
    subst e
    exact ⟨h1, h2, rfl⟩
  | a, d :: ds, b, k, h, h1, h2 => ⟨h.1, h.2.1, IsWalk.snoc (ds := ds) h.2.2 h1 h2⟩
def PChain (ts : List Tie) (start : Nat) : List (Nat × Option Nat) → Prop
  | [] => True
  | [(v, o)] => v = start ∧ o = none
  | (v, o) :: (w, o') :: rest => (∃ k, o = some k ∧ k < ts.length ∧ tch w (tget ts k) = true ∧ v = far (tget ts k) w) ∧ PChain ts start ((w, o') :: rest)
theorem PChain.tail {ts : List Tie} {start : Nat} {p : Nat × Option Nat} : ∀ {l : List (Nat × Option Nat)}, PChain ts start (p :: l) → PChain ts start l
  | [], _ => trivial
  | _ :: _, h => h.2
def parOk (ts : List Tie) (start cur : Nat) (s : RS) : Prop :=
  match s.path with
  | [] => cur = start ∧ ∀ v, udeg ts s.used v % 2 = 0
  | (t, _) :: _ => ∀ v, udeg ts s.used v % 2 = ((if v = cur then 1 else 0) + (if v = t then 1 else 0)) % 2
def onPath (s : RS) (w : Nat) : Prop := ∃ p ∈ s.path, p.1 = w
structure RInv (N : Nat) (ts : List Tie) (start : Nat) (u0 : List Bool) (cur : Nat) (s : RS) : Prop where
  len : s.used.length = ts.length
  nrows : s.rows.length = N
  rowOk : ∀ v k, k ∈ rowAt s.rows v → k < ts.length ∧ tch v (tget ts k) = true
  rowAll : ∀ v, v < N → ∀ k, k < ts.length → tch v (tget ts k) = true → ug s.used k = false → k ∈ rowAt s.rows v
  walk : IsWalk ts start s.done cur
  used : ∀ k, k < ts.length → (ug s.used k = true ↔ (ug u0 k = true ∨ k ∈ s.done ∨ k ∈ s.path.filterMap Prod.snd))
  nd : (s.done ++ s.path.filterMap Prod.snd).Nodup
  new : ∀ k, k ∈ s.done ++ s.path.filterMap Prod.snd → k < ts.length ∧ ug u0 k = false
  par : parOk ts start cur s
  chain : PChain ts start s.path
  low : ∀ p ∈ s.path, p.1 < N
  fin : (∀ k ∈ s.done, ∀ w, tch w (tget ts k) = true → udeg ts s.used w = 0 ∨ onPath s w) ∧ (udeg ts s.used start = 0 ∨ onPath s start)
  clo : ∀ c, Closed ts c → (∀ p ∈ s.path, c p.1 = c start) ∧ ∀ k ∈ s.done, c (tget ts k).1 = c start
theorem udeg_set {N : Nat} {ts : List Tie} (ok : Ok N ts) {u : List Bool} {k v : Nat} (hl : u.length = ts.length) (hk : ug u k = false) (h2 : tch v (tget ts k) = true) (w : Nat) :
    udeg ts u w = udeg ts (u.set k true) w + (if w = v then 1 else 0) + (if w = far (tget ts k) v then 1 else 0) := by
  have h := ug_lt hk
  have hk' : k < ts.length := by omega
  have hne := far_ne (ok.get hk').1 h2
  have hw := tch_two (w := w) (ok.get hk').1 h2
  unfold udeg
  by_cases q : tch w (tget ts k) = true
  · have e : cnt (fun j => tch w (tget ts j) && !ug u j) ts.length = cnt (fun j => tch w (tget ts j) && !ug (u.set k true) j) ts.length + 1 := by
      refine cnt_drop hk' (by rw [q, hk]; rfl) (by rw [ug_set h, if_pos rfl]; simp) fun j _ hj => ?_
      rw [ug_set h, if_neg hj]
    rw [e]
    rcases hw.mp q with e | e
    · subst e
      rw [if_pos rfl, if_neg (fun z => hne z.symm)]
    · subst e
      rw [if_pos rfl, if_neg hne]
  · have e : cnt (fun j => tch w (tget ts j) && !ug u j) ts.length = cnt (fun j => tch w (tget ts j) && !ug (u.set k true) j) ts.length := by
      refine cnt_congr fun j _ => ?_
      by_cases e : j = k
      · subst e
        simp [show tch w (tget ts j) = false by simpa using q]
      · rw [ug_set h, if_neg e]
    rw [e, if_neg (fun z => q (hw.mpr (.inl z))), if_neg (fun z => q (hw.mpr (.inr z)))]
    rfl
theorem udeg_le_set {ts : List Tie} {u : List Bool} {k w : Nat} (h : udeg ts u w = 0) (hk : k < u.length) : udeg ts (u.set k true) w = 0 := by
  unfold udeg at *
  rw [cnt_zero] at *
  intro j hj
  have := h j hj
  rw [ug_set hk]
  by_cases e : j = k
  · rw [if_pos e]; simp
  · rw [if_neg e]; exact this
theorem rowAt_set {rows : List (List Nat)} {v w : Nat} {r : List Nat} : rowAt (rows.set v r) w = if w = v ∧ v < rows.length then r else rowAt rows w := by
  unfold rowAt
  rw [List.getD_eq_getElem?_getD, List.getD_eq_getElem?_getD, List.getElem?_set]
  by_cases e : v = w
  · subst e
    by_cases h : v < rows.length
    · rw [if_pos rfl, if_pos h, if_pos ⟨rfl, h⟩]; rfl
    · rw [if_pos rfl, if_neg h, if_neg (fun z => h z.2), List.getElem?_eq_none (by omega)]
  · rw [if_neg e, if_neg (fun z => e z.1.symm)]

theorem RInv.push {N : Nat} {ts : List Tie} (ok : Ok N ts) {start cur : Nat} {u0 : List Bool} {rows : List (List Nat)} {used u : List Bool} {done row : List Nat} {v k : Nat} {came : Option Nat} {rest : List (Nat × Option Nat)}
    (I : RInv N ts start u0 cur ⟨rows, used, (v, came) :: rest, done⟩) (e : takeTie (rowAt rows v) used = (some k, row, u)) :
    RInv N ts start u0 cur ⟨rows.set v row, u, (far (tget ts k) v, some k) :: (v, came) :: rest, done⟩ := by
  obtain ⟨h1, h2, h3, h4, h5⟩ := (takeTie_spec (rowAt rows v) used).2 k row u e
  subst h3
  have hv : v < N := I.low (v, came) List.mem_cons_self
  obtain ⟨hk, ht⟩ := I.rowOk v k h1
  have hku := ug_lt h2
  have hn : rows.length = N := I.nrows
  have hl : used.length = ts.length := I.len
  have hfarN : far (tget ts k) v < N := by
    have := (ok.get hk)
    unfold far
    split <;> omega
  have hnot : ¬ (k ∈ done ∨ k ∈ List.filterMap Prod.snd ((v, came) :: rest)) := fun z => by
    have := (I.used k hk).mpr (.inr z)
    rw [show ug used k = false from h2] at this
    cases this
  have hu0 : ug u0 k = false := by
    cases q : ug u0 k with
    | false => rfl
    | true =>
      have := (I.used k hk).mpr (.inl q)
      rw [show ug used k = false from h2] at this
      cases this
  refine ⟨?_, ?_, ?_, ?_, I.walk, ?_, ?_, ?_, ?_, ?_, ?_, ?_, ?_⟩
  · rw [List.length_set]; exact hl
  · rw [List.length_set]; exact hn
  · intro w j hj
    simp only at hj
    rw [rowAt_set] at hj
    split at hj
    · rename_i z
      rw [z.1]
      exact I.rowOk v j (h4 j hj)
    · exact I.rowOk w j hj
  · intro w hw j hj hjt hju
    simp only at hju ⊢
    rw [ug_set hku] at hju
    by_cases ej : j = k
    · rw [if_pos ej] at hju; cases hju
    · rw [if_neg ej] at hju
      have := I.rowAll w hw j hj hjt hju
      rw [rowAt_set]
      split
      · rename_i z
        rw [z.1] at this
        rcases h5 j this hju with q | q
        · exact absurd q ej
        · exact q
      · exact this
  · intro j hj
    simp only
    rw [ug_set hku]
    have := I.used j hj
    simp only at this
    by_cases ej : j = k
    · rw [if_pos ej]
      simp [ej]
    · rw [if_neg ej, this]
      simp [ej]
  · have nd := I.nd
    simp only at nd ⊢
    rw [show List.filterMap Prod.snd ((far (tget ts k) v, some k) :: (v, came) :: rest) = k :: List.filterMap Prod.snd ((v, came) :: rest) from rfl]
    rw [List.nodup_append] at nd ⊢
    obtain ⟨n1, n2, n3⟩ := nd
    refine ⟨n1, List.nodup_cons.mpr ⟨fun z => hnot (.inr z), n2⟩, fun a ha b hb => ?_⟩
    rcases List.mem_cons.mp hb with q | q
    · subst q
      exact fun z => hnot (.inl (z ▸ ha))
    · exact n3 a ha b q
  · intro j hj
    have new := I.new
    simp only at new hj
    rw [show List.filterMap Prod.snd ((far (tget ts k) v, some k) :: (v, came) :: rest) = k :: List.filterMap Prod.snd ((v, came) :: rest) from rfl] at hj
    rw [List.mem_append, List.mem_cons] at hj
    rcases hj with q | q | q
    · exact new j (List.mem_append.mpr (.inl q))
    · rw [q]; exact ⟨hk, hu0⟩
    · exact new j (List.mem_append.mpr (.inr q))
  · intro w
    have par := I.par
    have p := par w
    have ud := udeg_set ok hl h2 ht w
    simp only at p ⊢
    omega
  · exact ⟨⟨k, rfl, hk, ht, rfl⟩, I.chain⟩
  · intro p hp
    rcases List.mem_cons.mp hp with q | q
    · rw [q]; exact hfarN
    · exact I.low p q
  · have f := I.fin
    refine ⟨fun j hj w hw => ?_, ?_⟩
    · rcases f.1 j hj w hw with q | ⟨p, hp, q⟩
      · exact .inl (udeg_le_set q hku)
      · exact .inr ⟨p, List.mem_cons_of_mem _ hp, q⟩
    · rcases f.2 with q | ⟨p, hp, q⟩
      · exact .inl (udeg_le_set q hku)
      · exact .inr ⟨p, List.mem_cons_of_mem _ hp, q⟩
  · intro c hc
    obtain ⟨c1, c2⟩ := I.clo c hc
    refine ⟨fun p hp => ?_, c2⟩
    rcases List.mem_cons.mp hp with q | q
    · rw [q]
      show c (far (tget ts k) v) = _
      rw [hc.far hk ht]
      exact c1 (v, came) List.mem_cons_self
    · exact c1 p q

theorem RInv.pop {N : Nat} {ts : List Tie} (ok : Ok N ts) {start cur : Nat} {u0 : List Bool} {rows : List (List Nat)} {used u : List Bool} {done row : List Nat} {v : Nat} {came : Option Nat} {rest : List (Nat × Option Nat)}
    (I : RInv N ts start u0 cur ⟨rows, used, (v, came) :: rest, done⟩) (e : takeTie (rowAt rows v) used = (none, row, u)) :
    ∃ cur', RInv N ts start u0 cur' ⟨rows.set v row, u, rest, done ++ came.toList⟩ := by
  obtain ⟨h1, h2, h3⟩ := (takeTie_spec (rowAt rows v) used).1 row u e
  subst h1 h2
  have hv : v < N := I.low (v, came) List.mem_cons_self
  have hn : rows.length = N := I.nrows
  have hz : udeg ts u v = 0 := by
    unfold udeg
    rw [cnt_zero]
    intro k hk
    cases q : tch v (tget ts k) with
    | false => rfl
    | true =>
      cases q2 : ug u k with
      | true => rfl
      | false =>
        have := h3 k (I.rowAll v hv k hk q q2)
        rw [q2] at this
        cases this
  have par : ∀ w, udeg ts u w % 2 = ((if w = cur then 1 else 0) + (if w = v then 1 else 0)) % 2 := I.par
  have hcur : v = cur := by
    have p := par v
    rw [hz, if_pos rfl] at p
    by_cases z : v = cur
    · exact z
    · rw [if_neg z] at p
      omega
  subst hcur
  have hev : ∀ w, udeg ts u w % 2 = 0 := fun w => by
    have p := par w
    split at p <;> omega
  have hrowOk : ∀ w k, k ∈ rowAt (rows.set v []) w → k < ts.length ∧ tch w (tget ts k) = true := fun w j hj => by
    rw [rowAt_set] at hj
    split at hj
    · cases hj
    · exact I.rowOk w j hj
  have hrowAll : ∀ w, w < N → ∀ k, k < ts.length → tch w (tget ts k) = true → ug u k = false → k ∈ rowAt (rows.set v []) w := fun w hw j hj hjt hju => by
    have := I.rowAll w hw j hj hjt hju
    rw [rowAt_set]
    split
    · rename_i z
      rw [z.1] at this
      have := h3 j this
      rw [hju] at this
      cases this
    · exact this
  have hset : ∀ p ∈ (v, came) :: rest, p.1 = v ∨ p ∈ rest := fun p hp => by
    rcases List.mem_cons.mp hp with q | q
    · exact .inl (by rw [q])
    · exact .inr q
  have step : ∀ w, (udeg ts u w = 0 ∨ onPath ⟨rows, u, (v, came) :: rest, done⟩ w) → (udeg ts u w = 0 ∨ ∃ p ∈ rest, p.1 = w) := fun w h => by
    rcases h with q | ⟨p, hp, q⟩
    · exact .inl q
    · rcases hset p hp with z | z
      · exact .inl (by rw [← q, z]; exact hz)
      · exact .inr ⟨p, z, q⟩
  cases rest with
  | nil =>
    obtain ⟨c1, c2⟩ : v = start ∧ came = none := I.chain
    subst c1 c2
    refine ⟨v, ⟨I.len, by rw [List.length_set]; exact hn, hrowOk, hrowAll, ?_, ?_, ?_, ?_, ⟨rfl, hev⟩, trivial, fun p hp => absurd hp (by simp), ?_, ?_⟩⟩
    · simpa using I.walk
    · intro k hk
      have := I.used k hk
      simpa using this
    · have := I.nd
      simpa using this
    · intro k hk
      exact I.new k (by simpa using hk)
    · refine ⟨fun k hk w hw => step w (I.fin.1 k (by simpa using hk) w hw), .inl hz⟩
    · intro c hc
      refine ⟨fun p hp => absurd hp (by simp), fun k hk => (I.clo c hc).2 k (by simpa using hk)⟩
  | cons p rest =>
    obtain ⟨w, o'⟩ := p
    obtain ⟨⟨k, ek, hk, ht, ev⟩, hch⟩ := I.chain
    subst ek
    have hvt : tch v (tget ts k) = true := by rw [ev]; exact far_tch
    have hw : far (tget ts k) v = w := by rw [ev]; exact far_far (ok.get hk).1 ht
    refine ⟨w, ⟨I.len, by rw [List.length_set]; exact hn, hrowOk, hrowAll, ?_, ?_, ?_, ?_, ?_, hch, fun p hp => I.low p (List.mem_cons_of_mem _ hp), ?_, ?_⟩⟩
    · have := I.walk.snoc hk hvt
      rw [hw] at this
      exact this
    · intro j hj
      have := I.used j hj
      simp only [List.filterMap_cons, List.mem_cons] at this
      simp only [Option.toList, List.mem_append, List.filterMap_cons, List.mem_singleton]
      rw [this]
      cases o' <;> grind
    · have nd := I.nd
      simp only [List.filterMap_cons, Option.toList] at nd ⊢
      rw [List.append_assoc]
      exact nd
    · intro j hj
      refine I.new j ?_
      simp only [List.filterMap_cons, Option.toList] at hj ⊢
      rw [List.append_assoc] at hj
      exact hj
    · intro x
      have := hev x
      simp only
      split <;> omega
    · refine ⟨fun j hj x hx => ?_, step start I.fin.2⟩
      rcases List.mem_append.mp hj with q | q
      · exact step x (I.fin.1 j q x hx)
      · simp only [Option.toList, List.mem_singleton] at q
        subst q
        rcases (tch_two (ok.get hk).1 ht).mp hx with z | z
        · exact .inr ⟨(w, o'), List.mem_cons_self, z.symm⟩
        · rw [← ev] at z
          rw [z]
          exact .inl hz
    · intro c hc
      obtain ⟨c1, c2⟩ := I.clo c hc
      refine ⟨fun p hp => c1 p (List.mem_cons_of_mem _ hp), fun j hj => ?_⟩
      rcases List.mem_append.mp hj with q | q
      · exact c2 j q
      · simp only [Option.toList, List.mem_singleton] at q
        subst q
        have z := c1 (v, some j) List.mem_cons_self
        rw [← z]
        rw [tch_iff] at hvt
        rcases hvt with y | y
        · simp only [y]
        · have := hc _ (tget_mem hk)
          rw [this]
          simp only [y]
theorem RInv.step {N : Nat} {ts : List Tie} (ok : Ok N ts) {start cur : Nat} {u0 : List Bool} {s : RS} (I : RInv N ts start u0 cur s) : ∃ cur', RInv N ts start u0 cur' (roundStep ts s) := by
  obtain ⟨rows, used, path, done⟩ := s
  cases path with
  | nil => exact ⟨cur, I⟩
  | cons p rest =>
    obtain ⟨v, came⟩ := p
    rcases e : takeTie (rowAt rows v) used with ⟨o, row, u⟩
    cases o with
    | none =>
      have := I.pop ok e
      simpa only [roundStep, e] using this
    | some k =>
      have := I.push ok e
      exact ⟨cur, by simpa only [roundStep, e] using this⟩
theorem RInv.run {N : Nat} {ts : List Tie} (ok : Ok N ts) {start : Nat} {u0 : List Bool} : ∀ (n : Nat) {cur : Nat} {s : RS}, RInv N ts start u0 cur s → ∃ cur', RInv N ts start u0 cur' (iter (roundStep ts) n s)
  | 0, cur, s, I => ⟨cur, I⟩
  | n + 1, cur, s, I => by
    obtain ⟨c, J⟩ := I.step ok
    exact RInv.run ok n J
end TH
namespace TH
/-! ### parts -/
/-- joined by ties: alike in everything that is closed -/
def conn (ts : List Tie) (a b : Nat) : Prop := ∀ Z : Nat → Bool, Closed ts Z → Z a = true → Z b = true
theorem conn_refl (ts : List Tie) (a : Nat) : conn ts a a := fun _ _ h => h
theorem conn_trans {ts : List Tie} {a b c : Nat} (h : conn ts a b) (h2 : conn ts b c) : conn ts a c := fun Z hZ h0 => h2 Z hZ (h Z hZ h0)
theorem Closed.not {ts : List Tie} {Z : Nat → Bool} (h : Closed ts Z) : Closed ts (fun v => !Z v) := fun t ht => by simp only [h t ht]
theorem conn_symm {ts : List Tie} {a b : Nat} (h : conn ts a b) : conn ts b a := fun Z hZ hb => by
  cases e : Z a with
  | true => rfl
  | false =>
    have := h (fun v => !Z v) hZ.not (by rw [e]; rfl)
    rw [hb] at this
    cases this
theorem conn_eq {ts : List Tie} {a b : Nat} (h : conn ts a b) {Z : Nat → Bool} (hZ : Closed ts Z) : Z a = Z b := by
  cases e : Z a with
  | true => exact (h Z hZ e).symm
  | false =>
    cases e2 : Z b with
    | false => rfl
    | true => rw [conn_symm h Z hZ e2] at e; cases e
noncomputable def connB (ts : List Tie) (a b : Nat) : Bool := @decide (conn ts a b) (Classical.propDecidable _)
theorem connB_iff {ts : List Tie} {a b : Nat} : connB ts a b = true ↔ conn ts a b := by
  unfold connB
  exact @decide_eq_true_iff _ (Classical.propDecidable _)
theorem conn_tie {ts : List Tie} {k v : Nat} (hk : k < ts.length) (h : tch v (tget ts k) = true) : conn ts v (far (tget ts k) v) := fun Z hZ h0 => by
  rw [hZ.far hk h]; exact h0
theorem connB_closed (ts : List Tie) (a : Nat) : Closed ts (connB ts a) := fun t ht => by
  have h1 : ∀ Z : Nat → Bool, Closed ts Z → Z t.1 = Z t.2 := fun Z hZ => hZ t ht
  cases e : connB ts a t.1 with
  | true =>
    exact (connB_iff.mpr fun Z hZ h0 => by rw [← h1 Z hZ]; exact connB_iff.mp e Z hZ h0).symm
  | false =>
    cases e2 : connB ts a t.2 with
    | false => rfl
    | true =>
      have := connB_iff.mpr fun Z hZ h0 => by rw [h1 Z hZ]; exact connB_iff.mp e2 Z hZ h0
      rw [this] at e
      cases e
noncomputable def partOf (ts : List Tie) (n root : Nat) : List Nat := (List.range n).filter (connB ts root)
theorem partOf_eq {ts : List Tie} {n a b : Nat} (h : conn ts a b) : partOf ts n a = partOf ts n b := by
  unfold partOf
  congr 1
  funext v
  cases e : connB ts a v with
  | true => exact (connB_iff.mpr (conn_trans (conn_symm h) (connB_iff.mp e))).symm
  | false =>
    cases e2 : connB ts b v with
    | false => rfl
    | true =>
      rw [connB_iff.mpr (conn_trans h (connB_iff.mp e2))] at e
      cases e
theorem mem_partOf {ts : List Tie} {n a v : Nat} : v ∈ partOf ts n a ↔ v < n ∧ conn ts a v := by
  unfold partOf
  rw [List.mem_filter, List.mem_range, connB_iff]
/-- the parts' least places -/
def isRoot (ts : List Tie) (s : Nat) : Prop := ∀ r, r < s → ¬ conn ts r s
noncomputable def isRootB (ts : List Tie) (s : Nat) : Bool := @decide (isRoot ts s) (Classical.propDecidable _)
theorem isRootB_iff {ts : List Tie} {s : Nat} : isRootB ts s = true ↔ isRoot ts s := by
  unfold isRootB
  exact @decide_eq_true_iff _ (Classical.propDecidable _)
noncomputable def partsOf (ts : List Tie) (n : Nat) : List (List Nat) := ((List.range n).filter (isRootB ts)).map (partOf ts n)
theorem root_of (ts : List Tie) : ∀ v, ∃ r, r ≤ v ∧ isRoot ts r ∧ conn ts r v := by
  intro v
  induction v using Nat.strongRecOn with
  | ind v ih =>
    by_cases h : isRoot ts v
    · exact ⟨v, Nat.le_refl _, h, conn_refl ts v⟩
    · unfold isRoot at h
      have : ∃ r, r < v ∧ conn ts r v := by
        by_cases q : ∃ r, r < v ∧ conn ts r v
        · exact q
        · exact absurd (fun r hr hc => q ⟨r, hr, hc⟩) h
      obtain ⟨r, hr, hc⟩ := this
      obtain ⟨s, hs, h1, h2⟩ := ih r hr
      exact ⟨s, by omega, h1, conn_trans h2 hc⟩
/-! ### trees of ties -/
abbrev TreeL := List (Nat × Nat × Option Nat)
def inT (T : TreeL) (v : Nat) : Bool := (T.lookup v).isSome
structure Tree (ts : List Tie) (n root : Nat) (T : TreeL) : Prop where
  nd : (T.map Prod.fst).Nodup
  lt : ∀ v, inT T v = true → v < n
  base : T.lookup root = some (0, none)
  par : ∀ v d o, T.lookup v = some (d, o) → (v = root ∧ d = 0 ∧ o = none) ∨ ∃ k u e o', o = some k ∧ k < ts.length ∧ tch u (tget ts k) = true ∧ v = far (tget ts k) u ∧ T.lookup u = some (e, o') ∧ d = e + 1
theorem lookup_mem {T : TreeL} {v : Nat} : inT T v = true ↔ v ∈ T.map Prod.fst := by
  unfold inT
  induction T with
  | nil => simp
  | cons p r ih =>
    obtain ⟨a, b⟩ := p
    rw [List.lookup_cons]
    by_cases e : v = a
    · subst e; simp
    · rw [show (v == a) = false from by simpa using e]
      simp only [List.map_cons, List.mem_cons]
      rw [ih]
      simp [e]
theorem inT_add {T : TreeL} {v d : Nat} {o : Option Nat} (w : Nat) : inT (T ++ [(v, d, o)]) w = (inT T w || decide (w = v)) := by
  unfold inT
  rw [List.lookup_append, List.lookup_cons]
  cases e : T.lookup w with
  | some x => rfl
  | none =>
    by_cases q : w = v
    · subst q; simp
    · rw [show (w == v) = false from by simpa using q]
      simp [q]
theorem look_add {T : TreeL} {v d : Nat} {o : Option Nat} (hv : inT T v = false) (w : Nat) : (T ++ [(v, d, o)]).lookup w = if w = v then some (d, o) else T.lookup w := by
  rw [List.lookup_append, List.lookup_cons]
  by_cases q : w = v
  · subst q
    unfold inT at hv
    have : T.lookup w = none := by
      cases e : T.lookup w with
      | none => rfl
      | some x => rw [e] at hv; cases hv
    rw [this]
    simp
  · rw [show (w == v) = false from by simpa using q, if_neg q]
    simp
theorem Tree.single (ts : List Tie) {n root : Nat} (h : root < n) : Tree ts n root [(root, 0, none)] := by
  refine ⟨by simp, fun v hv => ?_, by simp, fun v d o e => ?_⟩
  · rw [lookup_mem] at hv
    simp at hv
    omega
  · rw [List.lookup_cons] at e
    by_cases q : v = root
    · subst q
      simp at e
      exact .inl ⟨rfl, e.1.symm, e.2.symm⟩
    · rw [show (v == root) = false from by simpa using q] at e
      simp at e
theorem Tree.add {ts : List Tie} {n root : Nat} {T : TreeL} (I : Tree ts n root T) {k u e : Nat} {o' : Option Nat} (hk : k < ts.length) (ht : tch u (tget ts k) = true) (hu : T.lookup u = some (e, o')) (hv : inT T (far (tget ts k) u) = false) (hn : far (tget ts k) u < n) :
    Tree ts n root (T ++ [(far (tget ts k) u, e + 1, some k)]) := by
  have hne : ∀ w x, T.lookup w = some x → w ≠ far (tget ts k) u := fun w x h z => by
    rw [← z] at hv
    unfold inT at hv
    rw [h] at hv
    cases hv
  refine ⟨?_, fun v h => ?_, ?_, fun v d o h => ?_⟩
  · rw [List.map_append, List.nodup_append]
    refine ⟨I.nd, by simp, fun a ha b hb => ?_⟩
    simp at hb
    rw [hb]
    intro z
    subst z
    rw [lookup_mem.mpr ha] at hv
    cases hv
  · rw [inT_add] at h
    rcases Bool.or_eq_true_iff.mp h with q | q
    · exact I.lt v q
    · have := of_decide_eq_true q
      omega
  · rw [look_add hv, if_neg (hne _ _ I.base)]
    exact I.base
  · rw [look_add hv] at h
    split at h
    · rename_i q
      cases h
      exact .inr ⟨k, u, e, o', rfl, hk, ht, q, by rw [look_add hv, if_neg (hne _ _ hu)]; exact hu, rfl⟩
    · rcases I.par v d o h with q | ⟨j, x, e2, o2, q1, q2, q3, q4, q5, q6⟩
      · exact .inl q
      · exact .inr ⟨j, x, e2, o2, q1, q2, q3, q4, by rw [look_add hv, if_neg (hne _ _ q5)]; exact q5, q6⟩
/-- every tie has both its places in T or none -/
structure GoodTree (ts : List Tie) (n root : Nat) (T : TreeL) : Prop extends Tree ts n root T where
  clo : Closed ts (inT T)
theorem Tree.conn {ts : List Tie} {n root : Nat} {T : TreeL} (I : Tree ts n root T) : ∀ (d v : Nat) (o : Option Nat), T.lookup v = some (d, o) → TH.conn ts root v
  | d, v, o, h => by
    induction d generalizing v o with
    | zero =>
      rcases I.par v 0 o h with q | ⟨j, x, e2, o2, q1, q2, q3, q4, q5, q6⟩
      · rw [q.1]; exact conn_refl ts root
      · omega
    | succ d ih =>
      rcases I.par v _ o h with q | ⟨j, x, e2, o2, q1, q2, q3, q4, q5, q6⟩
      · omega
      · have e : e2 = d := by omega
        subst e
        rw [q4]
        exact conn_trans (ih x o2 q5) (conn_tie q2 q3)
theorem GoodTree.iff {ts : List Tie} {n root : Nat} {T : TreeL} (I : GoodTree ts n root T) (v : Nat) : inT T v = connB ts root v := by
  have hr : inT T root = true := by unfold inT; rw [I.base]; rfl
  cases e : inT T v with
  | true =>
    obtain ⟨x, hx⟩ := Option.isSome_iff_exists.mp e
    exact (connB_iff.mpr (I.toTree.conn x.1 v x.2 hx)).symm
  | false =>
    cases e2 : connB ts root v with
    | false => rfl
    | true =>
      rw [connB_iff.mp e2 (inT T) I.clo hr] at e
      cases e
/-- the search under way: W waits; the places in T that don't wait have all their neighbours in T, but cur has them for the ties in D alone -/
def Reach (ts : List Tie) (T : TreeL) (W : List Nat) : Prop := ∀ v, inT T v = true → v ∉ W → ∀ k, k < ts.length → tch v (tget ts k) = true → inT T (far (tget ts k) v) = true
theorem Reach.good {n : Nat} {ts : List Tie} (ok : Ok n ts) {root : Nat} {T : TreeL} (I : Tree ts n root T) (h : Reach ts T []) : GoodTree ts n root T := ⟨I, fun t ht => by
  obtain ⟨k, hk, rfl⟩ := List.getElem_of_mem ht
  have e : tget ts k = ts[k] := by unfold tget; rw [List.getD_eq_getElem?_getD, List.getElem?_eq_getElem hk]; rfl
  have h1 := ok.get hk
  rw [e] at h1
  have a1 := fun (q : inT T ts[k].1 = true) => h ts[k].1 q (by simp) k hk (by rw [e, tch_iff]; exact .inl rfl)
  have a2 := fun (q : inT T ts[k].2 = true) => h ts[k].2 q (by simp) k hk (by rw [e, tch_iff]; exact .inr rfl)
  rw [e] at a1 a2
  unfold far at a1 a2
  rw [if_pos rfl] at a1
  rw [if_neg (by omega)] at a2
  cases q1 : inT T ts[k].1 with
  | true => rw [a1 q1]
  | false =>
    cases q2 : inT T ts[k].2 with
    | false => rfl
    | true => rw [a2 q2] at q1; cases q1⟩
end TH
namespace TH
theorem nodup_le : ∀ (n : Nat) (l : List Nat), l.Nodup → (∀ x ∈ l, x < n) → l.length ≤ n
  | 0, l, _, h => by
    cases l with
    | nil => exact Nat.le_refl _
    | cons a r => exact absurd (h a List.mem_cons_self) (by omega)
  | n + 1, l, nd, h => by
    by_cases e : n ∈ l
    · have h1 := nodup_le n (l.erase n) (nd.erase n) fun x hx => by
        have := h x (List.mem_of_mem_erase hx)
        have : x ≠ n := fun z => by
          subst z
          exact (List.Nodup.mem_erase_iff nd).mp hx |>.1 rfl
        omega
      rw [List.length_erase_of_mem e] at h1
      have := List.length_pos_of_mem e
      omega
    · have := nodup_le n l nd fun x hx => by
        have := h x hx
        have : x ≠ n := fun z => e (z ▸ hx)
        omega
      omega
theorem Tree.size {ts : List Tie} {n root : Nat} {T : TreeL} (I : Tree ts n root T) : T.length ≤ n := by
  have := nodup_le n (T.map Prod.fst) I.nd fun x hx => I.lt x (lookup_mem.mpr hx)
  rwa [List.length_map] at this
structure RW (ts : List Tie) (n root : Nat) (T : TreeL) (W : List Nat) (cur : Nat) (D : List Nat) : Prop where
  tree : Tree ts n root T
  wIn : ∀ v ∈ W, inT T v = true
  curIn : inT T cur = true
  rest : ∀ v, inT T v = true → v ∉ W → v ≠ cur → ∀ k, k < ts.length → tch v (tget ts k) = true → inT T (far (tget ts k) v) = true
  cdone : ∀ k ∈ D, inT T (far (tget ts k) cur) = true
theorem RW.start {ts : List Tie} {n root : Nat} {T : TreeL} {W : List Nat} {cur : Nat} (I : Tree ts n root T) (h : Reach ts T (W ++ [cur])) (hw : ∀ v ∈ W ++ [cur], inT T v = true) : RW ts n root T W cur [] :=
  ⟨I, fun v hv => hw v (List.mem_append.mpr (.inl hv)), hw cur (by simp), fun v h1 h2 h3 k hk ht => h v h1 (by simp [h2, h3]) k hk ht, fun k hk => absurd hk (by simp)⟩
theorem RW.old {ts : List Tie} {n root : Nat} {T : TreeL} {W D : List Nat} {cur k : Nat} (I : RW ts n root T W cur D) (h : inT T (far (tget ts k) cur) = true) : RW ts n root T W cur (D ++ [k]) :=
  ⟨I.tree, I.wIn, I.curIn, I.rest, fun j hj => by
    rcases List.mem_append.mp hj with q | q
    · exact I.cdone j q
    · rw [List.mem_singleton.mp q]; exact h⟩
theorem RW.fresh {ts : List Tie} {n root : Nat} {T : TreeL} {W D : List Nat} {cur k d : Nat} {o : Option Nat} (I : RW ts n root T W cur D) (hk : k < ts.length) (ht : tch cur (tget ts k) = true) (hl : T.lookup cur = some (d, o)) (h : inT T (far (tget ts k) cur) = false) (hn : far (tget ts k) cur < n) :
    RW ts n root (T ++ [(far (tget ts k) cur, d + 1, some k)]) (W ++ [far (tget ts k) cur]) cur (D ++ [k]) := by
  have up : ∀ v, inT T v = true → inT (T ++ [(far (tget ts k) cur, d + 1, some k)]) v = true := fun v hv => by rw [inT_add, hv]; rfl
  have new : inT (T ++ [(far (tget ts k) cur, d + 1, some k)]) (far (tget ts k) cur) = true := by rw [inT_add]; simp
  refine ⟨I.tree.add hk ht hl h hn, fun v hv => ?_, up _ I.curIn, fun v h1 h2 h3 j hj hjt => ?_, fun j hj => ?_⟩
  · rcases List.mem_append.mp hv with q | q
    · exact up v (I.wIn v q)
    · rw [List.mem_singleton.mp q]; exact new
  · rw [List.mem_append, List.mem_singleton] at h2
    rw [inT_add] at h1
    rcases Bool.or_eq_true_iff.mp h1 with q | q
    · exact up _ (I.rest v q (fun z => h2 (.inl z)) h3 j hj hjt)
    · exact absurd (of_decide_eq_true q) (fun z => h2 (.inr z))
  · rcases List.mem_append.mp hj with q | q
    · exact up _ (I.cdone j q)
    · rw [List.mem_singleton.mp q]; exact new
theorem RW.done {ts : List Tie} {n root : Nat} {T : TreeL} {W : List Nat} {cur : Nat} (I : RW ts n root T W cur (tiesAt cur ts)) : Reach ts T W := fun v h1 h2 k hk ht => by
  by_cases e : v = cur
  · subst e
    exact I.cdone k (mem_tiesAt.mpr ⟨hk, ht⟩)
  · exact I.rest v h1 h2 e k hk ht
theorem far_lt {n : Nat} {ts : List Tie} (ok : Ok n ts) {k v : Nat} (hk : k < ts.length) : far (tget ts k) v < n := by
  have := ok.get hk
  unfold far
  split <;> omega
end TH
namespace TH
/-! ### degrees -/
def deg (v : Nat) (ts : List Tie) : Nat := (tiesAt v ts).length
def barsTwo (part : List Nat) (ts : List Tie) : Bool := part.all (fun v => decide (deg v ts % 2 = 0)) && decide ((part.map fun v => deg v ts).sum / 2 % 2 = 1)
theorem deg_cnt (v : Nat) (ts : List Tie) : deg v ts = cnt (fun k => tch v (tget ts k)) ts.length := cnt_filter
def nsum (f : Nat → Nat) : Nat → Nat
  | 0 => 0
  | n + 1 => nsum f n + f n
theorem nsum_add {f g : Nat → Nat} : ∀ n, nsum (fun v => f v + g v) n = nsum f n + nsum g n
  | 0 => rfl
  | n + 1 => by simp only [nsum, nsum_add n]; omega
theorem nsum_congr {f g : Nat → Nat} : ∀ {n}, (∀ v, v < n → f v = g v) → nsum f n = nsum g n
  | 0, _ => rfl
  | n + 1, h => by simp only [nsum, nsum_congr (n := n) fun v hv => h v (by omega), h n (by omega)]
theorem nsum_zero {f : Nat → Nat} : ∀ {n}, (∀ v, v < n → f v = 0) → nsum f n = 0
  | 0, _ => rfl
  | n + 1, h => by simp only [nsum, nsum_zero (n := n) fun v hv => h v (by omega), h n (by omega)]
theorem nsum_one {a : Nat} : ∀ {n}, a < n → nsum (fun v => if v = a then 1 else 0) n = 1
  | 0, h => absurd h (by omega)
  | n + 1, h => by
    simp only [nsum]
    by_cases e : n = a
    · subst e
      rw [nsum_zero fun v hv => by rw [if_neg (by omega)], if_pos rfl]
    · rw [nsum_one (n := n) (by omega), if_neg e]
theorem nsum_tch {n : Nat} {t : Tie} (h : t.1 < t.2) (h2 : t.2 < n) : nsum (fun v => if tch v t = true then 1 else 0) n = 2 := by
  have e : nsum (fun v => if tch v t = true then 1 else 0) n = nsum (fun v => (if v = t.1 then 1 else 0) + (if v = t.2 then 1 else 0)) n := by
    refine nsum_congr fun v _ => ?_
    by_cases q : tch v t = true
    · rw [if_pos q]
      rw [tch_iff] at q
      split <;> split <;> omega
    · rw [if_neg q]
      rw [tch_iff] at q
      rw [if_neg (by omega), if_neg (by omega)]
  rw [e, nsum_add, nsum_one (by omega), nsum_one h2]
theorem cnt_split {p : Nat → Bool} {a : Nat} : ∀ {b : Nat}, cnt p (a + b) = cnt p a + cnt (fun k => p (a + k)) b
  | 0 => rfl
  | b + 1 => by
    show cnt p (a + b) + (if p (a + b) = true then 1 else 0) = cnt p a + (cnt (fun k => p (a + k)) b + (if p (a + b) = true then 1 else 0))
    rw [cnt_split (b := b)]
    omega
/-- double counting, for the ties that c picks at one end (and so at both) -/
theorem handshake {n : Nat} {ts : List Tie} (ok : Ok n ts) {c : Nat → Bool} (hc : Closed ts c) : ∀ m, m ≤ ts.length → nsum (fun v => if c v = true then cnt (fun k => tch v (tget ts k)) m else 0) n = 2 * cnt (fun k => c (tget ts k).1) m
  | 0, _ => nsum_zero fun v _ => by split <;> rfl
  | m + 1, h => by
    have ih := handshake ok hc m (by omega)
    have hm := ok.get (k := m) (by omega)
    have hcm := hc _ (tget_mem (k := m) (by omega))
    have e : nsum (fun v => if c v = true then cnt (fun k => tch v (tget ts k)) (m + 1) else 0) n = nsum (fun v => (if c v = true then cnt (fun k => tch v (tget ts k)) m else 0) + (if c (tget ts m).1 = true then (if tch v (tget ts m) = true then 1 else 0) else 0)) n := by
      refine nsum_congr fun v _ => ?_
      simp only [cnt]
      by_cases q : tch v (tget ts m) = true
      · have ev : c v = c (tget ts m).1 := by
          rw [tch_iff] at q
          rcases q with q | q
          · rw [q]
          · rw [← q, hcm]
        rw [ev]
        cases hct : c (tget ts m).1 <;> simp [q]
      · have q' : tch v (tget ts m) = false := by simpa using q
        cases hcv : c v <;> cases hct : c (tget ts m).1 <;> simp [q']
    rw [e, nsum_add, ih]
    simp only [cnt]
    by_cases hct : c (tget ts m).1 = true
    · have := nsum_tch hm.1 hm.2
      simp only [hct, if_true]
      rw [this]
      omega
    · rw [nsum_zero (f := fun v => if c (tget ts m).1 = true then (if tch v (tget ts m) = true then 1 else 0) else 0) fun v _ => if_neg hct, if_neg hct]
      omega
/-! ### the odd places' ends -/
def oddUpto (n : Nat) (ts : List Tie) (i : Nat) : List Tie := ((List.range i).filter fun v => decide (deg v ts % 2 = 1)).map fun v => (v, n)
def oddEnds (n : Nat) (ts : List Tie) : List Tie := oddUpto n ts n
theorem oddUpto_succ (n : Nat) (ts : List Tie) (i : Nat) : oddUpto n ts (i + 1) = if decide (deg i ts % 2 = 1) = true then oddUpto n ts i ++ [(i, n)] else oddUpto n ts i := by
  unfold oddUpto
  rw [List.range_succ, List.filter_append, List.map_append, List.filter_cons]
  cases h : decide (deg i ts % 2 = 1) <;> simp
theorem oddUpto_len (n : Nat) (ts : List Tie) (i : Nat) : (oddUpto n ts i).length ≤ i := by
  unfold oddUpto
  rw [List.length_map]
  have := List.length_filter_le (fun v => decide (deg v ts % 2 = 1)) (List.range i)
  rwa [List.length_range] at this
def joined (n : Nat) (ts : List Tie) : List Tie := ts ++ oddEnds n ts
theorem joined_ok {n : Nat} {ts : List Tie} (ok : Ok n ts) : Ok (n + 1) (joined n ts) := fun t ht => by
  rcases List.mem_append.mp ht with h | h
  · have := ok t h
    omega
  · unfold oddEnds oddUpto at h
    rw [List.mem_map] at h
    obtain ⟨v, hv, rfl⟩ := h
    have := (List.mem_filter.mp hv).1
    rw [List.mem_range] at this
    exact ⟨this, Nat.lt_succ_self n⟩
theorem cnt_list {α : Type} (p : α → Bool) (d : α) : ∀ l : List α, cnt (fun k => p (l.getD k d)) l.length = l.countP p := by
  intro l
  induction l with
  | nil => rfl
  | cons a l ih =>
    rw [List.length_cons, Nat.add_comm, cnt_split, List.countP_cons, Nat.add_comm]
    have e : cnt (fun k => p ((a :: l).getD (1 + k) d)) l.length = l.countP p := by
      rw [← ih]
      refine cnt_congr fun k _ => ?_
      rw [Nat.add_comm]
      rfl
    rw [e]
    simp [cnt]
theorem deg_countP (v : Nat) (ts : List Tie) : deg v ts = ts.countP (tch v) := by
  rw [deg_cnt]
  exact cnt_list (tch v) (0, 0) ts
theorem oddUpto_at {n : Nat} {ts : List Tie} {v : Nat} (hv : v < n) : ∀ i, i ≤ n → (oddUpto n ts i).countP (tch v) = if v < i then deg v ts % 2 else 0
  | 0, _ => rfl
  | i + 1, h => by
    rw [oddUpto_succ]
    have ih := oddUpto_at (ts := ts) hv i (by omega)
    by_cases o : deg i ts % 2 = 1
    · rw [if_pos (decide_eq_true o), List.countP_append, List.countP_singleton, ih]
      by_cases e : v = i
      · subst e
        have ht : tch v (v, n) = true := by rw [tch_iff]; exact .inl rfl
        rw [if_neg (Nat.lt_irrefl v), if_pos ht, if_pos (Nat.lt_succ_self v)]
        omega
      · rw [if_neg (show ¬ tch v (i, n) = true from by rw [tch_iff]; simp; omega)]
        split <;> split <;> omega
    · rw [if_neg (by simpa using o), ih]
      by_cases e : v = i
      · subst e
        rw [if_neg (by omega), if_pos (by omega)]
        omega
      · split <;> split <;> omega
theorem oddUpto_top {n : Nat} {ts : List Tie} : ∀ i, (oddUpto n ts i).countP (tch n) = nsum (fun v => deg v ts % 2) i
  | 0 => rfl
  | i + 1 => by
    rw [oddUpto_succ]
    simp only [nsum]
    by_cases o : deg i ts % 2 = 1
    · rw [if_pos (decide_eq_true o), List.countP_append, List.countP_singleton, oddUpto_top i, if_pos (by rw [tch_iff]; exact .inr rfl), o]
    · rw [if_neg (by simpa using o), oddUpto_top i]
      omega
theorem nsum_mod (f : Nat → Nat) : ∀ n, nsum (fun v => f v % 2) n % 2 = nsum f n % 2
  | 0 => rfl
  | n + 1 => by
    have := nsum_mod f n
    simp only [nsum]
    omega
theorem deg_joined {n : Nat} {ts : List Tie} {v : Nat} (hv : v < n) : deg v (joined n ts) = deg v ts + deg v ts % 2 := by
  rw [deg_countP, joined, List.countP_append, ← deg_countP]
  unfold oddEnds
  rw [oddUpto_at hv n (Nat.le_refl _), if_pos hv]
theorem deg_out {n : Nat} {ts : List Tie} (ok : Ok n ts) {v : Nat} (hv : n ≤ v) : deg v ts = 0 := by
  rw [deg_countP, List.countP_eq_zero]
  intro t ht h
  have := ok t ht
  rw [tch_iff] at h
  omega
theorem deg_joined_even {n : Nat} {ts : List Tie} (ok : Ok n ts) (v : Nat) : deg v (joined n ts) % 2 = 0 := by
  by_cases hv : v < n
  · rw [deg_joined hv]; omega
  · by_cases e : v = n
    · subst e
      rw [deg_countP, joined, List.countP_append, ← deg_countP, deg_out ok (Nat.le_refl _)]
      unfold oddEnds
      rw [oddUpto_top, Nat.zero_add, nsum_mod]
      have h := handshake ok (c := fun _ => true) (fun _ _ => rfl) ts.length (Nat.le_refl _)
      have e : nsum (fun v => deg v ts) v = nsum (fun w => if (fun _ => true) w = true then cnt (fun k => tch w (tget ts k)) ts.length else 0) v := nsum_congr fun w _ => by rw [if_pos rfl]; exact deg_cnt w ts
      rw [e, h]
      omega
    · rw [deg_out (joined_ok ok) (by omega)]
/-! ### between the rounds -/
structure BInv (N : Nat) (ts : List Tie) (rows : List (List Nat)) (used : List Bool) : Prop where
  len : used.length = ts.length
  nrows : rows.length = N
  rowOk : ∀ v k, k ∈ rowAt rows v → k < ts.length ∧ tch v (tget ts k) = true
  rowAll : ∀ v, v < N → ∀ k, k < ts.length → tch v (tget ts k) = true → ug used k = false → k ∈ rowAt rows v
  even : ∀ v, udeg ts used v % 2 = 0
theorem BInv.start {N : Nat} {ts : List Tie} {rows : List (List Nat)} {used : List Bool} (B : BInv N ts rows used) {start : Nat} (hs : start < N) : RInv N ts start used start ⟨rows, used, [(start, none)], []⟩ := by
  refine ⟨B.len, B.nrows, B.rowOk, B.rowAll, rfl, fun k _ => by simp, by simp, fun k hk => by simp at hk, fun v => ?_, ⟨rfl, rfl⟩, fun p hp => ?_, ⟨fun k hk => by simp at hk, .inr ⟨(start, none), List.mem_cons_self, rfl⟩⟩, fun c _ => ⟨fun p hp => ?_, fun k hk => by simp at hk⟩⟩
  · rw [B.even v]
    split <;> rfl
  · rw [List.mem_singleton.mp hp]; exact hs
  · rw [List.mem_singleton.mp hp]
/-- what a round has done -/
structure Rounded (N : Nat) (ts : List Tie) (start : Nat) (u0 : List Bool) (rows : List (List Nat)) (used : List Bool) (done : List Nat) : Prop where
  b : BInv N ts rows used
  use : ∀ k, k < ts.length → (ug used k = true ↔ (ug u0 k = true ∨ k ∈ done))
  nd : done.Nodup
  new : ∀ k, k ∈ done → k < ts.length ∧ ug u0 k = false
  walk : IsWalk ts start done start
  fin : (∀ k ∈ done, ∀ w, tch w (tget ts k) = true → udeg ts used w = 0) ∧ udeg ts used start = 0
  clo : ∀ c, Closed ts c → ∀ k ∈ done, c (tget ts k).1 = c start
theorem BInv.round {N : Nat} {ts : List Tie} (ok : Ok N ts) {rows : List (List Nat)} {used : List Bool} (B : BInv N ts rows used) {start : Nat} (hs : start < N) :
    Rounded N ts start used (roundRun ts ⟨rows, used, [(start, none)], []⟩).rows (roundRun ts ⟨rows, used, [(start, none)], []⟩).used (roundRun ts ⟨rows, used, [(start, none)], []⟩).done := by
  obtain ⟨cur, I⟩ := RInv.run ok (rMeas ⟨rows, used, [(start, none)], []⟩) (B.start hs)
  have hp : (roundRun ts ⟨rows, used, [(start, none)], []⟩).path = [] := roundRun_path ts _
  have I : RInv N ts start used cur (roundRun ts ⟨rows, used, [(start, none)], []⟩) := I
  generalize roundRun ts ⟨rows, used, [(start, none)], []⟩ = s at hp I
  obtain ⟨rows', used', path, done⟩ := s
  have hp : path = [] := hp
  subst hp
  obtain ⟨e, ev⟩ : cur = start ∧ ∀ v, udeg ts used' v % 2 = 0 := I.par
  subst e
  have np : ∀ w, ¬ onPath ⟨rows', used', [], done⟩ w := fun w ⟨p, hp, _⟩ => by simp at hp
  refine ⟨⟨I.len, I.nrows, I.rowOk, I.rowAll, ev⟩, fun k hk => ?_, ?_, fun k hk => I.new k (List.mem_append.mpr (.inl hk)), I.walk, ⟨fun k hk w hw => (I.fin.1 k hk w hw).resolve_right (np w), I.fin.2.resolve_right (np _)⟩, fun c hc => (I.clo c hc).2⟩
  · have := I.used k hk
    simpa using this
  · have := I.nd
    simpa using this
/-! ### the whole -/
def paint (cs : List Nat) (ds : List Nat) : List Nat := (List.range ds.length).foldl (fun cs k => cs.set (ds.getD k 0) (k % 2)) cs
def rows0 (ts : List Tie) (N : Nat) : List (List Nat) := (List.range N).map fun v => (tiesAt v ts).reverse
structure CS where
  rows : List (List Nat)
  used : List Bool
  cols : List Nat
def colStep (ts : List Tie) (s : CS) (start : Nat) : CS :=
  let r := roundRun ts ⟨s.rows, s.used, [(start, none)], []⟩
  ⟨r.rows, r.used, paint s.cols r.done⟩
def cs0 (ts : List Tie) (N : Nat) : CS := ⟨rows0 ts N, List.replicate ts.length false, List.replicate ts.length 0⟩
def colRun (ts : List Tie) (N : Nat) (starts : List Nat) : CS := starts.foldl (colStep ts) (cs0 ts N)
def twoColours (n : Nat) (ts : List Tie) : List Nat := (colRun (joined n ts) (n + 1) (n :: List.range n)).cols.take ts.length
theorem BInv.zero {N : Nat} {ts : List Tie} (ev : ∀ v, deg v ts % 2 = 0) : BInv N ts (cs0 ts N).rows (cs0 ts N).used := by
  have hu : ∀ k, k < ts.length → ug (List.replicate ts.length false) k = false := fun k hk => by
    unfold ug
    rw [List.getD_eq_getElem?_getD, List.getElem?_replicate, if_pos hk]
    rfl
  have hr : ∀ v, rowAt (rows0 ts N) v = if v < N then (tiesAt v ts).reverse else [] := fun v => by
    unfold rowAt rows0
    rw [List.getD_eq_getElem?_getD, List.getElem?_map]
    by_cases h : v < N
    · rw [List.getElem?_range h, if_pos h]; rfl
    · rw [List.getElem?_eq_none (by rw [List.length_range]; omega), if_neg h]; rfl
  refine ⟨List.length_replicate, by show (rows0 ts N).length = N; simp [rows0], fun v k hk => ?_, fun v hv k hk ht _ => ?_, fun v => ?_⟩
  · have hk : k ∈ rowAt (rows0 ts N) v := hk
    rw [hr] at hk
    split at hk
    · exact mem_tiesAt.mp (List.mem_reverse.mp hk)
    · cases hk
  · show k ∈ rowAt (rows0 ts N) v
    rw [hr, if_pos hv]
    exact List.mem_reverse.mpr (mem_tiesAt.mpr ⟨hk, ht⟩)
  · have e : udeg ts (cs0 ts N).used v = deg v ts := by
      rw [deg_cnt]
      unfold udeg
      refine cnt_congr fun k hk => ?_
      show (tch v (tget ts k) && !ug (List.replicate ts.length false) k) = _
      rw [hu k hk]
      simp
    rw [e]
    exact ev v
theorem paint_len (cs ds : List Nat) : (paint cs ds).length = cs.length := by
  unfold paint
  suffices h : ∀ (l : List Nat) (cs : List Nat), (l.foldl (fun cs k => cs.set (ds.getD k 0) (k % 2)) cs).length = cs.length from h _ _
  intro l
  induction l with
  | nil => intro cs; rfl
  | cons a r ih => intro cs; rw [List.foldl_cons, ih, List.length_set]
theorem colRun_b {N : Nat} {ts : List Tie} (ok : Ok N ts) (ev : ∀ v, deg v ts % 2 = 0) : ∀ (l : List Nat), (∀ s ∈ l, s < N) → ∀ s : CS, BInv N ts s.rows s.used → s.cols.length = ts.length → BInv N ts (l.foldl (colStep ts) s).rows (l.foldl (colStep ts) s).used ∧ (l.foldl (colStep ts) s).cols.length = ts.length
  | [], _, s, B, hc => ⟨B, hc⟩
  | a :: r, h, s, B, hc => by
    rw [List.foldl_cons]
    exact colRun_b ok ev r (fun x hx => h x (List.mem_cons_of_mem _ hx)) (colStep ts s a) (B.round ok (h a List.mem_cons_self)).b (by show (paint _ _).length = _; rw [paint_len, hc])
end TH
namespace TH
/-! ### spots -/
abbrev Spot := Nat × Nat
def cntB (ts : List Tie) (v k : Nat) : Nat := cnt (fun j => tch v (tget ts j)) k
def spL (ts : List Tie) (m k : Nat) : Spot := ((tget ts k).1, cntB ts (tget ts k).1 k / m)
def spH (ts : List Tie) (m k : Nat) : Spot := ((tget ts k).2, cntB ts (tget ts k).2 k / m)
def hasS (ts : List Tie) (m : Nat) (s : Spot) (k : Nat) : Bool := decide (spL ts m k = s) || decide (spH ts m k = s)
def rowOf (ts : List Tie) (m : Nat) (s : Spot) (i : Nat) : List Nat := (List.range i).filter (hasS ts m s)
theorem hasS_iff {ts : List Tie} {m k : Nat} {s : Spot} : hasS ts m s k = true ↔ spL ts m k = s ∨ spH ts m k = s := by
  unfold hasS
  rw [Bool.or_eq_true, decide_eq_true_iff, decide_eq_true_iff]
theorem hasS_at {ts : List Tie} {m k v q : Nat} : hasS ts m (v, q) k = (tch v (tget ts k) && decide (cntB ts v k / m = q)) := by
  unfold hasS spL spH tch
  by_cases h1 : (tget ts k).1 = v
  · subst h1
    by_cases h2 : cntB ts (tget ts k).1 k / m = q
    · simp [h2]
    · simp only [h2, decide_false, Bool.and_false]
      simp only [Prod.mk.injEq, h2, and_false, decide_false, Bool.false_or]
      rw [decide_eq_false]
      rintro ⟨h3, h4⟩
      rw [h3] at h4
      exact h2 h4
  · by_cases h3 : (tget ts k).2 = v
    · subst h3
      simp [h1]
    · simp [h1, h3]
theorem row_size {ts : List Tie} {m v q : Nat} (hm : 0 < m) : ∀ K, cnt (hasS ts m (v, q)) K = min (cntB ts v K) (q * m + m) - min (cntB ts v K) (q * m)
  | 0 => by simp [cnt, cntB]
  | K + 1 => by
    have ih := row_size (ts := ts) (v := v) (q := q) hm K
    have hd : cntB ts v K / m = q ↔ q * m ≤ cntB ts v K ∧ cntB ts v K < q * m + m := by
      rw [Nat.div_eq_iff hm]
      constructor
      · intro h; omega
      · intro h; omega
    have e : cntB ts v (K + 1) = cntB ts v K + (if tch v (tget ts K) = true then 1 else 0) := rfl
    show cnt (hasS ts m (v, q)) K + (if hasS ts m (v, q) K = true then 1 else 0) = _
    rw [ih, hasS_at, e]
    by_cases t : tch v (tget ts K) = true
    · rw [t, Bool.true_and, if_pos rfl]
      by_cases h : cntB ts v K / m = q
      · rw [if_pos (decide_eq_true h)]
        have := hd.mp h
        omega
      · rw [if_neg (by simpa using h)]
        have : ¬ (q * m ≤ cntB ts v K ∧ cntB ts v K < q * m + m) := fun z => h (hd.mpr z)
        omega
    · have t' : tch v (tget ts K) = false := by simpa using t
      rw [t', Bool.false_and]
      simp only [Bool.false_eq_true, if_false]
      omega
theorem row_le {ts : List Tie} {m : Nat} (hm : 0 < m) (s : Spot) (K : Nat) : (rowOf ts m s K).length ≤ m := by
  unfold rowOf
  rw [cnt_filter]
  obtain ⟨v, q⟩ := s
  rw [row_size hm]
  omega
def farS (ts : List Tie) (m k : Nat) (s : Spot) : Spot := if s = spL ts m k then spH ts m k else spL ts m k
/-- two sides -/
def Bip (ts : List Tie) (side : Nat → Bool) : Prop := ∀ t ∈ ts, side t.1 ≠ side t.2
theorem Bip.spots {ts : List Tie} {side : Nat → Bool} (b : Bip ts side) {m k : Nat} (hk : k < ts.length) : side (spL ts m k).1 ≠ side (spH ts m k).1 := b _ (tget_mem hk)
theorem spL_ne {n : Nat} {ts : List Tie} (ok : Ok n ts) {m k : Nat} (hk : k < ts.length) : spL ts m k ≠ spH ts m k := fun z => by
  have := (ok.get hk).1
  have : (tget ts k).1 = (tget ts k).2 := congrArg Prod.fst z
  omega
theorem farS_has {ts : List Tie} {m k : Nat} {s : Spot} : hasS ts m (farS ts m k s) k = true := by
  rw [hasS_iff]
  unfold farS
  split
  · exact .inr rfl
  · exact .inl rfl
theorem farS_side {ts : List Tie} {side : Nat → Bool} (b : Bip ts side) {m k : Nat} {s : Spot} (hk : k < ts.length) (h : hasS ts m s k = true) : side (farS ts m k s).1 = !side s.1 := by
  have := b.spots (m := m) hk
  rw [hasS_iff] at h
  unfold farS
  rcases h with h | h
  · rw [if_pos h.symm]
    rw [h] at this
    cases h1 : side s.1 <;> cases h2 : side (spH ts m k).1 <;> simp_all
  · by_cases e : s = spL ts m k
    · rw [← h] at e
      rw [e] at this
      exact absurd rfl this
    · rw [if_neg e]
      rw [h] at this
      cases h1 : side s.1 <;> cases h2 : side (spL ts m k).1 <;> simp_all
theorem two_spots {ts : List Tie} {m k : Nat} {s s' : Spot} (h : hasS ts m s k = true) (h' : hasS ts m s' k = true) : s' = s ∨ s' = farS ts m k s := by
  rw [hasS_iff] at h h'
  unfold farS
  rcases h with h | h
  · rw [if_pos h.symm]
    rcases h' with h' | h'
    · exact .inl (h'.symm.trans h)
    · exact .inr h'.symm
  · by_cases e : s = spL ts m k
    · rw [if_pos e]
      rcases h' with h' | h'
      · exact .inl (h'.symm.trans e.symm)
      · exact .inr h'.symm
    · rw [if_neg e]
      rcases h' with h' | h'
      · exact .inr h'.symm
      · exact .inl (h'.symm.trans h)
/-! ### colours under way -/
abbrev OCols := List (Option Nat)
def cg (cs : OCols) (k : Nat) : Option Nat := cs.getD k none
theorem cg_set {cs : OCols} {k j : Nat} {o : Option Nat} (h : k < cs.length) : cg (cs.set k o) j = if j = k then o else cg cs j := by
  unfold cg
  rw [List.getD_eq_getElem?_getD, List.getD_eq_getElem?_getD, List.getElem?_set]
  by_cases e : j = k
  · subst e
    rw [if_pos rfl, if_pos h, if_pos rfl]; rfl
  · rw [if_neg (fun q => e q.symm), if_neg e]
structure CInv (ts : List Tie) (m : Nat) (cs : OCols) (k : Nat) : Prop where
  len : cs.length = ts.length
  isSet : ∀ j, j < k → ∃ c, cg cs j = Option.some c ∧ c < m
  unset : ∀ j, k ≤ j → cg cs j = Option.none
  proper : ∀ s e f c, e < ts.length → f < ts.length → hasS ts m s e = true → hasS ts m s f = true → cg cs e = Option.some c → cg cs f = Option.some c → e = f
def par2 (a b i : Nat) : Nat := if i % 2 = 0 then a else b
/-- the chain under way -/
structure ChI (ts : List Tie) (m : Nat) (cs : OCols) (a b : Nat) (other : Spot) (ch : List Nat) (s : Spot) : Prop where
  ex : ∃ sp : Nat → Spot, sp 0 = other ∧ sp ch.length = s ∧ ∀ j (h : j < ch.length), ch[j] < ts.length ∧ hasS ts m (sp j) ch[j] = true ∧ sp (j + 1) = farS ts m ch[j] (sp j) ∧ cg cs ch[j] = some (par2 a b j)
  nd : ch.Nodup
/-- what is free at the two spots of the tie -/
structure FreeAt (ts : List Tie) (m : Nat) (cs : OCols) (a b : Nat) (one other : Spot) : Prop where
  a_one : ∀ f, f < ts.length → hasS ts m one f = true → cg cs f ≠ some a
  b_other : ∀ f, f < ts.length → hasS ts m other f = true → cg cs f ≠ some b
section
variable {ts : List Tie} {m : Nat} {cs : OCols} {a b k : Nat} {one other s : Spot} {ch : List Nat} {side : Nat → Bool}
theorem ChI.start : ChI ts m cs a b other [] other := ⟨⟨fun _ => other, rfl, rfl, fun j h => absurd h (by simp)⟩, List.nodup_nil⟩
theorem ChI.sides (B : Bip ts side) {sp : Nat → Spot} (h : ∀ j (h : j < ch.length), ch[j] < ts.length ∧ hasS ts m (sp j) ch[j] = true ∧ sp (j + 1) = farS ts m ch[j] (sp j) ∧ cg cs ch[j] = some (par2 a b j)) :
    ∀ j, j ≤ ch.length → side (sp j).1 = if j % 2 = 0 then side (sp 0).1 else !side (sp 0).1
  | 0, _ => rfl
  | j + 1, hj => by
    obtain ⟨h1, h2, h3, _⟩ := h j (by omega)
    rw [h3, farS_side B h1 h2, ChI.sides B h j (by omega)]
    by_cases e : j % 2 = 0
    · rw [if_pos e, if_neg (by omega)]
    · rw [if_neg e, if_pos (by omega)]
      simp
theorem par2_ne (h : a ≠ b) {i j : Nat} (e : par2 a b i = par2 a b j) : i % 2 = j % 2 := by
  unfold par2 at e
  split at e <;> split at e <;> omega
theorem ChI.snoc (B : Bip ts side) (C : CInv ts m cs k) (F : FreeAt ts m cs a b one other) (I : ChI ts m cs a b other ch s) {f : Nat} (hf : f < ts.length) (hs : hasS ts m s f = true) (hc : cg cs f = some (par2 a b ch.length)) :
    ChI ts m cs a b other (ch ++ [f]) (farS ts m f s) := by
  obtain ⟨⟨sp, h0, he, h⟩, nd⟩ := I
  have hnew : f ∉ ch := by
    intro hm
    obtain ⟨j, hj, ej⟩ := List.getElem_of_mem hm
    obtain ⟨q1, q2, q3, q4⟩ := h j hj
    rw [ej] at q1 q2 q3 q4
    have hab : a ≠ b := fun z => by
      obtain ⟨r1, r2, _, r4⟩ := h 0 (by omega)
      rw [h0] at r2
      exact F.b_other _ r1 r2 (by rw [r4, z]; rfl)
    have hpar : ch.length % 2 = j % 2 := by
      rw [hc] at q4
      exact par2_ne hab (Option.some.inj q4)
    have sd := ChI.sides B h
    have s1 := sd j (by omega)
    have s2 := sd ch.length (Nat.le_refl _)
    have s3 := sd (j + 1) (by omega)
    rw [← he] at hs
    have hsp : sp ch.length = sp j := by
      rcases two_spots q2 hs with z | z
      · exact z
      · rw [← q3] at z
        rw [z] at s2
        rw [s2] at s3
        exfalso
        by_cases e : j % 2 = 0
        · rw [if_pos (by omega), if_neg (by omega)] at s3
          exact absurd s3 (by cases side (sp 0).1 <;> decide)
        · rw [if_neg (by omega), if_pos (by omega)] at s3
          exact absurd s3 (by cases side (sp 0).1 <;> decide)
    obtain ⟨r1, r2, r3, r4⟩ := h (ch.length - 1) (by omega)
    have hlast : hasS ts m (sp ch.length) ch[ch.length - 1] = true := by
      have e1 : ch.length - 1 + 1 = ch.length := by omega
      rw [e1] at r3
      rw [r3]
      exact farS_has
    by_cases j0 : j = 0
    · subst j0
      rw [hsp, h0] at hlast
      refine F.b_other _ r1 hlast ?_
      rw [r4]
      unfold par2
      rw [if_neg (by omega)]
    · obtain ⟨t1, t2, t3, t4⟩ := h (j - 1) (by omega)
      have hprev : hasS ts m (sp j) ch[j - 1] = true := by
        have e1 : j - 1 + 1 = j := by omega
        rw [e1] at t3
        rw [t3]
        exact farS_has
      rw [hsp] at hlast
      have e2 : par2 a b (ch.length - 1) = par2 a b (j - 1) := by
        unfold par2
        by_cases z : j % 2 = 0
        · rw [if_neg (by omega), if_neg (by omega)]
        · rw [if_pos (by omega), if_pos (by omega)]
      have := C.proper _ _ _ _ r1 t1 hlast hprev (by rw [r4]) (by rw [t4, e2])
      have := (List.getElem_inj nd).mp this
      omega
  refine ⟨⟨fun j => if j = ch.length + 1 then farS ts m f s else sp j, ?_, ?_, ?_⟩, ?_⟩
  · show (if 0 = ch.length + 1 then _ else sp 0) = other
    rw [if_neg (by omega)]; exact h0
  · show (if (ch ++ [f]).length = ch.length + 1 then _ else _) = _
    rw [if_pos (by simp)]
  · intro j hj
    rw [List.length_append, List.length_singleton] at hj
    by_cases e : j < ch.length
    · have e1 : (ch ++ [f])[j]'(by rw [List.length_append, List.length_singleton]; exact hj) = ch[j] := List.getElem_append_left e
      rw [e1]
      show _ ∧ hasS ts m (if j = ch.length + 1 then _ else sp j) _ = true ∧ (if j + 1 = ch.length + 1 then _ else sp (j + 1)) = farS ts m _ (if j = ch.length + 1 then _ else sp j) ∧ _
      rw [if_neg (by omega), if_neg (by omega)]
      exact h j e
    · have ej : j = ch.length := by omega
      subst ej
      have e1 : (ch ++ [f])[ch.length]'(by rw [List.length_append, List.length_singleton]; exact hj) = f := by simp
      rw [e1]
      show _ ∧ hasS ts m (if ch.length = ch.length + 1 then _ else sp ch.length) _ = true ∧ (if ch.length + 1 = ch.length + 1 then _ else sp (ch.length + 1)) = farS ts m _ (if ch.length = ch.length + 1 then _ else sp ch.length) ∧ _
      rw [if_neg (by omega), if_pos rfl, he]
      exact ⟨hf, hs, rfl, hc⟩
  · rw [List.nodup_append]
    refine ⟨nd, by simp, fun x hx y hy => ?_⟩
    rw [List.mem_singleton.mp hy]
    exact fun z => hnew (z ▸ hx)
/-- the chain at its end -/
structure ChE (ts : List Tie) (m : Nat) (cs : OCols) (a b : Nat) (one other : Spot) (ch : List Nat) : Prop where
  nd : ch.Nodup
  col : ∀ e ∈ ch, e < ts.length ∧ (cg cs e = some a ∨ cg cs e = some b)
  clo : ∀ s e f, e ∈ ch → f < ts.length → hasS ts m s e = true → hasS ts m s f = true → (cg cs f = some a ∨ cg cs f = some b) → cg cs f ≠ cg cs e → f ∈ ch
  noOne : ∀ e ∈ ch, hasS ts m one e = false
  other : ∀ e, e < ts.length → hasS ts m other e = true → cg cs e = some a → e ∈ ch
theorem par2_or (i : Nat) : par2 a b i = a ∨ par2 a b i = b := by
  unfold par2
  split
  · exact .inl rfl
  · exact .inr rfl
theorem ChI.done (B : Bip ts side) (C : CInv ts m cs k) (F : FreeAt ts m cs a b one other) (hso : side one.1 = !side other.1) (I : ChI ts m cs a b other ch s)
    (hend : ∀ f, f < ts.length → hasS ts m s f = true → cg cs f ≠ some (par2 a b ch.length)) : ChE ts m cs a b one other ch := by
  obtain ⟨⟨sp, h0, he, h⟩, nd⟩ := I
  have far : ∀ j (hj : j < ch.length), hasS ts m (sp (j + 1)) ch[j] = true := fun j hj => by
    obtain ⟨_, _, r3, _⟩ := h j hj
    rw [r3]; exact farS_has
  refine ⟨nd, fun e hm => ?_, fun s' e f hm hf hse hsf hcf hne => ?_, fun e hm => ?_, fun e hel hs hc => ?_⟩
  · obtain ⟨j, hj, ej⟩ := List.getElem_of_mem hm
    obtain ⟨q1, _, _, q4⟩ := h j hj
    rw [ej] at q1 q4
    refine ⟨q1, ?_⟩
    rcases par2_or (a := a) (b := b) j with z | z
    · exact .inl (by rw [q4, z])
    · exact .inr (by rw [q4, z])
  · obtain ⟨j, hj, ej⟩ := List.getElem_of_mem hm
    obtain ⟨q1, q2, q3, q4⟩ := h j hj
    rw [ej] at q1 q2 q3 q4
    have hcf2 : cg cs f = some (par2 a b (j + 1)) := by
      rw [q4] at hne
      unfold par2 at hne ⊢
      by_cases z : j % 2 = 0
      · rw [if_pos z] at hne
        rw [if_neg (by omega)]
        exact hcf.resolve_left hne
      · rw [if_neg z] at hne
        rw [if_pos (by omega)]
        exact hcf.resolve_right hne
    rcases two_spots q2 hse with z | z
    · subst z
      by_cases j0 : j = 0
      · subst j0
        rw [h0] at hsf
        exfalso
        refine F.b_other f hf hsf ?_
        rw [hcf2]
        rfl
      · obtain ⟨t1, t2, t3, t4⟩ := h (j - 1) (by omega)
        have hp := far (j - 1) (by omega)
        rw [show j - 1 + 1 = j from by omega] at hp
        have e2 : par2 a b (j - 1) = par2 a b (j + 1) := by
          unfold par2
          by_cases z : j % 2 = 0
          · rw [if_neg (by omega), if_neg (by omega)]
          · rw [if_pos (by omega), if_pos (by omega)]
        have := C.proper _ _ _ _ hf t1 hsf hp hcf2 (by rw [t4, e2])
        rw [this]
        exact List.getElem_mem _
    · rw [← q3] at z
      subst z
      by_cases jl : j + 1 = ch.length
      · exfalso
        rw [jl, he] at hsf
        exact hend f hf hsf (by rw [hcf2, jl])
      · obtain ⟨t1, t2, t3, t4⟩ := h (j + 1) (by omega)
        have := C.proper _ _ _ _ hf t1 hsf t2 hcf2 t4
        rw [this]
        exact List.getElem_mem _
  · obtain ⟨j, hj, ej⟩ := List.getElem_of_mem hm
    obtain ⟨q1, q2, q3, q4⟩ := h j hj
    rw [ej] at q1 q2 q3 q4
    cases hone : hasS ts m one e with
    | false => rfl
    | true =>
      exfalso
      have sd := ChI.sides B h
      have key : ∀ p, p ≤ ch.length → p ≤ j + 1 → sp p = one → False := fun p hp1 hp2 hp => by
        have s1 := sd p hp1
        rw [hp, h0, hso] at s1
        by_cases z : p % 2 = 0
        · rw [if_pos z] at s1
          exact absurd s1 (by cases side other.1 <;> decide)
        · obtain ⟨t1, t2, t3, t4⟩ := h (p - 1) (by omega)
          have hp3 := far (p - 1) (by omega)
          rw [show p - 1 + 1 = p from by omega, hp] at hp3
          refine F.a_one _ t1 hp3 ?_
          rw [t4]
          unfold par2
          rw [if_pos (by omega)]
      rcases two_spots q2 hone with z | z
      · exact key j (by omega) (by omega) z.symm
      · rw [← q3] at z
        exact key (j + 1) (by omega) (by omega) z.symm
  · by_cases c0 : ch.length = 0
    · exfalso
      have hse : other = s := by rw [← h0, ← he, c0]
      rw [hse] at hs
      exact hend e hel hs (by rw [hc, c0]; rfl)
    · obtain ⟨t1, t2, t3, t4⟩ := h 0 (by omega)
      rw [h0] at t2
      have := C.proper _ _ _ _ hel t1 hs t2 hc (by rw [t4]; rfl)
      rw [this]
      exact List.getElem_mem _
/-- the chain's two colours exchanged -/
def swapC (a b : Nat) (o : Option Nat) : Option Nat := if o = some a then some b else some a
theorem CInv.next (C : CInv ts m cs k) (hk : k < ts.length) (F : FreeAt ts m cs a b (spL ts m k) (spH ts m k)) (E : ChE ts m cs a b (spL ts m k) (spH ts m k) ch) (ha : a < m) (hb : b < m) {cs1 cs' : OCols} (hl1 : cs1.length = cs.length)
    (h1 : ∀ j, cg cs1 j = if j ∈ ch then swapC a b (cg cs j) else cg cs j) (he : cs' = cs1.set k (some a)) : CInv ts m cs' (k + 1) := by
  have hlen := C.len
  have hk1 : k < cs1.length := by omega
  have hcs : ∀ j, cg cs' j = if j = k then some a else if j ∈ ch then swapC a b (cg cs j) else cg cs j := fun j => by
    rw [he, cg_set hk1]
    split
    · rfl
    · exact h1 j
  have hkc : k ∉ ch := fun z => by
    have := (E.col k z).2
    rw [C.unset k (Nat.le_refl _)] at this
    rcases this with q | q <;> cases q
  have hsw : ∀ o, o = some a ∨ o = some b → (swapC a b o = some a ∨ swapC a b o = some b) := fun o _ => by
    unfold swapC
    split
    · exact .inr rfl
    · exact .inl rfl
  have hcase : ∀ e f s c, e ∈ ch → f ∉ ch → f ≠ k → e < ts.length → f < ts.length → hasS ts m s e = true → hasS ts m s f = true → swapC a b (cg cs e) = some c → cg cs f = some c → False := fun e f s c he hf hfk hel hfl h2 h3 h4 h5 => by
    refine hf (E.clo s e f he hfl h2 h3 ?_ ?_)
    · rw [h5, ← h4]
      exact hsw _ (E.col e he).2
    · intro z
      rw [h5, ← h4] at z
      unfold swapC at z
      split at z
      · rename_i q
        rw [q] at z
        have ba : b = a := Option.some.inj z
        rcases E.col e he with ⟨_, w | w⟩
        · rw [ba] at h4
          have : hasS ts m s e = true := h2
          -- the two colours are one: then e has it at both, and f too
          have hc : c = a := by
            have := h4
            unfold swapC at this
            rw [if_pos q] at this
            exact (Option.some.inj this).symm
          exact hf (C.proper s f e a hfl hel h3 h2 (by rw [h5, hc]) q ▸ he)
        · have hc : c = a := by
            have := h4
            unfold swapC at this
            rw [if_pos q] at this
            rw [← ba]; exact (Option.some.inj this).symm
          exact hf (C.proper s f e a hfl hel h3 h2 (by rw [h5, hc]) q ▸ he)
      · rename_i q
        exact q z.symm
  have hkcase : ∀ f s, f ≠ k → f < ts.length → hasS ts m s k = true → hasS ts m s f = true → cg cs' f = some a → False := fun f s hfk hfl h2 h3 h4 => by
    rw [hcs, if_neg hfk] at h4
    rw [hasS_iff] at h2
    rcases h2 with z | z
    · rw [← z] at h3
      by_cases hf : f ∈ ch
      · have := E.noOne f hf
        rw [h3] at this
        cases this
      · rw [if_neg hf] at h4
        exact F.a_one f hfl h3 h4
    · rw [← z] at h3
      by_cases hf : f ∈ ch
      · rw [if_pos hf] at h4
        unfold swapC at h4
        split at h4
        · rename_i q
          rw [← h4] at q
          exact F.b_other f hfl h3 q
        · rename_i q
          exact F.b_other f hfl h3 ((E.col f hf).2.resolve_left q)
      · rw [if_neg hf] at h4
        exact hf (E.other f hfl h3 h4)
  refine ⟨by rw [he, List.length_set]; omega, fun j hj => ?_, fun j hj => ?_, fun s e f c hel hfl h2 h3 h4 h5 => ?_⟩
  · rw [hcs]
    by_cases e : j = k
    · rw [if_pos e]; exact ⟨a, rfl, ha⟩
    · rw [if_neg e]
      split
      · rename_i hm
        rcases hsw _ (E.col j hm).2 with q | q
        · exact ⟨a, q, ha⟩
        · exact ⟨b, q, hb⟩
      · exact C.isSet j (by omega)
  · rw [hcs, if_neg (by omega)]
    have hjc : j ∉ ch := fun z => by
      have := (E.col j z).2
      rw [C.unset j (by omega)] at this
      rcases this with q | q <;> cases q
    rw [if_neg hjc]
    exact C.unset j (by omega)
  · by_cases ek : e = k
    · subst ek
      by_cases fk : f = e
      · exact fk.symm
      · rw [hcs, if_pos rfl] at h4
        rw [← h4] at h5
        exact (hkcase f s fk hfl h2 h3 h5).elim
    · by_cases fk : f = k
      · subst fk
        rw [hcs, if_pos rfl] at h5
        rw [← h5] at h4
        exact (hkcase e s ek hel h3 h2 h4).elim
      · rw [hcs, if_neg ek] at h4
        rw [hcs, if_neg fk] at h5
        by_cases he1 : e ∈ ch
        · rw [if_pos he1] at h4
          by_cases hf1 : f ∈ ch
          · rw [if_pos hf1] at h5
            have e1 := (E.col e he1).2
            have e2 := (E.col f hf1).2
            have : cg cs e = cg cs f := by
              unfold swapC at h4 h5
              by_cases q1 : cg cs e = some a
              · rw [if_pos q1] at h4
                by_cases q2 : cg cs f = some a
                · rw [q1, q2]
                · rw [if_neg q2] at h5
                  rw [← h5] at h4
                  rw [q1, e2.resolve_left q2]
                  exact h4.symm
              · rw [if_neg q1] at h4
                by_cases q2 : cg cs f = some a
                · rw [if_pos q2] at h5
                  rw [← h4] at h5
                  rw [q2, e1.resolve_left q1]
                  exact h5
                · rw [e1.resolve_left q1, e2.resolve_left q2]
            rcases e1 with q | q
            · exact C.proper s e f a hel hfl h2 h3 q (by rw [← this]; exact q)
            · exact C.proper s e f b hel hfl h2 h3 q (by rw [← this]; exact q)
          · rw [if_neg hf1] at h5
            exact (hcase e f s c he1 hf1 fk hel hfl h2 h3 h4 h5).elim
        · rw [if_neg he1] at h4
          by_cases hf1 : f ∈ ch
          · rw [if_pos hf1] at h5
            exact (hcase f e s c hf1 he1 ek hfl hel h3 h2 h5 h4).elim
          · rw [if_neg hf1] at h5
            exact C.proper s e f c hel hfl h2 h3 h4 h5
end
end TH
namespace TH
/-! ### evenness out of properness -/
theorem nsum_cnt {P : Nat → Bool} {φ : Nat → Nat} {X : Nat} : ∀ L, (∀ j, j < L → P j = true → φ j < X) → nsum (fun x => cnt (fun j => P j && decide (φ j = x)) L) X = cnt P L
  | 0, _ => nsum_zero fun _ _ => rfl
  | L + 1, h => by
    have ih := nsum_cnt (P := P) (φ := φ) L fun j hj => h j (by omega)
    have e : nsum (fun x => cnt (fun j => P j && decide (φ j = x)) (L + 1)) X = nsum (fun x => cnt (fun j => P j && decide (φ j = x)) L + (if (P L && decide (φ L = x)) = true then 1 else 0)) X := rfl
    rw [e, nsum_add, ih]
    show _ = cnt P L + (if P L = true then 1 else 0)
    congr 1
    cases hp : P L with
    | false => rw [nsum_zero fun x _ => by simp]; simp
    | true =>
      have := nsum_one (h L (by omega) hp)
      rw [if_pos rfl]
      refine Eq.trans (nsum_congr fun x _ => ?_) this
      by_cases q : φ L = x
      · rw [if_pos (by simp [q]), if_pos q.symm]
      · rw [if_neg (by simp [q]), if_neg (fun z => q z.symm)]
theorem nsum_cnt_le {P : Nat → Bool} {φ : Nat → Nat} {X : Nat} : ∀ L, nsum (fun x => cnt (fun j => P j && decide (φ j = x)) L) X ≤ cnt P L
  | 0 => by
    have : nsum (fun x => cnt (fun j => P j && decide (φ j = x)) 0) X = 0 := nsum_zero fun _ _ => rfl
    omega
  | L + 1 => by
    have ih := nsum_cnt_le (P := P) (φ := φ) (X := X) L
    have e : nsum (fun x => cnt (fun j => P j && decide (φ j = x)) (L + 1)) X = nsum (fun x => cnt (fun j => P j && decide (φ j = x)) L + (if (P L && decide (φ L = x)) = true then 1 else 0)) X := rfl
    rw [e, nsum_add]
    show _ ≤ cnt P L + (if P L = true then 1 else 0)
    cases hp : P L with
    | false => rw [nsum_zero (f := fun x => if (false && decide (φ L = x)) = true then 1 else 0) fun x _ => by simp]; simp; exact ih
    | true =>
      rw [if_pos rfl]
      have : nsum (fun x => if (true && decide (φ L = x)) = true then 1 else 0) X ≤ 1 := by
        by_cases q : φ L < X
        · have h1 := nsum_one q
          have h2 : nsum (fun x => if (true && decide (φ L = x)) = true then 1 else 0) X = nsum (fun v => if v = φ L then 1 else 0) X := nsum_congr fun x _ => by
            by_cases z : φ L = x
            · rw [if_pos (by simp [z]), if_pos z.symm]
            · rw [if_neg (by simp [z]), if_neg (fun y => z y.symm)]
          omega
        · rw [nsum_zero fun x hx => by rw [if_neg]; simp; omega]
          exact Nat.zero_le _
      omega
theorem nsum_le {f : Nat → Nat} : ∀ {X}, (∀ x, x < X → f x ≤ 1) → nsum f X ≤ X
  | 0, _ => Nat.le_refl _
  | X + 1, h => by
    have := nsum_le (X := X) fun x hx => h x (by omega)
    have := h X (by omega)
    simp only [nsum]; omega
theorem nsum_ge {f : Nat → Nat} : ∀ {X}, (∀ x, x < X → 1 ≤ f x) → X ≤ nsum f X
  | 0, _ => Nat.le_refl _
  | X + 1, h => by
    have := nsum_ge (X := X) fun x hx => h x (by omega)
    have := h X (by omega)
    simp only [nsum]; omega
theorem nsum_full {f : Nat → Nat} : ∀ {X}, (∀ x, x < X → f x ≤ 1) → nsum f X = X → ∀ x, x < X → f x = 1
  | 0, _, _, x, hx => absurd hx (by omega)
  | X + 1, h, e, x, hx => by
    have h1 := nsum_le (X := X) fun x hx => h x (by omega)
    have h2 := h X (by omega)
    simp only [nsum] at e
    by_cases q : x = X
    · subst q; omega
    · exact nsum_full (X := X) (fun x hx => h x (by omega)) (by omega) x (by omega)
theorem cnt_le_one {p : Nat → Bool} : ∀ {n}, (∀ i j, i < n → j < n → p i = true → p j = true → i = j) → cnt p n ≤ 1
  | 0, _ => Nat.zero_le _
  | n + 1, h => by
    have ih := cnt_le_one (n := n) fun i j hi hj => h i j (by omega) (by omega)
    simp only [cnt]
    by_cases q : p n = true
    · have : cnt p n = 0 := by
        rw [cnt_zero]
        intro k hk
        cases z : p k with
        | false => rfl
        | true => have := h k n (by omega) (by omega) z q; omega
      rw [if_pos q]; omega
    · rw [if_neg q]; omega
theorem cnt_mono {p q : Nat → Bool} : ∀ {n}, (∀ k, k < n → p k = true → q k = true) → cnt p n ≤ cnt q n
  | 0, _ => Nat.le_refl _
  | n + 1, h => by
    have ih := cnt_mono (n := n) fun k hk => h k (by omega)
    have := h n (by omega)
    simp only [cnt]
    cases h1 : p n with
    | false => simp; omega
    | true => rw [this h1]; simp; omega
def cc (ts : List Tie) (cs : OCols) (v c : Nat) : Nat := cnt (fun j => tch v (tget ts j) && decide (cg cs j = some c)) ts.length
theorem cnt_pre {p : Nat → Bool} : ∀ {a b : Nat}, a ≤ b → cnt p a ≤ cnt p b
  | a, b, h => by
    obtain ⟨d, rfl⟩ : ∃ d, b = a + d := ⟨b - a, by omega⟩
    rw [cnt_split]; omega
theorem even_of {ts : List Tie} {m : Nat} {cs : OCols} (hm : 0 < m) (C : CInv ts m cs ts.length) (v : Nat) {c : Nat} (hc : c < m) : cntB ts v ts.length / m ≤ cc ts cs v c ∧ cc ts cs v c ≤ cntB ts v ts.length / m + 1 := by
  generalize hQ : cntB ts v ts.length / m = Q
  have one : ∀ q c, cnt (fun j => hasS ts m (v, q) j && decide (cg cs j = some c)) ts.length ≤ 1 := fun q c => cnt_le_one fun i j hi hj h1 h2 => by
    simp only [Bool.and_eq_true, decide_eq_true_eq] at h1 h2
    exact C.proper _ i j c hi hj h1.1 h2.1 h1.2 h2.2
  have full : ∀ q, q < Q → cnt (fun j => hasS ts m (v, q) j && decide (cg cs j = some c)) ts.length = 1 := fun q hq => by
    have hd : (q + 1) * m ≤ cntB ts v ts.length := by
      have h1 : (q + 1) * m ≤ Q * m := Nat.mul_le_mul_right _ hq
      have h2 := Nat.div_mul_le_self (cntB ts v ts.length) m
      rw [hQ] at h2
      omega
    have hsz : cnt (hasS ts m (v, q)) ts.length = m := by
      rw [row_size hm]
      rw [Nat.add_mul] at hd
      omega
    have hsum := nsum_cnt (P := hasS ts m (v, q)) (φ := fun j => (cg cs j).getD 0) (X := m) ts.length fun j hj _ => by
      obtain ⟨c', h1, h2⟩ := C.isSet j hj
      rw [h1]; exact h2
    rw [hsz] at hsum
    have e : ∀ c, cnt (fun j => hasS ts m (v, q) j && decide ((cg cs j).getD 0 = c)) ts.length = cnt (fun j => hasS ts m (v, q) j && decide (cg cs j = some c)) ts.length := fun c => cnt_congr fun j hj => by
      obtain ⟨c', h1, h2⟩ := C.isSet j hj
      rw [h1]
      simp
    have := nsum_full (f := fun x => cnt (fun j => hasS ts m (v, q) j && decide ((cg cs j).getD 0 = x)) ts.length) (fun x _ => by show cnt (fun j => hasS ts m (v, q) j && decide ((cg cs j).getD 0 = x)) ts.length ≤ 1; rw [e]; exact one q x) hsum c hc
    rw [← e]; exact this
  have tot : nsum (fun q => cnt (fun j => hasS ts m (v, q) j && decide (cg cs j = some c)) ts.length) (Q + 1) = cc ts cs v c := by
    unfold cc
    rw [← nsum_cnt (P := fun j => tch v (tget ts j) && decide (cg cs j = some c)) (φ := fun j => cntB ts v j / m) (X := Q + 1) ts.length fun j hj _ => by
      have : cntB ts v j ≤ cntB ts v ts.length := cnt_pre (by omega)
      have := Nat.div_le_div_right (c := m) this
      omega]
    refine nsum_congr fun q _ => cnt_congr fun j _ => ?_
    rw [hasS_at]
    cases tch v (tget ts j) <;> cases decide (cg cs j = some c) <;> simp
  have hs : nsum (fun q => cnt (fun j => hasS ts m (v, q) j && decide (cg cs j = some c)) ts.length) Q = Q := by
    have h1 := nsum_le (f := fun q => cnt (fun j => hasS ts m (v, q) j && decide (cg cs j = some c)) ts.length) (X := Q) fun q _ => one q c
    have h2 := nsum_ge (f := fun q => cnt (fun j => hasS ts m (v, q) j && decide (cg cs j = some c)) ts.length) (X := Q) fun q hq => by show 1 ≤ cnt _ _; rw [full q hq]; exact Nat.le_refl _
    omega
  rw [← tot]
  simp only [nsum, hs]
  have := one Q c
  omega
/-- a colour below which all are taken at a spot where the tie k waits is less than m -/
theorem free_lt {ts : List Tie} {m : Nat} {cs : OCols} {k : Nat} (hm : 0 < m) (C : CInv ts m cs k) (hk : k < ts.length) {s : Spot} (hs : hasS ts m s k = true) {a : Nat} (h : ∀ d, d < a → ∃ f, f < ts.length ∧ hasS ts m s f = true ∧ cg cs f = some d) : a < m := by
  have h1 : a ≤ nsum (fun x => cnt (fun j => (hasS ts m s j && decide (j ≠ k)) && decide ((cg cs j).getD m = x)) ts.length) a := nsum_ge fun x hx => by
    obtain ⟨f, hf, h2, h3⟩ := h x hx
    have : cnt (fun j => (hasS ts m s j && decide (j ≠ k)) && decide ((cg cs j).getD m = x)) ts.length ≠ 0 := fun z => by
      rw [cnt_zero] at z
      have := z f hf
      have hfk : f ≠ k := fun y => by rw [y, C.unset k (Nat.le_refl _)] at h3; cases h3
      rw [h2, h3] at this
      simp [hfk] at this
    omega
  have h2 := nsum_cnt_le (P := fun j => hasS ts m s j && decide (j ≠ k)) (φ := fun j => (cg cs j).getD m) (X := a) ts.length
  have h3 : cnt (hasS ts m s) ts.length = cnt (fun j => hasS ts m s j && decide (j ≠ k)) ts.length + 1 := cnt_drop hk hs (by simp) fun j _ hj => by simp [hj]
  have h4 : cnt (hasS ts m s) ts.length ≤ m := by
    obtain ⟨v, q⟩ := s
    rw [row_size hm]; omega
  omega
/-! ### ways up, odd rings -/
def IsUp (ts : List Tie) (T : TreeL) : Nat → List Nat → Prop
  | v, [] => ∃ d, T.lookup v = some (d, none)
  | v, k :: ks => (∃ d, T.lookup v = some (d, some k)) ∧ IsUp ts T (far (tget ts k) v) ks
def upEnd (ts : List Tie) : Nat → List Nat → Nat
  | v, [] => v
  | v, k :: ks => upEnd ts (far (tget ts k) v) ks
def upV (ts : List Tie) : Nat → List Nat → List Nat
  | v, [] => [v]
  | v, k :: ks => v :: upV ts (far (tget ts k) v) ks
def Trail (ts : List Tie) : List Nat → List Nat → Prop
  | [_], [] => True
  | v :: w :: vs, k :: ks => k < ts.length ∧ tch v (tget ts k) = true ∧ w = far (tget ts k) v ∧ Trail ts (w :: vs) ks
  | _, _ => False
section
variable {ts : List Tie} {n root : Nat} {T : TreeL}
theorem up_par (ok : Ok n ts) (I : Tree ts n root T) {v d k : Nat} (h : T.lookup v = some (d, some k)) : k < ts.length ∧ tch v (tget ts k) = true ∧ ∃ e o, T.lookup (far (tget ts k) v) = some (e, o) ∧ d = e + 1 := by
  rcases I.par v d _ h with ⟨_, _, z⟩ | ⟨j, u, e, o', ej, hk, ht, ev, hu, hd⟩
  · cases z
  · cases ej
    have : far (tget ts k) v = u := by rw [ev]; exact far_far (ok.get hk).1 ht
    exact ⟨hk, by rw [ev]; exact far_tch, e, o', by rw [this]; exact hu, hd⟩
theorem up_depth (ok : Ok n ts) (I : Tree ts n root T) : ∀ {w : List Nat} {v : Nat}, IsUp ts T v w → ∃ o, T.lookup v = some (w.length, o)
  | [], v, ⟨d, h⟩ => by
    rcases I.par v d _ h with ⟨_, z, _⟩ | ⟨j, u, e, o', ej, _⟩
    · subst z; exact ⟨none, h⟩
    · cases ej
  | k :: ks, v, ⟨⟨d, h⟩, h2⟩ => by
    obtain ⟨_, _, e, o, h3, h4⟩ := up_par ok I h
    obtain ⟨o', h5⟩ := up_depth ok I h2
    rw [h3] at h5
    cases h5
    exact ⟨some k, by rw [h, h4]; rfl⟩
theorem up_app : ∀ {w1 w2 : List Nat} {v : Nat}, IsUp ts T v (w1 ++ w2) → IsUp ts T (upEnd ts v w1) w2
  | [], _, _, h => h
  | _ :: w1, _, _, h => up_app (w1 := w1) h.2
theorem up_det : ∀ {w w' : List Nat} {v : Nat}, IsUp ts T v w → IsUp ts T v w' → w = w'
  | [], [], _, _, _ => rfl
  | [], k :: ks, v, ⟨d, h⟩, ⟨⟨d', h'⟩, _⟩ => by rw [h] at h'; cases h'
  | k :: ks, [], v, ⟨⟨d, h⟩, _⟩, ⟨d', h'⟩ => by rw [h] at h'; cases h'
  | k :: ks, j :: js, v, ⟨⟨d, h⟩, h2⟩, ⟨⟨d', h'⟩, h2'⟩ => by
    rw [h] at h'
    cases h'
    rw [up_det h2 h2']
theorem up_end (ok : Ok n ts) (I : Tree ts n root T) : ∀ {C : List Nat} {x y : Nat}, IsUp ts T x C → IsUp ts T y C → x = y
  | [], x, y, ⟨d, h⟩, ⟨d', h'⟩ => by
    rcases I.par x d _ h with ⟨z, _, _⟩ | ⟨j, u, e, o', ej, _⟩
    · rcases I.par y d' _ h' with ⟨z', _, _⟩ | ⟨j, u, e, o', ej, _⟩
      · rw [z, z']
      · cases ej
    · cases ej
  | c :: C, x, y, hx, hy => by
    obtain ⟨hk, ht, _⟩ := up_par ok I hx.1.choose_spec
    obtain ⟨_, ht', _⟩ := up_par ok I hy.1.choose_spec
    rcases (tch_two (ok.get hk).1 ht).mp ht' with z | z
    · exact z.symm
    · exfalso
      obtain ⟨o1, h1⟩ := up_depth ok I hy
      obtain ⟨o2, h2⟩ := up_depth ok I hx.2
      rw [← z, h1] at h2
      simp at h2
theorem upV_trail (ok : Ok n ts) (I : Tree ts n root T) : ∀ {w C : List Nat} {v : Nat}, IsUp ts T v (w ++ C) → Trail ts (upV ts v w) w
  | [], _, _, _ => trivial
  | [k], C, v, h => by
    obtain ⟨hk, ht, _⟩ := up_par ok I h.1.choose_spec
    exact ⟨hk, ht, rfl, trivial⟩
  | k :: j :: ks, C, v, h => by
    obtain ⟨hk, ht, _⟩ := up_par ok I h.1.choose_spec
    exact ⟨hk, ht, rfl, upV_trail ok I (w := j :: ks) (C := C) h.2⟩
theorem mem_upV : ∀ {w : List Nat} {v x : Nat}, x ∈ upV ts v w → ∃ w1 w2, w = w1 ++ w2 ∧ x = upEnd ts v w1
  | [], v, x, h => by
    rw [List.mem_singleton.mp h]
    exact ⟨[], [], rfl, rfl⟩
  | k :: ks, v, x, h => by
    rcases List.mem_cons.mp h with z | z
    · exact ⟨[], k :: ks, rfl, z⟩
    · obtain ⟨w1, w2, e1, e2⟩ := mem_upV z
      exact ⟨k :: w1, w2, by rw [e1]; rfl, e2⟩
/-- the vertices but the last -/
def upV0 (ts : List Tie) : Nat → List Nat → List Nat
  | _, [] => []
  | v, k :: ks => v :: upV0 ts (far (tget ts k) v) ks
theorem upV_eq : ∀ {w : List Nat} {v : Nat}, upV ts v w = upV0 ts v w ++ [upEnd ts v w]
  | [], _ => rfl
  | k :: ks, v => by
    show v :: upV ts _ ks = v :: (upV0 ts _ ks ++ [upEnd ts _ ks])
    rw [upV_eq]
theorem mem_upV0 : ∀ {w : List Nat} {v x : Nat}, x ∈ upV0 ts v w → ∃ w1 w2, w = w1 ++ w2 ∧ w2 ≠ [] ∧ x = upEnd ts v w1
  | [], v, x, h => by cases h
  | k :: ks, v, x, h => by
    rcases List.mem_cons.mp h with z | z
    · exact ⟨[], k :: ks, rfl, by simp, z⟩
    · obtain ⟨w1, w2, e1, e0, e2⟩ := mem_upV0 z
      exact ⟨k :: w1, w2, by rw [e1]; rfl, e0, e2⟩
theorem upV_nodup (ok : Ok n ts) (I : Tree ts n root T) : ∀ {w C : List Nat} {v : Nat}, IsUp ts T v (w ++ C) → (upV ts v w).Nodup
  | [], _, _, _ => by simp [upV]
  | k :: ks, C, v, h => by
    refine List.nodup_cons.mpr ⟨fun hm => ?_, upV_nodup ok I (w := ks) (C := C) h.2⟩
    obtain ⟨w1, w2, e1, e2⟩ := mem_upV hm
    have h2 : IsUp ts T (far (tget ts k) v) (ks ++ C) := h.2
    rw [e1, List.append_assoc] at h2
    have h3 := up_app h2
    rw [← e2] at h3
    obtain ⟨o1, d1⟩ := up_depth ok I h3
    obtain ⟨o2, d2⟩ := up_depth ok I h
    rw [d1] at d2
    have := congrArg Prod.fst (Option.some.inj d2)
    simp only [List.length_append, List.length_cons, e1] at this
    omega
theorem nodup_rev : ∀ {l : List Nat}, l.Nodup → l.reverse.Nodup
  | [], h => h
  | a :: r, h => by
    obtain ⟨h1, h2⟩ := List.nodup_cons.mp h
    rw [List.reverse_cons, List.nodup_append]
    refine ⟨nodup_rev h2, by simp, fun x hx y hy => ?_⟩
    rw [List.mem_singleton.mp hy]
    intro z
    exact h1 (z ▸ List.mem_reverse.mp hx)
theorem last_app {l l' : List Nat} (h : l' ≠ []) : (l ++ l').getLast? = l'.getLast? := by
  rw [List.getLast?_append]
  cases e : l'.getLast? with
  | some x => rfl
  | none => exact absurd (List.getLast?_eq_none_iff.mp e) h
theorem trail_cons {v : Nat} {vs : List Nat} {k : Nat} {ks : List Nat} (hk : k < ts.length) (ht : tch v (tget ts k) = true) (h : Trail ts (far (tget ts k) v :: vs) ks) : Trail ts (v :: far (tget ts k) v :: vs) (k :: ks) := ⟨hk, ht, rfl, h⟩
theorem trail_app : ∀ {vs : List Nat} {x : Nat} {ks : List Nat} {ws ls : List Nat}, Trail ts (vs ++ [x]) ks → Trail ts (x :: ws) ls → Trail ts (vs ++ x :: ws) (ks ++ ls)
  | [], x, [], ws, ls, _, h => h
  | [], x, _ :: _, ws, ls, h, _ => h.elim
  | [v], x, [], _, _, h, _ => h.elim
  | [v], x, k :: ks, ws, ls, h, h2 => by
    obtain ⟨h1, h2', h3, h4⟩ := h
    cases ks with
    | nil => exact ⟨h1, h2', h3, h2⟩
    | cons _ _ => exact h4.elim
  | v :: w :: vs, x, [], _, _, h, _ => h.elim
  | v :: w :: vs, x, k :: ks, ws, ls, h, h2 => by
    obtain ⟨h1, h2', h3, h4⟩ := h
    exact ⟨h1, h2', h3, trail_app (vs := w :: vs) h4 h2⟩
theorem trail_rev (ok : Ok n ts) : ∀ {vs ks : List Nat}, Trail ts vs ks → Trail ts vs.reverse ks.reverse
  | [], _, h => h.elim
  | [v], [], _ => trivial
  | [v], _ :: _, h => h.elim
  | v :: w :: vs, [], h => h.elim
  | v :: w :: vs, k :: ks, ⟨h1, h2, h3, h4⟩ => by
    have ih := trail_rev ok h4
    rw [List.reverse_cons, List.reverse_cons, List.reverse_cons, List.append_assoc]
    refine trail_app (vs := vs.reverse) (x := w) (by rw [List.reverse_cons] at ih; exact ih) ?_
    refine ⟨h1, by rw [h3]; exact far_tch, ?_, trivial⟩
    rw [h3, far_far (ok.get h1).1 h2]
theorem trail_len : ∀ {vs ks : List Nat}, Trail ts vs ks → vs.length = ks.length + 1
  | [], _, h => h.elim
  | [v], [], _ => rfl
  | [v], _ :: _, h => h.elim
  | v :: w :: vs, [], h => h.elim
  | v :: w :: vs, k :: ks, h => by
    have := trail_len h.2.2.2
    simp only [List.length_cons] at this ⊢
    omega
/-- an odd ring, by its ties in turn -/
structure RingOk (ts : List Tie) (r : List Nat) : Prop where
  odd : r.length % 2 = 1
  ex : ∃ start ps, Trail ts (start :: ps) r ∧ ps.Nodup ∧ ps.getLast? = some start
theorem ring_of (ok : Ok n ts) (I : Tree ts n root T) {k : Nat} (hk : k < ts.length) {A B C : List Nat} (hA : IsUp ts T (tget ts k).1 (A ++ C)) (hB : IsUp ts T (tget ts k).2 (B ++ C))
    (hs : A = [] ∨ B = [] ∨ A.getLast? ≠ B.getLast?) (hp : (A ++ C).length % 2 = (B ++ C).length % 2) : RingOk ts ([k] ++ B ++ A.reverse) := by
  have hkk := ok.get hk
  have hend : upEnd ts (tget ts k).1 A = upEnd ts (tget ts k).2 B := up_end ok I (up_app hA) (up_app hB)
  have tA := upV_trail ok I hA
  have tB := upV_trail ok I hB
  refine ⟨?_, (tget ts k).1, upV0 ts (tget ts k).2 B ++ (upV ts (tget ts k).1 A).reverse, ?_, ?_, ?_⟩
  · simp only [List.length_append, List.length_reverse, List.length_singleton] at hp ⊢
    omega
  · have h1 : Trail ts (upV0 ts (tget ts k).2 B ++ (upV ts (tget ts k).1 A).reverse) (B ++ A.reverse) := by
      have tA' := trail_rev ok tA
      rw [upV_eq, List.reverse_append, List.reverse_singleton] at tA'
      rw [upV_eq] at tB
      rw [upV_eq (w := A), List.reverse_append, List.reverse_singleton, hend]
      rw [hend] at tA'
      exact trail_app tB tA'
    rw [List.append_assoc]
    have hf : far (tget ts k) (tget ts k).1 = (tget ts k).2 := by unfold far; rw [if_pos rfl]
    have ht : tch (tget ts k).1 (tget ts k) = true := by rw [tch_iff]; exact .inl rfl
    cases B with
    | nil =>
      have hh : upEnd ts (tget ts k).1 A = (tget ts k).2 := hend
      have h2 : (upV ts (tget ts k).1 A).reverse = (tget ts k).2 :: (upV0 ts (tget ts k).1 A).reverse := by
        rw [upV_eq, List.reverse_append, List.reverse_singleton, hh]; rfl
      have h1' : Trail ts (upV ts (tget ts k).1 A).reverse A.reverse := h1
      show Trail ts ((tget ts k).1 :: (upV ts (tget ts k).1 A).reverse) (k :: A.reverse)
      rw [h2] at h1' ⊢
      exact ⟨hk, ht, hf.symm, h1'⟩
    | cons b B => exact ⟨hk, ht, hf.symm, h1⟩
  · rw [List.nodup_append]
    refine ⟨?_, ?_, ?_⟩
    · have := upV_nodup ok I hB
      rw [upV_eq, List.nodup_append] at this
      exact this.1
    · exact nodup_rev (upV_nodup ok I hA)
    · intro x hx y hy z
      subst z
      obtain ⟨b1, b2, e1, e0, e2⟩ := mem_upV0 hx
      obtain ⟨a1, a2, f1, f2⟩ := mem_upV (List.mem_reverse.mp hy)
      rw [e1, List.append_assoc] at hB
      rw [f1, List.append_assoc] at hA
      have u1 := up_app hB
      have u2 := up_app hA
      rw [← e2] at u1
      rw [← f2] at u2
      have e3 := List.append_cancel_right (up_det u1 u2)
      subst e3
      have la : A.getLast? = b2.getLast? := by rw [f1, last_app e0]
      have lb : B.getLast? = b2.getLast? := by rw [e1, last_app e0]
      rcases hs with q | q | q
      · rw [q] at f1
        have := (List.append_eq_nil_iff.mp f1.symm).2
        exact e0 this
      · rw [q] at e1
        have := (List.append_eq_nil_iff.mp e1.symm).2
        exact e0 this
      · exact q (la.trans lb.symm)
  · cases A with
    | nil => simp [upV]
    | cons c A => simp [upV]
end
/-! ### two sides out of trees without a conflict -/
def Calm (ts : List Tie) (T : TreeL) : Prop := ∀ k, k < ts.length → ∀ d e o o', T.lookup (tget ts k).1 = some (d, o) → T.lookup (tget ts k).2 = some (e, o') → d % 2 ≠ e % 2
theorem root_uniq {ts : List Tie} {r r' v : Nat} (h : isRoot ts r) (h' : isRoot ts r') (c : conn ts r v) (c' : conn ts r' v) : r = r' := by
  rcases Nat.lt_trichotomy r r' with z | z | z
  · exact (h' r z (conn_trans c (conn_symm c'))).elim
  · exact z
  · exact (h r' z (conn_trans c' (conn_symm c))).elim
theorem bip_of {ts : List Tie} {n : Nat} (ok : Ok n ts) (h : ∀ r, r < n → isRoot ts r → ∃ T, GoodTree ts n r T ∧ Calm ts T) : ∃ side, Bip ts side := by
  have hF : ∃ F : Nat → TreeL, ∀ r, r < n → isRoot ts r → GoodTree ts n r (F r) ∧ Calm ts (F r) := by
    refine ⟨fun r => @dite _ (r < n ∧ isRoot ts r) (Classical.propDecidable _) (fun q => Classical.choose (h r q.1 q.2)) fun _ => [], fun r h1 h2 => ?_⟩
    simp only [dif_pos (show r < n ∧ isRoot ts r from ⟨h1, h2⟩)]
    exact Classical.choose_spec (h r h1 h2)
  have hR : ∃ R : Nat → Nat, ∀ v, R v ≤ v ∧ isRoot ts (R v) ∧ conn ts (R v) v := ⟨fun v => Classical.choose (root_of ts v), fun v => Classical.choose_spec (root_of ts v)⟩
  obtain ⟨F, hF⟩ := hF
  obtain ⟨R, hR⟩ := hR
  refine ⟨fun v => match (F (R v)).lookup v with
      | some (d, _) => decide (d % 2 = 0)
      | none => false, fun t ht => ?_⟩
  have o := ok t ht
  obtain ⟨k, hk, rfl⟩ := List.getElem_of_mem ht
  have ek : tget ts k = ts[k] := by unfold tget; rw [List.getD_eq_getElem?_getD, List.getElem?_eq_getElem hk]; rfl
  have hct : conn ts ts[k].1 ts[k].2 := fun Z hZ h0 => by rw [← hZ _ ht]; exact h0
  obtain ⟨a1, a2, a3⟩ := hR ts[k].1
  obtain ⟨b1, b2, b3⟩ := hR ts[k].2
  have er : R ts[k].1 = R ts[k].2 := root_uniq a2 b2 (conn_trans a3 hct) b3
  obtain ⟨G, Cm⟩ := hF _ (show R ts[k].1 < n by omega) a2
  simp only [← er]
  have i1 : inT (F (R ts[k].1)) ts[k].1 = true := by rw [G.iff]; exact connB_iff.mpr a3
  have i2 : inT (F (R ts[k].1)) ts[k].2 = true := by rw [G.iff]; exact connB_iff.mpr (conn_trans a3 hct)
  obtain ⟨⟨d, o1⟩, q1⟩ := Option.isSome_iff_exists.mp i1
  obtain ⟨⟨e, o2⟩, q2⟩ := Option.isSome_iff_exists.mp i2
  have := Cm k hk d e o1 o2 (by rw [ek]; exact q1) (by rw [ek]; exact q2)
  rw [q1, q2]
  show decide (d % 2 = 0) ≠ decide (e % 2 = 0)
  intro z
  have := decide_eq_decide.mp z
  omega
end TH
namespace TH
/-! ### told colours -/
def ccN (ts : List Tie) (cols : List Nat) (v c : Nat) : Nat := cnt (fun j => tch v (tget ts j) && decide (cols.getD j 0 = c)) ts.length
structure EvenN (ts : List Tie) (m : Nat) (cols : List Nat) : Prop where
  len : cols.length = ts.length
  lt : ∀ c ∈ cols, c < m
  ev : ∀ v c c', c < m → c' < m → ccN ts cols v c ≤ ccN ts cols v c' + 1
def plainC (cs : OCols) : List Nat := cs.map fun o => o.getD 0
theorem plainC_get {cs : OCols} {j : Nat} : (plainC cs).getD j 0 = (cg cs j).getD 0 := by
  unfold plainC cg
  rw [List.getD_eq_getElem?_getD, List.getD_eq_getElem?_getD, List.getElem?_map]
  cases cs[j]? <;> rfl
theorem CInv.even {ts : List Tie} {m : Nat} {cs : OCols} (hm : 0 < m) (C : CInv ts m cs ts.length) : EvenN ts m (plainC cs) := by
  refine ⟨by unfold plainC; rw [List.length_map]; exact C.len, fun c hc => ?_, fun v c c' h1 h2 => ?_⟩
  · unfold plainC at hc
    obtain ⟨o, ho, rfl⟩ := List.mem_map.mp hc
    obtain ⟨j, hj, e⟩ := List.getElem_of_mem ho
    obtain ⟨d, h1, h2⟩ := C.isSet j (by rw [← C.len]; exact hj)
    unfold cg at h1
    rw [List.getD_eq_getElem?_getD, List.getElem?_eq_getElem hj, e] at h1
    have h1 : o = some d := h1
    rw [h1]; exact h2
  · have key : ∀ c, ccN ts (plainC cs) v c = cc ts cs v c := fun c => cnt_congr fun j hj => by
      obtain ⟨d, h1, h2⟩ := C.isSet j hj
      rw [plainC_get, h1]
      simp
    rw [key, key]
    have e1 := even_of hm C v h1
    have e2 := even_of hm C v h2
    omega
theorem CInv.zero (ts : List Tie) (m : Nat) : CInv ts m (List.replicate ts.length none) 0 := by
  have h : ∀ j, cg (List.replicate ts.length none) j = none := fun j => by
    unfold cg
    rw [List.getD_eq_getElem?_getD, List.getElem?_replicate]
    split <;> rfl
  exact ⟨List.length_replicate, fun j hj => absurd hj (by omega), fun j _ => h j, fun s e f c _ _ _ _ z => by rw [h] at z; cases z⟩
/-- as many as are taken from 0 on -/
theorem le_of_taken : ∀ (c : Nat) (l : List (Option Nat)), (∀ d, d < c → some d ∈ l) → c ≤ l.length
  | 0, _, _ => Nat.zero_le _
  | c + 1, l, h => by
    have h1 := h c (by omega)
    have ih := le_of_taken c (l.erase (some c)) fun d hd => by
      have h2 := h d (by omega)
      exact (List.mem_erase_of_ne (fun z => by have := Option.some.inj z; omega)).mpr h2
    rw [List.length_erase_of_mem h1] at ih
    have := List.length_pos_of_mem h1
    omega
end TH
namespace TH
section
variable {ts : List Tie} {n root : Nat} {T : TreeL}
theorem up_exists (ok : Ok n ts) (I : Tree ts n root T) : ∀ (d v : Nat) (o : Option Nat), T.lookup v = some (d, o) → ∃ w, IsUp ts T v w
  | d, v, o, h => by
    induction d generalizing v o with
    | zero =>
      rcases I.par v 0 o h with ⟨h1, h2, h3⟩ | ⟨j, u, e, o', ej, hk, ht, ev, hu, hd⟩
      · subst h3; exact ⟨[], 0, h⟩
      · omega
    | succ d ih =>
      rcases I.par v _ o h with ⟨h1, h2, h3⟩ | ⟨j, u, e, o', ej, hk, ht, ev, hu, hd⟩
      · omega
      · have : e = d := by omega
        subst this
        obtain ⟨w, hw⟩ := ih u o' hu
        subst ej
        refine ⟨j :: w, ⟨e + 1, h⟩, ?_⟩
        have e1 : far (tget ts j) v = u := by rw [ev]; exact far_far (ok.get hk).1 ht
        rw [e1]; exact hw
theorem up_lt (ok : Ok n ts) (I : Tree ts n root T) {v : Nat} {w : List Nat} (h : IsUp ts T v w) : w.length < n := by
  have h' : IsUp ts T v (w ++ []) := by rw [List.append_nil]; exact h
  have nd := upV_nodup ok I h'
  have hl := trail_len (upV_trail ok I h')
  have := nodup_le n _ nd fun x hx => by
    obtain ⟨w1, w2, e1, e2⟩ := mem_upV hx
    rw [e1] at h
    have := up_app h
    rw [← e2] at this
    obtain ⟨o, ho⟩ := up_depth ok I this
    exact I.lt x (by unfold inT; rw [ho]; rfl)
  omega
theorem partOf_root {r : Nat} (hr : isRoot ts r) (hn : r < n) : ∃ rest, partOf ts n r = r :: rest := by
  unfold partOf
  have h1 : List.range n = List.range r ++ r :: (List.range (n - r - 1)).map (fun x => r + 1 + x) := by
    have e : n = r + (1 + (n - r - 1)) := by omega
    conv => lhs; rw [e]
    rw [List.range_add, List.range_add, List.map_append, List.map_map]
    simp only [List.range_one, List.map_cons, List.map_nil, Nat.add_zero, List.singleton_append, List.cons_append, List.nil_append]
    congr 2
    apply List.map_congr_left
    intro x _
    simp only [Function.comp]
    omega
  rw [h1, List.filter_append]
  have h2 : (List.range r).filter (connB ts r) = [] := by
    rw [List.filter_eq_nil_iff]
    intro v hv hc
    exact hr v (List.mem_range.mp hv) (conn_symm (connB_iff.mp hc))
  rw [h2, List.nil_append, List.filter_cons, if_pos (connB_iff.mpr (conn_refl ts r))]
  exact ⟨_, rfl⟩
end
end TH

namespace TT
open PySem L2
/-! ### the heap -/
theorem same_new {H : Hp} {p : Addr} {o : HO} (h : H p = none) : Same H (upd H p o) := fun b u e => by rw [upd_ne (ne_of_none e h)]; exact e
theorem sameU {H0 H : Hp} {p : Addr} {o : HO} (s : Same H0 H) (h : H0 p = none) : Same H0 (upd H p o) := fun b u e => by rw [upd_ne (ne_of_none e h)]; exact s b u e
theorem sameN {H0 H : Hp} {p : Addr} {o : HO} (s : Same H0 H) (h : H p = none) : Same H0 (L2.upd H p o) := s.trans (same_new h)

/-- a value of a kind that is told, and whether it is a whole number -/
inductive WholeV (K : PySem.W.Frag) (H : Hp) : V → Bool → Prop where
  | int (i : Int) : WholeV K H (.int i) true
  | bl (b : Bool) : WholeV K H (.bl b) false
  | non : WholeV K H .non false
  | str (x : PySem.Str) : WholeV K H (.str x) false
  | lst {a : Addr} {xs : List V} (h : H a = some (.lst xs)) : WholeV K H (.ref a) false
  | tup {a : Addr} {xs : List V} (h : H a = some (.tup xs)) : WholeV K H (.ref a) false
  | dK {a : Addr} {xs : List (Key × V)} (h : H a = some (.dK xs)) : WholeV K H (.ref a) false
theorem WholeV.same {K : PySem.W.Frag} {H H' : Hp} (s : Same H H') {x : V} {b : Bool} (h : WholeV K H x b) : WholeV K H' x b := by
  cases h with
  | int i => exact .int i
  | bl b => exact .bl b
  | non => exact .non
  | str x => exact .str x
  | lst h => exact .lst (s _ _ h)
  | tup h => exact .tup (s _ _ h)
  | dK h => exact .dK (s _ _ h)
/-! ### comprehensions that change nothing -/
/-- [e for ..] over a walk, no test: the i-th item is f i -/
theorem lc_map {J : It} {n : Nat} {G : Hp → Prop} {Y : Nat → Hp → V → Hp → Prop} (w : Walk J n G Y) {g : TG} {te : TE} {vs : List Nat} {σ : St} {H1 : Hp} {D : Addr} {Qd : Hp → Prop} (f : Nat → V) (hD : H1 D = none) (hn : n ≤ 1000000)
    (hG : ∀ H, Same H1 H → G H) (hY : ∀ i H x H', i < n → Y i H x H' → Same H H')
    (hs : ∀ i x H H' (k : VK), i < n → Same H1 H → Y i H x H' → (∀ H4, Same H' H4 → k (f i) H4) → g x (wipe σ vs) H' fun σ2 H2 => wipe σ2 vs = wipe σ vs ∧ te σ2 H2 k)
    (hd : ∀ H, Same H1 H → H D = some (.lst ((List.range n).map f)) → Qd H) :
    ∃ W : Nat → Nat → Hp → Prop, (∃ m, W 0 m (upd H1 D (.lst []))) ∧ ∀ i m H, W i m H →
      (J.stop i H ∧ Qd H) ∨ (J.go i H ∧ ∃ Nx : Hp → Prop, (∀ H', Nx H' → ∃ m', m' < m ∧ W (i + 1) m' H') ∧ ∀ x H', J.yld i H x H' → g x (wipe σ vs) H' fun σ2 H2 => wipe σ2 vs = wipe σ vs ∧ tYes σ2 H2 fun b H3 =>
        if b = true then te σ2 H3 fun y H4 => ∃ acc, H4 D = some (.lst acc) ∧ acc.length < sizeLine ∧ Nx (upd H4 D (.lst (acc ++ [y]))) else Nx H3) := by
  refine lc_it w (fun i H => Same H1 H ∧ H D = some (.lst ((List.range i).map f))) ⟨sameN (.refl _) hD, upd_same⟩ (fun i H _ p => hG H p.1) ?_ (fun H p => hd H p.1 p.2)
  intro i x H H' hi p y
  refine hs i x H H' _ hi p.1 y fun H4 s4 => ?_
  refine ⟨_, s4 _ _ (hY i H x H' hi y _ _ p.2), ?_, ?_⟩
  · rw [List.length_map, List.length_range, PySem.sizeLine_eq]; omega
  · refine ⟨sameU ((p.1.trans (hY i H x H' hi y)).trans s4) hD, ?_⟩
    rw [upd_same, List.range_succ, List.map_append]
    rfl
/-- [e for .. if t] over a walk -/
theorem lc_filt {J : It} {n : Nat} {G : Hp → Prop} {Y : Nat → Hp → V → Hp → Prop} (w : Walk J n G Y) {g : TG} {tt : TT} {te : TE} {vs : List Nat} {σ : St} {H1 : Hp} {D : Addr} {Qd : Hp → Prop} (p : Nat → Bool) (f : Nat → V) (hD : H1 D = none) (hn : n ≤ 1000000)
    (hG : ∀ H, Same H1 H → G H) (hY : ∀ i H x H', i < n → Y i H x H' → Same H H')
    (hs : ∀ i x H H' (kT : VK) (kF : Hp → Prop), i < n → Same H1 H → Y i H x H' → (p i = true → ∀ H4, Same H' H4 → kT (f i) H4) → (p i = false → ∀ H4, Same H' H4 → kF H4) →
      g x (wipe σ vs) H' fun σ2 H2 => wipe σ2 vs = wipe σ vs ∧ tt σ2 H2 fun b H3 => if b = true then te σ2 H3 kT else kF H3)
    (hd : ∀ H, Same H1 H → H D = some (.lst (((List.range n).filter p).map f)) → Qd H) :
    ∃ W : Nat → Nat → Hp → Prop, (∃ m, W 0 m (upd H1 D (.lst []))) ∧ ∀ i m H, W i m H →
      (J.stop i H ∧ Qd H) ∨ (J.go i H ∧ ∃ Nx : Hp → Prop, (∀ H', Nx H' → ∃ m', m' < m ∧ W (i + 1) m' H') ∧ ∀ x H', J.yld i H x H' → g x (wipe σ vs) H' fun σ2 H2 => wipe σ2 vs = wipe σ vs ∧ tt σ2 H2 fun b H3 =>
        if b = true then te σ2 H3 fun y H4 => ∃ acc, H4 D = some (.lst acc) ∧ acc.length < sizeLine ∧ Nx (upd H4 D (.lst (acc ++ [y]))) else Nx H3) := by
  refine lc_it w (fun i H => Same H1 H ∧ H D = some (.lst (((List.range i).filter p).map f))) ⟨sameN (.refl _) hD, upd_same⟩ (fun i H _ p => hG H p.1) ?_ (fun H p => hd H p.1 p.2)
  intro i x H H' hi q y
  refine hs i x H H' _ _ hi q.1 y (fun hp H4 s4 => ?_) (fun hp H4 s4 => ?_)
  · refine ⟨_, s4 _ _ (hY i H x H' hi y _ _ q.2), ?_, ?_⟩
    · rw [List.length_map, PySem.sizeLine_eq]
      have := List.length_filter_le p (List.range i)
      rw [List.length_range] at this
      omega
    · refine ⟨sameU ((q.1.trans (hY i H x H' hi y)).trans s4) hD, ?_⟩
      rw [upd_same, List.range_succ, List.filter_append, List.map_append, List.filter_cons, hp]
      rfl
  · refine ⟨(q.1.trans (hY i H x H' hi y)).trans s4, ?_⟩
    rw [s4 _ _ (hY i H x H' hi y _ _ q.2), List.range_succ, List.filter_append, List.filter_cons, hp]
    simp
theorem yat_same {xs : List V} {n : Nat} : ∀ i H x H', i < n → YAt xs i H x H' → Same H H' := fun _ _ _ _ _ y => by rw [y.1]; exact .refl _
theorem yfn_same {f : Nat → V} {n : Nat} : ∀ i H x H', i < n → YFn f i H x H' → Same H H' := fun _ _ _ _ _ y => by rw [y.1]; exact .refl _
theorem ypair_same {xs ys : Nat → Option V} {n : Nat} : ∀ i H x H', i < n → YPair xs ys i H x H' → Same H H' := fun _ _ _ _ _ y => by
  obtain ⟨T, _, _, _, h1, h2, _⟩ := y
  rw [h2]
  exact same_new h1
theorem walk_range0 {n : Nat} : Walk (Itr 0 n) n (fun _ => True) (YFn fun i => .int (i : Nat)) :=
  walk_range.mono (fun _ h => h) fun i H x H' _ _ y => ⟨y.1, by rw [y.2]; show V.int (0 + (i : Int)) = _; rw [Int.zero_add]⟩
/-! ### rules whose readings name K itself (for within a comprehension) -/
section
variable {X : Cx} {K : PySem.W.Frag}
def rLn (K : PySem.W.Frag) : List V → Hp → VK → Prop := fun xs H Q => ∃ p ys, xs = [.ref p] ∧ (SqL K H p ys ∨ SqT K H p ys) ∧ Q (.int ys.length) H
theorem call_lnK (h : X.K = K) : CallR X (.builtin "len") (rLn K) := by subst h; exact call_len_seq
theorem ix_listK (h : X.K = K) : IxR X (rIxL K) := by subst h; exact ix_list
theorem ix_tupK (h : X.K = K) : IxR X (rIxT K) := by subst h; exact ix_tup
theorem in_seqK (h : X.K = K) : OpR X (compareOp .In) (rIn K false) := by subst h; exact op_in_seq
theorem notIn_seqK (h : X.K = K) : OpR X (compareOp .NotIn) (rIn K true) := by subst h; exact op_notIn_seq
theorem eqDK (h : X.K = K) (hu : X.A.units + 64 < cLine) : OpR X (compareOp .Eq) (rEqD K) := by subst h; exact op_eqD hu
theorem isiK (h : X.K = K) : CallR X (.builtin "isinstance") (rIsi K) := by subst h; exact call_isi
end
/-! ### while, its reading shut in -/
structure WhileOk (c : TT) (tb : TS) (D : Ends) (σ : St) (H : Hp) : Prop where
  h : tWhile c tb D σ H
theorem ps_whileS {X : Cx} {pos : Pos} {c : Expr} {body : List Stmt} {tc : TT} {tb : TS} (hp : PassesOwn (model X.prog X.w) X.A X.env X.xe) (hc : PT X c tc) (hb : PSs X body tb) : PS X (.While c body [] pos) (fun D σ H => WhileOk tc tb D σ H) :=
  ⟨fun pins s σ H D I h => (ps_while hp hc hb).run pins s σ H D I h.h⟩
/-- a while by a relation that carries its measure -/
theorem while_rel {c : TT} {tb : TS} {D : Ends} {σ : St} {H : Hp} (Pv : Nat → St → Hp → Prop) (h0 : ∃ m, Pv m σ H)
    (hs : ∀ m σ H, Pv m σ H → c σ H fun b H1 => if b = true then tb { D with nx := fun σ' H' => ∃ m', m' < m ∧ Pv m' σ' H', ct := fun σ' H' => ∃ m', m' < m ∧ Pv m' σ' H', bk := D.nx } σ H1 else D.nx σ H1)
    (mono : ∀ σ H Q Q', (∀ b H1, Q b H1 → Q' b H1) → c σ H Q → c σ H Q') : WhileOk c tb D σ H := by
  refine ⟨⟨Pv, h0, ?_⟩⟩
  intro m σ H p
  refine mono σ H _ _ (fun b H1 q => ?_) (hs m σ H p)
  cases b with
  | true => exact ⟨_, fun σ' H' h => h, q⟩
  | false => exact q
theorem tru_mono {K : PySem.W.Frag} {ta : TE} (ht : ∀ σ H (Q Q' : VK), (∀ v H1, Q v H1 → Q' v H1) → ta σ H Q → ta σ H Q') (σ : St) (H : Hp) (Q Q' : Bool → Hp → Prop) (h : ∀ b H1, Q b H1 → Q' b H1) :
    (ta σ H fun x H' => ∃ k, TruV K x H' k ∧ Q k H') → ta σ H fun x H' => ∃ k, TruV K x H' k ∧ Q' k H' :=
  ht σ H _ _ fun v H1 ⟨k, h1, h2⟩ => ⟨k, h1, h _ _ h2⟩
theorem tVar_mono {i : Nat} (σ : St) (H : Hp) (Q Q' : VK) (h : ∀ v H1, Q v H1 → Q' v H1) : tVar i σ H Q → tVar i σ H Q' := fun ⟨v, h1, h2⟩ => ⟨v, h1, h _ _ h2⟩
theorem map_range_get {α : Type} (xs : List α) (d : α) : (List.range xs.length).map (fun i => xs.getD i d) = xs := by
  apply List.ext_getElem
  · simp
  · intro i h1 h2
    simp at h1
    simp [h1]
theorem map_range_comp {α β : Type} (g : α → β) (xs : List α) (d : α) : (List.range xs.length).map (fun i => g (xs.getD i d)) = xs.map g := by
  conv => rhs; rw [← map_range_get xs d]
  rw [List.map_map]
  rfl
end TT

namespace TT
open PySem L2
def top (i : Nat) : Stmt := PySem.Challenge.pw_tiehalves_k05_refused.main.body.getD i (.Pass ⟨0, 0, 0, 0⟩)
abbrev s_is_whole : Stmt := top 9
abbrev s_all_within : Stmt := top 10
abbrev s_is_tie : Stmt := top 11
abbrev s_check_web : Stmt := top 12
end TT

namespace TT
open PySem L2
abbrev s_ties_at : Stmt := top 13
abbrev s_far_end : Stmt := top 14
abbrev s_reach_from : Stmt := top 15
abbrev s_part_of : Stmt := top 16
abbrev s_parts_of : Stmt := top 17
abbrev s_bars_two : Stmt := top 18
end TT
namespace TT
open PySem L2
abbrev s_halved : Stmt := top 26
abbrev s_nearly : Stmt := top 27
abbrev s_two_colours : Stmt := top 28
abbrev s_odd_ends : Stmt := top 29
abbrev s_round_from : Stmt := top 30
abbrev s_take_tie : Stmt := top 31
end TT
namespace TT
open PySem L2
abbrev s_Even_init : Stmt := inClass (top 21) 0
abbrev s_Odd_init : Stmt := inClass (top 22) 0
abbrev s_Shares_init : Stmt := inClass (top 23) 0
abbrev s_Ring_init : Stmt := inClass (top 24) 0
end TT
namespace TT
open PySem L2
abbrev s_shared : Stmt := top 33
abbrev s_odd_ring : Stmt := top 34
abbrev s_close_ring : Stmt := top 35
abbrev s_way_up : Stmt := top 36
abbrev s_share_out : Stmt := top 37
abbrev s_spots_of : Stmt := top 38
abbrev s_rows_of : Stmt := top 39
abbrev s_least_free : Stmt := top 40
abbrev s_chain_from : Stmt := top 41
abbrev s_tie_of : Stmt := top 42
end TT
namespace TT
open PySem L2
abbrev s_with_web : Stmt := top 44
abbrev s_bad_ties : Stmt := top 45
abbrev s_told : Stmt := top 46
abbrev s_law : Stmt := top 47
end TT
namespace TT
open PySem L2
structure DefAt (K : PySem.W.Frag) (mg : PySem.Str → Option Value) (x : PySem.Str) (st : Stmt) (ps : List PySem.Str) where
  f : Addr
  fd : FuncData
  F : Fun K x x st f fd
  g : mg x = some (.ref f)
  b : Binds K fd ps []
/-- an error class of the text -/
structure ExcAt (K : PySem.W.Frag) (mg : PySem.Str → Option Value) (x : PySem.Str) where
  C : Addr
  g : mg x = some (.ref C)
  x : PySem.W.excIn K C [.type "ValueError", .type "Exception", .type "BaseException", .type "object"] "ValueError.__new__" = true
  k : PySem.W.keepIn K (.ref C) = true
  b : PySem.W.subIn K (.ref C) (.type "BaseException") = some true
  t : PySem.W.typeIn K (.ref C) = some (.type "type")
structure Gb (K : PySem.W.Frag) (mg : PySem.Str → Option Value) : Prop where
  isi : mg "isinstance" = none
  int : mg "int" = none
  bool : mg "bool" = none
  tuple : mg "tuple" = none
  list : mg "list" = none
  len : mg "len" = none
  all : mg "all" = none
  enumerate : mg "enumerate" = none
  range : mg "range" = none
  sum : mg "sum" = none
/-- what the top has left: webs -/
structure G1 (K : PySem.W.Frag) (mg : PySem.Str → Option Value) where
  b : Gb K mg
  MP : ∃ t, mg "MOST_PLACES" = some (.int 40 t)
  MT : ∃ t, mg "MOST_TIES" = some (.int 120 t)
  badPlaces : ExcAt K mg "BadPlaces"
  badTies : ExcAt K mg "BadTies"
  is_whole : DefAt K mg "is_whole" s_is_whole ["x"]
  all_within : DefAt K mg "all_within" s_all_within ["numbers", "bound"]
  is_tie : DefAt K mg "is_tie" s_is_tie ["x", "places"]
  check_web : DefAt K mg "check_web" s_check_web ["places", "ties"]

def spIsWhole (K : PySem.W.Frag) : Sp := fun vs H Q _ => ∃ x b, vs = [x] ∧ WholeV K H x b ∧ Q (.bl b) H
def inB (bd : Int) : V → Bool
  | .int i => decide (0 ≤ i) && decide (i < bd)
  | _ => false
def spAllWithin (K : PySem.W.Frag) : Sp := fun vs H Q _ => ∃ (a : Addr) (xs : List V) (bd : Int), vs = [.ref a, .int bd] ∧ H a = some (.lst xs) ∧ xs.length ≤ 1000000 ∧ (∀ x ∈ xs, ∃ b, WholeV K H x b) ∧ ∀ H', Same H H' → Q (.bl (xs.all (inB bd))) H'
def ltV : V → V → Bool
  | .int i, .int j => decide (i < j)
  | _, _ => false
inductive TieV (K : PySem.W.Frag) (H : Hp) (n : Int) : V → Bool → Prop where
  | notTup {x : V} {t : String} (ty : TyX K H x (.type t)) (h : kitB t "tuple" = some false) : TieV K H n x false
  | long {a : Addr} {xs : List V} (h : H a = some (.tup xs)) (l : xs.length ≠ 2) : TieV K H n (.ref a) false
  | pair {a : Addr} {p q : V} {bp bq : Bool} (h : H a = some (.tup [p, q])) (hp : WholeV K H p bp) (hq : WholeV K H q bq) : TieV K H n (.ref a) (inB n p && (inB n q && ltV p q))
theorem TyX.same {K : PySem.W.Frag} {H H' : Hp} (s : Same H H') {x : V} {t : Value} (h : TyX K H x t) : TyX K H' x t := by
  cases h with
  | base h =>
    refine .base ?_
    cases h with
    | non => exact .non
    | bl b => exact .bl b
    | int i => exact .int i
    | str y => exact .str y
    | flt b => exact .flt b
    | lst e => exact .lst (s _ _ e)
    | frz e => exact .frz (s _ _ e)
    | tup e => exact .tup (s _ _ e)
    | dK e => exact .dK (s _ _ e)
    | dT e => exact .dT (s _ _ e)
    | ins e a b c d f => exact .ins (s _ _ e) a b c d f
  | byt b => exact .byt b
  | set e => exact .set (s _ _ e)
  | kList e c => exact .kList e c
  | kTuple e c => exact .kTuple e c
  | kDict e c => exact .kDict e c
  | fTuple e => exact .fTuple (s _ _ e)
  | fDict e => exact .fDict (s _ _ e)
theorem TieV.same {K : PySem.W.Frag} {H H' : Hp} (s : Same H H') {n : Int} {x : V} {b : Bool} (h : TieV K H n x b) : TieV K H' n x b := by
  cases h with
  | notTup ty h => exact .notTup (TyX.same s ty) h
  | long h l => exact .long (s _ _ h) l
  | pair h hp hq => exact .pair (s _ _ h) (hp.same s) (hq.same s)
def spIsTie (K : PySem.W.Frag) : Sp := fun vs H Q _ => ∃ (x : V) (n : Int) (b : Bool), vs = [x, .int n] ∧ TieV K H n x b ∧ ∀ H', Same H H' → Q (.bl b) H'

inductive Out where | ok | places | ties
inductive WebV (K : PySem.W.Frag) (H : Hp) : V → V → Out → Prop where
  | places {pv tv : V} {b : Bool} (h : WholeV K H pv b) (bad : ∀ i, pv = .int i → ¬ (1 ≤ i ∧ i ≤ 40)) : WebV K H pv tv .places
  | kind {n : Int} {tv : V} {t : String} (h1 : 1 ≤ n) (h2 : n ≤ 40) (ty : TyX K H tv (.type t)) (h : kitB t "list" = some false) : WebV K H (.int n) tv .ties
  | many {n : Int} {a : Addr} {xs : List V} (h1 : 1 ≤ n) (h2 : n ≤ 40) (h : H a = some (.lst xs)) (l : 120 < xs.length) : WebV K H (.int n) (.ref a) .ties
  | bad {n : Int} {a : Addr} {xs : List V} {bs : List Bool} (h1 : 1 ≤ n) (h2 : n ≤ 40) (h : H a = some (.lst xs)) (l : xs.length ≤ 120) (ts : Paired (TieV K H n) xs bs) (hb : bs.all id = false) : WebV K H (.int n) (.ref a) .ties
  | good {n : Int} {a : Addr} {xs : List V} {bs : List Bool} (h1 : 1 ≤ n) (h2 : n ≤ 40) (h : H a = some (.lst xs)) (l : xs.length ≤ 120) (ts : Paired (TieV K H n) xs bs) (hb : bs.all id = true) : WebV K H (.int n) (.ref a) .ok
def spCheck (K : PySem.W.Frag) (cP cT : Addr) : Sp := fun vs H Q E => ∃ (pv tv : V) (o : Out), vs = [pv, tv] ∧ WebV K H pv tv o ∧
  match o with
  | .ok => ∀ H', Same H H' → Q .non H'
  | .places => ∀ H', Same H H' → E (.ref cP) none H'
  | .ties => ∀ H', Same H H' → E (.ref cT) none H'
theorem paired_get {α β : Type} {F : α → β → Prop} : ∀ {xs : List α} {ys : List β} {i : Nat} {x : α}, Paired F xs ys → xs[i]? = some x → ∃ y, ys[i]? = some y ∧ F x y
  | _, _, _, _, .nil, e => by simp at e
  | _, _, 0, _, .cons r _, e => by simp at e; subst e; exact ⟨_, rfl, r⟩
  | _, _, i + 1, x, .cons _ t, e => by
    obtain ⟨u, h1, h2⟩ := paired_get (i := i) (x := x) t (by simpa using e)
    exact ⟨u, by simpa using h1, h2⟩
theorem small_text : ∀ k : Nat, k < 121 → ((PySem.Str.empty ++ (("tie " : PySem.Str))) ++ (toString (k : Int) : PySem.Str)).length ≤ sizeLine ∧ (((PySem.Str.empty ++ (("tie " : PySem.Str))) ++ (toString (k : Int) : PySem.Str)) ++ ((" is no pair of two unlike places, the lesser first" : PySem.Str))).length ≤ sizeLine ∧ (k : Int).natAbs.log2 < 1920 := by
  decide +kernel
section
variable {P : Program} {w : World} {K : PySem.W.Frag} {mg : PySem.Str → Option Value} {base : Heap}
theorem sc_is_whole : FnScope ["x"] ["x"] (defScope s_is_whole) := ⟨rfl, rfl, rfl, by decide +kernel, rfl, by decide +kernel, by decide +kernel⟩
theorem ok_is_whole (T : G1 K mg) : FnOk P w K mg base CX0 1 T.is_whole.f T.is_whole.fd ["x"] (spIsWhole K) := by
  refine T.is_whole.F.ok sc_is_whole (fun vs H Q E h => ?_) (fun cdv A outer s H vs Q E hr h => ?_)
  · obtain ⟨x, b, rfl, _⟩ := h
    rfl
  · obtain ⟨x, b, rfl, hx, hQ⟩ := h
    refine ⟨_, pss_one (ps_ret (pe_and (pe_callB call_isi (by rfl) T.b.isi (by decide +kernel) (pa_cons (pv 0) (pa_cons (pe_bltn (v := .ty "int") (by rfl) T.b.int (by decide +kernel) rfl) pa_nil)))
      (pe_one (pe_not (pe_callB call_isi (by rfl) T.b.isi (by decide +kernel) (pa_cons (pv 0) (pa_cons (pe_bltn (v := .ty "bool") (by rfl) T.b.bool (by decide +kernel) rfl) pa_nil))))))), ?_⟩
    cases hx with
    | int i => exact ⟨_, rfl, _, _, _, _, true, rfl, .ty "int", .base (.int i), kit_ty (by decide +kernel), true, rfl, _, rfl, _, _, _, _, false, rfl, .ty "bool", .base (.int i), kit_ty (by decide +kernel), _, rfl, hQ⟩
    | bl b => exact ⟨_, rfl, _, _, _, _, true, rfl, .ty "int", .base (.bl b), kit_ty (by decide +kernel), true, rfl, _, rfl, _, _, _, _, true, rfl, .ty "bool", .base (.bl b), kit_ty (by decide +kernel), _, rfl, hQ⟩
    | non => exact ⟨_, rfl, _, _, _, _, false, rfl, .ty "int", .base .non, kit_ty (by decide +kernel), false, rfl, hQ⟩
    | str y => exact ⟨_, rfl, _, _, _, _, false, rfl, .ty "int", .base (.str y), kit_ty (by decide +kernel), false, rfl, hQ⟩
    | lst h => exact ⟨_, rfl, _, _, _, _, false, rfl, .ty "int", .base (.lst h), kit_ty (by decide +kernel), false, rfl, hQ⟩
    | tup h => exact ⟨_, rfl, _, _, _, _, false, rfl, .ty "int", .base (.tup h), kit_ty (by decide +kernel), false, rfl, hQ⟩
    | dK h => exact ⟨_, rfl, _, _, _, _, false, rfl, .ty "int", .base (.dK h), kit_ty (by decide +kernel), false, rfl, hQ⟩
theorem sc_all_within : FnScope ["numbers", "bound", "x"] ["numbers", "bound"] (defScope s_all_within) := ⟨rfl, rfl, rfl, by decide +kernel, rfl, by decide +kernel, by decide +kernel⟩
theorem ok_all_within (T : G1 K mg) : FnOk P w K mg base CX0 2 T.all_within.f T.all_within.fd ["numbers", "bound"] (spAllWithin K) := by
  have IW : FnOk P w K mg base CX0 1 T.is_whole.f T.is_whole.fd ["x"] (spIsWhole K) := ok_is_whole T
  refine T.all_within.F.ok sc_all_within (fun vs H Q E h => ?_) (fun cdv A outer s H vs Q E hr h => ?_)
  · obtain ⟨x, b, _, rfl, _⟩ := h
    rfl
  · obtain ⟨a, xs, bd, rfl, hxs, hlen, hk, hQ⟩ := h
    have nd := sc_all_within.nd
    refine ⟨_, pss_one (ps_ret (pe_callB (cr_all rfl) (by rfl) T.b.all (by decide +kernel) (pa_cons
      (pe_lc (own := [("x", 2)]) (g := gName 2) (tt := tYes) rfl nd (pi_list (pv 0)) (blkOk_by (N := ["numbers", "bound", "x"]) (sc := defScope s_all_within) (by decide +kernel))
        (fun _ _ _ _ _ => pg_name (i := 2) nd rfl (Or.inl rfl)) (fun _ _ _ _ _ => pts_nil)
        (fun _ _ _ _ _ => pe_and (pe_call IW (hr.mono (by decide)) (by rfl) T.is_whole.g T.is_whole.F.kp T.is_whole.b .nil pass0 (pa_cons (pv 2) pa_nil)) (pe_one (pe_chain op_le op_lt pe_int (pv 2) (pv 1))))) pa_nil))), ?_⟩
    refine ⟨_, rfl, a, rfl, ⟨_, SqL.of hxs⟩, fun D hD => ?_⟩
    refine lc_map (walk_list (K := K) (a := a) (xs := xs)) (fun i => .bl (inB bd (xs.getD i .non))) hD hlen (fun H1 s1 => s1.seq (SqL.of hxs)) yat_same ?_ ?_
    · rintro i x H1 H2 k hi s1 ⟨rfl, hx⟩ hk2
      refine ⟨rfl, ?_⟩
      obtain ⟨b, wb⟩ := hk x (List.mem_of_getElem? hx)
      have ex : xs.getD i .non = x := by rw [List.getD_eq_getElem?_getD, hx]; rfl
      refine ⟨_, rfl, x, b, rfl, wb.same s1, b, rfl, ?_⟩
      cases wb with
      | int j =>
        refine ⟨_, rfl, _, _, rfl, rfl, _, rfl, ?_⟩
        have k1 := hk2 H2 (.refl _)
        rw [ex] at k1
        refine ite2 (fun c => ?_) (fun c => ?_)
        · refine ⟨_, rfl, _, _, rfl, rfl, ?_⟩
          simp only [inB, c, Bool.true_and] at k1
          exact k1
        · have c' : decide ((0 : Int) ≤ j) = false := by simpa using c
          simp only [inB, c', Bool.false_and] at k1
          exact k1
      | _ =>
        have k1 := hk2 H2 (.refl _)
        rw [ex] at k1
        exact k1
    · intro H1 s1 h1
      refine ⟨_, (List.range xs.length).map (fun i => inB bd (xs.getD i .non)), rfl, SqL.of (by rw [h1, List.map_map]; rfl), ?_⟩
      have e : ((List.range xs.length).map (fun i => inB bd (xs.getD i .non))).all id = xs.all (inB bd) := by
        rw [map_range_comp (inB bd) xs V.non, List.all_map]
        rfl
      rw [e]
      exact hQ _ s1
end
end TT
namespace TT
open PySem L2
theorem paired_length {α β : Type} {F : α → β → Prop} : ∀ {xs : List α} {ys : List β}, Paired F xs ys → xs.length = ys.length
  | _, _, .nil => rfl
  | _, _, .cons _ t => by simp [paired_length t]
section
variable {P : Program} {w : World} {K : PySem.W.Frag} {mg : PySem.Str → Option Value} {base : Heap}
theorem sc_is_tie : FnScope ["x", "places", "low", "high"] ["x", "places"] (defScope s_is_tie) := ⟨rfl, rfl, rfl, by decide +kernel, rfl, by decide +kernel, by decide +kernel⟩
theorem ok_is_tie (T : G1 K mg) : FnOk P w K mg base CX0 3 T.is_tie.f T.is_tie.fd ["x", "places"] (spIsTie K) := by
  have AW : FnOk P w K mg base CX0 2 T.all_within.f T.all_within.fd ["numbers", "bound"] (spAllWithin K) := ok_all_within T
  refine T.is_tie.F.ok sc_is_tie (fun vs H Q E h => ?_) (fun cdv A outer s H vs Q E hr h => ?_)
  · obtain ⟨x, n, b, rfl, _⟩ := h
    rfl
  · obtain ⟨x, n, b, rfl, hx, hQ⟩ := h
    have nd := sc_is_tie.nd
    refine ⟨_, pss_cons (ps_if (PW.pt (pw_or (pt_not (pt_val (pe_callB call_isi (by rfl) T.b.isi (by decide +kernel) (pa_cons (pv 0) (pa_cons (pe_bltn (v := .ty "tuple") (by rfl) T.b.tuple (by decide +kernel) rfl) pa_nil)))))
        (pw_or1 (pt_cmpR op_ne (pe_callB call_len_seq (by rfl) T.b.len PySem.boot_len (pa_cons (pv 0) pa_nil)) pe_int (nomark _))))) (pss_one (ps_ret pe_bl)) pss_nil)
      (pss_cons (ps_asg (pv 0) (pg_tup (by rfl) (pgs_cons (pg_name (i := 2) nd rfl (.inl rfl)) (pgs_cons (pg_name (i := 3) nd rfl (.inl rfl)) pgs_nil))))
      (pss_one (ps_ret (pe_and (pe_call AW (hr.mono (by decide)) (by rfl) T.all_within.g T.all_within.F.kp T.all_within.b .nil pass0 (pa_cons (pe_lst (pa_cons (pv 2) (pa_cons (pv 3) pa_nil))) (pa_cons (pv 1) pa_nil)))
        (pe_one (pe_cmpR op_lt (pv 2) (pv 3) (nomark _))))))), ?_⟩
    cases hx with
    | @notTup x t ty h =>
      refine ⟨_, rfl, _, _, _, _, false, rfl, .ty "tuple", ty, kit_ty h, _, rfl, ?_⟩
      refine iteT (iteT ?_)
      exact hQ _ (.refl _)
    | @long a xs h l =>
      refine ⟨_, rfl, _, _, _, _, true, rfl, .ty "tuple", .base (.tup h), kit_ty (by decide +kernel), _, rfl, ?_⟩
      refine iteF ⟨_, rfl, a, xs, rfl, .inr (SqT.of h), rfl, _, rfl, ?_⟩
      have e : (!decide (V.int ((xs.length : Nat) : Int) = V.int 2)) = true := by
        rw [decide_eq_false (fun q => l (by injection q with q; omega))]
        rfl
      show if (!decide (V.int ((xs.length : Nat) : Int) = V.int 2)) = true then _ else _
      rw [e]
      exact iteT (hQ _ (.refl _))
    | @pair a p q bp bq h hp hq =>
      refine ⟨_, rfl, _, _, _, _, true, rfl, .ty "tuple", .base (.tup h), kit_ty (by decide +kernel), _, rfl, ?_⟩
      refine iteF ⟨_, rfl, a, [p, q], rfl, .inr (SqT.of h), rfl, _, rfl, ?_⟩
      refine iteF ?_
      refine ⟨_, rfl, a, [p, q], rfl, SqT.of h, rfl, p, [q], rfl, q, [], rfl, rfl, ?_⟩
      refine ⟨_, rfl, _, rfl, (by show 2 ≤ sizeLine; decide), fun l hl => ?_⟩
      refine ⟨_, rfl, l, [p, q], n, rfl, upd_same, (by show 2 ≤ 1000000; decide), ?_, ?_⟩
      · intro x hx
        rcases List.mem_cons.mp hx with rfl | hx
        · exact ⟨_, hp.same (same_new hl)⟩
        · rw [List.mem_singleton.mp hx]
          exact ⟨_, hq.same (same_new hl)⟩
      · intro H' s'
        refine ⟨_, rfl, ?_⟩
        have s2 := (same_new hl).trans s'
        have k := hQ H' s2
        by_cases c : [p, q].all (inB n) = true
        · rw [c]
          refine iteT ?_
          simp only [List.all_cons, List.all_nil, Bool.and_true, Bool.and_eq_true] at c
          cases p with
          | int i =>
            cases q with
            | int j =>
              refine ⟨_, rfl, _, rfl, _, _, rfl, rfl, ?_⟩
              rw [c.1, c.2] at k
              exact k
            | _ => exact absurd c.2 (by simp [inB])
          | _ => exact absurd c.1 (by simp [inB])
        · have c' : [p, q].all (inB n) = false := by simpa using c
          rw [c']
          refine iteF ?_
          simp only [List.all_cons, List.all_nil, Bool.and_true] at c'
          rw [← Bool.and_assoc, c'] at k
          exact k
theorem sc_check_web : FnScope ["places", "ties", "k", "tie"] ["places", "ties"] (defScope s_check_web) := ⟨rfl, rfl, rfl, by decide +kernel, rfl, by decide +kernel, by decide +kernel⟩
theorem ok_check_web (T : G1 K mg) : FnOk P w K mg base (L2.CX P w) 4 T.check_web.f T.check_web.fd ["places", "ties"] (spCheck K T.badPlaces.C T.badTies.C) := by
  have IW : FnOk P w K mg base CX0 1 T.is_whole.f T.is_whole.fd ["x"] (spIsWhole K) := ok_is_whole T
  have IT : FnOk P w K mg base CX0 3 T.is_tie.f T.is_tie.fd ["x", "places"] (spIsTie K) := ok_is_tie T
  refine T.check_web.F.okX sc_check_web (fun vs H Q E h => ?_) (fun cdv A outer s H vs Q E hr h => ?_)
  · obtain ⟨pv, tv, o, rfl, _⟩ := h
    rfl
  · obtain ⟨pv', tv, o, rfl, hw, hQ⟩ := h
    have nd := sc_check_web.nd
    obtain ⟨tP, gP⟩ := T.MP
    obtain ⟨tT, gT⟩ := T.MT
    have gP : mg "MOST_PLACES" = some (.int 40 tP) := gP
    have gT : mg "MOST_TIES" = some (.int 120 tT) := gT
    have kw : ∀ H x b, WholeV K H x b → WholeV K H x b := fun _ _ _ h => h
    refine ⟨_, pss_cons (ps_if (PW.pt (pw_or (pt_not (pt_val (pe_call IW (hr.mono (by decide)) (by rfl) T.is_whole.g T.is_whole.F.kp T.is_whole.b .nil pass0 (pa_cons (pv 0) pa_nil))))
        (pw_or1 (pt_not (pt_chain op_le op_le pe_int (pv 0) (pe_glob (v := .int 40) (by rfl) gP ⟨_, rfl⟩))))))
        (pss_one (ps_raise rfl (takes_of rfl rfl rfl rfl) (pmk_own PySem.F.excBase_ValueError T.badPlaces.x T.badPlaces.g T.badPlaces.k (raises_own T.badPlaces.b T.badPlaces.t) (by exact rfl)))) pss_nil)
      (pss_cons (ps_if (pt_not (pt_val (pe_callB call_isi (by rfl) T.b.isi (by decide +kernel) (pa_cons (pv 1) (pa_cons (pe_bltn (v := .ty "list") (by rfl) T.b.list (by decide +kernel) rfl) pa_nil)))))
        (pss_one (ps_raise rfl (takes_of rfl rfl rfl rfl) (pmk_own PySem.F.excBase_ValueError T.badTies.x T.badTies.g T.badTies.k (raises_own T.badTies.b T.badTies.t) (by exact rfl)))) pss_nil)
      (pss_cons (ps_if (pt_cmpR op_gt (pe_callB call_len_seq (by rfl) T.b.len PySem.boot_len (pa_cons (pv 1) pa_nil)) (pe_glob (v := .int 120) (by rfl) gT ⟨_, rfl⟩) (nomark _))
        (pss_one (ps_raise rfl (takes_of rfl rfl rfl rfl) (pmk_own PySem.F.excBase_ValueError T.badTies.x T.badTies.g T.badTies.k (raises_own T.badTies.b T.badTies.t) (by exact rfl)))) pss_nil)
      (pss_one (ps_for (passes_of rfl) rfl (pi_enum (by rfl) T.b.enumerate (pa_cons (pv 1) pa_nil)) (pg_tup rfl (pgs_cons (pg_name (i := 2) nd rfl (.inl rfl)) (pgs_cons (pg_name (i := 3) nd rfl (.inl rfl)) pgs_nil)))
        (pss_one (ps_if (pt_not (pt_val (pe_call IT (hr.mono (by decide)) (by rfl) T.is_tie.g T.is_tie.F.kp T.is_tie.b .nil pass0 (pa_cons (pv 3) (pa_cons (pv 0) pa_nil)))))
          (pss_one (ps_raise rfl (takes_of rfl rfl rfl rfl) (SkE.pmk_own1 PySem.F.excBase_ValueError T.badTies.x T.badTies.g T.badTies.k (raises_own T.badTies.b T.badTies.t) (by exact rfl)
            (pe_joined (.cons pe_str (.cons (pe_fmt (pv 2)) (.cons pe_str .nil))))))) pss_nil)))))), ?_⟩
    have hlist : ∀ {n : Int} {a : Addr} {xs : List V}, pv' = .int n → tv = .ref a → 1 ≤ n → n ≤ 40 → H a = some (.lst xs) → True := fun _ _ _ _ _ => trivial
    cases hw with
    | @places pv2 tv b h bad =>
      refine ⟨_, rfl, _, b, rfl, h, _, rfl, ?_⟩
      cases h with
      | int i =>
        refine iteF ⟨_, rfl, _, _, rfl, rfl, _, rfl, ?_⟩
        refine ite2 (fun c => ?_) (fun c => ?_)
        · refine ⟨_, _, rfl, rfl, _, rfl, ?_⟩
          have c1 : (1 : Int) ≤ i := of_decide_eq_true c
          have c2 : ¬ (i ≤ 40) := fun q => bad i rfl ⟨c1, q⟩
          rw [show decide (i ≤ 40) = false from decide_eq_false c2]
          exact iteT (hQ _ (.refl _))
        · refine ⟨_, rfl, ?_⟩
          exact iteT (hQ _ (.refl _))
      | _ => exact iteT (iteT (hQ _ (.refl _)))
    | @kind n tv t h1 h2 ty h =>
      refine ⟨_, rfl, _, true, rfl, .int n, _, rfl, iteF ⟨_, rfl, _, _, rfl, rfl, _, rfl, ?_⟩⟩
      rw [show decide ((1 : Int) ≤ n) = true from decide_eq_true h1]
      refine iteT ⟨_, _, rfl, rfl, _, rfl, ?_⟩
      rw [show decide (n ≤ (40 : Int)) = true from decide_eq_true h2]
      refine iteF ?_
      refine ⟨_, rfl, _, _, _, _, false, rfl, .ty "list", ty, kit_ty h, _, rfl, ?_⟩
      exact iteT (hQ _ (.refl _))
    | @many n a xs h1 h2 h l =>
      refine ⟨_, rfl, _, true, rfl, .int n, _, rfl, iteF ⟨_, rfl, _, _, rfl, rfl, _, rfl, ?_⟩⟩
      rw [show decide ((1 : Int) ≤ n) = true from decide_eq_true h1]
      refine iteT ⟨_, _, rfl, rfl, _, rfl, ?_⟩
      rw [show decide (n ≤ (40 : Int)) = true from decide_eq_true h2]
      refine iteF ?_
      refine ⟨_, rfl, _, _, _, _, true, rfl, .ty "list", .base (.lst h), kit_ty (by decide +kernel), _, rfl, ?_⟩
      refine iteF ?_
      refine ⟨_, rfl, a, xs, rfl, .inl (SqL.of h), _, _, rfl, rfl, _, rfl, ?_⟩
      rw [show decide ((120 : Int) < (xs.length : Int)) = true from decide_eq_true (by omega)]
      exact iteT (hQ _ (.refl _))
    | @bad n a xs bs h1 h2 h l ts hb =>
      refine ⟨_, rfl, _, true, rfl, .int n, _, rfl, iteF ⟨_, rfl, _, _, rfl, rfl, _, rfl, ?_⟩⟩
      rw [show decide ((1 : Int) ≤ n) = true from decide_eq_true h1]
      refine iteT ⟨_, _, rfl, rfl, _, rfl, ?_⟩
      rw [show decide (n ≤ (40 : Int)) = true from decide_eq_true h2]
      refine iteF ?_
      refine ⟨_, rfl, _, _, _, _, true, rfl, .ty "list", .base (.lst h), kit_ty (by decide +kernel), _, rfl, ?_⟩
      refine iteF ?_
      refine ⟨_, rfl, a, xs, rfl, .inl (SqL.of h), _, _, rfl, rfl, _, rfl, ?_⟩
      rw [show decide ((120 : Int) < (xs.length : Int)) = false from decide_eq_false (by omega)]
      refine iteF ?_
      refine ⟨_, rfl, a, xs, rfl, SqL.of h, for_it (walk_enum (K := K) (a := a) (xs := xs)) (fun i σ H' => Same H H' ∧ (∀ j b, j < i → bs[j]? = some b → b = true) ∧ ∃ u v, σ = [some (.int n), some (.ref a), u, v]) ⟨.refl _, (fun j b hj => absurd hj (by omega)), none, none, rfl⟩ (fun i σ H' _ p => p.1.seq (SqL.of h)) ?_ ?_⟩
      · rintro i x σ H1 H2 hi ⟨s1, hall, u, v, rfl⟩ ⟨T0, x1, x2, rfl, nT, rfl, e1, e2⟩
        cases e1
        have s2 : Same H (upd H1 T0 (.tup [.int (i : Nat), x2])) := sameN s1 nT
        obtain ⟨b, eb, tb⟩ := paired_get ts e2
        refine ⟨T0, _, rfl, SqT.of upd_same, rfl, _, [x2], rfl, x2, [], rfl, rfl, ?_⟩
        refine ⟨_, rfl, _, rfl, x2, n, b, rfl, tb.same s2, fun H3 s3 => ?_⟩
        refine ⟨_, rfl, ?_⟩
        cases b with
        | true =>
          refine iteF ?_
          refine ⟨s2.trans s3, fun j b hj hb => ?_, _, _, rfl⟩
          by_cases e : j = i
          · subst e
            rw [eb] at hb
            exact (Option.some.inj hb).symm
          · exact hall j b (by omega) hb
        | false =>
          refine iteT ?_
          have st := small_text i (by omega)
          refine ⟨_, rfl, (by show (PySem.Str.empty ++ (("tie " : PySem.Str))).length ≤ sizeLine; decide +kernel), _, rfl, .inr ⟨_, rfl, ?_, ?_⟩⟩
          · exact st.2.2
          · refine ⟨_, rfl, st.1, _, rfl, st.2.1, ?_⟩
            exact hQ _ (s2.trans s3)
      · rintro σ H1 ⟨s1, hall, _⟩
        exfalso
        have : bs.all id = true := by
          rw [List.all_eq_true]
          intro b hb
          obtain ⟨j, hj, e⟩ := List.getElem_of_mem hb
          have hl := paired_length ts
          exact hall j b (by omega) (by rw [List.getElem?_eq_getElem hj, e])
        rw [hb] at this
        cases this
    | @good n a xs bs h1 h2 h l ts hb =>
      refine ⟨_, rfl, _, true, rfl, .int n, _, rfl, iteF ⟨_, rfl, _, _, rfl, rfl, _, rfl, ?_⟩⟩
      rw [show decide ((1 : Int) ≤ n) = true from decide_eq_true h1]
      refine iteT ⟨_, _, rfl, rfl, _, rfl, ?_⟩
      rw [show decide (n ≤ (40 : Int)) = true from decide_eq_true h2]
      refine iteF ?_
      refine ⟨_, rfl, _, _, _, _, true, rfl, .ty "list", .base (.lst h), kit_ty (by decide +kernel), _, rfl, ?_⟩
      refine iteF ?_
      refine ⟨_, rfl, a, xs, rfl, .inl (SqL.of h), _, _, rfl, rfl, _, rfl, ?_⟩
      rw [show decide ((120 : Int) < (xs.length : Int)) = false from decide_eq_false (by omega)]
      refine iteF ?_
      refine ⟨_, rfl, a, xs, rfl, SqL.of h, for_it (walk_enum (K := K) (a := a) (xs := xs)) (fun i σ H' => Same H H' ∧ ∃ u v, σ = [some (.int n), some (.ref a), u, v]) ⟨.refl _, none, none, rfl⟩ (fun i σ H' _ p => p.1.seq (SqL.of h)) ?_ ?_⟩
      · rintro i x σ H1 H2 hi ⟨s1, u, v, rfl⟩ ⟨T0, x1, x2, rfl, nT, rfl, e1, e2⟩
        cases e1
        have s2 : Same H (upd H1 T0 (.tup [.int (i : Nat), x2])) := sameN s1 nT
        obtain ⟨b, eb, tb⟩ := paired_get ts e2
        have eb2 : b = true := List.all_eq_true.mp hb b (List.mem_of_getElem? eb)
        subst eb2
        refine ⟨T0, _, rfl, SqT.of upd_same, rfl, _, [x2], rfl, x2, [], rfl, rfl, ?_⟩
        refine ⟨_, rfl, _, rfl, x2, n, true, rfl, tb.same s2, fun H3 s3 => ?_⟩
        exact ⟨_, rfl, iteF ⟨s2.trans s3, _, _, rfl⟩⟩
      · rintro σ H1 ⟨s1, _⟩
        exact hQ _ s1
end
end TT
namespace TT
open PySem L2 TH
/-! ### webs on the heap -/
def tV (t : Tie) : List V := [.int t.1, .int t.2]
def TiesV (H : Hp) (a : Addr) (ts : List Tie) : Prop := ∃ as : List Addr, H a = some (.lst (as.map V.ref)) ∧ Paired (fun q t => H q = some (.tup (tV t))) as ts
theorem TiesV.same {H H' : Hp} {a : Addr} {ts : List Tie} (s : Same H H') (h : TiesV H a ts) : TiesV H' a ts := by
  obtain ⟨as, h1, h2⟩ := h
  exact ⟨as, s _ _ h1, Paired.mapP h2 fun q t e => s _ _ e⟩
theorem TiesV.at {H : Hp} {a : Addr} {ts : List Tie} {as : List Addr} (h : Paired (fun q t => H q = some (.tup (tV t))) as ts) {i : Nat} {x : V} (e : (as.map V.ref)[i]? = some x) : ∃ q, x = .ref q ∧ i < ts.length ∧ H q = some (.tup (tV (tget ts i))) := by
  rw [List.getElem?_map] at e
  cases e2 : as[i]? with
  | none => rw [e2] at e; cases e
  | some q =>
    rw [e2] at e
    cases e
    obtain ⟨t, h1, h2⟩ := paired_get h e2
    have hi := (List.getElem?_eq_some_iff.mp h1).1
    rw [tget_getElem? hi] at h1
    cases h1
    exact ⟨q, rfl, hi, h2⟩
theorem TiesV.get {H : Hp} {a : Addr} {ts : List Tie} {as : List Addr} (h : Paired (fun q t => H q = some (.tup (tV t))) as ts) {i : Nat} (hi : i < ts.length) : ∃ q, (as.map V.ref)[i]? = some (.ref q) ∧ H q = some (.tup (tV (tget ts i))) := by
  have hl := paired_length h
  have e : (as.map V.ref)[i]? = some (.ref as[i]) := by rw [List.getElem?_map, List.getElem?_eq_getElem (by omega)]; rfl
  obtain ⟨q, h1, _, h2⟩ := TiesV.at (a := a) h e
  cases h1
  exact ⟨_, e, h2⟩
abbrev nV (k : Nat) : V := .int (k : Int)
def nL (xs : List Nat) : List V := xs.map nV
theorem nL_len (xs : List Nat) : (nL xs).length = xs.length := List.length_map _
def oV : Option Nat → V
  | some k => nV k
  | none => .non
theorem inV_tie (v : Nat) (t : Tie) : inV (nV v) (tV t) = tch v t := by
  unfold inV tV tch
  simp only [List.any_cons, List.any_nil, Bool.or_false, eqV]
  congr 1
  · by_cases h : t.1 = v
    · rw [show (t.1 == v) = true from by simpa using h, show ((t.1 : Int) == (v : Int)) = true from by simp [h]]
    · rw [show (t.1 == v) = false from by simpa using h, show ((t.1 : Int) == (v : Int)) = false from by simp; omega]
  · by_cases h : t.2 = v
    · rw [show (t.2 == v) = true from by simpa using h, show ((t.2 : Int) == (v : Int)) = true from by simp [h]]
    · rw [show (t.2 == v) = false from by simpa using h, show ((t.2 : Int) == (v : Int)) = false from by simp; omega]
/-- what the top has left: webs, on -/
structure G2 (K : PySem.W.Frag) (mg : PySem.Str → Option Value) extends G1 K mg where
  ties_at : DefAt K mg "ties_at" s_ties_at ["place", "ties"]
  far_end : DefAt K mg "far_end" s_far_end ["tie", "place"]
  reach_from : DefAt K mg "reach_from" s_reach_from ["root", "ties"]
  part_of : DefAt K mg "part_of" s_part_of ["start", "places", "ties"]
  parts_of : DefAt K mg "parts_of" s_parts_of ["places", "ties"]
  bars_two : DefAt K mg "bars_two" s_bars_two ["part", "ties"]
def spTiesAt : Sp := fun vs H Q _ => ∃ (v : Nat) (a : Addr) (ts : List Tie), vs = [nV v, .ref a] ∧ TiesV H a ts ∧ ts.length ≤ 1000 ∧ ∀ H' p, Same H H' → H p = none → H' p = some (.lst (nL (tiesAt v ts))) → Q (.ref p) H'
section
variable {P : Program} {w : World} {K : PySem.W.Frag} {mg : PySem.Str → Option Value} {base : Heap}
theorem sc_ties_at : FnScope ["place", "ties", "k", "tie"] ["place", "ties"] (defScope s_ties_at) := ⟨rfl, rfl, rfl, by decide +kernel, rfl, by decide +kernel, by decide +kernel⟩
theorem ok_ties_at (T : G2 K mg) : FnOk P w K mg base CX0 1 T.ties_at.f T.ties_at.fd ["place", "ties"] spTiesAt := by
  refine T.ties_at.F.ok sc_ties_at (fun vs H Q E h => ?_) (fun cdv A outer s H vs Q E hr h => ?_)
  · obtain ⟨v, a, ts, rfl, _⟩ := h
    rfl
  · obtain ⟨v, a, ts, rfl, ⟨as, h1, h2⟩, hlen, hQ⟩ := h
    have nd := sc_ties_at.nd
    have hl := paired_length h2
    refine ⟨_, pss_one (ps_ret (pe_lc (own := [("k", 2), ("tie", 3)]) (g := gTup K 2 (gCons (gName 2) (gCons (gName 3) gNil))) (tt := tTest (tOp (rIn K false) (tVar 0) (tVar 3))) rfl nd (pi_enum (by rfl) T.b.enumerate (pa_cons (pv 1) pa_nil)) (blkOk_by (N := ["place", "ties", "k", "tie"]) (sc := defScope s_ties_at) (by decide +kernel))
        (fun _ _ _ _ _ => pg_tup rfl (pgs_cons (pg_name (i := 2) nd rfl (Or.inl rfl)) (pgs_cons (pg_name (i := 3) nd rfl (Or.inl rfl)) pgs_nil))) (fun _ _ _ _ _ => pts_one (pt_cmpR op_in_seq (pv 0) (pv 3) (by rfl)))
        (fun _ _ _ _ _ => pv 2))), ?_⟩
    refine ⟨_, rfl, a, as.map V.ref, rfl, SqL.of h1, fun D hD => ?_⟩
    refine lc_filt (walk_enum (K := K) (a := a) (xs := as.map V.ref)) (fun k => tch v (tget ts k)) nV hD (by rw [List.length_map]; omega) (fun H1 s1 => s1.seq (SqL.of h1)) ypair_same ?_ ?_
    · rintro i x H1 H2 kT kF hi s1 ⟨T0, x1, x2, rfl, nT, rfl, e1, e2⟩ k1 k2
      cases e1
      obtain ⟨q, rfl, hi2, hq⟩ := TiesV.at (a := a) h2 e2
      have sN := same_new (o := HO.tup [.int (i : Nat), .ref q]) nT
      refine ⟨T0, _, rfl, SqT.of upd_same, rfl, _, [.ref q], rfl, _, [], rfl, rfl, rfl, ?_⟩
      refine ⟨_, rfl, _, rfl, q, tV (tget ts i), rfl, .inr (SqT.of (sN _ _ (s1 _ _ hq))), rfl, rfl, _, rfl, ?_⟩
      show if inV (nV v) (tV (tget ts i)) = true then _ else _
      rw [inV_tie]
      cases c : tch v (tget ts i) with
      | true => exact iteT ⟨_, rfl, k1 c _ (.refl _)⟩
      | false => exact iteF (k2 c _ (.refl _))
    · intro H1 s1 e
      refine hQ _ D s1 hD ?_
      rw [e, List.length_map, hl]
      rfl
end
end TT
namespace TT
open PySem L2 TH
theorem nil_or_snoc {α : Type} (xs : List α) : xs = [] ∨ ∃ ys y, xs = ys ++ [y] := by
  rcases List.eq_nil_or_concat xs with h | ⟨ys, y, h⟩
  · exact .inl h
  · exact .inr ⟨ys, y, by rw [h, List.concat_eq_append]⟩
/-! ### tuples stay -/
def TupStay (H H' : Hp) : Prop := ∀ b xs, H b = some (.tup xs) → H' b = some (.tup xs)
theorem TupStay.of {H H' : Hp} (s : Same H H') : TupStay H H' := fun b xs e => s b _ e
theorem TupStay.lst {H : Hp} {p : Addr} {o : HO} {ys : List V} (h : H p = some (.lst ys)) : TupStay H (upd H p o) := fun b xs e => by
  have : b ≠ p := fun z => by rw [z, h] at e; cases e
  rw [upd_ne this]; exact e
theorem TupStay.dK {H : Hp} {p : Addr} {o : HO} {ys : List (Key × V)} (h : H p = some (.dK ys)) : TupStay H (upd H p o) := fun b xs e => by
  have : b ≠ p := fun z => by rw [z, h] at e; cases e
  rw [upd_ne this]; exact e
/-! ### the tree on the heap -/
def EntV (H : Hp) (kv : Key × V) (e : Nat × Nat × Option Nat) : Prop := kv.1 = Sum.inl (e.1 : Int) ∧ ∃ q, kv.2 = .ref q ∧ H q = some (.tup [nV e.2.1, oV e.2.2])
def TreeV (H : Hp) (p : Addr) (T : TreeL) : Prop := ∃ kvs, H p = some (.dK kvs) ∧ Paired (EntV H) kvs T
theorem EntV.stay {H H' : Hp} (s : TupStay H H') {kvs : List (Key × V)} {T : TreeL} (h : Paired (EntV H) kvs T) : Paired (EntV H') kvs T :=
  Paired.mapP h fun kv e ⟨h1, q, h2, h3⟩ => ⟨h1, q, h2, s _ _ h3⟩
theorem TreeV.same {H H' : Hp} {p : Addr} {T : TreeL} (s : Same H H') (h : TreeV H p T) : TreeV H' p T := by
  obtain ⟨kvs, h1, h2⟩ := h
  exact ⟨kvs, s _ _ h1, EntV.stay (.of s) h2⟩
theorem ent_key {a b : Nat} : (Sum.inl (a : Int) : Key) = Sum.inl (b : Int) ↔ a = b := by
  constructor
  · intro h
    have := Sum.inl.inj h
    omega
  · intro h; rw [h]
theorem ent_none {H : Hp} {v : Nat} : ∀ {kvs : List (Key × V)} {T : TreeL}, Paired (EntV H) kvs T → inT T v = false → valV kvs (Sum.inl (v : Int)) = none
  | _, _, .nil, _ => rfl
  | (kk, kx) :: kvs, (u, d, o) :: T, .cons r t, h => by
    obtain ⟨h1, _⟩ := r
    have h1 : kk = Sum.inl (u : Int) := h1
    unfold inT at h
    rw [List.lookup_cons] at h
    by_cases e : v = u
    · subst e
      simp at h
    · rw [show (v == u) = false from by simpa using e] at h
      rw [valV_neg (fun z => e ((ent_key.mp (h1.symm.trans z)).symm))]
      exact ent_none t h
theorem ent_some {H : Hp} {v d : Nat} {o : Option Nat} : ∀ {kvs : List (Key × V)} {T : TreeL}, Paired (EntV H) kvs T → T.lookup v = some (d, o) → ∃ q, valV kvs (Sum.inl (v : Int)) = some (.ref q) ∧ H q = some (.tup [nV d, oV o])
  | _, _, .nil, h => by cases h
  | (kk, kx) :: kvs, (u, d', o') :: T, .cons r t, h => by
    obtain ⟨h1, q, h2, h3⟩ := r
    have h1 : kk = Sum.inl (u : Int) := h1
    have h2 : kx = .ref q := h2
    rw [List.lookup_cons] at h
    by_cases e : v = u
    · subst e
      simp at h
      obtain ⟨e1, e2⟩ := h
      subst e1 e2
      exact ⟨q, by rw [valV_pos h1]; exact congrArg some h2, h3⟩
    · rw [show (v == u) = false from by simpa using e] at h
      rw [valV_neg (fun z => e ((ent_key.mp (h1.symm.trans z)).symm))]
      exact ent_some t h
theorem paired_snoc {α β : Type} {F : α → β → Prop} {x : α} {y : β} : ∀ {xs : List α} {ys : List β}, Paired F xs ys → F x y → Paired F (xs ++ [x]) (ys ++ [y])
  | _, _, .nil, h => .cons h .nil
  | _, _, .cons r t, h => .cons r (paired_snoc t h)
theorem seqAt_nat (n : Nat) : SeqAt.shaped (.int (n : Int)) = true := rfl
theorem nL_snoc (xs : List Nat) (x : Nat) : nL (xs ++ [x]) = nL xs ++ [nV x] := by unfold nL; rw [List.map_append]; rfl
def spFarEnd (K : PySem.W.Frag) : Sp := fun vs H Q _ => ∃ (q : Addr) (p r x : V) (d e : PyData), vs = [.ref q, x] ∧ H q = some (.tup [p, r]) ∧ Dp K H x e ∧ Dp K H p d ∧ SeqAt.shaped d = true ∧ SeqAt.shaped e = true ∧ Q (if PyData.eqv e d = true then r else p) H
theorem far_val (t : Tie) (v : Nat) : (if PyData.eqv (.int (v : Int)) (.int (t.1 : Int)) = true then (.int (t.2 : Int) : V) else .int (t.1 : Int)) = nV (far t v) := by
  unfold PyData.eqv far nV
  by_cases h : v = t.1
  · rw [if_pos h, if_pos (by simp [h])]
  · rw [if_neg h, if_neg (by simp; omega)]
def spReach (n : Nat) : Sp := fun vs H Q _ => ∃ (root : Nat) (a : Addr) (ts : List Tie), vs = [nV root, .ref a] ∧ TiesV H a ts ∧ ts.length ≤ 1000 ∧ Ok n ts ∧ root < n ∧ n ≤ 1000 ∧ ∀ H' p T, Same H H' → H p = none → TreeV H' p T → GoodTree ts n root T → Q (.ref p) H'
section
variable {P : Program} {w : World} {K : PySem.W.Frag} {mg : PySem.Str → Option Value} {base : Heap}
theorem sc_far_end : FnScope ["tie", "place", "low", "high"] ["tie", "place"] (defScope s_far_end) := ⟨rfl, rfl, rfl, by decide +kernel, rfl, by decide +kernel, by decide +kernel⟩
theorem ok_far_end (T : G2 K mg) : FnOk P w K mg base CX0 1 T.far_end.f T.far_end.fd ["tie", "place"] (spFarEnd K) := by
  refine T.far_end.F.ok sc_far_end (fun vs H Q E h => ?_) (fun cdv A outer s H vs Q E hr h => ?_)
  · obtain ⟨_, _, _, _, _, _, rfl, _⟩ := h
    rfl
  · obtain ⟨q, p, r, x, d, e, rfl, hq, he, hd, sd, se, hQ⟩ := h
    have nd := sc_far_end.nd
    refine ⟨_, pss_cons (ps_asg (pv 0) (pg_tup (by rfl) (pgs_cons (pg_name (i := 2) nd rfl (.inl rfl)) (pgs_cons (pg_name (i := 3) nd rfl (.inl rfl)) pgs_nil))))
      (pss_one (ps_ret (pe_ifExp (pt_cmpR (op_eqD hr.units) (pv 1) (pv 2) (nomark _)) (pv 3) (pv 2)))), ?_⟩
    refine ⟨_, rfl, q, [p, r], rfl, SqT.of hq, rfl, p, [r], rfl, r, [], rfl, rfl, ?_⟩
    refine ⟨_, rfl, _, rfl, e, d, he, hd, se, sd, _, rfl, ?_⟩
    cases c : PyData.eqv e d with
    | true =>
      rw [c, if_pos rfl] at hQ
      exact iteT ⟨_, rfl, hQ⟩
    | false =>
      rw [c, if_neg (by decide)] at hQ
      exact iteF ⟨_, rfl, hQ⟩
theorem sc_reach_from : FnScope ["root", "ties", "reached", "waiting", "place", "k", "far"] ["root", "ties"] (defScope s_reach_from) := ⟨rfl, rfl, rfl, by decide +kernel, rfl, by decide +kernel, by decide +kernel⟩
theorem ok_reach_from (n : Nat) (T : G2 K mg) : FnOk P w K mg base CX0 2 T.reach_from.f T.reach_from.fd ["root", "ties"] (spReach n) := by
  have TA : FnOk P w K mg base CX0 1 T.ties_at.f T.ties_at.fd ["place", "ties"] spTiesAt := ok_ties_at T
  have FE : FnOk P w K mg base CX0 1 T.far_end.f T.far_end.fd ["tie", "place"] (spFarEnd K) := ok_far_end T
  refine T.reach_from.F.ok sc_reach_from (fun vs H Q E h => ?_) (fun cdv A outer s H vs Q E hr h => ?_)
  · obtain ⟨_, _, _, rfl, _⟩ := h
    rfl
  · obtain ⟨root, a, ts, rfl, hts, hlen, ok, hroot, hn, hQ⟩ := h
    have nd := sc_reach_from.nd
    have hu := hu_of hr
    refine ⟨_, pss_cons (ps_set (i := 2) nd rfl (.inl rfl) (pe_disp (pps_cons (pv 0) (pe_tup (pa_cons pe_int (pa_cons pe_non pa_nil))) pps_nil) (by rfl) (by rfl) (fun z => by cases z) (by decide)))
      (pss_cons (ps_set (i := 3) nd rfl (.inl rfl) (pe_lst (pa_cons (pv 0) pa_nil)))
      (pss_cons (ps_whileS PassesOwn.never (pt_truth (pv 3) (by intro _; rfl))
        (pss_cons (ps_set (i := 4) nd rfl (.inl rfl) (pe_bm0 PySem.F.plainAttrs_list PySem.F.slot_list_pop PySem.F.type_list_pop mt_pop (pv 3)))
        (pss_one (ps_for PassesOwn.never rfl (pi_list (pe_call TA hr (by rfl) T.ties_at.g T.ties_at.F.kp T.ties_at.b .nil pass0 (pa_cons (pv 4) (pa_cons (pv 1) pa_nil)))) (pg_name (i := 5) nd rfl (.inl rfl))
          (pss_cons (ps_set (i := 6) nd rfl (.inl rfl) (pe_call FE hr (by rfl) T.far_end.g T.far_end.F.kp T.far_end.b .nil pass0 (pa_cons (pe_ix ix_list (pv 1) (pv 5) (fun _ _ => rfl)) (pa_cons (pv 4) pa_nil))))
          (pss_one (ps_if (pt_cmp (pc_dnotin hu (pv 6) (pv 2)))
            (pss_cons (ps_dput hu (pv 2) (pv 6) (pe_tup (pa_cons (pe_op op_add (pe_ix ix_tup (pe_dget hu (pv 2) (pv 4) (fun _ _ => rfl)) pe_int (fun _ _ => rfl)) pe_int) (pa_cons (pv 5) pa_nil))) rfl)
            (pss_one (ps_expr (pe_bm PySem.F.plainAttrs_list PySem.F.slot_list_append PySem.F.type_list_append mt_append (pv 3) (pa_cons (pv 6) pa_nil))))) pss_nil)))))))
      (pss_one (ps_ret (pv 2))))), ?_⟩
    intro R hR
    refine ⟨_, rfl, (by show 2 ≤ sizeLine; decide), fun t0 ht0 => ?_⟩
    have rt : R ≠ t0 := fun z => by rw [← z, upd_same] at ht0; cases ht0
    have ht00 : H t0 = none := by rw [upd_ne rt.symm] at ht0; exact ht0
    refine ⟨by rw [upd_ne rt]; exact upd_same, [(Sum.inl (root : Int), .ref t0)], rfl, (by show 1 ≤ 15; decide), ?_⟩
    refine ⟨_, rfl, (by show 1 ≤ sizeLine; decide), fun W hW => ?_⟩
    have rw0 : R ≠ W := fun z => by rw [← z, upd_same] at hW; cases hW
    have hW1 : upd (upd H R (.dK [])) t0 (.tup [.int 0, .non]) W = none := by rw [upd_ne rw0.symm] at hW; exact hW
    have tw : t0 ≠ W := fun z => by rw [← z, upd_same] at hW1; cases hW1
    have hW0 : H W = none := by rw [upd_ne tw.symm, upd_ne rw0.symm] at hW1; exact hW1
    refine ⟨while_by (fun σ H' => ∃ (T : TreeL) (ws : List Nat) (x4 x5 x6 : Option V), σ = [some (nV root), some (.ref a), some (.ref R), some (.ref W), x4, x5, x6] ∧ Same H H' ∧ H' W = some (.lst (nL ws)) ∧ TreeV H' R T ∧ Tree ts n root T ∧ Reach ts T ws ∧ (∀ v ∈ ws, inT T v = true) ∧ ws.length ≤ T.length)
      (fun _ H' => (match H' R with | some (.dK kvs) => 2 * (n - kvs.length) | _ => 0) + (match H' W with | some (.lst ws) => ws.length | _ => 0)) ?_ ?_ ?_⟩
    · refine ⟨[(root, 0, none)], [root], none, none, none, rfl, ?_, upd_same, ⟨[(Sum.inl (root : Int), .ref t0)], by rw [upd_ne rw0]; exact upd_same, .cons ⟨rfl, t0, rfl, ?_⟩ .nil⟩, Tree.single ts hroot, fun v h1 h2 => ?_, fun v hv => ?_, Nat.le_refl _⟩
      · exact sameU (sameU (sameU (sameU (.refl _) hR) ht00) hR) hW0
      · rw [upd_ne tw, upd_ne rt.symm]; exact upd_same
      · rw [lookup_mem] at h1
        simp at h1 h2
        exact absurd h1 h2
      · rw [List.mem_singleton.mp hv, lookup_mem]
        simp
    · rintro σ H1 ⟨T1, ws, x4, x5, x6, rfl, s1, hW1, ⟨kvs, hR1, hE⟩, tr, rc, win, hwl⟩
      refine ⟨_, rfl, !(nL ws).isEmpty, .inl ⟨_, SqL.of hW1, rfl⟩, ?_⟩
      rcases nil_or_snoc ws with rfl | ⟨ws0, cur, rfl⟩
      · refine iteF ⟨_, rfl, ?_⟩
        exact hQ H1 R T1 s1 hR ⟨kvs, hR1, hE⟩ (rc.good ok tr)
      · have e1 : (!(nL (ws0 ++ [cur])).isEmpty) = true := by rw [nL_snoc]; simp
        rw [e1]
        refine iteT ?_
        rw [nL_snoc] at hW1
        refine ⟨_, rfl, .inl ⟨rfl, _, SqL.of hW1⟩, W, _, nV cur, rfl, rfl, hW1, by simp, ?_⟩
        rw [List.dropLast_concat]
        have rwS := RW.start tr rc win
        have hsz := tr.size
        have hl := paired_length hE
        have sW := TupStay.lst (o := .lst (nL ws0)) hW1
        refine ⟨_, rfl, _, rfl, cur, a, ts, rfl, (hts.same (sameU s1 hW0)), hlen, fun H2 L s2 hL0 hL => ?_⟩
        have s2' : Same H H2 := (sameU s1 hW0).trans s2
        refine ⟨L, rfl, ⟨_, SqL.of hL⟩, for_it (walk_list (K := K) (a := L) (xs := nL (tiesAt cur ts)))
          (fun i σ H' => ∃ (T : TreeL) (ws : List Nat) (x5 x6 : Option V), σ = [some (nV root), some (.ref a), some (.ref R), some (.ref W), some (nV cur), x5, x6] ∧ Same H H' ∧ H' L = some (.lst (nL (tiesAt cur ts))) ∧ H' W = some (.lst (nL ws)) ∧ TreeV H' R T ∧ RW ts n root T ws cur ((tiesAt cur ts).take i) ∧ ws.length + T1.length = ws0.length + T.length ∧ T1.length ≤ T.length)
          ⟨T1, ws0, x5, x6, rfl, s2', hL, s2 _ _ upd_same, ⟨kvs, s2 _ _ ?_, EntV.stay (fun b xs e => s2 _ _ (sW b xs e)) hE⟩, rwS, rfl, Nat.le_refl _⟩ (fun i σ H' _ p => ?_) ?_ ?_⟩
        · rw [upd_ne (fun z => by rw [← z, hR1] at hW1; cases hW1)]; exact hR1
        · obtain ⟨_, _, _, _, _, _, h, _⟩ := p
          exact SqL.of h
        · rintro i x σ H3 H4 hi ⟨T2, ws2, y5, y6, rfl, s3, hL3, hW3, ⟨kvs2, hR3, hE3⟩, rw3, hc, hc2⟩ ⟨rfl, hx⟩
          rw [nL_len] at hi
          have hx2 : x = nV (tiesAt cur ts)[i] := by
            unfold nL at hx
            rw [List.getElem?_map, List.getElem?_eq_getElem hi] at hx
            exact (Option.some.inj hx).symm
          subst hx2
          have hmem : (tiesAt cur ts)[i] ∈ tiesAt cur ts := List.getElem_mem hi
          obtain ⟨hk, hkt⟩ := mem_tiesAt.mp hmem
          have htake : (tiesAt cur ts).take (i + 1) = (tiesAt cur ts).take i ++ [(tiesAt cur ts)[i]] := by
            rw [List.take_succ, List.getElem?_eq_getElem hi]; rfl
          generalize (tiesAt cur ts)[i] = k at hk hkt htake
          obtain ⟨as, ha, hp⟩ := hts.same s3
          obtain ⟨q, hq1, hq2⟩ := TiesV.get (a := a) hp hk
          refine ⟨_, rfl, _, rfl, a, _, _, _, rfl, rfl, SqL.of ha, atI_nat hq1, _, rfl, ?_⟩
          refine ⟨q, _, _, nV cur, .int (tget ts k).1, .int cur, rfl, hq2, .int _, .int _, rfl, rfl, ?_⟩
          rw [far_val]
          have hfl := far_lt ok (v := cur) hk
          generalize hf : far (tget ts k) cur = fv at hfl
          have hget : DGet H4 R (nV fv) (valV kvs2 (Sum.inl (fv : Int))) := DGet.k (k := Sum.inl (fv : Int)) hR3
          refine ⟨_, rfl, _, rfl, R, _, rfl, hget, _, rfl, ?_⟩
          cases hin : inT T2 fv with
          | true =>
            have hv : (valV kvs2 (Sum.inl (fv : Int))).isSome = true := by
              obtain ⟨⟨d, o⟩, hdo⟩ := Option.isSome_iff_exists.mp hin
              obtain ⟨q2, e2, _⟩ := ent_some hE3 hdo
              rw [e2]; rfl
            rw [hv]
            refine iteF ?_
            refine ⟨T2, ws2, _, _, rfl, s3, hL3, hW3, ⟨kvs2, hR3, hE3⟩, ?_, hc, hc2⟩
            rw [htake]
            exact rw3.old (by rw [hf]; exact hin)
          | false =>
            rw [ent_none hE3 hin]
            refine iteT ?_
            obtain ⟨⟨d, o⟩, hdo⟩ := Option.isSome_iff_exists.mp rw3.curIn
            obtain ⟨q2, e2, hq22⟩ := ent_some hE3 hdo
            have hget2 : DGet H4 R (nV cur) (some (.ref q2)) := by
              have := DGet.k (k := Sum.inl (cur : Int)) hR3
              rw [e2] at this
              exact this
            refine ⟨_, rfl, _, rfl, R, .ref q2, rfl, hget2, q2, _, 0, nV d, rfl, rfl, SqT.of hq22, rfl, _, _, rfl, rfl, _, rfl, (by show 2 ≤ sizeLine; decide), fun t1 ht1 => ?_⟩
            have hRt : R ≠ t1 := ne_of_none hR3 ht1
            have hWt : W ≠ t1 := ne_of_none hW3 ht1
            have hLt : L ≠ t1 := ne_of_none hL3 ht1
            have hWR : W ≠ R := ne_of hW3 hR3 (by intro z; cases z)
            have hLW : L ≠ W := fun z => by rw [z, upd_same] at hL0; cases hL0
            have hLR : L ≠ R := ne_of hL3 hR3 (by intro z; cases z)
            have hlen3 := paired_length hE3
            have hsz3 := rw3.tree.size
            refine ⟨_, rfl, _, rfl, R, _, rfl, DPut.k (k := Sum.inl (fv : Int)) (kvs := kvs2) (by rw [upd_ne hRt]; exact hR3) (by rw [PySem.sizeLine_eq]; omega), ?_⟩
            rw [putK_new _ (ent_none hE3 hin)]
            have hWn : upd (upd H4 t1 (.tup [.int ((d : Int) + 1), nV k])) R (.dK (kvs2 ++ [(Sum.inl (fv : Int), .ref t1)])) W = some (.lst (nL ws2)) := by rw [upd_ne hWR, upd_ne hWt]; exact hW3
            have hlw : ws2.length < sizeLine := by
              rw [PySem.sizeLine_eq]
              rw [List.length_append, List.length_singleton] at hwl
              omega
            refine ⟨_, rfl, .inl ⟨rfl, _, SqL.of hWn⟩, _, rfl, W, _, _, rfl, rfl, hWn, (by rw [nL_len]; exact hlw), ?_⟩
            rw [← nL_snoc]
            refine ⟨T2 ++ [(fv, d + 1, some k)], ws2 ++ [fv], _, _, rfl, ?_, ?_, upd_same, ⟨_, by rw [upd_ne hWR.symm]; exact upd_same, ?_⟩, ?_, ?_, ?_⟩
            · exact sameU (sameU (sameN s3 ht1) hR) hW0
            · rw [upd_ne hLW, upd_ne hLR, upd_ne hLt]; exact hL3
            · refine paired_snoc (EntV.stay (fun b xs e => ?_) hE3) ⟨rfl, t1, rfl, ?_⟩
              · have b1 : b ≠ W := fun z => by rw [z, hW3] at e; cases e
                have b2 : b ≠ R := fun z => by rw [z, hR3] at e; cases e
                rw [upd_ne b1, upd_ne b2, upd_ne (ne_of_none e ht1)]; exact e
              · rw [upd_ne hWt.symm, upd_ne hRt.symm, upd_same]
                show some (HO.tup [.int ((d : Int) + 1), nV k]) = some (.tup [.int ((d + 1 : Nat) : Int), nV k])
                rw [Int.natCast_add]
                rfl
            · rw [htake, ← hf]
              exact rw3.fresh hk hkt hdo (by rw [hf]; exact hin) (by rw [hf]; exact hfl)
            · simp only [List.length_append, List.length_singleton]
              omega
            · simp only [List.length_append, List.length_singleton]
              omega
        · rintro σ H3 ⟨T2, ws2, y5, y6, rfl, s3, hL3, hW3, ⟨kvs2, hR3, hE3⟩, rw3, hc, hc2⟩
          rw [nL_len, List.take_length] at rw3
          refine ⟨⟨T2, ws2, _, _, _, rfl, s3, hW3, ⟨kvs2, hR3, hE3⟩, rw3.tree, rw3.done, rw3.wIn, by rw [List.length_append, List.length_singleton] at hwl; omega⟩, ?_⟩
          rw [hR3, hW3, hR1, hW1]
          have h1 := paired_length hE3
          have h2 := rw3.tree.size
          simp only [nL_len, List.length_append, List.length_singleton]
          omega
    · rintro σ H1 Q1 Q2 h ⟨v, h1, k, h2, h3⟩
      exact ⟨v, h1, k, h2, h _ _ h3⟩
end
end TT
namespace TT
open PySem L2 TH
def PartsV (H : Hp) (p : Addr) (ps : List (List Nat)) : Prop := ∃ as : List Addr, H p = some (.lst (as.map V.ref)) ∧ Paired (fun q part => H q = some (.lst (nL part))) as ps
theorem PartsV.same {H H' : Hp} {a : Addr} {ps : List (List Nat)} (s : Same H H') (h : PartsV H a ps) : PartsV H' a ps := by
  obtain ⟨as, h1, h2⟩ := h
  exact ⟨as, s _ _ h1, Paired.mapP h2 fun q t e => s _ _ e⟩
def spPartOf : Sp := fun vs H Q _ => ∃ (start n : Nat) (a : Addr) (ts : List Tie), vs = [nV start, nV n, .ref a] ∧ TiesV H a ts ∧ ts.length ≤ 1000 ∧ Ok n ts ∧ start < n ∧ n ≤ 1000 ∧ ∀ H' p, Same H H' → H p = none → H' p = some (.lst (nL (partOf ts n start))) → Q (.ref p) H'
def spPartsOf : Sp := fun vs H Q _ => ∃ (n : Nat) (a : Addr) (ts : List Tie), vs = [nV n, .ref a] ∧ TiesV H a ts ∧ ts.length ≤ 1000 ∧ Ok n ts ∧ n ≤ 1000 ∧ ∀ H' p, Same H H' → H p = none → PartsV H' p (partsOf ts n) → Q (.ref p) H'
def spBars (K : PySem.W.Frag) : Sp := fun vs H Q _ => ∃ (p a : Addr) (part : List Nat) (ts : List Tie), vs = [.ref p, .ref a] ∧ H p = some (.lst (nL part)) ∧ part.length ≤ 1000 ∧ TiesV H a ts ∧ ts.length ≤ 1000 ∧ ∀ H', Same H H' → Q (.bl (barsTwo part ts)) H'
theorem sum_nat (xs : List Nat) : (xs.map fun (k : Nat) => (k : Int)).sum = ((xs.sum : Nat) : Int) := by
  induction xs with
  | nil => rfl
  | cons a r ih => simp only [List.map_cons, List.sum_cons, ih]; omega
section
variable {P : Program} {w : World} {K : PySem.W.Frag} {mg : PySem.Str → Option Value} {base : Heap}
theorem sc_part_of : FnScope ["start", "places", "ties", "reached", "place"] ["start", "places", "ties"] (defScope s_part_of) := ⟨rfl, rfl, rfl, by decide +kernel, rfl, by decide +kernel, by decide +kernel⟩
theorem ok_part_of (T : G2 K mg) : FnOk P w K mg base CX0 3 T.part_of.f T.part_of.fd ["start", "places", "ties"] spPartOf := by
  refine T.part_of.F.ok sc_part_of (fun vs H Q E h => ?_) (fun cdv A outer s H vs Q E hr h => ?_)
  · obtain ⟨_, _, _, _, rfl, _⟩ := h
    rfl
  · obtain ⟨start, n, a, ts, rfl, hts, hlen, ok, hs, hn, hQ⟩ := h
    have RF : FnOk P w K mg base CX0 2 T.reach_from.f T.reach_from.fd ["root", "ties"] (spReach n) := ok_reach_from n T
    have nd := sc_part_of.nd
    have hu := hu_of hr
    refine ⟨_, pss_cons (ps_set (i := 3) nd rfl (.inr rfl) (pe_call RF hr (by rfl) T.reach_from.g T.reach_from.F.kp T.reach_from.b .nil pass0 (pa_cons (pv 0) (pa_cons (pv 2) pa_nil))))
      (pss_one (ps_ret (pe_lc (own := [("place", 4)]) (g := gName 4) (tt := tB (tDIn (tVar 4) (tVar 3))) rfl nd (pi_range1 (by rfl) T.b.range (pa_cons (pv 1) pa_nil)) (blkOk_by (N := ["start", "places", "ties", "reached", "place"]) (sc := defScope s_part_of) (by decide +kernel))
        (fun _ _ _ _ _ => pg_name (i := 4) nd rfl (Or.inl rfl)) (fun _ _ _ _ _ => pts_one (pt_cmp (pc_din hu (pv 4) (pv 3)) (by rfl))) (fun _ _ _ _ _ => pv 4)))), ?_⟩
    refine ⟨_, rfl, _, rfl, start, a, ts, rfl, hts, hlen, ok, hs, hn, fun H1 R TT s1 hR0 hR hT => ?_⟩
    refine ⟨_, rfl, (n : Int), rfl, by omega, by omega, fun D hD => ?_⟩
    have en : (n : Int).toNat = n := Int.toNat_natCast n
    refine lc_filt (walk_range0 (n := (n : Int).toNat)) (fun v => inT TT v) nV hD (by omega) (fun _ _ => trivial) yfn_same ?_ ?_
    · rintro i x H2 H3 kT kF hi s2 ⟨rfl, rfl⟩ k1 k2
      refine ⟨rfl, ?_⟩
      obtain ⟨kvs, hR2, hE⟩ := hR.same s2
      refine ⟨_, rfl, _, rfl, R, _, rfl, DGet.k (k := Sum.inl (i : Int)) hR2, _, rfl, ?_⟩
      cases c : inT TT i with
      | true =>
        obtain ⟨⟨d, o⟩, hdo⟩ := Option.isSome_iff_exists.mp c
        obtain ⟨q2, e2, _⟩ := ent_some hE hdo
        rw [e2]
        exact iteT ⟨_, rfl, k1 c _ (.refl _)⟩
      | false =>
        rw [ent_none hE c]
        exact iteF (k2 c _ (.refl _))
    · intro H2 s2 e
      refine hQ _ D (s1.trans s2) (s1.free hD) ?_
      rw [e, en]
      rw [show (fun v => inT TT v) = connB ts start from funext hT.iff]
      rfl
theorem sc_bars_two : FnScope ["part", "ties", "counts", "place", "n"] ["part", "ties"] (defScope s_bars_two) := ⟨rfl, rfl, rfl, by decide +kernel, rfl, by decide +kernel, by decide +kernel⟩
theorem ok_bars_two (T : G2 K mg) : FnOk P w K mg base CX0 2 T.bars_two.f T.bars_two.fd ["part", "ties"] (spBars K) := by
  have TA : FnOk P w K mg base CX0 1 T.ties_at.f T.ties_at.fd ["place", "ties"] spTiesAt := ok_ties_at T
  refine T.bars_two.F.ok sc_bars_two (fun vs H Q E h => ?_) (fun cdv A outer s H vs Q E hr h => ?_)
  · obtain ⟨_, _, _, _, rfl, _⟩ := h
    rfl
  · obtain ⟨p, a, part, ts, rfl, hp, hpl, hts, hlen, hQ⟩ := h
    have nd := sc_bars_two.nd
    refine ⟨_, pss_cons (ps_setLc (i := 2) (own := [("place", 3)]) (g := gName 3) (tt := tYes) rfl nd rfl rfl (sw_true rfl rfl rfl (by decide +kernel)) (pi_list (pv 0)) (blkOk_by (N := ["part", "ties", "counts", "place", "n"]) (sc := defScope s_bars_two) (by decide +kernel))
        (fun _ _ _ _ _ => pg_name (i := 3) nd rfl (Or.inl rfl)) (fun _ _ _ _ _ => pts_nil)
        (fun _ _ _ _ _ => pe_callB (call_lnK (K := K) rfl) (by rfl) T.b.len PySem.boot_len (pa_cons (pe_call TA hr (by rfl) T.ties_at.g T.ties_at.F.kp T.ties_at.b .nil pass0 (pa_cons (pv 3) (pa_cons (pv 1) pa_nil))) pa_nil)))
      (pss_one (ps_ret (pe_and (pe_callB (cr_all rfl) (by rfl) T.b.all (by decide +kernel) (pa_cons
        (pe_lc (own := [("n", 4)]) (g := gName 4) (tt := tYes) rfl nd (pi_list (pv 2)) (blkOk_by (N := ["part", "ties", "counts", "place", "n"]) (sc := defScope s_bars_two) (by decide +kernel))
          (fun _ _ _ _ _ => pg_name (i := 4) nd rfl (Or.inl rfl)) (fun _ _ _ _ _ => pts_nil)
          (fun _ _ _ _ _ => pe_cmpR op_eq (pe_op op_mod (pv 4) pe_int) pe_int (nomark _))) pa_nil))
        (pe_one (pe_cmpR op_eq (pe_op op_mod (pe_op op_fdiv (pe_callB (cr_sum rfl) (by rfl) T.b.sum (by decide +kernel) (pa_cons (pv 2) pa_nil)) pe_int) pe_int) pe_int (nomark _)))))), ?_⟩
    refine ⟨_, rfl, p, rfl, ⟨_, SqL.of hp⟩, fun D hD => ?_⟩
    refine lc_map (walk_list (K := K) (a := p) (xs := nL part)) (fun i => nV (deg (part.getD i 0) ts)) hD (by rw [nL_len]; omega) (fun H1 s1 => s1.seq (SqL.of hp)) yat_same ?_ ?_
    · rintro i x H1 H2 k hi s1 ⟨rfl, hx⟩ k1
      refine ⟨rfl, ?_⟩
      rw [nL_len] at hi
      have ex : x = nV (part.getD i 0) := by
        unfold nL at hx
        rw [List.getElem?_map, List.getElem?_eq_getElem hi] at hx
        rw [List.getD_eq_getElem?_getD, List.getElem?_eq_getElem hi]
        exact (Option.some.inj hx).symm
      subst ex
      refine ⟨_, rfl, _, rfl, _, a, ts, rfl, hts.same s1, hlen, fun H3 L s3 _ hL => ?_⟩
      refine ⟨L, _, rfl, .inl (SqL.of hL), ?_⟩
      rw [nL_len]
      exact k1 _ s3
    · intro H1 s1 e1
      have e1' : H1 D = some (.lst (nL (part.map fun v => deg v ts))) := by
        rw [e1, nL_len]
        congr 2
        unfold nL
        rw [List.map_map, ← map_range_comp (nV ∘ fun v => deg v ts) part 0]
        rfl
      refine ⟨_, rfl, D, rfl, ⟨_, SqL.of e1'⟩, fun D2 hD2 => ?_⟩
      refine lc_map (walk_list (K := K) (a := D) (xs := nL (part.map fun v => deg v ts))) (fun i => .bl (decide (deg (part.getD i 0) ts % 2 = 0))) hD2 (by rw [nL_len, List.length_map]; omega) (fun H2 s2 => s2.seq (SqL.of e1')) yat_same ?_ ?_
      · rintro i x H2 H3 k hi s2 ⟨rfl, hx⟩ k1
        refine ⟨rfl, ?_⟩
        rw [nL_len, List.length_map] at hi
        have ex : x = nV (deg (part.getD i 0) ts) := by
          unfold nL at hx
          rw [List.map_map, List.getElem?_map, List.getElem?_eq_getElem hi] at hx
          rw [List.getD_eq_getElem?_getD, List.getElem?_eq_getElem hi]
          exact (Option.some.inj hx).symm
        subst ex
        refine ⟨_, rfl, _, _, rfl, rfl, (by show (0 : Int) < 2; decide), rfl, ?_⟩
        have e2 : decide (V.int (((deg (part.getD i 0) ts : Nat) : Int) % 2) = V.int 0) = decide (deg (part.getD i 0) ts % 2 = 0) := by
          by_cases c : deg (part.getD i 0) ts % 2 = 0
          · rw [decide_eq_true c, decide_eq_true (by congr 1; omega)]
          · rw [decide_eq_false c, decide_eq_false (fun z => c (by injection z with z; omega))]
        show k (.bl (decide (V.int (((deg (part.getD i 0) ts : Nat) : Int) % 2) = V.int 0))) H3
        rw [e2]
        exact k1 _ (.refl _)
      · intro H2 s2 e2
        refine ⟨D2, (List.range (nL (part.map fun v => deg v ts)).length).map (fun i => decide (deg (part.getD i 0) ts % 2 = 0)), rfl, SqL.of (by rw [e2, List.map_map]; rfl), ?_⟩
        have s12 : Same H H2 := s1.trans s2
        have e3 : ((List.range (nL (part.map fun v => deg v ts)).length).map (fun i => decide (deg (part.getD i 0) ts % 2 = 0))).all id = part.all (fun v => decide (deg v ts % 2 = 0)) := by
          rw [nL_len, List.length_map, map_range_comp (fun v => decide (deg v ts % 2 = 0)) part 0, List.all_map]
          rfl
        rw [e3]
        refine ⟨_, rfl, ?_⟩
        have hQ2 := hQ _ s12
        unfold barsTwo at hQ2
        cases c : part.all (fun v => decide (deg v ts % 2 = 0)) with
        | false =>
          rw [c, Bool.false_and] at hQ2
          exact iteF hQ2
        | true =>
          rw [c, Bool.true_and] at hQ2
          refine iteT ?_
          refine ⟨_, rfl, D, (part.map fun v => deg v ts).map (fun (k : Nat) => (k : Int)), rfl, SqL.of (by rw [s2 _ _ e1', nL, List.map_map, List.map_map, List.map_map]; rfl), ?_⟩
          rw [sum_nat]
          refine ⟨_, _, rfl, rfl, ⟨by decide, by decide⟩, _, _, rfl, rfl, (by show (0 : Int) < 2; decide), rfl, ?_⟩
          have e4 : decide (V.int ((((part.map fun v => deg v ts).sum : Nat) : Int) / 2 % 2) = V.int 1) = decide ((part.map fun v => deg v ts).sum / 2 % 2 = 1) := by
            by_cases c : (part.map fun v => deg v ts).sum / 2 % 2 = 1
            · rw [decide_eq_true c, decide_eq_true (by congr 1; omega)]
            · rw [decide_eq_false c, decide_eq_false (fun z => c (by injection z with z; omega))]
          show Q (.bl (decide (V.int ((((part.map fun v => deg v ts).sum : Nat) : Int) / 2 % 2) = V.int 1))) H2
          rw [e4]
          exact hQ2
end
end TT
namespace TT
open PySem L2 TH
noncomputable def partsUpto (ts : List Tie) (n i : Nat) : List (List Nat) := ((List.range i).filter (isRootB ts)).map (partOf ts n)
theorem partsUpto_succ (ts : List Tie) (n i : Nat) : partsUpto ts n (i + 1) = if isRootB ts i = true then partsUpto ts n i ++ [partOf ts n i] else partsUpto ts n i := by
  unfold partsUpto
  rw [List.range_succ, List.filter_append, List.map_append, List.filter_cons]
  cases h : isRootB ts i <;> simp
theorem partOf_len {ts : List Tie} {n r : Nat} : (partOf ts n r).length ≤ n := by
  unfold partOf
  have := List.length_filter_le (connB ts r) (List.range n)
  rwa [List.length_range] at this
section
variable {P : Program} {w : World} {K : PySem.W.Frag} {mg : PySem.Str → Option Value} {base : Heap}
theorem sc_parts_of : FnScope ["places", "ties", "parts", "found", "start", "part", "place"] ["places", "ties"] (defScope s_parts_of) := ⟨rfl, rfl, rfl, by decide +kernel, rfl, by decide +kernel, by decide +kernel⟩
theorem ok_parts_of (T : G2 K mg) : FnOk P w K mg base CX0 4 T.parts_of.f T.parts_of.fd ["places", "ties"] spPartsOf := by
  have PO : FnOk P w K mg base CX0 3 T.part_of.f T.part_of.fd ["start", "places", "ties"] spPartOf := ok_part_of T
  refine T.parts_of.F.ok sc_parts_of (fun vs H Q E h => ?_) (fun cdv A outer s H vs Q E hr h => ?_)
  · obtain ⟨_, _, _, rfl, _⟩ := h
    rfl
  · obtain ⟨n, a, ts, rfl, hts, hlen, ok, hn, hQ⟩ := h
    have nd := sc_parts_of.nd
    have hu := hu_of hr
    refine ⟨_, pss_cons (ps_set (i := 2) nd rfl (.inl rfl) (pe_lst pa_nil)) (pss_cons (ps_set (i := 3) nd rfl (.inl rfl) pe_dnewK)
      (pss_cons (ps_for PassesOwn.never rfl (pi_range1 (by rfl) T.b.range (pa_cons (pv 0) pa_nil)) (pg_name (i := 4) nd rfl (.inl rfl))
        (pss_one (ps_if (pt_cmp (pc_dnotin hu (pv 4) (pv 3)))
          (pss_cons (ps_set (i := 5) nd rfl (.inl rfl) (pe_call PO hr (by rfl) T.part_of.g T.part_of.F.kp T.part_of.b .nil pass0 (pa_cons (pv 4) (pa_cons (pv 0) (pa_cons (pv 1) pa_nil)))))
          (pss_cons (ps_expr (pe_bm PySem.F.plainAttrs_list PySem.F.slot_list_append PySem.F.type_list_append mt_append (pv 2) (pa_cons (pv 5) pa_nil)))
          (pss_one (ps_for PassesOwn.never rfl (pi_list (pv 5)) (pg_name (i := 6) nd rfl (.inl rfl)) (pss_one (ps_dput hu (pv 3) (pv 6) pe_bl rfl)))))) pss_nil)))
      (pss_one (ps_ret (pv 2))))), ?_⟩
    refine ⟨Nat.zero_le _, fun PA hPA => ?_⟩
    intro F hF
    have hPF : PA ≠ F := fun z => by rw [← z, upd_same] at hF; cases hF
    have hF0 : H F = none := by rw [upd_ne hPF.symm] at hF; exact hF
    refine ⟨_, rfl, (n : Int), rfl, by omega, by omega, ?_⟩
    have en : (n : Int).toNat = n := Int.toNat_natCast n
    refine for_it (walk_range0 (n := (n : Int).toNat)) (fun i σ H' => ∃ (x4 x5 x6 : Option V) (as : List Addr) (kvs : List (Key × V)), σ = [some (nV n), some (.ref a), some (.ref PA), some (.ref F), x4, x5, x6] ∧ Same H H' ∧
        H' PA = some (.lst (as.map V.ref)) ∧ Paired (fun q part => H' q = some (.lst (nL part)) ∧ q ≠ PA) as (partsUpto ts n i) ∧ H' F = some (.dK kvs) ∧ kvs.length ≤ i * n ∧ ∀ v : Nat, v < n → ((valV kvs (Sum.inl (v : Int))).isSome = true ↔ ∃ r, r < i ∧ conn ts r v))
      ⟨none, none, none, [], [], rfl, sameU (sameU (.refl _) hPA) hF0, by rw [upd_ne hPF]; exact upd_same, .nil, upd_same, Nat.zero_le _, fun v _ => Iff.intro (fun h => Bool.noConfusion h) (fun z => by obtain ⟨r, hr, _⟩ := z; omega)⟩ (fun _ _ _ _ _ => trivial) ?_ ?_
    · rintro i x σ H1 H2 hi ⟨x4, x5, x6, as, kvs, rfl, s1, h1, h2, h3, h4, h5⟩ ⟨rfl, rfl⟩
      have hin : i < n := by omega
      refine ⟨_, rfl, _, rfl, F, _, rfl, DGet.k (k := Sum.inl (i : Int)) h3, _, rfl, ?_⟩
      have hroot : isRootB ts i = !(valV kvs (Sum.inl (i : Int))).isSome := by
        cases c : (valV kvs (Sum.inl (i : Int))).isSome with
        | true =>
          obtain ⟨r, hr, hc⟩ := (h5 i hin).mp c
          cases e : isRootB ts i with
          | false => rfl
          | true => exact absurd hc (isRootB_iff.mp e r hr)
        | false =>
          refine isRootB_iff.mpr fun r hr hc => ?_
          have := (h5 i hin).mpr ⟨r, hr, hc⟩
          rw [c] at this
          cases this
      rw [← hroot]
      have hps := partsUpto_succ ts n i
      cases c : isRootB ts i with
      | false =>
        rw [c, if_neg (by decide)] at hps
        refine iteF ?_
        refine ⟨_, _, _, as, kvs, rfl, s1, h1, by rw [hps]; exact h2, h3, Nat.le_trans h4 (Nat.mul_le_mul_right _ (by omega)), fun v hv => ?_⟩
        rw [h5 v hv]
        constructor
        · rintro ⟨r, hr, hc⟩
          exact ⟨r, by omega, hc⟩
        · rintro ⟨r, hr, hc⟩
          by_cases e : r = i
          · subst e
            have hnr : ¬ isRoot ts r := fun z => by rw [isRootB_iff.mpr z] at c; cases c
            obtain ⟨r2, h6, h7, h8⟩ := root_of ts r
            have : r2 ≠ r := fun z => hnr (z ▸ h7)
            exact ⟨r2, by omega, conn_trans h8 hc⟩
          · exact ⟨r, by omega, hc⟩
      | true =>
        rw [c, if_pos rfl] at hps
        refine iteT ?_
        refine ⟨_, rfl, _, rfl, _, rfl, i, n, a, ts, rfl, hts.same s1, hlen, ok, hin, hn, fun H3 L s3 hL0 hL => ?_⟩
        have s3' := s1.trans s3
        refine ⟨_, rfl, .inl ⟨rfl, _, SqL.of (s3 _ _ h1)⟩, _, rfl, PA, _, _, rfl, rfl, s3 _ _ h1, ?_, ?_⟩
        · rw [List.length_map, paired_length h2, PySem.sizeLine_eq]
          have : (partsUpto ts n i).length ≤ i := by
            unfold partsUpto
            rw [List.length_map]
            have := List.length_filter_le (isRootB ts) (List.range i)
            rwa [List.length_range] at this
          omega
        · have hLP : L ≠ PA := fun z => by rw [z, h1] at hL0; cases hL0
          have hFP : F ≠ PA := hPF.symm
          have hLF : L ≠ F := fun z => by rw [z, h3] at hL0; cases hL0
          have eL : upd H3 PA (.lst (as.map V.ref ++ [V.ref L])) L = some (.lst (nL (partOf ts n i))) := by rw [upd_ne hLP]; exact hL
          refine ⟨_, rfl, L, rfl, ⟨_, SqL.of eL⟩, ?_⟩
          refine for_it (walk_list (K := K) (a := L) (xs := nL (partOf ts n i))) (fun j σ H' => ∃ (x6 : Option V) (kvs' : List (Key × V)), σ = [some (nV n), some (.ref a), some (.ref PA), some (.ref F), some (nV i), some (.ref L), x6] ∧ (∀ b o, b ≠ F → upd H3 PA (.lst (as.map V.ref ++ [V.ref L])) b = some o → H' b = some o) ∧ H' F = some (.dK kvs') ∧ kvs'.length ≤ kvs.length + j ∧ ∀ v : Nat, ((valV kvs' (Sum.inl (v : Int))).isSome = true ↔ (valV kvs (Sum.inl (v : Int))).isSome = true ∨ v ∈ (partOf ts n i).take j))
            ⟨x6, kvs, rfl, fun b o _ e => e, by rw [upd_ne hFP]; exact s3 _ _ h3, Nat.le_refl _, fun v => by simp⟩ (fun j σ H' _ p => ?_) ?_ ?_
          · obtain ⟨_, _, _, k1, _⟩ := p
            exact SqL.of (k1 L _ hLF eL)
          · rintro j x σ H4 H5 hj ⟨y6, kvs', rfl, k1, k2, k3, k4⟩ ⟨rfl, hx⟩
            rw [nL_len] at hj
            have ex : x = nV (partOf ts n i)[j] := by
              unfold nL at hx
              rw [List.getElem?_map, List.getElem?_eq_getElem hj] at hx
              exact (Option.some.inj hx).symm
            subst ex
            have htake : (partOf ts n i).take (j + 1) = (partOf ts n i).take j ++ [(partOf ts n i)[j]] := by
              rw [List.take_succ, List.getElem?_eq_getElem hj]; rfl
            generalize (partOf ts n i)[j] = u at htake
            have hpl := partOf_len (ts := ts) (n := n) (r := i)
            refine ⟨_, rfl, _, rfl, F, _, rfl, DPut.k (k := Sum.inl (u : Int)) k2 ?_, ?_⟩
            · rw [PySem.sizeLine_eq]
              have : i * n ≤ 1000 * 1000 := Nat.mul_le_mul (by omega) hn
              omega
            · refine ⟨_, putK kvs' (Sum.inl (u : Int)) (.bl true), rfl, fun b o hb e => ?_, upd_same, ?_, fun v => ?_⟩
              · rw [upd_ne hb]; exact k1 b o hb e
              · have := length_putK kvs' (Sum.inl (u : Int)) (.bl true)
                omega
              · rw [valV_put, htake, List.mem_append, List.mem_singleton]
                by_cases e : v = u
                · subst e; simp
                · rw [if_neg (fun z => e (ent_key.mp z)), k4 v]
                  simp [e]
          · rintro σ H4 ⟨y6, kvs', rfl, k1, k2, k3, k4⟩
            rw [nL_len] at k3 k4
            rw [List.take_length] at k4
            refine ⟨_, _, _, as ++ [L], kvs', rfl, fun b o e => ?_, ?_, ?_, k2, ?_, fun v hv => ?_⟩
            · have b1 : b ≠ F := fun z => by rw [z, hF0] at e; cases e
              have b2 : b ≠ PA := fun z => by rw [z, hPA] at e; cases e
              exact k1 b o b1 (by rw [upd_ne b2]; exact s3' _ _ e)
            · rw [List.map_append]
              exact k1 PA _ hPF upd_same
            · rw [hps]
              refine paired_snoc (Paired.mapP h2 fun q part z => ⟨k1 q _ ?_ ?_, z.2⟩) ⟨k1 L _ hLF eL, hLP⟩
              · exact fun y => by
                  have := z.1
                  rw [y, h3] at this
                  cases this
              · rw [upd_ne z.2]
                exact s3 _ _ z.1
            · have hpl := partOf_len (ts := ts) (n := n) (r := i)
              rw [Nat.add_mul]
              omega
            · rw [k4 v, h5 v hv, mem_partOf]
              constructor
              · rintro (⟨r, hr, hc⟩ | hc)
                · exact ⟨r, by omega, hc⟩
                · exact ⟨i, by omega, hc.2⟩
              · rintro ⟨r, hr, hc⟩
                by_cases e : r = i
                · subst e; exact .inr ⟨hv, hc⟩
                · exact .inl ⟨r, by omega, hc⟩
    · rintro σ H1 ⟨x4, x5, x6, as, kvs, rfl, s1, h1, h2, h3, h4, h5⟩
      rw [en] at h2
      exact ⟨_, rfl, hQ H1 PA s1 hPA ⟨as, h1, Paired.mapP h2 fun q part z => z.1⟩⟩
end
end TT
namespace TT
open PySem L2 TH
structure G3 (K : PySem.W.Frag) (mg : PySem.Str → Option Value) extends G2 K mg where
  two_colours : DefAt K mg "two_colours" s_two_colours ["places", "ties"]
  odd_ends : DefAt K mg "odd_ends" s_odd_ends ["places", "ties"]
  round_from : DefAt K mg "round_from" s_round_from ["start", "ties", "left", "used"]
  take_tie : DefAt K mg "take_tie" s_take_tie ["row", "used"]
def bL (us : List Bool) : List V := us.map V.bl
theorem bL_len (us : List Bool) : (bL us).length = us.length := List.length_map _
def spTake : Sp := fun vs H Q _ => ∃ (r u : Addr) (row : List Nat) (us : List Bool), vs = [.ref r, .ref u] ∧ H r = some (.lst (nL row.reverse)) ∧ H u = some (.lst (bL us)) ∧ r ≠ u ∧ (∀ k ∈ row, k < us.length) ∧
  ∀ H', (∀ b o, b ≠ r → b ≠ u → H b = some o → H' b = some o) → H' r = some (.lst (nL (takeTie row us).2.1.reverse)) → H' u = some (.lst (bL (takeTie row us).2.2)) → Q (oV (takeTie row us).1) H'
def spOddEnds : Sp := fun vs H Q _ => ∃ (n : Nat) (a : Addr) (ts : List Tie), vs = [nV n, .ref a] ∧ TiesV H a ts ∧ ts.length ≤ 1000 ∧ n ≤ 1000 ∧ ∀ H' p, Same H H' → H p = none → TiesV H' p (oddEnds n ts) → Q (.ref p) H'
theorem get_nL {xs : List Nat} {i : Nat} (h : i < xs.length) : (nL xs)[i]? = some (nV xs[i]) := by
  unfold nL
  rw [List.getElem?_map, List.getElem?_eq_getElem h]; rfl
theorem get_bL {us : List Bool} {i : Nat} (h : i < us.length) : (bL us)[i]? = some (.bl (ug us i)) := by
  unfold bL ug
  rw [List.getElem?_map, List.getElem?_eq_getElem h, List.getD_eq_getElem?_getD, List.getElem?_eq_getElem h]; rfl
theorem ixN_nat {n k : Nat} (h : k < n) : ixN n (k : Int) = some k := by
  unfold ixN
  rw [if_pos (by omega), if_pos (by omega)]
  simp
theorem bL_set {us : List Bool} {k : Nat} {b : Bool} : (bL us).set k (.bl b) = bL (us.set k b) := by
  unfold bL
  rw [List.map_set]
section
variable {P : Program} {w : World} {K : PySem.W.Frag} {mg : PySem.Str → Option Value} {base : Heap}
theorem sc_take_tie : FnScope ["row", "used", "k"] ["row", "used"] (defScope s_take_tie) := ⟨rfl, rfl, rfl, by decide +kernel, rfl, by decide +kernel, by decide +kernel⟩
theorem ok_take_tie (T : G3 K mg) : FnOk P w K mg base CX0 1 T.take_tie.f T.take_tie.fd ["row", "used"] spTake := by
  refine T.take_tie.F.ok sc_take_tie (fun vs H Q E h => ?_) (fun cdv A outer s H vs Q E hr h => ?_)
  · obtain ⟨_, _, _, _, rfl, _⟩ := h
    rfl
  · obtain ⟨r, u, row, us, rfl, h1, h2, hne, hlt, hQ⟩ := h
    have nd := sc_take_tie.nd
    refine ⟨_, pss_cons (ps_whileS PassesOwn.never (pt_truth (pv 0) (by intro _; rfl))
        (pss_cons (ps_set (i := 2) nd rfl (.inl rfl) (pe_bm0 PySem.F.plainAttrs_list PySem.F.slot_list_pop PySem.F.type_list_pop mt_pop (pv 0)))
        (pss_one (ps_if (pt_not (pt_truth (pe_ix ix_list (pv 1) (pv 2) (fun _ _ => rfl)) (by intro _; rfl)))
          (pss_cons (ps_asg pe_bl (pg_sub (pv 1) (pv 2) set_list)) (pss_one (ps_ret (pv 2)))) pss_nil))))
      (pss_one (ps_ret pe_non)), ?_⟩
    refine while_rel (fun m σ H' => ∃ (x2 : Option V) (row' : List Nat), σ = [some (.ref r), some (.ref u), x2] ∧ m = row'.length ∧ (∀ b o, b ≠ r → b ≠ u → H b = some o → H' b = some o) ∧ H' r = some (.lst (nL row'.reverse)) ∧ H' u = some (.lst (bL us)) ∧ takeTie row' us = takeTie row us ∧ ∀ k ∈ row', k < us.length)
      ⟨_, none, row, rfl, rfl, fun b o _ _ e => e, h1, h2, rfl, hlt⟩ ?_ (tru_mono tVar_mono)
    rintro m σ H1 ⟨x2, row', rfl, rfl, k1, k2, k3, k4, k5⟩
    refine ⟨_, rfl, !(nL row'.reverse).isEmpty, .inl ⟨_, SqL.of k2, rfl⟩, ?_⟩
    cases row' with
    | nil =>
      refine iteF ?_
      have e : takeTie row us = (none, [], us) := k4.symm
      rw [e] at hQ
      exact hQ H1 k1 k2 k3
    | cons k row2 =>
      have e1 : (!(nL (k :: row2).reverse).isEmpty) = true := by rw [List.reverse_cons, nL_snoc]; simp
      rw [e1]
      refine iteT ?_
      rw [List.reverse_cons, nL_snoc] at k2
      have hk := k5 k List.mem_cons_self
      refine ⟨_, rfl, .inl ⟨rfl, _, SqL.of k2⟩, r, _, nV k, rfl, rfl, k2, by simp, ?_⟩
      rw [List.dropLast_concat]
      have eu : upd H1 r (.lst (nL row2.reverse)) u = some (.lst (bL us)) := by rw [upd_ne hne.symm]; exact k3
      refine ⟨_, rfl, _, rfl, u, bL us, (k : Int), .bl (ug us k), rfl, rfl, SqL.of eu, atI_nat (get_bL hk), ug us k, ?_, ?_⟩
      · rfl
      · cases c : ug us k with
        | true =>
          refine iteF ?_
          refine ⟨row2.length, by simp, _, row2, rfl, rfl, fun b o n1 n2 e => by rw [upd_ne n1]; exact k1 b o n1 n2 e, upd_same, eu, ?_, fun j hj => k5 j (List.mem_cons_of_mem _ hj)⟩
          rw [← k4]
          show _ = if ug us k = true then _ else _
          rw [if_pos c]
        | false =>
          refine iteT ?_
          have e : takeTie row us = (some k, row2, us.set k true) := by
            rw [← k4]
            show (if ug us k = true then _ else _) = _
            rw [if_neg (by rw [c]; decide)]
          rw [e] at hQ
          refine ⟨_, rfl, _, rfl, u, _, (k : Int), k, rfl, rfl, eu, ixN_nat (by rw [bL_len]; exact hk), ?_⟩
          refine ⟨_, rfl, ?_⟩
          refine hQ _ (fun b o n1 n2 e => ?_) ?_ ?_
          · rw [upd_ne n2, upd_ne n1]; exact k1 b o n1 n2 e
          · rw [upd_ne hne]; exact upd_same
          · rw [upd_same, bL_set]
theorem sc_odd_ends : FnScope ["places", "ties", "place"] ["places", "ties"] (defScope s_odd_ends) := ⟨rfl, rfl, rfl, by decide +kernel, rfl, by decide +kernel, by decide +kernel⟩
theorem ok_odd_ends (T : G3 K mg) : FnOk P w K mg base CX0 2 T.odd_ends.f T.odd_ends.fd ["places", "ties"] spOddEnds := by
  have TA : FnOk P w K mg base CX0 1 T.ties_at.f T.ties_at.fd ["place", "ties"] spTiesAt := ok_ties_at T.toG2
  refine T.odd_ends.F.ok sc_odd_ends (fun vs H Q E h => ?_) (fun cdv A outer s H vs Q E hr h => ?_)
  · obtain ⟨_, _, _, rfl, _⟩ := h
    rfl
  · obtain ⟨n, a, ts, rfl, hts, hlen, hn, hQ⟩ := h
    have nd := sc_odd_ends.nd
    refine ⟨_, pss_one (ps_ret (pe_lc (own := [("place", 2)]) (g := gName 2) (tt := tTest (tOp rEq (tOp (rI (fun _ j => 0 < j) fun i j => .int (i % j)) (tCB (rLn K) (tCons (tCall spTiesAt [] E0 (tCons (tVar 2) (tCons (tVar 1) tNil))) tNil)) (tC (.int 2))) (tC (.int 1)))) rfl nd (pi_range1 (by rfl) T.b.range (pa_cons (pv 0) pa_nil)) (blkOk_by (N := ["places", "ties", "place"]) (sc := defScope s_odd_ends) (by decide +kernel))
        (fun _ _ _ _ _ => pg_name (i := 2) nd rfl (Or.inl rfl))
        (fun _ _ _ _ _ => pts_one (pt_cmpR op_eq (pe_op op_mod (pe_callB (call_lnK (K := K) rfl) (by rfl) T.b.len PySem.boot_len (pa_cons (pe_call TA hr (by rfl) T.ties_at.g T.ties_at.F.kp T.ties_at.b .nil pass0 (pa_cons (pv 2) (pa_cons (pv 1) pa_nil))) pa_nil)) pe_int) pe_int (nomark _)))
        (fun _ _ _ _ _ => pe_tup (pa_cons (pv 2) (pa_cons (pv 0) pa_nil))))), ?_⟩
    refine ⟨_, rfl, (n : Int), rfl, by omega, by omega, fun D hD => ?_⟩
    have en : (n : Int).toNat = n := Int.toNat_natCast n
    refine lc_it (walk_range0 (n := (n : Int).toNat)) (fun i H' => Same H H' ∧ ∃ as : List Addr, H' D = some (.lst (as.map V.ref)) ∧ Paired (fun q t => H' q = some (.tup (tV t))) as (oddUpto n ts i)) ⟨sameN (.refl _) hD, [], upd_same, .nil⟩ (fun _ _ _ _ => trivial) ?_ ?_
    · rintro i x H1 H2 hi ⟨s1, as, h1, h2⟩ ⟨rfl, rfl⟩
      refine ⟨rfl, ?_⟩
      refine ⟨_, rfl, _, rfl, i, a, ts, rfl, hts.same s1, hlen, fun H3 L s3 _ hL => ?_⟩
      refine ⟨L, _, rfl, .inl (SqL.of hL), ?_⟩
      rw [nL_len]
      refine ⟨_, _, rfl, rfl, (by show (0 : Int) < 2; decide), rfl, _, rfl, ?_⟩
      have hs := oddUpto_succ n ts i
      have e2 : decide (V.int (((deg i ts : Nat) : Int) % 2) = V.int 1) = decide (deg i ts % 2 = 1) := by
        by_cases c : deg i ts % 2 = 1
        · rw [decide_eq_true c, decide_eq_true (by congr 1; omega)]
        · rw [decide_eq_false c, decide_eq_false (fun z => c (by injection z with z; omega))]
      show if decide (V.int (((deg i ts : Nat) : Int) % 2) = V.int 1) = true then _ else _
      rw [e2]
      cases c : decide (deg i ts % 2 = 1) with
      | true =>
        rw [c, if_pos rfl] at hs
        refine iteT ?_
        refine ⟨_, rfl, _, rfl, (by show 2 ≤ sizeLine; decide), fun t0 ht0 => ?_⟩
        have hDt : D ≠ t0 := ne_of_none (s3 _ _ h1) ht0
        refine ⟨as.map V.ref, by rw [upd_ne hDt]; exact s3 _ _ h1, ?_, ?_⟩
        · have := paired_length h2
          have := oddUpto_len n ts i
          rw [List.length_map, PySem.sizeLine_eq]
          omega
        · refine ⟨sameU (sameN (s1.trans s3) ht0) hD, as ++ [t0], by rw [upd_same, List.map_append]; rfl, ?_⟩
          rw [hs]
          have hq : ∀ q xs, H3 q = some (.tup xs) → upd (upd H3 t0 (.tup [nV i, nV n])) D (.lst (as.map V.ref ++ [V.ref t0])) q = some (.tup xs) := fun q xs e => by
            rw [upd_ne (fun z => by rw [z, s3 _ _ h1] at e; cases e), upd_ne (ne_of_none e ht0)]; exact e
          refine paired_snoc (Paired.mapP h2 fun q t z => hq _ _ (s3 _ _ z)) ?_
          rw [upd_ne hDt.symm]; exact upd_same
      | false =>
        rw [c, if_neg (by decide)] at hs
        refine iteF ?_
        refine ⟨s1.trans s3, as, s3 _ _ h1, ?_⟩
        rw [hs]
        exact Paired.mapP h2 fun q t z => s3 _ _ z
    · rintro H1 ⟨s1, as, h1, h2⟩
      rw [en] at h2
      exact hQ H1 D s1 hD ⟨as, h1, h2⟩
end
end TT
namespace TT
open PySem L2 TH
theorem paired_mem {α β : Type} {F : α → β → Prop} {x : α} : ∀ {xs : List α} {ys : List β}, Paired F xs ys → x ∈ xs → ∃ y, F x y
  | _, _, .nil, h => by cases h
  | _, _, .cons r t, h => by
    rcases List.mem_cons.mp h with rfl | h
    · exact ⟨_, r⟩
    · exact paired_mem t h
theorem paired_imp {α β : Type} {F F' : α → β → Prop} : ∀ {xs : List α} {ys : List β}, Paired F xs ys → (∀ a b, a ∈ xs → F a b → F' a b) → Paired F' xs ys
  | _, _, .nil, _ => .nil
  | _, _, .cons r t, h => .cons (h _ _ List.mem_cons_self r) (paired_imp t fun a b ha => h a b (List.mem_cons_of_mem _ ha))
theorem paired_set {α β : Type} {F F' : α → β → Prop} {x : α} {y : β} : ∀ {xs : List α} {ys : List β} {i : Nat}, Paired F xs ys → xs.Nodup → xs[i]? = some x → (∀ a b, a ≠ x → F a b → F' a b) → F' x y → Paired F' xs (ys.set i y)
  | _, _, _, .nil, _, hx, _, _ => by simp at hx
  | a :: xs, b :: ys, 0, .cons r t, nd, hx, ho, hn => by
    simp at hx
    subst hx
    have := (List.nodup_cons.mp nd).1
    exact .cons hn (paired_imp t fun c d hc hf => ho c d (fun z => this (z ▸ hc)) hf)
  | a :: xs, b :: ys, i + 1, .cons r t, nd, hx, ho, hn => by
    have hx' : xs[i]? = some x := by simpa using hx
    have := (List.nodup_cons.mp nd).1
    have hm := List.mem_of_getElem? hx'
    exact .cons (ho a b (fun z => this (z ▸ hm)) r) (paired_set t (List.nodup_cons.mp nd).2 hx' ho hn)
/-- all but S stays -/
def Frm (S : Addr → Prop) (H H' : Hp) : Prop := ∀ b o, ¬ S b → H b = some o → H' b = some o
theorem Frm.refl (S : Addr → Prop) (H : Hp) : Frm S H H := fun _ _ _ e => e
theorem Frm.trans {S : Addr → Prop} {H H1 H2 : Hp} (a : Frm S H H1) (b : Frm S H1 H2) : Frm S H H2 := fun c o n e => b c o n (a c o n e)
theorem Frm.of {S : Addr → Prop} {H H' : Hp} (s : Same H H') : Frm S H H' := fun b o _ e => s b o e
theorem Frm.new {S : Addr → Prop} {H H' : Hp} {p : Addr} {o : HO} (a : Frm S H H') (hp : H p = none) : Frm S H (upd H' p o) := fun b u n e => by rw [upd_ne (ne_of_none e hp)]; exact a b u n e
theorem Frm.at {S : Addr → Prop} {H H' : Hp} {p : Addr} {o : HO} (a : Frm S H H') (hp : S p) : Frm S H (upd H' p o) := fun b u n e => by rw [upd_ne (fun z => n (by rw [z]; exact hp))]; exact a b u n e
theorem TiesV.frm {S : Addr → Prop} {H H' : Hp} {a : Addr} {ts : List Tie} (f : Frm S H H') (ha : ¬ S a) (hS : ∀ b, S b → ∃ xs, H b = some (.lst xs)) (h : TiesV H a ts) : TiesV H' a ts := by
  obtain ⟨as, h1, h2⟩ := h
  refine ⟨as, f _ _ ha h1, Paired.mapP h2 fun q t e => f _ _ (fun z => ?_) e⟩
  obtain ⟨xs, hx⟩ := hS q z
  rw [e] at hx
  cases hx
abbrev RowsP (H : Hp) (rs : List Addr) (rows : List (List Nat)) : Prop := Paired (fun q row => H q = some (.lst (nL row.reverse))) rs rows
abbrev PathP (H : Hp) (as : List Addr) (path : List (Nat × Option Nat)) : Prop := Paired (fun q e => H q = some (.tup [nV e.1, oV e.2])) as path
theorem RowsP.get {H : Hp} {rs : List Addr} {rows : List (List Nat)} (h : RowsP H rs rows) {v : Nat} (hv : v < rows.length) : ∃ r, rs[v]? = some r ∧ H r = some (.lst (nL (rowAt rows v).reverse)) := by
  have hl := paired_length h
  have e : rs[v]? = some rs[v] := List.getElem?_eq_getElem (by omega)
  obtain ⟨row, h1, h2⟩ := paired_get h e
  refine ⟨_, e, ?_⟩
  unfold rowAt
  rw [List.getD_eq_getElem?_getD, h1]
  exact h2
theorem iteNT {c A B : Prop} [Decidable c] (hc : ¬ c) (h : A) : if (!decide c) = true then A else B := by
  rw [decide_eq_false hc]
  exact iteT h
def start0 (rows : List (List Nat)) (us : List Bool) (start : Nat) : RS := ⟨rows, us, [(start, none)], []⟩
def spRound : Sp := fun vs H Q _ => ∃ (start N : Nat) (a l u : Addr) (ts : List Tie) (rs : List Addr) (rows : List (List Nat)) (us : List Bool), vs = [nV start, .ref a, .ref l, .ref u] ∧ TiesV H a ts ∧ ts.length ≤ 1000 ∧ Ok N ts ∧ N ≤ 1000 ∧
  H l = some (.lst (rs.map V.ref)) ∧ RowsP H rs rows ∧ rs.Nodup ∧ H u = some (.lst (bL us)) ∧ u ∉ rs ∧ l ∉ rs ∧ l ≠ u ∧ a ∉ rs ∧ a ≠ u ∧ RInv N ts start us start (start0 rows us start) ∧
  ∀ H' p, Frm (fun b => b ∈ rs ∨ b = u) H H' → H p = none → RowsP H' rs (roundRun ts (start0 rows us start)).rows → H' u = some (.lst (bL (roundRun ts (start0 rows us start)).used)) → H' p = some (.lst (nL (roundRun ts (start0 rows us start)).done)) → Q (.ref p) H'
section
variable {P : Program} {w : World} {K : PySem.W.Frag} {mg : PySem.Str → Option Value} {base : Heap}
theorem sc_round_from : FnScope ["start", "ties", "left", "used", "done", "path", "place", "came", "k"] ["start", "ties", "left", "used"] (defScope s_round_from) := ⟨rfl, rfl, rfl, by decide +kernel, rfl, by decide +kernel, by decide +kernel⟩
theorem ok_round_from (T : G3 K mg) : FnOk P w K mg base CX0 2 T.round_from.f T.round_from.fd ["start", "ties", "left", "used"] spRound := by
  have TK : FnOk P w K mg base CX0 1 T.take_tie.f T.take_tie.fd ["row", "used"] spTake := ok_take_tie T
  have FE : FnOk P w K mg base CX0 1 T.far_end.f T.far_end.fd ["tie", "place"] (spFarEnd K) := ok_far_end T.toG2
  refine T.round_from.F.ok sc_round_from (fun vs H Q E h => ?_) (fun cdv A outer s H vs Q E hr h => ?_)
  · obtain ⟨_, _, _, _, _, _, _, _, _, rfl, _⟩ := h
    rfl
  · obtain ⟨start, N, a, l, u, ts, rs, rows, us, rfl, hts, hlen, ok, hN, hl, hrs, hnd, hu, hurs, hlrs, hlu, hars, hau, hI, hQ⟩ := h
    have nd := sc_round_from.nd
    refine ⟨_, pss_cons (ps_set (i := 4) nd rfl (.inl rfl) (pe_lst pa_nil)) (pss_cons (ps_set (i := 5) nd rfl (.inl rfl) (pe_lst (pa_cons (pe_tup (pa_cons (pv 0) (pa_cons pe_non pa_nil))) pa_nil)))
      (pss_cons (ps_whileS PassesOwn.never (pt_truth (pv 5) (by intro _; rfl))
        (pss_cons (ps_asg (pe_ix ix_list (pv 5) (pe_un un_neg pe_int) (fun _ _ => rfl)) (pg_tup (by rfl) (pgs_cons (pg_name (i := 6) nd rfl (.inl rfl)) (pgs_cons (pg_name (i := 7) nd rfl (.inl rfl)) pgs_nil))))
        (pss_cons (ps_set (i := 8) nd rfl (.inl rfl) (pe_call TK hr (by rfl) T.take_tie.g T.take_tie.F.kp T.take_tie.b .nil pass0 (pa_cons (pe_ix ix_list (pv 2) (pv 6) (fun _ _ => rfl)) (pa_cons (pv 3) pa_nil))))
        (pss_one (ps_if (pt_cmpR op_notN (pv 8) pe_non (nomark _))
          (pss_one (ps_expr (pe_bm PySem.F.plainAttrs_list PySem.F.slot_list_append PySem.F.type_list_append mt_append (pv 5)
            (pa_cons (pe_tup (pa_cons (pe_call FE hr (by rfl) T.far_end.g T.far_end.F.kp T.far_end.b .nil pass0 (pa_cons (pe_ix ix_list (pv 1) (pv 8) (fun _ _ => rfl)) (pa_cons (pv 6) pa_nil))) (pa_cons (pv 8) pa_nil))) pa_nil))))
          (pss_cons (ps_expr (pe_bm0 PySem.F.plainAttrs_list PySem.F.slot_list_pop PySem.F.type_list_pop mt_pop (pv 5)))
          (pss_one (ps_if (pt_cmpR op_notN (pv 7) pe_non (nomark _))
            (pss_one (ps_expr (pe_bm PySem.F.plainAttrs_list PySem.F.slot_list_append PySem.F.type_list_append mt_append (pv 4) (pa_cons (pv 7) pa_nil)))) pss_nil))))))))
      (pss_one (ps_ret (pv 4))))), ?_⟩
    refine ⟨Nat.zero_le _, fun DN hDN => ?_⟩
    refine ⟨_, rfl, (by show 2 ≤ sizeLine; decide), fun t0 ht0 => ?_⟩
    refine ⟨(by show 1 ≤ sizeLine; decide), fun PT hPT => ?_⟩
    have nDt : DN ≠ t0 := fun z => by rw [← z, upd_same] at ht0; cases ht0
    have ht00 : H t0 = none := by rw [upd_ne nDt.symm] at ht0; exact ht0
    have ntP : t0 ≠ PT := fun z => by rw [← z, upd_same] at hPT; cases hPT
    have nDP : DN ≠ PT := fun z => by rw [← z, upd_ne nDt, upd_same] at hPT; cases hPT
    have hPT0 : H PT = none := by rw [upd_ne ntP.symm, upd_ne nDP.symm] at hPT; exact hPT
    have f0 : Frm (fun b => b ∈ rs ∨ b = u) H (upd (upd (upd H DN (.lst [])) t0 (.tup [nV start, .non])) PT (.lst [.ref t0])) := (((Frm.refl _ H).new hDN).new ht00).new hPT0
    have hS : ∀ b, (b ∈ rs ∨ b = u) → ∃ xs, H b = some (.lst xs) := fun b hb => by
      rcases hb with hb | hb
      · obtain ⟨row, hrow⟩ := paired_mem hrs hb
        exact ⟨_, hrow⟩
      · rw [hb]; exact ⟨_, hu⟩
    have hnS : ∀ b, H b = none → ¬ (b ∈ rs ∨ b = u) := fun b hb z => by
      obtain ⟨xs, hx⟩ := hS b z
      rw [hb] at hx
      cases hx
    have nPTrs : ∀ q, q ∈ rs → q ≠ PT := fun q hq z => hnS PT hPT0 (.inl (by rw [← z]; exact hq))
    have nDNrs : ∀ q, q ∈ rs → q ≠ DN := fun q hq z => hnS DN hDN (.inl (by rw [← z]; exact hq))
    have same0 : ∀ b o, H b = some o → (upd (upd (upd H DN (.lst [])) t0 (.tup [nV start, .non])) PT (.lst [.ref t0])) b = some o := fun b o e => by
      rw [upd_ne (ne_of_none e hPT0), upd_ne (ne_of_none e ht00), upd_ne (ne_of_none e hDN)]; exact e
    have hm0 : rMeas (start0 rows us start) ≤ 3000 := by
      have h1 : unused us ≤ us.length := cnt_le
      have h2 : us.length = ts.length := hI.len
      show 2 * unused us + 1 ≤ 3000
      omega
    refine while_rel (fun m σ H' => ∃ (s : RS) (cur : Nat) (as : List Addr) (x6 x7 x8 : Option V), σ = [some (nV start), some (.ref a), some (.ref l), some (.ref u), some (.ref DN), some (.ref PT), x6, x7, x8] ∧ (m = rMeas s ∧ rMeas s ≤ 3000) ∧ RInv N ts start us cur s ∧ roundRun ts s = roundRun ts (start0 rows us start) ∧
        Frm (fun b => b ∈ rs ∨ b = u) H H' ∧ RowsP H' rs s.rows ∧ H' u = some (.lst (bL s.used)) ∧ H' DN = some (.lst (nL s.done)) ∧ H' PT = some (.lst (as.map V.ref).reverse) ∧ PathP H' as s.path)
      ⟨_, start0 rows us start, start, [t0], none, none, none, rfl, ⟨rfl, hm0⟩, hI, rfl, f0, ?_, ?_, ?_, upd_same, .cons ?_ .nil⟩ ?_ (tru_mono tVar_mono)
    · exact Paired.mapP hrs fun q row e => same0 _ _ e
    · exact same0 _ _ hu
    · rw [upd_ne nDP, upd_ne nDt, upd_same]; rfl
    · rw [upd_ne ntP, upd_same]; rfl
    · rintro m σ H1 ⟨⟨rows1, used1, path1, done1⟩, cur, as, x6, x7, x8, rfl, ⟨rfl, hm1⟩, I, hrun, f1, h1, h2, h3, h4, h5⟩
      have h1 : RowsP H1 rs rows1 := h1
      have h2 : H1 u = some (.lst (bL used1)) := h2
      have h3 : H1 DN = some (.lst (nL done1)) := h3
      have h5 : PathP H1 as path1 := h5
      refine ⟨_, rfl, !((as.map V.ref).reverse).isEmpty, .inl ⟨_, SqL.of h4, rfl⟩, ?_⟩
      cases h5 with
      | nil =>
        refine iteF ⟨_, rfl, ?_⟩
        rw [roundRun_end ts _ (rfl : (RS.mk rows1 used1 [] done1).path = [])] at hrun
        rw [← hrun] at hQ
        exact hQ H1 DN f1 hDN h1 h2 h3
      | @cons q e as path hq h6 =>
        obtain ⟨v, came⟩ := e
        have hq : H1 q = some (.tup [nV v, oV came]) := hq
        have e1 : (!(List.map V.ref (q :: as)).reverse.isEmpty) = true := by simp
        rw [e1]
        refine iteT ?_
        rw [List.map_cons, List.reverse_cons] at h4
        have hv : v < N := I.low (v, came) List.mem_cons_self
        have hn : rows1.length = N := I.nrows
        have hul : used1.length = ts.length := I.len
        have hl1 : H1 l = some (.lst (rs.map V.ref)) := f1 _ _ (fun z => z.elim hlrs hlu) hl
        obtain ⟨r, hr1, hr2⟩ := RowsP.get (rows := rows1) h1 (v := v) (by omega)
        have hrm : r ∈ rs := List.mem_of_getElem? hr1
        have hru : r ≠ u := fun z => hurs (z ▸ hrm)
        refine ⟨_, rfl, 1, rfl, PT, _, _, .ref q, rfl, rfl, SqL.of h4, atI_last _ _, ?_⟩
        refine ⟨q, [nV v, oV came], rfl, SqT.of hq, rfl, nV v, [oV came], rfl, oV came, [], rfl, rfl, ?_⟩
        refine ⟨_, rfl, _, rfl, l, _, (v : Int), .ref r, rfl, rfl, SqL.of hl1, atI_nat (by rw [List.getElem?_map, hr1]; rfl), _, rfl, ?_⟩
        refine ⟨r, u, rowAt rows1 v, used1, rfl, hr2, h2, hru, fun k hk => by have := (I.rowOk v k hk).1; omega, fun H2 k1 k2 k3 => ?_⟩
        have f12 : Frm (fun b => b ∈ rs ∨ b = u) H1 H2 := fun b o nb e => k1 b o (fun z => nb (.inl (z ▸ hrm))) (fun z => nb (.inr z)) e
        have f2 := f1.trans f12
        have nPT : PT ≠ r ∧ PT ≠ u := ⟨fun z => nPTrs r hrm z.symm, fun z => hnS PT hPT0 (.inr z)⟩
        have nDN : DN ≠ r ∧ DN ≠ u := ⟨fun z => nDNrs r hrm z.symm, fun z => hnS DN hDN (.inr z)⟩
        have hPT2 := k1 _ _ nPT.1 nPT.2 h4
        have hDN2 := k1 _ _ nDN.1 nDN.2 h3
        have tup2 : TupStay H1 H2 := fun b xs e => k1 b _ (fun z => by rw [z, hr2] at e; cases e) (fun z => by rw [z, h2] at e; cases e) e
        have hp2 : PathP H2 as path := Paired.mapP h6 fun q e z => tup2 _ _ z
        have hq2 := tup2 _ _ hq
        have hrows : ∀ row, H2 r = some (.lst (nL row.reverse)) → RowsP H2 rs (rows1.set v row) := fun row e =>
          paired_set (F := fun q row => q ∈ rs ∧ H1 q = some (.lst (nL row.reverse))) (paired_imp h1 fun q row hq z => ⟨hq, z⟩) hnd hr1 (fun q row ne z => k1 q _ ne (fun y => hurs (y ▸ z.1)) z.2) e
        have hstep := I.step ok
        have hrun2 : roundRun ts (roundStep ts ⟨rows1, used1, (v, came) :: path, done1⟩) = roundRun ts (start0 rows us start) := (roundRun_step ts _ (by intro z; cases z)).trans hrun
        have hless := rMeas_lt ts ⟨rows1, used1, (v, came) :: path, done1⟩ (by intro z; cases z)
        have hts2 : TiesV H2 a ts := hts.frm f2 (fun z => z.elim hars hau) hS
        have hmeas : (2 * unused used1 + path.length + 1 : Nat) = rMeas ⟨rows1, used1, (v, came) :: path, done1⟩ := rfl
        have hun : unused used1 ≤ used1.length := cnt_le
        rcases ee : takeTie (rowAt rows1 v) used1 with ⟨o, row, uu⟩
        rw [ee] at k2 k3
        simp only [roundStep, ee] at hstep hrun2 hless
        refine ⟨_, rfl, rfl, _, rfl, ?_⟩
        cases o with
        | none =>
          simp only at hstep hrun2 hless
          obtain ⟨cur2, J⟩ := hstep
          refine iteNS rfl ?_
          refine ⟨_, rfl, .inl ⟨rfl, _, SqL.of hPT2⟩, PT, _, .ref q, rfl, rfl, hPT2, by simp, ?_⟩
          rw [List.dropLast_concat]
          refine ⟨_, rfl, rfl, _, rfl, ?_⟩
          have hfr : Frm (fun b => b ∈ rs ∨ b = u) H (upd H2 PT (.lst (as.map V.ref).reverse)) := f2.new hPT0
          have hpp : PathP (upd H2 PT (.lst (as.map V.ref).reverse)) as path := Paired.mapP hp2 fun q e z => TupStay.lst hPT2 _ _ z
          have hDN3 : upd H2 PT (.lst (as.map V.ref).reverse) DN = some (.lst (nL done1)) := by rw [upd_ne nDP]; exact hDN2
          have hu3 : upd H2 PT (.lst (as.map V.ref).reverse) u = some (.lst (bL uu)) := by rw [upd_ne nPT.2.symm]; exact k3
          have hrw3 : RowsP (upd H2 PT (.lst (as.map V.ref).reverse)) rs (rows1.set v row) := paired_imp (hrows row k2) fun q row hq z => by rw [upd_ne (nPTrs q hq)]; exact z
          cases came with
          | none =>
            refine iteNS rfl ?_
            simp only [Option.toList, List.append_nil] at J hrun2 hless
            exact ⟨_, hless, _, cur2, as, _, _, _, rfl, ⟨rfl, by omega⟩, J, hrun2, hfr, hrw3, hu3, hDN3, upd_same, hpp⟩
          | some j =>
            refine iteNT (by intro z; cases z) ?_
            simp only [Option.toList] at J hrun2 hless
            refine ⟨_, rfl, .inl ⟨rfl, _, SqL.of hDN3⟩, _, rfl, DN, _, _, rfl, rfl, hDN3, ?_, ?_⟩
            · have : (done1 ++ [j]).length ≤ ts.length := nodup_le _ _ (List.nodup_append.mp J.nd).1 fun x hx => (J.new x (List.mem_append.mpr (.inl hx))).1
              rw [nL_len, PySem.sizeLine_eq]
              rw [List.length_append] at this
              omega
            · refine ⟨_, hless, _, cur2, as, _, _, _, rfl, ⟨rfl, by omega⟩, J, hrun2, hfr.new hDN, ?_, ?_, ?_, ?_, ?_⟩
              · exact paired_imp hrw3 fun q row hq z => by rw [upd_ne (nDNrs q hq)]; exact z
              · rw [upd_ne nDN.2.symm]; exact hu3
              · rw [upd_same, nL_snoc]; rfl
              · rw [upd_ne nDP.symm]; exact upd_same
              · exact Paired.mapP hpp fun q e z => TupStay.lst hDN3 _ _ z
        | some k =>
          simp only at hstep hrun2 hless
          obtain ⟨cur2, J⟩ := hstep
          refine iteNT (by intro z; cases z) ?_
          obtain ⟨as3, ha3, hp3⟩ := hts2
          have hk : k < ts.length := (I.rowOk v k ((takeTie_spec _ _).2 _ _ _ ee).1).1
          obtain ⟨qk, hq1, hq2'⟩ := TiesV.get (a := a) hp3 hk
          refine ⟨_, rfl, .inl ⟨rfl, _, SqL.of hPT2⟩, ?_⟩
          refine ⟨_, rfl, _, rfl, a, _, (k : Int), _, rfl, rfl, SqL.of ha3, atI_nat hq1, _, rfl, ?_⟩
          refine ⟨qk, _, _, nV v, .int (tget ts k).1, .int v, rfl, hq2', .int _, .int _, rfl, rfl, ?_⟩
          rw [far_val]
          refine ⟨_, rfl, (by show 2 ≤ sizeLine; decide), fun t1 ht1 => ?_⟩
          have nPt1 : PT ≠ t1 := ne_of_none hPT2 ht1
          have nDt1 : DN ≠ t1 := ne_of_none hDN2 ht1
          refine ⟨PT, _, _, rfl, rfl, by rw [upd_ne nPt1]; exact hPT2, ?_, ?_⟩
          · have hl5 := paired_length h6
            have : rMeas ⟨rows1.set v row, uu, (far (tget ts k) v, some k) :: (v, came) :: path, done1⟩ < rMeas ⟨rows1, used1, (v, came) :: path, done1⟩ := hless
            rw [← hmeas] at this hm1
            simp only [List.length_append, List.length_reverse, List.length_map, List.length_singleton, PySem.sizeLine_eq]
            unfold rMeas at this
            simp only [List.length_cons] at this
            omega
          · refine ⟨_, hless, _, cur2, t1 :: q :: as, _, _, _, rfl, ⟨rfl, by omega⟩, J, hrun2, ?_, ?_, ?_, ?_, ?_, ?_⟩
            · have : Frm (fun b => b ∈ rs ∨ b = u) H (upd H2 t1 (.tup [nV (far (tget ts k) v), nV k])) := fun b o nb e => by rw [upd_ne (ne_of_none (f2 b o nb e) ht1)]; exact f2 b o nb e
              exact this.new hPT0
            · refine paired_imp (hrows row k2) fun q row hq z => ?_
              rw [upd_ne (nPTrs q hq), upd_ne (ne_of_none z ht1)]; exact z
            · rw [upd_ne nPT.2.symm, upd_ne (ne_of_none k3 ht1)]; exact k3
            · rw [upd_ne nDP, upd_ne nDt1]; exact hDN2
            · rw [upd_same, List.map_cons, List.reverse_cons]
              simp
            · have hup : ∀ b xs, H2 b = some (.tup xs) → upd (upd H2 t1 (.tup [nV (far (tget ts k) v), nV k])) PT (.lst ((as.map V.ref).reverse ++ [V.ref q] ++ [V.ref t1])) b = some (.tup xs) := fun b xs e => by
                rw [upd_ne (fun z => by rw [z, hPT2] at e; cases e), upd_ne (ne_of_none e ht1)]; exact e
              refine .cons ?_ (.cons (hup _ _ hq2) (Paired.mapP hp2 fun q e z => hup _ _ z))
              rw [upd_ne nPt1.symm]; exact upd_same
end
end TT
namespace TT
open PySem L2 TH
theorem cutV_take (xs : List V) (k : Nat) : cutV xs none (some (k : Int)) = xs.take k := by
  unfold cutV
  rw [HT.sIx_nat, HT.sIx_none, List.drop_zero, Nat.sub_zero]
  by_cases h : k ≤ xs.length
  · rw [Nat.min_eq_left h]
  · rw [Nat.min_eq_right (by omega), List.take_of_length_le (Nat.le_refl _), List.take_of_length_le (by omega)]
theorem rep_one {α : Type} (x : α) : ∀ m : Nat, (List.replicate m [x]).flatten = List.replicate m x
  | 0 => rfl
  | m + 1 => by rw [List.replicate_succ, List.flatten_cons, rep_one x m]; rfl
theorem rgV_nat (n : Nat) : rgV 0 (n : Int) = nL (List.range n) := by
  unfold rgV nL
  rw [show ((n : Int) - 0).toNat = n by omega]
  congr 1
  funext i
  show V.int (0 + (i : Int)) = V.int (i : Int)
  rw [Int.zero_add]
theorem paired_app {α β : Type} {F : α → β → Prop} : ∀ {xs xs' : List α} {ys ys' : List β}, Paired F xs ys → Paired F xs' ys' → Paired F (xs ++ xs') (ys ++ ys')
  | _, _, _, _, .nil, h => h
  | _, _, _, _, .cons r t, h => .cons r (paired_app t h)
def paintTo (cs ds : List Nat) (j : Nat) : List Nat := (List.range j).foldl (fun cs k => cs.set (ds.getD k 0) (k % 2)) cs
theorem paintTo_succ (cs ds : List Nat) (j : Nat) : paintTo cs ds (j + 1) = (paintTo cs ds j).set (ds.getD j 0) (j % 2) := by
  unfold paintTo
  rw [List.range_succ, List.foldl_append]
  rfl
theorem paintTo_len (cs ds : List Nat) (j : Nat) : (paintTo cs ds j).length = cs.length := by
  induction j with
  | zero => rfl
  | succ j ih => rw [paintTo_succ, List.length_set, ih]
theorem take_succ_get {α : Type} {xs : List α} {i : Nat} (h : i < xs.length) : xs.take (i + 1) = xs.take i ++ [xs[i]] := by
  rw [List.take_succ, List.getElem?_eq_getElem h]; rfl
theorem nL_set {xs : List Nat} {k b : Nat} : (nL xs).set k (nV b) = nL (xs.set k b) := by
  unfold nL
  rw [List.map_set]
def spTwo : Sp := fun vs H Q _ => ∃ (n : Nat) (a : Addr) (ts : List Tie), vs = [nV n, .ref a] ∧ TiesV H a ts ∧ ts.length ≤ 500 ∧ Ok n ts ∧ n ≤ 400 ∧ ∀ H' p, Same H H' → H p = none → H' p = some (.lst (nL (twoColours n ts))) → Q (.ref p) H'
section
variable {P : Program} {w : World} {K : PySem.W.Frag} {mg : PySem.Str → Option Value} {base : Heap}
theorem sc_two_colours : FnScope ["places", "ties", "joined", "left", "used", "colours", "start", "walk", "k", "tie", "place"] ["places", "ties"] (defScope s_two_colours) := ⟨rfl, rfl, rfl, by decide +kernel, rfl, by decide +kernel, by decide +kernel⟩
theorem ok_two_colours (T : G3 K mg) : FnOk P w K mg base CX0 3 T.two_colours.f T.two_colours.fd ["places", "ties"] spTwo := by
  have OE : FnOk P w K mg base CX0 2 T.odd_ends.f T.odd_ends.fd ["places", "ties"] spOddEnds := ok_odd_ends T
  have TA : FnOk P w K mg base CX0 1 T.ties_at.f T.ties_at.fd ["place", "ties"] spTiesAt := ok_ties_at T.toG2
  have RF : FnOk P w K mg base CX0 2 T.round_from.f T.round_from.fd ["start", "ties", "left", "used"] spRound := ok_round_from T
  refine T.two_colours.F.ok sc_two_colours (fun vs H Q E h => ?_) (fun cdv A outer s H vs Q E hr h => ?_)
  · obtain ⟨_, _, _, rfl, _⟩ := h
    rfl
  · obtain ⟨n, a, ts, rfl, hts, hlen, ok, hn, hQ⟩ := h
    have nd := sc_two_colours.nd
    have hr1 : Room 1 _ := hr.mono (by decide)
    refine ⟨_, pss_cons (ps_set (i := 2) nd rfl (.inr rfl) (pe_op op_cat (pe_callTy call_list_of (by rfl) T.b.list (by decide +kernel) (pa_cons (pv 1) pa_nil)) (pe_call OE hr (by rfl) T.odd_ends.g T.odd_ends.F.kp T.odd_ends.b .nil pass0 (pa_cons (pv 0) (pa_cons (pv 1) pa_nil)))))
      (pss_cons (ps_setLc (i := 3) (own := [("place", 10)]) (g := gName 10) (tt := tYes) rfl nd rfl rfl (sw_true rfl rfl rfl (by decide +kernel)) (pi_range1 (by rfl) T.b.range (pa_cons (pe_op op_add (pv 0) pe_int) pa_nil)) (blkOk_by (N := ["places", "ties", "joined", "left", "used", "colours", "start", "walk", "k", "tie", "place"]) (sc := defScope s_two_colours) (by decide +kernel))
        (fun _ _ _ _ _ => pg_name (i := 10) nd rfl (Or.inl rfl)) (fun _ _ _ _ _ => pts_nil)
        (fun _ _ _ _ _ => pe_call TA hr1 (by rfl) T.ties_at.g T.ties_at.F.kp T.ties_at.b .nil pass0 (pa_cons (pv 10) (pa_cons (pv 2) pa_nil))))
      (pss_cons (ps_set (i := 4) nd rfl (.inl rfl) (pe_op op_rep (pe_lst (pa_cons pe_bl pa_nil)) (pe_callB call_len_seq (by rfl) T.b.len PySem.boot_len (pa_cons (pv 2) pa_nil))))
      (pss_cons (ps_set (i := 5) nd rfl (.inl rfl) (pe_op op_rep (pe_lst (pa_cons pe_int pa_nil)) (pe_callB call_len_seq (by rfl) T.b.len PySem.boot_len (pa_cons (pv 2) pa_nil))))
      (pss_cons (ps_for PassesOwn.never rfl (pi_list (pe_op op_cat (pe_lst (pa_cons (pv 0) pa_nil)) (pe_listRg rfl (by rfl) T.b.list (prg_1 (by rfl) T.b.range (pv 0))))) (pg_name (i := 6) nd rfl (.inl rfl))
        (pss_cons (ps_set (i := 7) nd rfl (.inl rfl) (pe_call RF hr (by rfl) T.round_from.g T.round_from.F.kp T.round_from.b .nil pass0 (pa_cons (pv 6) (pa_cons (pv 2) (pa_cons (pv 3) (pa_cons (pv 4) pa_nil))))))
        (pss_one (ps_for PassesOwn.never rfl (pi_enum (by rfl) T.b.enumerate (pa_cons (pv 7) pa_nil)) (pg_tup rfl (pgs_cons (pg_name (i := 8) nd rfl (.inl rfl)) (pgs_cons (pg_name (i := 9) nd rfl (.inl rfl)) pgs_nil)))
          (pss_one (ps_asg (pe_op op_mod (pv 8) pe_int) (pg_sub (pv 5) (pv 9) set_list)))))))
      (pss_one (ps_ret (pe_slice sl_list (pv 5) po_none (po_some (pe_callB call_len_seq (by rfl) T.b.len PySem.boot_len (pa_cons (pv 1) pa_nil)))))))))), ?_⟩
    obtain ⟨as, ha1, ha2⟩ := id hts
    have hal := paired_length ha2
    have hev := deg_joined_even ok
    have hjl : (joined n ts).length ≤ 900 := by
      unfold joined oddEnds
      have := oddUpto_len n ts n
      rw [List.length_append]
      omega
    have okJ := joined_ok ok
    refine ⟨_, rfl, a, as.map V.ref, rfl, .inl (SqL.of ha1), fun L hL => ?_⟩
    have s0 : Same H (upd H L (.lst (as.map V.ref))) := same_new hL
    refine ⟨_, rfl, _, rfl, n, a, ts, rfl, hts.same s0, by omega, by omega, fun H1 OE1 s1 hOE hOT => ?_⟩
    obtain ⟨bs, hb1, hb2⟩ := hOT
    have hbl := paired_length hb2
    have hol : (oddEnds n ts).length ≤ n := oddUpto_len n ts n
    refine ⟨L, OE1, _, _, rfl, rfl, s1 _ _ upd_same, hb1, by rw [List.length_map, List.length_map, PySem.sizeLine_eq]; omega, fun J hJ => ?_⟩
    have sH1 : Same H H1 := s0.trans s1
    have sH2 : Same H1 (upd H1 J (.lst (as.map V.ref ++ bs.map V.ref))) := same_new hJ
    have hJT : TiesV (upd H1 J (.lst (as.map V.ref ++ bs.map V.ref))) J (joined n ts) :=
      ⟨as ++ bs, by rw [upd_same, List.map_append], paired_app (Paired.mapP ha2 fun q t e => sH2 _ _ (sH1 _ _ e)) (Paired.mapP hb2 fun q t e => sH2 _ _ e)⟩
    have sH2' := sH1.trans sH2
    generalize upd H1 J (.lst (as.map V.ref ++ bs.map V.ref)) = H2 at hJT sH2 sH2'
    have hJ0 : H J = none := sH1.free hJ
    clear hJ s1 s0 hL hb1 hb2 sH1 sH2
    -- left
    refine ⟨_, rfl, _, _, rfl, rfl, (n : Int) + 1, rfl, by omega, by omega, fun D hD => ?_⟩
    have en : ((n : Int) + 1).toNat = n + 1 := by omega
    refine lc_it (walk_range0 (n := ((n : Int) + 1).toNat)) (fun i H' => Same H2 H' ∧ ∃ rs : List Addr, H' D = some (.lst (rs.map V.ref)) ∧ RowsP H' rs ((List.range i).map fun v => (tiesAt v (joined n ts)).reverse) ∧ rs.Nodup ∧ ∀ q ∈ rs, H2 q = none ∧ q ≠ D)
      ⟨sameN (.refl _) hD, [], upd_same, .nil, List.nodup_nil, fun q hq => by cases hq⟩ (fun _ _ _ _ => trivial) ?_ ?_
    · rintro i x H3 H4 hi ⟨s3, rs, h1, h2, h3, h4⟩ ⟨rfl, rfl⟩
      refine ⟨rfl, ?_⟩
      dsimp only [tYes]
      rw [if_pos rfl]
      refine ⟨_, rfl, _, rfl, i, J, joined n ts, rfl, hJT.same s3, by omega, fun H5 L1 s5 hL0 hL1 => ?_⟩
      have hLD : L1 ≠ D := fun z => by rw [z, h1] at hL0; cases hL0
      have hLr : ∀ q, q ∈ rs → q ≠ L1 := fun q hq z => by
        obtain ⟨row, hrow⟩ := paired_mem h2 hq
        rw [z, hL0] at hrow
        cases hrow
      refine ⟨rs.map V.ref, s5 _ _ h1, ?_, sameU (s3.trans s5) hD, rs ++ [L1], by rw [upd_same, List.map_append]; rfl, ?_, ?_, ?_⟩
      · have := paired_length h2
        rw [List.length_map, List.length_range] at this
        rw [List.length_map, PySem.sizeLine_eq]
        omega
      · rw [List.range_succ, List.map_append]
        refine paired_snoc (paired_imp h2 fun q row hq z => by rw [upd_ne (h4 q hq).2]; exact s5 _ _ z) ?_
        rw [upd_ne hLD, List.reverse_reverse]
        exact hL1
      · rw [List.nodup_append]
        refine ⟨h3, by simp, fun q hq b hb => ?_⟩
        rw [List.mem_singleton.mp hb]
        exact hLr q hq
      · intro q hq
        rcases List.mem_append.mp hq with hq | hq
        · exact h4 q hq
        · rw [List.mem_singleton.mp hq]
          exact ⟨s3.free hL0, hLD⟩
    · rintro H3 ⟨s3, rs, h1, h2, h3, h4⟩
      rw [en] at h2
      have hJ3 := hJT.same s3
      obtain ⟨js, hj1, hj2⟩ := id hJ3
      have hjj := paired_length hj2
      -- used
      refine ⟨(by show 1 ≤ sizeLine; decide), fun L1 hL1 => ?_⟩
      have sL1 : Same H3 (upd H3 L1 (.lst [.bl false])) := same_new hL1
      refine ⟨_, rfl, J, _, rfl, .inl (SqL.of (sL1 _ _ hj1)), L1, _, _, rfl, rfl, upd_same, by omega, ?_, ?_, fun U hU => ?_⟩
      · rw [List.length_map]; omega
      · rw [List.length_map, PySem.sizeLine_eq, Int.toNat_natCast]
        show 1 * _ ≤ _
        omega
      rw [rep_one, List.length_map, Int.toNat_natCast, hjj]
      have hU3 : H3 U = none := sL1.free hU
      have sU : Same H3 (upd (upd H3 L1 (.lst [.bl false])) U (.lst (List.replicate (joined n ts).length (.bl false)))) := sL1.trans (same_new hU)
      have hUv : (upd (upd H3 L1 (.lst [.bl false])) U (.lst (List.replicate (joined n ts).length (.bl false)))) U = some (.lst (bL (List.replicate (joined n ts).length false))) := by
        rw [upd_same]; unfold bL; rw [List.map_replicate]
      generalize upd (upd H3 L1 (.lst [.bl false])) U (.lst (List.replicate (joined n ts).length (.bl false))) = H4 at sU hUv
      clear hL1 sL1 hU
      -- colours
      refine ⟨(by show 1 ≤ sizeLine; decide), fun L1 hL1 => ?_⟩
      have sL1 : Same H4 (upd H4 L1 (.lst [.int 0])) := same_new hL1
      refine ⟨_, rfl, J, _, rfl, .inl (SqL.of (sL1 _ _ (sU _ _ hj1))), L1, _, _, rfl, rfl, upd_same, by omega, ?_, ?_, fun C hC => ?_⟩
      · rw [List.length_map]; omega
      · rw [List.length_map, PySem.sizeLine_eq, Int.toNat_natCast]
        show 1 * _ ≤ _
        omega
      rw [rep_one, List.length_map, Int.toNat_natCast, hjj]
      have hC4 : H4 C = none := sL1.free hC
      have sC : Same H4 (upd (upd H4 L1 (.lst [.int 0])) C (.lst (List.replicate (joined n ts).length (.int 0)))) := sL1.trans (same_new hC)
      have hCv : (upd (upd H4 L1 (.lst [.int 0])) C (.lst (List.replicate (joined n ts).length (.int 0)))) C = some (.lst (nL (List.replicate (joined n ts).length 0))) := by
        rw [upd_same]; unfold nL; rw [List.map_replicate]; rfl
      generalize upd (upd H4 L1 (.lst [.int 0])) C (.lst (List.replicate (joined n ts).length (.int 0))) = H5 at sC hCv
      clear hL1 sL1 hC
      -- the starts
      refine ⟨_, rfl, (by show 1 ≤ sizeLine; decide), fun S1 hS1 => ?_⟩
      have sS1 : Same H5 (upd H5 S1 (.lst [nV n])) := same_new hS1
      refine ⟨_, rfl, (n : Int), rfl, .of_le (by omega) (by omega) (by omega) (by omega), fun S2 hS2 => ?_⟩
      rw [rgV_nat]
      have sS2 : Same (upd H5 S1 (.lst [nV n])) (upd (upd H5 S1 (.lst [nV n])) S2 (.lst (nL (List.range n)))) := same_new hS2
      refine ⟨S1, S2, _, _, rfl, rfl, sS2 _ _ upd_same, upd_same, ?_, fun S hS => ?_⟩
      · rw [nL_len, List.length_range, PySem.sizeLine_eq]
        show 1 + n ≤ _
        omega
      have eS : ([nV n] ++ nL (List.range n) : List V) = nL (n :: List.range n) := rfl
      rw [eS]
      have sS : Same H5 (upd (upd (upd H5 S1 (.lst [nV n])) S2 (.lst (nL (List.range n)))) S (.lst (nL (n :: List.range n)))) := (sS1.trans sS2).trans (same_new hS)
      have hSv : (upd (upd (upd H5 S1 (.lst [nV n])) S2 (.lst (nL (List.range n)))) S (.lst (nL (n :: List.range n)))) S = some (.lst (nL (n :: List.range n))) := upd_same
      have hSn : H5 S = none := (sS1.trans sS2).free hS
      generalize upd (upd (upd H5 S1 (.lst [nV n])) S2 (.lst (nL (List.range n)))) S (.lst (nL (n :: List.range n))) = H6 at sS hSv
      clear hS1 sS1 hS2 sS2 hS
      -- who is who
      have s36 : Same H3 H6 := (sU.trans sC).trans sS
      have sH6 : Same H H6 := (sH2'.trans s3).trans s36
      have hU6 : H6 U = some (.lst (bL (List.replicate (joined n ts).length false))) := sS _ _ (sC _ _ hUv)
      have hC6 : H6 C = some (.lst (nL (List.replicate (joined n ts).length 0))) := sS _ _ hCv
      have hJ6 := hJ3.same s36
      have hD6 := s36 _ _ h1
      have h26 : RowsP H6 rs _ := paired_imp h2 fun q row _ z => s36 _ _ z
      have hUrs : U ∉ rs := fun z => by
        obtain ⟨row, hrow⟩ := paired_mem h2 z
        rw [hU3] at hrow; cases hrow
      have hCrs : C ∉ rs := fun z => by
        obtain ⟨row, hrow⟩ := paired_mem h2 z
        have := sU _ _ hrow
        rw [hC4] at this; cases this
      have hCU : C ≠ U := fun z => by rw [z, hUv] at hC4; cases hC4
      have hDrs : D ∉ rs := fun z => (h4 D z).2 rfl
      have hDU : D ≠ U := fun z => by rw [z, hU3] at h1; cases h1
      have hDC : D ≠ C := fun z => by have := sU _ _ h1; rw [z, hC4] at this; cases this
      obtain ⟨js2, hj21, _⟩ := id hJT
      have hJrs : J ∉ rs := fun z => by rw [(h4 J z).1] at hj21; cases hj21
      have hJU : J ≠ U := fun z => by rw [z, hU3] at hj1; cases hj1
      have hJC : J ≠ C := fun z => by have := sU _ _ hj1; rw [z, hC4] at this; cases this
      have hSrs : S ∉ rs := fun z => by
        obtain ⟨row, hrow⟩ := paired_mem h2 z
        have := sC _ _ (sU _ _ hrow)
        rw [hSn] at this; cases this
      have hSU : S ≠ U := fun z => by have := sC _ _ hUv; rw [← z, hSn] at this; cases this
      have hSC : S ≠ C := fun z => by rw [z, hCv] at hSn; cases hSn
      have hHrs : ∀ q, q ∈ rs → H q = none := fun q hq => sH2'.free (h4 q hq).1
      have hHU : H U = none := sH2'.free (s3.free hU3)
      have hHC : H C = none := sH2'.free (s3.free (sU.free hC4))
      refine ⟨S, rfl, ⟨_, SqL.of hSv⟩, ?_⟩
      refine for_it (walk_list (K := K) (a := S) (xs := nL (n :: List.range n)))
        (fun i σ H' => ∃ (x6 x7 x8 x9 x10 : Option V), σ = [some (nV n), some (.ref a), some (.ref J), some (.ref D), some (.ref U), some (.ref C), x6, x7, x8, x9, x10] ∧ Frm (fun b => b ∈ rs ∨ b = U ∨ b = C) H6 H' ∧
          RowsP H' rs (((n :: List.range n).take i).foldl (colStep (joined n ts)) (cs0 (joined n ts) (n + 1))).rows ∧ H' U = some (.lst (bL (((n :: List.range n).take i).foldl (colStep (joined n ts)) (cs0 (joined n ts) (n + 1))).used)) ∧
          H' C = some (.lst (nL (((n :: List.range n).take i).foldl (colStep (joined n ts)) (cs0 (joined n ts) (n + 1))).cols)))
        ⟨none, none, none, none, none, rfl, .refl _ _, h26, hU6, hC6⟩ (fun i σ H' _ p => ?_) ?_ ?_
      · obtain ⟨_, _, _, _, _, _, f, _⟩ := p
        exact SqL.of (f _ _ (fun z => z.elim hSrs fun z => z.elim hSU hSC) hSv)
      · rintro i x σ H7 H8 hi ⟨x6, x7, x8, x9, x10, rfl, f7, g1, g2, g3⟩ ⟨rfl, hx⟩
        rw [nL_len] at hi
        rw [get_nL hi] at hx
        cases hx
        have hst : (n :: List.range n)[i] < n + 1 := by
          have : (n :: List.range n)[i] ∈ n :: List.range n := List.getElem_mem hi
          rcases List.mem_cons.mp this with z | z
          · omega
          · have := List.mem_range.mp z
            omega
        have htk := take_succ_get hi
        obtain ⟨B, hcl⟩ := colRun_b okJ hev ((n :: List.range n).take i) (fun x hx => by
          rcases List.mem_cons.mp (List.mem_of_mem_take hx) with z | z
          · omega
          · have := List.mem_range.mp z
            omega) (cs0 (joined n ts) (n + 1)) (BInv.zero hev) List.length_replicate
        have hstep : ((n :: List.range n).take (i + 1)).foldl (colStep (joined n ts)) (cs0 (joined n ts) (n + 1)) = colStep (joined n ts) (((n :: List.range n).take i).foldl (colStep (joined n ts)) (cs0 (joined n ts) (n + 1))) (n :: List.range n)[i] := by
          rw [htk, List.foldl_append]; rfl
        rw [hstep]
        generalize ((n :: List.range n).take i).foldl (colStep (joined n ts)) (cs0 (joined n ts) (n + 1)) = st at g1 g2 g3 B hcl
        generalize (n :: List.range n)[i] = start at hst
        obtain ⟨rows, us, cols⟩ := st
        have g1 : RowsP H8 rs rows := g1
        have g2 : H8 U = some (.lst (bL us)) := g2
        have g3 : H8 C = some (.lst (nL cols)) := g3
        have hcl : cols.length = (joined n ts).length := hcl
        have R := BInv.round okJ B hst
        have hD7 := f7 _ _ (fun z => z.elim hDrs fun z => z.elim hDU hDC) hD6
        have hS0 : ∀ b, (b ∈ rs ∨ b = U ∨ b = C) → ∃ xs, H6 b = some (.lst xs) := fun b hb => by
          rcases hb with hb | hb | hb
          · obtain ⟨row, hrow⟩ := paired_mem h26 hb
            exact ⟨_, hrow⟩
          · rw [hb]; exact ⟨_, hU6⟩
          · rw [hb]; exact ⟨_, hC6⟩
        have hJ7 := hJ6.frm f7 (fun z => z.elim hJrs fun z => z.elim hJU hJC) hS0
        refine ⟨_, rfl, _, rfl, _, rfl, _, rfl, start, n + 1, J, D, U, joined n ts, rs, rows, us, rfl, hJ7, by omega, okJ, by omega, hD7, g1, h3, g2, hUrs, hDrs, hDU, hJrs, hJU, B.start hst, fun H9 W f9 hW0 k1 k2 k3 => ?_⟩
        have fr := f9
        have hWC : W ≠ C := fun z => by rw [z, g3] at hW0; cases hW0
        have hWrs : W ∉ rs := fun z => by
          obtain ⟨row, hrow⟩ := paired_mem g1 z
          rw [hW0] at hrow; cases hrow
        have hWU : W ≠ U := fun z => by rw [z, g2] at hW0; cases hW0
        have hC9 := f9 _ _ (fun z => z.elim hCrs hCU) g3
        have R' : Rounded (n + 1) (joined n ts) start us (roundRun (joined n ts) (start0 rows us start)).rows (roundRun (joined n ts) (start0 rows us start)).used (roundRun (joined n ts) (start0 rows us start)).done := R
        have hcs : colStep (joined n ts) ⟨rows, us, cols⟩ start = ⟨(roundRun (joined n ts) (start0 rows us start)).rows, (roundRun (joined n ts) (start0 rows us start)).used, paint cols (roundRun (joined n ts) (start0 rows us start)).done⟩ := rfl
        rw [hcs]
        clear hcs R hstep
        generalize roundRun (joined n ts) (start0 rows us start) = fin at k1 k2 k3 R'
        have hdl : fin.done.length ≤ (joined n ts).length := nodup_le _ _ R'.nd fun x hx => (R'.new x hx).1
        refine ⟨_, rfl, W, _, rfl, SqL.of k3, ?_⟩
        refine for_it (walk_enum (K := K) (a := W) (xs := nL fin.done))
          (fun j σ H' => ∃ (x8 x9 : Option V), σ = [some (nV n), some (.ref a), some (.ref J), some (.ref D), some (.ref U), some (.ref C), some (nV start), some (.ref W), x8, x9, x10] ∧ (∀ b o, b ≠ C → H9 b = some o → H' b = some o) ∧ H' C = some (.lst (nL (paintTo cols fin.done j))))
          ⟨x8, x9, rfl, fun b o _ e => e, hC9⟩ (fun j σ H' _ p => ?_) ?_ ?_
        · obtain ⟨_, _, _, p1, _⟩ := p
          exact SqL.of (p1 _ _ hWC k3)
        · rintro j x σ H10 H11 hj ⟨y8, y9, rfl, p1, p2⟩ ⟨T0, x1, x2, rfl, nT, rfl, e1, e2⟩
          cases e1
          rw [nL_len] at hj
          have e2 : (nL fin.done)[j]? = some x2 := e2
          rw [get_nL hj] at e2
          cases e2
          have hCT : C ≠ T0 := ne_of_none p2 nT
          have hkl := (R'.new _ (List.getElem_mem hj)).1
          refine ⟨T0, _, rfl, SqT.of upd_same, rfl, _, [nV fin.done[j]], rfl, _, [], rfl, rfl, ?_⟩
          refine ⟨_, rfl, _, _, rfl, rfl, (by show (0 : Int) < 2; decide), _, rfl, _, rfl, C, _, ((fin.done[j] : Nat) : Int), fin.done[j], rfl, rfl, by rw [upd_ne hCT]; exact p2, ixN_nat (by rw [nL_len, paintTo_len]; omega), ?_⟩
          refine ⟨_, _, rfl, fun b o nb e => ?_, ?_⟩
          · rw [upd_ne nb, upd_ne (ne_of_none (p1 b o nb e) nT)]; exact p1 b o nb e
          · rw [upd_same, paintTo_succ]
            have e3 : (V.int ((j : Int) % 2)) = nV (j % 2) := by show V.int _ = V.int _; congr 1
            have e4 : fin.done.getD j 0 = fin.done[j] := by rw [List.getD_eq_getElem?_getD, List.getElem?_eq_getElem hj]; rfl
            rw [e4, ← nL_set, ← e3]
        · rintro σ H10 ⟨y8, y9, rfl, p1, p2⟩
          rw [nL_len] at p2
          refine ⟨_, _, _, _, _, rfl, fun b o nb e => ?_, ?_, ?_, p2⟩
          · have e7 := f7 b o nb e
            exact p1 b o (fun z => nb (.inr (.inr z))) (f9 b o (fun z => nb (z.elim .inl fun z => .inr (.inl z))) e7)
          · exact paired_imp k1 fun q row hq z => p1 _ _ (fun y => hCrs (by rw [← y]; exact hq)) z
          · exact p1 _ _ hCU.symm k2
      · rintro σ H7 ⟨x6, x7, x8, x9, x10, rfl, f7, g1, g2, g3⟩
        rw [nL_len, List.take_length] at g3
        have sH7 : Same H H7 := fun b o e => f7 b o (fun z => by
          rcases z with z | z | z
          · rw [hHrs b z] at e; cases e
          · rw [z, hHU] at e; cases e
          · rw [z, hHC] at e; cases e) (sH6 b o e)
        refine ⟨_, rfl, _, rfl, a, _, rfl, .inl (SqL.of (sH7 _ _ ha1)), _, rfl, C, _, rfl, SqL.of g3, fun p hp => ?_⟩
        refine hQ _ p (sameN sH7 hp) (sH7.free hp) ?_
        rw [upd_same, List.length_map, hal, cutV_take]
        show some (HO.lst ((nL _).take ts.length)) = some (HO.lst (nL ((colRun (joined n ts) (n + 1) (n :: List.range n)).cols.take ts.length)))
        unfold nL colRun
        rw [List.map_take]
end
end TT
namespace TT
open PySem L2 TH
/-- an answer's class: name x, its __init__ the statement st, its field fld -/
structure AnsCls (K : PySem.W.Frag) (mg : PySem.Str → Option Value) (x qual fld : PySem.Str) (st : Stmt) where
  C : Addr
  g : mg x = some (.ref C)
  cl : Cls K C
  nF : NoAttr K C fld
  fI : Addr
  fdI : FuncData
  maker : Mk K C fI
  F : Fun K "__init__" qual st fI fdI
  b : Binds K fdI ["self", fld] []
structure G4 (K : PySem.W.Frag) (mg : PySem.Str → Option Value) extends G3 K mg where
  even : AnsCls K mg "Even" "Even.__init__" "colours" s_Even_init
  odd : AnsCls K mg "Odd" "Odd.__init__" "some" s_Odd_init
  shares : AnsCls K mg "Shares" "Shares.__init__" "colours" s_Shares_init
  ring : AnsCls K mg "Ring" "Ring.__init__" "ring" s_Ring_init
  halved : DefAt K mg "halved" s_halved ["places", "ties"]
  nearly : DefAt K mg "nearly" s_nearly ["places", "ties"]
/-- behind H0 an answer of the class C stands at x, its field a list of its own -/
def AnsAt (H0 H : Hp) (x C : Addr) (fld : PySem.Str) (xs : List V) : Prop := ∃ dx l, H x = some (.ins C dx [(fld, .ref l)]) ∧ H l = some (.lst xs) ∧ H0 x = none ∧ H0 l = none ∧ H0 dx = none
theorem AnsAt.same {H0 H H' : Hp} {x C : Addr} {fld : PySem.Str} {xs : List V} (s : Same H H') (h : AnsAt H0 H x C fld xs) : AnsAt H0 H' x C fld xs := by
  obtain ⟨dx, l, h1, h2, h3⟩ := h
  exact ⟨dx, l, s _ _ h1, s _ _ h2, h3⟩
theorem AnsAt.up {H0 H1 H : Hp} {x C : Addr} {fld : PySem.Str} {xs : List V} (s : Same H0 H1) (h : AnsAt H1 H x C fld xs) : AnsAt H0 H x C fld xs := by
  obtain ⟨dx, l, h1, h2, h3, h4, h5⟩ := h
  exact ⟨dx, l, h1, h2, s.free h3, s.free h4, s.free h5⟩
def spInit (C : Addr) (fld : PySem.Str) : Sp := fun vs H Q _ => ∃ (x p dx : Addr) (xs : List V), vs = [.ref x, .ref p] ∧ H x = some (.ins C dx []) ∧ H p = some (.lst xs) ∧
  ∀ H' l, (∀ b o, b ≠ x → H b = some o → H' b = some o) → H l = none → H' l = some (.lst xs) → H' x = some (.ins C dx [(fld, .ref l)]) → Q .non H'
theorem webV_ok {K : PySem.W.Frag} {H : Hp} {pv tv : V} (h : WebV K H pv tv .ok) : ∃ (n : Nat) (a : Addr) (ts : List Tie), pv = nV n ∧ tv = .ref a ∧ 1 ≤ n ∧ n ≤ 40 ∧ TiesV H a ts ∧ Ok n ts ∧ ts.length ≤ 120 := by
  cases h with
  | @good n a xs bs h1 h2 h l ts hb =>
    have key : ∀ (xs : List V) (bs : List Bool), Paired (TieV K H n) xs bs → bs.all id = true → ∃ (as : List Addr) (tt : List Tie), xs = as.map V.ref ∧ Paired (fun q t => H q = some (.tup (tV t))) as tt ∧ Ok n.toNat tt ∧ tt.length = xs.length := by
      intro xs bs hp
      induction hp with
      | nil => exact fun _ => ⟨[], [], rfl, .nil, fun t ht => (by cases ht), rfl⟩
      | @cons x b xs bs r t ih =>
        intro hb
        rw [List.all_cons, Bool.and_eq_true] at hb
        obtain ⟨as, tt, e1, e2, e3, e4⟩ := ih hb.2
        have hb1 : b = true := hb.1
        subst hb1
        generalize hbt : true = bt at r
        cases r with
        | notTup ty h => cases hbt
        | long h l => cases hbt
        | @pair q p1 p2 bp bq hq hp1 hp2 =>
          have hbt := hbt.symm
          rw [Bool.and_eq_true, Bool.and_eq_true] at hbt
          obtain ⟨c1, c2, c3⟩ := hbt
          cases p1 with
          | int i =>
            cases p2 with
            | int j =>
              simp only [inB, ltV, Bool.and_eq_true, decide_eq_true_eq] at c1 c2 c3
              refine ⟨q :: as, (i.toNat, j.toNat) :: tt, by rw [e1]; rfl, .cons ?_ e2, ?_, by simp [e4]⟩
              · rw [hq]
                unfold tV
                congr 3
                · congr 1; omega
                · congr 2; omega
              · intro t ht
                rcases List.mem_cons.mp ht with rfl | ht
                · exact ⟨by show i.toNat < j.toNat; omega, by show j.toNat < n.toNat; omega⟩
                · exact e3 t ht
            | _ => cases c2
          | _ => cases c1
    obtain ⟨as, tt, e1, e2, e3, e4⟩ := key xs bs ts hb
    exact ⟨n.toNat, a, tt, by show V.int n = V.int _; congr 1; omega, rfl, by omega, by omega, ⟨as, by rw [h, e1], e2⟩, e3, by omega⟩
theorem WebV.of {K : PySem.W.Frag} {H : Hp} {n : Nat} {a : Addr} {ts : List Tie} (h1 : 1 ≤ n) (h2 : n ≤ 40) (h : TiesV H a ts) (ok : Ok n ts) (hl : ts.length ≤ 120) : WebV K H (nV n) (.ref a) .ok := by
  obtain ⟨as, ha, hp⟩ := h
  have key : ∀ (as : List Addr) (tt : List Tie), Paired (fun q t => H q = some (.tup (tV t))) as tt → Ok n tt → Paired (TieV K H n) (as.map V.ref) (tt.map fun _ => true) := by
    intro as tt hp
    induction hp with
    | nil => exact fun _ => .nil
    | @cons q t as tt r _ ih =>
      intro ok
      refine .cons ?_ (ih fun t ht => ok t (List.mem_cons_of_mem _ ht))
      have o := ok t List.mem_cons_self
      have := TieV.pair (K := K) (n := n) r (.int _) (.int _)
      have e : (inB (n : Int) (V.int t.1) && (inB (n : Int) (V.int t.2) && ltV (V.int t.1) (V.int t.2))) = true := by
        simp only [inB, ltV, Bool.and_eq_true, decide_eq_true_eq]
        omega
      rw [e] at this
      exact this
  refine WebV.good (bs := ts.map fun _ => true) (by omega) (by omega) ha (by rw [List.length_map, paired_length hp]; exact hl) (key as ts hp ok) ?_
  rw [List.all_map, List.all_eq_true]
  intro x _
  rfl
noncomputable def firstBar (ts : List Tie) (n : Nat) : Option (List Nat) := (partsOf ts n).find? fun p => barsTwo p ts
def spHalved (K : PySem.W.Frag) (cE cO cP cT : Addr) : Sp := fun vs H Q E => ∃ (pv tv : V) (o : Out), vs = [pv, tv] ∧ WebV K H pv tv o ∧
  match o with
  | .ok => ∀ (n : Nat) (a : Addr) (ts : List Tie), pv = nV n → tv = .ref a → TiesV H a ts → Ok n ts → ts.length ≤ 120 → 1 ≤ n → n ≤ 40 → ∀ H' x, Same H H' →
      (match firstBar ts n with
        | some part => AnsAt H H' x cO "some" (nL part)
        | none => AnsAt H H' x cE "colours" (nL (twoColours n ts))) → Q (.ref x) H'
  | .places => ∀ H', Same H H' → E (.ref cP) none H'
  | .ties => ∀ H', Same H H' → E (.ref cT) none H'
def spNearly (K : PySem.W.Frag) (cP cT : Addr) : Sp := fun vs H Q E => ∃ (pv tv : V) (o : Out), vs = [pv, tv] ∧ WebV K H pv tv o ∧
  match o with
  | .ok => ∀ (n : Nat) (a : Addr) (ts : List Tie), pv = nV n → tv = .ref a → TiesV H a ts → Ok n ts → ts.length ≤ 120 → 1 ≤ n → n ≤ 40 → ∀ H' p, Same H H' → H p = none → H' p = some (.lst (nL (twoColours n ts))) → Q (.ref p) H'
  | .places => ∀ H', Same H H' → E (.ref cP) none H'
  | .ties => ∀ H', Same H H' → E (.ref cT) none H'
section
variable {P : Program} {w : World} {K : PySem.W.Frag} {mg : PySem.Str → Option Value} {base : Heap}
theorem sc_Even_init : FnScope ["self", "colours"] ["self", "colours"] (defScope s_Even_init) := ⟨rfl, rfl, rfl, by decide +kernel, rfl, by decide +kernel, by decide +kernel⟩
theorem sc_Odd_init : FnScope ["self", "some"] ["self", "some"] (defScope s_Odd_init) := ⟨rfl, rfl, rfl, by decide +kernel, rfl, by decide +kernel, by decide +kernel⟩
theorem sc_Shares_init : FnScope ["self", "colours"] ["self", "colours"] (defScope s_Shares_init) := ⟨rfl, rfl, rfl, by decide +kernel, rfl, by decide +kernel, by decide +kernel⟩
theorem sc_Ring_init : FnScope ["self", "ring"] ["self", "ring"] (defScope s_Ring_init) := ⟨rfl, rfl, rfl, by decide +kernel, rfl, by decide +kernel, by decide +kernel⟩
theorem init_read {C : Addr} {fld : PySem.Str} {x p dx : Addr} {xs : List V} {H : Hp} {Q : VK} (hx : H x = some (.ins C dx [])) (hp : H p = some (.lst xs))
    (hQ : ∀ H' l, (∀ b o, b ≠ x → H b = some o → H' b = some o) → H l = none → H' l = some (.lst xs) → H' x = some (.ins C dx [(fld, .ref l)]) → Q .non H') (l : Addr) (hl : H l = none) :
    Q .non (upd (upd H l (.lst xs)) x (.ins C dx [(fld, .ref l)])) := by
  have hxl : x ≠ l := ne_of_none hx hl
  refine hQ _ l (fun b o hb e => ?_) hl ?_ upd_same
  · rw [upd_ne hb, upd_ne (ne_of_none e hl)]; exact e
  · rw [upd_ne hxl.symm]; exact upd_same
theorem ok_Even_init (T : G4 K mg) : FnOk P w K mg base CX0 1 T.even.fI T.even.fdI ["self", "colours"] (spInit T.even.C "colours") := by
  refine T.even.F.ok sc_Even_init (fun vs H Q E h => ?_) (fun cdv A outer s H vs Q E hr h => ?_)
  · obtain ⟨_, _, _, _, rfl, _⟩ := h
    rfl
  · obtain ⟨x, p, dx, xs, rfl, hx, hp, hQ⟩ := h
    refine ⟨_, pss_one (ps_fld (pv 0) (pe_callTy call_list_of (by rfl) T.b.list (by decide +kernel) (pa_cons (pv 1) pa_nil)) rfl), ?_⟩
    refine ⟨_, rfl, p, xs, rfl, .inl (SqL.of hp), fun l hl => ?_⟩
    exact ⟨_, rfl, x, T.even.C, dx, [], rfl, by rw [upd_ne (ne_of_none hx hl)]; exact hx, T.even.cl, T.even.nF, (by show 0 < 1000; decide), init_read hx hp hQ l hl⟩
theorem ok_Odd_init (T : G4 K mg) : FnOk P w K mg base CX0 1 T.odd.fI T.odd.fdI ["self", "some"] (spInit T.odd.C "some") := by
  refine T.odd.F.ok sc_Odd_init (fun vs H Q E h => ?_) (fun cdv A outer s H vs Q E hr h => ?_)
  · obtain ⟨_, _, _, _, rfl, _⟩ := h
    rfl
  · obtain ⟨x, p, dx, xs, rfl, hx, hp, hQ⟩ := h
    refine ⟨_, pss_one (ps_fld (pv 0) (pe_callTy call_list_of (by rfl) T.b.list (by decide +kernel) (pa_cons (pv 1) pa_nil)) rfl), ?_⟩
    refine ⟨_, rfl, p, xs, rfl, .inl (SqL.of hp), fun l hl => ?_⟩
    exact ⟨_, rfl, x, T.odd.C, dx, [], rfl, by rw [upd_ne (ne_of_none hx hl)]; exact hx, T.odd.cl, T.odd.nF, (by show 0 < 1000; decide), init_read hx hp hQ l hl⟩
theorem ok_Shares_init (T : G4 K mg) : FnOk P w K mg base CX0 1 T.shares.fI T.shares.fdI ["self", "colours"] (spInit T.shares.C "colours") := by
  refine T.shares.F.ok sc_Shares_init (fun vs H Q E h => ?_) (fun cdv A outer s H vs Q E hr h => ?_)
  · obtain ⟨_, _, _, _, rfl, _⟩ := h
    rfl
  · obtain ⟨x, p, dx, xs, rfl, hx, hp, hQ⟩ := h
    refine ⟨_, pss_one (ps_fld (pv 0) (pe_callTy call_list_of (by rfl) T.b.list (by decide +kernel) (pa_cons (pv 1) pa_nil)) rfl), ?_⟩
    refine ⟨_, rfl, p, xs, rfl, .inl (SqL.of hp), fun l hl => ?_⟩
    exact ⟨_, rfl, x, T.shares.C, dx, [], rfl, by rw [upd_ne (ne_of_none hx hl)]; exact hx, T.shares.cl, T.shares.nF, (by show 0 < 1000; decide), init_read hx hp hQ l hl⟩
theorem ok_Ring_init (T : G4 K mg) : FnOk P w K mg base CX0 1 T.ring.fI T.ring.fdI ["self", "ring"] (spInit T.ring.C "ring") := by
  refine T.ring.F.ok sc_Ring_init (fun vs H Q E h => ?_) (fun cdv A outer s H vs Q E hr h => ?_)
  · obtain ⟨_, _, _, _, rfl, _⟩ := h
    rfl
  · obtain ⟨x, p, dx, xs, rfl, hx, hp, hQ⟩ := h
    refine ⟨_, pss_one (ps_fld (pv 0) (pe_callTy call_list_of (by rfl) T.b.list (by decide +kernel) (pa_cons (pv 1) pa_nil)) rfl), ?_⟩
    refine ⟨_, rfl, p, xs, rfl, .inl (SqL.of hp), fun l hl => ?_⟩
    exact ⟨_, rfl, x, T.ring.C, dx, [], rfl, by rw [upd_ne (ne_of_none hx hl)]; exact hx, T.ring.cl, T.ring.nF, (by show 0 < 1000; decide), init_read hx hp hQ l hl⟩
/-- an answer made: what the maker asks of the continuation -/
theorem made {C : Addr} {fld : PySem.Str} {H : Hp} {p : Addr} {xs : List V} {Q : VK} (hp : H p = some (.lst xs)) (h : ∀ H' x, Same H H' → AnsAt H H' x C fld xs → Q (.ref x) H') :
    ∀ x dx, H x = none → H dx = none → dx ≠ x → spInit C fld (.ref x :: ([.ref p] ++ [])) (upd (upd H dx (.own x)) x (.ins C dx [])) (fun v H2 => v = .non ∧ Q (.ref x) H2) E0 := by
  intro x dx nx ndx ne
  have s0 : Same H (upd (upd H dx (.own x)) x (.ins C dx [])) := sameU (same_new ndx) nx
  refine ⟨x, p, dx, xs, rfl, upd_same, s0 _ _ hp, fun H' l f hl h1 h2 => ⟨rfl, ?_⟩⟩
  have sH : Same H H' := fun b o e => f b o (ne_of_none e nx) (s0 _ _ e)
  exact h H' x sH ⟨dx, l, h2, h1, nx, s0.free hl, ndx⟩
theorem sc_nearly : FnScope ["places", "ties"] ["places", "ties"] (defScope s_nearly) := ⟨rfl, rfl, rfl, by decide +kernel, rfl, by decide +kernel, by decide +kernel⟩
theorem ok_nearly (T : G4 K mg) : FnOk P w K mg base (L2.CX P w) 5 T.nearly.f T.nearly.fd ["places", "ties"] (spNearly K T.badPlaces.C T.badTies.C) := by
  have CW : FnOk P w K mg base (L2.CX P w) 4 T.check_web.f T.check_web.fd ["places", "ties"] (spCheck K T.badPlaces.C T.badTies.C) := ok_check_web T.toG1
  have TC : FnOk P w K mg base CX0 3 T.two_colours.f T.two_colours.fd ["places", "ties"] spTwo := ok_two_colours T.toG3
  refine T.nearly.F.okX sc_nearly (fun vs H Q E h => ?_) (fun cdv A outer s H vs Q E hr h => ?_)
  · obtain ⟨_, _, _, rfl, _⟩ := h
    rfl
  · obtain ⟨pv', tv, o, rfl, hw, hQ⟩ := h
    refine ⟨_, pss_cons (ps_expr (pe_call CW hr (by rfl) T.check_web.g T.check_web.F.kp T.check_web.b .nil (passes_call (takes_of rfl rfl rfl rfl) (fun _ _ _ _ h => h)) (pa_cons (pv 0) (pa_cons (pv 1) pa_nil))))
      (pss_one (ps_ret (pe_call TC (hr.mono (by decide)) (by rfl) T.two_colours.g T.two_colours.F.kp T.two_colours.b .nil (E := E0) pass0 (pa_cons (pv 0) (pa_cons (pv 1) pa_nil))))), ?_⟩
    refine ⟨_, rfl, _, rfl, pv', tv, o, rfl, hw, ?_⟩
    cases o with
    | places => exact hQ
    | ties => exact hQ
    | ok =>
      obtain ⟨n, a, ts, e1, e2, h1, h2, ht, ok, hl⟩ := (webV_ok hw)
      intro H1 s1
      subst e1 e2
      exact ⟨_, rfl, _, rfl, n, a, ts, rfl, ht.same s1, by omega, ok, by omega, fun H' p s' hp hv => hQ n a ts rfl rfl ht ok hl h1 h2 H' p (s1.trans s') (s1.free hp) hv⟩
theorem sc_halved : FnScope ["places", "ties", "part"] ["places", "ties"] (defScope s_halved) := ⟨rfl, rfl, rfl, by decide +kernel, rfl, by decide +kernel, by decide +kernel⟩
theorem ok_halved (T : G4 K mg) : FnOk P w K mg base (L2.CX P w) 6 T.halved.f T.halved.fd ["places", "ties"] (spHalved K T.even.C T.odd.C T.badPlaces.C T.badTies.C) := by
  have CW : FnOk P w K mg base (L2.CX P w) 4 T.check_web.f T.check_web.fd ["places", "ties"] (spCheck K T.badPlaces.C T.badTies.C) := ok_check_web T.toG1
  have TC : FnOk P w K mg base CX0 3 T.two_colours.f T.two_colours.fd ["places", "ties"] spTwo := ok_two_colours T.toG3
  have PO : FnOk P w K mg base CX0 4 T.parts_of.f T.parts_of.fd ["places", "ties"] spPartsOf := ok_parts_of T.toG2
  have BT : FnOk P w K mg base CX0 2 T.bars_two.f T.bars_two.fd ["part", "ties"] (spBars K) := ok_bars_two T.toG2
  have EI : FnOk P w K mg base CX0 1 T.even.fI T.even.fdI ["self", "colours"] (spInit T.even.C "colours") := ok_Even_init T
  have OI : FnOk P w K mg base CX0 1 T.odd.fI T.odd.fdI ["self", "some"] (spInit T.odd.C "some") := ok_Odd_init T
  refine T.halved.F.okX sc_halved (fun vs H Q E h => ?_) (fun cdv A outer s H vs Q E hr h => ?_)
  · obtain ⟨_, _, _, rfl, _⟩ := h
    rfl
  · obtain ⟨pv', tv, o, rfl, hw, hQ⟩ := h
    have nd := sc_halved.nd
    refine ⟨_, pss_cons (ps_expr (pe_call CW (hr.mono (by decide)) (by rfl) T.check_web.g T.check_web.F.kp T.check_web.b .nil (passes_call (takes_of rfl rfl rfl rfl) (fun _ _ _ _ h => h)) (pa_cons (pv 0) (pa_cons (pv 1) pa_nil))))
      (pss_cons (ps_for (passes_of rfl) rfl (pi_list (pe_call PO (hr.mono (by decide)) (by rfl) T.parts_of.g T.parts_of.F.kp T.parts_of.b .nil (E := E0) pass0 (pa_cons (pv 0) (pa_cons (pv 1) pa_nil)))) (pg_name (i := 2) nd rfl (.inl rfl))
        (pss_one (ps_if (pt_val (pe_call BT (hr.mono (by decide)) (by rfl) T.bars_two.g T.bars_two.F.kp T.bars_two.b .nil (E := E0) pass0 (pa_cons (pv 2) (pa_cons (pv 1) pa_nil))))
          (pss_one (ps_ret (pe_make T.odd.maker OI (hr.mono (by decide)) (by rfl) T.odd.g T.odd.b .nil (E := E0) pass0 (pa_cons (pv 2) pa_nil)))) pss_nil)))
      (pss_one (ps_ret (pe_make T.even.maker EI (hr.mono (by decide)) (by rfl) T.even.g T.even.b .nil (E := E0) pass0 (pa_cons (pe_call TC (hr.mono (by decide)) (by rfl) T.two_colours.g T.two_colours.F.kp T.two_colours.b .nil (E := E0) pass0 (pa_cons (pv 0) (pa_cons (pv 1) pa_nil))) pa_nil))))), ?_⟩
    refine ⟨_, rfl, _, rfl, pv', tv, o, rfl, hw, ?_⟩
    cases o with
    | places => exact hQ
    | ties => exact hQ
    | ok =>
      obtain ⟨n, a, ts, e1, e2, h1, h2, ht, ok, hl⟩ := (webV_ok hw)
      intro H1 s1
      subst e1 e2
      have hQ := hQ n a ts rfl rfl ht ok hl h1 h2
      refine ⟨_, rfl, _, rfl, n, a, ts, rfl, ht.same s1, by omega, ok, by omega, fun H2 PS s2 hPS ⟨as, hp1, hp2⟩ => ?_⟩
      have s12 := s1.trans s2
      have hpl := paired_length hp2
      refine ⟨PS, rfl, ⟨_, SqL.of hp1⟩, for_it (walk_list (K := K) (a := PS) (xs := as.map V.ref)) (fun i σ H' => Same H2 H' ∧ (∀ part, part ∈ (partsOf ts n).take i → barsTwo part ts = false) ∧ ∃ x2, σ = [some (nV n), some (.ref a), x2]) ⟨.refl _, fun part h => by simp at h, none, rfl⟩ (fun i σ H' _ p => p.1.seq (SqL.of hp1)) ?_ ?_⟩
      · rintro i x σ H3 H4 hi ⟨s3, hall, x2, rfl⟩ ⟨rfl, hx⟩
        rw [List.length_map] at hi
        rw [List.getElem?_map, List.getElem?_eq_getElem hi] at hx
        cases hx
        obtain ⟨part, hpart, hq⟩ := paired_get hp2 (List.getElem?_eq_getElem hi)
        have hpl2 : part.length ≤ 1000 := by
          have hm := List.mem_of_getElem? hpart
          unfold partsOf at hm
          obtain ⟨r, _, e⟩ := List.mem_map.mp hm
          rw [← e]
          have := partOf_len (ts := ts) (n := n) (r := r)
          omega
        have hip : i < (partsOf ts n).length := (List.getElem?_eq_some_iff.mp hpart).1
        have hpe : (partsOf ts n)[i] = part := (List.getElem?_eq_some_iff.mp hpart).2
        refine ⟨_, rfl, _, rfl, as[i], a, part, ts, rfl, s3 _ _ hq, hpl2, ht.same (s12.trans s3), by omega, fun H5 s5 => ?_⟩
        refine ⟨_, rfl, ?_⟩
        cases c : barsTwo part ts with
        | false =>
          refine iteF ⟨s3.trans s5, fun p hp => ?_, _, rfl⟩
          rw [take_succ_get hip, List.mem_append, List.mem_singleton, hpe] at hp
          rcases hp with hp | hp
          · exact hall p hp
          · rw [hp]; exact c
        | true =>
          refine iteT ?_
          have hfb : firstBar ts n = some part := by
            unfold firstBar
            rw [List.find?_eq_some_iff_append]
            refine ⟨c, (partsOf ts n).take i, (partsOf ts n).drop (i + 1), ?_, fun p hp => by rw [hall p hp]; rfl⟩
            rw [← hpe, List.getElem_cons_drop, List.take_append_drop]
          rw [hfb] at hQ
          have s25 := s12.trans (s3.trans s5)
          refine ⟨_, rfl, made (s5 _ _ (s3 _ _ hq)) fun H' x s' hA => hQ H' x (s25.trans s') (hA.up s25)⟩
      · rintro σ H3 ⟨s3, hall, x2, rfl⟩
        rw [List.length_map, hpl, List.take_length] at hall
        have hfb : firstBar ts n = none := by
          unfold firstBar
          rw [List.find?_eq_none]
          intro p hp
          rw [hall p hp]
          decide
        rw [hfb] at hQ
        have s13 := s12.trans s3
        refine ⟨_, rfl, _, rfl, n, a, ts, rfl, ht.same s13, by omega, ok, by omega, fun H4 p s4 hp hv => ?_⟩
        have s14 := s13.trans s4
        exact made hv fun H' x s' hA => hQ H' x (s14.trans s') (hA.up s14)
end
end TT
namespace TT
open PySem PySem.Spec PyProof.Rows
open L2 hiding St
/-! ### two rules of our own: xs[i] op= e, and setdefault of a dict with tuple keys -/
section
variable {X : Cx} {pins : List (Addr × Obj)} {σ : L2.St} {H : Hp} {s : Shared} {a b : Addr} {u r : Value} {d : V} {k : List Key} {A : Around} {E : Value → Shared → Prop}
def rGetL (K : PySem.W.Frag) : V → V → Hp → VK → Prop := fun o i H Q => ∃ (p : Addr) (xs : List V) (k : Nat) (v : V), o = .ref p ∧ i = .int (k : Int) ∧ SqL K H p xs ∧ xs[k]? = some v ∧ Q v H
theorem get_list : PGet X (rGetL X.K) := by
  intro pins s σ H o i ov iv Q I ro ri h
  obtain ⟨p, xs, k, v, rfl, rfl, hq, he, q⟩ := h
  cases ro
  obtain ⟨t, rfl⟩ := ri
  obtain ⟨its, r, pl, hz⟩ := I.list hq
  obtain ⟨w, ew, rw'⟩ := r.get he
  have hl := r.length
  have hn := line63
  have hk := (List.getElem?_eq_some_iff.mp he).1
  refine wpAny_getItem_list pl.isList (by omega) (by omega) (by simpa using ew) ⟨v, H, I, rw', q⟩
theorem d_setdT {kvs : List (List Key × V)} {Q : Value → Shared → Prop} (hu : A.units + 1 < cLine) (I : Inv X pins σ H s) (e : H a = some (.dT kvs)) (eb : H b = some (.tup (k.map kV))) (rd : RelV d r) (hl : kvs.length < sizeLine)
    (h1 : ∀ v, valV kvs k = some v → ∀ (w' : Value) (s' : Shared), Inv X pins σ H s' → RelV v w' → Q w' s') (h2 : valV kvs k = none → ∀ (w' : Value) (s' : Shared), Inv X pins σ (upd H a (.dT (putK kvs k d))) s' → RelV d w' → Q w' s') :
    wpAny (model X.prog X.w) A (call (.builtin "dict.setdefault") [.ref a, .ref b, r]) Q E s := by
  obtain ⟨z, hd, xs, rel, dd⟩ := dt_of I.hok e
  have hz : xs.length ≤ sizeLine := by rw [← Paired.length rel]; exact z
  refine PySem.call_setdefault_heap (hsz := hz) (tupleKind_room_in1 hu) (key_of I.hok eb) hd dd (fun p hp => ?_) (fun hn h' dd' hs => ?_)
  · have q := rel.val k
    rw [hp] at q
    cases q0 : valV kvs k with
    | none => rw [q0] at q; exact (show False from q).elim
    | some v0 => rw [q0] at q; exact h1 v0 q0 _ _ (I.tok _) q
  · have q := rel.val k
    rw [hn] at q
    cases q0 : valV kvs k with
    | some v0 => rw [q0] at q; exact (show False from q).elim
    | none =>
      have hl2 : (putK kvs k d).length ≤ sizeLine := by have := length_putK kvs k d; omega
      obtain ⟨q, es, ep, hq, h2', h3, h4, _, h5⟩ := dd'
      refine h2 q0 _ _ (d_write I (by rw [e]; exact True.intro) hs ⟨q, hq⟩ ⟨hl2, hd, _, (rel.put k eb rd).keeps fun c ys ec => ?_, q, es, ep, hq, h2', h3, h4, h5⟩) rd
      rw [upd_ne (ne_of ec e (fun z => nomatch z))]
      exact ec
end
/-- d.setdefault(y, z), y a tuple -/
def tDSetdT (td ty tx : TE) : TE := fun σ H Q => td σ H fun x H1 => ∃ a, x = .ref a ∧ IsD H1 a ∧ ty σ H1 fun y H2 => tx σ H2 fun z H3 => ∃ (kvs : List (List Key × V)) (k : List Key) (b : Addr), H3 a = some (.dT kvs) ∧ y = .ref b ∧ H3 b = some (.tup (k.map kV)) ∧ kvs.length < sizeLine ∧
  (∀ v, valV kvs k = some v → Q v H3) ∧ (valV kvs k = none → Q z (upd H3 a (.dT (putK kvs k z))))
section
variable {X : Cx} {o e f : Expr} {td ty tx : TE} {apos cpos : Pos}
theorem pe_dsetdT (hu : X.A.units + 1 < cLine) (ho : PE X o td) (he : PE X e ty) (hf : PE X f tx) (m : M2 X o "setdefault" apos e f cpos) : PE X (.Call (.Attribute o "setdefault" apos) [e, f] [] cpos) (tDSetdT td ty tx) := by
  refine ⟨fun pins s σ H Q I h => ?_⟩
  refine wpAny_Call_method m.base m.few m.line PySem.F.plainAttrs_dict PySem.F.slot_dict_setdefault PySem.F.type_dict_setdefault (thn (ho.run pins s σ H _ I h) fun u s1 ⟨x, H1, I1, rx, a, ex, d, q1⟩ => ?_)
  subst ex
  obtain rfl : u = Value.ref a := rx
  obtain ⟨t1, t2, _⟩ := isD_at I1 d
  refine ⟨t1, t2, ?_⟩
  rw [m.trees]
  refine Calls.callWith_builtin rfl (Calls.evalArgs_plain (Calls.spliced_cons (thn (he.run pins s1 σ H1 _ I1 q1) fun iv s2 ⟨y, H2, I2, ry, q2⟩ =>
    Calls.spliced_cons (thn (hf.run pins s2 σ H2 _ I2 q2) fun fv s3 ⟨z, H3, I3, rz, kvs, k, b, ea, ey, eb, hl, q3, q4⟩ => Calls.spliced_nil ?_))))
  subst ey
  obtain rfl : iv = Value.ref b := ry
  exact d_setdT hu I3 ea eb rz hl (fun v hv w' s4 I4 rw' => ⟨v, _, I4, rw', q3 v hv⟩) fun hn w' s4 I4 rw' => ⟨z, _, I4, rw', q4 hn⟩
end
end TT
namespace TT
open PySem L2 TH
structure G5 (K : PySem.W.Frag) (mg : PySem.Str → Option Value) extends G4 K mg where
  badMany : ExcAt K mg "BadMany"
  shared : DefAt K mg "shared" s_shared ["places", "ties", "many"]
  odd_ring : DefAt K mg "odd_ring" s_odd_ring ["places", "ties"]
  close_ring : DefAt K mg "close_ring" s_close_ring ["k", "ties", "reached"]
  way_up : DefAt K mg "way_up" s_way_up ["place", "ties", "reached"]
  share_out : DefAt K mg "share_out" s_share_out ["places", "ties", "many"]
  spots_of : DefAt K mg "spots_of" s_spots_of ["places", "ties", "many"]
  rows_of : DefAt K mg "rows_of" s_rows_of ["spots"]
  least_free : DefAt K mg "least_free" s_least_free ["row", "colours"]
  chain_from : DefAt K mg "chain_from" s_chain_from ["spot", "two", "spots", "rows", "colours"]
  tie_of : DefAt K mg "tie_of" s_tie_of ["colour", "row", "colours"]
def SpV (H : Hp) (q : Addr) (s : Spot) : Prop := H q = some (.tup [nV s.1, nV s.2])
def PairV (ts : List Tie) (m : Nat) (H : Hp) (p : Addr) (k : Nat) : Prop := ∃ tl th, H p = some (.tup [.ref tl, .ref th]) ∧ SpV H tl (spL ts m k) ∧ SpV H th (spH ts m k)
theorem PairV.stay {ts : List Tie} {m : Nat} {H H' : Hp} {p : Addr} {k : Nat} (s : TupStay H H') (h : PairV ts m H p k) : PairV ts m H' p k := by
  obtain ⟨tl, th, h1, h2, h3⟩ := h
  exact ⟨tl, th, s _ _ h1, s _ _ h2, s _ _ h3⟩
def SpotsV (ts : List Tie) (m : Nat) (H : Hp) (S : Addr) (i : Nat) : Prop := ∃ ps : List Addr, H S = some (.lst (ps.map V.ref)) ∧ Paired (PairV ts m H) ps (List.range i)
theorem SpotsV.same {ts : List Tie} {m : Nat} {H H' : Hp} {S : Addr} {i : Nat} (s : Same H H') (h : SpotsV ts m H S i) : SpotsV ts m H' S i := by
  obtain ⟨ps, h1, h2⟩ := h
  exact ⟨ps, s _ _ h1, Paired.mapP h2 fun _ _ z => z.stay (.of s)⟩
def sk (s : Spot) : List Key := [Sum.inl (s.1 : Int), Sum.inl (s.2 : Int)]
theorem sk_inj {s s' : Spot} (h : sk s = sk s') : s = s' := by
  unfold sk at h
  have h1 := (List.cons.inj h).1
  have h2 := (List.cons.inj (List.cons.inj h).2).1
  exact Prod.ext (ent_key.mp h1) (ent_key.mp h2)
/-- the rows by a table of addresses -/
structure RowsD (H : Hp) (R : Addr) (kvs : List (List Key × V)) (f : Spot → Option Addr) (r : Spot → List Nat) : Prop where
  at_ : H R = some (.dT kvs)
  val : ∀ s, valV kvs (sk s) = (f s).map V.ref
  row : ∀ s q, f s = some q → H q = some (.lst (nL (r s)))
  no : ∀ s, f s = none → r s = []
  inj : ∀ s s' q, f s = some q → f s' = some q → s = s'
def RowsV (ts : List Tie) (m : Nat) (H : Hp) (R : Addr) : Prop := ∃ kvs f, RowsD H R kvs f (fun s => rowOf ts m s ts.length)
theorem RowsV.same {ts : List Tie} {m : Nat} {H H' : Hp} {R : Addr} (s : Same H H') (h : RowsV ts m H R) : RowsV ts m H' R := by
  obtain ⟨kvs, f, h⟩ := h
  exact ⟨kvs, f, s _ _ h.at_, h.val, fun s' q e => s _ _ (h.row s' q e), h.no, h.inj⟩
def spSpots : Sp := fun vs H Q _ => ∃ (n m : Nat) (a : Addr) (ts : List Tie), vs = [nV n, .ref a, nV m] ∧ TiesV H a ts ∧ ts.length ≤ 1000 ∧ Ok n ts ∧ n ≤ 1000 ∧ 0 < m ∧ m < 2 ^ 200 ∧ ∀ H' p, Same H H' → H p = none → SpotsV ts m H' p ts.length → Q (.ref p) H'
def spRows : Sp := fun vs H Q _ => ∃ (n m : Nat) (S : Addr) (ts : List Tie), vs = [.ref S] ∧ SpotsV ts m H S ts.length ∧ ts.length ≤ 1000 ∧ Ok n ts ∧ ∀ H' p, Same H H' → H p = none → RowsV ts m H' p → Q (.ref p) H'
theorem cntL_succ (ts : List Tie) (i : Nat) (v : Nat) : cntB ts v (i + 1) = cntB ts v i + (if tch v (tget ts i) = true then 1 else 0) := rfl
theorem ediv_nat (a b : Nat) : ((a : Int) / (b : Int)) = ((a / b : Nat) : Int) := (Int.natCast_ediv a b).symm
theorem set_range {n v : Nat} {f g : Nat → Nat} (hv : v < n) (h : ∀ u, u ≠ v → g u = f u) : ((List.range n).map f).set v (g v) = (List.range n).map g := by
  apply List.ext_getElem
  · simp
  · intro i h1 h2
    simp at h2
    rw [List.getElem_set]
    by_cases e : v = i
    · subst e; simp
    · rw [if_neg e]
      simp only [List.getElem_map, List.getElem_range]
      exact (h i (fun z => e z.symm)).symm
section
variable {P : Program} {w : World} {K : PySem.W.Frag} {mg : PySem.Str → Option Value} {base : Heap}
theorem sc_spots_of : FnScope ["places", "ties", "many", "counts", "spots", "low", "high"] ["places", "ties", "many"] (defScope s_spots_of) := ⟨rfl, rfl, rfl, by decide +kernel, rfl, by decide +kernel, by decide +kernel⟩
theorem ok_spots_of (T : G5 K mg) : FnOk P w K mg base CX0 1 T.spots_of.f T.spots_of.fd ["places", "ties", "many"] spSpots := by
  refine T.spots_of.F.ok sc_spots_of (fun vs H Q E h => ?_) (fun cdv A outer s H vs Q E hr h => ?_)
  · obtain ⟨_, _, _, _, rfl, _⟩ := h
    rfl
  · obtain ⟨n, m, a, ts, rfl, hts, hlen, ok, hn, hm, hm2, hQ⟩ := h
    have nd := sc_spots_of.nd
    refine ⟨_, pss_cons (ps_set (i := 3) nd rfl (.inl rfl) (pe_op op_rep (pe_lst (pa_cons pe_int pa_nil)) (pv 0)))
      (pss_cons (ps_set (i := 4) nd rfl (.inl rfl) (pe_lst pa_nil))
      (pss_cons (ps_for PassesOwn.never rfl (pi_list (pv 1)) (pg_tup rfl (pgs_cons (pg_name (i := 5) nd rfl (.inl rfl)) (pgs_cons (pg_name (i := 6) nd rfl (.inl rfl)) pgs_nil)))
        (pss_cons (ps_expr (pe_bm PySem.F.plainAttrs_list PySem.F.slot_list_append PySem.F.type_list_append mt_append (pv 4) (pa_cons
            (pe_tup (pa_cons (pe_tup (pa_cons (pv 5) (pa_cons (pe_op op_fdivW (pe_ix ix_list (pv 3) (pv 5) (fun _ _ => rfl)) (pv 2)) pa_nil))) (pa_cons (pe_tup (pa_cons (pv 6) (pa_cons (pe_op op_fdivW (pe_ix ix_list (pv 3) (pv 6) (fun _ _ => rfl)) (pv 2)) pa_nil))) pa_nil))) pa_nil)))
        (pss_cons (ps_augS (pv 3) (pv 5) get_list pe_int ip_add set_list)
        (pss_one (ps_augS (pv 3) (pv 6) get_list pe_int ip_add set_list)))))
      (pss_one (ps_ret (pv 4))))), ?_⟩
    obtain ⟨as, ha1, ha2⟩ := id hts
    have hal := paired_length ha2
    refine ⟨(by show 1 ≤ sizeLine; decide), fun L1 hL1 => ?_⟩
    have sL1 : Same H (upd H L1 (.lst [.int 0])) := same_new hL1
    refine ⟨_, rfl, L1, _, _, rfl, rfl, upd_same, by omega, by omega, ?_, fun C hC => ?_⟩
    · rw [PySem.sizeLine_eq, Int.toNat_natCast]
      show 1 * n ≤ _
      omega
    rw [rep_one, Int.toNat_natCast]
    have hC0 : H C = none := sL1.free hC
    have sC : Same H (upd (upd H L1 (.lst [.int 0])) C (.lst (List.replicate n (.int 0)))) := sL1.trans (same_new hC)
    have hCv : (upd (upd H L1 (.lst [.int 0])) C (.lst (List.replicate n (.int 0)))) C = some (.lst (nL ((List.range n).map fun v => cntB ts v 0))) := by
      rw [upd_same]
      unfold nL
      rw [List.map_map]
      congr 2
      apply List.ext_getElem
      · simp
      · intro i h1 h2
        simp [cntB, cnt]
    generalize upd (upd H L1 (.lst [.int 0])) C (.lst (List.replicate n (.int 0))) = H1 at sC hCv
    clear hL1 sL1 hC
    refine ⟨Nat.zero_le _, fun S hS => ?_⟩
    have hSC : S ≠ C := fun z => by rw [z, hCv] at hS; cases hS
    have hS0 : H S = none := sC.free hS
    refine ⟨_, rfl, a, rfl, ⟨_, SqL.of ((sC.trans (same_new hS)) _ _ ha1)⟩, ?_⟩
    refine for_it (walk_list (K := K) (a := a) (xs := as.map V.ref)) (fun i σ H' => ∃ (x5 x6 : Option V) (ps : List Addr), σ = [some (nV n), some (.ref a), some (nV m), some (.ref C), some (.ref S), x5, x6] ∧ Same H H' ∧
        H' C = some (.lst (nL ((List.range n).map fun v => cntB ts v i))) ∧ H' S = some (.lst (ps.map V.ref)) ∧ Paired (PairV ts m H') ps (List.range i))
      ⟨none, none, [], rfl, sC.trans (same_new hS), by rw [upd_ne hSC.symm]; exact hCv, upd_same, .nil⟩ (fun i σ H' _ p => ?_) ?_ ?_
    · obtain ⟨_, _, _, _, p1, _⟩ := p
      exact p1.seq (SqL.of ha1)
    · rintro i x σ H2 H3 hi ⟨x5, x6, ps, rfl, s2, h1, h2, h3⟩ ⟨rfl, hx⟩
      obtain ⟨q, rfl, hiL, hq⟩ := TiesV.at (a := a) ha2 hx
      have o := ok.get hiL
      have hq3 := s2 _ _ hq
      refine ⟨q, _, rfl, SqT.of hq3, rfl, _, [.int ((tget ts i).2 : Int)], rfl, _, [], rfl, rfl, ?_⟩
      have gC : ∀ v, v < n → (nL ((List.range n).map fun v => cntB ts v i))[v]? = some (nV (cntB ts v i)) := fun v hv => by
        rw [get_nL (by simp; exact hv)]
        simp
      have hdiv : ∀ c : Nat, CDivW (c : Int) (m : Int) := fun c => wide_div (b := 200) (by omega) (by rw [Int.natAbs_natCast]; exact hm2) (by decide) (by decide)
      have hpl := paired_length h3
      refine ⟨_, rfl, .inl ⟨rfl, _, SqL.of h2⟩, ?_⟩
      refine ⟨_, rfl, _, rfl, _, rfl, C, _, ((tget ts i).1 : Int), nV (cntB ts (tget ts i).1 i), rfl, rfl, SqL.of h1, atI_nat (gC _ (by omega)), _, rfl, _, _, rfl, rfl, hdiv _, (by show 2 ≤ sizeLine; decide), fun tl htl => ?_⟩
      dsimp only
      rw [ediv_nat]
      have s3 : Same H3 (upd H3 tl (.tup [.int ((tget ts i).1 : Int), .int ((cntB ts (tget ts i).1 i / m : Nat) : Int)])) := same_new htl
      have hl1 : (upd H3 tl (.tup [.int ((tget ts i).1 : Int), .int ((cntB ts (tget ts i).1 i / m : Nat) : Int)])) tl = some (.tup [.int ((tget ts i).1 : Int), .int ((cntB ts (tget ts i).1 i / m : Nat) : Int)]) := upd_same
      generalize upd H3 tl (.tup [.int ((tget ts i).1 : Int), .int ((cntB ts (tget ts i).1 i / m : Nat) : Int)]) = H4 at s3 hl1
      refine ⟨_, rfl, _, rfl, _, rfl, C, _, ((tget ts i).2 : Int), nV (cntB ts (tget ts i).2 i), rfl, rfl, SqL.of (s3 _ _ h1), atI_nat (gC _ (by omega)), _, rfl, _, _, rfl, rfl, hdiv _, (by show 2 ≤ sizeLine; decide), fun th hth => ?_⟩
      dsimp only
      rw [ediv_nat]
      have s4 : Same H4 (upd H4 th (.tup [.int ((tget ts i).2 : Int), .int ((cntB ts (tget ts i).2 i / m : Nat) : Int)])) := same_new hth
      have hh1 : (upd H4 th (.tup [.int ((tget ts i).2 : Int), .int ((cntB ts (tget ts i).2 i / m : Nat) : Int)])) th = some (.tup [.int ((tget ts i).2 : Int), .int ((cntB ts (tget ts i).2 i / m : Nat) : Int)]) := upd_same
      generalize upd H4 th (.tup [.int ((tget ts i).2 : Int), .int ((cntB ts (tget ts i).2 i / m : Nat) : Int)]) = H5 at s4 hh1
      refine ⟨(by show 2 ≤ sizeLine; decide), fun tp htp => ?_⟩
      have s5 : Same H5 (upd H5 tp (.tup [.ref tl, .ref th])) := same_new htp
      have hp1 : (upd H5 tp (.tup [.ref tl, .ref th])) tp = some (.tup [.ref tl, .ref th]) := upd_same
      generalize upd H5 tp (.tup [.ref tl, .ref th]) = H6 at s5 hp1
      have s36 : Same H3 H6 := (s3.trans s4).trans s5
      have hS6 := s36 _ _ h2
      have hC6 := s36 _ _ h1
      refine ⟨S, _, _, rfl, rfl, hS6, ?_, ?_⟩
      · rw [List.length_map, hpl, List.length_range, PySem.sizeLine_eq]; omega
      have hC7 : (upd H6 S (.lst (ps.map V.ref ++ [.ref tp]))) C = some (.lst (nL ((List.range n).map fun v => cntB ts v i))) := by rw [upd_ne hSC.symm]; exact hC6
      refine ⟨_, rfl, _, rfl, C, _, (tget ts i).1, _, rfl, rfl, SqL.of hC7, gC _ (by omega), _, _, rfl, rfl, C, _, ((tget ts i).1 : Int), (tget ts i).1, rfl, rfl, hC7, ixN_nat (by rw [nL_len]; simp; omega), ?_⟩
      have e1 : (V.int (((cntB ts (tget ts i).1 i : Nat) : Int) + 1)) = nV (cntB ts (tget ts i).1 i + 1) := by show V.int _ = V.int _; congr 1
      rw [e1, nL_set]
      have e2 : ((List.range n).map fun v => cntB ts v i).set (tget ts i).1 (cntB ts (tget ts i).1 i + 1) = (List.range n).map fun v => if v = (tget ts i).1 then cntB ts v i + 1 else cntB ts v i := by
        have := set_range (n := n) (v := (tget ts i).1) (f := fun v => cntB ts v i) (g := fun v => if v = (tget ts i).1 then cntB ts v i + 1 else cntB ts v i) (by omega) (fun u hu => if_neg hu)
        rw [← this, if_pos rfl]
      rw [e2]
      have hC8 : (upd (upd H6 S (.lst (ps.map V.ref ++ [.ref tp]))) C (.lst (nL ((List.range n).map fun v => if v = (tget ts i).1 then cntB ts v i + 1 else cntB ts v i)))) C = some (.lst (nL ((List.range n).map fun v => if v = (tget ts i).1 then cntB ts v i + 1 else cntB ts v i))) := upd_same
      have hS8 : (upd (upd H6 S (.lst (ps.map V.ref ++ [.ref tp]))) C (.lst (nL ((List.range n).map fun v => if v = (tget ts i).1 then cntB ts v i + 1 else cntB ts v i)))) S = some (.lst ((ps ++ [tp]).map V.ref)) := by
        rw [upd_ne hSC, upd_same, List.map_append]; rfl
      have s8 : Same H (upd (upd H6 S (.lst (ps.map V.ref ++ [.ref tp]))) C (.lst (nL ((List.range n).map fun v => if v = (tget ts i).1 then cntB ts v i + 1 else cntB ts v i)))) := sameU (sameU (s2.trans s36) hS0) hC0
      have t8 : TupStay H6 (upd (upd H6 S (.lst (ps.map V.ref ++ [.ref tp]))) C (.lst (nL ((List.range n).map fun v => if v = (tget ts i).1 then cntB ts v i + 1 else cntB ts v i)))) := fun b xs e => TupStay.lst hC7 _ _ (TupStay.lst hS6 _ _ e)
      generalize upd (upd H6 S (.lst (ps.map V.ref ++ [.ref tp]))) C (.lst (nL ((List.range n).map fun v => if v = (tget ts i).1 then cntB ts v i + 1 else cntB ts v i))) = H8 at hC8 hS8 s8 t8
      have g8 : (nL ((List.range n).map fun v => if v = (tget ts i).1 then cntB ts v i + 1 else cntB ts v i))[(tget ts i).2]? = some (nV (cntB ts (tget ts i).2 i)) := by
        rw [get_nL (by simp; omega)]
        simp only [List.getElem_map, List.getElem_range]
        rw [if_neg (by omega)]
      refine ⟨_, rfl, _, rfl, C, _, (tget ts i).2, _, rfl, rfl, SqL.of hC8, g8, _, _, rfl, rfl, C, _, ((tget ts i).2 : Int), (tget ts i).2, rfl, rfl, hC8, ixN_nat (by rw [nL_len]; simp; omega), ?_⟩
      have e3 : (V.int (((cntB ts (tget ts i).2 i : Nat) : Int) + 1)) = nV (cntB ts (tget ts i).2 (i + 1)) := by
        rw [cntL_succ, if_pos (show tch (tget ts i).2 (tget ts i) = true from by rw [tch_iff]; exact .inr rfl)]
        show V.int _ = V.int _; congr 1
      rw [e3, nL_set]
      have e4 : ((List.range n).map fun v => if v = (tget ts i).1 then cntB ts v i + 1 else cntB ts v i).set (tget ts i).2 (cntB ts (tget ts i).2 (i + 1)) = (List.range n).map fun v => cntB ts v (i + 1) := by
        refine set_range (n := n) (v := (tget ts i).2) (f := fun v => if v = (tget ts i).1 then cntB ts v i + 1 else cntB ts v i) (g := fun v => cntB ts v (i + 1)) o.2 (fun u hu => ?_)
        simp only [cntL_succ, tch_iff]
        by_cases z : u = (tget ts i).1
        · rw [if_pos z, if_pos (.inl z.symm)]
        · rw [if_neg z, if_neg (by omega)]
          rfl
      rw [e4]
      refine ⟨_, _, ps ++ [tp], rfl, sameU s8 hC0, upd_same, by rw [upd_ne hSC]; exact hS8, ?_⟩
      have t9 : ∀ b xs, H8 b = some (.tup xs) → upd H8 C (.lst (nL ((List.range n).map fun v => cntB ts v (i + 1)))) b = some (.tup xs) := fun b xs e => TupStay.lst hC8 _ _ e
      have t39 : TupStay H3 (upd H8 C (.lst (nL ((List.range n).map fun v => cntB ts v (i + 1))))) := fun b xs e => t9 _ _ (t8 _ _ (s36 _ _ e))
      rw [List.range_succ]
      exact paired_snoc (Paired.mapP h3 fun _ _ z => z.stay t39) ⟨tl, th, t9 _ _ (t8 _ _ hp1), t9 _ _ (t8 _ _ (s5 _ _ (s4 _ _ hl1))), t9 _ _ (t8 _ _ (s5 _ _ hh1))⟩
    · rintro σ H2 ⟨x5, x6, ps, rfl, s2, h1, h2, h3⟩
      rw [List.length_map, hal] at h3
      exact ⟨_, rfl, hQ H2 S s2 hS0 ⟨ps, h2, h3⟩⟩
end
end TT
namespace TT
open PySem L2 TH
/-- k behind the row of s0 -/
def addRow (r : Spot → List Nat) (s0 : Spot) (k : Nat) : Spot → List Nat := fun s => if s = s0 then r s ++ [k] else r s
theorem rowOf_succ {n : Nat} {ts : List Tie} (ok : Ok n ts) {m k : Nat} (hk : k < ts.length) (s : Spot) : rowOf ts m s (k + 1) = addRow (addRow (fun s => rowOf ts m s k) (spL ts m k) k) (spH ts m k) k s := by
  have hne := spL_ne (m := m) ok hk
  unfold addRow rowOf
  rw [List.range_succ, List.filter_append, List.filter_cons]
  by_cases h1 : s = spH ts m k
  · have hh : hasS ts m s k = true := hasS_iff.mpr (.inr h1.symm)
    rw [hh, if_pos h1, if_neg (show ¬ s = spL ts m k from fun z => hne (z.symm.trans h1))]
    rfl
  · by_cases h2 : s = spL ts m k
    · have hh : hasS ts m s k = true := hasS_iff.mpr (.inl h2.symm)
      rw [hh, if_neg h1, if_pos h2]
      rfl
    · have hh : hasS ts m s k = false := by
        cases e : hasS ts m s k with
        | false => rfl
        | true => rcases hasS_iff.mp e with z | z
                  · exact (h2 z.symm).elim
                  · exact (h1 z.symm).elim
      rw [hh, if_neg h1, if_neg h2]
      simp
theorem sk_tup (s : Spot) : (sk s).map kV = [nV s.1, nV s.2] := rfl
theorem valV_putT {kvs : List (List Key × V)} {s s' : Spot} {v : V} : valV (putK kvs (sk s) v) (sk s') = if s' = s then some v else valV kvs (sk s') := by
  rw [valV_put]
  by_cases e : s' = s
  · subst e; rw [if_pos rfl, if_pos rfl]
  · rw [if_neg (fun z => e (sk_inj z)), if_neg e]
/-- one append to a row: the heap behind it -/
theorem RowsD.step {H : Hp} {R : Addr} {kvs : List (List Key × V)} {f : Spot → Option Addr} {r : Spot → List Nat} (h : RowsD H R kvs f r) {s0 : Spot} {k : Nat} :
    (∀ q, f s0 = some q → RowsD (upd H q (.lst (nL (r s0 ++ [k])))) R kvs f (addRow r s0 k)) := by
  intro q hq
  have hrow := h.row s0 q hq
  refine ⟨by rw [upd_ne (fun z => by rw [← z, h.at_] at hrow; cases hrow)]; exact h.at_, h.val, fun s q' hq' => ?_, fun s hs => ?_, h.inj⟩
  · unfold addRow
    by_cases e : s = s0
    · subst e
      rw [hq] at hq'
      cases hq'
      rw [if_pos rfl]; exact upd_same
    · rw [if_neg e, upd_ne (fun z => e (h.inj s s0 q (by rw [← z]; exact hq') hq))]
      exact h.row s q' hq'
  · unfold addRow
    have : s ≠ s0 := fun z => by rw [z, hq] at hs; cases hs
    rw [if_neg this]
    exact h.no s hs
theorem RowsD.fresh {H : Hp} {R L : Addr} {kvs : List (List Key × V)} {f : Spot → Option Addr} {r : Spot → List Nat} (h : RowsD H R kvs f r) {s0 : Spot} {k : Nat} (hs : f s0 = none) (hL : H L = none) {H' : Hp}
    (hR : H' R = some (.dT (putK kvs (sk s0) (.ref L)))) (hl : H' L = some (.lst (nL [k]))) (hst : ∀ b xs, b ≠ L → H b = some (.lst xs) → H' b = some (.lst xs)) :
    RowsD H' R (putK kvs (sk s0) (.ref L)) (fun s => if s = s0 then some L else f s) (addRow r s0 k) := by
  have nL' : ∀ s q, f s = some q → q ≠ L := fun s q hq z => by
    have := h.row s q hq
    rw [z, hL] at this
    cases this
  refine ⟨hR, fun s => ?_, fun s q hq => ?_, fun s hs' => ?_, fun s s' q h1 h2 => ?_⟩
  · rw [valV_putT]
    by_cases e : s = s0
    · rw [if_pos e, if_pos e]; rfl
    · rw [if_neg e, if_neg e]; exact h.val s
  · unfold addRow
    by_cases e : s = s0
    · rw [if_pos e] at hq
      cases hq
      rw [if_pos e, e, h.no s0 hs]; exact hl
    · rw [if_neg e] at hq
      rw [if_neg e]
      exact hst _ _ (nL' s q hq) (h.row s q hq)
  · unfold addRow
    by_cases e : s = s0
    · rw [if_pos e] at hs'; cases hs'
    · rw [if_neg e] at hs'
      rw [if_neg e]; exact h.no s hs'
  · by_cases e1 : s = s0
    · by_cases e2 : s' = s0
      · rw [e1, e2]
      · rw [if_pos e1] at h1
        rw [if_neg e2] at h2
        cases h1
        exact (nL' s' _ h2 rfl).elim
    · rw [if_neg e1] at h1
      by_cases e2 : s' = s0
      · rw [if_pos e2] at h2
        cases h2
        exact (nL' s _ h1 rfl).elim
      · rw [if_neg e2] at h2
        exact h.inj s s' q h1 h2
theorem RowsD.same {H H' : Hp} {R : Addr} {kvs : List (List Key × V)} {f : Spot → Option Addr} {r : Spot → List Nat} (s : Same H H') (h : RowsD H R kvs f r) : RowsD H' R kvs f r :=
  ⟨s _ _ h.at_, h.val, fun s' q e => s _ _ (h.row s' q e), h.no, h.inj⟩
section
variable {P : Program} {w : World} {K : PySem.W.Frag} {mg : PySem.Str → Option Value} {base : Heap}
theorem sc_rows_of : FnScope ["spots", "rows", "k", "pair", "spot"] ["spots"] (defScope s_rows_of) := ⟨rfl, rfl, rfl, by decide +kernel, rfl, by decide +kernel, by decide +kernel⟩
theorem ok_rows_of (T : G5 K mg) : FnOk P w K mg base CX0 1 T.rows_of.f T.rows_of.fd ["spots"] spRows := by
  refine T.rows_of.F.ok sc_rows_of (fun vs H Q E h => ?_) (fun cdv A outer s H vs Q E hr h => ?_)
  · obtain ⟨_, _, _, _, rfl, _⟩ := h
    rfl
  · obtain ⟨n, m, S, ts, rfl, ⟨ps, hp1, hp2⟩, hlen, ok, hQ⟩ := h
    have nd := sc_rows_of.nd
    have hu := hu_of hr
    have hpl := paired_length hp2
    rw [List.length_range] at hpl
    refine ⟨_, pss_cons (ps_set (i := 1) nd rfl (.inl rfl) pe_dnewT)
      (pss_cons (ps_for PassesOwn.never rfl (pi_enum (by rfl) T.b.enumerate (pa_cons (pv 0) pa_nil)) (pg_tup rfl (pgs_cons (pg_name (i := 2) nd rfl (.inl rfl)) (pgs_cons (pg_name (i := 3) nd rfl (.inl rfl)) pgs_nil)))
        (pss_one (ps_for PassesOwn.never rfl (pi_tup (pv 3)) (pg_name (i := 4) nd rfl (.inl rfl))
          (pss_one (ps_expr (pe_bm PySem.F.plainAttrs_list PySem.F.slot_list_append PySem.F.type_list_append mt_append (pe_dsetdT hu (pv 1) (pv 4) (pe_lst pa_nil) ⟨rfl, rfl, rfl, rfl⟩) (pa_cons (pv 2) pa_nil)))))))
      (pss_one (ps_ret (pv 1)))), ?_⟩
    intro R hR
    have hRS : S ≠ R := ne_of_none hp1 hR
    refine ⟨_, rfl, S, _, rfl, SqL.of (by rw [upd_ne hRS]; exact hp1), ?_⟩
    refine for_it (walk_enum (K := K) (a := S) (xs := ps.map V.ref)) (fun i σ H' => ∃ (x2 x3 x4 : Option V) (kvs : List (List Key × V)) (f : Spot → Option Addr), σ = [some (.ref S), some (.ref R), x2, x3, x4] ∧ Same H H' ∧ RowsD H' R kvs f (fun s => rowOf ts m s i) ∧ kvs.length ≤ 2 * i ∧ ∀ s q, f s = some q → H q = none)
      ⟨none, none, none, [], fun _ => none, rfl, same_new hR, ⟨upd_same, fun s => rfl, fun s q e => (nomatch e), fun s _ => rfl, fun s s' q e => (nomatch e)⟩, Nat.zero_le _, fun s q e => (nomatch e)⟩ (fun i σ H' _ p => ?_) ?_ ?_
    · obtain ⟨_, _, _, _, _, _, p1, _⟩ := p
      exact p1.seq (SqL.of hp1)
    · rintro i x σ H1 H2 hi ⟨x2, x3, x4, kvs, f, rfl, s1, hD, hk, hf⟩ ⟨T0, y1, y2, rfl, nT, rfl, e1, e2⟩
      cases e1
      rw [List.length_map] at hi
      have e2 : (ps.map V.ref)[i]? = some y2 := e2
      rw [List.getElem?_map, List.getElem?_eq_getElem hi] at e2
      cases e2
      obtain ⟨k, hk1, hpair⟩ := paired_get hp2 (List.getElem?_eq_getElem hi)
      have hk2 : k = i := by
        rw [List.getElem?_range (by omega)] at hk1
        exact (Option.some.inj hk1).symm
      subst hk2
      obtain ⟨tl, th, hq, hl, hh⟩ := hpair
      have s2 : Same H (upd H1 T0 (.tup [.int (k : Nat), .ref ps[k]])) := sameN s1 nT
      have hD2 := hD.same (same_new (o := .tup [.int (k : Nat), .ref ps[k]]) nT)
      refine ⟨T0, _, rfl, SqT.of upd_same, rfl, _, [.ref ps[k]], rfl, _, [], rfl, rfl, ?_⟩
      generalize upd H1 T0 (.tup [.int (k : Nat), .ref ps[k]]) = H2 at s2 hD2
      refine ⟨_, rfl, ps[k], rfl, ⟨_, SqT.of (s2 _ _ hq)⟩, ?_⟩
      refine for_it (walk_tup (K := K) (a := ps[k]) (xs := [.ref tl, .ref th])) (fun j σ H' => ∃ (x4 : Option V) (kvs' : List (List Key × V)) (f' : Spot → Option Addr) (r : Spot → List Nat), σ = [some (.ref S), some (.ref R), some (nV k), some (.ref ps[k]), x4] ∧ Same H H' ∧ RowsD H' R kvs' f' r ∧ kvs'.length ≤ kvs.length + j ∧ (∀ s q, f' s = some q → H q = none) ∧ (∀ s, (r s).length ≤ k + j) ∧
          r = (if j = 0 then (fun s => rowOf ts m s k) else if j = 1 then addRow (fun s => rowOf ts m s k) (spL ts m k) k else addRow (addRow (fun s => rowOf ts m s k) (spL ts m k) k) (spH ts m k) k))
        ⟨x4, kvs, f, _, rfl, s2, hD2, Nat.le_refl _, hf, fun s => ?_, rfl⟩ (fun i σ H' _ p => ?_) ?_ ?_
      · have := List.length_filter_le (hasS ts m s) (List.range k)
        rwa [List.length_range] at this
      · obtain ⟨_, _, _, _, _, p1, _⟩ := p
        exact .inl (.inl (p1 _ _ hq))
      · rintro j x σ H3 H4 hj ⟨y4, kvs', f', r, rfl, s3, hD3, hk3, hf3, hr3, er⟩ ⟨rfl, hx⟩
        have hspot : ∃ q s0, x = .ref q ∧ SpV H4 q s0 ∧ addRow r s0 k = (if j + 1 = 0 then (fun s => rowOf ts m s k) else if j + 1 = 1 then addRow (fun s => rowOf ts m s k) (spL ts m k) k else addRow (addRow (fun s => rowOf ts m s k) (spL ts m k) k) (spH ts m k) k) := by
          have hj : j < 2 := hj
          by_cases j0 : j = 0
          · subst j0
            exact ⟨tl, spL ts m k, (Option.some.inj hx).symm, s3 _ _ hl, by rw [er]; rfl⟩
          · have j1 : j = 1 := by omega
            subst j1
            exact ⟨th, spH ts m k, (Option.some.inj hx).symm, s3 _ _ hh, by rw [er]; rfl⟩
        obtain ⟨q, s0, rfl, hsp, hadd⟩ := hspot
        refine ⟨_, rfl, R, rfl, .inr ⟨kvs', .inl hD3.at_⟩, _, rfl, Nat.zero_le _, fun L hL => ?_⟩
        have sL : Same H4 (upd H4 L (.lst [])) := same_new hL
        have hD5 := hD3.same sL
        have hHL : H L = none := s3.free hL
        have sHL : Same H (upd H4 L (.lst [])) := s3.trans sL
        have hlr := hr3 s0
        have hj2 : j < 2 := hj
        refine ⟨kvs', sk s0, q, hD5.at_, rfl, by rw [sk_tup]; exact sL _ _ hsp, by rw [PySem.sizeLine_eq]; omega, fun v hv => ?_, fun hn => ?_⟩
        · rw [hD5.val] at hv
          cases hfs : f' s0 with
          | none => rw [hfs] at hv; cases hv
          | some q0 =>
            rw [hfs] at hv
            cases hv
            have hrow := hD5.row s0 q0 hfs
            refine ⟨.inl ⟨rfl, _, SqL.of hrow⟩, _, rfl, q0, _, _, rfl, rfl, hrow, by rw [nL_len, PySem.sizeLine_eq]; omega, ?_⟩
            rw [← nL_snoc]
            refine ⟨_, kvs', f', _, rfl, sameU sHL (hf3 s0 q0 hfs), hD5.step q0 hfs, by omega, hf3, fun s => ?_, hadd⟩
            unfold addRow
            have := hr3 s
            split <;> simp <;> omega
        · rw [hD5.val] at hn
          have hfs : f' s0 = none := by
            cases hfs : f' s0 with
            | none => rfl
            | some q0 => rw [hfs] at hn; cases hn
          have hRL : R ≠ L := ne_of_none hD3.at_ hL
          have hL2 : (upd (upd H4 L (.lst [])) R (.dT (putK kvs' (sk s0) (.ref L)))) L = some (.lst []) := by rw [upd_ne hRL.symm]; exact upd_same
          refine ⟨.inl ⟨rfl, _, SqL.of hL2⟩, _, rfl, L, _, _, rfl, rfl, hL2, by rw [PySem.sizeLine_eq]; simp, ?_⟩
          have hln := length_putK kvs' (sk s0) (.ref L)
          refine ⟨_, putK kvs' (sk s0) (.ref L), _, _, rfl, sameU (sameU sHL hR) hHL, hD3.fresh (L := L) (k := k) hfs hL (by rw [upd_ne hRL]; exact upd_same) upd_same (fun b xs nb e => ?_), by omega, fun s q' hq' => ?_, fun s => ?_, hadd⟩
          · have hbR : b ≠ R := fun z => by rw [z, hD3.at_] at e; cases e
            rw [upd_ne nb, upd_ne hbR, upd_ne nb]; exact e
          · by_cases e : s = s0
            · rw [if_pos e] at hq'
              cases hq'
              exact hHL
            · rw [if_neg e] at hq'
              exact hf3 s q' hq'
          · unfold addRow
            have := hr3 s
            split <;> simp <;> omega
      · rintro σ H3 ⟨y4, kvs', f', r, rfl, s3, hD3, hk3, hf3, hr3, er⟩
        have er : r = addRow (addRow (fun s => rowOf ts m s k) (spL ts m k) k) (spH ts m k) k := er
        have er2 : r = fun s => rowOf ts m s (k + 1) := by
          rw [er]
          funext s
          exact (rowOf_succ ok (by omega) s).symm
        rw [er2] at hD3
        have hk3 : kvs'.length ≤ kvs.length + 2 := hk3
        exact ⟨_, _, _, kvs', f', rfl, s3, hD3, by omega, hf3⟩
    · rintro σ H1 ⟨x2, x3, x4, kvs, f, rfl, s1, hD, hk, hf⟩
      rw [List.length_map, hpl] at hD
      exact ⟨_, rfl, hQ H1 R s1 hR ⟨kvs, f, hD⟩⟩
end
end TT
namespace TT
open PySem L2 TH
def oL (cs : OCols) : List V := cs.map oV
theorem oL_len (cs : OCols) : (oL cs).length = cs.length := List.length_map _
theorem get_oL {cs : OCols} {i : Nat} (h : i < cs.length) : (oL cs)[i]? = some (oV (cg cs i)) := by
  unfold oL cg
  rw [List.getElem?_map, List.getElem?_eq_getElem h, List.getD_eq_getElem?_getD, List.getElem?_eq_getElem h]; rfl
theorem oL_set {cs : OCols} {k : Nat} {o : Option Nat} : (oL cs).set k (oV o) = oL (cs.set k o) := by
  unfold oL
  rw [List.map_set]
theorem oV_eq {o : Option Nat} {c : Nat} : decide (oV o = nV c) = decide (o = some c) := by
  cases o with
  | none => simp [oV]
  | some k =>
    by_cases h : k = c
    · subst h; simp [oV]
    · rw [decide_eq_false (fun z => h (by injection z with z; omega)), decide_eq_false (fun z => h (Option.some.inj z))]
def spLeast : Sp := fun vs H Q _ => ∃ (r c : Addr) (row : List Nat) (cs : OCols), vs = [.ref r, .ref c] ∧ H r = some (.lst (nL row)) ∧ H c = some (.lst (oL cs)) ∧ (∀ k ∈ row, k < cs.length) ∧ row.length ≤ 1000 ∧
  ∀ H' a, Same H H' → (∀ d, d < a → ∃ f ∈ row, cg cs f = some d) → (∀ f ∈ row, cg cs f ≠ some a) → Q (nV a) H'
def spTieOf : Sp := fun vs H Q _ => ∃ (a : Nat) (r c : Addr) (row : List Nat) (cs : OCols), vs = [nV a, .ref r, .ref c] ∧ H r = some (.lst (nL row)) ∧ H c = some (.lst (oL cs)) ∧ (∀ k ∈ row, k < cs.length) ∧
  Q (oV (row.find? fun k => decide (cg cs k = some a))) H
theorem inV_oL {a : Nat} {l : List (Option Nat)} : inV (nV a) (l.map oV) = decide (some a ∈ l) := by
  unfold inV
  rw [List.any_map]
  induction l with
  | nil => rfl
  | cons o r ih =>
    rw [List.any_cons, ih]
    cases o with
    | none => simp [oV, eqV]
    | some k =>
      by_cases h : k = a
      · subst h; simp [oV, eqV]
      · have h1 : ((k : Int) == (a : Int)) = false := by simp; omega
        have h2 : ¬ a = k := fun z => h z.symm
        simp [oV, eqV, h1, h2]
theorem flat_oL (l : List (Option Nat)) : (l.map oV).all flatV = true := by
  rw [List.all_map, List.all_eq_true]
  intro o _
  cases o <;> rfl
section
variable {P : Program} {w : World} {K : PySem.W.Frag} {mg : PySem.Str → Option Value} {base : Heap}
theorem sc_least_free : FnScope ["row", "colours", "taken", "colour", "k"] ["row", "colours"] (defScope s_least_free) := ⟨rfl, rfl, rfl, by decide +kernel, rfl, by decide +kernel, by decide +kernel⟩
theorem ok_least_free (T : G5 K mg) : FnOk P w K mg base CX0 1 T.least_free.f T.least_free.fd ["row", "colours"] spLeast := by
  refine T.least_free.F.ok sc_least_free (fun vs H Q E h => ?_) (fun cdv A outer s H vs Q E hr h => ?_)
  · obtain ⟨_, _, _, _, rfl, _⟩ := h
    rfl
  · obtain ⟨r, c, row, cs, rfl, h1, h2, hlt, hrl, hQ⟩ := h
    have nd := sc_least_free.nd
    refine ⟨_, pss_cons (ps_setLc (i := 2) (own := [("k", 4)]) (g := gName 4) (tt := tYes) rfl nd rfl rfl (sw_true rfl rfl rfl (by decide +kernel)) (pi_list (pv 0)) (blkOk_by (N := ["row", "colours", "taken", "colour", "k"]) (sc := defScope s_least_free) (by decide +kernel))
        (fun _ _ _ _ _ => pg_name (i := 4) nd rfl (Or.inl rfl)) (fun _ _ _ _ _ => pts_nil) (fun _ _ _ _ _ => pe_ix (ix_listK (K := K) rfl) (pv 1) (pv 4) (fun _ _ => rfl)))
      (pss_cons (ps_set (i := 3) nd rfl (.inl rfl) pe_int)
      (pss_cons (ps_whileS PassesOwn.never (pt_cmpR op_in_seq (pv 3) (pv 2) (by rfl)) (pss_one (ps_aug (i := 3) nd rfl (.inl rfl) pe_int ip_add)))
      (pss_one (ps_ret (pv 3))))), ?_⟩
    refine ⟨_, rfl, r, rfl, ⟨_, SqL.of h1⟩, fun D hD => ?_⟩
    refine lc_map (walk_list (K := K) (a := r) (xs := nL row)) (fun i => oV (cg cs (row.getD i 0))) hD (by rw [nL_len]; omega) (fun H1 s1 => s1.seq (SqL.of h1)) yat_same ?_ ?_
    · rintro i x H1 H2 k hi s1 ⟨rfl, hx⟩ k1
      refine ⟨rfl, ?_⟩
      rw [nL_len] at hi
      rw [get_nL hi] at hx
      cases hx
      have e : row.getD i 0 = row[i] := by rw [List.getD_eq_getElem?_getD, List.getElem?_eq_getElem hi]; rfl
      have k2 := k1 _ (.refl _)
      rw [e] at k2
      exact ⟨_, rfl, _, rfl, c, _, ((row[i] : Nat) : Int), _, rfl, rfl, SqL.of (s1 _ _ h2), atI_nat (get_oL (hlt _ (List.getElem_mem hi))), k2⟩
    · intro H1 s1 e1
      have e2 : H1 D = some (.lst ((row.map (cg cs)).map oV)) := by
        rw [e1, nL_len, List.map_map]
        congr 2
        exact map_range_comp (oV ∘ cg cs) row 0
      refine while_rel (fun m σ H' => ∃ a : Nat, σ = [some (.ref r), some (.ref c), some (.ref D), some (nV a), none] ∧ m = row.length + 1 - a ∧ Same H1 H' ∧ ∀ d, d < a → some d ∈ row.map (cg cs)) ⟨_, 0, rfl, rfl, .refl _, fun d hd => absurd hd (by omega)⟩ ?_ ?_
      · rintro m σ H2 ⟨a, rfl, rfl, s2, hall⟩
        refine ⟨_, rfl, _, rfl, D, _, rfl, .inl (SqL.of (s2 _ _ e2)), rfl, flat_oL _, _, rfl, ?_⟩
        show if inV (nV a) _ = true then _ else _
        rw [inV_oL]
        refine ite2 (fun q => ?_) (fun q => ?_)
        · have q := of_decide_eq_true q
          have hle := le_of_taken (a + 1) (row.map (cg cs)) fun d hd => by
            by_cases e : d = a
            · rw [e]; exact q
            · exact hall d (by omega)
          rw [List.length_map] at hle
          refine ⟨_, rfl, _, _, rfl, rfl, row.length + 1 - (a + 1), by omega, a + 1, rfl, rfl, s2, fun d hd => ?_⟩
          by_cases e : d = a
          · rw [e]; exact q
          · exact hall d (by omega)
        · have q : some a ∉ row.map (cg cs) := fun z => q (decide_eq_true z)
          refine ⟨_, rfl, hQ H2 a (s1.trans s2) (fun d hd => ?_) (fun f hf z => ?_)⟩
          · obtain ⟨f, hf, e⟩ := List.mem_map.mp (hall d hd)
            exact ⟨f, hf, e⟩
          · exact q (List.mem_map.mpr ⟨f, hf, z⟩)
      · rintro σ H2 Q1 Q2 hm ⟨v, g1, v2, g2, p, xs, g3, g4, g5, g6, k, g7, g8⟩
        exact ⟨v, g1, v2, g2, p, xs, g3, g4, g5, g6, k, g7, hm _ _ g8⟩
theorem sc_tie_of : FnScope ["colour", "row", "colours", "k"] ["colour", "row", "colours"] (defScope s_tie_of) := ⟨rfl, rfl, rfl, by decide +kernel, rfl, by decide +kernel, by decide +kernel⟩
theorem ok_tie_of (T : G5 K mg) : FnOk P w K mg base CX0 1 T.tie_of.f T.tie_of.fd ["colour", "row", "colours"] spTieOf := by
  refine T.tie_of.F.ok sc_tie_of (fun vs H Q E h => ?_) (fun cdv A outer s H vs Q E hr h => ?_)
  · obtain ⟨_, _, _, _, _, rfl, _⟩ := h
    rfl
  · obtain ⟨a, r, c, row, cs, rfl, h1, h2, hlt, hQ⟩ := h
    have nd := sc_tie_of.nd
    refine ⟨_, pss_cons (ps_for PassesOwn.never rfl (pi_list (pv 1)) (pg_name (i := 3) nd rfl (.inl rfl))
        (pss_one (ps_if (pt_cmpR op_eq (pe_ix ix_list (pv 2) (pv 3) (fun _ _ => rfl)) (pv 0) (nomark _)) (pss_one (ps_ret (pv 3))) pss_nil)))
      (pss_one (ps_ret pe_non)), ?_⟩
    refine ⟨_, rfl, r, rfl, ⟨_, SqL.of h1⟩, for_it (walk_list (K := K) (a := r) (xs := nL row)) (fun i σ H' => H' = H ∧ (∃ x3, σ = [some (nV a), some (.ref r), some (.ref c), x3]) ∧ ∀ k, k ∈ row.take i → decide (cg cs k = some a) = false) ⟨rfl, ⟨none, rfl⟩, fun k hk => by simp at hk⟩ (fun i σ H' _ p => by rw [p.1]; exact SqL.of h1) ?_ ?_⟩
    · rintro i x σ H1 H2 hi ⟨rfl, ⟨x3, rfl⟩, hall⟩ ⟨rfl, hx⟩
      rw [nL_len] at hi
      rw [get_nL hi] at hx
      cases hx
      refine ⟨_, rfl, _, rfl, c, _, ((row[i] : Nat) : Int), _, rfl, rfl, SqL.of h2, atI_nat (get_oL (hlt _ (List.getElem_mem hi))), _, rfl, ?_, _, rfl, ?_⟩
      · cases cg cs row[i] <;> rfl
      rw [oV_eq]
      cases e : decide (cg cs row[i] = some a) with
      | true =>
        refine iteT ⟨_, rfl, ?_⟩
        have : row.find? (fun k => decide (cg cs k = some a)) = some row[i] := by
          rw [List.find?_eq_some_iff_append]
          refine ⟨e, row.take i, row.drop (i + 1), ?_, fun k hk => by rw [hall k hk]; rfl⟩
          rw [List.getElem_cons_drop, List.take_append_drop]
        rw [this] at hQ
        exact hQ
      | false =>
        refine iteF ⟨rfl, ⟨_, rfl⟩, fun k hk => ?_⟩
        rw [take_succ_get hi, List.mem_append, List.mem_singleton] at hk
        rcases hk with hk | hk
        · exact hall k hk
        · rw [hk]; exact e
    · rintro σ H1 ⟨rfl, ⟨x3, rfl⟩, hall⟩
      rw [nL_len, List.take_length] at hall
      have : row.find? (fun k => decide (cg cs k = some a)) = none := by
        rw [List.find?_eq_none]
        intro k hk
        rw [hall k hk]; decide
      rw [this] at hQ
      exact hQ
end
end TT
namespace TT
open PySem L2 TH
theorem dp_spot {K : PySem.W.Frag} {H : Hp} {q : Addr} {s : Spot} (h : SpV H q s) : Dp K H (.ref q) (.tuple [.int s.1, .int s.2]) := .tup (SqT.of h) (.cons (.int _) (.cons (.int _) .nil))
theorem eqv_spot (s s' : Spot) : PyData.eqv (.tuple [.int (s.1 : Int), .int (s.2 : Int)]) (.tuple [.int (s'.1 : Int), .int (s'.2 : Int)]) = decide (s = s') := by
  show (((s.1 : Int) == (s'.1 : Int)) && (((s.2 : Int) == (s'.2 : Int)) && true)) = _
  by_cases h : s = s'
  · subst h; simp
  · rw [decide_eq_false h]
    by_cases h1 : s.1 = s'.1
    · have h2 : ¬ s.2 = s'.2 := fun z => h (Prod.ext h1 z)
      have h3 : ((s.2 : Int) == (s'.2 : Int)) = false := by simp; omega
      rw [h3]; simp
    · have h3 : ((s.1 : Int) == (s'.1 : Int)) = false := by simp; omega
      rw [h3]; simp
theorem SpotsV.get {ts : List Tie} {m : Nat} {H : Hp} {ps : List Addr} {i k : Nat} (h : Paired (PairV ts m H) ps (List.range i)) (hk : k < i) : ∃ p, (ps.map V.ref)[k]? = some (.ref p) ∧ PairV ts m H p k := by
  have hl := paired_length h
  rw [List.length_range] at hl
  have e : ps[k]? = some ps[k] := List.getElem?_eq_getElem (by omega)
  obtain ⟨k', h1, h2⟩ := paired_get h e
  rw [List.getElem?_range (by omega)] at h1
  cases h1
  exact ⟨ps[k], by rw [List.getElem?_map, e]; rfl, h2⟩
theorem RowsV.get {ts : List Tie} {m : Nat} {H : Hp} {R : Addr} (h : RowsV ts m H R) {q : Addr} {s : Spot} (hq : SpV H q s) {j : Nat} (hj : j < ts.length) (hs : hasS ts m s j = true) :
    ∃ r, DGet H R (.ref q) (some (.ref r)) ∧ H r = some (.lst (nL (rowOf ts m s ts.length))) := by
  obtain ⟨kvs, f, hD⟩ := h
  have hmem : j ∈ rowOf ts m s ts.length := by unfold rowOf; rw [List.mem_filter, List.mem_range]; exact ⟨hj, hs⟩
  cases e : f s with
  | none => rw [hD.no s e] at hmem; cases hmem
  | some r =>
    refine ⟨r, ?_, hD.row s r e⟩
    have := DGet.t (k := sk s) hD.at_ (eb := (by rw [sk_tup]; exact hq))
    rw [hD.val, e] at this
    exact this
theorem mem_row {ts : List Tie} {m : Nat} {s : Spot} {j : Nat} : j ∈ rowOf ts m s ts.length ↔ j < ts.length ∧ hasS ts m s j = true := by
  unfold rowOf
  rw [List.mem_filter, List.mem_range]
theorem two_get (a b l : Nat) : atI [nV a, nV b] ((l : Int) % 2) = some (nV (par2 a b l)) := by
  have h : ((l : Int) % 2) = ((l % 2 : Nat) : Int) := by omega
  rw [h]
  unfold par2
  by_cases z : l % 2 = 0
  · rw [z, if_pos rfl]; exact atI_nat rfl
  · have z1 : l % 2 = 1 := by omega
    rw [z1, if_neg (by omega)]; exact atI_nat rfl
def spChain : Sp := fun vs H Q _ => ∃ (m k a b : Nat) (q tw S R C : Addr) (ts : List Tie) (cs : OCols) (one other : Spot) (side : Nat → Bool), vs = [.ref q, .ref tw, .ref S, .ref R, .ref C] ∧ SpV H q other ∧ H tw = some (.lst [nV a, nV b]) ∧ SpotsV ts m H S ts.length ∧ RowsV ts m H R ∧ H C = some (.lst (oL cs)) ∧ ts.length ≤ 1000 ∧
  CInv ts m cs k ∧ FreeAt ts m cs a b one other ∧ Bip ts side ∧ side one.1 = !side other.1 ∧ (∃ j, j < ts.length ∧ hasS ts m other j = true) ∧
  ∀ H' p ch, Same H H' → H p = none → H' p = some (.lst (nL ch)) → ChE ts m cs a b one other ch → Q (.ref p) H'
section
variable {P : Program} {w : World} {K : PySem.W.Frag} {mg : PySem.Str → Option Value} {base : Heap}
theorem sc_chain_from : FnScope ["spot", "two", "spots", "rows", "colours", "chain", "tie"] ["spot", "two", "spots", "rows", "colours"] (defScope s_chain_from) := ⟨rfl, rfl, rfl, by decide +kernel, rfl, by decide +kernel, by decide +kernel⟩
theorem ok_chain_from (T : G5 K mg) : FnOk P w K mg base CX0 2 T.chain_from.f T.chain_from.fd ["spot", "two", "spots", "rows", "colours"] spChain := by
  have TO : FnOk P w K mg base CX0 1 T.tie_of.f T.tie_of.fd ["colour", "row", "colours"] spTieOf := ok_tie_of T
  have FE : FnOk P w K mg base CX0 1 T.far_end.f T.far_end.fd ["tie", "place"] (spFarEnd K) := ok_far_end T.toG2
  refine T.chain_from.F.ok sc_chain_from (fun vs H Q E h => ?_) (fun cdv A outer s H vs Q E hr h => ?_)
  · obtain ⟨_, _, _, _, _, _, _, _, _, _, _, _, _, _, rfl, _⟩ := h
    rfl
  · obtain ⟨m, k, a, b, q0, tw, S, R, C, ts, cs, one, other, side, rfl, hq0, htw, hS, hR, hC, hlen, CI, FR, BP, hso, ⟨j0, hj0, hj1⟩, hQ⟩ := h
    have nd := sc_chain_from.nd
    have hu := hu_of hr
    have hlt : ∀ s, ∀ j ∈ rowOf ts m s ts.length, j < cs.length := fun s j hj => by rw [CI.len]; exact (mem_row.mp hj).1
    refine ⟨_, pss_cons (ps_set (i := 5) nd rfl (.inl rfl) (pe_lst pa_nil))
      (pss_cons (ps_set (i := 6) nd rfl (.inl rfl) (pe_call TO hr (by rfl) T.tie_of.g T.tie_of.F.kp T.tie_of.b .nil pass0 (pa_cons (pe_ix ix_list (pv 1) pe_int (fun _ _ => rfl)) (pa_cons (pe_dget hu (pv 3) (pv 0) (fun _ _ => rfl)) (pa_cons (pv 4) pa_nil)))))
      (pss_cons (ps_whileS PassesOwn.never (pt_cmpR op_notN (pv 6) pe_non (nomark _))
        (pss_cons (ps_expr (pe_bm PySem.F.plainAttrs_list PySem.F.slot_list_append PySem.F.type_list_append mt_append (pv 5) (pa_cons (pv 6) pa_nil)))
        (pss_cons (ps_set (i := 0) nd rfl (.inl rfl) (pe_call FE hr (by rfl) T.far_end.g T.far_end.F.kp T.far_end.b .nil pass0 (pa_cons (pe_ix ix_list (pv 2) (pv 6) (fun _ _ => rfl)) (pa_cons (pv 0) pa_nil))))
        (pss_one (ps_set (i := 6) nd rfl (.inl rfl) (pe_call TO hr (by rfl) T.tie_of.g T.tie_of.F.kp T.tie_of.b .nil pass0 (pa_cons (pe_ix ix_list (pv 1) (pe_op op_mod (pe_callB call_len_seq (by rfl) T.b.len PySem.boot_len (pa_cons (pv 5) pa_nil)) pe_int) (fun _ _ => rfl)) (pa_cons (pe_dget hu (pv 3) (pv 0) (fun _ _ => rfl)) (pa_cons (pv 4) pa_nil)))))))))
      (pss_one (ps_ret (pv 5))))), ?_⟩
    refine ⟨Nat.zero_le _, fun CH hCH => ?_⟩
    have s0 : Same H (upd H CH (.lst [])) := same_new hCH
    obtain ⟨r0, hg0, hr0⟩ := (hR.same s0).get (s0 _ _ hq0) hj0 hj1
    have find_spec : ∀ (s : Spot) (c : Nat) (o : Option Nat), (rowOf ts m s ts.length).find? (fun k => decide (cg cs k = some c)) = o →
        match o with
        | some f => f < ts.length ∧ hasS ts m s f = true ∧ cg cs f = some c
        | none => ∀ f, f < ts.length → hasS ts m s f = true → cg cs f ≠ some c := fun s c o e => by
      cases o with
      | some f =>
        have h1 := List.find?_some e
        have h2 := mem_row.mp (List.mem_of_find?_eq_some e)
        exact ⟨h2.1, h2.2, of_decide_eq_true h1⟩
      | none =>
        intro f hf hs z
        have := List.find?_eq_none.mp e f (mem_row.mpr ⟨hf, hs⟩)
        exact this (decide_eq_true z)
    refine ⟨_, rfl, tw, _, _, nV a, rfl, rfl, SqL.of (s0 _ _ htw), rfl, _, rfl, _, rfl, R, .ref r0, rfl, hg0, _, rfl, a, r0, C, rowOf ts m other ts.length, cs, rfl, hr0, s0 _ _ hC, hlt other, ?_⟩
    have h0 := find_spec other a _ rfl
    generalize (rowOf ts m other ts.length).find? (fun k => decide (cg cs k = some a)) = o0 at h0
    refine while_rel (fun mm σ H' => ∃ (s : Spot) (q : Addr) (ch : List Nat) (o : Option Nat), σ = [some (.ref q), some (.ref tw), some (.ref S), some (.ref R), some (.ref C), some (.ref CH), some (oV o)] ∧ mm = ts.length + 1 - ch.length ∧ Same H H' ∧ H' CH = some (.lst (nL ch)) ∧ SpV H' q s ∧ ChI ts m cs a b other ch s ∧
        (match o with
          | some f => f < ts.length ∧ hasS ts m s f = true ∧ cg cs f = some (par2 a b ch.length)
          | none => ∀ f, f < ts.length → hasS ts m s f = true → cg cs f ≠ some (par2 a b ch.length)))
      ⟨_, other, q0, [], o0, rfl, rfl, s0, upd_same, s0 _ _ hq0, ChI.start, h0⟩ ?_ ?_
    · rintro mm σ H1 ⟨s, q, ch, o, rfl, rfl, s1, hch, hsp, chI, ho⟩
      have hchl : ch.length ≤ ts.length := nodup_le _ _ chI.nd fun x hx => by
        obtain ⟨⟨sp, _, _, h⟩, _⟩ := chI
        obtain ⟨j, hj, ej⟩ := List.getElem_of_mem hx
        have := (h j hj).1
        rw [ej] at this
        exact this
      refine ⟨_, rfl, rfl, _, rfl, ?_⟩
      cases o with
      | none =>
        refine iteNS rfl ?_
        exact ⟨_, rfl, hQ H1 CH ch s1 hCH hch (chI.done BP CI FR hso ho)⟩
      | some f =>
        refine iteNT (by intro z; cases z) ?_
        obtain ⟨hf, hfs, hfc⟩ := ho
        have chI2 := chI.snoc BP CI FR hf hfs hfc
        have hch2 : (ch ++ [f]).length ≤ ts.length := nodup_le _ _ chI2.nd fun x hx => by
          obtain ⟨⟨sp, _, _, h⟩, _⟩ := chI2
          obtain ⟨j, hj, ej⟩ := List.getElem_of_mem hx
          have := (h j hj).1
          rw [ej] at this
          exact this
        rw [List.length_append, List.length_singleton] at hch2
        refine ⟨_, rfl, .inl ⟨rfl, _, SqL.of hch⟩, _, rfl, CH, _, _, rfl, rfl, hch, by rw [nL_len, PySem.sizeLine_eq]; omega, ?_⟩
        have s2 : Same H (upd H1 CH (.lst (nL ch ++ [oV (some f)]))) := sameU s1 hCH
        have hch3 : (upd H1 CH (.lst (nL ch ++ [oV (some f)]))) CH = some (.lst (nL (ch ++ [f]))) := by rw [upd_same, nL_snoc]; rfl
        have hsp3 : SpV (upd H1 CH (.lst (nL ch ++ [oV (some f)]))) q s := TupStay.lst hch _ _ hsp
        generalize upd H1 CH (.lst (nL ch ++ [oV (some f)])) = H2 at s2 hch3 hsp3
        obtain ⟨ps, hps1, hps2⟩ := hS.same s2
        obtain ⟨p, hp1, tl, th, hp2, hl, hh⟩ := SpotsV.get hps2 hf
        refine ⟨_, rfl, _, rfl, S, _, (f : Int), _, rfl, rfl, SqL.of hps1, atI_nat hp1, _, rfl, ?_⟩
        refine ⟨p, .ref tl, .ref th, .ref q, _, _, rfl, hp2, dp_spot hsp3, dp_spot hl, rfl, rfl, ?_⟩
        rw [eqv_spot]
        have hnew : ∃ q', (if decide (s = spL ts m f) = true then V.ref th else V.ref tl) = V.ref q' ∧ SpV H2 q' (farS ts m f s) := by
          unfold farS
          by_cases e : s = spL ts m f
          · rw [if_pos (decide_eq_true e), if_pos e]; exact ⟨th, rfl, hh⟩
          · rw [if_neg (by simpa using e), if_neg e]; exact ⟨tl, rfl, hl⟩
        obtain ⟨q', eq', hq'⟩ := hnew
        rw [eq']
        obtain ⟨r1, hg1, hr1⟩ := (hR.same s2).get hq' hf farS_has
        refine ⟨_, rfl, _, rfl, CH, _, rfl, .inl (SqL.of hch3), _, _, rfl, rfl, (by show (0 : Int) < 2; decide), tw, _, _, _, rfl, rfl, SqL.of (s2 _ _ htw), two_get a b _, ?_⟩
        rw [nL_len]
        refine ⟨_, rfl, _, rfl, R, .ref r1, rfl, hg1, _, rfl, par2 a b (ch ++ [f]).length, r1, C, _, cs, rfl, hr1, s2 _ _ hC, hlt _, ?_⟩
        have h2 := find_spec (farS ts m f s) (par2 a b (ch ++ [f]).length) _ rfl
        generalize (rowOf ts m (farS ts m f s) ts.length).find? (fun k => decide (cg cs k = some (par2 a b (ch ++ [f]).length))) = o2 at h2
        exact ⟨ts.length + 1 - (ch ++ [f]).length, by rw [List.length_append, List.length_singleton]; omega, farS ts m f s, q', ch ++ [f], o2, rfl, rfl, s2, hch3, hq', chI2, h2⟩
    · rintro σ H2 Q1 Q2 hm ⟨v, g1, g2, k, g3, g4⟩
      exact ⟨v, g1, g2, k, g3, hm _ _ g4⟩
end
end TT
namespace TT
open PySem L2 TH
def spShareOut : Sp := fun vs H Q _ => ∃ (n m : Nat) (a : Addr) (ts : List Tie) (side : Nat → Bool), vs = [nV n, .ref a, nV m] ∧ TiesV H a ts ∧ ts.length ≤ 1000 ∧ Ok n ts ∧ n ≤ 1000 ∧ 0 < m ∧ m < 2 ^ 200 ∧ Bip ts side ∧
  ∀ H' p cols, Same H H' → H p = none → H' p = some (.lst (nL cols)) → EvenN ts m cols → Q (.ref p) H'
theorem nodup_take_not {xs : List Nat} (nd : xs.Nodup) {j : Nat} (h : j < xs.length) : xs[j] ∉ xs.take j := fun hm => by
  obtain ⟨i, hi, e⟩ := List.getElem_of_mem hm
  rw [List.getElem_take] at e
  have := (List.getElem_inj nd).mp e
  rw [List.length_take] at hi
  omega
section
variable {P : Program} {w : World} {K : PySem.W.Frag} {mg : PySem.Str → Option Value} {base : Heap}
theorem sc_share_out : FnScope ["places", "ties", "many", "spots", "rows", "colours", "k", "one", "other", "colour", "instead", "chain", "tie"] ["places", "ties", "many"] (defScope s_share_out) := ⟨rfl, rfl, rfl, by decide +kernel, rfl, by decide +kernel, by decide +kernel⟩
theorem ok_share_out (T : G5 K mg) : FnOk P w K mg base CX0 3 T.share_out.f T.share_out.fd ["places", "ties", "many"] spShareOut := by
  have SO : FnOk P w K mg base CX0 1 T.spots_of.f T.spots_of.fd ["places", "ties", "many"] spSpots := ok_spots_of T
  have RO : FnOk P w K mg base CX0 1 T.rows_of.f T.rows_of.fd ["spots"] spRows := ok_rows_of T
  have LF : FnOk P w K mg base CX0 1 T.least_free.f T.least_free.fd ["row", "colours"] spLeast := ok_least_free T
  have CF : FnOk P w K mg base CX0 2 T.chain_from.f T.chain_from.fd ["spot", "two", "spots", "rows", "colours"] spChain := ok_chain_from T
  refine T.share_out.F.ok sc_share_out (fun vs H Q E h => ?_) (fun cdv A outer s H vs Q E hr h => ?_)
  · obtain ⟨_, _, _, _, _, rfl, _⟩ := h
    rfl
  · obtain ⟨n, m, a, ts, side, rfl, hts, hlen, ok, hn, hm, hm2, BP, hQ⟩ := h
    have nd := sc_share_out.nd
    have hu := hu_of hr
    have hr1 : Room 1 _ := hr.mono (by decide)
    refine ⟨_, pss_cons (ps_set (i := 3) nd rfl (.inl rfl) (pe_call SO hr1 (by rfl) T.spots_of.g T.spots_of.F.kp T.spots_of.b .nil pass0 (pa_cons (pv 0) (pa_cons (pv 1) (pa_cons (pv 2) pa_nil)))))
      (pss_cons (ps_set (i := 4) nd rfl (.inl rfl) (pe_call RO hr1 (by rfl) T.rows_of.g T.rows_of.F.kp T.rows_of.b .nil pass0 (pa_cons (pv 3) pa_nil)))
      (pss_cons (ps_set (i := 5) nd rfl (.inl rfl) (pe_op op_rep (pe_lst (pa_cons pe_non pa_nil)) (pe_callB call_len_seq (by rfl) T.b.len PySem.boot_len (pa_cons (pv 1) pa_nil))))
      (pss_cons (ps_for PassesOwn.never rfl (pi_enum (by rfl) T.b.enumerate (pa_cons (pv 3) pa_nil)) (pg_tup rfl (pgs_cons (pg_name (i := 6) nd rfl (.inl rfl)) (pgs_cons (pg_tup rfl (pgs_cons (pg_name (i := 7) nd rfl (.inl rfl)) (pgs_cons (pg_name (i := 8) nd rfl (.inl rfl)) pgs_nil))) pgs_nil)))
        (pss_cons (ps_set (i := 9) nd rfl (.inl rfl) (pe_call LF hr1 (by rfl) T.least_free.g T.least_free.F.kp T.least_free.b .nil pass0 (pa_cons (pe_dget hu (pv 4) (pv 7) (fun _ _ => rfl)) (pa_cons (pv 5) pa_nil))))
        (pss_cons (ps_set (i := 10) nd rfl (.inl rfl) (pe_call LF hr1 (by rfl) T.least_free.g T.least_free.F.kp T.least_free.b .nil pass0 (pa_cons (pe_dget hu (pv 4) (pv 8) (fun _ _ => rfl)) (pa_cons (pv 5) pa_nil))))
        (pss_cons (ps_set (i := 11) nd rfl (.inl rfl) (pe_call CF hr (by rfl) T.chain_from.g T.chain_from.F.kp T.chain_from.b .nil pass0 (pa_cons (pv 8) (pa_cons (pe_lst (pa_cons (pv 9) (pa_cons (pv 10) pa_nil))) (pa_cons (pv 3) (pa_cons (pv 4) (pa_cons (pv 5) pa_nil)))))))
        (pss_cons (ps_for PassesOwn.never rfl (pi_list (pv 11)) (pg_name (i := 12) nd rfl (.inl rfl))
          (pss_one (ps_asg (pe_ifExp (pt_cmpR op_eq (pe_ix ix_list (pv 5) (pv 12) (fun _ _ => rfl)) (pv 9) (nomark _)) (pv 10) (pv 9)) (pg_sub (pv 5) (pv 12) set_list))))
        (pss_one (ps_asg (pv 9) (pg_sub (pv 5) (pv 6) set_list))))))))
      (pss_one (ps_ret (pv 5)))))), ?_⟩
    refine ⟨_, rfl, _, rfl, _, rfl, n, m, a, ts, rfl, hts, hlen, ok, hn, hm, hm2, fun H1 S s1 hS0 hS => ?_⟩
    refine ⟨_, rfl, n, m, S, ts, rfl, hS, hlen, ok, fun H2 R s2 hR0 hR => ?_⟩
    have s12 := s1.trans s2
    obtain ⟨as, ha1, ha2⟩ := hts.same s12
    have hal := paired_length ha2
    refine ⟨(by show 1 ≤ sizeLine; decide), fun L1 hL1 => ?_⟩
    have sL1 : Same H2 (upd H2 L1 (.lst [.non])) := same_new hL1
    refine ⟨_, rfl, a, _, rfl, .inl (SqL.of (sL1 _ _ ha1)), L1, _, _, rfl, rfl, upd_same, by omega, ?_, ?_, fun C hC => ?_⟩
    · rw [List.length_map]; omega
    · rw [List.length_map, PySem.sizeLine_eq, Int.toNat_natCast]
      show 1 * _ ≤ _
      omega
    rw [rep_one, List.length_map, Int.toNat_natCast, hal]
    have hC2 : H2 C = none := sL1.free hC
    have hC0 : H C = none := s12.free hC2
    have sC : Same H2 (upd (upd H2 L1 (.lst [.non])) C (.lst (List.replicate ts.length .non))) := sL1.trans (same_new hC)
    have hCv : (upd (upd H2 L1 (.lst [.non])) C (.lst (List.replicate ts.length .non))) C = some (.lst (oL (List.replicate ts.length none))) := by
      rw [upd_same]; unfold oL; rw [List.map_replicate]; rfl
    generalize upd (upd H2 L1 (.lst [.non])) C (.lst (List.replicate ts.length .non)) = H3 at sC hCv
    clear hL1 sL1 hC
    have hS2 := hS.same s2
    obtain ⟨ps, hps1, hps2⟩ := id hS2
    have hpl := paired_length hps2
    rw [List.length_range] at hpl
    refine ⟨_, rfl, S, _, rfl, SqL.of (sC _ _ hps1), ?_⟩
    refine for_it (walk_enum (K := K) (a := S) (xs := ps.map V.ref)) (fun i σ H' => ∃ (x6 x7 x8 x9 x10 x11 x12 : Option V) (cs : OCols), σ = [some (nV n), some (.ref a), some (nV m), some (.ref S), some (.ref R), some (.ref C), x6, x7, x8, x9, x10, x11, x12] ∧ Same H2 H' ∧ H' C = some (.lst (oL cs)) ∧ CInv ts m cs i)
      ⟨none, none, none, none, none, none, none, _, rfl, sC, hCv, CInv.zero ts m⟩ (fun i σ H' _ p => ?_) ?_ ?_
    · obtain ⟨_, _, _, _, _, _, _, _, _, p1, _⟩ := p
      exact p1.seq (SqL.of hps1)
    · rintro i x σ H4 H5 hi ⟨x6, x7, x8, x9, x10, x11, x12, cs, rfl, s4, hC4, CI⟩ ⟨T0, y1, y2, rfl, nT, rfl, e1, e2⟩
      cases e1
      rw [List.length_map] at hi
      have hiL : i < ts.length := by omega
      have s5 : Same H2 (upd H4 T0 (.tup [.int (i : Nat), y2])) := sameN s4 nT
      obtain ⟨p, hp1, tl, th, hp2, hl, hh⟩ := SpotsV.get hps2 hiL
      have e2 : (ps.map V.ref)[i]? = some y2 := e2
      rw [hp1] at e2
      cases e2
      have hC5 : (upd H4 T0 (.tup [.int (i : Nat), .ref p])) C = some (.lst (oL cs)) := by rw [upd_ne (ne_of_none hC4 nT)]; exact hC4
      refine ⟨T0, _, rfl, SqT.of upd_same, rfl, _, [.ref p], rfl, _, [], rfl, ?_⟩
      refine ⟨p, _, rfl, SqT.of (s5 _ _ hp2), rfl, _, [.ref th], rfl, _, [], rfl, rfl, rfl, ?_⟩
      generalize upd H4 T0 (.tup [.int (i : Nat), .ref p]) = H5 at s5 hC5
      have hl5 := s5 _ _ hl
      have hh5 := s5 _ _ hh
      have hone : hasS ts m (spL ts m i) i = true := hasS_iff.mpr (.inl rfl)
      have hoth : hasS ts m (spH ts m i) i = true := hasS_iff.mpr (.inr rfl)
      obtain ⟨r1, hg1, hr1⟩ := (hR.same s5).get hl5 hiL hone
      have hrl := row_le hm (ts := ts) (spL ts m i) ts.length
      have hlt : ∀ s, ∀ j ∈ rowOf ts m s ts.length, j < cs.length := fun s j hj => by rw [CI.len]; exact (mem_row.mp hj).1
      have hrow1000 : ∀ s, (rowOf ts m s ts.length).length ≤ 1000 := fun s => by
        have := List.length_filter_le (hasS ts m s) (List.range ts.length)
        rw [List.length_range] at this
        exact Nat.le_trans this hlen
      refine ⟨_, rfl, _, rfl, R, .ref r1, rfl, hg1, _, rfl, r1, C, _, cs, rfl, hr1, hC5, hlt _, hrow1000 _, fun H6 ca s6 hca1 hca2 => ?_⟩
      have s26 := s5.trans s6
      obtain ⟨r2, hg2, hr2⟩ := (hR.same s26).get (s6 _ _ hh5) hiL hoth
      refine ⟨_, rfl, _, rfl, R, .ref r2, rfl, hg2, _, rfl, r2, C, _, cs, rfl, hr2, s6 _ _ hC5, hlt _, hrow1000 _, fun H7 cb s7 hcb1 hcb2 => ?_⟩
      have s27 := s26.trans s7
      have hC7 := s7 _ _ (s6 _ _ hC5)
      have hh7 : SpV H7 th (spH ts m i) := s7 _ _ (s6 _ _ hh5)
      have hca : ca < m := free_lt hm CI hiL hone fun d hd => by
        obtain ⟨f, hf, h2⟩ := hca1 d hd
        exact ⟨f, (mem_row.mp hf).1, (mem_row.mp hf).2, h2⟩
      have hcb : cb < m := free_lt hm CI hiL hoth fun d hd => by
        obtain ⟨f, hf, h2⟩ := hcb1 d hd
        exact ⟨f, (mem_row.mp hf).1, (mem_row.mp hf).2, h2⟩
      have FR : FreeAt ts m cs ca cb (spL ts m i) (spH ts m i) := ⟨fun f hf hs => hca2 f (mem_row.mpr ⟨hf, hs⟩), fun f hf hs => hcb2 f (mem_row.mpr ⟨hf, hs⟩)⟩
      have hso : side (spL ts m i).1 = !side (spH ts m i).1 := by
        have := BP.spots (m := m) hiL
        cases h1 : side (spL ts m i).1 <;> cases h2 : side (spH ts m i).1 <;> simp_all
      refine ⟨_, rfl, _, rfl, _, rfl, (by show 2 ≤ sizeLine; decide), fun TW hTW => ?_⟩
      have s78 : Same H7 (upd H7 TW (.lst [nV ca, nV cb])) := same_new hTW
      have hTW8 : (upd H7 TW (.lst [nV ca, nV cb])) TW = some (.lst [nV ca, nV cb]) := upd_same
      refine ⟨_, rfl, _, rfl, _, rfl, m, i, ca, cb, th, TW, S, R, C, ts, cs, spL ts m i, spH ts m i, side, rfl, s78 _ _ hh7, hTW8, (hS2.same s27).same s78, (hR.same s27).same s78, s78 _ _ hC7, hlen, CI, FR, BP, hso, ⟨i, hiL, hoth⟩, fun H9 W ch s89 hW0 hW hE => ?_⟩
      have s29 := (s27.trans s78).trans s89
      have hC9 := s89 _ _ (s78 _ _ hC7)
      have hWC : W ≠ C := fun z => by rw [z, s78 _ _ hC7] at hW0; cases hW0
      refine ⟨_, rfl, W, rfl, ⟨_, SqL.of hW⟩, ?_⟩
      refine for_it (walk_list (K := K) (a := W) (xs := nL ch)) (fun j σ H' => ∃ (x12 : Option V) (cs1 : OCols), σ = [some (nV n), some (.ref a), some (nV m), some (.ref S), some (.ref R), some (.ref C), some (nV i), some (.ref tl), some (.ref th), some (nV ca), some (nV cb), some (.ref W), x12] ∧ (∀ b o, b ≠ C → H9 b = some o → H' b = some o) ∧ H' C = some (.lst (oL cs1)) ∧
          cs1.length = cs.length ∧ ∀ e, cg cs1 e = if e ∈ ch.take j then swapC ca cb (cg cs e) else cg cs e)
        ⟨x12, cs, rfl, fun b o _ e => e, hC9, rfl, fun e => by simp⟩ (fun j σ H' _ p => ?_) ?_ ?_
      · obtain ⟨_, _, _, p1, _⟩ := p
        exact SqL.of (p1 _ _ hWC hW)
      · rintro j x σ H10 H11 hj ⟨y12, cs1, rfl, p1, p2, p3, p4⟩ ⟨rfl, hx⟩
        rw [nL_len] at hj
        rw [get_nL hj] at hx
        cases hx
        have htk := take_succ_get hj
        have hnot := nodup_take_not hE.nd hj
        have hcol := hE.col _ (List.getElem_mem hj)
        generalize ch[j] = e0 at htk hnot hcol
        have hcg : cg cs1 e0 = cg cs e0 := by rw [p4, if_neg hnot]
        have he0 : e0 < cs1.length := by rw [p3, CI.len]; exact hcol.1
        refine ⟨_, rfl, _, rfl, C, _, (e0 : Int), _, rfl, rfl, SqL.of p2, atI_nat (get_oL he0), _, rfl, ?_, _, rfl, ?_⟩
        · cases cg cs1 e0 <;> rfl
        rw [oV_eq, hcg]
        have fin : ∀ c' : Nat, some c' = swapC ca cb (cg cs e0) → ∃ (x12 : Option V) (cs1' : OCols), ([some (nV n), some (.ref a), some (nV m), some (.ref S), some (.ref R), some (.ref C), some (nV i), some (.ref tl), some (.ref th), some (nV ca), some (nV cb), some (.ref W), some (nV e0)] : L2.St) = [some (nV n), some (.ref a), some (nV m), some (.ref S), some (.ref R), some (.ref C), some (nV i), some (.ref tl), some (.ref th), some (nV ca), some (nV cb), some (.ref W), x12] ∧ (∀ b o, b ≠ C → H9 b = some o → upd H11 C (.lst ((oL cs1).set e0 (nV c'))) b = some o) ∧ upd H11 C (.lst ((oL cs1).set e0 (nV c'))) C = some (.lst (oL cs1')) ∧
            cs1'.length = cs.length ∧ ∀ e, cg cs1' e = if e ∈ ch.take (j + 1) then swapC ca cb (cg cs e) else cg cs e := fun c' hc' => by
          refine ⟨_, cs1.set e0 (some c'), rfl, fun b o nb e => by rw [upd_ne nb]; exact p1 b o nb e, by rw [upd_same]; exact congrArg (fun l => some (HO.lst l)) (oL_set (cs := cs1) (k := e0) (o := some c')), by rw [List.length_set]; exact p3, fun e => ?_⟩
          rw [cg_set he0, htk]
          by_cases z : e = e0
          · subst z
            rw [if_pos rfl, if_pos (by simp), hc']
          · rw [if_neg z, p4]
            simp only [List.mem_append, List.mem_singleton, z, or_false]
        by_cases q : cg cs e0 = some ca
        · rw [decide_eq_true q]
          refine iteT ⟨_, rfl, _, rfl, _, rfl, C, _, (e0 : Int), e0, rfl, rfl, p2, ixN_nat (by rw [oL_len]; exact he0), ?_⟩
          exact fin cb (by unfold swapC; rw [if_pos q])
        · rw [decide_eq_false q]
          refine iteF ⟨_, rfl, _, rfl, _, rfl, C, _, (e0 : Int), e0, rfl, rfl, p2, ixN_nat (by rw [oL_len]; exact he0), ?_⟩
          exact fin ca (by unfold swapC; rw [if_neg q])
      · rintro σ H10 ⟨y12, cs1, rfl, p1, p2, p3, p4⟩
        rw [nL_len, List.take_length] at p4
        have hi1 : i < cs1.length := by rw [p3, CI.len]; exact hiL
        refine ⟨_, rfl, _, rfl, _, rfl, C, _, (i : Int), i, rfl, rfl, p2, ixN_nat (by rw [oL_len]; exact hi1), ?_⟩
        refine ⟨_, _, _, _, _, _, _, cs1.set i (some ca), rfl, fun b o e => ?_, by rw [upd_same]; exact congrArg (fun l => some (HO.lst l)) (oL_set (cs := cs1) (k := i) (o := some ca)), CI.next hiL FR hE hca hcb p3 p4 rfl⟩
        have hbC : b ≠ C := fun z => by rw [z, hC2] at e; cases e
        rw [upd_ne hbC]
        exact p1 b o hbC (s29 b o e)
    · rintro σ H4 ⟨x6, x7, x8, x9, x10, x11, x12, cs, rfl, s4, hC4, CI⟩
      rw [List.length_map, hpl] at CI
      have hE := CI.even hm
      refine ⟨_, rfl, hQ H4 C (plainC cs) (s12.trans s4) hC0 ?_ hE⟩
      rw [hC4]
      congr 2
      unfold oL nL plainC
      rw [List.map_map]
      apply List.map_congr_left
      intro o ho
      obtain ⟨j, hj, e⟩ := List.getElem_of_mem ho
      obtain ⟨d, h1, h2⟩ := CI.isSet j (by rw [← CI.len]; exact hj)
      unfold cg at h1
      rw [List.getD_eq_getElem?_getD, List.getElem?_eq_getElem hj, e] at h1
      have h1 : o = some d := h1
      rw [h1]
      rfl
end
end TT
namespace TT
open PySem L2 TH
def spWay : Sp := fun vs H Q _ => ∃ (n root v : Nat) (a R : Addr) (ts : List Tie) (T : TreeL), vs = [nV v, .ref a, .ref R] ∧ TiesV H a ts ∧ Ok n ts ∧ n ≤ 1000 ∧ TreeV H R T ∧ Tree ts n root T ∧ inT T v = true ∧
  ∀ H' p w, Same H H' → H p = none → H' p = some (.lst (nL w)) → IsUp ts T v w → Q (.ref p) H'
def spClose (K : PySem.W.Frag) : Sp := fun vs H Q _ => ∃ (n root k d e : Nat) (o o' : Option Nat) (a R : Addr) (ts : List Tie) (T : TreeL), vs = [nV k, .ref a, .ref R] ∧ TiesV H a ts ∧ Ok n ts ∧ n ≤ 1000 ∧ TreeV H R T ∧ Tree ts n root T ∧ k < ts.length ∧
  T.lookup (tget ts k).1 = some (d, o) ∧ T.lookup (tget ts k).2 = some (e, o') ∧ d % 2 = e % 2 ∧ ∀ H' p r, Same H H' → H p = none → H' p = some (.lst (nL r)) → RingOk ts r → Q (.ref p) H'
theorem TreeV.get {H : Hp} {R : Addr} {T : TreeL} (h : TreeV H R T) {v d : Nat} {o : Option Nat} (hl : T.lookup v = some (d, o)) : ∃ q, DGet H R (nV v) (some (.ref q)) ∧ H q = some (.tup [nV d, oV o]) := by
  obtain ⟨kvs, h1, h2⟩ := h
  obtain ⟨q, e1, e2⟩ := ent_some h2 hl
  refine ⟨q, ?_, e2⟩
  have := DGet.k (k := Sum.inl (v : Int)) h1
  rw [e1] at this
  exact this
theorem ring_list (k : Nat) (A B : List Nat) : [nV k] ++ nL B ++ (nL A).reverse = nL ([k] ++ B ++ A.reverse) := by
  unfold nL
  rw [List.map_append, List.map_append, List.map_reverse]
  rfl
def TMono (t : TT) : Prop := ∀ σ H Q Q', (∀ b H1, Q b H1 → Q' b H1) → t σ H Q → t σ H Q'
theorem and_mono {t u : TT} (ht : TMono t) (hu : TMono u) : TMono (tAnd t u) := fun σ H Q Q' h q => by
  refine ht σ H _ _ (fun c H1 z => ?_) q
  cases c with
  | true => exact iteT (hu σ H1 Q Q' h ((if_pos rfl).mp z))
  | false => exact iteF (h _ _ ((if_neg (by decide)).mp z))
section
variable {P : Program} {w : World} {K : PySem.W.Frag} {mg : PySem.Str → Option Value} {base : Heap}
theorem sc_way_up : FnScope ["place", "ties", "reached", "way", "tie"] ["place", "ties", "reached"] (defScope s_way_up) := ⟨rfl, rfl, rfl, by decide +kernel, rfl, by decide +kernel, by decide +kernel⟩
theorem ok_way_up (T : G5 K mg) : FnOk P w K mg base CX0 2 T.way_up.f T.way_up.fd ["place", "ties", "reached"] spWay := by
  have FE : FnOk P w K mg base CX0 1 T.far_end.f T.far_end.fd ["tie", "place"] (spFarEnd K) := ok_far_end T.toG2
  refine T.way_up.F.ok sc_way_up (fun vs H Q E h => ?_) (fun cdv A outer s H vs Q E hr h => ?_)
  · obtain ⟨_, _, _, _, _, _, _, rfl, _⟩ := h
    rfl
  · obtain ⟨n, root, v, a, R, ts, TT, rfl, hts, ok, hn, hR, tr, hin, hQ⟩ := h
    have nd := sc_way_up.nd
    have hu := hu_of hr
    refine ⟨_, pss_cons (ps_set (i := 3) nd rfl (.inl rfl) (pe_lst pa_nil))
      (pss_cons (ps_set (i := 4) nd rfl (.inl rfl) (pe_ix ix_tup (pe_dget hu (pv 2) (pv 0) (fun _ _ => rfl)) pe_int (fun _ _ => rfl)))
      (pss_cons (ps_whileS PassesOwn.never (pt_cmpR op_notN (pv 4) pe_non (nomark _))
        (pss_cons (ps_expr (pe_bm PySem.F.plainAttrs_list PySem.F.slot_list_append PySem.F.type_list_append mt_append (pv 3) (pa_cons (pv 4) pa_nil)))
        (pss_cons (ps_set (i := 0) nd rfl (.inl rfl) (pe_call FE hr (by rfl) T.far_end.g T.far_end.F.kp T.far_end.b .nil pass0 (pa_cons (pe_ix ix_list (pv 1) (pv 4) (fun _ _ => rfl)) (pa_cons (pv 0) pa_nil))))
        (pss_one (ps_set (i := 4) nd rfl (.inl rfl) (pe_ix ix_tup (pe_dget hu (pv 2) (pv 0) (fun _ _ => rfl)) pe_int (fun _ _ => rfl)))))))
      (pss_one (ps_ret (pv 3))))), ?_⟩
    refine ⟨Nat.zero_le _, fun W hW => ?_⟩
    have s0 : Same H (upd H W (.lst [])) := same_new hW
    obtain ⟨⟨d, o⟩, hdo⟩ := Option.isSome_iff_exists.mp hin
    obtain ⟨w0, hw0⟩ := up_exists ok tr d v o hdo
    have hwl := up_lt ok tr hw0
    have headO : ∀ (u : Nat) (w2 : List Nat), IsUp ts TT u w2 → ∃ d, TT.lookup u = some (d, w2.head?) := fun u w2 h => by
      cases w2 with
      | nil => exact h
      | cons k ks => exact h.1
    obtain ⟨d0, hd0⟩ := headO v w0 hw0
    obtain ⟨q0, hg0, hq0⟩ := (hR.same s0).get hd0
    refine ⟨_, rfl, _, rfl, R, .ref q0, rfl, hg0, q0, _, 1, oV w0.head?, rfl, rfl, SqT.of hq0, rfl, ?_⟩
    refine while_rel (fun m σ H' => ∃ (u : Nat) (w1 w2 : List Nat), w0 = w1 ++ w2 ∧ IsUp ts TT u w2 ∧ σ = [some (nV u), some (.ref a), some (.ref R), some (.ref W), some (oV w2.head?)] ∧ m = w2.length ∧ Same H H' ∧ H' W = some (.lst (nL w1)))
      ⟨_, v, [], w0, rfl, hw0, rfl, rfl, s0, upd_same⟩ ?_ ?_
    · rintro m σ H1 ⟨u, w1, w2, ew, hu2, rfl, rfl, s1, hW1⟩
      refine ⟨_, rfl, rfl, _, rfl, ?_⟩
      cases w2 with
      | nil =>
        refine iteNS rfl ?_
        rw [List.append_nil] at ew
        exact ⟨_, rfl, hQ H1 W w1 s1 hW hW1 (ew ▸ hw0)⟩
      | cons k w2 =>
        refine iteNT (by intro z; cases z) ?_
        obtain ⟨hk, hkt, _⟩ := up_par ok tr hu2.1.choose_spec
        have hl : w1.length < n := by
          have := congrArg List.length ew
          rw [List.length_append, List.length_cons] at this
          omega
        refine ⟨_, rfl, .inl ⟨rfl, _, SqL.of hW1⟩, _, rfl, W, _, _, rfl, rfl, hW1, by rw [nL_len, PySem.sizeLine_eq]; omega, ?_⟩
        have s2 : Same H (upd H1 W (.lst (nL w1 ++ [oV (List.head? (k :: w2))]))) := sameU s1 hW
        have hW2 : (upd H1 W (.lst (nL w1 ++ [oV (List.head? (k :: w2))]))) W = some (.lst (nL (w1 ++ [k]))) := by rw [upd_same, nL_snoc]; rfl
        generalize upd H1 W (.lst (nL w1 ++ [oV (List.head? (k :: w2))])) = H2 at s2 hW2
        obtain ⟨as, ha, hp⟩ := hts.same s2
        obtain ⟨q, hq1, hq2⟩ := TiesV.get (a := a) hp hk
        refine ⟨_, rfl, _, rfl, a, _, (k : Int), _, rfl, rfl, SqL.of ha, atI_nat hq1, _, rfl, ?_⟩
        refine ⟨q, _, _, nV u, .int (tget ts k).1, .int u, rfl, hq2, .int _, .int _, rfl, rfl, ?_⟩
        rw [far_val]
        have hu3 : IsUp ts TT (far (tget ts k) u) w2 := hu2.2
        obtain ⟨d3, hd3⟩ := headO _ _ hu3
        obtain ⟨q3, hg3, hq3⟩ := (hR.same s2).get hd3
        refine ⟨_, rfl, _, rfl, R, .ref q3, rfl, hg3, q3, _, 1, oV w2.head?, rfl, rfl, SqT.of hq3, rfl, ?_⟩
        exact ⟨w2.length, Nat.lt_succ_self _, far (tget ts k) u, w1 ++ [k], w2, by rw [ew]; simp, hu3, rfl, rfl, s2, hW2⟩
    · rintro σ H2 Q1 Q2 hm ⟨v, g1, g2, k, g3, g4⟩
      exact ⟨v, g1, g2, k, g3, hm _ _ g4⟩
theorem sc_close_ring : FnScope ["k", "ties", "reached", "one", "other", "from_one", "from_other"] ["k", "ties", "reached"] (defScope s_close_ring) := ⟨rfl, rfl, rfl, by decide +kernel, rfl, by decide +kernel, by decide +kernel⟩
theorem ok_close_ring (T : G5 K mg) : FnOk P w K mg base CX0 3 T.close_ring.f T.close_ring.fd ["k", "ties", "reached"] (spClose K) := by
  have WU : FnOk P w K mg base CX0 2 T.way_up.f T.way_up.fd ["place", "ties", "reached"] spWay := ok_way_up T
  refine T.close_ring.F.ok sc_close_ring (fun vs H Q E h => ?_) (fun cdv A outer s H vs Q E hr h => ?_)
  · obtain ⟨_, _, _, _, _, _, _, _, _, _, _, rfl, _⟩ := h
    rfl
  · obtain ⟨n, root, k, d, e, o, o', a, R, ts, TT, rfl, hts, ok, hn, hR, tr, hk, hd, he, hp, hQ⟩ := h
    have nd := sc_close_ring.nd
    refine ⟨_, pss_cons (ps_asg (pe_ix ix_list (pv 1) (pv 0) (fun _ _ => rfl)) (pg_tup (by rfl) (pgs_cons (pg_name (i := 3) nd rfl (.inl rfl)) (pgs_cons (pg_name (i := 4) nd rfl (.inl rfl)) pgs_nil))))
      (pss_cons (ps_set (i := 5) nd rfl (.inl rfl) (pe_call WU hr (by rfl) T.way_up.g T.way_up.F.kp T.way_up.b .nil pass0 (pa_cons (pv 3) (pa_cons (pv 1) (pa_cons (pv 2) pa_nil)))))
      (pss_cons (ps_set (i := 6) nd rfl (.inl rfl) (pe_call WU hr (by rfl) T.way_up.g T.way_up.F.kp T.way_up.b .nil pass0 (pa_cons (pv 4) (pa_cons (pv 1) (pa_cons (pv 2) pa_nil)))))
      (pss_cons (ps_whileS PassesOwn.never (PW.pt (pw_and (pt_truth (pv 5) (by intro _; rfl)) (pw_and (pt_truth (pv 6) (by intro _; rfl)) (pw_and1 (pt_cmpR op_eq (pe_ix ix_list (pv 5) (pe_un un_neg pe_int) (fun _ _ => rfl)) (pe_ix ix_list (pv 6) (pe_un un_neg pe_int) (fun _ _ => rfl)) (nomark _))))))
        (pss_cons (ps_expr (pe_bm0 PySem.F.plainAttrs_list PySem.F.slot_list_pop PySem.F.type_list_pop mt_pop (pv 5)))
        (pss_one (ps_expr (pe_bm0 PySem.F.plainAttrs_list PySem.F.slot_list_pop PySem.F.type_list_pop mt_pop (pv 6))))))
      (pss_one (ps_ret (pe_op op_cat (pe_op op_cat (pe_lst (pa_cons (pv 0) pa_nil)) (pv 6)) (pe_revL (pv 5)))))))), ?_⟩
    obtain ⟨as, ha, hpp⟩ := id hts
    obtain ⟨q, hq1, hq2⟩ := TiesV.get (a := a) hpp hk
    refine ⟨_, rfl, _, rfl, a, _, (k : Int), _, rfl, rfl, SqL.of ha, atI_nat hq1, ?_⟩
    refine ⟨q, _, rfl, SqT.of hq2, rfl, _, [.int ((tget ts k).2 : Int)], rfl, _, [], rfl, rfl, ?_⟩
    refine ⟨_, rfl, _, rfl, _, rfl, n, root, (tget ts k).1, a, R, ts, TT, rfl, hts, ok, hn, hR, tr, by unfold inT; rw [hd]; rfl, fun H1 F1 wA s1 hF10 hF1 hA => ?_⟩
    refine ⟨_, rfl, _, rfl, _, rfl, n, root, (tget ts k).2, a, R, ts, TT, rfl, hts.same s1, ok, hn, hR.same s1, tr, by unfold inT; rw [he]; rfl, fun H2 F2 wB s2 hF20 hF2 hB => ?_⟩
    have hne : F1 ≠ F2 := fun z => by rw [z, hF20] at hF1; cases hF1
    have lA := up_lt ok tr hA
    have lB := up_lt ok tr hB
    have pAB : wA.length % 2 = wB.length % 2 := by
      obtain ⟨o1, h1⟩ := up_depth ok tr hA
      obtain ⟨o2, h2⟩ := up_depth ok tr hB
      rw [hd] at h1
      rw [he] at h2
      have e1 := congrArg Prod.fst (Option.some.inj h1)
      have e2 := congrArg Prod.fst (Option.some.inj h2)
      simp only at e1 e2
      omega
    refine while_rel (fun m σ H' => ∃ (A B C : List Nat), wA = A ++ C ∧ wB = B ++ C ∧ σ = [some (nV k), some (.ref a), some (.ref R), some (.int ((tget ts k).1 : Int)), some (.int ((tget ts k).2 : Int)), some (.ref F1), some (.ref F2)] ∧ m = A.length ∧ Same H H' ∧ H' F1 = some (.lst (nL A)) ∧ H' F2 = some (.lst (nL B)))
      ⟨_, wA, wB, [], by simp, by simp, rfl, rfl, s1.trans s2, s2 _ _ hF1, hF2⟩ ?_ ?_
    · rintro m σ H3 ⟨A, B, C, eA, eB, rfl, rfl, s3, h1, h2⟩
      have lA' : A.length < n := by rw [eA, List.length_append] at lA; omega
      have lB' : B.length < n := by rw [eB, List.length_append] at lB; omega
      refine ⟨_, rfl, !(nL A).isEmpty, .inl ⟨_, SqL.of h1, rfl⟩, ?_⟩
      rcases nil_or_snoc A with rfl | ⟨A0, x, rfl⟩
      · refine iteF (iteF ?_)
        have hring := ring_of ok tr hk (A := []) (B := B) (C := C) (eA ▸ hA) (eB ▸ hB) (.inl rfl) (by rw [← eA, ← eB]; exact pAB)
        refine ⟨_, rfl, (by show 1 ≤ sizeLine; decide), fun L1 hL1 => ?_⟩
        have t1 : Same H3 (upd H3 L1 (.lst [nV k])) := same_new hL1
        refine ⟨_, rfl, L1, F2, _, _, rfl, rfl, upd_same, t1 _ _ h2, by rw [nL_len, PySem.sizeLine_eq]; show 1 + _ ≤ _; omega, fun L2 hL2 => ?_⟩
        have t2 : Same (upd H3 L1 (.lst [nV k])) (upd (upd H3 L1 (.lst [nV k])) L2 (.lst ([nV k] ++ nL B))) := same_new hL2
        refine ⟨_, rfl, F1, _, rfl, SqL.of (t2 _ _ (t1 _ _ h1)), fun L3 hL3 => ?_⟩
        have t3 : Same (upd (upd H3 L1 (.lst [nV k])) L2 (.lst ([nV k] ++ nL B))) (upd (upd (upd H3 L1 (.lst [nV k])) L2 (.lst ([nV k] ++ nL B))) L3 (.lst (nL []).reverse)) := same_new hL3
        refine ⟨L2, L3, _, _, rfl, rfl, t3 _ _ upd_same, upd_same, ?_, fun L4 hL4 => ?_⟩
        · rw [List.length_append, List.length_reverse, nL_len, nL_len, PySem.sizeLine_eq]; show 1 + _ + _ ≤ _; omega
        · have sAll := ((s3.trans t1).trans t2).trans t3
          refine hQ _ L4 _ (sAll.trans (same_new hL4)) (sAll.free hL4) ?_ hring
          rw [upd_same, ring_list]
      · have e1 : (!(nL (A0 ++ [x])).isEmpty) = true := by rw [nL_snoc]; simp
        rw [e1]
        refine iteT ?_
        refine ⟨_, rfl, !(nL B).isEmpty, .inl ⟨_, SqL.of h2, rfl⟩, ?_⟩
        rcases nil_or_snoc B with rfl | ⟨B0, y, rfl⟩
        · refine iteF (iteF ?_)
          have hring := ring_of ok tr hk (A := A0 ++ [x]) (B := []) (C := C) (eA ▸ hA) (eB ▸ hB) (.inr (.inl rfl)) (by rw [← eA, ← eB]; exact pAB)
          refine ⟨_, rfl, (by show 1 ≤ sizeLine; decide), fun L1 hL1 => ?_⟩
          have t1 : Same H3 (upd H3 L1 (.lst [nV k])) := same_new hL1
          refine ⟨_, rfl, L1, F2, _, _, rfl, rfl, upd_same, t1 _ _ h2, by rw [nL_len, PySem.sizeLine_eq]; show 1 + _ ≤ _; omega, fun L2 hL2 => ?_⟩
          have t2 : Same (upd H3 L1 (.lst [nV k])) (upd (upd H3 L1 (.lst [nV k])) L2 (.lst ([nV k] ++ nL []))) := same_new hL2
          refine ⟨_, rfl, F1, _, rfl, SqL.of (t2 _ _ (t1 _ _ h1)), fun L3 hL3 => ?_⟩
          have t3 : Same (upd (upd H3 L1 (.lst [nV k])) L2 (.lst ([nV k] ++ nL []))) (upd (upd (upd H3 L1 (.lst [nV k])) L2 (.lst ([nV k] ++ nL []))) L3 (.lst (nL (A0 ++ [x])).reverse)) := same_new hL3
          refine ⟨L2, L3, _, _, rfl, rfl, t3 _ _ upd_same, upd_same, ?_, fun L4 hL4 => ?_⟩
          · rw [List.length_append, List.length_reverse, nL_len, nL_len, PySem.sizeLine_eq]; show 1 + _ + _ ≤ _; omega
          · have sAll := ((s3.trans t1).trans t2).trans t3
            refine hQ _ L4 _ (sAll.trans (same_new hL4)) (sAll.free hL4) ?_ hring
            rw [upd_same, ring_list]
        · have e2 : (!(nL (B0 ++ [y])).isEmpty) = true := by rw [nL_snoc]; simp
          rw [e2]
          refine iteT ?_
          rw [nL_snoc] at h1 h2
          refine ⟨_, rfl, 1, rfl, F1, _, _, nV x, rfl, rfl, SqL.of h1, atI_last _ _, _, rfl, 1, rfl, F2, _, _, nV y, rfl, rfl, SqL.of h2, atI_last _ _, rfl, _, rfl, ?_⟩
          by_cases q : x = y
          · subst q
            rw [decide_eq_true rfl]
            refine iteT ?_
            refine ⟨_, rfl, .inl ⟨rfl, _, SqL.of h1⟩, F1, _, nV x, rfl, rfl, h1, by simp, ?_⟩
            rw [List.dropLast_concat]
            have h2' : (upd H3 F1 (.lst (nL A0))) F2 = some (.lst (nL B0 ++ [nV x])) := by rw [upd_ne hne.symm]; exact h2
            refine ⟨_, rfl, .inl ⟨rfl, _, SqL.of h2'⟩, F2, _, nV x, rfl, rfl, h2', by simp, ?_⟩
            rw [List.dropLast_concat]
            refine ⟨A0.length, by simp, A0, B0, [x] ++ C, by rw [eA]; simp, by rw [eB]; simp, rfl, rfl, sameU (sameU s3 hF10) (s1.free hF20), by rw [upd_ne hne]; exact upd_same, upd_same⟩
          · rw [decide_eq_false (fun z => q (by injection z with z; omega))]
            refine iteF ?_
            rw [← nL_snoc] at h1 h2
            have hring := ring_of ok tr hk (A := A0 ++ [x]) (B := B0 ++ [y]) (C := C) (eA ▸ hA) (eB ▸ hB) (.inr (.inr (by simp; exact q))) (by rw [← eA, ← eB]; exact pAB)
            refine ⟨_, rfl, (by show 1 ≤ sizeLine; decide), fun L1 hL1 => ?_⟩
            have t1 : Same H3 (upd H3 L1 (.lst [nV k])) := same_new hL1
            refine ⟨_, rfl, L1, F2, _, _, rfl, rfl, upd_same, t1 _ _ h2, by rw [nL_len, PySem.sizeLine_eq]; show 1 + _ ≤ _; omega, fun L2 hL2 => ?_⟩
            have t2 : Same (upd H3 L1 (.lst [nV k])) (upd (upd H3 L1 (.lst [nV k])) L2 (.lst ([nV k] ++ nL (B0 ++ [y])))) := same_new hL2
            refine ⟨_, rfl, F1, _, rfl, SqL.of (t2 _ _ (t1 _ _ h1)), fun L3 hL3 => ?_⟩
            have t3 : Same (upd (upd H3 L1 (.lst [nV k])) L2 (.lst ([nV k] ++ nL (B0 ++ [y])))) (upd (upd (upd H3 L1 (.lst [nV k])) L2 (.lst ([nV k] ++ nL (B0 ++ [y])))) L3 (.lst (nL (A0 ++ [x])).reverse)) := same_new hL3
            refine ⟨L2, L3, _, _, rfl, rfl, t3 _ _ upd_same, upd_same, ?_, fun L4 hL4 => ?_⟩
            · rw [List.length_append, List.length_reverse, nL_len, nL_len, PySem.sizeLine_eq]; show 1 + _ + _ ≤ _; omega
            · have sAll := ((s3.trans t1).trans t2).trans t3
              refine hQ _ L4 _ (sAll.trans (same_new hL4)) (sAll.free hL4) ?_ hring
              rw [upd_same, ring_list]
    · exact and_mono (fun σ H Q1 Q2 hm z => tru_mono tVar_mono σ H Q1 Q2 hm z) (and_mono (fun σ H Q1 Q2 hm z => tru_mono tVar_mono σ H Q1 Q2 hm z) (by
        rintro σ H Q1 Q2 hm ⟨v1, g1, i1, g2, p1, xs1, j1, w1, g3, g4, g5, g6, v2, g7, i2, g8, p2, xs2, j2, w2, g9, g10, g11, g12, g13, k2, g14, g15⟩
        exact ⟨v1, g1, i1, g2, p1, xs1, j1, w1, g3, g4, g5, g6, v2, g7, i2, g8, p2, xs2, j2, w2, g9, g10, g11, g12, g13, k2, g14, hm _ _ g15⟩))
end
end TT
namespace TT
open PySem L2 TH
def spOddRing : Sp := fun vs H Q _ => ∃ (n : Nat) (a : Addr) (ts : List Tie), vs = [nV n, .ref a] ∧ TiesV H a ts ∧ ts.length ≤ 1000 ∧ Ok n ts ∧ n ≤ 1000 ∧
  ∀ H' p r, Same H H' → H p = none → H' p = some (.lst (nL r)) → ((r = [] ∧ ∃ side, Bip ts side) ∨ RingOk ts r) → Q (.ref p) H'
def spShared (K : PySem.W.Frag) (cS cR cP cT cM : Addr) : Sp := fun vs H Q E => ∃ (pv tv mv : V) (o : Out) (bm : Bool), vs = [pv, tv, mv] ∧ WebV K H pv tv o ∧ WholeV K H mv bm ∧
  match o with
  | .ok => ((∀ i, mv = .int i → ¬ 1 ≤ i) → ∀ H', Same H H' → E (.ref cM) none H') ∧
      ∀ (n m : Nat) (a : Addr) (ts : List Tie), pv = nV n → tv = .ref a → mv = nV m → 0 < m → TiesV H a ts → Ok n ts → ts.length ≤ 120 → 1 ≤ n → n ≤ 40 → m < 2 ^ 200 ∧ ∀ H' x, Same H H' →
        ((∃ r, AnsAt H H' x cR "ring" (nL r) ∧ RingOk ts r) ∨ ∃ cols side, AnsAt H H' x cS "colours" (nL cols) ∧ EvenN ts m cols ∧ Bip ts side) → Q (.ref x) H'
  | .places => ∀ H', Same H H' → E (.ref cP) none H'
  | .ties => ∀ H', Same H H' → E (.ref cT) none H'
theorem ringOk_ne {ts : List Tie} {r : List Nat} (h : RingOk ts r) : r ≠ [] := fun z => by
  have := h.odd
  rw [z] at this
  simp at this
section
variable {P : Program} {w : World} {K : PySem.W.Frag} {mg : PySem.Str → Option Value} {base : Heap}
theorem sc_odd_ring : FnScope ["places", "ties", "part", "reached", "k", "low", "high"] ["places", "ties"] (defScope s_odd_ring) := ⟨rfl, rfl, rfl, by decide +kernel, rfl, by decide +kernel, by decide +kernel⟩
theorem ok_odd_ring (T : G5 K mg) : FnOk P w K mg base CX0 5 T.odd_ring.f T.odd_ring.fd ["places", "ties"] spOddRing := by
  have PO : FnOk P w K mg base CX0 4 T.parts_of.f T.parts_of.fd ["places", "ties"] spPartsOf := ok_parts_of T.toG2
  have CR : FnOk P w K mg base CX0 3 T.close_ring.f T.close_ring.fd ["k", "ties", "reached"] (spClose K) := ok_close_ring T
  refine T.odd_ring.F.ok sc_odd_ring (fun vs H Q E h => ?_) (fun cdv A outer s H vs Q E hr h => ?_)
  · obtain ⟨_, _, _, rfl, _⟩ := h
    rfl
  · obtain ⟨n, a, ts, rfl, hts, hlen, ok, hn, hQ⟩ := h
    have RF : FnOk P w K mg base CX0 2 T.reach_from.f T.reach_from.fd ["root", "ties"] (spReach n) := ok_reach_from n T.toG2
    have nd := sc_odd_ring.nd
    have hu := hu_of hr
    refine ⟨_, pss_cons (ps_for PassesOwn.never rfl (pi_list (pe_call PO hr (by rfl) T.parts_of.g T.parts_of.F.kp T.parts_of.b .nil pass0 (pa_cons (pv 0) (pa_cons (pv 1) pa_nil)))) (pg_name (i := 2) nd rfl (.inl rfl))
        (pss_cons (ps_set (i := 3) nd rfl (.inl rfl) (pe_call RF (hr.mono (by decide)) (by rfl) T.reach_from.g T.reach_from.F.kp T.reach_from.b .nil pass0 (pa_cons (pe_ix ix_list (pv 2) pe_int (fun _ _ => rfl)) (pa_cons (pv 1) pa_nil))))
        (pss_one (ps_for PassesOwn.never rfl (pi_enum (by rfl) T.b.enumerate (pa_cons (pv 1) pa_nil)) (pg_tup rfl (pgs_cons (pg_name (i := 4) nd rfl (.inl rfl)) (pgs_cons (pg_tup rfl (pgs_cons (pg_name (i := 5) nd rfl (.inl rfl)) (pgs_cons (pg_name (i := 6) nd rfl (.inl rfl)) pgs_nil))) pgs_nil)))
          (pss_one (ps_if (PW.pt (pw_and (pt_cmp (pc_din hu (pv 5) (pv 3)) (by rfl)) (pw_and1 (pt_cmpR op_eq (pe_op op_mod (pe_ix ix_tup (pe_dget hu (pv 3) (pv 5) (fun _ _ => rfl)) pe_int (fun _ _ => rfl)) pe_int) (pe_op op_mod (pe_ix ix_tup (pe_dget hu (pv 3) (pv 6) (fun _ _ => rfl)) pe_int (fun _ _ => rfl)) pe_int) (nomark _)))))
            (pss_one (ps_ret (pe_call CR (hr.mono (by decide)) (by rfl) T.close_ring.g T.close_ring.F.kp T.close_ring.b .nil pass0 (pa_cons (pv 4) (pa_cons (pv 1) (pa_cons (pv 3) pa_nil)))))) pss_nil))))))
      (pss_one (ps_ret (pe_lst pa_nil))), ?_⟩
    refine ⟨_, rfl, _, rfl, n, a, ts, rfl, hts, hlen, ok, hn, fun H1 PS s1 hPS ⟨as, hp1, hp2⟩ => ?_⟩
    have hpl := paired_length hp2
    refine ⟨PS, rfl, ⟨_, SqL.of hp1⟩, for_it (walk_list (K := K) (a := PS) (xs := as.map V.ref)) (fun i σ H' => Same H1 H' ∧ (∃ x2 x3 x4 x5 x6, σ = [some (nV n), some (.ref a), x2, x3, x4, x5, x6]) ∧ ∀ j r, j < i → ((List.range n).filter (isRootB ts))[j]? = some r → ∃ T, GoodTree ts n r T ∧ Calm ts T)
      ⟨.refl _, ⟨none, none, none, none, none, rfl⟩, fun j r h => absurd h (by omega)⟩ (fun i σ H' _ p => p.1.seq (SqL.of hp1)) ?_ ?_⟩
    · rintro i x σ H2 H3 hi ⟨s2, ⟨x2, x3, x4, x5, x6, rfl⟩, hall⟩ ⟨rfl, hx⟩
      rw [List.length_map] at hi
      rw [List.getElem?_map, List.getElem?_eq_getElem hi] at hx
      cases hx
      obtain ⟨part, hpart, hq⟩ := paired_get hp2 (List.getElem?_eq_getElem hi)
      have hpart' : (((List.range n).filter (isRootB ts)).map (partOf ts n))[i]? = some part := hpart
      rw [List.getElem?_map] at hpart'
      obtain ⟨r, hr1, hr2⟩ := Option.map_eq_some_iff.mp hpart'
      have hmem := List.mem_filter.mp (List.mem_of_getElem? hr1)
      have hrn := List.mem_range.mp hmem.1
      have hroot := isRootB_iff.mp hmem.2
      obtain ⟨rest, hrest⟩ := partOf_root hroot hrn
      rw [hrest] at hr2
      subst hr2
      have s12 := s1.trans s2
      refine ⟨_, rfl, as[i], _, 0, nV r, rfl, rfl, SqL.of (s2 _ _ hq), atI_nat (j := 0) rfl, _, rfl, r, a, ts, rfl, hts.same s12, hlen, ok, hrn, hn, fun H4 R TT s4 hR0 hR hT => ?_⟩
      have s14 := s12.trans s4
      obtain ⟨bs, hb1, hb2⟩ := hts.same s14
      have hbl := paired_length hb2
      refine ⟨_, rfl, a, _, rfl, SqL.of hb1, ?_⟩
      refine for_it (walk_enum (K := K) (a := a) (xs := bs.map V.ref)) (fun j σ H' => Same H4 H' ∧ (∃ x4 x5 x6, σ = [some (nV n), some (.ref a), some (.ref as[i]), some (.ref R), x4, x5, x6]) ∧ ∀ k, k < j → ∀ d e o o', TT.lookup (tget ts k).1 = some (d, o) → TT.lookup (tget ts k).2 = some (e, o') → d % 2 ≠ e % 2)
        ⟨.refl _, ⟨x4, x5, x6, rfl⟩, fun k h => absurd h (by omega)⟩ (fun i σ H' _ p => p.1.seq (SqL.of hb1)) ?_ ?_
      · rintro j x σ H5 H6 hj ⟨s5, ⟨y4, y5, y6, rfl⟩, hno⟩ ⟨T0, z1, z2, rfl, nT, rfl, e1, e2⟩
        cases e1
        rw [List.length_map, hbl] at hj
        have e2 : (bs.map V.ref)[j]? = some z2 := e2
        obtain ⟨q, rfl, _, hq⟩ := TiesV.at (a := a) hb2 e2
        have s6 : Same H4 (upd H5 T0 (.tup [.int (j : Nat), .ref q])) := sameN s5 nT
        refine ⟨T0, _, rfl, SqT.of upd_same, rfl, _, [.ref q], rfl, _, [], rfl, ?_⟩
        refine ⟨q, _, rfl, SqT.of (s6 _ _ hq), rfl, _, [.int ((tget ts j).2 : Int)], rfl, _, [], rfl, rfl, rfl, ?_⟩
        generalize upd H5 T0 (.tup [.int (j : Nat), .ref q]) = H6 at s6
        obtain ⟨kvs, hR1, hE⟩ := hR.same s6
        have hRV : TreeV H6 R TT := ⟨kvs, hR1, hE⟩
        refine ⟨_, rfl, _, rfl, R, _, rfl, DGet.k (k := Sum.inl ((tget ts j).1 : Int)) hR1, _, rfl, ?_⟩
        cases hin : inT TT (tget ts j).1 with
        | false =>
          rw [ent_none hE hin]
          refine iteF (iteF ⟨s6, ⟨_, _, _, rfl⟩, fun k hk d e o o' h1 h2 => ?_⟩)
          by_cases z : k = j
          · subst z
            unfold inT at hin
            rw [h1] at hin
            cases hin
          · exact hno k (by omega) d e o o' h1 h2
        | true =>
          have hin2 : inT TT (tget ts j).2 = true := by rw [← hT.clo _ (tget_mem hj)]; exact hin
          obtain ⟨⟨d, o⟩, hd⟩ := Option.isSome_iff_exists.mp hin
          obtain ⟨⟨e, o'⟩, he⟩ := Option.isSome_iff_exists.mp hin2
          obtain ⟨q1, v1, _⟩ := ent_some hE hd
          rw [v1]
          refine iteT ?_
          obtain ⟨qd, gd, hqd⟩ := hRV.get hd
          obtain ⟨qe, ge, hqe⟩ := hRV.get he
          refine ⟨_, rfl, _, rfl, R, .ref qd, rfl, gd, qd, _, 0, nV d, rfl, rfl, SqT.of hqd, rfl, _, _, rfl, rfl, (by show (0 : Int) < 2; decide), _, rfl, _, rfl, R, .ref qe, rfl, ge, qe, _, 0, nV e, rfl, rfl, SqT.of hqe, rfl, _, _, rfl, rfl, (by show (0 : Int) < 2; decide), rfl, _, rfl, ?_⟩
          by_cases hp : d % 2 = e % 2
          · rw [decide_eq_true (show V.int ((d : Int) % 2) = V.int ((e : Int) % 2) from congrArg V.int (by omega))]
            refine iteT ?_
            refine ⟨_, rfl, _, rfl, _, rfl, n, r, j, d, e, o, o', a, R, ts, TT, rfl, hts.same (s14.trans s6), ok, hn, hRV, hT.toTree, hj, hd, he, hp, fun H7 p rr s7 hp0 hpv hring => ?_⟩
            exact hQ H7 p rr ((s14.trans s6).trans s7) ((s14.trans s6).free hp0) hpv (.inr hring)
          · rw [decide_eq_false (fun z => hp (by injection z with z; omega))]
            refine iteF ⟨s6, ⟨_, _, _, rfl⟩, fun k hk d' e' o o' h1 h2 => ?_⟩
            by_cases z : k = j
            · subst z
              rw [hd] at h1
              rw [he] at h2
              cases h1
              cases h2
              exact hp
            · exact hno k (by omega) d' e' o o' h1 h2
      · rintro σ H5 ⟨s5, ⟨y4, y5, y6, rfl⟩, hno⟩
        rw [List.length_map, hbl] at hno
        refine ⟨(s2.trans s4).trans s5, ⟨_, _, _, _, _, rfl⟩, fun j r' hj h => ?_⟩
        by_cases z : j = i
        · subst z
          rw [hr1] at h
          cases h
          exact ⟨TT, hT, fun k hk => hno k hk⟩
        · exact hall j r' (by omega) h
    · rintro σ H2 ⟨s2, ⟨x2, x3, x4, x5, x6, rfl⟩, hall⟩
      rw [List.length_map, hpl] at hall
      have hbip := bip_of ok fun r hrn hroot => by
        have hm : r ∈ (List.range n).filter (isRootB ts) := List.mem_filter.mpr ⟨List.mem_range.mpr hrn, isRootB_iff.mpr hroot⟩
        obtain ⟨j, hj, ej⟩ := List.getElem_of_mem hm
        refine hall j r (by unfold partsOf; rw [List.length_map]; exact hj) (by rw [List.getElem?_eq_getElem hj, ej])
      refine ⟨Nat.zero_le _, fun L hL => ?_⟩
      exact hQ _ L [] ((s1.trans s2).trans (same_new hL)) ((s1.trans s2).free hL) upd_same (.inl ⟨rfl, hbip⟩)
theorem sc_shared : FnScope ["places", "ties", "many", "ring"] ["places", "ties", "many"] (defScope s_shared) := ⟨rfl, rfl, rfl, by decide +kernel, rfl, by decide +kernel, by decide +kernel⟩
theorem ok_shared (T : G5 K mg) : FnOk P w K mg base (L2.CX P w) 6 T.shared.f T.shared.fd ["places", "ties", "many"] (spShared K T.shares.C T.ring.C T.badPlaces.C T.badTies.C T.badMany.C) := by
  have CW : FnOk P w K mg base (L2.CX P w) 4 T.check_web.f T.check_web.fd ["places", "ties"] (spCheck K T.badPlaces.C T.badTies.C) := ok_check_web T.toG1
  have IW : FnOk P w K mg base CX0 1 T.is_whole.f T.is_whole.fd ["x"] (spIsWhole K) := ok_is_whole T.toG1
  have ORR : FnOk P w K mg base CX0 5 T.odd_ring.f T.odd_ring.fd ["places", "ties"] spOddRing := ok_odd_ring T
  have SO : FnOk P w K mg base CX0 3 T.share_out.f T.share_out.fd ["places", "ties", "many"] spShareOut := ok_share_out T
  have SI : FnOk P w K mg base CX0 1 T.shares.fI T.shares.fdI ["self", "colours"] (spInit T.shares.C "colours") := ok_Shares_init T.toG4
  have RI : FnOk P w K mg base CX0 1 T.ring.fI T.ring.fdI ["self", "ring"] (spInit T.ring.C "ring") := ok_Ring_init T.toG4
  refine T.shared.F.okX sc_shared (fun vs H Q E h => ?_) (fun cdv A outer s H vs Q E hr h => ?_)
  · obtain ⟨_, _, _, _, _, rfl, _⟩ := h
    rfl
  · obtain ⟨pv', tv, mv, o, bm, rfl, hw, hmv, hQ⟩ := h
    have nd := sc_shared.nd
    refine ⟨_, pss_cons (ps_expr (pe_call CW (hr.mono (by decide)) (by rfl) T.check_web.g T.check_web.F.kp T.check_web.b .nil (passes_call (takes_of rfl rfl rfl rfl) (fun _ _ _ _ h => h)) (pa_cons (pv 0) (pa_cons (pv 1) pa_nil))))
      (pss_cons (ps_if (PW.pt (pw_or (pt_not (pt_val (pe_call IW (hr.mono (by decide)) (by rfl) T.is_whole.g T.is_whole.F.kp T.is_whole.b .nil (E := E0) pass0 (pa_cons (pv 2) pa_nil)))) (pw_or1 (pt_cmpR op_lt (pv 2) pe_int (nomark _)))))
        (pss_one (ps_raise rfl (takes_of rfl rfl rfl rfl) (pmk_own PySem.F.excBase_ValueError T.badMany.x T.badMany.g T.badMany.k (raises_own T.badMany.b T.badMany.t) (by exact rfl)))) pss_nil)
      (pss_cons (ps_set (i := 3) nd rfl (.inl rfl) (pe_call ORR hr (by rfl) T.odd_ring.g T.odd_ring.F.kp T.odd_ring.b .nil (E := E0) pass0 (pa_cons (pv 0) (pa_cons (pv 1) pa_nil))))
      (pss_cons (ps_if (pt_truth (pv 3) (by intro _; rfl)) (pss_one (ps_ret (pe_make T.ring.maker RI (hr.mono (by decide)) (by rfl) T.ring.g T.ring.b .nil (E := E0) pass0 (pa_cons (pv 3) pa_nil)))) pss_nil)
      (pss_one (ps_ret (pe_make T.shares.maker SI (hr.mono (by decide)) (by rfl) T.shares.g T.shares.b .nil (E := E0) pass0 (pa_cons (pe_call SO (hr.mono (by decide)) (by rfl) T.share_out.g T.share_out.F.kp T.share_out.b .nil (E := E0) pass0 (pa_cons (pv 0) (pa_cons (pv 1) (pa_cons (pv 2) pa_nil)))) pa_nil))))))), ?_⟩
    refine ⟨_, rfl, _, rfl, pv', tv, o, rfl, hw, ?_⟩
    cases o with
    | places => exact hQ
    | ties => exact hQ
    | ok =>
      obtain ⟨n, a, ts, e1, e2, h1, h2, ht, ok, hl⟩ := webV_ok hw
      intro H1 s1
      subst e1 e2
      obtain ⟨hbad, hgood⟩ := hQ
      refine ⟨_, rfl, _, bm, rfl, hmv.same s1, _, rfl, ?_⟩
      cases hmv with
      | int i =>
        refine iteF ⟨_, rfl, _, _, rfl, rfl, _, rfl, ?_⟩
        by_cases hi : i < 1
        · rw [decide_eq_true hi]
          exact iteT (hbad (fun j e => by cases e; omega) _ s1)
        · rw [decide_eq_false hi]
          refine iteF ?_
          obtain ⟨m, rfl⟩ : ∃ m : Nat, i = (m : Int) := ⟨i.toNat, by omega⟩
          have hm : 0 < m := by omega
          obtain ⟨hm2, hQ⟩ := hgood n m a ts rfl rfl rfl hm ht ok hl h1 h2
          refine ⟨_, rfl, _, rfl, n, a, ts, rfl, ht.same s1, by omega, ok, by omega, fun H2 p r s2 hp0 hp hres => ?_⟩
          have s12 := s1.trans s2
          refine ⟨_, rfl, !(nL r).isEmpty, .inl ⟨_, SqL.of hp, rfl⟩, ?_⟩
          rcases hres with ⟨rfl, side, hb⟩ | hring
          · refine iteF ?_
            refine ⟨_, rfl, _, rfl, _, rfl, n, m, a, ts, side, rfl, ht.same s12, by omega, ok, by omega, hm, hm2, hb, fun H3 p3 cols s3 hp3 hv hE => ?_⟩
            have s13 := s12.trans s3
            exact made hv fun H' x s' hA => hQ H' x (s13.trans s') (.inr ⟨cols, side, hA.up s13, hE, hb⟩)
          · have hne : (!(nL r).isEmpty) = true := by
              cases r with
              | nil => exact absurd rfl (ringOk_ne hring)
              | cons _ _ => rfl
            rw [hne]
            refine iteT ?_
            exact ⟨_, rfl, made hp fun H' x s' hA => hQ H' x (s12.trans s') (.inl ⟨r, hA.up s12, hring⟩)⟩
      | bl b => exact iteT (iteT (hbad (fun j e => by cases e) _ s1))
      | non => exact iteT (iteT (hbad (fun j e => by cases e) _ s1))
      | str x => exact iteT (iteT (hbad (fun j e => by cases e) _ s1))
      | lst h => exact iteT (iteT (hbad (fun j e => by cases e) _ s1))
      | tup h => exact iteT (iteT (hbad (fun j e => by cases e) _ s1))
      | dK h => exact iteT (iteT (hbad (fun j e => by cases e) _ s1))
end
end TT
namespace TT
open PySem L2 TH
/-- isinstance(e, c) of the error that the suite holds, whatever its class -/
def rIsAny (K : PySem.W.Frag) (cls : Value) (d : Option Addr) (a : Addr) : List V → Hp → VK → Prop := fun xs H Q => ∃ D, cls = .ref D ∧ d = none ∧ ExcC K D ∧ rIsE K D a xs H Q
theorem call_isAny {X : Cx} {a : Addr} {oe : Obj} {cls : Value} {d : Option Addr} {pn : List (Addr × Obj)} (hz : Zc cls d oe) (hf : ∃ vs, oe.data = .fields vs) : CallR (X.suite a ((a, oe) :: pn)) (.builtin "isinstance") (rIsAny X.K cls d a) := by
  intro pins s σ H xs us Q I r h
  obtain ⟨D, rfl, rfl, hc, h⟩ := h
  exact call_isE hc hz hf pins s σ H xs us Q I r h
theorem pairF {K : PySem.W.Frag} {H : Hp} {n : Int} {q : Addr} {p r : V} {bp br : Bool} (h : H q = some (.tup [p, r])) (hp : WholeV K H p bp) (hr : WholeV K H r br) (e : (inB n p && (inB n r && ltV p r)) = false) : TieV K H n (.ref q) false := by
  have := TieV.pair (n := n) h hp hr
  rw [e] at this
  exact this
theorem pairT {K : PySem.W.Frag} {H : Hp} {n : Int} {q : Addr} {p r : V} {bp br : Bool} (h : H q = some (.tup [p, r])) (hp : WholeV K H p bp) (hr : WholeV K H r br) (e : (inB n p && (inB n r && ltV p r)) = true) : TieV K H n (.ref q) true := by
  have := TieV.pair (n := n) h hp hr
  rw [e] at this
  exact this
theorem bad1 {K : PySem.W.Frag} {H : Hp} {a : Addr} {v : V} (h : H a = some (.lst [v])) (t : TieV K H 4 v false) : WebV K H (.int 4) (.ref a) .ties := .bad (bs := [false]) (by decide) (by decide) h (by show 1 ≤ 120; decide) (.cons t .nil) rfl
theorem badKind {K : PySem.W.Frag} {H : Hp} {tv : V} {t : String} (ty : TyX K H tv (.type t)) (h : kitB t "list" = some false) : WebV K H (.int 4) tv .ties := .kind (by decide) (by decide) ty h
theorem atI_mem {α : Type} {xs : List α} {j : Nat} (h : j < xs.length) : ∃ v, atI xs (j : Int) = some v ∧ v ∈ xs := ⟨xs[j], atI_nat (List.getElem?_eq_getElem h), List.getElem_mem h⟩
theorem paired_setb {α β : Type} {F : α → β → Prop} {x : α} {y : β} : ∀ {xs : List α} {ys : List β} (i : Nat), Paired F xs ys → F x y → Paired F (xs.set i x) (ys.set i y)
  | _, _, _, .nil, _ => .nil
  | _ :: _, _ :: _, 0, .cons _ t, h => .cons h t
  | _ :: _, _ :: _, i + 1, .cons r t, h => .cons r (paired_setb i t h)
theorem all_set_false {bs : List Bool} {k : Nat} (h : k < bs.length) : (bs.set k false).all id = false := by
  rw [List.all_eq_false]
  exact ⟨false, by rw [List.mem_iff_getElem?]; exact ⟨k, by rw [List.getElem?_set, if_pos rfl, if_pos h]⟩, by decide⟩
/-- what the top has left: the law -/
structure G6 (K : PySem.W.Frag) (mg : PySem.Str → Option Value) extends G5 K mg where
  tie : Addr
  gTie : mg "TieError" = some (.ref tie)
  xP : ExcC K badPlaces.C
  xT : ExcC K badTies.C
  xM : ExcC K badMany.C
  eP : PySem.W.exmOne K (.ref badPlaces.C) (.ref tie) = some true
  eT : PySem.W.exmOne K (.ref badTies.C) (.ref tie) = some true
  eM : PySem.W.exmOne K (.ref badMany.C) (.ref tie) = some true
  iPP : PySem.W.kitOne K (.ref badPlaces.C) (.ref badPlaces.C) = some true
  iPT : PySem.W.kitOne K (.ref badPlaces.C) (.ref badTies.C) = some false
  iPM : PySem.W.kitOne K (.ref badPlaces.C) (.ref badMany.C) = some false
  iPV : PySem.W.kitOne K (.ref badPlaces.C) (.type "ValueError") = some true
  iTP : PySem.W.kitOne K (.ref badTies.C) (.ref badPlaces.C) = some false
  iTT : PySem.W.kitOne K (.ref badTies.C) (.ref badTies.C) = some true
  iTM : PySem.W.kitOne K (.ref badTies.C) (.ref badMany.C) = some false
  iTV : PySem.W.kitOne K (.ref badTies.C) (.type "ValueError") = some true
  iMP : PySem.W.kitOne K (.ref badMany.C) (.ref badPlaces.C) = some false
  iMT : PySem.W.kitOne K (.ref badMany.C) (.ref badTies.C) = some false
  iMM : PySem.W.kitOne K (.ref badMany.C) (.ref badMany.C) = some true
  iMV : PySem.W.kitOne K (.ref badMany.C) (.type "ValueError") = some true
  vErr : mg "ValueError" = none
  withWeb : DefAt K mg "_law_with_web" s_with_web ["_law_door", "_law_places", "_law_ties"]
  badTiesD : DefAt K mg "_law_bad_ties" s_bad_ties ["_law_which", "_law_more"]
  told : DefAt K mg "_law_told" s_told ["_law_kind", "_law_which", "_law_more"]
def spWith (K : PySem.W.Frag) (cP cT : Addr) : Sp := fun vs H Q E => ∃ (d : Int) (pv tv : V) (o : Out), vs = [.int d, pv, tv] ∧ WebV K H pv tv o ∧
  match o with
  | .ok => False
  | .places => ∀ H', Same H H' → E (.ref cP) none H'
  | .ties => ∀ H', Same H H' → E (.ref cT) none H'
def spBadT (K : PySem.W.Frag) : Sp := fun vs H Q _ => ∃ (w mo : Int), vs = [.int w, .int mo] ∧ 0 ≤ w ∧ 0 ≤ mo ∧ ∀ H' tv, Same H H' → WebV K H' (.int 4) tv .ties → Q tv H'
section
variable {P : Program} {w : World} {K : PySem.W.Frag} {mg : PySem.Str → Option Value} {base : Heap}
theorem sc_with_web : FnScope ["_law_door", "_law_places", "_law_ties"] ["_law_door", "_law_places", "_law_ties"] (defScope s_with_web) := ⟨rfl, rfl, rfl, by decide +kernel, rfl, by decide +kernel, by decide +kernel⟩
theorem ok_with_web (T : G6 K mg) : FnOk P w K mg base (L2.CX P w) 7 T.withWeb.f T.withWeb.fd ["_law_door", "_law_places", "_law_ties"] (spWith K T.badPlaces.C T.badTies.C) := by
  have HV : FnOk P w K mg base (L2.CX P w) 6 T.halved.f T.halved.fd ["places", "ties"] (spHalved K T.even.C T.odd.C T.badPlaces.C T.badTies.C) := ok_halved T.toG4
  have NE : FnOk P w K mg base (L2.CX P w) 5 T.nearly.f T.nearly.fd ["places", "ties"] (spNearly K T.badPlaces.C T.badTies.C) := ok_nearly T.toG4
  have SH : FnOk P w K mg base (L2.CX P w) 6 T.shared.f T.shared.fd ["places", "ties", "many"] (spShared K T.shares.C T.ring.C T.badPlaces.C T.badTies.C T.badMany.C) := ok_shared T.toG5
  refine T.withWeb.F.okX sc_with_web (fun vs H Q E h => ?_) (fun cdv A outer s H vs Q E hr h => ?_)
  · obtain ⟨_, _, _, _, rfl, _⟩ := h
    rfl
  · obtain ⟨d, pv', tv, o, rfl, hw, hQ⟩ := h
    refine ⟨_, pss_cons (ps_if (pt_cmpR op_lt (pv 0) pe_int (nomark _)) (pss_one (ps_ret (pe_ifExp (pt_cmpR op_eq (pv 0) pe_int (nomark _))
          (pe_call HV hr (by rfl) T.halved.g T.halved.F.kp T.halved.b .nil (passes_call (takes_of rfl rfl rfl rfl) (fun _ _ _ _ h => h)) (pa_cons (pv 1) (pa_cons (pv 2) pa_nil)))
          (pe_call NE (hr.mono (by decide)) (by rfl) T.nearly.g T.nearly.F.kp T.nearly.b .nil (passes_call (takes_of rfl rfl rfl rfl) (fun _ _ _ _ h => h)) (pa_cons (pv 1) (pa_cons (pv 2) pa_nil)))))) pss_nil)
      (pss_one (ps_ret (pe_call SH hr (by rfl) T.shared.g T.shared.F.kp T.shared.b .nil (passes_call (takes_of rfl rfl rfl rfl) (fun _ _ _ _ h => h)) (pa_cons (pv 1) (pa_cons (pv 2) (pa_cons pe_int pa_nil)))))), ?_⟩
    refine ⟨_, rfl, _, _, rfl, rfl, _, rfl, ?_⟩
    refine ite2 (fun _ => ?_) (fun _ => ?_)
    · refine ⟨_, rfl, rfl, _, rfl, ?_⟩
      refine ite2 (fun _ => ?_) (fun _ => ?_)
      · refine ⟨_, rfl, _, rfl, pv', tv, o, rfl, hw, ?_⟩
        cases o with
        | ok => exact hQ.elim
        | places => exact hQ
        | ties => exact hQ
      · refine ⟨_, rfl, _, rfl, pv', tv, o, rfl, hw, ?_⟩
        cases o with
        | ok => exact hQ.elim
        | places => exact hQ
        | ties => exact hQ
    · refine ⟨_, rfl, _, rfl, pv', tv, .int 0, o, true, rfl, hw, .int 0, ?_⟩
      cases o with
      | ok => exact hQ.elim
      | places => exact hQ
      | ties => exact hQ
theorem sc_bad_ties : FnScope ["_law_which", "_law_more", "_law_bad", "_law_ties", "_law_strange", "_law_at"] ["_law_which", "_law_more"] (defScope s_bad_ties) := ⟨rfl, rfl, rfl, by decide +kernel, rfl, by decide +kernel, by decide +kernel⟩
theorem ok_bad_ties (T : G6 K mg) : FnOk P w K mg base CX0 1 T.badTiesD.f T.badTiesD.fd ["_law_which", "_law_more"] (spBadT K) := by
  refine T.badTiesD.F.ok sc_bad_ties (fun vs H Q E h => ?_) (fun cdv A outer s H vs Q E hr h => ?_)
  · obtain ⟨_, _, rfl, _⟩ := h
    rfl
  · obtain ⟨wh, mo, rfl, hwh, hmo, hQ⟩ := h
    have nd := sc_bad_ties.nd
    refine ⟨_, pss_cons (ps_set (i := 2) nd rfl (.inl rfl) (pe_lst (pa_cons pe_non (pa_cons (pe_tup (pa_cons (pe_tup (pa_cons pe_int (pa_cons pe_int pa_nil))) pa_nil)) (pa_cons pe_str (pa_cons pe_int (pa_cons pe_dnewK (pa_cons (pe_lst (pa_cons pe_non pa_nil)) (pa_cons (pe_lst (pa_cons (pe_lst (pa_cons pe_int (pa_cons pe_int pa_nil))) pa_nil)) (pa_cons (pe_lst (pa_cons (pe_tup (pa_cons pe_int (pa_cons pe_int pa_nil))) pa_nil)) (pa_cons (pe_lst (pa_cons (pe_tup (pa_cons pe_int (pa_cons pe_int pa_nil))) pa_nil)) (pa_cons (pe_lst (pa_cons (pe_tup (pa_cons pe_int (pa_cons pe_int pa_nil))) pa_nil)) (pa_cons (pe_lst (pa_cons (pe_tup (pa_cons (pe_un un_neg pe_int) (pa_cons pe_int pa_nil))) pa_nil)) (pa_cons (pe_lst (pa_cons (pe_tup (pa_cons pe_int (pa_cons pe_int (pa_cons pe_int pa_nil)))) pa_nil)) pa_nil))))))))))))))
      (pss_cons (ps_set (i := 2) nd rfl (.inl rfl) (pe_op op_cat (pv 2) (pe_lst (pa_cons (pe_lst (pa_cons (pe_tup (pa_cons pe_str (pa_cons pe_int pa_nil))) pa_nil)) (pa_cons (pe_lst (pa_cons (pe_tup (pa_cons pe_int (pa_cons pe_bl pa_nil))) pa_nil)) (pa_cons (pe_lst (pa_cons (pe_tup (pa_cons pe_int pa_nil)) pa_nil)) (pa_cons (pe_op op_rep (pe_lst (pa_cons (pe_tup (pa_cons pe_int (pa_cons pe_int pa_nil))) pa_nil)) pe_int) (pa_cons (pe_lst (pa_cons (pe_tup (pa_cons pe_int (pa_cons (pe_tup (pa_cons pe_int pa_nil)) pa_nil))) pa_nil)) pa_nil))))))))
      (pss_cons (ps_if (pt_cmpR op_lt (pe_op op_mod (pv 0) pe_int) pe_int (nomark _)) (pss_one (ps_ret (pe_ix ix_list (pv 2) (pe_op op_mod (pv 0) pe_int) (fun _ _ => rfl)))) pss_nil)
      (pss_cons (ps_setLc (i := 3) (own := [("_law_at", 5)]) (g := gName 5) (tt := tYes) rfl nd rfl rfl (sw_true rfl rfl rfl (by decide +kernel)) (pi_range1 (by rfl) T.b.range (pa_cons (pe_op op_add pe_int (pe_op op_mod (pv 1) pe_int)) pa_nil)) (blkOk_by (N := ["_law_which", "_law_more", "_law_bad", "_law_ties", "_law_strange", "_law_at"]) (sc := defScope s_bad_ties) (by decide +kernel))
        (fun _ _ _ _ _ => pg_name (i := 5) nd rfl (Or.inl rfl)) (fun _ _ _ _ _ => pts_nil) (fun _ _ _ _ _ => pe_tup (pa_cons (pe_op op_mod (pv 5) pe_int) (pa_cons pe_int pa_nil))))
      (pss_cons (ps_set (i := 4) nd rfl (.inl rfl) (pe_ix ix_list (pe_lst (pa_cons pe_non (pa_cons (pe_tup (pa_cons pe_int (pa_cons pe_int pa_nil))) (pa_cons (pe_tup (pa_cons pe_int (pa_cons pe_int pa_nil))) (pa_cons (pe_tup (pa_cons pe_int (pa_cons (pe_op op_add pe_int (pv 1)) pa_nil))) (pa_cons (pe_tup (pa_cons pe_bl (pa_cons pe_int pa_nil))) (pa_cons (pe_tup (pa_cons pe_int (pa_cons pe_non pa_nil))) (pa_cons (pe_lst (pa_cons pe_int (pa_cons pe_int pa_nil))) (pa_cons (pe_tup (pa_cons (pe_op op_sub (pe_un un_neg pe_int) (pv 1)) (pa_cons pe_int pa_nil))) pa_nil))))))))) (pe_op op_sub (pe_op op_mod (pv 0) pe_int) pe_int) (fun _ _ => rfl)))
      (pss_cons (ps_asg (pv 4) (pg_sub (pv 3) (pe_op op_mod (pe_op op_fdiv (pv 0) pe_int) (pe_callB call_len_seq (by rfl) T.b.len PySem.boot_len (pa_cons (pv 3) pa_nil))) set_list))
      (pss_one (ps_ret (pv 3)))))))), ?_⟩
    refine ⟨(by show 2 ≤ sizeLine; decide), fun b0 hb0 => ?_⟩
    have sb0 : Same H (upd H b0 (.tup [.int 0, .int 1])) := same_new hb0
    have vb0 : (upd H b0 (.tup [.int 0, .int 1])) b0 = some (.tup [.int 0, .int 1]) := upd_same
    generalize upd H b0 (.tup [.int 0, .int 1]) = Hb0 at sb0 vb0
    refine ⟨(by show 1 ≤ sizeLine; decide), fun b1 hb1 => ?_⟩
    have sb1 : Same Hb0 (upd Hb0 b1 (.tup [.ref b0])) := same_new hb1
    have vb1 : (upd Hb0 b1 (.tup [.ref b0])) b1 = some (.tup [.ref b0]) := upd_same
    generalize upd Hb0 b1 (.tup [.ref b0]) = Hb1 at sb1 vb1
    intro b2 hb2
    have sb2 : Same Hb1 (upd Hb1 b2 (.dK [])) := same_new hb2
    have vb2 : (upd Hb1 b2 (.dK [])) b2 = some (.dK []) := upd_same
    generalize upd Hb1 b2 (.dK []) = Hb2 at sb2 vb2
    refine ⟨(by show 1 ≤ sizeLine; decide), fun b3 hb3 => ?_⟩
    have sb3 : Same Hb2 (upd Hb2 b3 (.lst [.non])) := same_new hb3
    have vb3 : (upd Hb2 b3 (.lst [.non])) b3 = some (.lst [.non]) := upd_same
    generalize upd Hb2 b3 (.lst [.non]) = Hb3 at sb3 vb3
    refine ⟨(by show 2 ≤ sizeLine; decide), fun b4 hb4 => ?_⟩
    have sb4 : Same Hb3 (upd Hb3 b4 (.lst [.int 0, .int 1])) := same_new hb4
    have vb4 : (upd Hb3 b4 (.lst [.int 0, .int 1])) b4 = some (.lst [.int 0, .int 1]) := upd_same
    generalize upd Hb3 b4 (.lst [.int 0, .int 1]) = Hb4 at sb4 vb4
    refine ⟨(by show 1 ≤ sizeLine; decide), fun b5 hb5 => ?_⟩
    have sb5 : Same Hb4 (upd Hb4 b5 (.lst [.ref b4])) := same_new hb5
    have vb5 : (upd Hb4 b5 (.lst [.ref b4])) b5 = some (.lst [.ref b4]) := upd_same
    generalize upd Hb4 b5 (.lst [.ref b4]) = Hb5 at sb5 vb5
    refine ⟨(by show 2 ≤ sizeLine; decide), fun b6 hb6 => ?_⟩
    have sb6 : Same Hb5 (upd Hb5 b6 (.tup [.int 1, .int 0])) := same_new hb6
    have vb6 : (upd Hb5 b6 (.tup [.int 1, .int 0])) b6 = some (.tup [.int 1, .int 0]) := upd_same
    generalize upd Hb5 b6 (.tup [.int 1, .int 0]) = Hb6 at sb6 vb6
    refine ⟨(by show 1 ≤ sizeLine; decide), fun b7 hb7 => ?_⟩
    have sb7 : Same Hb6 (upd Hb6 b7 (.lst [.ref b6])) := same_new hb7
    have vb7 : (upd Hb6 b7 (.lst [.ref b6])) b7 = some (.lst [.ref b6]) := upd_same
    generalize upd Hb6 b7 (.lst [.ref b6]) = Hb7 at sb7 vb7
    refine ⟨(by show 2 ≤ sizeLine; decide), fun b8 hb8 => ?_⟩
    have sb8 : Same Hb7 (upd Hb7 b8 (.tup [.int 1, .int 1])) := same_new hb8
    have vb8 : (upd Hb7 b8 (.tup [.int 1, .int 1])) b8 = some (.tup [.int 1, .int 1]) := upd_same
    generalize upd Hb7 b8 (.tup [.int 1, .int 1]) = Hb8 at sb8 vb8
    refine ⟨(by show 1 ≤ sizeLine; decide), fun b9 hb9 => ?_⟩
    have sb9 : Same Hb8 (upd Hb8 b9 (.lst [.ref b8])) := same_new hb9
    have vb9 : (upd Hb8 b9 (.lst [.ref b8])) b9 = some (.lst [.ref b8]) := upd_same
    generalize upd Hb8 b9 (.lst [.ref b8]) = Hb9 at sb9 vb9
    refine ⟨(by show 2 ≤ sizeLine; decide), fun b10 hb10 => ?_⟩
    have sb10 : Same Hb9 (upd Hb9 b10 (.tup [.int 0, .int 4])) := same_new hb10
    have vb10 : (upd Hb9 b10 (.tup [.int 0, .int 4])) b10 = some (.tup [.int 0, .int 4]) := upd_same
    generalize upd Hb9 b10 (.tup [.int 0, .int 4]) = Hb10 at sb10 vb10
    refine ⟨(by show 1 ≤ sizeLine; decide), fun b11 hb11 => ?_⟩
    have sb11 : Same Hb10 (upd Hb10 b11 (.lst [.ref b10])) := same_new hb11
    have vb11 : (upd Hb10 b11 (.lst [.ref b10])) b11 = some (.lst [.ref b10]) := upd_same
    generalize upd Hb10 b11 (.lst [.ref b10]) = Hb11 at sb11 vb11
    refine ⟨1, rfl, ?_⟩
    refine ⟨(by show 2 ≤ sizeLine; decide), fun b12 hb12 => ?_⟩
    have sb12 : Same Hb11 (upd Hb11 b12 (.tup [.int (-1), .int 2])) := same_new hb12
    have vb12 : (upd Hb11 b12 (.tup [.int (-1), .int 2])) b12 = some (.tup [.int (-1), .int 2]) := upd_same
    generalize upd Hb11 b12 (.tup [.int (-1), .int 2]) = Hb12 at sb12 vb12
    refine ⟨(by show 1 ≤ sizeLine; decide), fun b13 hb13 => ?_⟩
    have sb13 : Same Hb12 (upd Hb12 b13 (.lst [.ref b12])) := same_new hb13
    have vb13 : (upd Hb12 b13 (.lst [.ref b12])) b13 = some (.lst [.ref b12]) := upd_same
    generalize upd Hb12 b13 (.lst [.ref b12]) = Hb13 at sb13 vb13
    refine ⟨(by show 3 ≤ sizeLine; decide), fun b14 hb14 => ?_⟩
    have sb14 : Same Hb13 (upd Hb13 b14 (.tup [.int 0, .int 1, .int 2])) := same_new hb14
    have vb14 : (upd Hb13 b14 (.tup [.int 0, .int 1, .int 2])) b14 = some (.tup [.int 0, .int 1, .int 2]) := upd_same
    generalize upd Hb13 b14 (.tup [.int 0, .int 1, .int 2]) = Hb14 at sb14 vb14
    refine ⟨(by show 1 ≤ sizeLine; decide), fun b15 hb15 => ?_⟩
    have sb15 : Same Hb14 (upd Hb14 b15 (.lst [.ref b14])) := same_new hb15
    have vb15 : (upd Hb14 b15 (.lst [.ref b14])) b15 = some (.lst [.ref b14]) := upd_same
    generalize upd Hb14 b15 (.lst [.ref b14]) = Hb15 at sb15 vb15
    refine ⟨(by show 12 ≤ sizeLine; decide), fun b16 hb16 => ?_⟩
    have sb16 : Same Hb15 (upd Hb15 b16 (.lst [.non, .ref b1, .str "01", .int 5, .ref b2, .ref b3, .ref b5, .ref b7, .ref b9, .ref b11, .ref b13, .ref b15])) := same_new hb16
    have vb16 : (upd Hb15 b16 (.lst [.non, .ref b1, .str "01", .int 5, .ref b2, .ref b3, .ref b5, .ref b7, .ref b9, .ref b11, .ref b13, .ref b15])) b16 = some (.lst [.non, .ref b1, .str "01", .int 5, .ref b2, .ref b3, .ref b5, .ref b7, .ref b9, .ref b11, .ref b13, .ref b15]) := upd_same
    generalize upd Hb15 b16 (.lst [.non, .ref b1, .str "01", .int 5, .ref b2, .ref b3, .ref b5, .ref b7, .ref b9, .ref b11, .ref b13, .ref b15]) = Hb16 at sb16 vb16
    refine ⟨_, rfl, ?_⟩
    refine ⟨(by show 2 ≤ sizeLine; decide), fun b17 hb17 => ?_⟩
    have sb17 : Same Hb16 (upd Hb16 b17 (.tup [.str "0", .int 1])) := same_new hb17
    have vb17 : (upd Hb16 b17 (.tup [.str "0", .int 1])) b17 = some (.tup [.str "0", .int 1]) := upd_same
    generalize upd Hb16 b17 (.tup [.str "0", .int 1]) = Hb17 at sb17 vb17
    refine ⟨(by show 1 ≤ sizeLine; decide), fun b18 hb18 => ?_⟩
    have sb18 : Same Hb17 (upd Hb17 b18 (.lst [.ref b17])) := same_new hb18
    have vb18 : (upd Hb17 b18 (.lst [.ref b17])) b18 = some (.lst [.ref b17]) := upd_same
    generalize upd Hb17 b18 (.lst [.ref b17]) = Hb18 at sb18 vb18
    refine ⟨(by show 2 ≤ sizeLine; decide), fun b19 hb19 => ?_⟩
    have sb19 : Same Hb18 (upd Hb18 b19 (.tup [.int 0, .bl true])) := same_new hb19
    have vb19 : (upd Hb18 b19 (.tup [.int 0, .bl true])) b19 = some (.tup [.int 0, .bl true]) := upd_same
    generalize upd Hb18 b19 (.tup [.int 0, .bl true]) = Hb19 at sb19 vb19
    refine ⟨(by show 1 ≤ sizeLine; decide), fun b20 hb20 => ?_⟩
    have sb20 : Same Hb19 (upd Hb19 b20 (.lst [.ref b19])) := same_new hb20
    have vb20 : (upd Hb19 b20 (.lst [.ref b19])) b20 = some (.lst [.ref b19]) := upd_same
    generalize upd Hb19 b20 (.lst [.ref b19]) = Hb20 at sb20 vb20
    refine ⟨(by show 1 ≤ sizeLine; decide), fun b21 hb21 => ?_⟩
    have sb21 : Same Hb20 (upd Hb20 b21 (.tup [.int 0])) := same_new hb21
    have vb21 : (upd Hb20 b21 (.tup [.int 0])) b21 = some (.tup [.int 0]) := upd_same
    generalize upd Hb20 b21 (.tup [.int 0]) = Hb21 at sb21 vb21
    refine ⟨(by show 1 ≤ sizeLine; decide), fun b22 hb22 => ?_⟩
    have sb22 : Same Hb21 (upd Hb21 b22 (.lst [.ref b21])) := same_new hb22
    have vb22 : (upd Hb21 b22 (.lst [.ref b21])) b22 = some (.lst [.ref b21]) := upd_same
    generalize upd Hb21 b22 (.lst [.ref b21]) = Hb22 at sb22 vb22
    refine ⟨(by show 2 ≤ sizeLine; decide), fun b23 hb23 => ?_⟩
    have sb23 : Same Hb22 (upd Hb22 b23 (.tup [.int 0, .int 1])) := same_new hb23
    have vb23 : (upd Hb22 b23 (.tup [.int 0, .int 1])) b23 = some (.tup [.int 0, .int 1]) := upd_same
    generalize upd Hb22 b23 (.tup [.int 0, .int 1]) = Hb23 at sb23 vb23
    refine ⟨(by show 1 ≤ sizeLine; decide), fun b24 hb24 => ?_⟩
    have sb24 : Same Hb23 (upd Hb23 b24 (.lst [.ref b23])) := same_new hb24
    have vb24 : (upd Hb23 b24 (.lst [.ref b23])) b24 = some (.lst [.ref b23]) := upd_same
    generalize upd Hb23 b24 (.lst [.ref b23]) = Hb24 at sb24 vb24
    refine ⟨b24, _, _, rfl, rfl, vb24, by omega, by omega, (by show 1 * 121 ≤ sizeLine; decide), fun b25 hb25 => ?_⟩
    have sb25 : Same Hb24 (upd Hb24 b25 (.lst (List.replicate (Int.toNat 121) [.ref b23]).flatten)) := same_new hb25
    have vb25 : (upd Hb24 b25 (.lst (List.replicate (Int.toNat 121) [.ref b23]).flatten)) b25 = some (.lst (List.replicate 121 (.ref b23))) := by rw [upd_same, rep_one]; rfl
    generalize upd Hb24 b25 (.lst (List.replicate (Int.toNat 121) [.ref b23]).flatten) = Hb25 at sb25 vb25
    refine ⟨(by show 1 ≤ sizeLine; decide), fun b26 hb26 => ?_⟩
    have sb26 : Same Hb25 (upd Hb25 b26 (.tup [.int 1])) := same_new hb26
    have vb26 : (upd Hb25 b26 (.tup [.int 1])) b26 = some (.tup [.int 1]) := upd_same
    generalize upd Hb25 b26 (.tup [.int 1]) = Hb26 at sb26 vb26
    refine ⟨(by show 2 ≤ sizeLine; decide), fun b27 hb27 => ?_⟩
    have sb27 : Same Hb26 (upd Hb26 b27 (.tup [.int 0, .ref b26])) := same_new hb27
    have vb27 : (upd Hb26 b27 (.tup [.int 0, .ref b26])) b27 = some (.tup [.int 0, .ref b26]) := upd_same
    generalize upd Hb26 b27 (.tup [.int 0, .ref b26]) = Hb27 at sb27 vb27
    refine ⟨(by show 1 ≤ sizeLine; decide), fun b28 hb28 => ?_⟩
    have sb28 : Same Hb27 (upd Hb27 b28 (.lst [.ref b27])) := same_new hb28
    have vb28 : (upd Hb27 b28 (.lst [.ref b27])) b28 = some (.lst [.ref b27]) := upd_same
    generalize upd Hb27 b28 (.lst [.ref b27]) = Hb28 at sb28 vb28
    refine ⟨(by show 5 ≤ sizeLine; decide), fun b29 hb29 => ?_⟩
    have sb29 : Same Hb28 (upd Hb28 b29 (.lst [.ref b18, .ref b20, .ref b22, .ref b25, .ref b28])) := same_new hb29
    have vb29 : (upd Hb28 b29 (.lst [.ref b18, .ref b20, .ref b22, .ref b25, .ref b28])) b29 = some (.lst [.ref b18, .ref b20, .ref b22, .ref b25, .ref b28]) := upd_same
    generalize upd Hb28 b29 (.lst [.ref b18, .ref b20, .ref b22, .ref b25, .ref b28]) = Hb29 at sb29 vb29
    have cb29 : Same Hb29 Hb29 := .refl _
    have cb28 := sb29.trans cb29
    have cb27 := sb28.trans cb28
    have cb26 := sb27.trans cb27
    have cb25 := sb26.trans cb26
    have cb24 := sb25.trans cb25
    have cb23 := sb24.trans cb24
    have cb22 := sb23.trans cb23
    have cb21 := sb22.trans cb22
    have cb20 := sb21.trans cb21
    have cb19 := sb20.trans cb20
    have cb18 := sb19.trans cb19
    have cb17 := sb18.trans cb18
    have cb16 := sb17.trans cb17
    have cb15 := sb16.trans cb16
    have cb14 := sb15.trans cb15
    have cb13 := sb14.trans cb14
    have cb12 := sb13.trans cb13
    have cb11 := sb12.trans cb12
    have cb10 := sb11.trans cb11
    have cb9 := sb10.trans cb10
    have cb8 := sb9.trans cb9
    have cb7 := sb8.trans cb8
    have cb6 := sb7.trans cb7
    have cb5 := sb6.trans cb6
    have cb4 := sb5.trans cb5
    have cb3 := sb4.trans cb4
    have cb2 := sb3.trans cb3
    have cb1 := sb2.trans cb2
    have cb0 := sb1.trans cb1
    replace vb0 := cb0 _ _ vb0
    replace vb1 := cb1 _ _ vb1
    replace vb2 := cb2 _ _ vb2
    replace vb3 := cb3 _ _ vb3
    replace vb4 := cb4 _ _ vb4
    replace vb5 := cb5 _ _ vb5
    replace vb6 := cb6 _ _ vb6
    replace vb7 := cb7 _ _ vb7
    replace vb8 := cb8 _ _ vb8
    replace vb9 := cb9 _ _ vb9
    replace vb10 := cb10 _ _ vb10
    replace vb11 := cb11 _ _ vb11
    replace vb12 := cb12 _ _ vb12
    replace vb13 := cb13 _ _ vb13
    replace vb14 := cb14 _ _ vb14
    replace vb15 := cb15 _ _ vb15
    replace vb16 := cb16 _ _ vb16
    replace vb17 := cb17 _ _ vb17
    replace vb18 := cb18 _ _ vb18
    replace vb19 := cb19 _ _ vb19
    replace vb20 := cb20 _ _ vb20
    replace vb21 := cb21 _ _ vb21
    replace vb22 := cb22 _ _ vb22
    replace vb23 := cb23 _ _ vb23
    replace vb24 := cb24 _ _ vb24
    replace vb25 := cb25 _ _ vb25
    replace vb26 := cb26 _ _ vb26
    replace vb27 := cb27 _ _ vb27
    replace vb28 := cb28 _ _ vb28
    refine ⟨b16, b29, _, _, rfl, rfl, vb16, vb29, (by show 12 + 5 ≤ sizeLine; decide), fun BB hBB => ?_⟩
    have sBB : Same Hb29 (upd Hb29 BB (.lst ([.non, .ref b1, .str "01", .int 5, .ref b2, .ref b3, .ref b5, .ref b7, .ref b9, .ref b11, .ref b13, .ref b15] ++ [.ref b18, .ref b20, .ref b22, .ref b25, .ref b28]))) := same_new hBB
    have vBB : (upd Hb29 BB (.lst ([.non, .ref b1, .str "01", .int 5, .ref b2, .ref b3, .ref b5, .ref b7, .ref b9, .ref b11, .ref b13, .ref b15] ++ [.ref b18, .ref b20, .ref b22, .ref b25, .ref b28]))) BB = some (.lst [.non, .ref b1, .str "01", .int 5, .ref b2, .ref b3, .ref b5, .ref b7, .ref b9, .ref b11, .ref b13, .ref b15, .ref b18, .ref b20, .ref b22, .ref b25, .ref b28]) := upd_same
    generalize upd Hb29 BB (.lst ([.non, .ref b1, .str "01", .int 5, .ref b2, .ref b3, .ref b5, .ref b7, .ref b9, .ref b11, .ref b13, .ref b15] ++ [.ref b18, .ref b20, .ref b22, .ref b25, .ref b28])) = HB at sBB vBB
    replace vb0 := sBB _ _ vb0
    replace vb1 := sBB _ _ vb1
    replace vb2 := sBB _ _ vb2
    replace vb3 := sBB _ _ vb3
    replace vb4 := sBB _ _ vb4
    replace vb5 := sBB _ _ vb5
    replace vb6 := sBB _ _ vb6
    replace vb7 := sBB _ _ vb7
    replace vb8 := sBB _ _ vb8
    replace vb9 := sBB _ _ vb9
    replace vb10 := sBB _ _ vb10
    replace vb11 := sBB _ _ vb11
    replace vb12 := sBB _ _ vb12
    replace vb13 := sBB _ _ vb13
    replace vb14 := sBB _ _ vb14
    replace vb15 := sBB _ _ vb15
    replace vb16 := sBB _ _ vb16
    replace vb17 := sBB _ _ vb17
    replace vb18 := sBB _ _ vb18
    replace vb19 := sBB _ _ vb19
    replace vb20 := sBB _ _ vb20
    replace vb21 := sBB _ _ vb21
    replace vb22 := sBB _ _ vb22
    replace vb23 := sBB _ _ vb23
    replace vb24 := sBB _ _ vb24
    replace vb25 := sBB _ _ vb25
    replace vb26 := sBB _ _ vb26
    replace vb27 := sBB _ _ vb27
    replace vb28 := sBB _ _ vb28
    replace vb29 := sBB _ _ vb29
    have sHB : Same H HB := sb0.trans (cb0.trans sBB)
    have hall : ∀ v ∈ ([.non, .ref b1, .str "01", .int 5, .ref b2, .ref b3, .ref b5, .ref b7, .ref b9, .ref b11, .ref b13, .ref b15, .ref b18, .ref b20, .ref b22, .ref b25, .ref b28] : List V), WebV K HB (.int 4) v .ties := by
      intro v hv
      simp only [List.mem_cons, List.not_mem_nil, or_false] at hv
      rcases hv with rfl | rfl | rfl | rfl | rfl | rfl | rfl | rfl | rfl | rfl | rfl | rfl | rfl | rfl | rfl | rfl | rfl
      · exact badKind (.base .non) (by decide +kernel)
      · exact badKind (.base (.tup vb1)) (by decide +kernel)
      · exact badKind (.base (.str _)) (by decide +kernel)
      · exact badKind (.base (.int _)) (by decide +kernel)
      · exact badKind (.base (.dK vb2)) (by decide +kernel)
      · exact bad1 vb3 (.notTup (.base .non) (by decide +kernel))
      · exact bad1 vb5 (.notTup (.base (.lst vb4)) (by decide +kernel))
      · exact bad1 vb7 (pairF vb6 (.int _) (.int _) (by decide))
      · exact bad1 vb9 (pairF vb8 (.int _) (.int _) (by decide))
      · exact bad1 vb11 (pairF vb10 (.int _) (.int _) (by decide))
      · exact bad1 vb13 (pairF vb12 (.int _) (.int _) (by decide))
      · exact bad1 vb15 (.long vb14 (by decide))
      · exact bad1 vb18 (pairF vb17 (.str _) (.int _) rfl)
      · exact bad1 vb20 (pairF vb19 (.int _) (.bl _) rfl)
      · exact bad1 vb22 (.long vb21 (by decide))
      · exact .many (by decide) (by decide) vb25 (by rw [List.length_replicate]; decide)
      · exact bad1 vb28 (pairF vb27 (.int _) (.tup vb26) rfl)
    clear cb0 cb1 cb2 cb3 cb4 cb5 cb6 cb7 cb8 cb9 cb10 cb11 cb12 cb13 cb14 cb15 cb16 cb17 cb18 cb19 cb20 cb21 cb22 cb23 cb24 cb25 cb26 cb27 cb28 cb29
    obtain ⟨j, hj⟩ : ∃ j : Nat, wh % 25 = (j : Int) := ⟨(wh % 25).toNat, by omega⟩
    refine ⟨_, rfl, _, _, rfl, rfl, (by show (0 : Int) < 25; decide), _, _, rfl, rfl, _, rfl, ?_⟩
    refine ite2 (fun c => ?_) (fun c => ?_)
    · have c : wh % 25 < 17 := of_decide_eq_true c
      obtain ⟨v, hv1, hv2⟩ := atI_mem (xs := ([.non, .ref b1, .str "01", .int 5, .ref b2, .ref b3, .ref b5, .ref b7, .ref b9, .ref b11, .ref b13, .ref b15, .ref b18, .ref b20, .ref b22, .ref b25, .ref b28] : List V)) (j := j) (by show j < 17; omega)
      refine ⟨_, rfl, _, rfl, _, _, rfl, rfl, (by show (0 : Int) < 25; decide), BB, _, wh % 25, v, rfl, rfl, SqL.of vBB, by rw [hj]; exact hv1, ?_⟩
      exact hQ HB v sHB (hall v hv2)
    · have c : ¬ wh % 25 < 17 := fun z => c (decide_eq_true z)
      have hmm : 0 ≤ mo % 100 ∧ mo % 100 < 100 := by omega
      obtain ⟨N, hN⟩ : ∃ N : Nat, 1 + mo % 100 = (N : Int) := ⟨(1 + mo % 100).toNat, by omega⟩
      refine ⟨_, rfl, _, _, rfl, rfl, (by show (0 : Int) < 100; decide), _, _, rfl, rfl, 1 + mo % 100, rfl, by omega, by omega, fun D hD => ?_⟩
      have eN : (1 + mo % 100).toNat = N := by omega
      refine lc_it (walk_range0 (n := (1 + mo % 100).toNat)) (fun i H' => Same HB H' ∧ ∃ as : List Addr, H' D = some (.lst (as.map V.ref)) ∧ as.length = i ∧ ∀ q ∈ as, ∃ z : Int, 0 ≤ z ∧ z < 3 ∧ H' q = some (.tup [.int z, .int 3])) ⟨sameN (.refl _) hD, [], upd_same, rfl, fun q hq => by cases hq⟩ (fun _ _ _ _ => trivial) ?_ ?_
      · rintro i x H1 H2 hi ⟨s1, as, h1, h2, h3⟩ ⟨rfl, rfl⟩
        refine ⟨rfl, ?_⟩
        dsimp only [tYes]
        rw [if_pos rfl]
        refine ⟨_, rfl, _, _, rfl, rfl, (by show (0 : Int) < 3; decide), (by show 2 ≤ sizeLine; decide), fun q hq => ?_⟩
        have hDq : D ≠ q := ne_of_none h1 hq
        refine ⟨as.map V.ref, by rw [upd_ne hDq]; exact h1, by rw [List.length_map, PySem.sizeLine_eq]; omega, sameU (sameN s1 hq) hD, as ++ [q], by rw [upd_same, List.map_append]; rfl, by simp [h2], fun q' hq' => ?_⟩
        rcases List.mem_append.mp hq' with z | z
        · obtain ⟨z1, z2, z3, z4⟩ := h3 q' z
          exact ⟨z1, z2, z3, by rw [upd_ne (fun y => by rw [y, h1] at z4; cases z4), upd_ne (ne_of_none z4 hq)]; exact z4⟩
        · rw [List.mem_singleton.mp z]
          exact ⟨(i : Int) % 3, by omega, by omega, by rw [upd_ne hDq.symm]; exact upd_same⟩
      · rintro H1 ⟨s1, as, h1, h2, h3⟩
        rw [eN] at h2
        refine ⟨(by show 2 ≤ sizeLine; decide), fun e0 he0 => ?_⟩
        have se0 : Same H1 (upd H1 e0 (.tup [.int 3, .int 0])) := same_new he0
        have ve0 : (upd H1 e0 (.tup [.int 3, .int 0])) e0 = some (.tup [.int 3, .int 0]) := upd_same
        generalize upd H1 e0 (.tup [.int 3, .int 0]) = He0 at se0 ve0
        refine ⟨(by show 2 ≤ sizeLine; decide), fun e1 he1 => ?_⟩
        have se1 : Same He0 (upd He0 e1 (.tup [.int 2, .int 2])) := same_new he1
        have ve1 : (upd He0 e1 (.tup [.int 2, .int 2])) e1 = some (.tup [.int 2, .int 2]) := upd_same
        generalize upd He0 e1 (.tup [.int 2, .int 2]) = He1 at se1 ve1
        refine ⟨_, rfl, _, _, rfl, rfl, ?_⟩
        refine ⟨(by show 2 ≤ sizeLine; decide), fun e2 he2 => ?_⟩
        have se2 : Same He1 (upd He1 e2 (.tup [.int 0, .int (4 + mo)])) := same_new he2
        have ve2 : (upd He1 e2 (.tup [.int 0, .int (4 + mo)])) e2 = some (.tup [.int 0, .int (4 + mo)]) := upd_same
        generalize upd He1 e2 (.tup [.int 0, .int (4 + mo)]) = He2 at se2 ve2
        refine ⟨(by show 2 ≤ sizeLine; decide), fun e3 he3 => ?_⟩
        have se3 : Same He2 (upd He2 e3 (.tup [.bl true, .int 2])) := same_new he3
        have ve3 : (upd He2 e3 (.tup [.bl true, .int 2])) e3 = some (.tup [.bl true, .int 2]) := upd_same
        generalize upd He2 e3 (.tup [.bl true, .int 2]) = He3 at se3 ve3
        refine ⟨(by show 2 ≤ sizeLine; decide), fun e4 he4 => ?_⟩
        have se4 : Same He3 (upd He3 e4 (.tup [.int 0, .non])) := same_new he4
        have ve4 : (upd He3 e4 (.tup [.int 0, .non])) e4 = some (.tup [.int 0, .non]) := upd_same
        generalize upd He3 e4 (.tup [.int 0, .non]) = He4 at se4 ve4
        refine ⟨(by show 2 ≤ sizeLine; decide), fun e5 he5 => ?_⟩
        have se5 : Same He4 (upd He4 e5 (.lst [.int 0, .int 1])) := same_new he5
        have ve5 : (upd He4 e5 (.lst [.int 0, .int 1])) e5 = some (.lst [.int 0, .int 1]) := upd_same
        generalize upd He4 e5 (.lst [.int 0, .int 1]) = He5 at se5 ve5
        refine ⟨1, rfl, _, rfl, _, _, rfl, rfl, ?_⟩
        refine ⟨(by show 2 ≤ sizeLine; decide), fun e6 he6 => ?_⟩
        have se6 : Same He5 (upd He5 e6 (.tup [.int (-1 - mo), .int 1])) := same_new he6
        have ve6 : (upd He5 e6 (.tup [.int (-1 - mo), .int 1])) e6 = some (.tup [.int (-1 - mo), .int 1]) := upd_same
        generalize upd He5 e6 (.tup [.int (-1 - mo), .int 1]) = He6 at se6 ve6
        refine ⟨(by show 8 ≤ sizeLine; decide), fun e7 he7 => ?_⟩
        have se7 : Same He6 (upd He6 e7 (.lst [.non, .ref e0, .ref e1, .ref e2, .ref e3, .ref e4, .ref e5, .ref e6])) := same_new he7
        have ve7 : (upd He6 e7 (.lst [.non, .ref e0, .ref e1, .ref e2, .ref e3, .ref e4, .ref e5, .ref e6])) e7 = some (.lst [.non, .ref e0, .ref e1, .ref e2, .ref e3, .ref e4, .ref e5, .ref e6]) := upd_same
        generalize upd He6 e7 (.lst [.non, .ref e0, .ref e1, .ref e2, .ref e3, .ref e4, .ref e5, .ref e6]) = He7 at se7 ve7
        have ce7 : Same He7 He7 := .refl _
        have ce6 := se7.trans ce7
        have ce5 := se6.trans ce6
        have ce4 := se5.trans ce5
        have ce3 := se4.trans ce4
        have ce2 := se3.trans ce3
        have ce1 := se2.trans ce2
        have ce0 := se1.trans ce1
        replace ve0 := ce0 _ _ ve0
        replace ve1 := ce1 _ _ ve1
        replace ve2 := ce2 _ _ ve2
        replace ve3 := ce3 _ _ ve3
        replace ve4 := ce4 _ _ ve4
        replace ve5 := ce5 _ _ ve5
        replace ve6 := ce6 _ _ ve6
        have s1f : Same HB He7 := s1.trans (se0.trans ce0)
        have hasf : ∀ q ∈ as, ∃ z : Int, 0 ≤ z ∧ z < 3 ∧ He7 q = some (.tup [.int z, .int 3]) := fun q hq => by
          obtain ⟨z, z1, z2, z3⟩ := h3 q hq
          exact ⟨z, z1, z2, ce0 _ _ (se0 _ _ z3)⟩
        have hDf : He7 D = some (.lst (as.map V.ref)) := ce0 _ _ (se0 _ _ h1)
        have hst : ∀ v ∈ ([.non, .ref e0, .ref e1, .ref e2, .ref e3, .ref e4, .ref e5, .ref e6] : List V), TieV K He7 4 v false ∧ ∀ H', TupStay He7 H' → (∀ q xs, He7 q = some (.lst xs) → q ≠ D → H' q = some (.lst xs)) → TieV K H' 4 v false := by
          have key : ∀ H', TupStay He7 H' → (∀ q xs, He7 q = some (.lst xs) → q ≠ D → H' q = some (.lst xs)) → ∀ v ∈ ([.non, .ref e0, .ref e1, .ref e2, .ref e3, .ref e4, .ref e5, .ref e6] : List V), TieV K H' 4 v false := by
            intro H' ht hl v hv
            simp only [List.mem_cons, List.not_mem_nil, or_false] at hv
            rcases hv with rfl | rfl | rfl | rfl | rfl | rfl | rfl | rfl
            · exact .notTup (.base .non) (by decide +kernel)
            · exact pairF (ht _ _ ve0) (.int _) (.int _) (by decide)
            · exact pairF (ht _ _ ve1) (.int _) (.int _) (by decide)
            · exact pairF (ht _ _ ve2) (.int _) (.int _) (by simp only [inB]; rw [decide_eq_false (show ¬ (4 + mo < 4) by omega)]; simp)
            · exact pairF (ht _ _ ve3) (.bl _) (.int _) rfl
            · exact pairF (ht _ _ ve4) (.int _) .non rfl
            · exact .notTup (.base (.lst (hl _ _ ve5 (fun z => by have e := ve5; rw [z, hDf] at e; cases as <;> simp at e)))) (by decide +kernel)
            · exact pairF (ht _ _ ve6) (.int _) (.int _) (by simp only [inB]; rw [decide_eq_false (show ¬ (0 ≤ -1 - mo) by omega)]; simp)
          intro v hv
          exact ⟨key _ (fun _ _ e => e) (fun _ _ e _ => e) v hv, fun H' a b => key H' a b v hv⟩
        obtain ⟨j2, hj2⟩ : ∃ j2 : Nat, wh % 25 - 17 = (j2 : Int) := ⟨(wh % 25 - 17).toNat, by omega⟩
        obtain ⟨v, hv1, hv2⟩ := atI_mem (xs := ([.non, .ref e0, .ref e1, .ref e2, .ref e3, .ref e4, .ref e5, .ref e6] : List V)) (j := j2) (by show j2 < 8; omega)
        refine ⟨_, rfl, _, _, rfl, rfl, (by show (0 : Int) < 25; decide), _, _, rfl, rfl, e7, _, wh % 25 - 17, v, rfl, rfl, SqL.of ve7, by rw [hj2]; exact hv1, ?_⟩
        obtain ⟨k, hk⟩ : ∃ k : Nat, wh / 25 % (N : Int) = (k : Int) := ⟨(wh / 25 % (N : Int)).toNat, by have := Int.emod_nonneg (wh / 25) (show (N : Int) ≠ 0 by omega); omega⟩
        have hkN : k < N := by have := Int.emod_lt_of_pos (wh / 25) (show (0 : Int) < N by omega); omega
        refine ⟨_, rfl, _, rfl, _, rfl, _, _, rfl, rfl, ⟨by decide, by decide⟩, _, rfl, D, _, rfl, .inl (SqL.of hDf), _, _, rfl, rfl, ?_, D, _, wh / 25 % (N : Int), k, rfl, ?_, hDf, ?_, ?_⟩
        · show (0 : Int) < _
          rw [List.length_map, h2]; omega
        · rw [List.length_map, h2]
        · rw [hk]; exact ixN_nat (by rw [List.length_map, h2]; exact hkN)
        · have tD : TupStay He7 (upd He7 D (.lst ((as.map V.ref).set k v))) := TupStay.lst hDf
          refine ⟨_, rfl, hQ _ (.ref D) (sHB.trans (sameU s1f hD)) (.bad (bs := (List.replicate as.length true).set k false) (by decide) (by decide) upd_same ?_ (paired_setb k ?_ ((hst v hv2).2 _ tD (fun q xs e ne => by rw [upd_ne ne]; exact e))) (all_set_false (by rw [List.length_replicate, h2]; exact hkN)))⟩
          · rw [List.length_set, List.length_map, h2]; omega
          · have : ∀ l : List Addr, (∀ q ∈ l, q ∈ as) → Paired (TieV K (upd He7 D (.lst ((as.map V.ref).set k v))) 4) (l.map V.ref) (List.replicate l.length true) := by
              intro l
              induction l with
              | nil => exact fun _ => .nil
              | cons q l ih =>
                intro hl
                obtain ⟨z, z1, z2, z3⟩ := hasf q (hl q List.mem_cons_self)
                refine .cons (pairT (tD _ _ z3) (.int _) (.int _) ?_) (ih fun q' hq' => hl q' (List.mem_cons_of_mem _ hq'))
                simp only [inB, ltV, Bool.and_eq_true, decide_eq_true_eq]
                omega
            exact this as fun q hq => hq
end
end TT
namespace TT
open PySem L2 TH
theorem call_isAnyK {X : Cx} {K : PySem.W.Frag} {a : Addr} {oe : Obj} {cls : Value} {d : Option Addr} {pn : List (Addr × Obj)} (hK : X.K = K) (hz : Zc cls d oe) (hf : ∃ vs, oe.data = .fields vs) : CallR (X.suite a ((a, oe) :: pn)) (.builtin "isinstance") (rIsAny K cls d a) := by
  subst hK
  exact call_isAny hz hf
def spTold : Sp := fun vs H Q _ => ∃ (k w mo : Int), vs = [.int k, .int w, .int mo] ∧ 0 ≤ k ∧ k < 3 ∧ 0 ≤ w ∧ 0 ≤ mo ∧ ∀ H' p, Same H H' → H p = none → H' p = some (.lst [.bl (decide (k = 0)), .bl (decide (k = 1)), .bl (decide (k = 2)), .bl true]) → Q (.ref p) H'
section
variable {P : Program} {w : World} {K : PySem.W.Frag} {mg : PySem.Str → Option Value} {base : Heap}
theorem sc_told : FnScope ["_law_kind", "_law_which", "_law_more", "_law_bad", "error", "_law_found"] ["_law_kind", "_law_which", "_law_more"] (defScope s_told) := ⟨rfl, rfl, rfl, by decide +kernel, rfl, by decide +kernel, by decide +kernel⟩
theorem ok_told (T : G6 K mg) : FnOk P w K mg base CX0 8 T.told.f T.told.fd ["_law_kind", "_law_which", "_law_more"] spTold := by
  have WW : FnOk P w K mg base (L2.CX P w) 7 T.withWeb.f T.withWeb.fd ["_law_door", "_law_places", "_law_ties"] (spWith K T.badPlaces.C T.badTies.C) := ok_with_web T
  have BT : FnOk P w K mg base CX0 1 T.badTiesD.f T.badTiesD.fd ["_law_which", "_law_more"] (spBadT K) := ok_bad_ties T
  have SH : FnOk P w K mg base (L2.CX P w) 6 T.shared.f T.shared.fd ["places", "ties", "many"] (spShared K T.shares.C T.ring.C T.badPlaces.C T.badTies.C T.badMany.C) := ok_shared T.toG5
  refine T.told.F.ok sc_told (fun vs H Q E h => ?_) (fun cdv A outer s H vs Q E hr h => ?_)
  · obtain ⟨_, _, _, rfl, _⟩ := h
    rfl
  · obtain ⟨k, wh, mo, rfl, hk0, hk3, hwh, hmo, hQ⟩ := h
    have nd := sc_told.nd
    refine ⟨_, pss_cons (ps_try_as (i := 4) (Wout := fun _ _ _ _ => False) rfl rfl nd rfl rfl ⟨rfl, by decide, Or.inl T.gTie⟩ takes0
        (fun W pn xe tk _ => pss_one (ps_if (pt_cmpR op_eq (pv 0) pe_int (nomark _))
          (pss_cons (ps_set (i := 3) nd rfl (.inl rfl) (pe_ix (ix_listK (K := K) rfl) (pe_lst (pa_cons pe_non (pa_cons pe_str (pa_cons pe_bl (pa_cons pe_bl (pa_cons (pe_lst (pa_cons pe_int pa_nil)) (pa_cons (pe_tup (pa_cons pe_int pa_nil)) (pa_cons pe_dnewK (pa_cons pe_int (pa_cons (pe_op op_sub (pe_un un_neg pe_int) (pv 2)) (pa_cons pe_int (pa_cons (pe_op op_add pe_int (pv 2)) pa_nil)))))))))))) (pe_op op_mod (pv 1) pe_int) (fun _ _ => rfl)))
          (pss_one (ps_expr (pe_callS WW hr (by rfl) T.withWeb.g T.withWeb.F.kp T.withWeb.b (fun σ => passAt tk σ) (pa_cons (pe_op op_mod (pe_op op_fdiv (pv 1) pe_int) pe_int) (pa_cons (pv 3) (pa_cons pe_non pa_nil)))))))
          (pss_one (ps_if (pt_cmpR op_eq (pv 0) pe_int (nomark _))
            (pss_one (ps_expr (pe_callS WW hr (by rfl) T.withWeb.g T.withWeb.F.kp T.withWeb.b (fun σ => passAt tk σ) (pa_cons (pe_op op_mod (pe_op op_fdiv (pv 1) pe_int) pe_int) (pa_cons pe_int (pa_cons (pe_call BT (hr.mono (by decide)) (by rfl) T.badTiesD.g T.badTiesD.F.kp T.badTiesD.b .nil (E := E0) pass0 (pa_cons (pv 1) (pa_cons (pv 2) pa_nil))) pa_nil))))))
            (pss_one (ps_expr (pe_callS SH (hr.mono (by decide)) (by rfl) T.shared.g T.shared.F.kp T.shared.b (fun σ => passAt tk σ) (pa_cons pe_int (pa_cons (pe_lst (pa_cons (pe_tup (pa_cons pe_int (pa_cons pe_int pa_nil))) (pa_cons (pe_tup (pa_cons pe_int (pa_cons pe_int pa_nil))) pa_nil))) (pa_cons (pe_ix (ix_listK (K := K) rfl) (pe_lst (pa_cons pe_non (pa_cons pe_str (pa_cons pe_bl (pa_cons pe_bl (pa_cons (pe_lst (pa_cons pe_int pa_nil)) (pa_cons (pe_tup (pa_cons pe_int pa_nil)) (pa_cons pe_dnewK (pa_cons pe_int (pa_cons (pe_op op_sub (pe_un un_neg pe_int) (pv 2)) pa_nil)))))))))) (pe_op op_mod (pv 1) pe_int) (fun _ _ => rfl)) pa_nil))))))))))
        (fun a oe cls d pn hz hf => pss_cons (ps_set (i := 5) nd rfl (.inl rfl) (pe_lst (pa_cons (pe_callB (call_isAnyK (K := K) rfl hz hf) (by rfl) T.b.isi (by decide +kernel) (pa_cons (pv 4) (pa_cons (pe_glob (v := .ref T.badPlaces.C) (by rfl) T.badPlaces.g rfl) pa_nil))) (pa_cons (pe_callB (call_isAnyK (K := K) rfl hz hf) (by rfl) T.b.isi (by decide +kernel) (pa_cons (pv 4) (pa_cons (pe_glob (v := .ref T.badTies.C) (by rfl) T.badTies.g rfl) pa_nil))) (pa_cons (pe_callB (call_isAnyK (K := K) rfl hz hf) (by rfl) T.b.isi (by decide +kernel) (pa_cons (pv 4) (pa_cons (pe_glob (v := .ref T.badMany.C) (by rfl) T.badMany.g rfl) pa_nil))) pa_nil)))))
          (pss_one (ps_ret (pe_op op_cat (pv 5) (pe_lst (pa_cons (pe_callB (call_isAnyK (K := K) rfl hz hf) (by rfl) T.b.isi (by decide +kernel) (pa_cons (pv 4) (pa_cons (pe_bltn (v := .ty "ValueError") (by rfl) T.vErr (by decide +kernel) rfl) pa_nil))) pa_nil)))))))
      (pss_one (ps_ret (pe_lst pa_nil))), ?_⟩
    have suiteEnd : ∀ (H1 : Hp) (b0 b1 b2 : Bool), Same H H1 → b0 = decide (k = 0) → b1 = decide (k = 1) → b2 = decide (k = 2) → ∀ l1, H1 l1 = none → ∀ l2, upd H1 l1 (.lst [.bl b0, .bl b1, .bl b2]) l2 = none → ∀ l3, upd (upd H1 l1 (.lst [.bl b0, .bl b1, .bl b2])) l2 (.lst [.bl true]) l3 = none →
        Q (.ref l3) (upd (upd (upd H1 l1 (.lst [.bl b0, .bl b1, .bl b2])) l2 (.lst [.bl true])) l3 (.lst ([.bl b0, .bl b1, .bl b2] ++ [.bl true]))) := fun H1 b0 b1 b2 s1 e0 e1 e2 l1 h1 l2 h2 l3 h3 => by
      subst e0 e1 e2
      have t := (s1.trans (same_new (o := .lst [.bl (decide (k = 0)), .bl (decide (k = 1)), .bl (decide (k = 2))]) h1)).trans (same_new (o := .lst [.bl true]) h2)
      exact hQ _ l3 (t.trans (same_new h3)) (t.free h3) upd_same
    refine ⟨_, rfl, rfl, _, rfl, ?_⟩
    refine ite2 (fun c => ?_) (fun c => ?_)
    · have c : k = 0 := by have := of_decide_eq_true c; injection this
      refine ⟨(by show 1 ≤ sizeLine; decide), fun b0 hb0 => ?_⟩
      have sb0 : Same H (upd H b0 (.lst [.int 4])) := same_new hb0
      have vb0 : (upd H b0 (.lst [.int 4])) b0 = some (.lst [.int 4]) := upd_same
      generalize upd H b0 (.lst [.int 4]) = Hb0 at sb0 vb0
      refine ⟨(by show 1 ≤ sizeLine; decide), fun b1 hb1 => ?_⟩
      have sb1 : Same Hb0 (upd Hb0 b1 (.tup [.int 4])) := same_new hb1
      have vb1 : (upd Hb0 b1 (.tup [.int 4])) b1 = some (.tup [.int 4]) := upd_same
      generalize upd Hb0 b1 (.tup [.int 4]) = Hb1 at sb1 vb1
      intro b2 hb2
      have sb2 : Same Hb1 (upd Hb1 b2 (.dK [])) := same_new hb2
      have vb2 : (upd Hb1 b2 (.dK [])) b2 = some (.dK []) := upd_same
      generalize upd Hb1 b2 (.dK []) = Hb2 at sb2 vb2
      refine ⟨1, rfl, _, rfl, _, _, rfl, rfl, ?_⟩
      refine ⟨_, rfl, _, _, rfl, rfl, ?_⟩
      refine ⟨(by show 11 ≤ sizeLine; decide), fun b3 hb3 => ?_⟩
      have sb3 : Same Hb2 (upd Hb2 b3 (.lst [.non, .str "4", .bl true, .bl false, .ref b0, .ref b1, .ref b2, .int 0, .int (-1 - mo), .int 41, .int (41 + mo)])) := same_new hb3
      have vb3 : (upd Hb2 b3 (.lst [.non, .str "4", .bl true, .bl false, .ref b0, .ref b1, .ref b2, .int 0, .int (-1 - mo), .int 41, .int (41 + mo)])) b3 = some (.lst [.non, .str "4", .bl true, .bl false, .ref b0, .ref b1, .ref b2, .int 0, .int (-1 - mo), .int 41, .int (41 + mo)]) := upd_same
      generalize upd Hb2 b3 (.lst [.non, .str "4", .bl true, .bl false, .ref b0, .ref b1, .ref b2, .int 0, .int (-1 - mo), .int 41, .int (41 + mo)]) = Hb3 at sb3 vb3
      have cb3 : Same Hb3 Hb3 := .refl _
      have cb2 := sb3.trans cb3
      have cb1 := sb2.trans cb2
      have cb0 := sb1.trans cb1
      replace vb0 := cb0 _ _ vb0
      replace vb1 := cb1 _ _ vb1
      replace vb2 := cb2 _ _ vb2
      have sHf : Same H Hb3 := sb0.trans cb0
      have hall : ∀ v ∈ ([.non, .str "4", .bl true, .bl false, .ref b0, .ref b1, .ref b2, .int 0, .int (-1 - mo), .int 41, .int (41 + mo)] : List V), WebV K Hb3 v .non .places := by
        intro v hv
        simp only [List.mem_cons, List.not_mem_nil, or_false] at hv
        rcases hv with rfl | rfl | rfl | rfl | rfl | rfl | rfl | rfl | rfl | rfl | rfl
        · exact .places .non (fun i e => by cases e)
        · exact .places (.str _) (fun i e => by cases e)
        · exact .places (.bl _) (fun i e => by cases e)
        · exact .places (.bl _) (fun i e => by cases e)
        · exact .places (.lst vb0) (fun i e => by cases e)
        · exact .places (.tup vb1) (fun i e => by cases e)
        · exact .places (.dK vb2) (fun i e => by cases e)
        · exact .places (.int _) (fun i e => by cases e; omega)
        · exact .places (.int _) (fun i e => by cases e; omega)
        · exact .places (.int _) (fun i e => by cases e; omega)
        · exact .places (.int _) (fun i e => by cases e; omega)
      obtain ⟨j, hj⟩ : ∃ j : Nat, wh % 11 = (j : Int) := ⟨(wh % 11).toNat, by omega⟩
      obtain ⟨v, hv1, hv2⟩ := atI_mem (xs := ([.non, .str "4", .bl true, .bl false, .ref b0, .ref b1, .ref b2, .int 0, .int (-1 - mo), .int 41, .int (41 + mo)] : List V)) (j := j) (by show j < 11; omega)
      refine ⟨_, rfl, _, _, rfl, rfl, (by show (0 : Int) < 11; decide), b3, _, wh % 11, v, rfl, rfl, SqL.of vb3, by rw [hj]; exact hv1, ?_⟩
      refine ⟨_, rfl, _, _, rfl, rfl, ⟨by decide, by decide⟩, _, _, rfl, rfl, (by show (0 : Int) < 3; decide), _, rfl, _, v, .non, .places, rfl, hall v hv2, fun H1 s01 => ?_⟩
      have s1 := sHf.trans s01
      refine ⟨true, T.eP, fun _ a ha => ?_, fun q => Bool.noConfusion q⟩
      refine ⟨_, rfl, _, rfl, rfl, T.xP, _, _, true, rfl, (fun u h => h), T.iPP, ?_⟩
      refine ⟨_, rfl, _, rfl, rfl, T.xP, _, _, false, rfl, (fun u h => h), T.iPT, ?_⟩
      refine ⟨_, rfl, _, rfl, rfl, T.xP, _, _, false, rfl, (fun u h => h), T.iPM, ?_⟩
      refine ⟨(by show 3 ≤ sizeLine; decide), fun l1 hl1 => ?_⟩
      refine ⟨_, rfl, _, rfl, _, rfl, rfl, T.xP, _, _, true, rfl, (fun u h => h), T.iPV, (by show 1 ≤ sizeLine; decide), fun l2 hl2 => ?_⟩
      refine ⟨l1, l2, [.bl true, .bl false, .bl false], [.bl true], rfl, rfl, ?_, upd_same, (by show 3 + 1 ≤ sizeLine; decide), fun l3 hl3 => ?_⟩
      · rw [upd_ne (fun z => by rw [← z, upd_same] at hl2; cases hl2)]; exact upd_same
      · exact suiteEnd H1 true false false s1 (by rw [c]; rfl) (by rw [c]; rfl) (by rw [c]; rfl) l1 hl1 l2 hl2 l3 hl3
    · have c0 : ¬ k = 0 := fun z => c (decide_eq_true (by rw [z]))
      refine ⟨_, rfl, rfl, _, rfl, ?_⟩
      refine ite2 (fun c => ?_) (fun c => ?_)
      · have c : k = 1 := by have := of_decide_eq_true c; injection this
        refine ⟨_, rfl, _, _, rfl, rfl, ⟨by decide, by decide⟩, _, _, rfl, rfl, (by show (0 : Int) < 3; decide), ?_⟩
        refine ⟨_, rfl, _, rfl, wh, mo, rfl, hwh, hmo, fun H0 tv s0 hw => ?_⟩
        refine ⟨_, .int 4, tv, .ties, rfl, hw, fun H1 s01 => ?_⟩
        have s1 := s0.trans s01
        refine ⟨true, T.eT, fun _ a ha => ?_, fun q => Bool.noConfusion q⟩
        refine ⟨_, rfl, _, rfl, rfl, T.xT, _, _, false, rfl, (fun u h => h), T.iTP, ?_⟩
        refine ⟨_, rfl, _, rfl, rfl, T.xT, _, _, true, rfl, (fun u h => h), T.iTT, ?_⟩
        refine ⟨_, rfl, _, rfl, rfl, T.xT, _, _, false, rfl, (fun u h => h), T.iTM, ?_⟩
        refine ⟨(by show 3 ≤ sizeLine; decide), fun l1 hl1 => ?_⟩
        refine ⟨_, rfl, _, rfl, _, rfl, rfl, T.xT, _, _, true, rfl, (fun u h => h), T.iTV, (by show 1 ≤ sizeLine; decide), fun l2 hl2 => ?_⟩
        refine ⟨l1, l2, [.bl false, .bl true, .bl false], [.bl true], rfl, rfl, ?_, upd_same, (by show 3 + 1 ≤ sizeLine; decide), fun l3 hl3 => ?_⟩
        · rw [upd_ne (fun z => by rw [← z, upd_same] at hl2; cases hl2)]; exact upd_same
        · exact suiteEnd H1 false true false s1 (by rw [c]; rfl) (by rw [c]; rfl) (by rw [c]; rfl) l1 hl1 l2 hl2 l3 hl3
      · have c1 : ¬ k = 1 := fun z => c (decide_eq_true (by rw [z]))
        have c : k = 2 := by omega
        refine ⟨(by show 2 ≤ sizeLine; decide), fun t0 ht0 => ?_⟩
        have st0 : Same H (upd H t0 (.tup [.int 0, .int 1])) := same_new ht0
        have vt0 : (upd H t0 (.tup [.int 0, .int 1])) t0 = some (.tup [.int 0, .int 1]) := upd_same
        generalize upd H t0 (.tup [.int 0, .int 1]) = Ht0 at st0 vt0
        refine ⟨(by show 2 ≤ sizeLine; decide), fun t1 ht1 => ?_⟩
        have st1 : Same Ht0 (upd Ht0 t1 (.tup [.int 1, .int 3])) := same_new ht1
        have vt1 : (upd Ht0 t1 (.tup [.int 1, .int 3])) t1 = some (.tup [.int 1, .int 3]) := upd_same
        generalize upd Ht0 t1 (.tup [.int 1, .int 3]) = Ht1 at st1 vt1
        refine ⟨(by show 2 ≤ sizeLine; decide), fun t2 ht2 => ?_⟩
        have st2 : Same Ht1 (upd Ht1 t2 (.lst [.ref t0, .ref t1])) := same_new ht2
        have vt2 : (upd Ht1 t2 (.lst [.ref t0, .ref t1])) t2 = some (.lst [.ref t0, .ref t1]) := upd_same
        generalize upd Ht1 t2 (.lst [.ref t0, .ref t1]) = Ht2 at st2 vt2
        refine ⟨(by show 1 ≤ sizeLine; decide), fun e0 he0 => ?_⟩
        have se0 : Same Ht2 (upd Ht2 e0 (.lst [.int 2])) := same_new he0
        have ve0 : (upd Ht2 e0 (.lst [.int 2])) e0 = some (.lst [.int 2]) := upd_same
        generalize upd Ht2 e0 (.lst [.int 2]) = He0 at se0 ve0
        refine ⟨(by show 1 ≤ sizeLine; decide), fun e1 he1 => ?_⟩
        have se1 : Same He0 (upd He0 e1 (.tup [.int 2])) := same_new he1
        have ve1 : (upd He0 e1 (.tup [.int 2])) e1 = some (.tup [.int 2]) := upd_same
        generalize upd He0 e1 (.tup [.int 2]) = He1 at se1 ve1
        intro e2 he2
        have se2 : Same He1 (upd He1 e2 (.dK [])) := same_new he2
        have ve2 : (upd He1 e2 (.dK [])) e2 = some (.dK []) := upd_same
        generalize upd He1 e2 (.dK []) = He2 at se2 ve2
        refine ⟨1, rfl, _, rfl, _, _, rfl, rfl, ?_⟩
        refine ⟨(by show 9 ≤ sizeLine; decide), fun e3 he3 => ?_⟩
        have se3 : Same He2 (upd He2 e3 (.lst [.non, .str "2", .bl true, .bl false, .ref e0, .ref e1, .ref e2, .int 0, .int (-1 - mo)])) := same_new he3
        have ve3 : (upd He2 e3 (.lst [.non, .str "2", .bl true, .bl false, .ref e0, .ref e1, .ref e2, .int 0, .int (-1 - mo)])) e3 = some (.lst [.non, .str "2", .bl true, .bl false, .ref e0, .ref e1, .ref e2, .int 0, .int (-1 - mo)]) := upd_same
        generalize upd He2 e3 (.lst [.non, .str "2", .bl true, .bl false, .ref e0, .ref e1, .ref e2, .int 0, .int (-1 - mo)]) = He3 at se3 ve3
        have ce3 : Same He3 He3 := .refl _
        have ce2 := se3.trans ce3
        have ce1 := se2.trans ce2
        have ce0 := se1.trans ce1
        have ct2 := se0.trans ce0
        have ct1 := st2.trans ct2
        have ct0 := st1.trans ct1
        replace vt0 := ct0 _ _ vt0
        replace vt1 := ct1 _ _ vt1
        replace vt2 := ct2 _ _ vt2
        replace ve0 := ce0 _ _ ve0
        replace ve1 := ce1 _ _ ve1
        replace ve2 := ce2 _ _ ve2
        have sHf : Same H He3 := st0.trans ct0
        have hall : ∀ v ∈ ([.non, .str "2", .bl true, .bl false, .ref e0, .ref e1, .ref e2, .int 0, .int (-1 - mo)] : List V), ∃ b, WholeV K He3 v b ∧ ∀ i, v = .int i → ¬ 1 ≤ i := by
          intro v hv
          simp only [List.mem_cons, List.not_mem_nil, or_false] at hv
          rcases hv with rfl | rfl | rfl | rfl | rfl | rfl | rfl | rfl | rfl
          · exact ⟨_, .non, fun i e => by cases e⟩
          · exact ⟨_, .str _, fun i e => by cases e⟩
          · exact ⟨_, .bl _, fun i e => by cases e⟩
          · exact ⟨_, .bl _, fun i e => by cases e⟩
          · exact ⟨_, .lst ve0, fun i e => by cases e⟩
          · exact ⟨_, .tup ve1, fun i e => by cases e⟩
          · exact ⟨_, .dK ve2, fun i e => by cases e⟩
          · exact ⟨_, .int _, fun i e => by cases e; omega⟩
          · exact ⟨_, .int _, fun i e => by cases e; omega⟩
        have hw : WebV K He3 (nV 4) (.ref t2) .ok := WebV.of (ts := [(0, 1), (1, 3)]) (by decide) (by decide) ⟨[t0, t1], vt2, .cons vt0 (.cons vt1 .nil)⟩ (by intro t ht; simp at ht; rcases ht with rfl | rfl <;> decide) (by decide)
        obtain ⟨j, hj⟩ : ∃ j : Nat, wh % 9 = (j : Int) := ⟨(wh % 9).toNat, by omega⟩
        obtain ⟨v, hv1, hv2⟩ := atI_mem (xs := ([.non, .str "2", .bl true, .bl false, .ref e0, .ref e1, .ref e2, .int 0, .int (-1 - mo)] : List V)) (j := j) (by show j < 9; omega)
        obtain ⟨b, hb1, hb2⟩ := hall v hv2
        refine ⟨_, rfl, _, _, rfl, rfl, (by show (0 : Int) < 9; decide), e3, _, wh % 9, v, rfl, rfl, SqL.of ve3, by rw [hj]; exact hv1, ?_⟩
        refine ⟨.int 4, .ref t2, v, .ok, b, rfl, hw, hb1, fun _ H1 s01 => ?_, fun n m a ts _ _ e hm => absurd (hb2 _ e) (by omega)⟩
        have s1 := sHf.trans s01
        refine ⟨true, T.eM, fun _ a ha => ?_, fun q => Bool.noConfusion q⟩
        refine ⟨_, rfl, _, rfl, rfl, T.xM, _, _, false, rfl, (fun u h => h), T.iMP, ?_⟩
        refine ⟨_, rfl, _, rfl, rfl, T.xM, _, _, false, rfl, (fun u h => h), T.iMT, ?_⟩
        refine ⟨_, rfl, _, rfl, rfl, T.xM, _, _, true, rfl, (fun u h => h), T.iMM, ?_⟩
        refine ⟨(by show 3 ≤ sizeLine; decide), fun l1 hl1 => ?_⟩
        refine ⟨_, rfl, _, rfl, _, rfl, rfl, T.xM, _, _, true, rfl, (fun u h => h), T.iMV, (by show 1 ≤ sizeLine; decide), fun l2 hl2 => ?_⟩
        refine ⟨l1, l2, [.bl false, .bl false, .bl true], [.bl true], rfl, rfl, ?_, upd_same, (by show 3 + 1 ≤ sizeLine; decide), fun l3 hl3 => ?_⟩
        · rw [upd_ne (fun z => by rw [← z, upd_same] at hl2; cases hl2)]; exact upd_same
        · exact suiteEnd H1 false false true s1 (by rw [c]; rfl) (by rw [c]; rfl) (by rw [c]; rfl) l1 hl1 l2 hl2 l3 hl3
end
end TT
namespace TT
open PySem L2 TH
theorem colStep_len (ts : List Tie) (s : CS) (v : Nat) : (colStep ts s v).cols.length = s.cols.length := by
  unfold colStep paint
  dsimp only
  generalize List.range _ = ks
  generalize s.cols = cs
  induction ks generalizing cs with
  | nil => rfl
  | cons k ks ih => rw [List.foldl_cons, ih, List.length_set]
theorem twoColours_len (n : Nat) (ts : List Tie) : (twoColours n ts).length = ts.length := by
  have key : ∀ (st : List Nat) (s : CS), (st.foldl (colStep (joined n ts)) s).cols.length = s.cols.length := by
    intro st
    induction st with
    | nil => exact fun _ => rfl
    | cons v st ih => exact fun s => by rw [List.foldl_cons, ih, colStep_len]
  unfold twoColours colRun
  rw [List.length_take, key]
  show min ts.length (List.replicate _ _).length = _
  rw [List.length_replicate]
  unfold joined
  rw [List.length_append]
  omega
theorem ringOk_nil {r : List Nat} (h : RingOk [] r) : False := by
  cases r with
  | nil => exact ringOk_ne h rfl
  | cons k _ =>
    obtain ⟨_, ps, h, _⟩ := h.ex
    cases ps with
    | nil => exact h
    | cons w vs => exact absurd h.1 (by simp)
theorem firstBar_nil : firstBar [] 1 = none := by
  unfold firstBar
  rw [List.find?_eq_none]
  intro p hp
  have : barsTwo p ([] : List Tie) = false := by
    unfold barsTwo
    have : (p.map fun v => deg v ([] : List Tie)).sum = 0 := by
      clear hp
      induction p with
      | nil => rfl
      | cons x xs ih => rw [List.map_cons, List.sum_cons, ih]; rfl
    rw [this]
    simp
  rw [this]
  decide
/-- what the top has left: the law itself -/
structure G7 (K : PySem.W.Frag) (mg : PySem.Str → Option Value) extends G6 K mg where
  law : DefAt K mg "law" s_law ["_law_script"]
def spLaw (K : PySem.W.Frag) : Sp := fun vs H Q _ => ∃ (a : Addr) (ns : List Int), vs = [.ref a] ∧ SqL K H a (ns.map V.int) ∧ ∀ H', Q (.bl true) H'
section
variable {P : Program} {w : World} {K : PySem.W.Frag} {mg : PySem.Str → Option Value} {base : Heap}
theorem sc_law : FnScope ["_law_script", "_law_cell", "_law_kind", "_law_due", "_law_at"] ["_law_script"] (defScope s_law) := ⟨rfl, rfl, rfl, by decide +kernel, rfl, by decide +kernel, by decide +kernel⟩
theorem ok_law (T : G7 K mg) : FnOk P w K mg base (L2.CX P w) 9 T.law.f T.law.fd ["_law_script"] (spLaw K) := by
  have HV : FnOk P w K mg base (L2.CX P w) 6 T.halved.f T.halved.fd ["places", "ties"] (spHalved K T.even.C T.odd.C T.badPlaces.C T.badTies.C) := ok_halved T.toG4
  have NE : FnOk P w K mg base (L2.CX P w) 5 T.nearly.f T.nearly.fd ["places", "ties"] (spNearly K T.badPlaces.C T.badTies.C) := ok_nearly T.toG4
  have SH : FnOk P w K mg base (L2.CX P w) 6 T.shared.f T.shared.fd ["places", "ties", "many"] (spShared K T.shares.C T.ring.C T.badPlaces.C T.badTies.C T.badMany.C) := ok_shared T.toG5
  have TO : FnOk P w K mg base CX0 8 T.told.f T.told.fd ["_law_kind", "_law_which", "_law_more"] spTold := ok_told T.toG6
  refine T.law.F.okX sc_law (fun vs H Q E h => ?_) (fun cdv A outer s H vs Q E hr h => ?_)
  · obtain ⟨_, _, rfl, _⟩ := h
    rfl
  · obtain ⟨a, ns, rfl, hS, hQ⟩ := h
    have nd := sc_law.nd
    have hu := hu_of hr
    refine ⟨_, pss_cons (ps_for (passes_of rfl) rfl (pi_list (pv 0)) (pg_name (i := 1) nd rfl (.inl rfl))
        (pss_cons (ps_set (i := 2) nd rfl (.inr rfl) (pe_op op_mod (pv 1) pe_int))
        (pss_cons (ps_set (i := 3) nd rfl (.inl rfl) (pe_op op_cat (pe_lc (own := [("_law_at", 4)]) (g := gName 4) (tt := tYes) rfl nd (pi_range1 (by rfl) T.b.range (pa_cons pe_int pa_nil)) (blkOk_by (N := ["_law_script", "_law_cell", "_law_kind", "_law_due", "_law_at"]) (sc := defScope s_law) (by decide +kernel)) (fun _ _ _ _ _ => pg_name (i := 4) nd rfl (Or.inl rfl)) (fun _ _ _ _ _ => pts_nil) (fun _ _ _ _ _ => pe_cmpR op_eq (pv 2) (pv 4) (nomark _))) (pe_lst (pa_cons pe_bl pa_nil))))
        (pss_one (ps_if (pt_cmpR (op_neD hr.units) (pe_call TO hr (by rfl) T.told.g T.told.F.kp T.told.b .nil (E := E0) pass0 (pa_cons (pv 2) (pa_cons (pe_op op_mod (pe_op op_fdiv (pv 1) pe_int) pe_int) (pa_cons (pe_op op_mod (pe_op op_fdiv (pv 1) pe_int) pe_int) pa_nil)))) (pv 3) (nomark _))
          (pss_one (ps_ret pe_bl)) pss_nil)))))
      (pss_one (ps_ret (pe_and (pe_cmpR op_eq (pe_callB call_len_seq (by rfl) T.b.len PySem.boot_len (pa_cons (pe_call NE (hr.mono (by decide)) (by rfl) T.nearly.g T.nearly.F.kp T.nearly.b .nil (passes_call (takes_of rfl rfl rfl rfl) (fun _ _ _ _ h => h)) (pa_cons pe_int (pa_cons (pe_op op_rep (pe_lst (pa_cons (pe_tup (pa_cons pe_int (pa_cons pe_int pa_nil))) pa_nil)) pe_int) pa_nil))) pa_nil)) pe_int (nomark _))
        (pe_and (pe_cmpR (op_eqD hr.units) (pe_fld (pe_call SH (hr.mono (by decide)) (by rfl) T.shared.g T.shared.F.kp T.shared.b .nil (passes_call (takes_of rfl rfl rfl rfl) (fun _ _ _ _ h => h)) (pa_cons pe_int (pa_cons (pe_lst pa_nil) (pa_cons pe_int pa_nil)))) rfl) (pe_lst pa_nil) (nomark _))
          (pe_one (pe_cmpR (op_eqD hr.units) (pe_fld (pe_call HV (hr.mono (by decide)) (by rfl) T.halved.g T.halved.F.kp T.halved.b .nil (passes_call (takes_of rfl rfl rfl rfl) (fun _ _ _ _ h => h)) (pa_cons pe_int (pa_cons (pe_lst pa_nil) pa_nil))) rfl) (pe_lst pa_nil) (nomark _))))))), ?_⟩
    refine ⟨_, rfl, a, rfl, ⟨_, hS⟩, ?_⟩
    refine for_it (walk_list (K := K) (a := a) (xs := ns.map V.int)) (fun i σ H' => Same H H' ∧ ∃ x1 x2 x3 x4, σ = [some (.ref a), x1, x2, x3, x4]) ⟨.refl _, none, none, none, none, rfl⟩ (fun i σ H' _ p => p.1.seq hS) ?_ ?_
    · rintro i x σ H1 H2 hi ⟨s1, x1, x2, x3, x4, rfl⟩ ⟨rfl, hx⟩
      obtain ⟨c, _, rfl⟩ := List.mem_map.mp (List.mem_of_getElem? hx)
      refine ⟨_, rfl, _, _, rfl, rfl, (by show (0 : Int) < 3; decide), ?_⟩
      have hk0 : 0 ≤ c % 3 := by omega
      have hk3 : c % 3 < 3 := by omega
      show gName 2 (.int (c % 3)) _ _ _
      generalize c % 3 = k at hk0 hk3
      refine ⟨3, rfl, by decide, by decide, fun D hD => ?_⟩
      refine lc_map (walk_range0 (n := (3 : Int).toNat)) (fun i => .bl (decide (k = (i : Int)))) hD (by decide) (fun _ _ => trivial) yfn_same ?_ ?_
      · rintro j x H3 H4 κ hj s3 ⟨rfl, rfl⟩ hk
        refine ⟨rfl, _, rfl, _, rfl, rfl, ?_⟩
        show κ (.bl (decide (V.int k = V.int j))) _
        rw [show decide (V.int k = V.int j) = decide (k = (j : Int)) from by by_cases z : k = (j : Int) <;> simp [z]]
        exact hk _ (.refl _)
      · intro H3 s3 vD
        refine ⟨(by show 1 ≤ sizeLine; decide), fun b hb => ?_⟩
        have sb : Same H3 (upd H3 b (.lst [.bl true])) := same_new hb
        have vb : (upd H3 b (.lst [.bl true])) b = some (.lst [.bl true]) := upd_same
        generalize upd H3 b (.lst [.bl true]) = H4 at sb vb
        refine ⟨D, b, _, _, rfl, rfl, sb _ _ vD, vb, (by show 3 + 1 ≤ sizeLine; decide), fun e he => ?_⟩
        have se : Same H4 (upd H4 e (.lst ([.bl (decide (k = ((0 : Nat) : Int))), .bl (decide (k = ((1 : Nat) : Int))), .bl (decide (k = ((2 : Nat) : Int)))] ++ [.bl true]))) := same_new he
        have ve : (upd H4 e (.lst ([.bl (decide (k = ((0 : Nat) : Int))), .bl (decide (k = ((1 : Nat) : Int))), .bl (decide (k = ((2 : Nat) : Int)))] ++ [.bl true]))) e = some (.lst [.bl (decide (k = 0)), .bl (decide (k = 1)), .bl (decide (k = 2)), .bl true]) := upd_same
        show gName 3 (.ref e) _ (upd H4 e (.lst ([.bl (decide (k = ((0 : Nat) : Int))), .bl (decide (k = ((1 : Nat) : Int))), .bl (decide (k = ((2 : Nat) : Int)))] ++ [.bl true]))) _
        generalize upd H4 e (.lst ([.bl (decide (k = ((0 : Nat) : Int))), .bl (decide (k = ((1 : Nat) : Int))), .bl (decide (k = ((2 : Nat) : Int)))] ++ [.bl true])) = H5 at se ve
        have s5 : Same H H5 := ((s1.trans s3).trans sb).trans se
        refine ⟨_, rfl, _, rfl, _, _, rfl, rfl, ⟨by decide, by decide⟩, _, _, rfl, rfl, (by show (0 : Int) < 100000; decide), _, rfl, _, _, rfl, rfl, ⟨by decide, by decide⟩, _, _, rfl, rfl, (by show (0 : Int) < 1000; decide), k, _, _, rfl, hk0, hk3, by omega, by omega, fun H6 p s6 hp0 hp => ?_⟩
        have dp : ∀ q : Addr, H6 q = some (.lst [.bl (decide (k = 0)), .bl (decide (k = 1)), .bl (decide (k = 2)), .bl true]) → Dp K H6 (.ref q) (.list [.bool (decide (k = 0)), .bool (decide (k = 1)), .bool (decide (k = 2)), .bool true]) :=
          fun q hq => .lst (SqL.of hq) (.cons (.bl _) (.cons (.bl _) (.cons (.bl _) (.cons (.bl _) .nil))))
        refine ⟨_, rfl, _, _, dp p hp, dp e (s6 _ _ ve), rfl, rfl, ?_⟩
        have ee : PyData.eqv (.list [.bool (decide (k = 0)), .bool (decide (k = 1)), .bool (decide (k = 2)), .bool true]) (.list [.bool (decide (k = 0)), .bool (decide (k = 1)), .bool (decide (k = 2)), .bool true]) = true := by
          rcases (by omega : k = 0 ∨ k = 1 ∨ k = 2) with rfl | rfl | rfl <;> rfl
        rw [ee]
        exact ⟨_, rfl, iteF ⟨s5.trans s6, _, _, _, _, rfl⟩⟩
    · rintro σ H1 ⟨s1, x1, x2, x3, x4, rfl⟩
      refine ⟨(by show 2 ≤ sizeLine; decide), fun t0 ht0 => ?_⟩
      have st0 : Same H1 (upd H1 t0 (.tup [.int 0, .int 39])) := same_new ht0
      have vt0 : (upd H1 t0 (.tup [.int 0, .int 39])) t0 = some (.tup [.int 0, .int 39]) := upd_same
      generalize upd H1 t0 (.tup [.int 0, .int 39]) = H2 at st0 vt0
      refine ⟨(by show 1 ≤ sizeLine; decide), fun t1 ht1 => ?_⟩
      have st1 : Same H2 (upd H2 t1 (.lst [.ref t0])) := same_new ht1
      have vt1 : (upd H2 t1 (.lst [.ref t0])) t1 = some (.lst [.ref t0]) := upd_same
      generalize upd H2 t1 (.lst [.ref t0]) = H3 at st1 vt1
      refine ⟨t1, 120, [.ref t0], rfl, rfl, vt1, by decide, by decide, (by show 1 * Int.toNat 120 ≤ sizeLine; decide), fun t2 ht2 => ?_⟩
      have st2 : Same H3 (upd H3 t2 (.lst (List.replicate (Int.toNat 120) [.ref t0]).flatten)) := same_new ht2
      have vt2 : (upd H3 t2 (.lst (List.replicate (Int.toNat 120) [.ref t0]).flatten)) t2 = some (.lst (List.replicate 120 (.ref t0))) := by rw [upd_same, rep_one]; rfl
      generalize upd H3 t2 (.lst (List.replicate (Int.toNat 120) [.ref t0]).flatten) = H4 at st2 vt2
      have tt : ∀ (H' : Hp), Same H4 H' → TiesV H' t2 (List.replicate 120 (0, 39)) := fun H' s' => by
        refine ⟨List.replicate 120 t0, ?_, ?_⟩
        · rw [List.map_replicate]; exact s' _ _ vt2
        · have q0 : H' t0 = some (.tup (tV (0, 39))) := s' _ _ (st2 _ _ (st1 _ _ vt0))
          generalize 120 = m
          induction m with
          | zero => exact .nil
          | succ m ih => rw [List.replicate_succ, List.replicate_succ]; exact .cons q0 ih
      have okR : Ok 40 (List.replicate 120 (0, 39)) := fun t ht => by rw [(List.mem_replicate.mp ht).2]; decide
      refine ⟨nV 40, .ref t2, .ok, rfl, WebV.of (by decide) (by decide) (tt H4 (.refl _)) okR (by decide), ?_⟩
      intro n a' ts e1 e2 ht ok hl h1 h2 H5 p s5 hp0 hp
      have e1 : n = 40 := by
        have : ((40 : Nat) : Int) = (n : Int) := by injection e1
        omega
      cases e2
      have e3 : ts.length = 120 := by
        obtain ⟨as, h3, h4⟩ := ht
        rw [← paired_length h4]
        have : some (HO.lst (List.replicate 120 (V.ref t0))) = some (HO.lst (as.map V.ref)) := vt2.symm.trans h3
        injection this with this
        injection this with this
        have := congrArg List.length this
        simpa using this.symm
      refine ⟨p, _, rfl, .inl (SqL.of hp), rfl, true, ?_, ?_⟩
      · rw [nL_len, twoColours_len, e3]
        rfl
      refine iteT ?_
      refine ⟨(by show 0 ≤ sizeLine; decide), fun l0 hl0 => ?_⟩
      have s6 := same_new (o := .lst []) hl0
      have v6 : (upd H5 l0 (.lst [])) l0 = some (.lst []) := upd_same
      generalize upd H5 l0 (.lst []) = H6 at s6 v6
      refine ⟨nV 1, .ref l0, nV 1, .ok, true, rfl, WebV.of (ts := []) (by decide) (by decide) ⟨[], v6, .nil⟩ (fun t ht => by cases ht) (by decide), .int _, fun z => absurd (by omega) (z 1 rfl), ?_⟩
      intro n m a' ts e1 e2 e3 hm ht ok hl h1 h2
      have e1 : n = 1 := by
        have : ((1 : Nat) : Int) = (n : Int) := by injection e1
        omega
      have e3 : m = 1 := by
        have : ((1 : Nat) : Int) = (m : Int) := by injection e3
        omega
      subst e1 e3
      refine ⟨by decide, fun H7 x s7 hA => ?_⟩
      cases e2
      have ets : ts = [] := by
        obtain ⟨as, h3, h4⟩ := ht
        have : some (HO.lst []) = some (HO.lst (as.map V.ref)) := v6.symm.trans h3
        injection this with this
        injection this with this
        have h5 := congrArg List.length this
        have h6 := paired_length h4
        simp at h5
        exact List.length_eq_zero_iff.mp (by rw [← h6, ← h5])
      subst ets
      rcases hA with ⟨r, _, hr⟩ | ⟨cols, side, ⟨dx, l, g1, g2, _⟩, hev, _⟩
      · exact (ringOk_nil hr).elim
      · have ec : cols = [] := List.length_eq_zero_iff.mp hev.len
        subst ec
        refine ⟨x, _, dx, _, _, rfl, g1, T.shares.cl, T.shares.nF, rfl, (by show 0 ≤ sizeLine; decide), fun l1 hl1 => ?_⟩
        have s8 := same_new (o := .lst []) hl1
        have v8 : (upd H7 l1 (.lst [])) l1 = some (.lst []) := upd_same
        generalize upd H7 l1 (.lst []) = H8 at s8 v8
        refine ⟨.list [], .list [], .lst (SqL.of (s8 _ _ g2)) .nil, .lst (SqL.of v8) .nil, rfl, rfl, true, rfl, iteT ?_⟩
        refine ⟨(by show 0 ≤ sizeLine; decide), fun l2 hl2 => ?_⟩
        have s9 := same_new (o := .lst []) hl2
        have v9 : (upd H8 l2 (.lst [])) l2 = some (.lst []) := upd_same
        generalize upd H8 l2 (.lst []) = H9 at s9 v9
        refine ⟨nV 1, .ref l2, .ok, rfl, WebV.of (ts := []) (by decide) (by decide) ⟨[], v9, .nil⟩ (fun t ht => by cases ht) (by decide), ?_⟩
        intro n a' ts e1 e2 ht ok hl h1 h2 H10 y s10 hA
        have e1 : n = 1 := by
          have : ((1 : Nat) : Int) = (n : Int) := by injection e1
          omega
        subst e1
        cases e2
        have ets : ts = [] := by
          obtain ⟨as, h3, h4⟩ := ht
          have : some (HO.lst []) = some (HO.lst (as.map V.ref)) := v9.symm.trans h3
          injection this with this
          injection this with this
          have h5 := congrArg List.length this
          have h6 := paired_length h4
          simp at h5
          exact List.length_eq_zero_iff.mp (by rw [← h6, ← h5])
        subst ets
        rw [firstBar_nil] at hA
        have et : twoColours 1 [] = [] := List.length_eq_zero_iff.mp (by rw [twoColours_len]; rfl)
        rw [et] at hA
        obtain ⟨dy, l, g3, g4, _⟩ := hA
        refine ⟨y, _, dy, _, _, rfl, g3, T.even.cl, T.even.nF, rfl, (by show 0 ≤ sizeLine; decide), fun l3 hl3 => ?_⟩
        have s11 := same_new (o := .lst []) hl3
        have v11 : (upd H10 l3 (.lst [])) l3 = some (.lst []) := upd_same
        generalize upd H10 l3 (.lst []) = H11 at s11 v11
        refine ⟨.list [], .list [], .lst (SqL.of (s11 _ _ g4)) .nil, .lst (SqL.of v11) .nil, rfl, rfl, ?_⟩
        exact hQ _
end
end TT
namespace TT
open PySem L2
/-! ### the end: facts of the written part -/
section
variable {K : PySem.W.Frag} {h : Heap} {mg : PySem.Str → Option Value}
def DefF (K : PySem.W.Frag) (x : PySem.Str) (st : Stmt) : Prop := ∃ f fd, PySem.W.nsIn K mainGlobals x = some (some (.ref f)) ∧ Fun K x x st f fd
theorem defF {x : PySem.Str} {st : Stmt} {f : Addr} {oc : Value} {od an : Option Addr} {osl : Array (Option Value)} {kV doc pm cdv ct : Value} (a : PySem.W.nsIn K mainGlobals x = some (some (.ref f)))
    (l : K.lookup f = some ⟨oc, od, .func (PySem.W.fnOf x x (defArgs st) (defBody st) (defScope st) .none kV doc pm an cdv ct), osl⟩) (c : PySem.W.codeIn K cdv x = true) (k : PySem.W.keepIn K (.ref f) = true) : DefF K x st := ⟨f, _, a, fun_mk l c k⟩
theorem DefF.at {x : PySem.Str} {st : Stmt} (d : DefF K x st) (X : K.In h) (G : h.Ns mainGlobals mg) (ps : List PySem.Str)
    (hb : ∀ (kV doc pm : Value) (an : Option Addr) (cdv ct : Value) (us : List Value), us.length = ps.length → bindArgs (PySem.W.fnOf x x (defArgs st) (defBody st) (defScope st) .none kV doc pm an cdv ct) ⟨us, []⟩ = pure (ps.zip us)) : Nonempty (DefAt K mg x st ps) := by
  obtain ⟨f, fd, a, F⟩ := d
  exact ⟨⟨f, fd, F, PySem.W.mg_of X G a, F.binds hb⟩⟩
def ClsF (K : PySem.W.Frag) (x qual fld : PySem.Str) (st : Stmt) : Prop := ∃ C fI fdI, PySem.W.nsIn K mainGlobals x = some (some (.ref C)) ∧ Cls K C ∧ NoAttr K C fld ∧ Mk K C fI ∧ Fun K "__init__" qual st fI fdI
theorem clsF {x qual fld : PySem.Str} {st : Stmt} {C f : Addr} {oc : Value} {od an : Option Addr} {osl : Array (Option Value)} {kV doc pm cdv ct : Value} (a : PySem.W.nsIn K mainGlobals x = some (some (.ref C)))
    (pg : PySem.W.plainGet K C Str.empty = true) (hd : PySem.W.hasDictIn K C = true) (po : PySem.W.plainOver K C = true) (sa : PySem.W.findIn K (.ref C) "__setattr__" = some (some (.builtin "object.__setattr__")))
    (nF : PySem.W.findIn K (.ref C) fld = some none) (mk : PySem.W.makesIn K C = true) (init : PySem.W.findIn K (.ref C) "__init__" = some (some (.ref f))) (fn : PySem.W.isFn K (.ref f) = true) (kp : PySem.W.keepIn K (.ref C) = true)
    (l : K.lookup f = some ⟨oc, od, .func (PySem.W.fnOf "__init__" qual (defArgs st) (defBody st) (defScope st) .none kV doc pm an cdv ct), osl⟩) (c : PySem.W.codeIn K cdv qual = true) (k : PySem.W.keepIn K (.ref f) = true) : ClsF K x qual fld st :=
  ⟨C, f, _, a, ⟨pg, hd, po, sa⟩, nF, ⟨mk, init, fn, kp⟩, fun_mk l c k⟩
theorem ClsF.at {x qual fld : PySem.Str} {st : Stmt} (d : ClsF K x qual fld st) (X : K.In h) (G : h.Ns mainGlobals mg)
    (hb : ∀ (kV doc pm : Value) (an : Option Addr) (cdv ct : Value) (us : List Value), us.length = 2 → bindArgs (PySem.W.fnOf "__init__" qual (defArgs st) (defBody st) (defScope st) .none kV doc pm an cdv ct) ⟨us, []⟩ = pure ([("self" : PySem.Str), fld].zip us)) : Nonempty (AnsCls K mg x qual fld st) := by
  obtain ⟨C, f, fd, a, cl, nF, mk, F⟩ := d
  exact ⟨⟨C, PySem.W.mg_of X G a, cl, nF, f, fd, mk, F, F.binds hb⟩⟩
def ExcF (K : PySem.W.Frag) (x : PySem.Str) : Prop := ∃ C, PySem.W.nsIn K mainGlobals x = some (some (.ref C)) ∧ PySem.W.excIn K C [.type "ValueError", .type "Exception", .type "BaseException", .type "object"] "ValueError.__new__" = true ∧ PySem.W.keepIn K (.ref C) = true ∧ PySem.W.subIn K (.ref C) (.type "BaseException") = some true ∧ PySem.W.typeIn K (.ref C) = some (.type "type")
theorem excF {x : PySem.Str} {C : Addr} (a : PySem.W.nsIn K mainGlobals x = some (some (.ref C))) (x1 : PySem.W.excIn K C [.type "ValueError", .type "Exception", .type "BaseException", .type "object"] "ValueError.__new__" = true) (k : PySem.W.keepIn K (.ref C) = true)
    (b : PySem.W.subIn K (.ref C) (.type "BaseException") = some true) (t : PySem.W.typeIn K (.ref C) = some (.type "type")) : ExcF K x := ⟨C, a, x1, k, b, t⟩
theorem ExcF.at {x : PySem.Str} (d : ExcF K x) (X : K.In h) (G : h.Ns mainGlobals mg) : Nonempty (ExcAt K mg x) := by
  obtain ⟨C, a, h1, h2, h3, h4⟩ := d
  exact ⟨⟨C, PySem.W.mg_of X G a, h1, h2, h3, h4⟩⟩
def CstF (K : PySem.W.Frag) (x : PySem.Str) (i : Int) : Prop := ∃ t, PySem.W.nsIn K mainGlobals x = some (some (.int i t))
theorem cstF {x : PySem.Str} {i : Int} {t} (a : PySem.W.nsIn K mainGlobals x = some (some (.int i t))) : CstF K x i := ⟨t, a⟩
theorem CstF.at {x : PySem.Str} {i : Int} (d : CstF K x i) (X : K.In h) (G : h.Ns mainGlobals mg) : ∃ t, mg x = some (.int i t) := by
  obtain ⟨t, a⟩ := d
  exact ⟨t, PySem.W.mg_of X G a⟩
def ExcCF (K : PySem.W.Frag) (x : PySem.Str) : Prop := ∃ D, PySem.W.nsIn K mainGlobals x = some (some (.ref D)) ∧ ExcC K D
theorem excCF {x : PySem.Str} {D : Addr} (a : PySem.W.nsIn K mainGlobals x = some (some (.ref D)))
    (hg : PySem.W.findIn K (.ref D) "__getattribute__" = some (some (.builtin "BaseException.__getattribute__"))) (hk : PySem.W.findIn K (.ref D) "__getattr__" = some none) (hs : PySem.W.subIn K (.ref D) (.type "BaseException") = some true) (hd : PySem.W.hasDictIn K D = true)
    (ha : PySem.W.findIn K (.ref D) "__class__" = some (some (.builtin "object.__class__"))) (hn : PySem.W.specialIn K (.builtin "object.__class__") "__get__" = some (some (.builtin "getset_descriptor.__get__"))) (ht : PySem.W.takesIn K (.builtin "object.__class__") = some true) (hm : PySem.W.mroIn K D (.type "object") = some true) : ExcCF K x := ⟨D, a, ⟨hg, hk, hs, hd, ha, hn, ht, hm⟩⟩
theorem ExcCF.at {x : PySem.Str} {C : Addr} (d : ExcCF K x) (X : K.In h) (G : h.Ns mainGlobals mg) (g : mg x = some (.ref C)) : ExcC K C := by
  obtain ⟨D, a, e⟩ := d
  have := g.symm.trans (PySem.W.mg_of X G a)
  cases this
  exact e
/-- an error of the class x is what «except y» names, or not -/
def ExmF (K : PySem.W.Frag) (x y : PySem.Str) (b : Bool) : Prop := ∃ C D, PySem.W.nsIn K mainGlobals x = some (some (.ref C)) ∧ PySem.W.nsIn K mainGlobals y = some (some (.ref D)) ∧ PySem.W.exmOne K (.ref C) (.ref D) = some b
theorem exmF {x y : PySem.Str} {b : Bool} {C D : Addr} (a : PySem.W.nsIn K mainGlobals x = some (some (.ref C))) (a2 : PySem.W.nsIn K mainGlobals y = some (some (.ref D)))
    (h1 : PySem.W.subIn K (.ref D) (.type "BaseException") = some true) (h2 : PySem.W.isClsIn K D = true) (h3 : PySem.W.typeIn K (.ref D) = some (.type "type")) (h4 : PySem.W.subIn K (.ref C) (.ref D) = some b) : ExmF K x y b := by
  refine ⟨C, D, a, a2, ?_⟩
  have e1 : (PySem.W.subIn K (.ref D) (.type "BaseException") == some true) = true := by rw [h1] <;> rfl
  have e2 : ((PySem.W.clsIn K D).isSome && PySem.W.typeIn K (.ref D) == some (.type "type")) = true := by
    have h2' : (PySem.W.clsIn K D).isSome = true := h2
    rw [h2', h3] <;> rfl
  unfold PySem.W.exmOne PySem.W.kitCls
  rw [if_pos e1]
  dsimp only
  rw [if_pos e2]
  exact h4
theorem ExmF.at {x y : PySem.Str} {b : Bool} {C D : Addr} (d : ExmF K x y b) (X : K.In h) (G : h.Ns mainGlobals mg) (g : mg x = some (.ref C)) (g2 : mg y = some (.ref D)) : PySem.W.exmOne K (.ref C) (.ref D) = some b := by
  obtain ⟨C', D', a, a2, e⟩ := d
  have e1 := g.symm.trans (PySem.W.mg_of X G a)
  have e2 := g2.symm.trans (PySem.W.mg_of X G a2)
  cases e1
  cases e2
  exact e
/-- isinstance of an error of the class x and the class y -/
def KitF (K : PySem.W.Frag) (x y : PySem.Str) (b : Bool) : Prop := ∃ C D, PySem.W.nsIn K mainGlobals x = some (some (.ref C)) ∧ PySem.W.nsIn K mainGlobals y = some (some (.ref D)) ∧ PySem.W.kitOne K (.ref C) (.ref D) = some b
theorem kit_eq {C : Addr} : PySem.W.kitOne K (.ref C) (.ref C) = some true := by
  unfold PySem.W.kitOne
  rw [if_pos (by simp)]
theorem kitF {x y : PySem.Str} {b : Bool} {C D : Addr} (a : PySem.W.nsIn K mainGlobals x = some (some (.ref C))) (a2 : PySem.W.nsIn K mainGlobals y = some (some (.ref D)))
    (h0 : (C == D) = false) (h2 : PySem.W.isClsIn K D = true) (h3 : PySem.W.typeIn K (.ref D) = some (.type "type")) (h4 : PySem.W.subIn K (.ref C) (.ref D) = some b) : KitF K x y b := by
  refine ⟨C, D, a, a2, ?_⟩
  have e0 : C ≠ D := by
    intro z
    rw [z] at h0
    simp at h0
  have e2 : ((PySem.W.clsIn K D).isSome && PySem.W.typeIn K (.ref D) == some (.type "type")) = true := by
    have h2' : (PySem.W.clsIn K D).isSome = true := h2
    rw [h2', h3] <;> rfl
  unfold PySem.W.kitOne PySem.W.kitCls
  rw [if_neg (by simpa using e0)]
  dsimp only
  rw [if_pos e2]
  exact h4
theorem KitF.at {x y : PySem.Str} {b : Bool} {C D : Addr} (d : KitF K x y b) (X : K.In h) (G : h.Ns mainGlobals mg) (g : mg x = some (.ref C)) (g2 : mg y = some (.ref D)) : PySem.W.kitOne K (.ref C) (.ref D) = some b := by
  obtain ⟨C', D', a, a2, e⟩ := d
  have e1 := g.symm.trans (PySem.W.mg_of X G a)
  have e2 := g2.symm.trans (PySem.W.mg_of X G a2)
  cases e1
  cases e2
  exact e
def KitT (K : PySem.W.Frag) (x : PySem.Str) (t : String) : Prop := ∃ C, PySem.W.nsIn K mainGlobals x = some (some (.ref C)) ∧ PySem.W.kitOne K (.ref C) (.type t) = some true
theorem kitT {x : PySem.Str} {t : String} {C : Addr} (a : PySem.W.nsIn K mainGlobals x = some (some (.ref C))) (hm : PySem.W.kitMeta t = true) (h4 : PySem.W.subIn K (.ref C) (.type t) = some true) : KitT K x t := by
  refine ⟨C, a, ?_⟩
  unfold PySem.W.kitOne PySem.W.kitCls
  rw [if_neg (by simp)]
  dsimp only
  rw [if_pos hm]
  exact h4
theorem KitT.at {x : PySem.Str} {t : String} {C : Addr} (d : KitT K x t) (X : K.In h) (G : h.Ns mainGlobals mg) (g : mg x = some (.ref C)) : PySem.W.kitOne K (.ref C) (.type t) = some true := by
  obtain ⟨C', a, e⟩ := d
  have e1 := g.symm.trans (PySem.W.mg_of X G a)
  cases e1
  exact e
def NameF (K : PySem.W.Frag) (x : PySem.Str) : Prop := ∃ C, PySem.W.nsIn K mainGlobals x = some (some (.ref C))
theorem nameF {x : PySem.Str} {C : Addr} (a : PySem.W.nsIn K mainGlobals x = some (some (.ref C))) : NameF K x := ⟨C, a⟩
end
end TT
namespace TT
open PySem L2
theorem all_mk {P : Program} {w : World} {K : PySem.W.Frag} {h : Heap} {mg : PySem.Str → Option Value} {fa : Addr} (X : K.In h) (G : h.Ns mainGlobals mg) (hfa : mg "law" = some (.ref fa))
    (d_is_whole : DefF K "is_whole" s_is_whole)
    (d_all_within : DefF K "all_within" s_all_within)
    (d_is_tie : DefF K "is_tie" s_is_tie)
    (d_check_web : DefF K "check_web" s_check_web)
    (d_ties_at : DefF K "ties_at" s_ties_at)
    (d_far_end : DefF K "far_end" s_far_end)
    (d_reach_from : DefF K "reach_from" s_reach_from)
    (d_part_of : DefF K "part_of" s_part_of)
    (d_parts_of : DefF K "parts_of" s_parts_of)
    (d_bars_two : DefF K "bars_two" s_bars_two)
    (d_two_colours : DefF K "two_colours" s_two_colours)
    (d_odd_ends : DefF K "odd_ends" s_odd_ends)
    (d_round_from : DefF K "round_from" s_round_from)
    (d_take_tie : DefF K "take_tie" s_take_tie)
    (d_halved : DefF K "halved" s_halved)
    (d_nearly : DefF K "nearly" s_nearly)
    (d_shared : DefF K "shared" s_shared)
    (d_odd_ring : DefF K "odd_ring" s_odd_ring)
    (d_close_ring : DefF K "close_ring" s_close_ring)
    (d_way_up : DefF K "way_up" s_way_up)
    (d_share_out : DefF K "share_out" s_share_out)
    (d_spots_of : DefF K "spots_of" s_spots_of)
    (d_rows_of : DefF K "rows_of" s_rows_of)
    (d_least_free : DefF K "least_free" s_least_free)
    (d_chain_from : DefF K "chain_from" s_chain_from)
    (d_tie_of : DefF K "tie_of" s_tie_of)
    (d_law_with_web : DefF K "_law_with_web" s_with_web)
    (d_law_bad_ties : DefF K "_law_bad_ties" s_bad_ties)
    (d_law_told : DefF K "_law_told" s_told)
    (d_law : DefF K "law" s_law)
    (c_Even : ClsF K "Even" "Even.__init__" "colours" s_Even_init)
    (c_Odd : ClsF K "Odd" "Odd.__init__" "some" s_Odd_init)
    (c_Shares : ClsF K "Shares" "Shares.__init__" "colours" s_Shares_init)
    (c_Ring : ClsF K "Ring" "Ring.__init__" "ring" s_Ring_init)
    (x_BadPlaces : ExcF K "BadPlaces")
    (x_BadTies : ExcF K "BadTies")
    (x_BadMany : ExcF K "BadMany")
    (xc_BadPlaces : ExcCF K "BadPlaces")
    (xc_BadTies : ExcCF K "BadTies")
    (xc_BadMany : ExcCF K "BadMany")
    (ex_BadPlaces : ExmF K "BadPlaces" "TieError" true)
    (ex_BadTies : ExmF K "BadTies" "TieError" true)
    (ex_BadMany : ExmF K "BadMany" "TieError" true)
    (ki_BadPlaces_BadTies : KitF K "BadPlaces" "BadTies" false)
    (ki_BadPlaces_BadMany : KitF K "BadPlaces" "BadMany" false)
    (kv_BadPlaces : KitT K "BadPlaces" "ValueError")
    (ki_BadTies_BadPlaces : KitF K "BadTies" "BadPlaces" false)
    (ki_BadTies_BadMany : KitF K "BadTies" "BadMany" false)
    (kv_BadTies : KitT K "BadTies" "ValueError")
    (ki_BadMany_BadPlaces : KitF K "BadMany" "BadPlaces" false)
    (ki_BadMany_BadTies : KitF K "BadMany" "BadTies" false)
    (kv_BadMany : KitT K "BadMany" "ValueError")
    (n_tie : NameF K "TieError")
    (k_MOST_PLACES : CstF K "MOST_PLACES" 40)
    (k_MOST_TIES : CstF K "MOST_TIES" 120)
    (b_isinstance : PySem.W.nsIn K mainGlobals "isinstance" = some none)
    (b_int : PySem.W.nsIn K mainGlobals "int" = some none)
    (b_bool : PySem.W.nsIn K mainGlobals "bool" = some none)
    (b_tuple : PySem.W.nsIn K mainGlobals "tuple" = some none)
    (b_list : PySem.W.nsIn K mainGlobals "list" = some none)
    (b_len : PySem.W.nsIn K mainGlobals "len" = some none)
    (b_all : PySem.W.nsIn K mainGlobals "all" = some none)
    (b_enumerate : PySem.W.nsIn K mainGlobals "enumerate" = some none)
    (b_range : PySem.W.nsIn K mainGlobals "range" = some none)
    (b_sum : PySem.W.nsIn K mainGlobals "sum" = some none)
    (b_ValueError : PySem.W.nsIn K mainGlobals "ValueError" = some none)
    : ∃ fd : FuncData, (∀ (s : Shared) (v : Value), BindsTo s fd ⟨[v], []⟩ [("_law_script", v)]) ∧ ∀ base : Heap, K.In base → base.Ns mainGlobals mg → FnOk P w K mg base (L2.CX P w) 9 fa fd ["_law_script"] (spLaw K) := by
  have ⟨D_is_whole⟩ := d_is_whole.at X G ["x"] (fun _ _ _ _ _ _ us hl => match us, hl with | [_], _ => rfl)
  have ⟨D_all_within⟩ := d_all_within.at X G ["numbers", "bound"] (fun _ _ _ _ _ _ us hl => match us, hl with | [_, _], _ => rfl)
  have ⟨D_is_tie⟩ := d_is_tie.at X G ["x", "places"] (fun _ _ _ _ _ _ us hl => match us, hl with | [_, _], _ => rfl)
  have ⟨D_check_web⟩ := d_check_web.at X G ["places", "ties"] (fun _ _ _ _ _ _ us hl => match us, hl with | [_, _], _ => rfl)
  have ⟨D_ties_at⟩ := d_ties_at.at X G ["place", "ties"] (fun _ _ _ _ _ _ us hl => match us, hl with | [_, _], _ => rfl)
  have ⟨D_far_end⟩ := d_far_end.at X G ["tie", "place"] (fun _ _ _ _ _ _ us hl => match us, hl with | [_, _], _ => rfl)
  have ⟨D_reach_from⟩ := d_reach_from.at X G ["root", "ties"] (fun _ _ _ _ _ _ us hl => match us, hl with | [_, _], _ => rfl)
  have ⟨D_part_of⟩ := d_part_of.at X G ["start", "places", "ties"] (fun _ _ _ _ _ _ us hl => match us, hl with | [_, _, _], _ => rfl)
  have ⟨D_parts_of⟩ := d_parts_of.at X G ["places", "ties"] (fun _ _ _ _ _ _ us hl => match us, hl with | [_, _], _ => rfl)
  have ⟨D_bars_two⟩ := d_bars_two.at X G ["part", "ties"] (fun _ _ _ _ _ _ us hl => match us, hl with | [_, _], _ => rfl)
  have ⟨D_two_colours⟩ := d_two_colours.at X G ["places", "ties"] (fun _ _ _ _ _ _ us hl => match us, hl with | [_, _], _ => rfl)
  have ⟨D_odd_ends⟩ := d_odd_ends.at X G ["places", "ties"] (fun _ _ _ _ _ _ us hl => match us, hl with | [_, _], _ => rfl)
  have ⟨D_round_from⟩ := d_round_from.at X G ["start", "ties", "left", "used"] (fun _ _ _ _ _ _ us hl => match us, hl with | [_, _, _, _], _ => rfl)
  have ⟨D_take_tie⟩ := d_take_tie.at X G ["row", "used"] (fun _ _ _ _ _ _ us hl => match us, hl with | [_, _], _ => rfl)
  have ⟨D_halved⟩ := d_halved.at X G ["places", "ties"] (fun _ _ _ _ _ _ us hl => match us, hl with | [_, _], _ => rfl)
  have ⟨D_nearly⟩ := d_nearly.at X G ["places", "ties"] (fun _ _ _ _ _ _ us hl => match us, hl with | [_, _], _ => rfl)
  have ⟨D_shared⟩ := d_shared.at X G ["places", "ties", "many"] (fun _ _ _ _ _ _ us hl => match us, hl with | [_, _, _], _ => rfl)
  have ⟨D_odd_ring⟩ := d_odd_ring.at X G ["places", "ties"] (fun _ _ _ _ _ _ us hl => match us, hl with | [_, _], _ => rfl)
  have ⟨D_close_ring⟩ := d_close_ring.at X G ["k", "ties", "reached"] (fun _ _ _ _ _ _ us hl => match us, hl with | [_, _, _], _ => rfl)
  have ⟨D_way_up⟩ := d_way_up.at X G ["place", "ties", "reached"] (fun _ _ _ _ _ _ us hl => match us, hl with | [_, _, _], _ => rfl)
  have ⟨D_share_out⟩ := d_share_out.at X G ["places", "ties", "many"] (fun _ _ _ _ _ _ us hl => match us, hl with | [_, _, _], _ => rfl)
  have ⟨D_spots_of⟩ := d_spots_of.at X G ["places", "ties", "many"] (fun _ _ _ _ _ _ us hl => match us, hl with | [_, _, _], _ => rfl)
  have ⟨D_rows_of⟩ := d_rows_of.at X G ["spots"] (fun _ _ _ _ _ _ us hl => match us, hl with | [_], _ => rfl)
  have ⟨D_least_free⟩ := d_least_free.at X G ["row", "colours"] (fun _ _ _ _ _ _ us hl => match us, hl with | [_, _], _ => rfl)
  have ⟨D_chain_from⟩ := d_chain_from.at X G ["spot", "two", "spots", "rows", "colours"] (fun _ _ _ _ _ _ us hl => match us, hl with | [_, _, _, _, _], _ => rfl)
  have ⟨D_tie_of⟩ := d_tie_of.at X G ["colour", "row", "colours"] (fun _ _ _ _ _ _ us hl => match us, hl with | [_, _, _], _ => rfl)
  have ⟨D_law_with_web⟩ := d_law_with_web.at X G ["_law_door", "_law_places", "_law_ties"] (fun _ _ _ _ _ _ us hl => match us, hl with | [_, _, _], _ => rfl)
  have ⟨D_law_bad_ties⟩ := d_law_bad_ties.at X G ["_law_which", "_law_more"] (fun _ _ _ _ _ _ us hl => match us, hl with | [_, _], _ => rfl)
  have ⟨D_law_told⟩ := d_law_told.at X G ["_law_kind", "_law_which", "_law_more"] (fun _ _ _ _ _ _ us hl => match us, hl with | [_, _, _], _ => rfl)
  have ⟨C_Even⟩ := c_Even.at X G (fun _ _ _ _ _ _ us hl => match us, hl with | [_, _], _ => rfl)
  have ⟨C_Odd⟩ := c_Odd.at X G (fun _ _ _ _ _ _ us hl => match us, hl with | [_, _], _ => rfl)
  have ⟨C_Shares⟩ := c_Shares.at X G (fun _ _ _ _ _ _ us hl => match us, hl with | [_, _], _ => rfl)
  have ⟨C_Ring⟩ := c_Ring.at X G (fun _ _ _ _ _ _ us hl => match us, hl with | [_, _], _ => rfl)
  have ⟨X_BadPlaces⟩ := x_BadPlaces.at X G
  have ⟨X_BadTies⟩ := x_BadTies.at X G
  have ⟨X_BadMany⟩ := x_BadMany.at X G
  obtain ⟨aT, nT⟩ := n_tie
  have gT := PySem.W.mg_of X G nT
  obtain ⟨f, fd, al, F⟩ := d_law
  have e := hfa.symm.trans (PySem.W.mg_of X G al)
  cases e
  have hb := F.binds (ps := ["_law_script"]) fun _ _ _ _ _ _ us hl => match us, hl with | [_], _ => rfl
  have b2 : ∀ (s : Shared) (v : Value), BindsTo s fd ⟨[v], []⟩ [("_law_script", v)] := by
    obtain ⟨⟨oc, od, kV, doc, pm, an, cdv, ct, osl, rfl, _⟩, _⟩ := F
    exact fun s v => .of_eq rfl
  let T : G7 K mg :=
    { b := ⟨PySem.W.mg_none_of X G b_isinstance, PySem.W.mg_none_of X G b_int, PySem.W.mg_none_of X G b_bool, PySem.W.mg_none_of X G b_tuple, PySem.W.mg_none_of X G b_list, PySem.W.mg_none_of X G b_len, PySem.W.mg_none_of X G b_all, PySem.W.mg_none_of X G b_enumerate, PySem.W.mg_none_of X G b_range, PySem.W.mg_none_of X G b_sum⟩
      MP := k_MOST_PLACES.at X G
      MT := k_MOST_TIES.at X G
      badPlaces := X_BadPlaces
      badTies := X_BadTies
      badMany := X_BadMany
      is_whole := D_is_whole
      all_within := D_all_within
      is_tie := D_is_tie
      check_web := D_check_web
      ties_at := D_ties_at
      far_end := D_far_end
      reach_from := D_reach_from
      part_of := D_part_of
      parts_of := D_parts_of
      bars_two := D_bars_two
      two_colours := D_two_colours
      odd_ends := D_odd_ends
      round_from := D_round_from
      take_tie := D_take_tie
      halved := D_halved
      nearly := D_nearly
      shared := D_shared
      odd_ring := D_odd_ring
      close_ring := D_close_ring
      way_up := D_way_up
      share_out := D_share_out
      spots_of := D_spots_of
      rows_of := D_rows_of
      least_free := D_least_free
      chain_from := D_chain_from
      tie_of := D_tie_of
      even := C_Even
      odd := C_Odd
      shares := C_Shares
      ring := C_Ring
      tie := aT
      gTie := gT
      xP := xc_BadPlaces.at X G X_BadPlaces.g
      eP := ex_BadPlaces.at X G X_BadPlaces.g gT
      iPV := kv_BadPlaces.at X G X_BadPlaces.g
      xT := xc_BadTies.at X G X_BadTies.g
      eT := ex_BadTies.at X G X_BadTies.g gT
      iTV := kv_BadTies.at X G X_BadTies.g
      xM := xc_BadMany.at X G X_BadMany.g
      eM := ex_BadMany.at X G X_BadMany.g gT
      iMV := kv_BadMany.at X G X_BadMany.g
      iPP := kit_eq
      iPT := ki_BadPlaces_BadTies.at X G X_BadPlaces.g X_BadTies.g
      iPM := ki_BadPlaces_BadMany.at X G X_BadPlaces.g X_BadMany.g
      iTP := ki_BadTies_BadPlaces.at X G X_BadTies.g X_BadPlaces.g
      iTT := kit_eq
      iTM := ki_BadTies_BadMany.at X G X_BadTies.g X_BadMany.g
      iMP := ki_BadMany_BadPlaces.at X G X_BadMany.g X_BadPlaces.g
      iMT := ki_BadMany_BadTies.at X G X_BadMany.g X_BadTies.g
      iMM := kit_eq
      vErr := PySem.W.mg_none_of X G b_ValueError
      withWeb := D_law_with_web
      badTiesD := D_law_bad_ties
      told := D_law_told
      law := ⟨fa, fd, F, hfa, hb⟩ }
  exact ⟨fd, b2, fun base _ _ => ok_law T⟩
theorem walk {l : PySem.W.OpenLaw} {q : Program} {loose : List PySem.Str} {XP : (PySem.Str → Option Value) → Heap → Prop} {YP : World → Heap → Prop} {d : DefRec} {K : Params → PySem.W.Frag} (hn : l.most = some 63) (hdf : d.params.defaults = [])
    (hY : ∀ (w : World) (h : Heap), YP w h → (K w.params).In h)
    (F : ∀ (w : World) (mg : PySem.Str → Option Value) (fa : Addr) (h : Heap), (K w.params).In h → h.Ns mainGlobals mg → mg d.name = some (.ref fa) →
      ∃ fd : FuncData, (∀ (s : Shared) (u : Value), BindsTo s fd ⟨[u], []⟩ [("_law_script", u)]) ∧ ∀ base : Heap, (K w.params).In base → base.Ns mainGlobals mg → FnOk l.prog w (K w.params) mg base (L2.CX l.prog w) 9 fa fd ["_law_script"] (spLaw (K w.params))) :
    PySem.W.WalkO q loose XP YP l.row.toRowW d [] (fun f vs => PySem.call f vs) :=
  L2.walk_of (n := 63) (k := 9) (x := "_law_script") (CX := fun w => L2.CX l.prog w) (sp := fun w => spLaw (K w.params)) hn (by decide) hdf ⟨rfl, by decide, by decide⟩ hY F (fun _ _ a ns _ _ hS => ⟨a, ns, rfl, hS, fun _ => rfl⟩)
    fun _ _ _ _ _ ⟨_, _, _, _, _, _, _, _, _, _, _, _, z⟩ => z
end TT

open PySem PySem.W PyProof.Rows in
set_option maxRecDepth 100000 in
set_option maxHeartbeats 0 in
theorem PySem.Challenge.cw_tiehalves_k05_refused_holds : PySem.Challenge.rw_tiehalves_k05_refused.Holds := by
  w_on; o_law; k_head; (case hw => w_witness2)
  k_fill
  refine TT.walk (l := PySem.Challenge.rw_tiehalves_k05_refused) rfl rfl (fun w h Y => PySem.W.kIn_of Y) ?F
  case F =>
    intro w mg fa h KX G hmg
    refine' TT.all_mk KX G hmg ?d_is_whole ?d_all_within ?d_is_tie ?d_check_web ?d_ties_at ?d_far_end ?d_reach_from ?d_part_of ?d_parts_of ?d_bars_two ?d_two_colours ?d_odd_ends ?d_round_from ?d_take_tie ?d_halved ?d_nearly ?d_shared ?d_odd_ring ?d_close_ring ?d_way_up ?d_share_out ?d_spots_of ?d_rows_of ?d_least_free ?d_chain_from ?d_tie_of ?d_law_with_web ?d_law_bad_ties ?d_law_told ?d_law ?c_Even ?c_Odd ?c_Shares ?c_Ring ?x_BadPlaces ?x_BadTies ?x_BadMany ?xc_BadPlaces ?xc_BadTies ?xc_BadMany ?ex_BadPlaces ?ex_BadTies ?ex_BadMany ?ki_BadPlaces_BadTies ?ki_BadPlaces_BadMany ?kv_BadPlaces ?ki_BadTies_BadPlaces ?ki_BadTies_BadMany ?kv_BadTies ?ki_BadMany_BadPlaces ?ki_BadMany_BadTies ?kv_BadMany ?n_tie ?k_MOST_PLACES ?k_MOST_TIES ?b_isinstance ?b_int ?b_bool ?b_tuple ?b_list ?b_len ?b_all ?b_enumerate ?b_range ?b_sum ?b_ValueError
    (case d_is_whole => (refine' TT.defF ?a ?l ?c ?k; (case a => k_is); (case l => k_is); (case c => k_is); (case k => k_is)))
    (case d_all_within => (refine' TT.defF ?a ?l ?c ?k; (case a => k_is); (case l => k_is); (case c => k_is); (case k => k_is)))
    (case d_is_tie => (refine' TT.defF ?a ?l ?c ?k; (case a => k_is); (case l => k_is); (case c => k_is); (case k => k_is)))
    (case d_check_web => (refine' TT.defF ?a ?l ?c ?k; (case a => k_is); (case l => k_is); (case c => k_is); (case k => k_is)))
    (case d_ties_at => (refine' TT.defF ?a ?l ?c ?k; (case a => k_is); (case l => k_is); (case c => k_is); (case k => k_is)))
    (case d_far_end => (refine' TT.defF ?a ?l ?c ?k; (case a => k_is); (case l => k_is); (case c => k_is); (case k => k_is)))
    (case d_reach_from => (refine' TT.defF ?a ?l ?c ?k; (case a => k_is); (case l => k_is); (case c => k_is); (case k => k_is)))
    (case d_part_of => (refine' TT.defF ?a ?l ?c ?k; (case a => k_is); (case l => k_is); (case c => k_is); (case k => k_is)))
    (case d_parts_of => (refine' TT.defF ?a ?l ?c ?k; (case a => k_is); (case l => k_is); (case c => k_is); (case k => k_is)))
    (case d_bars_two => (refine' TT.defF ?a ?l ?c ?k; (case a => k_is); (case l => k_is); (case c => k_is); (case k => k_is)))
    (case d_two_colours => (refine' TT.defF ?a ?l ?c ?k; (case a => k_is); (case l => k_is); (case c => k_is); (case k => k_is)))
    (case d_odd_ends => (refine' TT.defF ?a ?l ?c ?k; (case a => k_is); (case l => k_is); (case c => k_is); (case k => k_is)))
    (case d_round_from => (refine' TT.defF ?a ?l ?c ?k; (case a => k_is); (case l => k_is); (case c => k_is); (case k => k_is)))
    (case d_take_tie => (refine' TT.defF ?a ?l ?c ?k; (case a => k_is); (case l => k_is); (case c => k_is); (case k => k_is)))
    (case d_halved => (refine' TT.defF ?a ?l ?c ?k; (case a => k_is); (case l => k_is); (case c => k_is); (case k => k_is)))
    (case d_nearly => (refine' TT.defF ?a ?l ?c ?k; (case a => k_is); (case l => k_is); (case c => k_is); (case k => k_is)))
    (case d_shared => (refine' TT.defF ?a ?l ?c ?k; (case a => k_is); (case l => k_is); (case c => k_is); (case k => k_is)))
    (case d_odd_ring => (refine' TT.defF ?a ?l ?c ?k; (case a => k_is); (case l => k_is); (case c => k_is); (case k => k_is)))
    (case d_close_ring => (refine' TT.defF ?a ?l ?c ?k; (case a => k_is); (case l => k_is); (case c => k_is); (case k => k_is)))
    (case d_way_up => (refine' TT.defF ?a ?l ?c ?k; (case a => k_is); (case l => k_is); (case c => k_is); (case k => k_is)))
    (case d_share_out => (refine' TT.defF ?a ?l ?c ?k; (case a => k_is); (case l => k_is); (case c => k_is); (case k => k_is)))
    (case d_spots_of => (refine' TT.defF ?a ?l ?c ?k; (case a => k_is); (case l => k_is); (case c => k_is); (case k => k_is)))
    (case d_rows_of => (refine' TT.defF ?a ?l ?c ?k; (case a => k_is); (case l => k_is); (case c => k_is); (case k => k_is)))
    (case d_least_free => (refine' TT.defF ?a ?l ?c ?k; (case a => k_is); (case l => k_is); (case c => k_is); (case k => k_is)))
    (case d_chain_from => (refine' TT.defF ?a ?l ?c ?k; (case a => k_is); (case l => k_is); (case c => k_is); (case k => k_is)))
    (case d_tie_of => (refine' TT.defF ?a ?l ?c ?k; (case a => k_is); (case l => k_is); (case c => k_is); (case k => k_is)))
    (case d_law_with_web => (refine' TT.defF ?a ?l ?c ?k; (case a => k_is); (case l => k_is); (case c => k_is); (case k => k_is)))
    (case d_law_bad_ties => (refine' TT.defF ?a ?l ?c ?k; (case a => k_is); (case l => k_is); (case c => k_is); (case k => k_is)))
    (case d_law_told => (refine' TT.defF ?a ?l ?c ?k; (case a => k_is); (case l => k_is); (case c => k_is); (case k => k_is)))
    (case d_law => (refine' TT.defF ?a ?l ?c ?k; (case a => k_is); (case l => k_is); (case c => k_is); (case k => k_is)))
    (case c_Even => (refine' TT.clsF ?a ?pg ?hd ?po ?sa ?nF ?mk ?init ?fn ?kp ?l ?c ?k; (case a => k_is); (case pg => k_is); (case hd => k_is); (case po => k_is); (case sa => k_is); (case nF => k_is); (case mk => k_is); (case init => k_is); (case fn => k_is); (case kp => k_is); (case l => k_is); (case c => k_is); (case k => k_is)))
    (case c_Odd => (refine' TT.clsF ?a ?pg ?hd ?po ?sa ?nF ?mk ?init ?fn ?kp ?l ?c ?k; (case a => k_is); (case pg => k_is); (case hd => k_is); (case po => k_is); (case sa => k_is); (case nF => k_is); (case mk => k_is); (case init => k_is); (case fn => k_is); (case kp => k_is); (case l => k_is); (case c => k_is); (case k => k_is)))
    (case c_Shares => (refine' TT.clsF ?a ?pg ?hd ?po ?sa ?nF ?mk ?init ?fn ?kp ?l ?c ?k; (case a => k_is); (case pg => k_is); (case hd => k_is); (case po => k_is); (case sa => k_is); (case nF => k_is); (case mk => k_is); (case init => k_is); (case fn => k_is); (case kp => k_is); (case l => k_is); (case c => k_is); (case k => k_is)))
    (case c_Ring => (refine' TT.clsF ?a ?pg ?hd ?po ?sa ?nF ?mk ?init ?fn ?kp ?l ?c ?k; (case a => k_is); (case pg => k_is); (case hd => k_is); (case po => k_is); (case sa => k_is); (case nF => k_is); (case mk => k_is); (case init => k_is); (case fn => k_is); (case kp => k_is); (case l => k_is); (case c => k_is); (case k => k_is)))
    (case x_BadPlaces => (refine' TT.excF ?a ?x ?k ?b ?t; (case a => k_is); (case x => k_exc); (case k => k_is); (case b => k_is); (case t => k_is)))
    (case x_BadTies => (refine' TT.excF ?a ?x ?k ?b ?t; (case a => k_is); (case x => k_exc); (case k => k_is); (case b => k_is); (case t => k_is)))
    (case x_BadMany => (refine' TT.excF ?a ?x ?k ?b ?t; (case a => k_is); (case x => k_exc); (case k => k_is); (case b => k_is); (case t => k_is)))
    (case xc_BadPlaces => (refine' TT.excCF ?a ?hg ?hk ?hs ?hd ?ha ?hn ?ht ?hm; (case a => k_is); (case hg => k_is); (case hk => k_is); (case hs => k_is); (case hd => k_is); (case ha => k_is); (case hn => k_is); (case ht => k_is); (case hm => k_is)))
    (case xc_BadTies => (refine' TT.excCF ?a ?hg ?hk ?hs ?hd ?ha ?hn ?ht ?hm; (case a => k_is); (case hg => k_is); (case hk => k_is); (case hs => k_is); (case hd => k_is); (case ha => k_is); (case hn => k_is); (case ht => k_is); (case hm => k_is)))
    (case xc_BadMany => (refine' TT.excCF ?a ?hg ?hk ?hs ?hd ?ha ?hn ?ht ?hm; (case a => k_is); (case hg => k_is); (case hk => k_is); (case hs => k_is); (case hd => k_is); (case ha => k_is); (case hn => k_is); (case ht => k_is); (case hm => k_is)))
    (case ex_BadPlaces => (refine' TT.exmF ?a ?a2 ?h1 ?h2 ?h3 ?h4; (case a => k_is); (case a2 => k_is); (case h1 => k_is); (case h2 => k_is); (case h3 => k_is); (case h4 => k_is)))
    (case ex_BadTies => (refine' TT.exmF ?a ?a2 ?h1 ?h2 ?h3 ?h4; (case a => k_is); (case a2 => k_is); (case h1 => k_is); (case h2 => k_is); (case h3 => k_is); (case h4 => k_is)))
    (case ex_BadMany => (refine' TT.exmF ?a ?a2 ?h1 ?h2 ?h3 ?h4; (case a => k_is); (case a2 => k_is); (case h1 => k_is); (case h2 => k_is); (case h3 => k_is); (case h4 => k_is)))
    (case ki_BadPlaces_BadTies => (refine' TT.kitF ?a ?a2 ?h0 ?h2 ?h3 ?h4; (case a => k_is); (case a2 => k_is); (case h0 => rfl); (case h2 => k_is); (case h3 => k_is); (case h4 => k_is)))
    (case ki_BadPlaces_BadMany => (refine' TT.kitF ?a ?a2 ?h0 ?h2 ?h3 ?h4; (case a => k_is); (case a2 => k_is); (case h0 => rfl); (case h2 => k_is); (case h3 => k_is); (case h4 => k_is)))
    (case kv_BadPlaces => (refine' TT.kitT ?a ?hm ?h4; (case a => k_is); (case hm => rfl); (case h4 => k_is)))
    (case ki_BadTies_BadPlaces => (refine' TT.kitF ?a ?a2 ?h0 ?h2 ?h3 ?h4; (case a => k_is); (case a2 => k_is); (case h0 => rfl); (case h2 => k_is); (case h3 => k_is); (case h4 => k_is)))
    (case ki_BadTies_BadMany => (refine' TT.kitF ?a ?a2 ?h0 ?h2 ?h3 ?h4; (case a => k_is); (case a2 => k_is); (case h0 => rfl); (case h2 => k_is); (case h3 => k_is); (case h4 => k_is)))
    (case kv_BadTies => (refine' TT.kitT ?a ?hm ?h4; (case a => k_is); (case hm => rfl); (case h4 => k_is)))
    (case ki_BadMany_BadPlaces => (refine' TT.kitF ?a ?a2 ?h0 ?h2 ?h3 ?h4; (case a => k_is); (case a2 => k_is); (case h0 => rfl); (case h2 => k_is); (case h3 => k_is); (case h4 => k_is)))
    (case ki_BadMany_BadTies => (refine' TT.kitF ?a ?a2 ?h0 ?h2 ?h3 ?h4; (case a => k_is); (case a2 => k_is); (case h0 => rfl); (case h2 => k_is); (case h3 => k_is); (case h4 => k_is)))
    (case kv_BadMany => (refine' TT.kitT ?a ?hm ?h4; (case a => k_is); (case hm => rfl); (case h4 => k_is)))
    (case n_tie => (refine' TT.nameF ?a; (case a => k_is)))
    (case k_MOST_PLACES => (refine' TT.cstF ?a; (case a => k_is)))
    (case k_MOST_TIES => (refine' TT.cstF ?a; (case a => k_is)))
    (case b_isinstance => k_is)
    (case b_int => k_is)
    (case b_bool => k_is)
    (case b_tuple => k_is)
    (case b_list => k_is)
    (case b_len => k_is)
    (case b_all => k_is)
    (case b_enumerate => k_is)
    (case b_range => k_is)
    (case b_sum => k_is)
    (case b_ValueError => k_is)
