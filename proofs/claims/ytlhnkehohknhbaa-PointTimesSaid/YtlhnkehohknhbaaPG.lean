/- Chapter 9, plain: the law of times. -/
import Derived.Test.YtlhnkehohknhbaaPF
import Derived.Test.YtlhnkehohknhbaaB7
set_option linter.unusedVariables false
set_option linter.unusedSimpArgs false
namespace Go.Proofs.Ytlhnkehohknhbaa.Vg
open Go Go.Proofs.Ytlhnkehohknhbaa.Ev Go.Proofs.Ytlhnkehohknhbaa.Vv
/-- rounded up. -/
def upD (n s : Int) : Int := 0 - (0 - n) / s
theorem upD_bd {n s : Int} (hn : 0 ≤ n) (hs : 1 ≤ s) : 0 ≤ upD n s ∧ upD n s ≤ n := by
  unfold upD
  have h1 := div_bd (p := 0 - n) (d := s) (A := n) (by omega) (by omega)
  have h2 : (0 - n) / s ≤ 0 := by
    have := Int.ediv_le_ediv (show 0 < s by omega) (show 0 - n ≤ 0 by omega)
    simpa using this
  omega
theorem up_point (k : Nat) {n s : Int} (hn : 0 ≤ n ∧ n ≤ 1000000000000) (hs : 1 ≤ s) : npoint_up k n s = some (upD n s) := by
  unfold npoint_up
  have h := upD_bd hn.1 hs
  unfold upD at h ⊢
  rw [w64_id (n := 0 - n) (by omega) (by omega), down_any k (by omega) (by omega), Option.bind_some, w64_id (by omega) (by omega)]
theorem ceil_ref (k : Nat) {n s : Int} (hn : 0 ≤ n ∧ n ≤ 1000000000000) (hs : 1 ≤ s) : nspeculumbase_Ceil k n s = some (upD n s) := by
  rw [← up_point k hn hs]; rfl
/-- the minutes of stops, or the number of the first late one. -/
def tmL (sp : Int) : Int → Int → List SSkyTarget → List Int → Nat → Sum Int (List Int)
  | f, mi, t :: l, p :: ps, i =>
    if t.To < maxI (mi + upD (absI (p - f)) sp) t.From + t.Dwell then .inl (i : Int)
    else match tmL sp p (maxI (mi + upD (absI (p - f)) sp) t.From + t.Dwell) l ps (i + 1) with
      | .inl e => .inl e
      | .inr bs => .inr (maxI (mi + upD (absI (p - f)) sp) t.From :: bs)
  | _, _, _, _, _ => .inr []
theorem mid_get (p : List Int) (v : Int) (r : List Int) {i : Nat} (h : p.length = i) : ((p ++ [v]) ++ r).getD i 0 = v := by
  subst h
  rw [List.getD_eq_getElem?_getD, List.append_assoc, List.getElem?_append_right (Nat.le_refl _), Nat.sub_self]; rfl
theorem maxI_eq (x y : Int) : maxI x y = if y > x then y else x := rfl
theorem near_get {ps : List Int} (hp : ∀ p ∈ ps, near p) {i : Nat} (h : i < ps.length) : near (ps.getD i 0) := hp _ (by rw [List.getD_eq_getElem?_getD, List.getElem?_eq_getElem h]; exact List.getElem_mem _)
theorem times_l (k : Nat) {m : SSkyMount} {l : List SSkyTarget} {p : At2} (h : Tr m l p) (a2 : Svector) (ps : List Int) (e1 e2 e3 : Int) (hp : ∀ p ∈ ps, near p) (hpl : ps.length = l.length) : ∀ (d fuel i : Nat) (y : List Int) (f mi : Int), l.length = i + d → d < fuel → y.length = i → near f → 0 ≤ mi → mi ≤ 10000000 →
    npoint_Times_l0_0 k m a2 (⟨p.e1, l.map (stp m p.e0)⟩, e1, e2) (ps, e3) fuel (y ++ List.replicate d 0) f mi (i : Int) = some (match tmL m.Speed f mi (l.drop i) (ps.drop i) i with | .inl e => .inl e | .inr bs => .inr (y ++ bs)) := by
  have hlen := h.len
  intro d
  induction d with
  | zero =>
    intro fuel i y f mi hi hf hy hn h1 h2
    obtain ⟨g, rfl⟩ : ∃ g, fuel = g + 1 := ⟨fuel - 1, by omega⟩
    rw [npoint_Times_l0_0.eq_2, if_neg (by simp; omega), List.drop_eq_nil_of_le (by omega)]
    simp [tmL]
  | succ d ih =>
    intro fuel i y f mi hi hf hy hn h1 h2
    obtain ⟨g, rfl⟩ : ∃ g, fuel = g + 1 := ⟨fuel - 1, by omega⟩
    have hs : (l.map (stp m p.e0)).getD i default = stp m p.e0 (l.getD i default) := by
      rw [List.getD_eq_getElem?_getD, List.getElem?_map, List.getD_eq_getElem?_getD, List.getElem?_eq_getElem (by omega)]; rfl
    obtain ⟨ht, _⟩ := h.tgt i (by omega)
    have hfr := ht.fr
    have hdw := ht.dw
    have hq := near_get hp (i := i) (by omega)
    have ha := absI_bd (A := 25920000) hn hq
    have hsp := h.mnt.sp
    have hu := upD_bd ha.1 hsp.1
    rw [npoint_Times_l0_0.eq_2, if_pos (by simp; omega), if_pos (by simp; omega), if_pos (show 0 ≤ (i : Int) ∧ (i : Int) < (ps.length : Int) by omega), w64_succ (by omega), drop_get (y := l) (i := i) (by omega) default, drop_get (y := ps) (i := i) (by omega) 0]
    simp only [Int.toNat_natCast, hs]
    rw [wayBetween_any k hn.small hq.small, Option.bind_some]
    dsimp only
    rw [up_point k (by omega) hsp.1, Option.bind_some]
    rw [w64_id (n := mi + _) (by omega) (by omega)]
    rw [show (stp m p.e0 (l.getD i default)).SkyTarget = l.getD i default from rfl, set_mid' hy, mid_get y _ _ hy]
    have hb : 0 ≤ maxI (mi + upD (absI (ps.getD i 0 - f)) m.Speed) (l.getD i default).From ∧ maxI (mi + upD (absI (ps.getD i 0 - f)) m.Speed) (l.getD i default).From ≤ 100000000 := by
      rw [maxI_eq]; split <;> omega
    rw [w64_id (n := _ + (l.getD i default).Dwell) (by omega) (by omega), if_pos (by simp; omega), if_pos (by simp; omega), if_pos (by simp; omega)]
    simp only [tmL]
    by_cases c : (l.getD i default).To < maxI (mi + upD (absI (ps.getD i 0 - f)) m.Speed) (l.getD i default).From + (l.getD i default).Dwell
    · rw [if_pos c, if_pos c]
    · rw [if_neg c, if_neg c, ih g (i + 1) _ _ _ (by omega) (by omega) (by simp; omega) hq (by omega) (by omega)]
      cases tmL m.Speed (ps.getD i 0) (maxI (mi + upD (absI (ps.getD i 0 - f)) m.Speed) (l.getD i default).From + (l.getD i default).Dwell) (l.drop (i + 1)) (ps.drop (i + 1)) (i + 1) with
      | inl e => rfl
      | inr bs => simp
theorem timesR_l (k : Nat) (hk : 100 < k) {m : SSkyMount} {l : List SSkyTarget} {p : At2} (h : Tr m l p) (a2 : Svector) (ha2 : a2.e0 = p.e0) (xs : List Int) (hx : xs.length = l.length) : ∀ (d fuel i : Nat) (y : List Int) (f mi : Int) (ps : List Int), l.length = i + d → d < fuel → y.length = i → near f → 0 ≤ mi → mi ≤ 10000000 → chL m p.e0 (l.drop i) (xs.drop i) = some ps →
    nspeculumref09_Times_l0_0 k m l a2 xs fuel y mi f (i : Int) = some (match tmL m.Speed f mi (l.drop i) ps i with | .inl e => .inl e | .inr bs => .inr (y ++ bs)) := by
  have hlen := h.len
  intro d
  induction d with
  | zero =>
    intro fuel i y f mi ps hi hf hy hn h1 h2 hc
    obtain ⟨g, rfl⟩ : ∃ g, fuel = g + 1 := ⟨fuel - 1, by omega⟩
    rw [nspeculumref09_Times_l0_0.eq_2, if_neg (by omega), List.drop_eq_nil_of_le (by omega)]
    simp [tmL]
  | succ d ih =>
    intro fuel i y f mi ps hi hf hy hn h1 h2 hc
    obtain ⟨g, rfl⟩ : ∃ g, fuel = g + 1 := ⟨fuel - 1, by omega⟩
    obtain ⟨ht, _⟩ := h.tgt i (by omega)
    have hfr := ht.fr
    have hdw := ht.dw
    have hsp := h.mnt.sp
    rw [drop_get (y := l) (i := i) (by omega) default, drop_get (y := xs) (i := i) (by omega) 0] at hc
    simp only [chL] at hc
    split at hc
    case isFalse => cases hc
    rename_i cm
    cases hq0 : chL m p.e0 (l.drop (i + 1)) (xs.drop (i + 1)) with
    | none => rw [hq0] at hc; cases hc
    | some qs =>
      rw [hq0] at hc
      simp only [Option.map_some, Option.some.injEq] at hc
      subst hc
      have hq := pos_near h.mnt cm
      have ha := absI_bd (A := 25920000) hn hq
      have hu := upD_bd ha.1 hsp.1
      rw [nspeculumref09_Times_l0_0.eq_2, if_pos (by omega), if_pos (by omega), if_pos (by omega), w64_succ (by omega), drop_get (y := l) (i := i) (by omega) default]
      simp only [Int.toNat_natCast, ha2]
      rw [position_ref k hk h.mnt ht h.day cm, Option.bind_some, way_ref k hn.small hq.small, Option.bind_some]
      dsimp only
      rw [ceil_ref k (by omega) hsp.1, Option.bind_some, w64_id (n := mi + _) (by omega) (by omega)]
      have hb : 0 ≤ maxI (mi + upD (absI (pos m (l.getD i default) p.e0 (xs.getD i 0) - f)) m.Speed) (l.getD i default).From ∧ maxI (mi + upD (absI (pos m (l.getD i default) p.e0 (xs.getD i 0) - f)) m.Speed) (l.getD i default).From ≤ 100000000 := by
        rw [maxI_eq]; split <;> omega
      rw [w64_id (n := _ + (l.getD i default).Dwell) (by omega) (by omega), if_pos (by simp; omega)]
      simp only [tmL]
      by_cases c : (l.getD i default).To < maxI (mi + upD (absI (pos m (l.getD i default) p.e0 (xs.getD i 0) - f)) m.Speed) (l.getD i default).From + (l.getD i default).Dwell
      · rw [if_pos c, if_pos c]
      · rw [if_neg c, if_neg c, ih g (i + 1) _ _ _ qs (by omega) (by omega) (by simp; omega) hq (by omega) (by omega) hq0]
        cases tmL m.Speed (pos m (l.getD i default) p.e0 (xs.getD i 0)) (maxI (mi + upD (absI (pos m (l.getD i default) p.e0 (xs.getD i 0) - f)) m.Speed) (l.getD i default).From + (l.getD i default).Dwell) (l.drop (i + 1)) qs (i + 1) with
        | inl e => rfl
        | inr bs => simp
def tmR : Sum Int (List Int) → List Int × Int × Int
  | .inl e => ([], e, 18)
  | .inr bs => (bs, 0, 0)
/-- what the program tells of the minutes. -/
def tmE (m : SSkyMount) (l : List SSkyTarget) (p : At2) (mi : Int) (xs : List Int) : List Int × Int × Int :=
  if (trE m l p).2 = 0 then (if inR 0 10000000 mi = true then (if (chE m l p xs).2 = 0 then tmR (tmL m.Speed p.e1 mi l ((chL m p.e0 l xs).getD []) 0) else ([], 0, (chE m l p xs).2)) else ([], 0, 2)) else ([], 0, (trE m l p).2)
theorem Times_any (k : Nat) (hk : 100 < k) (hk2 : k ≤ 100000000000000000000) (m : SSkyMount) (h1 : m.Refraction.length < k) (h2 : m.Drift.length < k) (l : List SSkyTarget) (p : At2) (mi : Int) (xs : List Int) (hxl : xs.length < 9223372036854775807) :
    npoint_Times k m l ⟨p.e0, p.e1, mi⟩ xs = some (match trE m l p with | (a, b) => if b = 0 then tmE m l p mi xs else ([], 0, b)) := by
  unfold npoint_Times
  rw [show (⟨(⟨p.e0, p.e1, mi⟩ : Svector).e0, (⟨p.e0, p.e1, mi⟩ : Svector).e1⟩ : At2) = p from rfl, tourOf_any k hk hk2 m h1 h2, Option.bind_some]
  by_cases c : (trE m l p).2 = 0
  · have hT := Tr.of c
    have hlen := hT.len
    unfold tmE
    simp only [if_pos c]
    rw [areWithin_1 k _ _ _ hk hk2, Option.bind_some]
    cases c2 : inR 0 10000000 mi with
    | false => rfl
    | true =>
      have hmi := inR_t.1 c2
      rw [if_pos rfl, if_pos rfl, chosen_any k hk hT xs p.e1 hxl, Option.bind_some]
      unfold chE
      by_cases c1 : xs.length = l.length
      · simp only [if_pos c1]
        cases hc : chL m p.e0 l xs with
        | none => rfl
        | some ps =>
          obtain ⟨g1, g2⟩ := chL_near hT.mnt hc
          have ht := times_l k hT ⟨p.e0, p.e1, mi⟩ ps (trE m l p).1 (trE m l p).2 0 g1 g2 l.length k 0 [] p.e1 mi (by omega) (by omega) rfl (beg_near hT) hmi.1 hmi.2
          rw [List.nil_append, List.drop_zero, List.drop_zero] at ht
          dsimp only
          rw [if_pos rfl, if_pos rfl, if_pos (by omega), show ((ps.length : Int)).toNat = l.length by omega]
          rw [show npoint_Times_l0_0 k m ⟨p.e0, p.e1, mi⟩ (⟨p.e1, l.map (stp m p.e0)⟩, trE m l p) (ps, 0) k (List.replicate l.length 0) p.e1 mi 0 = _ from ht, Option.bind_some]
          rw [Option.getD_some]
          cases tmL m.Speed p.e1 mi l ps 0 with
          | inl e => rfl
          | inr bs => rfl
      · simp only [if_neg c1]
        rfl
  · simp only [if_neg c]
theorem Times_ref (k : Nat) (hk : 100 < k) {m : SSkyMount} {l : List SSkyTarget} {p : At2} (h : Tr m l p) {mi : Int} (hmi : 0 ≤ mi ∧ mi ≤ 10000000) {xs : List Int} (hx : xs.length = l.length) {ps : List Int} (hc : chL m p.e0 l xs = some ps) :
    nspeculumref09_Times k m l ⟨p.e0, p.e1, mi⟩ xs = some (tmR (tmL m.Speed p.e1 mi l ps 0)) := by
  unfold nspeculumref09_Times
  have hlen := h.len
  have ht := timesR_l k hk h ⟨p.e0, p.e1, mi⟩ rfl xs hx l.length k 0 [] p.e1 mi ps (by omega) (by omega) rfl (beg_near h) hmi.1 hmi.2 (by rw [List.drop_zero, List.drop_zero]; exact hc)
  rw [List.drop_zero] at ht
  rw [show nspeculumref09_Times_l0_0 k m l ⟨p.e0, p.e1, mi⟩ xs k [] (⟨p.e0, p.e1, mi⟩ : Svector).e2 (⟨p.e0, p.e1, mi⟩ : Svector).e1 0 = _ from ht, Option.bind_some]
  cases tmL m.Speed p.e1 mi l ps 0 with
  | inl e => rfl
  | inr bs => rfl
/-- lists side by side; a list that never falls. -/
def leL : List Int → List Int → Prop
  | [], [] => True
  | a :: l, b :: r => a ≤ b ∧ leL l r
  | _, _ => False
def srt : Int → List Int → Prop
  | _, [] => True
  | a, b :: l => a ≤ b ∧ srt b l
theorem leL_get : ∀ (a b : List Int), leL a b → a.length = b.length ∧ ∀ i, i < a.length → a.getD i 0 ≤ b.getD i 0
  | [], [], _ => ⟨rfl, fun i h => by simp at h⟩
  | [], _ :: _, h => h.elim
  | _ :: _, [], h => h.elim
  | a :: l, b :: r, h => by
    obtain ⟨h1, h2⟩ := leL_get l r h.2
    refine ⟨by simp [h1], fun i hi => ?_⟩
    cases i with
    | zero => exact h.1
    | succ i => exact h2 i (by simpa using hi)
theorem srt_get : ∀ (l : List Int) (a : Int), srt a l → ∀ i, i + 1 < l.length → l.getD i 0 ≤ l.getD (i + 1) 0
  | [], a, _, i, h => by simp at h
  | [b], a, _, i, h => by simp at h
  | b :: c :: l, a, h, i, hi => by
    cases i with
    | zero => exact h.2.1
    | succ i => exact srt_get (c :: l) b h.2 i (by simpa using hi)
theorem srt_le {a b : Int} (h : a ≤ b) : ∀ {l : List Int}, srt b l → srt a l
  | [], _ => trivial
  | c :: l, hs => ⟨Int.le_trans h hs.1, hs.2⟩
theorem tm_srt {sp : Int} (hsp : 1 ≤ sp) : ∀ (l : List SSkyTarget) (ps : List Int) (f mi : Int) (i : Nat) (bs : List Int), (∀ t ∈ l, Tgt t) → tmL sp f mi l ps i = .inr bs → srt mi bs ∧ bs.length ≤ l.length
  | [], ps, f, mi, i, bs, ht, h => by simp only [tmL, Sum.inr.injEq] at h; subst h; exact ⟨trivial, Nat.le_refl _⟩
  | t :: l, [], f, mi, i, bs, ht, h => by simp only [tmL, Sum.inr.injEq] at h; subst h; exact ⟨trivial, Nat.zero_le _⟩
  | t :: l, p :: ps, f, mi, i, bs, ht, h => by
    simp only [tmL] at h
    split at h
    · cases h
    · split at h
      · cases h
      · rename_i qs hq
        injection h with h; subst h
        obtain ⟨g1, g2⟩ := tm_srt hsp l ps p _ (i + 1) qs (fun t h => ht t (List.mem_cons_of_mem _ h)) hq
        have hd := (ht t (by simp)).dw
        have hu := (upD_bd (n := absI (p - f)) (by unfold absI; split <;> omega) hsp).1
        have hm : mi ≤ maxI (mi + upD (absI (p - f)) sp) t.From := by rw [maxI_eq]; split <;> omega
        exact ⟨⟨hm, srt_le (by omega) g1⟩, by simp; exact g2⟩
theorem tm_mono {sp : Int} : ∀ (l : List SSkyTarget) (ps : List Int) (f mi mi' : Int) (i : Nat) (bs bs' : List Int), mi ≤ mi' → tmL sp f mi l ps i = .inr bs → tmL sp f mi' l ps i = .inr bs' → leL bs bs'
  | [], ps, f, mi, mi', i, bs, bs', hm, h, h' => by simp only [tmL, Sum.inr.injEq] at h h'; subst h; subst h'; exact trivial
  | t :: l, [], f, mi, mi', i, bs, bs', hm, h, h' => by simp only [tmL, Sum.inr.injEq] at h h'; subst h; subst h'; exact trivial
  | t :: l, p :: ps, f, mi, mi', i, bs, bs', hm, h, h' => by
    have hle : maxI (mi + upD (absI (p - f)) sp) t.From ≤ maxI (mi' + upD (absI (p - f)) sp) t.From := by
      rw [maxI_eq, maxI_eq]; split <;> split <;> omega
    simp only [tmL] at h h'
    split at h
    · cases h
    · split at h
      · cases h
      · rename_i qs hq
        injection h with h; subst h
        split at h'
        · cases h'
        · split at h'
          · cases h'
          · rename_i qs' hq'
            injection h' with h'; subst h'
            exact ⟨hle, tm_mono l ps p _ _ (i + 1) qs qs' (by omega) hq hq'⟩
theorem later_l (k : Nat) (a b : List Int × Int × Int) (s : Int) (h1 : leL a.1 b.1) (h2 : srt s a.1) (hl : a.1.length < 1000000000) : ∀ (d fuel i : Nat), a.1.length = i + d → d < fuel →
    nspeculumlaw09_PointTimes_l0_0 k a b fuel (i : Int) = some (.inr ()) := by
  obtain ⟨e1, e2⟩ := leL_get _ _ h1
  intro d
  induction d with
  | zero =>
    intro fuel i h hf
    obtain ⟨g, rfl⟩ : ∃ g, fuel = g + 1 := ⟨fuel - 1, by omega⟩
    rw [nspeculumlaw09_PointTimes_l0_0.eq_2, if_neg (by omega)]
  | succ d ih =>
    intro fuel i h hf
    obtain ⟨g, rfl⟩ : ∃ g, fuel = g + 1 := ⟨fuel - 1, by omega⟩
    rw [nspeculumlaw09_PointTimes_l0_0.eq_2, if_pos (by omega), if_neg (by omega), if_pos (by omega), if_pos (by omega), w64_succ (by omega), ih g (i + 1) (by omega) (by omega)]
    simp only [Int.toNat_natCast]
    have := e2 i (by omega)
    rw [if_neg (by omega)]
    by_cases c : 0 < (i : Int)
    · have h9 := srt_get _ _ h2 (i - 1) (by omega)
      rw [show i - 1 + 1 = i by omega] at h9
      rw [if_pos c, w64_id (by omega) (by omega), if_pos (by omega), show ((i : Int) - 1).toNat = i - 1 by omega, if_neg (by omega)]
    · rw [if_neg c]
theorem copy_any (k : Nat) (xs : List Int) (h : xs.length ≤ 1000) : nspeculumbase_CopyInts k xs = some xs := by
  unfold nspeculumbase_CopyInts
  rw [if_pos (by simp; omega)]; rfl
theorem law_times (k : Nat) (x : STour) (xs : List Int) (mi : Int) (hx : x.Targets.length ≤ 9223372036854775807) (hk : k = x.Targets.length + 1000) : nspeculumlaw09_PointTimes k x xs mi = some true := by
  unfold nspeculumlaw09_PointTimes
  rw [show nawake k = some true from rfl, Option.bind_some, if_pos rfl, short_any _ x (by omega) hx, Option.bind_some]
  cases h : shortB x with
  | false => rfl
  | true =>
    obtain ⟨a, b, c⟩ := short_facts h
    rw [if_pos rfl]
    by_cases hxs : 8 < (xs.length : Int)
    · rw [if_pos hxs]
    rw [if_neg hxs, mount_copy _ _ a b, Option.bind_some, targets_copy _ _ (by omega), Option.bind_some, copy_any k xs (by omega), Option.bind_some, Times_any k (by omega) (by omega) x.Mount (by omega) (by omega) x.Targets x.At mi xs (by omega), Option.bind_some, tour_ref k (by omega) (by omega) x.Mount (by omega) (by omega), Option.bind_some, minute_ref, Option.bind_some]
    by_cases c1 : (trE x.Mount x.Targets x.At).2 = 0
    · have hT := Tr.of c1
      have hlen := hT.len
      have htg : ∀ t ∈ x.Targets, Tgt t := by
        intro t ht
        obtain ⟨i, hi, rfl⟩ := List.mem_iff_getElem.1 ht
        have := (hT.tgt i hi).1
        rwa [List.getD_eq_getElem?_getD, List.getElem?_eq_getElem hi] at this
      simp only [if_pos c1]
      unfold tmE
      simp only [if_pos c1]
      cases c2 : inR 0 10000000 mi with
      | false => rfl
      | true =>
        have hmi := inR_t.1 c2
        rw [if_pos rfl, if_pos rfl, choice_ref k (by omega) hT, Option.bind_some]
        by_cases c3 : (chE x.Mount x.Targets x.At xs).2 = 0
        · simp only [if_pos c3]
          have hxl : xs.length = x.Targets.length := by
            unfold chE at c3
            split at c3
            · assumption
            · cases c3
          obtain ⟨ps, hps⟩ : ∃ ps, chL x.Mount x.At.e0 x.Targets xs = some ps := by
            unfold chE at c3
            rw [if_pos hxl] at c3
            cases hc : chL x.Mount x.At.e0 x.Targets xs with
            | none => rw [hc] at c3; cases c3
            | some ps => exact ⟨ps, rfl⟩
          rw [Times_ref k (by omega) hT hmi hxl hps, Option.bind_some, hps]
          rw [Option.getD_some]
          cases ht : tmL x.Mount.Speed x.At.e1 mi x.Targets ps 0 with
          | inl e =>
            rw [if_pos rfl, if_pos rfl, show nspeculumbase_Ints k (tmR (.inl e)).1 (tmR (.inl e)).1 = some true from ints_same k [] (by simp; omega) (by simp), Option.bind_some, if_pos rfl, if_neg (show ¬(tmR (.inl e)).2.2 = 0 from fun h => by cases h)]
          | inr bs =>
            obtain ⟨s1, s2⟩ := tm_srt hT.mnt.sp.1 _ _ _ _ _ _ htg ht
            rw [if_pos rfl, if_pos rfl, show nspeculumbase_Ints k (tmR (.inr bs)).1 (tmR (.inr bs)).1 = some true from ints_same k bs (by omega) (by omega), Option.bind_some, if_pos rfl, if_pos (show (tmR (.inr bs)).2.2 = 0 from rfl)]
            by_cases c4 : mi = 10000000
            · rw [if_pos c4]
            · rw [if_neg c4, w64_id (by omega) (by omega), Times_any k (by omega) (by omega) x.Mount (by omega) (by omega) x.Targets x.At (mi + 1) xs (by omega), Option.bind_some]
              unfold tmE
              simp only [if_pos c1, if_pos c3, if_pos (show inR 0 10000000 (mi + 1) = true from inR_t.2 (by omega)), hps, Option.getD_some]
              cases ht2 : tmL x.Mount.Speed x.At.e1 (mi + 1) x.Targets ps 0 with
              | inl e => rfl
              | inr bs2 =>
                have hle := tm_mono _ _ _ _ _ _ _ _ (show mi ≤ mi + 1 by omega) ht ht2
                rw [if_pos (show (tmR (.inr bs2)).2.2 = 0 from rfl), show nspeculumlaw09_PointTimes_l0_0 k (tmR (.inr bs)) (tmR (.inr bs2)) k 0 = _ from later_l k (bs, 0, 0) (bs2, 0, 0) mi hle s1 (by show bs.length < _; omega) bs.length k 0 (by show bs.length = _; omega) (by omega)]
                rfl
        · simp only [if_neg c3]
          rfl
    · simp only [if_neg c1]
      rfl
theorem vc_times (x : STour) (xs : List Int) (mi : Int) (hx : x.Targets.length ≤ 9223372036854775807) : VC Go.Proofs.Try.prog 15 [VV.ag (c_STour x), VV.tr (xs.map vi) xs.length, vi mi] (vb true) := nspeculumlaw09_PointTimes_ok _ _ _ _ _ (law_times _ x xs mi hx rfl)
end Go.Proofs.Ytlhnkehohknhbaa.Vg
