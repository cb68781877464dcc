/-
  The document's own Make.
-/
import Derived.Test.YtckkbamelkkblaaObd
import Derived.Laws.OwnMore
namespace Go.Proofs.Ytckkbamelkkblaa.Ob
open Go.RowKit View

set_option linter.unusedVariables false

variable {base M o n : Nat} {w : World} {vs : Sl} {S : Nat → Sl} {f : Nat → Nat → Int}

/-- What a row that was built by append is, as a slice of numbers. -/
theorem ints_of_owns {w : World} {base : Nat} {v : Value} {n : Nat} {xs : List Int} (h : w.ownsRow base 2 1 v n (xs.map (Value.int .i64))) (hn : n ≤ 1000000) :
    ∃ s : Sl, v = .slice s.a s.n s.c ∧ s.n = n ∧ Ints w s (fun i => xs.getD i 0) ∧ Mine base w.heap.size w s := by
  obtain ⟨hlen, h⟩ := h
  simp at hlen
  rcases h with ⟨rfl, rfl⟩ | ⟨g, cap, cur, rfl, hb, hg, hnc, hm, hs, ht⟩
  · exact ⟨⟨none, 0, 0⟩, rfl, rfl, ⟨Nat.le_refl _, Nat.zero_le _, fun _ => rfl, fun h => absurd h (by simp)⟩, fun h => absurd h (by simp)⟩
  · have hlt : g < w.heap.size := (Array.getElem?_eq_some_iff.1 hg).1
    refine ⟨⟨some ⟨g, 0, none⟩, n, cap⟩, rfl, rfl, ⟨hnc, by show n ≤ _; omega, fun h => by simp at h, fun h0 => ⟨g, 0, rfl, fun i hi => ?_⟩⟩, fun h0 => ⟨g, rfl, hb, hlt, fun i => ?_⟩⟩
    · rw [Nat.zero_add, cell_of_row w g i cur 2 (0, 0) hg]
      have h1 : (cur.toList.take (n * 1))[i]? = (xs.map (Value.int .i64))[i]? := by rw [ht]
      rw [List.getElem?_take, if_pos (by simpa using hi)] at h1
      simp at h1
      rw [h1]
      have : i < xs.length := by rw [hlen]; exact hi
      simp [List.getD, this]
    · simp [World.frozen?, hg]

/-- Numbers appended to an empty row. -/
theorem app_in {w w1 : World} (b1 : Below w.heap.size w w1) (z1 : w1.heap.size = w.heap.size + 1) (g1 : w1.heap[w.heap.size]? = some (.cells #[] 2 (0, 0))) (s : Sl) (F : Nat → Int) (hs : Ints w s F) (hl : s.n ≤ 1000000) (ty : TypeId) :
    ∃ s2 w2, (Builtin.append_ #[30, 30] ty #[.slice (some ⟨w.heap.size, 0, none⟩) 0 0, .slice s.a s.n s.c]).run Try.prog w1 = .ok (.slice s2.a s2.n s2.c) w2 ∧ s2.n = s.n ∧ Ints w2 s2 F ∧ Mine w.heap.size w2.heap.size w2 s2 ∧ Below w.heap.size w w2 := by
  have own : w1.ownsRow w.heap.size 2 1 (.slice (some ⟨w.heap.size, 0, none⟩) 0 0) 0 (([] : List Int).map (Value.int .i64)) :=
    ⟨rfl, .inr ⟨w.heap.size, 0, #[], rfl, Nat.le_refl _, g1, Nat.le_refl _, by simp [maxLen], rfl, rfl⟩⟩
  obtain ⟨i0, hi, hz0, hz1, hz2⟩ := info_parts info2
  obtain ⟨hs1, hs2, hs3, hs4⟩ := hs
  have fin : ∀ (v' : Value) (w2 : World) (xs : List Int), w2.ownsRow w.heap.size 2 1 v' s.n (xs.map (Value.int .i64)) → w1.grownBy w2 (some w.heap.size) → (∀ i, i < s.n → xs.getD i 0 = F i) →
      ∃ s2 : Sl, v' = .slice s2.a s2.n s2.c ∧ s2.n = s.n ∧ Ints w2 s2 F ∧ Mine w.heap.size w2.heap.size w2 s2 ∧ Below w.heap.size w w2 := fun v' w2 xs h1 h2 h3 => by
    obtain ⟨s2, e, en, hi2, hm⟩ := ints_of_owns h1 hl
    exact ⟨s2, e, en, hi2.congr (fun i hi => h3 i (by omega)), hm, b1.grown h2 (by omega) (fun k hk => by have := Option.some.inj hk; omega)⟩
  obtain ⟨sa, sn, sc⟩ := s
  cases sa with
  | none =>
    have hc0 := hs3 rfl
    simp only at hc0 hs1
    obtain rfl : sn = 0 := by omega
    obtain rfl : sc = 0 := hc0
    have hr := run_append_owned_none (P := Try.prog) (w := w1) w.heap.size 30 ty 2 i0 1 underlying30 hi (.slice (some ⟨w.heap.size, 0, none⟩) 0 0) 0 [] own
    obtain ⟨s2, e, q⟩ := fin _ w1 [] own (World.grownBy.refl _ _) (fun i hi => by simp at hi)
    exact ⟨s2, w1, by rw [← e]; exact hr, q⟩
  | some ad =>
    have hcells : ∀ j u, (((List.range sn).map F).map (Value.int .i64))[j]? = some u → w1.cell? (ad.add j) = some u := by
      intro j u hu
      have hj : j < sn := by have := (List.getElem?_eq_some_iff.1 hu).1; simpa using this
      obtain ⟨b, off, hab, hc⟩ := hs4 (by show 0 < sn; omega)
      obtain rfl := Option.some.inj hab
      rw [Addr.add_lit, cell_on b1 (hc j hj), ← hu]
      simp [hj]
    obtain ⟨v', w2, q1, q2, q3, _, _⟩ := run_append_own_at (P := Try.prog) w1 w.heap.size 30 ty 2 i0 (.int .i64 0) 1 8 underlying30 hi hz0 hz1 hz2 rfl (by decide) (.slice (some ⟨w.heap.size, 0, none⟩) 0 0) 0 _ own ad sn sc (((List.range sn).map F).map (Value.int .i64)) (by simp) hcells (by intro u hu; obtain ⟨x, _, rfl⟩ := List.mem_map.1 hu; rfl) (by simp only [maxLen]; simp only at hl; omega) (by simp only at hl; omega) (by omega)
    simp only [Nat.zero_add, List.map_nil, List.nil_append] at q2
    obtain ⟨s2, e, q⟩ := fin v' w2 ((List.range sn).map F) q2 q3 (fun i hi => by have hi' : i < sn := hi; simp [List.getD, hi'])
    exact ⟨s2, w2, by rw [← e]; exact q1, q⟩

set_option maxRecDepth 10000 in
set_option maxHeartbeats 2000000 in
theorem make_ref (h : Obs base w M o vs n S f) (hn : n ≤ 5000) (s : Sl) (F : Nat → Int) (hs : Ints w s F) (hl : s.n ≤ 1000000) :
    Calls Try.prog 9 #[.pointer (some ⟨M, o, none⟩), .slice s.a s.n s.c] w fun e w' => MakeIs base M o n vs S f s.n F w e w' := by
  obtain ⟨w1, hw1⟩ : ∃ w1, (World.alloc w (.cells #[] 2)).drew = w1 := ⟨_, rfl⟩
  obtain ⟨s2, w2, hrun2, e2, hi2, hm2, hb2⟩ := app_in (w1 := w1) (by rw [← hw1]; exact Below.drew (new (same w) _)) (by rw [← hw1]; simp) (by rw [← hw1]; show (w.heap.push _)[w.heap.size]? = _; simp) s F hs hl 30
  have hc0 : w.drew.cell? ⟨M, o, none⟩ = some (slv vs) := h.c
  have hc1 : w1.cell? ⟨M, o, none⟩ = some (slv vs) := by rw [← hw1]; exact cell_on (Below.drew (new (same w) _)) h.c
  have O2 := h.on hb2
  have hc2 := O2.c
  have hc3 := cell_on (new (same w2) (.cells #[slv s2] 30)) hc2
  obtain ⟨v4, w4, hrun, own4, gr4, hat4⟩ := app_gen (w2 := w2) underlying27 infoL rfl (by decide) (by decide) O2.own hn O2.le #[slv s2] rfl (one_cell _) 27
  obtain ⟨sv, rfl⟩ := owns_slv own4
  obtain ⟨p1, p2, p3⟩ := h.push hb2 hi2 hm2 own4 gr4 hat4
  have P := hid (And.intro p1 (And.intro p2 p3))
  have nM : some M ≠ (slv vs).ownBlock := fun e => by have := (h.own.lt M e.symm).1; have := h.low; omega
  have hM4 : w4.heap[M]? = w2.heap[M]? := by rw [gr4.block M (by simp; have := O2.mlt; omega) nM, Below.heap_alloc _ _ _ O2.mlt]
  have hc4 : w4.cell? ⟨M, o, none⟩ = some (slv vs) := by rw [World.cell?_of_block (w := w2) hM4]; exact hc2
  have fz4 : w4.frozen? ⟨M, o, none⟩ = false := by rw [World.frozen?_of_block (w := w2) hM4]; exact O2.z o
  have EN := hid (show sv.n = n + 1 ∧ s2.n = s.n from ⟨(p1.row (by omega)).1, e2⟩)
  clear p1 p2 p3 own4 gr4 hat4 hM4 O2 h hs hi2 hm2 hb2 e2
  go_enter Try.func9, Try.ntmps9
  go_wp2_with fail
  refine wp_region_noPanic ?_
  refine wp_region_held_drew (S := fun _ => True) (by kernel_rfl) trivial (fun hS => ?_)
  refine takeAt (i := 0) (d := some 5) (v := ?va1_0) rfl (by rfl) (by kernel_rfl) (by kernel_rfl) (by kernel_rfl) (fun _ _ _ h => h) (Or.inl ⟨by rfl, ?ya1_0⟩) hS ?_
  case ya1_0 => intro wx hSw; (go_simp) <;> with_reducible rfl
  simp only [Act.put, List.setIfInBounds_toArray, List.set_cons_zero, List.set_cons_succ]
  refine takeAt (i := 1) (d := some 6) (v := ?va2_1) rfl (by rfl) (by kernel_rfl) (by kernel_rfl) (by kernel_rfl) (fun _ _ _ h => h) (Or.inl ⟨by rfl, ?ya2_1⟩) hS ?_
  case ya2_1 => intro wx hSw; (go_simp) <;> with_reducible rfl
  simp only [Act.put, List.setIfInBounds_toArray, List.set_cons_zero, List.set_cons_succ]
  refine takeAt (i := 2) (d := some 7) (v := ?va3_2) rfl (by rfl) (by kernel_rfl) (by kernel_rfl) (by kernel_rfl) (fun _ _ _ h => h) (Or.inl ⟨by rfl, ?ya3_2⟩) hS ?_
  case ya3_2 => intro wx hSw; (go_simp) <;> with_reducible rfl
  simp only [Act.put, List.setIfInBounds_toArray, List.set_cons_zero, List.set_cons_succ]
  refine takeAt (i := 3) (d := some 8) (v := ?va4_3) rfl (by rfl) (by kernel_rfl) (by kernel_rfl) (by kernel_rfl) (fun _ _ _ h => h) (Or.inl ⟨by rfl, ?ya4_3⟩) hS ?_
  case ya4_3 => intro wx hSw; (go_simp) <;> with_reducible rfl
  simp only [Act.put, List.setIfInBounds_toArray, List.set_cons_zero, List.set_cons_succ]
  refine takeAt (i := 6) (d := some 11) (v := ?va5_6) rfl (by rfl) (by kernel_rfl) (by kernel_rfl) (by kernel_rfl) (fun _ _ _ h => h) (Or.inl ⟨by rfl, ?ya5_6⟩) hS ?_
  case ya5_6 => intro wx hSw; (go_simp) <;> with_reducible rfl
  simp only [Act.put, List.setIfInBounds_toArray, List.set_cons_zero, List.set_cons_succ]
  refine wpAnyH_ready (rs := [4, 5]) (by kernel_rfl) (by simp) ?_
  refine AllReadyH.cons rfl (fun K hK => ?_) (AllReadyH.cons rfl (fun K hK => ?_) AllReadyH.nil)
  · go_simp
    refine hK.out _ _ trivial (fun _ => ?_)
    clear hK K
    have hS := True.intro
    try simp only [Act.put, List.setIfInBounds_toArray, List.set_cons_zero, List.set_cons_succ]
    refine wpAnyH_ready (rs := [5]) (by kernel_rfl) (by simp) ?_
    refine AllReadyH.cons rfl (fun K hK => ?_) AllReadyH.nil
    go_simp
    try rw [hw1]
    refine hK.out _ _ trivial (fun _ => ?_)
    clear hK K
    have hS := True.intro
    try simp only [Act.put, List.setIfInBounds_toArray, List.set_cons_zero, List.set_cons_succ]
    refine wpAnyH_ready (rs := [7]) (by kernel_rfl) (by simp) ?_
    refine AllReadyH.cons rfl (fun K hK => ?_) AllReadyH.nil
    rw [if_pos (by rfl)]
    refine wp_app (s := .tmp 10) (x := .tmp 11) (t := 30) (d := some 12) rfl rfl rfl rfl rfl hrun2 ?_
    try simp only [Act.put, List.setIfInBounds_toArray, List.set_cons_zero, List.set_cons_succ]
    refine hK.out _ _ trivial (fun _ => ?_)
    clear hK K
    have hS := True.intro
    try simp only [Act.put, List.setIfInBounds_toArray, List.set_cons_zero, List.set_cons_succ]
    refine wpAnyH_ready (rs := [8]) (by kernel_rfl) (by simp) ?_
    refine AllReadyH.cons rfl (fun K hK => ?_) AllReadyH.nil
    go_simp
    refine hK.out _ _ trivial (fun _ => ?_)
    clear hK K
    have hS := True.intro
    try simp only [Act.put, List.setIfInBounds_toArray, List.set_cons_zero, List.set_cons_succ]
    refine wpAnyH_ready (rs := [9]) (by kernel_rfl) (by simp) ?_
    refine AllReadyH.cons rfl (fun K hK => ?_) AllReadyH.nil
    rw [if_pos (by rfl)]
    refine wp_app (s := .tmp 9) (x := .tmp 13) (t := 27) (d := some 14) rfl rfl rfl rfl rfl hrun ?_
    try simp only [Act.put, List.setIfInBounds_toArray, List.set_cons_zero, List.set_cons_succ]
    refine hK.out _ _ trivial (fun _ => ?_)
    clear hK K
    have hS := True.intro
    try simp only [Act.put, List.setIfInBounds_toArray, List.set_cons_zero, List.set_cons_succ]
    refine takeAt (i := 10) (d := some 15) (v := ?va6_10) rfl (by rfl) (by kernel_rfl) (by kernel_rfl) (by kernel_rfl) (fun _ _ _ h => h) (Or.inl ⟨by rfl, ?ya6_10⟩) hS ?_
    case ya6_10 => intro wx hSw; (go_simp) <;> with_reducible rfl
    simp only [Act.put, List.setIfInBounds_toArray, List.set_cons_zero, List.set_cons_succ]
    refine takeAt (i := 11) (d := some 16) (v := ?va7_11) rfl (by rfl) (by kernel_rfl) (by kernel_rfl) (by kernel_rfl) (fun _ _ _ h => h) (Or.inl ⟨by rfl, ?ya7_11⟩) hS ?_
    case ya7_11 => intro wx hSw; (go_simp) <;> with_reducible rfl
    simp only [Act.put, List.setIfInBounds_toArray, List.set_cons_zero, List.set_cons_succ]
    refine wpAnyH_ready (rs := [12]) (by kernel_rfl) (by simp) ?_
    refine AllReadyH.cons rfl (fun K hK => ?_) AllReadyH.nil
    go_simp
    refine hK.out _ _ trivial (fun _ => ?_)
    clear hK K
    have hS := True.intro
    try simp only [Act.put, List.setIfInBounds_toArray, List.set_cons_zero, List.set_cons_succ]
    refine wpAnyH_done (by kernel_rfl) ?_ _
    refine NoPanic.normal ?_
    clear hS
    go_wp2_with fail
    go_ret
    refine ⟨?_, sv, s2, EN.out.2, P.out⟩
    show Ending.returned (.int .i64 (wrap64 ((sv.n : Int) - 1))) = _
    rw [EN.out.1]
    congr 2
    unfold wrap64; omega
  · go_simp
    try rw [hw1]
    refine hK.out _ _ trivial (fun _ => ?_)
    clear hK K
    have hS := True.intro
    try simp only [Act.put, List.setIfInBounds_toArray, List.set_cons_zero, List.set_cons_succ]
    refine wpAnyH_ready (rs := [4, 7]) (by kernel_rfl) (by simp) ?_
    refine AllReadyH.cons rfl (fun K hK => ?_) (AllReadyH.cons rfl (fun K hK => ?_) AllReadyH.nil)
    · go_simp
      refine hK.out _ _ trivial (fun _ => ?_)
      clear hK K
      have hS := True.intro
      try simp only [Act.put, List.setIfInBounds_toArray, List.set_cons_zero, List.set_cons_succ]
      refine wpAnyH_ready (rs := [7]) (by kernel_rfl) (by simp) ?_
      refine AllReadyH.cons rfl (fun K hK => ?_) AllReadyH.nil
      rw [if_pos (by rfl)]
      refine wp_app (s := .tmp 10) (x := .tmp 11) (t := 30) (d := some 12) rfl rfl rfl rfl rfl hrun2 ?_
      try simp only [Act.put, List.setIfInBounds_toArray, List.set_cons_zero, List.set_cons_succ]
      refine hK.out _ _ trivial (fun _ => ?_)
      clear hK K
      have hS := True.intro
      try simp only [Act.put, List.setIfInBounds_toArray, List.set_cons_zero, List.set_cons_succ]
      refine wpAnyH_ready (rs := [8]) (by kernel_rfl) (by simp) ?_
      refine AllReadyH.cons rfl (fun K hK => ?_) AllReadyH.nil
      go_simp
      refine hK.out _ _ trivial (fun _ => ?_)
      clear hK K
      have hS := True.intro
      try simp only [Act.put, List.setIfInBounds_toArray, List.set_cons_zero, List.set_cons_succ]
      refine wpAnyH_ready (rs := [9]) (by kernel_rfl) (by simp) ?_
      refine AllReadyH.cons rfl (fun K hK => ?_) AllReadyH.nil
      rw [if_pos (by rfl)]
      refine wp_app (s := .tmp 9) (x := .tmp 13) (t := 27) (d := some 14) rfl rfl rfl rfl rfl hrun ?_
      try simp only [Act.put, List.setIfInBounds_toArray, List.set_cons_zero, List.set_cons_succ]
      refine hK.out _ _ trivial (fun _ => ?_)
      clear hK K
      have hS := True.intro
      try simp only [Act.put, List.setIfInBounds_toArray, List.set_cons_zero, List.set_cons_succ]
      refine takeAt (i := 10) (d := some 15) (v := ?va8_10) rfl (by rfl) (by kernel_rfl) (by kernel_rfl) (by kernel_rfl) (fun _ _ _ h => h) (Or.inl ⟨by rfl, ?ya8_10⟩) hS ?_
      case ya8_10 => intro wx hSw; (go_simp) <;> with_reducible rfl
      simp only [Act.put, List.setIfInBounds_toArray, List.set_cons_zero, List.set_cons_succ]
      refine takeAt (i := 11) (d := some 16) (v := ?va9_11) rfl (by rfl) (by kernel_rfl) (by kernel_rfl) (by kernel_rfl) (fun _ _ _ h => h) (Or.inl ⟨by rfl, ?ya9_11⟩) hS ?_
      case ya9_11 => intro wx hSw; (go_simp) <;> with_reducible rfl
      simp only [Act.put, List.setIfInBounds_toArray, List.set_cons_zero, List.set_cons_succ]
      refine wpAnyH_ready (rs := [12]) (by kernel_rfl) (by simp) ?_
      refine AllReadyH.cons rfl (fun K hK => ?_) AllReadyH.nil
      go_simp
      refine hK.out _ _ trivial (fun _ => ?_)
      clear hK K
      have hS := True.intro
      try simp only [Act.put, List.setIfInBounds_toArray, List.set_cons_zero, List.set_cons_succ]
      refine wpAnyH_done (by kernel_rfl) ?_ _
      refine NoPanic.normal ?_
      clear hS
      go_wp2_with fail
      go_ret
      refine ⟨?_, sv, s2, EN.out.2, P.out⟩
      show Ending.returned (.int .i64 (wrap64 ((sv.n : Int) - 1))) = _
      rw [EN.out.1]
      congr 2
      unfold wrap64; omega
    · rw [if_pos (by rfl)]
      refine wp_app (s := .tmp 10) (x := .tmp 11) (t := 30) (d := some 12) rfl rfl rfl rfl rfl hrun2 ?_
      try simp only [Act.put, List.setIfInBounds_toArray, List.set_cons_zero, List.set_cons_succ]
      refine hK.out _ _ trivial (fun _ => ?_)
      clear hK K
      have hS := True.intro
      try simp only [Act.put, List.setIfInBounds_toArray, List.set_cons_zero, List.set_cons_succ]
      refine wpAnyH_ready (rs := [4, 8]) (by kernel_rfl) (by simp) ?_
      refine AllReadyH.cons rfl (fun K hK => ?_) (AllReadyH.cons rfl (fun K hK => ?_) AllReadyH.nil)
      · go_simp
        refine hK.out _ _ trivial (fun _ => ?_)
        clear hK K
        have hS := True.intro
        try simp only [Act.put, List.setIfInBounds_toArray, List.set_cons_zero, List.set_cons_succ]
        refine wpAnyH_ready (rs := [8]) (by kernel_rfl) (by simp) ?_
        refine AllReadyH.cons rfl (fun K hK => ?_) AllReadyH.nil
        go_simp
        refine hK.out _ _ trivial (fun _ => ?_)
        clear hK K
        have hS := True.intro
        try simp only [Act.put, List.setIfInBounds_toArray, List.set_cons_zero, List.set_cons_succ]
        refine wpAnyH_ready (rs := [9]) (by kernel_rfl) (by simp) ?_
        refine AllReadyH.cons rfl (fun K hK => ?_) AllReadyH.nil
        rw [if_pos (by rfl)]
        refine wp_app (s := .tmp 9) (x := .tmp 13) (t := 27) (d := some 14) rfl rfl rfl rfl rfl hrun ?_
        try simp only [Act.put, List.setIfInBounds_toArray, List.set_cons_zero, List.set_cons_succ]
        refine hK.out _ _ trivial (fun _ => ?_)
        clear hK K
        have hS := True.intro
        try simp only [Act.put, List.setIfInBounds_toArray, List.set_cons_zero, List.set_cons_succ]
        refine takeAt (i := 10) (d := some 15) (v := ?va10_10) rfl (by rfl) (by kernel_rfl) (by kernel_rfl) (by kernel_rfl) (fun _ _ _ h => h) (Or.inl ⟨by rfl, ?ya10_10⟩) hS ?_
        case ya10_10 => intro wx hSw; (go_simp) <;> with_reducible rfl
        simp only [Act.put, List.setIfInBounds_toArray, List.set_cons_zero, List.set_cons_succ]
        refine takeAt (i := 11) (d := some 16) (v := ?va11_11) rfl (by rfl) (by kernel_rfl) (by kernel_rfl) (by kernel_rfl) (fun _ _ _ h => h) (Or.inl ⟨by rfl, ?ya11_11⟩) hS ?_
        case ya11_11 => intro wx hSw; (go_simp) <;> with_reducible rfl
        simp only [Act.put, List.setIfInBounds_toArray, List.set_cons_zero, List.set_cons_succ]
        refine wpAnyH_ready (rs := [12]) (by kernel_rfl) (by simp) ?_
        refine AllReadyH.cons rfl (fun K hK => ?_) AllReadyH.nil
        go_simp
        refine hK.out _ _ trivial (fun _ => ?_)
        clear hK K
        have hS := True.intro
        try simp only [Act.put, List.setIfInBounds_toArray, List.set_cons_zero, List.set_cons_succ]
        refine wpAnyH_done (by kernel_rfl) ?_ _
        refine NoPanic.normal ?_
        clear hS
        go_wp2_with fail
        go_ret
        refine ⟨?_, sv, s2, EN.out.2, P.out⟩
        show Ending.returned (.int .i64 (wrap64 ((sv.n : Int) - 1))) = _
        rw [EN.out.1]
        congr 2
        unfold wrap64; omega
      · go_simp
        refine hK.out _ _ trivial (fun _ => ?_)
        clear hK K
        have hS := True.intro
        try simp only [Act.put, List.setIfInBounds_toArray, List.set_cons_zero, List.set_cons_succ]
        refine wpAnyH_ready (rs := [4]) (by kernel_rfl) (by simp) ?_
        refine AllReadyH.cons rfl (fun K hK => ?_) AllReadyH.nil
        go_simp
        refine hK.out _ _ trivial (fun _ => ?_)
        clear hK K
        have hS := True.intro
        try simp only [Act.put, List.setIfInBounds_toArray, List.set_cons_zero, List.set_cons_succ]
        refine wpAnyH_ready (rs := [9]) (by kernel_rfl) (by simp) ?_
        refine AllReadyH.cons rfl (fun K hK => ?_) AllReadyH.nil
        rw [if_pos (by rfl)]
        refine wp_app (s := .tmp 9) (x := .tmp 13) (t := 27) (d := some 14) rfl rfl rfl rfl rfl hrun ?_
        try simp only [Act.put, List.setIfInBounds_toArray, List.set_cons_zero, List.set_cons_succ]
        refine hK.out _ _ trivial (fun _ => ?_)
        clear hK K
        have hS := True.intro
        try simp only [Act.put, List.setIfInBounds_toArray, List.set_cons_zero, List.set_cons_succ]
        refine takeAt (i := 10) (d := some 15) (v := ?va12_10) rfl (by rfl) (by kernel_rfl) (by kernel_rfl) (by kernel_rfl) (fun _ _ _ h => h) (Or.inl ⟨by rfl, ?ya12_10⟩) hS ?_
        case ya12_10 => intro wx hSw; (go_simp) <;> with_reducible rfl
        simp only [Act.put, List.setIfInBounds_toArray, List.set_cons_zero, List.set_cons_succ]
        refine takeAt (i := 11) (d := some 16) (v := ?va13_11) rfl (by rfl) (by kernel_rfl) (by kernel_rfl) (by kernel_rfl) (fun _ _ _ h => h) (Or.inl ⟨by rfl, ?ya13_11⟩) hS ?_
        case ya13_11 => intro wx hSw; (go_simp) <;> with_reducible rfl
        simp only [Act.put, List.setIfInBounds_toArray, List.set_cons_zero, List.set_cons_succ]
        refine wpAnyH_ready (rs := [12]) (by kernel_rfl) (by simp) ?_
        refine AllReadyH.cons rfl (fun K hK => ?_) AllReadyH.nil
        go_simp
        refine hK.out _ _ trivial (fun _ => ?_)
        clear hK K
        have hS := True.intro
        try simp only [Act.put, List.setIfInBounds_toArray, List.set_cons_zero, List.set_cons_succ]
        refine wpAnyH_done (by kernel_rfl) ?_ _
        refine NoPanic.normal ?_
        clear hS
        go_wp2_with fail
        go_ret
        refine ⟨?_, sv, s2, EN.out.2, P.out⟩
        show Ending.returned (.int .i64 (wrap64 ((sv.n : Int) - 1))) = _
        rw [EN.out.1]
        congr 2
        unfold wrap64; omega

end Go.Proofs.Ytckkbamelkkblaa.Ob
