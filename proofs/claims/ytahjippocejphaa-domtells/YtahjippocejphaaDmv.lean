/-
  Chapter 5's example: plnlaw5.first answers true.
-/
import Derived.Test.YtahjippocejphaaDmu
import Derived.Test.YtahjippocejphaaDmi
import Derived.Test.YtahjippocejphaaFloY
namespace Go.Proofs.Ytahjippocejphaa.Dm
open Go.RowKit View Rd Copy Num Ty Srt Go.Proofs.Ytahjippocejphaa.Flo Go.Proofs.Ytahjippocejphaa.Lt

set_option linter.unusedVariables false

theorem Ro.ints {w : World} {g n c : Nat} {f : Nat → Int} (h : Ro w g n f) (hc : n ≤ c) (hn : n ≤ 1000) : Ints w ⟨some ⟨g, 0, none⟩, n, c⟩ f :=
  ⟨hc, by show n ≤ _; omega, fun h => by simp at h, fun _ => ⟨g, 0, rfl, fun i hi => by simpa using h.cell i hi⟩⟩

set_option maxHeartbeats 1000000 in
theorem first_any (w : World) : Calls Try.prog 22 #[] w fun e w' => e = .returned (.bool true) ∧ Below w.heap.size w w' := by
  have HI := hid (in4 w)
  have B0 := hid (new (new (new (new (new (new (new (new (new (new (same w) _) _) _) _) _) _) _) _) _) (.cells (fcells (ex4 w.heap.size)) 33) : Below w.heap.size w ((w4 w).alloc _))
  go_enter Try.func22, Try.ntmps22
  go_wp2_with fail
  refine (front_any (ex4 w.heap.size) _ (HI.out.on (new (same _) (.cells (fcells (ex4 w.heap.size)) 33))) (light4 _) (jng4 _) (show 0 < 4 by decide)).mono ?_
  rintro e w1 ⟨M, R, rfl, hpv, hM, hb1⟩
  have E1 := hid (In.on hb1 (HI.out.on (new (same _) (.cells (fcells (ex4 w.heap.size)) 33))))
  have q1 := FuncAt.on hb1 (FuncAt.alloc _ (ex4 w.heap.size))
  simp only [World.size_alloc] at q1
  have B1 := hid (View.more B0.out hb1)
  have Q1 := hid q1
  have PV := hid hpv
  clear hpv hM hb1 HI B0
  obtain ⟨c0, c1, c2, c3, c4⟩ := q1
  go_wp2_with fail
  refine (over_any (ex4 w.heap.size) _ E1.out (light4 _) (jng4 _) (show 0 < 4 by decide)).mono ?_
  rintro e w2 ⟨go, co, ov, rfl, hro, hov, hgo, hb2⟩
  have RO := hid (show Ints w2 ⟨some ⟨go, 0, none⟩, 4, co⟩ ov from hro.ints hgo.2 (by show 4 ≤ _; decide))
  have OV := hid (over4 hov)
  have B2 := hid (View.more B1.out hb2)
  have E2 := hid (E1.out.on hb2)
  have Q2 := hid (Q1.out.on hb2)
  have P2 := hid (PV.out.on hb2)
  clear hro hov hgo hb2 c0 c1 c2 c3 c4 B1 E1 Q1 PV
  go_wp2_with fail
  refine (ints_any ⟨some ⟨go, 0, none⟩, 4, co⟩ ⟨some ⟨w2.heap.size, 0, none⟩, 4, 4⟩ ov (fun i => ([-1, 0, 0, 0] : List Int).getD i 0) _ (RO.out.on (new (same _) _)) (lit4 w2 (-1) 0 0 0 (fun i => ([-1, 0, 0, 0] : List Int).getD i 0) rfl rfl rfl rfl _ rfl) (by show 4 ≤ 1000; decide)).mono ?_
  rintro e w3 ⟨r, rfl, hr, q, hq⟩
  obtain rfl : r = true := hr.2 ⟨rfl, fun i hi => OV.out i hi⟩
  have B3 := hid (show Below w2.heap.size w2 w3 by rw [hq]; exact below_drewN (new (same w2) (.cells #[.int .i64 (-1), .int .i64 0, .int .i64 0, .int .i64 0] 3)) q)
  have p3 := P2.out.on B3.out
  have i3 := row_at (M := M) (n := 4) (x := 1) (by decide)
  have pc3 := p3.row.cell (i := 1) (show 1 < 4 by decide)
  obtain ⟨si1, sn1⟩ := Pv.ints p3 (i := 1) (show 1 < 4 by decide) (by have := frL_le (ex4 w.heap.size) 4 1; show (frL (ex4 w.heap.size) 4 1).length ≤ 1000; omega)
  have SI := hid (And.intro si1 sn1)
  clear hr p3 si1 sn1 hq
  go_wp2_with fail
  refine (ints_any (R 1) ⟨some ⟨w3.heap.size, 0, none⟩, 1, 1⟩ _ (fun i => (([3].getD i 0 : Nat) : Int)) _ (SI.out.1.on (new (same _) _)) (lit1 w3 3 (fun i => (([3].getD i 0 : Nat) : Int)) rfl _ rfl) (by rw [SI.out.2]; have := frL_le (ex4 w.heap.size) 4 1; show (frL (ex4 w.heap.size) 4 1).length ≤ 1000; omega)).mono ?_
  rintro e w5 ⟨r, rfl, hr, q5, hq5⟩
  obtain rfl : r = true := hr.2 ⟨by rw [SI.out.2]; show (frL (ex4 w.heap.size) 4 1).length = 1; rw [front4]; rfl, fun i hi => by show ((frL (ex4 w.heap.size) 4 1).getD i 0 : Int) = _; rw [front4]⟩
  have B5 := hid (show Below w3.heap.size w3 w5 by rw [hq5]; exact below_drewN (new (same w3) (.cells #[.int .i64 3] 3)) q5)
  obtain ⟨c0, c1, c2, c3, c4⟩ := Q2.out.on (View.more B3.out B5.out)
  clear hr hq5 SI i3 pc3
  go_wp2_with fail
  refine (dom_any (ex4 w.heap.size) 0 3 _ (E2.out.on (View.more B3.out B5.out)) (light4 _) (jng4 _)).mono ?_
  rintro e w6 ⟨r, rfl, hr, hb6⟩
  obtain rfl : r = true := hr.2 ⟨by decide, by show (0 : Int) < 4; decide, by decide, by show (3 : Int) < 4; decide, dom4_03 _⟩
  have B6 := hid (View.more (View.more B2.out (View.more B3.out B5.out)) hb6)
  clear hr hb6 c0 c1 c2 c3 c4
  go_wp2_with fail
  go_ret
  exact ⟨rfl, B6.out⟩

end Go.Proofs.Ytahjippocejphaa.Dm
