/-
  The contracts of the function value of InsertAfter and of rewrite.
-/
import Derived.Deep.RegionLaw
import Derived.Test.YtphehcbjegfifaaDoorApp
namespace Go.Proofs.YtphehcbjegfifaaDoor
open Go.RowKit (wrap32 wrap64 intOf Hid Below)
open Occ

set_option maxHeartbeats 2000000 in
/-- The function value of InsertAfter. -/
theorem insert1_any (P F : List Str) (m f c1 d b1 b2 : Nat) (A1 D : Option Addr) (w : World) (hP : ValsAt w.heap.size w A1 m (sv P)) (hF : ValsAt w.heap.size w D f (sv F)) (hm : m ≤ 1000000) (hf : f ≤ 1000000)
    (hb1 : b1 < w.heap.size) (hb2 : b2 < w.heap.size) (hbox1 : w.cell? ⟨b1, 0, none⟩ = some (.slice A1 m c1)) (hbox2 : w.cell? ⟨b2, 0, none⟩ = some (.slice D f d)) :
    Appends w 26 #[.pointer (some ⟨b1, 0, none⟩), .pointer (some ⟨b2, 0, none⟩)] (P ++ F) := by
  intro base W A c k xs hbase hW hbw hk hown
  obtain ⟨i0, hi, hz0, hz1, hz2⟩ := info_parts info_str
  have HB1 : Hid (∀ W', Below base W W' → W'.cell? ⟨b1, 0, none⟩ = some (.slice A1 m c1)) := Lib.hid fun W' h => (h.cell (p := ⟨b1, 0, none⟩) (by simp only; omega)).trans ((hbw.cell (p := ⟨b1, 0, none⟩) hb1).trans hbox1)
  have HB2 : Hid (∀ W', Below base W W' → W'.cell? ⟨b2, 0, none⟩ = some (.slice D f d)) := Lib.hid fun W' h => (h.cell (p := ⟨b2, 0, none⟩) (by simp only; omega)).trans ((hbw.cell (p := ⟨b2, 0, none⟩) hb2).trans hbox2)
  have HO := Lib.hid hown
  have HVP : Hid (∀ W', Below base W W' → ValsAt base W' A1 m (sv P)) := Lib.hid fun W' h => ((hP.below hbw).mono hbase).below h
  have HVF : Hid (∀ W', Below base W W' → ValsAt base W' D f (sv F)) := Lib.hid fun W' h => ((hF.below hbw).mono hbase).below h
  have HPl : Hid (m = P.length) := Lib.hid (by have := hP.1; rw [sv_len] at this; exact this.symm)
  have HFl : Hid (f = F.length) := Lib.hid (by have := hF.1; rw [sv_len] at this; exact this.symm)
  have HBW := Lib.hid (Below.refl base W)
  have hx1 := HB1.out W (Below.refl base W)
  have hx2 := HB2.out W (Below.refl base W)
  clear hP hF hown hbox1 hbox2 hbw hb1 hb2
  go_enter Tryd.func26, Tryd.ntmps26
  go_wp2
  go_region_law (first
    | (refine step_append_vals _ (by rfl) _ _ _ (by rfl) base 9 i0 (.string ⟨#[]⟩) 16 Tryd.underlying23 hi hz0 hz1 hz2 rfl (.slice A k c) k (sv xs) (by rfl) (by first | exact HO.out | exact HO.out.drew) base A1 m c1 (sv P) (by rfl) (HVP.out _ (by first | exact HBW.out | exact HBW.out.drew)) (sv_one _) (by unfold maxLen; omega) (by omega) (by first | exact hW | simpa using hW) ?_; intro A2 c2 w2 hown2 hg2; have hS2 : Below base W w2 := below_own (by first | exact HO.out | exact HO.out.drew) (by first | exact HBW.out | exact HBW.out.drew) (by first | exact hW | simpa using hW) hg2; have hx2' := HB2.out _ hS2; have hW2 := hS2.size)
    | (refine step_append_vals _ (by rfl) _ _ _ (by rfl) base 9 i0 (.string ⟨#[]⟩) 16 Tryd.underlying23 hi hz0 hz1 hz2 rfl (.slice A2 (k + m) c2) (k + m) (sv xs ++ sv P) (by rfl) (by first | exact hown2 | exact hown2.drew) base D f d (sv F) (by rfl) (HVF.out _ (by first | exact hS2 | exact hS2.drew)) (sv_one _) (by unfold maxLen; omega) (by omega) (by first | omega | (simp; omega)) ?_; intro A3 c3 w3 hown3 hg3; have hS3 : Below base W w3 := below_own (by first | exact hown2 | exact hown2.drew) (by first | exact hS2 | exact hS2.drew) (by first | omega | (simp; omega)) hg3))
  all_goals
    have HV3 := Lib.hid hown3
    have HS3 := Lib.hid hS3
    clear hown3 hown2 hS3 hS2 hg2 hg3
    go_wp2
    go_ret
    have el : k + (P ++ F).length = k + m + f := by rw [List.length_append, ← HPl.out, ← HFl.out]; omega
    rw [el, sv_app, sv_app, ← List.append_assoc]
    exact ⟨A3, c3, rfl, by first | exact HV3.out | exact HV3.out.drew, by first | exact HS3.out | exact HS3.out.drew⟩
end Go.Proofs.YtphehcbjegfifaaDoor
