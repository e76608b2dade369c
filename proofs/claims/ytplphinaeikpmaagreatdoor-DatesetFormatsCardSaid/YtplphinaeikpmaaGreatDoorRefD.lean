/-
  The contracts of the reference's Of, Until and Since.
-/
import Derived.Test.YtplphinaeikpmaaGreatDoorBoth
namespace Go.Proofs.YtplphinaeikpmaaGreatDoor
open Go.RowKit (wrap32 wrap64 intOf Hid Below)
open Spans

theorem nil_spans (B : Nat) (w : World) : SpansAt B w none 0 [] := ⟨rfl, fun h => absurd h (by omega)⟩
theorem BothRet.congr {P Q : Int → Bool} {m : Nat} {e : Ending} {w' : World} (h : BothRet P m e w') (hPQ : ∀ d, 0 ≤ d → d ≤ 1048576 → P d = Q d) : BothRet Q m e w' := by
  obtain ⟨A, n, c, rfl, h1, h2, h3, h4⟩ := h
  have hQ := h2.congr hPQ
  have e := canon_is hQ
  rw [e] at h1 hQ
  exact ⟨A, n, c, rfl, h1, hQ, h3, h4⟩
theorem BothRet.le {P : Int → Bool} {m m' : Nat} {e : Ending} {w' : World} (h : BothRet P m e w') (hm : m ≤ m') : BothRet P m' e w' := by
  obtain ⟨A, n, c, rfl, h1, h2, h3, h4⟩ := h
  exact ⟨A, n, c, rfl, h1, h2, by omega, h4⟩
theorem con_mem (L : List Sp) (d : Int) (h0 : 0 ≤ d) (h1 : d ≤ 1048576) : conB L d = memB L d := by unfold conB; rw [decide_eq_true ⟨h0, h1⟩, Bool.true_and]
theorem op0 (La Lb : List Sp) (d : Int) (h0 : 0 ≤ d) (h1 : d ≤ 1048576) : opP 0 La Lb d = (memB La d || memB Lb d) := by
  unfold opP opB; rw [if_pos rfl, con_mem La d h0 h1, con_mem Lb d h0 h1]
theorem op1 (La Lb : List Sp) (d : Int) (h0 : 0 ≤ d) (h1 : d ≤ 1048576) : opP 1 La Lb d = (memB La d && memB Lb d) := by
  unfold opP opB; rw [if_neg (by omega), if_pos rfl, con_mem La d h0 h1, con_mem Lb d h0 h1]
theorem op2 (La Lb : List Sp) (d : Int) (h0 : 0 ≤ d) (h1 : d ≤ 1048576) : opP 2 La Lb d = (memB La d && !memB Lb d) := by
  unfold opP opB; rw [if_neg (by omega), if_neg (by omega), con_mem La d h0 h1, con_mem Lb d h0 h1]

theorem until_val (d t : Int) (h0 : 0 ≤ d) : memB [(0, t)] d = decide (d < t) := by simp [memB, h0]
theorem since_val (d t : Int) (h1 : d ≤ 1048576) : memB [(t, 1048577)] d = !decide (d < t) := by
  rw [Bool.eq_iff_iff]; simp [memB]; omega
section
variable (La Lb : List Sp) (N M ca cb : Nat) (Aa Ab : Option Addr) (w : World)
theorem join_c (hza : SpansAt w.heap.size w Aa N La) (hzb : SpansAt w.heap.size w Ab M Lb) (hN : N ≤ 10000) (hM : M ≤ 10000) (hna : Aa = none → ca = 0) (hnb : Ab = none → cb = 0) :
    Calls Tryz.prog 22 #[.int .i64 0, .slice Aa N ca, .slice Ab M cb] w fun e w' => BothRet (fun d => memB La d || memB Lb d) (1 + 2 * (N + M)) e w' ∧ Below w.heap.size w w' :=
  (both_any 0 (Or.inl rfl) La Lb N M ca cb Aa Ab w hza hzb hN hM hna hnb).mono fun _ _ ⟨he, hb⟩ => ⟨he.congr (op0 La Lb), hb⟩
theorem meet_c (hza : SpansAt w.heap.size w Aa N La) (hzb : SpansAt w.heap.size w Ab M Lb) (hN : N ≤ 10000) (hM : M ≤ 10000) (hna : Aa = none → ca = 0) (hnb : Ab = none → cb = 0) :
    Calls Tryz.prog 22 #[.int .i64 1, .slice Aa N ca, .slice Ab M cb] w fun e w' => BothRet (fun d => memB La d && memB Lb d) (1 + 2 * (N + M)) e w' ∧ Below w.heap.size w w' :=
  (both_any 1 (Or.inr (Or.inl rfl)) La Lb N M ca cb Aa Ab w hza hzb hN hM hna hnb).mono fun _ _ ⟨he, hb⟩ => ⟨he.congr (op1 La Lb), hb⟩
theorem less_c (hza : SpansAt w.heap.size w Aa N La) (hzb : SpansAt w.heap.size w Ab M Lb) (hN : N ≤ 10000) (hM : M ≤ 10000) (hna : Aa = none → ca = 0) (hnb : Ab = none → cb = 0) :
    Calls Tryz.prog 22 #[.int .i64 2, .slice Aa N ca, .slice Ab M cb] w fun e w' => BothRet (fun d => memB La d && !memB Lb d) (1 + 2 * (N + M)) e w' ∧ Below w.heap.size w w' :=
  (both_any 2 (Or.inr (Or.inr rfl)) La Lb N M ca cb Aa Ab w hza hzb hN hM hna hnb).mono fun _ _ ⟨he, hb⟩ => ⟨he.congr (op2 La Lb), hb⟩

set_option maxHeartbeats 1000000 in
theorem of_c (hza : SpansAt w.heap.size w Aa N La) (hN : N ≤ 10000) (hna : Aa = none → ca = 0) :
    Calls Tryz.prog 10 #[.slice Aa N ca] w fun e w' => BothRet (memB La) (1 + 2 * N) e w' ∧ Below w.heap.size w w' := by
  have HB := Lib.hid (join_c La [] N 0 ca 0 Aa none w hza (nil_spans _ _) hN (by omega) hna (fun _ => rfl))
  clear hza hna
  go_enter Tryz.func10, Tryz.ntmps10
  go_wp2_with (go_at_call 22; ((with_reducible refine (HB.out).mono ?_); rintro e w1 ⟨hr, hb⟩; have HR := Lib.hid (hr.congr (Q := memB La) (fun d _ _ => by simp [memB])); obtain ⟨A1, n1, c1, rfl, hr2⟩ := HR.out; have HR2 := Lib.hid hr2; clear hr hr2))
  go_ret
  exact ⟨⟨A1, n1, c1, rfl, HR2.out⟩, hb⟩
end
end Go.Proofs.YtplphinaeikpmaaGreatDoor
