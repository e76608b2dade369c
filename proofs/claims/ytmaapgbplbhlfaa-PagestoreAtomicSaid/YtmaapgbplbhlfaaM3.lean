/-
  One call on a store and on the reference; that they agree; the chapter's example.
-/
import Derived.Test.YtmaapgbplbhlfaaM2
namespace Go.Proofs.Ytmaapgbplbhlfaa.Pu
open Go Go.Pv
set_option linter.unusedSimpArgs false

set_option maxRecDepth 10000
set_option maxHeartbeats 8000000
structure Cal where
  k : Int
  t : ByteArray
  n : Int
def cv (x : Cal) : IV := .agg [.int .u8 x.k, .str x.t, .int .i64 x.n]
/-- The same store but for the counter, which is negative in both or the same. -/
def cEq (a b : Int) : Prop := a = b ∨ (a < 0 ∧ b < 0)
def Sto.wc (s : Sto) (c : Int) : Sto := ⟨s.L, s.d, s.r, c, s.off⟩
theorem perr_wc (s : Sto) (c p : Int) : perr (s.wc c) p = perr s p := rfl
theorem rd_wc (s : Sto) (c p : Int) : rd (s.wc c) p = rd s p := rfl
theorem crash_wc (s : Sto) (c k : Int) : crash (s.wc c) k = crash s k := rfl
theorem dec_eq {a b : Int} (h : cEq a b) : cEq (dec a) (dec b) := by
  unfold cEq dec at *
  split <;> split <;> omega
theorem app_wc (s : Sto) (c : Int) (h : cEq s.c c) (t : ByteArray) : ∃ c', app (s.wc c) t = ((app s t).1.wc c', (app s t).2) ∧ cEq (app s t).1.c c' := by
  have h0 : (s.c = 0) = (c = 0) := by
    unfold cEq at h
    exact propext (by omega)
  unfold app Sto.wc
  simp only [h0]
  split
  · exact ⟨c, rfl, h⟩
  split
  · exact ⟨c, rfl, h⟩
  split
  · exact ⟨c, rfl, h⟩
  split
  · exact ⟨c, rfl, h⟩
  · exact ⟨dec c, rfl, dec_eq h⟩
theorem setR_wc (s : Sto) (c : Int) (h : cEq s.c c) (p : Int) : ∃ c', setR (s.wc c) p = ((setR s p).1.wc c', (setR s p).2) ∧ cEq (setR s p).1.c c' := by
  have h0 : (s.c = 0) = (c = 0) := by
    unfold cEq at h
    exact propext (by omega)
  unfold setR Sto.wc
  simp only [h0]
  split
  · exact ⟨c, rfl, h⟩
  split
  · exact ⟨c, rfl, h⟩
  split
  · exact ⟨c, rfl, h⟩
  · exact ⟨dec c, rfl, dec_eq h⟩
theorem dec_in {c : Int} (h : in64 c) : in64 (dec c) := by
  unfold in64 dec at *
  split <;> omega
theorem app_ok {s : Sto} (h : s.ok) (t : ByteArray) : (app s t).1.ok := by
  obtain ⟨h1, h2, h3, h4⟩ := h
  unfold app
  split
  · exact ⟨h1, h2, h3, h4⟩
  split
  · exact ⟨h1, h2, h3, h4⟩
  split
  · exact ⟨h1, h2, h3, h4⟩
  split
  · exact ⟨h1, h2, h3, h4⟩
  · exact ⟨by simp; omega, h2, by simp; omega, dec_in h4⟩
theorem setR_ok {s : Sto} (h : s.ok) (p : Int) : (setR s p).1.ok := by
  obtain ⟨h1, h2, h3, h4⟩ := h
  unfold setR
  split
  · exact ⟨h1, h2, h3, h4⟩
  split
  · exact ⟨h1, h2, h3, h4⟩
  split
  · exact ⟨h1, h2, h3, h4⟩
  · exact ⟨h1, by simp, by simp, dec_in h4⟩
theorem crash_ok {s : Sto} (h : s.ok) (k : Int) : (crash s k).ok := by
  obtain ⟨n, hn, hl⟩ := cut_nat h k
  obtain ⟨h1, h2, h3, h4⟩ := h
  refine ⟨?_, ?_, ?_, by unfold in64 crash; simp⟩ <;> (unfold crash; rw [hn]; simp <;> omega)
def Sto.put (s : Sto) (c : Int) : Sto := s.wc c
def stepS (s : Sto) (x : Cal) : Sto :=
  if x.k = 0 ∨ x.k = 1 ∨ x.k = 2 then (app s x.t).1 else if x.k = 3 ∨ x.k = 4 then (setR s x.n).1 else if x.k = 5 then crash s x.n else if x.k = 6 then s.wc x.n else s
theorem step_ok {s : Sto} (h : s.ok) {x : Cal} (hx : in64 x.n) : (stepS s x).ok := by
  unfold stepS
  split
  · exact app_ok h _
  split
  · exact setR_ok h _
  split
  · exact crash_ok h _
  split
  · exact ⟨h.len, h.d0, h.dl, hx⟩
  · exact h
theorem done_pcb (s : Sto) (h : s.ok) (c : Int) (hc : cEq s.c c) (hci : in64 c) (x : Cal) (hx : in64 x.n) : ∃ c', cEq (stepS s x).c c' ∧ in64 c' ∧ PCB Try.prog envU 12 [.ptr 0 1 0, .ptr 1 1 0, .imm (cv x)] [.box 1 [.row 2 1, .imm (.int .i64 s.d), .imm (.int .i64 s.r), .imm (.int .i64 s.c), .imm (.bool s.off)], .box 1 [.imm (.sl 1 (sv s.L)), .imm (.int .i64 s.d), .imm (.int .i64 s.r), .imm (.int .i64 (c)), .imm (.bool s.off)], .row 9 1 1 ((sv s.L).map .imm)] [.imm (.bool true)] [.box 1 [.row 2 2, .imm (.int .i64 (stepS s x).d), .imm (.int .i64 (stepS s x).r), .imm (.int .i64 (stepS s x).c), .imm (.bool (stepS s x).off)], .box 1 [.imm (.sl 1 (sv (stepS s x).L)), .imm (.int .i64 (stepS s x).d), .imm (.int .i64 (stepS s x).r), .imm (.int .i64 (c')), .imm (.bool (stepS s x).off)], .row 9 1 2 ((sv (stepS s x).L).map .imm)] := by
  unfold cv
  have hok' : (s.wc c).ok := ⟨h.len, h.d0, h.dl, hci⟩
  by_cases h1 : x.k = 0 ∨ x.k = 1 ∨ x.k = 2
  · obtain ⟨c', e, hc'⟩ := app_wc s c hc x.t
    have hA := append_pcb s h.len h.c x.t
    have hM := rappend_pcb (s.wc c) h.len hci x.t
    have hi : in64 c' := by
      have := (app_ok hok' x.t).c
      rw [e] at this
      exact this
    rw [e] at hM
    refine ⟨c', ?_, hi, ?_⟩
    · unfold stepS; rw [if_pos h1]; exact hc'
    rw [show stepS s x = (app s x.t).1 by unfold stepS; rw [if_pos h1]]
    generalize app s x.t = r at hA hM
    obtain ⟨s', n, er⟩ := r
    simp only at hA hM ⊢
    rcases h1 with h1 | h1 | h1 <;> rw [h1]
    all_goals
      refine PCB.of_vc (T := tb0) eqs_ok tb_ok rfl mixed Try.func12 rfl rfl rfl ?_; intro Γ C WK LP fin h0 hk0 hW hC hB hR hLP hfin
      (repeat ((conv => whnf); first | (with_reducible refine Fork.mk (fun _ => ?_) (fun hc => ?_)); rotate_left; (exfalso; first | omega | (simp [eqC, cellsI, idv, idl] at hc; done) | (simp [eqC, cellsI, idv, idl] at hc; omega) | contradiction) | (with_reducible refine Fork.mk (fun hc => ?_) (fun _ => ?_)); (exfalso; first | omega | (simp [eqC, cellsI, idv, idl] at hc; done) | (simp [eqC, cellsI, idv, idl] at hc; omega) | contradiction) | (with_reducible refine Owe.mk ?_ ?_); (first | omega | (unfold most; omega) | decide +kernel | assumption | (simp [most]; done) | (simp [most]; omega)) | (with_reducible intro z hz); first | (replace hz := hz (by omega); subst hz) | subst hz)); try (conv => whnf)
      refine Imms.mk (sv s.L) rfl ?_
      (repeat ((conv => whnf); first | (with_reducible refine Fork.mk (fun _ => ?_) (fun hc => ?_)); rotate_left; (exfalso; first | omega | (simp [eqC, cellsI, idv, idl] at hc; done) | (simp [eqC, cellsI, idv, idl] at hc; omega) | contradiction) | (with_reducible refine Fork.mk (fun hc => ?_) (fun _ => ?_)); (exfalso; first | omega | (simp [eqC, cellsI, idv, idl] at hc; done) | (simp [eqC, cellsI, idv, idl] at hc; omega) | contradiction) | (with_reducible refine Owe.mk ?_ ?_); (first | omega | (unfold most; omega) | decide +kernel | assumption | (simp [most]; done) | (simp [most]; omega)) | (with_reducible intro z hz); first | (replace hz := hz (by omega); subst hz) | subst hz)); try (conv => whnf)
      refine CallB.mk ([.imm (.int .i64 n), .imm (.int .i64 er)]) ([.box 1 [.row 1 2, .imm (.int .i64 s'.d), .imm (.int .i64 s'.r), .imm (.int .i64 s'.c), .imm (.bool s'.off)], .row 9 1 2 (sv s'.L)]) (hB _ _ _ _ _ (hA)) ?_
      (repeat ((conv => whnf); first | (with_reducible refine Fork.mk (fun _ => ?_) (fun hc => ?_)); rotate_left; (exfalso; first | omega | (simp [eqC, cellsI, idv, idl] at hc; done) | (simp [eqC, cellsI, idv, idl] at hc; omega) | contradiction) | (with_reducible refine Fork.mk (fun hc => ?_) (fun _ => ?_)); (exfalso; first | omega | (simp [eqC, cellsI, idv, idl] at hc; done) | (simp [eqC, cellsI, idv, idl] at hc; omega) | contradiction) | (with_reducible refine Owe.mk ?_ ?_); (first | omega | (unfold most; omega) | decide +kernel | assumption | (simp [most]; done) | (simp [most]; omega)) | (with_reducible intro z hz); first | (replace hz := hz (by omega); subst hz) | subst hz)); try (conv => whnf)
      refine CallB.mk ([.imm (.int .i64 n), .imm (.int .i64 er)]) ([.box 1 [.imm (.sl 1 (sv s'.L)), .imm (.int .i64 s'.d), .imm (.int .i64 s'.r), .imm (.int .i64 (c')), .imm (.bool s'.off)]]) (hB _ _ _ _ _ (hM)) ?_
      (repeat ((conv => whnf); first | (with_reducible refine Fork.mk (fun _ => ?_) (fun hc => ?_)); rotate_left; (exfalso; first | omega | (simp [eqC, cellsI, idv, idl] at hc; done) | (simp [eqC, cellsI, idv, idl] at hc; omega) | contradiction) | (with_reducible refine Fork.mk (fun hc => ?_) (fun _ => ?_)); (exfalso; first | omega | (simp [eqC, cellsI, idv, idl] at hc; done) | (simp [eqC, cellsI, idv, idl] at hc; omega) | contradiction) | (with_reducible refine Owe.mk ?_ ?_); (first | omega | (unfold most; omega) | decide +kernel | assumption | (simp [most]; done) | (simp [most]; omega)) | (with_reducible intro z hz); first | (replace hz := hz (by omega); subst hz) | subst hz)); try (conv => whnf)
      exact hfin _ (Weak.slots 3 (by first | omega | (rw [h0]; exact Nat.le_of_ble_eq_true rfl)) rfl rfl (by first | rfl | (simp only [List.all_cons, List.all_nil, blkBelow, belowL_imm, belowL, belowB, Bool.and_true, Bool.true_and]; first | done | decide) | simp [blkBelow, belowB, belowL, belowL_imm]) (by repeat (first | exact Wk.nil | refine Wk.drop ?_ | refine Wk.eq (by with_reducible rfl) rfl ?_ | refine Wk.eq (congrArg (fun z => PV.imm (IV.int IntKind.i64 z)) (by first | omega | (simp; done) | (simp; omega))) rfl ?_ | refine Wk.eq rfl rfl ?_)))
  by_cases h2 : x.k = 3 ∨ x.k = 4
  · obtain ⟨c', e, hc'⟩ := setR_wc s c hc x.n
    have hA := setroot_pcb s h.c x.n
    have hM := rsetroot_pcb (s.wc c) hci x.n
    have hi : in64 c' := by
      have := (setR_ok hok' x.n).c
      rw [e] at this
      exact this
    rw [e] at hM
    refine ⟨c', ?_, hi, ?_⟩
    · unfold stepS; rw [if_neg h1, if_pos h2]; exact hc'
    rw [show stepS s x = (setR s x.n).1 by unfold stepS; rw [if_neg h1, if_pos h2]]
    generalize setR s x.n = r at hA hM
    obtain ⟨s', er⟩ := r
    simp only at hA hM ⊢
    rcases h2 with h2 | h2 <;> rw [h2]
    all_goals
      refine PCB.of_vc (T := tb0) eqs_ok tb_ok rfl mixed Try.func12 rfl rfl rfl ?_; intro Γ C WK LP fin h0 hk0 hW hC hB hR hLP hfin
      (repeat ((conv => whnf); first | (with_reducible refine Fork.mk (fun _ => ?_) (fun hc => ?_)); rotate_left; (exfalso; first | omega | (simp [eqC, cellsI, idv, idl] at hc; done) | (simp [eqC, cellsI, idv, idl] at hc; omega) | contradiction) | (with_reducible refine Fork.mk (fun hc => ?_) (fun _ => ?_)); (exfalso; first | omega | (simp [eqC, cellsI, idv, idl] at hc; done) | (simp [eqC, cellsI, idv, idl] at hc; omega) | contradiction) | (with_reducible refine Owe.mk ?_ ?_); (first | omega | (unfold most; omega) | decide +kernel | assumption | (simp [most]; done) | (simp [most]; omega)) | (with_reducible intro z hz); first | (replace hz := hz (by omega); subst hz) | subst hz)); try (conv => whnf)
      refine Imms.mk (sv s.L) rfl ?_
      (repeat ((conv => whnf); first | (with_reducible refine Fork.mk (fun _ => ?_) (fun hc => ?_)); rotate_left; (exfalso; first | omega | (simp [eqC, cellsI, idv, idl] at hc; done) | (simp [eqC, cellsI, idv, idl] at hc; omega) | contradiction) | (with_reducible refine Fork.mk (fun hc => ?_) (fun _ => ?_)); (exfalso; first | omega | (simp [eqC, cellsI, idv, idl] at hc; done) | (simp [eqC, cellsI, idv, idl] at hc; omega) | contradiction) | (with_reducible refine Owe.mk ?_ ?_); (first | omega | (unfold most; omega) | decide +kernel | assumption | (simp [most]; done) | (simp [most]; omega)) | (with_reducible intro z hz); first | (replace hz := hz (by omega); subst hz) | subst hz)); try (conv => whnf)
      refine CallB.mk ([.imm (.int .i64 er)]) ([.box 1 [.row 1 1, .imm (.int .i64 s'.d), .imm (.int .i64 s'.r), .imm (.int .i64 s'.c), .imm (.bool s'.off)], .row 9 1 1 (sv s'.L)]) (hB _ _ _ _ _ (hA)) ?_
      (repeat ((conv => whnf); first | (with_reducible refine Fork.mk (fun _ => ?_) (fun hc => ?_)); rotate_left; (exfalso; first | omega | (simp [eqC, cellsI, idv, idl] at hc; done) | (simp [eqC, cellsI, idv, idl] at hc; omega) | contradiction) | (with_reducible refine Fork.mk (fun hc => ?_) (fun _ => ?_)); (exfalso; first | omega | (simp [eqC, cellsI, idv, idl] at hc; done) | (simp [eqC, cellsI, idv, idl] at hc; omega) | contradiction) | (with_reducible refine Owe.mk ?_ ?_); (first | omega | (unfold most; omega) | decide +kernel | assumption | (simp [most]; done) | (simp [most]; omega)) | (with_reducible intro z hz); first | (replace hz := hz (by omega); subst hz) | subst hz)); try (conv => whnf)
      refine CallB.mk ([.imm (.int .i64 er)]) ([.box 1 [.imm (.sl 1 (sv s'.L)), .imm (.int .i64 s'.d), .imm (.int .i64 s'.r), .imm (.int .i64 (c')), .imm (.bool s'.off)]]) (hB _ _ _ _ _ (hM)) ?_
      (repeat ((conv => whnf); first | (with_reducible refine Fork.mk (fun _ => ?_) (fun hc => ?_)); rotate_left; (exfalso; first | omega | (simp [eqC, cellsI, idv, idl] at hc; done) | (simp [eqC, cellsI, idv, idl] at hc; omega) | contradiction) | (with_reducible refine Fork.mk (fun hc => ?_) (fun _ => ?_)); (exfalso; first | omega | (simp [eqC, cellsI, idv, idl] at hc; done) | (simp [eqC, cellsI, idv, idl] at hc; omega) | contradiction) | (with_reducible refine Owe.mk ?_ ?_); (first | omega | (unfold most; omega) | decide +kernel | assumption | (simp [most]; done) | (simp [most]; omega)) | (with_reducible intro z hz); first | (replace hz := hz (by omega); subst hz) | subst hz)); try (conv => whnf)
      exact hfin _ (Weak.trans (Weak.renew 2 2 rfl (by first | omega | (intro _; rw [hk0 _ _ rfl]; exact Nat.le_of_ble_eq_true rfl)) (by repeat (first | exact trivial | refine And.intro (rgL_imms _ _ _ _) ?_ | refine And.intro rfl ?_))) (Weak.slots 3 (by first | omega | (rw [h0]; exact Nat.le_of_ble_eq_true rfl)) rfl rfl (by first | rfl | (simp only [List.all_cons, List.all_nil, blkBelow, belowL_imm, belowL, belowB, Bool.and_true, Bool.true_and]; first | done | decide) | simp [blkBelow, belowB, belowL, belowL_imm]) (by repeat (first | exact Wk.nil | refine Wk.drop ?_ | refine Wk.eq (by with_reducible rfl) rfl ?_ | refine Wk.eq (congrArg (fun z => PV.imm (IV.int IntKind.i64 z)) (by first | omega | (simp; done) | (simp; omega))) rfl ?_ | refine Wk.eq rfl rfl ?_))))
  by_cases h3 : x.k = 5
  · have hA := crash_pcb s h x.n
    have hM := rcrash_pcb (s.wc c) hok' x.n
    rw [crash_wc] at hM
    refine ⟨(crash s x.n).c, ?_, (crash_ok h x.n).c, ?_⟩
    · unfold stepS; rw [if_neg h1, if_neg h2, if_pos h3]; exact Or.inl rfl
    rw [show stepS s x = crash s x.n by unfold stepS; rw [if_neg h1, if_neg h2, if_pos h3]]
    generalize crash s x.n = s' at hA hM
    rw [h3]
    refine PCB.of_vc (T := tb0) eqs_ok tb_ok rfl mixed Try.func12 rfl rfl rfl ?_; intro Γ C WK LP fin h0 hk0 hW hC hB hR hLP hfin
    (repeat ((conv => whnf); first | (with_reducible refine Fork.mk (fun _ => ?_) (fun hc => ?_)); rotate_left; (exfalso; first | omega | (simp [eqC, cellsI, idv, idl] at hc; done) | (simp [eqC, cellsI, idv, idl] at hc; omega) | contradiction) | (with_reducible refine Fork.mk (fun hc => ?_) (fun _ => ?_)); (exfalso; first | omega | (simp [eqC, cellsI, idv, idl] at hc; done) | (simp [eqC, cellsI, idv, idl] at hc; omega) | contradiction) | (with_reducible refine Owe.mk ?_ ?_); (first | omega | (unfold most; omega) | decide +kernel | assumption | (simp [most]; done) | (simp [most]; omega)) | (with_reducible intro z hz); first | (replace hz := hz (by omega); subst hz) | subst hz)); try (conv => whnf)
    refine Imms.mk (sv s.L) rfl ?_
    (repeat ((conv => whnf); first | (with_reducible refine Fork.mk (fun _ => ?_) (fun hc => ?_)); rotate_left; (exfalso; first | omega | (simp [eqC, cellsI, idv, idl] at hc; done) | (simp [eqC, cellsI, idv, idl] at hc; omega) | contradiction) | (with_reducible refine Fork.mk (fun hc => ?_) (fun _ => ?_)); (exfalso; first | omega | (simp [eqC, cellsI, idv, idl] at hc; done) | (simp [eqC, cellsI, idv, idl] at hc; omega) | contradiction) | (with_reducible refine Owe.mk ?_ ?_); (first | omega | (unfold most; omega) | decide +kernel | assumption | (simp [most]; done) | (simp [most]; omega)) | (with_reducible intro z hz); first | (replace hz := hz (by omega); subst hz) | subst hz)); try (conv => whnf)
    refine CallB.mk ([]) ([.box 1 [.row 1 2, .imm (.int .i64 s'.d), .imm (.int .i64 s'.r), .imm (.int .i64 s'.c), .imm (.bool s'.off)], .row 9 1 2 (sv s'.L)]) (hB _ _ _ _ _ (hA)) ?_
    (repeat ((conv => whnf); first | (with_reducible refine Fork.mk (fun _ => ?_) (fun hc => ?_)); rotate_left; (exfalso; first | omega | (simp [eqC, cellsI, idv, idl] at hc; done) | (simp [eqC, cellsI, idv, idl] at hc; omega) | contradiction) | (with_reducible refine Fork.mk (fun hc => ?_) (fun _ => ?_)); (exfalso; first | omega | (simp [eqC, cellsI, idv, idl] at hc; done) | (simp [eqC, cellsI, idv, idl] at hc; omega) | contradiction) | (with_reducible refine Owe.mk ?_ ?_); (first | omega | (unfold most; omega) | decide +kernel | assumption | (simp [most]; done) | (simp [most]; omega)) | (with_reducible intro z hz); first | (replace hz := hz (by omega); subst hz) | subst hz)); try (conv => whnf)
    refine CallB.mk ([]) ([.box 1 [.imm (.sl 1 (sv s'.L)), .imm (.int .i64 s'.d), .imm (.int .i64 s'.r), .imm (.int .i64 (s'.c)), .imm (.bool s'.off)]]) (hB _ _ _ _ _ (hM)) ?_
    (repeat ((conv => whnf); first | (with_reducible refine Fork.mk (fun _ => ?_) (fun hc => ?_)); rotate_left; (exfalso; first | omega | (simp [eqC, cellsI, idv, idl] at hc; done) | (simp [eqC, cellsI, idv, idl] at hc; omega) | contradiction) | (with_reducible refine Fork.mk (fun hc => ?_) (fun _ => ?_)); (exfalso; first | omega | (simp [eqC, cellsI, idv, idl] at hc; done) | (simp [eqC, cellsI, idv, idl] at hc; omega) | contradiction) | (with_reducible refine Owe.mk ?_ ?_); (first | omega | (unfold most; omega) | decide +kernel | assumption | (simp [most]; done) | (simp [most]; omega)) | (with_reducible intro z hz); first | (replace hz := hz (by omega); subst hz) | subst hz)); try (conv => whnf)
    exact hfin _ (Weak.slots 3 (by first | omega | (rw [h0]; exact Nat.le_of_ble_eq_true rfl)) rfl rfl (by first | rfl | (simp only [List.all_cons, List.all_nil, blkBelow, belowL_imm, belowL, belowB, Bool.and_true, Bool.true_and]; first | done | decide) | simp [blkBelow, belowB, belowL, belowL_imm]) (by repeat (first | exact Wk.nil | refine Wk.drop ?_ | refine Wk.eq (by with_reducible rfl) rfl ?_ | refine Wk.eq (congrArg (fun z => PV.imm (IV.int IntKind.i64 z)) (by first | omega | (simp; done) | (simp; omega))) rfl ?_ | refine Wk.eq rfl rfl ?_)))
  by_cases h4 : x.k = 6
  · have hA := failafter_pcb s x.n
    have hM := rfailafter_pcb (s.wc c) x.n
    refine ⟨if x.n < 0 then -1 else x.n, ?_, ?_, ?_⟩
    · unfold stepS; rw [if_neg h1, if_neg h2, if_neg h3, if_pos h4]
      unfold cEq Sto.wc
      dsimp only
      split <;> omega
    · unfold in64 at hx ⊢
      split <;> omega
    rw [show stepS s x = s.wc x.n by unfold stepS; rw [if_neg h1, if_neg h2, if_neg h3, if_pos h4]]
    generalize (if x.n < 0 then -1 else x.n) = c' at hM
    rw [h4]
    refine PCB.of_vc (T := tb0) eqs_ok tb_ok rfl mixed Try.func12 rfl rfl rfl ?_; intro Γ C WK LP fin h0 hk0 hW hC hB hR hLP hfin
    (repeat ((conv => whnf); first | (with_reducible refine Fork.mk (fun _ => ?_) (fun hc => ?_)); rotate_left; (exfalso; first | omega | (simp [eqC, cellsI, idv, idl] at hc; done) | (simp [eqC, cellsI, idv, idl] at hc; omega) | contradiction) | (with_reducible refine Fork.mk (fun hc => ?_) (fun _ => ?_)); (exfalso; first | omega | (simp [eqC, cellsI, idv, idl] at hc; done) | (simp [eqC, cellsI, idv, idl] at hc; omega) | contradiction) | (with_reducible refine Owe.mk ?_ ?_); (first | omega | (unfold most; omega) | decide +kernel | assumption | (simp [most]; done) | (simp [most]; omega)) | (with_reducible intro z hz); first | (replace hz := hz (by omega); subst hz) | subst hz)); try (conv => whnf)
    refine Imms.mk (sv s.L) rfl ?_
    (repeat ((conv => whnf); first | (with_reducible refine Fork.mk (fun _ => ?_) (fun hc => ?_)); rotate_left; (exfalso; first | omega | (simp [eqC, cellsI, idv, idl] at hc; done) | (simp [eqC, cellsI, idv, idl] at hc; omega) | contradiction) | (with_reducible refine Fork.mk (fun hc => ?_) (fun _ => ?_)); (exfalso; first | omega | (simp [eqC, cellsI, idv, idl] at hc; done) | (simp [eqC, cellsI, idv, idl] at hc; omega) | contradiction) | (with_reducible refine Owe.mk ?_ ?_); (first | omega | (unfold most; omega) | decide +kernel | assumption | (simp [most]; done) | (simp [most]; omega)) | (with_reducible intro z hz); first | (replace hz := hz (by omega); subst hz) | subst hz)); try (conv => whnf)
    refine CallB.mk ([]) ([.box 1 [.row 1 1, .imm (.int .i64 s.d), .imm (.int .i64 s.r), .imm (.int .i64 x.n), .imm (.bool s.off)], .row 9 1 1 (sv s.L)]) (hB _ _ _ _ _ (hA)) ?_
    (repeat ((conv => whnf); first | (with_reducible refine Fork.mk (fun _ => ?_) (fun hc => ?_)); rotate_left; (exfalso; first | omega | (simp [eqC, cellsI, idv, idl] at hc; done) | (simp [eqC, cellsI, idv, idl] at hc; omega) | contradiction) | (with_reducible refine Fork.mk (fun hc => ?_) (fun _ => ?_)); (exfalso; first | omega | (simp [eqC, cellsI, idv, idl] at hc; done) | (simp [eqC, cellsI, idv, idl] at hc; omega) | contradiction) | (with_reducible refine Owe.mk ?_ ?_); (first | omega | (unfold most; omega) | decide +kernel | assumption | (simp [most]; done) | (simp [most]; omega)) | (with_reducible intro z hz); first | (replace hz := hz (by omega); subst hz) | subst hz)); try (conv => whnf)
    refine CallB.mk ([]) ([.box 1 [.imm (.sl 1 (sv s.L)), .imm (.int .i64 s.d), .imm (.int .i64 s.r), .imm (.int .i64 (c')), .imm (.bool s.off)]]) (hB _ _ _ _ _ (hM)) ?_
    (repeat ((conv => whnf); first | (with_reducible refine Fork.mk (fun _ => ?_) (fun hc => ?_)); rotate_left; (exfalso; first | omega | (simp [eqC, cellsI, idv, idl] at hc; done) | (simp [eqC, cellsI, idv, idl] at hc; omega) | contradiction) | (with_reducible refine Fork.mk (fun hc => ?_) (fun _ => ?_)); (exfalso; first | omega | (simp [eqC, cellsI, idv, idl] at hc; done) | (simp [eqC, cellsI, idv, idl] at hc; omega) | contradiction) | (with_reducible refine Owe.mk ?_ ?_); (first | omega | (unfold most; omega) | decide +kernel | assumption | (simp [most]; done) | (simp [most]; omega)) | (with_reducible intro z hz); first | (replace hz := hz (by omega); subst hz) | subst hz)); try (conv => whnf)
    exact hfin _ (Weak.trans (Weak.renew 2 2 rfl (by first | omega | (intro _; rw [hk0 _ _ rfl]; exact Nat.le_of_ble_eq_true rfl)) (by repeat (first | exact trivial | refine And.intro (rgL_imms _ _ _ _) ?_ | refine And.intro rfl ?_))) (Weak.slots 3 (by first | omega | (rw [h0]; exact Nat.le_of_ble_eq_true rfl)) rfl rfl (by first | rfl | (simp only [List.all_cons, List.all_nil, blkBelow, belowL_imm, belowL, belowB, Bool.and_true, Bool.true_and]; first | done | decide) | simp [blkBelow, belowB, belowL, belowL_imm]) (by repeat (first | exact Wk.nil | refine Wk.drop ?_ | refine Wk.eq (by with_reducible rfl) rfl ?_ | refine Wk.eq (congrArg (fun z => PV.imm (IV.int IntKind.i64 z)) (by first | omega | (simp; done) | (simp; omega))) rfl ?_ | refine Wk.eq rfl rfl ?_))))
  · refine ⟨c, ?_, hci, ?_⟩
    · unfold stepS; rw [if_neg h1, if_neg h2, if_neg h3, if_neg h4]; exact hc
    rw [show stepS s x = s by unfold stepS; rw [if_neg h1, if_neg h2, if_neg h3, if_neg h4]]
    refine PCB.of_vc (T := tb0) eqs_ok tb_ok rfl mixed Try.func12 rfl rfl rfl ?_; intro Γ C WK LP fin h0 hk0 hW hC hB hR hLP hfin
    (repeat ((conv => whnf); first | (with_reducible refine Fork.mk (fun _ => ?_) (fun hc => ?_)); rotate_left; (exfalso; first | omega | (simp [eqC, cellsI, idv, idl] at hc; done) | (simp [eqC, cellsI, idv, idl] at hc; omega) | contradiction) | (with_reducible refine Fork.mk (fun hc => ?_) (fun _ => ?_)); (exfalso; first | omega | (simp [eqC, cellsI, idv, idl] at hc; done) | (simp [eqC, cellsI, idv, idl] at hc; omega) | contradiction) | (with_reducible refine Owe.mk ?_ ?_); (first | omega | (unfold most; omega) | decide +kernel | assumption | (simp [most]; done) | (simp [most]; omega)) | (with_reducible intro z hz); first | (replace hz := hz (by omega); subst hz) | subst hz)); try (conv => whnf)
    exact hfin _ (Weak.trans (Weak.renew 2 2 rfl (by first | omega | (intro _; rw [hk0 _ _ rfl]; exact Nat.le_of_ble_eq_true rfl)) (by repeat (first | exact trivial | refine And.intro (rgL_imms _ _ _ _) ?_ | refine And.intro rfl ?_))) (Weak.slots 3 (by first | omega | (rw [h0]; exact Nat.le_of_ble_eq_true rfl)) rfl rfl (by first | rfl | (simp only [List.all_cons, List.all_nil, blkBelow, belowL_imm, belowL, belowB, Bool.and_true, Bool.true_and]; first | done | decide) | simp [blkBelow, belowB, belowL, belowL_imm]) (by repeat (first | exact Wk.nil | refine Wk.drop ?_ | refine Wk.eq (by with_reducible rfl) rfl ?_ | refine Wk.eq (congrArg (fun z => PV.imm (IV.int IntKind.i64 z)) (by first | omega | (simp; done) | (simp; omega))) rfl ?_ | refine Wk.eq rfl rfl ?_))))
theorem even_pcb (s : Sto) (h : s.ok) (c p : Int) : PCB Try.prog envU 13 [.ptr 0 1 0, .ptr 1 1 0, .imm (.int .i64 p)] [.box 1 [.row 2 1, .imm (.int .i64 s.d), .imm (.int .i64 s.r), .imm (.int .i64 s.c), .imm (.bool s.off)], .box 1 [.imm (.sl 1 (sv s.L)), .imm (.int .i64 s.d), .imm (.int .i64 s.r), .imm (.int .i64 (c)), .imm (.bool s.off)], .row 9 1 1 ((sv s.L).map .imm)] [.imm (.bool true)] [.box 1 [.row 2 1, .imm (.int .i64 s.d), .imm (.int .i64 s.r), .imm (.int .i64 s.c), .imm (.bool s.off)], .box 1 [.imm (.sl 1 (sv s.L)), .imm (.int .i64 s.d), .imm (.int .i64 s.r), .imm (.int .i64 (c)), .imm (.bool s.off)], .row 9 1 1 ((sv s.L).map .imm)] := by
  have hl1 := sv_len1 s.L
  have hll := h.len
  have hL := len_pcb s
  have hR' := root_pcb s
  have hF := failed_pcb s
  have hA := fun q => read_pcb s q
  have hM := fun q => rread_pcb (s.wc c) q
  simp only [rd_wc] at hM
  refine PCB.of_vc (T := tb0) eqs_ok tb_ok rfl mixed Try.func13 rfl rfl rfl ?_; intro Γ C WK LP fin h0 hk0 hW hC hB hR hLP hfin
  (repeat ((conv => whnf); first | (with_reducible refine Fork.mk (fun _ => ?_) (fun hc => ?_)); rotate_left; (exfalso; first | omega | (simp [eqC, cellsI, idv, idl] at hc; done) | (simp [eqC, cellsI, idv, idl] at hc; omega) | contradiction) | (with_reducible refine Fork.mk (fun hc => ?_) (fun _ => ?_)); (exfalso; first | omega | (simp [eqC, cellsI, idv, idl] at hc; done) | (simp [eqC, cellsI, idv, idl] at hc; omega) | contradiction) | (with_reducible refine Owe.mk ?_ ?_); (first | omega | (unfold most; omega) | decide +kernel | assumption | (simp [most]; done) | (simp [most]; omega)) | (with_reducible intro z hz); first | (replace hz := hz (by omega); subst hz) | subst hz)); try (conv => whnf)
  refine Imms.mk (sv s.L) rfl ?_
  (repeat ((conv => whnf); first | (with_reducible refine Fork.mk (fun _ => ?_) (fun hc => ?_)); rotate_left; (exfalso; first | omega | (simp [eqC, cellsI, idv, idl] at hc; done) | (simp [eqC, cellsI, idv, idl] at hc; omega) | contradiction) | (with_reducible refine Fork.mk (fun hc => ?_) (fun _ => ?_)); (exfalso; first | omega | (simp [eqC, cellsI, idv, idl] at hc; done) | (simp [eqC, cellsI, idv, idl] at hc; omega) | contradiction) | (with_reducible refine Owe.mk ?_ ?_); (first | omega | (unfold most; omega) | decide +kernel | assumption | (simp [most]; done) | (simp [most]; omega)) | (with_reducible intro z hz); first | (replace hz := hz (by omega); subst hz) | subst hz)); try (conv => whnf)
  refine CallB.mk ([.imm (.int .i64 (s.L.length : Nat))]) ([.box 1 [.row 1 1, .imm (.int .i64 s.d), .imm (.int .i64 s.r), .imm (.int .i64 s.c), .imm (.bool s.off)], .row 9 1 1 (sv s.L)]) (hB _ _ _ _ _ (hL)) ?_
  (repeat ((conv => whnf); first | (with_reducible refine Fork.mk (fun _ => ?_) (fun hc => ?_)); rotate_left; (exfalso; first | omega | (simp [eqC, cellsI, idv, idl] at hc; done) | (simp [eqC, cellsI, idv, idl] at hc; omega) | contradiction) | (with_reducible refine Fork.mk (fun hc => ?_) (fun _ => ?_)); (exfalso; first | omega | (simp [eqC, cellsI, idv, idl] at hc; done) | (simp [eqC, cellsI, idv, idl] at hc; omega) | contradiction) | (with_reducible refine Owe.mk ?_ ?_); (first | omega | (unfold most; omega) | decide +kernel | assumption | (simp [most]; done) | (simp [most]; omega)) | (with_reducible intro z hz); first | (replace hz := hz (by omega); subst hz) | subst hz)); try (conv => whnf)
  refine Imms.mk (sv s.L) rfl ?_
  (repeat ((conv => whnf); first | (with_reducible refine Fork.mk (fun _ => ?_) (fun hc => ?_)); rotate_left; (exfalso; first | omega | (simp [eqC, cellsI, idv, idl] at hc; done) | (simp [eqC, cellsI, idv, idl] at hc; omega) | contradiction) | (with_reducible refine Fork.mk (fun hc => ?_) (fun _ => ?_)); (exfalso; first | omega | (simp [eqC, cellsI, idv, idl] at hc; done) | (simp [eqC, cellsI, idv, idl] at hc; omega) | contradiction) | (with_reducible refine Owe.mk ?_ ?_); (first | omega | (unfold most; omega) | decide +kernel | assumption | (simp [most]; done) | (simp [most]; omega)) | (with_reducible intro z hz); first | (replace hz := hz (by omega); subst hz) | subst hz)); try (conv => whnf)
  refine CallB.mk ([.imm (.int .i64 s.r)]) ([.box 1 [.row 1 1, .imm (.int .i64 s.d), .imm (.int .i64 s.r), .imm (.int .i64 s.c), .imm (.bool s.off)], .row 9 1 1 (sv s.L)]) (hB _ _ _ _ _ (hR')) ?_
  (repeat ((conv => whnf); first | (with_reducible refine Fork.mk (fun _ => ?_) (fun hc => ?_)); rotate_left; (exfalso; first | omega | (simp [eqC, cellsI, idv, idl] at hc; done) | (simp [eqC, cellsI, idv, idl] at hc; omega) | contradiction) | (with_reducible refine Fork.mk (fun hc => ?_) (fun _ => ?_)); (exfalso; first | omega | (simp [eqC, cellsI, idv, idl] at hc; done) | (simp [eqC, cellsI, idv, idl] at hc; omega) | contradiction) | (with_reducible refine Owe.mk ?_ ?_); (first | omega | (unfold most; omega) | decide +kernel | assumption | (simp [most]; done) | (simp [most]; omega)) | (with_reducible intro z hz); first | (replace hz := hz (by omega); subst hz) | subst hz)); try (conv => whnf)
  refine Imms.mk (sv s.L) rfl ?_
  (repeat ((conv => whnf); first | (with_reducible refine Fork.mk (fun _ => ?_) (fun hc => ?_)); rotate_left; (exfalso; first | omega | (simp [eqC, cellsI, idv, idl] at hc; done) | (simp [eqC, cellsI, idv, idl] at hc; omega) | contradiction) | (with_reducible refine Fork.mk (fun hc => ?_) (fun _ => ?_)); (exfalso; first | omega | (simp [eqC, cellsI, idv, idl] at hc; done) | (simp [eqC, cellsI, idv, idl] at hc; omega) | contradiction) | (with_reducible refine Owe.mk ?_ ?_); (first | omega | (unfold most; omega) | decide +kernel | assumption | (simp [most]; done) | (simp [most]; omega)) | (with_reducible intro z hz); first | (replace hz := hz (by omega); subst hz) | subst hz)); try (conv => whnf)
  refine CallB.mk ([.imm (.bool s.off)]) ([.box 1 [.row 1 1, .imm (.int .i64 s.d), .imm (.int .i64 s.r), .imm (.int .i64 s.c), .imm (.bool s.off)], .row 9 1 1 (sv s.L)]) (hB _ _ _ _ _ (hF)) ?_
  (repeat ((conv => whnf); first | (with_reducible refine Fork.mk (fun _ => ?_) (fun hc => ?_)); rotate_left; (exfalso; first | omega | (simp [eqC, cellsI, idv, idl] at hc; done) | (simp [eqC, cellsI, idv, idl] at hc; omega) | contradiction) | (with_reducible refine Fork.mk (fun hc => ?_) (fun _ => ?_)); (exfalso; first | omega | (simp [eqC, cellsI, idv, idl] at hc; done) | (simp [eqC, cellsI, idv, idl] at hc; omega) | contradiction) | (with_reducible refine Owe.mk ?_ ?_); (first | omega | (unfold most; omega) | decide +kernel | assumption | (simp [most]; done) | (simp [most]; omega)) | (with_reducible intro z hz); first | (replace hz := hz (by omega); subst hz) | subst hz)); try (conv => whnf)
  refine hLP _ _ _ Nat (fun k => ⟨[.ptr 0 1 0, .ptr 1 1 0, .imm (.int .i64 p), .any, .any, .any, .any, .imm (.int .i64 ((k : Nat) - 1 : Int)), .any, .any, .any, .any, .any, .any, .any, .any, .any, .any, .any, .any, .any, .any, .any, .any, .any, .any, .any, .any, .any, .any, .any, .any, .any, .any, .any, .any, .any, .any, .any, .any, .any, .any, .any, .any, .any, .any, .any, .any, .any, .any, .any, .any, .any, .any, .any, .any, .any, .any, .any, .any, .any, .any, .any, .any, .any, .any, .any, .any, .any, .any, .any, .any, .any, .any, .any, .any, .any, .any, .any, .any, .any, .any, .any, .any, .any, .any, .any, .any, .any, .any, .any], [.box 1 [.row 2 1, .imm (.int .i64 s.d), .imm (.int .i64 s.r), .imm (.int .i64 s.c), .imm (.bool s.off)], .box 1 [.imm (.sl 1 (sv s.L)), .imm (.int .i64 s.d), .imm (.int .i64 s.r), .imm (.int .i64 (c)), .imm (.bool s.off)], .row 9 1 1 ((sv s.L).map .imm)]⟩) (fun k => k ≤ s.L.length + 2) (fun k => s.L.length + 2 - k) 0 (Nat.zero_le _) (Weak.slots 3 (by first | omega | (rw [h0]; exact Nat.le_of_ble_eq_true rfl)) rfl rfl (by first | rfl | (simp only [List.all_cons, List.all_nil, blkBelow, belowL_imm, belowL, belowB, Bool.and_true, Bool.true_and]; first | done | decide) | simp [blkBelow, belowB, belowL, belowL_imm]) (by repeat (first | exact Wk.nil | refine Wk.drop ?_ | refine Wk.eq (by with_reducible rfl) rfl ?_ | refine Wk.eq (congrArg (fun z => PV.imm (IV.int IntKind.i64 z)) (by first | omega | (simp; done) | (simp; omega))) rfl ?_ | refine Wk.eq rfl rfl ?_))) ?_
  intro k hk
  by_cases hlt : k < s.L.length + 2
  · have hA1 := hA ((k : Nat) - 1 : Int)
    have hM1 := hM ((k : Nat) - 1 : Int)
    generalize rd s ((k : Nat) - 1 : Int) = r at hA1 hM1
    obtain ⟨u, e⟩ := r
    simp only at hA1 hM1
    (repeat ((conv => whnf); first | (with_reducible refine Fork.mk (fun _ => ?_) (fun hc => ?_)); rotate_left; (exfalso; first | omega | (simp [eqC, cellsI, idv, idl] at hc; done) | (simp [eqC, cellsI, idv, idl] at hc; omega) | contradiction) | (with_reducible refine Fork.mk (fun hc => ?_) (fun _ => ?_)); (exfalso; first | omega | (simp [eqC, cellsI, idv, idl] at hc; done) | (simp [eqC, cellsI, idv, idl] at hc; omega) | contradiction) | (with_reducible refine Owe.mk ?_ ?_); (first | omega | (unfold most; omega) | decide +kernel | assumption | (simp [most]; done) | (simp [most]; omega)) | (with_reducible intro z hz); first | (replace hz := hz (by omega); subst hz) | subst hz)); try (conv => whnf)
    refine Imms.mk (sv s.L) rfl ?_
    (repeat ((conv => whnf); first | (with_reducible refine Fork.mk (fun _ => ?_) (fun hc => ?_)); rotate_left; (exfalso; first | omega | (simp [eqC, cellsI, idv, idl] at hc; done) | (simp [eqC, cellsI, idv, idl] at hc; omega) | contradiction) | (with_reducible refine Fork.mk (fun hc => ?_) (fun _ => ?_)); (exfalso; first | omega | (simp [eqC, cellsI, idv, idl] at hc; done) | (simp [eqC, cellsI, idv, idl] at hc; omega) | contradiction) | (with_reducible refine Owe.mk ?_ ?_); (first | omega | (unfold most; omega) | decide +kernel | assumption | (simp [most]; done) | (simp [most]; omega)) | (with_reducible intro z hz); first | (replace hz := hz (by omega); subst hz) | subst hz)); try (conv => whnf)
    refine CallB.mk ([.imm (.str u), .imm (.int .i64 e)]) ([.box 1 [.row 1 1, .imm (.int .i64 s.d), .imm (.int .i64 s.r), .imm (.int .i64 s.c), .imm (.bool s.off)], .row 9 1 1 (sv s.L)]) (hB _ _ _ _ _ (hA1)) ?_
    (repeat ((conv => whnf); first | (with_reducible refine Fork.mk (fun _ => ?_) (fun hc => ?_)); rotate_left; (exfalso; first | omega | (simp [eqC, cellsI, idv, idl] at hc; done) | (simp [eqC, cellsI, idv, idl] at hc; omega) | contradiction) | (with_reducible refine Fork.mk (fun hc => ?_) (fun _ => ?_)); (exfalso; first | omega | (simp [eqC, cellsI, idv, idl] at hc; done) | (simp [eqC, cellsI, idv, idl] at hc; omega) | contradiction) | (with_reducible refine Owe.mk ?_ ?_); (first | omega | (unfold most; omega) | decide +kernel | assumption | (simp [most]; done) | (simp [most]; omega)) | (with_reducible intro z hz); first | (replace hz := hz (by omega); subst hz) | subst hz)); try (conv => whnf)
    refine CallB.mk ([.imm (.str u), .imm (.int .i64 e)]) ([.box 1 [.imm (.sl 1 (sv s.L)), .imm (.int .i64 s.d), .imm (.int .i64 s.r), .imm (.int .i64 (c)), .imm (.bool s.off)]]) (hB _ _ _ _ _ (hM1)) ?_
    (repeat ((conv => whnf); first | (with_reducible refine Fork.mk (fun _ => ?_) (fun hc => ?_)); rotate_left; (exfalso; first | omega | (simp [eqC, cellsI, idv, idl] at hc; done) | (simp [eqC, cellsI, idv, idl] at hc; omega) | contradiction) | (with_reducible refine Fork.mk (fun hc => ?_) (fun _ => ?_)); (exfalso; first | omega | (simp [eqC, cellsI, idv, idl] at hc; done) | (simp [eqC, cellsI, idv, idl] at hc; omega) | contradiction) | (with_reducible refine Owe.mk ?_ ?_); (first | omega | (unfold most; omega) | decide +kernel | assumption | (simp [most]; done) | (simp [most]; omega)) | (with_reducible intro z hz); first | (replace hz := hz (by omega); subst hz) | subst hz)); try (conv => whnf)
    exact ⟨k + 1, by omega, by dsimp only; omega, (Weak.slots 3 (by first | omega | (rw [h0]; exact Nat.le_of_ble_eq_true rfl)) rfl rfl (by first | rfl | (simp only [List.all_cons, List.all_nil, blkBelow, belowL_imm, belowL, belowB, Bool.and_true, Bool.true_and]; first | done | decide) | simp [blkBelow, belowB, belowL, belowL_imm]) (by repeat (first | exact Wk.nil | refine Wk.drop ?_ | refine Wk.eq (by with_reducible rfl) rfl ?_ | refine Wk.eq (congrArg (fun z => PV.imm (IV.int IntKind.i64 z)) (by first | omega | (simp; done) | (simp; omega))) rfl ?_ | refine Wk.eq rfl rfl ?_)))⟩
  · have hA1 := hA p
    have hM1 := hM p
    generalize rd s p = r at hA1 hM1
    obtain ⟨u, e⟩ := r
    simp only at hA1 hM1
    (repeat ((conv => whnf); first | (with_reducible refine Fork.mk (fun _ => ?_) (fun hc => ?_)); rotate_left; (exfalso; first | omega | (simp [eqC, cellsI, idv, idl] at hc; done) | (simp [eqC, cellsI, idv, idl] at hc; omega) | contradiction) | (with_reducible refine Fork.mk (fun hc => ?_) (fun _ => ?_)); (exfalso; first | omega | (simp [eqC, cellsI, idv, idl] at hc; done) | (simp [eqC, cellsI, idv, idl] at hc; omega) | contradiction) | (with_reducible refine Owe.mk ?_ ?_); (first | omega | (unfold most; omega) | decide +kernel | assumption | (simp [most]; done) | (simp [most]; omega)) | (with_reducible intro z hz); first | (replace hz := hz (by omega); subst hz) | subst hz)); try (conv => whnf)
    refine Imms.mk (sv s.L) rfl ?_
    (repeat ((conv => whnf); first | (with_reducible refine Fork.mk (fun _ => ?_) (fun hc => ?_)); rotate_left; (exfalso; first | omega | (simp [eqC, cellsI, idv, idl] at hc; done) | (simp [eqC, cellsI, idv, idl] at hc; omega) | contradiction) | (with_reducible refine Fork.mk (fun hc => ?_) (fun _ => ?_)); (exfalso; first | omega | (simp [eqC, cellsI, idv, idl] at hc; done) | (simp [eqC, cellsI, idv, idl] at hc; omega) | contradiction) | (with_reducible refine Owe.mk ?_ ?_); (first | omega | (unfold most; omega) | decide +kernel | assumption | (simp [most]; done) | (simp [most]; omega)) | (with_reducible intro z hz); first | (replace hz := hz (by omega); subst hz) | subst hz)); try (conv => whnf)
    refine CallB.mk ([.imm (.str u), .imm (.int .i64 e)]) ([.box 1 [.row 1 1, .imm (.int .i64 s.d), .imm (.int .i64 s.r), .imm (.int .i64 s.c), .imm (.bool s.off)], .row 9 1 1 (sv s.L)]) (hB _ _ _ _ _ (hA1)) ?_
    (repeat ((conv => whnf); first | (with_reducible refine Fork.mk (fun _ => ?_) (fun hc => ?_)); rotate_left; (exfalso; first | omega | (simp [eqC, cellsI, idv, idl] at hc; done) | (simp [eqC, cellsI, idv, idl] at hc; omega) | contradiction) | (with_reducible refine Fork.mk (fun hc => ?_) (fun _ => ?_)); (exfalso; first | omega | (simp [eqC, cellsI, idv, idl] at hc; done) | (simp [eqC, cellsI, idv, idl] at hc; omega) | contradiction) | (with_reducible refine Owe.mk ?_ ?_); (first | omega | (unfold most; omega) | decide +kernel | assumption | (simp [most]; done) | (simp [most]; omega)) | (with_reducible intro z hz); first | (replace hz := hz (by omega); subst hz) | subst hz)); try (conv => whnf)
    refine CallB.mk ([.imm (.str u), .imm (.int .i64 e)]) ([.box 1 [.imm (.sl 1 (sv s.L)), .imm (.int .i64 s.d), .imm (.int .i64 s.r), .imm (.int .i64 (c)), .imm (.bool s.off)]]) (hB _ _ _ _ _ (hM1)) ?_
    (repeat ((conv => whnf); first | (with_reducible refine Fork.mk (fun _ => ?_) (fun hc => ?_)); rotate_left; (exfalso; first | omega | (simp [eqC, cellsI, idv, idl] at hc; done) | (simp [eqC, cellsI, idv, idl] at hc; omega) | contradiction) | (with_reducible refine Fork.mk (fun hc => ?_) (fun _ => ?_)); (exfalso; first | omega | (simp [eqC, cellsI, idv, idl] at hc; done) | (simp [eqC, cellsI, idv, idl] at hc; omega) | contradiction) | (with_reducible refine Owe.mk ?_ ?_); (first | omega | (unfold most; omega) | decide +kernel | assumption | (simp [most]; done) | (simp [most]; omega)) | (with_reducible intro z hz); first | (replace hz := hz (by omega); subst hz) | subst hz)); try (conv => whnf)
    exact hfin _ (Weak.slots 3 (by first | omega | (rw [h0]; exact Nat.le_of_ble_eq_true rfl)) rfl rfl (by first | rfl | (simp only [List.all_cons, List.all_nil, blkBelow, belowL_imm, belowL, belowB, Bool.and_true, Bool.true_and]; first | done | decide) | simp [blkBelow, belowB, belowL, belowL_imm]) (by repeat (first | exact Wk.nil | refine Wk.drop ?_ | refine Wk.eq (by with_reducible rfl) rfl ?_ | refine Wk.eq (congrArg (fun z => PV.imm (IV.int IntKind.i64 z)) (by first | omega | (simp; done) | (simp; omega))) rfl ?_ | refine Wk.eq rfl rfl ?_)))
end Go.Proofs.Ytmaapgbplbhlfaa.Pu
