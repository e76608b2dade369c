/-
  Counts, copies, Find, the lists of IDs, step by step.
-/
import Derived.Test.YtiohjjgncbhimaaDoorVn
namespace Go.Proofs.YtiohjjgncbhimaaDoor.Pu
open Go Go.Pv
set_option linter.unusedSimpArgs false
open Lab Lcs Go.Proofs.YtiohjjgncbhimaaDoor
set_option maxRecDepth 10000
set_option maxHeartbeats 4000000
def small (u : Ut) : Prop := ∀ x ∈ u.all, x.head.length ≤ 100000000 ∧ x.words.length ≤ 100000000
theorem small_kid {u x : Ut} (h : small u) (hx : x ∈ u.kids) : small x := fun y hy => h y (by rw [Ut.all_eq]; exact List.mem_cons_of_mem _ (mem_alls.2 ⟨x, hx, hy⟩))
theorem kid_count {u x : Ut} (hx : x ∈ u.kids) : x.count < u.count := by
 obtain ⟨k, hk, rfl⟩ := List.getElem_of_mem hx
 have := kid_lt' (List.getElem?_eq_getElem hk)
 omega
theorem clone_pc (n : Nat) : ∀ (u : Ut), u.count ≤ n → n ≤ 100000000 → small u → PC Tryd.prog envU 57 [uv u] [uv u] := by
 induction n with
 | zero => intro u h; have := count_pos u; omega
 | succ n ih =>
 intro u hn hM hs
 have hue := uv_eq u
 have hE := eachkid_pc 57 id u (by omega) (fun x hx => ih x (by have := kid_count hx; omega) (by omega) (small_kid hs hx))
 have hsu := hs u (self_all u)
 have hl1 : (u.head.map wdv).length = u.head.length := List.length_map _
 have hl2 : (u.words.map wdv).length = u.words.length := List.length_map _
 rw [hue] at hE ⊢
 refine PC.of_vc (T := (tbf fun r => match r with | 3 => [2, 3] | _ => [])) eqs_ok tb_ok rfl mixed Tryd.func57 rfl rfl ?_; intro Γ C WK LP fin h0 hW hC hB hR hLP hfin
 (repeat ((conv => whnf); first | (with_reducible refine Fork.mk (fun hq => ?_) (fun hc => ?_)); rotate_left; (exfalso; first | omega | (simp [eqC, cellsI, idv, idl] at hc; done) | (simp [eqC, cellsI, idv, idl] at hc; omega) | contradiction); (try clear hq) | (with_reducible refine Fork.mk (fun hc => ?_) (fun hq => ?_)); (exfalso; first | omega | (simp [eqC, cellsI, idv, idl] at hc; done) | (simp [eqC, cellsI, idv, idl] at hc; omega) | contradiction); (try clear hq) | (with_reducible refine Owe.mk ?_ ?_); (first | omega | (unfold most; omega) | decide +kernel | assumption | (simp [most]; done) | (simp [most]; omega)) | (with_reducible intro z hz); first | (replace hz := hz (by omega); subst hz) | subst hz)); try (conv => whnf)
 refine Imms.mk _ rfl ?_
 (repeat ((conv => whnf); first | (with_reducible refine Fork.mk (fun hq => ?_) (fun hc => ?_)); rotate_left; (exfalso; first | omega | (simp [eqC, cellsI, idv, idl] at hc; done) | (simp [eqC, cellsI, idv, idl] at hc; omega) | contradiction); (try clear hq) | (with_reducible refine Fork.mk (fun hc => ?_) (fun hq => ?_)); (exfalso; first | omega | (simp [eqC, cellsI, idv, idl] at hc; done) | (simp [eqC, cellsI, idv, idl] at hc; omega) | contradiction); (try clear hq) | (with_reducible refine Owe.mk ?_ ?_); (first | omega | (unfold most; omega) | decide +kernel | assumption | (simp [most]; done) | (simp [most]; omega)) | (with_reducible intro z hz); first | (replace hz := hz (by omega); subst hz) | subst hz)); try (conv => whnf)
 refine Imms.mk (u.words.map wdv) (fzL_imm _ _ _ _) ?_
 (repeat ((conv => whnf); first | (with_reducible refine Fork.mk (fun hq => ?_) (fun hc => ?_)); rotate_left; (exfalso; first | omega | (simp [eqC, cellsI, idv, idl] at hc; done) | (simp [eqC, cellsI, idv, idl] at hc; omega) | contradiction); (try clear hq) | (with_reducible refine Fork.mk (fun hc => ?_) (fun hq => ?_)); (exfalso; first | omega | (simp [eqC, cellsI, idv, idl] at hc; done) | (simp [eqC, cellsI, idv, idl] at hc; omega) | contradiction); (try clear hq) | (with_reducible refine Owe.mk ?_ ?_); (first | omega | (unfold most; omega) | decide +kernel | assumption | (simp [most]; done) | (simp [most]; omega)) | (with_reducible intro z hz); first | (replace hz := hz (by omega); subst hz) | subst hz)); try (conv => whnf)
 refine CallV.mk _ (hC _ _ _ (PCw.of (hE))) (fun js hjs => ?_); subst hjs
 (repeat ((conv => whnf); first | (with_reducible refine Fork.mk (fun hq => ?_) (fun hc => ?_)); rotate_left; (exfalso; first | omega | (simp [eqC, cellsI, idv, idl] at hc; done) | (simp [eqC, cellsI, idv, idl] at hc; omega) | contradiction); (try clear hq) | (with_reducible refine Fork.mk (fun hc => ?_) (fun hq => ?_)); (exfalso; first | omega | (simp [eqC, cellsI, idv, idl] at hc; done) | (simp [eqC, cellsI, idv, idl] at hc; omega) | contradiction); (try clear hq) | (with_reducible refine Owe.mk ?_ ?_); (first | omega | (unfold most; omega) | decide +kernel | assumption | (simp [most]; done) | (simp [most]; omega)) | (with_reducible intro z hz); first | (replace hz := hz (by omega); subst hz) | subst hz)); try (conv => whnf)
 refine hfin _ ?_
 rw [List.map_id]
 exact ILes.refl _
def zeroU : Ut := .mk .zero 0 ⟨#[]⟩ [] [] []
theorem zero_le : ILe (.agg [.int .i64 0, .int .i64 0, .int .i64 0, .int .i64 0, .str ⟨#[]⟩, .nil, .nil, .nil]) (uv zeroU) := by
 show ILe _ (uv (.mk .zero 0 ⟨#[]⟩ [] [] []))
 rw [uv_mk]
 exact ILes.agg (.cons (.refl _) (.cons (.refl _) (.cons (.refl _) (.cons (.refl _) (.cons (.refl _) (.cons (.nil 4) (.cons (.nil 4) (.cons (.nil 8) (.refl [])))))))))
def findU (t : Trip) (u : Ut) : Ut := match linL t u with
 | x :: _ => x
 | [] => zeroU
def foundB (t : Trip) (u : Ut) : Bool := match linL t u with
 | _ :: _ => true
 | [] => false
theorem lin_mem {t : Trip} {u x : Ut} {r : List Ut} (h : linL t u = x :: r) : x.id = t ∧ x ∈ u.all := lin_head u.count (Nat.le_refl _) x r h
theorem small_all {u x : Ut} (h : small u) (hx : x ∈ u.all) : small x := fun y hy => h y (all_trans u.count u x (Nat.le_refl _) hx y hy)
mutual
theorem all_count : ∀ {u x : Ut}, x ∈ u.all → x.count ≤ u.count
 | .mk id kind label head words kids, x, h => by
   rw [all_mk] at h
   rcases List.mem_cons.1 h with rfl | h
   · exact Nat.le_refl _
   · have := alls_count h
     rw [count_mk]
     omega
theorem alls_count : ∀ {l : List Ut} {x : Ut}, x ∈ Ut.alls l → x.count ≤ Ut.counts l
 | [], x, h => by simp [Ut.alls] at h
 | u :: r, x, h => by
   simp only [Ut.alls, List.mem_append] at h
   simp only [Ut.counts]
   rcases h with h | h
   · have := all_count h; omega
   · have := alls_count h; omega
end
theorem find_pc (t : Trip) (u : Ut) (hM : u.count ≤ 100000000) (hs : small u) : PC Tryd.prog envU 42 [uv u, idv t] [uv (findU t u), .bool (foundB t u)] := by
 have hue := uv_eq u
 have hL := lineage_pc t u hM
 have hml : ((linL t u).map uv).length = (linL t u).length := List.length_map _
 rw [hue] at hL ⊢
 unfold idv idl at hL ⊢
 cases hc : linL t u with
 | nil =>
   have hl0 : (linL t u).length = 0 := by rw [hc]; rfl
   refine PC.of_vc (T := tb0) eqs_ok tb_ok rfl mixed Tryd.func42 rfl rfl ?_; intro Γ C WK LP fin h0 hW hC hB hR hLP hfin
   (repeat ((conv => whnf); first | (with_reducible refine Fork.mk (fun hq => ?_) (fun hc => ?_)); rotate_left; (exfalso; first | omega | (simp [eqC, cellsI, idv, idl] at hc; done) | (simp [eqC, cellsI, idv, idl] at hc; omega) | contradiction); (try clear hq) | (with_reducible refine Fork.mk (fun hc => ?_) (fun hq => ?_)); (exfalso; first | omega | (simp [eqC, cellsI, idv, idl] at hc; done) | (simp [eqC, cellsI, idv, idl] at hc; omega) | contradiction); (try clear hq) | (with_reducible refine Owe.mk ?_ ?_); (first | omega | (unfold most; omega) | decide +kernel | assumption | (simp [most]; done) | (simp [most]; omega)) | (with_reducible intro z hz); first | (replace hz := hz (by omega); subst hz) | subst hz)); try (conv => whnf)
   refine CallV.mk _ (hC _ _ _ (PCw.of (hL))) (fun js hjs => ?_); subst hjs
   (repeat ((conv => whnf); first | (with_reducible refine Fork.mk (fun hq => ?_) (fun hc => ?_)); rotate_left; (exfalso; first | omega | (simp [eqC, cellsI, idv, idl] at hc; done) | (simp [eqC, cellsI, idv, idl] at hc; omega) | contradiction); (try clear hq) | (with_reducible refine Fork.mk (fun hc => ?_) (fun hq => ?_)); (exfalso; first | omega | (simp [eqC, cellsI, idv, idl] at hc; done) | (simp [eqC, cellsI, idv, idl] at hc; omega) | contradiction); (try clear hq) | (with_reducible refine Owe.mk ?_ ?_); (first | omega | (unfold most; omega) | decide +kernel | assumption | (simp [most]; done) | (simp [most]; omega)) | (with_reducible intro z hz); first | (replace hz := hz (by omega); subst hz) | subst hz)); try (conv => whnf)
   refine hfin _ ?_
   unfold findU foundB
   rw [hc]
   exact .cons zero_le (.refl _)
 | cons x r =>
   have hl0 : (linL t u).length = r.length + 1 := by rw [hc]; rfl
   obtain ⟨hxi, hxa⟩ := lin_mem hc
   have hux := uv_eq x
   have hcx : x.count ≤ u.count := all_count hxa
   have hcl := clone_pc x.count x (Nat.le_refl _) (by omega) (small_all hs hxa)
   rw [hux] at hcl
   refine PC.of_vc (T := tb0) eqs_ok tb_ok rfl mixed Tryd.func42 rfl rfl ?_; intro Γ C WK LP fin h0 hW hC hB hR hLP hfin
   (repeat ((conv => whnf); first | (with_reducible refine Fork.mk (fun hq => ?_) (fun hc => ?_)); rotate_left; (exfalso; first | omega | (simp [eqC, cellsI, idv, idl] at hc; done) | (simp [eqC, cellsI, idv, idl] at hc; omega) | contradiction); (try clear hq) | (with_reducible refine Fork.mk (fun hc => ?_) (fun hq => ?_)); (exfalso; first | omega | (simp [eqC, cellsI, idv, idl] at hc; done) | (simp [eqC, cellsI, idv, idl] at hc; omega) | contradiction); (try clear hq) | (with_reducible refine Owe.mk ?_ ?_); (first | omega | (unfold most; omega) | decide +kernel | assumption | (simp [most]; done) | (simp [most]; omega)) | (with_reducible intro z hz); first | (replace hz := hz (by omega); subst hz) | subst hz)); try (conv => whnf)
   refine CallV.mk _ (hC _ _ _ (PCw.of (hL))) (fun js hjs => ?_); subst hjs
   (repeat ((conv => whnf); first | (with_reducible refine Fork.mk (fun hq => ?_) (fun hc => ?_)); rotate_left; (exfalso; first | omega | (simp [eqC, cellsI, idv, idl] at hc; done) | (simp [eqC, cellsI, idv, idl] at hc; omega) | contradiction); (try clear hq) | (with_reducible refine Fork.mk (fun hc => ?_) (fun hq => ?_)); (exfalso; first | omega | (simp [eqC, cellsI, idv, idl] at hc; done) | (simp [eqC, cellsI, idv, idl] at hc; omega) | contradiction); (try clear hq) | (with_reducible refine Owe.mk ?_ ?_); (first | omega | (unfold most; omega) | decide +kernel | assumption | (simp [most]; done) | (simp [most]; omega)) | (with_reducible intro z hz); first | (replace hz := hz (by omega); subst hz) | subst hz)); try (conv => whnf)
   refine Idx.mk 0 (uv x) _ rfl (by simp [hc]) (by rw [hux]; try rfl) ?_
   (repeat ((conv => whnf); first | (with_reducible refine Fork.mk (fun hq => ?_) (fun hc => ?_)); rotate_left; (exfalso; first | omega | (simp [eqC, cellsI, idv, idl] at hc; done) | (simp [eqC, cellsI, idv, idl] at hc; omega) | contradiction); (try clear hq) | (with_reducible refine Fork.mk (fun hc => ?_) (fun hq => ?_)); (exfalso; first | omega | (simp [eqC, cellsI, idv, idl] at hc; done) | (simp [eqC, cellsI, idv, idl] at hc; omega) | contradiction); (try clear hq) | (with_reducible refine Owe.mk ?_ ?_); (first | omega | (unfold most; omega) | decide +kernel | assumption | (simp [most]; done) | (simp [most]; omega)) | (with_reducible intro z hz); first | (replace hz := hz (by omega); subst hz) | subst hz)); try (conv => whnf)
   refine CallV.mk _ (hC _ _ _ (PCw.of (hcl))) (fun js hjs => ?_); subst hjs
   (repeat ((conv => whnf); first | (with_reducible refine Fork.mk (fun hq => ?_) (fun hc => ?_)); rotate_left; (exfalso; first | omega | (simp [eqC, cellsI, idv, idl] at hc; done) | (simp [eqC, cellsI, idv, idl] at hc; omega) | contradiction); (try clear hq) | (with_reducible refine Fork.mk (fun hc => ?_) (fun hq => ?_)); (exfalso; first | omega | (simp [eqC, cellsI, idv, idl] at hc; done) | (simp [eqC, cellsI, idv, idl] at hc; omega) | contradiction); (try clear hq) | (with_reducible refine Owe.mk ?_ ?_); (first | omega | (unfold most; omega) | decide +kernel | assumption | (simp [most]; done) | (simp [most]; omega)) | (with_reducible intro z hz); first | (replace hz := hz (by omega); subst hz) | subst hz)); try (conv => whnf)
   refine hfin _ ?_
   unfold findU foundB
   rw [hc, hux]
   exact ILes.refl _
theorem find_kid {t : Trip} {u x : Ut} {k : Nat} (hid : u.id ≠ t) (hx : u.kids[k]? = some x) (hno : linK t (u.kids.take k) = []) (hf : foundB t x = true) : findU t u = findU t x ∧ foundB t u = true := by
 unfold foundB findU at *
 cases hc : linL t x with
 | nil => rw [hc] at hf; cases hf
 | cons y r =>
   have hne : linL t x ≠ [] := by rw [hc]; simp
   have hk := linK_hit hx hno hne
   rw [lin_some hid (by rw [hk]; exact hne), hk, hc]
   exact ⟨rfl, rfl⟩
theorem found_nil {t : Trip} {x : Ut} (h : foundB t x = false) : linL t x = [] := by
 unfold foundB at h
 split at h
 · cases h
 · assumption
theorem rfind_pc (t : Trip) (n : Nat) : ∀ (u : Ut), u.count ≤ n → n ≤ 100000000 → PC Tryd.prog envU 21 [uv u, idv t] [uv (findU t u), .bool (foundB t u)] := by
 induction n with
 | zero => intro u h; have := count_pos u; omega
 | succ n ih =>
 intro u hn hM
 have hue := uv_eq u
 have hml : (u.kids.map uv).length = u.kids.length := List.length_map _
 have hkl := kids_counts u.kids
 have hcu := Ut.count_eq u
 rw [hue]
 unfold idv idl
 by_cases hid : u.id = t
 · have hi := trip_eq hid
   refine PC.of_vc (T := tb0) eqs_ok tb_ok rfl mixed Tryd.func21 rfl rfl ?_; intro Γ C WK LP fin h0 hW hC hB hR hLP hfin
   (repeat ((conv => whnf); first | (with_reducible refine Fork.mk (fun hq => ?_) (fun hc => ?_)); rotate_left; (exfalso; first | omega | (simp [eqC, cellsI, idv, idl] at hc; done) | (simp [eqC, cellsI, idv, idl] at hc; omega) | contradiction); (try clear hq) | (with_reducible refine Fork.mk (fun hc => ?_) (fun hq => ?_)); (exfalso; first | omega | (simp [eqC, cellsI, idv, idl] at hc; done) | (simp [eqC, cellsI, idv, idl] at hc; omega) | contradiction); (try clear hq) | (with_reducible refine Owe.mk ?_ ?_); (first | omega | (unfold most; omega) | decide +kernel | assumption | (simp [most]; done) | (simp [most]; omega)) | (with_reducible intro z hz); first | (replace hz := hz (by omega); subst hz) | subst hz)); try (conv => whnf)
   refine hfin _ ?_
   unfold findU foundB
   rw [lin_self hid, hue]
   exact ILes.refl _
 have hi := trip_ne hid
 refine PC.of_vc (T := tb0) eqs_ok tb_ok rfl mixed Tryd.func21 rfl rfl ?_; intro Γ C WK LP fin h0 hW hC hB hR hLP hfin
 (repeat ((conv => whnf); first | (with_reducible refine Fork.mk (fun hq => ?_) (fun hc => ?_)); rotate_left; (exfalso; first | omega | (simp [eqC, cellsI, idv, idl] at hc; done) | (simp [eqC, cellsI, idv, idl] at hc; omega) | contradiction); (try clear hq) | (with_reducible refine Fork.mk (fun hc => ?_) (fun hq => ?_)); (exfalso; first | omega | (simp [eqC, cellsI, idv, idl] at hc; done) | (simp [eqC, cellsI, idv, idl] at hc; omega) | contradiction); (try clear hq) | (with_reducible refine Owe.mk ?_ ?_); (first | omega | (unfold most; omega) | decide +kernel | assumption | (simp [most]; done) | (simp [most]; omega)) | (with_reducible intro z hz); first | (replace hz := hz (by omega); subst hz) | subst hz)); try (conv => whnf)
 refine hLP _ _ _ Nat (fun k => ⟨[.any, .any, .ptr 0 1 0, .ptr 1 1 0, .ptr 2 1 0, .any, .imm (.int .i64 (k : Nat)), .any, .any, .any, .any, .any, .any, .any, .any, .any, .any, .any, .any, .any, .any, .any, .any, .any, .any, .any, .any, .any, .any, .any, .any, .any, .any, .any], [.box 1 [.imm (.int .i64 u.id.x), .imm (.int .i64 u.id.y), .imm (.int .i64 u.id.z), .imm (.int .i64 u.kind), .imm (.str u.label), .imm (.sl 4 (u.head.map wdv)), .imm (.sl 4 (u.words.map wdv)), .imm (.sl 8 (u.kids.map uv))], .box 1 [.imm (.int .i64 t.x), .imm (.int .i64 t.y), .imm (.int .i64 t.z)], .box 1 [.imm (.int .i64 0), .imm (.int .i64 0), .imm (.int .i64 0), .imm (.int .i64 0), .imm (.str ⟨#[]⟩), .imm .nil, .imm .nil, .imm .nil]]⟩) (fun k => k ≤ u.kids.length ∧ linK t (u.kids.take k) = []) (fun k => u.kids.length - k) 0 ⟨Nat.zero_le _, rfl⟩ (Weak.slots 3 (by first | omega | (rw [h0]; exact Nat.le_of_ble_eq_true rfl)) rfl rfl (by first | (simp only [List.all_cons, List.all_nil, blkBelow, belowL_imm, belowL, belowB, Bool.and_true, Bool.true_and]; done) | rfl | (simp only [List.all_cons, List.all_nil, blkBelow, belowL_imm, belowL, belowB, Bool.and_true, Bool.true_and]; first | done | decide) | simp [blkBelow, belowB, belowL, belowL_imm]) (by repeat (first | exact Wk.nil | refine Wk.drop16 ?_ | refine Wk.drop4 ?_ | refine Wk.drop ?_ | refine Wk.eq (by with_reducible rfl) rfl ?_ | refine Wk.eq (congrArg (fun z => PV.imm (IV.int IntKind.i64 z)) (by first | omega | (simp; done) | (simp; omega))) rfl ?_ | refine Wk.eq rfl rfl ?_))) ?_
 rintro k ⟨hk, hno⟩
 by_cases hlt : k < u.kids.length
 · obtain ⟨x, hx⟩ := kid_at hlt
   have h1 := kid_lt' hx
   have hI := ih x (by omega) (by omega)
   have hux := uv_eq x
   have huf := uv_eq (findU t x)
   rw [hux, huf] at hI
   unfold idv idl at hI
   (repeat ((conv => whnf); first | (with_reducible refine Fork.mk (fun hq => ?_) (fun hc => ?_)); rotate_left; (exfalso; first | omega | (simp [eqC, cellsI, idv, idl] at hc; done) | (simp [eqC, cellsI, idv, idl] at hc; omega) | contradiction); (try clear hq) | (with_reducible refine Fork.mk (fun hc => ?_) (fun hq => ?_)); (exfalso; first | omega | (simp [eqC, cellsI, idv, idl] at hc; done) | (simp [eqC, cellsI, idv, idl] at hc; omega) | contradiction); (try clear hq) | (with_reducible refine Owe.mk ?_ ?_); (first | omega | (unfold most; omega) | decide +kernel | assumption | (simp [most]; done) | (simp [most]; omega)) | (with_reducible intro z hz); first | (replace hz := hz (by omega); subst hz) | subst hz)); try (conv => whnf)
   refine Idx.mk k (uv x) _ rfl (by simp [hx]) (by rw [hux]; try rfl) ?_
   (repeat ((conv => whnf); first | (with_reducible refine Fork.mk (fun hq => ?_) (fun hc => ?_)); rotate_left; (exfalso; first | omega | (simp [eqC, cellsI, idv, idl] at hc; done) | (simp [eqC, cellsI, idv, idl] at hc; omega) | contradiction); (try clear hq) | (with_reducible refine Fork.mk (fun hc => ?_) (fun hq => ?_)); (exfalso; first | omega | (simp [eqC, cellsI, idv, idl] at hc; done) | (simp [eqC, cellsI, idv, idl] at hc; omega) | contradiction); (try clear hq) | (with_reducible refine Owe.mk ?_ ?_); (first | omega | (unfold most; omega) | decide +kernel | assumption | (simp [most]; done) | (simp [most]; omega)) | (with_reducible intro z hz); first | (replace hz := hz (by omega); subst hz) | subst hz)); try (conv => whnf)
   refine CallV.mk _ (hC _ _ _ (PCw.of (hI))) (fun js hjs => ?_); subst hjs
   by_cases hf : foundB t x = true
   · obtain ⟨e1, e2⟩ := find_kid hid hx hno hf
     rw [hf]
     (repeat ((conv => whnf); first | (with_reducible refine Fork.mk (fun hq => ?_) (fun hc => ?_)); rotate_left; (exfalso; first | omega | (simp [eqC, cellsI, idv, idl] at hc; done) | (simp [eqC, cellsI, idv, idl] at hc; omega) | contradiction); (try clear hq) | (with_reducible refine Fork.mk (fun hc => ?_) (fun hq => ?_)); (exfalso; first | omega | (simp [eqC, cellsI, idv, idl] at hc; done) | (simp [eqC, cellsI, idv, idl] at hc; omega) | contradiction); (try clear hq) | (with_reducible refine Owe.mk ?_ ?_); (first | omega | (unfold most; omega) | decide +kernel | assumption | (simp [most]; done) | (simp [most]; omega)) | (with_reducible intro z hz); first | (replace hz := hz (by omega); subst hz) | subst hz)); try (conv => whnf)
     refine hfin _ ?_
     rw [e1, e2, huf]
     exact ILes.refl _
   · have hf : foundB t x = false := by simpa using hf
     rw [hf]
     (repeat ((conv => whnf); first | (with_reducible refine Fork.mk (fun hq => ?_) (fun hc => ?_)); rotate_left; (exfalso; first | omega | (simp [eqC, cellsI, idv, idl] at hc; done) | (simp [eqC, cellsI, idv, idl] at hc; omega) | contradiction); (try clear hq) | (with_reducible refine Fork.mk (fun hc => ?_) (fun hq => ?_)); (exfalso; first | omega | (simp [eqC, cellsI, idv, idl] at hc; done) | (simp [eqC, cellsI, idv, idl] at hc; omega) | contradiction); (try clear hq) | (with_reducible refine Owe.mk ?_ ?_); (first | omega | (unfold most; omega) | decide +kernel | assumption | (simp [most]; done) | (simp [most]; omega)) | (with_reducible intro z hz); first | (replace hz := hz (by omega); subst hz) | subst hz)); try (conv => whnf)
     exact ⟨k + 1, ⟨by omega, linK_step hx hno (found_nil hf)⟩, by dsimp only; omega, (Weak.slots 3 (by first | omega | (rw [h0]; exact Nat.le_of_ble_eq_true rfl)) rfl rfl (by first | (simp only [List.all_cons, List.all_nil, blkBelow, belowL_imm, belowL, belowB, Bool.and_true, Bool.true_and]; done) | rfl | (simp only [List.all_cons, List.all_nil, blkBelow, belowL_imm, belowL, belowB, Bool.and_true, Bool.true_and]; first | done | decide) | simp [blkBelow, belowB, belowL, belowL_imm]) (by repeat (first | exact Wk.nil | refine Wk.drop16 ?_ | refine Wk.drop4 ?_ | refine Wk.drop ?_ | refine Wk.eq (by with_reducible rfl) rfl ?_ | refine Wk.eq (congrArg (fun z => PV.imm (IV.int IntKind.i64 z)) (by first | omega | (simp; done) | (simp; omega))) rfl ?_ | refine Wk.eq rfl rfl ?_)))⟩
 · (repeat ((conv => whnf); first | (with_reducible refine Fork.mk (fun hq => ?_) (fun hc => ?_)); rotate_left; (exfalso; first | omega | (simp [eqC, cellsI, idv, idl] at hc; done) | (simp [eqC, cellsI, idv, idl] at hc; omega) | contradiction); (try clear hq) | (with_reducible refine Fork.mk (fun hc => ?_) (fun hq => ?_)); (exfalso; first | omega | (simp [eqC, cellsI, idv, idl] at hc; done) | (simp [eqC, cellsI, idv, idl] at hc; omega) | contradiction); (try clear hq) | (with_reducible refine Owe.mk ?_ ?_); (first | omega | (unfold most; omega) | decide +kernel | assumption | (simp [most]; done) | (simp [most]; omega)) | (with_reducible intro z hz); first | (replace hz := hz (by omega); subst hz) | subst hz)); try (conv => whnf)
   obtain rfl : k = u.kids.length := by omega
   rw [List.take_length] at hno
   refine hfin _ ?_
   unfold findU foundB
   rw [lin_none hid hno]
   exact .cons zero_le (.refl _)
end Go.Proofs.YtiohjjgncbhimaaDoor.Pu
