/-
  edit, with the change that Relabel makes. Relabel: its error, what it makes. The reference's Relabel; TreeeditRelabels. TreeeditRelabels, for arguments that came in. Words that came in: what is no word. edit, with the change that SetWords makes. edit, with the change that SetHeading makes. SetWords and SetHeading: their error, what they make. The reference's Write; TreeeditSetsWords. TreeeditSetsWords, for arguments that came in.
-/
import Derived.Test.YtmnbobcgjnickaaGreatDoorT1
import Derived.Test.YtmnbobcgjnickaaGreatDoorT3
import Derived.Test.YtmnbobcgjnickaaGreatDoorT2
namespace Go.Proofs.YtmnbobcgjnickaaGreatDoor.Pt
open Go Go.Pv Go.RowKit
set_option linter.unusedSimpArgs false
open Lab Lcs Go.Proofs.YtmnbobcgjnickaaGreatDoor Go.Proofs.YtmnbobcgjnickaaGreatDoor.Pu
set_option maxRecDepth 10000
set_option maxHeartbeats 16000000
theorem edit_lab (id : Trip) (f : Ut → Ut) (D : Ut → Prop) (s : Str) (hf : ∀ y, D y → PCB Tryz.prog env0 48 (.imm (uv y) :: [.ptr 0 1 0]) [.box 1 [.imm (.str s)]] [.imm (uv (f y))] [.box 1 [.imm (.str s)]]) (n : Nat) : ∀ u : Ut, EdOk id f D n u → PCB Tryz.prog env0 47 [.imm (uv u), .imm (idv id), .clo 48 [.ptr 0 1 0]] [.box 1 [.imm (.str s)]] [.imm (uv (editN id f n u))] [.box 1 [.imm (.str s)]] := by
 induction n with
 | zero => intro u h; exact h.elim
 | succ n ih =>
 intro u hok
 obtain ⟨hD, hsz, hks⟩ := hok
 rw [editN, uv_with]
 have hue := uv_eq u
 by_cases h : u.id = id
 · have hi := id_eq h
   have hF := hf u (hD h)
   rw [if_pos h] at hsz hks ⊢
   generalize f u = v at hsz hks hF ⊢
   obtain ⟨hz1, hz2, hz3⟩ := hsz
   rw [hue, uv_eq v] at hF
   have hml : (v.kids.map uv).length = v.kids.length := List.length_map _
   have hl1 : (v.head.map wdv).length = v.head.length := List.length_map _
   have hl2 : (v.words.map wdv).length = v.words.length := List.length_map _
   have hA := (cloneW_pcr (X := env0) (v.head.map wdv) (by omega)).pc
   have hB' := (cloneW_pcr (X := env0) (v.words.map wdv) (by omega)).pc
   have hK' := cloneU_pcr (X := env0) (v.kids.map uv) (by omega)
   rw [hue]
   refine PCB.of_va (T := tb0) eqs_ok tb_ok rfl mixed Tryz.func47 rfl rfl rfl (Nat.le_of_ble_eq_true rfl) rfl ?_; intro Γ C WK LP fin h0 hk0 hW hC hB hR hLP hfin
   (try (conv => whnf)); (repeat ((first | refine qT ?_ | refine qF ?_ | refine qO ?_ | (with_reducible intro z hz); (first | (replace hz := hz (by omega); subst hz) | subst hz)); (try (conv => whnf))))
   refine CallB.mk ([.imm (.agg [.int .i64 v.id.x, .int .i64 v.id.y, .int .i64 v.id.z, .int .i64 v.kind, .str v.label, .sl 4 (v.head.map wdv), .sl 4 (v.words.map wdv), .sl 8 (v.kids.map uv)])]) ([.box 1 [.imm (.str s)]]) (hB _ _ _ _ _ (hF)) ?_
   (try (conv => whnf)); (repeat ((first | refine qT ?_ | refine qF ?_ | refine qO ?_ | (with_reducible intro z hz); (first | (replace hz := hz (by omega); subst hz) | subst hz) | (refine CallV.mk _ (hC _ _ _ (PCw.of hA)) (fun js hjs => ?_); subst hjs) | (refine CallV.mk _ (hC _ _ _ (PCw.of hB')) (fun js hjs => ?_); subst hjs)); (try (conv => whnf))))
   refine CallV.row _ _ _ (hR _ _ _ _ _ (PCRw.of (hK'))) (fun js hjs => ?_); subst hjs
   (try (conv => whnf)); (repeat ((first | refine qT ?_ | refine qF ?_ | refine qO ?_ | (with_reducible intro z hz); (first | (replace hz := hz (by omega); subst hz) | subst hz)); (try (conv => whnf))))
   refine hLP _ _ _ Nat (fun k => ⟨[(2, .clo 48 [.ptr 0 1 0]), (3, .ptr 1 1 0), (4, .ptr 2 1 0), (6, .ptr 3 1 0), (29, .row 7 1), (30, .imm (.int .i64 (v.kids.length : Nat))), (31, .imm (.int .i64 (k : Nat)))], [.box 1 [.imm (.str s)], .box 1 [.imm (.int .i64 v.id.x), .imm (.int .i64 v.id.y), .imm (.int .i64 v.id.z), .imm (.int .i64 v.kind), .imm (.str v.label), .imm (.sl 4 (v.head.map wdv)), .imm (.sl 4 (v.words.map wdv)), .row 7 1], .box 1 [.imm (.int .i64 id.x), .imm (.int .i64 id.y), .imm (.int .i64 id.z)], .box 1 [.imm (.int .i64 0), .imm (.int .i64 0), .imm (.int .i64 0), .imm (.int .i64 0), .imm (.str ⟨#[]⟩), .imm .nil, .imm .nil, .imm .nil], .dead 0, .dead 0, .dead 0, .row 27 8 1 ((((v.kids.take k).map (editN id f n) ++ v.kids.drop k).map uv).map PV.imm)]⟩) (fun k => k ≤ v.kids.length) (fun k => v.kids.length - k) 0 (Nat.zero_le _) (((WeakA.row 7 ((((v.kids.take 0).map (editN id f n) ++ v.kids.drop 0).map uv).map .imm) rfl (by simp))).trans ((qSL 8 rfl rfl (hE := by (repeat ((conv => whnf); first | exact trivial | refine And.intro (by first | exact WkOne.any | exact WkOne.eq (by with_reducible rfl) rfl | exact WkOne.eq (congrArg (fun z => PV.imm (IV.int IntKind.i64 z)) (by first | omega | (simp [hml, List.length_map]; done) | (simp [hml, List.length_map]; omega))) rfl | exact WkOne.eq (by first | (simp [hml, List.length_map]; done) | fail) rfl | exact WkOne.eq rfl rfl | exact WkOne.le rfl (ILe.nil _)) ?_)))))) ?_
   intro k hk
   have hho := Nat.lt_or_ge k v.kids.length
   cases hho with
   | inl hlt =>
     obtain ⟨x, hx⟩ : ∃ x, v.kids[k]? = some x := ⟨v.kids[k], List.getElem?_eq_getElem hlt⟩
     have hux := uv_eq x
     have hI := ih x (hks x (List.mem_of_getElem? hx))
     have hRl : (((((v.kids.take k).map (editN id f n) ++ v.kids.drop k).map uv).map PV.imm)).length = v.kids.length := by simp; omega
     rw [hux] at hI
     generalize hy : editN id f n x = y at hI
     rw [uv_eq y] at hI
     have hat : (((v.kids.take k).map (editN id f n) ++ v.kids.drop k).map uv)[k]? = some (uv x) := by
       rw [List.getElem?_map, List.getElem?_append_right (by simp; omega)]
       simp [hx, Nat.min_eq_left (Nat.le_of_lt hlt)]
     (try (conv => whnf)); (repeat ((first | refine qT ?_ | refine qF ?_ | refine qO ?_ | (with_reducible intro z hz); (first | (replace hz := hz (by omega); subst hz) | subst hz)); (try (conv => whnf))))
     refine Pos.mk k rfl (by omega) ?_
     (try (conv => whnf)); (repeat ((first | refine qT ?_ | refine qF ?_ | refine qO ?_ | (with_reducible intro z hz); (first | (replace hz := hz (by omega); subst hz) | subst hz)); (try (conv => whnf))))
     refine At.mk (.imm (uv x)) (by rw [List.getElem?_map, hat]; rfl) ?_
     rw [hux]
     (try (conv => whnf)); (repeat ((first | refine qT ?_ | refine qF ?_ | refine qO ?_ | (with_reducible intro z hz); (first | (replace hz := hz (by omega); subst hz) | subst hz)); (try (conv => whnf))))
     refine CallB.mk ([.imm (.agg [.int .i64 y.id.x, .int .i64 y.id.y, .int .i64 y.id.z, .int .i64 y.kind, .str y.label, .sl 4 (y.head.map wdv), .sl 4 (y.words.map wdv), .sl 8 (y.kids.map uv)])]) ([.box 1 [.imm (.str s)]]) (hB _ _ _ _ _ (hI)) ?_
     (try (conv => whnf)); (repeat ((first | refine qT ?_ | refine qF ?_ | refine qO ?_ | (with_reducible intro z hz); (first | (replace hz := hz (by omega); subst hz) | subst hz)); (try (conv => whnf))))
     refine Pos.mk k rfl (by omega) ?_
     (try (conv => whnf)); (repeat ((first | refine qT ?_ | refine qF ?_ | refine qO ?_ | (with_reducible intro z hz); (first | (replace hz := hz (by omega); subst hz) | subst hz)); (try (conv => whnf))))
     refine At.mk (.imm (uv x)) (by rw [List.getElem?_map, hat]; rfl) ?_
     rw [hux]
     (try (conv => whnf)); (repeat ((first | refine qT ?_ | refine qF ?_ | refine qO ?_ | (with_reducible intro z hz); (first | (replace hz := hz (by omega); subst hz) | subst hz)); (try (conv => whnf))))
     exact ⟨k + 1, by omega, by dsimp only; omega, ((WeakA.row 7 ((((v.kids.take (k + 1)).map (editN id f n) ++ v.kids.drop (k + 1)).map uv).map .imm) rfl (by rw [← set_step hx, hy, uv_eq y]; rfl))).trans (qSL 8 rfl rfl)⟩
   | inr hge =>
     (try (conv => whnf)); (repeat ((first | refine qT ?_ | refine qF ?_ | refine qO ?_ | (with_reducible intro z hz); (first | (replace hz := hz (by omega); subst hz) | subst hz)); (try (conv => whnf))))
     obtain rfl : k = v.kids.length := by omega
     exact hfin _ ((WeakA.frz 7 ((v.kids.map (editN id f n)).map uv) rfl (by rw [List.take_length, List.drop_length, List.append_nil]) (ILe.refl _)).trans (qSL 1 rfl rfl))
 · have hi := id_ne h
   rw [if_neg h] at hsz hks ⊢
   obtain ⟨hz1, hz2, hz3⟩ := hsz
   have hml : (u.kids.map uv).length = u.kids.length := List.length_map _
   have hl1 : (u.head.map wdv).length = u.head.length := List.length_map _
   have hl2 : (u.words.map wdv).length = u.words.length := List.length_map _
   have hA := (cloneW_pcr (X := env0) (u.head.map wdv) (by omega)).pc
   have hB' := (cloneW_pcr (X := env0) (u.words.map wdv) (by omega)).pc
   have hK' := cloneU_pcr (X := env0) (u.kids.map uv) (by omega)
   rw [hue]
   refine PCB.of_va (T := tb0) eqs_ok tb_ok rfl mixed Tryz.func47 rfl rfl rfl (Nat.le_of_ble_eq_true rfl) rfl ?_; intro Γ C WK LP fin h0 hk0 hW hC hB hR hLP hfin
   (try (conv => whnf)); (repeat ((first | refine qT ?_ | refine qF ?_ | refine qO ?_ | (with_reducible intro z hz); (first | (replace hz := hz (by omega); subst hz) | subst hz) | (refine CallV.mk _ (hC _ _ _ (PCw.of hA)) (fun js hjs => ?_); subst hjs) | (refine CallV.mk _ (hC _ _ _ (PCw.of hB')) (fun js hjs => ?_); subst hjs)); (try (conv => whnf))))
   refine CallV.row _ _ _ (hR _ _ _ _ _ (PCRw.of (hK'))) (fun js hjs => ?_); subst hjs
   (try (conv => whnf)); (repeat ((first | refine qT ?_ | refine qF ?_ | refine qO ?_ | (with_reducible intro z hz); (first | (replace hz := hz (by omega); subst hz) | subst hz)); (try (conv => whnf))))
   refine hLP _ _ _ Nat (fun k => ⟨[(2, .clo 48 [.ptr 0 1 0]), (3, .ptr 1 1 0), (4, .ptr 2 1 0), (6, .ptr 3 1 0), (29, .row 6 1), (30, .imm (.int .i64 (u.kids.length : Nat))), (31, .imm (.int .i64 (k : Nat)))], [.box 1 [.imm (.str s)], .box 1 [.imm (.int .i64 u.id.x), .imm (.int .i64 u.id.y), .imm (.int .i64 u.id.z), .imm (.int .i64 u.kind), .imm (.str u.label), .imm (.sl 4 (u.head.map wdv)), .imm (.sl 4 (u.words.map wdv)), .row 6 1], .box 1 [.imm (.int .i64 id.x), .imm (.int .i64 id.y), .imm (.int .i64 id.z)], .box 1 [.imm (.int .i64 0), .imm (.int .i64 0), .imm (.int .i64 0), .imm (.int .i64 0), .imm (.str ⟨#[]⟩), .imm .nil, .imm .nil, .imm .nil], .dead 0, .dead 0, .row 27 8 1 ((((u.kids.take k).map (editN id f n) ++ u.kids.drop k).map uv).map PV.imm)]⟩) (fun k => k ≤ u.kids.length) (fun k => u.kids.length - k) 0 (Nat.zero_le _) (((WeakA.row 6 ((((u.kids.take 0).map (editN id f n) ++ u.kids.drop 0).map uv).map .imm) rfl (by simp))).trans ((qSL 7 rfl rfl (hE := by (repeat ((conv => whnf); first | exact trivial | refine And.intro (by first | exact WkOne.any | exact WkOne.eq (by with_reducible rfl) rfl | exact WkOne.eq (congrArg (fun z => PV.imm (IV.int IntKind.i64 z)) (by first | omega | (simp [hml, List.length_map]; done) | (simp [hml, List.length_map]; omega))) rfl | exact WkOne.eq (by first | (simp [hml, List.length_map]; done) | fail) rfl | exact WkOne.eq rfl rfl | exact WkOne.le rfl (ILe.nil _)) ?_)))))) ?_
   intro k hk
   have hho := Nat.lt_or_ge k u.kids.length
   cases hho with
   | inl hlt =>
     obtain ⟨x, hx⟩ : ∃ x, u.kids[k]? = some x := ⟨u.kids[k], List.getElem?_eq_getElem hlt⟩
     have hux := uv_eq x
     have hI := ih x (hks x (List.mem_of_getElem? hx))
     have hRl : (((((u.kids.take k).map (editN id f n) ++ u.kids.drop k).map uv).map PV.imm)).length = u.kids.length := by simp; omega
     rw [hux] at hI
     generalize hy : editN id f n x = y at hI
     rw [uv_eq y] at hI
     have hat : (((u.kids.take k).map (editN id f n) ++ u.kids.drop k).map uv)[k]? = some (uv x) := by
       rw [List.getElem?_map, List.getElem?_append_right (by simp; omega)]
       simp [hx, Nat.min_eq_left (Nat.le_of_lt hlt)]
     (try (conv => whnf)); (repeat ((first | refine qT ?_ | refine qF ?_ | refine qO ?_ | (with_reducible intro z hz); (first | (replace hz := hz (by omega); subst hz) | subst hz)); (try (conv => whnf))))
     refine Pos.mk k rfl (by omega) ?_
     (try (conv => whnf)); (repeat ((first | refine qT ?_ | refine qF ?_ | refine qO ?_ | (with_reducible intro z hz); (first | (replace hz := hz (by omega); subst hz) | subst hz)); (try (conv => whnf))))
     refine At.mk (.imm (uv x)) (by rw [List.getElem?_map, hat]; rfl) ?_
     rw [hux]
     (try (conv => whnf)); (repeat ((first | refine qT ?_ | refine qF ?_ | refine qO ?_ | (with_reducible intro z hz); (first | (replace hz := hz (by omega); subst hz) | subst hz)); (try (conv => whnf))))
     refine CallB.mk ([.imm (.agg [.int .i64 y.id.x, .int .i64 y.id.y, .int .i64 y.id.z, .int .i64 y.kind, .str y.label, .sl 4 (y.head.map wdv), .sl 4 (y.words.map wdv), .sl 8 (y.kids.map uv)])]) ([.box 1 [.imm (.str s)]]) (hB _ _ _ _ _ (hI)) ?_
     (try (conv => whnf)); (repeat ((first | refine qT ?_ | refine qF ?_ | refine qO ?_ | (with_reducible intro z hz); (first | (replace hz := hz (by omega); subst hz) | subst hz)); (try (conv => whnf))))
     refine Pos.mk k rfl (by omega) ?_
     (try (conv => whnf)); (repeat ((first | refine qT ?_ | refine qF ?_ | refine qO ?_ | (with_reducible intro z hz); (first | (replace hz := hz (by omega); subst hz) | subst hz)); (try (conv => whnf))))
     refine At.mk (.imm (uv x)) (by rw [List.getElem?_map, hat]; rfl) ?_
     rw [hux]
     (try (conv => whnf)); (repeat ((first | refine qT ?_ | refine qF ?_ | refine qO ?_ | (with_reducible intro z hz); (first | (replace hz := hz (by omega); subst hz) | subst hz)); (try (conv => whnf))))
     exact ⟨k + 1, by omega, by dsimp only; omega, ((WeakA.row 6 ((((u.kids.take (k + 1)).map (editN id f n) ++ u.kids.drop (k + 1)).map uv).map .imm) rfl (by rw [← set_step hx, hy, uv_eq y]; rfl))).trans (qSL 7 rfl rfl)⟩
   | inr hge =>
     (try (conv => whnf)); (repeat ((first | refine qT ?_ | refine qF ?_ | refine qO ?_ | (with_reducible intro z hz); (first | (replace hz := hz (by omega); subst hz) | subst hz)); (try (conv => whnf))))
     obtain rfl : k = u.kids.length := by omega
     exact hfin _ ((WeakA.frz 6 ((u.kids.map (editN id f n)).map uv) rfl (by rw [List.take_length, List.drop_length, List.append_nil]) (ILe.refl _)).trans (qSL 1 rfl rfl))
end Go.Proofs.YtmnbobcgjnickaaGreatDoor.Pt
namespace Go.Proofs.YtmnbobcgjnickaaGreatDoor.Pt
open Go Go.Pv Go.RowKit
set_option linter.unusedSimpArgs false
open Lab Lcs Go.Proofs.YtmnbobcgjnickaaGreatDoor Go.Proofs.YtmnbobcgjnickaaGreatDoor.Pu
set_option maxRecDepth 10000
set_option maxHeartbeats 16000000
theorem lvalid_pc (s : Str) (hs : s.size ≤ 1000000) : PC Tryz.prog env0 77 [.str s] [.bool (mayL s.data.toList)] :=
 lift_bool (enters_of Tryz.func77 rfl rfl) fun Q w vs hQ hR hvs => by
   unfold RepIs at hvs
   obtain ⟨v, r, rfl, h1, h2⟩ := hvs
   unfold RepIs at h2
   unfold RepI at h1
   subst h1
   subst h2
   exact valid_any s w hR.1 hs
theorem lmay_pc (s : Str) (hs : s.size ≤ 1000000) : PC Tryz.prog env0 49 [.str s] [.bool (mayL s.data.toList)] :=
 lift_bool (enters_of Tryz.func49 rfl rfl) fun Q w vs hQ hR hvs => by
   unfold RepIs at hvs
   obtain ⟨v, r, rfl, h1, h2⟩ := hvs
   unfold RepIs at h2
   unfold RepI at h1
   subst h1
   subst h2
   exact (may_any s w hs).mono fun e w' h => ⟨h.1, h.2 ▸ Below.refl _ _⟩
def proE (u : Ut) (id : Trip) : Int := if id ∉ u.ids then 4 else if (findU id u).kind = 0 then 9 else 0
def proU (u : Ut) (id : Trip) : Ut := if proE u id = 0 then findU id u else zeroU
theorem pro_pc (u : Ut) (id : Trip) (hM : u.count ≤ 100000000) (hs : small u) : PC Tryz.prog env0 78 [uv u, idv id] [uv (proU u id), .int .i64 (proE u id)] := by
 have hFi := find_pc id u hM hs
 have hue := uv_eq u
 rw [found_mem] at hFi
 by_cases h1 : id ∈ u.ids
 rotate_left
 · have hE : proE u id = 4 := by unfold proE; rw [if_pos h1]
   have hU : proU u id = zeroU := by unfold proU; rw [hE, if_neg (by decide)]
   rw [hE, hU]
   generalize findU id u = x at hFi
   rw [uv_eq x] at hFi
   rw [decide_eq_false h1] at hFi
   rw [hue] at hFi ⊢
   refine PC.of_va (T := tb0) eqs_ok tb_ok rfl mixed Tryz.func78 rfl rfl (Nat.le_of_ble_eq_true rfl) ?_; intro Γ C WK LP fin h0 hW hC hB hR hLP hfin
   (try (conv => whnf)); (repeat ((first | refine qT ?_ | refine qF ?_ | refine qO ?_ | (with_reducible intro z hz); (first | (replace hz := hz (by omega); subst hz) | subst hz) | (refine CallV.mk _ (hC _ _ _ (PCw.of hFi)) (fun js hjs => ?_); subst hjs)); (try (conv => whnf))))
   refine hfin _ ?_
   exact .cons zero_le (.refl _)
 rw [decide_eq_true h1] at hFi
 by_cases h2 : (findU id u).kind = 0
 · have hE : proE u id = 9 := by unfold proE; rw [if_neg (fun e => e h1), if_pos h2]
   have hU : proU u id = zeroU := by unfold proU; rw [hE, if_neg (by decide)]
   rw [hE, hU]
   generalize findU id u = x at hFi h2
   rw [uv_eq x] at hFi
   rw [hue] at hFi ⊢
   refine PC.of_va (T := tb0) eqs_ok tb_ok rfl mixed Tryz.func78 rfl rfl (Nat.le_of_ble_eq_true rfl) ?_; intro Γ C WK LP fin h0 hW hC hB hR hLP hfin
   (try (conv => whnf)); (repeat ((first | refine qT ?_ | refine qF ?_ | refine qO ?_ | (with_reducible intro z hz); (first | (replace hz := hz (by omega); subst hz) | subst hz) | (refine CallV.mk _ (hC _ _ _ (PCw.of hFi)) (fun js hjs => ?_); subst hjs)); (try (conv => whnf))))
   refine hfin _ ?_
   exact .cons zero_le (.refl _)
 have hE : proE u id = 0 := by unfold proE; rw [if_neg (fun e => e h1), if_neg h2]
 have hU : proU u id = findU id u := by unfold proU; rw [hE, if_pos rfl]
 rw [hE, hU]
 generalize findU id u = x at hFi h2 ⊢
 rw [uv_eq x] at hFi ⊢
 rw [hue] at hFi ⊢
 refine PC.of_va (T := tb0) eqs_ok tb_ok rfl mixed Tryz.func78 rfl rfl (Nat.le_of_ble_eq_true rfl) ?_; intro Γ C WK LP fin h0 hW hC hB hR hLP hfin
 (try (conv => whnf)); (repeat ((first | refine qT ?_ | refine qF ?_ | refine qO ?_ | (with_reducible intro z hz); (first | (replace hz := hz (by omega); subst hz) | subst hz) | (refine CallV.mk _ (hC _ _ _ (PCw.of hFi)) (fun js hjs => ?_); subst hjs)); (try (conv => whnf))))
 exact hfin _ (ILes.refl _)
def sibs (u : Ut) (id : Trip) : List Ut := if (parV id u).2.2 = true then (findU (parV id u).1 u).kids else [u]
theorem sibs_pc (u : Ut) (id : Trip) (hM : u.count ≤ 100000000) (hs : small u) : PC Tryz.prog env0 79 [uv u, idv id] [.sl 8 ((sibs u id).map uv)] := by
 have hP := parent_pc id u hM
 have hF := find_pc (parV id u).1 u hM hs
 have hue := uv_eq u
 unfold sibs
 generalize (parV id u).1 = p at hP hF ⊢
 generalize (parV id u).2.1 = z at hP
 generalize (parV id u).2.2 = b at hP ⊢
 generalize findU p u = x at hF ⊢
 generalize foundB p u = c at hF
 have hpe : idv p = .agg [.int .i64 p.x, .int .i64 p.y, .int .i64 p.z] := rfl
 rw [hpe] at hP hF
 rw [uv_eq x] at hF
 cases b
 · rw [if_neg (by decide), List.map_cons, List.map_nil]
   rw [hue] at hP ⊢
   refine PC.of_va (T := tb0) eqs_ok tb_ok rfl mixed Tryz.func79 rfl rfl (Nat.le_of_ble_eq_true rfl) ?_; intro Γ C WK LP fin h0 hW hC hB hR hLP hfin
   (try (conv => whnf)); (repeat ((first | refine qT ?_ | refine qF ?_ | refine qO ?_ | (with_reducible intro z hz); (first | (replace hz := hz (by omega); subst hz) | subst hz) | (refine CallV.mk _ (hC _ _ _ (PCw.of hP)) (fun js hjs => ?_); subst hjs)); (try (conv => whnf))))
   refine Imms.mk [.agg [.int .i64 u.id.x, .int .i64 u.id.y, .int .i64 u.id.z, .int .i64 u.kind, .str u.label, .sl 4 (u.head.map wdv), .sl 4 (u.words.map wdv), .sl 8 (u.kids.map uv)]] rfl ?_
   exact hfin _ (ILes.refl _)
 · rw [if_pos rfl]
   rw [hue] at hP hF ⊢
   refine PC.of_va (T := tb0) eqs_ok tb_ok rfl mixed Tryz.func79 rfl rfl (Nat.le_of_ble_eq_true rfl) ?_; intro Γ C WK LP fin h0 hW hC hB hR hLP hfin
   (try (conv => whnf)); (repeat ((first | refine qT ?_ | refine qF ?_ | refine qO ?_ | (with_reducible intro z hz); (first | (replace hz := hz (by omega); subst hz) | subst hz) | (refine CallV.mk _ (hC _ _ _ (PCw.of hP)) (fun js hjs => ?_); subst hjs) | (refine CallV.mk _ (hC _ _ _ (PCw.of hF)) (fun js hjs => ?_); subst hjs)); (try (conv => whnf))))
   exact hfin _ (ILes.refl _)
def relE (u : Ut) (id : Trip) (s : Str) : Int := if editB u = false then 1 else if mayL s.data.toList = false then 1 else if proE u id ≠ 0 then proE u id else if takenB (sibs u id) (findU id u).kind s = true then 10 else 0
theorem relabelError_pc (u : Ut) (id : Trip) (s : Str) (hok : okU u) (hM : Tame u) (hc : u.count ≤ 10000) (hs : s.size ≤ 1000000) : PC Tryz.prog env0 46 [uv u, idv id, .str s] [.int .i64 (relE u id s)] := by
 have hEd := editable_pc u hok hM (by omega)
 have hLv := lvalid_pc s hs
 have hPr := pro_pc u id (by omega) (small_tame hM)
 have hSi := sibs_pc u id (by omega) (small_tame hM)
 have hsl : (sibs u id).length ≤ 100000000 := by
   unfold sibs
   split
   · have := find_kids (parV id u).1 u; omega
   · simp
 have hTa := taken_pc (sibs u id) (findU id u).kind s hsl
 have hue := uv_eq u
 rw [edit_stands] at hEd
 unfold relE
 rw [edit_stands]
 have hPu : proU u id = if proE u id = 0 then findU id u else zeroU := rfl
 rw [hPu] at hPr
 clear hPu
 generalize standsB u = b at hEd ⊢
 generalize mayL s.data.toList = c at hLv ⊢
 generalize proE u id = e at hPr ⊢
 generalize findU id u = x at hPr hTa ⊢
 generalize takenB (sibs u id) x.kind s = d at hTa ⊢
 generalize sibs u id = l at hSi hTa hsl
 cases b
 · rw [if_pos rfl]
   rw [hue] at hEd ⊢
   refine PC.of_va (T := tb0) eqs_ok tb_ok rfl mixed Tryz.func46 rfl rfl (Nat.le_of_ble_eq_true rfl) ?_; intro Γ C WK LP fin h0 hW hC hB hR hLP hfin
   (try (conv => whnf)); (repeat ((first | refine qT ?_ | refine qF ?_ | refine qO ?_ | (with_reducible intro z hz); (first | (replace hz := hz (by omega); subst hz) | subst hz) | (refine CallV.mk _ (hC _ _ _ (PCw.of hEd)) (fun js hjs => ?_); subst hjs)); (try (conv => whnf))))
   exact hfin _ (ILes.refl _)
 rw [if_neg (by decide)]
 cases c
 · rw [if_pos rfl]
   rw [hue] at hEd ⊢
   refine PC.of_va (T := tb0) eqs_ok tb_ok rfl mixed Tryz.func46 rfl rfl (Nat.le_of_ble_eq_true rfl) ?_; intro Γ C WK LP fin h0 hW hC hB hR hLP hfin
   (try (conv => whnf)); (repeat ((first | refine qT ?_ | refine qF ?_ | refine qO ?_ | (with_reducible intro z hz); (first | (replace hz := hz (by omega); subst hz) | subst hz) | (refine CallV.mk _ (hC _ _ _ (PCw.of hEd)) (fun js hjs => ?_); subst hjs) | (refine CallV.mk _ (hC _ _ _ (PCw.of hLv)) (fun js hjs => ?_); subst hjs)); (try (conv => whnf))))
   exact hfin _ (ILes.refl _)
 rw [if_neg (by decide)]
 by_cases he : e = 0
 rotate_left
 · rw [if_pos he]
   rw [if_neg he] at hPr
   rw [uv_eq zeroU] at hPr
   rw [hue] at hEd hPr ⊢
   refine PC.of_va (T := tb0) eqs_ok tb_ok rfl mixed Tryz.func46 rfl rfl (Nat.le_of_ble_eq_true rfl) ?_; intro Γ C WK LP fin h0 hW hC hB hR hLP hfin
   (try (conv => whnf)); (repeat ((first | refine qT ?_ | refine qF ?_ | refine qO ?_ | (with_reducible intro z hz); (first | (replace hz := hz (by omega); subst hz) | subst hz) | (refine CallV.mk _ (hC _ _ _ (PCw.of hEd)) (fun js hjs => ?_); subst hjs) | (refine CallV.mk _ (hC _ _ _ (PCw.of hLv)) (fun js hjs => ?_); subst hjs) | (refine CallV.mk _ (hC _ _ _ (PCw.of hPr)) (fun js hjs => ?_); subst hjs)); (try (conv => whnf))))
   exact hfin _ (ILes.refl _)
 rw [if_neg (fun h => h he)]
 rw [if_pos he] at hPr
 subst he
 rw [uv_eq x] at hPr
 cases d
 · rw [if_neg (by decide)]
   rw [hue] at hEd hPr hSi ⊢
   refine PC.of_va (T := tb0) eqs_ok tb_ok rfl mixed Tryz.func46 rfl rfl (Nat.le_of_ble_eq_true rfl) ?_; intro Γ C WK LP fin h0 hW hC hB hR hLP hfin
   (try (conv => whnf)); (repeat ((first | refine qT ?_ | refine qF ?_ | refine qO ?_ | (with_reducible intro z hz); (first | (replace hz := hz (by omega); subst hz) | subst hz) | (refine CallV.mk _ (hC _ _ _ (PCw.of hEd)) (fun js hjs => ?_); subst hjs) | (refine CallV.mk _ (hC _ _ _ (PCw.of hLv)) (fun js hjs => ?_); subst hjs) | (refine CallV.mk _ (hC _ _ _ (PCw.of hPr)) (fun js hjs => ?_); subst hjs) | (refine CallV.mk _ (hC _ _ _ (PCw.of hSi)) (fun js hjs => ?_); subst hjs) | (refine CallV.mk _ (hC _ _ _ (PCw.of hTa)) (fun js hjs => ?_); subst hjs)); (try (conv => whnf))))
   exact hfin _ (ILes.refl _)
 · rw [if_pos rfl]
   rw [hue] at hEd hPr hSi ⊢
   refine PC.of_va (T := tb0) eqs_ok tb_ok rfl mixed Tryz.func46 rfl rfl (Nat.le_of_ble_eq_true rfl) ?_; intro Γ C WK LP fin h0 hW hC hB hR hLP hfin
   (try (conv => whnf)); (repeat ((first | refine qT ?_ | refine qF ?_ | refine qO ?_ | (with_reducible intro z hz); (first | (replace hz := hz (by omega); subst hz) | subst hz) | (refine CallV.mk _ (hC _ _ _ (PCw.of hEd)) (fun js hjs => ?_); subst hjs) | (refine CallV.mk _ (hC _ _ _ (PCw.of hLv)) (fun js hjs => ?_); subst hjs) | (refine CallV.mk _ (hC _ _ _ (PCw.of hPr)) (fun js hjs => ?_); subst hjs) | (refine CallV.mk _ (hC _ _ _ (PCw.of hSi)) (fun js hjs => ?_); subst hjs) | (refine CallV.mk _ (hC _ _ _ (PCw.of hTa)) (fun js hjs => ?_); subst hjs)); (try (conv => whnf))))
   exact hfin _ (ILes.refl _)
def _root_.Go.Proofs.YtmnbobcgjnickaaGreatDoor.Ut.withLabel (u : Ut) (s : Str) : Ut := .mk u.id u.kind s u.head u.words u.kids
theorem uv_lab (u : Ut) (s : Str) : uv (Ut.withLabel u s) = .agg [.int .i64 u.id.x, .int .i64 u.id.y, .int .i64 u.id.z, .int .i64 u.kind, .str s, .sl 4 (u.head.map wdv), .sl 4 (u.words.map wdv), .sl 8 (u.kids.map uv)] := uv_mk _ _ _ _ _ _
theorem relc_pcb (s : Str) (u : Ut) : PCB Tryz.prog env0 48 [.imm (uv u), .ptr 0 1 0] [.box 1 [.imm (.str s)]] [.imm (uv (Ut.withLabel u s))] [.box 1 [.imm (.str s)]] := by
 have hue := uv_eq u
 rw [uv_lab, hue]
 refine PCB.of_va (T := tb0) eqs_ok tb_ok rfl mixed Tryz.func48 rfl rfl rfl (Nat.le_of_ble_eq_true rfl) rfl ?_; intro Γ C WK LP fin h0 hk0 hW hC hB hR hLP hfin
 (try (conv => whnf)); (repeat ((first | refine qT ?_ | refine qF ?_ | refine qO ?_ | (with_reducible intro z hz); (first | (replace hz := hz (by omega); subst hz) | subst hz)); (try (conv => whnf))))
 exact hfin _ (qSL 1 rfl rfl)
theorem edok_same {id : Trip} {f : Ut → Ut} (hf : ∀ y, (f y).kids = y.kids) : ∀ (n : Nat) {u : Ut}, u.count ≤ n → (∀ y ∈ u.all, lens y ∧ lens (f y)) → EdOk id f (fun _ => True) n u
 | 0, u, hn, _ => by have := count_pos u; omega
 | n + 1, u, hn, hl => by
   unfold EdOk
   have hs := hl u (self_all u)
   refine ⟨fun _ => trivial, ?_, fun k hk => ?_⟩
   · by_cases hi : u.id = id
     · rw [if_pos hi]; exact hs.2
     · rw [if_neg hi]; exact hs.1
   · have hk2 : k ∈ u.kids := by
       by_cases hi : u.id = id
       · rw [if_pos hi, hf] at hk; exact hk
       · rw [if_neg hi] at hk; exact hk
     exact edok_same hf n (by have := kid_count hk2; omega) fun y hy => hl y (kid_in hk2 y hy)
theorem put_ok {id : Trip} {f : Ut → Ut} (hk : ∀ y, (f y).kids = y.kids) : ∀ (n : Nat) {u : Ut}, u.count ≤ n → (∀ y ∈ u.all, y.id = id → (f y).id.ok ∧ inI (f y).kind) → okU u → okU (putAt id f u)
 | 0, u, hn, _, _ => by have := count_pos u; omega
 | n + 1, u, hn, hf, h => by
   rw [putAt_eq]
   by_cases hi : u.id = id
   · rw [if_pos hi]
     intro x hx
     rw [Ut.all_eq] at hx
     rcases List.mem_cons.1 hx with rfl | hx
     · exact hf u (self_all u) hi
     · rw [hk] at hx
       exact h x (by rw [Ut.all_eq]; exact List.mem_cons_of_mem _ hx)
   · rw [if_neg hi]
     intro x hx
     rw [Ut.all_eq] at hx
     rcases List.mem_cons.1 hx with rfl | hx
     · exact h u (self_all u)
     · obtain ⟨k, hk1, hx⟩ := mem_alls.1 hx
       have hk2 : k ∈ u.kids.map (putAt id f) := hk1
       obtain ⟨z, hz, rfl⟩ := List.mem_map.1 hk2
       exact put_ok hk n (by have := kid_count hz; omega) (fun y hy => hf y (kid_in hz y hy)) (fun y hy => h y (kid_in hz y hy)) x hx
theorem relabel_pc (u : Ut) (id : Trip) (s : Str) (hok : okU u) (hM : Tame u) (hc : u.count ≤ 10000) (hs : s.size ≤ 1000000) : PC Tryz.prog env0 17 [uv u, idv id, .str s] (if relE u id s = 0 then [uv (putAt id (fun y => Ut.withLabel y s) u), .int .i64 0] else [uv zeroU, .int .i64 (relE u id s)]) := by
 have hEr := relabelError_pc u id s hok hM hc hs
 have hue := uv_eq u
 by_cases h0 : relE u id s = 0
 · rw [if_pos h0]
   rw [h0] at hEr
   have hst : standsB u = true := by
     unfold relE at h0
     rw [edit_stands] at h0
     by_cases h1 : standsB u = false
     · rw [if_pos h1] at h0; cases h0
     · simpa using h1
   have hfr : Fresh1 id (fun y => Ut.withLabel y s) 0 u := fresh_same (stands_nodup hst) fun y => rfl
   have hE := edit_lab id (fun y => Ut.withLabel y s) (fun _ => True) s (fun y _ => relc_pcb s y) u.count u (edok_same (f := fun y => Ut.withLabel y s) (fun y => rfl) u.count (Nat.le_refl _) fun y hy => by
     have h := (lens_of hM hc y hy).1
     refine ⟨h, ?_⟩
     unfold lens at h ⊢
     exact h)
   rw [editN_put u.count (Nat.le_refl _) hfr] at hE
   generalize putAt id (fun y => Ut.withLabel y s) u = v at hE ⊢
   rw [uv_eq v] at hE ⊢
   rw [hue] at hE hEr ⊢
   refine PC.of_va (T := tb0) eqs_ok tb_ok rfl mixed Tryz.func17 rfl rfl (Nat.le_of_ble_eq_true rfl) ?_; intro Γ C WK LP fin h0 hW hC hB hR hLP hfin
   (try (conv => whnf)); (repeat ((first | refine qT ?_ | refine qF ?_ | refine qO ?_ | (with_reducible intro z hz); (first | (replace hz := hz (by omega); subst hz) | subst hz) | (refine CallV.mk _ (hC _ _ _ (PCw.of hEr)) (fun js hjs => ?_); subst hjs)); (try (conv => whnf))))
   refine CallB.mk ([.imm (.agg [.int .i64 v.id.x, .int .i64 v.id.y, .int .i64 v.id.z, .int .i64 v.kind, .str v.label, .sl 4 (v.head.map wdv), .sl 4 (v.words.map wdv), .sl 8 (v.kids.map uv)])]) ([.box 1 [.imm (.str s)]]) (hB _ _ _ _ _ (hE)) ?_
   (try (conv => whnf)); (repeat ((first | refine qT ?_ | refine qF ?_ | refine qO ?_ | (with_reducible intro z hz); (first | (replace hz := hz (by omega); subst hz) | subst hz)); (try (conv => whnf))))
   exact hfin _ (ILes.refl _)
 · rw [if_neg h0]
   generalize relE u id s = e at hEr h0 ⊢
   rw [hue] at hEr ⊢
   refine PC.of_va (T := tb0) eqs_ok tb_ok rfl mixed Tryz.func17 rfl rfl (Nat.le_of_ble_eq_true rfl) ?_; intro Γ C WK LP fin h0 hW hC hB hR hLP hfin
   (try (conv => whnf)); (repeat ((first | refine qT ?_ | refine qF ?_ | refine qO ?_ | (with_reducible intro z hz); (first | (replace hz := hz (by omega); subst hz) | subst hz) | (refine CallV.mk _ (hC _ _ _ (PCw.of hEr)) (fun js hjs => ?_); subst hjs)); (try (conv => whnf))))
   refine hfin _ ?_
   exact .cons zero_le (.refl _)
end Go.Proofs.YtmnbobcgjnickaaGreatDoor.Pt
namespace Go.Proofs.YtmnbobcgjnickaaGreatDoor.Pt
open Go Go.Pv Go.RowKit
set_option linter.unusedSimpArgs false
open Lab Lcs Go.Proofs.YtmnbobcgjnickaaGreatDoor Go.Proofs.YtmnbobcgjnickaaGreatDoor.Pu
set_option maxRecDepth 10000
set_option maxHeartbeats 16000000
theorem lin_root {id : Trip} {u : Ut} (h : u.id = id) : linL id u = [u] := lin_self h
theorem find_root {id : Trip} {u : Ut} (h : u.id = id) : findU id u = u := by unfold findU; rw [lin_root h]
theorem par_root {id : Trip} {u : Ut} (h : u.id = id) : (parV id u).2.2 = false := by unfold parV; rw [lin_root h]; rfl
theorem rel_taken {u : Ut} {id : Trip} {s : Str} (hok : okU u) (hM : Tame u) (hc : u.count ≤ 1024) (hs : standsB u = true) (hm : id ∈ u.ids) : takenB (sibs u id) (findU id u).kind s = (decide ((findU id u).label = s) || ((parV id u).2.2 && takenO (findU (parV id u).1 u).kids (findU id u).kind s id)) := by
 by_cases hi : id = u.id
 · rw [find_root hi.symm, par_root hi.symm]
   unfold sibs takenB
   rw [par_root hi.symm, if_neg (by decide)]
   simp
 · obtain ⟨y, p, j, c⟩ := cut_all u id hok hM hc hs hm hi
   have hnd := stands_nodup hs
   obtain ⟨r, hp⟩ := find_self hnd c.pm
   have hfp : findU p.id u = p := by unfold findU; rw [hp]
   have hyp : y ∈ p.kids := List.mem_of_getElem? c.at'
   have hyu : y ∈ u.all := all_trans u.count u p (Nat.le_refl _) c.pm y (kid_in hyp y (self_all y))
   unfold sibs
   rw [c.find, c.par]
   dsimp only
   rw [if_pos rfl, hfp, Bool.true_and]
   unfold takenB takenO
   rw [Bool.eq_iff_iff, Bool.or_eq_true, List.any_eq_true, List.any_eq_true]
   constructor
   · rintro ⟨z, hz, he⟩
     simp only [Bool.and_eq_true, decide_eq_true_eq] at he
     by_cases e : z.id = id
     · have hzy : z = y := ids_inj hnd (all_trans u.count u p (Nat.le_refl _) c.pm z (kid_in hz z (self_all z))) hyu (by rw [e, c.yid])
       subst hzy
       exact Or.inl (decide_eq_true he.2)
     · exact Or.inr ⟨z, hz, by simp [he.1, he.2, e]⟩
   · rintro (h | ⟨z, hz, he⟩)
     · exact ⟨y, hyp, by simpa using h⟩
     · simp only [Bool.and_eq_true, decide_eq_true_eq] at he
       exact ⟨z, hz, by simp [he.1, he.2.1]⟩
theorem rrel_pc (u : Ut) (id : Trip) (s : Str) (hok : okU u) (hM : Tame u) (hc : u.count ≤ 1024) (hs : s.size ≤ 1000000) : PC Tryz.prog env0 18 [uv u, idv id, .str s] (if relE u id s = 0 then [uv (putAt id (fun y => Ut.withLabel y s) u), .int .i64 0] else [uv zeroU, .int .i64 (relE u id s)]) := by
 have hSt := stands_pc u hok hM (by omega)
 have hMa := lmay_pc s hs
 have hFi := rfind_pc id u.count u (Nat.le_refl _) (by omega)
 have hPa := rparent_pc id u.count u (Nat.le_refl _) (by omega)
 have hF2 := rfind_pc (parV id u).1 u.count u (Nat.le_refl _) (by omega)
 have hkl := find_kids (parV id u).1 u
 have hTa := rtakenO_pc (findU (parV id u).1 u).kids (findU id u).kind s id (by omega)
 have hml : ((findU (parV id u).1 u).kids.map uv).length = (findU (parV id u).1 u).kids.length := List.length_map _
 have hWi := with_pc (Ut.withLabel (findU id u) s) u.count u (Nat.le_refl _) (by omega)
 have hue := uv_eq u
 rw [standsR_eq] at hSt
 rw [found_mem] at hFi
 by_cases h1 : standsB u = false
 · have hE : relE u id s = 1 := by unfold relE; rw [edit_stands, if_pos h1]
   rw [hE, if_neg (by decide)]
   rw [h1] at hSt
   rw [hue] at hSt ⊢
   refine PC.of_va (T := tb0) eqs_ok tb_ok rfl mixed Tryz.func18 rfl rfl (Nat.le_of_ble_eq_true rfl) ?_; intro Γ C WK LP fin h0 hW hC hB hR hLP hfin
   (try (conv => whnf)); (repeat ((first | refine qT ?_ | refine qF ?_ | refine qO ?_ | (with_reducible intro z hz); (first | (replace hz := hz (by omega); subst hz) | subst hz) | (refine CallV.mk _ (hC _ _ _ (PCw.of hSt)) (fun js hjs => ?_); subst hjs)); (try (conv => whnf))))
   refine hfin _ ?_
   exact .cons zero_le (.refl _)
 rw [Bool.not_eq_false] at h1
 rw [h1] at hSt
 by_cases h2 : mayL s.data.toList = false
 · have hE : relE u id s = 1 := by unfold relE; rw [edit_stands, h1, if_neg (by decide), if_pos h2]
   rw [hE, if_neg (by decide)]
   rw [h2] at hMa
   rw [hue] at hSt ⊢
   refine PC.of_va (T := tb0) eqs_ok tb_ok rfl mixed Tryz.func18 rfl rfl (Nat.le_of_ble_eq_true rfl) ?_; intro Γ C WK LP fin h0 hW hC hB hR hLP hfin
   (try (conv => whnf)); (repeat ((first | refine qT ?_ | refine qF ?_ | refine qO ?_ | (with_reducible intro z hz); (first | (replace hz := hz (by omega); subst hz) | subst hz) | (refine CallV.mk _ (hC _ _ _ (PCw.of hSt)) (fun js hjs => ?_); subst hjs) | (refine CallV.mk _ (hC _ _ _ (PCw.of hMa)) (fun js hjs => ?_); subst hjs)); (try (conv => whnf))))
   refine hfin _ ?_
   exact .cons zero_le (.refl _)
 rw [Bool.not_eq_false] at h2
 rw [h2] at hMa
 have hE0 : relE u id s = if proE u id ≠ 0 then proE u id else if takenB (sibs u id) (findU id u).kind s = true then 10 else 0 := by unfold relE; rw [edit_stands, h1, h2, if_neg (by decide), if_neg (by decide)]
 by_cases h3 : id ∈ u.ids
 rotate_left
 · have hP : proE u id = 4 := by unfold proE; rw [if_pos h3]
   rw [hP, if_pos (by decide)] at hE0
   rw [hE0, if_neg (by decide)]
   rw [decide_eq_false h3] at hFi
   generalize findU id u = x at hFi
   rw [uv_eq x] at hFi
   rw [hue] at hSt hFi ⊢
   refine PC.of_va (T := tb0) eqs_ok tb_ok rfl mixed Tryz.func18 rfl rfl (Nat.le_of_ble_eq_true rfl) ?_; intro Γ C WK LP fin h0 hW hC hB hR hLP hfin
   (try (conv => whnf)); (repeat ((first | refine qT ?_ | refine qF ?_ | refine qO ?_ | (with_reducible intro z hz); (first | (replace hz := hz (by omega); subst hz) | subst hz) | (refine CallV.mk _ (hC _ _ _ (PCw.of hSt)) (fun js hjs => ?_); subst hjs) | (refine CallV.mk _ (hC _ _ _ (PCw.of hMa)) (fun js hjs => ?_); subst hjs) | (refine CallV.mk _ (hC _ _ _ (PCw.of hFi)) (fun js hjs => ?_); subst hjs)); (try (conv => whnf))))
   refine hfin _ ?_
   exact .cons zero_le (.refl _)
 rw [decide_eq_true h3] at hFi
 have hP0 : proE u id = if (findU id u).kind = 0 then 9 else 0 := by unfold proE; rw [if_neg (fun e => e h3)]
 have hrt := rel_taken (s := s) hok hM hc h1 h3
 rw [hrt, hP0] at hE0
 clear hP0 hrt
 have hfid : (findU id u).id = id := by
   obtain ⟨x, hx, he⟩ := List.mem_map.1 h3
   obtain ⟨r, hr⟩ := find_self (stands_nodup h1) hx
   rw [he] at hr
   unfold findU
   rw [hr]
   exact he
 have hcg : putAt (Ut.withLabel (findU id u) s).id (fun y => Ut.withKids (Ut.withLabel (findU id u) s) y.kids) u = putAt id (fun y => Ut.withLabel y s) u := by
   have e0 : (Ut.withLabel (findU id u) s).id = (findU id u).id := rfl
   rw [e0, hfid]
   refine putAt_congr u.count (Nat.le_refl _) fun y hy e => ?_
   obtain ⟨r, hr⟩ := find_self (stands_nodup h1) hy
   rw [e] at hr
   have : findU id u = y := by unfold findU; rw [hr]
   rw [this]
   rfl
 rw [hcg] at hWi
 clear hcg
 rw [uv_lab] at hWi
 generalize putAt id (fun y => Ut.withLabel y s) u = v at hWi ⊢
 generalize hxx : findU id u = x at hFi hTa hWi hfid hE0
 clear hxx
 rw [uv_eq x] at hFi
 rw [uv_eq v] at hWi
 generalize relE u id s = e at hE0 ⊢
 by_cases h4 : x.kind = 0
 · rw [if_pos h4, if_pos (by decide)] at hE0
   subst hE0
   rw [if_neg (by decide)]
   rw [hue] at hSt hFi ⊢
   refine PC.of_va (T := tb0) eqs_ok tb_ok rfl mixed Tryz.func18 rfl rfl (Nat.le_of_ble_eq_true rfl) ?_; intro Γ C WK LP fin h0 hW hC hB hR hLP hfin
   (try (conv => whnf)); (repeat ((first | refine qT ?_ | refine qF ?_ | refine qO ?_ | (with_reducible intro z hz); (first | (replace hz := hz (by omega); subst hz) | subst hz) | (refine CallV.mk _ (hC _ _ _ (PCw.of hSt)) (fun js hjs => ?_); subst hjs) | (refine CallV.mk _ (hC _ _ _ (PCw.of hMa)) (fun js hjs => ?_); subst hjs) | (refine CallV.mk _ (hC _ _ _ (PCw.of hFi)) (fun js hjs => ?_); subst hjs)); (try (conv => whnf))))
   refine hfin _ ?_
   exact .cons zero_le (.refl _)
 rw [if_neg h4, if_neg (by decide)] at hE0
 by_cases h5 : x.label = s
 · rw [decide_eq_true h5, Bool.true_or, if_pos rfl] at hE0
   subst hE0
   rw [if_neg (by decide)]
   rw [hue] at hSt hFi ⊢
   refine PC.of_va (T := tb0) eqs_ok tb_ok rfl mixed Tryz.func18 rfl rfl (Nat.le_of_ble_eq_true rfl) ?_; intro Γ C WK LP fin h0 hW hC hB hR hLP hfin
   (try (conv => whnf)); (repeat ((first | refine qT ?_ | refine qF ?_ | refine qO ?_ | (with_reducible intro z hz); (first | (replace hz := hz (by omega); subst hz) | subst hz) | (refine CallV.mk _ (hC _ _ _ (PCw.of hSt)) (fun js hjs => ?_); subst hjs) | (refine CallV.mk _ (hC _ _ _ (PCw.of hMa)) (fun js hjs => ?_); subst hjs) | (refine CallV.mk _ (hC _ _ _ (PCw.of hFi)) (fun js hjs => ?_); subst hjs)); (try (conv => whnf))))
   refine hfin _ ?_
   exact .cons zero_le (.refl _)
 rw [decide_eq_false h5, Bool.false_or] at hE0
 generalize (parV id u).1 = p at hPa hF2 hTa hml hkl hE0
 generalize (parV id u).2.1 = z at hPa
 generalize (parV id u).2.2 = b at hPa hE0
 generalize findU p u = w at hF2 hTa hml hkl hE0
 generalize foundB p u = b2 at hF2
 generalize takenO w.kids x.kind s id = b3 at hTa hE0
 have hpe : idv p = .agg [.int .i64 p.x, .int .i64 p.y, .int .i64 p.z] := rfl
 rw [hpe] at hPa hF2
 rw [uv_eq w] at hF2
 cases b
 · rw [Bool.false_and, if_neg (by decide)] at hE0
   subst hE0
   rw [if_pos rfl, uv_eq v]
   rw [hue] at hSt hFi hPa hWi ⊢
   refine PC.of_va (T := tb0) eqs_ok tb_ok rfl mixed Tryz.func18 rfl rfl (Nat.le_of_ble_eq_true rfl) ?_; intro Γ C WK LP fin h0 hW hC hB hR hLP hfin
   (try (conv => whnf)); (repeat ((first | refine qT ?_ | refine qF ?_ | refine qO ?_ | (with_reducible intro z hz); (first | (replace hz := hz (by omega); subst hz) | subst hz) | (refine CallV.mk _ (hC _ _ _ (PCw.of hSt)) (fun js hjs => ?_); subst hjs) | (refine CallV.mk _ (hC _ _ _ (PCw.of hMa)) (fun js hjs => ?_); subst hjs) | (refine CallV.mk _ (hC _ _ _ (PCw.of hFi)) (fun js hjs => ?_); subst hjs) | (refine CallV.mk _ (hC _ _ _ (PCw.of hPa)) (fun js hjs => ?_); subst hjs) | (refine CallV.mk _ (hC _ _ _ (PCw.of hWi)) (fun js hjs => ?_); subst hjs)); (try (conv => whnf))))
   exact hfin _ (ILes.refl _)
 rw [Bool.true_and] at hE0
 cases b3
 · rw [if_neg (by decide)] at hE0
   subst hE0
   rw [if_pos rfl, uv_eq v]
   rw [hue] at hSt hFi hPa hF2 hWi ⊢
   refine PC.of_va (T := tb0) eqs_ok tb_ok rfl mixed Tryz.func18 rfl rfl (Nat.le_of_ble_eq_true rfl) ?_; intro Γ C WK LP fin h0 hW hC hB hR hLP hfin
   (try (conv => whnf)); (repeat ((first | refine qT ?_ | refine qF ?_ | refine qO ?_ | (with_reducible intro z hz); (first | (replace hz := hz (by omega); subst hz) | subst hz) | (refine CallV.mk _ (hC _ _ _ (PCw.of hSt)) (fun js hjs => ?_); subst hjs) | (refine CallV.mk _ (hC _ _ _ (PCw.of hMa)) (fun js hjs => ?_); subst hjs) | (refine CallV.mk _ (hC _ _ _ (PCw.of hFi)) (fun js hjs => ?_); subst hjs) | (refine CallV.mk _ (hC _ _ _ (PCw.of hPa)) (fun js hjs => ?_); subst hjs) | (refine CallV.mk _ (hC _ _ _ (PCw.of hF2)) (fun js hjs => ?_); subst hjs) | (refine CallV.mk _ (hC _ _ _ (PCw.of hTa)) (fun js hjs => ?_); subst hjs) | (refine CallV.mk _ (hC _ _ _ (PCw.of hWi)) (fun js hjs => ?_); subst hjs)); (try (conv => whnf))))
   exact hfin _ (ILes.refl _)
 · rw [if_pos rfl] at hE0
   subst hE0
   rw [if_neg (by decide)]
   rw [hue] at hSt hFi hPa hF2 ⊢
   refine PC.of_va (T := tb0) eqs_ok tb_ok rfl mixed Tryz.func18 rfl rfl (Nat.le_of_ble_eq_true rfl) ?_; intro Γ C WK LP fin h0 hW hC hB hR hLP hfin
   (try (conv => whnf)); (repeat ((first | refine qT ?_ | refine qF ?_ | refine qO ?_ | (with_reducible intro z hz); (first | (replace hz := hz (by omega); subst hz) | subst hz) | (refine CallV.mk _ (hC _ _ _ (PCw.of hSt)) (fun js hjs => ?_); subst hjs) | (refine CallV.mk _ (hC _ _ _ (PCw.of hMa)) (fun js hjs => ?_); subst hjs) | (refine CallV.mk _ (hC _ _ _ (PCw.of hFi)) (fun js hjs => ?_); subst hjs) | (refine CallV.mk _ (hC _ _ _ (PCw.of hPa)) (fun js hjs => ?_); subst hjs) | (refine CallV.mk _ (hC _ _ _ (PCw.of hF2)) (fun js hjs => ?_); subst hjs) | (refine CallV.mk _ (hC _ _ _ (PCw.of hTa)) (fun js hjs => ?_); subst hjs)); (try (conv => whnf))))
   refine hfin _ ?_
   exact .cons zero_le (.refl _)
theorem relabels_pc (u : Ut) (hok : okU u) (id : Trip) (s : Str) : PC Tryz.prog env0 5 [uv u, idv id, .str s] [.bool true] := by
 have hF := few_pc u 30 hok (by omega) (by omega)
 have hue := uv_eq u
 have hAw := awake8_pc
 by_cases hfew : fewU u 30 = true
 rotate_left
 · rw [Bool.not_eq_true] at hfew
   rw [hfew] at hF
   rw [hue] at hF ⊢
   refine PC.of_va (T := tb0) eqs_ok tb_ok rfl mixed Tryz.func5 rfl rfl (Nat.le_of_ble_eq_true rfl) ?_; intro Γ C WK LP fin h0 hW hC hB hR hLP hfin
   (try (conv => whnf)); (repeat ((first | refine qT ?_ | refine qF ?_ | refine qO ?_ | (with_reducible intro z hz); (first | (replace hz := hz (by omega); subst hz) | subst hz) | (refine CallV.mk _ (hC _ _ _ (PCw.of hF)) (fun js hjs => ?_); subst hjs) | (refine CallV.mk _ (hC _ _ _ (PCw.of hAw)) (fun js hjs => ?_); subst hjs)); (try (conv => whnf))))
   exact hfin _ (ILes.refl _)
 rw [hfew] at hF
 by_cases h60 : s.size ≤ 60
 rotate_left
 · rw [hue] at hF ⊢
   refine PC.of_va (T := tb0) eqs_ok tb_ok rfl mixed Tryz.func5 rfl rfl (Nat.le_of_ble_eq_true rfl) ?_; intro Γ C WK LP fin h0 hW hC hB hR hLP hfin
   (try (conv => whnf)); (repeat ((first | refine qT ?_ | refine qF ?_ | refine qO ?_ | (with_reducible intro z hz); (first | (replace hz := hz (by omega); subst hz) | subst hz) | (refine CallV.mk _ (hC _ _ _ (PCw.of hF)) (fun js hjs => ?_); subst hjs) | (refine CallV.mk _ (hC _ _ _ (PCw.of hAw)) (fun js hjs => ?_); subst hjs)); (try (conv => whnf))))
   exact hfin _ (ILes.refl _)
 obtain ⟨hc, hM, hs⟩ := few30 hfew
 have hRe := relabel_pc u id s hok hM (by omega) (by omega)
 have hRr := rrel_pc u id s hok hM (by omega) (by omega)
 have hvo : okU (putAt id (fun y => Ut.withLabel y s) u) := put_ok (f := fun y => Ut.withLabel y s) (fun y => rfl) u.count (Nat.le_refl _) (fun y hy _ => hok y hy) hok
 obtain ⟨v, e, ho, hv⟩ : ∃ v e, okU v ∧ (if relE u id s = 0 then [uv (putAt id (fun y => Ut.withLabel y s) u), .int .i64 0] else [uv zeroU, .int .i64 (relE u id s)]) = [uv v, .int .i64 e] := by
   by_cases h0 : relE u id s = 0
   · exact ⟨_, _, hvo, by rw [if_pos h0]⟩
   · exact ⟨_, _, zero_ok, by rw [if_neg h0]⟩
 rw [hv] at hRe hRr
 have hS := lsame_pc v v e e ho ho
 rw [decide_eq_true rfl, decide_eq_true rfl] at hS
 rw [uv_eq v] at hRe hRr hS
 rw [hue] at hF hRe hRr ⊢
 refine PC.of_va (T := tb0) eqs_ok tb_ok rfl mixed Tryz.func5 rfl rfl (Nat.le_of_ble_eq_true rfl) ?_; intro Γ C WK LP fin h0 hW hC hB hR hLP hfin
 (try (conv => whnf)); (repeat ((first | refine qT ?_ | refine qF ?_ | refine qO ?_ | (with_reducible intro z hz); (first | (replace hz := hz (by omega); subst hz) | subst hz) | (refine CallV.mk _ (hC _ _ _ (PCw.of hF)) (fun js hjs => ?_); subst hjs) | (refine CallV.mk _ (hC _ _ _ (PCw.of hRe)) (fun js hjs => ?_); subst hjs) | (refine CallV.mk _ (hC _ _ _ (PCw.of hRr)) (fun js hjs => ?_); subst hjs) | (refine CallV.mk _ (hC _ _ _ (PCw.of hS)) (fun js hjs => ?_); subst hjs) | (refine CallV.mk _ (hC _ _ _ (PCw.of hAw)) (fun js hjs => ?_); subst hjs)); (try (conv => whnf))))
 exact hfin _ (ILes.refl _)
end Go.Proofs.YtmnbobcgjnickaaGreatDoor.Pt
namespace Go.Proofs.YtmnbobcgjnickaaGreatDoor.Pt
open Go Go.Pv Go.Proofs.YtmnbobcgjnickaaGreatDoor Go.Proofs.YtmnbobcgjnickaaGreatDoor.Pu Lab Lcs Go.RowKit
theorem relabelsL (u : Ut) (h : Fit u) (t : Trip) (_ht : t.ok) (s : Str) (_hs : s.size ≤ maxLen) : PC Tryz.prog env0 5 [uv u, idv t, .str s] [.bool true] := relabels_pc u h.ok t s
end Go.Proofs.YtmnbobcgjnickaaGreatDoor.Pt
namespace Go.Proofs.YtmnbobcgjnickaaGreatDoor.Pt
open Go Go.Pv Go.RowKit
set_option linter.unusedSimpArgs false
open Lab Lcs Go.Proofs.YtmnbobcgjnickaaGreatDoor Go.Proofs.YtmnbobcgjnickaaGreatDoor.Pu
set_option maxRecDepth 10000
set_option maxHeartbeats 16000000
theorem rword_pc (s : Str) : PC Tryz.prog env0 53 [.str s] [.bool (wordB s)] :=
 lift_bool (enters_of Tryz.func53 rfl rfl) fun Q w vs hQ hR hvs => by
   unfold RepIs at hvs
   obtain ⟨v, r, rfl, h1, h2⟩ := hvs
   unfold RepIs at h2
   unfold RepI at h1
   subst h1
   subst h2
   exact (refword_any s w).mono fun e w' h => ⟨h.1, h.2 ▸ Below.refl _ _⟩
theorem wv1_pc (s : Str) : PC Tryz.prog env0 106 [.sl 1 [.str s]] [.bool (wordB s)] :=
 lift_bool (enters_of Tryz.func106 rfl rfl) fun Q w vs hQ hR hvs => by
   unfold RepIs at hvs
   obtain ⟨v, r, rfl, h1, h2⟩ := hvs
   unfold RepIs at h2
   subst h2
   unfold RepI at h1
   obtain ⟨a, c, rfl, hle, hc, hcells⟩ := h1
   obtain ⟨b, off, rfl, hb, hR2⟩ := hcells (by simp)
   unfold RepR at hR2
   obtain ⟨⟨v, h3, _, h5⟩, _⟩ := hR2
   unfold RepI at h3
   subst h3
   have h6 : w.cell? ⟨b, off, none⟩ = some (.string s) := h5 0 _ rfl
   have hSq : Sq w (some ⟨b, off, none⟩) 1 c [s] := by
     refine ⟨⟨⟨rfl, fun _ => ⟨b, off, rfl, hQ b hb, fun k u hk => ?_⟩⟩, hle, by unfold maxLen at hc; omega, by decide, Nat.le_refl _⟩, fun _ => ⟨b, off, rfl⟩⟩
     match k, hk with
     | 0, hk =>
       have : u = .string s := (Option.some.inj hk).symm
       subst this
       exact h6
   refine (wvalid_any [s] 1 c _ w hSq).mono ?_
   rintro e w' ⟨rfl, rfl⟩
   refine ⟨?_, Below.refl _ _⟩
   unfold mayB
   simp
theorem tq_s_string2 : tdOf Tryz.prog 123 = some ⟨false, 1, [.nil], .slice 9 1 16⟩ := by kernel_rfl
def tdl2 : List (TypeId × TD) := (123, ⟨false, 1, [.nil], .slice 9 1 16⟩) :: tdl
theorem tdl2_ok : AllTd Tryz.prog tdl2 := ⟨tq_s_string2, tdl_ok⟩
def tbs : Tb := ⟨Pv.look tdl2, eqs, fun _ => none, fun _ => [], fun _ => false, nwT⟩
theorem tbs_ok : ∀ t d, tbs.td t = some d → tdOf Tryz.prog t = some d := Pv.look_ok tdl2_ok
theorem tec_pc (a : Wd) : PC Tryz.prog env0 105 [wdv a] [.bool (!wordB a.text)] := by
 have hV := wv1_pc a.text
 have hae : wdv a = .agg [.str a.text, .int .i64 a.mark.x, .int .i64 a.mark.y, .int .i64 a.mark.z] := rfl
 generalize wordB a.text = b at hV ⊢
 rw [hae]
 cases b
 · refine PC.of_va (T := tbs) eqs_ok tbs_ok rfl mixed Tryz.func105 rfl rfl (Nat.le_of_ble_eq_true rfl) ?_; intro Γ C WK LP fin h0 hW hC hB hR hLP hfin
   (try (conv => whnf)); (repeat ((first | refine qT ?_ | refine qF ?_ | refine qO ?_ | (with_reducible intro z hz); (first | (replace hz := hz (by omega); subst hz) | subst hz)); (try (conv => whnf))))
   refine Imms.mk [.str a.text] rfl ?_
   (try (conv => whnf)); (repeat ((first | refine qT ?_ | refine qF ?_ | refine qO ?_ | (with_reducible intro z hz); (first | (replace hz := hz (by omega); subst hz) | subst hz) | (refine CallV.mk _ (hC _ _ _ (PCw.of hV)) (fun js hjs => ?_); subst hjs)); (try (conv => whnf))))
   exact hfin _ (ILes.refl _)
 · refine PC.of_va (T := tbs) eqs_ok tbs_ok rfl mixed Tryz.func105 rfl rfl (Nat.le_of_ble_eq_true rfl) ?_; intro Γ C WK LP fin h0 hW hC hB hR hLP hfin
   (try (conv => whnf)); (repeat ((first | refine qT ?_ | refine qF ?_ | refine qO ?_ | (with_reducible intro z hz); (first | (replace hz := hz (by omega); subst hz) | subst hz)); (try (conv => whnf))))
   refine Imms.mk [.str a.text] rfl ?_
   (try (conv => whnf)); (repeat ((first | refine qT ?_ | refine qF ?_ | refine qO ?_ | (with_reducible intro z hz); (first | (replace hz := hz (by omega); subst hz) | subst hz) | (refine CallV.mk _ (hC _ _ _ (PCw.of hV)) (fun js hjs => ?_); subst hjs)); (try (conv => whnf))))
   exact hfin _ (ILes.refl _)
theorem idx_bad (l : List Wd) (hl : l.length ≤ 100000000) : PC Tryz.prog env0 115 [.sl 4 (l.map wdv), .fn 105] [.int .i64 (idxOf (fun a : Wd => !wordB a.text) l)] := by
 have hml : (l.map wdv).length = l.length := List.length_map _
 refine PC.of_va (T := tb0) eqs_ok tb_ok rfl mixed Tryz.func115 rfl rfl (Nat.le_of_ble_eq_true rfl) ?_; intro Γ C WK LP fin h0 hW hC hB hR hLP hfin
 (try (conv => whnf)); (repeat ((first | refine qT ?_ | refine qF ?_ | refine qO ?_ | (with_reducible intro z hz); (first | (replace hz := hz (by omega); subst hz) | subst hz)); (try (conv => whnf))))
 refine hLP _ _ _ Nat (fun k => ⟨[(0, .imm (.sl 4 (l.map wdv))), (1, .imm (.fn 105)), (7, .imm (.int .i64 (l.length : Nat))), (8, .imm (.int .i64 (k : Nat)))], []⟩) (fun k => k ≤ l.length ∧ ∀ x ∈ l.take k, (fun a : Wd => !wordB a.text) x = false) (fun k => l.length - k) 0 ⟨Nat.zero_le _, by simp⟩ (qSL 0 rfl rfl (hE := by (repeat ((conv => whnf); first | exact trivial | refine And.intro (by first | exact WkOne.any | exact WkOne.eq (by with_reducible rfl) rfl | exact WkOne.eq (congrArg (fun z => PV.imm (IV.int IntKind.i64 z)) (by first | omega | (simp [hml]; done) | (simp [hml]; omega))) rfl | exact WkOne.eq (by first | (simp [hml]; done) | fail) rfl | exact WkOne.eq rfl rfl | exact WkOne.le rfl (ILe.nil _)) ?_)))) ?_
 rintro k ⟨hk, hp⟩
 have hho := Nat.lt_or_ge k l.length
 cases hho with
 | inl hlt =>
   obtain ⟨x, hx⟩ : ∃ x, l[k]? = some x := ⟨l[k], List.getElem?_eq_getElem hlt⟩
   have hI := tec_pc x
   have hxe : wdv x = .agg [.str x.text, .int .i64 x.mark.x, .int .i64 x.mark.y, .int .i64 x.mark.z] := rfl
   have hq : ∃ b, (fun a : Wd => !wordB a.text) x = b := ⟨_, rfl⟩
   obtain ⟨b, hq⟩ := hq
   have hq2 := hq
   dsimp only at hq2
   rw [hq2, hxe] at hI
   cases b
   · (try (conv => whnf)); (repeat ((first | refine qT ?_ | refine qF ?_ | refine qO ?_ | (with_reducible intro z hz); (first | (replace hz := hz (by omega); subst hz) | subst hz)); (try (conv => whnf))))
     refine Idx.mk k (wdv x) _ rfl (by simp [hx]) rfl ?_
     (try (conv => whnf)); (repeat ((first | refine qT ?_ | refine qF ?_ | refine qO ?_ | (with_reducible intro z hz); (first | (replace hz := hz (by omega); subst hz) | subst hz) | (refine CallV.mk _ (hC _ _ _ (PCw.of hI)) (fun js hjs => ?_); subst hjs)); (try (conv => whnf))))
     exact ⟨k + 1, ⟨by omega, fun y hy => by
       rw [take_at hx, List.mem_append] at hy
       rcases hy with hy | hy
       · exact hp y hy
       · rw [List.mem_singleton.1 hy]; exact hq⟩, by dsimp only; omega, (qSL 0 rfl rfl)⟩
   · (try (conv => whnf)); (repeat ((first | refine qT ?_ | refine qF ?_ | refine qO ?_ | (with_reducible intro z hz); (first | (replace hz := hz (by omega); subst hz) | subst hz)); (try (conv => whnf))))
     refine Idx.mk k (wdv x) _ rfl (by simp [hx]) rfl ?_
     (try (conv => whnf)); (repeat ((first | refine qT ?_ | refine qF ?_ | refine qO ?_ | (with_reducible intro z hz); (first | (replace hz := hz (by omega); subst hz) | subst hz) | (refine CallV.mk _ (hC _ _ _ (PCw.of hI)) (fun js hjs => ?_); subst hjs)); (try (conv => whnf))))
     rw [idxOf_hit hx hq hp] at hfin
     exact hfin _ (ILes.refl _)
 | inr hge =>
   obtain rfl : k = l.length := by omega
   rw [List.take_length] at hp
   rw [idxOf_none hp] at hfin
   (try (conv => whnf)); (repeat ((first | refine qT ?_ | refine qF ?_ | refine qO ?_ | (with_reducible intro z hz); (first | (replace hz := hz (by omega); subst hz) | subst hz)); (try (conv => whnf))))
   exact hfin _ (ILes.refl _)
theorem anybad_pc (l : List Wd) (hl : l.length ≤ 100000000) : PC Tryz.prog env0 104 [.sl 4 (l.map wdv), .fn 105] [.bool (l.any fun a => !wordB a.text)] := by
 have hI := idx_bad l hl
 unfold idxOf at hI
 generalize (l.findIdx (fun a : Wd => !wordB a.text)) = j at hI
 generalize l.any (fun a : Wd => !wordB a.text) = b at hI ⊢
 cases b
 · rw [if_neg (by decide)] at hI
   refine PC.of_va (T := tb0) eqs_ok tb_ok rfl mixed Tryz.func104 rfl rfl (Nat.le_of_ble_eq_true rfl) ?_; intro Γ C WK LP fin h0 hW hC hB hR hLP hfin
   (try (conv => whnf)); (repeat ((first | refine qT ?_ | refine qF ?_ | refine qO ?_ | (with_reducible intro z hz); (first | (replace hz := hz (by omega); subst hz) | subst hz) | (refine CallV.mk _ (hC _ _ _ (PCw.of hI)) (fun js hjs => ?_); subst hjs)); (try (conv => whnf))))
   exact hfin _ (ILes.refl _)
 · rw [if_pos rfl] at hI
   refine PC.of_va (T := tb0) eqs_ok tb_ok rfl mixed Tryz.func104 rfl rfl (Nat.le_of_ble_eq_true rfl) ?_; intro Γ C WK LP fin h0 hW hC hB hR hLP hfin
   (try (conv => whnf)); (repeat ((first | refine qT ?_ | refine qF ?_ | refine qO ?_ | (with_reducible intro z hz); (first | (replace hz := hz (by omega); subst hz) | subst hz) | (refine CallV.mk _ (hC _ _ _ (PCw.of hI)) (fun js hjs => ?_); subst hjs)); (try (conv => whnf))))
   exact hfin _ (ILes.refl _)
end Go.Proofs.YtmnbobcgjnickaaGreatDoor.Pt
namespace Go.Proofs.YtmnbobcgjnickaaGreatDoor.Pt
open Go Go.Pv Go.RowKit
set_option linter.unusedSimpArgs false
open Lab Lcs Go.Proofs.YtmnbobcgjnickaaGreatDoor Go.Proofs.YtmnbobcgjnickaaGreatDoor.Pu
set_option maxRecDepth 10000
set_option maxHeartbeats 16000000
theorem edit_wds (id : Trip) (f : Ut → Ut) (D : Ut → Prop) (l : List Wd) (hf : ∀ y, D y → PCB Tryz.prog env0 52 (.imm (uv y) :: [.ptr 0 1 0]) [.box 1 [.imm (.sl 4 (l.map wdv))]] [.imm (uv (f y))] [.box 1 [.imm (.sl 4 (l.map wdv))]]) (n : Nat) : ∀ u : Ut, EdOk id f D n u → PCB Tryz.prog env0 47 [.imm (uv u), .imm (idv id), .clo 52 [.ptr 0 1 0]] [.box 1 [.imm (.sl 4 (l.map wdv))]] [.imm (uv (editN id f n u))] [.box 1 [.imm (.sl 4 (l.map wdv))]] := by
 induction n with
 | zero => intro u h; exact h.elim
 | succ n ih =>
 intro u hok
 obtain ⟨hD, hsz, hks⟩ := hok
 rw [editN, uv_with]
 have hue := uv_eq u
 by_cases h : u.id = id
 · have hi := id_eq h
   have hF := hf u (hD h)
   rw [if_pos h] at hsz hks ⊢
   generalize f u = v at hsz hks hF ⊢
   obtain ⟨hz1, hz2, hz3⟩ := hsz
   rw [hue, uv_eq v] at hF
   have hml : (v.kids.map uv).length = v.kids.length := List.length_map _
   have hl1 : (v.head.map wdv).length = v.head.length := List.length_map _
   have hl2 : (v.words.map wdv).length = v.words.length := List.length_map _
   have hA := (cloneW_pcr (X := env0) (v.head.map wdv) (by omega)).pc
   have hB' := (cloneW_pcr (X := env0) (v.words.map wdv) (by omega)).pc
   have hK' := cloneU_pcr (X := env0) (v.kids.map uv) (by omega)
   rw [hue]
   refine PCB.of_va (T := tb0) eqs_ok tb_ok rfl mixed Tryz.func47 rfl rfl rfl (Nat.le_of_ble_eq_true rfl) rfl ?_; intro Γ C WK LP fin h0 hk0 hW hC hB hR hLP hfin
   (try (conv => whnf)); (repeat ((first | refine qT ?_ | refine qF ?_ | refine qO ?_ | (with_reducible intro z hz); (first | (replace hz := hz (by omega); subst hz) | subst hz)); (try (conv => whnf))))
   refine CallB.mk ([.imm (.agg [.int .i64 v.id.x, .int .i64 v.id.y, .int .i64 v.id.z, .int .i64 v.kind, .str v.label, .sl 4 (v.head.map wdv), .sl 4 (v.words.map wdv), .sl 8 (v.kids.map uv)])]) ([.box 1 [.imm (.sl 4 (l.map wdv))]]) (hB _ _ _ _ _ (hF)) ?_
   (try (conv => whnf)); (repeat ((first | refine qT ?_ | refine qF ?_ | refine qO ?_ | (with_reducible intro z hz); (first | (replace hz := hz (by omega); subst hz) | subst hz) | (refine CallV.mk _ (hC _ _ _ (PCw.of hA)) (fun js hjs => ?_); subst hjs) | (refine CallV.mk _ (hC _ _ _ (PCw.of hB')) (fun js hjs => ?_); subst hjs)); (try (conv => whnf))))
   refine CallV.row _ _ _ (hR _ _ _ _ _ (PCRw.of (hK'))) (fun js hjs => ?_); subst hjs
   (try (conv => whnf)); (repeat ((first | refine qT ?_ | refine qF ?_ | refine qO ?_ | (with_reducible intro z hz); (first | (replace hz := hz (by omega); subst hz) | subst hz)); (try (conv => whnf))))
   refine hLP _ _ _ Nat (fun k => ⟨[(2, .clo 52 [.ptr 0 1 0]), (3, .ptr 1 1 0), (4, .ptr 2 1 0), (6, .ptr 3 1 0), (29, .row 7 1), (30, .imm (.int .i64 (v.kids.length : Nat))), (31, .imm (.int .i64 (k : Nat)))], [.box 1 [.imm (.sl 4 (l.map wdv))], .box 1 [.imm (.int .i64 v.id.x), .imm (.int .i64 v.id.y), .imm (.int .i64 v.id.z), .imm (.int .i64 v.kind), .imm (.str v.label), .imm (.sl 4 (v.head.map wdv)), .imm (.sl 4 (v.words.map wdv)), .row 7 1], .box 1 [.imm (.int .i64 id.x), .imm (.int .i64 id.y), .imm (.int .i64 id.z)], .box 1 [.imm (.int .i64 0), .imm (.int .i64 0), .imm (.int .i64 0), .imm (.int .i64 0), .imm (.str ⟨#[]⟩), .imm .nil, .imm .nil, .imm .nil], .dead 0, .dead 0, .dead 0, .row 27 8 1 ((((v.kids.take k).map (editN id f n) ++ v.kids.drop k).map uv).map PV.imm)]⟩) (fun k => k ≤ v.kids.length) (fun k => v.kids.length - k) 0 (Nat.zero_le _) (((WeakA.row 7 ((((v.kids.take 0).map (editN id f n) ++ v.kids.drop 0).map uv).map .imm) rfl (by simp))).trans ((qSL 8 rfl rfl (hE := by (repeat ((conv => whnf); first | exact trivial | refine And.intro (by first | exact WkOne.any | exact WkOne.eq (by with_reducible rfl) rfl | exact WkOne.eq (congrArg (fun z => PV.imm (IV.int IntKind.i64 z)) (by first | omega | (simp [hml, List.length_map]; done) | (simp [hml, List.length_map]; omega))) rfl | exact WkOne.eq (by first | (simp [hml, List.length_map]; done) | fail) rfl | exact WkOne.eq rfl rfl | exact WkOne.le rfl (ILe.nil _)) ?_)))))) ?_
   intro k hk
   have hho := Nat.lt_or_ge k v.kids.length
   cases hho with
   | inl hlt =>
     obtain ⟨x, hx⟩ : ∃ x, v.kids[k]? = some x := ⟨v.kids[k], List.getElem?_eq_getElem hlt⟩
     have hux := uv_eq x
     have hI := ih x (hks x (List.mem_of_getElem? hx))
     have hRl : (((((v.kids.take k).map (editN id f n) ++ v.kids.drop k).map uv).map PV.imm)).length = v.kids.length := by simp; omega
     rw [hux] at hI
     generalize hy : editN id f n x = y at hI
     rw [uv_eq y] at hI
     have hat : (((v.kids.take k).map (editN id f n) ++ v.kids.drop k).map uv)[k]? = some (uv x) := by
       rw [List.getElem?_map, List.getElem?_append_right (by simp; omega)]
       simp [hx, Nat.min_eq_left (Nat.le_of_lt hlt)]
     (try (conv => whnf)); (repeat ((first | refine qT ?_ | refine qF ?_ | refine qO ?_ | (with_reducible intro z hz); (first | (replace hz := hz (by omega); subst hz) | subst hz)); (try (conv => whnf))))
     refine Pos.mk k rfl (by omega) ?_
     (try (conv => whnf)); (repeat ((first | refine qT ?_ | refine qF ?_ | refine qO ?_ | (with_reducible intro z hz); (first | (replace hz := hz (by omega); subst hz) | subst hz)); (try (conv => whnf))))
     refine At.mk (.imm (uv x)) (by rw [List.getElem?_map, hat]; rfl) ?_
     rw [hux]
     (try (conv => whnf)); (repeat ((first | refine qT ?_ | refine qF ?_ | refine qO ?_ | (with_reducible intro z hz); (first | (replace hz := hz (by omega); subst hz) | subst hz)); (try (conv => whnf))))
     refine CallB.mk ([.imm (.agg [.int .i64 y.id.x, .int .i64 y.id.y, .int .i64 y.id.z, .int .i64 y.kind, .str y.label, .sl 4 (y.head.map wdv), .sl 4 (y.words.map wdv), .sl 8 (y.kids.map uv)])]) ([.box 1 [.imm (.sl 4 (l.map wdv))]]) (hB _ _ _ _ _ (hI)) ?_
     (try (conv => whnf)); (repeat ((first | refine qT ?_ | refine qF ?_ | refine qO ?_ | (with_reducible intro z hz); (first | (replace hz := hz (by omega); subst hz) | subst hz)); (try (conv => whnf))))
     refine Pos.mk k rfl (by omega) ?_
     (try (conv => whnf)); (repeat ((first | refine qT ?_ | refine qF ?_ | refine qO ?_ | (with_reducible intro z hz); (first | (replace hz := hz (by omega); subst hz) | subst hz)); (try (conv => whnf))))
     refine At.mk (.imm (uv x)) (by rw [List.getElem?_map, hat]; rfl) ?_
     rw [hux]
     (try (conv => whnf)); (repeat ((first | refine qT ?_ | refine qF ?_ | refine qO ?_ | (with_reducible intro z hz); (first | (replace hz := hz (by omega); subst hz) | subst hz)); (try (conv => whnf))))
     exact ⟨k + 1, by omega, by dsimp only; omega, ((WeakA.row 7 ((((v.kids.take (k + 1)).map (editN id f n) ++ v.kids.drop (k + 1)).map uv).map .imm) rfl (by rw [← set_step hx, hy, uv_eq y]; rfl))).trans (qSL 8 rfl rfl)⟩
   | inr hge =>
     (try (conv => whnf)); (repeat ((first | refine qT ?_ | refine qF ?_ | refine qO ?_ | (with_reducible intro z hz); (first | (replace hz := hz (by omega); subst hz) | subst hz)); (try (conv => whnf))))
     obtain rfl : k = v.kids.length := by omega
     exact hfin _ ((WeakA.frz 7 ((v.kids.map (editN id f n)).map uv) rfl (by rw [List.take_length, List.drop_length, List.append_nil]) (ILe.refl _)).trans (qSL 1 rfl rfl))
 · have hi := id_ne h
   rw [if_neg h] at hsz hks ⊢
   obtain ⟨hz1, hz2, hz3⟩ := hsz
   have hml : (u.kids.map uv).length = u.kids.length := List.length_map _
   have hl1 : (u.head.map wdv).length = u.head.length := List.length_map _
   have hl2 : (u.words.map wdv).length = u.words.length := List.length_map _
   have hA := (cloneW_pcr (X := env0) (u.head.map wdv) (by omega)).pc
   have hB' := (cloneW_pcr (X := env0) (u.words.map wdv) (by omega)).pc
   have hK' := cloneU_pcr (X := env0) (u.kids.map uv) (by omega)
   rw [hue]
   refine PCB.of_va (T := tb0) eqs_ok tb_ok rfl mixed Tryz.func47 rfl rfl rfl (Nat.le_of_ble_eq_true rfl) rfl ?_; intro Γ C WK LP fin h0 hk0 hW hC hB hR hLP hfin
   (try (conv => whnf)); (repeat ((first | refine qT ?_ | refine qF ?_ | refine qO ?_ | (with_reducible intro z hz); (first | (replace hz := hz (by omega); subst hz) | subst hz) | (refine CallV.mk _ (hC _ _ _ (PCw.of hA)) (fun js hjs => ?_); subst hjs) | (refine CallV.mk _ (hC _ _ _ (PCw.of hB')) (fun js hjs => ?_); subst hjs)); (try (conv => whnf))))
   refine CallV.row _ _ _ (hR _ _ _ _ _ (PCRw.of (hK'))) (fun js hjs => ?_); subst hjs
   (try (conv => whnf)); (repeat ((first | refine qT ?_ | refine qF ?_ | refine qO ?_ | (with_reducible intro z hz); (first | (replace hz := hz (by omega); subst hz) | subst hz)); (try (conv => whnf))))
   refine hLP _ _ _ Nat (fun k => ⟨[(2, .clo 52 [.ptr 0 1 0]), (3, .ptr 1 1 0), (4, .ptr 2 1 0), (6, .ptr 3 1 0), (29, .row 6 1), (30, .imm (.int .i64 (u.kids.length : Nat))), (31, .imm (.int .i64 (k : Nat)))], [.box 1 [.imm (.sl 4 (l.map wdv))], .box 1 [.imm (.int .i64 u.id.x), .imm (.int .i64 u.id.y), .imm (.int .i64 u.id.z), .imm (.int .i64 u.kind), .imm (.str u.label), .imm (.sl 4 (u.head.map wdv)), .imm (.sl 4 (u.words.map wdv)), .row 6 1], .box 1 [.imm (.int .i64 id.x), .imm (.int .i64 id.y), .imm (.int .i64 id.z)], .box 1 [.imm (.int .i64 0), .imm (.int .i64 0), .imm (.int .i64 0), .imm (.int .i64 0), .imm (.str ⟨#[]⟩), .imm .nil, .imm .nil, .imm .nil], .dead 0, .dead 0, .row 27 8 1 ((((u.kids.take k).map (editN id f n) ++ u.kids.drop k).map uv).map PV.imm)]⟩) (fun k => k ≤ u.kids.length) (fun k => u.kids.length - k) 0 (Nat.zero_le _) (((WeakA.row 6 ((((u.kids.take 0).map (editN id f n) ++ u.kids.drop 0).map uv).map .imm) rfl (by simp))).trans ((qSL 7 rfl rfl (hE := by (repeat ((conv => whnf); first | exact trivial | refine And.intro (by first | exact WkOne.any | exact WkOne.eq (by with_reducible rfl) rfl | exact WkOne.eq (congrArg (fun z => PV.imm (IV.int IntKind.i64 z)) (by first | omega | (simp [hml, List.length_map]; done) | (simp [hml, List.length_map]; omega))) rfl | exact WkOne.eq (by first | (simp [hml, List.length_map]; done) | fail) rfl | exact WkOne.eq rfl rfl | exact WkOne.le rfl (ILe.nil _)) ?_)))))) ?_
   intro k hk
   have hho := Nat.lt_or_ge k u.kids.length
   cases hho with
   | inl hlt =>
     obtain ⟨x, hx⟩ : ∃ x, u.kids[k]? = some x := ⟨u.kids[k], List.getElem?_eq_getElem hlt⟩
     have hux := uv_eq x
     have hI := ih x (hks x (List.mem_of_getElem? hx))
     have hRl : (((((u.kids.take k).map (editN id f n) ++ u.kids.drop k).map uv).map PV.imm)).length = u.kids.length := by simp; omega
     rw [hux] at hI
     generalize hy : editN id f n x = y at hI
     rw [uv_eq y] at hI
     have hat : (((u.kids.take k).map (editN id f n) ++ u.kids.drop k).map uv)[k]? = some (uv x) := by
       rw [List.getElem?_map, List.getElem?_append_right (by simp; omega)]
       simp [hx, Nat.min_eq_left (Nat.le_of_lt hlt)]
     (try (conv => whnf)); (repeat ((first | refine qT ?_ | refine qF ?_ | refine qO ?_ | (with_reducible intro z hz); (first | (replace hz := hz (by omega); subst hz) | subst hz)); (try (conv => whnf))))
     refine Pos.mk k rfl (by omega) ?_
     (try (conv => whnf)); (repeat ((first | refine qT ?_ | refine qF ?_ | refine qO ?_ | (with_reducible intro z hz); (first | (replace hz := hz (by omega); subst hz) | subst hz)); (try (conv => whnf))))
     refine At.mk (.imm (uv x)) (by rw [List.getElem?_map, hat]; rfl) ?_
     rw [hux]
     (try (conv => whnf)); (repeat ((first | refine qT ?_ | refine qF ?_ | refine qO ?_ | (with_reducible intro z hz); (first | (replace hz := hz (by omega); subst hz) | subst hz)); (try (conv => whnf))))
     refine CallB.mk ([.imm (.agg [.int .i64 y.id.x, .int .i64 y.id.y, .int .i64 y.id.z, .int .i64 y.kind, .str y.label, .sl 4 (y.head.map wdv), .sl 4 (y.words.map wdv), .sl 8 (y.kids.map uv)])]) ([.box 1 [.imm (.sl 4 (l.map wdv))]]) (hB _ _ _ _ _ (hI)) ?_
     (try (conv => whnf)); (repeat ((first | refine qT ?_ | refine qF ?_ | refine qO ?_ | (with_reducible intro z hz); (first | (replace hz := hz (by omega); subst hz) | subst hz)); (try (conv => whnf))))
     refine Pos.mk k rfl (by omega) ?_
     (try (conv => whnf)); (repeat ((first | refine qT ?_ | refine qF ?_ | refine qO ?_ | (with_reducible intro z hz); (first | (replace hz := hz (by omega); subst hz) | subst hz)); (try (conv => whnf))))
     refine At.mk (.imm (uv x)) (by rw [List.getElem?_map, hat]; rfl) ?_
     rw [hux]
     (try (conv => whnf)); (repeat ((first | refine qT ?_ | refine qF ?_ | refine qO ?_ | (with_reducible intro z hz); (first | (replace hz := hz (by omega); subst hz) | subst hz)); (try (conv => whnf))))
     exact ⟨k + 1, by omega, by dsimp only; omega, ((WeakA.row 6 ((((u.kids.take (k + 1)).map (editN id f n) ++ u.kids.drop (k + 1)).map uv).map .imm) rfl (by rw [← set_step hx, hy, uv_eq y]; rfl))).trans (qSL 7 rfl rfl)⟩
   | inr hge =>
     (try (conv => whnf)); (repeat ((first | refine qT ?_ | refine qF ?_ | refine qO ?_ | (with_reducible intro z hz); (first | (replace hz := hz (by omega); subst hz) | subst hz)); (try (conv => whnf))))
     obtain rfl : k = u.kids.length := by omega
     exact hfin _ ((WeakA.frz 6 ((u.kids.map (editN id f n)).map uv) rfl (by rw [List.take_length, List.drop_length, List.append_nil]) (ILe.refl _)).trans (qSL 1 rfl rfl))
end Go.Proofs.YtmnbobcgjnickaaGreatDoor.Pt
namespace Go.Proofs.YtmnbobcgjnickaaGreatDoor.Pt
open Go Go.Pv Go.RowKit
set_option linter.unusedSimpArgs false
open Lab Lcs Go.Proofs.YtmnbobcgjnickaaGreatDoor Go.Proofs.YtmnbobcgjnickaaGreatDoor.Pu
set_option maxRecDepth 10000
set_option maxHeartbeats 16000000
theorem edit_hd (id : Trip) (f : Ut → Ut) (D : Ut → Prop) (l : List Wd) (hf : ∀ y, D y → PCB Tryz.prog env0 54 (.imm (uv y) :: [.ptr 0 1 0]) [.box 1 [.imm (.sl 4 (l.map wdv))]] [.imm (uv (f y))] [.box 1 [.imm (.sl 4 (l.map wdv))]]) (n : Nat) : ∀ u : Ut, EdOk id f D n u → PCB Tryz.prog env0 47 [.imm (uv u), .imm (idv id), .clo 54 [.ptr 0 1 0]] [.box 1 [.imm (.sl 4 (l.map wdv))]] [.imm (uv (editN id f n u))] [.box 1 [.imm (.sl 4 (l.map wdv))]] := by
 induction n with
 | zero => intro u h; exact h.elim
 | succ n ih =>
 intro u hok
 obtain ⟨hD, hsz, hks⟩ := hok
 rw [editN, uv_with]
 have hue := uv_eq u
 by_cases h : u.id = id
 · have hi := id_eq h
   have hF := hf u (hD h)
   rw [if_pos h] at hsz hks ⊢
   generalize f u = v at hsz hks hF ⊢
   obtain ⟨hz1, hz2, hz3⟩ := hsz
   rw [hue, uv_eq v] at hF
   have hml : (v.kids.map uv).length = v.kids.length := List.length_map _
   have hl1 : (v.head.map wdv).length = v.head.length := List.length_map _
   have hl2 : (v.words.map wdv).length = v.words.length := List.length_map _
   have hA := (cloneW_pcr (X := env0) (v.head.map wdv) (by omega)).pc
   have hB' := (cloneW_pcr (X := env0) (v.words.map wdv) (by omega)).pc
   have hK' := cloneU_pcr (X := env0) (v.kids.map uv) (by omega)
   rw [hue]
   refine PCB.of_va (T := tb0) eqs_ok tb_ok rfl mixed Tryz.func47 rfl rfl rfl (Nat.le_of_ble_eq_true rfl) rfl ?_; intro Γ C WK LP fin h0 hk0 hW hC hB hR hLP hfin
   (try (conv => whnf)); (repeat ((first | refine qT ?_ | refine qF ?_ | refine qO ?_ | (with_reducible intro z hz); (first | (replace hz := hz (by omega); subst hz) | subst hz)); (try (conv => whnf))))
   refine CallB.mk ([.imm (.agg [.int .i64 v.id.x, .int .i64 v.id.y, .int .i64 v.id.z, .int .i64 v.kind, .str v.label, .sl 4 (v.head.map wdv), .sl 4 (v.words.map wdv), .sl 8 (v.kids.map uv)])]) ([.box 1 [.imm (.sl 4 (l.map wdv))]]) (hB _ _ _ _ _ (hF)) ?_
   (try (conv => whnf)); (repeat ((first | refine qT ?_ | refine qF ?_ | refine qO ?_ | (with_reducible intro z hz); (first | (replace hz := hz (by omega); subst hz) | subst hz) | (refine CallV.mk _ (hC _ _ _ (PCw.of hA)) (fun js hjs => ?_); subst hjs) | (refine CallV.mk _ (hC _ _ _ (PCw.of hB')) (fun js hjs => ?_); subst hjs)); (try (conv => whnf))))
   refine CallV.row _ _ _ (hR _ _ _ _ _ (PCRw.of (hK'))) (fun js hjs => ?_); subst hjs
   (try (conv => whnf)); (repeat ((first | refine qT ?_ | refine qF ?_ | refine qO ?_ | (with_reducible intro z hz); (first | (replace hz := hz (by omega); subst hz) | subst hz)); (try (conv => whnf))))
   refine hLP _ _ _ Nat (fun k => ⟨[(2, .clo 54 [.ptr 0 1 0]), (3, .ptr 1 1 0), (4, .ptr 2 1 0), (6, .ptr 3 1 0), (29, .row 7 1), (30, .imm (.int .i64 (v.kids.length : Nat))), (31, .imm (.int .i64 (k : Nat)))], [.box 1 [.imm (.sl 4 (l.map wdv))], .box 1 [.imm (.int .i64 v.id.x), .imm (.int .i64 v.id.y), .imm (.int .i64 v.id.z), .imm (.int .i64 v.kind), .imm (.str v.label), .imm (.sl 4 (v.head.map wdv)), .imm (.sl 4 (v.words.map wdv)), .row 7 1], .box 1 [.imm (.int .i64 id.x), .imm (.int .i64 id.y), .imm (.int .i64 id.z)], .box 1 [.imm (.int .i64 0), .imm (.int .i64 0), .imm (.int .i64 0), .imm (.int .i64 0), .imm (.str ⟨#[]⟩), .imm .nil, .imm .nil, .imm .nil], .dead 0, .dead 0, .dead 0, .row 27 8 1 ((((v.kids.take k).map (editN id f n) ++ v.kids.drop k).map uv).map PV.imm)]⟩) (fun k => k ≤ v.kids.length) (fun k => v.kids.length - k) 0 (Nat.zero_le _) (((WeakA.row 7 ((((v.kids.take 0).map (editN id f n) ++ v.kids.drop 0).map uv).map .imm) rfl (by simp))).trans ((qSL 8 rfl rfl (hE := by (repeat ((conv => whnf); first | exact trivial | refine And.intro (by first | exact WkOne.any | exact WkOne.eq (by with_reducible rfl) rfl | exact WkOne.eq (congrArg (fun z => PV.imm (IV.int IntKind.i64 z)) (by first | omega | (simp [hml, List.length_map]; done) | (simp [hml, List.length_map]; omega))) rfl | exact WkOne.eq (by first | (simp [hml, List.length_map]; done) | fail) rfl | exact WkOne.eq rfl rfl | exact WkOne.le rfl (ILe.nil _)) ?_)))))) ?_
   intro k hk
   have hho := Nat.lt_or_ge k v.kids.length
   cases hho with
   | inl hlt =>
     obtain ⟨x, hx⟩ : ∃ x, v.kids[k]? = some x := ⟨v.kids[k], List.getElem?_eq_getElem hlt⟩
     have hux := uv_eq x
     have hI := ih x (hks x (List.mem_of_getElem? hx))
     have hRl : (((((v.kids.take k).map (editN id f n) ++ v.kids.drop k).map uv).map PV.imm)).length = v.kids.length := by simp; omega
     rw [hux] at hI
     generalize hy : editN id f n x = y at hI
     rw [uv_eq y] at hI
     have hat : (((v.kids.take k).map (editN id f n) ++ v.kids.drop k).map uv)[k]? = some (uv x) := by
       rw [List.getElem?_map, List.getElem?_append_right (by simp; omega)]
       simp [hx, Nat.min_eq_left (Nat.le_of_lt hlt)]
     (try (conv => whnf)); (repeat ((first | refine qT ?_ | refine qF ?_ | refine qO ?_ | (with_reducible intro z hz); (first | (replace hz := hz (by omega); subst hz) | subst hz)); (try (conv => whnf))))
     refine Pos.mk k rfl (by omega) ?_
     (try (conv => whnf)); (repeat ((first | refine qT ?_ | refine qF ?_ | refine qO ?_ | (with_reducible intro z hz); (first | (replace hz := hz (by omega); subst hz) | subst hz)); (try (conv => whnf))))
     refine At.mk (.imm (uv x)) (by rw [List.getElem?_map, hat]; rfl) ?_
     rw [hux]
     (try (conv => whnf)); (repeat ((first | refine qT ?_ | refine qF ?_ | refine qO ?_ | (with_reducible intro z hz); (first | (replace hz := hz (by omega); subst hz) | subst hz)); (try (conv => whnf))))
     refine CallB.mk ([.imm (.agg [.int .i64 y.id.x, .int .i64 y.id.y, .int .i64 y.id.z, .int .i64 y.kind, .str y.label, .sl 4 (y.head.map wdv), .sl 4 (y.words.map wdv), .sl 8 (y.kids.map uv)])]) ([.box 1 [.imm (.sl 4 (l.map wdv))]]) (hB _ _ _ _ _ (hI)) ?_
     (try (conv => whnf)); (repeat ((first | refine qT ?_ | refine qF ?_ | refine qO ?_ | (with_reducible intro z hz); (first | (replace hz := hz (by omega); subst hz) | subst hz)); (try (conv => whnf))))
     refine Pos.mk k rfl (by omega) ?_
     (try (conv => whnf)); (repeat ((first | refine qT ?_ | refine qF ?_ | refine qO ?_ | (with_reducible intro z hz); (first | (replace hz := hz (by omega); subst hz) | subst hz)); (try (conv => whnf))))
     refine At.mk (.imm (uv x)) (by rw [List.getElem?_map, hat]; rfl) ?_
     rw [hux]
     (try (conv => whnf)); (repeat ((first | refine qT ?_ | refine qF ?_ | refine qO ?_ | (with_reducible intro z hz); (first | (replace hz := hz (by omega); subst hz) | subst hz)); (try (conv => whnf))))
     exact ⟨k + 1, by omega, by dsimp only; omega, ((WeakA.row 7 ((((v.kids.take (k + 1)).map (editN id f n) ++ v.kids.drop (k + 1)).map uv).map .imm) rfl (by rw [← set_step hx, hy, uv_eq y]; rfl))).trans (qSL 8 rfl rfl)⟩
   | inr hge =>
     (try (conv => whnf)); (repeat ((first | refine qT ?_ | refine qF ?_ | refine qO ?_ | (with_reducible intro z hz); (first | (replace hz := hz (by omega); subst hz) | subst hz)); (try (conv => whnf))))
     obtain rfl : k = v.kids.length := by omega
     exact hfin _ ((WeakA.frz 7 ((v.kids.map (editN id f n)).map uv) rfl (by rw [List.take_length, List.drop_length, List.append_nil]) (ILe.refl _)).trans (qSL 1 rfl rfl))
 · have hi := id_ne h
   rw [if_neg h] at hsz hks ⊢
   obtain ⟨hz1, hz2, hz3⟩ := hsz
   have hml : (u.kids.map uv).length = u.kids.length := List.length_map _
   have hl1 : (u.head.map wdv).length = u.head.length := List.length_map _
   have hl2 : (u.words.map wdv).length = u.words.length := List.length_map _
   have hA := (cloneW_pcr (X := env0) (u.head.map wdv) (by omega)).pc
   have hB' := (cloneW_pcr (X := env0) (u.words.map wdv) (by omega)).pc
   have hK' := cloneU_pcr (X := env0) (u.kids.map uv) (by omega)
   rw [hue]
   refine PCB.of_va (T := tb0) eqs_ok tb_ok rfl mixed Tryz.func47 rfl rfl rfl (Nat.le_of_ble_eq_true rfl) rfl ?_; intro Γ C WK LP fin h0 hk0 hW hC hB hR hLP hfin
   (try (conv => whnf)); (repeat ((first | refine qT ?_ | refine qF ?_ | refine qO ?_ | (with_reducible intro z hz); (first | (replace hz := hz (by omega); subst hz) | subst hz) | (refine CallV.mk _ (hC _ _ _ (PCw.of hA)) (fun js hjs => ?_); subst hjs) | (refine CallV.mk _ (hC _ _ _ (PCw.of hB')) (fun js hjs => ?_); subst hjs)); (try (conv => whnf))))
   refine CallV.row _ _ _ (hR _ _ _ _ _ (PCRw.of (hK'))) (fun js hjs => ?_); subst hjs
   (try (conv => whnf)); (repeat ((first | refine qT ?_ | refine qF ?_ | refine qO ?_ | (with_reducible intro z hz); (first | (replace hz := hz (by omega); subst hz) | subst hz)); (try (conv => whnf))))
   refine hLP _ _ _ Nat (fun k => ⟨[(2, .clo 54 [.ptr 0 1 0]), (3, .ptr 1 1 0), (4, .ptr 2 1 0), (6, .ptr 3 1 0), (29, .row 6 1), (30, .imm (.int .i64 (u.kids.length : Nat))), (31, .imm (.int .i64 (k : Nat)))], [.box 1 [.imm (.sl 4 (l.map wdv))], .box 1 [.imm (.int .i64 u.id.x), .imm (.int .i64 u.id.y), .imm (.int .i64 u.id.z), .imm (.int .i64 u.kind), .imm (.str u.label), .imm (.sl 4 (u.head.map wdv)), .imm (.sl 4 (u.words.map wdv)), .row 6 1], .box 1 [.imm (.int .i64 id.x), .imm (.int .i64 id.y), .imm (.int .i64 id.z)], .box 1 [.imm (.int .i64 0), .imm (.int .i64 0), .imm (.int .i64 0), .imm (.int .i64 0), .imm (.str ⟨#[]⟩), .imm .nil, .imm .nil, .imm .nil], .dead 0, .dead 0, .row 27 8 1 ((((u.kids.take k).map (editN id f n) ++ u.kids.drop k).map uv).map PV.imm)]⟩) (fun k => k ≤ u.kids.length) (fun k => u.kids.length - k) 0 (Nat.zero_le _) (((WeakA.row 6 ((((u.kids.take 0).map (editN id f n) ++ u.kids.drop 0).map uv).map .imm) rfl (by simp))).trans ((qSL 7 rfl rfl (hE := by (repeat ((conv => whnf); first | exact trivial | refine And.intro (by first | exact WkOne.any | exact WkOne.eq (by with_reducible rfl) rfl | exact WkOne.eq (congrArg (fun z => PV.imm (IV.int IntKind.i64 z)) (by first | omega | (simp [hml, List.length_map]; done) | (simp [hml, List.length_map]; omega))) rfl | exact WkOne.eq (by first | (simp [hml, List.length_map]; done) | fail) rfl | exact WkOne.eq rfl rfl | exact WkOne.le rfl (ILe.nil _)) ?_)))))) ?_
   intro k hk
   have hho := Nat.lt_or_ge k u.kids.length
   cases hho with
   | inl hlt =>
     obtain ⟨x, hx⟩ : ∃ x, u.kids[k]? = some x := ⟨u.kids[k], List.getElem?_eq_getElem hlt⟩
     have hux := uv_eq x
     have hI := ih x (hks x (List.mem_of_getElem? hx))
     have hRl : (((((u.kids.take k).map (editN id f n) ++ u.kids.drop k).map uv).map PV.imm)).length = u.kids.length := by simp; omega
     rw [hux] at hI
     generalize hy : editN id f n x = y at hI
     rw [uv_eq y] at hI
     have hat : (((u.kids.take k).map (editN id f n) ++ u.kids.drop k).map uv)[k]? = some (uv x) := by
       rw [List.getElem?_map, List.getElem?_append_right (by simp; omega)]
       simp [hx, Nat.min_eq_left (Nat.le_of_lt hlt)]
     (try (conv => whnf)); (repeat ((first | refine qT ?_ | refine qF ?_ | refine qO ?_ | (with_reducible intro z hz); (first | (replace hz := hz (by omega); subst hz) | subst hz)); (try (conv => whnf))))
     refine Pos.mk k rfl (by omega) ?_
     (try (conv => whnf)); (repeat ((first | refine qT ?_ | refine qF ?_ | refine qO ?_ | (with_reducible intro z hz); (first | (replace hz := hz (by omega); subst hz) | subst hz)); (try (conv => whnf))))
     refine At.mk (.imm (uv x)) (by rw [List.getElem?_map, hat]; rfl) ?_
     rw [hux]
     (try (conv => whnf)); (repeat ((first | refine qT ?_ | refine qF ?_ | refine qO ?_ | (with_reducible intro z hz); (first | (replace hz := hz (by omega); subst hz) | subst hz)); (try (conv => whnf))))
     refine CallB.mk ([.imm (.agg [.int .i64 y.id.x, .int .i64 y.id.y, .int .i64 y.id.z, .int .i64 y.kind, .str y.label, .sl 4 (y.head.map wdv), .sl 4 (y.words.map wdv), .sl 8 (y.kids.map uv)])]) ([.box 1 [.imm (.sl 4 (l.map wdv))]]) (hB _ _ _ _ _ (hI)) ?_
     (try (conv => whnf)); (repeat ((first | refine qT ?_ | refine qF ?_ | refine qO ?_ | (with_reducible intro z hz); (first | (replace hz := hz (by omega); subst hz) | subst hz)); (try (conv => whnf))))
     refine Pos.mk k rfl (by omega) ?_
     (try (conv => whnf)); (repeat ((first | refine qT ?_ | refine qF ?_ | refine qO ?_ | (with_reducible intro z hz); (first | (replace hz := hz (by omega); subst hz) | subst hz)); (try (conv => whnf))))
     refine At.mk (.imm (uv x)) (by rw [List.getElem?_map, hat]; rfl) ?_
     rw [hux]
     (try (conv => whnf)); (repeat ((first | refine qT ?_ | refine qF ?_ | refine qO ?_ | (with_reducible intro z hz); (first | (replace hz := hz (by omega); subst hz) | subst hz)); (try (conv => whnf))))
     exact ⟨k + 1, by omega, by dsimp only; omega, ((WeakA.row 6 ((((u.kids.take (k + 1)).map (editN id f n) ++ u.kids.drop (k + 1)).map uv).map .imm) rfl (by rw [← set_step hx, hy, uv_eq y]; rfl))).trans (qSL 7 rfl rfl)⟩
   | inr hge =>
     (try (conv => whnf)); (repeat ((first | refine qT ?_ | refine qF ?_ | refine qO ?_ | (with_reducible intro z hz); (first | (replace hz := hz (by omega); subst hz) | subst hz)); (try (conv => whnf))))
     obtain rfl : k = u.kids.length := by omega
     exact hfin _ ((WeakA.frz 6 ((u.kids.map (editN id f n)).map uv) rfl (by rw [List.take_length, List.drop_length, List.append_nil]) (ILe.refl _)).trans (qSL 1 rfl rfl))
end Go.Proofs.YtmnbobcgjnickaaGreatDoor.Pt
namespace Go.Proofs.YtmnbobcgjnickaaGreatDoor.Pt
open Go Go.Pv Go.RowKit
set_option linter.unusedSimpArgs false
open Lab Lcs Go.Proofs.YtmnbobcgjnickaaGreatDoor Go.Proofs.YtmnbobcgjnickaaGreatDoor.Pu
set_option maxRecDepth 10000
set_option maxHeartbeats 16000000
def wrE (u : Ut) (id : Trip) (l : List Wd) : Int := if editB u = false then 1 else if (l.any fun a => !wordB a.text) = true then 1 else if proE u id ≠ 0 then proE u id else if 256 < l.length then 6 else 0
theorem textError_pc (u : Ut) (id : Trip) (l : List Wd) (hok : okU u) (hM : Tame u) (hc : u.count ≤ 10000) (hl : l.length ≤ 1000000) : PC Tryz.prog env0 83 [uv u, idv id, .sl 4 (l.map wdv)] [.int .i64 (wrE u id l)] := by
 have hEd := editable_pc u hok hM (by omega)
 have hAn := anybad_pc l (by omega)
 have hPr := pro_pc u id (by omega) (small_tame hM)
 have hml : (l.map wdv).length = l.length := List.length_map _
 have hue := uv_eq u
 rw [edit_stands] at hEd
 unfold wrE
 rw [edit_stands]
 generalize standsB u = b at hEd ⊢
 generalize (l.any fun a => !wordB a.text) = c at hAn ⊢
 generalize proU u id = x at hPr
 generalize proE u id = e at hPr ⊢
 rw [uv_eq x] at hPr
 cases b
 · rw [if_pos rfl]
   rw [hue] at hEd ⊢
   refine PC.of_va (T := tb0) eqs_ok tb_ok rfl mixed Tryz.func83 rfl rfl (Nat.le_of_ble_eq_true rfl) ?_; intro Γ C WK LP fin h0 hW hC hB hR hLP hfin
   (try (conv => whnf)); (repeat ((first | refine qT ?_ | refine qF ?_ | refine qO ?_ | (with_reducible intro z hz); (first | (replace hz := hz (by omega); subst hz) | subst hz) | (refine CallV.mk _ (hC _ _ _ (PCw.of hEd)) (fun js hjs => ?_); subst hjs)); (try (conv => whnf))))
   exact hfin _ (ILes.refl _)
 rw [if_neg (by decide)]
 cases c
 rotate_left
 · rw [if_pos rfl]
   rw [hue] at hEd ⊢
   refine PC.of_va (T := tb0) eqs_ok tb_ok rfl mixed Tryz.func83 rfl rfl (Nat.le_of_ble_eq_true rfl) ?_; intro Γ C WK LP fin h0 hW hC hB hR hLP hfin
   (try (conv => whnf)); (repeat ((first | refine qT ?_ | refine qF ?_ | refine qO ?_ | (with_reducible intro z hz); (first | (replace hz := hz (by omega); subst hz) | subst hz) | (refine CallV.mk _ (hC _ _ _ (PCw.of hEd)) (fun js hjs => ?_); subst hjs) | (refine CallV.mk _ (hC _ _ _ (PCw.of hAn)) (fun js hjs => ?_); subst hjs)); (try (conv => whnf))))
   exact hfin _ (ILes.refl _)
 rw [if_neg (by decide)]
 by_cases he : e = 0
 rotate_left
 · rw [if_pos he]
   rw [hue] at hEd hPr ⊢
   refine PC.of_va (T := tb0) eqs_ok tb_ok rfl mixed Tryz.func83 rfl rfl (Nat.le_of_ble_eq_true rfl) ?_; intro Γ C WK LP fin h0 hW hC hB hR hLP hfin
   (try (conv => whnf)); (repeat ((first | refine qT ?_ | refine qF ?_ | refine qO ?_ | (with_reducible intro z hz); (first | (replace hz := hz (by omega); subst hz) | subst hz) | (refine CallV.mk _ (hC _ _ _ (PCw.of hEd)) (fun js hjs => ?_); subst hjs) | (refine CallV.mk _ (hC _ _ _ (PCw.of hAn)) (fun js hjs => ?_); subst hjs) | (refine CallV.mk _ (hC _ _ _ (PCw.of hPr)) (fun js hjs => ?_); subst hjs)); (try (conv => whnf))))
   exact hfin _ (ILes.refl _)
 rw [if_neg (fun h => h he)]
 subst he
 by_cases hl2 : 256 < l.length
 · rw [if_pos hl2]
   rw [hue] at hEd hPr ⊢
   refine PC.of_va (T := tb0) eqs_ok tb_ok rfl mixed Tryz.func83 rfl rfl (Nat.le_of_ble_eq_true rfl) ?_; intro Γ C WK LP fin h0 hW hC hB hR hLP hfin
   (try (conv => whnf)); (repeat ((first | refine qT ?_ | refine qF ?_ | refine qO ?_ | (with_reducible intro z hz); (first | (replace hz := hz (by omega); subst hz) | subst hz) | (refine CallV.mk _ (hC _ _ _ (PCw.of hEd)) (fun js hjs => ?_); subst hjs) | (refine CallV.mk _ (hC _ _ _ (PCw.of hAn)) (fun js hjs => ?_); subst hjs) | (refine CallV.mk _ (hC _ _ _ (PCw.of hPr)) (fun js hjs => ?_); subst hjs)); (try (conv => whnf))))
   exact hfin _ (ILes.refl _)
 · rw [if_neg hl2]
   rw [hue] at hEd hPr ⊢
   refine PC.of_va (T := tb0) eqs_ok tb_ok rfl mixed Tryz.func83 rfl rfl (Nat.le_of_ble_eq_true rfl) ?_; intro Γ C WK LP fin h0 hW hC hB hR hLP hfin
   (try (conv => whnf)); (repeat ((first | refine qT ?_ | refine qF ?_ | refine qO ?_ | (with_reducible intro z hz); (first | (replace hz := hz (by omega); subst hz) | subst hz) | (refine CallV.mk _ (hC _ _ _ (PCw.of hEd)) (fun js hjs => ?_); subst hjs) | (refine CallV.mk _ (hC _ _ _ (PCw.of hAn)) (fun js hjs => ?_); subst hjs) | (refine CallV.mk _ (hC _ _ _ (PCw.of hPr)) (fun js hjs => ?_); subst hjs)); (try (conv => whnf))))
   exact hfin _ (ILes.refl _)
def _root_.Go.Proofs.YtmnbobcgjnickaaGreatDoor.Ut.withWords (u : Ut) (l : List Wd) : Ut := .mk u.id u.kind u.label u.head l u.kids
def _root_.Go.Proofs.YtmnbobcgjnickaaGreatDoor.Ut.withHead (u : Ut) (l : List Wd) : Ut := .mk u.id u.kind u.label l u.words u.kids
theorem uv_wds (u : Ut) (l : List Wd) : uv (Ut.withWords u l) = .agg [.int .i64 u.id.x, .int .i64 u.id.y, .int .i64 u.id.z, .int .i64 u.kind, .str u.label, .sl 4 (u.head.map wdv), .sl 4 (l.map wdv), .sl 8 (u.kids.map uv)] := uv_mk _ _ _ _ _ _
theorem wdsc_pcb (l : List Wd) (u : Ut) : PCB Tryz.prog env0 52 [.imm (uv u), .ptr 0 1 0] [.box 1 [.imm (.sl 4 (l.map wdv))]] [.imm (uv (Ut.withWords u l))] [.box 1 [.imm (.sl 4 (l.map wdv))]] := by
 have hue := uv_eq u
 rw [uv_wds, hue]
 refine PCB.of_va (T := tb0) eqs_ok tb_ok rfl mixed Tryz.func52 rfl rfl rfl (Nat.le_of_ble_eq_true rfl) rfl ?_; intro Γ C WK LP fin h0 hk0 hW hC hB hR hLP hfin
 (try (conv => whnf)); (repeat ((first | refine qT ?_ | refine qF ?_ | refine qO ?_ | (with_reducible intro z hz); (first | (replace hz := hz (by omega); subst hz) | subst hz)); (try (conv => whnf))))
 exact hfin _ (qSL 1 rfl rfl)
theorem wds_pc (u : Ut) (id : Trip) (l : List Wd) (hok : okU u) (hM : Tame u) (hc : u.count ≤ 10000) (hl : l.length ≤ 1000000) : PC Tryz.prog env0 19 [uv u, idv id, .sl 4 (l.map wdv)] (if wrE u id l = 0 then [uv (putAt id (fun y => Ut.withWords y l) u), .int .i64 0] else [uv zeroU, .int .i64 (wrE u id l)]) := by
 have hEr := textError_pc u id l hok hM hc hl
 have hue := uv_eq u
 by_cases h0 : wrE u id l = 0
 · rw [if_pos h0]
   rw [h0] at hEr
   have hst : standsB u = true := by
     unfold wrE at h0
     rw [edit_stands] at h0
     by_cases h1 : standsB u = false
     · rw [if_pos h1] at h0; cases h0
     · simpa using h1
   have hfr : Fresh1 id (fun y => Ut.withWords y l) 0 u := fresh_same (stands_nodup hst) fun y => rfl
   have hE := edit_wds id (fun y => Ut.withWords y l) (fun _ => True) l (fun y _ => wdsc_pcb l y) u.count u (edok_same (f := fun y => Ut.withWords y l) (fun y => rfl) u.count (Nat.le_refl _) fun y hy => by
     have hy2 := (lens_of hM hc y hy).1
     refine ⟨hy2, ?_⟩
     unfold lens at hy2 ⊢
     first | exact ⟨hy2.1, hl, hy2.2.2⟩ | exact ⟨hl, hy2.2.1, hy2.2.2⟩)
   rw [editN_put u.count (Nat.le_refl _) hfr] at hE
   have hSt : PCB Tryz.prog env0 51 [.imm (uv u), .imm (idv id), .imm (.sl 4 (l.map wdv)), .clo 52 [.ptr 0 1 0]] [.box 1 [.imm (.sl 4 (l.map wdv))]] [.imm (uv (putAt id (fun y => Ut.withWords y l) u)), .imm (.int .i64 0)] [.box 1 [.imm (.sl 4 (l.map wdv))]] := by
     generalize putAt id (fun y => Ut.withWords y l) u = v at hE ⊢
     rw [uv_eq v] at hE ⊢
     rw [hue] at hE hEr ⊢
     refine PCB.of_va (T := tb0) eqs_ok tb_ok rfl mixed Tryz.func51 rfl rfl rfl (Nat.le_of_ble_eq_true rfl) rfl ?_; intro Γ C WK LP fin h0 hk0 hW hC hB hR hLP hfin
     (try (conv => whnf)); (repeat ((first | refine qT ?_ | refine qF ?_ | refine qO ?_ | (with_reducible intro z hz); (first | (replace hz := hz (by omega); subst hz) | subst hz) | (refine CallV.mk _ (hC _ _ _ (PCw.of hEr)) (fun js hjs => ?_); subst hjs)); (try (conv => whnf))))
     refine CallB.mk ([.imm (.agg [.int .i64 v.id.x, .int .i64 v.id.y, .int .i64 v.id.z, .int .i64 v.kind, .str v.label, .sl 4 (v.head.map wdv), .sl 4 (v.words.map wdv), .sl 8 (v.kids.map uv)])]) ([.box 1 [.imm (.sl 4 (l.map wdv))]]) (hB _ _ _ _ _ (hE)) ?_
     (try (conv => whnf)); (repeat ((first | refine qT ?_ | refine qF ?_ | refine qO ?_ | (with_reducible intro z hz); (first | (replace hz := hz (by omega); subst hz) | subst hz)); (try (conv => whnf))))
     exact hfin _ (qSL 1 rfl rfl)
   generalize putAt id (fun y => Ut.withWords y l) u = v at hSt ⊢
   rw [uv_eq v] at hSt ⊢
   rw [hue] at hSt ⊢
   refine PC.of_va (T := tb0) eqs_ok tb_ok rfl mixed Tryz.func19 rfl rfl (Nat.le_of_ble_eq_true rfl) ?_; intro Γ C WK LP fin h0 hW hC hB hR hLP hfin
   (try (conv => whnf)); (repeat ((first | refine qT ?_ | refine qF ?_ | refine qO ?_ | (with_reducible intro z hz); (first | (replace hz := hz (by omega); subst hz) | subst hz)); (try (conv => whnf))))
   refine CallB.mk ([.imm (.agg [.int .i64 v.id.x, .int .i64 v.id.y, .int .i64 v.id.z, .int .i64 v.kind, .str v.label, .sl 4 (v.head.map wdv), .sl 4 (v.words.map wdv), .sl 8 (v.kids.map uv)]), .imm (.int .i64 0)]) ([.box 1 [.imm (.sl 4 (l.map wdv))]]) (hB _ _ _ _ _ (hSt)) ?_
   (try (conv => whnf)); (repeat ((first | refine qT ?_ | refine qF ?_ | refine qO ?_ | (with_reducible intro z hz); (first | (replace hz := hz (by omega); subst hz) | subst hz)); (try (conv => whnf))))
   exact hfin _ (ILes.refl _)
 · rw [if_neg h0]
   generalize wrE u id l = e at hEr h0 ⊢
   have hSt : PCB Tryz.prog env0 51 [.imm (uv u), .imm (idv id), .imm (.sl 4 (l.map wdv)), .clo 52 [.ptr 0 1 0]] [.box 1 [.imm (.sl 4 (l.map wdv))]] [.imm (.agg [.int .i64 0, .int .i64 0, .int .i64 0, .int .i64 0, .str ⟨#[]⟩, .nil, .nil, .nil]), .imm (.int .i64 e)] [.box 1 [.imm (.sl 4 (l.map wdv))]] := by
     rw [hue] at hEr ⊢
     refine PCB.of_va (T := tb0) eqs_ok tb_ok rfl mixed Tryz.func51 rfl rfl rfl (Nat.le_of_ble_eq_true rfl) rfl ?_; intro Γ C WK LP fin h0 hk0 hW hC hB hR hLP hfin
     (try (conv => whnf)); (repeat ((first | refine qT ?_ | refine qF ?_ | refine qO ?_ | (with_reducible intro z hz); (first | (replace hz := hz (by omega); subst hz) | subst hz) | (refine CallV.mk _ (hC _ _ _ (PCw.of hEr)) (fun js hjs => ?_); subst hjs)); (try (conv => whnf))))
     exact hfin _ (qSL 1 rfl rfl)
   rw [hue] at hSt ⊢
   refine PC.of_va (T := tb0) eqs_ok tb_ok rfl mixed Tryz.func19 rfl rfl (Nat.le_of_ble_eq_true rfl) ?_; intro Γ C WK LP fin h0 hW hC hB hR hLP hfin
   (try (conv => whnf)); (repeat ((first | refine qT ?_ | refine qF ?_ | refine qO ?_ | (with_reducible intro z hz); (first | (replace hz := hz (by omega); subst hz) | subst hz)); (try (conv => whnf))))
   refine CallB.mk ([.imm (.agg [.int .i64 0, .int .i64 0, .int .i64 0, .int .i64 0, .str ⟨#[]⟩, .nil, .nil, .nil]), .imm (.int .i64 e)]) ([.box 1 [.imm (.sl 4 (l.map wdv))]]) (hB _ _ _ _ _ (hSt)) ?_
   (try (conv => whnf)); (repeat ((first | refine qT ?_ | refine qF ?_ | refine qO ?_ | (with_reducible intro z hz); (first | (replace hz := hz (by omega); subst hz) | subst hz)); (try (conv => whnf))))
   refine hfin _ ?_
   exact .cons zero_le (.refl _)
theorem uv_hd (u : Ut) (l : List Wd) : uv (Ut.withHead u l) = .agg [.int .i64 u.id.x, .int .i64 u.id.y, .int .i64 u.id.z, .int .i64 u.kind, .str u.label, .sl 4 (l.map wdv), .sl 4 (u.words.map wdv), .sl 8 (u.kids.map uv)] := uv_mk _ _ _ _ _ _
theorem hdc_pcb (l : List Wd) (u : Ut) : PCB Tryz.prog env0 54 [.imm (uv u), .ptr 0 1 0] [.box 1 [.imm (.sl 4 (l.map wdv))]] [.imm (uv (Ut.withHead u l))] [.box 1 [.imm (.sl 4 (l.map wdv))]] := by
 have hue := uv_eq u
 rw [uv_hd, hue]
 refine PCB.of_va (T := tb0) eqs_ok tb_ok rfl mixed Tryz.func54 rfl rfl rfl (Nat.le_of_ble_eq_true rfl) rfl ?_; intro Γ C WK LP fin h0 hk0 hW hC hB hR hLP hfin
 (try (conv => whnf)); (repeat ((first | refine qT ?_ | refine qF ?_ | refine qO ?_ | (with_reducible intro z hz); (first | (replace hz := hz (by omega); subst hz) | subst hz)); (try (conv => whnf))))
 exact hfin _ (qSL 1 rfl rfl)
theorem hd_pc (u : Ut) (id : Trip) (l : List Wd) (hok : okU u) (hM : Tame u) (hc : u.count ≤ 10000) (hl : l.length ≤ 1000000) : PC Tryz.prog env0 21 [uv u, idv id, .sl 4 (l.map wdv)] (if wrE u id l = 0 then [uv (putAt id (fun y => Ut.withHead y l) u), .int .i64 0] else [uv zeroU, .int .i64 (wrE u id l)]) := by
 have hEr := textError_pc u id l hok hM hc hl
 have hue := uv_eq u
 by_cases h0 : wrE u id l = 0
 · rw [if_pos h0]
   rw [h0] at hEr
   have hst : standsB u = true := by
     unfold wrE at h0
     rw [edit_stands] at h0
     by_cases h1 : standsB u = false
     · rw [if_pos h1] at h0; cases h0
     · simpa using h1
   have hfr : Fresh1 id (fun y => Ut.withHead y l) 0 u := fresh_same (stands_nodup hst) fun y => rfl
   have hE := edit_hd id (fun y => Ut.withHead y l) (fun _ => True) l (fun y _ => hdc_pcb l y) u.count u (edok_same (f := fun y => Ut.withHead y l) (fun y => rfl) u.count (Nat.le_refl _) fun y hy => by
     have hy2 := (lens_of hM hc y hy).1
     refine ⟨hy2, ?_⟩
     unfold lens at hy2 ⊢
     first | exact ⟨hy2.1, hl, hy2.2.2⟩ | exact ⟨hl, hy2.2.1, hy2.2.2⟩)
   rw [editN_put u.count (Nat.le_refl _) hfr] at hE
   have hSt : PCB Tryz.prog env0 51 [.imm (uv u), .imm (idv id), .imm (.sl 4 (l.map wdv)), .clo 54 [.ptr 0 1 0]] [.box 1 [.imm (.sl 4 (l.map wdv))]] [.imm (uv (putAt id (fun y => Ut.withHead y l) u)), .imm (.int .i64 0)] [.box 1 [.imm (.sl 4 (l.map wdv))]] := by
     generalize putAt id (fun y => Ut.withHead y l) u = v at hE ⊢
     rw [uv_eq v] at hE ⊢
     rw [hue] at hE hEr ⊢
     refine PCB.of_va (T := tb0) eqs_ok tb_ok rfl mixed Tryz.func51 rfl rfl rfl (Nat.le_of_ble_eq_true rfl) rfl ?_; intro Γ C WK LP fin h0 hk0 hW hC hB hR hLP hfin
     (try (conv => whnf)); (repeat ((first | refine qT ?_ | refine qF ?_ | refine qO ?_ | (with_reducible intro z hz); (first | (replace hz := hz (by omega); subst hz) | subst hz) | (refine CallV.mk _ (hC _ _ _ (PCw.of hEr)) (fun js hjs => ?_); subst hjs)); (try (conv => whnf))))
     refine CallB.mk ([.imm (.agg [.int .i64 v.id.x, .int .i64 v.id.y, .int .i64 v.id.z, .int .i64 v.kind, .str v.label, .sl 4 (v.head.map wdv), .sl 4 (v.words.map wdv), .sl 8 (v.kids.map uv)])]) ([.box 1 [.imm (.sl 4 (l.map wdv))]]) (hB _ _ _ _ _ (hE)) ?_
     (try (conv => whnf)); (repeat ((first | refine qT ?_ | refine qF ?_ | refine qO ?_ | (with_reducible intro z hz); (first | (replace hz := hz (by omega); subst hz) | subst hz)); (try (conv => whnf))))
     exact hfin _ (qSL 1 rfl rfl)
   generalize putAt id (fun y => Ut.withHead y l) u = v at hSt ⊢
   rw [uv_eq v] at hSt ⊢
   rw [hue] at hSt ⊢
   refine PC.of_va (T := tb0) eqs_ok tb_ok rfl mixed Tryz.func21 rfl rfl (Nat.le_of_ble_eq_true rfl) ?_; intro Γ C WK LP fin h0 hW hC hB hR hLP hfin
   (try (conv => whnf)); (repeat ((first | refine qT ?_ | refine qF ?_ | refine qO ?_ | (with_reducible intro z hz); (first | (replace hz := hz (by omega); subst hz) | subst hz)); (try (conv => whnf))))
   refine CallB.mk ([.imm (.agg [.int .i64 v.id.x, .int .i64 v.id.y, .int .i64 v.id.z, .int .i64 v.kind, .str v.label, .sl 4 (v.head.map wdv), .sl 4 (v.words.map wdv), .sl 8 (v.kids.map uv)]), .imm (.int .i64 0)]) ([.box 1 [.imm (.sl 4 (l.map wdv))]]) (hB _ _ _ _ _ (hSt)) ?_
   (try (conv => whnf)); (repeat ((first | refine qT ?_ | refine qF ?_ | refine qO ?_ | (with_reducible intro z hz); (first | (replace hz := hz (by omega); subst hz) | subst hz)); (try (conv => whnf))))
   exact hfin _ (ILes.refl _)
 · rw [if_neg h0]
   generalize wrE u id l = e at hEr h0 ⊢
   have hSt : PCB Tryz.prog env0 51 [.imm (uv u), .imm (idv id), .imm (.sl 4 (l.map wdv)), .clo 54 [.ptr 0 1 0]] [.box 1 [.imm (.sl 4 (l.map wdv))]] [.imm (.agg [.int .i64 0, .int .i64 0, .int .i64 0, .int .i64 0, .str ⟨#[]⟩, .nil, .nil, .nil]), .imm (.int .i64 e)] [.box 1 [.imm (.sl 4 (l.map wdv))]] := by
     rw [hue] at hEr ⊢
     refine PCB.of_va (T := tb0) eqs_ok tb_ok rfl mixed Tryz.func51 rfl rfl rfl (Nat.le_of_ble_eq_true rfl) rfl ?_; intro Γ C WK LP fin h0 hk0 hW hC hB hR hLP hfin
     (try (conv => whnf)); (repeat ((first | refine qT ?_ | refine qF ?_ | refine qO ?_ | (with_reducible intro z hz); (first | (replace hz := hz (by omega); subst hz) | subst hz) | (refine CallV.mk _ (hC _ _ _ (PCw.of hEr)) (fun js hjs => ?_); subst hjs)); (try (conv => whnf))))
     exact hfin _ (qSL 1 rfl rfl)
   rw [hue] at hSt ⊢
   refine PC.of_va (T := tb0) eqs_ok tb_ok rfl mixed Tryz.func21 rfl rfl (Nat.le_of_ble_eq_true rfl) ?_; intro Γ C WK LP fin h0 hW hC hB hR hLP hfin
   (try (conv => whnf)); (repeat ((first | refine qT ?_ | refine qF ?_ | refine qO ?_ | (with_reducible intro z hz); (first | (replace hz := hz (by omega); subst hz) | subst hz)); (try (conv => whnf))))
   refine CallB.mk ([.imm (.agg [.int .i64 0, .int .i64 0, .int .i64 0, .int .i64 0, .str ⟨#[]⟩, .nil, .nil, .nil]), .imm (.int .i64 e)]) ([.box 1 [.imm (.sl 4 (l.map wdv))]]) (hB _ _ _ _ _ (hSt)) ?_
   (try (conv => whnf)); (repeat ((first | refine qT ?_ | refine qF ?_ | refine qO ?_ | (with_reducible intro z hz); (first | (replace hz := hz (by omega); subst hz) | subst hz)); (try (conv => whnf))))
   refine hfin _ ?_
   exact .cons zero_le (.refl _)
end Go.Proofs.YtmnbobcgjnickaaGreatDoor.Pt
namespace Go.Proofs.YtmnbobcgjnickaaGreatDoor.Pt
open Go Go.Pv Go.RowKit
set_option linter.unusedSimpArgs false
open Lab Lcs Go.Proofs.YtmnbobcgjnickaaGreatDoor Go.Proofs.YtmnbobcgjnickaaGreatDoor.Pu
set_option maxRecDepth 10000
set_option maxHeartbeats 16000000
theorem rwr_wds (u : Ut) (id : Trip) (l : List Wd) (hok : okU u) (hM : Tame u) (hc : u.count ≤ 1024) (hl : l.length ≤ 1000000) : PC Tryz.prog env0 20 [uv u, idv id, .sl 4 (l.map wdv), .bool false] (if wrE u id l = 0 then [uv (putAt id (fun y => Ut.withWords y l) u), .int .i64 0] else [uv zeroU, .int .i64 (wrE u id l)]) := by
 have hSt := stands_pc u hok hM (by omega)
 have hFi := rfind_pc id u.count u (Nat.le_refl _) (by omega)
 have hml : (l.map wdv).length = l.length := List.length_map _
 have hue := uv_eq u
 rw [standsR_eq] at hSt
 rw [found_mem] at hFi
 by_cases h1 : standsB u = false
 · have hE : wrE u id l = 1 := by unfold wrE; rw [edit_stands, if_pos h1]
   rw [hE, if_neg (by decide)]
   rw [h1] at hSt
   rw [hue] at hSt ⊢
   refine PC.of_va (T := tb0) eqs_ok tb_ok rfl mixed Tryz.func20 rfl rfl (Nat.le_of_ble_eq_true rfl) ?_; intro Γ C WK LP fin h0 hW hC hB hR hLP hfin
   (try (conv => whnf)); (repeat ((first | refine qT ?_ | refine qF ?_ | refine qO ?_ | (with_reducible intro z hz); (first | (replace hz := hz (by omega); subst hz) | subst hz) | (refine CallV.mk _ (hC _ _ _ (PCw.of hSt)) (fun js hjs => ?_); subst hjs)); (try (conv => whnf))))
   refine hfin _ ?_
   exact .cons zero_le (.refl _)
 rw [Bool.not_eq_false] at h1
 rw [h1] at hSt
 have hE0 : wrE u id l = if (l.any fun a => !wordB a.text) = true then 1 else if proE u id ≠ 0 then proE u id else if 256 < l.length then 6 else 0 := by unfold wrE; rw [edit_stands, h1, if_neg (by decide)]
 have hP : proE u id = if id ∉ u.ids then 4 else if (findU id u).kind = 0 then 9 else 0 := rfl
 have hWi : id ∈ u.ids → PC Tryz.prog env0 50 [uv u, uv (Ut.withWords (findU id u) l)] [uv (putAt id (fun y => Ut.withWords y l) u)] := fun h3 => by
   have hW0 := with_pc (Ut.withWords (findU id u) l) u.count u (Nat.le_refl _) (by omega)
   have hfid : (findU id u).id = id := by
     obtain ⟨x, hx, he⟩ := List.mem_map.1 h3
     obtain ⟨r, hr⟩ := find_self (stands_nodup h1) hx
     rw [he] at hr
     unfold findU
     rw [hr]
     exact he
   have hcg : putAt (Ut.withWords (findU id u) l).id (fun y => Ut.withKids (Ut.withWords (findU id u) l) y.kids) u = putAt id (fun y => Ut.withWords y l) u := by
     have e0 : (Ut.withWords (findU id u) l).id = (findU id u).id := rfl
     rw [e0, hfid]
     refine putAt_congr u.count (Nat.le_refl _) fun y hy e => ?_
     obtain ⟨r, hr⟩ := find_self (stands_nodup h1) hy
     rw [e] at hr
     have : findU id u = y := by unfold findU; rw [hr]
     rw [this]
     rfl
   rw [hcg] at hW0
   exact hW0
 generalize putAt id (fun y => Ut.withWords y l) u = v at hWi ⊢
 generalize findU id u = x at hFi hWi hP
 generalize proE u id = pe at hP hE0
 generalize wrE u id l = e at hE0 ⊢
 rw [uv_eq x] at hFi
 rw [hue] at hSt hFi ⊢
 refine PC.of_va (T := (tbf fun r => match r with | 18 => [5] | _ => [])) eqs_ok tb_ok rfl mixed Tryz.func20 rfl rfl (Nat.le_of_ble_eq_true rfl) ?_; intro Γ C WK LP fin h0 hW hC hB hR hLP hfin
 (try (conv => whnf)); (repeat ((first | refine qT ?_ | refine qF ?_ | refine qO ?_ | (with_reducible intro z hz); (first | (replace hz := hz (by omega); subst hz) | subst hz) | (refine CallV.mk _ (hC _ _ _ (PCw.of hSt)) (fun js hjs => ?_); subst hjs)); (try (conv => whnf))))
 refine hLP _ _ _ Nat (fun k => ⟨[(2, .imm (.sl 4 (l.map wdv))), (3, .imm (.bool false)), (4, .ptr 0 1 0), (5, .ptr 1 1 0), (8, .ptr 2 1 0), (9, .imm (.int .i64 0)), (10, .imm (.int .i64 (k : Nat)))], [.box 1 [.imm (.int .i64 u.id.x), .imm (.int .i64 u.id.y), .imm (.int .i64 u.id.z), .imm (.int .i64 u.kind), .imm (.str u.label), .imm (.sl 4 (u.head.map wdv)), .imm (.sl 4 (u.words.map wdv)), .imm (.sl 8 (u.kids.map uv))], .box 1 [.imm (.int .i64 id.x), .imm (.int .i64 id.y), .imm (.int .i64 id.z)], .box 1 [.imm (.int .i64 0), .imm (.int .i64 0), .imm (.int .i64 0), .imm (.int .i64 0), .imm (.str ⟨#[]⟩), .imm .nil, .imm .nil, .imm .nil]]⟩) (fun k => k ≤ l.length ∧ ∀ a ∈ l.take k, (!wordB a.text) = false) (fun k => l.length - k) 0 ⟨Nat.zero_le _, by simp⟩ (qSL 3 rfl rfl) ?_
 rintro k ⟨hk, hp⟩
 have hho := Nat.lt_or_ge k l.length
 cases hho with
 | inl hlt =>
   obtain ⟨a, ha⟩ : ∃ a, l[k]? = some a := ⟨l[k], List.getElem?_eq_getElem hlt⟩
   have hI := rword_pc a.text
   by_cases hw : wordB a.text = true
   · rw [hw] at hI
     (try (conv => whnf)); (repeat ((first | refine qT ?_ | refine qF ?_ | refine qO ?_ | (with_reducible intro z hz); (first | (replace hz := hz (by omega); subst hz) | subst hz)); (try (conv => whnf))))
     refine Idx.mk k (wdv a) _ rfl (by simp [ha]) rfl ?_
     (try (conv => whnf)); (repeat ((first | refine qT ?_ | refine qF ?_ | refine qO ?_ | (with_reducible intro z hz); (first | (replace hz := hz (by omega); subst hz) | subst hz) | (refine CallV.mk _ (hC _ _ _ (PCw.of hI)) (fun js hjs => ?_); subst hjs)); (try (conv => whnf))))
     exact ⟨k + 1, ⟨by omega, fun y hy => by
       rw [take_at ha, List.mem_append] at hy
       rcases hy with hy | hy
       · exact hp y hy
       · rw [List.mem_singleton.1 hy, hw]; rfl⟩, by dsimp only; omega, (qSL 3 rfl rfl)⟩
   · rw [Bool.not_eq_true] at hw
     rw [hw] at hI
     have hbad : (l.any fun a => !wordB a.text) = true := List.any_eq_true.2 ⟨a, List.mem_of_getElem? ha, by rw [hw]; rfl⟩
     rw [if_pos hbad] at hE0
     subst hE0
     rw [if_neg (by decide)] at hfin
     (try (conv => whnf)); (repeat ((first | refine qT ?_ | refine qF ?_ | refine qO ?_ | (with_reducible intro z hz); (first | (replace hz := hz (by omega); subst hz) | subst hz)); (try (conv => whnf))))
     refine Idx.mk k (wdv a) _ rfl (by simp [ha]) rfl ?_
     (try (conv => whnf)); (repeat ((first | refine qT ?_ | refine qF ?_ | refine qO ?_ | (with_reducible intro z hz); (first | (replace hz := hz (by omega); subst hz) | subst hz) | (refine CallV.mk _ (hC _ _ _ (PCw.of hI)) (fun js hjs => ?_); subst hjs)); (try (conv => whnf))))
     refine hfin _ ?_
     exact .cons zero_le (.refl _)
 | inr hge =>
   obtain rfl : k = l.length := by omega
   rw [List.take_length] at hp
   have hgood : (l.any fun a => !wordB a.text) = false := List.any_eq_false.2 fun y hy => by rw [hp y hy]; decide
   rw [hgood, if_neg (by decide)] at hE0
   by_cases h3 : id ∈ u.ids
   rotate_left
   · rw [if_pos h3] at hP
     subst hP
     rw [if_pos (by decide)] at hE0
     subst hE0
     rw [if_neg (by decide)] at hfin
     rw [decide_eq_false h3] at hFi
     (try (conv => whnf)); (repeat ((first | refine qT ?_ | refine qF ?_ | refine qO ?_ | (with_reducible intro z hz); (first | (replace hz := hz (by omega); subst hz) | subst hz) | (refine CallV.mk _ (hC _ _ _ (PCw.of hFi)) (fun js hjs => ?_); subst hjs)); (try (conv => whnf))))
     refine hfin _ ?_
     exact .cons zero_le (.refl _)
   rw [decide_eq_true h3] at hFi
   rw [if_neg (fun e => e h3)] at hP
   replace hWi := hWi h3
   by_cases h4 : x.kind = 0
   · rw [if_pos h4] at hP
     subst hP
     rw [if_pos (by decide)] at hE0
     subst hE0
     rw [if_neg (by decide)] at hfin
     (try (conv => whnf)); (repeat ((first | refine qT ?_ | refine qF ?_ | refine qO ?_ | (with_reducible intro z hz); (first | (replace hz := hz (by omega); subst hz) | subst hz) | (refine CallV.mk _ (hC _ _ _ (PCw.of hFi)) (fun js hjs => ?_); subst hjs)); (try (conv => whnf))))
     refine hfin _ ?_
     exact .cons zero_le (.refl _)
   rw [if_neg h4] at hP
   subst hP
   rw [if_neg (by decide)] at hE0
   by_cases h5 : 256 < l.length
   · rw [if_pos h5] at hE0
     subst hE0
     rw [if_neg (by decide)] at hfin
     (try (conv => whnf)); (repeat ((first | refine qT ?_ | refine qF ?_ | refine qO ?_ | (with_reducible intro z hz); (first | (replace hz := hz (by omega); subst hz) | subst hz) | (refine CallV.mk _ (hC _ _ _ (PCw.of hFi)) (fun js hjs => ?_); subst hjs)); (try (conv => whnf))))
     refine hfin _ ?_
     exact .cons zero_le (.refl _)
   rw [if_neg h5] at hE0
   subst hE0
   rw [if_pos rfl, uv_eq v] at hfin
   rw [uv_wds, hue, uv_eq v] at hWi
   (try (conv => whnf)); (repeat ((first | refine qT ?_ | refine qF ?_ | refine qO ?_ | (with_reducible intro z hz); (first | (replace hz := hz (by omega); subst hz) | subst hz) | (refine CallV.mk _ (hC _ _ _ (PCw.of hFi)) (fun js hjs => ?_); subst hjs)); (try (conv => whnf))))
   refine Imms.mk (l.map wdv) rfl ?_
   (try (conv => whnf)); (repeat ((first | refine qT ?_ | refine qF ?_ | refine qO ?_ | (with_reducible intro z hz); (first | (replace hz := hz (by omega); subst hz) | subst hz) | (refine CallV.mk _ (hC _ _ _ (PCw.of hWi)) (fun js hjs => ?_); subst hjs)); (try (conv => whnf))))
   exact hfin _ (ILes.refl _)
theorem rwr_hd (u : Ut) (id : Trip) (l : List Wd) (hok : okU u) (hM : Tame u) (hc : u.count ≤ 1024) (hl : l.length ≤ 1000000) : PC Tryz.prog env0 20 [uv u, idv id, .sl 4 (l.map wdv), .bool true] (if wrE u id l = 0 then [uv (putAt id (fun y => Ut.withHead y l) u), .int .i64 0] else [uv zeroU, .int .i64 (wrE u id l)]) := by
 have hSt := stands_pc u hok hM (by omega)
 have hFi := rfind_pc id u.count u (Nat.le_refl _) (by omega)
 have hml : (l.map wdv).length = l.length := List.length_map _
 have hue := uv_eq u
 rw [standsR_eq] at hSt
 rw [found_mem] at hFi
 by_cases h1 : standsB u = false
 · have hE : wrE u id l = 1 := by unfold wrE; rw [edit_stands, if_pos h1]
   rw [hE, if_neg (by decide)]
   rw [h1] at hSt
   rw [hue] at hSt ⊢
   refine PC.of_va (T := tb0) eqs_ok tb_ok rfl mixed Tryz.func20 rfl rfl (Nat.le_of_ble_eq_true rfl) ?_; intro Γ C WK LP fin h0 hW hC hB hR hLP hfin
   (try (conv => whnf)); (repeat ((first | refine qT ?_ | refine qF ?_ | refine qO ?_ | (with_reducible intro z hz); (first | (replace hz := hz (by omega); subst hz) | subst hz) | (refine CallV.mk _ (hC _ _ _ (PCw.of hSt)) (fun js hjs => ?_); subst hjs)); (try (conv => whnf))))
   refine hfin _ ?_
   exact .cons zero_le (.refl _)
 rw [Bool.not_eq_false] at h1
 rw [h1] at hSt
 have hE0 : wrE u id l = if (l.any fun a => !wordB a.text) = true then 1 else if proE u id ≠ 0 then proE u id else if 256 < l.length then 6 else 0 := by unfold wrE; rw [edit_stands, h1, if_neg (by decide)]
 have hP : proE u id = if id ∉ u.ids then 4 else if (findU id u).kind = 0 then 9 else 0 := rfl
 have hWi : id ∈ u.ids → PC Tryz.prog env0 50 [uv u, uv (Ut.withHead (findU id u) l)] [uv (putAt id (fun y => Ut.withHead y l) u)] := fun h3 => by
   have hW0 := with_pc (Ut.withHead (findU id u) l) u.count u (Nat.le_refl _) (by omega)
   have hfid : (findU id u).id = id := by
     obtain ⟨x, hx, he⟩ := List.mem_map.1 h3
     obtain ⟨r, hr⟩ := find_self (stands_nodup h1) hx
     rw [he] at hr
     unfold findU
     rw [hr]
     exact he
   have hcg : putAt (Ut.withHead (findU id u) l).id (fun y => Ut.withKids (Ut.withHead (findU id u) l) y.kids) u = putAt id (fun y => Ut.withHead y l) u := by
     have e0 : (Ut.withHead (findU id u) l).id = (findU id u).id := rfl
     rw [e0, hfid]
     refine putAt_congr u.count (Nat.le_refl _) fun y hy e => ?_
     obtain ⟨r, hr⟩ := find_self (stands_nodup h1) hy
     rw [e] at hr
     have : findU id u = y := by unfold findU; rw [hr]
     rw [this]
     rfl
   rw [hcg] at hW0
   exact hW0
 generalize putAt id (fun y => Ut.withHead y l) u = v at hWi ⊢
 generalize findU id u = x at hFi hWi hP
 generalize proE u id = pe at hP hE0
 generalize wrE u id l = e at hE0 ⊢
 rw [uv_eq x] at hFi
 rw [hue] at hSt hFi ⊢
 refine PC.of_va (T := (tbf fun r => match r with | 18 => [5] | _ => [])) eqs_ok tb_ok rfl mixed Tryz.func20 rfl rfl (Nat.le_of_ble_eq_true rfl) ?_; intro Γ C WK LP fin h0 hW hC hB hR hLP hfin
 (try (conv => whnf)); (repeat ((first | refine qT ?_ | refine qF ?_ | refine qO ?_ | (with_reducible intro z hz); (first | (replace hz := hz (by omega); subst hz) | subst hz) | (refine CallV.mk _ (hC _ _ _ (PCw.of hSt)) (fun js hjs => ?_); subst hjs)); (try (conv => whnf))))
 refine hLP _ _ _ Nat (fun k => ⟨[(2, .imm (.sl 4 (l.map wdv))), (3, .imm (.bool true)), (4, .ptr 0 1 0), (5, .ptr 1 1 0), (8, .ptr 2 1 0), (9, .imm (.int .i64 0)), (10, .imm (.int .i64 (k : Nat)))], [.box 1 [.imm (.int .i64 u.id.x), .imm (.int .i64 u.id.y), .imm (.int .i64 u.id.z), .imm (.int .i64 u.kind), .imm (.str u.label), .imm (.sl 4 (u.head.map wdv)), .imm (.sl 4 (u.words.map wdv)), .imm (.sl 8 (u.kids.map uv))], .box 1 [.imm (.int .i64 id.x), .imm (.int .i64 id.y), .imm (.int .i64 id.z)], .box 1 [.imm (.int .i64 0), .imm (.int .i64 0), .imm (.int .i64 0), .imm (.int .i64 0), .imm (.str ⟨#[]⟩), .imm .nil, .imm .nil, .imm .nil]]⟩) (fun k => k ≤ l.length ∧ ∀ a ∈ l.take k, (!wordB a.text) = false) (fun k => l.length - k) 0 ⟨Nat.zero_le _, by simp⟩ (qSL 3 rfl rfl) ?_
 rintro k ⟨hk, hp⟩
 have hho := Nat.lt_or_ge k l.length
 cases hho with
 | inl hlt =>
   obtain ⟨a, ha⟩ : ∃ a, l[k]? = some a := ⟨l[k], List.getElem?_eq_getElem hlt⟩
   have hI := rword_pc a.text
   by_cases hw : wordB a.text = true
   · rw [hw] at hI
     (try (conv => whnf)); (repeat ((first | refine qT ?_ | refine qF ?_ | refine qO ?_ | (with_reducible intro z hz); (first | (replace hz := hz (by omega); subst hz) | subst hz)); (try (conv => whnf))))
     refine Idx.mk k (wdv a) _ rfl (by simp [ha]) rfl ?_
     (try (conv => whnf)); (repeat ((first | refine qT ?_ | refine qF ?_ | refine qO ?_ | (with_reducible intro z hz); (first | (replace hz := hz (by omega); subst hz) | subst hz) | (refine CallV.mk _ (hC _ _ _ (PCw.of hI)) (fun js hjs => ?_); subst hjs)); (try (conv => whnf))))
     exact ⟨k + 1, ⟨by omega, fun y hy => by
       rw [take_at ha, List.mem_append] at hy
       rcases hy with hy | hy
       · exact hp y hy
       · rw [List.mem_singleton.1 hy, hw]; rfl⟩, by dsimp only; omega, (qSL 3 rfl rfl)⟩
   · rw [Bool.not_eq_true] at hw
     rw [hw] at hI
     have hbad : (l.any fun a => !wordB a.text) = true := List.any_eq_true.2 ⟨a, List.mem_of_getElem? ha, by rw [hw]; rfl⟩
     rw [if_pos hbad] at hE0
     subst hE0
     rw [if_neg (by decide)] at hfin
     (try (conv => whnf)); (repeat ((first | refine qT ?_ | refine qF ?_ | refine qO ?_ | (with_reducible intro z hz); (first | (replace hz := hz (by omega); subst hz) | subst hz)); (try (conv => whnf))))
     refine Idx.mk k (wdv a) _ rfl (by simp [ha]) rfl ?_
     (try (conv => whnf)); (repeat ((first | refine qT ?_ | refine qF ?_ | refine qO ?_ | (with_reducible intro z hz); (first | (replace hz := hz (by omega); subst hz) | subst hz) | (refine CallV.mk _ (hC _ _ _ (PCw.of hI)) (fun js hjs => ?_); subst hjs)); (try (conv => whnf))))
     refine hfin _ ?_
     exact .cons zero_le (.refl _)
 | inr hge =>
   obtain rfl : k = l.length := by omega
   rw [List.take_length] at hp
   have hgood : (l.any fun a => !wordB a.text) = false := List.any_eq_false.2 fun y hy => by rw [hp y hy]; decide
   rw [hgood, if_neg (by decide)] at hE0
   by_cases h3 : id ∈ u.ids
   rotate_left
   · rw [if_pos h3] at hP
     subst hP
     rw [if_pos (by decide)] at hE0
     subst hE0
     rw [if_neg (by decide)] at hfin
     rw [decide_eq_false h3] at hFi
     (try (conv => whnf)); (repeat ((first | refine qT ?_ | refine qF ?_ | refine qO ?_ | (with_reducible intro z hz); (first | (replace hz := hz (by omega); subst hz) | subst hz) | (refine CallV.mk _ (hC _ _ _ (PCw.of hFi)) (fun js hjs => ?_); subst hjs)); (try (conv => whnf))))
     refine hfin _ ?_
     exact .cons zero_le (.refl _)
   rw [decide_eq_true h3] at hFi
   rw [if_neg (fun e => e h3)] at hP
   replace hWi := hWi h3
   by_cases h4 : x.kind = 0
   · rw [if_pos h4] at hP
     subst hP
     rw [if_pos (by decide)] at hE0
     subst hE0
     rw [if_neg (by decide)] at hfin
     (try (conv => whnf)); (repeat ((first | refine qT ?_ | refine qF ?_ | refine qO ?_ | (with_reducible intro z hz); (first | (replace hz := hz (by omega); subst hz) | subst hz) | (refine CallV.mk _ (hC _ _ _ (PCw.of hFi)) (fun js hjs => ?_); subst hjs)); (try (conv => whnf))))
     refine hfin _ ?_
     exact .cons zero_le (.refl _)
   rw [if_neg h4] at hP
   subst hP
   rw [if_neg (by decide)] at hE0
   by_cases h5 : 256 < l.length
   · rw [if_pos h5] at hE0
     subst hE0
     rw [if_neg (by decide)] at hfin
     (try (conv => whnf)); (repeat ((first | refine qT ?_ | refine qF ?_ | refine qO ?_ | (with_reducible intro z hz); (first | (replace hz := hz (by omega); subst hz) | subst hz) | (refine CallV.mk _ (hC _ _ _ (PCw.of hFi)) (fun js hjs => ?_); subst hjs)); (try (conv => whnf))))
     refine hfin _ ?_
     exact .cons zero_le (.refl _)
   rw [if_neg h5] at hE0
   subst hE0
   rw [if_pos rfl, uv_eq v] at hfin
   rw [uv_hd, hue, uv_eq v] at hWi
   (try (conv => whnf)); (repeat ((first | refine qT ?_ | refine qF ?_ | refine qO ?_ | (with_reducible intro z hz); (first | (replace hz := hz (by omega); subst hz) | subst hz) | (refine CallV.mk _ (hC _ _ _ (PCw.of hFi)) (fun js hjs => ?_); subst hjs)); (try (conv => whnf))))
   refine Imms.mk (l.map wdv) rfl ?_
   (try (conv => whnf)); (repeat ((first | refine qT ?_ | refine qF ?_ | refine qO ?_ | (with_reducible intro z hz); (first | (replace hz := hz (by omega); subst hz) | subst hz) | (refine CallV.mk _ (hC _ _ _ (PCw.of hWi)) (fun js hjs => ?_); subst hjs)); (try (conv => whnf))))
   exact hfin _ (ILes.refl _)
theorem sets_pc (u : Ut) (hok : okU u) (id : Trip) (l : List Wd) : PC Tryz.prog env0 6 [uv u, idv id, .sl 4 (l.map wdv)] [.bool true] := by
 have hF := few_pc u 30 hok (by omega) (by omega)
 have hue := uv_eq u
 have hAw := awake8_pc
 have hml : (l.map wdv).length = l.length := List.length_map _
 by_cases hfew : fewU u 30 = true
 rotate_left
 · rw [Bool.not_eq_true] at hfew
   rw [hfew] at hF
   rw [hue] at hF ⊢
   refine PC.of_va (T := tb0) eqs_ok tb_ok rfl mixed Tryz.func6 rfl rfl (Nat.le_of_ble_eq_true rfl) ?_; intro Γ C WK LP fin h0 hW hC hB hR hLP hfin
   (try (conv => whnf)); (repeat ((first | refine qT ?_ | refine qF ?_ | refine qO ?_ | (with_reducible intro z hz); (first | (replace hz := hz (by omega); subst hz) | subst hz) | (refine CallV.mk _ (hC _ _ _ (PCw.of hF)) (fun js hjs => ?_); subst hjs) | (refine CallV.mk _ (hC _ _ _ (PCw.of hAw)) (fun js hjs => ?_); subst hjs)); (try (conv => whnf))))
   exact hfin _ (ILes.refl _)
 rw [hfew] at hF
 by_cases h300 : l.length ≤ 300
 rotate_left
 · rw [hue] at hF ⊢
   refine PC.of_va (T := tb0) eqs_ok tb_ok rfl mixed Tryz.func6 rfl rfl (Nat.le_of_ble_eq_true rfl) ?_; intro Γ C WK LP fin h0 hW hC hB hR hLP hfin
   (try (conv => whnf)); (repeat ((first | refine qT ?_ | refine qF ?_ | refine qO ?_ | (with_reducible intro z hz); (first | (replace hz := hz (by omega); subst hz) | subst hz) | (refine CallV.mk _ (hC _ _ _ (PCw.of hF)) (fun js hjs => ?_); subst hjs) | (refine CallV.mk _ (hC _ _ _ (PCw.of hAw)) (fun js hjs => ?_); subst hjs)); (try (conv => whnf))))
   exact hfin _ (ILes.refl _)
 obtain ⟨hc, hM, hs⟩ := few30 hfew
 have both : ∀ f : Ut → Ut, (∀ y, (f y).kids = y.kids ∧ (f y).id = y.id ∧ (f y).kind = y.kind) → ∃ v e, okU v ∧ (if wrE u id l = 0 then [uv (putAt id f u), .int .i64 0] else [uv zeroU, .int .i64 (wrE u id l)]) = [uv v, .int .i64 e] := fun f hf => by
   by_cases h0 : wrE u id l = 0
   · exact ⟨_, _, put_ok (f := f) (fun y => (hf y).1) u.count (Nat.le_refl _) (fun y hy _ => by rw [(hf y).2.1, (hf y).2.2]; exact hok y hy) hok, by rw [if_pos h0]⟩
   · exact ⟨_, _, zero_ok, by rw [if_neg h0]⟩
 have hA1 := wds_pc u id l hok hM (by omega) (by omega)
 have hA2 := rwr_wds u id l hok hM (by omega) (by omega)
 have hB1 := hd_pc u id l hok hM (by omega) (by omega)
 have hB2 := rwr_hd u id l hok hM (by omega) (by omega)
 obtain ⟨v, e, ho, hv⟩ := both (fun y => Ut.withWords y l) fun y => ⟨rfl, rfl, rfl⟩
 obtain ⟨x, f, ho2, hx⟩ := both (fun y => Ut.withHead y l) fun y => ⟨rfl, rfl, rfl⟩
 rw [hv] at hA1 hA2
 rw [hx] at hB1 hB2
 have hS1 := lsame_pc v v e e ho ho
 have hS2 := lsame_pc x x f f ho2 ho2
 rw [decide_eq_true rfl, decide_eq_true rfl] at hS1 hS2
 clear hv hx both
 rw [uv_eq v] at hA1 hA2 hS1
 rw [uv_eq x] at hB1 hB2 hS2
 rw [hue] at hF hA1 hA2 hB1 hB2 ⊢
 refine PC.of_va (T := tb0) eqs_ok tb_ok rfl mixed Tryz.func6 rfl rfl (Nat.le_of_ble_eq_true rfl) ?_; intro Γ C WK LP fin h0 hW hC hB hR hLP hfin
 (try (conv => whnf)); (repeat ((first | refine qT ?_ | refine qF ?_ | refine qO ?_ | (with_reducible intro z hz); (first | (replace hz := hz (by omega); subst hz) | subst hz) | (refine CallV.mk _ (hC _ _ _ (PCw.of hF)) (fun js hjs => ?_); subst hjs)); (try (conv => whnf))))
 refine hLP _ _ _ Nat (fun k => ⟨[(2, .imm (.sl 4 (l.map wdv))), (3, .ptr 0 1 0), (4, .ptr 1 1 0), (26, .imm (.sl 4 (l.map wdv))), (27, .imm (.int .i64 (l.length : Nat))), (28, .imm (.int .i64 (k : Nat)))], [.box 1 [.imm (.int .i64 u.id.x), .imm (.int .i64 u.id.y), .imm (.int .i64 u.id.z), .imm (.int .i64 u.kind), .imm (.str u.label), .imm (.sl 4 (u.head.map wdv)), .imm (.sl 4 (u.words.map wdv)), .imm (.sl 8 (u.kids.map uv))], .box 1 [.imm (.int .i64 id.x), .imm (.int .i64 id.y), .imm (.int .i64 id.z)]]⟩) (fun k => k ≤ l.length) (fun k => l.length - k) 0 (Nat.zero_le _) (qSL 2 rfl rfl (hE := by (repeat ((conv => whnf); first | exact trivial | refine And.intro (by first | exact WkOne.any | exact WkOne.eq (by with_reducible rfl) rfl | exact WkOne.eq (congrArg (fun z => PV.imm (IV.int IntKind.i64 z)) (by first | omega | (simp [hml]; done) | (simp [hml]; omega))) rfl | exact WkOne.eq (by first | (simp [hml]; done) | fail) rfl | exact WkOne.eq rfl rfl | exact WkOne.le rfl (ILe.nil _)) ?_)))) ?_
 intro k hk
 have hho := Nat.lt_or_ge k l.length
 cases hho with
 | inl hlt =>
   obtain ⟨a, ha⟩ : ∃ a, l[k]? = some a := ⟨l[k], List.getElem?_eq_getElem hlt⟩
   by_cases h60 : a.text.size ≤ 60
   · (try (conv => whnf)); (repeat ((first | refine qT ?_ | refine qF ?_ | refine qO ?_ | (with_reducible intro z hz); (first | (replace hz := hz (by omega); subst hz) | subst hz)); (try (conv => whnf))))
     refine Idx.mk k (wdv a) _ rfl (by simp [ha]) rfl ?_
     (try (conv => whnf)); (repeat ((first | refine qT ?_ | refine qF ?_ | refine qO ?_ | (with_reducible intro z hz); (first | (replace hz := hz (by omega); subst hz) | subst hz)); (try (conv => whnf))))
     exact ⟨k + 1, by omega, by dsimp only; omega, (qSL 2 rfl rfl)⟩
   · (try (conv => whnf)); (repeat ((first | refine qT ?_ | refine qF ?_ | refine qO ?_ | (with_reducible intro z hz); (first | (replace hz := hz (by omega); subst hz) | subst hz)); (try (conv => whnf))))
     refine Idx.mk k (wdv a) _ rfl (by simp [ha]) rfl ?_
     (try (conv => whnf)); (repeat ((first | refine qT ?_ | refine qF ?_ | refine qO ?_ | (with_reducible intro z hz); (first | (replace hz := hz (by omega); subst hz) | subst hz) | (refine CallV.mk _ (hC _ _ _ (PCw.of hAw)) (fun js hjs => ?_); subst hjs)); (try (conv => whnf))))
     exact hfin _ (ILes.refl _)
 | inr hge =>
   obtain rfl : k = l.length := by omega
   (try (conv => whnf)); (repeat ((first | refine qT ?_ | refine qF ?_ | refine qO ?_ | (with_reducible intro z hz); (first | (replace hz := hz (by omega); subst hz) | subst hz) | (refine CallV.mk _ (hC _ _ _ (PCw.of hA1)) (fun js hjs => ?_); subst hjs) | (refine CallV.mk _ (hC _ _ _ (PCw.of hA2)) (fun js hjs => ?_); subst hjs) | (refine CallV.mk _ (hC _ _ _ (PCw.of hB1)) (fun js hjs => ?_); subst hjs) | (refine CallV.mk _ (hC _ _ _ (PCw.of hB2)) (fun js hjs => ?_); subst hjs) | (refine CallV.mk _ (hC _ _ _ (PCw.of hS1)) (fun js hjs => ?_); subst hjs) | (refine CallV.mk _ (hC _ _ _ (PCw.of hS2)) (fun js hjs => ?_); subst hjs) | (refine CallV.mk _ (hC _ _ _ (PCw.of hAw)) (fun js hjs => ?_); subst hjs)); (try (conv => whnf))))
   exact hfin _ (ILes.refl _)
end Go.Proofs.YtmnbobcgjnickaaGreatDoor.Pt
namespace Go.Proofs.YtmnbobcgjnickaaGreatDoor.Pt
open Go Go.Pv Go.Proofs.YtmnbobcgjnickaaGreatDoor Go.Proofs.YtmnbobcgjnickaaGreatDoor.Pu Lab Lcs Go.RowKit
section
variable {H : Type} {enc : TypeId × Value → H} {w : World} {bs : Nat} {spare : Nat → Bool} {held : Bool}
theorem words_open {a : Option Addr} {n c : Nat} {d : DataW H} {p : List MemPlace} (h : ∃ fuel, DataW.trod enc Tryz.prog w bs spare held fuel 24 (Value.slice a n c).cells.toList = some (d, p)) :
   ∃ L : List Wd, RepI (fun b => b < w.heap.size) w (.sl 4 (L.map wdv)) (.slice a n c) ∧ L.length ≤ maxLen := by
 obtain ⟨css, h1, h2, h3⟩ := open_sl S0_ok (by decide) Tryz.underlying24 h
 obtain ⟨L, h4, h5, h6⟩ := elems_of (f := wdv) (ok := okWd) (fun cs hcs => by rw [agg_word]; exact word_of hcs) css h3
 rw [h4, c_word] at h1
 exact ⟨L, h1, by omega⟩
end
theorem setsL (u : Ut) (h : Fit u) (t : Trip) (_ht : t.ok) (l : List Wd) (_hl : l.length ≤ maxLen) : PC Tryz.prog env0 6 [uv u, idv t, .sl 4 (l.map wdv)] [.bool true] := sets_pc u h.ok t l
end Go.Proofs.YtmnbobcgjnickaaGreatDoor.Pt
