/-
  Steps with the reasons that they mostly have (shorter texts). IDs; the reference's Same. Contracts of the elder kind: May, CanContain. The reference's Few. slices.Clone of units and of words: a fresh row of the same elements, whatever came in. slices.Grow of a nil row of units: a fresh row without elements. slices.Concat of rows of units. The change that cut makes: kids without the one at a place. The change that an insertion makes: kids with one put in at a place. edit: what it makes of a tree. edit, with the change that cut makes. edit, with the change that an insertion makes. slices.Contains of IDs; has, isEditable. cut, Remove. The reference: named, Without, Take, same. Stands, Take; the law's same. Trees changed at one unit. What Remove and Take answer is the same. isTaken; the IDs that two trees share. The errors of an insertion; Insert, CanInsert. The chapter's examples; Remove and Take for every tree. Arguments that came in: units, IDs; the law of removals.
-/
import Derived.Test.YtmnbobcgjnickaaGreatDoorR2
import Derived.Test.YtmnbobcgjnickaaGreatDoorP7
import Derived.Test.YtmnbobcgjnickaaGreatDoorSame
import Derived.Test.YtmnbobcgjnickaaGreatDoorRmy
import Derived.Test.YtmnbobcgjnickaaGreatDoorKin
import Derived.Shelf.Slices.Clone
import Derived.Test.YtmnbobcgjnickaaGreatDoorProg
import Derived.Lib.AppendZeros
namespace Go.Proofs.YtmnbobcgjnickaaGreatDoor.Pt
open Go Go.Pv Go.Proofs.YtmnbobcgjnickaaGreatDoor.Pu
theorem qT {c A B : Prop} (k : A) (h : ¬ c → False := by intro hc; first | omega | (simp [eqC, cellsI, idv, idl] at hc; first | done | omega) | contradiction) : Fork c (fun _ => A) (fun _ => B) := .mk (fun _ => k) (fun hc => (h hc).elim)
theorem qF {c A B : Prop} (k : B) (h : c → False := by intro hc; first | omega | (simp [eqC, cellsI, idv, idl] at hc; first | done | omega) | contradiction) : Fork c (fun _ => A) (fun _ => B) := .mk (fun hc => (h hc).elim) (fun _ => k)
theorem qO {P X : Prop} (k : X) (h : P := by first | omega | (unfold most; omega) | decide +kernel | exact Nat.le_of_ble_eq_true rfl | assumption | (simp [most]; omega)) : Owe P X := .mk h k
theorem qSL {Γ : Ctx} {n : Nat} {A A' : List (Nat × PV)} {B B' : List Blk} (m : Nat) (hB : B.take m = B') (hm : B'.length = m)
   (hn0 : Γ.n0 ≤ m := by first | omega | (rw [h0]; exact Nat.le_of_ble_eq_true rfl))
   (hbl : B'.all (blkBelow m) = true := by first | (simp only [List.all_cons, List.all_nil, blkBelow, belowL_imm, belowL, belowB, Bool.and_true, Bool.true_and]; first | done | decide) | rfl | simp [blkBelow, belowB, belowL, belowL_imm])
   (hE : wkV m A A' := by (repeat ((conv => whnf); first | exact trivial | refine And.intro (by first | exact WkOne.any | exact WkOne.eq (by with_reducible rfl) rfl | exact WkOne.int (by first | omega | (simp; first | done | omega)) | exact WkOne.eq rfl rfl | exact WkOne.le rfl (ILe.nil _)) ?_))) : WeakA Γ n ⟨A, B⟩ ⟨A', B'⟩ := WeakA.slots m hn0 hB hm hbl hE
end Go.Proofs.YtmnbobcgjnickaaGreatDoor.Pt
namespace Go.Proofs.YtmnbobcgjnickaaGreatDoor.Pu
open Go Go.Pv
set_option linter.unusedSimpArgs false
open Lab Lcs Go.Proofs.YtmnbobcgjnickaaGreatDoor
set_option maxRecDepth 10000
set_option maxHeartbeats 8000000
theorem ids_pc (u : Ut) (hM : u.count ≤ 100000000) : PC Tryz.prog envU 60 [uv u] [.sl 3 (u.ids.map idv)] := by
 have hue := uv_eq u
 have hI := every_pcb u.count u [] (Nat.le_refl _) (by simp; omega)
 rw [hue] at hI ⊢
 refine PC.of_vc (T := (tbh (fun _ => []) fun r => match r with | 2 => true | _ => false)) eqs_ok tb_ok rfl mixed Tryz.func60 rfl rfl ?_; intro Γ C WK LP fin h0 hW hC hB hR hLP hfin
 (repeat ((conv => whnf); first | (with_reducible refine Fork.mk (fun hq => ?_) (fun hc => ?_)); rotate_left; (exfalso; first | omega | (simp [eqC, cellsI, idv, idl] at hc; done) | (simp [eqC, cellsI, idv, idl] at hc; omega) | contradiction); (try clear hq) | (with_reducible refine Fork.mk (fun hc => ?_) (fun hq => ?_)); (exfalso; first | omega | (simp [eqC, cellsI, idv, idl] at hc; done) | (simp [eqC, cellsI, idv, idl] at hc; omega) | contradiction); (try clear hq) | (with_reducible refine Owe.mk ?_ ?_); (first | omega | (unfold most; omega) | decide +kernel | assumption | (simp [most]; done) | (simp [most]; omega)) | (with_reducible intro z hz); first | (replace hz := hz (by omega); subst hz) | subst hz)); try (conv => whnf)
 refine hW _ _ _ ((Weak.nilBox 1 0 23 3 rfl rfl)) ?_
 (repeat ((conv => whnf); first | (with_reducible refine Fork.mk (fun hq => ?_) (fun hc => ?_)); rotate_left; (exfalso; first | omega | (simp [eqC, cellsI, idv, idl] at hc; done) | (simp [eqC, cellsI, idv, idl] at hc; omega) | contradiction); (try clear hq) | (with_reducible refine Fork.mk (fun hc => ?_) (fun hq => ?_)); (exfalso; first | omega | (simp [eqC, cellsI, idv, idl] at hc; done) | (simp [eqC, cellsI, idv, idl] at hc; omega) | contradiction); (try clear hq) | (with_reducible refine Owe.mk ?_ ?_); (first | omega | (unfold most; omega) | decide +kernel | assumption | (simp [most]; done) | (simp [most]; omega)) | (with_reducible intro z hz); first | (replace hz := hz (by omega); subst hz) | subst hz)); try (conv => whnf)
 refine Imms.mk [] rfl ?_
 (repeat ((conv => whnf); first | (with_reducible refine Fork.mk (fun hq => ?_) (fun hc => ?_)); rotate_left; (exfalso; first | omega | (simp [eqC, cellsI, idv, idl] at hc; done) | (simp [eqC, cellsI, idv, idl] at hc; omega) | contradiction); (try clear hq) | (with_reducible refine Fork.mk (fun hc => ?_) (fun hq => ?_)); (exfalso; first | omega | (simp [eqC, cellsI, idv, idl] at hc; done) | (simp [eqC, cellsI, idv, idl] at hc; omega) | contradiction); (try clear hq) | (with_reducible refine Owe.mk ?_ ?_); (first | omega | (unfold most; omega) | decide +kernel | assumption | (simp [most]; done) | (simp [most]; omega)) | (with_reducible intro z hz); first | (replace hz := hz (by omega); subst hz) | subst hz)); try (conv => whnf)
 refine CallB.mk ([.imm (.bool true)]) ([.box 1 [.row 1 2], .row 23 3 2 (List.map idv ([] ++ u.ids))]) (hB _ _ _ _ _ (hI)) ?_
 (repeat ((conv => whnf); first | (with_reducible refine Fork.mk (fun hq => ?_) (fun hc => ?_)); rotate_left; (exfalso; first | omega | (simp [eqC, cellsI, idv, idl] at hc; done) | (simp [eqC, cellsI, idv, idl] at hc; omega) | contradiction); (try clear hq) | (with_reducible refine Fork.mk (fun hc => ?_) (fun hq => ?_)); (exfalso; first | omega | (simp [eqC, cellsI, idv, idl] at hc; done) | (simp [eqC, cellsI, idv, idl] at hc; omega) | contradiction); (try clear hq) | (with_reducible refine Owe.mk ?_ ?_); (first | omega | (unfold most; omega) | decide +kernel | assumption | (simp [most]; done) | (simp [most]; omega)) | (with_reducible intro z hz); first | (replace hz := hz (by omega); subst hz) | subst hz)); try (conv => whnf)
 refine Imms.mk _ rfl ?_
 exact hfin _ (ILes.refl _)
theorem same_pc (u u2 : Ut) (h : okU u) (h2 : okU u2) : PC Tryz.prog envU 27 [uv u, uv u2] [.bool (decide (u = u2))] :=
 lift_bool (enters_of Tryz.func27 rfl rfl) fun Q w vs hQ hR hvs => by
   unfold RepIs at hvs
   obtain ⟨v, r, rfl, h3, h4⟩ := hvs
   unfold RepIs at h4
   obtain ⟨v2, r2, rfl, h5, h6⟩ := h4
   unfold RepIs at h6
   subst h6
   exact same_any u.count u u2 v v2 w (Nat.le_refl _) (utv_to hQ h h3) (utv_to hQ h2 h5)
end Go.Proofs.YtmnbobcgjnickaaGreatDoor.Pu
namespace Go.Proofs.YtmnbobcgjnickaaGreatDoor.Pt
open Go Go.Pv Go.RowKit Lab Lcs Go.Proofs.YtmnbobcgjnickaaGreatDoor Go.Proofs.YtmnbobcgjnickaaGreatDoor.Pu
theorem rmay_pc (u : Ut) (hok : okU u) (hM : Tame u) : PC Tryz.prog envU 55 [uv u] [.bool (validB u)] :=
 lift_bool (enters_of Tryz.func55 rfl rfl) fun Q w vs hQ hR hvs => by
   unfold RepIs at hvs
   obtain ⟨v, r, rfl, h1, h2⟩ := hvs
   unfold RepIs at h2
   subst h2
   exact rmay_any u v w (utv_to hQ hok h1) hM
theorem contain_pc (p z : Int) : PC Tryz.prog envU 72 [.int .i64 p, .int .i64 z] [.bool (nestsB p z)] :=
 lift_bool (enters_of Tryz.func72 rfl rfl) fun Q w vs hQ hR hvs => by
   unfold RepIs at hvs
   obtain ⟨v, r, rfl, h1, h2⟩ := hvs
   unfold RepIs at h2
   obtain ⟨v2, r2, rfl, h3, h4⟩ := h2
   unfold RepIs at h4
   unfold RepI at h1 h3
   subst h1
   subst h3
   subst h4
   exact (contain_any p z w hR.2).mono fun e w' h => ⟨h.1, h.2 ▸ Below.refl _ _⟩
end Go.Proofs.YtmnbobcgjnickaaGreatDoor.Pt
namespace Go.Proofs.YtmnbobcgjnickaaGreatDoor.Pt
open Go Go.Pv Go.RowKit
set_option linter.unusedSimpArgs false
open Lab Lcs Go.Proofs.YtmnbobcgjnickaaGreatDoor Go.Proofs.YtmnbobcgjnickaaGreatDoor.Pu
set_option maxRecDepth 10000
set_option maxHeartbeats 16000000
theorem tq_int : tdOf Tryz.prog 3 = some ⟨false, 1, [.int .i64 0], .int .i64⟩ := by kernel_rfl
theorem tq_string : tdOf Tryz.prog 9 = some ⟨false, 1, [.str ⟨#[]⟩], .str⟩ := by kernel_rfl
theorem tq_bool : tdOf Tryz.prog 4 = some ⟨false, 1, [.bool false], .bool⟩ := by kernel_rfl
theorem tq_apiId : tdOf Tryz.prog 23 = some ⟨true, 3, [.int .i64 0, .int .i64 0, .int .i64 0], .struct [(0, 1, false), (1, 1, false), (2, 1, false)]⟩ := by kernel_rfl
theorem tq_apiMark : tdOf Tryz.prog 46 = some ⟨true, 3, [.int .i64 0, .int .i64 0, .int .i64 0], .struct [(0, 1, false), (1, 1, false), (2, 1, false)]⟩ := by kernel_rfl
theorem tq_apiWord : tdOf Tryz.prog 48 = some ⟨true, 4, [.str ⟨#[]⟩, .int .i64 0, .int .i64 0, .int .i64 0], .struct [(0, 1, false), (1, 3, true)]⟩ := by kernel_rfl
theorem tq_apiUnit : tdOf Tryz.prog 27 = some ⟨true, 8, [.int .i64 0, .int .i64 0, .int .i64 0, .int .i64 0, .str ⟨#[]⟩, .nil, .nil, .nil], .struct [(0, 3, true), (3, 1, false), (4, 1, false), (5, 1, false), (6, 1, false), (7, 1, false)]⟩ := by kernel_rfl
theorem tq_s_apiUnit : tdOf Tryz.prog 25 = some ⟨false, 1, [.nil], .slice 27 8 120⟩ := by kernel_rfl
theorem tq_s_apiWord : tdOf Tryz.prog 24 = some ⟨false, 1, [.nil], .slice 48 4 40⟩ := by kernel_rfl
theorem tq_s_apiId : tdOf Tryz.prog 56 = some ⟨false, 1, [.nil], .slice 23 3 24⟩ := by kernel_rfl
theorem tq_apiErrno : tdOf Tryz.prog 30 = some ⟨false, 1, [.int .i64 0], .int .i64⟩ := by kernel_rfl
theorem tq_s_s_apiUnit : tdOf Tryz.prog 100 = some ⟨false, 1, [.nil], .slice 25 1 24⟩ := by kernel_rfl
def tdl : List (TypeId × TD) := [(3, ⟨false, 1, [.int .i64 0], .int .i64⟩), (9, ⟨false, 1, [.str ⟨#[]⟩], .str⟩), (4, ⟨false, 1, [.bool false], .bool⟩), (23, ⟨true, 3, [.int .i64 0, .int .i64 0, .int .i64 0], .struct [(0, 1, false), (1, 1, false), (2, 1, false)]⟩), (46, ⟨true, 3, [.int .i64 0, .int .i64 0, .int .i64 0], .struct [(0, 1, false), (1, 1, false), (2, 1, false)]⟩), (48, ⟨true, 4, [.str ⟨#[]⟩, .int .i64 0, .int .i64 0, .int .i64 0], .struct [(0, 1, false), (1, 3, true)]⟩), (27, ⟨true, 8, [.int .i64 0, .int .i64 0, .int .i64 0, .int .i64 0, .str ⟨#[]⟩, .nil, .nil, .nil], .struct [(0, 3, true), (3, 1, false), (4, 1, false), (5, 1, false), (6, 1, false), (7, 1, false)]⟩), (25, ⟨false, 1, [.nil], .slice 27 8 120⟩), (24, ⟨false, 1, [.nil], .slice 48 4 40⟩), (56, ⟨false, 1, [.nil], .slice 23 3 24⟩), (30, ⟨false, 1, [.int .i64 0], .int .i64⟩), (100, ⟨false, 1, [.nil], .slice 25 1 24⟩)]
theorem tdl_ok : AllTd Tryz.prog tdl := ⟨tq_int, tq_string, tq_bool, tq_apiId, tq_apiMark, tq_apiWord, tq_apiUnit, tq_s_apiUnit, tq_s_apiWord, tq_s_apiId, tq_apiErrno, tq_s_s_apiUnit, trivial⟩
def nwT (f : FuncId) : Nat := bif Nat.beq f 65 then 77 else 0
def tbn (fr : Nat → List Nat) (hk : Nat → Bool) : Tb := ⟨Pv.look tdl, eqs, fun _ => none, fr, hk, nwT⟩
abbrev tbf (fr : Nat → List Nat) : Tb := tbn fr fun _ => false
def tb0 : Tb := tbf fun _ => []
theorem tb_ok {fr : Nat → List Nat} {hk : Nat → Bool} : ∀ t d, (tbn fr hk).td t = some d → tdOf Tryz.prog t = some d := Pv.look_ok tdl_ok
abbrev env0 : Env := envU
mutual
def sizeN : Ut → Int → Int → Int
 | .mk _ _ _ _ _ kids, d, m => if 20 < d then m + 1 else sizeL kids d m 1
def sizeL : List Ut → Int → Int → Int → Int
 | [], _, _, n => n
 | u :: r, d, m, n => if n ≤ m then sizeL r d m (n + sizeN u (d + 1) (m - n)) else n
end
theorem sizeN_eq (u : Ut) (d m : Int) : sizeN u d m = if 20 < d then m + 1 else sizeL u.kids d m 1 := by
 cases u; rw [sizeN]; rfl
mutual
theorem sizeN_pos : ∀ (u : Ut) (d m : Int), 0 ≤ m → 1 ≤ sizeN u d m ∧ sizeN u d m ≤ m + 1
 | .mk _ _ _ _ _ kids, d, m, hm => by
   rw [sizeN]
   split
   · omega
   · exact sizeL_pos kids d m 1 (by omega) (by omega)
theorem sizeL_pos : ∀ (l : List Ut) (d m n : Int), 1 ≤ n → n ≤ m + 1 → 1 ≤ sizeL l d m n ∧ sizeL l d m n ≤ m + 1
 | [], _, _, n, h1, h2 => by rw [sizeL]; omega
 | u :: r, d, m, n, h1, h2 => by
   rw [sizeL]
   split
   · have := sizeN_pos u (d + 1) (m - n) (by omega)
     exact sizeL_pos r d m _ (by omega) (by omega)
   · omega
end
mutual
theorem sizeN_few : ∀ (u : Ut) (d m : Int), 0 ≤ m → sizeN u d m ≤ m → sizeN u d m = u.count ∧ d + u.depth ≤ 20
 | .mk id kind label head words kids, d, m, hm, h => by
   rw [sizeN] at h ⊢
   split at h
   · omega
   · rename_i hd
     rw [if_neg hd]
     have := sizeL_few kids d m 1 (by omega) (by omega) h
     rw [count_mk, depth_mk]
     omega
theorem sizeL_few : ∀ (l : List Ut) (d m n : Int), 1 ≤ n → d ≤ 20 → sizeL l d m n ≤ m → sizeL l d m n = n + Ut.counts l ∧ d + Ut.depths l ≤ 20
 | [], d, m, n, h1, h2, h => by
   rw [sizeL] at h ⊢
   simp only [Ut.counts, Ut.depths]
   omega
 | u :: r, d, m, n, h1, h2, h => by
   rw [sizeL] at h ⊢
   split at h
   · rename_i hn
     rw [if_pos hn]
     have hp := sizeN_pos u (d + 1) (m - n) (by omega)
     have h3 := sizeL_few r d m (n + sizeN u (d + 1) (m - n)) (by omega) h2 h
     have h4 := sizeN_few u (d + 1) (m - n) (by omega) (by omega)
     simp only [Ut.counts, Ut.depths]
     omega
   · omega
end
def fewU (u : Ut) (m : Int) : Bool := decide (sizeN u 0 m ≤ m) && u.all.all fewB
theorem few_small {u : Ut} {m : Nat} (h : fewU u m = true) : Small m u := by
 unfold fewU at h
 simp only [Bool.and_eq_true, decide_eq_true_eq] at h
 obtain ⟨h1, h2⟩ := h
 obtain ⟨h3, h4⟩ := sizeN_few u 0 m (by omega) h1
 exact ⟨by omega, by omega, h2⟩
theorem few30 {u : Ut} (h : fewU u 30 = true) : u.count ≤ 30 ∧ Tame u ∧ small u := by
 have hs := few_small (m := 30) h
 have ht := hs.tame (by omega)
 exact ⟨hs.1, ht, fun x hx => ⟨by have := (ht.2 x hx).2.1; omega, by have := (ht.2 x hx).2.2; omega⟩⟩
theorem size_pc (N : Nat) : ∀ (u : Ut) (d m : Int), u.count ≤ N → 0 ≤ d → d ≤ 21 → 0 ≤ m → m ≤ 1000 → PC Tryz.prog env0 30 [uv u, .int .i64 d, .int .i64 m] [.int .i64 (sizeN u d m)] := by
 induction N with
 | zero => intro u d m h; have := count_pos u; omega
 | succ N ih =>
 intro u d m hN h0 hd hm0 hm
 have hue := uv_eq u
 have hcu := Ut.count_eq u
 have hkl := kids_counts u.kids
 have hml : (u.kids.map uv).length = u.kids.length := List.length_map _
 rw [sizeN_eq, hue]
 by_cases hlt : 20 < d
 · rw [if_pos hlt]
   refine PC.of_va (T := tb0) eqs_ok tb_ok rfl mixed Tryz.func30 rfl rfl (Nat.le_of_ble_eq_true rfl) ?_; intro Γ C WK LP fin h0 hW hC hB hR hLP hfin
   (try (conv => whnf)); (repeat ((first | refine qT ?_ | refine qF ?_ | refine qO ?_ | (with_reducible intro z hz); (first | (replace hz := hz (by omega); subst hz) | subst hz)); (try (conv => whnf))))
   exact hfin _ (ILes.refl _)
 · rw [if_neg hlt]
   refine PC.of_va (T := tb0) eqs_ok tb_ok rfl mixed Tryz.func30 rfl rfl (Nat.le_of_ble_eq_true rfl) ?_; intro Γ C WK LP fin h0 hW hC hB hR hLP hfin
   (try (conv => whnf)); (repeat ((first | refine qT ?_ | refine qF ?_ | refine qO ?_ | (with_reducible intro z hz); (first | (replace hz := hz (by omega); subst hz) | subst hz)); (try (conv => whnf))))
   refine hLP _ _ _ (Nat × Int) (fun p => ⟨[(1, .imm (.int .i64 d)), (2, .imm (.int .i64 m)), (3, .ptr 0 1 0), (7, .imm (.int .i64 p.2)), (8, .imm (.int .i64 (p.1 : Nat)))], [.box 1 [.imm (.int .i64 u.id.x), .imm (.int .i64 u.id.y), .imm (.int .i64 u.id.z), .imm (.int .i64 u.kind), .imm (.str u.label), .imm (.sl 4 (u.head.map wdv)), .imm (.sl 4 (u.words.map wdv)), .imm (.sl 8 (u.kids.map uv))]]⟩) (fun p => p.1 ≤ u.kids.length ∧ p.1 + 1 ≤ p.2 ∧ p.2 ≤ m + 1 ∧ sizeL (u.kids.drop p.1) d m p.2 = sizeL u.kids d m 1) (fun p => u.kids.length - p.1) (0, 1) ⟨Nat.zero_le _, by dsimp only; omega, by dsimp only; omega, rfl⟩ (qSL 1 rfl rfl) ?_
   rintro ⟨k, n⟩ ⟨hk, hkn, hn, hinv⟩
   dsimp only at hk hkn hn hinv ⊢
   have hho := Nat.lt_or_ge k u.kids.length
   cases hho with
   | inl hlt2 =>
     obtain ⟨x, hx⟩ : ∃ x, u.kids[k]? = some x := ⟨u.kids[k], List.getElem?_eq_getElem hlt2⟩
     have hdrop : u.kids.drop k = x :: u.kids.drop (k + 1) := by
       rw [List.drop_eq_getElem_cons hlt2]
       congr 1
       exact (List.getElem?_eq_some_iff.1 hx).2
     rw [hdrop, sizeL] at hinv
     by_cases hnm : n ≤ m
     · have hux := uv_eq x
       have hp := sizeN_pos x (d + 1) (m - n) (by omega)
       have hkc := kid_lt' hx
       have hI := ih x (d + 1) (m - n) (by omega) (by omega) (by omega) (by omega) (by omega)
       rw [if_pos hnm] at hinv
       generalize sizeN x (d + 1) (m - n) = q at hI hp hinv
       rw [hux] at hI
       (try (conv => whnf)); (repeat ((first | refine qT ?_ | refine qF ?_ | refine qO ?_ | (with_reducible intro z hz); (first | (replace hz := hz (by omega); subst hz) | subst hz)); (try (conv => whnf))))
       refine Idx.mk k (uv x) _ rfl (by simp [hx]) (by rw [hux]; try rfl) ?_
       (try (conv => whnf)); (repeat ((first | refine qT ?_ | refine qF ?_ | refine qO ?_ | (with_reducible intro z hz); (first | (replace hz := hz (by omega); subst hz) | subst hz) | (refine CallV.mk _ (hC _ _ _ (PCw.of hI)) (fun js hjs => ?_); subst hjs)); (try (conv => whnf))))
       exact ⟨(k + 1, n + q), ⟨by dsimp only; omega, by dsimp only; omega, by dsimp only; omega, hinv⟩, by dsimp only; omega, (qSL 1 rfl rfl)⟩
     · rw [if_neg hnm] at hinv
       (try (conv => whnf)); (repeat ((first | refine qT ?_ | refine qF ?_ | refine qO ?_ | (with_reducible intro z hz); (first | (replace hz := hz (by omega); subst hz) | subst hz)); (try (conv => whnf))))
       refine hfin _ ?_
       rw [← hinv]
       exact ILes.refl _
   | inr hge =>
     rw [List.drop_eq_nil_of_le hge, sizeL] at hinv
     (try (conv => whnf)); (repeat ((first | refine qT ?_ | refine qF ?_ | refine qO ?_ | (with_reducible intro z hz); (first | (replace hz := hz (by omega); subst hz) | subst hz)); (try (conv => whnf))))
     refine hfin _ ?_
     rw [← hinv]
     exact ILes.refl _
theorem few_pc (u : Ut) (m : Int) (hok : okU u) (h0 : 0 ≤ m) (hm : m ≤ 1000) : PC Tryz.prog env0 8 [uv u, .int .i64 m] [.bool (fewU u m)] := by
 have hS := size_pc u.count u 0 m (Nat.le_refl _) (by omega) (by omega) h0 hm
 have hWo := words_pc u hok
 have hue := uv_eq u
 unfold fewU
 rw [hue] at hS hWo ⊢
 generalize u.all.all fewB = b at hWo ⊢
 generalize sizeN u 0 m = q at hS ⊢
 by_cases hz : q ≤ m
 · rw [decide_eq_true hz, Bool.true_and]
   refine PC.of_va (T := tb0) eqs_ok tb_ok rfl mixed Tryz.func8 rfl rfl (Nat.le_of_ble_eq_true rfl) ?_; intro Γ C WK LP fin h0 hW hC hB hR hLP hfin
   (try (conv => whnf)); (repeat ((first | refine qT ?_ | refine qF ?_ | refine qO ?_ | (with_reducible intro z hz); (first | (replace hz := hz (by omega); subst hz) | subst hz) | (refine CallV.mk _ (hC _ _ _ (PCw.of hS)) (fun js hjs => ?_); subst hjs) | (refine CallV.mk _ (hC _ _ _ (PCw.of hWo)) (fun js hjs => ?_); subst hjs)); (try (conv => whnf))))
   exact hfin _ (ILes.refl _)
 · rw [decide_eq_false hz, Bool.false_and]
   refine PC.of_va (T := tb0) eqs_ok tb_ok rfl mixed Tryz.func8 rfl rfl (Nat.le_of_ble_eq_true rfl) ?_; intro Γ C WK LP fin h0 hW hC hB hR hLP hfin
   (try (conv => whnf)); (repeat ((first | refine qT ?_ | refine qF ?_ | refine qO ?_ | (with_reducible intro z hz); (first | (replace hz := hz (by omega); subst hz) | subst hz) | (refine CallV.mk _ (hC _ _ _ (PCw.of hS)) (fun js hjs => ?_); subst hjs)); (try (conv => whnf))))
   exact hfin _ (ILes.refl _)
end Go.Proofs.YtmnbobcgjnickaaGreatDoor.Pt
namespace Go.Proofs.YtmnbobcgjnickaaGreatDoor.Pt
open Go Go.Pv Go.RowKit
theorem iU : (Tryz.prog.info? 27).map (fun i => (i.zero, i.size, i.bytes)) = some (some (.agg #[.int .i64 0, .int .i64 0, .int .i64 0, .int .i64 0, .string ⟨#[]⟩, .slice none 0 0, .slice none 0 0, .slice none 0 0]), 8, 120) := by kernel_rfl
theorem iW : (Tryz.prog.info? 48).map (fun i => (i.zero, i.size, i.bytes)) = some (some (.agg #[.string ⟨#[]⟩, .int .i64 0, .int .i64 0, .int .i64 0]), 4, 40) := by kernel_rfl
theorem news_of {Q : Nat → Prop} {w : World} {sz : Nat} {L : List IV} {ad : Addr} (h : 0 < L.length → ∃ b off, some ad = some (⟨b, off, none⟩ : Addr) ∧ Q b ∧ RepR Q w sz b off L) :
   ∃ news, RepE ⟨fun _ => undef, fun _ => 0, Q⟩ 0 w sz (L.map .imm) news ∧ ∀ j u, news[j]? = some u → w.cell? (ad.add j) = some u := by
 by_cases h0 : 0 < L.length
 · obtain ⟨b, off, e, _, hr⟩ := h h0
   obtain rfl := Option.some.inj e
   obtain ⟨xs, h1, h2⟩ := row_cells (w := w) (kk := ⟨fun _ => undef, fun _ => 0, Q⟩) (n := 0) hr
   exact ⟨xs, h1, fun j u hj => by rw [Addr.add_lit]; exact h2 j u hj⟩
 · have : L = [] := List.eq_nil_of_length_eq_zero (by omega)
   subst this
   exact ⟨[], by simp [RepE], fun j u hj => by simp at hj⟩
theorem fresh_base {Q : Nat → Prop} {w w1 : World} {e : TypeId} {sz n b : Nat} {v : Value} {xs : List Value} (hQ : ∀ b, Q b → b < w.heap.size) (hown : w1.ownsRow w.heap.size e sz v n xs) (h : base v = some b) : ¬ Q b ∧ b < w1.heap.size := by
 rcases hown.2 with ⟨rfl, _⟩ | ⟨g, cap, cur, rfl, h1, h2, _⟩
 · cases h
 · obtain rfl : g = b := Option.some.inj h
   exact ⟨fun hq => absurd (hQ _ hq) (by omega), (Array.getElem?_eq_some_iff.1 h2).1⟩
set_option maxHeartbeats 4000000 in
set_option maxRecDepth 100000 in
theorem cloneU_pcr {X : Env} (L : List IV) (hL : L.length ≤ 1000000000) : PCR Tryz.prog X 81 [.sl 8 L] 27 8 L := by
 refine ⟨enters_of Tryz.func81 rfl rfl, fun Q w vs hQ _ _ hvs => ?_⟩
 unfold RepIs at hvs
 obtain ⟨v, r, rfl, h1, h2⟩ := hvs
 unfold RepIs at h2
 subst h2
 unfold RepI at h1
 obtain ⟨a, c, rfl, hnc, hcm, hcells⟩ := h1
 have qq : ∀ (w : World) (a : Option Addr) (n c n' c' : Nat), (binOp .eql 25 (.slice a n c) (.slice none n' c')).run Tryz.prog w = .ok (.bool a.isNone) w := fun w a n c n' c' => Lib.run_eql_slice_nil w _ _ a n c n' c' Tryz.underlying25
 obtain ⟨i0, hi, hz0, hz1, hz2⟩ := info_parts iU
 cases a with
 | none =>
   have h0 : L = [] := List.eq_nil_of_length_eq_zero (by
     rcases Nat.eq_zero_or_pos L.length with h | h
     · exact h
     · obtain ⟨b, off, e, _⟩ := hcells h; cases e)
   subst h0
   go_enter Tryz.func81, Tryz.ntmps81
   go_wp2
   go_ret
   exact ⟨_, Q, [], rfl, Below.refl _ _, fun b h => h, fun b h => ⟨Or.inl h, hQ b h⟩, ⟨rfl, Or.inl ⟨rfl, rfl⟩⟩, by simp [RepE], fun b h => by cases h⟩
 | some ad =>
   obtain ⟨news, hE, hc⟩ := news_of hcells
   obtain ⟨hl, h1⟩ := RepE_len hE
   rw [List.length_map] at hl
   clear hcells
   have hb8 : (0 + L.length) * 120 ≤ 140737488355328 := by omega
   generalize hn : L.length = n at *
   go_enter Tryz.func81, Tryz.ntmps81
   go_wp2_with (at_builtin; refine wpList_append_own _ rfl _ _ 25 rfl w.heap.size 27 i0 _ 8 120 Tryz.underlying25 hi hz0 hz1 hz2 rfl (by decide) _ _ _ rfl (World.ownsRow_made w #[] 0 (Nat.le_refl _) (Nat.zero_le _) rfl) ad n c news rfl hl ?qc2 h1 ?qc4 hb8 ?qc6 ?_)
   case qc2 =>
     intro j u hj
     exact Lib.cell?_alloc_some _ (hc j u hj)
   case qc4 => unfold maxLen; omega
   case qc6 => simp
   intro v' w1 hown hgrow hnil
   go_wp2
   go_ret
   have hb : Below w.heap.size w w1 := ((Below.refl _ w).alloc (Nat.le_refl _) _).grown hgrow (by simp) (by intro k hk; simp [Value.ownBlock] at hk; omega)
   have hown' : w1.ownsRow w.heap.size 27 8 v' n news := by simpa using hown
   exact ⟨v', Q, news, rfl, hb, fun b h => h, fun b h => ⟨Or.inl h, Nat.lt_of_lt_of_le (hQ b h) hb.size⟩, hown', RepE_mono ⟨Nat.le_refl _, fun b h => ⟨h, hb.block b (hQ b h)⟩, fun r h => absurd h (Nat.not_lt_zero r)⟩ _ _ hE, fun b h => fresh_base hQ hown' h⟩
set_option maxHeartbeats 4000000 in
set_option maxRecDepth 100000 in
theorem cloneW_pcr {X : Env} (L : List IV) (hL : L.length ≤ 1000000000) : PCR Tryz.prog X 80 [.sl 4 L] 48 4 L := by
 refine ⟨enters_of Tryz.func80 rfl rfl, fun Q w vs hQ _ _ hvs => ?_⟩
 unfold RepIs at hvs
 obtain ⟨v, r, rfl, h1, h2⟩ := hvs
 unfold RepIs at h2
 subst h2
 unfold RepI at h1
 obtain ⟨a, c, rfl, hnc, hcm, hcells⟩ := h1
 have qq : ∀ (w : World) (a : Option Addr) (n c n' c' : Nat), (binOp .eql 24 (.slice a n c) (.slice none n' c')).run Tryz.prog w = .ok (.bool a.isNone) w := fun w a n c n' c' => Lib.run_eql_slice_nil w _ _ a n c n' c' Tryz.underlying24
 obtain ⟨i0, hi, hz0, hz1, hz2⟩ := info_parts iW
 cases a with
 | none =>
   have h0 : L = [] := List.eq_nil_of_length_eq_zero (by
     rcases Nat.eq_zero_or_pos L.length with h | h
     · exact h
     · obtain ⟨b, off, e, _⟩ := hcells h; cases e)
   subst h0
   go_enter Tryz.func80, Tryz.ntmps80
   go_wp2
   go_ret
   exact ⟨_, Q, [], rfl, Below.refl _ _, fun b h => h, fun b h => ⟨Or.inl h, hQ b h⟩, ⟨rfl, Or.inl ⟨rfl, rfl⟩⟩, by simp [RepE], fun b h => by cases h⟩
 | some ad =>
   obtain ⟨news, hE, hc⟩ := news_of hcells
   obtain ⟨hl, h1⟩ := RepE_len hE
   rw [List.length_map] at hl
   clear hcells
   have hb8 : (0 + L.length) * 40 ≤ 140737488355328 := by omega
   generalize hn : L.length = n at *
   go_enter Tryz.func80, Tryz.ntmps80
   go_wp2_with (at_builtin; refine wpList_append_own _ rfl _ _ 24 rfl w.heap.size 48 i0 _ 4 40 Tryz.underlying24 hi hz0 hz1 hz2 rfl (by decide) _ _ _ rfl (World.ownsRow_made w #[] 0 (Nat.le_refl _) (Nat.zero_le _) rfl) ad n c news rfl hl ?qc2 h1 ?qc4 hb8 ?qc6 ?_)
   case qc2 =>
     intro j u hj
     exact Lib.cell?_alloc_some _ (hc j u hj)
   case qc4 => unfold maxLen; omega
   case qc6 => simp
   intro v' w1 hown hgrow hnil
   go_wp2
   go_ret
   have hb : Below w.heap.size w w1 := ((Below.refl _ w).alloc (Nat.le_refl _) _).grown hgrow (by simp) (by intro k hk; simp [Value.ownBlock] at hk; omega)
   have hown' : w1.ownsRow w.heap.size 48 4 v' n news := by simpa using hown
   exact ⟨v', Q, news, rfl, hb, fun b h => h, fun b h => ⟨Or.inl h, Nat.lt_of_lt_of_le (hQ b h) hb.size⟩, hown', RepE_mono ⟨Nat.le_refl _, fun b h => ⟨h, hb.block b (hQ b h)⟩, fun r h => absurd h (Nat.not_lt_zero r)⟩ _ _ hE, fun b h => fresh_base hQ hown' h⟩
end Go.Proofs.YtmnbobcgjnickaaGreatDoor.Pt
namespace Go.Proofs.YtmnbobcgjnickaaGreatDoor.Pt
open Go Go.Pv Go.RowKit
set_option maxHeartbeats 4000000 in
set_option maxRecDepth 100000 in
theorem grow_pcr {X : Env} (n : Nat) (hn : n ≤ 1000000000) : PCR Tryz.prog X 90 [.nil, .int .i64 (n : Nat)] 27 8 [] := by
 refine ⟨enters_of Tryz.func90 rfl rfl, fun Q w vs hQ _ _ hvs => ?_⟩
 unfold RepIs at hvs
 obtain ⟨v, r, rfl, h1, h2⟩ := hvs
 unfold RepIs at h2
 obtain ⟨v2, r2, rfl, h3, h4⟩ := h2
 unfold RepIs at h4
 unfold RepI at h1 h3
 subst h1
 subst h3
 subst h4
 obtain ⟨i0, hi, hz0, hz1, hz2⟩ := info_parts iU
 by_cases h0 : n = 0
 · subst h0
   go_enter Tryz.func90, Tryz.ntmps90
   go_wp2
   go_ret
   exact ⟨_, Q, [], rfl, Below.refl _ _, fun b h => h, fun b h => ⟨Or.inl h, hQ b h⟩, ⟨rfl, Or.inl ⟨rfl, rfl⟩⟩, by simp [RepE], fun b h => by cases h⟩
 · go_enter Tryz.func90, Tryz.ntmps90
   go_wp2_with (at_builtin; refine Lib.wpList_append_run _ rfl _ _ 25 3 rfl _ _ rfl rfl _ _ (Lib.run_append_nil_zeros w 25 3 _ 27 i0 _ .i64 .i64 Tryz.underlying25 Tryz.underlying3 hi hz0 n (by omega) (by omega) (by omega) (by rw [hz2]; omega)) ?_)
   go_wp2
   go_ret
   have hcap := grownCap_ge w n 0 27
   have hcm := grownCap_le_maxLen w n 0 27 (by unfold maxLen; omega)
   generalize grownCap w n 0 27 = cap at hcap hcm ⊢
   have hb : ∀ x, Below w.heap.size w (w.drew.alloc x) := fun x => ((Below.refl _ w).drew).alloc (Nat.le_refl _) _
   have hown : ∀ (cur : Array Value), cur.size = cap * 8 → (w.drew.alloc (.cells cur 27)).ownsRow w.heap.size 27 8 (.slice (some ⟨w.heap.size, 0, none⟩) 0 cap) 0 [] := fun cur hs => World.ownsRow_made w.drew cur cap (Nat.le_refl _) hcm hs
   exact ⟨_, Q, [], rfl, hb _, fun b h => h, fun b h => ⟨Or.inl h, Nat.lt_of_lt_of_le (hQ b h) (hb _).size⟩, hown _ (by rw [Array.size_append, size_zeroCells, size_zeroCells]; simp; omega), by simp [RepE], fun b h => fresh_base hQ (hown _ (by rw [Array.size_append, size_zeroCells, size_zeroCells]; simp; omega)) h⟩
end Go.Proofs.YtmnbobcgjnickaaGreatDoor.Pt
namespace Go.Proofs.YtmnbobcgjnickaaGreatDoor.Pt
open Go Go.Pv Go.RowKit
set_option linter.unusedSimpArgs false
open Go.Proofs.YtmnbobcgjnickaaGreatDoor.Pu
set_option maxRecDepth 10000
set_option maxHeartbeats 16000000
def lensL (l : List (List IV)) : Nat := (l.map List.length).sum
theorem take_at {α : Type} {l : List α} {k : Nat} {x : α} (h : l[k]? = some x) : l.take (k + 1) = l.take k ++ [x] := by
 obtain ⟨hk, he⟩ := List.getElem?_eq_some_iff.1 h
 rw [List.take_succ_eq_append_getElem hk, he]
theorem lensL_take {l : List (List IV)} {k : Nat} {x : List IV} (h : l[k]? = some x) : lensL (l.take (k + 1)) = lensL (l.take k) + x.length := by
 unfold lensL; rw [take_at h]; simp
theorem lensL_le {l : List (List IV)} (k : Nat) : lensL (l.take k) ≤ lensL l := by
 have : lensL (l.take k) + lensL (l.drop k) = lensL l := by unfold lensL; rw [← List.sum_append, ← List.map_append, List.take_append_drop]
 omega
theorem flat_take {l : List (List IV)} {k : Nat} {x : List IV} (h : l[k]? = some x) : (l.take (k + 1)).flatten = (l.take k).flatten ++ x := by
 rw [take_at h]; simp
theorem flat_len : ∀ l : List (List IV), l.flatten.length = lensL l
 | [] => rfl
 | a :: l => by simp [lensL]
theorem concat_pcr (Ls : List (List IV)) (hl : Ls.length ≤ 1000) (hn : lensL Ls ≤ 100000000) : PCR Tryz.prog env0 65 [.sl 1 (Ls.map (IV.sl 8))] 27 8 Ls.flatten := by
 have hml : (Ls.map (IV.sl 8)).length = Ls.length := List.length_map _
 refine PCR.of_va (T := tb0) eqs_ok tb_ok rfl mixed Tryz.func65 rfl rfl (Nat.le_of_ble_eq_true rfl) rfl ?_; intro Γ C WK LP fin h0 hW hC hB hR hLP hfin
 (try (conv => whnf)); (repeat ((first | refine qT ?_ | refine qF ?_ | refine qO ?_ | (with_reducible intro z hz); (first | (replace hz := hz (by omega); subst hz) | subst hz)); (try (conv => whnf))))
 refine hLP _ _ _ Nat (fun k => ⟨[(0, .imm (.sl 1 (Ls.map (IV.sl 8)))), (3, .imm (.int .i64 (lensL (Ls.take k) : Nat))), (9, .imm (.sl 1 (Ls.map (IV.sl 8)))), (10, .imm (.int .i64 (Ls.length : Nat))), (11, .imm (.int .i64 (k : Nat)))], []⟩) (fun k => k ≤ Ls.length) (fun k => Ls.length - k) 0 (Nat.zero_le _) (qSL 0 rfl rfl (hE := by (repeat ((conv => whnf); first | exact trivial | refine And.intro (by first | exact WkOne.any | exact WkOne.eq (by with_reducible rfl) rfl | exact WkOne.eq (congrArg (fun z => PV.imm (IV.int IntKind.i64 z)) (by first | omega | (simp [lensL]; done) | (simp [lensL]; omega))) rfl | exact WkOne.eq (by first | (simp [lensL]; done) | fail) rfl | exact WkOne.eq rfl rfl | exact WkOne.le rfl (ILe.nil _)) ?_)))) ?_
 intro k hk
 have hho := Nat.lt_or_ge k Ls.length
 cases hho with
 | inl hlt =>
   obtain ⟨x, hx⟩ : ∃ x, Ls[k]? = some x := ⟨Ls[k], List.getElem?_eq_getElem hlt⟩
   have h1 := lensL_take hx
   have h2 := lensL_le (l := Ls) (k + 1)
   (try (conv => whnf)); (repeat ((first | refine qT ?_ | refine qF ?_ | refine qO ?_ | (with_reducible intro z hz); (first | (replace hz := hz (by omega); subst hz) | subst hz)); (try (conv => whnf))))
   refine Idx.mk k (IV.sl 8 x) _ rfl (by simp [hx]) rfl ?_
   (try (conv => whnf)); (repeat ((first | refine qT ?_ | refine qF ?_ | refine qO ?_ | (with_reducible intro z hz); (first | (replace hz := hz (by omega); subst hz) | subst hz)); (try (conv => whnf))))
   exact ⟨k + 1, by omega, by dsimp only; omega, (qSL 0 rfl rfl)⟩
 | inr hge =>
   obtain rfl : k = Ls.length := by omega
   rw [List.take_length]
   have hG := grow_pcr (X := env0) (lensL Ls) (by omega)
   (try (conv => whnf)); (repeat ((first | refine qT ?_ | refine qF ?_ | refine qO ?_ | (with_reducible intro z hz); (first | (replace hz := hz (by omega); subst hz) | subst hz)); (try (conv => whnf))))
   refine CallV.row _ _ _ (hR _ _ _ _ _ (PCRw.of (hG))) (fun js hjs => ?_); subst hjs
   (try (conv => whnf)); (repeat ((first | refine qT ?_ | refine qF ?_ | refine qO ?_ | (with_reducible intro z hz); (first | (replace hz := hz (by omega); subst hz) | subst hz)); (try (conv => whnf))))
   refine hLP _ _ _ Nat (fun k => ⟨[(0, .imm (.sl 1 (Ls.map (IV.sl 8)))), (6, .row 0 1), (25, .imm (.sl 1 (Ls.map (IV.sl 8)))), (26, .imm (.int .i64 (Ls.length : Nat))), (27, .imm (.int .i64 (k : Nat)))], [.row 27 8 1 ((Ls.take k).flatten.map .imm)]⟩) (fun k => k ≤ Ls.length) (fun k => Ls.length - k) 0 (Nat.zero_le _) (((WeakA.row 0 ((Ls.take 0).flatten.map .imm) rfl (by simp))).trans ((WeakA.renew 0 1 rfl (by first | omega | (intro _; rw [hk0 _ _ rfl]; exact Nat.le_of_ble_eq_true rfl)) (by repeat (first | exact trivial | refine And.intro (rgL_imms _ _ _ _) ?_ | refine And.intro rfl ?_))).trans (qSL 1 rfl rfl))) ?_
   intro k hk
   have hho := Nat.lt_or_ge k Ls.length
   cases hho with
   | inl hlt =>
     obtain ⟨x, hx⟩ : ∃ x, Ls[k]? = some x := ⟨Ls[k], List.getElem?_eq_getElem hlt⟩
     have h1 := lensL_take hx
     have h2 := lensL_le (l := Ls) (k + 1)
     have hfl := flat_take hx
     have hlen : ((Ls.take k).flatten.map PV.imm).length = lensL (Ls.take k) := by rw [List.length_map, flat_len]
     (try (conv => whnf)); (repeat ((first | refine qT ?_ | refine qF ?_ | refine qO ?_ | (with_reducible intro z hz); (first | (replace hz := hz (by omega); subst hz) | subst hz)); (try (conv => whnf))))
     refine Idx.mk k (IV.sl 8 x) _ rfl (by simp [hx]) rfl ?_
     (try (conv => whnf)); (repeat ((first | refine qT ?_ | refine qF ?_ | refine qO ?_ | (with_reducible intro z hz); (first | (replace hz := hz (by omega); subst hz) | subst hz)); (try (conv => whnf))))
     exact ⟨k + 1, by omega, by dsimp only; omega, ((WeakA.row 0 ((Ls.take (k + 1)).flatten.map .imm) rfl (by rw [hfl]; simp))).trans ((WeakA.renew 0 1 rfl (by first | omega | (intro _; rw [hk0 _ _ rfl]; exact Nat.le_of_ble_eq_true rfl)) (by repeat (first | exact trivial | refine And.intro (rgL_imms _ _ _ _) ?_ | refine And.intro rfl ?_))).trans (qSL 1 rfl rfl))⟩
   | inr hge =>
     (try (conv => whnf)); (repeat ((first | refine qT ?_ | refine qF ?_ | refine qO ?_ | (with_reducible intro z hz); (first | (replace hz := hz (by omega); subst hz) | subst hz)); (try (conv => whnf))))
     obtain rfl : k = Ls.length := by omega
     exact hfin _ _ _ _ ((WeakA.row 0 (Ls.flatten.map .imm) rfl (by rw [List.take_length]))) rfl
end Go.Proofs.YtmnbobcgjnickaaGreatDoor.Pt
namespace Go.Proofs.YtmnbobcgjnickaaGreatDoor.Pt
open Go Go.Pv Go.RowKit
set_option linter.unusedSimpArgs false
open Lab Lcs Go.Proofs.YtmnbobcgjnickaaGreatDoor Go.Proofs.YtmnbobcgjnickaaGreatDoor.Pu
set_option maxRecDepth 10000
set_option maxHeartbeats 16000000
def _root_.Go.Proofs.YtmnbobcgjnickaaGreatDoor.Ut.withKids (u : Ut) (kids : List Ut) : Ut := .mk u.id u.kind u.label u.head u.words kids
def cutAt (j : Nat) (u : Ut) : Ut := Ut.withKids u (u.kids.take j ++ u.kids.drop (j + 1))
def insAt (j : Nat) (x : Ut) (u : Ut) : Ut := Ut.withKids u (u.kids.take j ++ [x] ++ u.kids.drop j)
theorem uv_with (u : Ut) (l : List Ut) : uv (Ut.withKids u l) = .agg [.int .i64 u.id.x, .int .i64 u.id.y, .int .i64 u.id.z, .int .i64 u.kind, .str u.label, .sl 4 (u.head.map wdv), .sl 4 (u.words.map wdv), .sl 8 (l.map uv)] := uv_mk _ _ _ _ _ _
theorem cutc_pcb (j : Nat) (u : Ut) (hj : j < u.kids.length) (hc : u.kids.length ≤ 1000000) : PCB Tryz.prog env0 70 [.imm (uv u), .ptr 0 1 0] [.box 1 [.imm (.int .i64 (j : Nat))]] [.imm (uv (cutAt j u))] [.box 1 [.imm (.int .i64 (j : Nat))]] := by
 have hue := uv_eq u
 have hml : (u.kids.map uv).length = u.kids.length := List.length_map _
 have hCo := (concat_pcr [(u.kids.map uv).take j, (u.kids.map uv).drop (j + 1)] (by simp) (by simp [lensL]; omega)).pc
 have hfl : [(u.kids.map uv).take j, (u.kids.map uv).drop (j + 1)].flatten = (u.kids.take j ++ u.kids.drop (j + 1)).map uv := by simp [List.map_take, List.map_drop]
 rw [hfl] at hCo
 unfold cutAt
 rw [uv_with]
 rw [hue]
 refine PCB.of_va (T := tb0) eqs_ok tb_ok rfl mixed Tryz.func70 rfl rfl rfl (Nat.le_of_ble_eq_true rfl) rfl ?_; intro Γ C WK LP fin h0 hk0 hW hC hB hR hLP hfin
 (try (conv => whnf)); (repeat ((first | refine qT ?_ | refine qF ?_ | refine qO ?_ | (with_reducible intro z hz); (first | (replace hz := hz (by omega); subst hz) | subst hz)); (try (conv => whnf))))
 refine DeepK.mk [.sl 8 ((u.kids.map uv).take j), .sl 8 ((u.kids.map uv).drop (j + 1))] [] ?_ rfl rfl ?_
 · rw [show ((j : Int) + 1).toNat = j + 1 by omega]
   simp only [Int.toNat_natCast, Int.toNat_zero, Nat.sub_zero, List.drop_zero]
   exact .imm (.imm .nil)
 (try (conv => whnf)); (repeat ((first | refine qT ?_ | refine qF ?_ | refine qO ?_ | (with_reducible intro z hz); (first | (replace hz := hz (by omega); subst hz) | subst hz) | (refine CallV.mk _ (hC _ _ _ (PCw.of hCo)) (fun js hjs => ?_); subst hjs)); (try (conv => whnf))))
 exact hfin _ (qSL 1 rfl rfl)
end Go.Proofs.YtmnbobcgjnickaaGreatDoor.Pt
namespace Go.Proofs.YtmnbobcgjnickaaGreatDoor.Pt
open Go Go.Pv Go.RowKit
set_option linter.unusedSimpArgs false
open Lab Lcs Go.Proofs.YtmnbobcgjnickaaGreatDoor Go.Proofs.YtmnbobcgjnickaaGreatDoor.Pu
set_option maxRecDepth 10000
set_option maxHeartbeats 16000000
theorem insc_pcb (j : Nat) (x u : Ut) (hj : j ≤ u.kids.length) (hc : u.kids.length ≤ 1000000) : PCB Tryz.prog env0 64 [.imm (uv u), .ptr 0 1 0, .ptr 1 1 0] [.box 1 [.imm (.int .i64 (j : Nat))], .box 1 [.imm (.int .i64 x.id.x), .imm (.int .i64 x.id.y), .imm (.int .i64 x.id.z), .imm (.int .i64 x.kind), .imm (.str x.label), .imm (.sl 4 (x.head.map wdv)), .imm (.sl 4 (x.words.map wdv)), .imm (.sl 8 (x.kids.map uv))]] [.imm (uv (insAt j x u))] [.box 1 [.imm (.int .i64 (j : Nat))], .box 1 [.imm (.int .i64 x.id.x), .imm (.int .i64 x.id.y), .imm (.int .i64 x.id.z), .imm (.int .i64 x.kind), .imm (.str x.label), .imm (.sl 4 (x.head.map wdv)), .imm (.sl 4 (x.words.map wdv)), .imm (.sl 8 (x.kids.map uv))]] := by
 have hue := uv_eq u
 have hux := uv_eq x
 have hml : (u.kids.map uv).length = u.kids.length := List.length_map _
 have hCo := (concat_pcr [(u.kids.map uv).take j, [uv x], (u.kids.map uv).drop j] (by simp) (by simp [lensL]; omega)).pc
 have hfl : [(u.kids.map uv).take j, [uv x], (u.kids.map uv).drop j].flatten = (u.kids.take j ++ [x] ++ u.kids.drop j).map uv := by simp [List.map_take, List.map_drop]
 rw [hfl] at hCo
 unfold insAt
 rw [uv_with]
 rw [hue]
 simp only [List.map_cons, List.map_nil] at hCo
 refine PCB.of_va (T := tb0) eqs_ok tb_ok rfl mixed Tryz.func64 rfl rfl rfl (Nat.le_of_ble_eq_true rfl) rfl ?_; intro Γ C WK LP fin h0 hk0 hW hC hB hR hLP hfin
 (try (conv => whnf)); (repeat ((first | refine qT ?_ | refine qF ?_ | refine qO ?_ | (with_reducible intro z hz); (first | (replace hz := hz (by omega); subst hz) | subst hz)); (try (conv => whnf))))
 refine DeepK.mk [.sl 8 ((u.kids.map uv).take j), .sl 8 [uv x], .sl 8 ((u.kids.map uv).drop j)] [(4, .dead 1)] ?_ rfl rfl ?_
 · simp only [Int.toNat_natCast, Int.toNat_zero, Nat.sub_zero, List.drop_zero, hux]
   exact .imm (.row rfl rfl rfl (.imm .nil))
 (try (conv => whnf)); (repeat ((first | refine qT ?_ | refine qF ?_ | refine qO ?_ | (with_reducible intro z hz); (first | (replace hz := hz (by omega); subst hz) | subst hz) | (refine CallV.mk _ (hC _ _ _ (PCw.of hCo)) (fun js hjs => ?_); subst hjs)); (try (conv => whnf))))
 exact hfin _ (qSL 2 rfl rfl)
end Go.Proofs.YtmnbobcgjnickaaGreatDoor.Pt
namespace Go.Proofs.YtmnbobcgjnickaaGreatDoor.Pt
open Go Go.Pv Go.RowKit
set_option linter.unusedSimpArgs false
open Lab Lcs Go.Proofs.YtmnbobcgjnickaaGreatDoor Go.Proofs.YtmnbobcgjnickaaGreatDoor.Pu
set_option maxRecDepth 10000
set_option maxHeartbeats 16000000
def editN (id : Trip) (f : Ut → Ut) : Nat → Ut → Ut
 | 0, u => u
 | n + 1, u => Ut.withKids (if u.id = id then f u else u) ((if u.id = id then f u else u).kids.map (editN id f n))
def EdOk (id : Trip) (f : Ut → Ut) (D : Ut → Prop) : Nat → Ut → Prop
 | 0, _ => False
 | n + 1, u => (u.id = id → D u) ∧ ((if u.id = id then f u else u).head.length ≤ 1000000 ∧ (if u.id = id then f u else u).words.length ≤ 1000000 ∧ (if u.id = id then f u else u).kids.length ≤ 1000000) ∧ ∀ k ∈ (if u.id = id then f u else u).kids, EdOk id f D n k
theorem id_eq {a b : Trip} (h : a = b) : eqC [.int .i64 a.x, .int .i64 a.y, .int .i64 a.z] [.int .i64 b.x, .int .i64 b.y, .int .i64 b.z] = true := by subst h; simp [eqC]
theorem id_ne {a b : Trip} (h : a ≠ b) : ¬ eqC [.int .i64 a.x, .int .i64 a.y, .int .i64 a.z] [.int .i64 b.x, .int .i64 b.y, .int .i64 b.z] = true := fun e => h (by cases a; cases b; simpa [eqC] using e)
theorem set_step {g : Ut → Ut} {l : List Ut} {k : Nat} {x : Ut} (hx : l[k]? = some x) : ((((l.take k).map g ++ l.drop k).map uv).map PV.imm).set k (.imm (uv (g x))) = ((((l.take (k + 1)).map g ++ l.drop (k + 1)).map uv).map PV.imm) := by
 obtain ⟨hk, he⟩ := List.getElem?_eq_some_iff.1 hx
 have h1 : ((l.take k).map g).length = k := by rw [List.length_map, List.length_take]; omega
 have h2 : l.drop k = x :: l.drop (k + 1) := by rw [← he]; exact List.drop_eq_getElem_cons hk
 have h3 : ((l.take k).map g ++ l.drop k).set k (g x) = (l.take (k + 1)).map g ++ l.drop (k + 1) := by
   rw [List.set_append_right _ _ (by omega), h1, h2, Nat.sub_self, List.set_cons_zero, take_at hx, List.map_append, List.append_assoc]
   rfl
 rw [← h3, List.map_set, List.map_set]
end Go.Proofs.YtmnbobcgjnickaaGreatDoor.Pt
namespace Go.Proofs.YtmnbobcgjnickaaGreatDoor.Pt
open Go Go.Pv Go.RowKit
set_option linter.unusedSimpArgs false
open Lab Lcs Go.Proofs.YtmnbobcgjnickaaGreatDoor Go.Proofs.YtmnbobcgjnickaaGreatDoor.Pu
set_option maxRecDepth 10000
set_option maxHeartbeats 16000000
theorem edit_cut (id : Trip) (f : Ut → Ut) (D : Ut → Prop) (j : Nat) (hf : ∀ y, D y → PCB Tryz.prog env0 70 (.imm (uv y) :: [.ptr 0 1 0]) [.box 1 [.imm (.int .i64 (j : Nat))]] [.imm (uv (f y))] [.box 1 [.imm (.int .i64 (j : Nat))]]) (n : Nat) : ∀ u : Ut, EdOk id f D n u → PCB Tryz.prog env0 47 [.imm (uv u), .imm (idv id), .clo 70 [.ptr 0 1 0]] [.box 1 [.imm (.int .i64 (j : Nat))]] [.imm (uv (editN id f n u))] [.box 1 [.imm (.int .i64 (j : Nat))]] := by
 induction n with
 | zero => intro u h; exact h.elim
 | succ n ih =>
 intro u hok
 obtain ⟨hD, hsz, hks⟩ := hok
 rw [editN, uv_with]
 have hue := uv_eq u
 by_cases h : u.id = id
 · have hi := id_eq h
   have hF := hf u (hD h)
   rw [if_pos h] at hsz hks ⊢
   generalize f u = v at hsz hks hF ⊢
   obtain ⟨hz1, hz2, hz3⟩ := hsz
   rw [hue, uv_eq v] at hF
   have hml : (v.kids.map uv).length = v.kids.length := List.length_map _
   have hl1 : (v.head.map wdv).length = v.head.length := List.length_map _
   have hl2 : (v.words.map wdv).length = v.words.length := List.length_map _
   have hA := (cloneW_pcr (X := env0) (v.head.map wdv) (by omega)).pc
   have hB' := (cloneW_pcr (X := env0) (v.words.map wdv) (by omega)).pc
   have hK' := cloneU_pcr (X := env0) (v.kids.map uv) (by omega)
   rw [hue]
   refine PCB.of_va (T := tb0) eqs_ok tb_ok rfl mixed Tryz.func47 rfl rfl rfl (Nat.le_of_ble_eq_true rfl) rfl ?_; intro Γ C WK LP fin h0 hk0 hW hC hB hR hLP hfin
   (try (conv => whnf)); (repeat ((first | refine qT ?_ | refine qF ?_ | refine qO ?_ | (with_reducible intro z hz); (first | (replace hz := hz (by omega); subst hz) | subst hz)); (try (conv => whnf))))
   refine CallB.mk ([.imm (.agg [.int .i64 v.id.x, .int .i64 v.id.y, .int .i64 v.id.z, .int .i64 v.kind, .str v.label, .sl 4 (v.head.map wdv), .sl 4 (v.words.map wdv), .sl 8 (v.kids.map uv)])]) ([.box 1 [.imm (.int .i64 (j : Nat))]]) (hB _ _ _ _ _ (hF)) ?_
   (try (conv => whnf)); (repeat ((first | refine qT ?_ | refine qF ?_ | refine qO ?_ | (with_reducible intro z hz); (first | (replace hz := hz (by omega); subst hz) | subst hz) | (refine CallV.mk _ (hC _ _ _ (PCw.of hA)) (fun js hjs => ?_); subst hjs) | (refine CallV.mk _ (hC _ _ _ (PCw.of hB')) (fun js hjs => ?_); subst hjs)); (try (conv => whnf))))
   refine CallV.row _ _ _ (hR _ _ _ _ _ (PCRw.of (hK'))) (fun js hjs => ?_); subst hjs
   (try (conv => whnf)); (repeat ((first | refine qT ?_ | refine qF ?_ | refine qO ?_ | (with_reducible intro z hz); (first | (replace hz := hz (by omega); subst hz) | subst hz)); (try (conv => whnf))))
   refine hLP _ _ _ Nat (fun k => ⟨[(2, .clo 70 [.ptr 0 1 0]), (3, .ptr 1 1 0), (4, .ptr 2 1 0), (6, .ptr 3 1 0), (29, .row 7 1), (30, .imm (.int .i64 (v.kids.length : Nat))), (31, .imm (.int .i64 (k : Nat)))], [.box 1 [.imm (.int .i64 (j : Nat))], .box 1 [.imm (.int .i64 v.id.x), .imm (.int .i64 v.id.y), .imm (.int .i64 v.id.z), .imm (.int .i64 v.kind), .imm (.str v.label), .imm (.sl 4 (v.head.map wdv)), .imm (.sl 4 (v.words.map wdv)), .row 7 1], .box 1 [.imm (.int .i64 id.x), .imm (.int .i64 id.y), .imm (.int .i64 id.z)], .box 1 [.imm (.int .i64 0), .imm (.int .i64 0), .imm (.int .i64 0), .imm (.int .i64 0), .imm (.str ⟨#[]⟩), .imm .nil, .imm .nil, .imm .nil], .dead 0, .dead 0, .dead 0, .row 27 8 1 ((((v.kids.take k).map (editN id f n) ++ v.kids.drop k).map uv).map PV.imm)]⟩) (fun k => k ≤ v.kids.length) (fun k => v.kids.length - k) 0 (Nat.zero_le _) (((WeakA.row 7 ((((v.kids.take 0).map (editN id f n) ++ v.kids.drop 0).map uv).map .imm) rfl (by simp))).trans ((qSL 8 rfl rfl (hE := by (repeat ((conv => whnf); first | exact trivial | refine And.intro (by first | exact WkOne.any | exact WkOne.eq (by with_reducible rfl) rfl | exact WkOne.eq (congrArg (fun z => PV.imm (IV.int IntKind.i64 z)) (by first | omega | (simp [hml, List.length_map]; done) | (simp [hml, List.length_map]; omega))) rfl | exact WkOne.eq (by first | (simp [hml, List.length_map]; done) | fail) rfl | exact WkOne.eq rfl rfl | exact WkOne.le rfl (ILe.nil _)) ?_)))))) ?_
   intro k hk
   have hho := Nat.lt_or_ge k v.kids.length
   cases hho with
   | inl hlt =>
     obtain ⟨x, hx⟩ : ∃ x, v.kids[k]? = some x := ⟨v.kids[k], List.getElem?_eq_getElem hlt⟩
     have hux := uv_eq x
     have hI := ih x (hks x (List.mem_of_getElem? hx))
     have hRl : (((((v.kids.take k).map (editN id f n) ++ v.kids.drop k).map uv).map PV.imm)).length = v.kids.length := by simp; omega
     rw [hux] at hI
     generalize hy : editN id f n x = y at hI
     rw [uv_eq y] at hI
     have hat : (((v.kids.take k).map (editN id f n) ++ v.kids.drop k).map uv)[k]? = some (uv x) := by
       rw [List.getElem?_map, List.getElem?_append_right (by simp; omega)]
       simp [hx, Nat.min_eq_left (Nat.le_of_lt hlt)]
     (try (conv => whnf)); (repeat ((first | refine qT ?_ | refine qF ?_ | refine qO ?_ | (with_reducible intro z hz); (first | (replace hz := hz (by omega); subst hz) | subst hz)); (try (conv => whnf))))
     refine Pos.mk k rfl (by omega) ?_
     (try (conv => whnf)); (repeat ((first | refine qT ?_ | refine qF ?_ | refine qO ?_ | (with_reducible intro z hz); (first | (replace hz := hz (by omega); subst hz) | subst hz)); (try (conv => whnf))))
     refine At.mk (.imm (uv x)) (by rw [List.getElem?_map, hat]; rfl) ?_
     rw [hux]
     (try (conv => whnf)); (repeat ((first | refine qT ?_ | refine qF ?_ | refine qO ?_ | (with_reducible intro z hz); (first | (replace hz := hz (by omega); subst hz) | subst hz)); (try (conv => whnf))))
     refine CallB.mk ([.imm (.agg [.int .i64 y.id.x, .int .i64 y.id.y, .int .i64 y.id.z, .int .i64 y.kind, .str y.label, .sl 4 (y.head.map wdv), .sl 4 (y.words.map wdv), .sl 8 (y.kids.map uv)])]) ([.box 1 [.imm (.int .i64 (j : Nat))]]) (hB _ _ _ _ _ (hI)) ?_
     (try (conv => whnf)); (repeat ((first | refine qT ?_ | refine qF ?_ | refine qO ?_ | (with_reducible intro z hz); (first | (replace hz := hz (by omega); subst hz) | subst hz)); (try (conv => whnf))))
     refine Pos.mk k rfl (by omega) ?_
     (try (conv => whnf)); (repeat ((first | refine qT ?_ | refine qF ?_ | refine qO ?_ | (with_reducible intro z hz); (first | (replace hz := hz (by omega); subst hz) | subst hz)); (try (conv => whnf))))
     refine At.mk (.imm (uv x)) (by rw [List.getElem?_map, hat]; rfl) ?_
     rw [hux]
     (try (conv => whnf)); (repeat ((first | refine qT ?_ | refine qF ?_ | refine qO ?_ | (with_reducible intro z hz); (first | (replace hz := hz (by omega); subst hz) | subst hz)); (try (conv => whnf))))
     exact ⟨k + 1, by omega, by dsimp only; omega, ((WeakA.row 7 ((((v.kids.take (k + 1)).map (editN id f n) ++ v.kids.drop (k + 1)).map uv).map .imm) rfl (by rw [← set_step hx, hy, uv_eq y]; rfl))).trans (qSL 8 rfl rfl)⟩
   | inr hge =>
     (try (conv => whnf)); (repeat ((first | refine qT ?_ | refine qF ?_ | refine qO ?_ | (with_reducible intro z hz); (first | (replace hz := hz (by omega); subst hz) | subst hz)); (try (conv => whnf))))
     obtain rfl : k = v.kids.length := by omega
     exact hfin _ ((WeakA.frz 7 ((v.kids.map (editN id f n)).map uv) rfl (by rw [List.take_length, List.drop_length, List.append_nil]) (ILe.refl _)).trans (qSL 1 rfl rfl))
 · have hi := id_ne h
   rw [if_neg h] at hsz hks ⊢
   obtain ⟨hz1, hz2, hz3⟩ := hsz
   have hml : (u.kids.map uv).length = u.kids.length := List.length_map _
   have hl1 : (u.head.map wdv).length = u.head.length := List.length_map _
   have hl2 : (u.words.map wdv).length = u.words.length := List.length_map _
   have hA := (cloneW_pcr (X := env0) (u.head.map wdv) (by omega)).pc
   have hB' := (cloneW_pcr (X := env0) (u.words.map wdv) (by omega)).pc
   have hK' := cloneU_pcr (X := env0) (u.kids.map uv) (by omega)
   rw [hue]
   refine PCB.of_va (T := tb0) eqs_ok tb_ok rfl mixed Tryz.func47 rfl rfl rfl (Nat.le_of_ble_eq_true rfl) rfl ?_; intro Γ C WK LP fin h0 hk0 hW hC hB hR hLP hfin
   (try (conv => whnf)); (repeat ((first | refine qT ?_ | refine qF ?_ | refine qO ?_ | (with_reducible intro z hz); (first | (replace hz := hz (by omega); subst hz) | subst hz) | (refine CallV.mk _ (hC _ _ _ (PCw.of hA)) (fun js hjs => ?_); subst hjs) | (refine CallV.mk _ (hC _ _ _ (PCw.of hB')) (fun js hjs => ?_); subst hjs)); (try (conv => whnf))))
   refine CallV.row _ _ _ (hR _ _ _ _ _ (PCRw.of (hK'))) (fun js hjs => ?_); subst hjs
   (try (conv => whnf)); (repeat ((first | refine qT ?_ | refine qF ?_ | refine qO ?_ | (with_reducible intro z hz); (first | (replace hz := hz (by omega); subst hz) | subst hz)); (try (conv => whnf))))
   refine hLP _ _ _ Nat (fun k => ⟨[(2, .clo 70 [.ptr 0 1 0]), (3, .ptr 1 1 0), (4, .ptr 2 1 0), (6, .ptr 3 1 0), (29, .row 6 1), (30, .imm (.int .i64 (u.kids.length : Nat))), (31, .imm (.int .i64 (k : Nat)))], [.box 1 [.imm (.int .i64 (j : Nat))], .box 1 [.imm (.int .i64 u.id.x), .imm (.int .i64 u.id.y), .imm (.int .i64 u.id.z), .imm (.int .i64 u.kind), .imm (.str u.label), .imm (.sl 4 (u.head.map wdv)), .imm (.sl 4 (u.words.map wdv)), .row 6 1], .box 1 [.imm (.int .i64 id.x), .imm (.int .i64 id.y), .imm (.int .i64 id.z)], .box 1 [.imm (.int .i64 0), .imm (.int .i64 0), .imm (.int .i64 0), .imm (.int .i64 0), .imm (.str ⟨#[]⟩), .imm .nil, .imm .nil, .imm .nil], .dead 0, .dead 0, .row 27 8 1 ((((u.kids.take k).map (editN id f n) ++ u.kids.drop k).map uv).map PV.imm)]⟩) (fun k => k ≤ u.kids.length) (fun k => u.kids.length - k) 0 (Nat.zero_le _) (((WeakA.row 6 ((((u.kids.take 0).map (editN id f n) ++ u.kids.drop 0).map uv).map .imm) rfl (by simp))).trans ((qSL 7 rfl rfl (hE := by (repeat ((conv => whnf); first | exact trivial | refine And.intro (by first | exact WkOne.any | exact WkOne.eq (by with_reducible rfl) rfl | exact WkOne.eq (congrArg (fun z => PV.imm (IV.int IntKind.i64 z)) (by first | omega | (simp [hml, List.length_map]; done) | (simp [hml, List.length_map]; omega))) rfl | exact WkOne.eq (by first | (simp [hml, List.length_map]; done) | fail) rfl | exact WkOne.eq rfl rfl | exact WkOne.le rfl (ILe.nil _)) ?_)))))) ?_
   intro k hk
   have hho := Nat.lt_or_ge k u.kids.length
   cases hho with
   | inl hlt =>
     obtain ⟨x, hx⟩ : ∃ x, u.kids[k]? = some x := ⟨u.kids[k], List.getElem?_eq_getElem hlt⟩
     have hux := uv_eq x
     have hI := ih x (hks x (List.mem_of_getElem? hx))
     have hRl : (((((u.kids.take k).map (editN id f n) ++ u.kids.drop k).map uv).map PV.imm)).length = u.kids.length := by simp; omega
     rw [hux] at hI
     generalize hy : editN id f n x = y at hI
     rw [uv_eq y] at hI
     have hat : (((u.kids.take k).map (editN id f n) ++ u.kids.drop k).map uv)[k]? = some (uv x) := by
       rw [List.getElem?_map, List.getElem?_append_right (by simp; omega)]
       simp [hx, Nat.min_eq_left (Nat.le_of_lt hlt)]
     (try (conv => whnf)); (repeat ((first | refine qT ?_ | refine qF ?_ | refine qO ?_ | (with_reducible intro z hz); (first | (replace hz := hz (by omega); subst hz) | subst hz)); (try (conv => whnf))))
     refine Pos.mk k rfl (by omega) ?_
     (try (conv => whnf)); (repeat ((first | refine qT ?_ | refine qF ?_ | refine qO ?_ | (with_reducible intro z hz); (first | (replace hz := hz (by omega); subst hz) | subst hz)); (try (conv => whnf))))
     refine At.mk (.imm (uv x)) (by rw [List.getElem?_map, hat]; rfl) ?_
     rw [hux]
     (try (conv => whnf)); (repeat ((first | refine qT ?_ | refine qF ?_ | refine qO ?_ | (with_reducible intro z hz); (first | (replace hz := hz (by omega); subst hz) | subst hz)); (try (conv => whnf))))
     refine CallB.mk ([.imm (.agg [.int .i64 y.id.x, .int .i64 y.id.y, .int .i64 y.id.z, .int .i64 y.kind, .str y.label, .sl 4 (y.head.map wdv), .sl 4 (y.words.map wdv), .sl 8 (y.kids.map uv)])]) ([.box 1 [.imm (.int .i64 (j : Nat))]]) (hB _ _ _ _ _ (hI)) ?_
     (try (conv => whnf)); (repeat ((first | refine qT ?_ | refine qF ?_ | refine qO ?_ | (with_reducible intro z hz); (first | (replace hz := hz (by omega); subst hz) | subst hz)); (try (conv => whnf))))
     refine Pos.mk k rfl (by omega) ?_
     (try (conv => whnf)); (repeat ((first | refine qT ?_ | refine qF ?_ | refine qO ?_ | (with_reducible intro z hz); (first | (replace hz := hz (by omega); subst hz) | subst hz)); (try (conv => whnf))))
     refine At.mk (.imm (uv x)) (by rw [List.getElem?_map, hat]; rfl) ?_
     rw [hux]
     (try (conv => whnf)); (repeat ((first | refine qT ?_ | refine qF ?_ | refine qO ?_ | (with_reducible intro z hz); (first | (replace hz := hz (by omega); subst hz) | subst hz)); (try (conv => whnf))))
     exact ⟨k + 1, by omega, by dsimp only; omega, ((WeakA.row 6 ((((u.kids.take (k + 1)).map (editN id f n) ++ u.kids.drop (k + 1)).map uv).map .imm) rfl (by rw [← set_step hx, hy, uv_eq y]; rfl))).trans (qSL 7 rfl rfl)⟩
   | inr hge =>
     (try (conv => whnf)); (repeat ((first | refine qT ?_ | refine qF ?_ | refine qO ?_ | (with_reducible intro z hz); (first | (replace hz := hz (by omega); subst hz) | subst hz)); (try (conv => whnf))))
     obtain rfl : k = u.kids.length := by omega
     exact hfin _ ((WeakA.frz 6 ((u.kids.map (editN id f n)).map uv) rfl (by rw [List.take_length, List.drop_length, List.append_nil]) (ILe.refl _)).trans (qSL 1 rfl rfl))
end Go.Proofs.YtmnbobcgjnickaaGreatDoor.Pt
namespace Go.Proofs.YtmnbobcgjnickaaGreatDoor.Pt
open Go Go.Pv Go.RowKit
set_option linter.unusedSimpArgs false
open Lab Lcs Go.Proofs.YtmnbobcgjnickaaGreatDoor Go.Proofs.YtmnbobcgjnickaaGreatDoor.Pu
set_option maxRecDepth 10000
set_option maxHeartbeats 16000000
theorem edit_ins (id : Trip) (f : Ut → Ut) (D : Ut → Prop) (j : Nat) (x0 : Ut) (hf : ∀ y, D y → PCB Tryz.prog env0 64 (.imm (uv y) :: [.ptr 0 1 0, .ptr 1 1 0]) [.box 1 [.imm (.int .i64 (j : Nat))], .box 1 [.imm (.int .i64 x0.id.x), .imm (.int .i64 x0.id.y), .imm (.int .i64 x0.id.z), .imm (.int .i64 x0.kind), .imm (.str x0.label), .imm (.sl 4 (x0.head.map wdv)), .imm (.sl 4 (x0.words.map wdv)), .imm (.sl 8 (x0.kids.map uv))]] [.imm (uv (f y))] [.box 1 [.imm (.int .i64 (j : Nat))], .box 1 [.imm (.int .i64 x0.id.x), .imm (.int .i64 x0.id.y), .imm (.int .i64 x0.id.z), .imm (.int .i64 x0.kind), .imm (.str x0.label), .imm (.sl 4 (x0.head.map wdv)), .imm (.sl 4 (x0.words.map wdv)), .imm (.sl 8 (x0.kids.map uv))]]) (n : Nat) : ∀ u : Ut, EdOk id f D n u → PCB Tryz.prog env0 47 [.imm (uv u), .imm (idv id), .clo 64 [.ptr 0 1 0, .ptr 1 1 0]] [.box 1 [.imm (.int .i64 (j : Nat))], .box 1 [.imm (.int .i64 x0.id.x), .imm (.int .i64 x0.id.y), .imm (.int .i64 x0.id.z), .imm (.int .i64 x0.kind), .imm (.str x0.label), .imm (.sl 4 (x0.head.map wdv)), .imm (.sl 4 (x0.words.map wdv)), .imm (.sl 8 (x0.kids.map uv))]] [.imm (uv (editN id f n u))] [.box 1 [.imm (.int .i64 (j : Nat))], .box 1 [.imm (.int .i64 x0.id.x), .imm (.int .i64 x0.id.y), .imm (.int .i64 x0.id.z), .imm (.int .i64 x0.kind), .imm (.str x0.label), .imm (.sl 4 (x0.head.map wdv)), .imm (.sl 4 (x0.words.map wdv)), .imm (.sl 8 (x0.kids.map uv))]] := by
 induction n with
 | zero => intro u h; exact h.elim
 | succ n ih =>
 intro u hok
 obtain ⟨hD, hsz, hks⟩ := hok
 rw [editN, uv_with]
 have hue := uv_eq u
 by_cases h : u.id = id
 · have hi := id_eq h
   have hF := hf u (hD h)
   rw [if_pos h] at hsz hks ⊢
   generalize f u = v at hsz hks hF ⊢
   obtain ⟨hz1, hz2, hz3⟩ := hsz
   rw [hue, uv_eq v] at hF
   have hml : (v.kids.map uv).length = v.kids.length := List.length_map _
   have hl1 : (v.head.map wdv).length = v.head.length := List.length_map _
   have hl2 : (v.words.map wdv).length = v.words.length := List.length_map _
   have hA := (cloneW_pcr (X := env0) (v.head.map wdv) (by omega)).pc
   have hB' := (cloneW_pcr (X := env0) (v.words.map wdv) (by omega)).pc
   have hK' := cloneU_pcr (X := env0) (v.kids.map uv) (by omega)
   rw [hue]
   refine PCB.of_va (T := tb0) eqs_ok tb_ok rfl mixed Tryz.func47 rfl rfl rfl (Nat.le_of_ble_eq_true rfl) rfl ?_; intro Γ C WK LP fin h0 hk0 hW hC hB hR hLP hfin
   (try (conv => whnf)); (repeat ((first | refine qT ?_ | refine qF ?_ | refine qO ?_ | (with_reducible intro z hz); (first | (replace hz := hz (by omega); subst hz) | subst hz)); (try (conv => whnf))))
   refine CallB.mk ([.imm (.agg [.int .i64 v.id.x, .int .i64 v.id.y, .int .i64 v.id.z, .int .i64 v.kind, .str v.label, .sl 4 (v.head.map wdv), .sl 4 (v.words.map wdv), .sl 8 (v.kids.map uv)])]) ([.box 1 [.imm (.int .i64 (j : Nat))], .box 1 [.imm (.int .i64 x0.id.x), .imm (.int .i64 x0.id.y), .imm (.int .i64 x0.id.z), .imm (.int .i64 x0.kind), .imm (.str x0.label), .imm (.sl 4 (x0.head.map wdv)), .imm (.sl 4 (x0.words.map wdv)), .imm (.sl 8 (x0.kids.map uv))]]) (hB _ _ _ _ _ (hF)) ?_
   (try (conv => whnf)); (repeat ((first | refine qT ?_ | refine qF ?_ | refine qO ?_ | (with_reducible intro z hz); (first | (replace hz := hz (by omega); subst hz) | subst hz) | (refine CallV.mk _ (hC _ _ _ (PCw.of hA)) (fun js hjs => ?_); subst hjs) | (refine CallV.mk _ (hC _ _ _ (PCw.of hB')) (fun js hjs => ?_); subst hjs)); (try (conv => whnf))))
   refine CallV.row _ _ _ (hR _ _ _ _ _ (PCRw.of (hK'))) (fun js hjs => ?_); subst hjs
   (try (conv => whnf)); (repeat ((first | refine qT ?_ | refine qF ?_ | refine qO ?_ | (with_reducible intro z hz); (first | (replace hz := hz (by omega); subst hz) | subst hz)); (try (conv => whnf))))
   refine hLP _ _ _ Nat (fun k => ⟨[(2, .clo 64 [.ptr 0 1 0, .ptr 1 1 0]), (3, .ptr 2 1 0), (4, .ptr 3 1 0), (6, .ptr 4 1 0), (29, .row 8 1), (30, .imm (.int .i64 (v.kids.length : Nat))), (31, .imm (.int .i64 (k : Nat)))], [.box 1 [.imm (.int .i64 (j : Nat))], .box 1 [.imm (.int .i64 x0.id.x), .imm (.int .i64 x0.id.y), .imm (.int .i64 x0.id.z), .imm (.int .i64 x0.kind), .imm (.str x0.label), .imm (.sl 4 (x0.head.map wdv)), .imm (.sl 4 (x0.words.map wdv)), .imm (.sl 8 (x0.kids.map uv))], .box 1 [.imm (.int .i64 v.id.x), .imm (.int .i64 v.id.y), .imm (.int .i64 v.id.z), .imm (.int .i64 v.kind), .imm (.str v.label), .imm (.sl 4 (v.head.map wdv)), .imm (.sl 4 (v.words.map wdv)), .row 8 1], .box 1 [.imm (.int .i64 id.x), .imm (.int .i64 id.y), .imm (.int .i64 id.z)], .box 1 [.imm (.int .i64 0), .imm (.int .i64 0), .imm (.int .i64 0), .imm (.int .i64 0), .imm (.str ⟨#[]⟩), .imm .nil, .imm .nil, .imm .nil], .dead 0, .dead 0, .dead 0, .row 27 8 1 ((((v.kids.take k).map (editN id f n) ++ v.kids.drop k).map uv).map PV.imm)]⟩) (fun k => k ≤ v.kids.length) (fun k => v.kids.length - k) 0 (Nat.zero_le _) (((WeakA.row 8 ((((v.kids.take 0).map (editN id f n) ++ v.kids.drop 0).map uv).map .imm) rfl (by simp))).trans ((qSL 9 rfl rfl (hE := by (repeat ((conv => whnf); first | exact trivial | refine And.intro (by first | exact WkOne.any | exact WkOne.eq (by with_reducible rfl) rfl | exact WkOne.eq (congrArg (fun z => PV.imm (IV.int IntKind.i64 z)) (by first | omega | (simp [hml, List.length_map]; done) | (simp [hml, List.length_map]; omega))) rfl | exact WkOne.eq (by first | (simp [hml, List.length_map]; done) | fail) rfl | exact WkOne.eq rfl rfl | exact WkOne.le rfl (ILe.nil _)) ?_)))))) ?_
   intro k hk
   have hho := Nat.lt_or_ge k v.kids.length
   cases hho with
   | inl hlt =>
     obtain ⟨x, hx⟩ : ∃ x, v.kids[k]? = some x := ⟨v.kids[k], List.getElem?_eq_getElem hlt⟩
     have hux := uv_eq x
     have hI := ih x (hks x (List.mem_of_getElem? hx))
     have hRl : (((((v.kids.take k).map (editN id f n) ++ v.kids.drop k).map uv).map PV.imm)).length = v.kids.length := by simp; omega
     rw [hux] at hI
     generalize hy : editN id f n x = y at hI
     rw [uv_eq y] at hI
     have hat : (((v.kids.take k).map (editN id f n) ++ v.kids.drop k).map uv)[k]? = some (uv x) := by
       rw [List.getElem?_map, List.getElem?_append_right (by simp; omega)]
       simp [hx, Nat.min_eq_left (Nat.le_of_lt hlt)]
     (try (conv => whnf)); (repeat ((first | refine qT ?_ | refine qF ?_ | refine qO ?_ | (with_reducible intro z hz); (first | (replace hz := hz (by omega); subst hz) | subst hz)); (try (conv => whnf))))
     refine Pos.mk k rfl (by omega) ?_
     (try (conv => whnf)); (repeat ((first | refine qT ?_ | refine qF ?_ | refine qO ?_ | (with_reducible intro z hz); (first | (replace hz := hz (by omega); subst hz) | subst hz)); (try (conv => whnf))))
     refine At.mk (.imm (uv x)) (by rw [List.getElem?_map, hat]; rfl) ?_
     rw [hux]
     (try (conv => whnf)); (repeat ((first | refine qT ?_ | refine qF ?_ | refine qO ?_ | (with_reducible intro z hz); (first | (replace hz := hz (by omega); subst hz) | subst hz)); (try (conv => whnf))))
     refine CallB.mk ([.imm (.agg [.int .i64 y.id.x, .int .i64 y.id.y, .int .i64 y.id.z, .int .i64 y.kind, .str y.label, .sl 4 (y.head.map wdv), .sl 4 (y.words.map wdv), .sl 8 (y.kids.map uv)])]) ([.box 1 [.imm (.int .i64 (j : Nat))], .box 1 [.imm (.int .i64 x0.id.x), .imm (.int .i64 x0.id.y), .imm (.int .i64 x0.id.z), .imm (.int .i64 x0.kind), .imm (.str x0.label), .imm (.sl 4 (x0.head.map wdv)), .imm (.sl 4 (x0.words.map wdv)), .imm (.sl 8 (x0.kids.map uv))]]) (hB _ _ _ _ _ (hI)) ?_
     (try (conv => whnf)); (repeat ((first | refine qT ?_ | refine qF ?_ | refine qO ?_ | (with_reducible intro z hz); (first | (replace hz := hz (by omega); subst hz) | subst hz)); (try (conv => whnf))))
     refine Pos.mk k rfl (by omega) ?_
     (try (conv => whnf)); (repeat ((first | refine qT ?_ | refine qF ?_ | refine qO ?_ | (with_reducible intro z hz); (first | (replace hz := hz (by omega); subst hz) | subst hz)); (try (conv => whnf))))
     refine At.mk (.imm (uv x)) (by rw [List.getElem?_map, hat]; rfl) ?_
     rw [hux]
     (try (conv => whnf)); (repeat ((first | refine qT ?_ | refine qF ?_ | refine qO ?_ | (with_reducible intro z hz); (first | (replace hz := hz (by omega); subst hz) | subst hz)); (try (conv => whnf))))
     exact ⟨k + 1, by omega, by dsimp only; omega, ((WeakA.row 8 ((((v.kids.take (k + 1)).map (editN id f n) ++ v.kids.drop (k + 1)).map uv).map .imm) rfl (by rw [← set_step hx, hy, uv_eq y]; rfl))).trans (qSL 9 rfl rfl)⟩
   | inr hge =>
     (try (conv => whnf)); (repeat ((first | refine qT ?_ | refine qF ?_ | refine qO ?_ | (with_reducible intro z hz); (first | (replace hz := hz (by omega); subst hz) | subst hz)); (try (conv => whnf))))
     obtain rfl : k = v.kids.length := by omega
     exact hfin _ ((WeakA.frz 8 ((v.kids.map (editN id f n)).map uv) rfl (by rw [List.take_length, List.drop_length, List.append_nil]) (ILe.refl _)).trans (qSL 2 rfl rfl))
 · have hi := id_ne h
   rw [if_neg h] at hsz hks ⊢
   obtain ⟨hz1, hz2, hz3⟩ := hsz
   have hml : (u.kids.map uv).length = u.kids.length := List.length_map _
   have hl1 : (u.head.map wdv).length = u.head.length := List.length_map _
   have hl2 : (u.words.map wdv).length = u.words.length := List.length_map _
   have hA := (cloneW_pcr (X := env0) (u.head.map wdv) (by omega)).pc
   have hB' := (cloneW_pcr (X := env0) (u.words.map wdv) (by omega)).pc
   have hK' := cloneU_pcr (X := env0) (u.kids.map uv) (by omega)
   rw [hue]
   refine PCB.of_va (T := tb0) eqs_ok tb_ok rfl mixed Tryz.func47 rfl rfl rfl (Nat.le_of_ble_eq_true rfl) rfl ?_; intro Γ C WK LP fin h0 hk0 hW hC hB hR hLP hfin
   (try (conv => whnf)); (repeat ((first | refine qT ?_ | refine qF ?_ | refine qO ?_ | (with_reducible intro z hz); (first | (replace hz := hz (by omega); subst hz) | subst hz) | (refine CallV.mk _ (hC _ _ _ (PCw.of hA)) (fun js hjs => ?_); subst hjs) | (refine CallV.mk _ (hC _ _ _ (PCw.of hB')) (fun js hjs => ?_); subst hjs)); (try (conv => whnf))))
   refine CallV.row _ _ _ (hR _ _ _ _ _ (PCRw.of (hK'))) (fun js hjs => ?_); subst hjs
   (try (conv => whnf)); (repeat ((first | refine qT ?_ | refine qF ?_ | refine qO ?_ | (with_reducible intro z hz); (first | (replace hz := hz (by omega); subst hz) | subst hz)); (try (conv => whnf))))
   refine hLP _ _ _ Nat (fun k => ⟨[(2, .clo 64 [.ptr 0 1 0, .ptr 1 1 0]), (3, .ptr 2 1 0), (4, .ptr 3 1 0), (6, .ptr 4 1 0), (29, .row 7 1), (30, .imm (.int .i64 (u.kids.length : Nat))), (31, .imm (.int .i64 (k : Nat)))], [.box 1 [.imm (.int .i64 (j : Nat))], .box 1 [.imm (.int .i64 x0.id.x), .imm (.int .i64 x0.id.y), .imm (.int .i64 x0.id.z), .imm (.int .i64 x0.kind), .imm (.str x0.label), .imm (.sl 4 (x0.head.map wdv)), .imm (.sl 4 (x0.words.map wdv)), .imm (.sl 8 (x0.kids.map uv))], .box 1 [.imm (.int .i64 u.id.x), .imm (.int .i64 u.id.y), .imm (.int .i64 u.id.z), .imm (.int .i64 u.kind), .imm (.str u.label), .imm (.sl 4 (u.head.map wdv)), .imm (.sl 4 (u.words.map wdv)), .row 7 1], .box 1 [.imm (.int .i64 id.x), .imm (.int .i64 id.y), .imm (.int .i64 id.z)], .box 1 [.imm (.int .i64 0), .imm (.int .i64 0), .imm (.int .i64 0), .imm (.int .i64 0), .imm (.str ⟨#[]⟩), .imm .nil, .imm .nil, .imm .nil], .dead 0, .dead 0, .row 27 8 1 ((((u.kids.take k).map (editN id f n) ++ u.kids.drop k).map uv).map PV.imm)]⟩) (fun k => k ≤ u.kids.length) (fun k => u.kids.length - k) 0 (Nat.zero_le _) (((WeakA.row 7 ((((u.kids.take 0).map (editN id f n) ++ u.kids.drop 0).map uv).map .imm) rfl (by simp))).trans ((qSL 8 rfl rfl (hE := by (repeat ((conv => whnf); first | exact trivial | refine And.intro (by first | exact WkOne.any | exact WkOne.eq (by with_reducible rfl) rfl | exact WkOne.eq (congrArg (fun z => PV.imm (IV.int IntKind.i64 z)) (by first | omega | (simp [hml, List.length_map]; done) | (simp [hml, List.length_map]; omega))) rfl | exact WkOne.eq (by first | (simp [hml, List.length_map]; done) | fail) rfl | exact WkOne.eq rfl rfl | exact WkOne.le rfl (ILe.nil _)) ?_)))))) ?_
   intro k hk
   have hho := Nat.lt_or_ge k u.kids.length
   cases hho with
   | inl hlt =>
     obtain ⟨x, hx⟩ : ∃ x, u.kids[k]? = some x := ⟨u.kids[k], List.getElem?_eq_getElem hlt⟩
     have hux := uv_eq x
     have hI := ih x (hks x (List.mem_of_getElem? hx))
     have hRl : (((((u.kids.take k).map (editN id f n) ++ u.kids.drop k).map uv).map PV.imm)).length = u.kids.length := by simp; omega
     rw [hux] at hI
     generalize hy : editN id f n x = y at hI
     rw [uv_eq y] at hI
     have hat : (((u.kids.take k).map (editN id f n) ++ u.kids.drop k).map uv)[k]? = some (uv x) := by
       rw [List.getElem?_map, List.getElem?_append_right (by simp; omega)]
       simp [hx, Nat.min_eq_left (Nat.le_of_lt hlt)]
     (try (conv => whnf)); (repeat ((first | refine qT ?_ | refine qF ?_ | refine qO ?_ | (with_reducible intro z hz); (first | (replace hz := hz (by omega); subst hz) | subst hz)); (try (conv => whnf))))
     refine Pos.mk k rfl (by omega) ?_
     (try (conv => whnf)); (repeat ((first | refine qT ?_ | refine qF ?_ | refine qO ?_ | (with_reducible intro z hz); (first | (replace hz := hz (by omega); subst hz) | subst hz)); (try (conv => whnf))))
     refine At.mk (.imm (uv x)) (by rw [List.getElem?_map, hat]; rfl) ?_
     rw [hux]
     (try (conv => whnf)); (repeat ((first | refine qT ?_ | refine qF ?_ | refine qO ?_ | (with_reducible intro z hz); (first | (replace hz := hz (by omega); subst hz) | subst hz)); (try (conv => whnf))))
     refine CallB.mk ([.imm (.agg [.int .i64 y.id.x, .int .i64 y.id.y, .int .i64 y.id.z, .int .i64 y.kind, .str y.label, .sl 4 (y.head.map wdv), .sl 4 (y.words.map wdv), .sl 8 (y.kids.map uv)])]) ([.box 1 [.imm (.int .i64 (j : Nat))], .box 1 [.imm (.int .i64 x0.id.x), .imm (.int .i64 x0.id.y), .imm (.int .i64 x0.id.z), .imm (.int .i64 x0.kind), .imm (.str x0.label), .imm (.sl 4 (x0.head.map wdv)), .imm (.sl 4 (x0.words.map wdv)), .imm (.sl 8 (x0.kids.map uv))]]) (hB _ _ _ _ _ (hI)) ?_
     (try (conv => whnf)); (repeat ((first | refine qT ?_ | refine qF ?_ | refine qO ?_ | (with_reducible intro z hz); (first | (replace hz := hz (by omega); subst hz) | subst hz)); (try (conv => whnf))))
     refine Pos.mk k rfl (by omega) ?_
     (try (conv => whnf)); (repeat ((first | refine qT ?_ | refine qF ?_ | refine qO ?_ | (with_reducible intro z hz); (first | (replace hz := hz (by omega); subst hz) | subst hz)); (try (conv => whnf))))
     refine At.mk (.imm (uv x)) (by rw [List.getElem?_map, hat]; rfl) ?_
     rw [hux]
     (try (conv => whnf)); (repeat ((first | refine qT ?_ | refine qF ?_ | refine qO ?_ | (with_reducible intro z hz); (first | (replace hz := hz (by omega); subst hz) | subst hz)); (try (conv => whnf))))
     exact ⟨k + 1, by omega, by dsimp only; omega, ((WeakA.row 7 ((((u.kids.take (k + 1)).map (editN id f n) ++ u.kids.drop (k + 1)).map uv).map .imm) rfl (by rw [← set_step hx, hy, uv_eq y]; rfl))).trans (qSL 8 rfl rfl)⟩
   | inr hge =>
     (try (conv => whnf)); (repeat ((first | refine qT ?_ | refine qF ?_ | refine qO ?_ | (with_reducible intro z hz); (first | (replace hz := hz (by omega); subst hz) | subst hz)); (try (conv => whnf))))
     obtain rfl : k = u.kids.length := by omega
     exact hfin _ ((WeakA.frz 7 ((u.kids.map (editN id f n)).map uv) rfl (by rw [List.take_length, List.drop_length, List.append_nil]) (ILe.refl _)).trans (qSL 2 rfl rfl))
end Go.Proofs.YtmnbobcgjnickaaGreatDoor.Pt
namespace Go.Proofs.YtmnbobcgjnickaaGreatDoor.Pt
open Go Go.Pv Go.RowKit
set_option linter.unusedSimpArgs false
open Lab Lcs Go.Proofs.YtmnbobcgjnickaaGreatDoor Go.Proofs.YtmnbobcgjnickaaGreatDoor.Pu
set_option maxRecDepth 10000
set_option maxHeartbeats 16000000
def idxT (t : Trip) (l : List Trip) : Int := if t ∈ l then ((l.findIdx fun x => decide (x = t) : Nat) : Int) else -1
theorem idx_hit {t : Trip} {l : List Trip} {k : Nat} (hx : l[k]? = some t) (hp : ∀ x ∈ l.take k, x ≠ t) : idxT t l = k := by
 unfold idxT
 rw [if_pos (List.mem_of_getElem? hx)]
 obtain ⟨hk, he⟩ := List.getElem?_eq_some_iff.1 hx
 congr 1
 refine (List.findIdx_eq hk).2 ⟨by simp [he], fun j hj => ?_⟩
 have : l[j] ∈ l.take k := by rw [List.mem_take_iff_getElem]; exact ⟨j, by omega, rfl⟩
 simpa using hp _ this
theorem index_pc (t : Trip) (l : List Trip) (hl : l.length ≤ 100000000) : PC Tryz.prog env0 89 [.sl 3 (l.map idv), idv t] [.int .i64 (idxT t l)] := by
 have hml : (l.map idv).length = l.length := List.length_map _
 refine PC.of_va (T := tb0) eqs_ok tb_ok rfl mixed Tryz.func89 rfl rfl (Nat.le_of_ble_eq_true rfl) ?_; intro Γ C WK LP fin h0 hW hC hB hR hLP hfin
 (try (conv => whnf)); (repeat ((first | refine qT ?_ | refine qF ?_ | refine qO ?_ | (with_reducible intro z hz); (first | (replace hz := hz (by omega); subst hz) | subst hz)); (try (conv => whnf))))
 refine hLP _ _ _ Nat (fun k => ⟨[(0, .imm (.sl 3 (l.map idv))), (3, .ptr 0 1 0), (7, .imm (.int .i64 (l.length : Nat))), (8, .imm (.int .i64 (k : Nat)))], [.box 1 [.imm (.int .i64 t.x), .imm (.int .i64 t.y), .imm (.int .i64 t.z)]]⟩) (fun k => k ≤ l.length ∧ ∀ x ∈ l.take k, x ≠ t) (fun k => l.length - k) 0 ⟨Nat.zero_le _, by simp⟩ (qSL 1 rfl rfl (hE := by (repeat ((conv => whnf); first | exact trivial | refine And.intro (by first | exact WkOne.any | exact WkOne.eq (by with_reducible rfl) rfl | exact WkOne.eq (congrArg (fun z => PV.imm (IV.int IntKind.i64 z)) (by first | omega | (simp [hml]; done) | (simp [hml]; omega))) rfl | exact WkOne.eq (by first | (simp [hml]; done) | fail) rfl | exact WkOne.eq rfl rfl | exact WkOne.le rfl (ILe.nil _)) ?_)))) ?_
 rintro k ⟨hk, hp⟩
 have hho := Nat.lt_or_ge k l.length
 cases hho with
 | inl hlt =>
   obtain ⟨x, hx⟩ : ∃ x, l[k]? = some x := ⟨l[k], List.getElem?_eq_getElem hlt⟩
   by_cases hxt : t = x
   · have hi := id_eq hxt
     (try (conv => whnf)); (repeat ((first | refine qT ?_ | refine qF ?_ | refine qO ?_ | (with_reducible intro z hz); (first | (replace hz := hz (by omega); subst hz) | subst hz)); (try (conv => whnf))))
     refine Idx.mk k (idv x) _ rfl (by simp [hx]) rfl ?_
     (try (conv => whnf)); (repeat ((first | refine qT ?_ | refine qF ?_ | refine qO ?_ | (with_reducible intro z hz); (first | (replace hz := hz (by omega); subst hz) | subst hz)); (try (conv => whnf))))
     refine hfin _ ?_
     subst hxt
     rw [idx_hit hx hp]
     exact ILes.refl _
   · have hi := id_ne hxt
     (try (conv => whnf)); (repeat ((first | refine qT ?_ | refine qF ?_ | refine qO ?_ | (with_reducible intro z hz); (first | (replace hz := hz (by omega); subst hz) | subst hz)); (try (conv => whnf))))
     refine Idx.mk k (idv x) _ rfl (by simp [hx]) rfl ?_
     (try (conv => whnf)); (repeat ((first | refine qT ?_ | refine qF ?_ | refine qO ?_ | (with_reducible intro z hz); (first | (replace hz := hz (by omega); subst hz) | subst hz)); (try (conv => whnf))))
     exact ⟨k + 1, ⟨by omega, fun y hy => by
       rw [take_at hx, List.mem_append] at hy
       rcases hy with hy | hy
       · exact hp y hy
       · rw [List.mem_singleton.1 hy]; exact Ne.symm hxt⟩, by dsimp only; omega, (qSL 1 rfl rfl)⟩
 | inr hge =>
   (try (conv => whnf)); (repeat ((first | refine qT ?_ | refine qF ?_ | refine qO ?_ | (with_reducible intro z hz); (first | (replace hz := hz (by omega); subst hz) | subst hz)); (try (conv => whnf))))
   refine hfin _ ?_
   obtain rfl : k = l.length := by omega
   rw [List.take_length] at hp
   have : idxT t l = -1 := by unfold idxT; rw [if_neg fun h => hp t h rfl]
   rw [this]
   exact ILes.refl _
theorem contains_pc (t : Trip) (l : List Trip) (hl : l.length ≤ 100000000) : PC Tryz.prog env0 63 [.sl 3 (l.map idv), idv t] [.bool (decide (t ∈ l))] := by
 have hIx := index_pc t l hl
 unfold idxT at hIx
 by_cases h : t ∈ l
 · rw [if_pos h] at hIx
   rw [decide_eq_true h]
   refine PC.of_va (T := tb0) eqs_ok tb_ok rfl mixed Tryz.func63 rfl rfl (Nat.le_of_ble_eq_true rfl) ?_; intro Γ C WK LP fin h0 hW hC hB hR hLP hfin
   (try (conv => whnf)); (repeat ((first | refine qT ?_ | refine qF ?_ | refine qO ?_ | (with_reducible intro z hz); (first | (replace hz := hz (by omega); subst hz) | subst hz) | (refine CallV.mk _ (hC _ _ _ (PCw.of hIx)) (fun js hjs => ?_); subst hjs)); (try (conv => whnf))))
   exact hfin _ (ILes.refl _)
 · rw [if_neg h] at hIx
   rw [decide_eq_false h]
   refine PC.of_va (T := tb0) eqs_ok tb_ok rfl mixed Tryz.func63 rfl rfl (Nat.le_of_ble_eq_true rfl) ?_; intro Γ C WK LP fin h0 hW hC hB hR hLP hfin
   (try (conv => whnf)); (repeat ((first | refine qT ?_ | refine qF ?_ | refine qO ?_ | (with_reducible intro z hz); (first | (replace hz := hz (by omega); subst hz) | subst hz) | (refine CallV.mk _ (hC _ _ _ (PCw.of hIx)) (fun js hjs => ?_); subst hjs)); (try (conv => whnf))))
   exact hfin _ (ILes.refl _)
theorem has_pc (u : Ut) (t : Trip) (h : u.count ≤ 100000000) : PC Tryz.prog env0 41 [uv u, idv t] [.bool (decide (t ∈ u.ids))] := by
 have hI := ids_pc u h
 have hN : u.ids.length ≤ 100000000 := by unfold Ut.ids; rw [List.length_map, all_length]; exact h
 have hCt := contains_pc t u.ids hN
 have hue := uv_eq u
 rw [hue] at hI ⊢
 refine PC.of_va (T := tb0) eqs_ok tb_ok rfl mixed Tryz.func41 rfl rfl (Nat.le_of_ble_eq_true rfl) ?_; intro Γ C WK LP fin h0 hW hC hB hR hLP hfin
 (try (conv => whnf)); (repeat ((first | refine qT ?_ | refine qF ?_ | refine qO ?_ | (with_reducible intro z hz); (first | (replace hz := hz (by omega); subst hz) | subst hz) | (refine CallV.mk _ (hC _ _ _ (PCw.of hI)) (fun js hjs => ?_); subst hjs) | (refine CallV.mk _ (hC _ _ _ (PCw.of hCt)) (fun js hjs => ?_); subst hjs)); (try (conv => whnf))))
 exact hfin _ (ILes.refl _)
def editB (u : Ut) : Bool := validB u && !decide (Trip.zero ∈ if u.kind = 0 then u.ids.drop 1 else u.ids)
theorem editable_pc (u : Ut) (hok : okU u) (hM : Tame u) (h : u.count ≤ 100000000) : PC Tryz.prog env0 40 [uv u] [.bool (editB u)] := by
 have hV := valid_pc u hok hM
 have hI := ids_pc u h
 have hN : u.ids.length = u.count := by unfold Ut.ids; rw [List.length_map, all_length]
 have hc0 := count_pos u
 have hml : (u.ids.map idv).length = u.ids.length := List.length_map _
 have hue := uv_eq u
 unfold editB
 rw [hue] at hV hI ⊢
 by_cases hv : validB u = true
 · rw [hv] at hV ⊢
   by_cases hk : u.kind = 0
   · have hCt := contains_pc Trip.zero (u.ids.drop 1) (by rw [List.length_drop]; omega)
     rw [List.map_drop] at hCt
     rw [if_pos hk]
     generalize decide (Trip.zero ∈ u.ids.drop 1) = b at hCt ⊢
     cases b
     all_goals
       refine PC.of_va (T := tb0) eqs_ok tb_ok rfl mixed Tryz.func40 rfl rfl (Nat.le_of_ble_eq_true rfl) ?_; intro Γ C WK LP fin h0 hW hC hB hR hLP hfin
       (try (conv => whnf)); (repeat ((first | refine qT ?_ | refine qF ?_ | refine qO ?_ | (with_reducible intro z hz); (first | (replace hz := hz (by omega); subst hz) | subst hz) | (refine CallV.mk _ (hC _ _ _ (PCw.of hV)) (fun js hjs => ?_); subst hjs) | (refine CallV.mk _ (hC _ _ _ (PCw.of hI)) (fun js hjs => ?_); subst hjs) | (refine CallV.mk _ (hC _ _ _ (PCw.of hCt)) (fun js hjs => ?_); subst hjs)); (try (conv => whnf))))
       exact hfin _ (ILes.refl _)
   · have hCt := contains_pc Trip.zero u.ids (by omega)
     rw [if_neg hk]
     generalize decide (Trip.zero ∈ u.ids) = b at hCt ⊢
     cases b
     all_goals
       refine PC.of_va (T := tb0) eqs_ok tb_ok rfl mixed Tryz.func40 rfl rfl (Nat.le_of_ble_eq_true rfl) ?_; intro Γ C WK LP fin h0 hW hC hB hR hLP hfin
       (try (conv => whnf)); (repeat ((first | refine qT ?_ | refine qF ?_ | refine qO ?_ | (with_reducible intro z hz); (first | (replace hz := hz (by omega); subst hz) | subst hz) | (refine CallV.mk _ (hC _ _ _ (PCw.of hV)) (fun js hjs => ?_); subst hjs) | (refine CallV.mk _ (hC _ _ _ (PCw.of hI)) (fun js hjs => ?_); subst hjs) | (refine CallV.mk _ (hC _ _ _ (PCw.of hCt)) (fun js hjs => ?_); subst hjs)); (try (conv => whnf))))
       exact hfin _ (ILes.refl _)
 · rw [Bool.not_eq_true] at hv
   rw [hv] at hV ⊢
   refine PC.of_va (T := tb0) eqs_ok tb_ok rfl mixed Tryz.func40 rfl rfl (Nat.le_of_ble_eq_true rfl) ?_; intro Γ C WK LP fin h0 hW hC hB hR hLP hfin
   (try (conv => whnf)); (repeat ((first | refine qT ?_ | refine qF ?_ | refine qO ?_ | (with_reducible intro z hz); (first | (replace hz := hz (by omega); subst hz) | subst hz) | (refine CallV.mk _ (hC _ _ _ (PCw.of hV)) (fun js hjs => ?_); subst hjs)); (try (conv => whnf))))
   exact hfin _ (ILes.refl _)
end Go.Proofs.YtmnbobcgjnickaaGreatDoor.Pt
namespace Go.Proofs.YtmnbobcgjnickaaGreatDoor.Pt
open Go Go.Pv Go.RowKit
set_option linter.unusedSimpArgs false
open Lab Lcs Go.Proofs.YtmnbobcgjnickaaGreatDoor Go.Proofs.YtmnbobcgjnickaaGreatDoor.Pu
set_option maxRecDepth 10000
set_option maxHeartbeats 16000000
def cutD (j : Nat) (y : Ut) : Prop := j < y.kids.length ∧ y.kids.length ≤ 1000000
theorem cut_pc (id : Trip) (u : Ut) (j n : Nat) (hM : u.count ≤ 100000000) (hs : small u) (hj : (parV id u).2.1 = (j : Int)) (hok : EdOk (parV id u).1 (cutAt j) (cutD j) n u) : PC Tryz.prog env0 42 [uv u, idv id] [uv (editN (parV id u).1 (cutAt j) n u), uv (findU id u)] := by
 have hP := parent_pc id u hM
 have hFi := find_pc id u hM hs
 have hE := edit_cut (parV id u).1 (cutAt j) (cutD j) j (fun y hy => cutc_pcb j y hy.1 hy.2) n u hok
 rw [hj] at hP
 generalize (parV id u).1 = p at hP hE ⊢
 generalize (parV id u).2.2 = b at hP
 generalize editN p (cutAt j) n u = v at hE ⊢
 generalize findU id u = x at hFi ⊢
 rw [uv_eq v, uv_eq x]
 have hue := uv_eq u
 rw [hue] at hP hFi hE ⊢
 rw [uv_eq v] at hE
 rw [uv_eq x] at hFi
 refine PC.of_va (T := tb0) eqs_ok tb_ok rfl mixed Tryz.func42 rfl rfl (Nat.le_of_ble_eq_true rfl) ?_; intro Γ C WK LP fin h0 hW hC hB hR hLP hfin
 (try (conv => whnf)); (repeat ((first | refine qT ?_ | refine qF ?_ | refine qO ?_ | (with_reducible intro z hz); (first | (replace hz := hz (by omega); subst hz) | subst hz) | (refine CallV.mk _ (hC _ _ _ (PCw.of hP)) (fun js hjs => ?_); subst hjs)); (try (conv => whnf))))
 refine CallB.mk ([.imm (.agg [.int .i64 v.id.x, .int .i64 v.id.y, .int .i64 v.id.z, .int .i64 v.kind, .str v.label, .sl 4 (v.head.map wdv), .sl 4 (v.words.map wdv), .sl 8 (v.kids.map uv)])]) ([.box 1 [.imm (.int .i64 (j : Nat))]]) (hB _ _ _ _ _ (hE)) ?_
 (try (conv => whnf)); (repeat ((first | refine qT ?_ | refine qF ?_ | refine qO ?_ | (with_reducible intro z hz); (first | (replace hz := hz (by omega); subst hz) | subst hz) | (refine CallV.mk _ (hC _ _ _ (PCw.of hFi)) (fun js hjs => ?_); subst hjs)); (try (conv => whnf))))
 exact hfin _ (ILes.refl _)
def remE (u : Ut) (id : Trip) : Int := if editB u = false then 1 else if id ∉ u.ids then 4 else if id = u.id then 9 else 0
theorem removeError_pc (u : Ut) (id : Trip) (hok : okU u) (hM : Tame u) (h : u.count ≤ 100000000) : PC Tryz.prog env0 57 [uv u, idv id] [.int .i64 (remE u id)] := by
 have hEd := editable_pc u hok hM h
 have hHs := has_pc u id h
 have hue := uv_eq u
 unfold remE
 rw [hue] at hEd hHs ⊢
 by_cases h1 : editB u = false
 · rw [if_pos h1]
   rw [h1] at hEd
   refine PC.of_va (T := tb0) eqs_ok tb_ok rfl mixed Tryz.func57 rfl rfl (Nat.le_of_ble_eq_true rfl) ?_; intro Γ C WK LP fin h0 hW hC hB hR hLP hfin
   (try (conv => whnf)); (repeat ((first | refine qT ?_ | refine qF ?_ | refine qO ?_ | (with_reducible intro z hz); (first | (replace hz := hz (by omega); subst hz) | subst hz) | (refine CallV.mk _ (hC _ _ _ (PCw.of hEd)) (fun js hjs => ?_); subst hjs)); (try (conv => whnf))))
   exact hfin _ (ILes.refl _)
 · rw [if_neg h1]
   rw [Bool.not_eq_false] at h1
   rw [h1] at hEd
   by_cases h2 : id ∈ u.ids
   · rw [if_neg (fun h => h h2)]
     rw [decide_eq_true h2] at hHs
     by_cases h3 : id = u.id
     · have hi := id_eq h3
       rw [if_pos h3]
       refine PC.of_va (T := tb0) eqs_ok tb_ok rfl mixed Tryz.func57 rfl rfl (Nat.le_of_ble_eq_true rfl) ?_; intro Γ C WK LP fin h0 hW hC hB hR hLP hfin
       (try (conv => whnf)); (repeat ((first | refine qT ?_ | refine qF ?_ | refine qO ?_ | (with_reducible intro z hz); (first | (replace hz := hz (by omega); subst hz) | subst hz) | (refine CallV.mk _ (hC _ _ _ (PCw.of hEd)) (fun js hjs => ?_); subst hjs) | (refine CallV.mk _ (hC _ _ _ (PCw.of hHs)) (fun js hjs => ?_); subst hjs)); (try (conv => whnf))))
       exact hfin _ (ILes.refl _)
     · have hi := id_ne h3
       rw [if_neg h3]
       refine PC.of_va (T := tb0) eqs_ok tb_ok rfl mixed Tryz.func57 rfl rfl (Nat.le_of_ble_eq_true rfl) ?_; intro Γ C WK LP fin h0 hW hC hB hR hLP hfin
       (try (conv => whnf)); (repeat ((first | refine qT ?_ | refine qF ?_ | refine qO ?_ | (with_reducible intro z hz); (first | (replace hz := hz (by omega); subst hz) | subst hz) | (refine CallV.mk _ (hC _ _ _ (PCw.of hEd)) (fun js hjs => ?_); subst hjs) | (refine CallV.mk _ (hC _ _ _ (PCw.of hHs)) (fun js hjs => ?_); subst hjs)); (try (conv => whnf))))
       exact hfin _ (ILes.refl _)
   · rw [if_pos h2]
     rw [decide_eq_false h2] at hHs
     refine PC.of_va (T := tb0) eqs_ok tb_ok rfl mixed Tryz.func57 rfl rfl (Nat.le_of_ble_eq_true rfl) ?_; intro Γ C WK LP fin h0 hW hC hB hR hLP hfin
     (try (conv => whnf)); (repeat ((first | refine qT ?_ | refine qF ?_ | refine qO ?_ | (with_reducible intro z hz); (first | (replace hz := hz (by omega); subst hz) | subst hz) | (refine CallV.mk _ (hC _ _ _ (PCw.of hEd)) (fun js hjs => ?_); subst hjs) | (refine CallV.mk _ (hC _ _ _ (PCw.of hHs)) (fun js hjs => ?_); subst hjs)); (try (conv => whnf))))
     exact hfin _ (ILes.refl _)
def remV (u : Ut) (id : Trip) (rest x : Ut) : List IV := if remE u id = 0 then [uv rest, uv x, .int .i64 0] else [uv zeroU, uv zeroU, .int .i64 (remE u id)]
theorem remove_pc (u : Ut) (id : Trip) (rest x : Ut) (hok : okU u) (hM : Tame u) (h : u.count ≤ 100000000) (hc : remE u id = 0 → PC Tryz.prog env0 42 [uv u, idv id] [uv rest, uv x]) : PC Tryz.prog env0 23 [uv u, idv id] (remV u id rest x) := by
 have hRe := removeError_pc u id hok hM h
 have hue := uv_eq u
 unfold remV
 by_cases h0 : remE u id = 0
 · have hCu := hc h0
   rw [h0] at hRe
   rw [if_pos h0]
   rw [uv_eq rest, uv_eq x] at hCu ⊢
   rw [hue] at hRe hCu ⊢
   refine PC.of_va (T := tb0) eqs_ok tb_ok rfl mixed Tryz.func23 rfl rfl (Nat.le_of_ble_eq_true rfl) ?_; intro Γ C WK LP fin h0 hW hC hB hR hLP hfin
   (try (conv => whnf)); (repeat ((first | refine qT ?_ | refine qF ?_ | refine qO ?_ | (with_reducible intro z hz); (first | (replace hz := hz (by omega); subst hz) | subst hz) | (refine CallV.mk _ (hC _ _ _ (PCw.of hRe)) (fun js hjs => ?_); subst hjs) | (refine CallV.mk _ (hC _ _ _ (PCw.of hCu)) (fun js hjs => ?_); subst hjs)); (try (conv => whnf))))
   exact hfin _ (ILes.refl _)
 · rw [if_neg h0]
   generalize remE u id = e at hRe h0 ⊢
   rw [hue] at hRe ⊢
   refine PC.of_va (T := tb0) eqs_ok tb_ok rfl mixed Tryz.func23 rfl rfl (Nat.le_of_ble_eq_true rfl) ?_; intro Γ C WK LP fin h0 hW hC hB hR hLP hfin
   (try (conv => whnf)); (repeat ((first | refine qT ?_ | refine qF ?_ | refine qO ?_ | (with_reducible intro z hz); (first | (replace hz := hz (by omega); subst hz) | subst hz) | (refine CallV.mk _ (hC _ _ _ (PCw.of hRe)) (fun js hjs => ?_); subst hjs)); (try (conv => whnf))))
   refine hfin _ ?_
   exact .cons zero_le (.cons zero_le (.refl _))
end Go.Proofs.YtmnbobcgjnickaaGreatDoor.Pt
namespace Go.Proofs.YtmnbobcgjnickaaGreatDoor.Pt
open Go Go.Pv Go.RowKit
set_option linter.unusedSimpArgs false
open Lab Lcs Go.Proofs.YtmnbobcgjnickaaGreatDoor Go.Proofs.YtmnbobcgjnickaaGreatDoor.Pu
set_option maxRecDepth 10000
set_option maxHeartbeats 16000000
mutual
def namedR : Ut → Bool
 | .mk id kind _ _ _ kids => !(!decide (kind = 0) && decide (id = Trip.zero)) && namedRs kids
def namedRs : List Ut → Bool
 | [] => true
 | u :: r => namedR u && namedRs r
end
theorem namedR_eq (u : Ut) : namedR u = (!(!decide (u.kind = 0) && decide (u.id = Trip.zero)) && namedRs u.kids) := by cases u; rw [namedR]; rfl
theorem namedRs_app : ∀ a b : List Ut, namedRs (a ++ b) = (namedRs a && namedRs b)
 | [], b => by simp [namedRs]
 | u :: a, b => by simp [namedRs, namedRs_app a b, Bool.and_assoc]
theorem namedRs_no {l : List Ut} {k : Nat} {x : Ut} (hx : l[k]? = some x) (h : namedR x = false) : namedRs l = false := by
 obtain ⟨hk, he⟩ := List.getElem?_eq_some_iff.1 hx
 have : l = l.take k ++ x :: l.drop (k + 1) := by rw [← he, ← List.drop_eq_getElem_cons hk, List.take_append_drop]
 rw [this, namedRs_app]
 simp [namedRs, h]
theorem named_pc (n : Nat) : ∀ u : Ut, u.count ≤ n → n ≤ 100000000 → PC Tryz.prog env0 56 [uv u] [.bool (namedR u)] := by
 induction n with
 | zero => intro u h; have := count_pos u; omega
 | succ n ih =>
 intro u hn hM
 have hue := uv_eq u
 have hcu := Ut.count_eq u
 have hkl := kids_counts u.kids
 have hml : (u.kids.map uv).length = u.kids.length := List.length_map _
 rw [namedR_eq]
 rw [hue]
 by_cases hz : u.kind ≠ 0 ∧ u.id = Trip.zero
 · have hk0 := hz.1
   have hi := id_eq hz.2
   rw [decide_eq_false hz.1, decide_eq_true hz.2]
   refine PC.of_va (T := tb0) eqs_ok tb_ok rfl mixed Tryz.func56 rfl rfl (Nat.le_of_ble_eq_true rfl) ?_; intro Γ C WK LP fin h0 hW hC hB hR hLP hfin
   (try (conv => whnf)); (repeat ((first | refine qT ?_ | refine qF ?_ | refine qO ?_ | (with_reducible intro z hz); (first | (replace hz := hz (by omega); subst hz) | subst hz)); (try (conv => whnf))))
   exact hfin _ (ILes.refl _)
 · have hb : (!(!decide (u.kind = 0) && decide (u.id = Trip.zero))) = true := by
     by_cases h1 : u.kind = 0 <;> by_cases h2 : u.id = Trip.zero <;> simp_all
   rw [hb, Bool.true_and]
   by_cases hk0 : u.kind = 0
   · refine PC.of_va (T := tb0) eqs_ok tb_ok rfl mixed Tryz.func56 rfl rfl (Nat.le_of_ble_eq_true rfl) ?_; intro Γ C WK LP fin h0 hW hC hB hR hLP hfin
     (try (conv => whnf)); (repeat ((first | refine qT ?_ | refine qF ?_ | refine qO ?_ | (with_reducible intro z hz); (first | (replace hz := hz (by omega); subst hz) | subst hz)); (try (conv => whnf))))
     refine hLP _ _ _ Nat (fun k => ⟨[(1, .ptr 0 1 0), (3, .imm (.int .i64 (k : Nat)))], [.box 1 [.imm (.int .i64 u.id.x), .imm (.int .i64 u.id.y), .imm (.int .i64 u.id.z), .imm (.int .i64 u.kind), .imm (.str u.label), .imm (.sl 4 (u.head.map wdv)), .imm (.sl 4 (u.words.map wdv)), .imm (.sl 8 (u.kids.map uv))]]⟩) (fun k => k ≤ u.kids.length ∧ namedRs (u.kids.take k) = true) (fun k => u.kids.length - k) 0 ⟨Nat.zero_le _, rfl⟩ (qSL 1 rfl rfl) ?_
     rintro k ⟨hk, hp⟩
     have hho := Nat.lt_or_ge k u.kids.length
     cases hho with
     | inl hlt =>
       obtain ⟨x, hx⟩ : ∃ x, u.kids[k]? = some x := ⟨u.kids[k], List.getElem?_eq_getElem hlt⟩
       have hux := uv_eq x
       have hc := kid_lt' hx
       have hI := ih x (by omega) (by omega)
       rw [hux] at hI
       by_cases hnx : namedR x = true
       · rw [hnx] at hI
         (try (conv => whnf)); (repeat ((first | refine qT ?_ | refine qF ?_ | refine qO ?_ | (with_reducible intro z hz); (first | (replace hz := hz (by omega); subst hz) | subst hz)); (try (conv => whnf))))
         refine Idx.mk k (uv x) _ rfl (by simp [hx]) (by rw [hux]; try rfl) ?_
         (try (conv => whnf)); (repeat ((first | refine qT ?_ | refine qF ?_ | refine qO ?_ | (with_reducible intro z hz); (first | (replace hz := hz (by omega); subst hz) | subst hz) | (refine CallV.mk _ (hC _ _ _ (PCw.of hI)) (fun js hjs => ?_); subst hjs)); (try (conv => whnf))))
         exact ⟨k + 1, ⟨by omega, by rw [take_at hx, namedRs_app, hp]; simp [namedRs, hnx]⟩, by dsimp only; omega, (qSL 1 rfl rfl)⟩
       · rw [Bool.not_eq_true] at hnx
         rw [hnx] at hI
         (try (conv => whnf)); (repeat ((first | refine qT ?_ | refine qF ?_ | refine qO ?_ | (with_reducible intro z hz); (first | (replace hz := hz (by omega); subst hz) | subst hz)); (try (conv => whnf))))
         refine Idx.mk k (uv x) _ rfl (by simp [hx]) (by rw [hux]; try rfl) ?_
         (try (conv => whnf)); (repeat ((first | refine qT ?_ | refine qF ?_ | refine qO ?_ | (with_reducible intro z hz); (first | (replace hz := hz (by omega); subst hz) | subst hz) | (refine CallV.mk _ (hC _ _ _ (PCw.of hI)) (fun js hjs => ?_); subst hjs)); (try (conv => whnf))))
         rw [namedRs_no hx hnx] at hfin
         exact hfin _ (ILes.refl _)
     | inr hge =>
       obtain rfl : k = u.kids.length := by omega
       rw [List.take_length] at hp
       rw [hp] at hfin
       (try (conv => whnf)); (repeat ((first | refine qT ?_ | refine qF ?_ | refine qO ?_ | (with_reducible intro z hz); (first | (replace hz := hz (by omega); subst hz) | subst hz)); (try (conv => whnf))))
       exact hfin _ (ILes.refl _)
   · have hi : ¬ eqC [.int .i64 u.id.x, .int .i64 u.id.y, .int .i64 u.id.z] [.int .i64 Trip.zero.x, .int .i64 Trip.zero.y, .int .i64 Trip.zero.z] = true := id_ne fun h => hz ⟨hk0, h⟩
     refine PC.of_va (T := tb0) eqs_ok tb_ok rfl mixed Tryz.func56 rfl rfl (Nat.le_of_ble_eq_true rfl) ?_; intro Γ C WK LP fin h0 hW hC hB hR hLP hfin
     (try (conv => whnf)); (repeat ((first | refine qT ?_ | refine qF ?_ | refine qO ?_ | (with_reducible intro z hz); (first | (replace hz := hz (by omega); subst hz) | subst hz)); (try (conv => whnf))))
     refine hLP _ _ _ Nat (fun k => ⟨[(1, .ptr 0 1 0), (3, .imm (.int .i64 (k : Nat)))], [.box 1 [.imm (.int .i64 u.id.x), .imm (.int .i64 u.id.y), .imm (.int .i64 u.id.z), .imm (.int .i64 u.kind), .imm (.str u.label), .imm (.sl 4 (u.head.map wdv)), .imm (.sl 4 (u.words.map wdv)), .imm (.sl 8 (u.kids.map uv))]]⟩) (fun k => k ≤ u.kids.length ∧ namedRs (u.kids.take k) = true) (fun k => u.kids.length - k) 0 ⟨Nat.zero_le _, rfl⟩ (qSL 1 rfl rfl) ?_
     rintro k ⟨hk, hp⟩
     have hho := Nat.lt_or_ge k u.kids.length
     cases hho with
     | inl hlt =>
       obtain ⟨x, hx⟩ : ∃ x, u.kids[k]? = some x := ⟨u.kids[k], List.getElem?_eq_getElem hlt⟩
       have hux := uv_eq x
       have hc := kid_lt' hx
       have hI := ih x (by omega) (by omega)
       rw [hux] at hI
       by_cases hnx : namedR x = true
       · rw [hnx] at hI
         (try (conv => whnf)); (repeat ((first | refine qT ?_ | refine qF ?_ | refine qO ?_ | (with_reducible intro z hz); (first | (replace hz := hz (by omega); subst hz) | subst hz)); (try (conv => whnf))))
         refine Idx.mk k (uv x) _ rfl (by simp [hx]) (by rw [hux]; try rfl) ?_
         (try (conv => whnf)); (repeat ((first | refine qT ?_ | refine qF ?_ | refine qO ?_ | (with_reducible intro z hz); (first | (replace hz := hz (by omega); subst hz) | subst hz) | (refine CallV.mk _ (hC _ _ _ (PCw.of hI)) (fun js hjs => ?_); subst hjs)); (try (conv => whnf))))
         exact ⟨k + 1, ⟨by omega, by rw [take_at hx, namedRs_app, hp]; simp [namedRs, hnx]⟩, by dsimp only; omega, (qSL 1 rfl rfl)⟩
       · rw [Bool.not_eq_true] at hnx
         rw [hnx] at hI
         (try (conv => whnf)); (repeat ((first | refine qT ?_ | refine qF ?_ | refine qO ?_ | (with_reducible intro z hz); (first | (replace hz := hz (by omega); subst hz) | subst hz)); (try (conv => whnf))))
         refine Idx.mk k (uv x) _ rfl (by simp [hx]) (by rw [hux]; try rfl) ?_
         (try (conv => whnf)); (repeat ((first | refine qT ?_ | refine qF ?_ | refine qO ?_ | (with_reducible intro z hz); (first | (replace hz := hz (by omega); subst hz) | subst hz) | (refine CallV.mk _ (hC _ _ _ (PCw.of hI)) (fun js hjs => ?_); subst hjs)); (try (conv => whnf))))
         rw [namedRs_no hx hnx] at hfin
         exact hfin _ (ILes.refl _)
     | inr hge =>
       obtain rfl : k = u.kids.length := by omega
       rw [List.take_length] at hp
       rw [hp] at hfin
       (try (conv => whnf)); (repeat ((first | refine qT ?_ | refine qF ?_ | refine qO ?_ | (with_reducible intro z hz); (first | (replace hz := hz (by omega); subst hz) | subst hz)); (try (conv => whnf))))
       exact hfin _ (ILes.refl _)
def dropR (id : Trip) : Nat → Ut → Ut
 | 0, u => u
 | n + 1, u => Ut.withKids u ((u.kids.filter fun k => decide (k.id ≠ id)).map (dropR id n))
theorem without_pc (id : Trip) (n : Nat) : ∀ u : Ut, u.count ≤ n → n ≤ 10000000 → PC Tryz.prog env0 45 [uv u, idv id] [uv (dropR id n u)] := by
 induction n with
 | zero => intro u h; have := count_pos u; omega
 | succ n ih =>
 intro u hn hM
 have hue := uv_eq u
 have hcu := Ut.count_eq u
 have hkl := kids_counts u.kids
 have hml : (u.kids.map uv).length = u.kids.length := List.length_map _
 rw [dropR, uv_with, hue]
 refine PC.of_va (T := tb0) eqs_ok tb_ok rfl mixed Tryz.func45 rfl rfl (Nat.le_of_ble_eq_true rfl) ?_; intro Γ C WK LP fin h0 hW hC hB hR hLP hfin
 (try (conv => whnf)); (repeat ((first | refine qT ?_ | refine qF ?_ | refine qO ?_ | (with_reducible intro z hz); (first | (replace hz := hz (by omega); subst hz) | subst hz)); (try (conv => whnf))))
 refine hLP _ _ _ Nat (fun k => ⟨[(2, .ptr 0 1 0), (3, .ptr 1 1 0), (4, .ptr 2 1 0), (5, .row 3 1), (6, .imm (.int .i64 (k : Nat)))], [.box 1 [.imm (.int .i64 u.id.x), .imm (.int .i64 u.id.y), .imm (.int .i64 u.id.z), .imm (.int .i64 u.kind), .imm (.str u.label), .imm (.sl 4 (u.head.map wdv)), .imm (.sl 4 (u.words.map wdv)), .imm (.sl 8 (u.kids.map uv))], .box 1 [.imm (.int .i64 id.x), .imm (.int .i64 id.y), .imm (.int .i64 id.z)], .box 1 [.imm (.int .i64 0), .imm (.int .i64 0), .imm (.int .i64 0), .imm (.int .i64 0), .imm (.str ⟨#[]⟩), .imm .nil, .imm .nil, .imm .nil], .row 27 8 1 (((((u.kids.take k).filter fun x => decide (x.id ≠ id)).map (dropR id n)).map uv).map .imm)]⟩) (fun k => k ≤ u.kids.length) (fun k => u.kids.length - k) 0 (Nat.zero_le _) (((WeakA.row 3 (((((u.kids.take 0).filter fun x => decide (x.id ≠ id)).map (dropR id n)).map uv).map .imm) rfl (by simp))).trans (qSL 4 rfl rfl)) ?_
 intro k hk
 have hho := Nat.lt_or_ge k u.kids.length
 cases hho with
 | inl hlt =>
   obtain ⟨x, hx⟩ : ∃ x, u.kids[k]? = some x := ⟨u.kids[k], List.getElem?_eq_getElem hlt⟩
   have hux := uv_eq x
   have hc := kid_lt' hx
   have hI := ih x (by omega) (by omega)
   have hft : (u.kids.take (k + 1)).filter (fun x => decide (x.id ≠ id)) = (u.kids.take k).filter (fun x => decide (x.id ≠ id)) ++ [x].filter (fun x => decide (x.id ≠ id)) := by rw [take_at hx, List.filter_append]
   have hRl : (((((u.kids.take k).filter fun x => decide (x.id ≠ id)).map (dropR id n)).map uv).map PV.imm).length ≤ k := by
     rw [List.length_map, List.length_map, List.length_map]
     exact Nat.le_trans (List.length_filter_le _ _) (by rw [List.length_take]; omega)
   have hRl2 : (List.filter (fun x => !decide (x.id = id)) (List.take k u.kids)).length ≤ k := Nat.le_trans (List.length_filter_le _ _) (by rw [List.length_take]; omega)
   rw [hux] at hI
   by_cases hxi : x.id = id
   · have hi := id_eq hxi
     have hf0 : [x].filter (fun x => decide (x.id ≠ id)) = [] := by simp [hxi]
     (try (conv => whnf)); (repeat ((first | refine qT ?_ | refine qF ?_ | refine qO ?_ | (with_reducible intro z hz); (first | (replace hz := hz (by omega); subst hz) | subst hz)); (try (conv => whnf))))
     refine Idx.mk k (uv x) _ rfl (by simp [hx]) (by rw [hux]; try rfl) ?_
     (try (conv => whnf)); (repeat ((first | refine qT ?_ | refine qF ?_ | refine qO ?_ | (with_reducible intro z hz); (first | (replace hz := hz (by omega); subst hz) | subst hz)); (try (conv => whnf))))
     exact ⟨k + 1, by omega, by dsimp only; omega, ((WeakA.row 3 (((((u.kids.take (k + 1)).filter fun x => decide (x.id ≠ id)).map (dropR id n)).map uv).map .imm) rfl (by rw [hft, hf0, List.append_nil]))).trans ((WeakA.renew 3 1 rfl (by first | omega | (intro _; rw [hk0 _ _ rfl]; exact Nat.le_of_ble_eq_true rfl)) (by repeat (first | exact trivial | refine And.intro (rgL_imms _ _ _ _) ?_ | refine And.intro rfl ?_))).trans (qSL 4 rfl rfl))⟩
   · have hi := id_ne hxi
     have hf1 : [x].filter (fun x => decide (x.id ≠ id)) = [x] := by simp [hxi]
     generalize hy : dropR id n x = y at hI
     rw [uv_eq y] at hI
     (try (conv => whnf)); (repeat ((first | refine qT ?_ | refine qF ?_ | refine qO ?_ | (with_reducible intro z hz); (first | (replace hz := hz (by omega); subst hz) | subst hz)); (try (conv => whnf))))
     refine Idx.mk k (uv x) _ rfl (by simp [hx]) (by rw [hux]; try rfl) ?_
     (try (conv => whnf)); (repeat ((first | refine qT ?_ | refine qF ?_ | refine qO ?_ | (with_reducible intro z hz); (first | (replace hz := hz (by omega); subst hz) | subst hz)); (try (conv => whnf))))
     refine Idx.mk k (uv x) _ rfl (by simp [hx]) (by rw [hux]; try rfl) ?_
     (try (conv => whnf)); (repeat ((first | refine qT ?_ | refine qF ?_ | refine qO ?_ | (with_reducible intro z hz); (first | (replace hz := hz (by omega); subst hz) | subst hz) | (refine CallV.mk _ (hC _ _ _ (PCw.of hI)) (fun js hjs => ?_); subst hjs)); (try (conv => whnf))))
     exact ⟨k + 1, by omega, by dsimp only; omega, ((WeakA.row 3 (((((u.kids.take (k + 1)).filter fun x => decide (x.id ≠ id)).map (dropR id n)).map uv).map .imm) rfl (by rw [hft, hf1, List.map_append, List.map_append, List.map_append, List.map_cons, List.map_nil, hy, List.map_cons, List.map_nil, uv_eq y]; rfl))).trans ((WeakA.renew 3 1 rfl (by first | omega | (intro _; rw [hk0 _ _ rfl]; exact Nat.le_of_ble_eq_true rfl)) (by repeat (first | exact trivial | refine And.intro (rgL_imms _ _ _ _) ?_ | refine And.intro rfl ?_))).trans (qSL 4 rfl rfl))⟩
 | inr hge =>
   (try (conv => whnf)); (repeat ((first | refine qT ?_ | refine qF ?_ | refine qO ?_ | (with_reducible intro z hz); (first | (replace hz := hz (by omega); subst hz) | subst hz)); (try (conv => whnf))))
   obtain rfl : k = u.kids.length := by omega
   refine Imms.mk (((u.kids.filter fun x => decide (x.id ≠ id)).map (dropR id n)).map uv) (by rw [List.take_length]) ?_
   exact hfin _ (ILes.refl _)
end Go.Proofs.YtmnbobcgjnickaaGreatDoor.Pt
namespace Go.Proofs.YtmnbobcgjnickaaGreatDoor.Pt
open Go Go.Pv Go.RowKit
set_option linter.unusedSimpArgs false
open Lab Lcs Go.Proofs.YtmnbobcgjnickaaGreatDoor Go.Proofs.YtmnbobcgjnickaaGreatDoor.Pu
set_option maxRecDepth 10000
set_option maxHeartbeats 16000000
def standsR (u : Ut) : Bool := validB u && namedR u
theorem stands_pc (u : Ut) (hok : okU u) (hM : Tame u) (h : u.count ≤ 100000000) : PC Tryz.prog env0 22 [uv u] [.bool (standsR u)] := by
 have hV := rmay_pc u hok hM
 have hN := named_pc u.count u (Nat.le_refl _) h
 have hue := uv_eq u
 unfold standsR
 rw [hue] at hV hN ⊢
 generalize validB u = b at hV ⊢
 generalize namedR u = c at hN ⊢
 cases b
 · refine PC.of_va (T := tb0) eqs_ok tb_ok rfl mixed Tryz.func22 rfl rfl (Nat.le_of_ble_eq_true rfl) ?_; intro Γ C WK LP fin h0 hW hC hB hR hLP hfin
   (try (conv => whnf)); (repeat ((first | refine qT ?_ | refine qF ?_ | refine qO ?_ | (with_reducible intro z hz); (first | (replace hz := hz (by omega); subst hz) | subst hz) | (refine CallV.mk _ (hC _ _ _ (PCw.of hV)) (fun js hjs => ?_); subst hjs)); (try (conv => whnf))))
   exact hfin _ (ILes.refl _)
 · rw [Bool.true_and]
   refine PC.of_va (T := tb0) eqs_ok tb_ok rfl mixed Tryz.func22 rfl rfl (Nat.le_of_ble_eq_true rfl) ?_; intro Γ C WK LP fin h0 hW hC hB hR hLP hfin
   (try (conv => whnf)); (repeat ((first | refine qT ?_ | refine qF ?_ | refine qO ?_ | (with_reducible intro z hz); (first | (replace hz := hz (by omega); subst hz) | subst hz) | (refine CallV.mk _ (hC _ _ _ (PCw.of hV)) (fun js hjs => ?_); subst hjs) | (refine CallV.mk _ (hC _ _ _ (PCw.of hN)) (fun js hjs => ?_); subst hjs)); (try (conv => whnf))))
   exact hfin _ (ILes.refl _)
theorem lsame_pc (u v : Ut) (e k : Int) (h1 : okU u) (h2 : okU v) : PC Tryz.prog env0 12 [uv u, .int .i64 e, uv v, .int .i64 k] [.bool (decide (e = k) && decide (u = v))] := by
 have hS := same_pc u v h1 h2
 have hue := uv_eq u
 have hve := uv_eq v
 generalize decide (u = v) = b at hS ⊢
 rw [hue, hve] at hS ⊢
 by_cases h : e = k
 · rw [decide_eq_true h, Bool.true_and]
   refine PC.of_va (T := tb0) eqs_ok tb_ok rfl mixed Tryz.func12 rfl rfl (Nat.le_of_ble_eq_true rfl) ?_; intro Γ C WK LP fin h0 hW hC hB hR hLP hfin
   (try (conv => whnf)); (repeat ((first | refine qT ?_ | refine qF ?_ | refine qO ?_ | (with_reducible intro z hz); (first | (replace hz := hz (by omega); subst hz) | subst hz) | (refine CallV.mk _ (hC _ _ _ (PCw.of hS)) (fun js hjs => ?_); subst hjs)); (try (conv => whnf))))
   exact hfin _ (ILes.refl _)
 · rw [decide_eq_false h, Bool.false_and]
   refine PC.of_va (T := tb0) eqs_ok tb_ok rfl mixed Tryz.func12 rfl rfl (Nat.le_of_ble_eq_true rfl) ?_; intro Γ C WK LP fin h0 hW hC hB hR hLP hfin
   (try (conv => whnf)); (repeat ((first | refine qT ?_ | refine qF ?_ | refine qO ?_ | (with_reducible intro z hz); (first | (replace hz := hz (by omega); subst hz) | subst hz)); (try (conv => whnf))))
   exact hfin _ (ILes.refl _)
end Go.Proofs.YtmnbobcgjnickaaGreatDoor.Pt
namespace Go.Proofs.YtmnbobcgjnickaaGreatDoor.Pt
open Go Go.Pv Go.RowKit
set_option linter.unusedSimpArgs false
open Lab Lcs Go.Proofs.YtmnbobcgjnickaaGreatDoor Go.Proofs.YtmnbobcgjnickaaGreatDoor.Pu
set_option maxRecDepth 10000
theorem kid_in {u x : Ut} (h : x ∈ u.kids) : ∀ y ∈ x.all, y ∈ u.all := by
 intro y hy
 obtain ⟨k, hk, rfl⟩ := List.getElem_of_mem h
 cases u with
 | mk i kk l hd w kids => exact kid_all (List.getElem?_eq_getElem hk) _ hy
theorem valid_facts {u : Ut} (h : validB u = true) : u.count ≤ 1024 ∧ u.depth ≤ 8 ∧ (∀ x ∈ u.all, aloneB x = true) ∧ (∀ x ∈ u.all, kidsB x = true) := by
 unfold validB at h
 simp only [Bool.and_eq_true, decide_eq_true_eq, List.all_eq_true] at h
 exact ⟨h.1.1.1.1, h.1.1.1.2, h.1.1.2, h.1.2⟩
theorem kids_facts {x : Ut} (h : kidsB x = true) : (x.kids.map keyK).Nodup ∧ ∀ k ∈ x.kids, nestsB x.kind k.kind = true := by
 cases x
 unfold kidsB at h
 simp only [Bool.and_eq_true, decide_eq_true_eq, List.all_eq_true] at h
 exact ⟨h.2, h.1⟩
theorem nests_kind {p k : Int} (h : nestsB p k = true) : 1 ≤ k ∧ k ≤ 7 := by
 unfold nestsB at h
 repeat (split at h; (simp only [decide_eq_true_eq] at h; omega))
 cases h
mutual
theorem lin_ne : ∀ (u x : Ut), x ∈ u.all → linL x.id u ≠ []
 | .mk i k l hd w kids, x, h => by
   rw [all_mk] at h
   rw [linL]
   by_cases hi : i = x.id
   · rw [if_pos hi]; simp
   · rw [if_neg hi]
     rcases List.mem_cons.1 h with rfl | h
     · exact absurd rfl hi
     · have := linK_ne kids x h
       rw [if_neg (by simpa using this)]
       simp
theorem linK_ne : ∀ (l : List Ut) (x : Ut), x ∈ Ut.alls l → linK x.id l ≠ []
 | [], x, h => by simp [Ut.alls] at h
 | u :: r, x, h => by
   rw [Ut.alls] at h
   rw [linK]
   by_cases hu : linL x.id u = []
   · rw [hu]
     rcases List.mem_append.1 h with h | h
     · exact absurd hu (lin_ne u x h)
     · exact linK_ne r x h
   · rw [if_neg (by simpa using hu)]
     exact hu
end
mutual
def putAt (id : Trip) (f : Ut → Ut) : Ut → Ut
 | .mk i k l h w kids => if i = id then f (.mk i k l h w kids) else .mk i k l h w (putAts id f kids)
def putAts (id : Trip) (f : Ut → Ut) : List Ut → List Ut
 | [] => []
 | u :: r => putAt id f u :: putAts id f r
end
mutual
def dropU (id : Trip) : Ut → Ut
 | .mk i k l h w kids => .mk i k l h w (dropUs id kids)
def dropUs (id : Trip) : List Ut → List Ut
 | [] => []
 | u :: r => if u.id = id then dropUs id r else dropU id u :: dropUs id r
end
theorem withKids_self (u : Ut) : u.withKids u.kids = u := by cases u; rfl
theorem putAts_map (id : Trip) (f : Ut → Ut) : ∀ l, putAts id f l = l.map (putAt id f)
 | [] => rfl
 | u :: r => by rw [putAts, putAts_map id f r]; rfl
theorem putAt_eq (id : Trip) (f : Ut → Ut) (u : Ut) : putAt id f u = if u.id = id then f u else u.withKids (u.kids.map (putAt id f)) := by
 cases u; rw [putAt, putAts_map]; rfl
theorem dropUs_map (id : Trip) : ∀ l, dropUs id l = (l.filter fun u => decide (u.id ≠ id)).map (dropU id)
 | [] => rfl
 | u :: r => by
   rw [dropUs, dropUs_map id r]
   by_cases h : u.id = id <;> simp [h]
theorem dropU_eq (id : Trip) (u : Ut) : dropU id u = u.withKids ((u.kids.filter fun k => decide (k.id ≠ id)).map (dropU id)) := by
 cases u; rw [dropU, dropUs_map]; rfl
theorem ids_eq (u : Ut) : u.ids = u.id :: (Ut.alls u.kids).map Ut.id := by unfold Ut.ids; rw [Ut.all_eq]; rfl
def noId (id : Trip) (u : Ut) : Prop := ∀ x ∈ u.all, x.id ≠ id
theorem noId_kids {id : Trip} {u : Ut} (h : noId id u) : ∀ k ∈ u.kids, noId id k := fun _ hk x hx => h x (kid_in hk x hx)
theorem noId_self {id : Trip} {u : Ut} (h : noId id u) : u.id ≠ id := h u (self_all u)
theorem kid_count {u k : Ut} (h : k ∈ u.kids) : k.count < u.count := by
 obtain ⟨i, hi, rfl⟩ := List.getElem_of_mem h
 have := counts_mem (List.getElem?_eq_getElem hi)
 have := Ut.count_eq u
 omega
theorem putAt_none {id : Trip} {f : Ut → Ut} : ∀ (n : Nat) (u : Ut), u.count ≤ n → noId id u → putAt id f u = u
 | 0, u, hn, _ => by have := count_pos u; omega
 | n + 1, u, hn, h => by
   rw [putAt_eq, if_neg (noId_self h)]
   have : u.kids.map (putAt id f) = u.kids := by
     conv => rhs; rw [← List.map_id u.kids]
     refine List.map_congr_left fun k hk => ?_
     exact putAt_none n k (by have := kid_count hk; omega) (noId_kids h k hk)
   rw [this, withKids_self]
theorem dropU_none {id : Trip} : ∀ (n : Nat) (u : Ut), u.count ≤ n → (∀ x ∈ Ut.alls u.kids, x.id ≠ id) → dropU id u = u
 | 0, u, hn, _ => by have := count_pos u; omega
 | n + 1, u, hn, h => by
   rw [dropU_eq]
   have h1 : u.kids.filter (fun k => decide (k.id ≠ id)) = u.kids := List.filter_eq_self.2 fun k hk => by
     rw [decide_eq_true_eq]; exact h k (mem_alls.2 ⟨k, hk, self_all k⟩)
   have h2 : u.kids.map (dropU id) = u.kids := by
     conv => rhs; rw [← List.map_id u.kids]
     refine List.map_congr_left fun k hk => ?_
     refine dropU_none n k (by have := kid_count hk; omega) fun x hx => h x (mem_alls.2 ⟨k, hk, ?_⟩)
     rw [Ut.all_eq]; exact List.mem_cons_of_mem _ hx
   rw [h1, h2, withKids_self]
theorem nodup_kid {u k : Ut} (h : u.ids.Nodup) (hk : k ∈ u.kids) : k.ids.Nodup := by
 rw [ids_eq, List.nodup_cons] at h
 have key : ∀ l : List Ut, ((Ut.alls l).map Ut.id).Nodup → ∀ k ∈ l, k.ids.Nodup := by
   intro l
   induction l with
   | nil => intro _ k hk; cases hk
   | cons a r ih =>
     intro h k hk
     rw [Ut.alls, List.map_append, List.nodup_append] at h
     rcases List.mem_cons.1 hk with rfl | hk
     · exact h.1
     · exact ih h.2.1 k hk
 exact key _ h.2 k hk
theorem nodup_apart : ∀ {l : List Ut}, ((Ut.alls l).map Ut.id).Nodup → ∀ {i j : Nat} {a b : Ut}, l[i]? = some a → l[j]? = some b → i ≠ j → ∀ x ∈ a.all, ∀ y ∈ b.all, x.id ≠ y.id
 | [], _, i, j, a, b, h1, _, _ => by simp at h1
 | c :: r, h, i, j, a, b, h1, h2, hne => by
   rw [Ut.alls, List.map_append, List.nodup_append] at h
   intro x hx y hy
   match i, j with
   | 0, 0 => exact absurd rfl hne
   | 0, j + 1 =>
     simp only [List.getElem?_cons_zero, Option.some.injEq] at h1
     simp only [List.getElem?_cons_succ] at h2
     subst h1
     exact h.2.2 x.id (List.mem_map.2 ⟨x, hx, rfl⟩) y.id (List.mem_map.2 ⟨y, mem_alls.2 ⟨b, List.mem_of_getElem? h2, hy⟩, rfl⟩)
   | i + 1, 0 =>
     simp only [List.getElem?_cons_zero, Option.some.injEq] at h2
     simp only [List.getElem?_cons_succ] at h1
     subst h2
     exact fun e => h.2.2 y.id (List.mem_map.2 ⟨y, hy, rfl⟩) x.id (List.mem_map.2 ⟨x, mem_alls.2 ⟨a, List.mem_of_getElem? h1, hx⟩, rfl⟩) e.symm
   | i + 1, j + 1 =>
     simp only [List.getElem?_cons_succ] at h1 h2
     exact nodup_apart h.2.1 h1 h2 (by omega) x hx y hy
theorem lin_mem_id {id : Trip} {u : Ut} (h : linL id u ≠ []) : ∃ x ∈ u.all, x.id = id := by
 cases hq : linL id u with
 | nil => exact absurd hq h
 | cons x r =>
   obtain ⟨h1, h2⟩ := lin_head u.count (Nat.le_refl _) x r hq
   exact ⟨x, h2, h1⟩
theorem lin_empty {id : Trip} {u : Ut} (h : linL id u = []) : noId id u := fun x hx e => by
 have := lin_ne u x hx
 rw [e] at this
 exact this h
theorem lin_of_no {id : Trip} {u : Ut} (h : noId id u) : linL id u = [] := by
 cases hq : linL id u with
 | nil => rfl
 | cons x r =>
   obtain ⟨h1, h2⟩ := lin_head u.count (Nat.le_refl _) x r hq
   exact absurd h1 (h x h2)
theorem linK_split {id : Trip} {l : List Ut} (h : linK id l ≠ []) : ∃ k x, l[k]? = some x ∧ linK id (l.take k) = [] ∧ linL id x ≠ [] ∧ linK id l = linL id x := by
 induction l with
 | nil => exact absurd rfl h
 | cons a r ih =>
   by_cases ha : linL id a = []
   · have h1 : linK id (a :: r) = linK id r := by rw [linK, ha]; rfl
     rw [h1] at h
     obtain ⟨k, x, g1, g2, g3, g4⟩ := ih h
     refine ⟨k + 1, x, by simpa using g1, ?_, g3, by rw [h1, g4]⟩
     rw [List.take_succ_cons, linK, ha]
     exact g2
   · exact ⟨0, a, rfl, rfl, ha, by rw [linK, if_neg (by simpa using ha)]⟩
theorem drop_row {id : Trip} {l : List Ut} {k : Nat} {x : Ut} (hn : ((Ut.alls l).map Ut.id).Nodup) (hx : l[k]? = some x) (hid : ∃ y ∈ x.all, y.id = id) : ∀ i a, l[i]? = some a → i ≠ k → noId id a := by
 intro i a ha hne y hy e
 obtain ⟨z, hz, hzi⟩ := hid
 exact nodup_apart hn ha hx hne y hy z hz (by rw [e, hzi])
theorem map_one {l : List Ut} {k : Nat} {x : Ut} {g h : Ut → Ut} (hx : l[k]? = some x) (hg : ∀ i a, l[i]? = some a → i ≠ k → g a = h a) (hk : g x = h x) : l.map g = l.map h := by
 apply List.ext_getElem?
 intro i
 rw [List.getElem?_map, List.getElem?_map]
 cases ha : l[i]? with
 | none => rfl
 | some a =>
   by_cases hi : i = k
   · subst hi
     rw [hx] at ha
     injection ha with ha
     subst ha
     simp [hk]
   · simp [hg i a ha hi]
theorem filter_one {l : List Ut} {k : Nat} {x : Ut} {p : Ut → Bool} (hx : l[k]? = some x) (hp : p x = false) (hq : ∀ i a, l[i]? = some a → i ≠ k → p a = true) : l.filter p = l.take k ++ l.drop (k + 1) := by
 have h1 : l = l.take k ++ (x :: l.drop (k + 1)) := by
   obtain ⟨hk, he⟩ := List.getElem?_eq_some_iff.1 hx
   rw [← he, List.getElem_cons_drop, List.take_append_drop]
 have hk := (List.getElem?_eq_some_iff.1 hx).1
 conv => lhs; rw [h1]
 rw [List.filter_append, List.filter_cons_of_neg (by rw [hp]; simp)]
 congr 1
 · refine List.filter_eq_self.2 fun a ha => ?_
   obtain ⟨i, hi, rfl⟩ := List.getElem_of_mem ha
   rw [List.length_take] at hi
   exact hq i _ (by rw [List.getElem_take, List.getElem?_eq_getElem (by omega)]) (by omega)
 · refine List.filter_eq_self.2 fun a ha => ?_
   obtain ⟨i, hi, rfl⟩ := List.getElem_of_mem ha
   rw [List.length_drop] at hi
   exact hq (k + 1 + i) _ (by rw [List.getElem_drop, List.getElem?_eq_getElem (by omega)]) (by omega)
theorem drop_put : ∀ (n : Nat) {id : Trip} {u : Ut}, u.count ≤ n → u.ids.Nodup → u.id ≠ id → linL id u ≠ [] → ∃ x p r j, linL id u = x :: p :: r ∧ p ∈ u.all ∧ p.kids[j]? = some x ∧ (p.kids.findIdx fun k => decide (k.id = id)) = j ∧ dropU id u = putAt p.id (cutAt j) u
 | 0, id, u, hn, _, _, _ => by have := count_pos u; omega
 | n + 1, id, u, hn, hnd, hid, hl => by
   have hkn : linK id u.kids ≠ [] := fun e => hl (lin_none hid e)
   have hlu := lin_some hid hkn
   have hnk : ((Ut.alls u.kids).map Ut.id).Nodup := by
     rw [ids_eq, List.nodup_cons] at hnd; exact hnd.2
   have hnr : ∀ x ∈ Ut.alls u.kids, x.id ≠ u.id := fun x hx e => by
     rw [ids_eq, List.nodup_cons] at hnd
     exact hnd.1 (List.mem_map.2 ⟨x, hx, e⟩)
   obtain ⟨k, y, hy, hk0, hly, hlk⟩ := linK_split hkn
   have hym := List.mem_of_getElem? hy
   have hoth := drop_row hnk hy (lin_mem_id hly)
   rw [hlk] at hlu
   by_cases hyi : y.id = id
   · rw [lin_self hyi] at hlu
     refine ⟨y, u, [], k, hlu, self_all u, hy, findIdx_hit hy hk0 hyi, ?_⟩
     rw [putAt_eq, if_pos rfl, dropU_eq]
     unfold cutAt
     congr 1
     rw [filter_one hy (by simp [hyi]) (fun i a ha hne => by
       rw [decide_eq_true_eq]; exact hoth i a ha hne a (self_all a))]
     conv => rhs; rw [← List.map_id (u.kids.take k ++ u.kids.drop (k + 1))]
     refine List.map_congr_left fun a ha => ?_
     have : ∃ i, u.kids[i]? = some a ∧ i ≠ k := by
       rcases List.mem_append.1 ha with ha | ha
       · obtain ⟨i, hi, rfl⟩ := List.getElem_of_mem ha
         rw [List.length_take] at hi
         exact ⟨i, by rw [List.getElem_take, List.getElem?_eq_getElem (by omega)], by omega⟩
       · obtain ⟨i, hi, rfl⟩ := List.getElem_of_mem ha
         rw [List.length_drop] at hi
         exact ⟨k + 1 + i, by rw [List.getElem_drop, List.getElem?_eq_getElem (by omega)], by omega⟩
     obtain ⟨i, hi, hne⟩ := this
     refine dropU_none a.count a (Nat.le_refl _) fun x hx => hoth i a hi hne x ?_
     rw [Ut.all_eq]; exact List.mem_cons_of_mem _ hx
   · obtain ⟨x, p, r, j, h1, h2, h3, h4, h5⟩ := drop_put n (by have := kid_count hym; omega) (nodup_kid hnd hym) hyi hly
     have hpk : p ∈ Ut.alls u.kids := mem_alls.2 ⟨y, hym, h2⟩
     refine ⟨x, p, r ++ [u], j, by rw [hlu, h1]; rfl, kid_in hym p h2, h3, h4, ?_⟩
     rw [putAt_eq, if_neg (fun e => hnr p hpk e.symm), dropU_eq]
     congr 1
     have hf : u.kids.filter (fun k => decide (k.id ≠ id)) = u.kids := List.filter_eq_self.2 fun a ha => by
       rw [decide_eq_true_eq]
       obtain ⟨i, hi, rfl⟩ := List.getElem_of_mem ha
       by_cases hik : i = k
       · subst hik
         have h6 := List.getElem?_eq_getElem hi
         rw [hy] at h6
         injection h6 with h6
         rw [← h6]; exact hyi
       · exact hoth i _ (List.getElem?_eq_getElem hi) hik _ (self_all _)
     rw [hf]
     have hoth2 := drop_row hnk hy ⟨p, h2, rfl⟩
     refine map_one hy (fun i a ha hne => ?_) h5
     rw [dropU_none a.count a (Nat.le_refl _) fun x hx => hoth i a ha hne x (by rw [Ut.all_eq]; exact List.mem_cons_of_mem _ hx)]
     rw [putAt_none a.count a (Nat.le_refl _) (hoth2 i a ha hne)]
theorem map_self {l : List Ut} {g : Ut → Ut} (h : ∀ k ∈ l, g k = k) : l.map g = l := by
 conv => rhs; rw [← List.map_id l]
 exact List.map_congr_left h
theorem editN_none {id : Trip} {f : Ut → Ut} : ∀ (n : Nat) {u : Ut}, noId id u → editN id f n u = u
 | 0, _, _ => rfl
 | n + 1, u, h => by
   rw [editN, if_neg (noId_self h), map_self fun k hk => editN_none n (noId_kids h k hk), withKids_self]
def Fresh1 (id : Trip) (f : Ut → Ut) (X : Nat) (u : Ut) : Prop := ∀ y ∈ u.all, y.id = id → (f y).count ≤ y.count + X ∧ ∀ z ∈ (f y).kids, noId id z
theorem Fresh1.kid {id : Trip} {f : Ut → Ut} {X : Nat} {u k : Ut} (h : Fresh1 id f X u) (hk : k ∈ u.kids) : Fresh1 id f X k := fun y hy => h y (kid_in hk y hy)
theorem editN_put {id : Trip} {f : Ut → Ut} {X : Nat} : ∀ (n : Nat) {u : Ut}, u.count ≤ n → Fresh1 id f X u → editN id f n u = putAt id f u
 | 0, u, hn, _ => by have := count_pos u; omega
 | n + 1, u, hn, h => by
   rw [editN, putAt_eq]
   by_cases hi : u.id = id
   · rw [if_pos hi, if_pos hi, map_self fun k hk => editN_none n ((h u (self_all u) hi).2 k hk), withKids_self]
   · rw [if_neg hi, if_neg hi]
     congr 1
     exact List.map_congr_left fun k hk => editN_put n (by have := kid_count hk; omega) (h.kid hk)
theorem putAt_congr {id : Trip} {f g : Ut → Ut} : ∀ (n : Nat) {u : Ut}, u.count ≤ n → (∀ y ∈ u.all, y.id = id → f y = g y) → putAt id f u = putAt id g u
 | 0, u, hn, _ => by have := count_pos u; omega
 | n + 1, u, hn, h => by
   rw [putAt_eq, putAt_eq]
   by_cases hi : u.id = id
   · rw [if_pos hi, if_pos hi]; exact h u (self_all u) hi
   · rw [if_neg hi, if_neg hi]
     congr 1
     exact List.map_congr_left fun k hk => putAt_congr n (by have := kid_count hk; omega) fun y hy => h y (kid_in hk y hy)
theorem nodup_all : ∀ (n : Nat) {u x : Ut}, u.count ≤ n → u.ids.Nodup → x ∈ u.all → x.ids.Nodup
 | 0, u, _, hn, _, _ => by have := count_pos u; omega
 | n + 1, u, x, hn, h, hx => by
   rw [Ut.all_eq] at hx
   rcases List.mem_cons.1 hx with rfl | hx
   · exact h
   · obtain ⟨k, hk, hx⟩ := mem_alls.1 hx
     exact nodup_all n (by have := kid_count hk; omega) (nodup_kid h hk) hx
theorem kids_noId {u y : Ut} (h : u.ids.Nodup) (hy : y ∈ u.all) : ∀ z ∈ y.kids, noId y.id z := by
 have h1 := nodup_all u.count (Nat.le_refl _) h hy
 rw [ids_eq, List.nodup_cons] at h1
 intro z hz x hx e
 exact h1.1 (List.mem_map.2 ⟨x, mem_alls.2 ⟨z, hz, hx⟩, e⟩)
theorem counts_split (l : List Ut) (j : Nat) : Ut.counts (l.take j) + Ut.counts (l.drop j) = Ut.counts l := by rw [← counts_app, List.take_append_drop]
theorem withKids_count (u : Ut) (l : List Ut) : (u.withKids l).count = 1 + Ut.counts l := count_mk _ _ _ _ _ _
theorem insAt_count (j : Nat) (x u : Ut) : (insAt j x u).count = u.count + x.count := by
 unfold insAt
 rw [withKids_count, counts_app, counts_app, counts_one, Ut.count_eq u]
 have := counts_split u.kids j
 omega
theorem cutAt_count_le (j : Nat) (u : Ut) : (cutAt j u).count ≤ u.count := by
 unfold cutAt
 rw [withKids_count, counts_app, Ut.count_eq u]
 have h1 := counts_split u.kids j
 have h2 : Ut.counts (u.kids.drop (j + 1)) ≤ Ut.counts (u.kids.drop j) := by
   have h3 := counts_split (u.kids.drop j) 1
   rw [List.drop_drop] at h3
   omega
 omega
theorem fresh_ins {u x : Ut} {id : Trip} {j : Nat} (h : u.ids.Nodup) (hx : noId id x) : Fresh1 id (insAt j x) x.count u := by
 intro y hy hi
 refine ⟨by rw [insAt_count]; exact Nat.le_refl _, fun z hz => ?_⟩
 have hk := kids_noId h hy
 rw [hi] at hk
 have hz2 : z ∈ y.kids.take j ++ [x] ++ y.kids.drop j := hz
 rcases List.mem_append.1 hz2 with hz2 | hz2
 · rcases List.mem_append.1 hz2 with hz2 | hz2
   · exact hk z (List.mem_of_mem_take hz2)
   · rw [List.mem_singleton.1 hz2]; exact hx
 · exact hk z (List.mem_of_mem_drop hz2)
theorem fresh_cut {u : Ut} {id : Trip} {j : Nat} (h : u.ids.Nodup) : Fresh1 id (cutAt j) 0 u := by
 intro y hy hi
 refine ⟨cutAt_count_le j y, fun z hz => ?_⟩
 have hk := kids_noId h hy
 rw [hi] at hk
 have hz2 : z ∈ y.kids.take j ++ y.kids.drop (j + 1) := hz
 rcases List.mem_append.1 hz2 with hz2 | hz2
 · exact hk z (List.mem_of_mem_take hz2)
 · exact hk z (List.mem_of_mem_drop hz2)
theorem fresh_same {u : Ut} {id : Trip} {f : Ut → Ut} (h : u.ids.Nodup) (hf : ∀ y, (f y).kids = y.kids) : Fresh1 id f 0 u := by
 intro y hy hi
 have hk := kids_noId h hy
 rw [hi] at hk
 refine ⟨by rw [Ut.count_eq, Ut.count_eq y, hf]; exact Nat.le_refl _, fun z hz => ?_⟩
 rw [hf] at hz
 exact hk z hz
def namedB (u : Ut) : Bool := u.all.all fun x => decide (x.kind = 0) || decide (x.id ≠ .zero)
noncomputable def standsB (u : Ut) : Bool := validB u && namedB u
theorem kid_kinds {u : Ut} (hv : validB u = true) : ∀ x ∈ Ut.alls u.kids, 1 ≤ x.kind ∧ x.kind ≤ 7 := by
 obtain ⟨_, _, _, hk⟩ := valid_facts hv
 have key : ∀ (n : Nat) (y : Ut), y.count ≤ n → (∀ z ∈ y.all, kidsB z = true) → ∀ x ∈ Ut.alls y.kids, 1 ≤ x.kind ∧ x.kind ≤ 7 := by
   intro n
   induction n with
   | zero => intro y hy; have := count_pos y; omega
   | succ n ih =>
     intro y hy hz x hx
     obtain ⟨k, hk, hx⟩ := mem_alls.1 hx
     rw [Ut.all_eq] at hx
     rcases List.mem_cons.1 hx with rfl | hx
     · exact nests_kind ((kids_facts (hz y (self_all y))).2 _ hk)
     · exact ih k (by have := kid_count hk; omega) (fun z h => hz z (kid_in hk z h)) x hx
 exact key u.count u (Nat.le_refl _) hk
theorem stands_nodup {u : Ut} (h : standsB u = true) : u.ids.Nodup := by
 unfold standsB at h
 rw [Bool.and_eq_true] at h
 have hk := kid_kinds h.1
 have h1 := h.1
 have h2 := h.2
 unfold validB idsB at h1
 simp only [Bool.and_eq_true, Bool.or_eq_true, decide_eq_true_eq] at h1
 rcases h1.2 with h3 | h3
 · unfold zeroIds at h3
   unfold namedB at h2
   rw [List.all_eq_true] at h2 h3
   have hnil : Ut.alls u.kids = [] := by
     cases hq : Ut.alls u.kids with
     | nil => rfl
     | cons a r =>
       have ha : a ∈ Ut.alls u.kids := by rw [hq]; exact List.mem_cons_self
       have hu : a ∈ u.all := by rw [Ut.all_eq]; exact List.mem_cons_of_mem _ ha
       have g1 := h2 a hu
       have g2 := h3 a hu
       have g3 := hk a ha
       simp only [Bool.or_eq_true, decide_eq_true_eq] at g1 g2
       rcases g1 with g1 | g1
       · omega
       · exact absurd g2 g1
   rw [ids_eq, hnil]
   simp
 · exact h3.1
theorem stands_eq {u : Ut} (hv : validB u = true) : standsB u = !((if u.kind = 0 then u.ids.drop 1 else u.ids).contains .zero) := by
 have hk := kid_kinds hv
 unfold standsB
 rw [hv, Bool.true_and, Bool.eq_iff_iff, Bool.not_eq_true', List.contains_eq_mem, decide_eq_false_iff_not]
 unfold namedB
 rw [List.all_eq_true]
 have hkids : (∀ x ∈ Ut.alls u.kids, (decide (x.kind = 0) || decide (x.id ≠ .zero)) = true) ↔ Trip.zero ∉ (Ut.alls u.kids).map Ut.id := by
   constructor
   · intro h hm
     obtain ⟨x, hx, he⟩ := List.mem_map.1 hm
     have g1 := h x hx
     have g2 := hk x hx
     simp only [Bool.or_eq_true, decide_eq_true_eq] at g1
     rcases g1 with g1 | g1
     · omega
     · exact g1 he
   · intro h x hx
     have : x.id ≠ .zero := fun e => h (List.mem_map.2 ⟨x, hx, e⟩)
     simp [this]
 rw [Ut.all_eq]
 simp only [List.mem_cons, forall_eq_or_imp, hkids]
 rw [ids_eq]
 by_cases h0 : u.kind = 0
 · simp [h0]
 · simp only [h0, if_false, decide_false, Bool.false_or, decide_eq_true_eq, List.mem_cons, not_or]
   constructor
   · intro h; exact ⟨fun e => h.1 e.symm, h.2⟩
   · intro h; exact ⟨fun e => h.1 e.symm, h.2⟩
end Go.Proofs.YtmnbobcgjnickaaGreatDoor.Pt
namespace Go.Proofs.YtmnbobcgjnickaaGreatDoor.Pt
open Go Go.Pv Go.RowKit
set_option linter.unusedSimpArgs false
open Lab Lcs Go.Proofs.YtmnbobcgjnickaaGreatDoor Go.Proofs.YtmnbobcgjnickaaGreatDoor.Pu
set_option maxRecDepth 10000
theorem ids_inj {l : List Ut} (h : (l.map Ut.id).Nodup) {x y : Ut} (hx : x ∈ l) (hy : y ∈ l) (e : x.id = y.id) : x = y := by
 induction l with
 | nil => cases hx
 | cons a r ih =>
   rw [List.map_cons, List.nodup_cons] at h
   rcases List.mem_cons.1 hx with h1 | h1
   · rcases List.mem_cons.1 hy with h2 | h2
     · rw [h1, h2]
     · refine absurd (List.mem_map.2 ⟨y, h2, ?_⟩) h.1
       rw [← e, h1]
   · rcases List.mem_cons.1 hy with h2 | h2
     · refine absurd (List.mem_map.2 ⟨x, h1, ?_⟩) h.1
       rw [e, h2]
     · exact ih h.2 h1 h2
mutual
theorem namedR_all : ∀ u : Ut, namedR u = u.all.all fun x => decide (x.kind = 0) || decide (x.id ≠ .zero)
 | .mk id kind l h w kids => by
   rw [namedR, all_mk, List.all_cons, namedRs_all kids]
   congr 1
   show _ = (decide (kind = 0) || decide (id ≠ Trip.zero))
   by_cases h1 : kind = 0 <;> by_cases h2 : id = Trip.zero <;> simp [h1, h2]
theorem namedRs_all : ∀ l : List Ut, namedRs l = (Ut.alls l).all fun x => decide (x.kind = 0) || decide (x.id ≠ .zero)
 | [] => by simp [namedRs, Ut.alls]
 | u :: r => by rw [namedRs, Ut.alls, List.all_append, namedR_all u, namedRs_all r]
end
theorem standsR_eq (u : Ut) : standsR u = standsB u := by
 unfold standsR standsB namedB
 rw [namedR_all]
theorem edit_stands (u : Ut) : editB u = standsB u := by
 unfold editB
 by_cases hv : validB u = true
 · rw [stands_eq hv, hv, Bool.true_and, List.contains_eq_mem]
 · rw [Bool.not_eq_true] at hv
   unfold standsB
   rw [hv]; rfl
theorem found_mem (id : Trip) (u : Ut) : foundB id u = decide (id ∈ u.ids) := by
 unfold foundB
 cases hq : linL id u with
 | nil =>
   have := lin_empty hq
   symm
   refine decide_eq_false fun h => ?_
   obtain ⟨x, hx, he⟩ := List.mem_map.1 h
   exact this x hx he
 | cons x r =>
   obtain ⟨h1, h2⟩ := lin_head u.count (Nat.le_refl _) x r hq
   symm
   exact decide_eq_true (List.mem_map.2 ⟨x, h2, h1⟩)
def lens (y : Ut) : Prop := y.head.length ≤ 1000000 ∧ y.words.length ≤ 1000000 ∧ y.kids.length ≤ 1000000
theorem edok_none {id : Trip} {f : Ut → Ut} {D : Ut → Prop} : ∀ (n : Nat) {u : Ut}, u.count ≤ n → noId id u → (∀ y ∈ u.all, lens y) → EdOk id f D n u
 | 0, u, hn, _, _ => by have := count_pos u; omega
 | n + 1, u, hn, hi, hl => by
   rw [EdOk, if_neg (noId_self hi)]
   exact ⟨fun h => absurd h (noId_self hi), hl u (self_all u), fun k hk => edok_none n (by have := kid_count hk; omega) (noId_kids hi k hk) fun y hy => hl y (kid_in hk y hy)⟩
theorem edok_cut {id : Trip} {j : Nat} {D : Ut → Prop} : ∀ (n : Nat) {u : Ut}, u.count ≤ n → Fresh1 id (cutAt j) 0 u → (∀ y ∈ u.all, y.id = id → D y) → (∀ y ∈ u.all, lens y) → EdOk id (cutAt j) D n u
 | 0, u, hn, _, _, _ => by have := count_pos u; omega
 | n + 1, u, hn, hf, hD, hl => by
   rw [EdOk]
   refine ⟨hD u (self_all u), ?_, fun k hk => ?_⟩
   · by_cases hi : u.id = id
     · rw [if_pos hi]
       obtain ⟨g1, g2, g3⟩ := hl u (self_all u)
       refine ⟨g1, g2, ?_⟩
       show (u.kids.take j ++ u.kids.drop (j + 1)).length ≤ 1000000
       rw [List.length_append, List.length_take, List.length_drop]
       omega
     · rw [if_neg hi]
       exact hl u (self_all u)
   · by_cases hi : u.id = id
     · rw [if_pos hi] at hk
       have hk2 : k ∈ u.kids.take j ++ u.kids.drop (j + 1) := hk
       have hku : k ∈ u.kids := by
         rcases List.mem_append.1 hk2 with h | h
         · exact List.mem_of_mem_take h
         · exact List.mem_of_mem_drop h
       exact edok_none n (by have := kid_count hku; omega) ((hf u (self_all u) hi).2 k hk) fun y hy => hl y (kid_in hku y hy)
     · rw [if_neg hi] at hk
       exact edok_cut n (by have := kid_count hk; omega) (hf.kid hk) (fun y hy => hD y (kid_in hk y hy)) fun y hy => hl y (kid_in hk y hy)
theorem dropR_eq {id : Trip} : ∀ (n : Nat) {u : Ut}, u.count ≤ n → dropR id n u = dropU id u
 | 0, u, hn => by have := count_pos u; omega
 | n + 1, u, hn => by
   rw [dropR, dropU_eq]
   congr 1
   refine List.map_congr_left fun k hk => dropR_eq n ?_
   have := kid_count (List.mem_filter.1 hk).1
   omega
theorem cut_facts {u : Ut} {id : Trip} (hs : standsB u = true) (hm : id ∈ u.ids) (hi : id ≠ u.id) (hl : ∀ y ∈ u.all, lens y) : ∃ j : Nat, (parV id u).2.1 = (j : Int) ∧ EdOk (parV id u).1 (cutAt j) (cutD j) u.count u ∧ editN (parV id u).1 (cutAt j) u.count u = dropU id u ∧ (parV id u).2.2 = true := by
 have hnd := stands_nodup hs
 have hne : linL id u ≠ [] := by
   intro h
   obtain ⟨x, hx, he⟩ := List.mem_map.1 hm
   exact lin_empty h x hx he
 obtain ⟨x, p, r, j, h1, h2, h3, h4, h5⟩ := drop_put u.count (Nat.le_refl _) hnd (Ne.symm hi) hne
 have hp : parV id u = (p.id, (j : Int), true) := by
   unfold parV
   rw [h1]
   show (p.id, ((p.kids.findIdx fun k => decide (k.id = id) : Nat) : Int), true) = _
   rw [h4]
 rw [hp]
 have hfr : Fresh1 p.id (cutAt j) 0 u := fresh_cut hnd
 refine ⟨j, rfl, edok_cut u.count (Nat.le_refl _) hfr (fun y hy he => ?_) hl, ?_, rfl⟩
 · have : y = p := ids_inj hnd hy h2 he
   subst this
   exact ⟨(List.getElem?_eq_some_iff.1 h3).1, (hl y hy).2.2⟩
 · rw [h5]
   exact editN_put u.count (Nat.le_refl _) hfr
theorem drop_ok {id : Trip} : ∀ (n : Nat) {u : Ut}, u.count ≤ n → okU u → okU (dropU id u)
 | 0, u, hn, _ => by have := count_pos u; omega
 | n + 1, u, hn, h => by
   rw [dropU_eq]
   intro x hx
   rw [Ut.all_eq] at hx
   rcases List.mem_cons.1 hx with rfl | hx
   · exact h u (self_all u)
   · obtain ⟨k, hk, hx⟩ := mem_alls.1 hx
     have hk2 : k ∈ (u.kids.filter fun k => decide (k.id ≠ id)).map (dropU id) := hk
     obtain ⟨z, hz, rfl⟩ := List.mem_map.1 hk2
     have hzu := (List.mem_filter.1 hz).1
     exact drop_ok n (by have := kid_count hzu; omega) (fun y hy => h y (kid_in hzu y hy)) x hx
theorem zero_ok : okU zeroU := by
 intro y hy
 unfold zeroU at hy
 rw [all_mk] at hy
 simp only [Ut.alls, List.mem_singleton] at hy
 subst hy
 refine ⟨⟨?_, ?_, ?_⟩, ?_⟩ <;> (unfold inI; first | omega | (simp only [Trip.zero, Ut.id, Ut.kind]; omega))
end Go.Proofs.YtmnbobcgjnickaaGreatDoor.Pt
namespace Go.Proofs.YtmnbobcgjnickaaGreatDoor.Pt
open Go Go.Pv Go.RowKit
set_option linter.unusedSimpArgs false
open Lab Lcs Go.Proofs.YtmnbobcgjnickaaGreatDoor Go.Proofs.YtmnbobcgjnickaaGreatDoor.Pu
set_option maxRecDepth 10000
set_option maxHeartbeats 16000000
def idxOf {α : Type} (p : α → Bool) (l : List α) : Int := if l.any p then ((l.findIdx p : Nat) : Int) else -1
theorem idxOf_hit {α : Type} {p : α → Bool} {l : List α} {k : Nat} {x : α} (hx : l[k]? = some x) (h : p x = true) (hp : ∀ y ∈ l.take k, p y = false) : idxOf p l = k := by
 unfold idxOf
 rw [if_pos (List.any_eq_true.2 ⟨x, List.mem_of_getElem? hx, h⟩)]
 obtain ⟨hk, he⟩ := List.getElem?_eq_some_iff.1 hx
 congr 1
 refine (List.findIdx_eq hk).2 ⟨by rw [he]; exact h, fun j hj => ?_⟩
 have : l[j] ∈ l.take k := by rw [List.mem_take_iff_getElem]; exact ⟨j, by omega, rfl⟩
 exact hp _ this
theorem idxOf_none {α : Type} {p : α → Bool} {l : List α} (hp : ∀ y ∈ l, p y = false) : idxOf p l = -1 := by
 unfold idxOf
 rw [if_neg]
 intro h
 obtain ⟨x, hx, he⟩ := List.any_eq_true.1 h
 rw [hp x hx] at he
 cases he
theorem takenc_pcb (kd : Int) (lb : Str) (u : Ut) : PCB Tryz.prog env0 101 [.imm (uv u), .ptr 0 1 0, .ptr 1 1 0] [.box 1 [.imm (.int .i64 kd)], .box 1 [.imm (.str lb)]] [.imm (.bool (decide (u.kind = kd) && decide (u.label = lb)))] [.box 1 [.imm (.int .i64 kd)], .box 1 [.imm (.str lb)]] := by
 have hue := uv_eq u
 rw [hue]
 by_cases h1 : u.kind = kd
 · rw [decide_eq_true h1, Bool.true_and]
   by_cases h2 : u.label = lb
   · rw [decide_eq_true h2]
     refine PCB.of_va (T := tb0) eqs_ok tb_ok rfl mixed Tryz.func101 rfl rfl rfl (Nat.le_of_ble_eq_true rfl) rfl ?_; intro Γ C WK LP fin h0 hk0 hW hC hB hR hLP hfin
     (try (conv => whnf)); (repeat ((first | refine qT ?_ | refine qF ?_ | refine qO ?_ | (with_reducible intro z hz); (first | (replace hz := hz (by omega); subst hz) | subst hz)); (try (conv => whnf))))
     exact hfin _ (qSL 2 rfl rfl)
   · rw [decide_eq_false h2]
     refine PCB.of_va (T := tb0) eqs_ok tb_ok rfl mixed Tryz.func101 rfl rfl rfl (Nat.le_of_ble_eq_true rfl) rfl ?_; intro Γ C WK LP fin h0 hk0 hW hC hB hR hLP hfin
     (try (conv => whnf)); (repeat ((first | refine qT ?_ | refine qF ?_ | refine qO ?_ | (with_reducible intro z hz); (first | (replace hz := hz (by omega); subst hz) | subst hz)); (try (conv => whnf))))
     exact hfin _ (qSL 2 rfl rfl)
 · rw [decide_eq_false h1, Bool.false_and]
   refine PCB.of_va (T := tb0) eqs_ok tb_ok rfl mixed Tryz.func101 rfl rfl rfl (Nat.le_of_ble_eq_true rfl) rfl ?_; intro Γ C WK LP fin h0 hk0 hW hC hB hR hLP hfin
   (try (conv => whnf)); (repeat ((first | refine qT ?_ | refine qF ?_ | refine qO ?_ | (with_reducible intro z hz); (first | (replace hz := hz (by omega); subst hz) | subst hz)); (try (conv => whnf))))
   exact hfin _ (qSL 2 rfl rfl)
theorem idx_taken (kd : Int) (lb : Str) (l : List Ut) (hl : l.length ≤ 100000000) : PCB Tryz.prog env0 95 [.imm (.sl 8 (l.map uv)), .clo 101 [.ptr 0 1 0, .ptr 1 1 0]] [.box 1 [.imm (.int .i64 kd)], .box 1 [.imm (.str lb)]] [.imm (.int .i64 (idxOf (fun u : Ut => decide (u.kind = kd) && decide (u.label = lb)) l))] [.box 1 [.imm (.int .i64 kd)], .box 1 [.imm (.str lb)]] := by
 have hml : (l.map uv).length = l.length := List.length_map _
 refine PCB.of_va (T := tb0) eqs_ok tb_ok rfl mixed Tryz.func95 rfl rfl rfl (Nat.le_of_ble_eq_true rfl) rfl ?_; intro Γ C WK LP fin h0 hk0 hW hC hB hR hLP hfin
 (try (conv => whnf)); (repeat ((first | refine qT ?_ | refine qF ?_ | refine qO ?_ | (with_reducible intro z hz); (first | (replace hz := hz (by omega); subst hz) | subst hz)); (try (conv => whnf))))
 refine hLP _ _ _ Nat (fun k => ⟨[(0, .imm (.sl 8 (l.map uv))), (1, .clo 101 [.ptr 0 1 0, .ptr 1 1 0]), (7, .imm (.int .i64 (l.length : Nat))), (8, .imm (.int .i64 (k : Nat)))], [.box 1 [.imm (.int .i64 kd)], .box 1 [.imm (.str lb)]]⟩) (fun k => k ≤ l.length ∧ ∀ x ∈ l.take k, (fun u : Ut => decide (u.kind = kd) && decide (u.label = lb)) x = false) (fun k => l.length - k) 0 ⟨Nat.zero_le _, by simp⟩ (qSL 2 rfl rfl (hE := by (repeat ((conv => whnf); first | exact trivial | refine And.intro (by first | exact WkOne.any | exact WkOne.eq (by with_reducible rfl) rfl | exact WkOne.eq (congrArg (fun z => PV.imm (IV.int IntKind.i64 z)) (by first | omega | (simp [hml]; done) | (simp [hml]; omega))) rfl | exact WkOne.eq (by first | (simp [hml]; done) | fail) rfl | exact WkOne.eq rfl rfl | exact WkOne.le rfl (ILe.nil _)) ?_)))) ?_
 rintro k ⟨hk, hp⟩
 have hho := Nat.lt_or_ge k l.length
 cases hho with
 | inl hlt =>
   obtain ⟨x, hx⟩ : ∃ x, l[k]? = some x := ⟨l[k], List.getElem?_eq_getElem hlt⟩
   have hI := takenc_pcb kd lb x
   have hq : ∃ b, (fun u : Ut => decide (u.kind = kd) && decide (u.label = lb)) x = b := ⟨_, rfl⟩
   obtain ⟨b, hq⟩ := hq
   have hq2 := hq
   dsimp only at hq2
   rw [hq2] at hI
   rw [uv_eq x] at hI
   cases b
   · (try (conv => whnf)); (repeat ((first | refine qT ?_ | refine qF ?_ | refine qO ?_ | (with_reducible intro z hz); (first | (replace hz := hz (by omega); subst hz) | subst hz)); (try (conv => whnf))))
     refine Idx.mk k (uv x) _ rfl (by simp [hx]) (by rw [uv_eq x]) ?_
     (try (conv => whnf)); (repeat ((first | refine qT ?_ | refine qF ?_ | refine qO ?_ | (with_reducible intro z hz); (first | (replace hz := hz (by omega); subst hz) | subst hz)); (try (conv => whnf))))
     refine CallB.mk ([.imm (.bool false)]) ([.box 1 [.imm (.int .i64 kd)], .box 1 [.imm (.str lb)]]) (hB _ _ _ _ _ (hI)) ?_
     (try (conv => whnf)); (repeat ((first | refine qT ?_ | refine qF ?_ | refine qO ?_ | (with_reducible intro z hz); (first | (replace hz := hz (by omega); subst hz) | subst hz)); (try (conv => whnf))))
     exact ⟨k + 1, ⟨by omega, fun y hy => by
       rw [take_at hx, List.mem_append] at hy
       rcases hy with hy | hy
       · exact hp y hy
       · rw [List.mem_singleton.1 hy]; exact hq⟩, by dsimp only; omega, (qSL 2 rfl rfl)⟩
   · (try (conv => whnf)); (repeat ((first | refine qT ?_ | refine qF ?_ | refine qO ?_ | (with_reducible intro z hz); (first | (replace hz := hz (by omega); subst hz) | subst hz)); (try (conv => whnf))))
     refine Idx.mk k (uv x) _ rfl (by simp [hx]) (by rw [uv_eq x]) ?_
     (try (conv => whnf)); (repeat ((first | refine qT ?_ | refine qF ?_ | refine qO ?_ | (with_reducible intro z hz); (first | (replace hz := hz (by omega); subst hz) | subst hz)); (try (conv => whnf))))
     refine CallB.mk ([.imm (.bool true)]) ([.box 1 [.imm (.int .i64 kd)], .box 1 [.imm (.str lb)]]) (hB _ _ _ _ _ (hI)) ?_
     (try (conv => whnf)); (repeat ((first | refine qT ?_ | refine qF ?_ | refine qO ?_ | (with_reducible intro z hz); (first | (replace hz := hz (by omega); subst hz) | subst hz)); (try (conv => whnf))))
     rw [idxOf_hit hx hq hp] at hfin
     exact hfin _ (qSL 2 rfl rfl)
 | inr hge =>
   obtain rfl : k = l.length := by omega
   rw [List.take_length] at hp
   rw [idxOf_none hp] at hfin
   (try (conv => whnf)); (repeat ((first | refine qT ?_ | refine qF ?_ | refine qO ?_ | (with_reducible intro z hz); (first | (replace hz := hz (by omega); subst hz) | subst hz)); (try (conv => whnf))))
   exact hfin _ (qSL 2 rfl rfl)
theorem has_taken (kd : Int) (lb : Str) (l : List Ut) (hl : l.length ≤ 100000000) : PCB Tryz.prog env0 100 [.imm (.sl 8 (l.map uv)), .clo 101 [.ptr 0 1 0, .ptr 1 1 0]] [.box 1 [.imm (.int .i64 kd)], .box 1 [.imm (.str lb)]] [.imm (.bool (l.any (fun u : Ut => decide (u.kind = kd) && decide (u.label = lb))))] [.box 1 [.imm (.int .i64 kd)], .box 1 [.imm (.str lb)]] := by
 have hI := idx_taken kd lb l hl
 unfold idxOf at hI
 generalize (l.findIdx (fun u : Ut => decide (u.kind = kd) && decide (u.label = lb))) = j at hI
 generalize l.any (fun u : Ut => decide (u.kind = kd) && decide (u.label = lb)) = b at hI ⊢
 cases b
 · rw [if_neg (by decide)] at hI
   refine PCB.of_va (T := tb0) eqs_ok tb_ok rfl mixed Tryz.func100 rfl rfl rfl (Nat.le_of_ble_eq_true rfl) rfl ?_; intro Γ C WK LP fin h0 hk0 hW hC hB hR hLP hfin
   (try (conv => whnf)); (repeat ((first | refine qT ?_ | refine qF ?_ | refine qO ?_ | (with_reducible intro z hz); (first | (replace hz := hz (by omega); subst hz) | subst hz)); (try (conv => whnf))))
   refine CallB.mk ([.imm (.int .i64 (-1))]) ([.box 1 [.imm (.int .i64 kd)], .box 1 [.imm (.str lb)]]) (hB _ _ _ _ _ (hI)) ?_
   (try (conv => whnf)); (repeat ((first | refine qT ?_ | refine qF ?_ | refine qO ?_ | (with_reducible intro z hz); (first | (replace hz := hz (by omega); subst hz) | subst hz)); (try (conv => whnf))))
   exact hfin _ (qSL 2 rfl rfl)
 · rw [if_pos rfl] at hI
   refine PCB.of_va (T := tb0) eqs_ok tb_ok rfl mixed Tryz.func100 rfl rfl rfl (Nat.le_of_ble_eq_true rfl) rfl ?_; intro Γ C WK LP fin h0 hk0 hW hC hB hR hLP hfin
   (try (conv => whnf)); (repeat ((first | refine qT ?_ | refine qF ?_ | refine qO ?_ | (with_reducible intro z hz); (first | (replace hz := hz (by omega); subst hz) | subst hz)); (try (conv => whnf))))
   refine CallB.mk ([.imm (.int .i64 (j : Nat))]) ([.box 1 [.imm (.int .i64 kd)], .box 1 [.imm (.str lb)]]) (hB _ _ _ _ _ (hI)) ?_
   (try (conv => whnf)); (repeat ((first | refine qT ?_ | refine qF ?_ | refine qO ?_ | (with_reducible intro z hz); (first | (replace hz := hz (by omega); subst hz) | subst hz)); (try (conv => whnf))))
   exact hfin _ (qSL 2 rfl rfl)
def takenB (l : List Ut) (kd : Int) (lb : Str) : Bool := l.any fun u => decide (u.kind = kd) && decide (u.label = lb)
theorem taken_pc (l : List Ut) (kd : Int) (lb : Str) (hl : l.length ≤ 100000000) : PC Tryz.prog env0 73 [.sl 8 (l.map uv), .int .i64 kd, .str lb] [.bool (takenB l kd lb)] := by
 have hI := has_taken kd lb l hl
 unfold takenB
 generalize l.any (fun u : Ut => decide (u.kind = kd) && decide (u.label = lb)) = b at hI ⊢
 refine PC.of_va (T := tb0) eqs_ok tb_ok rfl mixed Tryz.func73 rfl rfl (Nat.le_of_ble_eq_true rfl) ?_; intro Γ C WK LP fin h0 hW hC hB hR hLP hfin
 (try (conv => whnf)); (repeat ((first | refine qT ?_ | refine qF ?_ | refine qO ?_ | (with_reducible intro z hz); (first | (replace hz := hz (by omega); subst hz) | subst hz)); (try (conv => whnf))))
 refine CallB.mk ([.imm (.bool b)]) ([.box 1 [.imm (.int .i64 kd)], .box 1 [.imm (.str lb)]]) (hB _ _ _ _ _ (hI)) ?_
 (try (conv => whnf)); (repeat ((first | refine qT ?_ | refine qF ?_ | refine qO ?_ | (with_reducible intro z hz); (first | (replace hz := hz (by omega); subst hz) | subst hz)); (try (conv => whnf))))
 exact hfin _ (ILes.refl _)
theorem sharec_pcb (ids : List Trip) (t : Trip) (h : ids.length ≤ 100000000) : PCB Tryz.prog env0 62 [.imm (idv t), .ptr 0 1 0] [.box 1 [.imm (.sl 3 (ids.map idv))]] [.imm (.bool (decide (t ∈ ids)))] [.box 1 [.imm (.sl 3 (ids.map idv))]] := by
 have hCt := contains_pc t ids h
 refine PCB.of_va (T := tb0) eqs_ok tb_ok rfl mixed Tryz.func62 rfl rfl rfl (Nat.le_of_ble_eq_true rfl) rfl ?_; intro Γ C WK LP fin h0 hk0 hW hC hB hR hLP hfin
 (try (conv => whnf)); (repeat ((first | refine qT ?_ | refine qF ?_ | refine qO ?_ | (with_reducible intro z hz); (first | (replace hz := hz (by omega); subst hz) | subst hz) | (refine CallV.mk _ (hC _ _ _ (PCw.of hCt)) (fun js hjs => ?_); subst hjs)); (try (conv => whnf))))
 exact hfin _ (qSL 1 rfl rfl)
theorem idx_share (ids : List Trip) (hi : ids.length ≤ 100000000) (l : List Trip) (hl : l.length ≤ 100000000) : PCB Tryz.prog env0 88 [.imm (.sl 3 (l.map idv)), .clo 62 [.ptr 0 1 0]] [.box 1 [.imm (.sl 3 (ids.map idv))]] [.imm (.int .i64 (idxOf (fun t : Trip => decide (t ∈ ids)) l))] [.box 1 [.imm (.sl 3 (ids.map idv))]] := by
 have hml : (l.map idv).length = l.length := List.length_map _
 refine PCB.of_va (T := tb0) eqs_ok tb_ok rfl mixed Tryz.func88 rfl rfl rfl (Nat.le_of_ble_eq_true rfl) rfl ?_; intro Γ C WK LP fin h0 hk0 hW hC hB hR hLP hfin
 (try (conv => whnf)); (repeat ((first | refine qT ?_ | refine qF ?_ | refine qO ?_ | (with_reducible intro z hz); (first | (replace hz := hz (by omega); subst hz) | subst hz)); (try (conv => whnf))))
 refine hLP _ _ _ Nat (fun k => ⟨[(0, .imm (.sl 3 (l.map idv))), (1, .clo 62 [.ptr 0 1 0]), (7, .imm (.int .i64 (l.length : Nat))), (8, .imm (.int .i64 (k : Nat)))], [.box 1 [.imm (.sl 3 (ids.map idv))]]⟩) (fun k => k ≤ l.length ∧ ∀ x ∈ l.take k, (fun t : Trip => decide (t ∈ ids)) x = false) (fun k => l.length - k) 0 ⟨Nat.zero_le _, by simp⟩ (qSL 1 rfl rfl (hE := by (repeat ((conv => whnf); first | exact trivial | refine And.intro (by first | exact WkOne.any | exact WkOne.eq (by with_reducible rfl) rfl | exact WkOne.eq (congrArg (fun z => PV.imm (IV.int IntKind.i64 z)) (by first | omega | (simp [hml]; done) | (simp [hml]; omega))) rfl | exact WkOne.eq (by first | (simp [hml]; done) | fail) rfl | exact WkOne.eq rfl rfl | exact WkOne.le rfl (ILe.nil _)) ?_)))) ?_
 rintro k ⟨hk, hp⟩
 have hho := Nat.lt_or_ge k l.length
 cases hho with
 | inl hlt =>
   obtain ⟨x, hx⟩ : ∃ x, l[k]? = some x := ⟨l[k], List.getElem?_eq_getElem hlt⟩
   have hI := sharec_pcb ids x hi
   have hq : ∃ b, (fun t : Trip => decide (t ∈ ids)) x = b := ⟨_, rfl⟩
   obtain ⟨b, hq⟩ := hq
   have hq2 := hq
   dsimp only at hq2
   rw [hq2] at hI
   cases b
   · (try (conv => whnf)); (repeat ((first | refine qT ?_ | refine qF ?_ | refine qO ?_ | (with_reducible intro z hz); (first | (replace hz := hz (by omega); subst hz) | subst hz)); (try (conv => whnf))))
     refine Idx.mk k (idv x) _ rfl (by simp [hx]) rfl ?_
     (try (conv => whnf)); (repeat ((first | refine qT ?_ | refine qF ?_ | refine qO ?_ | (with_reducible intro z hz); (first | (replace hz := hz (by omega); subst hz) | subst hz)); (try (conv => whnf))))
     refine CallB.mk ([.imm (.bool false)]) ([.box 1 [.imm (.sl 3 (ids.map idv))]]) (hB _ _ _ _ _ (hI)) ?_
     (try (conv => whnf)); (repeat ((first | refine qT ?_ | refine qF ?_ | refine qO ?_ | (with_reducible intro z hz); (first | (replace hz := hz (by omega); subst hz) | subst hz)); (try (conv => whnf))))
     exact ⟨k + 1, ⟨by omega, fun y hy => by
       rw [take_at hx, List.mem_append] at hy
       rcases hy with hy | hy
       · exact hp y hy
       · rw [List.mem_singleton.1 hy]; exact hq⟩, by dsimp only; omega, (qSL 1 rfl rfl)⟩
   · (try (conv => whnf)); (repeat ((first | refine qT ?_ | refine qF ?_ | refine qO ?_ | (with_reducible intro z hz); (first | (replace hz := hz (by omega); subst hz) | subst hz)); (try (conv => whnf))))
     refine Idx.mk k (idv x) _ rfl (by simp [hx]) rfl ?_
     (try (conv => whnf)); (repeat ((first | refine qT ?_ | refine qF ?_ | refine qO ?_ | (with_reducible intro z hz); (first | (replace hz := hz (by omega); subst hz) | subst hz)); (try (conv => whnf))))
     refine CallB.mk ([.imm (.bool true)]) ([.box 1 [.imm (.sl 3 (ids.map idv))]]) (hB _ _ _ _ _ (hI)) ?_
     (try (conv => whnf)); (repeat ((first | refine qT ?_ | refine qF ?_ | refine qO ?_ | (with_reducible intro z hz); (first | (replace hz := hz (by omega); subst hz) | subst hz)); (try (conv => whnf))))
     rw [idxOf_hit hx hq hp] at hfin
     exact hfin _ (qSL 1 rfl rfl)
 | inr hge =>
   obtain rfl : k = l.length := by omega
   rw [List.take_length] at hp
   rw [idxOf_none hp] at hfin
   (try (conv => whnf)); (repeat ((first | refine qT ?_ | refine qF ?_ | refine qO ?_ | (with_reducible intro z hz); (first | (replace hz := hz (by omega); subst hz) | subst hz)); (try (conv => whnf))))
   exact hfin _ (qSL 1 rfl rfl)
theorem has_share (ids : List Trip) (hi : ids.length ≤ 100000000) (l : List Trip) (hl : l.length ≤ 100000000) : PCB Tryz.prog env0 61 [.imm (.sl 3 (l.map idv)), .clo 62 [.ptr 0 1 0]] [.box 1 [.imm (.sl 3 (ids.map idv))]] [.imm (.bool (l.any (fun t : Trip => decide (t ∈ ids))))] [.box 1 [.imm (.sl 3 (ids.map idv))]] := by
 have hI := idx_share ids hi l hl
 unfold idxOf at hI
 generalize (l.findIdx (fun t : Trip => decide (t ∈ ids))) = j at hI
 generalize l.any (fun t : Trip => decide (t ∈ ids)) = b at hI ⊢
 cases b
 · rw [if_neg (by decide)] at hI
   refine PCB.of_va (T := tb0) eqs_ok tb_ok rfl mixed Tryz.func61 rfl rfl rfl (Nat.le_of_ble_eq_true rfl) rfl ?_; intro Γ C WK LP fin h0 hk0 hW hC hB hR hLP hfin
   (try (conv => whnf)); (repeat ((first | refine qT ?_ | refine qF ?_ | refine qO ?_ | (with_reducible intro z hz); (first | (replace hz := hz (by omega); subst hz) | subst hz)); (try (conv => whnf))))
   refine CallB.mk ([.imm (.int .i64 (-1))]) ([.box 1 [.imm (.sl 3 (ids.map idv))]]) (hB _ _ _ _ _ (hI)) ?_
   (try (conv => whnf)); (repeat ((first | refine qT ?_ | refine qF ?_ | refine qO ?_ | (with_reducible intro z hz); (first | (replace hz := hz (by omega); subst hz) | subst hz)); (try (conv => whnf))))
   exact hfin _ (qSL 1 rfl rfl)
 · rw [if_pos rfl] at hI
   refine PCB.of_va (T := tb0) eqs_ok tb_ok rfl mixed Tryz.func61 rfl rfl rfl (Nat.le_of_ble_eq_true rfl) rfl ?_; intro Γ C WK LP fin h0 hk0 hW hC hB hR hLP hfin
   (try (conv => whnf)); (repeat ((first | refine qT ?_ | refine qF ?_ | refine qO ?_ | (with_reducible intro z hz); (first | (replace hz := hz (by omega); subst hz) | subst hz)); (try (conv => whnf))))
   refine CallB.mk ([.imm (.int .i64 (j : Nat))]) ([.box 1 [.imm (.sl 3 (ids.map idv))]]) (hB _ _ _ _ _ (hI)) ?_
   (try (conv => whnf)); (repeat ((first | refine qT ?_ | refine qF ?_ | refine qO ?_ | (with_reducible intro z hz); (first | (replace hz := hz (by omega); subst hz) | subst hz)); (try (conv => whnf))))
   exact hfin _ (qSL 1 rfl rfl)
end Go.Proofs.YtmnbobcgjnickaaGreatDoor.Pt
namespace Go.Proofs.YtmnbobcgjnickaaGreatDoor.Pt
open Go Go.Pv Go.RowKit
set_option linter.unusedSimpArgs false
open Lab Lcs Go.Proofs.YtmnbobcgjnickaaGreatDoor Go.Proofs.YtmnbobcgjnickaaGreatDoor.Pu
set_option maxRecDepth 10000
set_option maxHeartbeats 16000000
theorem depthOf_pc (u : Ut) (t : Trip) (h : u.count ≤ 100000000) : PC Tryz.prog env0 75 [uv u, idv t] [.int .i64 ((ancL t u).length : Nat)] := by
 have hAn := anc_pc t u h
 have hml : ((ancL t u).map idv).length = (ancL t u).length := List.length_map _
 have hue := uv_eq u
 rw [hue] at hAn ⊢
 refine PC.of_va (T := tb0) eqs_ok tb_ok rfl mixed Tryz.func75 rfl rfl (Nat.le_of_ble_eq_true rfl) ?_; intro Γ C WK LP fin h0 hW hC hB hR hLP hfin
 (try (conv => whnf)); (repeat ((first | refine qT ?_ | refine qF ?_ | refine qO ?_ | (with_reducible intro z hz); (first | (replace hz := hz (by omega); subst hz) | subst hz) | (refine CallV.mk _ (hC _ _ _ (PCw.of hAn)) (fun js hjs => ?_); subst hjs)); (try (conv => whnf))))
 rw [hml]
 exact hfin _ (ILes.refl _)
def placeE (u : Ut) (p : Trip) (at' : Int) (x : Ut) : Int :=
 if foundB p u = false then 4 else if nestsB (findU p u).kind x.kind = false then 9 else if at' < 0 ∨ ((findU p u).kids.length : Int) < at' then 3 else if takenB (findU p u).kids x.kind x.label = true then 10 else
   if 64 ≤ (findU p u).kids.length ∨ 1024 < u.count + x.count ∨ 8 < (ancL p u).length + 1 + x.depth then 6 else 0
theorem placeError_pc (u : Ut) (p : Trip) (z : Int) (x : Ut) (hs : small u) (hc : u.count ≤ 1000000) (hx : x.count ≤ 1000000) (hd : x.depth ≤ 1000000) (hk : (findU p u).kids.length ≤ 1000000) (ha : (ancL p u).length ≤ 1000000) : PC Tryz.prog env0 43 [uv u, idv p, .int .i64 z, uv x] [.int .i64 (placeE u p z x)] := by
 have hFi := find_pc p u (by omega) hs
 have hNe := contain_pc (findU p u).kind x.kind
 have hTa := taken_pc (findU p u).kids x.kind x.label (by omega)
 have hC1 := count_pc u.count u (Nat.le_refl _) (by omega)
 have hC2 := count_pc x.count x (Nat.le_refl _) (by omega)
 have hDo := depthOf_pc u p (by omega)
 have hDe := depth_pc env0 rfl x.count x (Nat.le_refl _) (by omega) (by omega)
 have hml : ((findU p u).kids.map uv).length = (findU p u).kids.length := List.length_map _
 have hue := uv_eq u
 have hxe := uv_eq x
 unfold placeE
 generalize findU p u = q at hFi hNe hTa hk hml ⊢
 generalize (ancL p u).length = a at hDo ha ⊢
 generalize foundB p u = b at hFi ⊢
 generalize nestsB q.kind x.kind = c at hNe ⊢
 generalize takenB q.kids x.kind x.label = e at hTa ⊢
 rw [hue] at hFi hC1 hDo ⊢
 rw [hxe] at hC2 hDe ⊢
 rw [uv_eq q] at hFi
 cases b
 · rw [if_pos rfl]
   refine PC.of_va (T := tb0) eqs_ok tb_ok rfl mixed Tryz.func43 rfl rfl (Nat.le_of_ble_eq_true rfl) ?_; intro Γ C WK LP fin h0 hW hC hB hR hLP hfin
   (try (conv => whnf)); (repeat ((first | refine qT ?_ | refine qF ?_ | refine qO ?_ | (with_reducible intro z hz); (first | (replace hz := hz (by omega); subst hz) | subst hz) | (refine CallV.mk _ (hC _ _ _ (PCw.of hFi)) (fun js hjs => ?_); subst hjs)); (try (conv => whnf))))
   exact hfin _ (ILes.refl _)
 rw [if_neg (by decide)]
 cases c
 · rw [if_pos rfl]
   refine PC.of_va (T := tb0) eqs_ok tb_ok rfl mixed Tryz.func43 rfl rfl (Nat.le_of_ble_eq_true rfl) ?_; intro Γ C WK LP fin h0 hW hC hB hR hLP hfin
   (try (conv => whnf)); (repeat ((first | refine qT ?_ | refine qF ?_ | refine qO ?_ | (with_reducible intro z hz); (first | (replace hz := hz (by omega); subst hz) | subst hz) | (refine CallV.mk _ (hC _ _ _ (PCw.of hFi)) (fun js hjs => ?_); subst hjs) | (refine CallV.mk _ (hC _ _ _ (PCw.of hNe)) (fun js hjs => ?_); subst hjs)); (try (conv => whnf))))
   exact hfin _ (ILes.refl _)
 rw [if_neg (by decide)]
 by_cases hz1 : z < 0
 · rw [if_pos (Or.inl hz1)]
   refine PC.of_va (T := tb0) eqs_ok tb_ok rfl mixed Tryz.func43 rfl rfl (Nat.le_of_ble_eq_true rfl) ?_; intro Γ C WK LP fin h0 hW hC hB hR hLP hfin
   (try (conv => whnf)); (repeat ((first | refine qT ?_ | refine qF ?_ | refine qO ?_ | (with_reducible intro z hz); (first | (replace hz := hz (by omega); subst hz) | subst hz) | (refine CallV.mk _ (hC _ _ _ (PCw.of hFi)) (fun js hjs => ?_); subst hjs) | (refine CallV.mk _ (hC _ _ _ (PCw.of hNe)) (fun js hjs => ?_); subst hjs)); (try (conv => whnf))))
   exact hfin _ (ILes.refl _)
 by_cases hz2 : (q.kids.length : Int) < z
 · rw [if_pos (Or.inr hz2)]
   refine PC.of_va (T := tb0) eqs_ok tb_ok rfl mixed Tryz.func43 rfl rfl (Nat.le_of_ble_eq_true rfl) ?_; intro Γ C WK LP fin h0 hW hC hB hR hLP hfin
   (try (conv => whnf)); (repeat ((first | refine qT ?_ | refine qF ?_ | refine qO ?_ | (with_reducible intro z hz); (first | (replace hz := hz (by omega); subst hz) | subst hz) | (refine CallV.mk _ (hC _ _ _ (PCw.of hFi)) (fun js hjs => ?_); subst hjs) | (refine CallV.mk _ (hC _ _ _ (PCw.of hNe)) (fun js hjs => ?_); subst hjs)); (try (conv => whnf))))
   exact hfin _ (ILes.refl _)
 rw [if_neg (fun h => h.elim hz1 hz2)]
 cases e
 rotate_left
 · rw [if_pos rfl]
   refine PC.of_va (T := tb0) eqs_ok tb_ok rfl mixed Tryz.func43 rfl rfl (Nat.le_of_ble_eq_true rfl) ?_; intro Γ C WK LP fin h0 hW hC hB hR hLP hfin
   (try (conv => whnf)); (repeat ((first | refine qT ?_ | refine qF ?_ | refine qO ?_ | (with_reducible intro z hz); (first | (replace hz := hz (by omega); subst hz) | subst hz) | (refine CallV.mk _ (hC _ _ _ (PCw.of hFi)) (fun js hjs => ?_); subst hjs) | (refine CallV.mk _ (hC _ _ _ (PCw.of hNe)) (fun js hjs => ?_); subst hjs) | (refine CallV.mk _ (hC _ _ _ (PCw.of hTa)) (fun js hjs => ?_); subst hjs)); (try (conv => whnf))))
   exact hfin _ (ILes.refl _)
 rw [if_neg (by decide)]
 by_cases h1 : 64 ≤ q.kids.length
 · rw [if_pos (Or.inl h1)]
   refine PC.of_va (T := tb0) eqs_ok tb_ok rfl mixed Tryz.func43 rfl rfl (Nat.le_of_ble_eq_true rfl) ?_; intro Γ C WK LP fin h0 hW hC hB hR hLP hfin
   (try (conv => whnf)); (repeat ((first | refine qT ?_ | refine qF ?_ | refine qO ?_ | (with_reducible intro z hz); (first | (replace hz := hz (by omega); subst hz) | subst hz) | (refine CallV.mk _ (hC _ _ _ (PCw.of hFi)) (fun js hjs => ?_); subst hjs) | (refine CallV.mk _ (hC _ _ _ (PCw.of hNe)) (fun js hjs => ?_); subst hjs) | (refine CallV.mk _ (hC _ _ _ (PCw.of hTa)) (fun js hjs => ?_); subst hjs)); (try (conv => whnf))))
   exact hfin _ (ILes.refl _)
 by_cases h2 : 1024 < u.count + x.count
 · rw [if_pos (Or.inr (Or.inl h2))]
   refine PC.of_va (T := tb0) eqs_ok tb_ok rfl mixed Tryz.func43 rfl rfl (Nat.le_of_ble_eq_true rfl) ?_; intro Γ C WK LP fin h0 hW hC hB hR hLP hfin
   (try (conv => whnf)); (repeat ((first | refine qT ?_ | refine qF ?_ | refine qO ?_ | (with_reducible intro z hz); (first | (replace hz := hz (by omega); subst hz) | subst hz) | (refine CallV.mk _ (hC _ _ _ (PCw.of hFi)) (fun js hjs => ?_); subst hjs) | (refine CallV.mk _ (hC _ _ _ (PCw.of hNe)) (fun js hjs => ?_); subst hjs) | (refine CallV.mk _ (hC _ _ _ (PCw.of hTa)) (fun js hjs => ?_); subst hjs) | (refine CallV.mk _ (hC _ _ _ (PCw.of hC1)) (fun js hjs => ?_); subst hjs) | (refine CallV.mk _ (hC _ _ _ (PCw.of hC2)) (fun js hjs => ?_); subst hjs)); (try (conv => whnf))))
   exact hfin _ (ILes.refl _)
 by_cases h3 : 8 < a + 1 + x.depth
 · rw [if_pos (Or.inr (Or.inr h3))]
   refine PC.of_va (T := tb0) eqs_ok tb_ok rfl mixed Tryz.func43 rfl rfl (Nat.le_of_ble_eq_true rfl) ?_; intro Γ C WK LP fin h0 hW hC hB hR hLP hfin
   (try (conv => whnf)); (repeat ((first | refine qT ?_ | refine qF ?_ | refine qO ?_ | (with_reducible intro z hz); (first | (replace hz := hz (by omega); subst hz) | subst hz) | (refine CallV.mk _ (hC _ _ _ (PCw.of hFi)) (fun js hjs => ?_); subst hjs) | (refine CallV.mk _ (hC _ _ _ (PCw.of hNe)) (fun js hjs => ?_); subst hjs) | (refine CallV.mk _ (hC _ _ _ (PCw.of hTa)) (fun js hjs => ?_); subst hjs) | (refine CallV.mk _ (hC _ _ _ (PCw.of hC1)) (fun js hjs => ?_); subst hjs) | (refine CallV.mk _ (hC _ _ _ (PCw.of hC2)) (fun js hjs => ?_); subst hjs) | (refine CallV.mk _ (hC _ _ _ (PCw.of hDo)) (fun js hjs => ?_); subst hjs) | (refine CallV.mk _ (hC _ _ _ (PCw.of hDe)) (fun js hjs => ?_); subst hjs)); (try (conv => whnf))))
   exact hfin _ (ILes.refl _)
 · rw [if_neg (fun h => h.elim h1 fun h => h.elim h2 h3)]
   refine PC.of_va (T := tb0) eqs_ok tb_ok rfl mixed Tryz.func43 rfl rfl (Nat.le_of_ble_eq_true rfl) ?_; intro Γ C WK LP fin h0 hW hC hB hR hLP hfin
   (try (conv => whnf)); (repeat ((first | refine qT ?_ | refine qF ?_ | refine qO ?_ | (with_reducible intro z hz); (first | (replace hz := hz (by omega); subst hz) | subst hz) | (refine CallV.mk _ (hC _ _ _ (PCw.of hFi)) (fun js hjs => ?_); subst hjs) | (refine CallV.mk _ (hC _ _ _ (PCw.of hNe)) (fun js hjs => ?_); subst hjs) | (refine CallV.mk _ (hC _ _ _ (PCw.of hTa)) (fun js hjs => ?_); subst hjs) | (refine CallV.mk _ (hC _ _ _ (PCw.of hC1)) (fun js hjs => ?_); subst hjs) | (refine CallV.mk _ (hC _ _ _ (PCw.of hC2)) (fun js hjs => ?_); subst hjs) | (refine CallV.mk _ (hC _ _ _ (PCw.of hDo)) (fun js hjs => ?_); subst hjs) | (refine CallV.mk _ (hC _ _ _ (PCw.of hDe)) (fun js hjs => ?_); subst hjs)); (try (conv => whnf))))
   exact hfin _ (ILes.refl _)
def insE (u : Ut) (p : Trip) (z : Int) (x : Ut) : Int :=
 if editB u = false then 1 else if editB x = false then 1 else if x.kind = 0 then 1 else if placeE u p z x ≠ 0 then placeE u p z x else if (x.ids.any fun t => decide (t ∈ u.ids)) = true then 5 else 0
theorem insertError_pc (u : Ut) (p : Trip) (z : Int) (x : Ut) (hok : okU u) (hM : Tame u) (hok2 : okU x) (hM2 : Tame x) (hs : small u) (hc : u.count ≤ 1000000) (hx : x.count ≤ 1000000) (hd : x.depth ≤ 1000000) (hk : (findU p u).kids.length ≤ 1000000) (ha : (ancL p u).length ≤ 1000000) : PC Tryz.prog env0 32 [uv u, idv p, .int .i64 z, uv x] [.int .i64 (insE u p z x)] := by
 have hE1 := editable_pc u hok hM (by omega)
 have hE2 := editable_pc x hok2 hM2 (by omega)
 have hPl := placeError_pc u p z x hs hc hx hd hk ha
 have hI1 := ids_pc u (by omega)
 have hI2 := ids_pc x (by omega)
 have hn1 : u.ids.length = u.count := by unfold Ut.ids; rw [List.length_map, all_length]
 have hn2 : x.ids.length = x.count := by unfold Ut.ids; rw [List.length_map, all_length]
 have hSh := has_share u.ids (by omega) x.ids (by omega)
 have hue := uv_eq u
 have hxe := uv_eq x
 unfold insE
 generalize editB u = b at hE1 ⊢
 generalize editB x = c at hE2 ⊢
 generalize placeE u p z x = e at hPl ⊢
 generalize x.ids.any (fun t => decide (t ∈ u.ids)) = d at hSh ⊢
 rw [hue] at hE1 hPl hI1 ⊢
 rw [hxe] at hE2 hPl hI2 ⊢
 cases b
 · rw [if_pos rfl]
   refine PC.of_va (T := tb0) eqs_ok tb_ok rfl mixed Tryz.func32 rfl rfl (Nat.le_of_ble_eq_true rfl) ?_; intro Γ C WK LP fin h0 hW hC hB hR hLP hfin
   (try (conv => whnf)); (repeat ((first | refine qT ?_ | refine qF ?_ | refine qO ?_ | (with_reducible intro z hz); (first | (replace hz := hz (by omega); subst hz) | subst hz) | (refine CallV.mk _ (hC _ _ _ (PCw.of hE1)) (fun js hjs => ?_); subst hjs)); (try (conv => whnf))))
   exact hfin _ (ILes.refl _)
 rw [if_neg (by decide)]
 cases c
 · rw [if_pos rfl]
   refine PC.of_va (T := tb0) eqs_ok tb_ok rfl mixed Tryz.func32 rfl rfl (Nat.le_of_ble_eq_true rfl) ?_; intro Γ C WK LP fin h0 hW hC hB hR hLP hfin
   (try (conv => whnf)); (repeat ((first | refine qT ?_ | refine qF ?_ | refine qO ?_ | (with_reducible intro z hz); (first | (replace hz := hz (by omega); subst hz) | subst hz) | (refine CallV.mk _ (hC _ _ _ (PCw.of hE1)) (fun js hjs => ?_); subst hjs) | (refine CallV.mk _ (hC _ _ _ (PCw.of hE2)) (fun js hjs => ?_); subst hjs)); (try (conv => whnf))))
   exact hfin _ (ILes.refl _)
 rw [if_neg (by decide)]
 by_cases hk0 : x.kind = 0
 · rw [if_pos hk0]
   refine PC.of_va (T := tb0) eqs_ok tb_ok rfl mixed Tryz.func32 rfl rfl (Nat.le_of_ble_eq_true rfl) ?_; intro Γ C WK LP fin h0 hW hC hB hR hLP hfin
   (try (conv => whnf)); (repeat ((first | refine qT ?_ | refine qF ?_ | refine qO ?_ | (with_reducible intro z hz); (first | (replace hz := hz (by omega); subst hz) | subst hz) | (refine CallV.mk _ (hC _ _ _ (PCw.of hE1)) (fun js hjs => ?_); subst hjs) | (refine CallV.mk _ (hC _ _ _ (PCw.of hE2)) (fun js hjs => ?_); subst hjs)); (try (conv => whnf))))
   exact hfin _ (ILes.refl _)
 rw [if_neg hk0]
 by_cases he : e = 0
 rotate_left
 · rw [if_pos he]
   refine PC.of_va (T := tb0) eqs_ok tb_ok rfl mixed Tryz.func32 rfl rfl (Nat.le_of_ble_eq_true rfl) ?_; intro Γ C WK LP fin h0 hW hC hB hR hLP hfin
   (try (conv => whnf)); (repeat ((first | refine qT ?_ | refine qF ?_ | refine qO ?_ | (with_reducible intro z hz); (first | (replace hz := hz (by omega); subst hz) | subst hz) | (refine CallV.mk _ (hC _ _ _ (PCw.of hE1)) (fun js hjs => ?_); subst hjs) | (refine CallV.mk _ (hC _ _ _ (PCw.of hE2)) (fun js hjs => ?_); subst hjs) | (refine CallV.mk _ (hC _ _ _ (PCw.of hPl)) (fun js hjs => ?_); subst hjs)); (try (conv => whnf))))
   exact hfin _ (ILes.refl _)
 rw [if_neg (fun h => h he)]
 cases d
 · rw [if_neg (by decide)]
   refine PC.of_va (T := tb0) eqs_ok tb_ok rfl mixed Tryz.func32 rfl rfl (Nat.le_of_ble_eq_true rfl) ?_; intro Γ C WK LP fin h0 hW hC hB hR hLP hfin
   (try (conv => whnf)); (repeat ((first | refine qT ?_ | refine qF ?_ | refine qO ?_ | (with_reducible intro z hz); (first | (replace hz := hz (by omega); subst hz) | subst hz) | (refine CallV.mk _ (hC _ _ _ (PCw.of hE1)) (fun js hjs => ?_); subst hjs) | (refine CallV.mk _ (hC _ _ _ (PCw.of hE2)) (fun js hjs => ?_); subst hjs) | (refine CallV.mk _ (hC _ _ _ (PCw.of hPl)) (fun js hjs => ?_); subst hjs) | (refine CallV.mk _ (hC _ _ _ (PCw.of hI1)) (fun js hjs => ?_); subst hjs) | (refine CallV.mk _ (hC _ _ _ (PCw.of hI2)) (fun js hjs => ?_); subst hjs)); (try (conv => whnf))))
   refine CallB.mk ([.imm (.bool false)]) ([.box 1 [.imm (.sl 3 (u.ids.map idv))]]) (hB _ _ _ _ _ (hSh)) ?_
   (try (conv => whnf)); (repeat ((first | refine qT ?_ | refine qF ?_ | refine qO ?_ | (with_reducible intro z hz); (first | (replace hz := hz (by omega); subst hz) | subst hz)); (try (conv => whnf))))
   exact hfin _ (ILes.refl _)
 · rw [if_pos rfl]
   refine PC.of_va (T := tb0) eqs_ok tb_ok rfl mixed Tryz.func32 rfl rfl (Nat.le_of_ble_eq_true rfl) ?_; intro Γ C WK LP fin h0 hW hC hB hR hLP hfin
   (try (conv => whnf)); (repeat ((first | refine qT ?_ | refine qF ?_ | refine qO ?_ | (with_reducible intro z hz); (first | (replace hz := hz (by omega); subst hz) | subst hz) | (refine CallV.mk _ (hC _ _ _ (PCw.of hE1)) (fun js hjs => ?_); subst hjs) | (refine CallV.mk _ (hC _ _ _ (PCw.of hE2)) (fun js hjs => ?_); subst hjs) | (refine CallV.mk _ (hC _ _ _ (PCw.of hPl)) (fun js hjs => ?_); subst hjs) | (refine CallV.mk _ (hC _ _ _ (PCw.of hI1)) (fun js hjs => ?_); subst hjs) | (refine CallV.mk _ (hC _ _ _ (PCw.of hI2)) (fun js hjs => ?_); subst hjs)); (try (conv => whnf))))
   refine CallB.mk ([.imm (.bool true)]) ([.box 1 [.imm (.sl 3 (u.ids.map idv))]]) (hB _ _ _ _ _ (hSh)) ?_
   (try (conv => whnf)); (repeat ((first | refine qT ?_ | refine qF ?_ | refine qO ?_ | (with_reducible intro z hz); (first | (replace hz := hz (by omega); subst hz) | subst hz)); (try (conv => whnf))))
   exact hfin _ (ILes.refl _)
def insD (j : Nat) (y : Ut) : Prop := j ≤ y.kids.length ∧ y.kids.length ≤ 1000000
theorem withKid_pc (p : Trip) (u x : Ut) (j n : Nat) (hok : EdOk p (insAt j x) (insD j) n u) : PC Tryz.prog env0 33 [uv u, idv p, .int .i64 (j : Nat), uv x] [uv (editN p (insAt j x) n u)] := by
 have hE := edit_ins p (insAt j x) (insD j) j x (fun y hy => insc_pcb j x y hy.1 hy.2) n u hok
 generalize editN p (insAt j x) n u = v at hE ⊢
 have hue := uv_eq u
 have hxe := uv_eq x
 rw [uv_eq v] at hE ⊢
 rw [hue] at hE ⊢
 rw [hxe]
 refine PC.of_va (T := tb0) eqs_ok tb_ok rfl mixed Tryz.func33 rfl rfl (Nat.le_of_ble_eq_true rfl) ?_; intro Γ C WK LP fin h0 hW hC hB hR hLP hfin
 (try (conv => whnf)); (repeat ((first | refine qT ?_ | refine qF ?_ | refine qO ?_ | (with_reducible intro z hz); (first | (replace hz := hz (by omega); subst hz) | subst hz)); (try (conv => whnf))))
 refine CallB.mk ([.imm (.agg [.int .i64 v.id.x, .int .i64 v.id.y, .int .i64 v.id.z, .int .i64 v.kind, .str v.label, .sl 4 (v.head.map wdv), .sl 4 (v.words.map wdv), .sl 8 (v.kids.map uv)])]) ([.box 1 [.imm (.int .i64 (j : Nat))], .box 1 [.imm (.int .i64 x.id.x), .imm (.int .i64 x.id.y), .imm (.int .i64 x.id.z), .imm (.int .i64 x.kind), .imm (.str x.label), .imm (.sl 4 (x.head.map wdv)), .imm (.sl 4 (x.words.map wdv)), .imm (.sl 8 (x.kids.map uv))]]) (hB _ _ _ _ _ (hE)) ?_
 (try (conv => whnf)); (repeat ((first | refine qT ?_ | refine qF ?_ | refine qO ?_ | (with_reducible intro z hz); (first | (replace hz := hz (by omega); subst hz) | subst hz)); (try (conv => whnf))))
 exact hfin _ (ILes.refl _)
theorem insert_ok_pc (u : Ut) (p : Trip) (z : Int) (x v : Ut) (h0 : insE u p z x = 0) (hIe : PC Tryz.prog env0 32 [uv u, idv p, .int .i64 z, uv x] [.int .i64 (insE u p z x)]) (hWk : PC Tryz.prog env0 33 [uv u, idv p, .int .i64 z, uv x] [uv v]) : PC Tryz.prog env0 10 [uv u, idv p, .int .i64 z, uv x] [uv v, .int .i64 0] := by
 rw [h0] at hIe
 have hue := uv_eq u
 have hxe := uv_eq x
 rw [uv_eq v] at hWk ⊢
 rw [hue, hxe] at hWk hIe ⊢
 refine PC.of_va (T := tb0) eqs_ok tb_ok rfl mixed Tryz.func10 rfl rfl (Nat.le_of_ble_eq_true rfl) ?_; intro Γ C WK LP fin h0 hW hC hB hR hLP hfin
 (try (conv => whnf)); (repeat ((first | refine qT ?_ | refine qF ?_ | refine qO ?_ | (with_reducible intro z hz); (first | (replace hz := hz (by omega); subst hz) | subst hz) | (refine CallV.mk _ (hC _ _ _ (PCw.of hIe)) (fun js hjs => ?_); subst hjs) | (refine CallV.mk _ (hC _ _ _ (PCw.of hWk)) (fun js hjs => ?_); subst hjs)); (try (conv => whnf))))
 exact hfin _ (ILes.refl _)
theorem insert_no_pc (u : Ut) (p : Trip) (z : Int) (x : Ut) (e : Int) (h0 : e ≠ 0) (hIe : PC Tryz.prog env0 32 [uv u, idv p, .int .i64 z, uv x] [.int .i64 e]) : PC Tryz.prog env0 10 [uv u, idv p, .int .i64 z, uv x] [uv zeroU, .int .i64 e] := by
 have hue := uv_eq u
 have hxe := uv_eq x
 rw [hue, hxe] at hIe ⊢
 refine PC.of_va (T := tb0) eqs_ok tb_ok rfl mixed Tryz.func10 rfl rfl (Nat.le_of_ble_eq_true rfl) ?_; intro Γ C WK LP fin h0 hW hC hB hR hLP hfin
 (try (conv => whnf)); (repeat ((first | refine qT ?_ | refine qF ?_ | refine qO ?_ | (with_reducible intro z hz); (first | (replace hz := hz (by omega); subst hz) | subst hz) | (refine CallV.mk _ (hC _ _ _ (PCw.of hIe)) (fun js hjs => ?_); subst hjs)); (try (conv => whnf))))
 refine hfin _ ?_
 exact .cons zero_le (.refl _)
theorem canInsert_pc (u : Ut) (p : Trip) (x : Ut) (e : Int) (hIe : PC Tryz.prog env0 32 [uv u, idv p, .int .i64 0, uv x] [.int .i64 e]) : PC Tryz.prog env0 13 [uv u, idv p, uv x] [.int .i64 e] := by
 have hue := uv_eq u
 have hxe := uv_eq x
 rw [hue, hxe] at hIe ⊢
 refine PC.of_va (T := tb0) eqs_ok tb_ok rfl mixed Tryz.func13 rfl rfl (Nat.le_of_ble_eq_true rfl) ?_; intro Γ C WK LP fin h0 hW hC hB hR hLP hfin
 (try (conv => whnf)); (repeat ((first | refine qT ?_ | refine qF ?_ | refine qO ?_ | (with_reducible intro z hz); (first | (replace hz := hz (by omega); subst hz) | subst hz) | (refine CallV.mk _ (hC _ _ _ (PCw.of hIe)) (fun js hjs => ?_); subst hjs)); (try (conv => whnf))))
 exact hfin _ (ILes.refl _)
end Go.Proofs.YtmnbobcgjnickaaGreatDoor.Pt
namespace Go.Proofs.YtmnbobcgjnickaaGreatDoor.Pt
open Go Go.Pv Go.RowKit
set_option linter.unusedSimpArgs false
open Lab Lcs Go.Proofs.YtmnbobcgjnickaaGreatDoor Go.Proofs.YtmnbobcgjnickaaGreatDoor.Pu
set_option maxRecDepth 10000
set_option maxHeartbeats 16000000
def tX : Trip := ⟨1, 0, 1⟩
def xS : Ut := .mk ⟨1, 0, 1⟩ 2 ⟨#[49]⟩ [] [] []
def yS : Ut := .mk ⟨1, 0, 2⟩ 2 ⟨#[49]⟩ [] [] []
def bkU : Ut := .mk ⟨0, 0, 0⟩ 0 ⟨#[]⟩ [] [] [xS]
theorem ok_of {u : Ut} (h : (u.all.all fun x => decide (0 ≤ x.id.x ∧ x.id.x ≤ 5 ∧ 0 ≤ x.id.y ∧ x.id.y ≤ 5 ∧ 0 ≤ x.id.z ∧ x.id.z ≤ 5 ∧ 0 ≤ x.kind ∧ x.kind ≤ 5)) = true) : okU u := fun x hx => by
 have := List.all_eq_true.1 h x hx
 simp only [decide_eq_true_eq] at this
 refine ⟨⟨?_, ?_, ?_⟩, ?_⟩ <;> (unfold inI; omega)
theorem tame_of {u : Ut} (hc : u.count ≤ 5) (h : (u.all.all fun x => decide (x.label.size ≤ 5 ∧ x.head.length ≤ 5 ∧ x.words.length ≤ 5)) = true) : Tame u := ⟨by omega, fun x hx => by
 have := List.all_eq_true.1 h x hx
 simp only [decide_eq_true_eq] at this
 exact ⟨by omega, by omega, by omega⟩⟩
theorem small_of' {u : Ut} (h : Tame u) : small u := fun x hx => ⟨by have := (h.2 x hx).2.1; omega, by have := (h.2 x hx).2.2; omega⟩
theorem ok_z : okU zeroU := zero_ok
theorem ok_x : okU xS := ok_of (by decide +kernel)
theorem ok_y : okU yS := ok_of (by decide +kernel)
theorem ok_b : okU bkU := ok_of (by decide +kernel)
theorem tm_z : Tame zeroU := tame_of (by decide +kernel) (by decide +kernel)
theorem tm_x : Tame xS := tame_of (by decide +kernel) (by decide +kernel)
theorem tm_y : Tame yS := tame_of (by decide +kernel) (by decide +kernel)
theorem tm_b : Tame bkU := tame_of (by decide +kernel) (by decide +kernel)
theorem uv_zero : uv zeroU = .agg [.int .i64 0, .int .i64 0, .int .i64 0, .int .i64 0, .str ⟨#[]⟩, .sl 4 [], .sl 4 [], .sl 8 []] := uv_eq _
theorem uv_x : uv xS = .agg [.int .i64 1, .int .i64 0, .int .i64 1, .int .i64 2, .str ⟨#[49]⟩, .sl 4 [], .sl 4 [], .sl 8 []] := uv_eq _
theorem uv_y : uv yS = .agg [.int .i64 1, .int .i64 0, .int .i64 2, .int .i64 2, .str ⟨#[49]⟩, .sl 4 [], .sl 4 [], .sl 8 []] := uv_eq _
theorem uv_b : uv bkU = .agg [.int .i64 0, .int .i64 0, .int .i64 0, .int .i64 0, .str ⟨#[]⟩, .sl 4 [], .sl 4 [], .sl 8 [uv xS]] := uv_eq _
theorem nils3 (a b c k : Int) (l : Str) : ILe (.agg [.int .i64 a, .int .i64 b, .int .i64 c, .int .i64 k, .str l, .nil, .nil, .nil]) (.agg [.int .i64 a, .int .i64 b, .int .i64 c, .int .i64 k, .str l, .sl 4 [], .sl 4 [], .sl 8 []]) :=
 ILes.agg (.cons (.refl _) (.cons (.refl _) (.cons (.refl _) (.cons (.refl _) (.cons (.refl _) (.cons (.nil 4) (.cons (.nil 4) (.cons (.nil 8) (.refl [])))))))))
theorem insE_1 : insE zeroU Trip.zero 0 xS = 0 := by decide +kernel
theorem insE_2 : insE bkU Trip.zero 0 yS = 10 := by decide +kernel
theorem remE_1 : remE bkU tX = 0 := by decide +kernel
theorem ie_1 : PC Tryz.prog env0 32 [uv zeroU, idv Trip.zero, .int .i64 0, uv xS] [.int .i64 0] := by
 have h := insertError_pc zeroU Trip.zero 0 xS ok_z tm_z ok_x tm_x (small_of' tm_z) (by decide +kernel) (by decide +kernel) (by decide +kernel) (by decide +kernel) (by decide +kernel)
 rw [insE_1] at h
 exact h
theorem ie_2 : PC Tryz.prog env0 32 [uv bkU, idv Trip.zero, .int .i64 0, uv yS] [.int .i64 10] := by
 have h := insertError_pc bkU Trip.zero 0 yS ok_b tm_b ok_y tm_y (small_of' tm_b) (by decide +kernel) (by decide +kernel) (by decide +kernel) (by decide +kernel) (by decide +kernel)
 rw [insE_2] at h
 exact h
theorem ed_1 : EdOk Trip.zero (insAt 0 xS) (insD 0) 2 zeroU := by
 refine ⟨fun _ => ⟨Nat.zero_le _, by decide +kernel⟩, by decide +kernel, fun k hk => ?_⟩
 have hk2 : k ∈ [xS] := hk
 rw [List.mem_singleton.1 hk2]
 exact ⟨fun h => absurd h (by decide +kernel), by decide +kernel, fun k hk => by
   have hk2 : k ∈ ([] : List Ut) := hk
   cases hk2⟩
theorem ins_1 : PC Tryz.prog env0 10 [uv zeroU, idv Trip.zero, .int .i64 0, uv xS] [uv bkU, .int .i64 0] := by
 refine insert_ok_pc zeroU Trip.zero 0 xS bkU insE_1 (by rw [insE_1]; exact ie_1) ?_
 exact withKid_pc Trip.zero zeroU xS 0 2 ed_1
theorem ed_2 : EdOk Trip.zero (cutAt 0) (cutD 0) 1 bkU := by
 refine ⟨fun _ => ⟨by decide +kernel, by decide +kernel⟩, by decide +kernel, fun k hk => ?_⟩
 have hk2 : k ∈ ([] : List Ut) := hk
 cases hk2
theorem rem_1 : PC Tryz.prog env0 23 [uv bkU, idv tX] [uv zeroU, uv xS, .int .i64 0] := by
 have h := remove_pc bkU tX zeroU xS ok_b tm_b (by decide +kernel) (fun _ => cut_pc tX bkU 0 1 (by decide +kernel) (small_of' tm_b) rfl ed_2)
 unfold remV at h
 rw [remE_1, if_pos rfl] at h
 exact h
theorem awake8_pc : PC Tryz.prog env0 9 [] [.bool true] := by
 have h1 := ins_1
 have h2 := insert_no_pc bkU Trip.zero 0 yS 10 (by decide) ie_2
 have h3 := rem_1
 have h4 := canInsert_pc bkU Trip.zero yS 10 ie_2
 have hx0 : idv tX = .agg [.int .i64 1, .int .i64 0, .int .i64 1] := rfl
 have hz0 : idv Trip.zero = .agg [.int .i64 0, .int .i64 0, .int .i64 0] := rfl
 rw [uv_zero, uv_b, uv_x, hz0] at h1
 rw [uv_b, uv_y, uv_zero, hz0, uv_x] at h2
 rw [uv_b, uv_zero, uv_x, hx0] at h3
 rw [uv_b, uv_y, hz0, uv_x] at h4
 refine PC.of_va (T := tb0) eqs_ok tb_ok rfl mixed Tryz.func9 rfl rfl (Nat.le_of_ble_eq_true rfl) ?_; intro Γ C WK LP fin h0 hW hC hB hR hLP hfin
 (try (conv => whnf)); (repeat ((first | refine qT ?_ | refine qF ?_ | refine qO ?_ | (with_reducible intro z hz); (first | (replace hz := hz (by omega); subst hz) | subst hz)); (try (conv => whnf))))
 refine CallV.mk _ (hC _ _ _ ⟨_, .cons (nils3 _ _ _ _ _) (.cons (.refl _) (.cons (.refl _) (.cons (nils3 _ _ _ _ _) (.refl [])))), h1⟩) (fun js hjs => ?_)
 subst hjs
 (try (conv => whnf)); (repeat ((first | refine qT ?_ | refine qF ?_ | refine qO ?_ | (with_reducible intro z hz); (first | (replace hz := hz (by omega); subst hz) | subst hz)); (try (conv => whnf))))
 refine CallV.mk _ (hC _ _ _ ⟨_, .cons (.refl _) (.cons (.refl _) (.cons (.refl _) (.cons (nils3 _ _ _ _ _) (.refl [])))), h2⟩) (fun js hjs => ?_)
 subst hjs
 (try (conv => whnf)); (repeat ((first | refine qT ?_ | refine qF ?_ | refine qO ?_ | (with_reducible intro z hz); (first | (replace hz := hz (by omega); subst hz) | subst hz) | (refine CallV.mk _ (hC _ _ _ (PCw.of h3)) (fun js hjs => ?_); subst hjs)); (try (conv => whnf))))
 refine CallV.mk _ (hC _ _ _ ⟨_, .cons (.refl _) (.cons (.refl _) (.cons (nils3 _ _ _ _ _) (.refl []))), h4⟩) (fun js hjs => ?_)
 subst hjs
 (try (conv => whnf)); (repeat ((first | refine qT ?_ | refine qF ?_ | refine qO ?_ | (with_reducible intro z hz); (first | (replace hz := hz (by omega); subst hz) | subst hz)); (try (conv => whnf))))
 exact hfin _ (ILes.refl _)
end Go.Proofs.YtmnbobcgjnickaaGreatDoor.Pt
namespace Go.Proofs.YtmnbobcgjnickaaGreatDoor.Pt
open Go Go.Pv Go.Proofs.YtmnbobcgjnickaaGreatDoor Go.Proofs.YtmnbobcgjnickaaGreatDoor.Pu
set_option linter.unusedSimpArgs false
open Lab Lcs Go.Proofs.YtmnbobcgjnickaaGreatDoor Go.RowKit
set_option maxRecDepth 100000
def S0 : List TypeId := [3, 9, 23, 46, 48, 24, 27, 25]
theorem S0_ok : closed Tryz.prog S0 = true := by kernel_rfl
theorem agg_word : aggT Tryz.prog 48 = true := by kernel_rfl
theorem agg_unit : aggT Tryz.prog 27 = true := by kernel_rfl
theorem c_word : Tryz.prog.cellsOf 48 = 4 := by kernel_rfl
theorem c_unit : Tryz.prog.cellsOf 27 = 8 := by kernel_rfl
theorem in_of {z : Int} (hw : (Lit.int .i64 z).wf = true) : inI z := by simpa [inI, Lit.wf, IntKind.min, IntKind.max, IntKind.signed, IntKind.bits] using hw
theorem three_of {is : List IV} {t : TypeId} {fs : Array Field} (hu : Tryz.prog.underlying t = some (.struct fs)) (hf : fs.toList.map Field.type = [3, 3, 3]) (h : OkC Tryz.prog t is) : ∃ x : Trip, is = idl x ∧ x.ok := by
 obtain ⟨parts, rfl, hl, hp⟩ := h.strct_inv hu
 have hs : fs.size = 3 := by have := congrArg List.length hf; simpa using this
 rw [hs] at hl
 have hty : ∀ i, i < 3 → ∃ f, fs[i]? = some f ∧ f.type = 3 := by
   intro i hi
   have h1 := congrArg (·[i]?) hf
   simp only [List.getElem?_map, Array.getElem?_toList] at h1
   cases hfi : fs[i]? with
   | none => rw [Array.getElem?_eq_none_iff] at hfi; omega
   | some f =>
     rw [hfi] at h1
     refine ⟨f, rfl, ?_⟩
     match i, hi with
     | 0, _ => simpa using h1
     | 1, _ => simpa using h1
     | 2, _ => simpa using h1
 match parts, hl with
 | [p0, p1, p2], _ =>
   obtain ⟨f0, e0, t0⟩ := hty 0 (by decide)
   obtain ⟨f1, e1, t1⟩ := hty 1 (by decide)
   obtain ⟨f2, e2, t2⟩ := hty 2 (by decide)
   have h0 := hp 0 f0 p0 e0 rfl
   have h1 := hp 1 f1 p1 e1 rfl
   have h2 := hp 2 f2 p2 e2 rfl
   rw [t0] at h0
   rw [t1] at h1
   rw [t2] at h2
   obtain ⟨z0, rfl, g0⟩ := h0.int_inv Tryz.underlying3
   obtain ⟨z1, rfl, g1⟩ := h1.int_inv Tryz.underlying3
   obtain ⟨z2, rfl, g2⟩ := h2.int_inv Tryz.underlying3
   exact ⟨⟨z0, z1, z2⟩, rfl, in_of g0, in_of g1, in_of g2⟩
theorem id_of {is : List IV} (h : OkC Tryz.prog 23 is) : ∃ x : Trip, is = idl x ∧ x.ok := three_of Tryz.underlying23 rfl h
theorem mark_of {is : List IV} (h : OkC Tryz.prog 46 is) : ∃ x : Trip, is = idl x ∧ x.ok := three_of Tryz.underlying46 rfl h
def okWd (a : Wd) : Prop := a.text.size ≤ maxLen ∧ a.mark.ok
theorem word_of {is : List IV} (h : OkC Tryz.prog 48 is) : ∃ a : Wd, IV.agg is = wdv a ∧ okWd a := by
 obtain ⟨parts, rfl, hl, hp⟩ := h.strct_inv Tryz.underlying48
 match parts, hl with
 | [p0, p1], _ =>
   obtain ⟨s, rfl, hs⟩ := (hp 0 _ _ rfl rfl).str_inv Tryz.underlying9
   obtain ⟨t, rfl, ht⟩ := mark_of (hp 1 _ _ rfl rfl)
   exact ⟨⟨s, t⟩, rfl, hs, ht⟩
theorem words_of {is : List IV} (h : OkC Tryz.prog 24 is) : ∃ L : List Wd, is = [.sl 4 (L.map wdv)] ∧ L.length ≤ maxLen ∧ ∀ a ∈ L, okWd a := by
 obtain ⟨css, rfl, h2, h3⟩ := h.slice_inv Tryz.underlying24
 obtain ⟨L, h4, h5, h6⟩ := elems_of (f := wdv) (ok := okWd) (fun cs hcs => by rw [agg_word]; exact word_of hcs) css h3
 exact ⟨L, by rw [c_word, h4], by omega, h6⟩
def fitU (x : Ut) : Prop := x.id.ok ∧ inI x.kind ∧ x.label.size ≤ maxLen ∧ x.head.length ≤ maxLen ∧ x.words.length ≤ maxLen ∧ x.kids.length ≤ maxLen ∧ (∀ a ∈ x.head, okWd a) ∧ ∀ a ∈ x.words, okWd a
def Fit (u : Ut) : Prop := ∀ x ∈ u.all, fitU x
theorem Fit.ok {u : Ut} (h : Fit u) : okU u := fun x hx => ⟨(h x hx).1, (h x hx).2.1⟩
theorem Fit.self {u : Ut} (h : Fit u) : fitU u := h u (by rw [Ut.all_eq]; exact List.mem_cons_self)
theorem Fit.kid {u k : Ut} (h : Fit u) (hk : k ∈ u.kids) : Fit k := fun x hx => h x (by
 rw [Ut.all_eq]
 refine List.mem_cons_of_mem _ ?_
 clear h
 generalize u.kids = l at hk
 induction l with
 | nil => cases hk
 | cons a l ih =>
   unfold Ut.alls
   rcases List.mem_cons.1 hk with rfl | hk
   · exact List.mem_append_left _ hx
   · exact List.mem_append_right _ (ih hk))
theorem alls_fit : ∀ {l : List Ut}, (∀ u ∈ l, Fit u) → ∀ x ∈ Ut.alls l, fitU x
 | [], _, x, hx => by simp [Ut.alls] at hx
 | a :: l, h, x, hx => by
   unfold Ut.alls at hx
   rcases List.mem_append.1 hx with hx | hx
   · exact h a List.mem_cons_self x hx
   · exact alls_fit (fun u hu => h u (List.mem_cons_of_mem _ hu)) x hx
theorem units_of {t : TypeId} {is : List IV} (h : OkC Tryz.prog t is) : (t = 27 → ∃ u : Ut, IV.agg is = uv u ∧ Fit u) ∧ (t = 25 → ∃ L : List Ut, is = [.sl 8 (L.map uv)] ∧ L.length ≤ maxLen ∧ ∀ u ∈ L, Fit u) := by
 induction h with
 | int hu _ => exact ⟨fun e => (by subst e; rw [Tryz.underlying27] at hu; cases hu), fun e => by subst e; rw [Tryz.underlying25] at hu; cases hu⟩
 | str hu _ => exact ⟨fun e => (by subst e; rw [Tryz.underlying27] at hu; cases hu), fun e => by subst e; rw [Tryz.underlying25] at hu; cases hu⟩
 | bool hu => exact ⟨fun e => (by subst e; rw [Tryz.underlying27] at hu; cases hu), fun e => by subst e; rw [Tryz.underlying25] at hu; cases hu⟩
 | strct parts hu hl hp ih =>
   refine ⟨fun e => ?_, fun e => by subst e; rw [Tryz.underlying25] at hu; cases hu⟩
   subst e
   rw [Tryz.underlying27] at hu
   injection hu with hu
   injection hu with hu
   subst hu
   match parts, hl with
   | [p0, p1, p2, p3, p4, p5], _ =>
     obtain ⟨i, rfl, hi⟩ := id_of (hp 0 _ _ rfl rfl)
     obtain ⟨k, rfl, hk⟩ := (hp 1 _ _ rfl rfl).int_inv Tryz.underlying3
     obtain ⟨s, rfl, hs⟩ := (hp 2 _ _ rfl rfl).str_inv Tryz.underlying9
     obtain ⟨hd, rfl, hh1, hh2⟩ := words_of (hp 3 _ _ rfl rfl)
     obtain ⟨wd, rfl, hw1, hw2⟩ := words_of (hp 4 _ _ rfl rfl)
     obtain ⟨ks, rfl, hk1, hk2⟩ := (ih 5 _ _ rfl rfl).2 rfl
     refine ⟨.mk i k s hd wd ks, by rw [uv_mk]; rfl, fun x hx => ?_⟩
     rw [all_mk] at hx
     rcases List.mem_cons.1 hx with rfl | hx
     · exact ⟨hi, in_of hk, hs, hh1, hw1, hk1, hh2, hw2⟩
     · exact alls_fit hk2 x hx
 | slice css hu h2 h3 ih =>
   refine ⟨fun e => (by subst e; rw [Tryz.underlying27] at hu; cases hu), fun e => ?_⟩
   subst e
   rw [Tryz.underlying25] at hu
   injection hu with hu
   injection hu with hu
   subst hu
   obtain ⟨L, h4, h5, h6⟩ : ∃ L : List Ut, css.map (elemI (aggT Tryz.prog 27)) = L.map uv ∧ L.length = css.length ∧ ∀ u ∈ L, Fit u := by
     clear h2
     induction css with
     | nil => exact ⟨[], rfl, rfl, fun _ h => by cases h⟩
     | cons cs l ih2 =>
       obtain ⟨u, g1, g2⟩ := (ih cs List.mem_cons_self).1 rfl
       obtain ⟨L, g3, g4, g5⟩ := ih2 (fun c hc => h3 c (List.mem_cons_of_mem _ hc)) (fun c hc => ih c (List.mem_cons_of_mem _ hc))
       refine ⟨u :: L, ?_, by simp [g4], fun x hx => ?_⟩
       · rw [List.map_cons, List.map_cons, g3, ← g1, agg_unit]
         rfl
       · rcases List.mem_cons.1 hx with rfl | hx
         · exact g2
         · exact g5 x hx
   exact ⟨L, by rw [c_unit, h4], by omega, h6⟩
section
variable {H : Type} {enc : TypeId × Value → H} {w : World} {bs : Nat} {spare : Nat → Bool} {held : Bool}
theorem unit_open {cs : Array Value} {d : DataW H} {p : List MemPlace} (_hs : cs.size = Tryz.prog.cellsOf 27) (h : ∃ fuel, DataW.trod enc Tryz.prog w bs spare held fuel 27 cs.toList = some (d, p)) :
   ∃ u : Ut, RepI (fun b => b < w.heap.size) w (uv u) (.agg cs) ∧ Fit u := by
 obtain ⟨fuel, h⟩ := h
 obtain ⟨is, h1, h2⟩ := open_cells S0_ok fuel 27 cs.toList _ (by decide) h
 obtain ⟨u, h3, h4⟩ := (units_of h2).1 rfl
 refine ⟨u, ?_, h4⟩
 rw [← h3, RepI_agg]
 exact ⟨_, by simp, h1⟩
theorem id_open {cs : Array Value} {d : DataW H} {p : List MemPlace} (h : ∃ fuel, DataW.trod enc Tryz.prog w bs spare held fuel 23 cs.toList = some (d, p)) :
   ∃ t : Trip, RepI (fun b => b < w.heap.size) w (idv t) (.agg cs) ∧ t.ok := by
 obtain ⟨fuel, h⟩ := h
 obtain ⟨is, h1, h2⟩ := open_cells S0_ok fuel 23 cs.toList _ (by decide) h
 obtain ⟨t, rfl, h4⟩ := id_of h2
 refine ⟨t, ?_, h4⟩
 unfold idv
 rw [RepI_agg]
 exact ⟨_, by simp, h1⟩
end
end Go.Proofs.YtmnbobcgjnickaaGreatDoor.Pt
