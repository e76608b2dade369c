/-
  The program's Diff.
-/
import Derived.Test.YtopohipcpomecaaDoorWDy
namespace Go.Proofs.YtopohipcpomecaaDoor.Pd
open Go Go.Pv Go.RowKit Go.Proofs.YtopohipcpomecaaDoor.Pu Go.Proofs.YtopohipcpomecaaDoor.Pb
set_option linter.unusedSimpArgs false
open Lab Lcs Go.Proofs.YtopohipcpomecaaDoor
set_option maxRecDepth 10000
set_option maxHeartbeats 16000000
def tdz : List (TypeId × TD) := (36, ⟨false, 1, [.nil], .slice 26 3 24⟩) :: tdm
theorem tdz_ok : AllTd Tryd.prog tdz := ⟨tqi_ids, tdm_ok⟩
def tbzf (fr : Nat → List Nat) : Tb := ⟨Pv.look tdz, eqs, glD, fr, fun _ => false, fun f => match f with | 36 => 2 | 37 => 1 | _ => 0⟩
abbrev tbz : Tb := tbzf fun _ => []
theorem tbz_ok {fr : Nat → List Nat} : ∀ t d, (tbzf fr).td t = some d → tdOf Tryd.prog t = some d := Pv.look_ok tdz_ok
theorem sumsM_pcb (u : Ut) (hf : FitD u) : PCB Tryd.prog envH 36 [.imm (uv u)] [.dead 1] [.row 0 2] [.map kkI 2 (mkM (sumT u))] := by
 have h := fullSums_pcb u hf
 rwa [show visU u [] = mkM (sumT u) from visU_mk u []] at h
def itL (f : Bool) (q : Trip × Str) (R : TS) : List (IV × IV) := match f with
 | false => mkM R
 | true => (idv q.1, .str q.2) :: mkM R
theorem left_it (f : Bool) (q : Trip × Str) (R : TS) : leftI f (itL f q R) = mkM R := by cases f <;> rfl
theorem mk_erase : ∀ (R : TS) (i : Nat), (mkM R).eraseIdx i = mkM (R.eraseIdx i)
 | [], _ => rfl
 | _ :: _, 0 => rfl
 | p :: R, i + 1 => by
   show (idv p.1, IV.str p.2) :: (mkM R).eraseIdx i = _ :: mkM (R.eraseIdx i)
   rw [mk_erase R i]
theorem mk_nil {R : TS} (h : mkM R = []) : R = [] := by
 cases R with
 | nil => rfl
 | cons _ _ => cases h
theorem mk_at {R : TS} {i : Nat} {p : IV × IV} (h : (mkM R)[i]? = some p) : ∃ q, R[i]? = some q ∧ p = (idv q.1, .str q.2) := by
 unfold mkM at h
 rw [List.getElem?_map] at h
 cases hq : R[i]? with
 | none => rw [hq] at h; cases h
 | some q => rw [hq] at h; exact ⟨q, rfl, (Option.some.inj h).symm⟩
theorem diff_pc (a b : Ut) (ha : a.count ≤ 100000) (hb : b.count ≤ 100000) (hfa : FitD a) (hfb : FitD b) : PC Tryd.prog envH 20 [uv a, uv b] [.sl 3 ((apartK a.all b.all (a.all ++ b.all)).map idv)] := by
 have hFa := sumsM_pcb a hfa
 have hFb := sumsM_pcb b hfb
 have hae := uv_eq a
 have hbe := uv_eq b
 have hla := sum_len a
 have hlb := sum_len b
 rw [hae] at hFa ⊢
 rw [hbe] at hFb ⊢
 refine PC.of_va (T := tbz) eqs_ok tbz_ok rfl mixed Tryd.func20 rfl rfl (Nat.le_of_ble_eq_true rfl) ?_; intro Γ C WK LP fin h0 hW hC hB hR hLP hfin
 (try (conv => whnf)); (repeat ((first | refine qT ?_ | refine qF ?_ | refine qO ?_ | (with_reducible intro z hz); (first | (replace hz := hz (by omega); subst hz) | subst hz)); (try (conv => whnf))))
 refine CallB.mk ([.row 0 2]) ([.map kkI 2 (mkM (sumT a))]) (hB _ _ _ _ _ (hFa)) ?_
 (try (conv => whnf)); (repeat ((first | refine qT ?_ | refine qF ?_ | refine qO ?_ | (with_reducible intro z hz); (first | (replace hz := hz (by omega); subst hz) | subst hz)); (try (conv => whnf))))
 refine CallB.mk ([.row 0 2]) ([.map kkI 2 (mkM (sumT b))]) (hB _ _ _ _ _ (hFb)) ?_
 (try (conv => whnf)); (repeat ((first | refine qT ?_ | refine qF ?_ | refine qO ?_ | (with_reducible intro z hz); (first | (replace hz := hz (by omega); subst hz) | subst hz)); (try (conv => whnf))))
 refine hLP _ _ _ (Bool × (Trip × Str) × TS × TS) (fun p => ⟨[(5, .row 2 1), (16, .ptr 4 1 0)], [.box 1 [.imm (.int .i64 a.id.x), .imm (.int .i64 a.id.y), .imm (.int .i64 a.id.z), .imm (.int .i64 a.kind), .imm (.str a.label), .imm (.sl 4 (a.head.map wdv)), .imm (.sl 4 (a.words.map wdv)), .imm (.sl 8 (a.kids.map uv))], .box 1 [.imm (.int .i64 b.id.x), .imm (.int .i64 b.id.y), .imm (.int .i64 b.id.z), .imm (.int .i64 b.kind), .imm (.str b.label), .imm (.sl 4 (b.head.map wdv)), .imm (.sl 4 (b.words.map wdv)), .imm (.sl 8 (b.kids.map uv))], .map kkI 1 (mkM p.2.2.2), .dead 1, .map (.iter p.1) 1 (itL p.1 p.2.1 p.2.2.1)]⟩) (fun p => InvD (sumT a) (sumT b) p.2.2.1 p.2.2.2) (fun p => p.2.2.1.length) (false, (⟨0, 0, 0⟩, ⟨#[]⟩), sumT b, sumT a) (InvD.start (sum_nodup a) (sum_nodup b)) (qSL 5 rfl rfl) ?_
 rintro ⟨f, q, R, D⟩ hinv
 dsimp only at hinv ⊢
 have hlen := hinv.len
 have hle := left_it f q R
 (try (conv => whnf)); (repeat ((first | refine qT ?_ | refine qF ?_ | refine qO ?_ | (with_reducible intro z hz); (first | (replace hz := hz (by omega); subst hz) | subst hz)); (try (conv => whnf))))
 refine NxK.mk (fun h0 => ?_) (fun i p hp => ?_)
 · rw [hle] at h0
   obtain rfl := mk_nil h0
   (try (conv => whnf)); (repeat ((first | refine qT ?_ | refine qF ?_ | refine qO ?_ | (with_reducible intro z hz); (first | (replace hz := hz (by omega); subst hz) | subst hz)); (try (conv => whnf))))
   refine hLP _ _ _ (Bool × (Trip × Str) × TS × List Trip) (fun p => ⟨[(10, .row 6 1), (40, .ptr 5 1 0)], [.box 1 [.imm (.int .i64 a.id.x), .imm (.int .i64 a.id.y), .imm (.int .i64 a.id.z), .imm (.int .i64 a.kind), .imm (.str a.label), .imm (.sl 4 (a.head.map wdv)), .imm (.sl 4 (a.words.map wdv)), .imm (.sl 8 (a.kids.map uv))], .box 1 [.imm (.int .i64 b.id.x), .imm (.int .i64 b.id.y), .imm (.int .i64 b.id.z), .imm (.int .i64 b.kind), .imm (.str b.label), .imm (.sl 4 (b.head.map wdv)), .imm (.sl 4 (b.words.map wdv)), .imm (.sl 8 (b.kids.map uv))], .dead 1, .dead 1, .map (.iter f) 1 (itL f q []), .map (.iter p.1) 1 (itL p.1 p.2.1 p.2.2.1), .row 26 3 1 ((p.2.2.2.map idv).map .imm)]⟩) (fun p => (p.2.2.2 ++ keysT p.2.2.1).Perm (keysT D)) (fun p => p.2.2.1.length) (false, (⟨0, 0, 0⟩, ⟨#[]⟩), D, []) (List.Perm.refl _) ((WeakA.nilSlot 10 26 3 (Nat.le_of_ble_eq_true rfl) rfl).trans ((WeakA.row 6 (((([] : List Trip).map idv).map .imm)) rfl (by rfl)).trans (qSL 7 rfl rfl))) ?_
   rintro ⟨f2, q2, R2, out⟩ hperm
   dsimp only at hperm ⊢
   have hpl : out.length + R2.length = D.length := by have := hperm.length_eq; simpa using this
   have hle2 := left_it f2 q2 R2
   have hol : ((out.map idv).map PV.imm).length = out.length := by simp
   (try (conv => whnf)); (repeat ((first | refine qT ?_ | refine qF ?_ | refine qO ?_ | (with_reducible intro z hz); (first | (replace hz := hz (by omega); subst hz) | subst hz)); (try (conv => whnf))))
   refine NxK.mk (fun h0 => ?_) (fun i p hp => ?_)
   · rw [hle2] at h0
     obtain rfl := mk_nil h0
     have hS := sortT_pcb out (by omega)
     have hda := diff_apart a b hinv (out := out) (by simpa using hperm)
     rw [hda] at hS
     (try (conv => whnf)); (repeat ((first | refine qT ?_ | refine qF ?_ | refine qO ?_ | (with_reducible intro z hz); (first | (replace hz := hz (by omega); subst hz) | subst hz)); (try (conv => whnf))))
     refine Imms.mk (out.map idv) rfl ?_
     (try (conv => whnf)); (repeat ((first | refine qT ?_ | refine qF ?_ | refine qO ?_ | (with_reducible intro z hz); (first | (replace hz := hz (by omega); subst hz) | subst hz)); (try (conv => whnf))))
     refine CallB.mk ([]) ([.row 26 3 1 ((apartK a.all b.all (a.all ++ b.all)).map idv)]) (hB _ _ _ _ _ (hS)) ?_
     (try (conv => whnf)); (repeat ((first | refine qT ?_ | refine qF ?_ | refine qO ?_ | (with_reducible intro z hz); (first | (replace hz := hz (by omega); subst hz) | subst hz)); (try (conv => whnf))))
     refine Imms.mk ((apartK a.all b.all (a.all ++ b.all)).map idv) rfl ?_
     (try (conv => whnf)); (repeat ((first | refine qT ?_ | refine qF ?_ | refine qO ?_ | (with_reducible intro z hz); (first | (replace hz := hz (by omega); subst hz) | subst hz)); (try (conv => whnf))))
     exact hfin _ (ILes.refl _)
   · rw [hle2] at hp
     obtain ⟨p, hq, rfl⟩ := mk_at hp
     have hpe := erase_perm hq
     have hlt : (R2.eraseIdx i).length + 1 = R2.length := by have := hpe.length_eq; simpa using this
     (try (conv => whnf)); (repeat ((first | refine qT ?_ | refine qF ?_ | refine qO ?_ | (with_reducible intro z hz); (first | (replace hz := hz (by omega); subst hz) | subst hz)); (try (conv => whnf))))
     refine ⟨(true, p, R2.eraseIdx i, out ++ [p.1]), ?_, by dsimp only; omega, ?_⟩
     · dsimp only
       refine List.Perm.trans ?_ hperm
       rw [List.append_assoc]
       exact (hpe.map Prod.fst).append_left out
     · dsimp only
       exact ((WeakA.row 6 ((((out ++ [p.1]).map idv).map .imm)) rfl (by simp; rfl)).trans ((WeakA.mapTo 5 ((itL true p (R2.eraseIdx i))) rfl (by rw [hle2, mk_erase]; rfl)).trans ((WeakA.renew 6 1 rfl (by first | omega | (intro _; rw [hk0 _ _ rfl]; exact Nat.le_of_ble_eq_true rfl)) (by repeat (first | exact trivial | refine And.intro (rgL_imms _ _ _ _) ?_ | refine And.intro rfl ?_))).trans (qSL 7 rfl rfl))))
 · rw [hle] at hp
   obtain ⟨p, hq, rfl⟩ := mk_at hp
   have hpe := erase_perm hq
   have hlt : (R.eraseIdx i).length + 1 = R.length := by have := hpe.length_eq; simpa using this
   have hstep := hinv.step hq
   have hlk := look_mk p.1 D
   have hput := put_mk p.1 p.2 D
   have hdel := del_mk p.1 D
   unfold stepD at hstep
   cases hl : lookT D p.1 with
   | none =>
     rw [hl] at hlk hstep
     rw [if_neg (by simp)] at hstep
     (try (conv => whnf)); (repeat ((first | refine qT ?_ | refine qF ?_ | refine qO ?_ | (with_reducible intro z hz); (first | (replace hz := hz (by omega); subst hz) | subst hz)); (try (conv => whnf))))
     refine LookK.mk (.str ⟨#[]⟩) false (by rw [show IV.agg [.int .i64 p.1.x, .int .i64 p.1.y, .int .i64 p.1.z] = idv p.1 from rfl, hlk]; rfl) (by rw [show IV.agg [.int .i64 p.1.x, .int .i64 p.1.y, .int .i64 p.1.z] = idv p.1 from rfl, hlk]; rfl) ?_
     (try (conv => whnf)); (repeat ((first | refine qT ?_ | refine qF ?_ | refine qO ?_ | (with_reducible intro z hz); (first | (replace hz := hz (by omega); subst hz) | subst hz)); (try (conv => whnf))))
     exact ⟨(true, p, R.eraseIdx i, putT D p.1 p.2), hstep, by dsimp only; omega, ((WeakA.mapTo 2 ((mkM (putT D p.1 p.2))) rfl (by exact hput)).trans ((WeakA.mapTo 4 ((itL true p (R.eraseIdx i))) rfl (by rw [hle, mk_erase]; rfl)).trans (qSL 5 rfl rfl)))⟩
   | some s =>
     rw [hl] at hlk hstep
     by_cases hsp : s = p.2
     · rw [if_pos (by rw [hsp])] at hstep
       (try (conv => whnf)); (repeat ((first | refine qT ?_ | refine qF ?_ | refine qO ?_ | (with_reducible intro z hz); (first | (replace hz := hz (by omega); subst hz) | subst hz)); (try (conv => whnf))))
       refine LookK.mk (.str s) true (by rw [show IV.agg [.int .i64 p.1.x, .int .i64 p.1.y, .int .i64 p.1.z] = idv p.1 from rfl, hlk]; rfl) (by rw [show IV.agg [.int .i64 p.1.x, .int .i64 p.1.y, .int .i64 p.1.z] = idv p.1 from rfl, hlk]; rfl) ?_
       (try (conv => whnf)); (repeat ((first | refine qT ?_ | refine qF ?_ | refine qO ?_ | (with_reducible intro z hz); (first | (replace hz := hz (by omega); subst hz) | subst hz)); (try (conv => whnf))))
       exact ⟨(true, p, R.eraseIdx i, delT D p.1), hstep, by dsimp only; omega, ((WeakA.mapTo 2 ((mkM (delT D p.1))) rfl (by exact hdel)).trans ((WeakA.mapTo 4 ((itL true p (R.eraseIdx i))) rfl (by rw [hle, mk_erase]; rfl)).trans (qSL 5 rfl rfl)))⟩
     · rw [if_neg (fun e => hsp (Option.some.inj e))] at hstep
       (try (conv => whnf)); (repeat ((first | refine qT ?_ | refine qF ?_ | refine qO ?_ | (with_reducible intro z hz); (first | (replace hz := hz (by omega); subst hz) | subst hz)); (try (conv => whnf))))
       refine LookK.mk (.str s) true (by rw [show IV.agg [.int .i64 p.1.x, .int .i64 p.1.y, .int .i64 p.1.z] = idv p.1 from rfl, hlk]; rfl) (by rw [show IV.agg [.int .i64 p.1.x, .int .i64 p.1.y, .int .i64 p.1.z] = idv p.1 from rfl, hlk]; rfl) ?_
       (try (conv => whnf)); (repeat ((first | refine qT ?_ | refine qF ?_ | refine qO ?_ | (with_reducible intro z hz); (first | (replace hz := hz (by omega); subst hz) | subst hz)); (try (conv => whnf))))
       exact ⟨(true, p, R.eraseIdx i, putT D p.1 p.2), hstep, by dsimp only; omega, ((WeakA.mapTo 2 ((mkM (putT D p.1 p.2))) rfl (by exact hput)).trans ((WeakA.mapTo 4 ((itL true p (R.eraseIdx i))) rfl (by rw [hle, mk_erase]; rfl)).trans (qSL 5 rfl rfl)))⟩
end Go.Proofs.YtopohipcpomecaaDoor.Pd
