/-
  The law's rows: split, row.
-/
import Derived.Test.YtdkalehijilchaaWCb
namespace Go.Proofs.Ytdkalehijilchaa.Pb
open Go Go.Pv Go.RowKit
set_option linter.unusedSimpArgs false
open Lab Lcs Go.Proofs.Ytdkalehijilchaa Go.Proofs.Ytdkalehijilchaa.Pu
set_option maxRecDepth 10000
set_option maxHeartbeats 16000000
def stepS (s : Str) (p : List Str × Nat) (i : Nat) : List Str × Nat := if i = s.size ∨ s.data[i]? = some 32 then (p.1 ++ [s.extract p.2 i], i + 1) else p
def stS (s : Str) (k : Nat) : List Str × Nat := (List.range k).foldl (stepS s) ([], 0)
theorem stS_succ (s : Str) (k : Nat) : stS s (k + 1) = stepS s (stS s k) k := by unfold stS; rw [List.range_succ, List.foldl_append]; rfl
theorem stS_le (s : Str) : ∀ k, (stS s k).2 ≤ k ∧ (stS s k).1.length ≤ k
 | 0 => ⟨Nat.le_refl _, Nat.le_refl _⟩
 | k + 1 => by
   have h := stS_le s k
   rw [stS_succ]
   unfold stepS
   split
   · exact ⟨Nat.le_refl _, by simp; omega⟩
   · exact ⟨by omega, by omega⟩
def splitS (s : Str) : List Str := (stS s (s.size + 1)).1
theorem split_pc (s : Str) (hs : s.size ≤ 1000) : PC Try.prog env0 34 [.str s] [.sl 1 (sv (splitS s))] := by
 refine PC.of_va (T := tb0) eqs_ok tb_ok rfl mixed Try.func34 rfl rfl (Nat.le_of_ble_eq_true rfl) ?_; intro Γ C WK LP fin h0 hW hC hB hR hLP hfin
 (try (conv => whnf)); (repeat ((first | refine qT ?_ | refine qF ?_ | refine qO ?_ | (with_reducible intro z hz); (first | (replace hz := hz (by omega); subst hz) | subst hz)); (try (conv => whnf))))
 refine hLP _ _ _ Nat (fun k => ⟨[(0, .imm (.str s)), (3, .row 0 1), (4, .imm (.int .i64 ((stS s k).2 : Nat))), (5, .imm (.int .i64 (k : Nat)))], [.row 9 1 1 ((sv (stS s k).1).map .imm)]⟩) (fun k => k ≤ s.size + 1) (fun k => s.size + 1 - k) 0 (Nat.zero_le _) (((WeakA.row 0 (((sv (stS s 0).1).map .imm)) rfl (by rfl))).trans (qSL 1 rfl rfl (hE := by (repeat ((conv => whnf); first | exact trivial | refine And.intro (by first | exact WkOne.any | exact WkOne.eq (by with_reducible rfl) rfl | exact WkOne.eq (congrArg (fun z => PV.imm (IV.int IntKind.i64 z)) (by first | omega | (simp [stS]; done) | (simp [stS]; omega))) rfl | exact WkOne.eq (by first | (simp [stS]; done) | fail) rfl | exact WkOne.eq rfl rfl | exact WkOne.le rfl (ILe.nil _)) ?_))))) ?_
 intro k hk
 have hho := Nat.lt_or_ge k (s.size + 1)
 cases hho with
 | inl hlt =>
   obtain ⟨hp1, hp2⟩ := stS_le s k
   have hsuc := stS_succ s k
   unfold stepS at hsuc
   generalize stS s k = p at hp1 hp2 hsuc ⊢
   obtain ⟨out, fr⟩ := p
   dsimp only at hp1 hp2 hsuc ⊢
   have hRl : ((sv out).map PV.imm).length ≤ k := by unfold sv; rw [List.length_map, List.length_map]; exact hp2
   have hOw : ((sv out).map PV.imm).length + 1 ≤ most := by unfold most; omega
   have hh := Nat.lt_or_ge k s.size
   cases hh with
   | inr hge =>
     have hke : k = s.size := by omega
     rw [if_pos (Or.inl hke)] at hsuc
     (try (conv => whnf)); (repeat ((first | refine qT ?_ | refine qF ?_ | refine qO ?_ | (with_reducible intro z hz); (first | (replace hz := hz (by omega); subst hz) | subst hz)); (try (conv => whnf))))
     refine ⟨k + 1, by omega, by dsimp only; omega, ?_⟩
     have h1 : (stS s (k + 1)).1 = out ++ [s.extract fr k] := by rw [hsuc]
     have h2 : (stS s (k + 1)).2 = k + 1 := by rw [hsuc]
     exact ((WeakA.row 0 (((sv (stS s (k + 1)).1).map .imm)) rfl (by rw [h1]; simp [sv]))).trans ((WeakA.renew 0 1 rfl (by first | omega | (intro _; rw [hk0 _ _ rfl]; exact Nat.le_of_ble_eq_true rfl)) (by repeat (first | exact trivial | refine And.intro (rgL_imms _ _ _ _) ?_ | refine And.intro rfl ?_))).trans (qSL 1 rfl rfl (hE := by (repeat ((conv => whnf); first | exact trivial | refine And.intro (by first | exact WkOne.any | exact WkOne.eq (by with_reducible rfl) rfl | exact WkOne.eq (congrArg (fun z => PV.imm (IV.int IntKind.i64 z)) (by first | omega | (simp [h2]; done) | (simp [h2]; omega))) rfl | exact WkOne.eq (by first | (simp [h2]; done) | fail) rfl | exact WkOne.eq rfl rfl | exact WkOne.le rfl (ILe.nil _)) ?_)))))
   | inl hlt2 =>
     obtain ⟨b, hb⟩ : ∃ b, s.data[k]? = some b := ⟨s.data[k]'hlt2, Array.getElem?_eq_getElem hlt2⟩
     have hne : k ≠ s.size := by omega
     by_cases h32 : b = 32
     · rw [if_pos (Or.inr (by rw [hb, h32]))] at hsuc
       (try (conv => whnf)); (repeat ((first | refine qT ?_ | refine qF ?_ | refine qO ?_ | (with_reducible intro z hz); (first | (replace hz := hz (by omega); subst hz) | subst hz)); (try (conv => whnf))))
       intro c z hc hz
       have hcb : c = b := by rw [Int.toNat_natCast, hb] at hc; exact (Option.some.inj hc).symm
       subst hcb
       subst h32
       subst hz
       (try (conv => whnf)); (repeat ((first | refine qT ?_ | refine qF ?_ | refine qO ?_ | (with_reducible intro z hz); (first | (replace hz := hz (by omega); subst hz) | subst hz)); (try (conv => whnf))))
       refine ⟨k + 1, by omega, by dsimp only; omega, ?_⟩
       have h1 : (stS s (k + 1)).1 = out ++ [s.extract fr k] := by rw [hsuc]
       have h2 : (stS s (k + 1)).2 = k + 1 := by rw [hsuc]
       exact ((WeakA.row 0 (((sv (stS s (k + 1)).1).map .imm)) rfl (by rw [h1]; simp [sv]))).trans ((WeakA.renew 0 1 rfl (by first | omega | (intro _; rw [hk0 _ _ rfl]; exact Nat.le_of_ble_eq_true rfl)) (by repeat (first | exact trivial | refine And.intro (rgL_imms _ _ _ _) ?_ | refine And.intro rfl ?_))).trans (qSL 1 rfl rfl (hE := by (repeat ((conv => whnf); first | exact trivial | refine And.intro (by first | exact WkOne.any | exact WkOne.eq (by with_reducible rfl) rfl | exact WkOne.eq (congrArg (fun z => PV.imm (IV.int IntKind.i64 z)) (by first | omega | (simp [h2]; done) | (simp [h2]; omega))) rfl | exact WkOne.eq (by first | (simp [h2]; done) | fail) rfl | exact WkOne.eq rfl rfl | exact WkOne.le rfl (ILe.nil _)) ?_)))))
     · rw [if_neg (fun e => e.elim hne fun e => h32 (by rw [hb] at e; exact Option.some.inj e))] at hsuc
       (try (conv => whnf)); (repeat ((first | refine qT ?_ | refine qF ?_ | refine qO ?_ | (with_reducible intro z hz); (first | (replace hz := hz (by omega); subst hz) | subst hz)); (try (conv => whnf))))
       intro c z hc hz
       have hcb : c = b := by rw [Int.toNat_natCast, hb] at hc; exact (Option.some.inj hc).symm
       subst hcb
       have hzn : z ≠ 32 := by
         intro e
         apply h32
         apply UInt8.toNat_inj.1
         have : ((c.toNat : Nat) : Int) = 32 := by rw [← hz, e]
         show c.toNat = 32
         omega
       (try (conv => whnf)); (repeat ((first | refine qT ?_ | refine qF ?_ | refine qO ?_ | (with_reducible intro z hz); (first | (replace hz := hz (by omega); subst hz) | subst hz)); (try (conv => whnf))))
       refine ⟨k + 1, by omega, by dsimp only; omega, ?_⟩
       have h1 : (stS s (k + 1)).1 = out := by rw [hsuc]
       have h2 : (stS s (k + 1)).2 = fr := by rw [hsuc]
       exact ((WeakA.row 0 (((sv (stS s (k + 1)).1).map .imm)) rfl (by rw [h1]))).trans (qSL 1 rfl rfl (hE := by (repeat ((conv => whnf); first | exact trivial | refine And.intro (by first | exact WkOne.any | exact WkOne.eq (by with_reducible rfl) rfl | exact WkOne.eq (congrArg (fun z => PV.imm (IV.int IntKind.i64 z)) (by first | omega | (simp [h2]; done) | (simp [h2]; omega))) rfl | exact WkOne.eq (by first | (simp [h2]; done) | fail) rfl | exact WkOne.eq rfl rfl | exact WkOne.le rfl (ILe.nil _)) ?_))))
 | inr hge =>
   have hke : k = s.size + 1 := by omega
   subst hke
   (try (conv => whnf)); (repeat ((first | refine qT ?_ | refine qF ?_ | refine qO ?_ | (with_reducible intro z hz); (first | (replace hz := hz (by omega); subst hz) | subst hz)); (try (conv => whnf))))
   refine Imms.mk (sv (splitS s)) rfl ?_
   exact hfin _ (ILes.refl _)
def wd0 (s : Str) : Wd := ⟨s, ⟨0, 0, 0⟩⟩
def cellU (s : Str) : Ut := .mk ⟨0, 0, 0⟩ 6 ⟨#[]⟩ [] ((splitS s).map wd0) []
def rowU (L : List Str) : Ut := .mk ⟨0, 0, 0⟩ 5 ⟨#[]⟩ [] [] (L.map cellU)
def rawC (s : Str) : IV := .agg [.int .i64 0, .int .i64 0, .int .i64 0, .int .i64 6, .str ⟨#[]⟩, .nil, .sl 4 (((splitS s).map wd0).map wdv), .nil]
theorem raw_le (s : Str) : ILe (rawC s) (uv (cellU s)) := by
 unfold cellU rawC
 rw [uv_mk]
 exact ILes.agg (.cons (.refl _) (.cons (.refl _) (.cons (.refl _) (.cons (.refl _) (.cons (.refl _) (.cons (.nil 4) (.cons (.refl _) (.cons (.nil 8) (.refl [])))))))))
theorem raws_le : ∀ L : List Str, ILes (L.map rawC) ((L.map cellU).map uv)
 | [] => .refl []
 | s :: L => .cons (raw_le s) (raws_le L)
theorem row_le (L : List Str) : ILe (.agg [.int .i64 0, .int .i64 0, .int .i64 0, .int .i64 5, .str ⟨#[]⟩, .nil, .nil, .sl 8 (L.map rawC)]) (uv (rowU L)) := by
 unfold rowU
 rw [uv_mk]
 exact ILes.agg (.cons (.refl _) (.cons (.refl _) (.cons (.refl _) (.cons (.refl _) (.cons (.refl _) (.cons (.nil 4) (.cons (.nil 4) (.cons (ILes.sl (raws_le L)) (.refl [])))))))))
theorem lrow_pc (L : List Str) (hL : L.length ≤ 10) (hs : ∀ s ∈ L, s.size ≤ 1000) : PC Try.prog env0 17 [.sl 1 (sv L)] [uv (rowU L)] := by
 have hml : (sv L).length = L.length := List.length_map _
 refine PC.of_va (T := (tbf fun r => match r with | 11 => [5] | _ => [])) eqs_ok tb_ok rfl mixed Try.func17 rfl rfl (Nat.le_of_ble_eq_true rfl) ?_; intro Γ C WK LP fin h0 hW hC hB hR hLP hfin
 (try (conv => whnf)); (repeat ((first | refine qT ?_ | refine qF ?_ | refine qO ?_ | (with_reducible intro z hz); (first | (replace hz := hz (by omega); subst hz) | subst hz)); (try (conv => whnf))))
 refine hLP _ _ _ Nat (fun k => ⟨[(2, .ptr 0 1 0), (3, .ptr 1 1 0), (10, .imm (.sl 1 (sv L))), (11, .imm (.int .i64 (L.length : Nat))), (12, .imm (.int .i64 (k : Nat)))], [.box 1 [.imm (.int .i64 0), .imm (.int .i64 0), .imm (.int .i64 0), .imm (.int .i64 0), .imm (.str ⟨#[]⟩), .imm .nil, .imm .nil, .imm .nil], .box 1 [.imm (.int .i64 0), .imm (.int .i64 0), .imm (.int .i64 0), .imm (.int .i64 5), .imm (.str ⟨#[]⟩), .imm .nil, .imm .nil, .row 2 1], .row 27 8 1 (((L.take k).map rawC).map .imm)]⟩) (fun k => k ≤ L.length) (fun k => L.length - k) 0 (Nat.zero_le _) (((WeakA.nilBox 1 7 27 8 rfl rfl)).trans (((WeakA.row 2 ((((L.take 0).map rawC).map .imm)) rfl (by simp))).trans (qSL 3 rfl rfl (hE := by (repeat ((conv => whnf); first | exact trivial | refine And.intro (by first | exact WkOne.any | exact WkOne.eq (by with_reducible rfl) rfl | exact WkOne.eq (congrArg (fun z => PV.imm (IV.int IntKind.i64 z)) (by first | omega | (simp [hml]; done) | (simp [hml]; omega))) rfl | exact WkOne.eq (by first | (simp [hml]; done) | fail) rfl | exact WkOne.eq rfl rfl | exact WkOne.le rfl (ILe.nil _)) ?_)))))) ?_
 intro k hk
 have hho := Nat.lt_or_ge k L.length
 cases hho with
 | inl hlt =>
   obtain ⟨s, hx⟩ : ∃ s, L[k]? = some s := ⟨L[k], List.getElem?_eq_getElem hlt⟩
   have hss := hs s (List.mem_of_getElem? hx)
   have hSp := split_pc s hss
   have hwl : (splitS s).length ≤ 1001 := by have := (stS_le s (s.size + 1)).2; unfold splitS; omega
   have hraw : rawC s = .agg [.int .i64 0, .int .i64 0, .int .i64 0, .int .i64 6, .str ⟨#[]⟩, .nil, .sl 4 (((splitS s).map wd0).map wdv), .nil] := rfl
   have hRl : (((L.take k).map rawC).map PV.imm).length ≤ k := by
     rw [List.length_map, List.length_map, List.length_take]
     omega
   have hOw : (((L.take k).map rawC).map PV.imm).length + 1 ≤ most := by unfold most; omega
   generalize splitS s = ws at hSp hwl hraw
   have hmw : (sv ws).length = ws.length := List.length_map _
   (try (conv => whnf)); (repeat ((first | refine qT ?_ | refine qF ?_ | refine qO ?_ | (with_reducible intro z hz); (first | (replace hz := hz (by omega); subst hz) | subst hz)); (try (conv => whnf))))
   refine Idx.mk k (.str s) _ rfl (by simp [sv, hx]) rfl ?_
   (try (conv => whnf)); (repeat ((first | refine qT ?_ | refine qF ?_ | refine qO ?_ | (with_reducible intro z hz); (first | (replace hz := hz (by omega); subst hz) | subst hz) | (refine CallV.mk _ (hC _ _ _ (PCw.of hSp)) (fun js hjs => ?_); subst hjs)); (try (conv => whnf))))
   refine hLP _ _ _ Nat (fun i => ⟨[(2, .ptr 0 1 0), (3, .ptr 1 1 0), (6, .ptr 3 1 0), (10, .imm (.sl 1 (sv L))), (11, .imm (.int .i64 (L.length : Nat))), (12, .imm (.int .i64 (k : Nat))), (18, .imm (.sl 1 (sv ws))), (19, .imm (.int .i64 (ws.length : Nat))), (20, .imm (.int .i64 (i : Nat)))], [.box 1 [.imm (.int .i64 0), .imm (.int .i64 0), .imm (.int .i64 0), .imm (.int .i64 0), .imm (.str ⟨#[]⟩), .imm .nil, .imm .nil, .imm .nil], .box 1 [.imm (.int .i64 0), .imm (.int .i64 0), .imm (.int .i64 0), .imm (.int .i64 5), .imm (.str ⟨#[]⟩), .imm .nil, .imm .nil, .row 2 1], .row 27 8 1 (((L.take k).map rawC).map .imm), .box 1 [.imm (.int .i64 0), .imm (.int .i64 0), .imm (.int .i64 0), .imm (.int .i64 6), .imm (.str ⟨#[]⟩), .imm .nil, .row 5 1, .imm .nil], .dead 0, .row 55 4 1 ((((ws.take i).map wd0).map wdv).map .imm)]⟩) (fun i => i ≤ ws.length) (fun i => ws.length - i) 0 (Nat.zero_le _) (((WeakA.nilBox 3 6 55 4 rfl rfl)).trans (((WeakA.row 5 (((((ws.take 0).map wd0).map wdv).map .imm)) rfl (by simp))).trans (qSL 6 rfl rfl (hE := by (repeat ((conv => whnf); first | exact trivial | refine And.intro (by first | exact WkOne.any | exact WkOne.eq (by with_reducible rfl) rfl | exact WkOne.eq (congrArg (fun z => PV.imm (IV.int IntKind.i64 z)) (by first | omega | (simp [hmw]; done) | (simp [hmw]; omega))) rfl | exact WkOne.eq (by first | (simp [hmw]; done) | fail) rfl | exact WkOne.eq rfl rfl | exact WkOne.le rfl (ILe.nil _)) ?_)))))) ?_
   intro i hi
   have hho := Nat.lt_or_ge i ws.length
   cases hho with
   | inl hil =>
     obtain ⟨a, ha⟩ : ∃ a, ws[i]? = some a := ⟨ws[i], List.getElem?_eq_getElem hil⟩
     have hRw : ((((ws.take i).map wd0).map wdv).map PV.imm).length ≤ i := by
       rw [List.length_map, List.length_map, List.length_map, List.length_take]
       omega
     have hOv : ((((ws.take i).map wd0).map wdv).map PV.imm).length + 1 ≤ most := by unfold most; omega
     (try (conv => whnf)); (repeat ((first | refine qT ?_ | refine qF ?_ | refine qO ?_ | (with_reducible intro z hz); (first | (replace hz := hz (by omega); subst hz) | subst hz)); (try (conv => whnf))))
     refine Idx.mk i (.str a) _ rfl (by simp [sv, ha]) rfl ?_
     (try (conv => whnf)); (repeat ((first | refine qT ?_ | refine qF ?_ | refine qO ?_ | (with_reducible intro z hz); (first | (replace hz := hz (by omega); subst hz) | subst hz)); (try (conv => whnf))))
     exact ⟨i + 1, by omega, by dsimp only; omega, ((WeakA.row 5 (((((ws.take (i + 1)).map wd0).map wdv).map .imm)) rfl (by rw [take_at ha]; simp; rfl))).trans ((WeakA.renew 5 1 rfl (by first | omega | (intro _; rw [hk0 _ _ rfl]; exact Nat.le_of_ble_eq_true rfl)) (by repeat (first | exact trivial | refine And.intro (rgL_imms _ _ _ _) ?_ | refine And.intro rfl ?_))).trans (qSL 6 rfl rfl))⟩
   | inr hig =>
     have hie : ws.length = i := by omega
     have hta : ws.take i = ws := List.take_of_length_le (by omega)
     rw [hta]
     (try (conv => whnf)); (repeat ((first | refine qT ?_ | refine qF ?_ | refine qO ?_ | (with_reducible intro z hz); (first | (replace hz := hz (by omega); subst hz) | subst hz)); (try (conv => whnf))))
     refine Imms.mk ((ws.map wd0).map wdv) rfl ?_
     (try (conv => whnf)); (repeat ((first | refine qT ?_ | refine qF ?_ | refine qO ?_ | (with_reducible intro z hz); (first | (replace hz := hz (by omega); subst hz) | subst hz)); (try (conv => whnf))))
     refine Owe.mk (by rw [fzL_imm]; exact hOw) ?_
     (try (conv => whnf)); (repeat ((first | refine qT ?_ | refine qF ?_ | refine qO ?_ | (with_reducible intro z hz); (first | (replace hz := hz (by omega); subst hz) | subst hz)); (try (conv => whnf))))
     exact ⟨k + 1, by omega, by dsimp only; omega, ((WeakA.row 2 ((((L.take (k + 1)).map rawC).map .imm)) rfl (by rw [fzL_imm, take_at hx]; simp [hraw]))).trans ((WeakA.renew 2 1 rfl (by first | omega | (intro _; rw [hk0 _ _ rfl]; exact Nat.le_of_ble_eq_true rfl)) (by repeat (first | exact trivial | refine And.intro (rgL_imms _ _ _ _) ?_ | refine And.intro rfl ?_))).trans (qSL 3 rfl rfl))⟩
 | inr hge =>
   have hke : L.length = k := by omega
   have hta : L.take k = L := List.take_of_length_le (by omega)
   rw [hta]
   (try (conv => whnf)); (repeat ((first | refine qT ?_ | refine qF ?_ | refine qO ?_ | (with_reducible intro z hz); (first | (replace hz := hz (by omega); subst hz) | subst hz)); (try (conv => whnf))))
   refine Imms.mk (L.map rawC) rfl ?_
   refine hfin _ ?_
   exact .cons (row_le L) (.refl [])
end Go.Proofs.Ytdkalehijilchaa.Pb
