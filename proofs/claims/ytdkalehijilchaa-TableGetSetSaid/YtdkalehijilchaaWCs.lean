/-
  A row of rows that a call hands over. Set's copy: of plain values, and with rows of its own. Set's copy with the row of a row for its own. Set.
-/
import Derived.Test.YtdkalehijilchaaWCc
namespace Go.Proofs.Ytdkalehijilchaa.Pb
open Go Go.Pv Go.RowKit
set_option linter.unusedSimpArgs false
open Lab Lcs Go.Proofs.Ytdkalehijilchaa Go.Proofs.Ytdkalehijilchaa.Pu Go.Proofs.Ytdkalehijilchaa.Pt
set_option maxRecDepth 10000
set_option maxHeartbeats 16000000
def mvG (i j h g' : Nat) : Blk → Blk
 | .dead g => .dead g
 | .box g cs => .box g (mvL i j h g' cs)
 | .row e sz g es => .row e sz g (mvL i j h g' es)
 | .map kk g ps => .map kk g ps
theorem adoptG {Γ : Ctx} {E : List PV} {B : List Blk} (i j g' : Nat) {gi : Nat} {x : Blk} (hij : i ≠ j) (hbi : B[i]? = some (.dead gi)) (hbj : B[j]? = some x) (hn : Γ.n0 ≤ j) (h0 : i < Γ.n0 → Γ.k0.G i < g') :
   Weak Γ ⟨E, B⟩ ⟨mvL i j (gen x) g' E, ((B.map (mvG i j (gen x) g')).set i (Pv.regen g' (mvG i j (gen x) g' x))).set j (.dead (gen x + 1))⟩ := by
 rintro a w ⟨hd, k, hI, hT⟩
 have hg : k.G j = gen x := own_gen (hI.blk j x hbj)
 have hil : i < B.length := (List.getElem?_eq_some_iff.1 hbi).1
 have hjl : j < B.length := (List.getElem?_eq_some_iff.1 hbj).1
 generalize hB' : ((B.map (mvG i j (gen x) g')).set i (Pv.regen g' (mvG i j (gen x) g' x))).set j (.dead (gen x + 1)) = B'
 have hlen : B'.length = B.length := by rw [← hB']; simp
 have hat : ∀ q y, B'[q]? = some y → (q = j ∧ y = .dead (gen x + 1)) ∨ (q = i ∧ y = Pv.regen g' (mvG i j (gen x) g' x)) ∨ (q ≠ i ∧ q ≠ j ∧ ∃ z, B[q]? = some z ∧ y = mvG i j (gen x) g' z) := by
   intro q y hy
   rw [← hB'] at hy
   by_cases e : q = j
   · subst e
     rw [List.getElem?_set_self (by simpa using hjl)] at hy
     exact Or.inl ⟨rfl, (Option.some.inj hy).symm⟩
   · rw [List.getElem?_set_ne (Ne.symm e)] at hy
     by_cases e2 : q = i
     · subst e2
       rw [List.getElem?_set_self (by simpa using hil)] at hy
       exact Or.inr (Or.inl ⟨rfl, (Option.some.inj hy).symm⟩)
     · rw [List.getElem?_set_ne (Ne.symm e2), List.getElem?_map] at hy
       cases hz : B[q]? with
       | none => rw [hz] at hy; cases hy
       | some z => rw [hz] at hy; exact Or.inr (Or.inr ⟨e2, e, z, rfl, (Option.some.inj hy).symm⟩)
 let k' := mvK k i j (gen x) g'
 have hρi : k'.ρ i = k.ρ j := by show (if i = i then _ else _) = _; simp
 have hρ : ∀ q, q ≠ i → k'.ρ q = k.ρ q := fun q e => by show (if q = i then _ else _) = _; rw [if_neg e]
 have hGi : k'.G i = g' := by show (if i = i then _ else _) = _; simp
 have hG : ∀ q, q ≠ i → q ≠ j → k'.G q = k.G q := fun q e e2 => by show (if q = i then _ else if q = j then _ else _) = _; rw [if_neg e, if_neg e2]
 have hGj : k'.G j = gen x + 1 := by show (if j = i then _ else if j = j then _ else _) = _; rw [if_neg (Ne.symm hij)]; simp
 have hown : ∀ q y b, B'[q]? = some y → own k' q y = some b → ∃ q0 z, B[q0]? = some z ∧ own k q0 z = some b ∧ (q0 = if q = i then j else q) := by
   intro q y b hy ho
   rcases hat q y hy with ⟨_, h⟩ | ⟨e, h⟩ | ⟨e, e2, z, hz, h⟩
   · subst h; cases ho
   · subst h; subst e
     refine ⟨j, x, hbj, ?_, by simp⟩
     cases x with
     | dead _ => cases ho
     | box _ _ => show base (k.ρ j) = _; rw [← hρi]; exact ho
     | row _ _ _ _ => show base (k.ρ j) = _; rw [← hρi]; exact ho
     | map _ _ _ => show base (k.ρ j) = _; rw [← hρi]; exact ho
   · subst h
     refine ⟨q, z, hz, ?_, by rw [if_neg e]⟩
     cases z with
     | dead _ => cases ho
     | box _ _ => show base (k.ρ q) = _; rw [← hρ q e]; exact ho
     | row _ _ _ _ => show base (k.ρ q) = _; rw [← hρ q e]; exact ho
     | map _ _ _ => show base (k.ρ q) = _; rw [← hρ q e]; exact ho
 have hnij : ∀ q y b, B'[q]? = some y → own k' q y = some b → q ≠ j := by
   intro q y b hy ho e
   rcases hat q y hy with ⟨_, h⟩ | ⟨e2, h⟩ | ⟨_, e2, _⟩
   · subst h; cases ho
   · exact hij (e2.symm.trans e)
   · exact e2 e
 have hml : ∀ es : List PV, (mvL i j (gen x) g' es).length = es.length := fun es => by rw [mvL_mapF, List.length_map]
 refine ⟨hd, k', ⟨hI.below, hI.lt, hI.le, hI.qs, hI.rr, fun gg cs hc => iptr_any (k := k) (n := B.length) rfl (hI.gl gg cs hc), fun q y hy => ?_, fun q y b hy ho => ?_, fun q q' y y' b hy hy' ho ho' => ?_, ⟨hI.kp.fr, by rw [hlen]; exact hI.kp.ext.le, hI.kp.ext.q, fun q hq => ?_⟩, fun q y b hy ho => ?_⟩, ?_⟩
 · rw [hlen]
   rcases hat q y hy with ⟨e, h⟩ | ⟨e, h⟩ | ⟨e, e2, z, hz, h⟩
   · subst e; subst h; exact hGj
   · subst e; subst h
     have hbk := hI.blk j x hbj
     cases x with
     | dead m => exact hGi
     | box m cs =>
       obtain ⟨_, b, c, ty, h3, h4, h5, h6⟩ := hbk
       exact ⟨hGi, b, c, ty, hρi.trans h3, h4, h5, mvL_rep hil hg hij cs _ h6⟩
     | row e' sz m es =>
       obtain ⟨_, xs, h3, h4⟩ := hbk
       refine ⟨hGi, xs, by rw [hml, hρi]; exact h3, ?_⟩
       exact mvE_rep (g' := g') hil hg hij es _ h4
     | map kk m ps => exact ⟨hGi, by rw [hρi]; exact hbk.2⟩
   · subst h
     have hbk := hI.blk q z hz
     cases z with
     | dead m => exact (hG q e e2).trans hbk
     | box m cs =>
       obtain ⟨h2, b, c, ty, h3, h4, h5, h6⟩ := hbk
       exact ⟨(hG q e e2).trans h2, b, c, ty, (hρ q e).trans h3, h4, h5, mvL_rep hil hg hij cs _ h6⟩
     | row e' sz m es =>
       obtain ⟨h2, xs, h3, h4⟩ := hbk
       refine ⟨(hG q e e2).trans h2, xs, by rw [hml, hρ q e]; exact h3, ?_⟩
       exact mvE_rep (g' := g') hil hg hij es _ h4
     | map kk m ps => exact ⟨(hG q e e2).trans hbk.1, by rw [hρ q e]; exact hbk.2⟩
 · obtain ⟨q0, z, hz, h, _⟩ := hown q y b hy ho
   exact hI.sep q0 z b hz h
 · have n1 := hnij q y b hy ho
   have n2 := hnij q' y' b hy' ho'
   obtain ⟨q0, z, hz, h, e1⟩ := hown q y b hy ho
   obtain ⟨q1, z', hz', h', e2⟩ := hown q' y' b hy' ho'
   have := hI.inj q0 q1 z z' b hz hz' h h'
   rw [e1, e2] at this
   split at this <;> split at this <;> omega
 · obtain ⟨h1, h2⟩ := hI.kp.ext.r q hq
   have hqj : q ≠ j := by omega
   by_cases e : q = i
   · subst e
     have := h0 hq
     rw [hGi]
     exact ⟨by omega, fun e => by omega⟩
   · rw [hG q e hqj, hρ q e]
     exact ⟨h1, h2⟩
 · obtain ⟨q0, z, hz, h, _⟩ := hown q y b hy ho
   exact hI.nf q0 z b hz h
 · show RepT k' B'.length w _ _
   rw [hlen]
   exact mvT_rep hil hg hij E _ hT
theorem adoptGA {Γ : Ctx} {n : Nat} {A : List (Nat × PV)} {B : List Blk} (i j g' : Nat) {gi : Nat} {x : Blk} (hij : i ≠ j) (hbi : B[i]? = some (.dead gi)) (hbj : B[j]? = some x) (hn : Γ.n0 ≤ j) (h0 : i < Γ.n0 → Γ.k0.G i < g') :
   WeakA Γ n ⟨A, B⟩ ⟨mvA i j (gen x) g' A, ((B.map (mvG i j (gen x) g')).set i (Pv.regen g' (mvG i j (gen x) g' x))).set j (.dead (gen x + 1))⟩ := by
 have h := adoptG (Γ := Γ) (E := toL n A) i j g' hij hbi hbj hn h0
 rw [mvL_mapF, toL_map (f := mv i j (gen x) g') (by simp [mv])] at h
 exact h
theorem mvL_set (i j h g' : Nat) (l : List PV) (k : Nat) (p : PV) : mvL i j h g' (l.set k p) = (mvL i j h g' l).set k (mv i j h g' p) := by
 rw [mvL_mapF, mvL_mapF, List.map_set]
theorem fzL_mapF (r g : Nat) (i : IV) : ∀ l : List PV, fzL r g i l = l.map (fz r g i)
 | [] => by simp [fzL]
 | a :: l => by simp [fzL, fzL_mapF r g i l]
theorem fzL_set (r g : Nat) (i : IV) (l : List PV) (k : Nat) (p : PV) : fzL r g i (l.set k p) = (fzL r g i l).set k (fz r g i p) := by
 rw [fzL_mapF, fzL_mapF, List.map_set]
end Go.Proofs.Ytdkalehijilchaa.Pb
namespace Go.Proofs.Ytdkalehijilchaa.Pb
open Go Go.Pv Go.RowKit
set_option linter.unusedSimpArgs false
open Lab Lcs Go.Proofs.Ytdkalehijilchaa Go.Proofs.Ytdkalehijilchaa.Pu Go.Proofs.Ytdkalehijilchaa.Pt
set_option maxRecDepth 10000
set_option maxHeartbeats 16000000
def Smb (t : Ut) : Prop := ∀ x ∈ t.all, x.kids.length ≤ 60 ∧ x.words.length ≤ 300 ∧ x.head.length ≤ 300
theorem Smb.kid {t r : Ut} (h : Smb t) (hr : r ∈ t.kids) : Smb r := fun x hx => h x (all_kid hr x hx)
theorem set_id {α : Type} {l : List α} {k : Nat} {x : α} (h : l[k]? = some x) : l.set k x = l := by
 apply List.ext_getElem?
 intro i
 by_cases hi : i = k
 · subst hi; rw [List.getElem?_set_self (List.getElem?_eq_some_iff.1 h).1, h]
 · rw [List.getElem?_set_ne (Ne.symm hi)]
theorem clone_pc (N : Nat) : ∀ u : Ut, u.count ≤ N → Smb u → PC Try.prog env0 26 [uv u] [uv u] := by
 induction N with
 | zero => intro u h; have := count_pos u; omega
 | succ N ih =>
 intro u hN hsb
 have hue := uv_eq u
 obtain ⟨b1, b2, b3⟩ := hsb u (all_self u)
 have hC1 := cloneW_pcr (X := env0) (u.head.map wdv) (by rw [List.length_map]; omega)
 have hC2 := cloneW_pcr (X := env0) (u.words.map wdv) (by rw [List.length_map]; omega)
 have hC3 := cloneU_pcr (X := env0) (u.kids.map uv) (by rw [List.length_map]; omega)
 have hml : ((u.kids.map uv).map PV.imm).length = u.kids.length := by simp
 rw [hue]
 refine PC.of_va (T := tb0) eqs_ok tb_ok rfl mixed Try.func26 rfl rfl (Nat.le_of_ble_eq_true rfl) ?_; intro Γ C WK LP fin h0 hW hC hB hR hLP hfin
 (try (conv => whnf)); (repeat ((first | refine qT ?_ | refine qF ?_ | refine qO ?_ | (with_reducible intro z hz); (first | (replace hz := hz (by omega); subst hz) | subst hz)); (try (conv => whnf))))
 refine CallV.row _ _ _ (hR _ _ _ _ _ (PCRw.of (hC1))) (fun js hjs => ?_); subst hjs
 (try (conv => whnf)); (repeat ((first | refine qT ?_ | refine qF ?_ | refine qO ?_ | (with_reducible intro z hz); (first | (replace hz := hz (by omega); subst hz) | subst hz)); (try (conv => whnf))))
 refine CallV.row _ _ _ (hR _ _ _ _ _ (PCRw.of (hC2))) (fun js hjs => ?_); subst hjs
 (try (conv => whnf)); (repeat ((first | refine qT ?_ | refine qF ?_ | refine qO ?_ | (with_reducible intro z hz); (first | (replace hz := hz (by omega); subst hz) | subst hz)); (try (conv => whnf))))
 refine CallV.row _ _ _ (hR _ _ _ _ _ (PCRw.of (hC3))) (fun js hjs => ?_); subst hjs
 (try (conv => whnf)); (repeat ((first | refine qT ?_ | refine qF ?_ | refine qO ?_ | (with_reducible intro z hz); (first | (replace hz := hz (by omega); subst hz) | subst hz)); (try (conv => whnf))))
 refine hLP _ _ _ Nat (fun k => ⟨[(1, .ptr 0 1 0), (2, .ptr 1 1 0), (18, .row 4 1), (19, .imm (.int .i64 (u.kids.length : Nat))), (20, .imm (.int .i64 (k : Nat)))], [.box 1 [.imm (.int .i64 u.id.x), .imm (.int .i64 u.id.y), .imm (.int .i64 u.id.z), .imm (.int .i64 u.kind), .imm (.str u.label), .row 2 1, .row 3 1, .row 4 1], .box 1 [.imm (.int .i64 0), .imm (.int .i64 0), .imm (.int .i64 0), .imm (.int .i64 0), .imm (.str ⟨#[]⟩), .imm .nil, .imm .nil, .imm .nil], .row 55 4 1 ((u.head.map wdv).map .imm), .row 55 4 1 ((u.words.map wdv).map .imm), .row 27 8 1 ((u.kids.map uv).map .imm)]⟩) (fun k => k ≤ u.kids.length) (fun k => u.kids.length - k) 0 (Nat.zero_le _) (qSL 5 rfl rfl (hE := by (repeat ((conv => whnf); first | exact trivial | refine And.intro (by first | exact WkOne.any | exact WkOne.eq (by with_reducible rfl) rfl | exact WkOne.eq (congrArg (fun z => PV.imm (IV.int IntKind.i64 z)) (by first | omega | (simp [hml]; done) | (simp [hml]; omega))) rfl | exact WkOne.eq (by first | (simp [hml]; done) | fail) rfl | exact WkOne.eq rfl rfl | exact WkOne.le rfl (ILe.nil _)) ?_)))) ?_
 intro k hk
 have hho := Nat.lt_or_ge k u.kids.length
 cases hho with
 | inl hlt =>
   refine (?_ : ∀ Q : Exit → AS → Prop, vcS _ _ _ _ _ _ _ (loopQA _ _ _ _ _ _ Q)) _; intro Q
   obtain ⟨x, hx⟩ : ∃ x, u.kids[k]? = some x := ⟨u.kids[k], List.getElem?_eq_getElem hlt⟩
   have h1 := kid_lt' hx
   have hI := ih x (by omega) (hsb.kid (List.mem_of_getElem? hx))
   have hux := uv_eq x
   have hst : ((u.kids.map uv).map PV.imm).set k (.imm (uv x)) = (u.kids.map uv).map PV.imm := set_id (by rw [List.getElem?_map, List.getElem?_map, hx]; rfl)
   rw [hux] at hI hst
   (try (conv => whnf)); (repeat ((first | refine qT ?_ | refine qF ?_ | refine qO ?_ | (with_reducible intro z hz); (first | (replace hz := hz (by omega); subst hz) | subst hz)); (try (conv => whnf))))
   refine Pos.mk k rfl (by omega) ?_
   (try (conv => whnf)); (repeat ((first | refine qT ?_ | refine qF ?_ | refine qO ?_ | (with_reducible intro z hz); (first | (replace hz := hz (by omega); subst hz) | subst hz)); (try (conv => whnf))))
   refine At.mk (.imm (uv x)) (by rw [List.getElem?_map, List.getElem?_map, hx]; rfl) ?_
   rw [hux]
   (try (conv => whnf)); (repeat ((first | refine qT ?_ | refine qF ?_ | refine qO ?_ | (with_reducible intro z hz); (first | (replace hz := hz (by omega); subst hz) | subst hz) | (refine CallV.mk _ (hC _ _ _ (PCw.of hI)) (fun js hjs => ?_); subst hjs)); (try (conv => whnf))))
   refine Pos.mk k rfl (by omega) ?_
   (try (conv => whnf)); (repeat ((first | refine qT ?_ | refine qF ?_ | refine qO ?_ | (with_reducible intro z hz); (first | (replace hz := hz (by omega); subst hz) | subst hz)); (try (conv => whnf))))
   refine At.mk (.imm (uv x)) (by rw [List.getElem?_map, List.getElem?_map, hx]; rfl) ?_
   rw [hux]
   (try (conv => whnf)); (repeat ((first | refine qT ?_ | refine qF ?_ | refine qO ?_ | (with_reducible intro z hz); (first | (replace hz := hz (by omega); subst hz) | subst hz)); (try (conv => whnf))))
   exact ⟨k + 1, by omega, by dsimp only; omega, ((WeakA.row 4 (((u.kids.map uv).map .imm)) rfl (by exact hst))).trans (qSL 5 rfl rfl)⟩
 | inr hge =>
   obtain rfl : k = u.kids.length := by omega
   (try (conv => whnf)); (repeat ((first | refine qT ?_ | refine qF ?_ | refine qO ?_ | (with_reducible intro z hz); (first | (replace hz := hz (by omega); subst hz) | subst hz)); (try (conv => whnf))))
   refine Imms.mk (u.head.map wdv) rfl ?_
   (try (conv => whnf)); (repeat ((first | refine qT ?_ | refine qF ?_ | refine qO ?_ | (with_reducible intro z hz); (first | (replace hz := hz (by omega); subst hz) | subst hz)); (try (conv => whnf))))
   refine Imms.mk (u.words.map wdv) rfl ?_
   (try (conv => whnf)); (repeat ((first | refine qT ?_ | refine qF ?_ | refine qO ?_ | (with_reducible intro z hz); (first | (replace hz := hz (by omega); subst hz) | subst hz)); (try (conv => whnf))))
   refine Imms.mk (u.kids.map uv) rfl ?_
   (try (conv => whnf)); (repeat ((first | refine qT ?_ | refine qF ?_ | refine qO ?_ | (with_reducible intro z hz); (first | (replace hz := hz (by omega); subst hz) | subst hz)); (try (conv => whnf))))
   exact hfin _ (ILes.refl _)
def nwC (f : FuncId) : Nat := bif Nat.beq f 26 then 2 else 0
def tbC : Tb := ⟨Pv.look tdl, eqs, fun _ => none, fun _ => [], fun _ => false, nwC⟩
theorem tbC_ok : ∀ t d, tbC.td t = some d → tdOf Try.prog t = some d := Pv.look_ok tdl_ok
def ownU (u : Ut) (r g : Nat) : PV := .agg [.imm (.int .i64 u.id.x), .imm (.int .i64 u.id.y), .imm (.int .i64 u.id.z), .imm (.int .i64 u.kind), .imm (.str u.label), .imm (.sl 4 (u.head.map wdv)), .imm (.sl 4 (u.words.map wdv)), .row r g]
theorem clone1_pcb (u : Ut) (hsb : Smb u) (hN : u.count ≤ 1000) : PCB Try.prog env0 26 [.imm (uv u)] [.dead 1] [ownU u 0 2] [.row 27 8 2 ((u.kids.map uv).map .imm)] := by
 have hue := uv_eq u
 obtain ⟨b1, b2, b3⟩ := hsb u (all_self u)
 have hC1 := cloneW_pcr (X := env0) (u.head.map wdv) (by rw [List.length_map]; omega)
 have hC2 := cloneW_pcr (X := env0) (u.words.map wdv) (by rw [List.length_map]; omega)
 have hC3 := cloneU_pcr (X := env0) (u.kids.map uv) (by rw [List.length_map]; omega)
 have hml : ((u.kids.map uv).map PV.imm).length = u.kids.length := by simp
 rw [hue]
 refine PCB.of_va (T := tbC) eqs_ok tbC_ok rfl mixed Try.func26 rfl rfl rfl (Nat.le_of_ble_eq_true rfl) rfl ?_; intro Γ C WK LP fin h0 hk0 hW hC hB hR hLP hfin
 (try (conv => whnf)); (repeat ((first | refine qT ?_ | refine qF ?_ | refine qO ?_ | (with_reducible intro z hz); (first | (replace hz := hz (by omega); subst hz) | subst hz)); (try (conv => whnf))))
 refine CallV.row _ _ _ (hR _ _ _ _ _ (PCRw.of (hC1))) (fun js hjs => ?_); subst hjs
 (try (conv => whnf)); (repeat ((first | refine qT ?_ | refine qF ?_ | refine qO ?_ | (with_reducible intro z hz); (first | (replace hz := hz (by omega); subst hz) | subst hz)); (try (conv => whnf))))
 refine CallV.row _ _ _ (hR _ _ _ _ _ (PCRw.of (hC2))) (fun js hjs => ?_); subst hjs
 (try (conv => whnf)); (repeat ((first | refine qT ?_ | refine qF ?_ | refine qO ?_ | (with_reducible intro z hz); (first | (replace hz := hz (by omega); subst hz) | subst hz)); (try (conv => whnf))))
 refine CallV.row _ _ _ (hR _ _ _ _ _ (PCRw.of (hC3))) (fun js hjs => ?_); subst hjs
 (try (conv => whnf)); (repeat ((first | refine qT ?_ | refine qF ?_ | refine qO ?_ | (with_reducible intro z hz); (first | (replace hz := hz (by omega); subst hz) | subst hz)); (try (conv => whnf))))
 refine hLP _ _ _ Nat (fun k => ⟨[(1, .ptr 1 1 0), (2, .ptr 2 1 0), (18, .row 5 1), (19, .imm (.int .i64 (u.kids.length : Nat))), (20, .imm (.int .i64 (k : Nat)))], [.dead 1, .box 1 [.imm (.int .i64 u.id.x), .imm (.int .i64 u.id.y), .imm (.int .i64 u.id.z), .imm (.int .i64 u.kind), .imm (.str u.label), .row 3 1, .row 4 1, .row 5 1], .box 1 [.imm (.int .i64 0), .imm (.int .i64 0), .imm (.int .i64 0), .imm (.int .i64 0), .imm (.str ⟨#[]⟩), .imm .nil, .imm .nil, .imm .nil], .row 55 4 1 ((u.head.map wdv).map .imm), .row 55 4 1 ((u.words.map wdv).map .imm), .row 27 8 1 ((u.kids.map uv).map .imm)]⟩) (fun k => k ≤ u.kids.length) (fun k => u.kids.length - k) 0 (Nat.zero_le _) (qSL 6 rfl rfl (hE := by (repeat ((conv => whnf); first | exact trivial | refine And.intro (by first | exact WkOne.any | exact WkOne.eq (by with_reducible rfl) rfl | exact WkOne.eq (congrArg (fun z => PV.imm (IV.int IntKind.i64 z)) (by first | omega | (simp [hml]; done) | (simp [hml]; omega))) rfl | exact WkOne.eq (by first | (simp [hml]; done) | fail) rfl | exact WkOne.eq rfl rfl | exact WkOne.le rfl (ILe.nil _)) ?_)))) ?_
 intro k hk
 have hho := Nat.lt_or_ge k u.kids.length
 cases hho with
 | inl hlt =>
   refine (?_ : ∀ Q : Exit → AS → Prop, vcS _ _ _ _ _ _ _ (loopQA _ _ _ _ _ _ Q)) _; intro Q
   obtain ⟨x, hx⟩ : ∃ x, u.kids[k]? = some x := ⟨u.kids[k], List.getElem?_eq_getElem hlt⟩
   have h1 := kid_lt' hx
   have hI := (clone_pc 1000 x (by omega) (hsb.kid (List.mem_of_getElem? hx))).pcb [.dead 1]
   have hux := uv_eq x
   have hst : ((u.kids.map uv).map PV.imm).set k (.imm (uv x)) = (u.kids.map uv).map PV.imm := set_id (by rw [List.getElem?_map, List.getElem?_map, hx]; rfl)
   rw [hux] at hI hst
   (try (conv => whnf)); (repeat ((first | refine qT ?_ | refine qF ?_ | refine qO ?_ | (with_reducible intro z hz); (first | (replace hz := hz (by omega); subst hz) | subst hz)); (try (conv => whnf))))
   refine Pos.mk k rfl (by omega) ?_
   (try (conv => whnf)); (repeat ((first | refine qT ?_ | refine qF ?_ | refine qO ?_ | (with_reducible intro z hz); (first | (replace hz := hz (by omega); subst hz) | subst hz)); (try (conv => whnf))))
   refine At.mk (.imm (uv x)) (by rw [List.getElem?_map, List.getElem?_map, hx]; rfl) ?_
   rw [hux]
   (try (conv => whnf)); (repeat ((first | refine qT ?_ | refine qF ?_ | refine qO ?_ | (with_reducible intro z hz); (first | (replace hz := hz (by omega); subst hz) | subst hz)); (try (conv => whnf))))
   refine CallB.mk ([.imm (.agg [.int .i64 x.id.x, .int .i64 x.id.y, .int .i64 x.id.z, .int .i64 x.kind, .str x.label, .sl 4 (x.head.map wdv), .sl 4 (x.words.map wdv), .sl 8 (x.kids.map uv)])]) ([.dead 1]) (hB _ _ _ _ _ (hI)) ?_
   (try (conv => whnf)); (repeat ((first | refine qT ?_ | refine qF ?_ | refine qO ?_ | (with_reducible intro z hz); (first | (replace hz := hz (by omega); subst hz) | subst hz)); (try (conv => whnf))))
   refine Pos.mk k rfl (by omega) ?_
   (try (conv => whnf)); (repeat ((first | refine qT ?_ | refine qF ?_ | refine qO ?_ | (with_reducible intro z hz); (first | (replace hz := hz (by omega); subst hz) | subst hz)); (try (conv => whnf))))
   refine At.mk (.imm (uv x)) (by rw [List.getElem?_map, List.getElem?_map, hx]; rfl) ?_
   rw [hux]
   (try (conv => whnf)); (repeat ((first | refine qT ?_ | refine qF ?_ | refine qO ?_ | (with_reducible intro z hz); (first | (replace hz := hz (by omega); subst hz) | subst hz)); (try (conv => whnf))))
   exact ⟨k + 1, by omega, by dsimp only; omega, ((WeakA.row 5 (((u.kids.map uv).map .imm)) rfl (by exact hst))).trans (qSL 6 rfl rfl)⟩
 | inr hge =>
   obtain rfl : k = u.kids.length := by omega
   (try (conv => whnf)); (repeat ((first | refine qT ?_ | refine qF ?_ | refine qO ?_ | (with_reducible intro z hz); (first | (replace hz := hz (by omega); subst hz) | subst hz)); (try (conv => whnf))))
   exact hfin _ (((WeakA.frozen 3 (u.head.map wdv) rfl (by first | rfl | simp) (ILe.refl _) (by repeat (first | exact trivial | refine And.intro (fzL_imm _ _ _ _) ?_ | refine And.intro rfl ?_)))).trans (((WeakA.frozen 4 (u.words.map wdv) rfl (by first | rfl | simp) (ILe.refl _) (by repeat (first | exact trivial | refine And.intro (fzL_imm _ _ _ _) ?_ | refine And.intro rfl ?_)))).trans (((WeakA.adopt 0 5 2 (by decide) rfl rfl (by rw [h0]; exact Nat.le_of_ble_eq_true rfl) (by first | omega | (intro _; rw [hk0 _ _ rfl]; exact Nat.le_of_ble_eq_true rfl)) (by repeat (first | exact trivial | refine And.intro (mvL_imms _ _ _ _ _) ?_ | refine And.intro rfl ?_)))).trans (qSL 1 rfl rfl))))
end Go.Proofs.Ytdkalehijilchaa.Pb
namespace Go.Proofs.Ytdkalehijilchaa.Pb
open Go Go.Pv Go.RowKit
set_option linter.unusedSimpArgs false
open Lab Lcs Go.Proofs.Ytdkalehijilchaa Go.Proofs.Ytdkalehijilchaa.Pu Go.Proofs.Ytdkalehijilchaa.Pt
set_option maxRecDepth 10000
set_option maxHeartbeats 16000000
theorem below_set {m : Nat} {p : PV} : ∀ {l : List PV} {k : Nat}, belowL m l = true → belowB m p = true → belowL m (l.set k p) = true
 | [], _, h, _ => h
 | a :: l, 0, h, hp => by
   simp only [belowL, Bool.and_eq_true] at h
   simp only [List.set_cons_zero, belowL, hp, h.2, Bool.and_self]
 | a :: l, k + 1, h, hp => by
   simp only [belowL, Bool.and_eq_true] at h
   simp only [List.set_cons_succ, belowL, h.1, below_set h.2 hp, Bool.and_self]
theorem clone2_pcb (u : Ut) (hsb : Smb u) (hN : u.count ≤ 1000) (i : Nat) (x : Ut) (hx : u.kids[i]? = some x) : PCB Try.prog env0 26 [.imm (uv u)] [.dead 1, .dead 1] [ownU u 0 2] [.row 27 8 2 (((u.kids.map uv).map PV.imm).set i (ownU x 1 2)), .row 27 8 2 ((x.kids.map uv).map .imm)] := by
 have hue := uv_eq u
 obtain ⟨b1, b2, b3⟩ := hsb u (all_self u)
 have hC1 := cloneW_pcr (X := env0) (u.head.map wdv) (by rw [List.length_map]; omega)
 have hC2 := cloneW_pcr (X := env0) (u.words.map wdv) (by rw [List.length_map]; omega)
 have hC3 := cloneU_pcr (X := env0) (u.kids.map uv) (by rw [List.length_map]; omega)
 have hml : (((u.kids.map uv).map PV.imm)).length = u.kids.length := by simp
 have hml2 : (((u.kids.map uv).map PV.imm).set i (ownU x 8 1)).length = u.kids.length := by simp
 have hi := (List.getElem?_eq_some_iff.1 hx).1
 have hbl9 : belowL 9 (((u.kids.map uv).map PV.imm).set i (ownU x 8 1)) = true := below_set (belowL_imm _ _) (by rfl)
 have hbl2 : belowL 2 (((u.kids.map uv).map PV.imm).set i (ownU x 1 2)) = true := below_set (belowL_imm _ _) (by rfl)
 have hxc := kid_lt' hx
 have hX := clone1_pcb x (hsb.kid (List.mem_of_getElem? hx)) (by omega)
 have hux := uv_eq x
 rw [hux] at hX
 rw [hue]
 refine PCB.of_va (T := tbC) eqs_ok tbC_ok rfl mixed Try.func26 rfl rfl rfl (Nat.le_of_ble_eq_true rfl) rfl ?_; intro Γ C WK LP fin h0 hk0 hW hC hB hR hLP hfin
 (try (conv => whnf)); (repeat ((first | refine qT ?_ | refine qF ?_ | refine qO ?_ | (with_reducible intro z hz); (first | (replace hz := hz (by omega); subst hz) | subst hz)); (try (conv => whnf))))
 refine CallV.row _ _ _ (hR _ _ _ _ _ (PCRw.of (hC1))) (fun js hjs => ?_); subst hjs
 (try (conv => whnf)); (repeat ((first | refine qT ?_ | refine qF ?_ | refine qO ?_ | (with_reducible intro z hz); (first | (replace hz := hz (by omega); subst hz) | subst hz)); (try (conv => whnf))))
 refine CallV.row _ _ _ (hR _ _ _ _ _ (PCRw.of (hC2))) (fun js hjs => ?_); subst hjs
 (try (conv => whnf)); (repeat ((first | refine qT ?_ | refine qF ?_ | refine qO ?_ | (with_reducible intro z hz); (first | (replace hz := hz (by omega); subst hz) | subst hz)); (try (conv => whnf))))
 refine CallV.row _ _ _ (hR _ _ _ _ _ (PCRw.of (hC3))) (fun js hjs => ?_); subst hjs
 (try (conv => whnf)); (repeat ((first | refine qT ?_ | refine qF ?_ | refine qO ?_ | (with_reducible intro z hz); (first | (replace hz := hz (by omega); subst hz) | subst hz)); (try (conv => whnf))))
 refine hLP _ _ _ (Nat ⊕ Nat) (fun s => match s with | .inl k => ⟨[(1, .ptr 2 1 0), (2, .ptr 3 1 0), (18, .row 6 1), (19, .imm (.int .i64 (u.kids.length : Nat))), (20, .imm (.int .i64 (k : Nat)))], [.dead 1, .dead 1, .box 1 [.imm (.int .i64 u.id.x), .imm (.int .i64 u.id.y), .imm (.int .i64 u.id.z), .imm (.int .i64 u.kind), .imm (.str u.label), .row 4 1, .row 5 1, .row 6 1], .box 1 [.imm (.int .i64 0), .imm (.int .i64 0), .imm (.int .i64 0), .imm (.int .i64 0), .imm (.str ⟨#[]⟩), .imm .nil, .imm .nil, .imm .nil], .row 55 4 1 ((u.head.map wdv).map .imm), .row 55 4 1 ((u.words.map wdv).map .imm), .row 27 8 1 ((u.kids.map uv).map PV.imm)]⟩ | .inr k => ⟨[(1, .ptr 2 1 0), (2, .ptr 3 1 0), (18, .row 6 1), (19, .imm (.int .i64 (u.kids.length : Nat))), (20, .imm (.int .i64 (k : Nat)))], [.dead 1, .dead 1, .box 1 [.imm (.int .i64 u.id.x), .imm (.int .i64 u.id.y), .imm (.int .i64 u.id.z), .imm (.int .i64 u.kind), .imm (.str u.label), .row 4 1, .row 5 1, .row 6 1], .box 1 [.imm (.int .i64 0), .imm (.int .i64 0), .imm (.int .i64 0), .imm (.int .i64 0), .imm (.str ⟨#[]⟩), .imm .nil, .imm .nil, .imm .nil], .row 55 4 1 ((u.head.map wdv).map .imm), .row 55 4 1 ((u.words.map wdv).map .imm), .row 27 8 1 (((u.kids.map uv).map PV.imm).set i (ownU x 8 1)), .box 1 [.imm (.int .i64 x.id.x), .imm (.int .i64 x.id.y), .imm (.int .i64 x.id.z), .imm (.int .i64 x.kind), .imm (.str x.label), .imm (.sl 4 (x.head.map wdv)), .imm (.sl 4 (x.words.map wdv)), .imm (.sl 8 (x.kids.map uv))], .row 27 8 1 ((x.kids.map uv).map .imm)]⟩) (fun s => match s with | .inl k => k ≤ i | .inr k => i < k ∧ k ≤ u.kids.length) (fun s => match s with | .inl k => u.kids.length - k | .inr k => u.kids.length - k) (.inl 0) (Nat.zero_le _) (qSL 7 rfl rfl (hE := by (repeat ((conv => whnf); first | exact trivial | refine And.intro (by first | exact WkOne.any | exact WkOne.eq (by with_reducible rfl) rfl | exact WkOne.eq (congrArg (fun z => PV.imm (IV.int IntKind.i64 z)) (by first | omega | (simp [hml]; done) | (simp [hml]; omega))) rfl | exact WkOne.eq (by first | (simp [hml]; done) | fail) rfl | exact WkOne.eq rfl rfl | exact WkOne.le rfl (ILe.nil _)) ?_)))) ?_
 rintro (k | k) hk
 · dsimp only at hk ⊢
   refine (?_ : ∀ Q : Exit → AS → Prop, vcS _ _ _ _ _ _ _ (loopQA _ _ _ _ _ _ Q)) _; intro Q
   obtain ⟨y, hy⟩ : ∃ y, u.kids[k]? = some y := ⟨u.kids[k]'(by omega), List.getElem?_eq_getElem (by omega)⟩
   have h1 := kid_lt' hy
   have huy := uv_eq y
   have hst : ((u.kids.map uv).map PV.imm).set k (.imm (uv y)) = ((u.kids.map uv).map PV.imm) := set_id (by rw [List.getElem?_map, List.getElem?_map, hy]; rfl)
   have hho := Nat.lt_or_ge k i
   cases hho with
   | inl hlt =>
     have hI := (clone_pc 1000 y (by omega) (hsb.kid (List.mem_of_getElem? hy))).pcb [.dead 1]
     rw [huy] at hI hst
     (try (conv => whnf)); (repeat ((first | refine qT ?_ | refine qF ?_ | refine qO ?_ | (with_reducible intro z hz); (first | (replace hz := hz (by omega); subst hz) | subst hz)); (try (conv => whnf))))
     refine Pos.mk k rfl (by omega) ?_
     (try (conv => whnf)); (repeat ((first | refine qT ?_ | refine qF ?_ | refine qO ?_ | (with_reducible intro z hz); (first | (replace hz := hz (by omega); subst hz) | subst hz)); (try (conv => whnf))))
     refine At.mk (.imm (uv y)) (by rw [List.getElem?_map, List.getElem?_map, hy]; rfl) ?_
     rw [huy]
     (try (conv => whnf)); (repeat ((first | refine qT ?_ | refine qF ?_ | refine qO ?_ | (with_reducible intro z hz); (first | (replace hz := hz (by omega); subst hz) | subst hz)); (try (conv => whnf))))
     refine CallB.mk ([.imm (.agg [.int .i64 y.id.x, .int .i64 y.id.y, .int .i64 y.id.z, .int .i64 y.kind, .str y.label, .sl 4 (y.head.map wdv), .sl 4 (y.words.map wdv), .sl 8 (y.kids.map uv)])]) ([.dead 1]) (hB _ _ _ _ _ (hI)) ?_
     (try (conv => whnf)); (repeat ((first | refine qT ?_ | refine qF ?_ | refine qO ?_ | (with_reducible intro z hz); (first | (replace hz := hz (by omega); subst hz) | subst hz)); (try (conv => whnf))))
     refine Pos.mk k rfl (by omega) ?_
     (try (conv => whnf)); (repeat ((first | refine qT ?_ | refine qF ?_ | refine qO ?_ | (with_reducible intro z hz); (first | (replace hz := hz (by omega); subst hz) | subst hz)); (try (conv => whnf))))
     refine At.mk (.imm (uv y)) (by rw [List.getElem?_map, List.getElem?_map, hy]; rfl) ?_
     rw [huy]
     (try (conv => whnf)); (repeat ((first | refine qT ?_ | refine qF ?_ | refine qO ?_ | (with_reducible intro z hz); (first | (replace hz := hz (by omega); subst hz) | subst hz)); (try (conv => whnf))))
     exact ⟨.inl (k + 1), by dsimp only; omega, by dsimp only; omega, ((WeakA.row 6 (((u.kids.map uv).map PV.imm)) rfl (by exact hst))).trans (qSL 7 rfl rfl)⟩
   | inr hge =>
     obtain rfl : k = i := by omega
     obtain rfl : x = y := Option.some.inj (hx.symm.trans hy)
     (try (conv => whnf)); (repeat ((first | refine qT ?_ | refine qF ?_ | refine qO ?_ | (with_reducible intro z hz); (first | (replace hz := hz (by omega); subst hz) | subst hz)); (try (conv => whnf))))
     refine Pos.mk k rfl (by omega) ?_
     (try (conv => whnf)); (repeat ((first | refine qT ?_ | refine qF ?_ | refine qO ?_ | (with_reducible intro z hz); (first | (replace hz := hz (by omega); subst hz) | subst hz)); (try (conv => whnf))))
     refine At.mk (.imm (uv x)) (by rw [List.getElem?_map, List.getElem?_map, hy]; rfl) ?_
     rw [hux]
     (try (conv => whnf)); (repeat ((first | refine qT ?_ | refine qF ?_ | refine qO ?_ | (with_reducible intro z hz); (first | (replace hz := hz (by omega); subst hz) | subst hz)); (try (conv => whnf))))
     refine CallB.mk ([ownU x 0 2]) ([.row 27 8 2 (x.kids.map uv)]) (hB _ _ _ _ _ (hX)) ?_
     (try (conv => whnf)); (repeat ((first | refine qT ?_ | refine qF ?_ | refine qO ?_ | (with_reducible intro z hz); (first | (replace hz := hz (by omega); subst hz) | subst hz)); (try (conv => whnf))))
     refine Pos.mk k rfl (by omega) ?_
     (try (conv => whnf)); (repeat ((first | refine qT ?_ | refine qF ?_ | refine qO ?_ | (with_reducible intro z hz); (first | (replace hz := hz (by omega); subst hz) | subst hz)); (try (conv => whnf))))
     refine At.mk (.imm (uv x)) (by rw [List.getElem?_map, List.getElem?_map, hy]; rfl) ?_
     rw [hux]
     (try (conv => whnf)); (repeat ((first | refine qT ?_ | refine qF ?_ | refine qO ?_ | (with_reducible intro z hz); (first | (replace hz := hz (by omega); subst hz) | subst hz)); (try (conv => whnf))))
     exact ⟨.inr (k + 1), ⟨by omega, by omega⟩, by dsimp only; omega, ((WeakA.row 6 ((((u.kids.map uv).map PV.imm).set k (ownU x 8 1))) rfl (by rfl))).trans (qSL 9 rfl rfl (hbl := by simp only [List.all_cons, List.all_nil, blkBelow, belowL_imm, hbl9, belowL, belowB, Bool.and_true, Bool.true_and]; first | done | decide))⟩
 · obtain ⟨hk1, hk2⟩ := hk
   dsimp only
   have hho := Nat.lt_or_ge k u.kids.length
   cases hho with
   | inl hlt =>
     refine (?_ : ∀ Q : Exit → AS → Prop, vcS _ _ _ _ _ _ _ (loopQA _ _ _ _ _ _ Q)) _; intro Q
     obtain ⟨y, hy⟩ : ∃ y, u.kids[k]? = some y := ⟨u.kids[k], List.getElem?_eq_getElem hlt⟩
     have h1 := kid_lt' hy
     have huy := uv_eq y
     have hat : (((u.kids.map uv).map PV.imm).set i (ownU x 8 1))[k]? = some (.imm (uv y)) := by
       rw [List.getElem?_set_ne (by omega), List.getElem?_map, List.getElem?_map, hy]; rfl
     have hst := set_id hat
     have hI := (clone_pc 1000 y (by omega) (hsb.kid (List.mem_of_getElem? hy))).pcb [.dead 1]
     rw [huy] at hI
     rw [huy] at hst
     (try (conv => whnf)); (repeat ((first | refine qT ?_ | refine qF ?_ | refine qO ?_ | (with_reducible intro z hz); (first | (replace hz := hz (by omega); subst hz) | subst hz)); (try (conv => whnf))))
     refine Pos.mk k rfl (by omega) ?_
     (try (conv => whnf)); (repeat ((first | refine qT ?_ | refine qF ?_ | refine qO ?_ | (with_reducible intro z hz); (first | (replace hz := hz (by omega); subst hz) | subst hz)); (try (conv => whnf))))
     refine At.mk (.imm (uv y)) hat ?_
     rw [huy]
     (try (conv => whnf)); (repeat ((first | refine qT ?_ | refine qF ?_ | refine qO ?_ | (with_reducible intro z hz); (first | (replace hz := hz (by omega); subst hz) | subst hz)); (try (conv => whnf))))
     refine CallB.mk ([.imm (.agg [.int .i64 y.id.x, .int .i64 y.id.y, .int .i64 y.id.z, .int .i64 y.kind, .str y.label, .sl 4 (y.head.map wdv), .sl 4 (y.words.map wdv), .sl 8 (y.kids.map uv)])]) ([.dead 1]) (hB _ _ _ _ _ (hI)) ?_
     (try (conv => whnf)); (repeat ((first | refine qT ?_ | refine qF ?_ | refine qO ?_ | (with_reducible intro z hz); (first | (replace hz := hz (by omega); subst hz) | subst hz)); (try (conv => whnf))))
     refine Pos.mk k rfl (by omega) ?_
     (try (conv => whnf)); (repeat ((first | refine qT ?_ | refine qF ?_ | refine qO ?_ | (with_reducible intro z hz); (first | (replace hz := hz (by omega); subst hz) | subst hz)); (try (conv => whnf))))
     refine At.mk (.imm (uv y)) hat ?_
     rw [huy]
     (try (conv => whnf)); (repeat ((first | refine qT ?_ | refine qF ?_ | refine qO ?_ | (with_reducible intro z hz); (first | (replace hz := hz (by omega); subst hz) | subst hz)); (try (conv => whnf))))
     exact ⟨.inr (k + 1), ⟨by omega, by omega⟩, by dsimp only; omega, ((WeakA.row 6 ((((u.kids.map uv).map PV.imm).set i (ownU x 8 1))) rfl (by exact hst))).trans (qSL 9 rfl rfl (hbl := by simp only [List.all_cons, List.all_nil, blkBelow, belowL_imm, hbl9, belowL, belowB, Bool.and_true, Bool.true_and]; first | done | decide))⟩
   | inr hge =>
     obtain rfl : k = u.kids.length := by omega
     (try (conv => whnf)); (repeat ((first | refine qT ?_ | refine qF ?_ | refine qO ?_ | (with_reducible intro z hz); (first | (replace hz := hz (by omega); subst hz) | subst hz)); (try (conv => whnf))))
     exact hfin _ ((WeakA.frz 4 (u.head.map wdv) rfl rfl (ILe.refl _)).trans (((WeakA.row 5 (((u.words.map wdv).map .imm)) rfl (by rw [fzL_imm]))).trans ((WeakA.frz 5 (u.words.map wdv) rfl rfl (ILe.refl _)).trans ((adoptGA 1 8 2 (by decide) rfl rfl (by rw [h0]; exact Nat.le_of_ble_eq_true rfl) (by first | omega | (intro _; rw [hk0 _ _ rfl]; exact Nat.le_of_ble_eq_true rfl))).trans ((adoptGA 0 6 2 (by decide) rfl rfl (by rw [h0]; exact Nat.le_of_ble_eq_true rfl) (by first | omega | (intro _; rw [hk0 _ _ rfl]; exact Nat.le_of_ble_eq_true rfl))).trans (((WeakA.row 0 ((((u.kids.map uv).map PV.imm).set i (ownU x 1 2))) rfl (by rw [fzL_set, fzL_imm, fzL_set, fzL_imm, mvL_set, mvL_imms, mvL_set, mvL_imms]; congr 1))).trans (((WeakA.row 1 (((x.kids.map uv).map .imm)) rfl (by rw [fzL_imm, fzL_imm, mvL_imms, mvL_imms]))).trans (qSL 2 rfl rfl (hbl := by simp only [List.all_cons, List.all_nil, blkBelow, belowL_imm, hbl2, belowL, belowB, Bool.and_true, Bool.true_and]; first | done | decide)))))))))
end Go.Proofs.Ytdkalehijilchaa.Pb
namespace Go.Proofs.Ytdkalehijilchaa.Pb
open Go Go.Pv Go.RowKit
set_option linter.unusedSimpArgs false
open Lab Lcs Go.Proofs.Ytdkalehijilchaa Go.Proofs.Ytdkalehijilchaa.Pu Go.Proofs.Ytdkalehijilchaa.Pt
set_option maxRecDepth 10000
set_option maxHeartbeats 16000000
def zeroU : Ut := .mk ⟨0, 0, 0⟩ 0 ⟨#[]⟩ [] [] []
theorem zero_le : ILe (.agg [.int .i64 0, .int .i64 0, .int .i64 0, .int .i64 0, .str ⟨#[]⟩, .nil, .nil, .nil]) (uv zeroU) := by
 unfold zeroU
 rw [uv_mk]
 exact ILes.agg (.cons (.refl _) (.cons (.refl _) (.cons (.refl _) (.cons (.refl _) (.cons (.refl _) (.cons (.nil 4) (.cons (.nil 4) (.cons (.nil 8) (.refl _)))))))))
theorem pc2 {P : Program} {X : Env} {f : FuncId} {args : List IV} {r1 r2 : IV} {g : Nat} (h : PCB P X f (args.map .imm) [.dead 77] [.imm r1, .imm r2] [.dead g]) : PC P X f args [r1, r2] := by
 refine ⟨h.1, fun Q w vs hQ hgl hR hvs => ?_⟩
 let k : K := ⟨fun _ => undef, fun _ => 77, Q⟩
 let Γ : Ctx := ⟨w.heap.size, w, X, Q, fun _ => none, fun _ => False, w, k, 0⟩
 have hat : ∀ (r : Nat) (x : Blk), [Blk.dead 77][r]? = some x → x = .dead 77 := fun r x hx => by
   have := List.mem_of_getElem? hx
   simpa using this
 have hI : Inv Γ k [.dead 77] w := ⟨Below.refl _ _, hQ, Nat.le_refl _, fun b hb => Or.inl hb, ⟨w, hR, Nat.le_refl _, Below.refl _ _⟩, fun g cs hc => iptr_any (k := k) (n := 0) rfl (hgl g cs hc), fun r x hx => by (rw [hat r x hx]; rfl), fun r x b hx ho => (by rw [hat r x hx] at ho; cases ho), fun r r' x x' b hx _ ho => (by rw [hat r x hx] at ho; cases ho), ⟨fun b hb => hb.elim, ⟨Nat.zero_le _, fun b hb => ⟨hb, rfl⟩, fun r hr => absurd hr (Nat.not_lt_zero _)⟩⟩, fun r x b hx ho => (by rw [hat r x hx] at ho; cases ho)⟩
 refine (h.2.2 Γ k w vs rfl hI (imms_reps hvs)).mono ?_
 rintro e w' ⟨v, k', rfl, hE, hI', hr⟩
 refine ⟨v, fun b => Q b ∨ (w.heap.size ≤ b ∧ b < w'.heap.size), rfl, hI'.below, fun b hb => Or.inl hb, fun b hb => ?_, ?_⟩
 · rcases hb with hb | ⟨h6, h7⟩
   · exact ⟨Or.inl hb, Nat.lt_of_lt_of_le (hQ b hb) hI'.below.size⟩
   · exact ⟨Or.inr h6, h7⟩
 · have h5 : RepRes k'.Q w' [r1, r2] v := by
     unfold resQ Rep at hr
     obtain ⟨ts, e1, h6⟩ := hr
     exact ⟨ts, e1, reps_imms (is := [r1, r2]) h6⟩
   refine RepRes_mono (fun b hb => ⟨?_, rfl⟩) h5
   rcases hI'.qs b hb with hc | hc
   · exact Or.inl hc
   · exact Or.inr ⟨hc, hI'.lt b hb⟩
theorem ite_go {c A B : Prop} [Decidable c] (h : c) (k : A) : if c then A else B := by rw [if_pos h]; exact k
theorem cur_set {n : Nat} {G : Nat → Nat} {p : PV} : ∀ {l : List PV} {k : Nat}, curL n G l = true → cur n G p = true → curL n G (l.set k p) = true
 | [], _, h, _ => h
 | a :: l, 0, h, hp => by
   simp only [curL, Bool.and_eq_true] at h
   simp only [List.set_cons_zero, curL, hp, h.2, Bool.and_self]
 | a :: l, k + 1, h, hp => by
   simp only [curL, Bool.and_eq_true] at h
   simp only [List.set_cons_succ, curL, h.1, cur_set h.2 hp, Bool.and_self]
theorem upL_map (f g : Nat → Nat) : ∀ l : List PV, upL f g l = l.map (up f g)
 | [] => by simp [upL]
 | a :: l => by simp [upL, upL_map f g l]
theorem upL_set (f g : Nat → Nat) (l : List PV) (k : Nat) (p : PV) : upL f g (l.set k p) = (upL f g l).set k (up f g p) := by
 rw [upL_map, upL_map, List.map_set]
def nwS (f : FuncId) : Nat := bif Nat.beq f 26 then 3 else 0
def tbS : Tb := ⟨Pv.look tdl, eqs, fun _ => none, fun _ => [], fun _ => false, nwS⟩
theorem tbS_ok : ∀ t d, tbS.td t = some d → tdOf Try.prog t = some d := Pv.look_ok tdl_ok
def putW (y : Ut) (l : List Wd) : Ut := .mk y.id y.kind y.label y.head l y.kids
def putK (x : Ut) (j : Nat) (y : Ut) : Ut := .mk x.id x.kind x.label x.head x.words (x.kids.set j y)
theorem set_pcb (t : Ut) (hsk : Smk t) (hsb : Smb t) (hN : t.count ≤ 1000) (i j : Nat) (x y : Ut) (hx : t.kids[i]? = some x) (hy : x.kids[j]? = some y) (hb : hasB t (i : Int) (j : Int) = true) (l : List Wd) (hl : l.length ≤ 256) :
   PCB Try.prog env0 9 [.imm (uv t), .imm (.int .i64 (i : Nat)), .imm (.int .i64 (j : Nat)), .imm (.sl 4 (l.map wdv))] [.dead 77] [.imm (uv (putK t i (putK x j (putW y l)))), .imm (.bool true)] [.dead 78] := by
 have hte := uv_eq t
 have hH := has_pk t hsk (i : Int) (j : Int)
 rw [hb] at hH
 have hX := clone2_pcb t hsb hN i x hx
 have hCl := cloneW_pcr (X := env0) (l.map wdv) (by rw [List.length_map]; omega)
 have hll : (l.map wdv).length = l.length := List.length_map _
 have hil := (List.getElem?_eq_some_iff.1 hx).1
 have hjl := (List.getElem?_eq_some_iff.1 hy).1
 have hye := uv_eq y
 have hpe : uv (putK t i (putK x j (putW y l))) = .agg [.int .i64 t.id.x, .int .i64 t.id.y, .int .i64 t.id.z, .int .i64 t.kind, .str t.label, .sl 4 (t.head.map wdv), .sl 4 (t.words.map wdv), .sl 8 ((t.kids.set i (putK x j (putW y l))).map uv)] := uv_mk _ _ _ _ _ _
 have hpx : uv (putK x j (putW y l)) = .agg [.int .i64 x.id.x, .int .i64 x.id.y, .int .i64 x.id.z, .int .i64 x.kind, .str x.label, .sl 4 (x.head.map wdv), .sl 4 (x.words.map wdv), .sl 8 ((x.kids.set j (putW y l)).map uv)] := uv_mk _ _ _ _ _ _
 have hpy : uv (putW y l) = .agg [.int .i64 y.id.x, .int .i64 y.id.y, .int .i64 y.id.z, .int .i64 y.kind, .str y.label, .sl 4 (y.head.map wdv), .sl 4 (l.map wdv), .sl 8 (y.kids.map uv)] := uv_mk _ _ _ _ _ _
 rw [hpe]
 rw [hte] at hH hX ⊢
 refine PCB.of_va (T := tbS) eqs_ok tbS_ok rfl mixed Try.func9 rfl rfl rfl (Nat.le_of_ble_eq_true rfl) rfl ?_; intro Γ C WK LP fin h0 hk0 hW hC hB hR hLP hfin
 (try (conv => whnf)); (repeat ((first | refine qT ?_ | refine qF ?_ | refine qO ?_ | (with_reducible intro z hz); (first | (replace hz := hz (by omega); subst hz) | subst hz) | (refine CallV.mk _ (hC _ _ _ (PCw.of hH)) (fun js hjs => ?_); subst hjs)); (try (conv => whnf))))
 refine CallB.mk ([ownU t 0 2]) ([.nest 27 8 2 (((t.kids.map uv).map PV.imm).set i (ownU x 1 2)), .row 27 8 2 (x.kids.map uv)]) (hB _ _ _ _ _ (hX)) ?_
 refine ite_go ⟨rfl, rfl, rfl, by unfold curC; rw [Bool.and_eq_true]; exact ⟨cur_set (curL_imms _ _ _) rfl, rfl⟩⟩ ?_
 (try (conv => whnf)); (repeat ((first | refine qT ?_ | refine qF ?_ | refine qO ?_ | (with_reducible intro z hz); (first | (replace hz := hz (by omega); subst hz) | subst hz)); (try (conv => whnf))))
 refine Pos.mk i rfl (by rw [upL_len, List.length_set, List.length_map, List.length_map]; omega) ?_
 (try (conv => whnf)); (repeat ((first | refine qT ?_ | refine qF ?_ | refine qO ?_ | (with_reducible intro z hz); (first | (replace hz := hz (by omega); subst hz) | subst hz)); (try (conv => whnf))))
 refine At.mk (ownU x 0 78) (by rw [upL_set, upL_imms, List.getElem?_set_self (by rw [List.length_map, List.length_map]; omega)]; rfl) ?_
 (try (conv => whnf)); (repeat ((first | refine qT ?_ | refine qF ?_ | refine qO ?_ | (with_reducible intro z hz); (first | (replace hz := hz (by omega); subst hz) | subst hz)); (try (conv => whnf))))
 refine CallV.row _ _ _ (hR _ _ _ _ _ (PCRw.of (hCl))) (fun js hjs => ?_); subst hjs
 (try (conv => whnf)); (repeat ((first | refine qT ?_ | refine qF ?_ | refine qO ?_ | (with_reducible intro z hz); (first | (replace hz := hz (by omega); subst hz) | subst hz)); (try (conv => whnf))))
 refine Pos.mk j rfl (by rw [List.length_map, List.length_map]; omega) ?_
 (try (conv => whnf)); (repeat ((first | refine qT ?_ | refine qF ?_ | refine qO ?_ | (with_reducible intro z hz); (first | (replace hz := hz (by omega); subst hz) | subst hz)); (try (conv => whnf))))
 refine At.mk (.imm (uv y)) (by rw [List.getElem?_map, List.getElem?_map, hy]; rfl) ?_
 rw [hye]
 (try (conv => whnf)); (repeat ((first | refine qT ?_ | refine qF ?_ | refine qO ?_ | (with_reducible intro z hz); (first | (replace hz := hz (by omega); subst hz) | subst hz)); (try (conv => whnf))))
 exact hfin _ (((WeakA.row 4 ((((t.kids.map uv).map PV.imm).set i (ownU x 0 78))) rfl (by rw [upL_set, upL_imms]; rfl))).trans (((WeakA.row 0 ((((x.kids.map uv).map PV.imm).set j (PV.agg [.imm (.int .i64 y.id.x), .imm (.int .i64 y.id.y), .imm (.int .i64 y.id.z), .imm (.int .i64 y.kind), .imm (.str y.label), .imm (.sl 4 (y.head.map wdv)), .row 6 1, .imm (.sl 8 (y.kids.map uv))]))) rfl (by rfl))).trans ((WeakA.frz 6 (l.map wdv) rfl rfl (ILe.refl _)).trans (((WeakA.row 0 ((((x.kids.set j (putW y l)).map uv).map .imm)) rfl (by rw [fzL_set, fzL_imm, List.map_set, List.map_set, hpy]; rfl))).trans (((WeakA.row 4 ((((t.kids.map uv).map PV.imm).set i (ownU x 0 78))) rfl (by rw [fzL_set, fzL_imm]; rfl))).trans ((WeakA.frz 0 ((x.kids.set j (putW y l)).map uv) rfl rfl (ILe.refl _)).trans (((WeakA.row 4 ((((t.kids.set i (putK x j (putW y l))).map uv).map .imm)) rfl (by rw [fzL_set, fzL_imm]; simp only [List.map_set, hpx]; rfl))).trans ((WeakA.frz 4 ((t.kids.set i (putK x j (putW y l))).map uv) rfl rfl (ILe.refl _)).trans (qSL 1 rfl rfl)))))))))
end Go.Proofs.Ytdkalehijilchaa.Pb
