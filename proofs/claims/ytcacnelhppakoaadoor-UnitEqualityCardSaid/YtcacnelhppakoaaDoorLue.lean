/-
  UnitEquality.
-/
import Derived.Deep.RegionHeld3
import Derived.Test.YtcacnelhppakoaaDoorFew
import Derived.Test.YtcacnelhppakoaaDoorRst
import Derived.Test.YtcacnelhppakoaaDoorEq
namespace Go.Proofs.YtcacnelhppakoaaDoor
open Go.RowKit (wrap32 wrap64 intOf Hid Below)
open Lab Lcs

theorem bare_bare (l : List Wd) : bareW (bareW l) = bareW l := by
  unfold bareW
  rw [List.map_map]
  rfl
mutual
theorem strip_strip : ∀ u : Ut, u.strip.strip = u.strip
  | .mk id kind label head words kids => by
    rw [strip_mk, strip_mk, bare_bare, bare_bare, strips_strips kids]
theorem strips_strips : ∀ l : List Ut, Ut.strips (Ut.strips l) = Ut.strips l
  | [] => rfl
  | u :: r => by
    rw [Ut.strips, Ut.strips, strip_strip u, strips_strips r]
end
theorem wd_bare_tame (l : List Wd) : (bareW l).length = l.length := by simp [bareW]
mutual
theorem strip_all : ∀ u : Ut, u.strip.all = u.all.map Ut.strip
  | .mk id kind label head words kids => by
    rw [strip_mk, all_mk, all_mk, List.map_cons, strip_mk, strips_all kids]
theorem strips_all : ∀ l : List Ut, Ut.alls (Ut.strips l) = (Ut.alls l).map Ut.strip
  | [] => rfl
  | u :: r => by
    rw [Ut.strips, Ut.alls, Ut.alls, strip_all u, strips_all r, List.map_append]
end
mutual
theorem strip_count : ∀ u : Ut, u.strip.count = u.count
  | .mk id kind label head words kids => by
    rw [strip_mk, count_mk, count_mk, strips_count kids]
theorem strips_count : ∀ l : List Ut, Ut.counts (Ut.strips l) = Ut.counts l
  | [] => rfl
  | u :: r => by
    rw [Ut.strips, Ut.counts, Ut.counts, strip_count u, strips_count r]
end
theorem strip_tame {u : Ut} (h : Tame u) : Tame u.strip := by
  refine ⟨by rw [strip_count]; exact h.1, fun x hx => ?_⟩
  rw [strip_all] at hx
  obtain ⟨y, hy, rfl⟩ := List.mem_map.1 hx
  obtain ⟨h1, h2, h3⟩ := h.2 y hy
  cases y with
  | mk id kind label head words kids =>
    rw [strip_mk]
    refine ⟨h1, ?_, ?_⟩
    · show (bareW head).length ≤ _
      rw [wd_bare_tame]; exact h2
    · show (bareW words).length ≤ _
      rw [wd_bare_tame]; exact h3
set_option maxHeartbeats 4000000 in
set_option maxRecDepth 100000 in
theorem lawEquality {w : World} (u : Ut) (v : Value) (hV : UtV w u v) (u2 : Ut) (v2 : Value) (hV2 : UtV w u2 v2) (hTab : Tab w ∧ TabN w ∧ TabK w) :
    Calls Tryd.prog 5 #[v, v2] w fun e w' => e = .returned (.bool true) ∧ Below w.heap.size w w' := by
  have hV0 := hV
  have hV20 := hV2
  cases u with
  | mk id kind label head words kids =>
  cases u2 with
  | mk jd kin2 lab2 hea2 wor2 kid2 =>
    obtain ⟨Ah, Aw, Ak, nh, ch, nw, cw, nk, ck, rfl, _, _, _, _⟩ := hV.open_
    obtain ⟨Eh, Ew, Ek, eh, fh, ew, fw, ek, fk, rfl, _, _, _, _⟩ := hV2.open_
    obtain ⟨U, hU⟩ : ∃ U, U = Ut.mk id kind label head words kids := ⟨_, rfl⟩
    obtain ⟨X, hX⟩ : ∃ X, X = Ut.mk jd kin2 lab2 hea2 wor2 kid2 := ⟨_, rfl⟩
    rw [← hU] at hV0
    rw [← hX] at hV20
    obtain ⟨hT, hN, hK⟩ := hTab
    have hEs : (w.alloc (.cells #[.int .i64 id.x, .int .i64 id.y, .int .i64 id.z, .int .i64 kind, .string label, .slice Ah nh ch, .slice Aw nw cw, .slice Ak nk ck] 27)).heap.size = w.heap.size + 1 := by simp
    have hEs2 : ((w.alloc (.cells #[.int .i64 id.x, .int .i64 id.y, .int .i64 id.z, .int .i64 kind, .string label, .slice Ah nh ch, .slice Aw nw cw, .slice Ak nk ck] 27)).alloc (.cells #[.int .i64 jd.x, .int .i64 jd.y, .int .i64 jd.z, .int .i64 kin2, .string lab2, .slice Eh eh fh, .slice Ew ew fw, .slice Ek ek fk] 27)).heap.size = w.heap.size + 2 := by simp
    have hb0 := below2 w (.cells #[.int .i64 id.x, .int .i64 id.y, .int .i64 id.z, .int .i64 kind, .string label, .slice Ah nh ch, .slice Aw nw cw, .slice Ak nk ck] 27) (.cells #[.int .i64 jd.x, .int .i64 jd.y, .int .i64 jd.z, .int .i64 kin2, .string lab2, .slice Eh eh fh, .slice Ew ew fw, .slice Ek ek fk] 27)
    have HB0 := Lib.hid hb0
    have HV0 := Lib.hid hV0
    have HV20 := Lib.hid hV20
    have HT := Lib.hid hT
    have HN := Lib.hid hN
    have HK := Lib.hid hK
    have HA := Lib.hid (awake_any _ (hT.below hb0) (hN.below hb0) (hK.below hb0))
    have HFe : Hid (∀ W, Below w.heap.size w W → Calls Tryd.prog 18 #[.agg #[.int .i64 id.x, .int .i64 id.y, .int .i64 id.z, .int .i64 kind, .string label, .slice Ah nh ch, .slice Aw nw cw, .slice Ak nk ck], .int .i64 60] W fun e w' => FewRet 60 U e ∧ Below W.heap.size W w') := Lib.hid fun W hb => few_any U _ W 60 60 rfl (by decide) (HV0.out.below hb)
    have HFe2 : Hid (∀ W, Below w.heap.size w W → Calls Tryd.prog 18 #[.agg #[.int .i64 jd.x, .int .i64 jd.y, .int .i64 jd.z, .int .i64 kin2, .string lab2, .slice Eh eh fh, .slice Ew ew fw, .slice Ek ek fk], .int .i64 60] W fun e w' => FewRet 60 X e ∧ Below W.heap.size W w') := Lib.hid fun W hb => few_any X _ W 60 60 rfl (by decide) (HV20.out.below hb)
    have HBx := Lib.hid ((Box8.new w 27 (.int .i64 id.x) (.int .i64 id.y) (.int .i64 id.z) (.int .i64 kind) (.string label) (.slice Ah nh ch) (.slice Aw nw cw) (.slice Ak nk ck)).below (alloc_below (w.alloc (.cells #[.int .i64 id.x, .int .i64 id.y, .int .i64 id.z, .int .i64 kind, .string label, .slice Ah nh ch, .slice Aw nw cw, .slice Ak nk ck] 27)) (.cells #[.int .i64 jd.x, .int .i64 jd.y, .int .i64 jd.z, .int .i64 kin2, .string lab2, .slice Eh eh fh, .slice Ew ew fw, .slice Ek ek fk] 27)) (by rw [hEs]; exact Nat.lt_succ_self _))
    have HBy := Lib.hid (by have h := Box8.new (w.alloc (.cells #[.int .i64 id.x, .int .i64 id.y, .int .i64 id.z, .int .i64 kind, .string label, .slice Ah nh ch, .slice Aw nw cw, .slice Ak nk ck] 27)) 27 (.int .i64 jd.x) (.int .i64 jd.y) (.int .i64 jd.z) (.int .i64 kin2) (.string lab2) (.slice Eh eh fh) (.slice Ew ew fw) (.slice Ek ek fk); rw [hEs] at h; exact h)
    have HS : Hid (∀ W, Below (w.heap.size + 2) ((w.alloc (.cells #[.int .i64 id.x, .int .i64 id.y, .int .i64 id.z, .int .i64 kind, .string label, .slice Ah nh ch, .slice Aw nw cw, .slice Ak nk ck] 27)).alloc (.cells #[.int .i64 jd.x, .int .i64 jd.y, .int .i64 jd.z, .int .i64 kin2, .string lab2, .slice Eh eh fh, .slice Ew ew fw, .slice Ek ek fk] 27)) W → (W.cell? ⟨w.heap.size, 0, none⟩ = some (.int .i64 id.x) ∧ W.cell? ⟨w.heap.size, 1, none⟩ = some (.int .i64 id.y) ∧ W.cell? ⟨w.heap.size, 2, none⟩ = some (.int .i64 id.z) ∧ W.cell? ⟨w.heap.size, 3, none⟩ = some (.int .i64 kind) ∧ W.cell? ⟨w.heap.size, 4, none⟩ = some (.string label) ∧ W.cell? ⟨w.heap.size, 5, none⟩ = some (.slice Ah nh ch) ∧ W.cell? ⟨w.heap.size, 6, none⟩ = some (.slice Aw nw cw) ∧ W.cell? ⟨w.heap.size, 7, none⟩ = some (.slice Ak nk ck)) ∧
        W.cell? ⟨w.heap.size + 1, 0, none⟩ = some (.int .i64 jd.x) ∧ W.cell? ⟨w.heap.size + 1, 1, none⟩ = some (.int .i64 jd.y) ∧ W.cell? ⟨w.heap.size + 1, 2, none⟩ = some (.int .i64 jd.z) ∧ W.cell? ⟨w.heap.size + 1, 3, none⟩ = some (.int .i64 kin2) ∧ W.cell? ⟨w.heap.size + 1, 4, none⟩ = some (.string lab2) ∧ W.cell? ⟨w.heap.size + 1, 5, none⟩ = some (.slice Eh eh fh) ∧ W.cell? ⟨w.heap.size + 1, 6, none⟩ = some (.slice Ew ew fw) ∧ W.cell? ⟨w.heap.size + 1, 7, none⟩ = some (.slice Ek ek fk)) := Lib.hid fun W hb => by
      obtain ⟨a0, a1, a2, a3, a4, a5, a6, a7⟩ := HBx.out.below hb (by omega)
      obtain ⟨b0, b1, b2, b3, b4, b5, b6, b7⟩ := HBy.out.below hb (by omega)
      exact ⟨⟨a0, a1, a2, a3, a4, a5, a6, a7⟩, b0, b1, b2, b3, b4, b5, b6, b7⟩
    have HUd : Hid (∀ W, Below ((w.alloc (.cells #[.int .i64 id.x, .int .i64 id.y, .int .i64 id.z, .int .i64 kind, .string label, .slice Ah nh ch, .slice Aw nw cw, .slice Ak nk ck] 27)).alloc (.cells #[.int .i64 jd.x, .int .i64 jd.y, .int .i64 jd.z, .int .i64 kin2, .string lab2, .slice Eh eh fh, .slice Ew ew fw, .slice Ek ek fk] 27)).heap.size ((w.alloc (.cells #[.int .i64 id.x, .int .i64 id.y, .int .i64 id.z, .int .i64 kind, .string label, .slice Ah nh ch, .slice Aw nw cw, .slice Ak nk ck] 27)).alloc (.cells #[.int .i64 jd.x, .int .i64 jd.y, .int .i64 jd.z, .int .i64 kin2, .string lab2, .slice Eh eh fh, .slice Ew ew fw, .slice Ek ek fk] 27)) W → Below (w.heap.size + 2) ((w.alloc (.cells #[.int .i64 id.x, .int .i64 id.y, .int .i64 id.z, .int .i64 kind, .string label, .slice Ah nh ch, .slice Aw nw cw, .slice Ak nk ck] 27)).alloc (.cells #[.int .i64 jd.x, .int .i64 jd.y, .int .i64 jd.z, .int .i64 kin2, .string lab2, .slice Eh eh fh, .slice Ew ew fw, .slice Ek ek fk] 27)) W) := Lib.hid fun W h => by rwa [hEs2] at h
    have HUo : Hid (∀ W, Below (w.heap.size + 2) ((w.alloc (.cells #[.int .i64 id.x, .int .i64 id.y, .int .i64 id.z, .int .i64 kind, .string label, .slice Ah nh ch, .slice Aw nw cw, .slice Ak nk ck] 27)).alloc (.cells #[.int .i64 jd.x, .int .i64 jd.y, .int .i64 jd.z, .int .i64 kin2, .string lab2, .slice Eh eh fh, .slice Ew ew fw, .slice Ek ek fk] 27)) W → Below w.heap.size w W) := Lib.hid fun W h => HB0.out.trans (h.mono (Nat.le_add_right _ _))
    have HSz : Hid (∀ W, Below (w.heap.size + 2) ((w.alloc (.cells #[.int .i64 id.x, .int .i64 id.y, .int .i64 id.z, .int .i64 kind, .string label, .slice Ah nh ch, .slice Aw nw cw, .slice Ak nk ck] 27)).alloc (.cells #[.int .i64 jd.x, .int .i64 jd.y, .int .i64 jd.z, .int .i64 kin2, .string lab2, .slice Eh eh fh, .slice Ew ew fw, .slice Ek ek fk] 27)) W → w.heap.size + 2 ≤ W.heap.size) := Lib.hid fun W h => by have := h.size; omega
    clear hV hV0 hV2 hV20 hU hX hb0 hEs hEs2 hT hN hK
    go_enter Tryd.func5, Tryd.ntmps5
    go_wp2_with fail
    with_reducible refine (HA.out).mono ?_
    rintro e w1 ⟨rfl, hb1⟩
    have X1 := Lib.hid (HUd.out _ hb1)
    have HF2 := Lib.hid (HFe.out _ (HUo.out _ X1.out))
    obtain ⟨⟨p0, p1, p2, p3, p4, p5, p6, p7⟩, q0, q1, q2, q3, q4, q5, q6, q7⟩ := HS.out _ X1.out
    clear hb1
    go_wp2_with fail
    with_reducible refine (HF2.out).mono ?_
    rintro e w2 ⟨⟨b, rfl, hsm⟩, hb2⟩
    have X2 := Lib.hid (X1.out.trans (hb2.mono (HSz.out _ X1.out)))
    clear hb2 p0 p1 p2 p3 p4 p5 p6 p7 q0 q1 q2 q3 q4 q5 q6 q7
    cases b with
    | false =>
      clear hsm
      go_wp2_with fail
      go_ret
      exact ⟨rfl, HUo.out _ X2.out⟩
    | true =>
      have HM := Lib.hid ((hsm rfl).tame (by decide))
      clear hsm
      have HF3 := Lib.hid (HFe2.out _ (HUo.out _ X2.out))
      obtain ⟨⟨p0, p1, p2, p3, p4, p5, p6, p7⟩, q0, q1, q2, q3, q4, q5, q6, q7⟩ := HS.out _ X2.out
      go_wp2_with fail
      with_reducible refine (HF3.out).mono ?_
      rintro e w3 ⟨⟨b, rfl, hsm⟩, hb3⟩
      have X3 := Lib.hid (X2.out.trans (hb3.mono (HSz.out _ X2.out)))
      clear hb3 p0 p1 p2 p3 p4 p5 p6 p7 q0 q1 q2 q3 q4 q5 q6 q7
      cases b with
      | false =>
        clear hsm
        go_wp2_with fail
        go_ret
        exact ⟨rfl, HUo.out _ X3.out⟩
      | true =>
        have HMx := Lib.hid ((hsm rfl).tame (by decide))
        clear hsm
        have HSt := Lib.hid (strip_any _ U _ w3 (Nat.le_refl _) HM.out (HV0.out.below (HUo.out _ X3.out)))
        obtain ⟨⟨p0, p1, p2, p3, p4, p5, p6, p7⟩, q0, q1, q2, q3, q4, q5, q6, q7⟩ := HS.out _ X3.out
        go_wp2_with fail
        with_reducible refine (HSt.out).mono ?_
        rintro e w4 ⟨⟨v4, rfl, hv4⟩, hb4⟩
        have X4 := Lib.hid (X3.out.trans (hb4.mono (HSz.out _ X3.out)))
        have hv4' := hv4.plain fun b hb => hb.2
        obtain ⟨vs, rfl, hq⟩ := hv4
        obtain ⟨o1, o2, o3, ko, lo, Oh, Ow, Ok, oh, ph, ow, pw, ok, pk, rfl⟩ := hq.shape
        have HV4 := Lib.hid hv4'
        clear hb4 hv4' hq p0 p1 p2 p3 p4 p5 p6 p7 q0 q1 q2 q3 q4 q5 q6 q7
        have HBz := Lib.hid (Box8.new w4 27 (.int .i64 o1) (.int .i64 o2) (.int .i64 o3) (.int .i64 ko) (.string lo) (.slice Oh oh ph) (.slice Ow ow pw) (.slice Ok ok pk))
        have HSr := Lib.hid (strip_strip U)
        have hz4 := HSz.out _ X4.out
        have HX5 : Hid (∀ W, Below (w4.heap.size + 1) (w4.alloc (.cells #[.int .i64 o1, .int .i64 o2, .int .i64 o3, .int .i64 ko, .string lo, .slice Oh oh ph, .slice Ow ow pw, .slice Ok ok pk] 27)) W → Below w4.heap.size w4 W ∧ Below (w.heap.size + 2) ((w.alloc (.cells #[.int .i64 id.x, .int .i64 id.y, .int .i64 id.z, .int .i64 kind, .string label, .slice Ah nh ch, .slice Aw nw cw, .slice Ak nk ck] 27)).alloc (.cells #[.int .i64 jd.x, .int .i64 jd.y, .int .i64 jd.z, .int .i64 kin2, .string lab2, .slice Eh eh fh, .slice Ew ew fw, .slice Ek ek fk] 27)) W ∧ w4.heap.size + 1 ≤ W.heap.size) := Lib.hid fun W h => by
          have h1 := (alloc_below w4 (.cells #[.int .i64 o1, .int .i64 o2, .int .i64 o3, .int .i64 ko, .string lo, .slice Oh oh ph, .slice Ow ow pw, .slice Ok ok pk] 27)).trans (h.mono (Nat.le_succ _))
          have h2 := h.size
          have h3 := alloc_lt w4 (.cells #[.int .i64 o1, .int .i64 o2, .int .i64 o3, .int .i64 ko, .string lo, .slice Oh oh ph, .slice Ow ow pw, .slice Ok ok pk] 27)
          exact ⟨h1, X4.out.trans (h1.mono hz4), by omega⟩
        have HX6 : Hid (Below (w4.heap.size + 1) (w4.alloc (.cells #[.int .i64 o1, .int .i64 o2, .int .i64 o3, .int .i64 ko, .string lo, .slice Oh oh ph, .slice Ow ow pw, .slice Ok ok pk] 27)) (w4.alloc (.cells #[.int .i64 o1, .int .i64 o2, .int .i64 o3, .int .i64 ko, .string lo, .slice Oh oh ph, .slice Ow ow pw, .slice Ok ok pk] 27)).drew) := Lib.hid (Below.refl _ _).drew
        have HSS : Hid (∀ W, Below (w4.heap.size + 1) (w4.alloc (.cells #[.int .i64 o1, .int .i64 o2, .int .i64 o3, .int .i64 ko, .string lo, .slice Oh oh ph, .slice Ow ow pw, .slice Ok ok pk] 27)) W → ((W.cell? ⟨w.heap.size, 0, none⟩ = some (.int .i64 id.x) ∧ W.cell? ⟨w.heap.size, 1, none⟩ = some (.int .i64 id.y) ∧ W.cell? ⟨w.heap.size, 2, none⟩ = some (.int .i64 id.z) ∧ W.cell? ⟨w.heap.size, 3, none⟩ = some (.int .i64 kind) ∧ W.cell? ⟨w.heap.size, 4, none⟩ = some (.string label) ∧ W.cell? ⟨w.heap.size, 5, none⟩ = some (.slice Ah nh ch) ∧ W.cell? ⟨w.heap.size, 6, none⟩ = some (.slice Aw nw cw) ∧ W.cell? ⟨w.heap.size, 7, none⟩ = some (.slice Ak nk ck)) ∧
            W.cell? ⟨w.heap.size + 1, 0, none⟩ = some (.int .i64 jd.x) ∧ W.cell? ⟨w.heap.size + 1, 1, none⟩ = some (.int .i64 jd.y) ∧ W.cell? ⟨w.heap.size + 1, 2, none⟩ = some (.int .i64 jd.z) ∧ W.cell? ⟨w.heap.size + 1, 3, none⟩ = some (.int .i64 kin2) ∧ W.cell? ⟨w.heap.size + 1, 4, none⟩ = some (.string lab2) ∧ W.cell? ⟨w.heap.size + 1, 5, none⟩ = some (.slice Eh eh fh) ∧ W.cell? ⟨w.heap.size + 1, 6, none⟩ = some (.slice Ew ew fw) ∧ W.cell? ⟨w.heap.size + 1, 7, none⟩ = some (.slice Ek ek fk)) ∧
            W.cell? ⟨w4.heap.size, 0, none⟩ = some (.int .i64 o1) ∧ W.cell? ⟨w4.heap.size, 1, none⟩ = some (.int .i64 o2) ∧ W.cell? ⟨w4.heap.size, 2, none⟩ = some (.int .i64 o3) ∧ W.cell? ⟨w4.heap.size, 3, none⟩ = some (.int .i64 ko) ∧ W.cell? ⟨w4.heap.size, 4, none⟩ = some (.string lo) ∧ W.cell? ⟨w4.heap.size, 5, none⟩ = some (.slice Oh oh ph) ∧ W.cell? ⟨w4.heap.size, 6, none⟩ = some (.slice Ow ow pw) ∧ W.cell? ⟨w4.heap.size, 7, none⟩ = some (.slice Ok ok pk)) := Lib.hid fun W hb => by
          obtain ⟨a0, a1, a2, a3, a4, a5, a6, a7⟩ := HBz.out.below hb (Nat.lt_succ_self _)
          exact ⟨HS.out _ (HX5.out _ hb).2.1, a0, a1, a2, a3, a4, a5, a6, a7⟩
        have G1 : Hid (∀ W, Below (w4.heap.size + 1) (w4.alloc (.cells #[.int .i64 o1, .int .i64 o2, .int .i64 o3, .int .i64 ko, .string lo, .slice Oh oh ph, .slice Ow ow pw, .slice Ok ok pk] 27)) W → Calls Tryd.prog 42 #[.agg #[.int .i64 id.x, .int .i64 id.y, .int .i64 id.z, .int .i64 kind, .string label, .slice Ah nh ch, .slice Aw nw cw, .slice Ak nk ck]] W fun e w' => (∃ v', e = .returned v' ∧ UtV w' U.strip v') ∧ Below W.heap.size W w') := Lib.hid fun W hb => (rstrip_any _ U _ W (Nat.le_refl _) HM.out (HV0.out.below (HUo.out _ (HX5.out _ hb).2.1))).mono fun e w' ⟨⟨v', h1, h2⟩, h3⟩ => ⟨⟨v', h1, h2.plain fun b hb => hb.2⟩, h3⟩
        have G2 : Hid (∀ W v', Below (w4.heap.size + 1) (w4.alloc (.cells #[.int .i64 o1, .int .i64 o2, .int .i64 o3, .int .i64 ko, .string lo, .slice Oh oh ph, .slice Ow ow pw, .slice Ok ok pk] 27)) W → UtV W U.strip v' → Calls Tryd.prog 38 #[.agg #[.int .i64 o1, .int .i64 o2, .int .i64 o3, .int .i64 ko, .string lo, .slice Oh oh ph, .slice Ow ow pw, .slice Ok ok pk], v'] W fun e w' => e = .returned (.bool true) ∧ Below W.heap.size W w') := Lib.hid fun W v' hb hv => (same_any _ U.strip U.strip _ v' W (Nat.le_refl _) (HV4.out.below (HX5.out _ hb).1) hv).mono fun e w' ⟨h1, h2⟩ => ⟨by rw [h1, decide_eq_true rfl], h2⟩
        have G3 : Hid (∀ W, Below (w4.heap.size + 1) (w4.alloc (.cells #[.int .i64 o1, .int .i64 o2, .int .i64 o3, .int .i64 ko, .string lo, .slice Oh oh ph, .slice Ow ow pw, .slice Ok ok pk] 27)) W → Calls Tryd.prog 43 #[.agg #[.int .i64 id.x, .int .i64 id.y, .int .i64 id.z, .int .i64 kind, .string label, .slice Ah nh ch, .slice Aw nw cw, .slice Ak nk ck], .agg #[.int .i64 jd.x, .int .i64 jd.y, .int .i64 jd.z, .int .i64 kin2, .string lab2, .slice Eh eh fh, .slice Ew ew fw, .slice Ek ek fk]] W fun e w' => e = .returned (.bool (decide (U = X))) ∧ Below W.heap.size W w') := Lib.hid fun W hb => equal_any _ U X _ _ W (Nat.le_refl _) (HV0.out.below (HUo.out _ (HX5.out _ hb).2.1)) (HV20.out.below (HUo.out _ (HX5.out _ hb).2.1))
        have G4 : Hid (∀ W, Below (w4.heap.size + 1) (w4.alloc (.cells #[.int .i64 o1, .int .i64 o2, .int .i64 o3, .int .i64 ko, .string lo, .slice Oh oh ph, .slice Ow ow pw, .slice Ok ok pk] 27)) W → Calls Tryd.prog 38 #[.agg #[.int .i64 id.x, .int .i64 id.y, .int .i64 id.z, .int .i64 kind, .string label, .slice Ah nh ch, .slice Aw nw cw, .slice Ak nk ck], .agg #[.int .i64 jd.x, .int .i64 jd.y, .int .i64 jd.z, .int .i64 kin2, .string lab2, .slice Eh eh fh, .slice Ew ew fw, .slice Ek ek fk]] W fun e w' => e = .returned (.bool (decide (U = X))) ∧ Below W.heap.size W w') := Lib.hid fun W hb => same_any _ U X _ _ W (Nat.le_refl _) (HV0.out.below (HUo.out _ (HX5.out _ hb).2.1)) (HV20.out.below (HUo.out _ (HX5.out _ hb).2.1))
        have G5 : Hid (∀ W, Below (w4.heap.size + 1) (w4.alloc (.cells #[.int .i64 o1, .int .i64 o2, .int .i64 o3, .int .i64 ko, .string lo, .slice Oh oh ph, .slice Ow ow pw, .slice Ok ok pk] 27)) W → Calls Tryd.prog 43 #[.agg #[.int .i64 jd.x, .int .i64 jd.y, .int .i64 jd.z, .int .i64 kin2, .string lab2, .slice Eh eh fh, .slice Ew ew fw, .slice Ek ek fk], .agg #[.int .i64 id.x, .int .i64 id.y, .int .i64 id.z, .int .i64 kind, .string label, .slice Ah nh ch, .slice Aw nw cw, .slice Ak nk ck]] W fun e w' => e = .returned (.bool (decide (U = X))) ∧ Below W.heap.size W w') := Lib.hid fun W hb => (equal_any _ X U _ _ W (Nat.le_refl _) (HV20.out.below (HUo.out _ (HX5.out _ hb).2.1)) (HV0.out.below (HUo.out _ (HX5.out _ hb).2.1))).mono fun e w' ⟨h1, h2⟩ => ⟨by rw [h1, decide_eq_decide.2 (eq_comm (a := X) (b := U))], h2⟩
        have G6 : Hid (∀ W, Below (w4.heap.size + 1) (w4.alloc (.cells #[.int .i64 o1, .int .i64 o2, .int .i64 o3, .int .i64 ko, .string lo, .slice Oh oh ph, .slice Ow ow pw, .slice Ok ok pk] 27)) W → Calls Tryd.prog 43 #[.agg #[.int .i64 id.x, .int .i64 id.y, .int .i64 id.z, .int .i64 kind, .string label, .slice Ah nh ch, .slice Aw nw cw, .slice Ak nk ck], .agg #[.int .i64 id.x, .int .i64 id.y, .int .i64 id.z, .int .i64 kind, .string label, .slice Ah nh ch, .slice Aw nw cw, .slice Ak nk ck]] W fun e w' => e = .returned (.bool true) ∧ Below W.heap.size W w') := Lib.hid fun W hb => (equal_any _ U U _ _ W (Nat.le_refl _) (HV0.out.below (HUo.out _ (HX5.out _ hb).2.1)) (HV0.out.below (HUo.out _ (HX5.out _ hb).2.1))).mono fun e w' ⟨h1, h2⟩ => ⟨by rw [h1, decide_eq_true rfl], h2⟩
        have G7 : Hid (∀ W, Below (w4.heap.size + 1) (w4.alloc (.cells #[.int .i64 o1, .int .i64 o2, .int .i64 o3, .int .i64 ko, .string lo, .slice Oh oh ph, .slice Ow ow pw, .slice Ok ok pk] 27)) W → Calls Tryd.prog 41 #[.agg #[.int .i64 o1, .int .i64 o2, .int .i64 o3, .int .i64 ko, .string lo, .slice Oh oh ph, .slice Ow ow pw, .slice Ok ok pk]] W fun e w' => (∃ v', e = .returned v' ∧ UtV w' U.strip v') ∧ Below W.heap.size W w') := Lib.hid fun W hb => (strip_any _ U.strip _ W (Nat.le_refl _) (strip_tame HM.out) (HV4.out.below (HX5.out _ hb).1)).mono fun e w' ⟨⟨v', h1, h2⟩, h3⟩ => ⟨⟨v', h1, by rw [HSr.out] at h2; exact h2.plain fun b hb => hb.2⟩, h3⟩
        have G8 : Hid (∀ W v', Below (w4.heap.size + 1) (w4.alloc (.cells #[.int .i64 o1, .int .i64 o2, .int .i64 o3, .int .i64 ko, .string lo, .slice Oh oh ph, .slice Ow ow pw, .slice Ok ok pk] 27)) W → UtV W U.strip v' → Calls Tryd.prog 43 #[v', .agg #[.int .i64 o1, .int .i64 o2, .int .i64 o3, .int .i64 ko, .string lo, .slice Oh oh ph, .slice Ow ow pw, .slice Ok ok pk]] W fun e w' => e = .returned (.bool true) ∧ Below W.heap.size W w') := Lib.hid fun W v' hb hv => (equal_any _ U.strip U.strip v' _ W (Nat.le_refl _) hv (HV4.out.below (HX5.out _ hb).1)).mono fun e w' ⟨h1, h2⟩ => ⟨by rw [h1, decide_eq_true rfl], h2⟩
        clear hz4
        obtain ⟨⟨p0, p1, p2, p3, p4, p5, p6, p7⟩, q0, q1, q2, q3, q4, q5, q6, q7⟩ := HS.out _ X4.out
        go_wp2_with fail
        go_region_held3 (fun w' => ((w'.cell? ⟨w.heap.size, 0, none⟩ = some (.int .i64 id.x) ∧ w'.cell? ⟨w.heap.size, 1, none⟩ = some (.int .i64 id.y) ∧ w'.cell? ⟨w.heap.size, 2, none⟩ = some (.int .i64 id.z) ∧ w'.cell? ⟨w.heap.size, 3, none⟩ = some (.int .i64 kind) ∧ w'.cell? ⟨w.heap.size, 4, none⟩ = some (.string label) ∧ w'.cell? ⟨w.heap.size, 5, none⟩ = some (.slice Ah nh ch) ∧ w'.cell? ⟨w.heap.size, 6, none⟩ = some (.slice Aw nw cw) ∧ w'.cell? ⟨w.heap.size, 7, none⟩ = some (.slice Ak nk ck)) ∧
            w'.cell? ⟨w.heap.size + 1, 0, none⟩ = some (.int .i64 jd.x) ∧ w'.cell? ⟨w.heap.size + 1, 1, none⟩ = some (.int .i64 jd.y) ∧ w'.cell? ⟨w.heap.size + 1, 2, none⟩ = some (.int .i64 jd.z) ∧ w'.cell? ⟨w.heap.size + 1, 3, none⟩ = some (.int .i64 kin2) ∧ w'.cell? ⟨w.heap.size + 1, 4, none⟩ = some (.string lab2) ∧ w'.cell? ⟨w.heap.size + 1, 5, none⟩ = some (.slice Eh eh fh) ∧ w'.cell? ⟨w.heap.size + 1, 6, none⟩ = some (.slice Ew ew fw) ∧ w'.cell? ⟨w.heap.size + 1, 7, none⟩ = some (.slice Ek ek fk)) ∧
            w'.cell? ⟨w4.heap.size, 0, none⟩ = some (.int .i64 o1) ∧ w'.cell? ⟨w4.heap.size, 1, none⟩ = some (.int .i64 o2) ∧ w'.cell? ⟨w4.heap.size, 2, none⟩ = some (.int .i64 o3) ∧ w'.cell? ⟨w4.heap.size, 3, none⟩ = some (.int .i64 ko) ∧ w'.cell? ⟨w4.heap.size, 4, none⟩ = some (.string lo) ∧ w'.cell? ⟨w4.heap.size, 5, none⟩ = some (.slice Oh oh ph) ∧ w'.cell? ⟨w4.heap.size, 6, none⟩ = some (.slice Ow ow pw) ∧ w'.cell? ⟨w4.heap.size, 7, none⟩ = some (.slice Ok ok pk))
          (with_reducible (first | exact HSS.out _ hy9 | exact HSS.out _ hy8 | exact HSS.out _ hy7 | exact HSS.out _ hy6 | exact HSS.out _ hy5 | exact HSS.out _ hy4 | exact HSS.out _ hy3 | exact HSS.out _ hy2 | exact HSS.out _ hy1 | exact HSS.out _ HX6.out))
          (first
            | (go_at_call 42; with_reducible refine (G1.out _ ?_).mono ?_; (with_reducible exact HX6.out); rintro e z1 ⟨⟨v1, rfl, hv1⟩, hb1⟩; have HV1 := Lib.hid hv1; clear hv1; have hy1 := HX6.out.trans (hb1.mono (HX5.out _ HX6.out).2.2))
            | (go_at_call 38; with_reducible refine (G2.out _ _ ?_ HV1.out).mono ?_; (with_reducible exact hy1); rintro e z2 ⟨rfl, hb2⟩; have hy2 := hy1.trans (hb2.mono (HX5.out _ hy1).2.2))
            | (go_at_call 43; with_reducible refine (G3.out _ ?_).mono ?_; (with_reducible exact hy2); rintro e z3 ⟨rfl, hb3⟩; have hy3 := hy2.trans (hb3.mono (HX5.out _ hy2).2.2))
            | (go_at_call 38; with_reducible refine (G4.out _ ?_).mono ?_; (with_reducible exact hy3); rintro e z4 ⟨rfl, hb4⟩; have hy4 := hy3.trans (hb4.mono (HX5.out _ hy3).2.2))
            | (go_at_call 43; with_reducible refine (G5.out _ ?_).mono ?_; (with_reducible exact hy4); rintro e z5 ⟨rfl, hb5⟩; have hy5 := hy4.trans (hb5.mono (HX5.out _ hy4).2.2))
            | (go_at_call 43; with_reducible refine (G3.out _ ?_).mono ?_; (with_reducible exact hy5); rintro e z6 ⟨rfl, hb6⟩; have hy6 := hy5.trans (hb6.mono (HX5.out _ hy5).2.2))
            | (go_at_call 43; with_reducible refine (G6.out _ ?_).mono ?_; (with_reducible exact hy6); rintro e z7 ⟨rfl, hb7⟩; have hy7 := hy6.trans (hb7.mono (HX5.out _ hy6).2.2))
            | (go_at_call 41; with_reducible refine (G7.out _ ?_).mono ?_; (with_reducible exact hy7); rintro e z8 ⟨⟨v8, rfl, hv8⟩, hb8⟩; have HV8 := Lib.hid hv8; clear hv8; have hy8 := hy7.trans (hb8.mono (HX5.out _ hy7).2.2))
            | (go_at_call 43; with_reducible refine (G8.out _ _ ?_ HV8.out).mono ?_; (with_reducible exact hy8); rintro e z9 ⟨rfl, hb9⟩; have hy9 := hy8.trans (hb9.mono (HX5.out _ hy8).2.2)))
        go_wp2_with fail
        go_ret
        exact ⟨ret_bool (by simp), HUo.out _ (HX5.out _ hy9).2.1⟩
end Go.Proofs.YtcacnelhppakoaaDoor
