/-
  The chapter's example: section; awake.
-/
import Derived.Test.YtcacnelhppakoaaDoorFew
import Derived.Test.YtcacnelhppakoaaDoorTopo
namespace Go.Proofs.YtcacnelhppakoaaDoor
open Go.RowKit (wrap32 wrap64 intOf Hid Below)
open Lab Lcs

/-- A result that lies in a block of its own. -/
theorem res8 {fn : Func} {p : Tmp} (h : fn.results = #[.cell p 27]) (tmps : Array Value) (W : World) (g : Nat) (x0 x1 x2 x3 x4 x5 x6 x7 : Value) (hp : tmps.getD p undef = .pointer (some ⟨g, 0, none⟩)) (hb : Box8 W g x0 x1 x2 x3 x4 x5 x6 x7) :
    (results fn tmps).run Tryd.prog W = .ok (.agg #[x0, x1, x2, x3, x4, x5, x6, x7]) W := by
  obtain ⟨h0, h1, h2, h3, h4, h5, h6, h7⟩ := hb
  have hp' : tmps[p]?.getD undef = .pointer (some ⟨g, 0, none⟩) := by simpa using hp
  simp [results, h, go_sem, hp', h0, h1, h2, h3, h4, h5, h6, h7]
theorem res8b {fn : Func} {p q : Tmp} (h : fn.results = #[.cell p 27, .tmp q]) (tmps : Array Value) (W : World) (g : Nat) (x0 x1 x2 x3 x4 x5 x6 x7 y : Value) (hp : tmps.getD p undef = .pointer (some ⟨g, 0, none⟩)) (hq : tmps.getD q undef = y) (hb : Box8 W g x0 x1 x2 x3 x4 x5 x6 x7) :
    (results fn tmps).run Tryd.prog W = .ok (.tuple #[.agg #[x0, x1, x2, x3, x4, x5, x6, x7], y]) W := by
  obtain ⟨h0, h1, h2, h3, h4, h5, h6, h7⟩ := hb
  have hp' : tmps[p]?.getD undef = .pointer (some ⟨g, 0, none⟩) := by simpa using hp
  have hq' : tmps[q]?.getD undef = y := by simpa using hq
  simp [results, h, go_sem, hp', hq', h0, h1, h2, h3, h4, h5, h6, h7]
theorem Wds.nil (w : World) : Wds w none 0 0 [] := ⟨rfl, Nat.le_refl _, by omega, fun h => absurd h (by omega)⟩
theorem zero_ok : Trip.zero.ok := ⟨⟨by decide, by decide⟩, ⟨by decide, by decide⟩, ⟨by decide, by decide⟩⟩
/-- A unit without words and kids. -/
def leaf (kind : Int) (label : Str) : Ut := .mk .zero kind label [] [] []
def leafV (kind : Int) (label : Str) : List Value := [.int .i64 0, .int .i64 0, .int .i64 0, .int .i64 kind, .string label, .slice none 0 0, .slice none 0 0, .slice none 0 0]
theorem leafC (w : World) (kind : Int) (label : Str) (hk : inI kind) : UtC w (leaf kind label) (leafV kind label) := by
  unfold leaf UtC
  exact ⟨none, none, none, 0, 0, 0, 0, 0, 0, 0, 0, rfl, ⟨zero_ok, hk⟩, Wds.nil w, Wds.nil w, rfl, Nat.le_refl _, by omega, fun h => absurd h (by omega), by unfold UtR; trivial⟩
/-- A row of units in a block of its own. -/
theorem row_new (W : World) (N : Nat) (hN : N = W.heap.size) (us : List (Ut × List Value)) (hm : us.length ≤ 9223372036854775807) (h : ∀ p ∈ us, UtC W p.1 p.2 ∧ p.2.length = 8) (ty : TypeId) (cs : Array Value) (hcs : cs.toList = us.flatMap (·.2)) :
    Row (W.alloc (.cells cs ty)) (some ⟨N, 0, none⟩) us.length us.length (us.map (·.1)) := by
  subst hN
  have hb := alloc_below W (.cells cs ty)
  refine ⟨by simp, Nat.le_refl _, hm, W.heap.size, 0, fun _ => ⟨rfl, alloc_lt _ _⟩, utr_of (alloc_lt _ _) _ _ fun k u hu => ?_⟩
  obtain ⟨p, hp, rfl⟩ : ∃ p, us[k]? = some p ∧ p.1 = u := by
    rw [List.getElem?_map] at hu
    obtain ⟨p, hp, he⟩ := Option.map_eq_some_iff.1 hu
    exact ⟨p, hp, he⟩
  obtain ⟨g1, g2⟩ := h p (List.mem_of_getElem? hp)
  refine ⟨p.2, UtC.below hb _ _ g1, fun j v hj => ?_⟩
  rw [World.cell?_alloc_at _ _ _ _ rfl, Nat.zero_add]
  have key : ∀ (l : List (Ut × List Value)), (∀ p ∈ l, p.2.length = 8) → ∀ k p, l[k]? = some p → ∀ (j : Nat) (v : Value), p.2[j]? = some v → (l.flatMap (·.2))[k * 8 + j]? = some v := by
    intro l
    induction l with
    | nil => intro _ k p h; simp at h
    | cons a r ih =>
      intro hl k p hk j v hj
      have ha := hl a (by simp)
      cases k with
      | zero =>
        simp only [List.getElem?_cons_zero, Option.some.injEq] at hk
        subst hk
        rw [List.flatMap_cons, Nat.zero_mul, Nat.zero_add, List.getElem?_append_left (List.getElem?_eq_some_iff.1 hj).1]
        exact hj
      | succ k =>
        simp only [List.getElem?_cons_succ] at hk
        rw [List.flatMap_cons, List.getElem?_append_right (by rw [ha]; omega), ha, show (k + 1) * 8 + j - 8 = k * 8 + j by omega]
        exact ih (fun p hp => hl p (by simp [hp])) k p hk j v hj
  have h1 := key us (fun p hp => (h p hp).2) k p hp j v hj
  rw [← hcs] at h1
  simpa using h1
/-- The chapter's section. -/
def sect (label : Str) : Ut := .mk .zero 2 ⟨#[53]⟩ [] [] [leaf 3 ⟨#[49]⟩, leaf 7 ⟨#[49]⟩, leaf 3 label]
set_option maxHeartbeats 4000000 in
set_option maxRecDepth 100000 in
theorem section_any (label : Str) (w : World) : Calls Tryd.prog 68 #[.string label] w fun e w' => (∃ v, e = .returned v ∧ UtV w' (sect label) v) ∧ Below w.heap.size w w' := by
  go_enter Tryd.func68, Tryd.ntmps68
  go_wp2_with fail
  have hr := row_new (w.alloc (.cells #[.int .i64 0, .int .i64 0, .int .i64 0, .int .i64 2, .string ⟨#[53]⟩, .slice none 0 0, .slice none 0 0, .slice (some ⟨w.heap.size + 1, 0, none⟩) 3 3] 27)) (w.heap.size + 1) (by simp) [(leaf 3 ⟨#[49]⟩, leafV 3 ⟨#[49]⟩), (leaf 7 ⟨#[49]⟩, leafV 7 ⟨#[49]⟩), (leaf 3 label, leafV 3 label)] (by simp)
    (fun p hp => by
      simp only [List.mem_cons, List.not_mem_nil, or_false] at hp
      rcases hp with rfl | rfl | rfl
      · exact ⟨leafC _ 3 _ ⟨by decide, by decide⟩, rfl⟩
      · exact ⟨leafC _ 7 _ ⟨by decide, by decide⟩, rfl⟩
      · exact ⟨leafC _ 3 _ ⟨by decide, by decide⟩, rfl⟩)
    27 #[.int .i64 0, .int .i64 0, .int .i64 0, .int .i64 3, .string ⟨#[49]⟩, .slice none 0 0, .slice none 0 0, .slice none 0 0, .int .i64 0, .int .i64 0, .int .i64 0, .int .i64 7, .string ⟨#[49]⟩, .slice none 0 0, .slice none 0 0, .slice none 0 0, .int .i64 0, .int .i64 0, .int .i64 0, .int .i64 3, .string label, .slice none 0 0, .slice none 0 0, .slice none 0 0] rfl
  have hbx := (Box8.new w 27 (.int .i64 0) (.int .i64 0) (.int .i64 0) (.int .i64 2) (.string ⟨#[53]⟩) (.slice none 0 0) (.slice none 0 0) (.slice (some ⟨w.heap.size + 1, 0, none⟩) 3 3)).below (alloc_below _ (.cells #[.int .i64 0, .int .i64 0, .int .i64 0, .int .i64 3, .string ⟨#[49]⟩, .slice none 0 0, .slice none 0 0, .slice none 0 0, .int .i64 0, .int .i64 0, .int .i64 0, .int .i64 7, .string ⟨#[49]⟩, .slice none 0 0, .slice none 0 0, .slice none 0 0, .int .i64 0, .int .i64 0, .int .i64 0, .int .i64 3, .string label, .slice none 0 0, .slice none 0 0, .slice none 0 0] 27)) (alloc_lt _ _)
  refine bodyPost_ret (res8 rfl _ _ w.heap.size _ _ _ _ _ _ _ _ rfl hbx) rfl ?_
  exact ⟨⟨_, rfl, UtV.mk_ (id := .zero) ⟨zero_ok, by decide, by decide⟩ (Wds.nil _) (Wds.nil _) hr⟩, below2 w _ _⟩
/-- The chapter's examples. -/
theorem sect_facts : validB (sect ⟨#[50]⟩) = true ∧ validB (sect ⟨#[49]⟩) = false ∧ bareB (sect ⟨#[50]⟩) = true ∧ (sect ⟨#[50]⟩).count = 4 ∧ (sect ⟨#[50]⟩).depth = 1 := by decide +kernel
theorem sect_tame (s : Str) (h : s.size ≤ 1000) : Tame (sect s) := by
  refine ⟨by simp [sect, leaf, Ut.count, Ut.counts], fun x hx => ?_⟩
  simp [sect, leaf, Ut.all, Ut.alls] at hx
  have e1 : (⟨#[53]⟩ : Str).size ≤ 1000000 := by decide
  have e2 : (⟨#[49]⟩ : Str).size ≤ 1000000 := by decide
  have e3 : s.size ≤ 1000000 := by omega
  have e4 : ([] : List Wd).length ≤ 1000000 := by decide
  rcases hx with rfl | rfl | rfl | rfl
  · exact ⟨e1, e4, e4⟩
  · exact ⟨e2, e4, e4⟩
  · exact ⟨e2, e4, e4⟩
  · exact ⟨e3, e4, e4⟩
set_option maxHeartbeats 4000000 in
set_option maxRecDepth 100000 in
theorem awake_any (w : World) (hT : Tab w) (hN : TabN w) (hK : TabK w) : Calls Tryd.prog 17 #[] w fun e w' => e = .returned (.bool true) ∧ Below w.heap.size w w' := by
  have HT := Lib.hid hT
  have HN := Lib.hid hN
  have HK := Lib.hid hK
  have S2 : Hid (∀ W, Calls Tryd.prog 68 #[.string ⟨#[50]⟩] W fun e w' => (∃ v, e = .returned v ∧ UtV w' (sect ⟨#[50]⟩) v) ∧ Below W.heap.size W w') := Lib.hid fun W => section_any _ W
  have S1 : Hid (∀ W, Calls Tryd.prog 68 #[.string ⟨#[49]⟩] W fun e w' => (∃ v, e = .returned v ∧ UtV w' (sect ⟨#[49]⟩) v) ∧ Below W.heap.size W w') := Lib.hid fun W => section_any _ W
  obtain ⟨f1, f2, f3, f4, f5⟩ := sect_facts
  have F1 := Lib.hid f1
  have F2 := Lib.hid f2
  have F3 := Lib.hid f3
  have F4 := Lib.hid f4
  have F5 := Lib.hid f5
  clear hT hN hK f1 f2 f3 f4 f5
  go_enter Tryd.func17, Tryd.ntmps17
  go_wp2_with fail
  with_reducible refine (S2.out _).mono ?_
  rintro e w1 ⟨⟨v1, rfl, hv1⟩, hb1⟩
  have C1 := uvalid_any _ v1 w1 (HT.out.below hb1) (HN.out.below hb1) hv1 (sect_tame _ (by decide))
  rw [F1.out] at C1
  have C1 := Lib.hid C1
  have B1 := Lib.hid hb1
  clear hv1 hb1
  go_wp2_with fail
  with_reducible refine (C1.out).mono ?_
  rintro e w2 ⟨rfl, hb2⟩
  have B2 := Lib.hid (B1.out.trans (hb2.mono B1.out.size))
  clear hb2
  go_wp2_with fail
  with_reducible refine (S1.out _).mono ?_
  rintro e w3 ⟨⟨v3, rfl, hv3⟩, hb3⟩
  have B3 := Lib.hid (B2.out.trans (hb3.mono B2.out.size))
  have C3 := uvalid_any _ v3 w3 (HT.out.below B3.out) (HN.out.below B3.out) hv3 (sect_tame _ (by decide))
  rw [F2.out] at C3
  have C3 := Lib.hid C3
  clear hv3 hb3
  go_wp2_with fail
  with_reducible refine (C3.out).mono ?_
  rintro e w4 ⟨rfl, hb4⟩
  have B4 := Lib.hid (B3.out.trans (hb4.mono B3.out.size))
  clear hb4
  go_wp2_with fail
  with_reducible refine (S2.out _).mono ?_
  rintro e w5 ⟨⟨v5, rfl, hv5⟩, hb5⟩
  have B5 := Lib.hid (B4.out.trans (hb5.mono B4.out.size))
  have C5 := isbare_any _ v5 w5 (HT.out.below B5.out) (HN.out.below B5.out) hv5 (sect_tame _ (by decide))
  rw [F3.out] at C5
  have C5 := Lib.hid C5
  clear hv5 hb5
  go_wp2_with fail
  with_reducible refine (C5.out).mono ?_
  rintro e w6 ⟨rfl, hb6⟩
  have B6 := Lib.hid (B5.out.trans (hb6.mono B5.out.size))
  clear hb6
  go_wp2_with fail
  with_reducible refine (S2.out _).mono ?_
  rintro e w7 ⟨⟨v7, rfl, hv7⟩, hb7⟩
  have B7 := Lib.hid (B6.out.trans (hb7.mono B6.out.size))
  have C7 := count_any _ _ v7 w7 (Nat.le_refl _) (sect_tame _ (by decide)).1 hv7
  rw [F4.out] at C7
  have C7 := Lib.hid C7
  clear hv7 hb7
  go_wp2_with fail
  with_reducible refine (C7.out).mono ?_
  rintro e w8 ⟨rfl, hb8⟩
  have B8 := Lib.hid (B7.out.trans (hb8.mono B7.out.size))
  clear hb8
  go_wp2_with fail
  with_reducible refine (S2.out _).mono ?_
  rintro e w9 ⟨⟨v9, rfl, hv9⟩, hb9⟩
  have B9 := Lib.hid (B8.out.trans (hb9.mono B8.out.size))
  have C9 := depth_any _ _ v9 w9 (Nat.le_refl _) (by rw [F5.out]; decide) hv9
  rw [F5.out] at C9
  have C9 := Lib.hid C9
  clear hv9 hb9
  go_wp2_with fail
  with_reducible refine (C9.out).mono ?_
  rintro e w10 ⟨rfl, hb10⟩
  have B10 := Lib.hid (B9.out.trans (hb10.mono B9.out.size))
  clear hb10
  have C10 := Lib.hid (kindname_any 3 w10 (HK.out.below B10.out))
  go_wp2_with fail
  with_reducible refine (C10.out).mono ?_
  rintro e w11 ⟨rfl, rfl⟩
  have hnm : nameL 3 = ⟨#[112, 97, 114, 97, 103, 114, 97, 112, 104]⟩ := by decide +kernel
  rw [hnm]
  go_wp2_with fail
  go_ret
  exact ⟨rfl, B10.out⟩
end Go.Proofs.YtcacnelhppakoaaDoor
