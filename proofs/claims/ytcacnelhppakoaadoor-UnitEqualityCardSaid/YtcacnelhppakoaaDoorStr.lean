/-
  Words without marks; what a function makes of each kid.
-/
import Derived.Test.YtcacnelhppakoaaDoorQ
namespace Go.Proofs.YtcacnelhppakoaaDoor
open Go.RowKit (wrap32 wrap64 intOf Hid Below)
open Lab Lcs

theorem bare_take {L : List Wd} {k : Nat} {a : Wd} (h : L[k]? = some a) : wv (bareW (L.take (k + 1))) = wv (bareW (L.take k)) ++ [.string a.text, .int .i64 0, .int .i64 0, .int .i64 0] := by
  obtain ⟨hk, he⟩ := List.getElem?_eq_some_iff.1 h
  unfold bareW
  rw [List.take_succ_eq_append_getElem hk, List.map_append, wv_app, he]
  rfl
theorem strips_map : ∀ l : List Ut, Ut.strips l = l.map Ut.strip
  | [] => by simp [Ut.strips]
  | u :: r => by simp [Ut.strips, strips_map r]
set_option maxHeartbeats 4000000 in
set_option maxRecDepth 100000 in
theorem nomarks_any (L : List Wd) (n c : Nat) (A : Option Addr) (w : World) (hl : Wds w A n c L) (hn : n ≤ 1000000) :
    Calls Tryd.prog 88 #[.slice A n c] w fun e w' => (∃ A' c', e = .returned (.slice A' n c') ∧ WdsQ (Fresh w.heap.size w') w' A' n c' (bareW L)) ∧ Below w.heap.size w w' := by
  have HL := Lib.hid hl
  have HLn := Lib.hid hl.1
  obtain ⟨i0, hi, hz0, hz1, hz2⟩ := info_parts info_word
  clear hl
  go_enter Tryd.func88, Tryd.ntmps88
  go_wp2
  go_loopw [3, 8] (fun v i wr => ∃ (k cc : Nat) (Av : Option Addr), k ≤ n ∧ i = .int .i64 k ∧ v = .slice Av k cc ∧ wr.ownsRow w.heap.size 49 4 (.slice Av k cc) k (wv (bareW (L.take k))) ∧ Below w.heap.size w wr) (fun _ i _ => n - (intOf i).toNat)
  case atStart => exact ⟨0, 0, none, Nat.zero_le _, rfl, rfl, World.ownsRow_nil _ _ _ _, Below.refl _ _⟩
  case round =>
    rename World => wr
    obtain ⟨k, cc, Av, hk, rfl, rfl, hown, hbr⟩ := hrel
    have hbz := hbr.size
    have HO := Lib.hid hown
    have HB := Lib.hid hbr
    clear hown
    by_cases hlt : k < n
    · obtain ⟨b, off, a, rfl, hblt, ha, c0, c1, c2, c3⟩ := HL.out.at_ hbr hlt
      have HT := Lib.hid (bare_take ha)
      have HB2 := Lib.hid (below2 wr (.cells #[.string a.text, .int .i64 a.mark.x, .int .i64 a.mark.y, .int .i64 a.mark.z] 49) (.cells #[.string a.text, .int .i64 0, .int .i64 0, .int .i64 0] 49))
      clear ha hbr
      go_wp2_with (at_builtin; refine wpList_append_own_at _ rfl _ _ 24 rfl w.heap.size 49 i0 (.agg #[.string ⟨#[]⟩, .int .i64 0, .int .i64 0, .int .i64 0]) 4 40 Tryd.underlying24 hi hz0 hz1 hz2 rfl (by decide) _ _ _ rfl (own_below HO.out HB2.out) ⟨wr.heap.size + 1, 0, none⟩ 1 1 [.string a.text, .int .i64 0, .int .i64 0, .int .i64 0] rfl rfl ?c1 ?c2 ?c3 ?c4 ?c5 ?_)
      case c1 => exact fun j u hj => new_row _ _ (by simp) [.string a.text, .int .i64 0, .int .i64 0, .int .i64 0] _ j u hj
      case c2 => intro u hu; simp at hu; rcases hu with rfl | rfl <;> rfl
      case c3 => unfold maxLen; omega
      case c4 => omega
      case c5 => simp; omega
      intro v' w3 hown' hgrow _ _
      obtain ⟨A', c', rfl, _⟩ := own_slice hown'
      have HO' := Lib.hid hown'
      have HB3 := Lib.hid (grown_below (own_below HO.out HB2.out) (HB.out.trans (HB2.out.mono hbz)) (Nat.le_trans hbz HB2.out.size) hgrow)
      clear hown' hgrow
      go_wp2
      go_roundw
      case rel => exact ⟨k + 1, c', A', by omega, by go_num, rfl, by rw [HT.out]; exact HO'.out, HB3.out⟩
      case measure => simp [intOf]; omega
    · obtain rfl : k = n := by omega
      have hown := HO.out
      rw [List.take_of_length_le (by rw [HLn.out]; exact Nat.le_refl _)] at hown
      have HQ := Lib.hid (wds_own (Q := Fresh w.heap.size wr) hown (fun _ h1 h2 => ⟨h1, h2⟩))
      clear hown
      go_wp2
      go_ret
      exact ⟨⟨_, _, rfl, HQ.out⟩, HB.out⟩
set_option maxHeartbeats 4000000 in
set_option maxRecDepth 100000 in
theorem bared_any (L : List Wd) (n c : Nat) (A : Option Addr) (w : World) (hl : Wds w A n c L) (hn : n ≤ 1000000) :
    Calls Tryd.prog 90 #[.slice A n c] w fun e w' => (∃ A' c', e = .returned (.slice A' n c') ∧ WdsQ (Fresh w.heap.size w') w' A' n c' (bareW L)) ∧ Below w.heap.size w w' := by
  have HL := Lib.hid hl
  have HLn := Lib.hid hl.1
  obtain ⟨i0, hi, hz0, hz1, hz2⟩ := info_parts info_word
  have hb0 := alloc_below w (.cells #[] 49)
  clear hl
  go_enter Tryd.func90, Tryd.ntmps90
  go_wp2
  go_loopw [3, 4] (fun v i wr => ∃ (k cc : Nat) (Av : Option Addr), k ≤ n ∧ i = .int .i64 k ∧ v = .slice Av k cc ∧ wr.ownsRow w.heap.size 49 4 (.slice Av k cc) k (wv (bareW (L.take k))) ∧ Below w.heap.size w wr) (fun _ i _ => n - (intOf i).toNat)
  case atStart => exact ⟨0, 0, _, Nat.zero_le _, rfl, rfl, own_empty _ _ _, hb0⟩
  case round =>
    rename World => wr
    obtain ⟨k, cc, Av, hk, rfl, rfl, hown, hbr⟩ := hrel
    have hbz := hbr.size
    have HO := Lib.hid hown
    have HB := Lib.hid hbr
    clear hown
    by_cases hlt : k < n
    · obtain ⟨b, off, a, rfl, hblt, ha, c0, c1, c2, c3⟩ := HL.out.at_ hbr hlt
      have HT := Lib.hid (bare_take ha)
      have HB2 := Lib.hid (alloc_below wr (.cells #[.string a.text, .int .i64 0, .int .i64 0, .int .i64 0] 49))
      clear ha hbr
      go_wp2_with (at_builtin; refine wpList_append_own_at _ rfl _ _ 24 rfl w.heap.size 49 i0 (.agg #[.string ⟨#[]⟩, .int .i64 0, .int .i64 0, .int .i64 0]) 4 40 Tryd.underlying24 hi hz0 hz1 hz2 rfl (by decide) _ _ _ rfl (own_below HO.out HB2.out) ⟨wr.heap.size, 0, none⟩ 1 1 [.string a.text, .int .i64 0, .int .i64 0, .int .i64 0] rfl rfl ?c1 ?c2 ?c3 ?c4 ?c5 ?_)
      case c1 => exact fun j u hj => new_row _ _ (by simp) [.string a.text, .int .i64 0, .int .i64 0, .int .i64 0] _ j u hj
      case c2 => intro u hu; simp at hu; rcases hu with rfl | rfl <;> rfl
      case c3 => unfold maxLen; omega
      case c4 => omega
      case c5 => simp; omega
      intro v' w3 hown' hgrow _ _
      obtain ⟨A', c', rfl, _⟩ := own_slice hown'
      have HO' := Lib.hid hown'
      have HB3 := Lib.hid (grown_below (own_below HO.out HB2.out) (HB.out.trans (HB2.out.mono hbz)) (Nat.le_trans hbz HB2.out.size) hgrow)
      clear hown' hgrow
      go_wp2
      go_roundw
      case rel => exact ⟨k + 1, c', A', by omega, by go_num, rfl, by rw [HT.out]; exact HO'.out, HB3.out⟩
      case measure => simp [intOf]; omega
    · obtain rfl : k = n := by omega
      have hown := HO.out
      rw [List.take_of_length_le (by rw [HLn.out]; exact Nat.le_refl _)] at hown
      have HQ := Lib.hid (wds_own (Q := Fresh w.heap.size wr) hown (fun _ h1 h2 => ⟨h1, h2⟩))
      clear hown
      go_wp2
      go_ret
      exact ⟨⟨_, _, rfl, HQ.out⟩, HB.out⟩
/-- Units of a row that is being made. -/
def Units (base : Nat) (wr : World) (ob : Option Nat) (us : List (Ut × List Value)) : Prop := ∀ p ∈ us, UtQ (fun b => base ≤ b ∧ b < wr.heap.size ∧ some b ≠ ob) wr p.1 p.2 ∧ p.2.length = 8
theorem Units.step {base : Nat} {wr X w2 Y w3 : World} {ob ob' : Option Nat} {us : List (Ut × List Value)} {u : Ut} {vs : List Value} (h : Units base wr ob us) (hob : ∀ k, ob = some k → base ≤ k ∧ k < wr.heap.size) (hX : Below wr.heap.size wr X) (h2 : Below X.heap.size X w2) (hY : Below w2.heap.size w2 Y) (hg : Y.grownBy w3 ob) (hat : ob' = ob ∨ ob' = some Y.heap.size) (hbase : base ≤ wr.heap.size)
    (hu : UtQ (Fresh X.heap.size w2) w2 u vs) (hl : vs.length = 8) : Units base w3 ob' (us ++ [(u, vs)]) := by
  have s1 := hX.size
  have s2 := h2.size
  have s3 := hY.size
  have s4 := hg.size
  intro p hp
  rcases List.mem_append.1 hp with hp | hp
  · obtain ⟨g1, g2⟩ := h p hp
    have q1 : ∀ b, (base ≤ b ∧ b < wr.heap.size ∧ some b ≠ ob) → (base ≤ b ∧ b < w3.heap.size ∧ some b ≠ ob') := by
      intro b hb
      refine ⟨hb.1, by omega, ?_⟩
      rcases hat with e | e
      · rw [e]; exact hb.2.2
      · rw [e]; intro e'; injection e' with e'; omega
    have q2 : ∀ b, (base ≤ b ∧ b < wr.heap.size ∧ some b ≠ ob) → w3.heap[b]? = wr.heap[b]? := by
      intro b hb
      rw [hg.block b (by omega) hb.2.2, hY.block b (by omega), h2.block b (by omega)]
      exact hX.block b hb.2.1
    exact ⟨UtQ.imp q1 q2 _ _ g1, g2⟩
  · rw [List.mem_singleton.1 hp]
    have hne : ∀ b, Fresh X.heap.size w2 b → some b ≠ ob := by
      intro b hb e'
      have h5 := (hob b e'.symm).2
      have h6 := hb.1
      omega
    have q1 : ∀ b, Fresh X.heap.size w2 b → (base ≤ b ∧ b < w3.heap.size ∧ some b ≠ ob') := by
      intro b hb
      have h6 := hb.1
      have h7 := hb.2
      refine ⟨by omega, by omega, ?_⟩
      rcases hat with e | e
      · rw [e]; exact hne b hb
      · rw [e]; intro e'; injection e' with e'; omega
    have q2 : ∀ b, Fresh X.heap.size w2 b → w3.heap[b]? = w2.heap[b]? := by
      intro b hb
      have h7 := hb.2
      rw [hg.block b (by omega) (hne b hb)]
      exact hY.block b h7
    exact ⟨UtQ.imp q1 q2 _ _ hu, hl⟩
set_option maxHeartbeats 4000000 in
set_option maxRecDepth 100000 in
theorem eachkid_any (g : Nat) (eg : ∀ args w, (callFunc g args).run Tryd.prog w = .ok (.enter g args) w) (F : Ut → Ut) (u : Ut) (v : Value) (w : World) (hV : UtV w u v) (hM : u.kids.length ≤ 1000000000)
    (H : ∀ x ∈ u.kids, ∀ (v' : Value) (W : World), Below w.heap.size w W → UtV W x v' → Calls Tryd.prog g #[v'] W fun e w' => (∃ v'', e = .returned v'' ∧ UtVQ (Fresh W.heap.size w') w' (F x) v'') ∧ Below W.heap.size W w') :
    Calls Tryd.prog 89 #[v, .func (.func g) #[] #[]] w fun e w' => (∃ A n c, e = .returned (.slice A n c) ∧ RowQ (Fresh w.heap.size w') w' A n c (u.kids.map F)) ∧ Below w.heap.size w w' := by
  cases u with
  | mk id kind label head words kids =>
    obtain ⟨Ah, Aw, Ak, nh, ch, nw, cw, nk, ck, rfl, hok, hWh, hWw, hR⟩ := hV.open_
    have HR := Lib.hid hR
    have hnk := hR.2.1
    have hck := hR.2.2.1
    have hM : kids.length ≤ 1000000000 := hM
    have hn9 : nk ≤ 1000000000 := by have := hR.1; omega
    have HKl := Lib.hid hR.1
    have HH : Hid (∀ x ∈ kids, ∀ (v' : Value) (W : World), Below w.heap.size w W → UtV W x v' → Calls Tryd.prog g #[v'] W fun e w' => (∃ v'', e = .returned v'' ∧ UtVQ (Fresh W.heap.size w') w' (F x) v'') ∧ Below W.heap.size W w') := Lib.hid H
    obtain ⟨i0, hi, hz0, hz1, hz2⟩ := info_parts info_unit
    obtain ⟨n0, n1, n2, n3, n4, n5, n6, n7⟩ := Box8.new w 27 (.int .i64 id.x) (.int .i64 id.y) (.int .i64 id.z) (.int .i64 kind) (.string label) (.slice Ah nh ch) (.slice Aw nw cw) (.slice Ak nk ck)
    have HB0 := Lib.hid (alloc_below w (.cells #[.int .i64 id.x, .int .i64 id.y, .int .i64 id.z, .int .i64 kind, .string label, .slice Ah nh ch, .slice Aw nw cw, .slice Ak nk ck] 27))
    clear hR hV H hok hWh hWw hM
    go_enter Tryd.func89, Tryd.ntmps89
    go_wp2_with fail
    go_loopw [5, 11] (fun s i wr => ∃ (k cc : Nat) (Av : Option Addr) (us : List (Ut × List Value)), k ≤ nk ∧ i = .int .i64 k ∧ s = .slice Av k cc ∧ us.map (·.1) = (kids.take k).map F ∧ wr.ownsRow w.heap.size 27 8 (.slice Av k cc) k (us.flatMap (·.2)) ∧ Units w.heap.size wr (Value.slice Av k cc).ownBlock us ∧ Below w.heap.size w wr) (fun _ i _ => nk - (intOf i).toNat)
    case atStart => exact ⟨0, 0, none, [], Nat.zero_le _, rfl, rfl, rfl, World.ownsRow_nil _ _ _ _, (fun p hp => absurd hp (by simp)), HB0.out⟩
    case round =>
      rename World => wr
      obtain ⟨k, cc, Av, us, hk, rfl, rfl, hus, hown, hun, hbr⟩ := hrel
      have hbz := hbr.size
      have HO := Lib.hid hown
      have HU := Lib.hid hun
      have HB := Lib.hid hbr
      have HUs := Lib.hid hus
      clear hown hun hus
      by_cases hlt : k < nk
      · obtain ⟨b, off, u, i1, i2, i3, kd, lb, Bh, Bw, Bk, mh, dh, mw, dw, mk, dk, rfl, hblt, hu, hUV, c0, c1, c2, c3, c4, c5, c6, c7⟩ := HR.out.at_ hbr hlt
        have hbX := alloc_below wr (.cells #[.int .i64 i1, .int .i64 i2, .int .i64 i3, .int .i64 kd, .string lb, .slice Bh mh dh, .slice Bw mw dw, .slice Bk mk dk] 27)
        have HX := Lib.hid hbX
        obtain ⟨n0, n1, n2, n3, n4, n5, n6, n7⟩ := Box8.new wr 27 (.int .i64 i1) (.int .i64 i2) (.int .i64 i3) (.int .i64 kd) (.string lb) (.slice Bh mh dh) (.slice Bw mw dw) (.slice Bk mk dk)
        have HC := Lib.hid (HH.out u (List.mem_of_getElem? hu) _ _ (hbr.trans (hbX.mono hbz)) (hUV.below hbX))
        have HT : Hid ((kids.take (k + 1)).map F = (kids.take k).map F ++ [F u]) := Lib.hid (by rw [take_one hu, List.map_append]; rfl)
        clear hbX hu hUV hbr
        go_wp2_with fail
        with_reducible refine (HC.out).mono ?_
        rintro e w2 ⟨⟨v2, rfl, vs, rfl, hq⟩, hb2⟩
        obtain ⟨o1, o2, o3, ko, lo, Oh, Ow, Ok, oh, ph, ow, pw, ok, pk, rfl⟩ := hq.shape
        have HQ := Lib.hid hq
        have HB2 := Lib.hid hb2
        have HY := Lib.hid (alloc_below w2 (.cells #[.int .i64 o1, .int .i64 o2, .int .i64 o3, .int .i64 ko, .string lo, .slice Oh oh ph, .slice Ow ow pw, .slice Ok ok pk] 27))
        have HWY := Lib.hid (HX.out.trans ((hb2.trans (HY.out.mono hb2.size)).mono HX.out.size))
        clear hq hb2
        go_wp2_with (at_builtin; refine wpList_append_own_at _ rfl _ _ 25 rfl w.heap.size 27 i0 (.agg #[.int .i64 0, .int .i64 0, .int .i64 0, .int .i64 0, .string ⟨#[]⟩, .slice none 0 0, .slice none 0 0, .slice none 0 0]) 8 120 Tryd.underlying25 hi hz0 hz1 hz2 rfl (by decide) _ _ _ rfl (own_below HO.out HWY.out) ⟨w2.heap.size, 0, none⟩ 1 1 [.int .i64 o1, .int .i64 o2, .int .i64 o3, .int .i64 ko, .string lo, .slice Oh oh ph, .slice Ow ow pw, .slice Ok ok pk] rfl rfl ?c1 ?c2 ?c3 ?c4 ?c5 ?_)
        case c1 => exact fun j u hj => new_row _ _ rfl [.int .i64 o1, .int .i64 o2, .int .i64 o3, .int .i64 ko, .string lo, .slice Oh oh ph, .slice Ow ow pw, .slice Ok ok pk] _ j u hj
        case c2 => intro u hu; simp at hu; rcases hu with rfl | rfl | rfl | rfl | rfl | rfl | rfl | rfl <;> rfl
        case c3 => unfold maxLen; omega
        case c4 => omega
        case c5 => have h1 := HWY.out.size; omega
        intro v' w3 hown' hgrow _ hat
        obtain ⟨A', c', rfl, _⟩ := own_slice hown'
        have HO' := Lib.hid hown'
        have hat' : (Value.slice A' (k + 1) c').ownBlock = (Value.slice Av k cc).ownBlock ∨ (Value.slice A' (k + 1) c').ownBlock = some (w2.alloc (.cells #[.int .i64 o1, .int .i64 o2, .int .i64 o3, .int .i64 ko, .string lo, .slice Oh oh ph, .slice Ow ow pw, .slice Ok ok pk] 27)).heap.size := by
          rw [show (w2.alloc (.cells #[.int .i64 o1, .int .i64 o2, .int .i64 o3, .int .i64 ko, .string lo, .slice Oh oh ph, .slice Ow ow pw, .slice Ok ok pk] 27)).heap.size = w2.heap.size + 1 by simp]
          exact hat
        have HU' := Lib.hid (HU.out.step HO.out.lt HX.out HB2.out HY.out hgrow hat' hbz HQ.out rfl)
        have HB3 := Lib.hid (grown_below (own_below HO.out HWY.out) (HB.out.trans (HWY.out.mono hbz)) (Nat.le_trans hbz HWY.out.size) hgrow)
        clear hown' hgrow hat hat'
        go_wp2_with fail
        go_roundw
        case rel => exact ⟨k + 1, c', A', us ++ [(F u, [.int .i64 o1, .int .i64 o2, .int .i64 o3, .int .i64 ko, .string lo, .slice Oh oh ph, .slice Ow ow pw, .slice Ok ok pk])], by omega, by go_num, rfl, by rw [List.map_append, HUs.out, HT.out]; rfl, by rw [List.flatMap_append]; exact HO'.out, HU'.out, HB3.out⟩
        case measure => simp [intOf]; omega
      · obtain rfl : k = nk := by omega
        have HT : Hid (kids.take k = kids) := Lib.hid (List.take_of_length_le (by rw [← HKl.out]; exact Nat.le_refl _))
        have hlen : us.length = k := by
          have h1 := congrArg List.length HUs.out
          rw [HT.out, List.length_map, List.length_map] at h1
          have := HKl.out
          omega
        have HRo := Lib.hid (row_own (Q := Fresh w.heap.size wr) hlen HO.out (fun b hb => HO.out.lt b hb) (fun p hp => ⟨UtQ.imp (fun b hb => ⟨hb.1, hb.2.1⟩) (fun _ _ => rfl) _ _ (HU.out p hp).1, (HU.out p hp).2⟩))
        clear hlen
        go_wp2_with fail
        go_ret
        exact ⟨⟨_, _, _, rfl, by have h := HRo.out; rw [HUs.out, HT.out] at h; exact h⟩, HB.out⟩
end Go.Proofs.YtcacnelhppakoaaDoor
