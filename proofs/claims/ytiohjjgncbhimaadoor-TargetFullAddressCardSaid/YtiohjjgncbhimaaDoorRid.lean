/-
  The reference: Ids.
-/
import Derived.Test.YtiohjjgncbhimaaDoorVal2
namespace Go.Proofs.YtiohjjgncbhimaaDoor
open Go.RowKit (wrap32 wrap64 intOf Hid Below)
open Lab Lcs
theorem zero_ids (u : Ut) : zeroIds u = u.ids.all fun t => decide (t = .zero) := by
 unfold zeroIds Ut.ids
 rw [List.all_map]
 rfl
theorem zid_take {l : List Trip} {k : Nat} {t : Trip} (h : l[k]? = some t) : ((l.take (k + 1)).all fun t => decide (t = .zero)) = (((l.take k).all fun t => decide (t = .zero)) && decide (t = .zero)) := by
 rw [ids_snoc h, List.all_append]
 simp
theorem nodup_no {l : List Trip} {i j : Nat} {t : Trip} (hi : l[i]? = some t) (hj : l[j]? = some t) (hne : j < i) : decide l.Nodup = false := by
 rw [decide_eq_false_iff_not]
 intro hn
 obtain ⟨h1, h2⟩ := List.getElem?_eq_some_iff.1 hi
 obtain ⟨h3, h4⟩ := List.getElem?_eq_some_iff.1 hj
 have := (List.pairwise_iff_getElem.1 hn) j i h3 h1 hne
 exact this (h4.trans h2.symm)
theorem nodup_yes {l : List Trip} (h : ∀ (i j : Nat) (t s : Trip), j < i → l[i]? = some t → l[j]? = some s → ¬ s = t) : decide l.Nodup = true := by
 rw [decide_eq_true_eq]
 refine List.pairwise_iff_getElem.2 ?_
 intro j i hj hi hji
 exact h i j l[i] l[j] hji (List.getElem?_eq_getElem hi) (List.getElem?_eq_getElem hj)
theorem trip_eq3 {x y z a b c : Int} (h : (⟨x, y, z⟩ : Trip) = ⟨a, b, c⟩) : x = a ∧ y = b ∧ z = c := by simpa using h
set_option maxHeartbeats 4000000 in
set_option maxRecDepth 100000 in
theorem rids_any (u : Ut) (v : Value) (w : World) (hV : UtV w u v) (hM : u.count ≤ 1000000000) :
   Calls Tryd.prog 51 #[v] w fun e w' => e = .returned (.bool (idsB u)) ∧ Below w.heap.size w w' := by
 have hV0 := hV
 have hpos := count_pos u
 have hid0 : u.ids[0]? = some u.id := by
   cases u with
   | mk id kind label head words kids => rw [ids_mk]; rfl
 cases u with
 | mk id kind label head words kids =>
   obtain ⟨Ah, Aw, Ak, nh, ch, nw, cw, nk, ck, rfl, _, _, _, _⟩ := hV.open_
   obtain ⟨ix, iy, iz⟩ := id
   obtain ⟨U, hU⟩ : ∃ U, U = Ut.mk ⟨ix, iy, iz⟩ kind label head words kids := ⟨_, rfl⟩
   have HUid : Hid (U.id = ⟨ix, iy, iz⟩) := Lib.hid (by rw [hU]; rfl)
   have HUk : Hid (U.kind = kind) := Lib.hid (by rw [hU]; rfl)
   rw [← hU] at hV0 hM hid0 hpos ⊢
   rw [HUid.out] at hid0
   have hb0 := alloc_below w (.cells #[.int .i64 ix, .int .i64 iy, .int .i64 iz, .int .i64 kind, .string label, .slice Ah nh ch, .slice Aw nw cw, .slice Ak nk ck] 27)
   have HB0 := Lib.hid hb0
   have HBx := Lib.hid (Box8.new w 27 (.int .i64 ix) (.int .i64 iy) (.int .i64 iz) (.int .i64 kind) (.string label) (.slice Ah nh ch) (.slice Aw nw cw) (.slice Ak nk ck))
   have HL0 := Lib.hid (alloc_lt w (.cells #[.int .i64 ix, .int .i64 iy, .int .i64 iz, .int .i64 kind, .string label, .slice Ah nh ch, .slice Aw nw cw, .slice Ak nk ck] 27))
   have HA := Lib.hid (rall_any _ U _ _ (Nat.le_refl _) hM (hV0.below hb0))
   have HE0 : Hid (idsB U = (zeroIds U || (decide U.ids.Nodup && (decide (U.id = .zero) == decide (U.kind = 0))))) := Lib.hid rfl
   have HZi := Lib.hid (zero_ids U)
   have hlen : U.ids.length = U.count := ids_length U
   obtain ⟨L, hL⟩ : ∃ L, L = U.ids := ⟨_, rfl⟩
   rw [← hL] at HA HE0 hlen hid0 HZi
   rw [HUid.out, HUk.out] at HE0
   have HI0 := Lib.hid hid0
   obtain ⟨n0, n1, n2, n3, n4, n5, n6, n7⟩ := HBx.out
   clear hV hV0 hU hb0 hL hid0
   go_enter Tryd.func51, Tryd.ntmps51
   go_wp2_with fail
   with_reducible refine (HA.out).mono ?_
   rintro e w1 ⟨⟨A, n, c, rfl, hown⟩, hb1⟩
   have hFq := Fq.of_own idc_len (by decide) hown
   have hnl : L.length = n := hFq.1
   have hnc := hFq.2.1
   have hcc := hFq.2.2.1
   have hn1 : 1 ≤ n := by omega
   have HF := Lib.hid hFq
   have HNl := Lib.hid hnl
   have HB1 := Lib.hid (HB0.out.trans (hb1.mono HB0.out.size))
   obtain ⟨b, off, ⟨t0x, t0y, t0z⟩, rfl, hblt, ht0, z0, z1, z2⟩ := Ids_at hFq (Below.refl _ _) (show 0 < n by omega)
   obtain ⟨rfl, rfl, rfl⟩ : t0x = ix ∧ t0y = iy ∧ t0z = iz := by
     rw [HI0.out] at ht0
     have := Option.some.inj ht0
     exact trip_eq3 this.symm
   rw [Nat.zero_mul, Nat.add_zero] at z0 z1 z2
   obtain ⟨p0, p1, p2, p3, p4, p5, p6, p7⟩ := HBx.out.below hb1 HL0.out
   clear hown hb1 hFq hnl hlen ht0 hpos n0 n1 n2 n3 n4 n5 n6 n7
   go_wp2_with fail
   go_loopw [4, 5] (fun s i wr => ∃ k : Nat, k ≤ n ∧ i = .int .i64 k ∧ s = .bool ((L.take k).all fun t => decide (t = .zero)) ∧ ∃ q, wr = w1.drewN q) (fun _ i _ => n - (intOf i).toNat)
   case atStart => exact ⟨0, Nat.zero_le _, rfl, rfl, 0, rfl⟩
   case round =>
     obtain ⟨k, hk, rfl, rfl, q, rfl⟩ := hrel
     by_cases hlt : k < n
     · obtain ⟨_, _, ⟨tx, ty, tz⟩, hA, _, ht, c0, c1, c2⟩ := Ids_at HF.out (below_drawn (Below.refl _ _) q) hlt
       injection hA with hA
       injection hA with e1 e2 _
       subst e1 e2
       have HT := Lib.hid (zid_take ht)
       clear ht
       cases hal : (L.take k).all fun t => decide (t = .zero) with
       | false =>
         have HAl := Lib.hid hal
         clear hal
         go_wp2_with fail
         go_roundw
         case rel => exact ⟨k + 1, by omega, by go_num, by rw [HT.out, HAl.out]; rfl, q, rfl⟩
         case measure => simp [intOf]; omega
       | true =>
         have HAl := Lib.hid hal
         clear hal
         by_cases hz : (⟨tx, ty, tz⟩ : Trip) = .zero
         · have HZ : Hid (decide ((⟨tx, ty, tz⟩ : Trip) = .zero) = true) := Lib.hid (decide_eq_true hz)
           unfold Trip.zero at hz
           obtain ⟨rfl, rfl, rfl⟩ := trip_eq3 hz
           clear hz
           go_wp2_with fail
           go_roundw
           case rel => exact ⟨k + 1, by omega, by go_num, by rw [HT.out, HAl.out, HZ.out]; rfl, q, rfl⟩
           case measure => simp [intOf]; omega
         · have HZ : Hid (decide ((⟨tx, ty, tz⟩ : Trip) = .zero) = false) := Lib.hid (decide_eq_false hz)
           rcases trip_part hz with h | ⟨rfl, h⟩ | ⟨rfl, rfl, h⟩
           all_goals
             clear hz
             go_wp2_with fail
             go_roundw
             case rel => exact ⟨k + 1, by omega, by go_num, by rw [HT.out, HAl.out, HZ.out]; rfl, q, rfl⟩
             case measure => simp [intOf]; omega
     · obtain rfl : n = k := by omega
       have HTk : Hid (L.take n = L) := Lib.hid (List.take_of_length_le (by rw [HNl.out]; exact Nat.le_refl _))
       rw [HTk.out, ← HZi.out]
       cases hzi : zeroIds U with
       | true =>
         rw [hzi] at HE0
         clear hzi
         go_wp2_with fail
         go_ret
         exact ⟨ret_bool (by rw [HE0.out]; rfl), below_drawn HB1.out q⟩
       | false =>
         rw [hzi, Bool.false_or] at HE0
         clear hzi
         have key : ∀ (bz bk : Bool), bz = decide ((⟨t0x, t0y, t0z⟩ : Trip) = .zero) → bk = decide (kind = 0) → True := fun _ _ _ _ => trivial
         clear key
         by_cases hk0 : kind = 0
         · subst hk0
           by_cases hz : (⟨t0x, t0y, t0z⟩ : Trip) = .zero
           · rw [decide_eq_true hz] at HE0
             unfold Trip.zero at hz
             obtain ⟨rfl, rfl, rfl⟩ := trip_eq3 hz
             clear hz
             go_wp2_with fail
             go_quiet (fail)
             go_wp2_with fail
             go_loopw [6] (fun i wr => ∃ k : Nat, k ≤ n ∧ i = .int .i64 k ∧ (∀ (a b : Nat) (t s : Trip), a < k → b < a → L[a]? = some t → L[b]? = some s → ¬ s = t) ∧ ∃ q, wr = w1.drewN q) (fun i _ => n - (intOf i).toNat)
             case atStart => exact ⟨0, Nat.zero_le _, rfl, fun _ _ _ _ h => absurd h (Nat.not_lt_zero _), by first | exact ⟨_, rfl⟩ | exact ⟨_, World.drewN_drewN _ _ _⟩⟩
             case round =>
               obtain ⟨k, hk, rfl, hno, q, rfl⟩ := hrel
               have HNo := Lib.hid hno
               clear hno
               by_cases hlt : k < n
               · obtain ⟨_, _, ⟨tx, ty, tz⟩, hA, _, ht, c0, c1, c2⟩ := Ids_at HF.out (below_drawn (Below.refl _ _) q) hlt
                 injection hA with hA
                 injection hA with e1 e2 _
                 subst e1 e2
                 have HT := Lib.hid ht
                 clear ht
                 go_wp2_with fail
                 go_loopw [7] (fun i wy => ∃ j : Nat, j ≤ k ∧ i = .int .i64 j ∧ (∀ (b : Nat) (s : Trip), b < j → L[b]? = some s → ¬ s = ⟨tx, ty, tz⟩) ∧ ∃ q, wy = w1.drewN q) (fun i _ => k - (intOf i).toNat)
                 case atStart => exact ⟨0, Nat.zero_le _, rfl, fun _ _ h => absurd h (Nat.not_lt_zero _), by first | exact ⟨_, rfl⟩ | exact ⟨_, World.drewN_drewN _ _ _⟩⟩
                 case round =>
                   obtain ⟨j, hj, rfl, hni, qq, rfl⟩ := hrel
                   have HNi := Lib.hid hni
                   clear hni
                   by_cases hjk : j < k
                   · have hjn : j < n := Nat.lt_trans hjk hlt
                     obtain ⟨_, _, ⟨sx, sy, sz⟩, hA, _, hs, d0, d1, d2⟩ := Ids_at HF.out (Below.refl _ _) hjn
                     injection hA with hA
                     injection hA with e1 e2 _
                     subst e1 e2
                     obtain ⟨_, _, ⟨rx, ry, rz⟩, hA, _, ht2, g0, g1, g2⟩ := Ids_at HF.out (Below.refl _ _) hlt
                     injection hA with hA
                     injection hA with e1 e2 _
                     subst e1 e2
                     rw [HT.out] at ht2
                     obtain ⟨rfl, rfl, rfl⟩ := trip_eq3 (Option.some.inj ht2)
                     clear ht2 c0 c1 c2
                     have HS := Lib.hid hs
                     clear hs
                     by_cases hz : (⟨sx, sy, sz⟩ : Trip) = ⟨tx, ty, tz⟩
                     · obtain ⟨rfl, rfl, rfl⟩ := trip_eq3 hz
                       clear hz
                       have HN := Lib.hid (nodup_no HT.out HS.out hjk)
                       go_wp2_with fail
                       go_quiet (fail)
                       go_wp2_with fail
                       go_ret
                       exact ⟨ret_bool (by rw [HE0.out, HN.out]; rfl), by first | exact below_drawn HB1.out _ | exact below_drawn (below_drawn HB1.out _) _⟩
                     · have HZ := Lib.hid hz
                       rcases trip_part hz with h | ⟨rfl, h⟩ | ⟨rfl, rfl, h⟩
                       all_goals
                         clear hz
                         go_wp2_with fail
                         go_quiet (fail)
                         go_wp2_with fail
                         go_roundw
                         case rel => exact ⟨j + 1, by omega, by go_num, fun b s hb hs => by
                           by_cases e : b = j
                           · subst e
                             rw [HS.out] at hs
                             rw [← Option.some.inj hs]
                             exact HZ.out
                           · exact HNi.out b s (by omega) hs, by first | exact ⟨_, rfl⟩ | exact ⟨_, World.drewN_drewN _ _ _⟩⟩
                         case measure => simp [intOf]; omega
                   · obtain rfl : j = k := by omega
                     clear c0 c1 c2
                     go_wp2_with fail
                     go_roundw
                     case rel => exact ⟨j + 1, by omega, by go_num, fun a b t s ha hb ht hs => by
                       by_cases e : a = j
                       · subst e
                         rw [HT.out] at ht
                         rw [← Option.some.inj ht]
                         exact HNi.out b s hb hs
                       · exact HNo.out a b t s (by omega) hb ht hs, by first | exact ⟨_, rfl⟩ | exact ⟨_, World.drewN_drewN _ _ _⟩⟩
                     case measure => simp [intOf]; omega
               · obtain rfl : n = k := by omega
                 have HN := Lib.hid (nodup_yes (l := L) fun a b t s hba ht hs => HNo.out a b t s (by obtain ⟨h1, _⟩ := List.getElem?_eq_some_iff.1 ht; have := HNl.out; omega) hba ht hs)
                 go_wp2_with fail
                 go_ret
                 exact ⟨ret_bool (by rw [HE0.out, HN.out]; rfl), by first | exact below_drawn HB1.out _ | exact below_drawn (below_drawn HB1.out _) _⟩
           · rw [decide_eq_false hz] at HE0
             rcases trip_part hz with h | ⟨rfl, h⟩ | ⟨rfl, rfl, h⟩
             all_goals
               clear hz
               go_wp2_with fail
               go_quiet (fail)
               go_wp2
               go_ret
               exact ⟨ret_bool (by rw [HE0.out]; simp), by first | exact below_drawn HB1.out _ | exact below_drawn (below_drawn HB1.out _) _⟩
         · have f0 : (kind == 0) = false := by rw [beq_eq_false_iff_ne]; exact hk0
           have f1 : decide (kind = 0) = false := decide_eq_false hk0
           by_cases hz : (⟨t0x, t0y, t0z⟩ : Trip) = .zero
           · rw [decide_eq_true hz] at HE0
             unfold Trip.zero at hz
             obtain ⟨rfl, rfl, rfl⟩ := trip_eq3 hz
             clear hz
             rw [f1] at HE0
             go_wp2_with fail
             go_quiet (fail)
             go_wp2
             go_ret
             exact ⟨ret_bool (by rw [HE0.out]; simp), by first | exact below_drawn HB1.out _ | exact below_drawn (below_drawn HB1.out _) _⟩
           · rw [decide_eq_false hz] at HE0
             rw [f1] at HE0
             rcases trip_part hz with h | ⟨rfl, h⟩ | ⟨rfl, rfl, h⟩
             all_goals
               clear hz
               go_wp2_with fail
               go_quiet (fail)
               go_wp2_with fail
               go_loopw [6] (fun i wr => ∃ k : Nat, k ≤ n ∧ i = .int .i64 k ∧ (∀ (a b : Nat) (t s : Trip), a < k → b < a → L[a]? = some t → L[b]? = some s → ¬ s = t) ∧ ∃ q, wr = w1.drewN q) (fun i _ => n - (intOf i).toNat)
               case atStart => exact ⟨0, Nat.zero_le _, rfl, fun _ _ _ _ h => absurd h (Nat.not_lt_zero _), by first | exact ⟨_, rfl⟩ | exact ⟨_, World.drewN_drewN _ _ _⟩⟩
               case round =>
                 obtain ⟨k, hk, rfl, hno, q, rfl⟩ := hrel
                 have HNo := Lib.hid hno
                 clear hno
                 by_cases hlt : k < n
                 · obtain ⟨_, _, ⟨tx, ty, tz⟩, hA, _, ht, c0, c1, c2⟩ := Ids_at HF.out (below_drawn (Below.refl _ _) q) hlt
                   injection hA with hA
                   injection hA with e1 e2 _
                   subst e1 e2
                   have HT := Lib.hid ht
                   clear ht
                   go_wp2_with fail
                   go_loopw [7] (fun i wy => ∃ j : Nat, j ≤ k ∧ i = .int .i64 j ∧ (∀ (b : Nat) (s : Trip), b < j → L[b]? = some s → ¬ s = ⟨tx, ty, tz⟩) ∧ ∃ q, wy = w1.drewN q) (fun i _ => k - (intOf i).toNat)
                   case atStart => exact ⟨0, Nat.zero_le _, rfl, fun _ _ h => absurd h (Nat.not_lt_zero _), by first | exact ⟨_, rfl⟩ | exact ⟨_, World.drewN_drewN _ _ _⟩⟩
                   case round =>
                     obtain ⟨j, hj, rfl, hni, qq, rfl⟩ := hrel
                     have HNi := Lib.hid hni
                     clear hni
                     by_cases hjk : j < k
                     · have hjn : j < n := Nat.lt_trans hjk hlt
                       obtain ⟨_, _, ⟨sx, sy, sz⟩, hA, _, hs, d0, d1, d2⟩ := Ids_at HF.out (Below.refl _ _) hjn
                       injection hA with hA
                       injection hA with e1 e2 _
                       subst e1 e2
                       obtain ⟨_, _, ⟨rx, ry, rz⟩, hA, _, ht2, g0, g1, g2⟩ := Ids_at HF.out (Below.refl _ _) hlt
                       injection hA with hA
                       injection hA with e1 e2 _
                       subst e1 e2
                       rw [HT.out] at ht2
                       obtain ⟨rfl, rfl, rfl⟩ := trip_eq3 (Option.some.inj ht2)
                       clear ht2 c0 c1 c2
                       have HS := Lib.hid hs
                       clear hs
                       by_cases hz : (⟨sx, sy, sz⟩ : Trip) = ⟨tx, ty, tz⟩
                       · obtain ⟨rfl, rfl, rfl⟩ := trip_eq3 hz
                         clear hz
                         have HN := Lib.hid (nodup_no HT.out HS.out hjk)
                         go_wp2_with fail
                         go_quiet (fail)
                         go_wp2_with fail
                         go_ret
                         exact ⟨ret_bool (by rw [HE0.out, HN.out]; rfl), by first | exact below_drawn HB1.out _ | exact below_drawn (below_drawn HB1.out _) _⟩
                       · have HZ := Lib.hid hz
                         rcases trip_part hz with h | ⟨rfl, h⟩ | ⟨rfl, rfl, h⟩
                         all_goals
                           clear hz
                           go_wp2_with fail
                           go_quiet (fail)
                           go_wp2_with fail
                           go_roundw
                           case rel => exact ⟨j + 1, by omega, by go_num, fun b s hb hs => by
                             by_cases e : b = j
                             · subst e
                               rw [HS.out] at hs
                               rw [← Option.some.inj hs]
                               exact HZ.out
                             · exact HNi.out b s (by omega) hs, by first | exact ⟨_, rfl⟩ | exact ⟨_, World.drewN_drewN _ _ _⟩⟩
                           case measure => simp [intOf]; omega
                     · obtain rfl : j = k := by omega
                       clear c0 c1 c2
                       go_wp2_with fail
                       go_roundw
                       case rel => exact ⟨j + 1, by omega, by go_num, fun a b t s ha hb ht hs => by
                         by_cases e : a = j
                         · subst e
                           rw [HT.out] at ht
                           rw [← Option.some.inj ht]
                           exact HNi.out b s hb hs
                         · exact HNo.out a b t s (by omega) hb ht hs, by first | exact ⟨_, rfl⟩ | exact ⟨_, World.drewN_drewN _ _ _⟩⟩
                       case measure => simp [intOf]; omega
                 · obtain rfl : n = k := by omega
                   have HN := Lib.hid (nodup_yes (l := L) fun a b t s hba ht hs => HNo.out a b t s (by obtain ⟨h1, _⟩ := List.getElem?_eq_some_iff.1 ht; have := HNl.out; omega) hba ht hs)
                   go_wp2_with fail
                   go_ret
                   exact ⟨ret_bool (by rw [HE0.out, HN.out]; rfl), by first | exact below_drawn HB1.out _ | exact below_drawn (below_drawn HB1.out _) _⟩
end Go.Proofs.YtiohjjgncbhimaaDoor
