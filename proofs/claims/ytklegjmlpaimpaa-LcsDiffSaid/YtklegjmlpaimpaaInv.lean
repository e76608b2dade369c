/-
  The contracts of Invert and of the reference's Back.
-/
import Derived.Test.YtklegjmlpaimpaaEdm
namespace Go.Proofs.Ytklegjmlpaimpaa
open Go.RowKit (wrap32 wrap64 intOf Hid Below)
open Lcs Rise

/-- The edits that undo, as the program counts. -/
def invW : Int → List Ed → List Ed
  | _, [] => []
  | s, e :: r => ⟨IntKind.i64.wrap (e.pos + s), e.new, e.old⟩ :: invW (s + e.new.length - e.old.length) r
theorem invW_len : ∀ (L : List Ed) (s : Int), (invW s L).length = L.length
  | [], _ => rfl
  | e :: r, s => by unfold invW; rw [List.length_cons, List.length_cons, invW_len r]
/-- No edit is long. -/
def Short (L : List Ed) : Prop := ∀ k, k < L.length → (ed L k).old.length ≤ 1000 ∧ (ed L k).new.length ≤ 1000
theorem ed_drop {L : List Ed} {k : Nat} (hk : k < L.length) : L.drop k = ed L k :: L.drop (k + 1) := by
  unfold ed
  rw [List.getD, List.getElem?_eq_getElem hk]
  exact List.drop_eq_getElem_cons hk
/-- A sequence away from a row. -/
def SqO (ob : Option Nat) (w : World) (A : Option Addr) (n c : Nat) (L : List Str) : Prop := Sq w A n c L ∧ (0 < n → ∀ b off, A = some ⟨b, off, none⟩ → some b ≠ ob)
theorem SqO.below {ob : Option Nat} {w w' : World} {A : Option Addr} {n c : Nat} {L : List Str} (h : SqO ob w A n c L) (hb : Below w.heap.size w w') : SqO ob w' A n c L := ⟨h.1.below hb, h.2⟩
theorem SqO.grown {ob ob' : Option Nat} {w w' : World} {A : Option Addr} {n c : Nat} {L : List Str} (h : SqO ob w A n c L) (hg : w.grownBy w' ob) (hat : ob' = ob ∨ ob' = some w.heap.size) : SqO ob' w' A n c L := by
  obtain ⟨⟨⟨⟨h1, h2⟩, h3, h4, h5, h6⟩, h7⟩, h8⟩ := h
  refine ⟨⟨⟨⟨h1, fun hn => ?_⟩, h3, h4, h5, Nat.le_refl _⟩, h7⟩, fun hn b off e => ?_⟩
  · obtain ⟨b, off, e, hlt, hc⟩ := h2 hn
    exact ⟨b, off, e, Nat.lt_of_lt_of_le hlt hg.size, fun k u hk => hg.cell (hc k u hk) (h8 hn b off e)⟩
  · rcases hat with rfl | rfl
    · exact h8 hn b off e
    · obtain ⟨b', off', e', hlt, _⟩ := h2 hn
      rw [e] at e'
      injection e' with e'
      injection e' with e1 _
      intro e2
      injection e2 with e2
      omega
/-- Edits of the call's own. -/
structure OSt (base : Nat) (Av : Option Addr) (qq cc : Nat) (K : List Ed) (vs : List Value) (X : World) : Prop where
  own : X.ownsRow base 39 3 (.slice Av qq cc) qq vs
  eds : EdC (SqO (Value.slice Av qq cc).ownBlock X) vs K
theorem OSt.below {base : Nat} {Av : Option Addr} {qq cc : Nat} {K : List Ed} {vs : List Value} {X Y : World} (h : OSt base Av qq cc K vs X) (hb : Below X.heap.size X Y) : OSt base Av qq cc K vs Y :=
  ⟨own_below h.own hb, h.eds.mono fun _ _ _ _ x => x.below hb⟩
theorem OSt.more {base : Nat} {Av A' : Option Addr} {qq cc c' : Nat} {K : List Ed} {vs vs' : List Value} {X Y : World} (h : OSt base Av qq cc K vs X) {e : Ed} {Ao An : Option Addr} {no co nn cn : Nat}
    (ho : SqO (Value.slice Av qq cc).ownBlock X Ao no co e.old) (hn : SqO (Value.slice Av qq cc).ownBlock X An nn cn e.new) (hvs : vs' = vs ++ [.int .i64 e.pos, .slice Ao no co, .slice An nn cn])
    (hown : Y.ownsRow base 39 3 (.slice A' (qq + 1) c') (qq + 1) vs') (hgrow : X.grownBy Y (Value.slice Av qq cc).ownBlock) (hat : (Value.slice A' (qq + 1) c').ownBlock = (Value.slice Av qq cc).ownBlock ∨ (Value.slice A' (qq + 1) c').ownBlock = some X.heap.size) : OSt base A' (qq + 1) c' (K ++ [e]) vs' Y := by
  subst hvs
  exact ⟨hown, (h.eds.snoc e ho hn).mono fun _ _ _ _ x => x.grown hgrow hat⟩
theorem OSt.eds' {base : Nat} {Av : Option Addr} {qq cc : Nat} {K : List Ed} {vs : List Value} {X : World} (h : OSt base Av qq cc K vs X) (hq : qq = K.length) : Eds X Av qq cc K := Eds.of_own h.own (h.eds.mono fun _ _ _ _ x => x.1) hq

set_option maxHeartbeats 8000000 in
set_option maxRecDepth 100000 in
theorem invert_any (L : List Ed) (n c : Nat) (A : Option Addr) (w : World) (hl : Eds w A n c L) (hn : n ≤ 1000) (hs : Short L) :
    Calls Try.prog 21 #[.slice A n c] w fun e w' => EdsRet (invW 0 L) e w' ∧ Below w.heap.size w w' := by
  have HL := Lib.hid hl
  have HS := Lib.hid hs
  have HLl := Lib.hid hl.1
  obtain ⟨k0, hk0, hk1, hk2, hk3⟩ := info_parts info_edit
  have HK0 := Lib.hid hk0
  have HK1 := Lib.hid hk1
  have HK2 := Lib.hid hk2
  have HK3 := Lib.hid hk3
  clear hl hs hk0 hk1 hk2 hk3
  go_enter Try.func21, Try.ntmps21
  go_wp2
  go_loopw [3, 4, 9] (fun v z i wr => ∃ (k qq cc : Nat) (sh : Int) (Av : Option Addr) (K : List Ed) (vs : List Value), k ≤ n ∧ i = .int .i64 k ∧ v = .slice Av qq cc ∧ z = .int .i64 sh ∧ qq = K.length ∧ qq ≤ k ∧ -(k * 1000 : Nat) ≤ sh ∧ sh ≤ (k * 1000 : Nat) ∧ invW 0 L = K ++ invW sh (L.drop k) ∧ OSt w.heap.size Av qq cc K vs wr ∧ Below w.heap.size w wr) (fun _ _ i _ => n - (intOf i).toNat)
  case atStart => exact ⟨0, 0, 0, 0, none, [], [], Nat.zero_le _, rfl, rfl, rfl, rfl, Nat.zero_le _, by omega, by omega, by rw [List.drop_zero, List.nil_append], ⟨World.ownsRow_nil _ _ _ _, rfl⟩, Below.refl _ _⟩
  case round =>
    obtain ⟨k, qq, cc, sh, Av, K, vs, hk, rfl, rfl, rfl, hqq, hqk, s1, s2, hd, hst, hbr⟩ := hrel
    have HQq := Lib.hid hqq
    have HD := Lib.hid hd
    have HSt := Lib.hid hst
    have hbz := hbr.size
    clear hqq hd hst
    by_cases hlt : k < n
    · obtain ⟨b, off, Ao, An, no, co, nn, cn, rfl, hblt, e0, e1, e2, so, sn⟩ := HL.out.at_ hlt
      have e0 := (hbr.cell (p := ⟨b, off + k * 3, none⟩) hblt).trans e0
      have e1 := (hbr.cell (p := ⟨b, off + k * 3 + 1, none⟩) hblt).trans e1
      have e2 := (hbr.cell (p := ⟨b, off + k * 3 + 2, none⟩) hblt).trans e2
      have hsh := HS.out k (by have := HLl.out; omega)
      have hdr := ed_drop (L := L) (k := k) (by have := HLl.out; omega)
      obtain ⟨E, hE⟩ : ∃ E, E = ed L k := ⟨_, rfl⟩
      rw [← hE] at e0 so sn hsh hdr
      obtain ⟨P, hP⟩ : ∃ P, P = E.pos := ⟨_, rfl⟩
      rw [← hP] at e0
      have hno : no ≤ 1000 := by have := so.len; omega
      have hnn : nn ≤ 1000 := by have := sn.len; omega
      have HSo := Lib.hid so
      have HSn := Lib.hid sn
      have HDr := Lib.hid hdr
      have HPe := Lib.hid hP
      have HNo : Hid (E.old.length = no) := Lib.hid so.len
      have HNn : Hid (E.new.length = nn) := Lib.hid sn.len
      clear hE hP so sn hdr hsh
      obtain ⟨X, hXe⟩ : ∃ X, X = wr.alloc (.cells #[.int .i64 P, .slice Ao no co, .slice An nn cn] 39) := ⟨_, rfl⟩
      obtain ⟨N, hN⟩ : ∃ N, N = wr.heap.size := ⟨_, rfl⟩
      have n0 : X.cell? ⟨N, 0, none⟩ = some (.int .i64 P) := by rw [hXe, hN, World.cell?_alloc_at _ _ _ _ rfl]; rfl
      have n1 : X.cell? ⟨N, 1, none⟩ = some (.slice Ao no co) := by rw [hXe, hN, World.cell?_alloc_at _ _ _ _ rfl]; rfl
      have n2 : X.cell? ⟨N, 2, none⟩ = some (.slice An nn cn) := by rw [hXe, hN, World.cell?_alloc_at _ _ _ _ rfl]; rfl
      have hNX : N < X.heap.size := by rw [hXe, hN]; simp
      have hbWX : Below wr.heap.size wr X := by rw [hXe]; exact alloc_below wr _
      have hbX : Below w.heap.size w X := hbr.trans (hbWX.mono hbz)
      have HX := Lib.hid (HSt.out.below hbWX)
      have HS4 : Hid (∀ w', Below X.heap.size X w' → w'.cell? ⟨N, 0, none⟩ = some (.int .i64 P) ∧ w'.cell? ⟨N, 1, none⟩ = some (.slice Ao no co) ∧ w'.cell? ⟨N, 2, none⟩ = some (.slice An nn cn)) := Lib.hid fun w' h =>
        ⟨(h.cell (p := ⟨N, 0, none⟩) hNX).trans n0, (h.cell (p := ⟨N, 1, none⟩) hNX).trans n1, (h.cell (p := ⟨N, 2, none⟩) hNX).trans n2⟩
      have hobN : (Value.slice Av qq cc).ownBlock ≠ some N := fun e => by
        have := (HSt.out.own.lt N e).2
        omega
      have HS5 : Hid (∀ Z w5, Below X.heap.size X Z → Z.grownBy w5 (Value.slice Av qq cc).ownBlock → w5.cell? ⟨N, 0, none⟩ = some (.int .i64 P) ∧ w5.cell? ⟨N, 1, none⟩ = some (.slice Ao no co) ∧ w5.cell? ⟨N, 2, none⟩ = some (.slice An nn cn)) := Lib.hid fun Z w5 h hg => by
        obtain ⟨s1, s2, s3⟩ := HS4.out Z h
        exact ⟨hg.cell s1 (Ne.symm hobN), hg.cell s2 (Ne.symm hobN), hg.cell s3 (Ne.symm hobN)⟩
      have fresh : ∀ (w' : World) (A' : Option Addr), Below X.heap.size X w' → (∀ b off, A' = some ⟨b, off, none⟩ → w'.heap.size ≤ b) → ∀ b off, A' = some ⟨b, off, none⟩ → some b ≠ (Value.slice Av qq cc).ownBlock := fun w' A' h k4 b off he hob => by
        have := (HX.out.own.lt b hob.symm).2
        have := k4 b off he
        have := h.size
        omega
      have HCa : Hid (∀ w', Below X.heap.size X w' → Calls Try.prog 31 #[.slice An nn cn] w' fun e w'' => ∃ A' c', e = .returned (.slice A' nn c') ∧ SqO (Value.slice Av qq cc).ownBlock w'' A' nn c' E.new ∧ Below X.heap.size X w'') := Lib.hid fun w' h =>
        (copy_any _ nn cn An w' ((HSn.out.below (hbX.trans (h.mono hbX.size))).1.1) (by omega)).mono fun e w'' ⟨A', c', k1, k2, k3, k4⟩ => ⟨A', c', k1, ⟨k2, fun _ => fresh w' A' h k4⟩, h.trans (k3.mono h.size)⟩
      have HCb : Hid (∀ w', Below X.heap.size X w' → Calls Try.prog 31 #[.slice Ao no co] w' fun e w'' => ∃ A' c', e = .returned (.slice A' no c') ∧ SqO (Value.slice Av qq cc).ownBlock w'' A' no c' E.old ∧ Below X.heap.size X w'' ∧ Below w'.heap.size w' w'') := Lib.hid fun w' h =>
        (copy_any _ no co Ao w' ((HSo.out.below (hbX.trans (h.mono hbX.size))).1.1) (by omega)).mono fun e w'' ⟨A', c', k1, k2, k3, k4⟩ => ⟨A', c', k1, ⟨k2, fun _ => fresh w' A' h k4⟩, h.trans (k3.mono h.size), k3⟩
      have HOw : Hid (∀ w', Below X.heap.size X w' → w'.ownsRow w.heap.size 39 3 (.slice Av qq cc) qq vs) := Lib.hid fun w' h => own_below HX.out.own h
      have hX3 : w.heap.size ≤ X.heap.size := hbX.size
      obtain ⟨Q, hQ⟩ : ∃ Q, Q = IntKind.i64.wrap (P + sh) := ⟨_, rfl⟩
      have hQ' : IntKind.i64.wrap (P + sh) = Q := hQ.symm
      have HQe := Lib.hid hQ
      have hk0 := HK0.out
      have hk1 := HK1.out
      have hk2 := HK2.out
      have hk3 := HK3.out
      clear hobN fresh hQ
      go_wp2
      rw [← hXe, ← hN]
      clear hXe hN e0 e1 e2
      go_region_held3 (fun w' => w'.cell? ⟨N, 0, none⟩ = some (.int .i64 P) ∧ w'.cell? ⟨N, 1, none⟩ = some (.slice Ao no co) ∧ w'.cell? ⟨N, 2, none⟩ = some (.slice An nn cn)) (with_reducible (first | exact HS4.out _ (Below.refl _ _) | exact HS4.out _ (Below.refl _ _).drew | exact HS4.out _ hbA | exact HS4.out _ hbA.drew | exact HS4.out _ hbB | exact HS4.out _ hbB.drew | exact HS4.out _ (hbB.alloc hbB.size _) | exact HS4.out _ (hbB.drew.alloc hbB.size _) | exact HS4.out _ (hbB.alloc hbB.size _).drew | exact HS5.out _ _ (hbB.alloc hbB.size _) hgrow5 | exact HS5.out _ _ (hbB.alloc hbB.size _).drew hgrow5 | exact HS5.out _ _ (hbB.drew.alloc hbB.size _) hgrow5)) (first
        | (go_at_call 31; ((with_reducible refine (HCa.out _ ?_).mono ?_); (with_reducible (first | exact Below.refl _ _ | exact (Below.refl _ _).drew)); rintro e wA ⟨A4, c4, rfl, hsA, hbA⟩))
        | (go_at_call 31; ((with_reducible refine (HCb.out _ ?_).mono ?_); (with_reducible (first | exact hbA | exact hbA.drew)); rintro e wB ⟨A5, c5, rfl, hsB, hbB, hbAB⟩))
        | ((refine step_append_at (by rfl) _ _ _ (by rfl) w.heap.size 39 k0 (.agg #[.int .i64 0, .slice none 0 0, .slice none 0 0]) 3 56 Try.underlying31 hk0 hk1 hk2 hk3 rfl (by omega) (.slice Av qq cc) qq vs (by rfl) (HOw.out _ (by first | exact hbB.alloc hbB.size _ | exact (hbB.alloc hbB.size _).drew | exact hbB.drew.alloc hbB.size _)) ⟨wB.heap.size, 0, none⟩ 1 1 [.int .i64 Q, .slice A4 nn c4, .slice A5 no c5] (by rfl) rfl (by exact fun j u hj => new_cells _ _ _ j u hj) (by intro u hu; simp at hu; rcases hu with rfl | rfl | rfl <;> rfl) (by unfold maxLen; omega) (by omega) (by have := hbB.size; simp; omega) ?_; intro v5 w5 hown5 hgrow5 hat5; (obtain ⟨A6, c6, rfl, _⟩ := own_slice hown5)))
        | fail)
      all_goals
        obtain ⟨Z, hZ, hgr, hat⟩ : ∃ Z, Below wB.heap.size wB Z ∧ Z.grownBy w5 (Value.slice Av qq cc).ownBlock ∧ ((Value.slice A6 (qq + 1) c6).ownBlock = (Value.slice Av qq cc).ownBlock ∨ (Value.slice A6 (qq + 1) c6).ownBlock = some Z.heap.size) := ⟨_, by first | exact alloc_below _ _ | exact (alloc_below _ _).drew | exact (Below.refl _ _).drew.alloc (Nat.le_refl _) _, hgrow5, hat5⟩
        have hAB : Below wA.heap.size wA wB := ⟨hbAB.os, hbAB.tape, hbAB.output, hbAB.size, hbAB.block⟩
        have hZX : Below X.heap.size X Z := hbB.trans (hZ.mono hbB.size)
        have HG6 := Lib.hid ((HX.out.below hZX).more (e := ⟨Q, E.new, E.old⟩) ((hsA.below hAB).below hZ) (hsB.below hZ) rfl hown5 hgr hat)
        have hb5 : Below w.heap.size w w5 := Below.grown (hbX.trans (hZX.mono hX3)) hgr (by have := hZX.size; omega) (fun g hg => (HX.out.own.lt g hg).1)
        obtain ⟨s3, s4, s5⟩ := HS5.out Z w5 hZX hgr
        clear hgrow5 hat5 hown5 hsA hsB hbA hbB hbAB hZ hgr hat hAB hZX
        go_wp2
        go_roundw
        case rel => exact ⟨k + 1, qq + 1, c6, sh + ((nn : Int) - no), A6, _, _, by omega, by go_num, rfl, rfl, by rw [List.length_append, ← HQq.out]; rfl, by omega, by omega, by omega, by rw [HD.out, HDr.out, invW, HNn.out, HNo.out, ← HPe.out, ← HQe.out, List.append_assoc, show sh + (nn : Int) - no = sh + ((nn : Int) - no) by omega]; rfl, HG6.out, hb5⟩
        case measure => simp [intOf]; omega
    · obtain rfl : k = n := by omega
      have HFin : Hid (invW 0 L = K) := Lib.hid (by rw [HD.out, List.drop_of_length_le (by have := HLl.out; omega), invW, List.append_nil])
      go_wp2
      go_ret
      exact ⟨⟨Av, qq, cc, rfl, by rw [HFin.out]; exact HSt.out.eds' HQq.out⟩, hbr⟩
end Go.Proofs.Ytklegjmlpaimpaa
