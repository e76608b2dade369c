/-
  The contract of the reference's Back.
-/
import Derived.Test.YtklegjmlpaimpaaInv
import Derived.Test.YtklegjmlpaimpaaLawC
namespace Go.Proofs.Ytklegjmlpaimpaa
open Go.RowKit (wrap32 wrap64 intOf Hid Below)
open Lcs Rise

theorem SqO.of_old {w X : World} {base n c qq cc size : Nat} {e : TypeId} {A Av : Option Addr} {S : List Str} {vs : List Value} (h : Sq w A n c S) (hb : Below w.heap.size w X) (ho : X.ownsRow base e size (.slice Av qq cc) qq vs) (hbase : w.heap.size ≤ base) : SqO (Value.slice Av qq cc).ownBlock X A n c S := by
  refine ⟨h.below hb, fun hn b off he hob => ?_⟩
  obtain ⟨b', off', e', hlt, _⟩ := h.1.1.2 hn
  rw [he] at e'
  injection e' with e'
  injection e' with e1 _
  have := (ho.lt b hob.symm).1
  omega

theorem ob_fresh' {w : World} {base n size g : Nat} {e : TypeId} {v : Value} {xs : List Value} (h : w.ownsRow base e size v n xs) (hg : w.heap.size ≤ g) : v.ownBlock ≠ some g := fun e => by
  have := (h.lt g e).2
  omega
theorem new_cells2 (w : World) (o : Obj) (c : Array Value) (t : TypeId) (j : Nat) (u : Value) (h : c.toList[j]? = some u) : ((w.alloc o).alloc (.cells c t)).cell? ((⟨w.heap.size + 1, 0, none⟩ : Addr).add j) = some u := by
  have h1 := new_cells (w.alloc o) c t j u h
  have e : (w.alloc o).heap.size = w.heap.size + 1 := by simp
  rwa [e] at h1

set_option maxHeartbeats 8000000 in
set_option maxRecDepth 100000 in
theorem back_any (L : List Ed) (n c : Nat) (A : Option Addr) (w : World) (hl : Eds w A n c L) (hn : n ≤ 1000) (hs : Short L) :
    Calls Try.prog 23 #[.slice A n c] w fun e w' => EdsRet (invW 0 L) e w' ∧ Below w.heap.size w w' := by
  have HL := Lib.hid hl
  have HS := Lib.hid hs
  have HLl := Lib.hid hl.1
  obtain ⟨k0, hk0, hk1, hk2, hk3⟩ := info_parts info_edit
  have hA0 := alloc_below w (.cells #[] 39)
  have HO0 := Lib.hid (own_empty w 39 3)
  clear hl hs
  go_enter Try.func23, Try.ntmps23
  go_wp2
  go_loopw [3, 4, 5] (fun v z i wr => ∃ (k qq cc : Nat) (sh : Int) (Av : Option Addr) (K : List Ed) (vs : List Value), k ≤ n ∧ i = .int .i64 k ∧ v = .slice Av qq cc ∧ z = .int .i64 sh ∧ qq = K.length ∧ qq ≤ k ∧ -(k * 1000 : Nat) ≤ sh ∧ sh ≤ (k * 1000 : Nat) ∧ invW 0 L = K ++ invW sh (L.drop k) ∧ OSt w.heap.size Av qq cc K vs wr ∧ Below w.heap.size w wr) (fun _ _ i _ => n - (intOf i).toNat)
  case atStart => exact ⟨0, 0, 0, 0, _, [], [], Nat.zero_le _, rfl, rfl, rfl, rfl, Nat.zero_le _, by omega, by omega, by rw [List.drop_zero, List.nil_append], ⟨HO0.out, rfl⟩, hA0⟩
  case round =>
    obtain ⟨k, qq, cc, sh, Av, K, vs, hk, rfl, rfl, rfl, hqq, hqk, s1, s2, hd, hst, hbr⟩ := hrel
    have HQq := Lib.hid hqq
    have HD := Lib.hid hd
    have HSt := Lib.hid hst
    have hbz := hbr.size
    clear hqq hd hst
    by_cases hlt : k < n
    · obtain ⟨b, off, Ao, An, no, co, nn, cn, rfl, hblt, e0, e1, e2, so, sn⟩ := HL.out.at_ hlt
      have e0 := (hbr.cell (p := ⟨b, off + k * 3, none⟩) hblt).trans e0
      have e1 := (hbr.cell (p := ⟨b, off + k * 3 + 1, none⟩) hblt).trans e1
      have e2 := (hbr.cell (p := ⟨b, off + k * 3 + 2, none⟩) hblt).trans e2
      have hsh := HS.out k (by have := HLl.out; omega)
      have hdr := ed_drop (L := L) (k := k) (by have := HLl.out; omega)
      obtain ⟨E, hE⟩ : ∃ E, E = ed L k := ⟨_, rfl⟩
      rw [← hE] at e0 so sn hsh hdr
      obtain ⟨P, hP⟩ : ∃ P, P = E.pos := ⟨_, rfl⟩
      rw [← hP] at e0
      have hno : no ≤ 1000 := by have := so.len; omega
      have hnn : nn ≤ 1000 := by have := sn.len; omega
      have HSo := Lib.hid so
      have HSn := Lib.hid sn
      have HDr := Lib.hid hdr
      have HPe := Lib.hid hP
      have HNo : Hid (E.old.length = no) := Lib.hid so.len
      have HNn : Hid (E.new.length = nn) := Lib.hid sn.len
      obtain ⟨Q, hQ⟩ : ∃ Q, Q = IntKind.i64.wrap (P + sh) := ⟨_, rfl⟩
      have hQ' : IntKind.i64.wrap (P + sh) = Q := hQ.symm
      have HQe := Lib.hid hQ
      clear hE hP so sn hdr hsh hQ
      obtain ⟨Z, hZe⟩ : ∃ Z, Z = (wr.alloc (.cells #[.int .i64 P, .slice Ao no co, .slice An nn cn] 39)).alloc (.cells #[.int .i64 Q, .slice An nn cn, .slice Ao no co] 39) := ⟨_, rfl⟩
      have hZb : Below wr.heap.size wr Z := by rw [hZe]; exact two_below wr _ _
      have z0 : Z.cell? ⟨wr.heap.size, 0, none⟩ = some (.int .i64 P) := by rw [hZe, World.cell?_alloc_past _ _ _ (by simp), World.cell?_alloc_at _ _ _ _ rfl]; rfl
      have z1 : Z.cell? ⟨wr.heap.size, 1, none⟩ = some (.slice Ao no co) := by rw [hZe, World.cell?_alloc_past _ _ _ (by simp), World.cell?_alloc_at _ _ _ _ rfl]; rfl
      have z2 : Z.cell? ⟨wr.heap.size, 2, none⟩ = some (.slice An nn cn) := by rw [hZe, World.cell?_alloc_past _ _ _ (by simp), World.cell?_alloc_at _ _ _ _ rfl]; rfl
      have hobN : (Value.slice Av qq cc).ownBlock ≠ some wr.heap.size := ob_fresh' HSt.out.own (Nat.le_refl _)
      have HZ0 := Lib.hid z0
      have HZ1 := Lib.hid z1
      have HZ2 := Lib.hid z2
      have HOb := Lib.hid hobN
      have HZe := Lib.hid hZe
      clear z0 z1 z2 hobN hZe
      go_wp2_with (at_builtin; refine wpList_append_own_at _ rfl _ _ 31 rfl w.heap.size 39 k0 (.agg #[.int .i64 0, .slice none 0 0, .slice none 0 0]) 3 56 Try.underlying31 hk0 hk1 hk2 hk3 rfl (by decide) _ _ _ rfl (own_below HSt.out.own (two_below wr _ _)) ⟨wr.heap.size + 1, 0, none⟩ 1 1 [.int .i64 Q, .slice An nn cn, .slice Ao no co] rfl rfl (fun j u hj => new_cells2 wr _ _ _ j u hj) (by intro u hu; simp at hu; rcases hu with rfl | rfl | rfl <;> rfl) (by unfold maxLen; omega) (by omega) (by simp; omega) ?_)
      intro v5 w5 hown5 hgrow5 _ hat5
      obtain ⟨A6, c6, rfl, _⟩ := own_slice hown5
      rw [← HZe.out] at hgrow5
      have hat : (Value.slice A6 (qq + 1) c6).ownBlock = (Value.slice Av qq cc).ownBlock ∨ (Value.slice A6 (qq + 1) c6).ownBlock = some Z.heap.size := by
        rcases hat5 with h | h
        · exact Or.inl h
        · refine Or.inr (h.trans ?_)
          rw [HZe.out]
          simp
      have hbZ := hbr.trans (hZb.mono hbz)
      have HG6 := Lib.hid ((HSt.out.below hZb).more (e := ⟨Q, E.new, E.old⟩) (SqO.of_old HSn.out hbZ (HSt.out.below hZb).own (Nat.le_refl _)) (SqO.of_old HSo.out hbZ (HSt.out.below hZb).own (Nat.le_refl _)) rfl hown5 hgrow5 hat)
      have hb5 : Below w.heap.size w w5 := Below.grown hbZ hgrow5 hbZ.size (fun g hg => ((HSt.out.below hZb).own.lt g hg).1)
      have s3 := hgrow5.cell HZ0.out (Ne.symm HOb.out)
      have s4 := hgrow5.cell HZ1.out (Ne.symm HOb.out)
      have s5 := hgrow5.cell HZ2.out (Ne.symm HOb.out)
      clear hgrow5 hat5 hown5 hat hbZ hZb e0 e1 e2
      go_wp2
      go_roundw
      case rel => exact ⟨k + 1, qq + 1, c6, sh + (nn : Int) - no, A6, _, _, by omega, by go_num, rfl, by first | rfl | go_num, by rw [List.length_append, ← HQq.out]; rfl, by omega, by omega, by omega, by rw [HD.out, HDr.out, invW, HNn.out, HNo.out, ← HPe.out, ← HQe.out, List.append_assoc]; rfl, HG6.out, hb5⟩
      case measure => simp [intOf]; omega
    · obtain rfl : k = n := by omega
      have HFin : Hid (invW 0 L = K) := Lib.hid (by rw [HD.out, List.drop_of_length_le (by have := HLl.out; omega), invW, List.append_nil])
      go_wp2
      go_ret
      exact ⟨⟨Av, qq, cc, rfl, by rw [HFin.out]; exact HSt.out.eds' HQq.out⟩, hbr⟩
end Go.Proofs.Ytklegjmlpaimpaa
