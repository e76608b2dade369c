/-
  Footnotes: contracts of other packages as calls of plain values.
-/
import Derived.Test.YtkjgmnmngbfhhaaDoorWLg
import Derived.Test.YtkjgmnmngbfhhaaDoorWc
import Derived.Test.YtkjgmnmngbfhhaaDoorSame
import Derived.Test.YtkjgmnmngbfhhaaDoorClo
import Derived.Test.YtkjgmnmngbfhhaaDoorShelf
namespace Go.Proofs.YtkjgmnmngbfhhaaDoor.Pu
open Go Go.Pv Lab Lcs Go.Proofs.YtkjgmnmngbfhhaaDoor Go.RowKit
def zeroU : Ut := .mk ⟨0, 0, 0⟩ 0 ⟨#[]⟩ [] [] []
theorem zero_le : ILe (.agg [.int .i64 0, .int .i64 0, .int .i64 0, .int .i64 0, .str ⟨#[]⟩, .nil, .nil, .nil]) (uv zeroU) := by
 show ILe _ (uv (.mk ⟨0, 0, 0⟩ 0 ⟨#[]⟩ [] [] []))
 rw [uv_mk]
 exact ILes.agg (.cons (.refl _) (.cons (.refl _) (.cons (.refl _) (.cons (.refl _) (.cons (.refl _) (.cons (.nil 4) (.cons (.nil 4) (.cons (.nil 8) (.refl [])))))))))
theorem same_pc (u u2 : Ut) (h : okU u) (h2 : okU u2) : PC Tryd.prog envU 25 [uv u, uv u2] [.bool (decide (u = u2))] :=
 lift_bool (enters_of Tryd.func25 rfl rfl) fun Q w vs hQ hR hvs => by
   unfold RepIs at hvs
   obtain ⟨v, r, rfl, h3, h4⟩ := hvs
   unfold RepIs at h4
   obtain ⟨v2, r2, rfl, h5, h6⟩ := h4
   unfold RepIs at h6
   subst h6
   exact same_any u.count u u2 v v2 w (Nat.le_refl _) (utv_to hQ h h3) (utv_to hQ h2 h5)
end Go.Proofs.YtkjgmnmngbfhhaaDoor.Pu
namespace Go.Proofs.YtkjgmnmngbfhhaaDoor.Pn
open Go Go.Pv Lab Lcs Go.Proofs.YtkjgmnmngbfhhaaDoor Go.RowKit Go.Proofs.YtkjgmnmngbfhhaaDoor.Pu
abbrev env0 : Env := envU
theorem alike_pc (a b : List Trip) (hb : b.length ≤ 100000000) : PC Tryd.prog env0 21 [.sl 3 (a.map idv), .sl 3 (b.map idv)] [.bool (decide (a = b))] := Pg.alike_pc a b hb
def fewU (u : Ut) (m : Int) : Bool := Pg.fewU u m
theorem few_pc (u : Ut) (m : Int) (hok : okU u) (h0 : 0 ≤ m) (hm : m ≤ 1000) : PC Tryd.prog env0 11 [uv u, .int .i64 m] [.bool (fewU u m)] := Pg.few_pc u m hok h0 hm
theorem few_small {u : Ut} {m : Nat} (h : fewU u m = true) : Small m u := Pg.few_small h
theorem valid_pc (s : Str) (hs : s.size ≤ 1000000) : PC Tryd.prog env0 36 [.str s] [.bool (mayL s.data.toList)] :=
 lift_bool (enters_of Tryd.func36 rfl rfl) fun Q w vs hQ hR hvs => by
   unfold RepIs at hvs
   obtain ⟨v, r, rfl, h1, h2⟩ := hvs
   unfold RepIs at h2
   subst h2
   unfold RepI at h1
   subst h1
   exact valid_any s w hR hs
theorem rmay_pc (s : Str) (hs : s.size ≤ 1000000) : PC Tryd.prog env0 37 [.str s] [.bool (mayL s.data.toList)] :=
 lift_bool (enters_of Tryd.func37 rfl rfl) fun Q w vs hQ hR hvs => by
   unfold RepIs at hvs
   obtain ⟨v, r, rfl, h1, h2⟩ := hvs
   unfold RepIs at h2
   subst h2
   unfold RepI at h1
   subst h1
   exact (may_any s w hs).mono fun e w' h => ⟨h.1, h.2 ▸ Below.refl _ _⟩
def caretS (s : Str) : Bool := s.data.toList.head? == some 94
def restS (s : Str) : Str := ⟨(s.data.toList.drop 1).toArray⟩
theorem caret_pre (l : List UInt8) : Lib.hasPrefix l [94] = (l.head? == some 94) := by
 unfold Lib.hasPrefix
 cases l with
 | nil => rfl
 | cons a l =>
   show ((94 : UInt8) == a && true) = (some a == some 94)
   rw [Bool.and_true]
   by_cases h : a = 94
   · subst h; rfl
   · have h1 : ((94 : UInt8) == a) = false := by simpa using fun e : 94 = a => h e.symm
     rw [h1]
     symm
     simpa using h
theorem cut_pc (s : Str) : PC Tryd.prog env0 35 [.str s, .str ⟨#[94]⟩] [.str (if caretS s then restS s else s), .bool (caretS s)] := by
 refine ⟨enters_of Tryd.func35 rfl rfl, fun Q w vs hQ _ _ hvs => ?_⟩
 unfold RepIs at hvs
 obtain ⟨v, r, rfl, h1, h2⟩ := hvs
 unfold RepIs at h2
 obtain ⟨v2, r2, rfl, h3, h4⟩ := h2
 unfold RepIs at h4
 subst h4
 unfold RepI at h1 h3
 subst h1
 subst h3
 refine (Tryd.strings_CutPrefix s ⟨#[94]⟩ w).mono ?_
 rintro e w' ⟨rfl, rfl⟩
 have hc : Lib.hasPrefix s.data.toList [94] = caretS s := caret_pre _
 have hl : (⟨#[94]⟩ : Str).data.toList = [94] := rfl
 refine ⟨_, Q, rfl, Below.refl _ _, fun b h => h, fun b h => ⟨Or.inl h, hQ b h⟩, ?_⟩
 unfold RepRes
 refine ⟨[.string (if caretS s then restS s else s), .bool (caretS s)], ?_, ?_⟩
 · rw [hl, hc]
   unfold Lib.trimPrefix
   rw [hc]
   cases caretS s
   · rfl
   · rfl
 · unfold RepIs RepIs RepIs RepI
   exact ⟨_, _, rfl, rfl, _, _, rfl, rfl, rfl⟩
def decB (n : Nat) : List UInt8 := if n < 10 then [48 + UInt8.ofNat n] else [48 + UInt8.ofNat (n / 10), 48 + UInt8.ofNat (n % 10)]
def decS (n : Nat) : Str := ⟨(decB n).toArray⟩
theorem dec_eq : ∀ n : Nat, n < 100 → Lib.decDigits n = decB n := by decide +kernel
theorem itoa_pc (n : Nat) (h : n < 100) : PC Tryd.prog env0 59 [.int .i64 n] [.str (decS n)] := by
 refine ⟨enters_of Tryd.func59 rfl rfl, fun Q w vs hQ _ _ hvs => ?_⟩
 unfold RepIs at hvs
 obtain ⟨v, r, rfl, h1, h2⟩ := hvs
 unfold RepIs at h2
 subst h2
 unfold RepI at h1
 subst h1
 refine (Tryd.strconv_Itoa_small n h w).mono ?_
 rintro e w' ⟨rfl, rfl⟩
 refine ⟨_, Q, rfl, Below.refl _ _, fun b h => h, fun b h => ⟨Or.inl h, hQ b h⟩, ?_⟩
 unfold RepRes RepI
 rw [dec_eq n h]
 rfl
theorem cloneU_pcr {X : Env} (L : List IV) (hL : L.length ≤ 1000000000) : PCR Tryd.prog X 58 [.sl 8 L] 27 8 L := Pt.cloneU_pcr L hL
theorem cloneW_pcr {X : Env} (L : List IV) (hL : L.length ≤ 1000000000) : PCR Tryd.prog X 57 [.sl 4 L] 52 4 L := Pt.cloneW_pcr L hL
end Go.Proofs.YtkjgmnmngbfhhaaDoor.Pn
