/-
  The contract of Apply.
-/
import Derived.Test.YtklegjmlpaimpaaRap
namespace Go.Proofs.Ytklegjmlpaimpaa
open Go.RowKit (wrap32 wrap64 intOf Hid Below)
open Lcs Rise

theorem wpList_append_vat {P : Program} (w : World) {ops : Array Oper} {rest : List Oper} {o : Oper} {a : Act} {Q : Exit → Act → World → Prop} (hgd : o.guard = none) (s x : Operand) (t : TypeId)
    (ho : o.op = .call { callee := .builtin .append, args := #[s, x], argTypes := #[t, t] })
    (base : Nat) (e : TypeId) (i : TypeInfo) (z : Value) (bytes : Nat) (ht : P.underlying t = some (.slice e)) (hi : P.info? e = some i) (hz : i.zero = some z)
    (hsize : i.size = 1) (hby : i.bytes = bytes) (hzs : z.cells.size = 1)
    (v : Value) (n : Nat) (xs : List Value) (hs : a.eval s = v) (hown : w.ownsRow base e 1 v n xs)
    (B : Nat) (A : Option Addr) (m c : Nat) (news : List Value) (hx : a.eval x = .slice A m c) (hr : ValsAt B w A m news) (h1 : ∀ u ∈ news, u.oneCell' = true)
    (h63 : n + m ≤ maxLen) (hbytes : (n + m) * bytes ≤ 140737488355328) (hbase : base ≤ w.heap.size)
    (h : ∀ A' c' w', w'.ownsRow base e 1 (.slice A' (n + m) c') (n + m) (xs ++ news) → w.grownBy w' v.ownBlock → ((Value.slice A' (n + m) c').ownBlock = v.ownBlock ∨ (Value.slice A' (n + m) c').ownBlock = some w.heap.size) → wpList P ops Q rest (a.put o.dst (.slice A' (n + m) c')) w') : wpList P ops Q (o :: rest) a w :=
  wpList_plain hgd fun _ hK => wp_append_vat w s x t ho base e i z bytes ht hi hz hsize hby hzs v n xs hs hown B A m c news hx hr h1 h63 hbytes hbase fun A' c' w' h2 h3 h4 => hK _ _ (h A' c' w' h2 h3 h4)

set_option maxHeartbeats 2000000 in
theorem occurs_any (La S : List Str) (n c no co : Nat) (P : Int) (A Ao : Option Addr) (w : World) (ha : Sq w A n c La) (hs : Sq w Ao no co S) (hn : n ≤ 1000) (hno : no ≤ 1000) (hp : 0 ≤ P) (hp2 : P ≤ 9223372036854775807) :
    Calls Try.prog 36 #[.slice A n c, .slice Ao no co, .int .i64 P] w fun e w' => e = .returned (.bool (decide (P + no ≤ n ∧ (La.drop P.toNat).take no = S))) ∧ Below w.heap.size w w' := by
  have HA := Lib.hid ha
  have HS := Lib.hid hs
  have hnc := ha.1.2.1
  obtain ⟨i0_, hi, hz0, hz1, hz2⟩ := info_parts info_str
  clear ha hs hz0 hz2
  have g2 : IntKind.i64.wrap ((n : Int) - P) = (n : Int) - P := by rw [IntKind.wrap_i64]; omega
  by_cases h : P + no ≤ n
  · obtain ⟨p, rfl⟩ : ∃ p : Nat, P = p := ⟨P.toNat, by omega⟩
    have g1 : IntKind.i64.wrap ((p : Int) + (no : Int)) = (p : Int) + no := by rw [IntKind.wrap_i64]; omega
    have h4 : (no : Int) ≤ (n : Int) - p := by omega
    have d4 : decide ((no : Int) ≤ (n : Int) - p) = true := decide_eq_true h4
    have hsl : ∀ W, (Instr.slice 22 (.slice A n c) (some (.int .i64 (p : Int))) (some (.int .i64 ((p : Int) + no))) none).run Try.prog W = .ok (.slice (tl A c p 1) no (c - p)) W := fun W => by
      have h := run_part (P := Try.prog) (t := 22) Try.underlying22 hi hz1 A n c p (p + no) (by omega) (by omega) W
      rwa [show p + no - p = no by omega] at h
    have hv := (HA.out.1.1).part c p (p + no) (by omega) (by omega) hnc
    rw [sv_cut, show p + no - p = no by omega] at hv
    have HC := Lib.hid (weq_any ((La.drop p).take no) S no no (c - p) co (tl A c p 1) Ao w hv HS.out.1.1 (by omega) (by omega))
    have HB : Hid (decide ((p : Int) + no ≤ n ∧ (La.drop (p : Int).toNat).take no = S) = decide ((La.drop p).take no = S)) := Lib.hid (by
      rw [decide_eq_decide, Int.toNat_natCast]
      exact ⟨fun h => h.2, fun h' => ⟨h, h'⟩⟩)
    rw [HB.out]
    clear hv
    go_enter Try.func36, Try.ntmps36
    go_wp2_with (go_at_call 30; ((with_reducible refine (HC.out).mono ?_); rintro e w1 ⟨rfl, q, rfl⟩))
    go_ret
    exact ⟨rfl, below_drawn (Below.refl _ _) _⟩
  · have h4 : ¬ (no : Int) ≤ (n : Int) - P := by omega
    have d4 : decide ((no : Int) ≤ (n : Int) - P) = false := decide_eq_false h4
    have HB : Hid (decide (P + no ≤ n ∧ (La.drop P.toNat).take no = S) = false) := Lib.hid (decide_eq_false fun h' => h h'.1)
    rw [HB.out]
    clear h
    go_enter Try.func36, Try.ntmps36
    go_wp2
    go_ret
    exact ⟨rfl, Below.refl _ _⟩
end Go.Proofs.Ytklegjmlpaimpaa
