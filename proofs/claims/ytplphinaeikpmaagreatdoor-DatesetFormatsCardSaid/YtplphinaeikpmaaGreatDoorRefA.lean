/-
  The reference's membership, its test of a list, its comparison of integers.
-/
import Derived.Test.YtplphinaeikpmaaGreatDoorCon
import Derived.Laws.AppendOwnNone
import Derived.OwnWalk
namespace Go.Proofs.YtplphinaeikpmaaGreatDoor
open Go.RowKit (wrap32 wrap64 intOf Hid Below)
open Spans

/-- An append to the call's own of what may be nil. -/
theorem wpList_append_opt {P : Program} {w : World} {ops : Array Oper} {rest : List Oper} {o : Oper} {a : Act} {Q : Exit → Act → World → Prop} (hgd : o.guard = none) (s x : Operand) (t : TypeId)
    (ho : o.op = .call { callee := .builtin .append, args := #[s, x], argTypes := #[t, t] })
    (base : Nat) (e : TypeId) (i : TypeInfo) (z : Value) (size bytes : Nat) (ht : P.underlying t = some (.slice e)) (hi : P.info? e = some i) (hz : i.zero = some z)
    (hsize : i.size = size) (hby : i.bytes = bytes) (hzs : z.cells.size = size) (hsz : 0 < size)
    (v : Value) (n : Nat) (xs : List Value) (hs : a.eval s = v) (hown : w.ownsRow base e size v n xs)
    (ao : Option Addr) (m c : Nat) (news : List Value) (hx : a.eval x = .slice ao m c) (hnone : ao = none → m = 0 ∧ c = 0) (hl : news.length = m * size) (hnews : ∀ ad, ao = some ad → ∀ j u, news[j]? = some u → w.cell? (ad.add j) = some u) (h1 : ∀ u ∈ news, u.oneCell' = true)
    (h63 : n + m ≤ maxLen) (hbytes : (n + m) * bytes ≤ 140737488355328) (hbase : base ≤ w.heap.size)
    (h : ∀ v' w', w'.ownsRow base e size v' (n + m) (xs ++ news) → w.grownBy w' v.ownBlock → wpList P ops Q rest (a.put o.dst v') w') : wpList P ops Q (o :: rest) a w := by
  cases ao with
  | some ad => exact wpList_append_own w hgd s x t ho base e i z size bytes ht hi hz hsize hby hzs hsz v n xs hs hown ad m c news hx hl (hnews ad rfl) h1 h63 hbytes hbase fun v' w' h2 h3 _ => h v' w' h2 h3
  | none =>
    obtain ⟨rfl, rfl⟩ := hnone rfl
    obtain rfl : news = [] := List.eq_nil_of_length_eq_zero (by simpa using hl)
    refine wpList_append_own_none hgd s x t ho base e i size ht hi v n xs hs hown hx (h v w ?_ (World.grownBy.refl _ _))
    rw [List.append_nil]
    exact hown

theorem con_step (L : List Sp) (k : Nat) (hk : k < L.length) (d : Int) : conB (L.take (k + 1)) d = (conB (L.take k) d || (decide (0 ≤ d ∧ d ≤ 1048576) && decide (fr L k ≤ d ∧ d < tu L k))) := by
  unfold conB
  rw [memB_take_step L k hk d]
  cases decide (0 ≤ d ∧ d ≤ 1048576) <;> rfl
theorem con_some (L : List Sp) (k : Nat) (hk : k < L.length) (d : Int) (h0 : 0 ≤ d ∧ d ≤ 1048576) (h : fr L k ≤ d ∧ d < tu L k) : conB L d = true := by
  unfold conB
  rw [decide_eq_true h0, memB_some L k hk d (decide_eq_true h)]
  rfl

set_option maxHeartbeats 1000000 in
theorem has_any (La : List Sp) (B N ca : Nat) (Aa : Option Addr) (d : Int) (w : World) (hza : SpansAt B w Aa N La) (hN : N ≤ 2000000) :
    Calls Tryz.prog 60 #[.slice Aa N ca, .int .i64 d] w fun e w' => e = .returned (.bool (conB La d)) ∧ w' = w := by
  have HLEN := Lib.hid hza.1
  have hd : d < 0 ∨ 1048576 < d ∨ (0 ≤ d ∧ d ≤ 1048576) := by omega
  go_enter Tryz.func60, Tryz.ntmps60
  go_wp2
  go_loop [5] (fun i => ∃ k : Nat, k ≤ N ∧ i = .int .i64 k ∧ conB (La.take k) d = false) (fun i => N - (intOf i).toNat)
  case atStart => exact ⟨0, Nat.zero_le _, rfl, by simp [conB, memB]⟩
  case round =>
    obtain ⟨k, hk, rfl, hm⟩ := hrel
    have HM := Lib.hid hm
    clear hm
    by_cases hlt : k < N
    · have HT := Lib.hid (con_step La k (by have := HLEN.out; omega) d)
      obtain ⟨b, off, rfl, hB', h1, h2⟩ := hza.cells (Below.refl _ _) hlt
      have HS := Lib.hid (con_some La k (by have := HLEN.out; omega) d)
      clear hza
      rcases hd with hd | hd | ⟨h0, h0'⟩
      · have HX : Hid (decide (0 ≤ d ∧ d ≤ 1048576) = false) := Lib.hid (by rw [decide_eq_false_iff_not]; omega)
        go_wp2
        go_round
        case rel => exact ⟨k + 1, by omega, by go_num, by rw [HT.out, HM.out, HX.out]; rfl⟩
        case measure => simp [intOf]; omega
      · have HX : Hid (decide (0 ≤ d ∧ d ≤ 1048576) = false) := Lib.hid (by rw [decide_eq_false_iff_not]; omega)
        have hd2 : 0 ≤ d := by omega
        go_wp2
        go_round
        case rel => exact ⟨k + 1, by omega, by go_num, by rw [HT.out, HM.out, HX.out]; rfl⟩
        case measure => simp [intOf]; omega
      · by_cases c1 : fr La k ≤ d
        · by_cases c2 : d < tu La k
          · go_wp2
            go_ret
            exact ⟨ret_bool (HS.out ⟨h0, h0'⟩ ⟨c1, c2⟩).symm, rfl⟩
          · have HX : Hid (decide (fr La k ≤ d ∧ d < tu La k) = false) := Lib.hid (by rw [decide_eq_false_iff_not]; omega)
            go_wp2
            go_round
            case rel => exact ⟨k + 1, by omega, by go_num, by rw [HT.out, HM.out, HX.out, Bool.and_false]; rfl⟩
            case measure => simp [intOf]; omega
        · have HX : Hid (decide (fr La k ≤ d ∧ d < tu La k) = false) := Lib.hid (by rw [decide_eq_false_iff_not]; omega)
          go_wp2
          go_round
          case rel => exact ⟨k + 1, by omega, by go_num, by rw [HT.out, HM.out, HX.out, Bool.and_false]; rfl⟩
          case measure => simp [intOf]; omega
    · obtain rfl : k = N := by omega
      have e : La.take k = La := List.take_of_length_le (by have := HLEN.out; omega)
      rw [e] at HM
      clear hza
      go_wp2
      go_ret
      exact ⟨ret_bool HM.out.symm, rfl⟩

/-- The three operations on memberships. -/
def opB (h : Int) (x y : Bool) : Bool := if h = 0 then x || y else if h = 1 then x && y else x && !y
set_option maxHeartbeats 1000000 in
theorem counts_any (h : Int) (hh : h = 0 ∨ h = 1 ∨ h = 2) (La Lb : List Sp) (B N ca M cb : Nat) (Aa Ab : Option Addr) (d : Int) (w : World) (hza : SpansAt B w Aa N La) (hN : N ≤ 2000000) (hzb : SpansAt B w Ab M Lb) (hM : M ≤ 2000000) :
    Calls Tryz.prog 43 #[.int .i64 h, .slice Aa N ca, .slice Ab M cb, .int .i64 d] w fun e w' => e = .returned (.bool (opB h (conB La d) (conB Lb d))) ∧ w' = w := by
  have HA := Lib.hid (has_any La B N ca Aa d w hza hN)
  have HB := Lib.hid (has_any Lb B M cb Ab d w hzb hM)
  clear hza hzb
  rcases hh with rfl | rfl | rfl
  all_goals
    go_enter Tryz.func43, Tryz.ntmps43
    go_wp2_with (first
      | (go_at_call 60; ((with_reducible refine (HA.out).mono ?_); rintro e w1 ⟨rfl, rfl⟩))
      | (go_at_call 60; ((with_reducible refine (HB.out).mono ?_); rintro e w1 ⟨rfl, rfl⟩)))
    all_goals
      go_ret
      exact ⟨ret_bool (by first | rfl | (simp_all [opB])), rfl⟩

theorem sepB_take : ∀ (L : List Sp) (lo : Int), (∀ k, k < L.length → fr L k < tu L k ∧ tu L k ≤ 1048577 ∧ (if k = 0 then lo else tu L (k - 1)) < fr L k) → sepB lo L = true
  | [], _, _ => rfl
  | s :: r, lo, h => by
    obtain ⟨h1, h2, h3⟩ := h 0 (by simp)
    rw [if_pos rfl] at h3
    have e1 : fr (s :: r) 0 = s.1 := rfl
    have e2 : tu (s :: r) 0 = s.2 := rfl
    rw [e1] at h1 h3
    rw [e2] at h1 h2
    have ih := sepB_take r s.2 (fun k hk => by
      obtain ⟨g1, g2, g3⟩ := h (k + 1) (by simpa using hk)
      rw [if_neg (by omega)] at g3
      refine ⟨g1, g2, ?_⟩
      by_cases hk0 : k = 0
      · subst hk0
        rw [if_pos rfl]
        exact g3
      · rw [if_neg hk0]
        obtain ⟨j, rfl⟩ : ∃ j, k = j + 1 := ⟨k - 1, by omega⟩
        exact g3)
    rw [sepB, ih]
    simp [h1, h2, h3]
theorem sepB_all : ∀ (L : List Sp) (lo : Int), sepB lo L = true → ∀ k, k < L.length → fr L k < tu L k ∧ tu L k ≤ 1048577 ∧ (if k = 0 then lo else tu L (k - 1)) < fr L k
  | [], _, _, k, hk => by simp at hk
  | s :: r, lo, h, k, hk => by
    rw [sepB] at h
    simp only [Bool.and_eq_true, decide_eq_true_eq] at h
    obtain ⟨h1, h2, h3, h4⟩ := h
    have ih := sepB_all r s.2 h4
    by_cases hk0 : k = 0
    · subst hk0
      rw [if_pos rfl]
      exact ⟨h2, h3, h1⟩
    · obtain ⟨j, rfl⟩ : ∃ j, k = j + 1 := ⟨k - 1, by omega⟩
      obtain ⟨g1, g2, g3⟩ := ih j (by simpa using hk)
      rw [if_neg (by omega)]
      refine ⟨g1, g2, ?_⟩
      by_cases hj : j = 0
      · subst hj
        rw [if_pos rfl] at g3
        exact g3
      · rw [if_neg hj] at g3
        obtain ⟨i, rfl⟩ : ∃ i, j = i + 1 := ⟨j - 1, by omega⟩
        exact g3
/-- The k-th span of a canonical list stands where it must. -/
def spOk (L : List Sp) (k : Nat) : Prop := fr L k < tu L k ∧ tu L k ≤ 1048577 ∧ (if k = 0 then -1 else tu L (k - 1)) < fr L k
end Go.Proofs.YtplphinaeikpmaaGreatDoor
