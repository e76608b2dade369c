/-
  Corpus: short steps; the tables of types; the law's example, by reckoning.
-/
import Derived.Test.YtglkpmhamekpmaaProg
import Derived.Test.YtglkpmhamekpmaaP8
namespace Go.Proofs.Ytglkpmhamekpmaa.Po
open Go Go.Pv Go.RowKit
set_option linter.unusedSimpArgs false
set_option maxRecDepth 10000
set_option maxHeartbeats 16000000
theorem qT {c A B : Prop} (k : A) (h : ¬ c → False := by intro hc; first | omega | (simp [eqC, cellsI] at hc; first | done | omega) | contradiction) : Fork c (fun _ => A) (fun _ => B) := .mk (fun _ => k) (fun hc => (h hc).elim)
theorem qF {c A B : Prop} (k : B) (h : c → False := by intro hc; first | omega | (simp [eqC, cellsI] at hc; first | done | omega) | contradiction) : Fork c (fun _ => A) (fun _ => B) := .mk (fun hc => (h hc).elim) (fun _ => k)
theorem qO {P X : Prop} (k : X) (h : P := by first | omega | exact Or.inl (by first | omega | (unfold most; omega) | decide +kernel | exact Nat.le_of_ble_eq_true rfl | assumption) | assumption | (unfold most; omega) | decide +kernel | exact Nat.le_of_ble_eq_true rfl | assumption | (simp [most]; omega)) : Owe P X := .mk h k
theorem qSL {Γ : Ctx} {n : Nat} {A A' : List (Nat × PV)} {B B' : List Blk} (m : Nat) (hB : B.take m = B') (hm : B'.length = m)
   (hn0 : Γ.n0 ≤ m := by first | omega | (rw [h0]; exact Nat.le_of_ble_eq_true rfl))
   (hbl : B'.all (blkBelow m) = true := by first | (simp only [List.all_cons, List.all_nil, blkBelow, belowL_imm, belowL, belowB, Bool.and_true, Bool.true_and]; first | done | decide) | rfl | simp [blkBelow, belowB, belowL, belowL_imm])
   (hE : wkV m A A' := by (repeat ((conv => whnf); first | exact trivial | refine And.intro (by first | exact WkOne.any | exact WkOne.eq (by with_reducible rfl) rfl | exact WkOne.int (by first | omega | (simp; first | done | omega)) | exact WkOne.eq rfl rfl | exact WkOne.le rfl (ILe.nil _)) ?_))) : WeakA Γ n ⟨A, B⟩ ⟨A', B'⟩ := WeakA.slots m hn0 hB hm hbl hE
theorem tq_int : tdOf Try.prog 3 = some ⟨false, 1, [.int .i64 0], .int .i64⟩ := by kernel_rfl
theorem tq_string : tdOf Try.prog 9 = some ⟨false, 1, [.str ⟨#[]⟩], .str⟩ := by kernel_rfl
theorem tq_bool : tdOf Try.prog 4 = some ⟨false, 1, [.bool false], .bool⟩ := by kernel_rfl
theorem tq_s_int : tdOf Try.prog 89 = some ⟨false, 1, [.nil], .slice 3 1 8⟩ := by kernel_rfl
theorem tq_apiId : tdOf Try.prog 32 = some ⟨true, 3, [.int .i64 0, .int .i64 0, .int .i64 0], .struct [(0, 1, false), (1, 1, false), (2, 1, false)]⟩ := by kernel_rfl
theorem tq_apiMark : tdOf Try.prog 128 = some ⟨true, 3, [.int .i64 0, .int .i64 0, .int .i64 0], .struct [(0, 1, false), (1, 1, false), (2, 1, false)]⟩ := by kernel_rfl
theorem tq_apiWord : tdOf Try.prog 130 = some ⟨true, 4, [.str ⟨#[]⟩, .int .i64 0, .int .i64 0, .int .i64 0], .struct [(0, 1, false), (1, 3, true)]⟩ := by kernel_rfl
theorem tq_s_apiWord : tdOf Try.prog 33 = some ⟨false, 1, [.nil], .slice 130 4 40⟩ := by kernel_rfl
theorem tq_apiUnit : tdOf Try.prog 36 = some ⟨true, 8, [.int .i64 0, .int .i64 0, .int .i64 0, .int .i64 0, .str ⟨#[]⟩, .nil, .nil, .nil], .struct [(0, 3, true), (3, 1, false), (4, 1, false), (5, 1, false), (6, 1, false), (7, 1, false)]⟩ := by kernel_rfl
theorem tq_s_apiUnit : tdOf Try.prog 34 = some ⟨false, 1, [.nil], .slice 36 8 120⟩ := by kernel_rfl
theorem tq_apiStep : tdOf Try.prog 66 = some ⟨true, 2, [.int .i64 0, .str ⟨#[]⟩], .struct [(0, 1, false), (1, 1, false)]⟩ := by kernel_rfl
theorem tq_s_apiStep : tdOf Try.prog 30 = some ⟨false, 1, [.nil], .slice 66 2 24⟩ := by kernel_rfl
theorem tq_s_string : tdOf Try.prog 37 = some ⟨false, 1, [.nil], .slice 9 1 16⟩ := by kernel_rfl
theorem tq_apiStart : tdOf Try.prog 39 = some ⟨true, 3, [.int .i64 0, .int .i64 0, .str ⟨#[]⟩], .struct [(0, 1, false), (1, 1, false), (2, 1, false)]⟩ := by kernel_rfl
theorem tq_apiItem : tdOf Try.prog 42 = some ⟨true, 25, [.int .i64 0, .nil, .nil, .int .i64 0, .int .i64 0, .int .i64 0, .int .i64 0, .int .i64 0, .int .i64 0, .str ⟨#[]⟩, .nil, .nil, .nil, .nil, .nil, .str ⟨#[]⟩, .str ⟨#[]⟩, .int .i64 0, .int .i64 0, .str ⟨#[]⟩, .int .i64 0, .int .i64 0, .int .i64 0, .str ⟨#[]⟩, .nil], .struct [(0, 1, false), (1, 1, false), (2, 1, false), (3, 1, false), (4, 1, false), (5, 8, true), (13, 1, false), (14, 1, false), (15, 1, false), (16, 1, false), (17, 3, true), (20, 1, false), (21, 1, false), (22, 1, false), (23, 1, false), (24, 1, false)]⟩ := by kernel_rfl
theorem tq_s_apiItem : tdOf Try.prog 40 = some ⟨false, 1, [.nil], .slice 42 25 368⟩ := by kernel_rfl
theorem tq_apiEnactedItem : tdOf Try.prog 44 = some ⟨true, 28, [.int .i64 0, .int .i64 0, .int .i64 0, .int .i64 0, .nil, .nil, .int .i64 0, .int .i64 0, .int .i64 0, .int .i64 0, .int .i64 0, .int .i64 0, .str ⟨#[]⟩, .nil, .nil, .nil, .nil, .nil, .str ⟨#[]⟩, .str ⟨#[]⟩, .int .i64 0, .int .i64 0, .str ⟨#[]⟩, .int .i64 0, .int .i64 0, .int .i64 0, .str ⟨#[]⟩, .nil], .struct [(0, 1, false), (1, 1, false), (2, 1, false), (3, 25, true)]⟩ := by kernel_rfl
theorem tq_s_apiEnactedItem : tdOf Try.prog 26 = some ⟨false, 1, [.nil], .slice 44 28 392⟩ := by kernel_rfl
theorem tq_apiItemRef : tdOf Try.prog 114 = some ⟨true, 2, [.int .i64 0, .int .i64 0], .struct [(0, 1, false), (1, 1, false)]⟩ := by kernel_rfl
theorem tq_apiAct : tdOf Try.prog 57 = some ⟨true, 7, [.int .i64 0, .str ⟨#[]⟩, .int .i64 0, .int .i64 0, .int .i64 0, .str ⟨#[]⟩, .nil], .struct [(0, 1, false), (1, 1, false), (2, 1, false), (3, 3, true), (6, 1, false)]⟩ := by kernel_rfl
theorem tq_s_apiAct : tdOf Try.prog 54 = some ⟨false, 1, [.nil], .slice 57 7 88⟩ := by kernel_rfl
theorem tq_apiGazette : tdOf Try.prog 60 = some ⟨true, 4, [.int .i64 0, .int .i64 0, .str ⟨#[]⟩, .nil], .struct [(0, 1, false), (1, 1, false), (2, 1, false), (3, 1, false)]⟩ := by kernel_rfl
theorem tq_s_apiGazette : tdOf Try.prog 22 = some ⟨false, 1, [.nil], .slice 60 4 56⟩ := by kernel_rfl
theorem tq_m_int_apiAct : tdOf Try.prog 68 = some ⟨false, 1, [.nm], .map 3 57⟩ := by kernel_rfl
theorem tq_m_int_bool : tdOf Try.prog 69 = some ⟨false, 1, [.nm], .map 3 4⟩ := by kernel_rfl
theorem tq_m_apiItemRef_apiEnactedItem : tdOf Try.prog 70 = some ⟨false, 1, [.nm], .map 114 44⟩ := by kernel_rfl
theorem tq_corpusregister : tdOf Try.prog 72 = some ⟨true, 3, [.nm, .nm, .nm], .struct [(0, 1, false), (1, 1, false), (2, 1, false)]⟩ := by kernel_rfl
def tdl : List (TypeId × TD) := [(3, ⟨false, 1, [.int .i64 0], .int .i64⟩), (9, ⟨false, 1, [.str ⟨#[]⟩], .str⟩), (4, ⟨false, 1, [.bool false], .bool⟩), (89, ⟨false, 1, [.nil], .slice 3 1 8⟩), (32, ⟨true, 3, [.int .i64 0, .int .i64 0, .int .i64 0], .struct [(0, 1, false), (1, 1, false), (2, 1, false)]⟩), (128, ⟨true, 3, [.int .i64 0, .int .i64 0, .int .i64 0], .struct [(0, 1, false), (1, 1, false), (2, 1, false)]⟩), (130, ⟨true, 4, [.str ⟨#[]⟩, .int .i64 0, .int .i64 0, .int .i64 0], .struct [(0, 1, false), (1, 3, true)]⟩), (33, ⟨false, 1, [.nil], .slice 130 4 40⟩), (36, ⟨true, 8, [.int .i64 0, .int .i64 0, .int .i64 0, .int .i64 0, .str ⟨#[]⟩, .nil, .nil, .nil], .struct [(0, 3, true), (3, 1, false), (4, 1, false), (5, 1, false), (6, 1, false), (7, 1, false)]⟩), (34, ⟨false, 1, [.nil], .slice 36 8 120⟩), (66, ⟨true, 2, [.int .i64 0, .str ⟨#[]⟩], .struct [(0, 1, false), (1, 1, false)]⟩), (30, ⟨false, 1, [.nil], .slice 66 2 24⟩), (37, ⟨false, 1, [.nil], .slice 9 1 16⟩), (39, ⟨true, 3, [.int .i64 0, .int .i64 0, .str ⟨#[]⟩], .struct [(0, 1, false), (1, 1, false), (2, 1, false)]⟩), (42, ⟨true, 25, [.int .i64 0, .nil, .nil, .int .i64 0, .int .i64 0, .int .i64 0, .int .i64 0, .int .i64 0, .int .i64 0, .str ⟨#[]⟩, .nil, .nil, .nil, .nil, .nil, .str ⟨#[]⟩, .str ⟨#[]⟩, .int .i64 0, .int .i64 0, .str ⟨#[]⟩, .int .i64 0, .int .i64 0, .int .i64 0, .str ⟨#[]⟩, .nil], .struct [(0, 1, false), (1, 1, false), (2, 1, false), (3, 1, false), (4, 1, false), (5, 8, true), (13, 1, false), (14, 1, false), (15, 1, false), (16, 1, false), (17, 3, true), (20, 1, false), (21, 1, false), (22, 1, false), (23, 1, false), (24, 1, false)]⟩), (40, ⟨false, 1, [.nil], .slice 42 25 368⟩), (44, ⟨true, 28, [.int .i64 0, .int .i64 0, .int .i64 0, .int .i64 0, .nil, .nil, .int .i64 0, .int .i64 0, .int .i64 0, .int .i64 0, .int .i64 0, .int .i64 0, .str ⟨#[]⟩, .nil, .nil, .nil, .nil, .nil, .str ⟨#[]⟩, .str ⟨#[]⟩, .int .i64 0, .int .i64 0, .str ⟨#[]⟩, .int .i64 0, .int .i64 0, .int .i64 0, .str ⟨#[]⟩, .nil], .struct [(0, 1, false), (1, 1, false), (2, 1, false), (3, 25, true)]⟩), (26, ⟨false, 1, [.nil], .slice 44 28 392⟩), (114, ⟨true, 2, [.int .i64 0, .int .i64 0], .struct [(0, 1, false), (1, 1, false)]⟩), (57, ⟨true, 7, [.int .i64 0, .str ⟨#[]⟩, .int .i64 0, .int .i64 0, .int .i64 0, .str ⟨#[]⟩, .nil], .struct [(0, 1, false), (1, 1, false), (2, 1, false), (3, 3, true), (6, 1, false)]⟩), (54, ⟨false, 1, [.nil], .slice 57 7 88⟩), (60, ⟨true, 4, [.int .i64 0, .int .i64 0, .str ⟨#[]⟩, .nil], .struct [(0, 1, false), (1, 1, false), (2, 1, false), (3, 1, false)]⟩), (22, ⟨false, 1, [.nil], .slice 60 4 56⟩), (68, ⟨false, 1, [.nm], .map 3 57⟩), (69, ⟨false, 1, [.nm], .map 3 4⟩), (70, ⟨false, 1, [.nm], .map 114 44⟩), (72, ⟨true, 3, [.nm, .nm, .nm], .struct [(0, 1, false), (1, 1, false), (2, 1, false)]⟩)]
theorem tdl_ok : AllTd Try.prog tdl := ⟨tq_int, tq_string, tq_bool, tq_s_int, tq_apiId, tq_apiMark, tq_apiWord, tq_s_apiWord, tq_apiUnit, tq_s_apiUnit, tq_apiStep, tq_s_apiStep, tq_s_string, tq_apiStart, tq_apiItem, tq_s_apiItem, tq_apiEnactedItem, tq_s_apiEnactedItem, tq_apiItemRef, tq_apiAct, tq_s_apiAct, tq_apiGazette, tq_s_apiGazette, tq_m_int_apiAct, tq_m_int_bool, tq_m_apiItemRef_apiEnactedItem, tq_corpusregister, trivial⟩
theorem mixed : Try.prog.follows .mixedOrders = true := by kernel_rfl
theorem eqsP2_ok : EqsOK Try.prog (eqsP Try.prog) := eqsP_ok
def eqs : TypeId → Option (List CK) := fun t => if t = 114 then some [.int .i64, .int .i64] else if t = 39 then some [.int .i64, .int .i64, .str] else if t = 66 then some [.int .i64, .str] else none
theorem eqs_ok : EqsOK Try.prog eqs := fun t ks h => eqsP_ok t ks (by
 unfold eqs at h
 split at h
 · rename_i e; subst e; rw [← h]; kernel_rfl
 · split at h
   · rename_i e; subst e; rw [← h]; kernel_rfl
   · split at h
     · rename_i e; subst e; rw [← h]; kernel_rfl
     · cases h)
noncomputable def tbn (fr : Nat → List Nat) (hk : Nat → Bool) : Tb := ⟨Pv.look tdl, eqs, fun _ => none, fr, hk, fun _ => 0⟩
noncomputable abbrev tbf (fr : Nat → List Nat) : Tb := tbn fr fun _ => false
noncomputable def tb0 : Tb := tbf fun _ => []
theorem tb_ok {fr : Nat → List Nat} {hk : Nat → Bool} : ∀ t d, (tbn fr hk).td t = some d → tdOf Try.prog t = some d := Pv.look_ok tdl_ok
def env0 : Env := ⟨fun _ => none, fun _ => True, fun _ _ _ _ => trivial⟩
theorem take_at {α : Type} {l : List α} {k : Nat} {x : α} (hx : l[k]? = some x) : l.take (k + 1) = l.take k ++ [x] := by rw [List.take_add_one, hx]; rfl
set_option maxRecDepth 100000 in
theorem awake_pc : PC Try.prog env0 10 [] [.bool true] :=
 exF_pc (eq := eqsP Try.prog) (ct := fun _ _ _ => none) (fz := fun f => f == 10) (S := 6) (M := 4000) (n := 60) eqsP2_ok mixed (fun _ _ _ _ _ h => by cases h) (by kernel_rfl)
end Go.Proofs.Ytglkpmhamekpmaa.Po
