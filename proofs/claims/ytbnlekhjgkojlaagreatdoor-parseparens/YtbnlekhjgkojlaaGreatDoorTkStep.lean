import Derived.WalkKit
import Derived.Lib.ValidU
import Derived.Lib.Strings
import Derived.Deep.RegionLaw
namespace Go.Proofs.YtbnlekhjgkojlaaGreatDoor
open Go.RowKit
def nb (c : Int) (f : Bool) : Bool :=
 decide ((97 ≤ c ∧ c ≤ 122) ∨ (65 ≤ c ∧ c ≤ 90) ∨ c = 95 ∨ (f = false ∧ ((48 ≤ c ∧ c ≤ 57) ∨ c = 45 ∨ c = 46)))
theorem ret_bool {a b : Bool} (h : a = b) : Ending.returned (.bool a) = .returned (.bool b) := by rw [h]
theorem ret_int {k : IntKind} {a b : Int} (h : a = b) : Ending.returned (.int k a) = .returned (.int k b) := by rw [h]
theorem bcell {W w1 : World} (hb : Below W.heap.size W w1) : (∀ b o, b < W.heap.size → w1.cell? ⟨b, o, none⟩ = W.cell? ⟨b, o, none⟩) ∧ (∀ b o, b < W.heap.size → w1.frozen? ⟨b, o, none⟩ = W.frozen? ⟨b, o, none⟩) :=
 ⟨fun b o h => hb.cell (p := ⟨b, o, none⟩) h, fun b o h => hb.frozen (p := ⟨b, o, none⟩) h⟩
def byteAt (s : ByteArray) (k : Nat) : Int := ((s.data.toList.getD k 0).toNat : Int)
theorem byteAt_eq (s : ByteArray) (k : Nat) (h : k < s.size) : (s[k].toNat : Int) = byteAt s k := by
 unfold byteAt
 have h' : k < s.data.size := h
 rw [List.getD_eq_getElem?_getD, List.getElem?_eq_getElem (by simpa using h')]
 rfl
def ctl (c : Int) : Bool := decide (32 ≤ c ∨ c = 9 ∨ c = 10)
theorem ctl_yes {c : Int} (h : ctl c = true) : (32 ≤ c) ∨ ((c < 32) ∧ (c == 9) = true ∧ (c != 9) = false) ∨ ((c < 32) ∧ (c == 9) = false ∧ (c != 9) = true ∧ (c == 10) = true ∧ (c != 10) = false) := by
 have := of_decide_eq_true h
 rcases this with h | rfl | rfl
 · exact .inl h
 · exact .inr (.inl (by decide))
 · exact .inr (.inr (by decide))
theorem ctl_no {c : Int} (h : ctl c = false) : (c < 32) ∧ (c == 9) = false ∧ (c != 9) = true ∧ (c == 10) = false ∧ (c != 10) = true := by
 have := of_decide_eq_false h
 refine ⟨by omega, ?_, ?_, ?_, ?_⟩ <;> simp <;> omega
def ctlTo (s : ByteArray) (k : Nat) : Bool := (List.range k).all fun j => ctl (byteAt s j)
theorem ctlTo_succ (s : ByteArray) (k : Nat) : ctlTo s (k + 1) = (ctlTo s k && ctl (byteAt s k)) := by
 simp [ctlTo, List.range_succ, List.all_append]
theorem ctlTo_no {s : ByteArray} {k n : Nat} (hk : k < n) (hb : ctl (byteAt s k) = false) : ctlTo s n = false := by
 rw [ctlTo, List.all_eq_false]
 exact ⟨k, List.mem_range.2 hk, by simp [hb]⟩
def textF (s : ByteArray) : Int :=
 if 20000 < s.size then 1 else if (Lib.validD s.data.toList && ctlTo s s.size) = true then 0 else 4
theorem textF_size {s : ByteArray} (h : 20000 < s.size) : textF s = 1 := by unfold textF; rw [if_pos h]
theorem textF_ok {s : ByteArray} (h : ¬ 20000 < s.size) (hv : Lib.validD s.data.toList = true) (ho : ctlTo s s.size = true) : textF s = 0 := by
 unfold textF; rw [if_neg h, hv, ho]; rfl
theorem textF_no {s : ByteArray} (h : ¬ 20000 < s.size) (hv : (Lib.validD s.data.toList && ctlTo s s.size) = false) : textF s = 4 := by
 unfold textF; rw [if_neg h, hv]; rfl
theorem textF_ctl {s : ByteArray} {k : Nat} (h : ¬ 20000 < s.size) (hk : k < s.size) (hb : ctl (byteAt s k) = false) : textF s = 4 :=
 textF_no h (by rw [ctlTo_no hk hb, Bool.and_false])
open Go.RowKit
def lett (c : Int) : Bool := decide ((97 ≤ c ∧ c ≤ 122) ∨ (65 ≤ c ∧ c ≤ 90) ∨ c = 95)
def dgt (c : Int) : Bool := decide (48 ≤ c ∧ c ≤ 57)
def wb (c : Int) (f : Bool) : Bool := lett c || (!f && (dgt c || decide (c = 45)))
def bAt (l : List UInt8) (k : Nat) : Int := ((l.getD k 0).toNat : Int)
theorem byteAt_bAt (s : ByteArray) (k : Nat) : byteAt s k = bAt s.data.toList k := rfl
theorem bAt_cons (c : UInt8) (l : List UInt8) (k : Nat) : bAt (c :: l) (k + 1) = bAt l k := by simp [bAt]
theorem bAt_zero (c : UInt8) (l : List UInt8) : bAt (c :: l) 0 = (c.toNat : Int) := by simp [bAt]
theorem bAt_drop (l : List UInt8) (a k : Nat) : bAt (l.drop a) k = bAt l (a + k) := by
 unfold bAt; rw [List.getD_eq_getElem?_getD, List.getD_eq_getElem?_getD, List.getElem?_drop]
def wl : List UInt8 → Bool → Nat
 | [], _ => 0
 | c :: r, f => if wb (c.toNat : Int) f = true then wl r false + 1 else 0
theorem wl_le : ∀ (l : List UInt8) (f : Bool), wl l f ≤ l.length
 | [], _ => by simp [wl]
 | c :: r, f => by
  have := wl_le r false
  unfold wl; split <;> simp <;> omega
theorem wl_lt : ∀ (l : List UInt8) (f : Bool) (k : Nat), k < wl l f → wb (bAt l k) (f && decide (k = 0)) = true
 | [], _, k, h => by simp [wl] at h
 | c :: r, f, k, h => by
  unfold wl at h
  split at h
  · rename_i hc
    cases k with
    | zero => rw [bAt_zero]; simpa using hc
    | succ k =>
     have := wl_lt r false k (by omega)
     rw [bAt_cons]; simpa using this
  · omega
theorem wl_eq : ∀ (l : List UInt8) (f : Bool), wl l f < l.length → wb (bAt l (wl l f)) (f && decide (wl l f = 0)) = false
 | [], _, h => by simp at h
 | c :: r, f, h => by
  unfold wl at h ⊢
  split
  · rename_i hc
    rw [if_pos hc] at h
    have := wl_eq r false (by simpa using h)
    rw [bAt_cons]; simpa using this
  · rename_i hc
    rw [bAt_zero]; simpa using hc
def nmB (s : ByteArray) : Bool := decide (1 ≤ s.size ∧ s.size ≤ 20) && decide (wl s.data.toList true = s.size)
def marksL : List (List UInt8) := [[58, 58], [47, 47], [46, 46], [58, 61], [33, 61], [60, 61], [62, 61], [60, 60], [62, 62], [47], [40], [41], [91], [93], [123], [125], [44], [46], [64], [42], [61], [60], [62], [43], [45], [124]]
def mkAt (k : Nat) : List UInt8 := marksL.getD k []
def fm (l : List UInt8) : List UInt8 := (marksL.find? fun m => m.isPrefixOf l).getD []
def fmFrom (l : List UInt8) (k : Nat) : List UInt8 := ((marksL.drop k).find? fun m => m.isPrefixOf l).getD []
theorem mark_drop {k : Nat} (h : k < 26) : marksL.drop k = mkAt k :: marksL.drop (k + 1) := by
 have h' : k < marksL.length := h
 rw [List.drop_eq_getElem_cons h']
 congr 1
 unfold mkAt
 rw [List.getD_eq_getElem?_getD, List.getElem?_eq_getElem h']
 rfl
theorem fmFrom_hit {l : List UInt8} {k : Nat} (h : k < 26) (hp : (mkAt k).isPrefixOf l = true) : fmFrom l k = mkAt k := by
 unfold fmFrom; rw [mark_drop h, List.find?_cons, hp]; rfl
theorem fmFrom_miss {l : List UInt8} {k : Nat} (h : k < 26) (hp : (mkAt k).isPrefixOf l = false) : fmFrom l k = fmFrom l (k + 1) := by
 unfold fmFrom; rw [mark_drop h, List.find?_cons, hp]
theorem fmFrom_end (l : List UInt8) : fmFrom l 26 = [] := rfl
def isMk (l : List UInt8) : Bool := marksL.contains l
theorem fm_mem {l : List UInt8} (h : fm l ≠ []) : fm l ∈ marksL ∧ (fm l).isPrefixOf l = true := by
 unfold fm at h ⊢
 cases hf : marksL.find? (fun m => m.isPrefixOf l) with
 | none => rw [hf] at h; simp at h
 | some m => exact ⟨List.mem_of_find?_eq_some hf, List.find?_some (p := fun m : List UInt8 => m.isPrefixOf l) hf⟩
theorem fm_self : ∀ m ∈ marksL, fm m = m := by decide
theorem fm_isMk (l : List UInt8) : isMk l = (decide (l ≠ []) && decide (fm l = l)) := by
 rw [Bool.eq_iff_iff]
 unfold isMk
 simp only [List.contains_iff_mem, Bool.and_eq_true, decide_eq_true_eq]
 constructor
 · intro h
   exact ⟨by rintro rfl; revert h; decide, fm_self l h⟩
 · rintro ⟨h1, h2⟩
   have := fm_mem (l := l) (by rw [h2]; exact h1)
   rw [h2] at this
   exact this.1
def hasQ (l : List UInt8) : Bool := l.contains 34
def tokF (k : Int) (s : ByteArray) (n : Int) : Int :=
 if ¬ (1 ≤ k ∧ k ≤ 5) then 3
 else if k = 2 then (if n < 0 ∨ 1099511627776 < n then 2 else if s.size ≠ 0 then 4 else 0)
 else if n ≠ 0 then 4
 else if k = 3 then (if hasQ s.data.toList = true then 4 else textF s)
 else if k = 5 then (if isMk s.data.toList = true then 0 else 6)
 else if nmB s = true then 0 else 10
set_option linter.unusedVariables false
open Go.RowKit
structure It where
 kind : Int
 n : Int
 s : ByteArray
structure Row where
 len : Nat
 at_ : Nat → It
open Go.RowKit
theorem step_of {P : Program} {ops : Array Oper} {o : Oper} {a : Act} {w : World} {K : Act → World → Prop} {Q : Exit → Act → World → Prop} {Z : Prop} (hgd : o.guard = none) (h : o.wp P a w K Q) : if Region.wanted o (yielded ops a.tmps) = true then Oper.wp P o a w K Q else Z := by
 have hw : Region.wanted o (yielded ops a.tmps) = true := by simp [Region.wanted, hgd]
 rw [if_pos hw]
 exact h
theorem wp_call {P : Program} {o : Oper} {a : Act} {w : World} {K : Act → World → Prop} {Q : Exit → Act → World → Prop} (f : FuncId) (args : Array Value) (hrun : (execOp a.eval o).run P w = .ok (.enter f args) w)
 (Post : Value → World → Prop) (hc : Calls P f args w fun e w' => ∃ v, e = .returned v ∧ Post v w') (h : ∀ v w', Post v w' → K (a.put o.dst v) w') : o.wp P a w K Q := by
 unfold Oper.wp
 rw [hrun, Oper.upon_enter]
 refine hc.mono fun e w'' hh => ?_
 obtain ⟨v, rfl, hp⟩ := hh
 exact h v w'' hp
theorem step_call {P : Program} {ops : Array Oper} {o : Oper} {a : Act} {w : World} {K : Act → World → Prop} {Q : Exit → Act → World → Prop} {Z : Prop} (hgd : o.guard = none) (f : FuncId) (args : Array Value) (hrun : (execOp a.eval o).run P w = .ok (.enter f args) w)
 (Post : Value → World → Prop) (hc : Calls P f args w fun e w' => ∃ v, e = .returned v ∧ Post v w') (h : ∀ v w', Post v w' → K (a.put o.dst v) w') : if Region.wanted o (yielded ops a.tmps) = true then Oper.wp P o a w K Q else Z :=
 step_of hgd (wp_call f args hrun Post hc h)
end Go.Proofs.YtbnlekhjgkojlaaGreatDoor
