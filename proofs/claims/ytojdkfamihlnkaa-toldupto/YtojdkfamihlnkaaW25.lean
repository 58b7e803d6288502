/- The walks of this proof: what the shop tells. -/
import Derived.Test.YtojdkfamihlnkaaW24
namespace Go.Proofs.Ytojdkfamihlnkaa
open Go.RowKit Go.Sort

theorem bl_cb : ∀ (a b : List UInt8), Lib.compareBytes a b < 0 → Op.bytesLess a b = true
  | [], [], h => by simp [Lib.compareBytes] at h
  | [], _ :: _, _ => rfl
  | _ :: _, [], h => by simp [Lib.compareBytes] at h
  | a :: x, b :: y, h => by
    unfold Lib.compareBytes at h
    unfold Op.bytesLess
    by_cases h1 : a < b
    · simp [h1]
    · by_cases h2 : b < a
      · simp [h1, h2] at h
      · simp only [h1, h2, if_false] at h
        have e : a = b := by
          have h3 : ¬ a.toNat < b.toNat := h1
          have h4 : ¬ b.toNat < a.toNat := h2
          exact UInt8.toNat_inj.1 (by omega)
        simp [e, bl_cb x y h]

theorem bl_kc {a b : ByteArray} (h : kc a b < 0) : Op.bytesLess a.toList b.toList = true := by
  rw [ByteArray.toList_eq, ByteArray.toList_eq]
  exact bl_cb _ _ h

/-- What the scan's list is. -/
structure Listed (A : List (List Pr)) (n : Nat) (L : List Pr) : Prop where
  len : L.length = tk.countP fun k => (vk A k n).isSome
  ord : L.Pairwise fun a b => kc a.k b.k < 0
  seen : ∀ p ∈ L, p.g = false ∧ vk A p.k n = some p.v

def Scanned (A : List (List Pr)) (n : Nat) (w : World) (e : Ending) (w' : World) : Prop :=
  ∃ (v : Value) (L : List Pr), e = .returned (.tuple #[v, .int .i64 0]) ∧ w'.ownsRow w.heap.size 78 3 v L.length (pcells L) ∧ Listed A n L ∧ Below w.heap.size w w'

theorem scan_tells (B sb : Nat) (x : St) (A : List (List Pr)) (at_ : Int) (n : Nat) (w : World) (hx : StoreAt B sb x w) (ok : ShOk x A) (hq : seqOf x.S x.last at_ = some (n : Int)) (hn : n ≤ A.length) :
    Calls Try.prog 24 #[.pointer (some ⟨sb, 0, none⟩), .string ⟨#[]⟩, .int .i64 100, .int .i64 at_] w fun e w' => Scanned A n w e w' := by
  refine (scan_any x B sb ⟨#[]⟩ 100 at_ w hx ok.st).mono ?_
  intro e w' h
  unfold ScanAns at h
  rw [hq] at h
  simp only [show ¬ ((100 : Int) < 0) by omega, if_false] at h
  obtain ⟨v, L, cur, rfl, h1, h2, h3, h4, _⟩ := h
  have ht : ∀ b ∈ A, ∀ p ∈ b, p.k ∈ tk := fun b hb => (ok.ok b hb).ten
  exact ⟨v, L, rfl, h1, ⟨scan_count ok.st.sorted ok.rel ht hn h3 h4, h3.ord, fun p hp => ⟨(h3.seen p hp).1, by rw [← sk_vk ok.st.sorted ok.rel p.k n hn]; exact (h3.seen p hp).2.1⟩⟩, h2⟩

theorem get_tells {x : St} {A : List (List Pr)} (ok : ShOk x A) {at_ : Int} {n : Nat} (hq : seqOf x.S x.last at_ = some (n : Int)) (hn : n ≤ A.length) {k : ByteArray} (hk : k ∈ tk) :
    getVal x k at_ = match vk A k n with | some v => .tuple #[.string v, .int .i64 0] | none => .tuple #[.string ⟨#[]⟩, .int .i64 6] := by
  unfold getVal
  rw [if_pos (tk_ok hk), hq]
  simp only
  rw [sk_vk ok.st.sorted ok.rel k n hn]
  cases vk A k n <;> rfl

theorem get_in (x : St) (B sb : Nat) (k : ByteArray) (n : Int) (w : World) (hx : StoreAt B sb x w) (ok : StOk x) (hk : k.size ≤ maxLen) (u : Value) (hu : getVal x k n = u) (d : Nat) (os : Array Obj) :
    Calls Try.prog 25 #[.pointer (some ⟨sb, 0, none⟩), .string k, .int .i64 n] (grow (redrawn w d) os) fun e w'' => e = .returned u ∧ ∃ p : Regrown, w'' = grow (redrawn w p.d) p.os := by
  subst hu
  exact Calls.regrown_of (get_any x B sb k n _ (hx.below (below_of_regrown ⟨⟨d, os⟩, rfl⟩)) ok hk)

theorem kof_nat {i : Nat} (h : i < 10) : tk[i]? = some (kof i) := by
  have e : (pk (i : Int) 10).toNat = i := by unfold pk; rw [if_neg (by omega)]; omega
  unfold kof
  rw [e, List.getD_eq_getElem?_getD]
  have h' : i < tk.length := h
  rw [List.getElem?_eq_getElem h']
  rfl

theorem count_step {i : Nat} (h : i < 10) (f : ByteArray → Bool) : (tk.take (i + 1)).countP f = (tk.take i).countP f + if f (kof i) = true then 1 else 0 := by
  rw [List.take_add_one, kof_nat h]
  simp [List.countP_append, List.countP_cons]
end Go.Proofs.Ytojdkfamihlnkaa
