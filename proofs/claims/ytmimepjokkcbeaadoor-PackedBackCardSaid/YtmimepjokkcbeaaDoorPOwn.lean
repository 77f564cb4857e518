/- What the laws that make a list of their own lean on. -/
import Derived.Test.YtmimepjokkcbeaaDoorPDigs
import Derived.Test.YtmimepjokkcbeaaDoorPRead
import Derived.Test.YtmimepjokkcbeaaDoorPPack
namespace Go.Proofs.YtmimepjokkcbeaaDoor
open Go.RowKit

/-- A number's last sixteen digits. -/
def low (z : Int) : Nat := (z % 65536).toNat
theorem low_lt (z : Int) : low z < 65536 := by unfold low; omega
theorem and_low (z : Int) : bits .and .i64 z 65535 = (low z : Nat) := by
  show IntKind.i64.wrap ((BitVec.ofInt 64 z &&& BitVec.ofInt 64 65535).toNat : Int) = _
  rw [BitVec.toNat_and, BitVec.toNat_ofInt, BitVec.toNat_ofInt, show (65535 % ((2 ^ 64 : Nat) : Int)).toNat = 2 ^ 16 - 1 from rfl, Nat.and_two_pow_sub_one_eq_mod, IntKind.wrap_i64]
  unfold low
  omega
/-- The first numbers' last digits. -/
def lows (zs : List Int) (i : Nat) : Nat := low (zs[i]?.getD 0)
theorem lows_lt (zs : List Int) (k : Nat) : ∀ n ∈ fl (lows zs) k, n < 65536 := fun n hn => by
  unfold fl at hn
  obtain ⟨i, _, rfl⟩ := List.mem_map.1 hn
  exact low_lt _
def zsOf (l : List Nat) : List Int := l.map fun (n : Nat) => (n : Int)
theorem zsOf_length (l : List Nat) : (zsOf l).length = l.length := by simp [zsOf]
theorem zsOf_get (l : List Nat) (j : Nat) : (zsOf l)[j]?.getD 0 = (l.getD j 0 : Nat) := by
  unfold zsOf
  rw [List.getD_eq_getElem?_getD, List.getElem?_map]
  cases l[j]? <;> rfl
theorem nats_zsOf (l : List Nat) : nats (zsOf l) = l := by
  unfold nats zsOf
  rw [List.map_map]
  have : (Int.toNat ∘ fun (n : Nat) => (n : Int)) = id := by funext n; simp
  rw [this, List.map_id]
theorem okz_zsOf {l : List Nat} (h1 : l.length ≤ 1000) (h2 : ∀ n ∈ l, n < 65536) : Okz (zsOf l) := ⟨by rw [zsOf_length]; exact h1, fun z hz => by
  unfold zsOf at hz
  obtain ⟨n, hn, rfl⟩ := List.mem_map.1 hz
  have := h2 n hn
  omega⟩
theorem plistZ_zsOf (s : List UInt8) : plistZ s = zsOf (plist s) := rfl
theorem row_zs {w : World} {base : Nat} {x : Option Addr} {n cap : Nat} {l : List Nat} (hn : l.length = n) (h : w.ownsRow base 3 1 (.slice x n cap) n (nvs l)) : Ints w.heap.size w (.slice x n cap) (zsOf l) := by
  rcases h.2 with ⟨e, h0⟩ | ⟨g, c2, cur, e, _, hg, _⟩
  · subst h0
    exact .inl ⟨⟨x, cap, rfl⟩, List.eq_nil_of_length_eq_zero (by rw [zsOf_length]; exact hn)⟩
  · cases e
    refine .inr ⟨g, 0, cap, by rw [zsOf_length, hn], (Array.getElem?_eq_some_iff.1 hg).1, fun j hj => ?_⟩
    rw [zsOf_length, hn] at hj
    have := h.cells (g := g) rfl j (.int .i64 (l.getD j 0 : Nat)) (by
      have hl : j < l.length := by omega
      unfold nvs
      rw [List.getElem?_map, List.getD_eq_getElem?_getD, List.getElem?_eq_getElem hl]; rfl)
    rw [Nat.zero_add, zsOf_get]
    rwa [show (⟨g, 0, none⟩ : Addr).add j = ⟨g, j, none⟩ by unfold Addr.add; split <;> simp_all] at this
theorem own_form {w : World} {base : Nat} {e : TypeId} {v : Value} {n : Nat} {xs : List Value} (h : w.ownsRow base e 1 v n xs) : ∃ x cap, v = .slice x n cap := by
  rcases h.2 with ⟨rfl, rfl⟩ | ⟨g, cap, cur, rfl, _⟩
  · exact ⟨_, _, rfl⟩
  · exact ⟨_, _, rfl⟩
/-- Pack of such a list. -/
theorem pack_zs (x : Option Addr) (len cap : Nat) (l : List Nat) (hlen : l.length = len) (h1 : len ≤ 1000) (h2 : ∀ n ∈ l, n < 65536) (w : World) (hI : Ints w.heap.size w (.slice x len cap) (zsOf l)) :
    Calls Tryd.prog 10 #[.slice x len cap] w fun e w' => e = .returned (.tuple #[.string ⟨(packP l).toArray⟩, .int .i64 0]) ∧ Below w.heap.size w w' := by
  have hO := okz_zsOf (l := l) (by omega) h2
  have h := pack_any x len cap (zsOf l) (by rw [zsOf_length, hlen]) (by omega) (in64_ok hO) w hI
  unfold PackPost at h
  rwa [packZ_ok hO, wcode_ok hO, nats_zsOf] at h
end Go.Proofs.YtmimepjokkcbeaaDoor
