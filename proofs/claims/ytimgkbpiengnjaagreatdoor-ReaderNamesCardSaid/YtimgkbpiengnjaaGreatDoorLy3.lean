/- bytes.IndexAny of CR LF at EVERY slice of bytes. Conditions: what start-up lays ('PCtx'); the length's bound. -/
import Derived.Test.YtimgkbpiengnjaaGreatDoorLy2
import Derived.Lib.IndexEntry
import Derived.Lib.DecodeN
namespace Go.Proofs.YtimgkbpiengnjaaGreatDoor.Ln
open Go.ChangeShapes Go.WideShapes Go.ChangeAt Go.RowKit

theorem dec_shape (n b0 b1 b2 b3 r k : Nat) (h0 : 128 ≤ b0) (h1 : b0 < 256) (h : Lib.decodeN n b0 b1 b2 b3 = (r, k)) :
    (r = 65533 ∧ k = 1) ∨ (k = 2 ∧ 128 ≤ r ∧ r < 2048) ∨ (k = 3 ∧ 2048 ≤ r ∧ r < 65536 ∧ (r < 55296 ∨ 57344 ≤ r)) ∨ (k = 4 ∧ 65536 ≤ r ∧ r ≤ 1114111) := by
  unfold Lib.decodeN at h
  rw [if_neg (by omega)] at h
  split at h
  · split at h
    · injection h with h1 h2; subst h1 h2; right; left; omega
    · injection h with h1 h2; left; omega
  · split at h
    · split at h
      · injection h with h1 h2; subst h1 h2; right; right; left; omega
      · injection h with h1 h2; left; omega
    · split at h
      · split at h
        · injection h with h1 h2; subst h1 h2; right; right; right; omega
        · injection h with h1 h2; left; omega
      · injection h with h1 h2; left; omega
theorem enc_size (r k : Nat) (h : (k = 2 ∧ 128 ≤ r ∧ r < 2048) ∨ (k = 3 ∧ 2048 ≤ r ∧ r < 65536 ∧ (r < 55296 ∨ 57344 ≤ r)) ∨ (k = 4 ∧ 65536 ≤ r ∧ r ≤ 1114111)) : (Utf8.encode (r : Int)).size = k ∧ ∃ b l, (Utf8.encode (r : Int)).data.toList = b :: l ∧ 128 ≤ b.toNat := by
  have hv : Utf8.valid (r : Int) = true := by
    rw [validRune_eq]
    unfold validRune
    exact decide_eq_true (by omega)
  have ht : ((r : Int)).toNat = r := Int.toNat_natCast r
  unfold Utf8.encode
  simp only [hv, if_true, ht]
  rcases h with ⟨rfl, h1, h2⟩ | ⟨rfl, h1, h2, h3⟩ | ⟨rfl, h1, h2⟩
  · rw [if_neg (by omega), if_pos (by omega)]
    exact ⟨rfl, _, _, rfl, by simp; omega⟩
  · rw [if_neg (by omega), if_neg (by omega), if_pos (by omega)]
    exact ⟨rfl, _, _, rfl, by simp; omega⟩
  · rw [if_neg (by omega), if_neg (by omega), if_neg (by omega)]
    exact ⟨rfl, _, _, rfl, by simp; omega⟩
theorem index_long (sub : List UInt8) (h : 3 ≤ sub.length) : Lib.index [13, 10] sub = -1 := by
  match sub, h with
  | a :: b :: c :: l, _ => simp [Lib.index, List.isPrefixOf]
theorem dec_calls (l : List UInt8) (b o c : Nat) (w : World) (hT : Lib.Utf8Tabs 2 3 w) (hp : ∀ j (hj : j < l.length), w.cell? ⟨b, o + j, none⟩ = some (.int .u8 (l[j].toNat : Int))) :
    Calls Tryz.prog 34 #[.slice (some ⟨b, o, none⟩) l.length c] w fun e w' => e = .returned (.tuple #[.int .i32 (Lib.decodeGo ⟨l.toArray⟩).1, .int .i64 (Lib.decodeGo ⟨l.toArray⟩).2]) ∧ Below w.heap.size w w' := by
  have h := Any7.utf8_DecodeRune Tryz.lays7n32 ⟨l.toArray⟩ b o c w hT fun j hj => by
    rw [size_of] at hj
    rw [hp j hj]
    congr 3
    simp [ByteArray.get!, hj]
  rw [size_of] at h
  exact h
theorem crlf_high {c : UInt8} (h : 128 ≤ c.toNat) : Lw.crlf c = false := by
  unfold Lw.crlf
  rw [Bool.or_eq_false_iff]
  constructor
  · rw [beq_eq_false_iff_ne]; intro e; rw [e] at h; exact absurd h (by decide)
  · rw [beq_eq_false_iff_ne]; intro e; rw [e] at h; exact absurd h (by decide)
/-- What DecodeRune says of bytes that begin with a high one. -/
theorem dec_facts (l : List UInt8) (x : UInt8) (r : List UInt8) (hl : l = x :: r) (hx : 128 ≤ x.toNat) : ∃ R k : Nat, Lib.decodeGo ⟨l.toArray⟩ = (R, k) ∧ 128 ≤ R ∧ R ≤ 1114111 ∧ 1 ≤ k ∧ k ≤ 4 ∧
    (R = 65533 ∨ (k = 2 ∧ 128 ≤ R ∧ R < 2048) ∨ (k = 3 ∧ 2048 ≤ R ∧ R < 65536 ∧ (R < 55296 ∨ 57344 ≤ R)) ∨ (k = 4 ∧ 65536 ≤ R ∧ R ≤ 1114111)) ∧ ∀ j, j < k → ∃ hj : j < l.length, Lw.crlf l[j] = false := by
  subst hl
  have hs : (⟨(x :: r).toArray⟩ : ByteArray).size = r.length + 1 := by rw [size_of]; rfl
  have hd : Lib.decodeGo ⟨(x :: r).toArray⟩ = Utf8.decode ⟨(x :: r).toArray⟩ 0 := by
    unfold Lib.decodeGo
    rw [if_neg (by omega)]
  have h0 : 0 < (⟨(x :: r).toArray⟩ : ByteArray).size := by omega
  have hx0 : 128 ≤ ((⟨(x :: r).toArray⟩ : ByteArray)[0]'h0).toNat := hx
  have hb := decode_bytes ⟨(x :: r).toArray⟩ 0 h0 hx0
  have hat := Lib.decode_at ⟨(x :: r).toArray⟩ 0
  have hg0 : ((⟨(x :: r).toArray⟩ : ByteArray).get! (0 + 0)).toNat = x.toNat := rfl
  rw [hd]
  generalize hR : Utf8.decode ⟨(x :: r).toArray⟩ 0 = p at *
  obtain ⟨R, k⟩ := p
  have h2 := dec_shape _ _ _ _ _ R k (by first | exact hx | (rw [hg0]; exact hx)) (by first | exact x.toNat_lt | (rw [hg0]; exact x.toNat_lt)) hat.symm
  refine ⟨R, k, rfl, by omega, by omega, by omega, by omega, by omega, fun j hj => ?_⟩
  obtain ⟨hj2, hge⟩ := hb j hj
  rw [hs] at hj2
  refine ⟨by simp; omega, crlf_high ?_⟩
  have e : (⟨(x :: r).toArray⟩ : ByteArray)[0 + j]'(by rw [hs]; omega) = (x :: r)[j]'(by simp; omega) := by
    have : ∀ (i : Nat) (hi : i < (⟨(x :: r).toArray⟩ : ByteArray).size) (hi2 : i < (x :: r).length), (⟨(x :: r).toArray⟩ : ByteArray)[i]'hi = (x :: r)[i]'hi2 := fun i _ _ => rfl
    exact (this (0 + j) _ (by simp; omega)).trans (by congr 1; omega)
  rw [← e]
  exact hge
theorem byte_small (x : UInt8) (hx : x.toNat < 128) : (0 ≤ Lib.indexByte [13, 10] x ↔ Lw.crlf x = true) ∧ (-1 ≤ Lib.indexByte [13, 10] x ∧ Lib.indexByte [13, 10] x ≤ 1) := by
  have h : ∀ n : Fin 128, (0 ≤ Lib.indexByte [13, 10] (UInt8.ofNat n.val) ↔ Lw.crlf (UInt8.ofNat n.val) = true) ∧ (-1 ≤ Lib.indexByte [13, 10] (UInt8.ofNat n.val) ∧ Lib.indexByte [13, 10] (UInt8.ofNat n.val) ≤ 1) := by decide +kernel
  have := h ⟨x.toNat, hx⟩
  simpa using this
theorem idxC_no {l : List UInt8} (h : ∀ j (hj : j < l.length), Lw.crlf l[j] = false) : idxC l = -1 := by
  unfold idxC
  rw [ahead_all l h, if_neg (by omega)]
theorem idxC_yes {l : List UInt8} {i : Nat} (hi : i < l.length) (h : Lw.crlf l[i] = true) (hn : ∀ j (hj : j < l.length), j < i → Lw.crlf l[j] = false) : idxC l = i := by
  unfold idxC
  rw [ahead_eq l i hi h hn, if_pos hi]
end Go.Proofs.YtimgkbpiengnjaaGreatDoor.Ln
