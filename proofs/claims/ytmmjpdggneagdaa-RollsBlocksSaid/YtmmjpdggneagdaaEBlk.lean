/-
  PLAIN MATHEMATICS for RollsBlocks: the bytes of an entry, the blocks of a roll, the roll of blocks, there and back. No condition.
-/
import Derived.Test.YtmmjpdggneagdaaEnts
import Derived.Test.YtmmjpdggneagdaaText
import Derived.Test.YtmmjpdggneagdaaPlainC
namespace Go.Proofs.Ytmmjpdggneagdaa

def bs (l : List UInt8) : ByteArray := ⟨l.toArray⟩
theorem bs_data (l : List UInt8) : (bs l).data.toList = l := rfl
theorem bs_size (l : List UInt8) : (bs l).size = l.length := rfl
theorem bs_eq (s : ByteArray) : bs s.data.toList = s := by apply ByteArray.ext; simp [bs]
theorem bs_inj {a b : List UInt8} (h : bs a = bs b) : a = b := by have := congrArg (fun x : ByteArray => x.data.toList) h; exact this
theorem bs_append (a b : List UInt8) : bs a ++ bs b = bs (a ++ b) := by
  apply ByteArray.ext
  rw [ByteArray.data_append]
  simp [bs]
def cutL (l : List UInt8) (f i : Nat) : List UInt8 := (l.drop f).take (i - f)
theorem bs_extract (p : List UInt8) (f i : Nat) : (bs p).extract f i = bs (cutL p f i) := by
  apply ByteArray.ext
  apply Array.ext'
  simp [bs, cutL, List.extract_eq_take_drop]
theorem data_len (s : ByteArray) : s.data.toList.length = s.size := by rw [Array.length_toList]; rfl

/-! ### the bytes of an entry -/
def byte2 (v : Int) : List UInt8 := [UInt8.ofNat (v % 256).toNat, UInt8.ofNat (v / 256 % 256).toNat]
def zers (n : Nat) : List UInt8 := List.replicate n 0
def slotL (e : En) : List UInt8 := byte2 e.nd ++ (e.nm.data.toList ++ zers (11 - e.nm.size)) ++ zers 3
structure En.okS (e : En) : Prop where
  lo : 0 ≤ e.nd
  hi : e.nd ≤ 65535
  len : e.nm.size ≤ 11
  nz : hasZ e.nm = false
theorem slot_len {e : En} (h : e.nm.size ≤ 11) : (slotL e).length = 16 := by
  unfold slotL byte2 zers
  simp only [List.length_append, List.length_replicate, List.length_cons, List.length_nil, data_len]
  omega

theorem write2 {v : Int} (h0 : 0 ≤ v) (h1 : v ≤ 65535) : writeR [2] [v] = (encTo [2] [v] 1, 0) ∧ strOfNums (encTo [2] [v] 1) = bs (byte2 v) := by
  refine ⟨writeR_ok (by decide) rfl ?_, ?_⟩
  · simp [fitTo, fitB, mostOf, h0, h1]
  · simp [encTo, encF, strOfNums, bs, byte2]
theorem text11 {s : ByteArray} (h : s.size ≤ 11) (hz : hasZ s = false) : textR s 11 = (bs (s.data.toList ++ zers (11 - s.size)), 0) := by
  have hp : padR s 11 = (padS s 11, 0) := padR_ok (by omega) (by omega)
  unfold textR
  rw [hp, if_pos rfl, hz]
  rfl
theorem pad16 {p : List UInt8} (h : p.length = 13) : padR (bs p) 16 = (bs (p ++ zers 3), 0) := by
  have hs : (bs p).size = 13 := h
  rw [padR_ok (by omega) (by rw [hs]; omega)]
  unfold padS
  rw [hs]
  rfl

theorem zers_all (n : Nat) : (zers n).all (· == 0) = true := by unfold zers; simp
theorem all_zers {l : List UInt8} (h : l.all (· == 0) = true) : l = zers l.length := by
  unfold zers
  rw [List.eq_replicate_iff]
  exact ⟨rfl, fun b hb => by simpa using List.all_eq_true.1 h b hb⟩
theorem zAt_app : ∀ (t r : List UInt8), (∀ b ∈ t, b ≠ 0) → r.all (· == 0) = true → zAt (t ++ r) = t.length
  | [], [], _, _ => rfl
  | [], b :: r, _, h => by
    have : b = 0 := by simpa using (List.all_eq_true.1 h b (by simp))
    simp [zAt, this]
  | b :: t, r, h, hr => by
    have h1 := h b (by simp)
    have ih := zAt_app t r (fun x hx => h x (by simp [hx])) hr
    rw [List.cons_append, zAt, if_neg h1, ih]
    rfl
theorem zAt_take : ∀ (l : List UInt8), ∀ b ∈ l.take (zAt l), b ≠ 0
  | [], b, h => by simp at h
  | c :: l, b, h => by
    unfold zAt at h
    split at h
    · simp at h
    · rename_i hc
      rw [List.take_succ_cons] at h
      rcases List.mem_cons.1 h with rfl | h
      · exact hc
      · exact zAt_take l b h
theorem hasZ_iff {s : ByteArray} : hasZ s = false ↔ ∀ b ∈ s.data.toList, b ≠ 0 := by
  unfold hasZ
  rw [decide_eq_false_iff_not]
  exact ⟨fun h b hb e => h (e ▸ hb), fun h hm => h 0 hm rfl⟩
/-- what a text says that may be. -/
theorem untext_ok {q : List UInt8} (h : (untextR (bs q)).2 = 0) : q = (untextR (bs q)).1.data.toList ++ zers (q.length - (untextR (bs q)).1.size) ∧ (untextR (bs q)).1.size ≤ q.length ∧ hasZ (untextR (bs q)).1 = false := by
  unfold untextR at h ⊢
  rw [bs_data] at h ⊢
  split at h
  · rename_i hz
    rw [if_pos hz]
    have e : (bs q).extract 0 (zAt q) = bs (q.take (zAt q)) := by rw [bs_extract]; rfl
    rw [e]
    have hle := zAt_le q
    have hl : (q.take (zAt q)).length = zAt q := by rw [List.length_take]; omega
    refine ⟨?_, by show (q.take (zAt q)).length ≤ _; omega, hasZ_iff.2 (zAt_take q)⟩
    rw [bs_data, bs_size, hl]
    have := all_zers hz
    rw [List.length_drop] at this
    rw [← this, List.take_append_drop]
  · simp at h
theorem untext_of {t : ByteArray} {n : Nat} (hz : hasZ t = false) : untextR (bs (t.data.toList ++ zers n)) = (t, 0) := by
  unfold untextR
  rw [bs_data, zAt_app _ _ (hasZ_iff.1 hz) (zers_all n)]
  have e : (t.data.toList ++ zers n).drop t.data.toList.length = zers n := List.drop_left
  rw [e, if_pos (zers_all n), bs_extract]
  have e2 : cutL (t.data.toList ++ zers n) 0 t.data.toList.length = t.data.toList := by unfold cutL; simp
  rw [e2, bs_eq]
/-- zero bytes alone are an empty text. -/
theorem rest_iff {r : List UInt8} : r.all (· == 0) = true ↔ (untextR (bs r)).2 = 0 ∧ (untextR (bs r)).1 = ⟨#[]⟩ := by
  constructor
  · intro h
    have := untext_of (t := ⟨#[]⟩) (n := r.length) (by decide)
    have e : (ByteArray.mk #[]).data.toList ++ zers r.length = r := by rw [← all_zers h]; rfl
    rw [e] at this
    rw [this]; exact ⟨rfl, rfl⟩
  · rintro ⟨h, h2⟩
    have := (untext_ok h).1
    rw [h2] at this
    rw [this]
    exact zers_all _

def num2 (p : List UInt8) : Int := ((p.getD 0 0).toNat : Int) + 256 * ((p.getD 1 0).toNat : Int)
theorem num2_bd (p : List UInt8) : 0 ≤ num2 p ∧ num2 p ≤ 65535 := by
  unfold num2
  have h1 := (p.getD 0 0).toNat_lt
  have h2 := (p.getD 1 0).toNat_lt
  omega
theorem byte2_num {p : List UInt8} (h : 2 ≤ p.length) : byte2 (num2 p) = p.take 2 := by
  match p, h with
  | a :: b :: r, _ =>
    have h1 := a.toNat_lt
    have h2 := b.toNat_lt
    unfold num2 byte2
    simp only [List.getD_cons_zero, List.getD_cons_succ, List.take_succ_cons, List.take_zero]
    have e1 : ((((a.toNat : Int) + 256 * (b.toNat : Int)) % 256)).toNat = a.toNat := by omega
    have e2 : ((((a.toNat : Int) + 256 * (b.toNat : Int)) / 256 % 256)).toNat = b.toNat := by omega
    rw [e1, e2]
    simp
theorem num2_byte {v : Int} {r : List UInt8} (h0 : 0 ≤ v) (h1 : v ≤ 65535) : num2 (byte2 v ++ r) = v := by
  unfold num2 byte2
  simp only [List.cons_append, List.getD_cons_zero, List.getD_cons_succ]
  have e1 : ((UInt8.ofNat (v % 256).toNat).toNat : Int) = v % 256 := by simp [UInt8.toNat_ofNat']; omega
  have e2 : ((UInt8.ofNat (v / 256 % 256).toNat).toNat : Int) = v / 256 % 256 := by simp [UInt8.toNat_ofNat']; omega
  rw [e1, e2]
  omega
theorem read2 {p : List UInt8} (h : 2 ≤ p.length) : readR [2] (bytesOf (bs p)) = ([num2 p], 0) := by
  rw [readR_ok (by decide) (by rw [bytesOf_len, bs_size]; simp [sumTo]; omega)]
  match p, h with
  | a :: b :: r, _ =>
    simp [readTo, sumTo, decF, bytesOf, bs_data, num2]

/-- the entry of 16 bytes. -/
def unslotR (p : List UInt8) : Option En :=
  if (untextR (bs (cutL p 2 13))).2 = 0 ∧ (cutL p 13 16).all (· == 0) = true then some ⟨(untextR (bs (cutL p 2 13))).1, num2 p⟩ else none
theorem cut3 {p : List UInt8} (h : p.length = 16) : p = p.take 2 ++ cutL p 2 13 ++ cutL p 13 16 := by
  unfold cutL
  have e2 : p.drop 2 = (p.drop 2).take 11 ++ (p.drop 2).drop 11 := (List.take_append_drop _ _).symm
  have e3 : (p.drop 13).take 3 = p.drop 13 := List.take_of_length_le (by rw [List.length_drop]; omega)
  have e4 : (p.drop 2).drop 11 = p.drop 13 := by rw [List.drop_drop]
  show p = p.take 2 ++ (p.drop 2).take 11 ++ (p.drop 13).take 3
  rw [e3, ← e4, List.append_assoc, ← e2, List.take_append_drop]
theorem cut_len {p : List UInt8} (h : p.length = 16) : (cutL p 2 13).length = 11 ∧ (cutL p 13 16).length = 3 := by
  unfold cutL; simp only [List.length_take, List.length_drop]; omega
/-- the bytes of the entry that was read. -/
theorem slot_read {p : List UInt8} (h : p.length = 16) (h1 : (untextR (bs (cutL p 2 13))).2 = 0) :
    slotL ⟨(untextR (bs (cutL p 2 13))).1, num2 p⟩ = p.take 2 ++ cutL p 2 13 ++ zers 3 ∧ En.okS ⟨(untextR (bs (cutL p 2 13))).1, num2 p⟩ := by
  obtain ⟨a, b, c⟩ := untext_ok h1
  rw [(cut_len h).1] at a b
  refine ⟨?_, (num2_bd p).1, (num2_bd p).2, b, c⟩
  unfold slotL
  simp only
  rw [byte2_num (by omega), ← a]
/-- the reference's way to say it. -/
theorem slot_iff {p : List UInt8} (h : p.length = 16) (h1 : (untextR (bs (cutL p 2 13))).2 = 0) :
    slotL ⟨(untextR (bs (cutL p 2 13))).1, num2 p⟩ = p ↔ (cutL p 13 16).all (· == 0) = true := by
  rw [(slot_read h h1).1]
  constructor
  · intro e
    have e2 := cut3 h
    rw [← e] at e2
    have e3 : zers 3 = cutL p 13 16 := by
      have := List.append_cancel_left (e.trans (cut3 h))
      exact this
    rw [← e3]; exact zers_all 3
  · intro hz
    have := all_zers hz
    rw [(cut_len h).2] at this
    rw [← this, ← cut3 h]
theorem unslot_slot {e : En} (h : e.okS) : unslotR (slotL e) = some e := by
  have hl := slot_len h.len
  have c2 : cutL (slotL e) 2 13 = e.nm.data.toList ++ zers (11 - e.nm.size) := by
    unfold cutL slotL
    have hb : (byte2 e.nd).length = 2 := rfl
    have hn : (e.nm.data.toList ++ zers (11 - e.nm.size)).length = 11 := by
      unfold zers
      rw [List.length_append, List.length_replicate, data_len]; have := h.len; omega
    rw [List.append_assoc, List.drop_left' hb]
    exact List.take_left' hn
  have c3 : cutL (slotL e) 13 16 = zers 3 := by
    unfold cutL slotL
    have hb : (byte2 e.nd ++ (e.nm.data.toList ++ zers (11 - e.nm.size))).length = 13 := by
      unfold zers byte2
      rw [List.length_append, List.length_append, List.length_replicate, data_len]; have := h.len; simp; omega
    rw [List.drop_left' hb]; rfl
  unfold unslotR
  rw [c2, c3, untext_of h.nz, if_pos ⟨rfl, zers_all 3⟩]
  simp only
  congr 1
  obtain ⟨nm, nd⟩ := e
  congr 1
  unfold slotL
  rw [List.append_assoc]
  exact num2_byte h.lo h.hi
theorem slot_unslot {p : List UInt8} (h : p.length = 16) {e : En} (he : unslotR p = some e) : slotL e = p ∧ e.okS := by
  unfold unslotR at he
  split at he
  · rename_i hc
    injection he with he
    subst he
    exact ⟨(slot_iff h hc.1).2 hc.2, (slot_read h hc.1).2⟩
  · cases he

/-- an entry of a roll that may be has bytes. -/
theorem right_nz {s : ByteArray} (h : rightB s = true) : s.size ≤ 11 ∧ hasZ s = false := by
  have hl := rightL_len h
  rw [data_len] at hl
  refine ⟨hl.2, hasZ_iff.2 fun b hb e => ?_⟩
  unfold rightB rightL at h
  simp only [Bool.and_eq_true, List.all_eq_true] at h
  have := h.1.1.1.1 b hb
  rw [e] at this
  exact absurd this (by decide)
theorem right_okS {l : List En} (h : rightR l = true) {e : En} (he : e ∈ l) : e.okS := by
  rcases right_mem h he with rfl | ⟨h1, h2⟩
  · exact ⟨by decide, by decide, by decide, by decide⟩
  · have := nodeB_iff.1 h1
    exact ⟨by omega, by omega, (right_nz h2).1, (right_nz h2).2⟩
end Go.Proofs.Ytmmjpdggneagdaa
