/-
  PLAIN MATHEMATICS for IndexBlocks: the bytes of an entry, the block of a page, the pages of blocks, there and back. No condition.
-/
import Derived.Test.YtflijnhgonigjaaPPut
import Derived.Test.YtflijnhgonigjaaText
import Derived.Test.YtflijnhgonigjaaPlainC
namespace Go.Proofs.Ytflijnhgonigjaa

def bs (l : List UInt8) : ByteArray := ⟨l.toArray⟩
theorem bs_data (l : List UInt8) : (bs l).data.toList = l := rfl
theorem bs_size (l : List UInt8) : (bs l).size = l.length := rfl
theorem bs_eq (s : ByteArray) : bs s.data.toList = s := by apply ByteArray.ext; simp [bs]
theorem bs_inj {a b : List UInt8} (h : bs a = bs b) : a = b := by have := congrArg (fun x : ByteArray => x.data.toList) h; exact this
theorem bs_append (a b : List UInt8) : bs a ++ bs b = bs (a ++ b) := by
  apply ByteArray.ext
  rw [ByteArray.data_append]
  simp [bs]
def cutB (l : List UInt8) (f i : Nat) : List UInt8 := (l.drop f).take (i - f)
theorem bs_extract (p : List UInt8) (f i : Nat) : (bs p).extract f i = bs (cutB p f i) := by
  apply ByteArray.ext
  apply Array.ext'
  simp [bs, cutB, List.extract_eq_take_drop]
theorem data_len (s : ByteArray) : s.data.toList.length = s.size := by rw [Array.length_toList]; rfl

/-! ### the bytes of an entry -/
def byte2 (v : Int) : List UInt8 := [UInt8.ofNat (v % 256).toNat, UInt8.ofNat (v / 256 % 256).toNat]
def zers (n : Nat) : List UInt8 := List.replicate n 0
def nameL (s : ByteArray) : List UInt8 := s.data.toList ++ zers (11 - s.size)
def entL (e : En) : List UInt8 := nameL e.nm ++ byte2 e.nd
structure En.okS (e : En) : Prop where
  lo : 0 ≤ e.nd
  hi : e.nd ≤ 65535
  len : e.nm.size ≤ 11
  nz : hasZ e.nm = false
theorem name_len {s : ByteArray} (h : s.size ≤ 11) : (nameL s).length = 11 := by
  unfold nameL zers
  simp only [List.length_append, List.length_replicate, data_len]
  omega
theorem ent_len {e : En} (h : e.nm.size ≤ 11) : (entL e).length = 13 := by
  unfold entL
  rw [List.length_append, name_len h]; rfl

theorem write2 {v : Int} (h0 : 0 ≤ v) (h1 : v ≤ 65535) : writeR [2] [v] = (encTo [2] [v] 1, 0) ∧ strOfNums (encTo [2] [v] 1) = bs (byte2 v) := by
  refine ⟨writeR_ok (by decide) rfl ?_, ?_⟩
  · simp [fitTo, fitB, mostOf, h0, h1]
  · simp [encTo, encF, strOfNums, bs, byte2]
theorem text11 {s : ByteArray} (h : s.size ≤ 11) (hz : hasZ s = false) : textR s 11 = (bs (nameL s), 0) := by
  have hp : padR s 11 = (padS s 11, 0) := padR_ok (by omega) (by omega)
  unfold textR
  rw [hp, if_pos rfl, hz]
  rfl
theorem write1 {n : Nat} (h : n ≤ 255) : writeR [1] [(n : Int)] = (encTo [1] [(n : Int)] 1, 0) ∧ strOfNums (encTo [1] [(n : Int)] 1) = bs [UInt8.ofNat n] := by
  refine ⟨writeR_ok (by decide) rfl ?_, ?_⟩
  · simp [fitTo, fitB, mostOf]; omega
  · have e : ((n : Int) % 256).toNat = n := by omega
    simp [encTo, encF, strOfNums, bs, e]
theorem zers_all (n : Nat) : (zers n).all (· == 0) = true := by unfold zers; simp
theorem all_zers {l : List UInt8} (h : l.all (· == 0) = true) : l = zers l.length := by
  unfold zers
  rw [List.eq_replicate_iff]
  exact ⟨rfl, fun b hb => by simpa using List.all_eq_true.1 h b hb⟩
theorem zAt_app : ∀ (t r : List UInt8), (∀ b ∈ t, b ≠ 0) → r.all (· == 0) = true → zAt (t ++ r) = t.length
  | [], [], _, _ => rfl
  | [], b :: r, _, h => by
    have : b = 0 := by simpa using (List.all_eq_true.1 h b (by simp))
    simp [zAt, this]
  | b :: t, r, h, hr => by
    have h1 := h b (by simp)
    have ih := zAt_app t r (fun x hx => h x (by simp [hx])) hr
    rw [List.cons_append, zAt, if_neg h1, ih]
    rfl
theorem zAt_take : ∀ (l : List UInt8), ∀ b ∈ l.take (zAt l), b ≠ 0
  | [], b, h => by simp at h
  | c :: l, b, h => by
    unfold zAt at h
    split at h
    · simp at h
    · rename_i hc
      rw [List.take_succ_cons] at h
      rcases List.mem_cons.1 h with rfl | h
      · exact hc
      · exact zAt_take l b h
theorem hasZ_iff {s : ByteArray} : hasZ s = false ↔ ∀ b ∈ s.data.toList, b ≠ 0 := by
  unfold hasZ
  rw [decide_eq_false_iff_not]
  exact ⟨fun h b hb e => h (e ▸ hb), fun h hm => h 0 hm rfl⟩
/-- what a text says that may be. -/
theorem untext_ok {q : List UInt8} (h : (untextR (bs q)).2 = 0) : q = (untextR (bs q)).1.data.toList ++ zers (q.length - (untextR (bs q)).1.size) ∧ (untextR (bs q)).1.size ≤ q.length ∧ hasZ (untextR (bs q)).1 = false := by
  unfold untextR at h ⊢
  rw [bs_data] at h ⊢
  split at h
  · rename_i hz
    rw [if_pos hz]
    have e : (bs q).extract 0 (zAt q) = bs (q.take (zAt q)) := by rw [bs_extract]; rfl
    rw [e]
    have hle := zAt_le q
    have hl : (q.take (zAt q)).length = zAt q := by rw [List.length_take]; omega
    refine ⟨?_, by show (q.take (zAt q)).length ≤ _; omega, hasZ_iff.2 (zAt_take q)⟩
    rw [bs_data, bs_size, hl]
    have := all_zers hz
    rw [List.length_drop] at this
    rw [← this, List.take_append_drop]
  · simp at h
theorem untext_of {t : ByteArray} {n : Nat} (hz : hasZ t = false) : untextR (bs (t.data.toList ++ zers n)) = (t, 0) := by
  unfold untextR
  rw [bs_data, zAt_app _ _ (hasZ_iff.1 hz) (zers_all n)]
  have e : (t.data.toList ++ zers n).drop t.data.toList.length = zers n := List.drop_left
  rw [e, if_pos (zers_all n), bs_extract]
  have e2 : cutB (t.data.toList ++ zers n) 0 t.data.toList.length = t.data.toList := by unfold cutB; simp
  rw [e2, bs_eq]
/-- zero bytes alone are an empty text. -/
theorem rest_iff {r : List UInt8} : r.all (· == 0) = true ↔ (untextR (bs r)).2 = 0 ∧ (untextR (bs r)).1 = ⟨#[]⟩ := by
  constructor
  · intro h
    have := untext_of (t := ⟨#[]⟩) (n := r.length) (by decide)
    have e : (ByteArray.mk #[]).data.toList ++ zers r.length = r := by rw [← all_zers h]; rfl
    rw [e] at this
    rw [this]; exact ⟨rfl, rfl⟩
  · rintro ⟨h, h2⟩
    have := (untext_ok h).1
    rw [h2] at this
    rw [this]
    exact zers_all _

def num2 (p : List UInt8) : Int := ((p.getD 0 0).toNat : Int) + 256 * ((p.getD 1 0).toNat : Int)
theorem num2_bd (p : List UInt8) : 0 ≤ num2 p ∧ num2 p ≤ 65535 := by
  unfold num2
  have h1 := (p.getD 0 0).toNat_lt
  have h2 := (p.getD 1 0).toNat_lt
  omega
theorem byte2_num {p : List UInt8} (h : 2 ≤ p.length) : byte2 (num2 p) = p.take 2 := by
  match p, h with
  | a :: b :: r, _ =>
    have h1 := a.toNat_lt
    have h2 := b.toNat_lt
    unfold num2 byte2
    simp only [List.getD_cons_zero, List.getD_cons_succ, List.take_succ_cons, List.take_zero]
    have e1 : ((((a.toNat : Int) + 256 * (b.toNat : Int)) % 256)).toNat = a.toNat := by omega
    have e2 : ((((a.toNat : Int) + 256 * (b.toNat : Int)) / 256 % 256)).toNat = b.toNat := by omega
    rw [e1, e2]
    simp
theorem num2_byte {v : Int} {r : List UInt8} (h0 : 0 ≤ v) (h1 : v ≤ 65535) : num2 (byte2 v ++ r) = v := by
  unfold num2 byte2
  simp only [List.cons_append, List.getD_cons_zero, List.getD_cons_succ]
  have e1 : ((UInt8.ofNat (v % 256).toNat).toNat : Int) = v % 256 := by simp [UInt8.toNat_ofNat']; omega
  have e2 : ((UInt8.ofNat (v / 256 % 256).toNat).toNat : Int) = v / 256 % 256 := by simp [UInt8.toNat_ofNat']; omega
  rw [e1, e2]
  omega
theorem read2 {p : List UInt8} (h : 2 ≤ p.length) : readR [2] (bytesOf (bs p)) = ([num2 p], 0) := by
  rw [readR_ok (by decide) (by rw [bytesOf_len, bs_size]; simp [sumTo]; omega)]
  match p, h with
  | a :: b :: r, _ =>
    simp [readTo, sumTo, decF, bytesOf, bs_data, num2]


/-! ### the block of a page -/
theorem right_nz {s : ByteArray} (h : rightB s = true) : s.size ≤ 11 ∧ hasZ s = false := by
  have hl := rightL_len h
  rw [data_len] at hl
  refine ⟨hl.2, hasZ_iff.2 fun b hb e => ?_⟩
  unfold rightB rightL at h
  simp only [Bool.and_eq_true, List.all_eq_true] at h
  have := h.1.1.1.1 b hb
  rw [e] at this
  exact absurd this (by decide)
theorem good_okS {e : En} (h : goodB e = true) : e.okS := by
  unfold goodB at h
  rw [Bool.and_eq_true] at h
  have := nodeB_iff.1 h.1
  exact ⟨by omega, this.2, (right_nz h.2).1, (right_nz h.2).2⟩
def bytesE (l : List En) : List UInt8 := l.flatMap entL
theorem bytesE_snoc (l : List En) (e : En) : bytesE (l ++ [e]) = bytesE l ++ entL e := by unfold bytesE; simp
theorem bytesE_len {l : List En} (h : ∀ e ∈ l, e.nm.size ≤ 11) : (bytesE l).length = 13 * l.length := by
  induction l with
  | nil => rfl
  | cons e l ih =>
    have := ih (fun x hx => h x (by simp [hx]))
    unfold bytesE at this ⊢
    rw [List.flatMap_cons, List.length_append, ent_len (h e (by simp)), this]; simp; omega
theorem bytesE_drop : ∀ {l : List En} (_ : ∀ e ∈ l, e.nm.size ≤ 11) (k : Nat), (bytesE l).drop (13 * k) = bytesE (l.drop k)
  | l, h, 0 => rfl
  | [], h, k + 1 => by simp [bytesE]
  | e :: l, h, k + 1 => by
    have ih := bytesE_drop (l := l) (fun x hx => h x (by simp [hx])) k
    have hs := ent_len (h e (by simp))
    rw [List.drop_succ_cons, ← ih]
    unfold bytesE
    rw [List.flatMap_cons, show 13 * (k + 1) = 13 + 13 * k by omega, ← List.drop_drop, List.drop_left' hs]
/-- the bytes of a page of n entries, behind those of l. -/
def pageL (n : Nat) (l : List En) : List UInt8 := UInt8.ofNat n :: bytesE l
theorem pageL_len {n : Nat} {l : List En} (h : ∀ e ∈ l, e.nm.size ≤ 11) : (pageL n l).length = 1 + 13 * l.length := by
  unfold pageL; rw [List.length_cons, bytesE_len h]; omega
def blkL (l : List En) : List UInt8 := pageL l.length l ++ zers (128 - (1 + 13 * l.length))
def blkP (l : List En) : ByteArray := bs (blkL l)
theorem blk_size {l : List En} (h : ∀ e ∈ l, e.nm.size ≤ 11) (h9 : l.length ≤ 9) : (blkP l).size = 128 := by
  show (blkL l).length = 128
  unfold blkL zers
  rw [List.length_append, pageL_len h, List.length_replicate]; omega
theorem blk_pad {l : List En} (h : ∀ e ∈ l, e.nm.size ≤ 11) (h9 : l.length ≤ 9) : padR (bs (pageL l.length l)) 128 = (blkP l, 0) := by
  have hs : (bs (pageL l.length l)).size = 1 + 13 * l.length := by rw [bs_size]; exact pageL_len h
  rw [padR_ok (by omega) (by rw [hs]; omega)]
  unfold padS
  rw [hs]
  rfl

/-! ### the page of a block -/
def cnt (b : ByteArray) : Nat := (b.data.toList.getD 0 0).toNat
def entAt (b : ByteArray) (k : Nat) : Option En :=
  if (untextR (b.extract (1 + 13 * k) (12 + 13 * k))).2 = 0 then some ⟨(untextR (b.extract (1 + 13 * k) (12 + 13 * k))).1, num2 (b.data.toList.drop (12 + 13 * k))⟩ else none
def entsTo (b : ByteArray) : Nat → Option (List En)
  | 0 => some []
  | k + 1 => (entsTo b k).bind fun l => (entAt b k).map fun e => l ++ [e]
theorem entsTo_next {b : ByteArray} {k : Nat} {l : List En} {e : En} (h : entsTo b k = some l) (he : entAt b k = some e) : entsTo b (k + 1) = some (l ++ [e]) := by
  show (entsTo b k).bind _ = _
  rw [h, he]; rfl
theorem entsTo_no {b : ByteArray} {k : Nat} (he : entAt b k = none) : ∀ n, k < n → entsTo b n = none
  | n + 1, h => by
    show (entsTo b n).bind _ = _
    rcases Nat.lt_or_ge k n with h1 | h1
    · rw [entsTo_no he n h1]; rfl
    · obtain rfl : k = n := by omega
      cases hh : entsTo b k with
      | none => rfl
      | some l => simp [he]
theorem entsTo_len {b : ByteArray} : ∀ (n : Nat) {l : List En}, entsTo b n = some l → l.length = n
  | 0, l, h => by injection h with h; rw [← h]; rfl
  | n + 1, l, h => by
    have h2 : (entsTo b n).bind (fun l => (entAt b n).map fun e => l ++ [e]) = some l := h
    cases hh : entsTo b n with
    | none => rw [hh] at h2; cases h2
    | some l' =>
      rw [hh] at h2
      cases he : entAt b n with
      | none => rw [he] at h2; cases h2
      | some e =>
        rw [he] at h2
        injection h2 with h2
        rw [← h2, List.length_append, entsTo_len n hh]; rfl
/-- what the program sees in a block; what the reference sees in it. -/
def unb (b : ByteArray) : Option (List En) := if 1 ≤ b.size ∧ 1 + 13 * cnt b ≤ b.size then entsTo b (cnt b) else none
def refb (b : ByteArray) : Option (List En) := if b.size = 128 ∧ cnt b ≤ 9 then entsTo b (cnt b) else none
theorem unb_ref {b : ByteArray} (h : b.size = 128) (h9 : cnt b ≤ 9) : unb b = refb b := by
  unfold unb refb
  rw [if_pos (by omega), if_pos ⟨h, h9⟩]
theorem unb_len {b : ByteArray} {l : List En} (h : unb b = some l) : l.length = cnt b := by
  unfold unb at h
  split at h
  · exact entsTo_len _ h
  · cases h
theorem ref_len {b : ByteArray} {l : List En} (h : refb b = some l) : l.length ≤ 9 := by
  unfold refb at h
  split at h
  · rename_i h1; rw [entsTo_len _ h]; exact h1.2
  · cases h
theorem cnt_le (b : ByteArray) : cnt b ≤ 255 := by
  have := (b.data.toList.getD 0 0).toNat_lt
  unfold cnt; omega

theorem blk_drop {l : List En} (h : ∀ e ∈ l, e.okS) {k : Nat} (hk : k < l.length) : ∃ r, (blkP l).data.toList.drop (1 + 13 * k) = nameL (l.getD k En.z).nm ++ (byte2 (l.getD k En.z).nd ++ r) := by
  refine ⟨bytesE (l.drop (k + 1)) ++ zers (128 - (1 + 13 * l.length)), ?_⟩
  have hm : ∀ e ∈ l, e.nm.size ≤ 11 := fun e he => (h e he).len
  have hl := bytesE_len hm
  show (blkL l).drop (1 + 13 * k) = _
  unfold blkL pageL
  rw [List.cons_append, show 1 + 13 * k = 13 * k + 1 by omega, List.drop_succ_cons, List.drop_append_of_le_length (by rw [hl]; omega), bytesE_drop hm]
  have e : l.drop k = l.getD k En.z :: l.drop (k + 1) := by rw [getD_lt hk, List.getElem_cons_drop]
  rw [e]
  unfold bytesE entL
  rw [List.flatMap_cons]
  simp only [List.append_assoc]
theorem ext_bs (b : ByteArray) (f i : Nat) : b.extract f i = bs ((b.data.toList.drop f).take (i - f)) := by
  have := bs_extract b.data.toList f i
  rw [bs_eq] at this
  exact this
theorem ent_blk {l : List En} (h : ∀ e ∈ l, e.okS) {k : Nat} (hk : k < l.length) : entAt (blkP l) k = some (l.getD k En.z) := by
  obtain ⟨r, hr⟩ := blk_drop h hk
  have ho : (l.getD k En.z).okS := by rw [getD_lt hk]; exact h _ (List.getElem_mem _)
  generalize l.getD k En.z = x at *
  have hn := name_len ho.len
  have h2 : (blkP l).data.toList.drop (12 + 13 * k) = byte2 x.nd ++ r := by
    rw [show 12 + 13 * k = (1 + 13 * k) + 11 by omega, ← List.drop_drop, hr, List.drop_left' hn]
  have h3 : (blkP l).extract (1 + 13 * k) (12 + 13 * k) = bs (nameL x.nm) := by
    rw [ext_bs, hr, show 12 + 13 * k - (1 + 13 * k) = 11 by omega, List.take_left' hn]
  unfold entAt
  rw [h3, h2, num2_byte ho.lo ho.hi]
  unfold nameL
  rw [untext_of ho.nz, if_pos rfl]
theorem cnt_blk {l : List En} (h9 : l.length ≤ 9) : cnt (blkP l) = l.length := by
  show (UInt8.ofNat l.length).toNat = _
  rw [UInt8.toNat_ofNat']; omega
theorem ref_blk {l : List En} (h : ∀ e ∈ l, e.okS) (h9 : l.length ≤ 9) : refb (blkP l) = some l := by
  have hm : ∀ e ∈ l, e.nm.size ≤ 11 := fun e he => (h e he).len
  unfold refb
  rw [cnt_blk h9, if_pos ⟨blk_size hm h9, h9⟩]
  have key : ∀ k, k ≤ l.length → entsTo (blkP l) k = some (l.take k) := by
    intro k
    induction k with
    | zero => intro _; rw [List.take_zero]; rfl
    | succ k ih =>
      intro hk
      rw [entsTo_next (ih (by omega)) (ent_blk h hk), take_snoc l hk]
  rw [key _ (Nat.le_refl _), List.take_length]

/-! ### pages and blocks -/
def pgs (u : ByteArray → Option (List En)) (bl : List ByteArray) : Pg := bl.map fun b => (u b).getD []
def okAll (u : ByteArray → Option (List En)) (bl : List ByteArray) : Bool := bl.all fun b => (u b).isSome
def rd (u : ByteArray → Option (List En)) (bl : List ByteArray) : Pg × Int :=
  if okAll u bl = true ∧ rightP (pgs u bl) = true ∧ (pgs u bl).map blkP = bl then (pgs u bl, 0) else ([], 15)
def writeP (p : Pg) : List ByteArray × Int := if rightP p = true then (p.map blkP, 0) else ([], 1)
theorem writeP_yes {p : Pg} (h : rightP p = true) : writeP p = (p.map blkP, 0) := by unfold writeP; rw [if_pos h]
theorem writeP_no {p : Pg} (h : rightP p = false) : writeP p = ([], 1) := by unfold writeP; rw [if_neg]; simp [h]
theorem page_okS {p : Pg} (h : rightP p = true) {l : List En} (hl : l ∈ p) : (∀ e ∈ l, e.okS) ∧ l.length ≤ 9 ∧ 1 ≤ l.length :=
  ⟨fun e he => good_okS (right_good h e (List.mem_flatten.2 ⟨l, hl, he⟩)), ((rightP_iff.1 h).1 l hl).2, ((rightP_iff.1 h).1 l hl).1⟩
theorem rd_eq (bl : List ByteArray) : rd unb bl = rd refb bl := by
  by_cases hr : okAll refb bl = true
  · have e : ∀ b ∈ bl, unb b = refb b := fun b hb => by
      have := List.all_eq_true.1 hr b hb
      obtain ⟨l, hl⟩ := Option.isSome_iff_exists.1 this
      unfold refb at hl
      split at hl
      · rename_i h; exact unb_ref h.1 h.2
      · cases hl
    have e1 : pgs unb bl = pgs refb bl := List.map_congr_left fun b hb => by rw [e b hb]
    have e2 : okAll unb bl = true := by
      rw [okAll, List.all_eq_true]
      intro b hb
      rw [e b hb]; exact List.all_eq_true.1 hr b hb
    unfold rd
    rw [e1, e2, hr]
  · have h2 : rd refb bl = ([], 15) := by unfold rd; rw [if_neg (fun h => hr h.1)]
    rw [h2]
    unfold rd
    rw [if_neg]
    rintro ⟨h1, h3, h4⟩
    apply hr
    rw [okAll, List.all_eq_true]
    intro b hb
    obtain ⟨k, hk, rfl⟩ := List.getElem_of_mem hb
    have hk2 : k < (pgs unb bl).length := by unfold pgs; rw [List.length_map]; exact hk
    have e1 : (pgs unb bl)[k] = (unb bl[k]).getD [] := by simp only [pgs, List.getElem_map]
    have e2 : blkP ((pgs unb bl)[k]) = bl[k] := by
      have : ((pgs unb bl).map blkP)[k]'(by rw [List.length_map]; exact hk2) = bl[k] := by
        simp only [h4]
      rw [List.getElem_map] at this
      exact this
    have h5 := page_okS h3 (List.getElem_mem hk2)
    obtain ⟨l, hl⟩ := Option.isSome_iff_exists.1 (List.all_eq_true.1 h1 _ hb)
    rw [hl] at e1
    have e1' : (pgs unb bl)[k] = l := e1
    rw [e1'] at e2 h5
    have h6 := ref_blk h5.1 h5.2.1
    rw [e2] at h6
    show (refb bl[k]).isSome = true
    rw [h6]; rfl
theorem rd_write {p : Pg} (h : rightP p = true) : rd refb (p.map blkP) = (p, 0) := by
  have e : pgs refb (p.map blkP) = p := by
    unfold pgs
    rw [List.map_map]
    conv => rhs; rw [← List.map_id p]
    refine List.map_congr_left fun l hl => ?_
    have h1 := page_okS h hl
    show (refb (blkP l)).getD [] = l
    rw [ref_blk h1.1 h1.2.1]; rfl
  have e2 : okAll refb (p.map blkP) = true := by
    rw [okAll, List.all_eq_true]
    intro b hb
    obtain ⟨l, hl, rfl⟩ := List.mem_map.1 hb
    have h1 := page_okS h hl
    rw [ref_blk h1.1 h1.2.1]; rfl
  unfold rd
  rw [e, e2, if_pos ⟨rfl, h, rfl⟩]
theorem rd_back {bl : List ByteArray} (h : (rd refb bl).2 = 0) : writeP (rd refb bl).1 = (bl, 0) := by
  unfold rd at h ⊢
  split at h
  · rename_i hc
    rw [if_pos hc, writeP_yes hc.2.1, hc.2.2]
  · simp at h
theorem rd_err {u : ByteArray → Option (List En)} {bl : List ByteArray} (h : (rd u bl).2 ≠ 0) : (rd u bl).1 = [] := by
  unfold rd at h ⊢
  split at h
  · exact absurd rfl h
  · rename_i hc; rw [if_neg hc]
theorem rd_no {u : ByteArray → Option (List En)} {bl : List ByteArray} {k : Nat} (hk : k < bl.length) (h : u (bl.getD k ⟨#[]⟩) = none) : rd u bl = ([], 15) := by
  unfold rd
  rw [if_neg]
  rintro ⟨h1, -⟩
  have := List.all_eq_true.1 h1 bl[k] (List.getElem_mem hk)
  simp only [List.getD, List.getElem?_eq_getElem hk, Option.getD_some] at h
  rw [h] at this; cases this
theorem rd_all {u : ByteArray → Option (List En)} {bl : List ByteArray} (h : ∀ k, k < bl.length → (u (bl.getD k ⟨#[]⟩)).isSome = true) : okAll u bl = true := by
  rw [okAll, List.all_eq_true]
  intro b hb
  obtain ⟨k, hk, rfl⟩ := List.getElem_of_mem hb
  have := h k hk
  simpa only [List.getD, List.getElem?_eq_getElem hk, Option.getD_some] using this
theorem pgs_snoc (u : ByteArray → Option (List En)) {bl : List ByteArray} {k : Nat} (hk : k < bl.length) {l : List En} (h : u (bl.getD k ⟨#[]⟩) = some l) : pgs u (bl.take (k + 1)) = pgs u (bl.take k) ++ [l] := by
  unfold pgs
  rw [List.take_succ_eq_append_getElem hk, List.map_append]
  simp only [List.getD, List.getElem?_eq_getElem hk, Option.getD_some] at h
  rw [List.map_cons, h]; rfl
theorem pgs_len (u : ByteArray → Option (List En)) (bl : List ByteArray) : (pgs u bl).length = bl.length := by simp [pgs]
end Go.Proofs.Ytflijnhgonigjaa
