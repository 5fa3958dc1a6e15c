/- Strings told by their bytes' list; own blocks and rows of bytes. No program is named here. -/
import Derived.Test.YtbnjfahjbemleaaLib
import Derived.WalkKit
import Derived.Handy
import Derived.Laws.IdiomStrings
namespace Go.Proofs.Ytbnjfahjbemleaa
open Go.RowKit

/-- The string of these bytes. -/
def str (l : List UInt8) : ByteArray := ⟨l.toArray⟩
theorem str_data (s : ByteArray) : str s.data.toList = s := by simp [str]
@[go_sem] theorem str_size (l : List UInt8) : (str l).size = l.length := by simp [str, ByteArray.size]
theorem str_mk (a : Array UInt8) : (⟨a⟩ : ByteArray) = str a.toList := by simp [str]
theorem toList_mk (l : List UInt8) : (ByteArray.toList ⟨l.toArray⟩) = l := by
  have h : ∀ (s : ByteArray) (n i : Nat) (r : List UInt8), n = s.size - i → ByteArray.toList.loop s i r = r.reverse ++ s.data.toList.drop i := by
    intro s n
    induction n with
    | zero =>
      intro i r h
      rw [ByteArray.toList.loop, if_neg (by omega)]
      rw [List.drop_eq_nil_of_le (by show s.data.size ≤ i; have : s.data.size = s.size := rfl; omega)]
      simp
    | succ n ih =>
      intro i r h
      have hi : i < s.size := by omega
      rw [ByteArray.toList.loop, if_pos hi, ih (i + 1) _ (by omega)]
      rw [List.drop_eq_getElem_cons (show i < s.data.toList.length from hi)]
      have : s.get! i = s.data.toList[i]'hi := by
        have h2 : i < s.data.size := hi
        show s.data[i]! = _
        simp [getElem!_pos s.data i h2]
      rw [this]
      simp
  have := h ⟨l.toArray⟩ _ 0 [] rfl
  simpa [ByteArray.toList] using this
@[go_sem] theorem str_toList (l : List UInt8) : (str l).toList = l := toList_mk l
theorem str_inj {l m : List UInt8} (h : str l = str m) : l = m := by
  have := congrArg ByteArray.toList h
  rwa [str_toList, str_toList] at this
theorem str_nil : (⟨#[]⟩ : ByteArray) = str [] := rfl

/-- The byte at k, as a number. -/
def byteAt (l : List UInt8) (k : Nat) : Int := ((l.getD k 0).toNat : Int)
theorem byteAt_bound (l : List UInt8) (k : Nat) : 0 ≤ byteAt l k ∧ byteAt l k ≤ 255 := by
  have := (l.getD k 0).toNat_lt
  unfold byteAt; omega

section
variable {P : Program} (w : World)
theorem str_get (l : List UInt8) (k : Nat) (h : k < (str l).size) : (((str l)[k]'h).toNat : Int) = byteAt l k := by
  have h' : k < l.length := by rwa [str_size] at h
  unfold byteAt
  rw [List.getD_eq_getElem?_getD, List.getElem?_eq_getElem h']
  rfl
@[go_sem high] theorem run_index_str (t : TypeId) (l : List UInt8) (k : IntKind) (i : Int) (h : P.underlying t = some .string) :
    (Instr.index t (.string (str l)) (.int k i)).run P w = if 0 ≤ i ∧ i < l.length then .ok (.int .u8 (byteAt l i.toNat)) w else (boundsPanic k i l.length .index).run P w := by
  rw [run_index_string w t (str l) k i h]
  simp only [str_size]
  split <;> rename_i hi
  · rw [str_get]
  · rfl
theorem str_extract (l : List UInt8) (i j : Nat) : (str l).extract i j = str ((l.drop i).take (j - i)) := by
  unfold str
  apply ByteArray.ext
  simp [ByteArray.data_extract, List.extract_eq_take_drop]
@[go_sem high] theorem run_slice_str_from (t : TypeId) (l : List UInt8) (k : IntKind) (i : Int) (h : P.underlying t = some .string) :
    (Instr.slice t (.string (str l)) (some (.int k i)) none none).run P w =
      if 0 ≤ i ∧ i ≤ (l.length : Int) then .ok (.string (str (l.drop i.toNat))) w else ((boundsPanic k i l.length .sliceB : Sem Nat).run P w).andThen fun a w' => .ok (.string ((str l).extract a l.length)) w' := by
  rw [run_slice_string_from_if w t (str l) k i h]
  simp only [str_size, str_extract]
  congr 4
  apply List.take_of_length_le
  simp
@[go_sem high] theorem run_add_str (a b : List UInt8) : (Op.stringOp .add (str a) (str b)).run P w =
    if a.length + b.length > 9223372036854775807 then .halt (.unsupported (.resourceLimit "string concatenation: a sum of the lengths that is no int")) w else .ok (.string (str (a ++ b))) w := by
  have h : str a ++ str b = str (a ++ b) := by unfold str; exact ByteArray.mk_append_mk ..
  rw [run_string_add_if]
  simp only [str_size, h]
/-- string(b), b a slice whose cells are these bytes. -/
theorem run_string_of_bytes (src dst e : TypeId) (a : Addr) (cap : Nat) (l : List UInt8) (hs : P.underlying src = some (.slice e)) (he : P.underlying e = some (.int .u8)) (hd : P.underlying dst = some .string)
    (hc : ∀ j (hj : j < l.length), w.cell? (a.add j) = some (.int .u8 (l[j].toNat : Int))) :
    (convert src dst (.slice (some a) l.length cap)).run P w = .ok (.string (str l)) w := run_convert_bytes_back w src dst e a cap l hs he hd hc
end

/-! ### An error held against nil -/
section
variable {P : Program} (w : World)
@[go_sem] theorem run_neq_iface_nil {ti : TypeId} {ms : Array (String × TypeId)} (tp : TypeId) (v : Value) (hi : P.underlying ti = some (.interface ms)) : (binOp .neq ti (.iface tp v) .nilIface).run P w = .ok (.bool true) w := by
  have h : ∀ d : Nat, (Op.equalIn (d + 1) ti (.iface tp v) .nilIface).run P w = .ok false w := fun d => by simp [Op.equalIn, run_underlying hi]
  simp only [binOp]
  simp [Op.equal, Op.maxDepth, h 9999]
@[go_sem] theorem run_eql_iface_nil {ti : TypeId} {ms : Array (String × TypeId)} (tp : TypeId) (v : Value) (hi : P.underlying ti = some (.interface ms)) : (binOp .eql ti (.iface tp v) .nilIface).run P w = .ok (.bool false) w := by
  have h : ∀ d : Nat, (Op.equalIn (d + 1) ti (.iface tp v) .nilIface).run P w = .ok false w := fun d => by simp [Op.equalIn, run_underlying hi]
  simp only [binOp]
  simp [Op.equal, Op.maxDepth, h 9999]
@[go_sem] theorem run_neq_nil_nil' {ti : TypeId} {ms : Array (String × TypeId)} (hi : P.underlying ti = some (.interface ms)) : (binOp .neq ti .nilIface .nilIface).run P w = .ok (.bool false) w := by
  have h : ∀ d : Nat, (Op.equalIn (d + 1) ti .nilIface .nilIface).run P w = .ok true w := fun d => by simp [Op.equalIn, run_underlying hi]
  simp only [binOp]
  simp [Op.equal, Op.maxDepth, h 9999]
@[go_sem] theorem run_eql_nil_nil' {ti : TypeId} {ms : Array (String × TypeId)} (hi : P.underlying ti = some (.interface ms)) : (binOp .eql ti .nilIface .nilIface).run P w = .ok (.bool true) w := by
  have h : ∀ d : Nat, (Op.equalIn (d + 1) ti .nilIface .nilIface).run P w = .ok true w := fun d => by simp [Op.equalIn, run_underlying hi]
  simp only [binOp]
  simp [Op.equal, Op.maxDepth, h 9999]
end

/-- A byte as a cell. -/
def bcell (c : UInt8) : Value := .int .u8 c.toNat
theorem bcell_ofNat {n : Nat} (h : n < 256) : bcell (UInt8.ofNat n) = .int .u8 n := by
  unfold bcell; rw [UInt8.toNat_ofNat', Nat.mod_eq_of_lt (by omega)]

/-- A slice of the call's own that holds these bytes: T the bytes' type. -/
def OwnB (w : World) (base : Nat) (T : TypeId) (v : Value) (l : List UInt8) : Prop := w.ownsRow base T 1 v l.length (l.map bcell)
theorem OwnB.nil (w : World) (base : Nat) (T : TypeId) : OwnB w base T (.slice none 0 0) [] := World.ownsRow_nil _ _ _ _
theorem OwnB.ofBytes {P : Program} {w : World} {base : Nat} {src dst e : TypeId} {v : Value} {l : List UInt8} (h : OwnB w base e v l) (hs : P.underlying src = some (.slice e)) (he : P.underlying e = some (.int .u8)) (hd : P.underlying dst = some .string) :
    (convert src dst v).run P w = .ok (.string (str l)) w := by
  rcases h.2 with ⟨rfl, h0⟩ | ⟨g, cap, cur, rfl, _, hg, hn, hm, hsz, htake⟩
  · obtain rfl : l = [] := List.eq_nil_of_length_eq_zero h0
    rw [run_convert_bytes_string w src dst e none 0 0 hs he hd]
    simp [Conv.bytesToString, str, go_sem]
    rfl
  · refine run_string_of_bytes w src dst e _ cap l hs he hd fun j hj => ?_
    have := h.cells (g := g) rfl j (bcell l[j]) (by simp [hj])
    exact this
end Go.Proofs.Ytbnjfahjbemleaa
