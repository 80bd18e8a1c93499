/- Packed from the texts NsA. -/
import Derived.Test.YtoehcholbcchcaaDoorUTextK
import Derived.Test.YtoehcholbcchcaaDoorUkD
import Derived.Lib.CutLaws
import Derived.Lib.IndexLaws
import Derived.Lib.IndexBytes
section
namespace Go.Proofs.YtoehcholbcchcaaDoor
open Go.RowKit
def colB : ByteArray := ⟨#[58]⟩
def xmlB : ByteArray := ⟨#[120, 109, 108]⟩
def xmlnsB : ByteArray := ⟨#[120, 109, 108, 110, 115]⟩
def xmlSp : ByteArray := ⟨#[104, 116, 116, 112, 58, 47, 47, 119, 119, 119, 46, 119, 51, 46, 111, 114, 103, 47, 88, 77, 76, 47, 49, 57, 57, 56, 47, 110, 97, 109, 101, 115, 112, 97, 99, 101]⟩
def splitP (s : ByteArray) : ByteArray × ByteArray × Bool :=
  if Lib.indexB s colB = -1 then (if isNameB s then (noB, s, true) else (noB, noB, false))
  else if isNameB (s.extract 0 (Lib.indexB s colB).toNat) && isNameB (s.extract ((Lib.indexB s colB).toNat + 1) s.size) then (s.extract 0 (Lib.indexB s colB).toNat, s.extract ((Lib.indexB s colB).toNat + 1) s.size, true)
  else (noB, noB, false)
theorem split_hit (s : ByteArray) (i : Nat) (h : Lib.indexB s colB = i) : splitP s = if isNameB (s.extract 0 i) && isNameB (s.extract (i + 1) s.size) then (s.extract 0 i, s.extract (i + 1) s.size, true) else (noB, noB, false) := by
  unfold splitP
  rw [h, if_neg (by omega)]
  simp only [Int.toNat_natCast]
theorem split_miss (s : ByteArray) (h : Lib.indexB s colB = -1) : splitP s = if isNameB s then (noB, s, true) else (noB, noB, false) := by
  unfold splitP
  rw [h, if_pos rfl]
theorem split_size (s : ByteArray) : (splitP s).1.size ≤ s.size ∧ (splitP s).2.1.size ≤ s.size := by
  unfold splitP
  split
  · split
    · exact ⟨Nat.zero_le _, Nat.le_refl _⟩
    · exact ⟨Nat.zero_le _, Nat.zero_le _⟩
  · split
    · exact ⟨by simp only [ByteArray.size_extract]; omega, by simp only [ByteArray.size_extract]; omega⟩
    · exact ⟨Nat.zero_le _, Nat.zero_le _⟩
def declP (nm : ByteArray) : Option ByteArray :=
  if (splitP nm).1 = xmlnsB then some (splitP nm).2.1
  else if (splitP nm).1 = noB ∧ (splitP nm).2.1 = xmlnsB then some noB else none
abbrev Sc := List (ByteArray × ByteArray)
def lookB : Sc → ByteArray → Option ByteArray
  | [], q => if q = noB then some noB else none
  | b :: r, q => if b.1 = q then some b.2 else lookB r q
def lookP (sc : Sc) (q : ByteArray) : Option ByteArray := if q = xmlB then some xmlSp else lookB sc q
def badDecl (d va : ByteArray) : Prop := d = xmlB ∨ d = xmlnsB ∨ (d ≠ noB ∧ va = noB)
instance (d va : ByteArray) : Decidable (badDecl d va) := by unfold badDecl; infer_instance
def declsP : Sc → List AttrD → Sc × Int × Int
  | sc, [] => (sc, 0, 0)
  | sc, a :: r => if (splitP a.nm).2.2 = false then (sc, a.at', 13) else
    match declP a.nm with
    | none => declsP sc r
    | some d => if badDecl d a.va then (sc, a.at', 13) else declsP ((d, a.va) :: sc) r
theorem declsP_app (sc0 : Sc) : ∀ (al : List AttrD) (sc : Sc), declsP (sc ++ sc0) al = ((declsP sc al).1 ++ sc0, (declsP sc al).2)
  | [], _ => rfl
  | a :: r, sc => by
    rw [declsP, declsP]
    split
    · rfl
    · split
      · exact declsP_app sc0 r sc
      · split
        · rfl
        · exact declsP_app sc0 r (_ :: sc)
def spaceA (sc : Sc) (nm : ByteArray) : Option ByteArray := if (splitP nm).1 = noB then some noB else lookP sc (splitP nm).1
def attrsP (sc : Sc) : List AttrD → List AttrD → List AttrD × Int × Int
  | [], acc => (acc, 0, 0)
  | a :: r, acc => match declP a.nm with
    | some _ => attrsP sc r acc
    | none => match spaceA sc a.nm with
      | none => (acc, a.at', 13)
      | some sp => if ∃ x ∈ acc, x.sp = sp ∧ x.nm = (splitP a.nm).2.1 then (acc, a.at', 10) else attrsP sc r (acc ++ [⟨sp, (splitP a.nm).2.1, a.va, a.at'⟩])
mutual
def resP (sc : Sc) : NodeD → NodeD × Int × Int
  | .mk k _ n al kids tx at' =>
    if (splitP n).2.2 = false ∨ (splitP n).1 = xmlnsB then (zeroN, at', 13)
    else if (declsP sc al).2.2 ≠ 0 then (zeroN, (declsP sc al).2.1, (declsP sc al).2.2)
    else match lookP (declsP sc al).1 (splitP n).1 with
    | none => (zeroN, at', 13)
    | some sp =>
      if (attrsP (declsP sc al).1 al []).2.2 ≠ 0 then (zeroN, (attrsP (declsP sc al).1 al []).2.1, (attrsP (declsP sc al).1 al []).2.2)
      else if (resKids (declsP sc al).1 kids).2.2 ≠ 0 then (zeroN, (resKids (declsP sc al).1 kids).2.1, (resKids (declsP sc al).1 kids).2.2)
      else (.mk k sp (splitP n).2.1 (attrsP (declsP sc al).1 al []).1 (resKids (declsP sc al).1 kids).1 tx at', 0, 0)
def resKids (sc : Sc) : List NodeD → List NodeD × Int × Int
  | [] => ([], 0, 0)
  | k :: r =>
    if k.kind = 0 then
      (if (resP sc k).2.2 ≠ 0 then ([], (resP sc k).2.1, (resP sc k).2.2) else if (resKids sc r).2.2 ≠ 0 then ([], (resKids sc r).2.1, (resKids sc r).2.2) else ((resP sc k).1 :: (resKids sc r).1, 0, 0))
    else if (resKids sc r).2.2 ≠ 0 then ([], (resKids sc r).2.1, (resKids sc r).2.2) else (k :: (resKids sc r).1, 0, 0)
end
theorem res_eq (sc : Sc) (n : NodeD) : resP sc n =
    if (splitP n.nm).2.2 = false ∨ (splitP n.nm).1 = xmlnsB then (zeroN, n.at', 13)
    else if (declsP sc n.al).2.2 ≠ 0 then (zeroN, (declsP sc n.al).2.1, (declsP sc n.al).2.2)
    else match lookP (declsP sc n.al).1 (splitP n.nm).1 with
    | none => (zeroN, n.at', 13)
    | some sp =>
      if (attrsP (declsP sc n.al).1 n.al []).2.2 ≠ 0 then (zeroN, (attrsP (declsP sc n.al).1 n.al []).2.1, (attrsP (declsP sc n.al).1 n.al []).2.2)
      else if (resKids (declsP sc n.al).1 n.kids).2.2 ≠ 0 then (zeroN, (resKids (declsP sc n.al).1 n.kids).2.1, (resKids (declsP sc n.al).1 n.kids).2.2)
      else (.mk n.kind sp (splitP n.nm).2.1 (attrsP (declsP sc n.al).1 n.al []).1 (resKids (declsP sc n.al).1 n.kids).1 n.tx n.at', 0, 0) := by
  cases n
  rw [resP]
  rfl
end Go.Proofs.YtoehcholbcchcaaDoor
end
