/- The statement DeviceRemoved, its walk. -/
import Derived.Test.YtgkhnimdlkdaaaaDR
namespace Go.Proofs.Ytgkhnimdlkdaaaa
open Go.RowKit Go.Lib Go.Maps Go.ChangeMaps

def nmOf (o : LogV) : List UInt8 := o.name.data.toList

theorem OfOk.find {ls : List LogV} (h : OfOk ls) {i : Nat} {x : LogV} (hi : ls[i]? = some x) : ofF ls ls.length (nmOf x) = some ⟨x.ds, 0, true⟩ := by
  have hm : x ∈ ls := List.mem_of_getElem? hi
  have hs : (ls.find? fun o => o.name.data.toList == nmOf x).isSome = true := List.find?_isSome.2 ⟨x, hm, by simp [nmOf]⟩
  obtain ⟨y, hy⟩ := Option.isSome_iff_exists.1 hs
  have hp := List.find?_some hy
  have hym := List.mem_of_find?_eq_some hy
  obtain ⟨j, hj⟩ := List.getElem?_of_mem hym
  have he : y.name.data.toList = x.name.data.toList := by
    have : (y.name.data.toList == x.name.data.toList) = true := hp
    exact eq_of_beq this
  have hij : j = i := by
    rcases Nat.lt_trichotomy j i with hlt | heq | hgt
    · exact absurd he (h.nodup hj hi hlt)
    · exact heq
    · exact absurd he.symm (h.nodup hi hj hgt)
  subst hij
  have : y = x := by rw [hj] at hi; injection hi
  subst this
  unfold ofF
  rw [List.take_length]
  have e1 : (ls.find? fun o => o.name.data.toList == nmOf y) = some y := hy
  rw [e1]
  rfl

theorem OfOk.mem {ls : List LogV} (k : List UInt8) : (ofF ls ls.length k).isSome = true ↔ k ∈ ls.map nmOf := by
  unfold ofF
  rw [List.take_length, Option.isSome_map, List.find?_isSome, List.mem_map]
  constructor
  · rintro ⟨o, h1, h2⟩
    exact ⟨o, h1, eq_of_beq h2⟩
  · rintro ⟨o, h1, h2⟩
    exact ⟨o, h1, by rw [← h2]; simp [nmOf]⟩

theorem OfOk.names {ls : List LogV} (h : OfOk ls) : (ls.map nmOf).Nodup := by
  rw [List.nodup_iff_pairwise_ne, List.pairwise_iff_getElem]
  intro i j hi hj hij
  simp only [List.length_map] at hi hj
  rw [List.getElem_map, List.getElem_map]
  exact h.nodup (List.getElem?_eq_getElem hi) (List.getElem?_eq_getElem hj) hij

/-- The device behind a Remove of one of its files. -/
def rmM (room : Int) (ls : List LogV) (x : LogV) : DevM := { room := room, acts := 1, fuse := -1, down := false, files := setF (ofM room ls).files (nmOf x) none, gone := setF (fun _ => none) (nmOf x) (some x.ds) }

theorem remove_of {room : Int} {ls : List LogV} (h : OfOk ls) {i : Nat} {x : LogV} (hi : ls[i]? = some x) : removeM (ofM room ls) (nmOf x) = (rmM room ls x, 0) := by
  have h1 : nameOk (nmOf x) = true := (h.2 i x hi).1
  have h2 : (ofM room ls).files (nmOf x) = some ⟨x.ds, x.ds.length, false⟩ := by
    show (ofF ls ls.length (nmOf x)).map settleF = _
    rw [h.find hi]
    rfl
  have h3 : (ofM room ls).down = false := rfl
  have h4 : (ofM room ls).fuse = -1 := rfl
  unfold removeM
  rw [h3, h4, h1, h2]
  simp [rmM, fuseLess]
  exact ⟨rfl, rfl, rfl⟩

theorem rm_append (room : Int) (ls : List LogV) (x : LogV) (sz used : Nat) (k bs : List UInt8) : (appendM (rmM room ls x) sz used k bs).1.gone = (rmM room ls x).gone := by
  unfold appendM
  split
  · rfl
  · split
    · rfl
    · split
      · rfl
      · split <;> rfl

theorem read_back {m : DevM} {ks : List (ByteArray × Int)} {k d : List UInt8} (hn : nameOk k = true) (hg : m.gone k = some d) : readM (crashM ks m) k = (d, 0) := by
  have h1 : (crashM ks m).down = false := rfl
  have h2 : (crashM ks m).files k = some ⟨d, d.length, false⟩ := by
    show (crashFiles ks m k).map settleF = _
    unfold crashFiles
    rw [hg]
    rfl
  unfold readM
  rw [h1, hn, h2]
  rfl

/-- The device behind a Remove, a Sync and a crash. -/
def rscM (ks : List (ByteArray × Int)) (room : Int) (ls : List LogV) (x : LogV) : DevM := crashM ks (syncM (rmM room ls x)).1

theorem rsync (room : Int) (ls : List LogV) (x : LogV) : (syncM (rmM room ls x)).2 = 0 := rfl

theorem rsc_some (ks : List (ByteArray × Int)) (room : Int) (ls : List LogV) (x : LogV) (k : List UInt8) : ((rscM ks room ls x).files k).isSome = (setF (ofM room ls).files (nmOf x) none k).isSome := by
  show ((crashFiles ks (syncM (rmM room ls x)).1 k).map settleF).isSome = _
  have e1 : crashFiles ks (syncM (rmM room ls x)).1 k = ((setF (ofM room ls).files (nmOf x) none k).map settleF).bind (crashF ks k) := rfl
  rw [e1]
  cases h : setF (ofM room ls).files (nmOf x) none k with
  | none => rfl
  | some f => simp [crashF, settleF]

theorem rsc_read {ks : List (ByteArray × Int)} {room : Int} {ls : List LogV} {x : LogV} (hn : nameOk (nmOf x) = true) : readM (rscM ks room ls x) (nmOf x) = ([], 12) := by
  have h1 : (rscM ks room ls x).down = false := rfl
  have h2 : (rscM ks room ls x).files (nmOf x) = none := by
    have := rsc_some ks room ls x (nmOf x)
    rw [setF_same] at this
    simpa using this
  unfold readM
  rw [h1, hn, h2]
  rfl

theorem rsc_size {S : Prop} {w : World} {own : Owner} {db fb rb : Nat} {D E : DataW Unit} {n : Nat} {ks : List (ByteArray × Int)} {room : Int} {ls : List LogV} {x : LogV} (h : Dev S w own db fb rb D E n (rscM ks room ls x)) (hok : OfOk ls) {i : Nat} (hi : ls[i]? = some x) :
    Maps.size D = ls.length - 1 := by
  have hnd := hok.names
  have hm : nmOf x ∈ ls.map nmOf := List.mem_map_of_mem (List.mem_of_getElem? hi)
  have h1 := (h.size_of ((ls.map nmOf).erase (nmOf x)) (hnd.erase _) (fun k => by
    rw [rsc_some, hnd.mem_erase_iff]
    by_cases e : k = nmOf x
    · subst e; simp [setF_same]
    · rw [setF_other _ _ e]
      have e2 : ((ofM room ls).files k).isSome = (ofF ls ls.length k).isSome := by
        show ((ofF ls ls.length k).map settleF).isSome = _
        simp
      rw [e2, OfOk.mem]
      simp [e])).1
  rw [h1, List.length_erase_of_mem hm, List.length_map]

end Go.Proofs.Ytgkhnimdlkdaaaa
